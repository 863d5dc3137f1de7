import PyProof.Rows.All
import Wide.All
import OpenK.AllK
import Wide.FinOn
import Lean
import PyProof.EqAt
import PyProof.EqKinds
import PyProof.TupleCall
import PySem.Challenge.RW_disposehall_k22_the_first_bad_row_of_a_b
set_option Elab.async false
set_option linter.all false
set_option maxRecDepth 100000
namespace L2
open PySem PySem.Spec PyProof.Rows
abbrev Key:=Sum Int Str
def Zgt:Key->Value->Bool
 | .inl k,v=>Value.isInt k v
 | .inr x,v=>Value.isStrOf x v
def ZtA(w:World):Key->Int
 | .inl k=>hashInt k
 | .inr x=>hashStr w x
theorem YM:∀{k:Key} {v:Value},Zgt k v=true->(∃i t,k=Sum.inl i/\v=Value.int i t)\/(∃x t,k=Sum.inr x/\v=Value.str x t)
 | .inl i,v,h=>by
  obtain⟨t,e⟩:=Value.isInt_shape (k:=i) (v:=v) h;exact .inl ⟨i,t,rfl,e⟩
 | .inr x,v,h=>by
  obtain⟨t,e⟩:=Value.isStrOf_shape (x:=x) (v:=v) h;exact .inr ⟨x,t,rfl,e⟩
theorem ZmE(i:Int)(t:Tok):Zgt (.inl i) (.int i t)=true:=by simp[Zgt,Value.isInt]
theorem ZmF(x:Str)(t:Tok):Zgt (.inr x) (.str x t)=true:=by simp[Zgt,Value.isStrOf]
theorem Zrx(a b:Int):decide ((Sum.inl a:Key)=Sum.inl b)=(a==b):=by
 by_cases e:a=b
 ·subst e;simp
 ·have h:¬(Sum.inl a:Key)=Sum.inl b:=fun q=>e (Sum.inl.inj q);rw[decide_eq_false h];exact(beq_eq_false_iff_ne.mpr e).symm
theorem ZnL(a b:Str):decide ((Sum.inr a:Key)=Sum.inr b)=decide (a=b):=by
 by_cases e:a=b
 ·subst e;simp
 ·have h:¬(Sum.inr a:Key)=Sum.inr b:=fun q=>e (Sum.inr.inj q);rw[decide_eq_false h,decide_eq_false e]
theorem Zry(a:Int)(b:Str):decide ((Sum.inl a:Key)=Sum.inr b)=false:=decide_eq_false (fun q=>nomatch q)
theorem Zrz(a:Str)(b:Int):decide ((Sum.inr a:Key)=Sum.inl b)=false:=decide_eq_false (fun q=>nomatch q)
def Yx(prog:Program)(w:World):PySem.KeyKind prog w Key where
 is:=Zgt
 hash:=ZtA w
 inj:=fun v a b ha hb=>by
  rcases YM ha with ⟨i,t,rfl,rfl⟩|⟨x,t,rfl,rfl⟩
  ·rcases YM hb with ⟨j,u,rfl,e⟩|⟨y,u,rfl,e⟩
   ·injection e with e1 _;rw[e1]
   ·exact nomatch e
  ·rcases YM hb with ⟨j,u,rfl,e⟩|⟨y,u,rfl,e⟩
   ·exact nomatch e
   ·injection e with e1 _;rw[e1]
 byValue:=fun k v h=>by
  rcases YM h with ⟨i,t,rfl,rfl⟩|⟨x,t,rfl,rfl⟩<;>rfl
 pyHash:=fun hv h=>by
  rcases YM hv with ⟨i,t,rfl,rfl⟩|⟨x,t,rfl,rfl⟩
  ·exact wpAny_pyHash_int h
  ·exact wpAny_pyHash_str h
 eqBool:=fun hu hv h=>by
  rcases YM hu with ⟨i,t,rfl,rfl⟩|⟨x,t,rfl,rfl⟩
  ·rcases YM hv with ⟨j,u,rfl,rfl⟩|⟨y,u,rfl,rfl⟩
   ·rw[Zrx] at h;exact wpAny_eqBool_int h
   ·rw[Zry] at h;exact SeqAt.EqAt.int_str i t y u _ _ _ _ h
  ·rcases YM hv with ⟨j,u,rfl,rfl⟩|⟨y,u,rfl,rfl⟩
   ·rw[Zrz] at h;exact SeqAt.EqAt.str_int x t j u _ _ _ _ h
   ·rw[ZnL] at h;exact wpAny_eqBool_str h
 «strs»:=fun k x t v h=>by
  rcases YM h with ⟨i,u,rfl,e⟩|⟨y,u,rfl,e⟩
  ·exact nomatch e
  ·injection e with e1 _
   subst e1;cases v<;>rfl
theorem ZjF(prog:Program)(w:World)(i:Int)(t:Tok):(Yx prog w).is (.inl i) (.int i t)=true:=ZmE i t
theorem ZjG(prog:Program)(w:World)(x:Str)(t:Tok):(Yx prog w).is (.inr x) (.str x t)=true:=ZmF x t
end L2
namespace L2
open PySem PySem.Spec PyProof.Rows
inductive V where
 |non|bl (b:Bool)|int (i:Int)|str (x:Str)|byt (b:Array UInt8)|flt (b:UInt64)|ref (a:Addr)|ty (n:String)
 deriving DecidableEq
def Ye:V->Value->Prop
 | .non,u=>u=Value.none
 | .bl b,u=>u=Value.bool b
 | .int i,u=>∃t,u=Value.int i t
 | .str x,u=>∃t,u=Value.str x t
 | .byt b,u=>∃t,u=Value.bytes b t
 | .flt b,u=>∃t,u=Value.float b t
 | .ref a,u=>u=Value.ref a
 | .ty n,u=>u=Value.type n
abbrev Yc:List V->List Value->Prop:=Paired Ye
theorem Yc.length{xs:List V}{us:List Value}(r:Yc xs us):xs.length=us.length:=Paired.length r
theorem Yc.get:∀{xs:List V} {us:List Value} {i:Nat} {x:V},Yc xs us->xs[i]? =some x->∃u,us[i]? =some u/\Ye x u
 |_,_,_,_,.nil,e=>by simp at e
 |_,_,0,_,.cons r _,e=>by simp at e;subst e;exact⟨_,rfl,r⟩
 |_,_,i+1,x,.cons _ t,e=>by
  obtain⟨u,h1,h2⟩:=Yc.get (i:=i) (x:=x) t (by simpa using e);exact⟨u,by simpa using h1,h2⟩
theorem Yc.append:∀{xs ys:List V} {us ws:List Value},Yc xs us->Yc ys ws->Yc (xs++ys) (us++ws)
 |_,_,_,_,.nil,s=>s
 |_,_,_,_,.cons r t,s=> .cons r (Yc.append t s)
theorem Yc.take:∀{xs:List V} {us:List Value} (n:Nat),Yc xs us->Yc (xs.take n) (us.take n)
 |_,_,0,_=> .nil
 |_,_,_+1,.nil=> .nil
 |_,_,n+1,.cons r t=> .cons r (Yc.take n t)
theorem Yc.drop:∀{xs:List V} {us:List Value} (n:Nat),Yc xs us->Yc (xs.drop n) (us.drop n)
 |_,_,0,r=>r
 |_,_,_+1,.nil=> .nil
 |_,_,n+1,.cons _ t=>Yc.drop n t
def Zcd:Option V->Option Value->Prop
 |some v,some u=>Ye v u
 |none,none=>True
 |_,_=>False
def KV{κ:Type}:List (κ×V)->List (κ×Value)->Prop:=Paired fun(p:κ×V) (q:κ×Value)=>p.1=q.1/\Ye p.2 q.2
def kV:Key->V
 | .inl i=> .int i
 | .inr x=> .str x
inductive HO where
 |lst (xs:List V)
 |tup (xs:List V)
 |dK (kvs:List (Key×V))|dT (kvs:List (List Key×V))
 |set (S:Int->Bool) (n:Nat)
 |ins (C dx:Addr) (fs:List (Str×V))
 |own (x:Addr)
 |xd (fs:List (Str×V))
 |met (f x:Addr)
 |rng (lo hi:Int)
 |frz (o:Obj) (u:HO)
 |tbl (ps:Array Value)
 |ext (φ:Heap->Prop)
abbrev Hp:=Addr->Option HO
def upd(H:Hp)(a:Addr)(o:HO):Hp:=fun b=>if b=a then some o else H b
theorem Zc{H:Hp}{a:Addr}{o:HO}:upd H a o a=some o:=by unfold upd;rw[if_pos rfl]
theorem Zr{H:Hp}{a b:Addr}{o:HO}(h:b≠a):upd H a o b=H b:=by unfold upd;rw[if_neg h]
theorem Xv{H:Hp}{a:Addr}{o u:HO}:upd (upd H a o) a u=upd H a u:=by
 funext b;unfold upd;split<;>rfl
theorem ZfE{H:Hp}{a b:Addr}{o u:HO}(h:H a=some o)(h':H b=some u)(d:o≠u):a≠b:=by
 intro e;subst e;rw[h] at h';exact d (Option.some.inj h')
theorem ZC{H:Hp}{a b:Addr}{o:HO}(h:H a=some o)(h':H b=none):a≠b:=by
 intro e;subst e;rw[h] at h';cases h'
section
variable (P:Program) (w:World)
def YD(H:Hp)(h:Heap)(a:Addr):HO->Prop
 | .lst xs=>xs.length<=sizeLine/\∃(its:List Value) (n:Nat),Yc xs its/\h.get? a=some {cls:=.type "list",data:=.seq its.toArray n}
 | .tup xs=>xs.length<=sizeLine/\∃its:List Value,Yc xs its/\IsTup h a its.toArray
 | .dK kvs=>kvs.length<=sizeLine/\(a==sysModules)=false/\∃vs,KV kvs vs/\h.DictOf (Yx P w) a vs
 | .dT kvs=>kvs.length<=sizeLine/\(a==sysModules)=false/\∃xs:List (List Key×Addr×Value),
   Paired (fun(p:List Key×V) (q:List Key×Addr×Value)=>p.1=q.1/\H q.2.1=some (.tup (p.1.map kV))/\Ye p.2 q.2.2) kvs xs/\
   ∃o es ep,h.get? a=some o/\o.ExactDict/\o.data=.dict es ep/\es.toList=xs.map (entryOfKey (tupleKind (Yx P w)))/\(xs.map (·.1)).Nodup
 | .set S n=>h.SetOf (intKind P w) a S n
 | .ins C dx fs=>H dx=some (.own a)/\fs.length<=1000/\dx≠a/\h.get? a=some (PySem.W.instObj C dx)/\
   ∃mA,h.Ns1 dx mA/\(∀f,Zcd (fs.lookup f) (mA f))/\PySem.Within mA (fs.map (·.1))
 | .own _=>∃o,h.get? a=some o
 | .xd fs=>∃mA,h.Ns1 a mA/\∀f,Zcd (fs.lookup f) (mA f)
 | .rng lo hi=>∃t u v,h.get? a=some {cls:=.type "range",data:=.fields #[.int lo t,.int hi u,.int 1 v]}
 | .frz o u=>h.get? a=some o/\YD H h a u
 | .tbl ps=>h.get? a=some {cls:=.none,data:=.fields ps}
 | .met f x=>h.get? a=some (PySem.W.methodObj (.ref f) (.ref x))
 | .ext φ=>φ h/\(∃o,h.get? a=some o)/\∀h1 h2:Heap,φ h1->(∀o,h1.get? a=some o->h2.get? a=some o)->φ h2
def HOk(H:Hp)(h:Heap):Prop:=∀a o,H a=some o->YD P w H h a o
end
section
variable {P:Program} {w:World} {H H':Hp} {h h':Heap} {a:Addr} {o:HO}
theorem YD.lt(x:YD P w H h a o):a<h.objs.size:=by
 cases o with
 |lst xs=>obtain⟨_,_,_,_,e⟩:=x;exact Heap.lt_size e
 |tup xs=>obtain⟨_,_,_,p⟩:=x;exact p.lt
 |dK kvs=>obtain⟨_,_,_,_,o,_,_,e,_⟩:=x;exact Heap.lt_size e
 |dT kvs=>obtain⟨_,_,_,_,o,_,_,e,_⟩:=x;exact Heap.lt_size e
 |set S n=>obtain⟨o,_,_,_,e,_⟩:=x;exact Heap.lt_size e
 |ins C dx fs=>obtain⟨_,_,_,e,_⟩:=x;exact Heap.lt_size e
 |own y=>obtain⟨_,e⟩:=x;exact Heap.lt_size e
 |xd fs=>obtain⟨_,⟨_,_,_,e,_⟩,_⟩:=x;exact Heap.lt_size e
 |rng lo hi=>obtain⟨_,_,_,e⟩:=x;exact Heap.lt_size e
 |frz ob u=>obtain⟨e,_⟩:=x;exact Heap.lt_size e
 |tbl ps=>exact Heap.lt_size (show h.get? a=some _ from x)
 |met f y=>exact Heap.lt_size (show h.get? a=some _ from x)
 |ext φ=>obtain⟨_,⟨_,e⟩,_⟩:=x;exact Heap.lt_size e
theorem Paired.mapP{α β:Type}{F G:α->β->Prop}:∀{l₁:List α} {l₂:List β},Paired F l₁ l₂->(∀a b,F a b->G a b)->Paired G l₁ l₂
 |_,_,.nil,_=> .nil
 |_,_,.cons r t,f=> .cons (f _ _ r) (Paired.mapP t f)
theorem Paired.imp'{α β:Type}{F G:α->β->Prop}(f:∀a b,F a b->G a b){l₁:List α}{l₂:List β}(r:Paired F l₁ l₂):Paired G l₁ l₂:=Paired.mapP r f
theorem YD.stay(x:YD P w H h a o)(k:∀b u,(b=a\/H b=some (.own a))->h.get? b=some u->h'.get? b=some u)
  (ho:∀b,H b=some (.own a)->H' b=some (.own a))(ht:∀b xs,H b=some (.tup xs)->H' b=some (.tup xs)):YD P w H' h' a o:=by
 induction o with
 |lst xs=>obtain⟨z,its,n,r,e⟩:=x;exact⟨z,its,n,r,k _ _ (.inl rfl) e⟩
 |tup xs=>obtain⟨z,its,r,ob,e,c⟩:=x;exact⟨z,its,r,ob,k _ _ (.inl rfl) e,c⟩
 |dK kvs=>obtain⟨z,y,vs,r,ob,es,ep,e,c⟩:=x;exact⟨z,y,vs,r,ob,es,ep,k _ _ (.inl rfl) e,c⟩
 |dT kvs=>
  obtain⟨z,y,xs,r,ob,es,ep,e,c⟩:=x;exact⟨z,y,xs,Paired.mapP r fun p q z=>⟨z.1,ht _ _ z.2.1,z.2.2⟩,ob,es,ep,k _ _ (.inl rfl) e,c⟩
 |set S n=>obtain⟨ob,es,ep,t,e,c⟩:=x;exact⟨ob,es,ep,t,k _ _ (.inl rfl) e,c⟩
 |ins C dx fs=>
  obtain⟨d,z,ne,e,mA,⟨od,es,ep,e2,c⟩,r⟩:=x;exact⟨ho _ d,z,ne,k _ _ (.inl rfl) e,mA,⟨od,es,ep,k _ _ (.inr d) e2,c⟩,r⟩
 |own y=>obtain⟨ob,e⟩:=x;exact⟨ob,k _ _ (.inl rfl) e⟩
 |xd fs=>obtain⟨mA,⟨od,es,ep,e,c⟩,r⟩:=x;exact⟨mA,⟨od,es,ep,k _ _ (.inl rfl) e,c⟩,r⟩
 |rng lo hi=>obtain⟨t,u,v,e⟩:=x;exact⟨t,u,v,k _ _ (.inl rfl) e⟩
 |frz ob u ih=>obtain⟨e,q⟩:=x;exact⟨k _ _ (.inl rfl) e,ih q⟩
 |tbl ps=>
  have e:h.get? a=some {cls:=.none,data:=.fields ps}:=x;show h'.get? a=some {cls:=.none,data:=.fields ps};exact k a _ (.inl rfl) e
 |met f y=>
  have e:h.get? a=some (PySem.W.methodObj (.ref f) (.ref y)):=x;show h'.get? a=some (PySem.W.methodObj (.ref f) (.ref y));exact k a _ (.inl rfl) e
 |ext φ=>obtain⟨p,⟨o,e⟩,st⟩:=x;exact⟨st _ _ p fun o q=>k _ _ (.inl rfl) q,⟨o,k _ _ (.inl rfl) e⟩,st⟩
theorem HOk.lt(x:HOk P w H h)(e:H a=some o):a<h.objs.size:=(x a o e).lt
theorem HOk.fresh(x:HOk P w H h)(e:h.objs.size<=a):H a=none:=by
 cases q:H a with
 |none=>rfl
 |some u=>exact absurd (Nat.lt_of_lt_of_le (x.lt q) e) (Nat.lt_irrefl _)
theorem HOk.kept(x:HOk P w H h)(k:∀b u,h.get? b=some u->h'.get? b=some u):HOk P w H h':=fun a o e=>
 (x a o e).stay (fun b u _ q=>k b u q) (fun _ q=>q) fun _ _ q=>q
theorem HOk.laid(x:HOk P w H h)(k:∀b u,h.get? b=some u->h'.get? b=some u)(hp:h.objs.size<=a)(new:YD P w (upd H a o) h' a o):HOk P w (upd H a o) h':=fun b u e=>by
 have hn:=x.fresh hp
 by_cases hb:b=a
 ·subst hb;rw[Zc] at e;cases e;exact new
 ·rw[Zr hb] at e
  exact(x b u e).stay (fun c v _ q=>k c v q) (fun c q=>by rw[Zr (ZC q hn)];exact q) fun c xs q=>by rw[Zr (ZC q hn)];exact q
end
def Rd(H:Hp)(a:Addr)(u:HO):Prop:=H a=some u\/∃o,H a=some (.frz o u)
theorem Rd.ok{P:Program}{w:World}{H:Hp}{h:Heap}{a:Addr}{u:HO}(r:Rd H a u)(x:HOk P w H h):YD P w H h a u:=by
 rcases r with r|⟨o,r⟩
 ·exact x a u r
 ·obtain⟨_,q⟩:=x a _ r;exact q
def Mut:Option HO->Prop
 |some (.lst _)=>True
 |some (.dK _)=>True
 |some (.dT _)=>True
 |some (.set _ _)=>True
 |some (.ins _ _ _)=>True
 |some (.ext _)=>True
 |_=>False
section
variable {P:Program} {w:World} {H:Hp} {h h':Heap} {x e:Addr} {o':HO}
theorem HOk.write(ok:HOk P w H h)(mu:Mut (H x))(he:e=x\/H e=some (.own x))(k:∀b u,b≠e->h.get? b=some u->h'.get? b=some u)(heo:∃u,h'.get? e=some u)
  (new:YD P w (upd H x o') h' x o'):HOk P w (upd H x o') h':=fun b u q=>by
 have nown:∀c y,H c=some (.own y)->c≠x:=fun c y r z=>by subst z;rw[r] at mu;exact mu
 have ntup:∀c xs,H c=some (.tup xs)->c≠x:=fun c xs r z=>by subst z;rw[r] at mu;exact mu
 by_cases hb:b=x
 ·subst hb;rw[Zc] at q;cases q;exact new
 ·rw[Zr hb] at q
  by_cases hbe:b=e
  ·have q':H b=some (.own x):=by
    rcases he with z|z
    ·exact absurd (hbe.trans z) hb
    ·rw[hbe];exact z
   rw[q] at q';cases q'
   obtain⟨v,hv⟩:=heo;exact⟨v,by rw[hbe];exact hv⟩
  ·refine(ok b u q).stay (fun c v hc r=>k c v ?_ r) (fun c r=>by rw[Zr (nown c b r)];exact r) fun c xs r=>by rw[Zr (ntup c xs r)];exact r
   rcases hc with rfl|hc
   ·exact hbe
   ·rintro rfl;rcases he with z|z
    ·exact nown c b hc z
    ·rw[hc] at z;cases z;exact hb rfl
end
structure Un (fs ex:List Addr) (H H':Hp) (h h':Heap):Prop where
 keep:∀b o,h.get? b=some o->H b=none->b∉fs->b∉ex->h'.get? b=some o
 slot:∀b o,h.get? b=some o->H b=none->b∈fs->b∉ex->∃sl,h'.get? b=some {o with slots:=sl}
 free:∀b o,h.get? b=some o->H b=none->b∉ex->H' b=none
 there:∀b o,h.get? b=some o->b∉ex->∃o',h'.get? b=some o'
 tups:∀b xs,H b=some (.tup xs)->H' b=some (.tup xs)
 frzs:∀b o u,H b=some (.frz o u)->H' b=some (.frz o u)
 tbls:∀b ps,H b=some (.tbl ps)->∃more,H' b=some (.tbl (ps++more))
section
variable {fs fs' ex ex':List Addr} {H H1 H2:Hp} {h h1 h2 h':Heap} {a x e:Addr} {o:HO}
theorem Un.any(u:Un fs ex H H1 h h1){b:Addr}{ob:Obj}(q:h.get? b=some ob)(n:H b=none)(hx:b∉ex):∃sl,h1.get? b=some {ob with slots:=sl}:=by
 by_cases hb:b∈fs
 ·exact u.slot b ob q n hb hx
 ·exact⟨ob.slots,u.keep b ob q n hb hx⟩
theorem Un.kept(k:∀b u,h.get? b=some u->h'.get? b=some u):Un fs ex H H h h':=
 ⟨fun b ob q _ _ _=>k b ob q,fun b ob q _ _ _=>⟨ob.slots,k b ob q⟩,fun _ _ _ n _=>n,fun b ob q _=>⟨ob,k b ob q⟩,fun _ _ q=>q,fun _ _ _ q=>q,fun _ ps q=>⟨#[],by rw[q];simp⟩⟩
theorem Un.refl:Un fs ex H H h h:=Un.kept fun _ _ q=>q
theorem Un.laid(k:∀b u,h.get? b=some u->h'.get? b=some u)(hp:h.objs.size<=a)(hn:H a=none):Un fs ex H (upd H a o) h h' where
 keep:=fun b u q _ _ _=>k b u q
 slot:=fun b u q _ _ _=>⟨u.slots,k b u q⟩
 free:=fun b u q n _=>by rw[Zr (Nat.ne_of_lt (Nat.lt_of_lt_of_le (Heap.lt_size q) hp))];exact n
 there:=fun b u q _=>⟨u,k b u q⟩
 tups:=fun b xs q=>by rw[Zr (ZC q hn)];exact q
 frzs:=fun b u xs q=>by rw[Zr (ZC q hn)];exact q
 tbls:=fun b ps q=>⟨#[],by rw[Zr (ZC q hn),q];simp⟩
theorem Un.write(mu:Mut (H x))(he:e=x\/H e=some (.own x))(k:∀b u,b≠e->h.get? b=some u->h'.get? b=some u)(heo:∃u,h'.get? e=some u):Un fs ex H (upd H x o) h h':=by
 have hx:∀b,H b=none->b≠x:=fun b n z=>by subst z;rw[n] at mu;exact mu
 have hb:∀b,H b=none->b≠e:=fun b n z=>by
  subst z;rcases he with r|r
  ·exact hx b n r
  ·rw[n] at r;cases r
 have hm:∀b u,H b=some u->¬Mut (some u)->b≠x:=fun b u q nm z=>by subst z;rw[q] at mu;exact nm mu
 refine⟨fun b u q n _ _=>k b u (hb b n) q,fun b u q n _ _=>⟨u.slots,k b u (hb b n) q⟩,fun b u q n _=>by rw[Zr (hx b n)];exact n,fun b u q _=> ?_,
  fun b xs q=>by rw[Zr (hm b _ q fun z=>z)];exact q,fun b u xs q=>by rw[Zr (hm b _ q fun z=>z)];exact q,fun b ps q=>⟨#[],by rw[Zr (hm b _ q fun z=>z),q];simp⟩⟩
 by_cases hbe:b=e
 ·subst hbe;exact heo
 ·exact⟨u,k b u hbe q⟩
end
def trk(h:Heap)(H:Hp):List Addr:=(List.range h.objs.size).filter fun a=>(H a).isSome
def ZiB(h:Heap)(H:Hp):Heap:=PySem.W.hideAll h (trk h H)
theorem ZmG(h:Heap)(H:Hp):(ZiB h H).objs.size=h.objs.size:=PySem.W.hideAll_size _ _
theorem ZnM{h:Heap}{H:Hp}{b:Addr}{o:Obj}(e:h.get? b=some o)(n:H b=none):(ZiB h H).get? b=some o:=
 PySem.W.hideAll_get _ e fun hm=>by
  have q:(H b).isSome=true:=(List.mem_filter.mp hm).2;rw[n] at q;simp at q
theorem ZpK{h:Heap}{H:Hp}{b:Addr}{o:Obj}(e:(ZiB h H).get? b=some o):h.get? b=some o/\H b=none:=by
 have e':h.get? b=some o:=PySem.W.of_hideAll (trk h H) e;refine⟨e', ?_⟩;cases q:H b with
 |none=>rfl
 |some x=>
  have hm:b∈trk h H:=List.mem_filter.mpr ⟨List.mem_range.mpr (Heap.lt_size e'),by simp[q]⟩;have z:(ZiB h H).get? b=none:=PySem.W.hideAll_none (trk h H) hm;rw[z] at e;cases e
def Zg8(g h:Heap)(L:Addr):List (Addr×Obj):=(List.range h.objs.size).filterMap fun a=>if a=L\/(g.get? a).isSome=true then none else(h.get? a).map fun o=>(a,o)
theorem ZfF{g h:Heap}{L a:Addr}{o:Obj}(h1:a≠L)(h2:g.get? a=none)(h3:h.get? a=some o):(a,o)∈Zg8 g h L:=
 List.mem_filterMap.mpr ⟨a,List.mem_range.mpr (Heap.lt_size h3),by simp[h1,h2,h3]⟩
theorem Zgu{g h:Heap}{L:Addr}{p:Addr×Obj}(hp:p∈Zg8 g h L):p.1≠L/\g.get? p.1=none/\h.get? p.1=some p.2:=by
 obtain⟨b,_,e⟩:=List.mem_filterMap.mp hp
 split at e
 ·cases e
 ·rename_i hn
  cases q:h.get? b with
  |none=>rw[q] at e;simp at e
  |some u=>
   rw[q] at e
   simp only [Option.map_some,Option.some.injEq] at e
   subst e;refine⟨fun z=>hn (.inl z), ?_,q⟩;show g.get? b=none;cases r:g.get? b with
   |none=>rfl
   |some v=>exact(hn (.inr (by simp[r]))).elim
theorem ZnN{g h:Heap}{L:Addr}:News g L h (Zg8 g h L):=fun p hp=>let ⟨a,b,c⟩:=Zgu hp;⟨c,a,b⟩
end L2
namespace L2
open PySem PySem.Spec PyProof.Rows
structure Mod (K:PySem.W.Frag) (mg:Str->Option Value) (base:Heap):Prop where
 kin:K.In base
 glob:base.Ns mainGlobals mg
 blt:∃mb,base.Ns builtinsNs mb/\∀x:Str,x≠"__name__"->mb x=bootBuiltins x
 nolimit:base.NoLimit
structure Cx where
 prog:Program
 w:World
 K:PySem.W.Frag
 mg:Str->Option Value
 base:Heap
 A:Around
 N:List Str
 s₀:Shared
 H₀:Hp
 env:Env
 outer:List Env
 stack:List Env
 ex:List Addr
 fn:Str->Bool
 calm:Bool
 pn:List (Addr×Obj)
 xe:Value->Shared->Prop
def frs(l:List Env):List Addr:=l.filterMap (·.frame)
abbrev Cx.fs(X:Cx):List Addr:=frs X.outer
def Vis(sc:Scope)(x:Str):Prop:=sc.names.lookup x=some .local\/sc.names.lookup x=some .cell\/sc.names.lookup x=some .free
def Loc(sc:Scope)(x:Str):Prop:=sc.names.lookup x=some .local\/sc.names.lookup x=some .cell
def ZtB(env:Env)(h:Heap)(m:Str->Option Value)(x:Str)(u:Value):Prop:=
 (env.kindOf x=some .local/\m x=some u)\/((env.kindOf x=some .cell\/env.kindOf x=some .free)/\∃c,env.cells.lookup x=some c/\h.IsCell c (some u))
structure Cx.Ok (X:Cx):Prop where
 mod:Mod X.K X.mg X.base
 kind:X.env.scope.kind=.function
 glob:X.env.globals=mainGlobals
 blt:X.env.builtins=builtinsNs
 above:X.s₀.heap.objs.size<=X.env.locals
 inj:∀x y c,X.env.cells.lookup x=some c->X.env.cells.lookup y=some c->x=y
 has:∀x,(X.env.kindOf x=some .cell\/X.env.kindOf x=some .free)->∃c,X.env.cells.lookup x=some c
 cab:∀x c,X.fn x=true->X.env.cells.lookup x=some c->X.s₀.heap.objs.size<=c
 hd:X.calm=true->X.A.handled=none
 frames:X.A.frames=some X.stack
 stk:X.stack=X.outer\/(X.stack=X.env::X.outer/\X.env.frame=some X.env.locals)
 exf:∀b∈X.ex,b≠X.env.locals/\∀x c,X.env.cells.lookup x=some c->c≠b
 bs:∀b o,X.base.get? b=some o->X.s₀.heap.get? b=some o/\X.H₀ b=none
 bsz:X.base.objs.size<=X.s₀.heap.objs.size
 noex:∀b o,X.base.get? b=some o->b∉X.ex
 exfs:∀b∈X.ex,b∉X.fs
 funs:X.s₀.heap.FunFrames X.base X.outer
 frf:∀b∈X.fs,X.H₀ b=none
structure Inv (X:Cx) (pins:List (Addr×Obj)) (σ:List (Option V)) (H:Hp) (s:Shared):Prop where
 ok:X.Ok
 os:s.os=X.s₀.os
 bare:AllBare s.gens
 base:Un X.fs X.ex X.H₀ H X.s₀.heap s.heap
 loc:∃m,s.heap.Ns X.env.locals m/\∀(i:Nat) (x:Str) (v:V),X.N[i]? =some x->σ[i]? =some (some v)->Vis X.env.scope x->∃u,Ye v u/\ZtB X.env s.heap m x u
 cell:∀x c,X.env.cells.lookup x=some c->∃v,s.heap.IsCell c v
 free:H X.env.locals=none
 freeC:∀x c,X.env.cells.lookup x=some c->H c=none
 pin:∀p∈X.pn++pins,s.heap.get? p.1=some p.2/\H p.1=none/\p.1≠X.env.locals/\p.1∉X.fs/\∀v,p.2.data≠.cell v
 hok:HOk X.prog X.w H s.heap
 len:σ.length=X.N.length
section
variable {X:Cx} {pins:List (Addr×Obj)} {σ:List (Option V)} {H H':Hp} {s:Shared} {h':Heap}
theorem Cx.Ok.nofr(ok:X.Ok){b:Addr}{o:Obj}(e:X.base.get? b=some o):b∉X.fs:=fun hb=>by
 have:=(ok.funs.mem hb).1;rw[e] at this;cases this
theorem Inv.bs(I:Inv X pins σ H s):∀b o,X.base.get? b=some o->s.heap.get? b=some o/\H b=none:=fun b o e=>
 ⟨I.base.keep b o (I.ok.bs b o e).1 (I.ok.bs b o e).2 (I.ok.nofr e) (I.ok.noex b o e),I.base.free b o (I.ok.bs b o e).1 (I.ok.bs b o e).2 (I.ok.noex b o e)⟩
theorem Inv.bk(I:Inv X pins σ H s):∀b o,X.base.get? b=some o->s.heap.get? b=some o:=fun b o e=>(I.bs b o e).1
theorem Inv.mod(I:Inv X pins σ H s):Mod X.K X.mg X.base:=I.ok.mod
theorem Inv.kIn(I:Inv X pins σ H s):X.K.In s.heap:=I.ok.mod.kin.keeps I.bk
theorem Inv.fr(I:Inv X pins σ H s):∃m,Fr X.base X.env.locals s.heap m:=
 let ⟨m,hn,_⟩:=I.loc
 ⟨m,hn,I.bk,Nat.le_trans I.ok.bsz I.ok.above⟩
theorem Inv.lt(I:Inv X pins σ H s):X.env.locals<s.heap.objs.size:=let ⟨_,hn,_⟩:=I.loc;hn.lt
theorem Inv.sz(I:Inv X pins σ H s):X.s₀.heap.objs.size<=s.heap.objs.size:=Nat.le_trans I.ok.above (Nat.le_of_lt I.lt)
theorem Inv.nofs(I:Inv X pins σ H s){a:Addr}(h:s.heap.objs.size<=a):a∉X.fs:=fun hb=>by
 obtain⟨_,o,ho,_⟩:=I.ok.funs.mem hb;exact absurd (Nat.lt_of_lt_of_le (Heap.lt_size ho) (Nat.le_trans I.sz h)) (Nat.lt_irrefl _)
theorem Inv.cne(I:Inv X pins σ H s):∀x c,X.env.cells.lookup x=some c->c≠X.env.locals:=fun x c e z=>by
 obtain⟨v,o,ho,hd⟩:=I.cell x c e;obtain⟨m,⟨o',es,ep,ho',hd',_⟩,_⟩:=I.loc;rw[z,ho'] at ho;cases ho;rw[hd'] at hd;cases hd
theorem Inv.funs(I:Inv X pins σ H s):s.heap.FunFrames X.base X.outer:=by
 have all:∀(l:List Env),(∀b∈frs l,b∈X.fs)->X.s₀.heap.FunFrames X.base l->s.heap.FunFrames X.base l:=by
  intro l
  induction l with
  |nil=>intro _ _;trivial
  |cons env r ih=>
   intro hs hl;obtain⟨hk,⟨L,o,hf,hn,ho,hd⟩,hr⟩:=hl;have hL:L∈X.fs:=hs L (by unfold frs;rw[List.filterMap_cons,hf];exact List.mem_cons_self)
   obtain⟨sl,e⟩:=I.base.slot L o ho (I.ok.frf L hL) hL fun z=>I.ok.exfs L z hL;exact⟨hk,⟨L,_,hf,hn,e,hd⟩,ih (fun b hb=>hs b (by unfold frs;rw[List.filterMap_cons,hf];exact List.mem_cons_of_mem _ hb)) hr⟩
 exact all X.outer (fun _ hb=>hb) I.ok.funs
theorem Inv.stack(I:Inv X pins σ H s):s.heap.FunFrames X.base X.stack:=by
 rcases I.ok.stk with e|⟨e,hf⟩
 ·rw[e];exact I.funs
 ·rw[e];obtain⟨m,hn,_⟩:=I.loc;refine .cons (by rw[I.ok.kind];decide) hf hn ?_ I.funs
  exact Heap.get?_none_of_le (Nat.le_trans I.ok.bsz I.ok.above)
theorem Inv.stkSub(I:Inv X pins σ H s):∀b∈frs X.stack,b∈X.env.locals::X.fs:=fun b hb=>by
 rcases I.ok.stk with e|⟨e,hf⟩
 ·rw[e] at hb;exact List.mem_cons_of_mem _ hb
 ·rw[e] at hb
  unfold frs at hb
  rw[List.filterMap_cons,hf] at hb
  exact hb
theorem Inv.stkFree(I:Inv X pins σ H s):∀b∈frs X.stack,H b=none:=fun b hb=>by
 rcases List.mem_cons.mp (I.stkSub b hb) with e|hb
 ·rw[e];exact I.free
 ·obtain⟨_,o,ho,_⟩:=I.ok.funs.mem hb;exact I.base.free b o ho (I.ok.frf b hb) fun z=>I.ok.exfs b z hb
theorem Inv.step{g':Array GenState}{t':Nat}{d':Drawn}{ch:List Addr}(I:Inv X pins σ H s)
  (hch:∀b∈ch,(b∈X.ex\/X.s₀.heap.objs.size<=b)/\b≠X.env.locals/\(∀x c,X.env.cells.lookup x=some c->c≠b)/\∀p∈X.pn++pins,p.1≠b)
  (keep:∀b o,b≠X.env.locals->b∉X.fs->b∉ch->s.heap.get? b=some o->H b=none->h'.get? b=some o)
  (slot:∀b o,b≠X.env.locals->b∈X.fs->b∉ch->s.heap.get? b=some o->H b=none->∃sl,h'.get? b=some {o with slots:=sl})(free:∀b o,b∉ch->s.heap.get? b=some o->H b=none->H' b=none)
  (there:∀b o,b∉ch->s.heap.get? b=some o->∃o',h'.get? b=some o')
  (tups:∀b xs,H b=some (.tup xs)->H' b=some (.tup xs))(frzs:∀b o u,H b=some (.frz o u)->H' b=some (.frz o u))(tbls:∀b ps,H b=some (.tbl ps)->∃more,H' b=some (.tbl (ps++more)))
  (ns:∀m,s.heap.Ns X.env.locals m->h'.Ns X.env.locals m)(hok:HOk X.prog X.w H' h')(hg:AllBare g'):
  Inv X pins σ H' {s with heap:=h',gens:=g',drawn:=d',toks:=t'}:=by
 have neL:∀b o,X.s₀.heap.get? b=some o->b≠X.env.locals:=fun b o e=>Nat.ne_of_lt (Nat.lt_of_lt_of_le (Heap.lt_size e) I.ok.above);have neC:∀b o,X.s₀.heap.get? b=some o->b∉X.ex->b∉ch:=fun b o e hx hb=>by
  rcases(hch b hb).1 with z|z
  ·exact hx z
  ·exact absurd (Nat.lt_of_lt_of_le (Heap.lt_size e) z) (Nat.lt_irrefl _)
 have cellK:∀x c,X.env.cells.lookup x=some c->∀v,s.heap.IsCell c v->h'.IsCell c v:=fun x c e v ⟨o,ho,hd⟩=>by
  have nch:c∉ch:=fun z=>(hch c z).2.2.1 x c e rfl
  by_cases hc:c∈X.fs
  ·obtain⟨sl,q⟩:=slot c o (I.cne x c e) hc nch ho (I.freeC x c e);exact⟨_,q,hd⟩
  ·exact⟨o,keep c o (I.cne x c e) hc nch ho (I.freeC x c e),hd⟩
 refine⟨I.ok,I.os,hg,⟨fun b o e n hb hx=> ?_,fun b o e n hb hx=> ?_,fun b o e n hx=> ?_,fun b o e hx=> ?_,fun b xs e=>tups b xs (I.base.tups b xs e),fun b o xs e=>frzs b o xs (I.base.frzs b o xs e),fun b ps e=> ?_⟩, ?_,fun x c e=> ?_, ?_,fun x c e=> ?_,fun p hp=> ?_,hok,I.len⟩
 ·exact keep b o (neL b o e) hb (neC b o e hx) (I.base.keep b o e n hb hx) (I.base.free b o e n hx)
 ·obtain⟨sl,e1⟩:=I.base.slot b o e n hb hx;obtain⟨sl',e2⟩:=slot b _ (neL b o e) hb (neC b o e hx) e1 (I.base.free b o e n hx);exact⟨sl',e2⟩
 ·obtain⟨o',e1⟩:=I.base.there b o e hx;exact free b o' (neC b o e hx) e1 (I.base.free b o e n hx)
 ·obtain⟨o',e1⟩:=I.base.there b o e hx;exact there b o' (neC b o e hx) e1
 ·obtain⟨m1,e1⟩:=I.base.tbls b ps e;obtain⟨m2,e2⟩:=tbls b _ e1;exact⟨m1++m2,by rw[e2,Array.append_assoc]⟩
 ·obtain⟨m,hn,hl⟩:=I.loc;refine⟨m,ns m hn,fun i x v e1 e2 e3=> ?_⟩;obtain⟨u,r,l⟩:=hl i x v e1 e2 e3;refine⟨u,r, ?_⟩;rcases l with l|⟨k,c,e,z⟩
  ·exact .inl l
  ·exact .inr ⟨k,c,e,cellK x c e _ z⟩
 ·obtain⟨v,z⟩:=I.cell x c e;exact⟨v,cellK x c e v z⟩
 ·obtain⟨m,⟨o,_,_,ho,_⟩,_⟩:=I.loc;exact free _ o (fun z=>(hch _ z).2.1 rfl) ho I.free
 ·obtain⟨v,o,ho,hd⟩:=I.cell x c e;exact free c o (fun z=>(hch c z).2.2.1 x c e rfl) ho (I.freeC x c e)
 ·obtain⟨e,n,ne,nf,d⟩:=I.pin p hp;have nch:p.1∉ch:=fun z=>(hch p.1 z).2.2.2 p hp rfl;exact⟨keep p.1 p.2 ne nf nch e n,free p.1 p.2 nch e n,ne,nf,d⟩
theorem Inv.un{t':Nat}(I:Inv X pins σ H s)(u:Un X.fs [] H H' s.heap h')(hok:HOk X.prog X.w H' h'):Inv X pins σ H' {s with heap:=h',toks:=t'}:=by
 obtain⟨m,⟨o,es,ep,ho,r⟩,_⟩:=id I.loc;obtain⟨sl,hL⟩:=u.any ho I.free (by simp);exact I.step (g':=s.gens) (d':=s.drawn) (ch:=[]) (fun _ z=>nomatch z) (fun b o _ hb _ e n=>u.keep b o e n hb (by simp)) (fun b o _ hb _ e n=>u.slot b o e n hb (by simp)) (fun b o _ e n=>u.free b o e n (by simp)) (fun b o _ e=>u.there b o e (by simp)) u.tups u.frzs u.tbls (fun m' hm=>by
  obtain⟨o',es',ep',ho',r'⟩:=hm;rw[ho] at ho';cases ho'
  exact⟨_,es',ep',hL,r'⟩) hok I.bare
theorem Inv.call{g':Array GenState}{t':Nat}{d':Drawn}{ch:List Addr}(I:Inv X pins σ H s)(u:Un (frs X.stack) ch H H' s.heap h')(hok:HOk X.prog X.w H' h')(hg:AllBare g')
  (hch:∀b∈ch,(b∈X.ex\/X.s₀.heap.objs.size<=b)/\b≠X.env.locals/\(∀x c,X.env.cells.lookup x=some c->c≠b)/\∀p∈X.pn++pins,p.1≠b):
  Inv X pins σ H' {s with heap:=h',gens:=g',drawn:=d',toks:=t'}:=by
 obtain⟨m,⟨o,es,ep,ho,r⟩,_⟩:=id I.loc;obtain⟨sl,hL⟩:=u.any ho I.free fun z=>(hch _ z).2.1 rfl;exact I.step (ch:=ch) hch (fun b o hL hb hc e n=>u.keep b o e n (fun z=>(List.mem_cons.mp (I.stkSub b z)).elim hL hb) hc) (fun b o _ _ hc e n=>u.any e n hc) (fun b o hc e n=>u.free b o e n hc) (fun b o hc e=>u.there b o e hc) u.tups u.frzs u.tbls (fun m' hm=>by
  obtain⟨o',es',ep',ho',r'⟩:=hm;rw[ho] at ho';cases ho'
  exact⟨_,es',ep',hL,r'⟩) hok hg
theorem Inv.turned{t':Nat}{it:Addr}(I:Inv X pins σ H s)(k:∀b o,b≠it->s.heap.get? b=some o->h'.get? b=some o)(hn:H it=none)(hL:it≠X.env.locals)
  (h1:it∈X.ex\/X.s₀.heap.objs.size<=it)(h2:∀x c,X.env.cells.lookup x=some c->c≠it)(h3:∀p∈X.pn++pins,p.1≠it):Inv X pins σ H {s with heap:=h',toks:=t'}:=by
 have nit:∀b u,H b=some u->b≠it:=fun b u e z=>by rw[z,hn] at e;cases e
 refine I.step (g':=s.gens) (d':=s.drawn) (ch:=[it]) (fun b hb=> ?_) (fun b o _ _ hc e _=>k b o (fun z=>hc (by simp[z])) e) (fun b o _ _ hc e _=>⟨o.slots,k b o (fun z=>hc (by simp[z])) e⟩) (fun _ _ _ _ n=>n)
  (fun b o hc e=>⟨o,k b o (fun z=>hc (by simp[z])) e⟩) (fun _ _ e=>e) (fun _ _ _ e=>e) (fun b ps e=>⟨#[],by rw[e];simp⟩) (fun m hm=> ?_) (fun b u e=> ?_) I.bare
 ·have e:b=it:=by simpa using hb
  subst e;exact⟨h1,hL,h2,h3⟩
 ·obtain⟨o,es,ep,ho,r⟩:=hm;exact⟨o,es,ep,k _ o (Ne.symm hL) ho,r⟩
 ·refine(I.hok b u e).stay (fun c v hc q=>k c v ?_ q) (fun _ q=>q) fun _ _ q=>q;rcases hc with z|z
  ·rw[z];exact nit b u e
  ·exact nit c _ z
theorem Inv.tok(I:Inv X pins σ H s)(t:Nat):Inv X pins σ H {s with toks:=t}:=I.un (h':=s.heap) (t':=t) Un.refl I.hok
theorem Inv.kept{t':Nat}(I:Inv X pins σ H s)(k:∀b u,s.heap.get? b=some u->h'.get? b=some u):Inv X pins σ H {s with heap:=h',toks:=t'}:=I.un (Un.kept k) (I.hok.kept k)
theorem Inv.laid{a:Addr}{o:HO}{t':Nat}(I:Inv X pins σ H s)(k:∀b u,s.heap.get? b=some u->h'.get? b=some u)(hp:s.heap.objs.size<=a)(new:YD X.prog X.w (upd H a o) h' a o):
  Inv X pins σ (upd H a o) {s with heap:=h',toks:=t'}:=I.un (Un.laid k hp (I.hok.fresh hp)) (I.hok.laid k hp new)
theorem Inv.write{x e:Addr}{o:HO}{t':Nat}(I:Inv X pins σ H s)(mu:Mut (H x))(he:e=x\/H e=some (.own x))(k:∀b u,b≠e->s.heap.get? b=some u->h'.get? b=some u)(heo:∃u,h'.get? e=some u)
  (new:YD X.prog X.w (upd H x o) h' x o):Inv X pins σ (upd H x o) {s with heap:=h',toks:=t'}:=I.un (Un.write mu he k heo) (I.hok.write mu he k heo new)
theorem Inv.weak{σ':List (Option V)}(I:Inv X pins σ H s)(hl:σ'.length=σ.length)(w:∀(i:Nat) v,σ'[i]? =some (some v)->σ[i]? =some (some v)):Inv X pins σ' H s:=
 ⟨I.ok,I.os,I.bare,I.base,let ⟨m,hn,hl'⟩:=I.loc;⟨m,hn,fun i x v e1 e2 e3=>hl' i x v e1 (w i v e2) e3⟩,I.cell,I.free,I.freeC,I.pin,I.hok,hl.trans I.len⟩
theorem Inv.pins_of{pins':List (Addr×Obj)}(I:Inv X pins σ H s)(h:∀p∈pins',s.heap.get? p.1=some p.2/\H p.1=none/\p.1≠X.env.locals/\p.1∉X.fs/\∀v,p.2.data≠.cell v):Inv X pins' σ H s:=
 ⟨I.ok,I.os,I.bare,I.base,I.loc,I.cell,I.free,I.freeC,fun p hp=>(List.mem_append.mp hp).elim (fun z=>I.pin p (List.mem_append_left _ z)) (h p),I.hok,I.len⟩
theorem Zgv{N:List Str}(hN:N.Nodup){i j:Nat}{x:Str}(a:N[i]? =some x)(b:N[j]? =some x):i=j:=by
 obtain⟨h1,e1⟩:=List.getElem?_eq_some_iff.mp a;obtain⟨h2,e2⟩:=List.getElem?_eq_some_iff.mp b;exact(List.getElem_inj hN).mp (e1.trans e2.symm)
theorem ZmH{M:Model}{A:Around}{E:Value->Shared->Prop}{i:Nat}{x:Str}{v:V}{u:Value}{Q:Unit->Shared->Prop}(I:Inv X pins σ H s)(hN:X.N.Nodup)(hi:X.N[i]? =some x)(hx:Loc X.env.scope x)(r:Ye v u)
  (h:∀s',Inv X pins (σ.set i (some v)) H s'->(∃a,Heap.SameBut a s.heap s'.heap/\(a=X.env.locals\/X.env.cells.lookup x=some a))->Q () s')(hf:X.fn x=true\/X.env.scope.names.lookup x=some .local:=by first|exact .inl rfl|exact .inr rfl|assumption):wpAny M A (storeName X.env x u) Q E s:=by
 obtain⟨m,hn,hl⟩:=id I.loc;have hcls:(X.env.scope.kind==.class||(X.env.scope.kind==.module&&X.env.locals !=X.env.globals))=false:=by rw[I.ok.kind];rfl
 have hiσ:i<σ.length:=by rw[I.len];exact(List.getElem?_eq_some_iff.mp hi).1
 have cne:=I.cne;have tracked:∀{a:Addr} {h':Heap},(∃o,s.heap.get? a=some o/\H a=none)->Heap.SameBut a s.heap h'->HOk X.prog X.w H h':=fun{a h'} ha hs b ob e=>by
  obtain⟨_,_,hfree⟩:=ha;refine(I.hok b ob e).stay (fun c w' hc q=>(hs.2 c ?_).trans q) (fun _ q=>q) fun _ _ q=>q;rintro rfl;rcases hc with rfl|hc
  ·rw[hfree] at e;cases e
  ·rw[hfree] at hc;cases hc
 rcases hx with hk|hk
 ·refine wpAny_storeName_local hk hn (fun h' hn' hs=> ?_) hcls;obtain⟨oL,_,_,hoL,_⟩:=id hn;refine h _ ⟨I.ok,I.os,I.bare,⟨fun b o e n hb hx=> ?_,fun b o e n hb hx=> ?_,I.base.free,fun b o e hx=> ?_,I.base.tups,I.base.frzs,I.base.tbls⟩,⟨_,hn',fun j y v' e1 e2 e3=> ?_⟩,fun y c e=> ?_,I.free,I.freeC,fun p hp=> ?_,tracked ⟨oL,hoL,I.free⟩ hs,by simpa using I.len⟩ ⟨_,hs,.inl rfl⟩
  ·exact(hs.2 b (Nat.ne_of_lt (Nat.lt_of_lt_of_le (Heap.lt_size e) I.ok.above))).trans (I.base.keep b o e n hb hx)
  ·obtain⟨sl,e1⟩:=I.base.slot b o e n hb hx;exact⟨sl,(hs.2 b (Nat.ne_of_lt (Nat.lt_of_lt_of_le (Heap.lt_size e) I.ok.above))).trans e1⟩
  ·obtain⟨o',e1⟩:=I.base.there b o e hx;exact⟨o',(hs.2 b (Nat.ne_of_lt (Nat.lt_of_lt_of_le (Heap.lt_size e) I.ok.above))).trans e1⟩
  ·by_cases hj:j=i
   ·subst hj;rw[hi] at e1;cases e1
    rw[List.getElem?_set_self hiσ] at e2
    cases e2;exact⟨u,r,.inl ⟨hk,by simp⟩⟩
   ·rw[List.getElem?_set_ne (Ne.symm hj)] at e2
    obtain⟨u',r',q⟩:=hl j y v' e1 e2 e3;refine⟨u',r', ?_⟩;rcases q with ⟨k,e⟩|⟨k,c,e,z⟩
    ·refine .inl ⟨k, ?_⟩;have:y≠x:=fun e=>hj (Zgv hN e1 (e▸hi));simp[this,e]
    ·exact .inr ⟨k,c,e,z.sameBut hs (cne y c e)⟩
  ·obtain⟨w',z⟩:=I.cell y c e;exact⟨w',z.sameBut hs (cne y c e)⟩
  ·obtain⟨e,n,ne,nf,d⟩:=I.pin p hp;exact⟨(hs.2 p.1 ne).trans e,n,ne,nf,d⟩
 ·have hfn:X.fn x=true:=by
   rcases hf with z|z
   ·exact z
   ·rw[z] at hk;cases hk
  obtain⟨c,hc⟩:=I.ok.has x (.inl hk);obtain⟨w',z⟩:=I.cell x c hc;refine wpAny_storeName_cell I.ok.kind hk hc z (fun h' hc' hs=> ?_);obtain⟨oc,hoc,hocd⟩:=id z;refine h {s with heap:=h'} ⟨I.ok,I.os,I.bare,⟨fun b o e n hb hx=> ?_,fun b o e n hb hx=> ?_,I.base.free,fun b o e hx=> ?_,I.base.tups,I.base.frzs,I.base.tbls⟩,⟨m,hn.sameBut hs (Ne.symm (cne x c hc)),fun j y v' e1 e2 e3=> ?_⟩,fun y c' e=> ?_,I.free,I.freeC,fun p hp=> ?_,tracked ⟨oc,hoc,I.freeC x c hc⟩ hs,by simpa using I.len⟩ ⟨c,hs,.inr hc⟩
  ·exact(hs.2 b (Nat.ne_of_lt (Nat.lt_of_lt_of_le (Heap.lt_size e) (I.ok.cab x c hfn hc)))).trans (I.base.keep b o e n hb hx)
  ·obtain⟨sl,e1⟩:=I.base.slot b o e n hb hx;exact⟨sl,(hs.2 b (Nat.ne_of_lt (Nat.lt_of_lt_of_le (Heap.lt_size e) (I.ok.cab x c hfn hc)))).trans e1⟩
  ·obtain⟨o',e1⟩:=I.base.there b o e hx;exact⟨o',(hs.2 b (Nat.ne_of_lt (Nat.lt_of_lt_of_le (Heap.lt_size e) (I.ok.cab x c hfn hc)))).trans e1⟩
  ·by_cases hj:j=i
   ·subst hj;rw[hi] at e1;cases e1
    rw[List.getElem?_set_self hiσ] at e2
    cases e2;exact⟨u,r,.inr ⟨.inl hk,c,hc,hc'⟩⟩
   ·rw[List.getElem?_set_ne (Ne.symm hj)] at e2
    obtain⟨u',r',q⟩:=hl j y v' e1 e2 e3;refine⟨u',r', ?_⟩;rcases q with q|⟨k,c',e,z'⟩
    ·exact .inl q
    ·refine .inr ⟨k,c',e,z'.sameBut hs ?_⟩;rintro rfl;exact hj (Zgv hN e1 (I.ok.inj _ _ _ e hc▸hi))
  ·by_cases hcc:c'=c
   ·subst hcc;exact⟨_,hc'⟩
   ·obtain⟨w2,z2⟩:=I.cell y c' e;exact⟨w2,z2.sameBut hs hcc⟩
  ·obtain⟨e,n,ne,nf,d⟩:=I.pin p hp;refine⟨(hs.2 p.1 ?_).trans e,n,ne,nf,d⟩;intro q;rw[q,hoc] at e
   have q':oc=p.2:=Option.some.inj e;exact d w' (by rw[<-q'];exact hocd)
theorem Zgw{M:Model}{A:Around}{E:Value->Shared->Prop}{i:Nat}{x:Str}{v:V}{u:Value}{Q:Unit->Shared->Prop}(I:Inv X pins σ H s)(hN:X.N.Nodup)(hi:X.N[i]? =some x)(hx:Loc X.env.scope x)(r:Ye v u)
  (h:∀s',Inv X pins (σ.set i (some v)) H s'->Q () s')(hf:X.fn x=true\/X.env.scope.names.lookup x=some .local:=by first|exact .inl rfl|exact .inr rfl|assumption):wpAny M A (storeName X.env x u) Q E s:=
 ZmH I hN hi hx r (fun s' I' _=>h s' I') hf
theorem Inv.call'{s':Shared}{ch:List Addr}(I:Inv X pins σ H s)(ho:s'.os=s.os)(u:Un (frs X.stack) ch H H' s.heap s'.heap)(hok:HOk X.prog X.w H' s'.heap)(hg:AllBare s'.gens)
  (hch:∀b∈ch,(b∈X.ex\/X.s₀.heap.objs.size<=b)/\b≠X.env.locals/\(∀x c,X.env.cells.lookup x=some c->c≠b)/\∀p∈X.pn++pins,p.1≠b):Inv X pins σ H' s':=by
 obtain⟨h',g',d',t',o'⟩:=s';have e:o'=s.os:=ho;subst e;exact I.call (g':=g') (t':=t') (d':=d') u hok hg hch
end
abbrev XK:=Value->Option Addr->Hp->Prop
abbrev St:=List (Option V)
abbrev VK:=V->Hp->Prop
abbrev TE:=St->Hp->VK->Prop
abbrev TT:=St->Hp->(Bool->Hp->Prop)->Prop
abbrev TA:=St->Hp->(List V->Hp->Prop)->Prop
structure ZeB where
 nx:St->Hp->Prop
 rt:VK
 bk:St->Hp->Prop:=fun _ _=>False
 ct:St->Hp->Prop:=fun _ _=>False
abbrev TS:=ZeB->St->Hp->Prop
def EP(X:Cx)(pins:List (Addr×Obj))(σ:St)(Q:VK)(u:Value)(s':Shared):Prop:=∃v H',Inv X pins σ H' s'/\Ye v u/\Q v H'
def TP(X:Cx)(pins:List (Addr×Obj))(σ:St)(Q:Bool->Hp->Prop)(b:Bool)(s':Shared):Prop:=∃H',Inv X pins σ H' s'/\Q b H'
def AP(X:Cx)(pins:List (Addr×Obj))(σ:St)(Q:List V->Hp->Prop)(us:List Value)(s':Shared):Prop:=∃vs H',Inv X pins σ H' s'/\Yc vs us/\Q vs H'
def SP(X:Cx)(pins:List (Addr×Obj))(D:ZeB)(f:Flow)(s':Shared):Prop:=
 match f with
 | .next=>∃σ' H',Inv X pins σ' H' s'/\D.nx σ' H'
 | .brk=>∃σ' H',Inv X pins σ' H' s'/\D.bk σ' H'
 | .cont=>∃σ' H',Inv X pins σ' H' s'/\D.ct σ' H'
 | .ret u=>∃v σ' H',Inv X pins σ' H' s'/\Ye v u/\D.rt v H'
def PE(X:Cx)(e:Expr)(t:TE):Prop:=
 ∀(pins:List (Addr×Obj)) (s:Shared) (σ:St) (H:Hp) (Q:VK),Inv X pins σ H s->t σ H Q->wpAny (model X.prog X.w) X.A (eval e X.env) (EP X pins σ Q) X.xe s
def PT(X:Cx)(e:Expr)(t:TT):Prop:=
 ∀(pins:List (Addr×Obj)) (s:Shared) (σ:St) (H:Hp) (Q:Bool->Hp->Prop),Inv X pins σ H s->t σ H Q->wpAny (model X.prog X.w) X.A (isTrue e X.env (eval e X.env)) (TP X pins σ Q) X.xe s
def PW(X:Cx)(e:Expr)(t:TT):Prop:=
 ∀(whole:Sem Value) (pins:List (Addr×Obj)) (s:Shared) (σ:St) (H:Hp) (Q:Bool->Hp->Prop),Inv X pins σ H s->t σ H Q->wpAny (model X.prog X.w) X.A (isTrue e X.env whole) (TP X pins σ Q) X.xe s
theorem PW.pt{X:Cx}{e:Expr}{t:TT}(h:PW X e t):PT X e t:=h _
def PA(X:Cx)(es:List Expr)(t:TA):Prop:=
 ∀(pos:Pos) (pins:List (Addr×Obj)) (s:Shared) (σ:St) (H:Hp) (Q:List V->Hp->Prop),Inv X pins σ H s->t σ H Q->wpAny (model X.prog X.w) X.A (spliced (backTo pos (starEach es X.env))) (AP X pins σ Q) X.xe s
def PS(X:Cx)(st:Stmt)(t:TS):Prop:=
 ∀(pins:List (Addr×Obj)) (s:Shared) (σ:St) (H:Hp) (D:ZeB),Inv X pins σ H s->t D σ H->wpAny (model X.prog X.w) X.A (exec st X.env) (SP X pins D) X.xe s
def PSs(X:Cx)(st:List Stmt)(t:TS):Prop:=
 ∀(pins:List (Addr×Obj)) (s:Shared) (σ:St) (H:Hp) (D:ZeB),Inv X pins σ H s->t D σ H->wpAny (model X.prog X.w) X.A (execs st X.env) (SP X pins D) X.xe s
theorem thn{α:Type}{t:Sem α}{Q Q':α->Shared->Prop}{M:Model}{A:Around}{E:Value->Shared->Prop}{s:Shared}(h:wpAny M A t Q E s)(hQ:∀a s,Q a s->Q' a s):wpAny M A t Q' E s:=wpAny_mono h hQ fun _ _ x=>x
end L2
namespace L2
open PySem PySem.Spec PyProof.Rows
section
variable {X:Cx}
def Zfb(i:Nat):TE:=fun σ H Q=>∃v,σ[i]? =some (some v)/\Q v H
def tC(v:V):TE:=fun _ H Q=>Q v H
theorem ZrA{i:Nat}{x:Str}{pos:Pos}(hN:X.N[i]? =some x)(hv:Vis X.env.scope x)(hd:(x==("__debug__":Str))=false:=by decide)(hcd:(x==("__classdict__":Str))=false:=by decide):PE X (.Name x pos) (Zfb i):=by
 intro pins s σ H Q I h;obtain⟨v,e,h⟩:=h;obtain⟨m,hn,hl⟩:=I.loc;obtain⟨u,r,l⟩:=hl i x v hN e hv;have fin:EP X pins σ Q u s:=⟨v,H,I,r,h⟩
 rcases l with ⟨hk,hm⟩|⟨hk,c,hc,hcell⟩
 ·exact wpAny_Name (wpAny_loadName_local I.ok.kind hk hn hm fin) hd
 ·rcases hk with hk|hk
  ·exact wpAny_Name (wpAny_loadName_cell I.ok.kind hk hc hcell fin) hd
  ·exact wpAny_Name (wpAny_loadName_free I.ok.kind hk hc hcell fin hcd) hd
theorem Zx{i j pos}:PE X (.Constant (.int i) j pos) (tC (.int i)):=fun _ _ _ H _ I h=>wpAny_Constant_int ⟨.int i,H,I.tok _,⟨_,rfl⟩,h⟩
theorem ZfG{b j pos}:PE X (.Constant (.bool b) j pos) (tC (.bl b)):=fun _ _ _ H _ I h=>Constant_bool ⟨.bl b,H,I,rfl,h⟩
theorem Zaj{j pos}:PE X (.Constant .none j pos) (tC .non):=fun _ _ _ H _ I h=>Constant_none ⟨.non,H,I,rfl,h⟩
theorem Zw{x j pos}:PE X (.Constant (.str x) j pos) (tC (.str x)):=fun _ _ _ H _ I h=>Calls.Constant_str ⟨.str x,H,I.tok _,⟨_,rfl⟩,h⟩
def Gl(X:Cx)(x:Str):Prop:=X.env.kindOf x=some .globalImplicit
theorem YZ{E:Value->Shared->Prop}{pins:List (Addr×Obj)}{s:Shared}{σ:St}{H:Hp}{x:Str}{u:Value}{pos:Pos}{Q:Value->Shared->Prop}(I:Inv X pins σ H s)(hg:Gl X x)(hm:X.mg x=some u)(h:Q u s)
  (hd:(x==("__debug__":Str))=false:=by decide):wpAny (model X.prog X.w) X.A (eval (.Name x pos) X.env) Q E s:=
 Calls.Name_function_global I.ok.kind hg (Calls.loadGlobal_global (by rw[I.ok.glob];exact I.mod.glob.keeps I.bk) hm h) hd
theorem ZcX{E:Value->Shared->Prop}{pins:List (Addr×Obj)}{s:Shared}{σ:St}{H:Hp}{x:Str}{u:Value}{pos:Pos}{Q:Value->Shared->Prop}(I:Inv X pins σ H s)(hg:Gl X x)(hm:X.mg x=none)(hv:bootBuiltins x=some u)(h:Q u s)
  (hn:x≠"__name__":=by decide)(hd:(x==("__debug__":Str))=false:=by decide):wpAny (model X.prog X.w) X.A (eval (.Name x pos) X.env) Q E s:=by
 obtain⟨mb,h1,h2⟩:=I.mod.blt;exact Calls.Name_function_global I.ok.kind hg (Calls.loadGlobal_builtin (by rw[I.ok.glob];exact I.mod.glob.keeps I.bk) hm (by rw[I.ok.blt];exact h1.keeps I.bk) ((h2 x hn).trans hv) h) hd
theorem Yk{x:Str}{v:V}{u:Value}{pos:Pos}(hg:Gl X x)(hm:X.mg x=some u)(r:Ye v u)(hd:(x==("__debug__":Str))=false:=by decide):PE X (.Name x pos) (tC v):=
 fun _ _ _ H _ I h=>YZ I hg hm ⟨v,H,I,r,h⟩ hd
theorem ZiC{x:Str}{v:V}{u:Value}{pos:Pos}(hg:Gl X x)(hm:X.mg x=none)(hv:bootBuiltins x=some u)(r:Ye v u)(hn:x≠"__name__":=by decide)(hd:(x==("__debug__":Str))=false:=by decide):PE X (.Name x pos) (tC v):=
 fun _ _ _ H _ I h=>ZcX I hg hm hv ⟨v,H,I,r,h⟩ hn hd
variable {a b:Expr} {ta tb:TE} {pos:Pos}
def PC(X:Cx)(op:CmpOp)(a b:Expr)(t:TE):Prop:=
 ∀(pins:List (Addr×Obj)) (s:Shared) (σ:St) (H:Hp) (Q:VK),Inv X pins σ H s->t σ H Q->
  wpAny (model X.prog X.w) X.A (eval a X.env) (fun v s₁=>wpAny (model X.prog X.w) X.A (eval b X.env) (fun u s₂=>wpAny (model X.prog X.w) X.A (compareOp op v u) (EP X pins σ Q) X.xe s₂) X.xe s₁) X.xe s
def tB(t:TE):TT:=fun σ H Q=>t σ H fun x H1=>∃c,x=.bl c/\Q c H1
theorem ZrB{op:CmpOp}{t:TE}(h:PC X op a b t)(h1:behindInMarks op b=false:=by first|exact nobehind _ (by decide) (by decide)|rfl):PE X (.Compare a [op] [b] pos) t:=fun pins s σ H Q I hw=>wpAny_Compare1 (h pins s σ H Q I hw) h1
theorem ZnO{op:CmpOp}{t:TE}(h:PC X op a b t)(h1:behindInMarks op b=false:=by first|exact nobehind _ (by decide) (by decide)|rfl):PT X (.Compare a [op] [b] pos) (tB t):=by
 intro pins s σ H Q I hw;refine wpAny_isTrue_Compare1 (thn (h pins s σ H _ I hw) fun v s1 h1=>thn h1 fun u s2 h2=>thn h2 fun c s3 ⟨x,H1,I1,r1,q1⟩=> ?_) h1;obtain⟨d,rfl,q⟩:=q1;cases r1;exact wpAny_truthy_bool ⟨H1,I1,q⟩
theorem ZaO{e:Expr}{t:TE}(h:PE X e t)(he:∀whole,isTrue e X.env whole=(do let v<-whole;standAt e.pos;holding [v] (truthy v)):=by intro _;rfl):PT X e (tB t):=by
 intro pins s σ H Q I hw;refine isTrue_plain (thn (h pins s σ H _ I hw) fun v s1 ⟨x,H1,I1,r1,q1⟩=> ?_) (he _);obtain⟨d,rfl,q⟩:=q1;cases r1;exact wpAny_truthy_bool ⟨H1,I1,q⟩
variable {tA tB':TT} {rest:List Expr}
def ZtC(t u:TT):TT:=fun σ H Q=>t σ H fun c H1=>if c=true then u σ H1 Q else Q false H1
def tOr(t u:TT):TT:=fun σ H Q=>t σ H fun c H1=>if c=true then Q true H1 else u σ H1 Q
def ZtD(t:TT):TT:=fun σ H Q=>t σ H fun c H1=>Q (!c) H1
theorem Zg9(ha:PT X a tA):PW X (.BoolOp .And [a] pos) tA:=by
 intro wh pins s σ H Q I h;refine isTrue_and (thn (ha pins s σ H Q I h) fun c s1 e=> ?_);cases c with
 |true=>exact isTrue_and_nil e
 |false=>exact e
theorem ZcY(ha:PT X a tA):PW X (.BoolOp .Or [a] pos) tA:=by
 intro wh pins s σ H Q I h;refine isTrue_or (thn (ha pins s σ H Q I h) fun c s1 e=> ?_);cases c with
 |false=>exact isTrue_or_nil e
 |true=>exact e
theorem ZiD(ha:PT X a tA)(hb:PW X (.BoolOp .And (b::rest) pos) tB'):PW X (.BoolOp .And (a::b::rest) pos) (ZtC tA tB'):=by
 intro wh pins s σ H Q I h;refine isTrue_and (thn (ha pins s σ H _ I h) fun c s1 ⟨H1,I1,q1⟩=> ?_);cases c with
 |true=>exact hb wh pins s1 σ H1 Q I1 q1
 |false=>exact⟨H1,I1,q1⟩
theorem ZfH(ha:PT X a tA)(hb:PW X (.BoolOp .Or (b::rest) pos) tB'):PW X (.BoolOp .Or (a::b::rest) pos) (tOr tA tB'):=by
 intro wh pins s σ H Q I h;refine isTrue_or (thn (ha pins s σ H _ I h) fun c s1 ⟨H1,I1,q1⟩=> ?_);cases c with
 |true=>exact⟨H1,I1,q1⟩
 |false=>exact hb wh pins s1 σ H1 Q I1 q1
theorem Zed(ha:PT X a tA):PT X (.UnaryOp .Not a pos) (ZtD tA):=by
 intro pins s σ H Q I h;exact isTrue_not (ha pins s σ H (fun c H1=>Q (!c) H1) I h)
def ZsM(ta tb:TE):TE:=fun σ H Q=>ta σ H fun x H1=>∃c,x=.bl c/\if c=true then tb σ H1 Q else Q (.bl false) H1
def ZsN(ta:TE):TE:=fun σ H Q=>ta σ H fun x H1=>∃c,x=.bl c/\Q (.bl (!c)) H1
theorem ZiE{op}{t:TE}(h:PE X a t):PE X (.BoolOp op [a] pos) t:=fun pins s σ H Q I hw=>BoolOp_one (h pins s σ H Q I hw)
theorem ZiF(ha:PE X a ta)(hb:PE X (.BoolOp .And (b::rest) pos) tb):PE X (.BoolOp .And (a::b::rest) pos) (ZsM ta tb):=by
 intro pins s σ H Q I h;refine BoolOp_and (thn (ha pins s σ H _ I h) fun v s1 ⟨x,H1,I1,r1,q1⟩=> ?_);obtain⟨c,rfl,q1⟩:=q1;cases r1;refine wpAny_truthy_bool ?_;cases c with
 |true=>exact hb pins s1 σ H1 Q I1 q1
 |false=>exact⟨.bl false,H1,I1,rfl,q1⟩
theorem ZrC(ha:PE X a ta):PE X (.UnaryOp .Not a pos) (ZsN ta):=by
 intro pins s σ H Q I h;refine UnaryOp_ (thn (ha pins s σ H _ I h) fun v s1 ⟨x,H1,I1,r1,q1⟩=> ?_);obtain⟨c,rfl,q1⟩:=q1;cases r1;exact not_of (wpAny_truthy_bool ⟨.bl (!c),H1,I1,rfl,q1⟩)
end
end L2
namespace L2
open PySem PySem.Spec PyProof.Rows
def SqL(K:PySem.W.Frag)(H:Hp)(a:Addr)(xs:List V):Prop:=
 Rd H a (.lst xs)\/
  ∃(o:Obj) (its:Array Value) (n:Nat),K.lookup a=some o/\o.cls=.type "list"/\o.dict=none/\o.data=.seq its n/\its.size<=sizeLine/\Yc xs its.toList
def SqT(K:PySem.W.Frag)(H:Hp)(a:Addr)(xs:List V):Prop:=
 Rd H a (.tup xs)\/
  ∃(o:Obj) (its:Array Value) (n:Nat),K.lookup a=some o/\o.cls=.type "tuple"/\o.data=.seq its n/\its.size<=sizeLine/\Yc xs its.toList
def ZtE:Value->Option V
 | .none=>some .non
 | .bool b=>some (.bl b)
 | .int i _=>some (.int i)
 | .str x _=>some (.str x)
 | .bytes b _=>some (.byt b)
 | .float b _=>some (.flt b)
 | .ref a=>some (.ref a)
 | .type n=>some (.ty n)
 |_=>none
theorem Ye.abs{x:V}{u:Value}(r:Ye x u):ZtE u=some x:=by
 cases x with
 |non=>cases r;rfl
 |bl _=>cases r;rfl
 |int _=>obtain⟨t,rfl⟩:=r;rfl
 |str _=>obtain⟨t,rfl⟩:=r;rfl
 |byt _=>obtain⟨t,rfl⟩:=r;rfl
 |flt _=>obtain⟨t,rfl⟩:=r;rfl
 |ref _=>cases r;rfl
 |ty _=>cases r;rfl
theorem Ye.inj{x y:V}{u:Value}(r:Ye x u)(q:Ye y u):x=y:=Option.some.inj (r.abs.symm.trans q.abs)
theorem Yc.inj:∀{xs ys:List V} {us:List Value},Yc xs us->Yc ys us->xs=ys
 |_,_,_,.nil,.nil=>rfl
 |_,_,_,.cons r t,.cons r' t'=>by rw[r.inj r',Yc.inj t t']
section
variable {X:Cx} {pins:List (Addr×Obj)} {σ:St} {H:Hp} {s:Shared} {a:Addr} {xs ys:List V}
theorem SqL.of{K:PySem.W.Frag}(h:H a=some (.lst xs)):SqL K H a xs:=.inl (.inl h)
theorem SqT.of{K:PySem.W.Frag}(h:H a=some (.tup xs)):SqT K H a xs:=.inl (.inl h)
theorem Inv.list(I:Inv X pins σ H s)(h:SqL X.K H a xs):∃its:List Value,Yc xs its/\PlainL s.heap a its.toArray/\xs.length<=sizeLine:=by
 rcases h with h|⟨o,its,n,hk,hc,hd,hs,hz,r⟩
 ·obtain⟨z,its,n,r,e⟩:=h.ok I.hok;exact⟨its,r,⟨_,n,e,rfl,rfl,rfl⟩,z⟩
 ·refine⟨its.toList,r,⟨o,n,I.kIn a o hk,hc,hd,by simpa using hs⟩, ?_⟩;have e:=r.length;simp only [Array.length_toList] at e
  omega
theorem Inv.tuple(I:Inv X pins σ H s)(h:SqT X.K H a xs):∃its:List Value,Yc xs its/\IsTup s.heap a its.toArray/\xs.length<=sizeLine:=by
 rcases h with h|⟨o,its,n,hk,hc,hs,hz,r⟩
 ·obtain⟨z,its,r,p⟩:=h.ok I.hok;exact⟨its,r,p,z⟩
 ·refine⟨its.toList,r,⟨o,I.kIn a o hk,hc,n,by simpa using hs⟩, ?_⟩;have e:=r.length;simp only [Array.length_toList] at e
  omega
theorem Inv.list_inj(I:Inv X pins σ H s)(h:SqL X.K H a xs)(h':SqL X.K H a ys):xs=ys:=by
 obtain⟨its,r,⟨o,n,e,_,_,d⟩,_⟩:=I.list h;obtain⟨its',r',⟨o',n',e',_,_,d'⟩,_⟩:=I.list h';rw[e] at e';cases e'
 rw[d] at d'
 injection d' with d1 _
 have:its=its':=by simpa using congrArg Array.toList d1
 subst this;exact r.inj r'
theorem Inv.tuple_inj(I:Inv X pins σ H s)(h:SqT X.K H a xs)(h':SqT X.K H a ys):xs=ys:=by
 obtain⟨its,r,⟨o,e,_,n,d⟩,_⟩:=I.tuple h;obtain⟨its',r',⟨o',e',_,n',d'⟩,_⟩:=I.tuple h';rw[e] at e';cases e'
 rw[d] at d'
 injection d' with d1 _
 have:its=its':=by simpa using congrArg Array.toList d1
 subst this;exact r.inj r'
end
abbrev Cx.wish(X:Cx)(E:Value->Shared->Prop):Cx:={X with xe:=E}
abbrev Cx.nox(X:Cx):Cx:=X.wish fun _ _=>False
theorem Cx.Ok.wish{X:Cx}(ok:X.Ok)(E:Value->Shared->Prop):(X.wish E).Ok:=
 ⟨ok.mod,ok.kind,ok.glob,ok.blt,ok.above,ok.inj,ok.has,ok.cab,ok.hd,ok.frames,ok.stk,ok.exf,ok.bs,ok.bsz,ok.noex,ok.exfs,ok.funs,ok.frf⟩
theorem Cx.Ok.unwish{X:Cx}{E:Value->Shared->Prop}(ok:(X.wish E).Ok):X.Ok:=
 ⟨ok.mod,ok.kind,ok.glob,ok.blt,ok.above,ok.inj,ok.has,ok.cab,ok.hd,ok.frames,ok.stk,ok.exf,ok.bs,ok.bsz,ok.noex,ok.exfs,ok.funs,ok.frf⟩
section
variable {X:Cx} {pins:List (Addr×Obj)} {σ:St} {H:Hp} {s:Shared} {E:Value->Shared->Prop}
theorem Inv.wish(I:Inv X pins σ H s)(E:Value->Shared->Prop):Inv (X.wish E) pins σ H s:=⟨I.ok.wish E,I.os,I.bare,I.base,I.loc,I.cell,I.free,I.freeC,I.pin,I.hok,I.len⟩
theorem Inv.unwish(I:Inv (X.wish E) pins σ H s):Inv X pins σ H s:=⟨I.ok.unwish,I.os,I.bare,I.base,I.loc,I.cell,I.free,I.freeC,I.pin,I.hok,I.len⟩
theorem SP.unwish{D:ZeB}{f:Flow}{s':Shared}(h:SP (X.wish E) pins D f s'):SP X pins D f s':=by
 cases f with
 |next=>obtain⟨σ',H',I,q⟩:=h;exact⟨σ',H',I.unwish,q⟩
 |brk=>obtain⟨σ',H',I,q⟩:=h;exact⟨σ',H',I.unwish,q⟩
 |cont=>obtain⟨σ',H',I,q⟩:=h;exact⟨σ',H',I.unwish,q⟩
 |ret u=>obtain⟨v,σ',H',I,r,q⟩:=h;exact⟨v,σ',H',I.unwish,r,q⟩
theorem PSs.nox{st:List Stmt}{t:TS}(h:PSs X.nox st t):PSs X st t:=fun pins s σ H D I hw=>
 wpAny_mono (h pins s σ H D (I.wish _) hw) (fun _ _ q=>q.unwish) fun _ _ z=>False.elim z
end
section
variable {X:Cx} {st:Stmt} {rest:List Stmt} {t u:TS} {e:Expr} {te:TE} {pos:Pos}
def ZsO:TS:=fun D σ H=>D.nx σ H
def ZrD(t u:TS):TS:=fun D σ H=>t {D with nx:=u D} σ H
theorem ZS:PSs X [] ZsO:=fun _ _ σ H _ I h=>wpAny_execs_nil ⟨σ,H,I,h⟩
theorem Zf(h1:PS X st t)(h2:PSs X rest u):PSs X (st::rest) (ZrD t u):=by
 intro pins s σ H D I h;refine wpAny_execs_cons (thn (h1 pins s σ H {D with nx:=u D} I h) fun f s1 q=> ?_);cases f with
 |next=>
  obtain⟨σ',H',I',q⟩:=q;exact h2 pins s1 σ' H' D I' q
 |ret v=>exact q
 |brk=>exact q
 |cont=>exact q
theorem Zt(h1:PS X st t):PSs X [st] t:=by
 intro pins s σ H D I h;refine wpAny_execs_cons (thn (h1 pins s σ H D I h) fun f s1 q=> ?_);cases f with
 |next=>exact wpAny_execs_nil q
 |ret v=>exact q
 |brk=>exact q
 |cont=>exact q
theorem Inv.quiet{pins:List (Addr×Obj)}{σ:St}{H:Hp}{s:Shared}(I:Inv X pins σ H s):interactive X.env=false:=by simp[interactive,I.ok.kind]
def ZsP(te:TE):TS:=fun D σ H=>te σ H fun _ H1=>D.nx σ H1
theorem Xw(he:PE X e te)(hs:swapsWith e none pos.line X.env=pure false:=by rfl):PS X (.Expr e pos) (ZsP te):=by
 intro pins s σ H D I h;exact wpAny_Expr_any (thn (he pins s σ H _ I h) fun v s1 ⟨x,H1,I1,r1,q1⟩=>⟨σ,H1,I1,q1⟩) I.quiet hs
def ZsQ(te:TE):TS:=fun D σ H=>te σ H D.rt
theorem ZP(he:PE X e te):PS X (.Return (some e) pos) (ZsQ te):=by
 intro pins s σ H D I h;exact wpAny_Return_some (thn (he pins s σ H _ I h) fun v s1 ⟨x,H1,I1,r1,q1⟩=>⟨x,σ,H1,I1,r1,q1⟩)
def ZtF(c:TT)(t u:TS):TS:=fun D σ H=>c σ H fun b H1=>if b=true then t D σ H1 else u D σ H1
theorem Yi{c:Expr}{a b:List Stmt}{tc:TT}(hc:PT X c tc)(ha:PSs X a t)(hb:PSs X b u):PS X (.If c a b pos) (ZtF tc t u):=by
 intro pins s σ H D I h;refine wpAny_If (thn (hc pins s σ H _ I h) fun d s1 ⟨H1,I1,q1⟩=> ?_);cases d with
 |true=>exact ha pins s1 σ H1 D I1 q1
 |false=>exact hb pins s1 σ H1 D I1 q1
end
abbrev TG:=V->St->Hp->(St->Hp->Prop)->Prop
abbrev TGs:=List V->St->Hp->(St->Hp->Prop)->Prop
def PG(X:Cx)(target:Expr)(t:TG):Prop:=
 ∀(pins:List (Addr×Obj)) (s:Shared) (σ:St) (H:Hp) (v:V) (u:Value) (Q:St->Hp->Prop),Inv X pins σ H s->Ye v u->t v σ H Q->
  wpAny (model X.prog X.w) X.A (assign target X.env u) (fun _ s'=>∃σ' H',Inv X pins σ' H' s'/\Q σ' H') X.xe s
def PGs(X:Cx)(ts:List Expr)(t:TGs):Prop:=
 ∀(pins:List (Addr×Obj)) (s:Shared) (σ:St) (H:Hp) (vs:List V) (us:List Value) (Q:St->Hp->Prop),Inv X pins σ H s->Yc vs us->t vs σ H Q->
  wpAny (model X.prog X.w) X.A (assignInOrder ((assignEach ts X.env).map (·.2)) us) (fun _ s'=>∃σ' H',Inv X pins σ' H' s'/\Q σ' H') X.xe s
section
variable {X:Cx} {pos:Pos}
def ZhN(i:Nat):TG:=fun v σ H Q=>Q (σ.set i (some v)) H
theorem Yn{i:Nat}{x:Str}(hN:X.N.Nodup)(hi:X.N[i]? =some x)(hx:Loc X.env.scope x)(hf:X.fn x=true\/X.env.scope.names.lookup x=some .local:=by first|exact .inl rfl|exact .inr rfl|assumption):PG X (.Name x pos) (ZhN i):=by
 intro pins s σ H v u Q I r h;exact wpAny_assign_Name (Zgw I hN hi hx r (fun s' I'=>⟨_,H,I',h⟩) hf)
def ZsR:TGs:=fun vs σ H Q=>vs=[]/\Q σ H
def ZnP(t:TG)(u:TGs):TGs:=fun vs σ H Q=>∃v r,vs=v::r/\t v σ H fun σ' H'=>u r σ' H' Q
theorem ZeC:PGs X [] ZsR:=by
 intro pins s σ H vs us Q I r h;obtain⟨e,h⟩:=h;subst e;cases r;exact assignInOrder_nil ⟨σ,H,I,h⟩
theorem Jf{e:Expr}{es:List Expr}{t:TG}{u:TGs}(h1:PG X e t)(h2:PGs X es u)
  (hs:(assignEach (e::es) X.env).map (·.2)=assign e X.env::(assignEach es X.env).map (·.2):=by rfl):PGs X (e::es) (ZnP t u):=by
 intro pins s σ H vs us Q I r h;obtain⟨v,vr,e1,h⟩:=h;subst e1;cases r with
 |cons r rr=>
  rw[hs];refine assignInOrder_cons (thn (h1 pins s σ H _ _ _ I r h) fun _ s1 ⟨σ1,H1,I1,q1⟩=> ?_);exact h2 pins s1 σ1 H1 _ _ Q I1 rr q1
def ZrE(K:PySem.W.Frag)(n:Nat)(t:TGs):TG:=fun v σ H Q=>∃a xs,v=.ref a/\SqT K H a xs/\xs.length=n/\t xs σ H Q
theorem Zgx{es:List Expr}{k:Nat}{t:TGs}{n:Nat}(hc:X.calm=true)(h:PGs X es t)
  (hn:(assignEach es X.env).length=n:=by rfl)(hst:(assignEach es X.env).findIdx? (·.1)=none:=by rfl):PG X (.Tuple es k pos) (ZrE X.K n t):=by
 intro pins s σ H v u Q I r hw;obtain⟨a,xs,e1,hq,hl,hw⟩:=hw;subst e1;cases r;obtain⟨its,rv,ht,hz⟩:=I.tuple hq;refine assign_Tuple_tuple (I.ok.hd hc) ht (by simp[hn,<-hl,rv.length]) hst fun h' hx=> ?_;have I1:Inv X pins σ H {s with heap:=h'}:=I.kept (t':=s.toks) fun b o e=>hx b o (Nat.ne_of_lt (Heap.lt_size e)) e;exact h pins _ σ H xs _ Q I1 (by simpa using rv) hw
def ZrF(te:TE)(g:TG):TS:=fun D σ H=>te σ H fun x H1=>g x σ H1 D.nx
theorem ZnQ{tg e:Expr}{te:TE}{g:TG}(he:PE X e te)(hg:PG X tg g)(hs:swapsWithSole [tg] e pos.line X.env=pure false:=by rfl)(hw:swappedStores [tg] e X.env=pure none:=by rfl)
  (h1:(assignEach [tg] X.env).map (·.2)=[assign tg X.env]:=by rfl):PS X (.Assign [tg] e pos) (ZrF te g):=by
 intro pins s σ H D I h;refine wpAny_Assign_stores (thn (he pins s σ H _ I h) fun v s1 ⟨x,H1,I1,r1,q1⟩=> ?_) hs hw;rw[h1];exact thn (hg pins s1 σ H1 x v _ I1 r1 q1) fun _ s2 q=>q
theorem ZK{i:Nat}{x:Str}{e:Expr}{te:TE}{pos':Pos}(hN:X.N.Nodup)(hi:X.N[i]? =some x)(hx:Loc X.env.scope x)(he:PE X e te)(hs:swapsWith e (some (.Name x pos')) pos.line X.env=pure false:=by rfl)(hf:X.fn x=true\/X.env.scope.names.lookup x=some .local:=by first|exact .inl rfl|exact .inr rfl|assumption):
  PS X (.Assign [.Name x pos'] e pos) (ZrF te (ZhN i)):=by
 intro pins s σ H D I h;refine wpAny_Assign_Name (thn (he pins s σ H _ I h) fun v s1 ⟨y,H1,I1,r1,q1⟩=> ?_) hs;exact Zgw I1 hN hi hx r1 (fun s2 I2=>⟨_,H1,I2,q1⟩) hf
end
section
variable {X:Cx} {pos:Pos}
def ZrG(c:TT)(tb:TS):TS:=fun D σ H=>∃W:Nat->St->Hp->Prop,(∃m,W m σ H)/\∀m σ H,W m σ H->
 c σ H fun b H1=>if b=true then∃N:St->Hp->Prop,(∀σ' H',N σ' H'->∃m',m'<m/\W m' σ' H')/\tb {D with nx:=N,ct:=N,bk:=D.nx} σ H1 else D.nx σ H1
theorem ZnR{c:Expr}{body:List Stmt}{tc:TT}{tb:TS}(hp:PassesOwn (model X.prog X.w) X.A X.env X.xe)(hc:PT X c tc)(hb:PSs X body tb):PS X (.While c body [] pos) (ZrG tc tb):=by
 intro pins s σ H D I h;obtain⟨W,⟨m0,w0⟩,turn⟩:=h;refine wpAny_While (codeAny_whileLoop (fun n s'=>∃σ' H',Inv X pins σ' H' s'/\W n σ' H') ?_ m0 ⟨σ,H,I,w0⟩);rintro n s1 ⟨σ1,H1,I1,w1⟩;refine wpAny_passesOwn hp (thn (hc pins s1 σ1 H1 _ I1 (turn n σ1 H1 w1)) fun b s2 ⟨H2,I2,q2⟩=> ?_);cases b with
 |true=>
  obtain⟨N,hN,q2⟩:=q2;rw[if_pos rfl];refine wpAny_passesOwn hp (thn (hb pins s2 σ1 H2 _ I2 q2) fun f s3 q3=> ?_);cases f with
  |next=>
   obtain⟨σ3,H3,I3,n3⟩:=q3;obtain⟨m',hm,w3⟩:=hN σ3 H3 n3;exact⟨m',hm,σ3,H3,I3,w3⟩
  |cont=>
   obtain⟨σ3,H3,I3,n3⟩:=q3;obtain⟨m',hm,w3⟩:=hN σ3 H3 n3;exact⟨m',hm,σ3,H3,I3,w3⟩
  |brk=>exact q3
  |ret v=>exact q3
 |false=>
  rw[if_neg Bool.false_ne_true];exact wpAny_execs_nil ⟨σ1,H2,I2,q2⟩
end
structure It where
 go:Nat->Hp->Prop
 yld:Nat->Hp->V->Hp->Prop
 stop:Nat->Hp->Prop
def Zgy(X:Cx)(pins:List (Addr×Obj))(H:Hp)(b:Addr):Prop:=
 H b=none/\b≠X.env.locals/\b∉X.fs/\(b∈X.ex\/X.s₀.heap.objs.size<=b)/\(∀x c,X.env.cells.lookup x=some c->c≠b)/\∀p∈X.pn++pins,p.1≠b
theorem Inv.fpOk{X:Cx}{pins:List (Addr×Obj)}{σ:St}{H H':Hp}{s:Shared}{b:Addr}(I:Inv X pins σ H s)(hb:s.heap.objs.size<=b)(hn:H' b=none):Zgy X pins H' b:=by
 refine⟨hn,Nat.ne_of_gt (Nat.lt_of_lt_of_le I.lt hb),I.nofs hb,.inr (Nat.le_trans I.sz hb),fun x c e z=> ?_,fun p hp z=> ?_⟩
 ·obtain⟨v,q⟩:=I.cell x c e;exact absurd (Nat.lt_of_lt_of_le q.lt (by rw[z];exact hb)) (Nat.lt_irrefl _)
 ·exact absurd (Nat.lt_of_lt_of_le (Heap.lt_size (I.pin p hp).1) (by rw[z];exact hb)) (Nat.lt_irrefl _)
structure ZkH (P:Program) (w:World) (K:PySem.W.Frag) (tg:Expr) (J:It) (fp:List Addr) (it:Addr) (tn:Nat->Heap->Prop):Prop where
 mem:it∈fp
 obj:∀i h,tn i h->∀b∈fp,∃o,h.get? b=some o/\∀v,o.data≠.cell v
 keep:∀i h h',tn i h->(∀b∈fp,∀o,h.get? b=some o->h'.get? b=some o)->tn i h'
 item:∀(X:Cx),X.prog=P->X.w=w->X.K=K->X.calm=true->∀(i:Nat) (pins:List (Addr×Obj)) (s:Shared) (σ:St) (H:Hp) (E:Value->Shared->Prop),Inv X pins σ H s->(∀b∈fp,Zgy X pins H b)->tn i s.heap->J.go i H->
  wpAny (model P w) X.A (pyNext (.ref it)) (fun r s1=>∃u,r=some u/\
   wpAny (model P w) X.A (letOwnedTupleGo tg (.ref it) u) (fun _ s2=>∃x H',Inv X pins σ H' s2/\Ye x u/\J.yld i H x H'/\tn (i+1) s2.heap/\∀b∈fp,H' b=none) E s1) E s
 done:∀(X:Cx),X.prog=P->X.w=w->X.K=K->X.calm=true->∀(i:Nat) (pins:List (Addr×Obj)) (s:Shared) (σ:St) (H:Hp) (E:Value->Shared->Prop),Inv X pins σ H s->(∀b∈fp,Zgy X pins H b)->tn i s.heap->J.stop i H->
  wpAny (model P w) X.A (pyNext (.ref it)) (fun r s1=>r=none/\Inv X pins σ H s1) E s
 self:∀(A:Around) (i:Nat) (s:Shared) (Q:Value->Shared->Prop) (E:Value->Shared->Prop),tn i s.heap->Q (.ref it) s->wpAny (model P w) A (pyIter (.ref it)) Q E s
abbrev TI:=St->Hp->(It->Hp->Prop)->Prop
def PIE(X:Cx)(pins:List (Addr×Obj))(σ:St)(tg:Expr)(R:It->Hp->Prop)(itv:Value)(s2:Shared):Prop:=
 ∃(it:Addr) (fp:List Addr) (tn:Nat->Heap->Prop) (J:It) (H':Hp),itv=.ref it/\Inv X pins σ H' s2/\ZkH X.prog X.w X.K tg J fp it tn/\tn 0 s2.heap/\(∀b∈fp,Zgy X pins H' b)/\R J H'
def PI(X:Cx)(tg iter:Expr)(wi:TI):Prop:=
 ∀(pins:List (Addr×Obj)) (s:Shared) (σ:St) (H:Hp) (R:It->Hp->Prop),Inv X pins σ H s->wi σ H R->
  wpAny (model X.prog X.w) X.A (eval iter X.env) (fun v s1=>wpAny (model X.prog X.w) X.A (pyIter v) (PIE X pins σ tg R) X.xe s1) X.xe s
theorem ZlJ{M:Model}{A:Around}{E:Value->Shared->Prop}{s:Shared}{tg:Expr}{it:Addr}{u:Value}{o:Obj}{n:String}{vs:Array Value}{Q:Unit->Shared->Prop}(ho:s.heap.get? it=some o)(hc:o.cls=.type n)(hd:o.data=.fields vs)
  (hn:["enumerate","zip","dict_itemiterator","dict_reverseitemiterator","odict_iterator","itertools.zip_longest","itertools.pairwise"].contains n=false)(hQ:Q () s):wpAny M A (letOwnedTupleGo tg (.ref it) u) Q E s:=by
 unfold letOwnedTupleGo;cases tg<;>first
  |exact wpAny_pure hQ
  |(cases u<;>first
    |exact wpAny_pure hQ
    |(refine wpAny_bind (wpAny_load ho ?_)
      rw[hc,hd];show wpAny M A (if(["enumerate","zip","dict_itemiterator","dict_reverseitemiterator","odict_iterator","itertools.zip_longest","itertools.pairwise"].contains n&&vs[0]? ==some (rawInt _))=true then _ else _) Q E s;rw[if_neg (by intro h;rw[hn,Bool.false_and] at h;cases h)]
      exact wpAny_pure hQ))
def Itl(K:PySem.W.Frag)(a:Addr):It:=
 ⟨fun i H=>∃xs x,SqL K H a xs/\xs[i]? =some x,fun i H x H'=>H'=H/\∀xs,SqL K H a xs->xs[i]? =some x,fun i H=>∃xs,SqL K H a xs/\xs.length<=i⟩
def Itr(lo:Int)(n:Nat):It:=⟨fun i _=>i<n,fun i H x H'=>H'=H/\x=.int (lo+i),fun i _=>n<=i⟩
theorem ZmI{P:Program}{w:World}{K:PySem.W.Frag}{tg:Expr}(a it:Addr):ZkH P w K tg (Itl K a) [it] it (fun i h=>h.IsListIter it a i) where
 mem:=by simp
 obj:=fun i h st b hb=>by
  have e:b=it:=by simpa using hb
  subst e;obtain⟨o,e,c,d⟩:=st;exact⟨o,e,fun v z=>by rw[d] at z;cases z⟩
 keep:=fun i h h' st k=>st.at fun o e=>k it (by simp) o e
 item:=by
  intro X hP hw hK hc i pins s σ H E I hf st hg;subst hP hw hK;obtain⟨xs,x,hq,hx⟩:=hg;obtain⟨its,rv,p,hz⟩:=I.list hq;obtain⟨u,hu,ru⟩:=rv.get hx;obtain⟨f0,f1,f2,f3,f4,f5⟩:=hf it (by simp);refine wpAny_pyNext_list_item st p.isList (x:=u) (by simpa using hu) fun h' st' sb=> ?_;have I1:Inv X pins σ H {s with heap:=h'}:=I.turned (t':=s.toks) (fun b o hb e=>(sb.2 b hb).trans e) f0 f1 f3 f4 f5;obtain⟨o,e,c,d⟩:=id st'
  exact⟨u,rfl,ZlJ (s:={s with heap:=h'}) e c d (by decide) ⟨x,H,I1,ru,⟨rfl,fun ys hy=>by rw[I.list_inj hy hq];exact hx⟩,st',fun b hb=>(hf b hb).1⟩⟩
 done:=by
  intro X hP hw hK hc i pins s σ H E I hf st hg;subst hP hw hK;obtain⟨xs,hq,hx⟩:=hg;obtain⟨its,rv,p,hz⟩:=I.list hq;obtain⟨f0,f1,f2,f3,f4,f5⟩:=hf it (by simp);have hl:=rv.length;exact wpAny_pyNext_list_end (I.ok.hd hc) st p.isList (by simp;omega) fun h' eb=>⟨rfl,I.turned (t':=s.toks) (fun b o hb e=>eb b o hb e) f0 f1 f3 f4 f5⟩
 self:=fun _ _ _ _ _ st h=>wpAny_pyIter_listiter st h
theorem ZkI{P:Program}{w:World}{K:PySem.W.Frag}{tg:Expr}(it:Addr)(lo:Int)(n:Nat):ZkH P w K tg (Itr lo n) [it] it (fun i h=>IsRangeIter h it (lo+(i:Nat)*1) ((n:Int)-(i:Nat)) 1) where
 mem:=by simp
 obj:=fun i h st b hb=>by
  have e:b=it:=by simpa using hb
  subst e;exact⟨_,st,fun v z=>by
   have z':Data.fields _=Data.cell v:=z;cases z'⟩
 keep:=fun i h h' st k=>k it (by simp) _ st
 item:=by
  intro X hP hw hK hc i pins s σ H E I hf st hg;subst hP hw hK;obtain⟨f0,f1,f2,f3,f4,f5⟩:=hf it (by simp);have W:=Walks.range (prog:=X.prog) (w:=X.w) (I.ok.hd hc) it lo 1 n;refine W.item i s _ _ hg st fun v h' tk hv st' kk=> ?_;obtain⟨t,rfl⟩:=hv;have I1:Inv X pins σ H {s with heap:=h',toks:=tk}:=I.turned (fun b o hb e=>kk b o (by simpa using hb) e) f0 f1 f3 f4 f5;refine⟨_,rfl,ZlJ (s:={s with heap:=h',toks:=tk}) (n:="range_iterator") st' rfl rfl (by decide) ⟨.int (lo+i),H,I1,⟨t, ?_⟩,⟨rfl,rfl⟩,st',fun b hb=>(hf b hb).1⟩⟩
  rw[Int.mul_one]
 done:=by
  intro X hP hw hK hc i pins s σ H E I hf st hg;subst hP hw hK;obtain⟨f0,f1,f2,f3,f4,f5⟩:=hf it (by simp);exact wpAny_pyNext_range_end (I.ok.hd hc) st (by have:n<=i:=hg;omega) fun h' eb=>⟨rfl,I.turned (t':=s.toks) (fun b o hb e=>eb b o hb e) f0 f1 f3 f4 f5⟩
 self:=fun _ _ _ _ _ st h=>wpAny_pyIter_rangeiter st h
end L2
namespace L2
open PySem PySem.Spec PyProof.Rows
section
variable {X:Cx} {tg:Expr}
def ZsS(K:PySem.W.Frag)(tl:TE):TI:=fun σ H R=>tl σ H fun x H1=>∃a,x=.ref a/\(∃xs,SqL K H1 a xs)/\R (Itl K a) H1
theorem ZaA{l:Expr}{tl:TE}(hl:PE X l tl):PI X tg l (ZsS X.K tl):=by
 intro pins s σ H R I h;refine thn (hl pins s σ H _ I h) fun v s1 ⟨x,H1,I1,r1,q1⟩=> ?_;obtain⟨a,e,⟨xs,hq⟩,q⟩:=q1;subst e;cases r1;obtain⟨its,rv,p,hz⟩:=I1.list hq;refine wpAny_pyIter_list p.isList ?_;refine⟨s1.heap.objs.size,[s1.heap.objs.size],_,_,H1,rfl,I1.kept (t':=s1.toks) fun b o e=>Heap.get?_push_of_some _ e,ZmI a _,⟨_,Heap.get?_push_size _ rfl,rfl,rfl⟩,fun b hb=> ?_,q⟩;have e:b=s1.heap.objs.size:=by simpa using hb
 subst e;exact I1.fpOk (Nat.le_refl _) (I1.hok.fresh (Nat.le_refl _))
theorem ZnS{pins:List (Addr×Obj)}{σ:St}{H:Hp}{s:Shared}{R:It->Hp->Prop}{E:Value->Shared->Prop}{lo hi:Int}{t u v:Tok}{tk:Nat}(I:Inv X pins σ H s)(h1: -(2^62)<=lo)(h2:lo<2^62)(h3: -(2^62)<=hi)(h4:hi<2^62)
  (q:R (Itr lo (hi-lo).toNat) H):wpAny (model X.prog X.w) X.A (pyIter (.ref s.heap.objs.size)) (PIE X pins σ tg R) E {s with heap:=s.heap.push {cls:=.type "range",data:=.fields #[.int lo t,.int hi u,.int 1 v]},toks:=tk}:=by
 refine wpAny_pyIter_range (IsRange.new ..) (small_one h1 h2 h3 h4) ?_;have I1:Inv X pins σ H {s with heap:=s.heap.push {cls:=.type "range",data:=.fields #[.int lo t,.int hi u,.int 1 v]},toks:=tk}:=I.kept fun b o e=>Heap.get?_push_of_some _ e;refine⟨(s.heap.push {cls:=.type "range",data:=.fields #[.int lo t,.int hi u,.int 1 v]}).objs.size,[(s.heap.push {cls:=.type "range",data:=.fields #[.int lo t,.int hi u,.int 1 v]}).objs.size],_,_,H,rfl,
  I1.kept (t':=tk) fun b o e=>Heap.get?_push_of_some _ e,ZkI _ lo (hi-lo).toNat, ?_,fun b hb=> ?_,q⟩
 ·have e1:lo+((0:Nat):Int)*1=lo:=by simp
  have e2:(((hi-lo).toNat:Nat):Int)-((0:Nat):Int)=Builtin.Range.rangeSize lo hi 1:=by rw[rangeSize_one];split<;>omega
  show IsRangeIter _ _ (lo+((0:Nat):Int)*1) ((((hi-lo).toNat:Nat):Int)-((0:Nat):Int)) 1;rw[e1,e2];exact Heap.get?_push_size _ rfl
 ·have e:b=(s.heap.push {cls:=.type "range",data:=.fields #[.int lo t,.int hi u,.int 1 v]}).objs.size:=by simpa using hb
  subst e;exact I1.fpOk (Nat.le_refl _) (I1.hok.fresh (Nat.le_refl _))
def ZsT(ta:TA):TI:=fun σ H R=>ta σ H fun vs H1=>∃j:Int,vs=[.int j]/\-(2^62)<=j/\j<2^62/\R (Itr 0 j.toNat) H1
theorem ZdJ{a:Expr}{ta:TA}{p pos:Pos}(hg:Gl X "range")(hm:X.mg "range"=none)(ha:PA X [a] ta)(hs:starEach [a] X.env=[(false,eval a X.env)]:=by rfl):PI X tg (.Call (.Name "range" p) [a] [] pos) (ZsT ta):=by
 intro pins s σ H R I h;refine Call_ (ZcX I hg hm boot_range (PyProof.Rows.callWith_type1 (thn (ha pos pins s σ H _ I h) fun us s1 ⟨vs,H1,I1,r1,q1⟩=> ?_) hs rfl));obtain⟨j,e,q1,q2,q⟩:=q1;subst e;cases r1 with
 |cons r rr=>
  cases rr;obtain⟨t,rfl⟩:=r;exact call_range_1 (ZnS I1 (by omega) (by omega) q1 q2 (by simpa using q))
def ZtG(wi:TI)(g:TG)(tb:TS):TS:=fun D σ H=>wi σ H fun J H1=>∃W:Nat->Nat->St->Hp->Prop,(∃m,W 0 m σ H1)/\∀i m σ H,W i m σ H->
 (J.stop i H/\D.nx σ H)\/(J.go i H/\∃N:St->Hp->Prop,(∀σ' H',N σ' H'->∃m',m'<m/\W (i+1) m' σ' H')/\∀x H',J.yld i H x H'->g x σ H' fun σ2 H2=>tb {D with nx:=N,ct:=N,bk:=D.nx} σ2 H2)
def Zgz(fp:List Addr)(h:Heap):List (Addr×Obj):=fp.filterMap fun b=>(h.get? b).map fun o=>(b,o)
theorem Zce{fp:List Addr}{h:Heap}{b:Addr}{o:Obj}(hb:b∈fp)(e:h.get? b=some o):(b,o)∈Zgz fp h:=List.mem_filterMap.mpr ⟨b,hb,by rw[e];rfl⟩
theorem ZmJ{fp:List Addr}{h:Heap}{p:Addr×Obj}(hp:p∈Zgz fp h):p.1∈fp/\h.get? p.1=some p.2:=by
 obtain⟨b,hb,e⟩:=List.mem_filterMap.mp hp;cases q:h.get? b with
 |none=>rw[q] at e;cases e
 |some o=>
  rw[q] at e
  have e':(b,o)=p:=Option.some.inj e;subst e';exact⟨hb,q⟩
theorem Inv.pinned{pins:List (Addr×Obj)}{σ:St}{H:Hp}{s:Shared}{fp:List Addr}(I:Inv X pins σ H s)(hf:∀b∈fp,Zgy X pins H b)(ho:∀b∈fp,∃o,s.heap.get? b=some o/\∀v,o.data≠.cell v):Inv X (pins++Zgz fp s.heap) σ H s:=
 I.pins_of fun p hp=>(List.mem_append.mp hp).elim (fun z=>I.pin p (List.mem_append_right _ z)) fun z=>by
  obtain⟨hb,e⟩:=ZmJ z;obtain⟨f0,f1,f2,_⟩:=hf p.1 hb;obtain⟨o,e',d⟩:=ho p.1 hb;rw[e] at e';cases e'
  exact⟨e,f0,f1,f2,d⟩
theorem Inv.unpinned{pins pl:List (Addr×Obj)}{σ:St}{H:Hp}{s:Shared}(I:Inv X (pins++pl) σ H s):Inv X pins σ H s:=I.pins_of fun p hp=>I.pin p (List.mem_append_right _ (List.mem_append_left _ hp))
theorem ZcZ{iter:Expr}{body:List Stmt}{wi:TI}{g:TG}{tb:TS}{pos:Pos}(hp:PassesOwn (model X.prog X.w) X.A X.env X.xe)(hc:X.calm=true)(hi:PI X tg iter wi)(hg:PG X tg g)(hb:PSs X body tb)
  (hs:∀x,foldedSetIterable iter X.env x=pure x:=by intro _;rfl):PS X (.For tg iter body [] pos) (ZtG wi g tb):=by
 intro pins s σ H D I h;refine wpAny_For (thn (hi pins s σ H _ I h) fun v s1 h1=>thn h1 fun itv s2 h2=> ?_) hs;obtain⟨it,fp,tn,J,H2,e,I2,T,st2,f2,W,⟨m0,w0⟩,turn⟩:=h2;subst e;have stat:∀{H':Hp},(∀b∈fp,H' b=none)->∀b∈fp,Zgy X pins H' b:=fun hn b hb=>⟨hn b hb,(f2 b hb).2⟩
 refine codeAny_forLoop_any (fun n s'=>∃i σ' H',Inv X pins σ' H' s'/\tn i s'.heap/\(∀b∈fp,H' b=none)/\W i n σ' H') ?_ m0 ⟨0,σ,H2,I2,st2,fun b hb=>(f2 b hb).1,w0⟩;rintro n s3 ⟨i,σ3,H3,I3,st3,fr3,w3⟩;rcases turn i n σ3 H3 w3 with ⟨stop,qn⟩|⟨go,N,hN,step⟩
 ·refine wpAny_passesOwn hp (thn (T.done X rfl rfl rfl hc i pins s3 σ3 H3 X.xe I3 (stat fr3) st3 stop) fun r s4 ⟨hr,I4⟩=> ?_);subst hr;exact wpAny_execs_nil ⟨σ3,H3,I4,qn⟩
 ·refine wpAny_passesOwn hp (thn (T.item X rfl rfl rfl hc i pins s3 σ3 H3 X.xe I3 (stat fr3) st3 go) fun r s4 ⟨u,hr,h4⟩=> ?_);subst hr;refine wpAny_passesOwn hp (thn h4 fun _ s5 ⟨x,H5,I5,r5,y5,st5,fr5⟩=> ?_);have I5':=I5.pinned (stat fr5) (T.obj _ _ st5);refine wpAny_passesOwn hp (thn (hg _ s5 σ3 H5 x u _ I5' r5 (step x H5 y5)) fun _ s6 ⟨σ6,H6,I6,q6⟩=> ?_);refine wpAny_passesOwn hp (thn (hb _ s6 σ6 H6 _ I6 q6) fun f s7 q7=> ?_)
  have again:∀{σ7:St} {H7:Hp},Inv X (pins++Zgz fp s5.heap) σ7 H7 s7->N σ7 H7->∃m,m<n/\∃i σ' H',Inv X pins σ' H' s7/\tn i s7.heap/\(∀b∈fp,H' b=none)/\W i m σ' H':=fun{σ7 H7} I7 n7=>by
   obtain⟨m',hm,w7⟩:=hN σ7 H7 n7;refine⟨m',hm,i+1,σ7,H7,I7.unpinned,T.keep _ _ _ st5 fun b hb o e=>(I7.pin (b,o) (List.mem_append_right _ (List.mem_append_right _ (Zce hb e)))).1,fun b hb=> ?_,w7⟩;obtain⟨o,e,d⟩:=T.obj _ _ st5 b hb;exact(I7.pin (b,o) (List.mem_append_right _ (List.mem_append_right _ (Zce hb e)))).2.1
  cases f with
  |next=>obtain⟨σ7,H7,I7,n7⟩:=q7;exact again I7 n7
  |cont=>obtain⟨σ7,H7,I7,n7⟩:=q7;exact again I7 n7
  |brk=>obtain⟨σ7,H7,I7,q7⟩:=q7;exact⟨σ7,H7,I7.unpinned,q7⟩
  |ret v=>obtain⟨x7,σ7,H7,I7,r7,q7⟩:=q7;exact⟨x7,σ7,H7,I7.unpinned,r7,q7⟩
end
theorem ZjH{K:PySem.W.Frag}{a:Addr}{xs:List V}{g:TG}{tb:TS}{D:ZeB}{σ:St}{H:Hp}(Pv:Nat->St->Hp->Prop)(h0:Pv 0 σ H)(hl:∀i σ H,i<=xs.length->Pv i σ H->SqL K H a xs)
  (hs:∀i x σ H,xs[i]? =some x->Pv i σ H->g x σ H fun σ2 H2=>tb {D with nx:=Pv (i+1),ct:=Pv (i+1),bk:=D.nx} σ2 H2)(hd:∀σ H,Pv xs.length σ H->D.nx σ H):
  ∃W:Nat->Nat->St->Hp->Prop,(∃m,W 0 m σ H)/\∀i m σ H,W i m σ H->
   ((Itl K a).stop i H/\D.nx σ H)\/((Itl K a).go i H/\∃N:St->Hp->Prop,(∀σ' H',N σ' H'->∃m',m'<m/\W (i+1) m' σ' H')/\∀x H',(Itl K a).yld i H x H'->g x σ H' fun σ2 H2=>tb {D with nx:=N,ct:=N,bk:=D.nx} σ2 H2):=by
 refine⟨fun i m σ H=>m=xs.length-i/\i<=xs.length/\Pv i σ H,⟨xs.length,by simp,Nat.zero_le _,h0⟩, ?_⟩;rintro i m σ H ⟨rfl,hi,p⟩;have q:=hl i σ H hi p
 by_cases hlt:i<xs.length
 ·refine .inr ⟨⟨xs,xs[i],q,by simp[hlt]⟩,Pv (i+1),fun σ' H' p'=>⟨xs.length-(i+1),by omega,rfl,hlt,p'⟩,fun x H' y=> ?_⟩;obtain⟨e,y⟩:=y;subst e;exact hs i x σ _ (y xs q) p
 ·have e:i=xs.length:=by omega
  subst e;exact .inl ⟨⟨xs,q,Nat.le_refl _⟩,hd σ H p⟩
theorem ZdK{lo:Int}{n:Nat}{g:TG}{tb:TS}{D:ZeB}{σ:St}{H:Hp}(Pv:Nat->St->Hp->Prop)(h0:Pv 0 σ H)
  (hs:∀i σ H,i<n->Pv i σ H->g (.int (lo+i)) σ H fun σ2 H2=>tb {D with nx:=Pv (i+1),ct:=Pv (i+1),bk:=D.nx} σ2 H2)(hd:∀σ H,Pv n σ H->D.nx σ H):
  ∃W:Nat->Nat->St->Hp->Prop,(∃m,W 0 m σ H)/\∀i m σ H,W i m σ H->
   ((Itr lo n).stop i H/\D.nx σ H)\/((Itr lo n).go i H/\∃N:St->Hp->Prop,(∀σ' H',N σ' H'->∃m',m'<m/\W (i+1) m' σ' H')/\∀x H',(Itr lo n).yld i H x H'->g x σ H' fun σ2 H2=>tb {D with nx:=N,ct:=N,bk:=D.nx} σ2 H2):=by
 refine⟨fun i m σ H=>m=n-i/\i<=n/\Pv i σ H,⟨n,by simp,Nat.zero_le _,h0⟩, ?_⟩;rintro i m σ H ⟨rfl,hi,p⟩
 by_cases hlt:i<n
 ·refine .inr ⟨hlt,Pv (i+1),fun σ' H' p'=>⟨n-(i+1),by omega,rfl,hlt,p'⟩,fun x H' y=> ?_⟩;obtain⟨e,y⟩:=y;subst e y;exact hs i σ _ hlt p
 ·have e:i=n:=by omega
  subst e;exact .inl ⟨Nat.le_refl _,hd σ H p⟩
end L2
namespace L2
open PySem PySem.Spec PyProof.Rows
abbrev R2:=V->V->Hp->VK->Prop
def OpR(X:Cx)(f:Value->Value->Sem Value)(r:R2):Prop:=
 ∀(pins:List (Addr×Obj)) (s:Shared) (σ:St) (H:Hp) (x y:V) (v u:Value) (Q:VK),Inv X pins σ H s->Ye x v->Ye y u->r x y H Q->
  wpAny (model X.prog X.w) X.A (f v u) (EP X pins σ Q) X.xe s
def UnR(X:Cx)(f:Value->Sem Value)(r:V->Hp->VK->Prop):Prop:=
 ∀(pins:List (Addr×Obj)) (s:Shared) (σ:St) (H:Hp) (x:V) (v:Value) (Q:VK),Inv X pins σ H s->Ye x v->r x H Q->
  wpAny (model X.prog X.w) X.A (f v) (EP X pins σ Q) X.xe s
def ZaP(X:Cx)(f:Value)(r:List V->Hp->VK->Prop):Prop:=
 ∀(pins:List (Addr×Obj)) (s:Shared) (σ:St) (H:Hp) (xs:List V) (us:List Value) (Q:VK),Inv X pins σ H s->Yc xs us->r xs H Q->
  wpAny (model X.prog X.w) X.A (call f us) (EP X pins σ Q) X.xe s
def tOp(r:R2)(ta tb:TE):TE:=fun σ H Q=>ta σ H fun x H1=>tb σ H1 fun y H2=>r x y H2 Q
def tUn(r:V->Hp->VK->Prop)(ta:TE):TE:=fun σ H Q=>ta σ H fun x H1=>r x H1 Q
def rI(C:Int->Int->Prop)(g:Int->Int->V):R2:=fun x y H Q=>∃i j,x=.int i/\y=.int j/\C i j/\Q (g i j) H
def rI0(g:Int->Int->V):R2:=fun x y H Q=>∃i j,x=.int i/\y=.int j/\Q (g i j) H
def rU(g:Int->V):V->Hp->VK->Prop:=fun x H Q=>∃i,x=.int i/\Q (g i) H
section
variable {X:Cx} {a b c:Expr} {ta tb tc:TE} {pos:Pos}
theorem ZrH(ha:PE X a ta)(hb:PE X b tb){pins:List (Addr×Obj)}{s:Shared}{σ:St}{H:Hp}{R:V->V->Hp->Prop}(I:Inv X pins σ H s)
  (h:ta σ H fun x H1=>tb σ H1 fun y H2=>R x y H2){Q:Value->Shared->Prop}{f:Value->Value->Sem Value}
  (hf:∀v u s2 x y H2,Inv X pins σ H2 s2->Ye x v->Ye y u->R x y H2->wpAny (model X.prog X.w) X.A (f v u) Q X.xe s2):
  wpAny (model X.prog X.w) X.A (eval a X.env) (fun v s₁=>wpAny (model X.prog X.w) X.A (eval b X.env) (fun u s₂=>wpAny (model X.prog X.w) X.A (f v u) Q X.xe s₂) X.xe s₁) X.xe s:=by
 refine thn (ha pins s σ H _ I h) fun v s1 ⟨x,H1,I1,r1,q1⟩=> ?_;refine thn (hb pins s1 σ H1 _ I1 q1) fun u s2 ⟨y,H2,I2,r2,q2⟩=> ?_;exact hf v u s2 x y H2 I2 r1 r2 q2
theorem Zu{op:Operator}{r:R2}(ho:OpR X (binaryOp op) r)(ha:PE X a ta)(hb:PE X b tb):PE X (.BinOp a op b pos) (tOp r ta tb):=by
 intro pins s σ H Q I h;exact wpAny_BinOp (ZrH ha hb I h fun v u s2 x y H2 I2 rx ry q=>ho pins s2 σ H2 x y v u Q I2 rx ry q)
theorem Zr9{op:UnaryOp}{r:V->Hp->VK->Prop}(ho:UnR X (unaryOp op) r)(ha:PE X a ta):PE X (.UnaryOp op a pos) (tUn r ta):=by
 intro pins s σ H Q I h;exact UnaryOp_ (thn (ha pins s σ H _ I h) fun v s1 ⟨x,H1,I1,r1,q1⟩=>ho pins s1 σ H1 x v Q I1 r1 q1)
theorem opI{f:Value->Value->Sem Value}{C:Int->Int->Prop}{g:Int->Int->Int}
  (rule:∀(i j:Int) (t u:Tok) (s:Shared) (Q:Value->Shared->Prop) (E:Value->Shared->Prop),C i j->Q (.int (g i j) s.toks) {s with toks:=s.toks+1}->wpAny (model X.prog X.w) X.A (f (.int i t) (.int j u)) Q E s):
  OpR X f (rI C fun i j=> .int (g i j)):=by
 intro pins s σ H x y v u Q I rx ry h;obtain⟨i,j,rfl,rfl,hc,q⟩:=h;obtain⟨t,rfl⟩:=rx;obtain⟨t',rfl⟩:=ry;exact rule i j t t' s _ _ hc ⟨.int (g i j),H,I.tok _,⟨_,rfl⟩,q⟩
theorem ZsU{f:Value->Value->Sem Value}{g:Int->Int->Int}
  (rule:∀(i j:Int) (t u:Tok) (s:Shared) (Q:Value->Shared->Prop) (E:Value->Shared->Prop),Q (.int (g i j) s.toks) {s with toks:=s.toks+1}->wpAny (model X.prog X.w) X.A (f (.int i t) (.int j u)) Q E s):
  OpR X f (rI0 fun i j=> .int (g i j)):=by
 intro pins s σ H x y v u Q I rx ry h;obtain⟨i,j,rfl,rfl,q⟩:=h;obtain⟨t,rfl⟩:=rx;obtain⟨t',rfl⟩:=ry;exact rule i j t t' s _ _ ⟨.int (g i j),H,I.tok _,⟨_,rfl⟩,q⟩
theorem ZrI{f:Value->Value->Sem Value}{g:Int->Int->Bool}
  (rule:∀(i j:Int) (t u:Tok) (s:Shared) (Q:Value->Shared->Prop) (E:Value->Shared->Prop),Q (.bool (g i j)) s->wpAny (model X.prog X.w) X.A (f (.int i t) (.int j u)) Q E s):
  OpR X f (rI0 fun i j=> .bl (g i j)):=by
 intro pins s σ H x y v u Q I rx ry h;obtain⟨i,j,rfl,rfl,q⟩:=h;obtain⟨t,rfl⟩:=rx;obtain⟨t',rfl⟩:=ry;exact rule i j t t' s _ _ ⟨.bl (g i j),H,I,rfl,q⟩
def ZtH(i j:Int):Prop:=0<j/\j<1073741824
def ZsV(i j:Int):Prop:=0<=j/\j<=1000000/\i.natAbs<2^64
theorem Jc:OpR X (binaryOp .Add) (rI0 fun i j=> .int (i+j)):=ZsU fun _ _ _ _ _ _ _ q=>add_int q
theorem ZkJ:OpR X (binaryOp .Sub) (rI0 fun i j=> .int (i-j)):=ZsU fun _ _ _ _ _ _ _ q=>sub_int q
theorem Yy:OpR X (binaryOp .FloorDiv) (rI ZtH fun i j=> .int (i/j)):=opI fun i j _ _ _ _ _ hc q=>by
 have h1:(0:Int)<j:=hc.1;have h2:j<1073741824:=hc.2;exact floordiv_int (by omega) (by rw[Int.fdiv_eq_ediv_of_nonneg i (by omega)];exact q) (.inl (PyProof.noPylong_small (by omega)))
theorem Yt:OpR X (binaryOp .Mod) (rI (fun _ j=>0<j) fun i j=> .int (i%j)):=opI fun i j _ _ _ _ _ hc q=>by
 have h1:(0:Int)<j:=hc;exact mod_int' (by omega) (by rw[Int.fmod_eq_emod_of_nonneg i (by omega)];exact q)
theorem ZrJ:OpR X (binaryOp .Pow) (rI ZsV fun i j=> .int (i^j.toNat)):=opI fun _ _ _ _ _ _ _ hc q=>pow_int_small hc.1 hc.2.1 hc.2.2 q
theorem unI{f:Value->Sem Value}{g:Int->Int}
  (rule:∀(i:Int) (t:Tok) (s:Shared) (Q:Value->Shared->Prop) (E:Value->Shared->Prop),Q (.int (g i) s.toks) {s with toks:=s.toks+1}->wpAny (model X.prog X.w) X.A (f (.int i t)) Q E s):
  UnR X f (rU fun i=> .int (g i)):=by
 intro pins s σ H x v Q I rx h;obtain⟨i,rfl,q⟩:=h;obtain⟨t,rfl⟩:=rx;exact rule i t s _ _ ⟨.int (g i),H,I.tok _,⟨_,rfl⟩,q⟩
theorem ZnT:UnR X (unaryOp .USub) (rU fun i=> .int (-i)):=unI fun _ _ _ _ _ q=>neg_int q
end
def ZrK:V->V->Bool
 | .non,.non=>true| .non,.int _=>true| .int _,.non=>true| .non,.bl _=>true| .bl _,.non=>true| .non,.str _=>true| .str _,.non=>true
 | .int _,.int _=>true| .bl _,.bl _=>true| .str _,.str _=>true| .byt _,.byt _=>true
 | .int _,.str _=>true| .str _,.int _=>true| .bl _,.str _=>true| .str _,.bl _=>true
 |_,_=>false
def rEq:R2:=fun x y H Q=>ZrK x y=true/\Q (.bl (decide (x=y))) H
def rNe:R2:=fun x y H Q=>ZrK x y=true/\Q (.bl (!decide (x=y))) H
theorem ZlK{i j:Int}:decide (V.int i=V.int j)=(i==j):=by
 rw[Bool.eq_iff_iff];simp
theorem ZnU{i j:Bool}:decide (V.bl i=V.bl j)=(i==j):=by
 rw[Bool.eq_iff_iff];simp
theorem ZlL{i j:Str}:decide (V.str i=V.str j)=(i==j):=by
 rw[Bool.eq_iff_iff];simp
theorem ZlM{i j:Array UInt8}:decide (V.byt i=V.byt j)=(i.toList==j.toList):=by
 rw[Bool.eq_iff_iff];cases i;cases j;simp
section
variable {X:Cx} {a b c:Expr} {ta tb tc:TE} {pos:Pos}
theorem Ym{pins:List (Addr×Obj)}{σ:St}{H:Hp}{s:Shared}{Q:VK}{k k':Bool}(I:Inv X pins σ H s)(q:Q (.bl k) H)(e:k=k'):EP X pins σ Q (.bool k') s:=by
 subst e;exact⟨.bl k,H,I,rfl,q⟩
theorem XC:OpR X (compareOp .Eq) rEq:=by
 intro pins s σ H x y v u Q I rx ry h;obtain⟨hs,q⟩:=h;cases x with
 |non=>
  cases rx;cases y with
  |non=>cases ry;exact PySem.EqNone.eq_none_none (Ym I q (by simp))
  |bl j=>cases ry;exact PySem.EqNone.eq_none_bool (Ym I q (by simp))
  |int j=>obtain⟨t',rfl⟩:=ry;exact PySem.EqNone.eq_none_int (Ym I q (by simp))
  |str j=>obtain⟨t',rfl⟩:=ry;exact PySem.EqNone.eq_none_str (Ym I q (by simp))
  |_=>exact absurd (show false=true from hs) Bool.false_ne_true
 |bl i=>
  cases rx;cases y with
  |non=>cases ry;exact PySem.EqNone.eq_bool_none (Ym I q (by simp))
  |bl j=>cases ry;exact eq_bool (Ym I q ZnU)
  |str j=>obtain⟨t',rfl⟩:=ry;exact PySem.EqMixed.eq_bool_str (Ym I q (by simp))
  |_=>exact absurd (show false=true from hs) Bool.false_ne_true
 |int i=>
  obtain⟨t,rfl⟩:=rx;cases y with
  |non=>cases ry;exact PySem.EqNone.eq_int_none (Ym I q (by simp))
  |int j=>obtain⟨t',rfl⟩:=ry;exact eq_int (Ym I q ZlK)
  |str j=>obtain⟨t',rfl⟩:=ry;exact PySem.EqMixed.eq_int_str (Ym I q (by simp))
  |_=>exact absurd (show false=true from hs) Bool.false_ne_true
 |str i=>
  obtain⟨t,rfl⟩:=rx;cases y with
  |non=>cases ry;exact PySem.EqNone.eq_str_none (Ym I q (by simp))
  |bl j=>cases ry;exact PySem.EqMixed.eq_str_bool (Ym I q (by simp))
  |int j=>obtain⟨t',rfl⟩:=ry;exact PySem.EqMixed.eq_str_int (Ym I q (by simp))
  |str j=>obtain⟨t',rfl⟩:=ry;exact eq_str (Ym I q ZlL)
  |_=>exact absurd (show false=true from hs) Bool.false_ne_true
 |byt i=>
  obtain⟨t,rfl⟩:=rx;cases y with
  |byt j=>obtain⟨t',rfl⟩:=ry;exact PySem.W.eq_bytes (Ym I q ZlM)
  |_=>exact absurd (show false=true from hs) Bool.false_ne_true
 |_=>cases y<;>exact absurd (show false=true from hs) Bool.false_ne_true
theorem ZlN:OpR X (compareOp .NotEq) rNe:=by
 intro pins s σ H x y v u Q I rx ry h;obtain⟨hs,q⟩:=h;cases x with
 |non=>
  cases rx;cases y with
  |non=>cases ry;exact PySem.EqNone.ne_none_none (Ym I q (by simp))
  |bl j=>cases ry;exact PySem.EqNone.ne_none_bool (Ym I q (by simp))
  |int j=>obtain⟨t',rfl⟩:=ry;exact PySem.EqNone.ne_none_int (Ym I q (by simp))
  |str j=>obtain⟨t',rfl⟩:=ry;exact PySem.EqNone.ne_none_str (Ym I q (by simp))
  |_=>exact absurd (show false=true from hs) Bool.false_ne_true
 |bl i=>
  cases rx;cases y with
  |non=>cases ry;exact PySem.EqNone.ne_bool_none (Ym I q (by simp))
  |bl j=>cases ry;exact ne_bool (Ym I q (congrArg not ZnU))
  |str j=>obtain⟨t',rfl⟩:=ry;exact PySem.EqMixed.ne_bool_str (Ym I q (by simp))
  |_=>exact absurd (show false=true from hs) Bool.false_ne_true
 |int i=>
  obtain⟨t,rfl⟩:=rx;cases y with
  |non=>cases ry;exact PySem.EqNone.ne_int_none (Ym I q (by simp))
  |int j=>obtain⟨t',rfl⟩:=ry;exact ne_int (Ym I q (congrArg not ZlK))
  |str j=>obtain⟨t',rfl⟩:=ry;exact PySem.EqMixed.ne_int_str (Ym I q (by simp))
  |_=>exact absurd (show false=true from hs) Bool.false_ne_true
 |str i=>
  obtain⟨t,rfl⟩:=rx;cases y with
  |non=>cases ry;exact PySem.EqNone.ne_str_none (Ym I q (by simp))
  |bl j=>cases ry;exact PySem.EqMixed.ne_str_bool (Ym I q (by simp))
  |int j=>obtain⟨t',rfl⟩:=ry;exact PySem.EqMixed.ne_str_int (Ym I q (by simp))
  |str j=>obtain⟨t',rfl⟩:=ry;exact ne_str (Ym I q (congrArg not ZlL))
  |_=>exact absurd (show false=true from hs) Bool.false_ne_true
 |byt i=>
  obtain⟨t,rfl⟩:=rx;cases y with
  |byt j=>obtain⟨t',rfl⟩:=ry;exact PySem.W.ne_bytes (Ym I q (congrArg not ZlM))
  |_=>exact absurd (show false=true from hs) Bool.false_ne_true
 |_=>cases y<;>exact absurd (show false=true from hs) Bool.false_ne_true
theorem ZjI:OpR X (compareOp .Lt) (rI0 fun i j=> .bl (decide (i<j))):=ZrI fun _ _ _ _ _ _ _ q=>lt_int q
theorem ZsW:OpR X (compareOp .LtE) (rI0 fun i j=> .bl (decide (i<=j))):=ZrI fun _ _ _ _ _ _ _ q=>le_int q
theorem ZfI:OpR X (compareOp .Gt) (rI0 fun i j=> .bl (decide (j<i))):=ZrI fun _ _ _ _ _ _ _ q=>gt_int q
theorem ZmK:OpR X (compareOp .In) (fun x y H Q=>∃i j,x=.str i/\y=.str j/\Q (.bl (!(Builtin.Str.occurrences j i 0 j.length 1).isEmpty)) H):=by
 intro pins s σ H x y v u Q I rx ry h;obtain⟨i,j,rfl,rfl,q⟩:=h;obtain⟨t,rfl⟩:=rx;obtain⟨t',rfl⟩:=ry;exact in_str (Ym I q rfl)
theorem ZnV:OpR X (compareOp .Is) (fun x y H Q=>y=.non/\Q (.bl (decide (x=.non))) H):=by
 intro pins s σ H x y v u Q I rx ry h;obtain⟨rfl,q⟩:=h;cases ry;refine is_none_gen (Ym I q ?_);cases x<;>first
  |(cases rx;rfl)
  |(obtain⟨t,rfl⟩:=rx;rfl)
theorem Zga:OpR X (compareOp .IsNot) (fun x y H Q=>y=.non/\Q (.bl (!decide (x=.non))) H):=by
 intro pins s σ H x y v u Q I rx ry h;obtain⟨rfl,q⟩:=h;cases ry;refine isnot_none_gen (Ym I q ?_);cases x<;>first
  |(cases rx;rfl)
  |(obtain⟨t,rfl⟩:=rx;rfl)
theorem ZX(b:Expr){op:CmpOp}(h:op≠.In:=by decide)(h2:op≠.NotIn:=by decide):behindInMarks op b=false:=by
 have e1:(op==CmpOp.In)=false:=by cases op<;>first|rfl|exact absurd rfl h
 have e2:(op==CmpOp.NotIn)=false:=by cases op<;>first|rfl|exact absurd rfl h2
 cases b<;>simp[behindInMarks,e1,e2]
theorem ZeD{op:CmpOp}{r:R2}(ho:OpR X (compareOp op) r)(ha:PE X a ta)(hb:PE X b tb)(hm:behindInMarks op b=false):PE X (.Compare a [op] [b] pos) (tOp r ta tb):=by
 intro pins s σ H Q I h;exact wpAny_Compare1 (ZrH ha hb I h fun v u s2 x y H2 I2 rx ry q=>ho pins s2 σ H2 x y v u Q I2 rx ry q) hm
def Zra(t:TE):TT:=fun σ H Q=>t σ H fun x H'=>∃k,x=.bl k/\Q k H'
theorem ZR{op:CmpOp}{r:R2}(ho:OpR X (compareOp op) r)(ha:PE X a ta)(hb:PE X b tb)(hm:behindInMarks op b=false):PT X (.Compare a [op] [b] pos) (Zra (tOp r ta tb)):=by
 intro pins s σ H Q I h;refine wpAny_isTrue_Compare1 (thn (ha pins s σ H _ I h) fun v s1 ⟨x,H1,I1,r1,q1⟩=>thn (hb pins s1 σ H1 _ I1 q1) fun u s2 ⟨y,H2,I2,r2,q2⟩=>
  thn (ho pins s2 σ H2 x y v u _ I2 r1 r2 q2) fun c s3 ⟨z,H3,I3,r3,k,e,q3⟩=> ?_) hm
 subst e;cases r3;exact wpAny_truthy_bool ⟨H3,I3,q3⟩
theorem ZiG:(sizeLine:Nat)<2^63:=by rw[sizeLine_eq];decide
theorem Zk:OpR X (binaryOp .Add) (fun x y H Q=>∃i j,x=.str i/\y=.str j/\i.length+j.length<=sizeLine/\Q (.str (i++j)) H):=by
 intro pins s σ H x y v u Q I rx ry h;obtain⟨i,j,rfl,rfl,hz,q⟩:=h;obtain⟨t,rfl⟩:=rx;obtain⟨t',rfl⟩:=ry;exact add_str (fun t' tk=>⟨.str (i++j),H,I.tok _,⟨_,rfl⟩,q⟩) hz
theorem ZcO{x:V}{us:List Value}(r:Yc [x] us):∃u,us=[u]/\Ye x u:=by
 cases r with
 |cons r1 r2=>cases r2;exact⟨_,rfl,r1⟩
theorem ZjJ{x y:V}{us:List Value}(r:Yc [x,y] us):∃u w',us=[u,w']/\Ye x u/\Ye y w':=by
 cases r with
 |cons r1 r2=>
  cases r2 with
  |cons r3 r4=>cases r4;exact⟨_,_,rfl,r1,r3⟩
theorem ZmL(hc:X.calm=true):ZaP X (.builtin "max") (fun xs H Q=>∃i j,xs=[.int i,.int j]/\Q (.int (if j>i then j else i)) H):=by
 intro pins s σ H xs us Q I r h;obtain⟨i,j,rfl,q⟩:=h;obtain⟨u,w',rfl,⟨t,rfl⟩,⟨t',rfl⟩⟩:=ZjJ r;refine max_two_ints (I.ok.hd hc) fun h' tk k=>⟨_,H,I.kept k, ?_,q⟩
 by_cases hj:j>i
 ·rw[if_pos hj,if_pos hj];exact⟨_,rfl⟩
 ·rw[if_neg hj,if_neg hj];exact⟨_,rfl⟩
theorem Xa:ZaP X (.type "str") (fun xs H Q=>∃i,xs=[.int i]/\i.natAbs.log2<1920/\Q (.str (toString i)) H):=by
 intro pins s σ H xs us Q I r h;obtain⟨i,rfl,hz,q⟩:=h;obtain⟨u,rfl,t,rfl⟩:=ZcO r;exact PySem.P.str_of_int hz ⟨.str _,H,I.tok _,⟨_,rfl⟩,q⟩
def ZtI(K:PySem.W.Frag)(x:V)(H:Hp)(n:Nat):Prop:=
 match x with
 | .str y=>y.length<=sizeLine/\n=y.length
 | .byt y=>y.size<=sizeLine/\n=y.size
 | .ref p=>(∃xs,SqL K H p xs/\n=xs.length)\/∃xs,SqT K H p xs/\n=xs.length
 |_=>False
theorem Yr:ZaP X (.builtin "len") (fun xs H Q=>∃x n,xs=[x]/\ZtI X.K x H n/\Q (.int n) H):=by
 intro pins s σ H xs us Q I r h;obtain⟨x,n,rfl,e,q⟩:=h;obtain⟨u,rfl,rx⟩:=ZcO r;have hl:=ZiG;have hs:sizeLine=16777216:=sizeLine_eq;cases x with
 |str y=>
  obtain⟨t,rfl⟩:=rx;obtain⟨hy,e'⟩:y.length<=sizeLine/\n=y.length:=e;subst e';exact len_str (by omega) ⟨.int _,H,I.tok _,⟨_,rfl⟩,q⟩
 |byt y=>
  obtain⟨t,rfl⟩:=rx;obtain⟨hy,e'⟩:y.size<=sizeLine/\n=y.size:=e;subst e';exact PySem.W.len_bytes (by omega) ⟨.int _,H,I.tok _,⟨_,rfl⟩,q⟩
 |ref p=>
  cases rx;have e':(∃xs,SqL X.K H p xs/\n=xs.length)\/∃xs,SqT X.K H p xs/\n=xs.length:=e;rcases e' with ⟨xs,hx,e'⟩|⟨xs,hx,e'⟩
  ·subst e';obtain⟨its,r',pl,hz⟩:=I.list hx;have hlen:=r'.length;exact Calls.call_len_list pl.isList (by simp only [List.size_toArray];omega) ⟨.int xs.length,H,I.tok _,⟨_,by simp only [List.size_toArray];rw[hlen]⟩,q⟩
  ·subst e';obtain⟨its,r',pl,hz⟩:=I.tuple hx;have hlen:=r'.length;exact len_tuple pl (by simp only [List.size_toArray];omega) ⟨.int xs.length,H,I.tok _,⟨_,by simp only [List.size_toArray];rw[hlen]⟩,q⟩
 |_=>exact(show False from e).elim
end
end L2
namespace L2
open PySem PySem.Spec PyProof.Rows
structure ZkK (h:Heap) (x dx C:Addr) (mA:Str->Option Value):Prop where
 obj:h.get? x=some (PySem.W.instObj C dx)
 ns:h.Ns1 dx mA
 ne:dx≠x
theorem ZhO{h:Heap}{dx:Addr}{mA:Str->Option Value}(n:h.Ns1 dx mA):∃od,h.get? dx=some od/\∀name,PySem.W.lookIn name od=some (mA name):=by
 obtain⟨o,es,ep,ho,hd,hk,_,hm⟩:=n;refine⟨o,ho,fun name=> ?_⟩;have e:=hm name;unfold nsFind findBy at e
 rw[<-Array.find?_toList] at e
 unfold PySem.W.lookIn;rw[hd]
 dsimp only
 split
 ·rename_i y q
  rw[q] at e
  exact congrArg some e
 ·rename_i q
  rw[q] at e
  have a:es.toList.any (·.refKey)=false:=by
   rw[List.any_eq_false];intro y hy;obtain⟨z,t,hkey⟩:=hk y (Array.mem_toList_iff.mp hy);simp[DictEntry.refKey,hkey]
  have a':¬es.toList.any (·.refKey)=true:=by rw[a];exact Bool.false_ne_true
  rw[if_neg a'];exact congrArg some e
theorem ZkK.look{h:Heap}{x dx C:Addr}{mA:Str->Option Value}(I:ZkK h x dx C mA):∃od,PySem.W.InstAt h x (PySem.W.instObj C dx) C (some od)/\∀name,PySem.W.lookIn name od=some (mA name):=
 let ⟨od,ho,hl⟩:=ZhO I.ns
 ⟨od,⟨I.obj,rfl,rfl,ho⟩,hl⟩
section
variable {prog:Program} {w:World} {A:Around} {E:Value->Shared->Prop} {s:Shared} {K:PySem.W.Frag} {x dx C f:Addr} {mA:Str->Option Value} {name:Str} {v:Value}
theorem ZpL{expr:Bool}{Q:Value->Shared->Prop}(X:K.In s.heap)(I:ZkK s.heap x dx C mA)(hg:PySem.W.plainGet K C name=true)(hh:PySem.W.hasDictIn K C=true)
  (ha:PySem.W.findIn K (.ref C) name=some none)(hv:mA name=some v)(hv':PySem.W.handedIn v=true)(h:Q v {s with toks:=s.toks+1}):
  wpAny (model prog w) A (getAttr (.ref x) name expr) Q E s:=by
 obtain⟨od,J,hl⟩:=I.look;exact PySem.W.get_value X J (PySem.W.plainGet_of hg).1 (PySem.W.findObj_own hh ha rfl (by rw[hl,hv])) hv' h
theorem ZnW{pl:Sem Bool}{Q:Value×List Value->Shared->Prop}(X:K.In s.heap)(I:ZkK s.heap x dx C mA)(hg:PySem.W.plainGet K C name=true)
  (hf:PySem.W.findIn K (.ref C) name=some (some (.ref f)))(ht:PySem.W.isFn K (.ref f)=true)(hv:mA name=none)(h:Q (.ref f,[.ref x]) s):
  wpAny (model prog w) A (getMethod (.ref x) name pl) Q E s:=by
 obtain⟨od,J,hl⟩:=I.look;exact PySem.W.method_fn X J (PySem.W.plainGet_of hg).1 (PySem.W.plainGet_of hg).2 hf (beq_iff_eq.mp ht) (by show(PySem.W.lookIn name od).map (·.isSome)=some false;rw[hl,hv];rfl) h
theorem ZpM{ns:List Str}{Q:Unit->Shared->Prop}(X:K.In s.heap)(I:ZkK s.heap x dx C mA)
  (hs:PySem.W.findIn K (.ref C) "__setattr__"=some (some (.builtin "object.__setattr__")))(hp:PySem.W.plainOver K C=true)(ht:PySem.W.takerIn K C name=some none)(hh:PySem.W.hasDictIn K C=true)
  (hw:PySem.Within mA ns)(hsz:ns.length<=sizeLine)
  (h:∀h',ZkK h' x dx C (fun y=>if y=name then some v else mA y)->Heap.SameBut dx s.heap h'->Q () {s with heap:=h',toks:=s.toks+2}):
  wpAny (model prog w) A (setAttr (.ref x) name v) Q E s:=by
 obtain⟨od,J,hl⟩:=I.look;refine PySem.W.set_plain X J hs (PySem.W.osa_open (s:={s with toks:=s.toks+1}) (r:=none) X J hp ht fun b=> ?_);obtain⟨cd,hc,hd'⟩:=PySem.W.any_some hh;have hx:s.heap.get? x=some ⟨.ref C,some dx,.plain, #[]⟩:=I.obj;refine wpAny_bind (wpAny_pure (wpAny_bind (wpAny_bind (wpAny_loadPart hx (wpAny_bind (PySem.W.Looks.here (s:={s with toks:=s.toks+1}) (PySem.W.looks_clsIn X hc) ?_))))))
 rw[hd'];refine wpAny_pure (a:=some dx) (wpAny_bind (wpAny_pure (wpAny_bind ?_)));refine wpAny_nsSet1 (s:={s with toks:=s.toks+1}) I.ns fun h' hn2 hs2=> ?_;obtain⟨oD,esD,epD,hoD,hdD,hcD⟩:=hn2.count (PySem.Within.cons name v hw);refine wpAny_bind (wpAny_lookBehind hoD (by rw[hdD];exact pastItsLine_dict (Nat.le_trans hcD (by rw[List.length_cons];omega))) ?_)
 exact wpAny_pure (h _ ⟨(hs2.2 _ (Ne.symm I.ne)).trans I.obj,hn2,I.ne⟩ hs2)
theorem ZnX{R:Result->Shared->Prop}{vs:List Value}{kw:List (Str×Value)}(X:K.In s.heap)(hm:PySem.W.makesIn K C=true)
  (hi:PySem.W.findIn K (.ref C) "__init__"=some (some (.ref f)))(hf:PySem.W.typeIn K (.ref f)=some (.type "function"))
  (h:codeAny (model prog w) (A.under (.builtin "type.__call__" ⟨.ref C::vs,kw⟩)) (.call (.ref f) ⟨.ref (s.heap.objs.size+1)::vs,kw⟩) (PySem.W.InitBack (s.heap.objs.size+1) R)
   {s with heap:=(s.heap.push PySem.W.emptyDict).push (PySem.W.instObj C s.heap.objs.size)}):
  codeAny (model prog w) A (.call (.ref C) ⟨vs,kw⟩) R s:=by
 obtain⟨hh,g,d,t,os⟩:=s;exact PySem.W.make_core (PySem.W.makes_of X hm) (PySem.W.looks_findIn X hi) (fun self=>PySem.W.bind_fn X self hf) (.inl rfl) h
end
def Zc3(f:Str)(v:V):List (Str×V)->List (Str×V)
 |[]=>[(f,v)]
 |(g,x)::r=>if g=f then(g,v)::r else(g,x)::Zc3 f v r
theorem Yw(f g:Str)(v:V):∀fs:List (Str×V),(Zc3 f v fs).lookup g=if g=f then some v else fs.lookup g
 |[]=>by
  show List.lookup g [(f,v)]=_
  by_cases h:g=f
  ·have hb:(g==f)=true:=beq_iff_eq.mpr h;simp only [List.lookup,hb,if_pos h]
  ·have hb:(g==f)=false:=beq_eq_false_iff_ne.mpr h;simp only [List.lookup,hb,if_neg h]
 |(k,x)::r=>by
  have ih:=Yw f g v r;rw[show Zc3 f v ((k,x)::r)=(if k=f then(k,v)::r else(k,x)::Zc3 f v r) from rfl]
  by_cases hk:k=f
  ·rw[if_pos hk]
   by_cases h:g=k
   ·have hb:(g==k)=true:=beq_iff_eq.mpr h;simp only [List.lookup,hb,if_pos (h.trans hk)]
   ·have hb:(g==k)=false:=beq_eq_false_iff_ne.mpr h;simp only [List.lookup,hb,if_neg (fun e:g=f=>h (e.trans hk.symm))]
  ·rw[if_neg hk]
   by_cases h:g=k
   ·have hb:(g==k)=true:=beq_iff_eq.mpr h;simp only [List.lookup,hb,if_neg (fun e:g=f=>hk (h.symm.trans e))]
   ·have hb:(g==k)=false:=beq_eq_false_iff_ne.mpr h;simp only [List.lookup,hb];exact ih
theorem Zfc(f:Str)(v:V):∀fs:List (Str×V),f∈(Zc3 f v fs).map (·.1)/\∀g,g∈fs.map (·.1)->g∈(Zc3 f v fs).map (·.1)
 |[]=>⟨by simp[Zc3],fun g h=>by simp at h⟩
 |(k,x)::r=>by
  obtain⟨i1,i2⟩:=Zfc f v r;rw[show Zc3 f v ((k,x)::r)=(if k=f then(k,v)::r else(k,x)::Zc3 f v r) from rfl]
  by_cases hk:k=f
  ·rw[if_pos hk];subst hk;exact⟨by simp,fun g h=>by simpa using h⟩
  ·rw[if_neg hk];refine⟨?_,fun g h=> ?_⟩
   ·rw[List.map_cons];exact List.mem_cons_of_mem _ i1
   ·rw[List.map_cons] at h⊢
    rcases List.mem_cons.mp h with e|e
    ·exact List.mem_cons.mpr (.inl e)
    ·exact List.mem_cons_of_mem _ (i2 g e)
theorem ZfJ(f:Str)(v:V):∀fs:List (Str×V),(Zc3 f v fs).length<=fs.length+1
 |[]=>by simp[Zc3]
 |(k,x)::r=>by
  have ih:=ZfJ f v r;rw[show Zc3 f v ((k,x)::r)=(if k=f then(k,v)::r else(k,x)::Zc3 f v r) from rfl]
  by_cases hk:k=f
  ·rw[if_pos hk,List.length_cons,List.length_cons];omega
  ·rw[if_neg hk,List.length_cons,List.length_cons];omega
theorem Zcd.some_of{v:V}{o:Option Value}(r:Zcd (some v) o):∃u,o=some u/\Ye v u:=by
 cases o with
 |none=>exact(show False from r).elim
 |some u=>exact⟨u,rfl,r⟩
theorem Zcd.none_of{o:Option Value}(r:Zcd none o):o=none:=by
 cases o with
 |none=>rfl
 |some u=>exact(show False from r).elim
theorem ZhP{v:V}{u:Value}(r:Ye v u):PySem.W.handedIn u=true:=by
 cases v with
 |non=>cases(show u=Value.none from r);rfl
 |bl b=>cases(show u=Value.bool b from r);rfl
 |int i=>obtain⟨t,e⟩:=(show∃t,u=Value.int i t from r);cases e;rfl
 |str x=>obtain⟨t,e⟩:=(show∃t,u=Value.str x t from r);cases e;rfl
 |byt b=>obtain⟨t,e⟩:=(show∃t,u=Value.bytes b t from r);cases e;rfl
 |flt b=>obtain⟨t,e⟩:=(show∃t,u=Value.float b t from r);cases e;rfl
 |ref a=>cases(show u=Value.ref a from r);rfl
 |ty n=>cases(show u=Value.type n from r);rfl
section
variable {P:Program} {w:World} {H H':Hp} {h h':Heap} {a C dx:Addr} {fs fs':List (Str×V)}
theorem Zgb(hok:HOk P w H h)(e:H a=some (.ins C dx fs)):∃mA,ZkK h a dx C mA/\(∀f,Zcd (fs.lookup f) (mA f))/\PySem.Within mA (fs.map (·.1))/\fs.length<=1000/\H dx=some (.own a):=by
 obtain⟨d,z,ne,ob,mA,n,r,q⟩:=(show YD P w H h a (.ins C dx fs) from hok a _ e)
 exact⟨mA,⟨ob,n,ne⟩,r,q,z,d⟩
end
structure Cls (K:PySem.W.Frag) (C:Addr):Prop where
 pg:PySem.W.plainGet K C Str.empty=true
 hd:PySem.W.hasDictIn K C=true
 po:PySem.W.plainOver K C=true
 sa:PySem.W.findIn K (.ref C) "__setattr__"=some (some (.builtin "object.__setattr__"))
theorem Cls.get{K:PySem.W.Frag}{C:Addr}(c:Cls K C)(f:Str):PySem.W.plainGet K C f=true:=c.pg
def Jo(K:PySem.W.Frag)(C:Addr)(f:Str):Prop:=PySem.W.findIn K (.ref C) f=some none
theorem Jo.taker{K:PySem.W.Frag}{C:Addr}{f:Str}(n:Jo K C f):PySem.W.takerIn K C f=some none:=by
 unfold PySem.W.takerIn;rw[show PySem.W.findIn K (.ref C) f=some none from n]
 rfl
structure ZsX (K:PySem.W.Frag) (C:Addr) (m:Str) (f:Addr):Prop where
 at_:PySem.W.findIn K (.ref C) m=some (some (.ref f))
 fn:PySem.W.isFn K (.ref f)=true
 kp:PySem.W.keepIn K (.ref f)=true
section
variable {X:Cx} {pins:List (Addr×Obj)} {σ:St} {H:Hp} {s:Shared} {a C dx:Addr} {fs:List (Str×V)} {f:Str} {v:V} {A:Around} {E:Value->Shared->Prop}
theorem ZkL{b:Bool}{Q:Value->Shared->Prop}(I:Inv X pins σ H s)(e:H a=some (.ins C dx fs))(c:Cls X.K C)(n:Jo X.K C f)(l:fs.lookup f=some v)
  (h:∀u s',Inv X pins σ H s'->Ye v u->Q u s'):wpAny (model X.prog X.w) A (getAttr (.ref a) f b) Q E s:=by
 obtain⟨mA,O,r,_,_,_⟩:=Zgb I.hok e;obtain⟨u,hu,ru⟩:=Zcd.some_of (v:=v) (o:=mA f) (by rw[<-l];exact r f)
 exact ZpL I.kIn O (c.get f) c.hd n hu (ZhP ru) (h u _ (I.tok _) ru)
theorem ZkM{m:Str}{g:Addr}{pl:Sem Bool}{Q:Value×List Value->Shared->Prop}(I:Inv X pins σ H s)(e:H a=some (.ins C dx fs))(c:Cls X.K C)(k:ZsX X.K C m g)(l:fs.lookup m=none)
  (h:Q (.ref g,[.ref a]) s):wpAny (model X.prog X.w) A (getMethod (.ref a) m pl) Q E s:=by
 obtain⟨mA,O,r,_,_,_⟩:=Zgb I.hok e;have hn:mA m=none:=Zcd.none_of (by rw[<-l];exact r m)
 exact ZnW I.kIn O (c.get m) k.at_ k.fn hn h
theorem ZkN{y:V}{u:Value}{Q:Unit->Shared->Prop}(I:Inv X pins σ H s)(e:H a=some (.ins C dx fs))(c:Cls X.K C)(n:Jo X.K C f)(hl:fs.length<1000)(ry:Ye y u)
  (h:∀s',Inv X pins σ (upd H a (.ins C dx (Zc3 f y fs))) s'->Q () s'):wpAny (model X.prog X.w) A (setAttr (.ref a) f u) Q E s:=by
 obtain⟨mA,O,r,wi,_,ho⟩:=Zgb I.hok e;have hz:(fs.map (·.1)).length<=sizeLine:=by rw[List.length_map,sizeLine_eq];omega
 refine ZpM I.kIn O c.sa c.po n.taker c.hd wi hz fun h' O' sb=>h _ ?_;have hd:∃o,h'.get? dx=some o:=let ⟨o,_,_,e',_⟩:=O'.ns;⟨o,e'⟩;refine I.write (x:=a) (e:=dx) (by rw[e];exact True.intro) (.inr ho) (fun b q hb z=>(sb.2 b hb).trans z) hd ?_
 refine⟨by rw[Zr O.ne];exact ho, ?_,O.ne,O'.obj,_,O'.ns,fun g=> ?_,fun g hg=> ?_⟩
 ·have:=ZfJ f y fs;omega
 ·show Zcd ((Zc3 f y fs).lookup g) (if g=f then some u else mA g);rw[Yw]
  by_cases q:g=f
  ·rw[if_pos q,if_pos q];exact ry
  ·rw[if_neg q,if_neg q];exact r g
 ·by_cases q:g=f
  ·rw[q];exact(Zfc f y fs).1
  ·refine(Zfc f y fs).2 g (wi g fun z=>hg ?_);show(if g=f then some u else mA g)=none;rw[if_neg q];exact z
theorem Inv.made(I:Inv X pins σ H s):Inv X pins σ (upd (upd H s.heap.objs.size (.own (s.heap.objs.size+1))) (s.heap.objs.size+1) (.ins C s.heap.objs.size []))
  {s with heap:=(s.heap.push PySem.W.emptyDict).push (PySem.W.instObj C s.heap.objs.size)}:=by
 have e1:(s.heap.push PySem.W.emptyDict).get? s.heap.objs.size=some PySem.W.emptyDict:=Heap.get?_push_size s.heap rfl;have e2:((s.heap.push PySem.W.emptyDict).push (PySem.W.instObj C s.heap.objs.size)).get? (s.heap.objs.size+1)=some (PySem.W.instObj C s.heap.objs.size):=by
  have:=Heap.get?_push_size (s.heap.push PySem.W.emptyDict) (o:=PySem.W.instObj C s.heap.objs.size) rfl
  rwa [Heap.size_push] at this
 have e3:(s.heap.push PySem.W.emptyDict).Ns s.heap.objs.size (fun _=>none):=⟨PySem.W.emptyDict, #[],_,e1,rfl,(fun e he=>absurd he (by simp)),fun _=>rfl⟩
 have I1:=I.laid (a:=s.heap.objs.size) (o:=.own (s.heap.objs.size+1)) (h':=s.heap.push PySem.W.emptyDict) (t':=s.toks) (fun b u q=>Heap.get?_push_of_some _ q) (Nat.le_refl _) ⟨_,e1⟩;refine I1.laid (a:=s.heap.objs.size+1) (o:=.ins C s.heap.objs.size []) (t':=s.toks) (fun b u q=>Heap.get?_push_of_some _ q) (Nat.le_of_eq (Heap.size_push _ _)) ?_;have ne:s.heap.objs.size≠s.heap.objs.size+1:=Nat.ne_of_lt (Nat.lt_succ_self _)
 refine⟨by rw[Zr ne,Zc],Nat.zero_le _,ne,e2,fun _=>none,(Heap.Ns1.of_empty e3).at fun o q=>Heap.get?_push_of_some _ q,fun _=>True.intro,fun y hy=>absurd rfl hy⟩
theorem ZlO{prog:Program}{w:World}{env:Env}{e:Expr}{f:Str}{pos:Pos}{s:Shared}{Q:Value->Shared->Prop}(hb:attributeBase e f env (eval e env)=eval e env)
  (h:wpAny (model prog w) A (eval e env) (fun o s₁=>wpAny (model prog w) A (getAttr o f true) Q E s₁) E s):wpAny (model prog w) A (eval (.Attribute e f pos) env) Q E s:=
 Attribute_any_ h (by rw[arm_eval_Attribute,hb])
end
def ZtJ(K:PySem.W.Frag)(ta:TE)(f:Str):TE:=fun σ H Q=>ta σ H fun x H1=>∃a C dx fs v,x=.ref a/\H1 a=some (.ins C dx fs)/\Cls K C/\Jo K C f/\fs.lookup f=some v/\Q v H1
def ZtK(K:PySem.W.Frag)(ta tv:TE)(f:Str):TS:=fun D σ H=>tv σ H fun y H1=>ta σ H1 fun x H2=>∃a C dx fs,x=.ref a/\H2 a=some (.ins C dx fs)/\Cls K C/\Jo K C f/\fs.length<1000/\
 D.nx σ (upd H2 a (.ins C dx (Zc3 f y fs)))
section
variable {X:Cx} {o e value:Expr} {f:Str} {pos pos' tpos:Pos} {ta tv:TE}
theorem Zak(he:PE X e ta)(hb:attributeBase e f X.env (eval e X.env)=eval e X.env):PE X (.Attribute e f pos) (ZtJ X.K ta f):=by
 intro pins s σ H Q I h;refine ZlO hb (thn (he pins s σ H _ I h) fun u s1 ⟨x,H1,I1,rx,a,C,dx,fs,v,ex,ea,c,n,l,q⟩=> ?_);subst ex;obtain rfl:u=Value.ref a:=rx;exact ZkL I1 ea c n l fun u' s2 I2 ru=>⟨v,H1,I2,ru,q⟩
theorem ZiH(ha:PE X o ta)(hv:PE X value tv)(hs:swapsWith value (some (.Attribute o f pos')) pos.line X.env=pure false):PS X (.Assign [.Attribute o f pos'] value pos) (ZtK X.K ta tv f):=by
 intro pins s σ H D I h;refine plainObj_wpAny_Assign_Attribute (thn (hv pins s σ H _ I h) fun u s1 ⟨y,H1,I1,ry,q⟩=>thn (ha pins s1 σ H1 _ I1 q) fun ov s2 ⟨x,H2,I2,rx,a,C,dx,fs,ex,ea,c,n,l,q2⟩=> ?_) hs;subst ex;obtain rfl:ov=Value.ref a:=rx;exact ZkN I2 ea c n l ry fun s3 I3=>⟨σ,_,I3,q2⟩
end
section
variable {X:Cx} {pins:List (Addr×Obj)} {σ:St} {H:Hp} {s:Shared} {A:Around} {E:Value->Shared->Prop} {Q:Value->Shared->Prop} {c:Value} {b:Bool}
inductive Ze1 (K:PySem.W.Frag) (H:Hp):V->Value->Prop where
 |non:Ze1 K H .non (.type "NoneType")
 |bl (x:Bool):Ze1 K H (.bl x) (.type "bool")
 |int (i:Int):Ze1 K H (.int i) (.type "int")
 |str (x:Str):Ze1 K H (.str x) (.type "str")
 |flt (x:UInt64):Ze1 K H (.flt x) (.type "float")
 |lst {a:Addr} {xs:List V} (e:H a=some (.lst xs)):Ze1 K H (.ref a) (.type "list")
 |frz {a:Addr} {o:Obj} {xs:List V} (e:H a=some (.frz o (.lst xs))):Ze1 K H (.ref a) (.type "list")
 |tup {a:Addr} {xs:List V} (e:H a=some (.tup xs)):Ze1 K H (.ref a) (.type "tuple")
 |dK {a:Addr} {kvs:List (Key×V)} (e:H a=some (.dK kvs)):Ze1 K H (.ref a) (.type "dict")
 |dT {a:Addr} {kvs:List (List Key×V)} (e:H a=some (.dT kvs)):Ze1 K H (.ref a) (.type "dict")
 |ins {a C dx:Addr} {fs:List (Str×V)} (e:H a=some (.ins C dx fs)) (cl:Cls K C) (ha:PySem.W.findIn K (.ref C) "__class__"=some (some (.builtin "object.__class__")))
   (hn:PySem.W.specialIn K (.builtin "object.__class__") "__get__"=some (some (.builtin "getset_descriptor.__get__"))) (htk:PySem.W.takesIn K (.builtin "object.__class__")=some true)
   (hm:PySem.W.mroIn K C (.type "object")=some true):Ze1 K H (.ref a) (.ref C)
theorem ZmM{x:V}{u t:Value}(I:Inv X pins σ H s)(rx:Ye x u)(ty:Ze1 X.K H x t)(e:PySem.W.kitOne X.K t c=some b)(h:∀tk,Q (.bool b) {s with toks:=tk}):
  wpAny (model X.prog X.w) A (call (.builtin "isinstance") [u,c]) Q E s:=by
 cases ty with
 |non=>cases(show u=Value.none from rx);exact PySem.W.kia_one PySem.W.kitx_none I.kIn True.intro e (fun z=>nomatch z) h
 |bl y=>cases(show u=Value.bool y from rx);exact PySem.W.kia_one PySem.W.kitx_bool I.kIn True.intro e (fun z=>nomatch z) h
 |int i=>obtain⟨t,q⟩:=(show∃t,u=Value.int i t from rx);cases q;exact PySem.W.kia_one PySem.W.kitx_int I.kIn True.intro e (fun z=>nomatch z) h
 |str y=>obtain⟨t,q⟩:=(show∃t,u=Value.str y t from rx);cases q;exact PySem.W.kia_one PySem.W.kitx_str I.kIn True.intro e (fun z=>nomatch z) h
 |flt y=>obtain⟨t,q⟩:=(show∃t,u=Value.float y t from rx);cases q;exact PySem.W.kia_one PySem.W.kitx_float I.kIn True.intro e (fun z=>nomatch z) h
 | @lst a xs ea=>
  cases(show u=Value.ref a from rx);obtain⟨_,_,n,_,h1⟩:=(show YD X.prog X.w H s.heap a (.lst xs) from I.hok a _ ea)
  exact PySem.W.kia_one PySem.W.kitx_list I.kIn ⟨_,h1,rfl⟩ e (fun z=>nomatch z) h
 | @frz a ob xs ea=>
  cases(show u=Value.ref a from rx);obtain⟨_,_,_,n,_,h1⟩:=(show YD X.prog X.w H s.heap a (.frz ob (.lst xs)) from I.hok a _ ea)
  exact PySem.W.kia_one PySem.W.kitx_list I.kIn ⟨_,h1,rfl⟩ e (fun z=>nomatch z) h
 | @tup a xs ea=>
  cases(show u=Value.ref a from rx);obtain⟨_,_,_,p⟩:=(show YD X.prog X.w H s.heap a (.tup xs) from I.hok a _ ea)
  obtain⟨o,h1,h2,_⟩:=p;exact PySem.W.kia_one PySem.W.kitx_tuple I.kIn ⟨o,h1,h2⟩ e (fun z=>nomatch z) h
 | @dK a kvs ea=>
  cases(show u=Value.ref a from rx);obtain⟨_,_,vs,_,p⟩:=(show YD X.prog X.w H s.heap a (.dK kvs) from I.hok a _ ea)
  obtain⟨o,es,ep,h1,h2,_⟩:=p;exact PySem.W.kia_one PySem.W.kitx_dict I.kIn ⟨o,h1,h2.1⟩ e (fun z=>nomatch z) h
 | @dT a kvs ea=>
  cases(show u=Value.ref a from rx);obtain⟨_,_,xs,_,o,es,ep,h1,h2,_⟩:=(show YD X.prog X.w H s.heap a (.dT kvs) from I.hok a _ ea)
  exact PySem.W.kia_one PySem.W.kitx_dict I.kIn ⟨o,h1,h2.1⟩ e (fun z=>nomatch z) h
 | @ins a C dx fs ea cl ha hn htk hm=>
  cases(show u=Value.ref a from rx);obtain⟨mA,O,_⟩:=Zgb I.hok ea;obtain⟨od,J,_⟩:=O.look;exact PySem.W.kia_one (PySem.W.kitx_own (cl.get _) cl.hd ha hn htk hm) I.kIn J e (fun z=>nomatch z) h
end
end L2
namespace L2
open PySem PySem.Spec PyProof.Rows
structure Xb (k:Nat) (A:Around):Prop where
 hd:A.handled=none
 dp:A.depth+3*k+5<recursionLimit
 un:A.units+16*k+200<cLine
theorem Xb.mono{j k:Nat}{A:Around}(r:Xb k A)(h:j<=k):Xb j A:=⟨r.hd,by have:=r.dp;omega,by have:=r.un;omega⟩
theorem Xb.deeper{k:Nat}{A:Around}(r:Xb (k+1) A)(env:Env):Xb k (A.deeper env):=
 ⟨r.hd,by have:=r.dp;show A.depth+1+3*k+5<_;omega,by have:=r.un;show A.units+3+16*k+200<_;omega⟩
theorem Xb.in1{k:Nat}{A:Around}(r:Xb (k+1) A):Xb k A.in1:=
 ⟨r.hd,by have:=r.dp;show A.depth+3*k+5<_;omega,by have:=r.un;show A.units+1+16*k+200<_;omega⟩
theorem ZgA{A:Around}{C:Addr}{us:List Value}{kw:List (Str×Value)}:(A.under (.builtin "type.__call__" ⟨.ref C::us,kw⟩)).depth=A.depth+1:=by
 first|rfl|simp[Around.under,Code.weight,Code.isCreation,Code.isGuard,Code.isCaller,Code.frames,Code.isFrame,guardIds]
theorem ZgB{A:Around}{C:Addr}{us:List Value}{kw:List (Str×Value)}:(A.under (.builtin "type.__call__" ⟨.ref C::us,kw⟩)).units=A.units+1:=by
 first|rfl|simp[Around.under,Code.cUnits,Code.frames,Code.isFrame]
theorem Xb.make{k:Nat}{A:Around}(r:Xb (k+1) A)(C:Addr)(us:List Value)(kw:List (Str×Value)):Xb k (A.under (.builtin "type.__call__" ⟨.ref C::us,kw⟩)):=
 ⟨r.hd,by have:=r.dp;rw[ZgA];omega,by have:=r.un;rw[ZgB];omega⟩
theorem Xb.depth{k:Nat}{A:Around}(r:Xb k A):A.depth<recursionLimit:=by have:=r.dp;omega
theorem Xb.units{k:Nat}{A:Around}(r:Xb k A):A.units+64<cLine:=by have:=r.un;omega
def ZkO:TA:=fun _ H Q=>Q [] H
def ZnY(ta:TE)(tr:TA):TA:=fun σ H Q=>ta σ H fun x H1=>tr σ H1 fun xs H2=>Q (x::xs) H2
section
variable {X:Cx} {e:Expr} {es:List Expr} {te:TE} {t:TA} {pos:Pos}
theorem Ze:PA X [] ZkO:=fun _ _ _ _ H Q I h=>Calls.spliced_nil ⟨[],H,I,.nil,h⟩
theorem Za(ha:PE X e te)(hr:PA X es t)(hs:starEach (e::es) X.env=(false,eval e X.env)::starEach es X.env:=by rfl):PA X (e::es) (ZnY te t):=by
 intro pos pins s σ H Q I h;rw[hs];show wpAny _ _ (spliced ((false,eval e X.env)::backTo pos (starEach es X.env))) _ _ s;refine Calls.spliced_cons (thn (ha pins s σ H _ I h) fun u s1 ⟨x,H1,I1,r1,q1⟩=> ?_);exact thn (hr pos pins s1 σ H1 _ I1 q1) fun us s2 ⟨xs,H2,I2,r2,q2⟩=>⟨x::xs,H2,I2,.cons r1 r2,q2⟩
def ZtL(t:TA):TE:=fun σ H Q=>t σ H fun xs H1=>xs.length<=sizeLine/\∀p,H1 p=none->Q (.ref p) (upd H1 p (.tup xs))
def ZtM(t:TA):TE:=fun σ H Q=>t σ H fun xs H1=>xs.length<=sizeLine/\∀p,H1 p=none->Q (.ref p) (upd H1 p (.lst xs))
theorem Zbu{x1}(h:PA X es t):PE X (.Tuple es x1 pos) (ZtL t):=by
 intro pins s σ H Q I hq;refine wpAny_Tuple_spliced (thn (h pos pins s σ H _ I hq) fun us s1 ⟨xs,H1,I1,r,z,q⟩=>⟨by rw[<-r.length];exact z, ?_⟩)
 have hf:H1 s1.heap.objs.size=none:=I1.hok.fresh (Nat.le_refl _);refine⟨.ref s1.heap.objs.size,upd H1 s1.heap.objs.size (.tup xs),I1.laid (t':=s1.toks) (fun b u e=>Heap.get?_push_of_some _ e) (Nat.le_refl _) ?_,rfl,q _ hf⟩;exact⟨z,us,r,⟨_,Heap.get?_push_size _ rfl,rfl,_,rfl⟩⟩
theorem Yj(h:PA X es t):PE X (.List es pos) (ZtM t):=by
 intro pins s σ H Q I hq;refine wpAny_List_spliced (thn (h pos pins s σ H _ I hq) fun us s1 ⟨xs,H1,I1,r,z,q⟩=>⟨by rw[<-r.length];exact z, ?_⟩)
 have hf:H1 s1.heap.objs.size=none:=I1.hok.fresh (Nat.le_refl _);refine⟨.ref s1.heap.objs.size,upd H1 s1.heap.objs.size (.lst xs),I1.laid (t':=s1.toks) (fun b u e=>Heap.get?_push_of_some _ e) (Nat.le_refl _) ?_,rfl,q _ hf⟩;exact⟨z,us,0,r,Heap.get?_push_size _ rfl⟩
end
abbrev Sp:=List V->Hp->VK->XK->Prop
abbrev CXT:=List Env->Hp->Shared->XK->Value->Shared->Prop
structure ZgC (P:Program) (w:World) (K:PySem.W.Frag) (mg:Str->Option Value) (base:Heap) (A:Around) (outer:List Env) (s:Shared) (H:Hp):Prop where
 frames:A.frames=some outer
 mod:Mod K mg base
 bs:∀b o,base.get? b=some o->s.heap.get? b=some o/\H b=none
 bsz:base.objs.size<=s.heap.objs.size
 funs:s.heap.FunFrames base outer
 frf:∀b∈frs outer,H b=none
 hok:HOk P w H s.heap
 bare:AllBare s.gens
def CE(outer:List Env)(P:Program)(w:World)(H:Hp)(s:Shared)(Q:VK)(u:Value)(s':Shared):Prop:=
 ∃v H',s'.os=s.os/\AllBare s'.gens/\Un (frs outer) [] H H' s.heap s'.heap/\HOk P w H' s'.heap/\Ye v u/\Q v H'
def CR(CX:CXT)(outer:List Env)(P:Program)(w:World)(H:Hp)(s:Shared)(Q:VK)(E:XK)(r:Result)(s':Shared):Prop:=
 match r with
 | .ok (.ret u)=>CE outer P w H s Q u s'
 | .ok _=>False
 | .error e=>CX outer H s E e s'
structure Yo (P:Program) (w:World) (K:PySem.W.Frag) (mg:Str->Option Value) (base:Heap) (CX:CXT) (k:Nat) (f:Addr) (fd:FuncData) (ps:List Str) (sp:Sp):Prop where
 len:∀vs H Q E,sp vs H Q E->vs.length=ps.length
 run:∀(A:Around) (outer:List Env) (s:Shared) (H:Hp) (args:Args) (us:List Value) (vs:List V) (Q:VK) (E:XK),Xb k A->ZgC P w K mg base A outer s H->BindsTo s fd args (ps.zip us)->Yc vs us->sp vs H Q E->
  codeAny (model P w) A (.call (.ref f) args) (CR CX outer P w H s Q E) s
theorem ZgC.make{P:Program}{w:World}{K:PySem.W.Frag}{mg:Str->Option Value}{base:Heap}{A:Around}{outer:List Env}{s:Shared}{H:Hp}(e:ZgC P w K mg base A outer s H)(C:Addr)(us:List Value)(kw:List (Str×Value)):
  ZgC P w K mg base (A.under (.builtin "type.__call__" ⟨.ref C::us,kw⟩)) outer s H:=⟨by first|exact e.frames|(simpa [Around.under,Code.envs,Code.isFrame,pushEnvs] using e.frames),e.mod,e.bs,e.bsz,e.funs,e.frf,e.hok,e.bare⟩
theorem ZgC.in1{P:Program}{w:World}{K:PySem.W.Frag}{mg:Str->Option Value}{base:Heap}{A:Around}{outer:List Env}{s:Shared}{H:Hp}(e:ZgC P w K mg base A outer s H):
  ZgC P w K mg base A.in1 outer s H:=⟨e.frames,e.mod,e.bs,e.bsz,e.funs,e.frf,e.hok,e.bare⟩
section
variable {X:Cx} {pins:List (Addr×Obj)} {σ:St} {H:Hp} {s s':Shared}
theorem Inv.env0(I:Inv X pins σ H s):ZgC X.prog X.w X.K X.mg X.base X.A X.stack s H:=
 ⟨I.ok.frames,I.ok.mod,I.bs,Nat.le_trans I.ok.bsz I.sz,I.stack,I.stkFree,I.hok,I.bare⟩
theorem Inv.after{Q:VK}{u:Value}(I:Inv X pins σ H s)(h:CE X.stack X.prog X.w H s Q u s'):EP X pins σ Q u s':=by
 obtain⟨v,H',os,bare,un,hok,r,q⟩:=h;obtain⟨hh,g,d,t,os'⟩:=s';obtain rfl:os'=s.os:=os;exact⟨v,H',I.call (h':=hh) (g':=g) (d':=d) (t':=t) (ch:=[]) un hok bare (fun b z=>absurd z (by simp)),r,q⟩
end
def ZlP(sp:Sp)(dvs:List V)(E:XK)(t:TA):TE:=fun σ H Q=>t σ H fun vs H1=>sp (vs++dvs) H1 Q E
def Zrb(C:Addr)(sp:Sp)(dvs:List V)(E:XK)(t:TA):TE:=fun σ H Q=>t σ H fun vs H1=>∀x dx,H1 x=none->H1 dx=none->dx≠x->
 sp (.ref x::(vs++dvs)) (upd (upd H1 dx (.own x)) x (.ins C dx [])) (fun v H2=>v=.non/\Q (.ref x) H2) E
def JT(K:PySem.W.Frag)(fd:FuncData)(ps:List Str)(ds:List Value):Prop:=
 ∀(s:Shared) (us:List Value),K.In s.heap->(us++ds).length=ps.length->BindsTo s fd ⟨us,[]⟩ (ps.zip (us++ds))
theorem JT.all{K:PySem.W.Frag}{fd:FuncData}{ps:List Str}(h:∀us:List Value,us.length=ps.length->bindArgs fd ⟨us,[]⟩=pure (ps.zip us)):JT K fd ps []:=fun s us _ hl=>by
 rw[List.append_nil] at hl⊢
 exact .of_eq (h us hl)
def JV(CX:CXT)(X:Cx)(E:XK):Prop:=∀(pins:List (Addr×Obj)) (σ:St) (H:Hp) (s:Shared) (e:Value) (s':Shared),Inv X pins σ H s->CX X.stack H s E e s'->X.xe e s'
section
variable {X:Cx} {CX:CXT} {k:Nat} {f C:Addr} {fd:FuncData} {ps:List Str} {sp:Sp} {dvs:List V} {ds:List Value} {E:XK} {x m:Str} {p pos apos:Pos} {e o:Expr} {es:List Expr} {ta:TE} {t:TA}
theorem ZkP{pins:List (Addr×Obj)}{σ:St}{H:Hp}{s:Shared}{Q:VK}{us:List Value}{vs:List V}(F:Yo X.prog X.w X.K X.mg X.base CX k f fd ps sp)(hr:Xb k X.A)(hb:JT X.K fd ps ds)(hd:Yc dvs ds)(hx:JV CX X E)
  (I:Inv X pins σ H s)(r:Yc vs us)(h:sp (vs++dvs) H Q E):wpAny (model X.prog X.w) X.A (call (.ref f) us) (EP X pins σ Q) X.xe s:=by
 have r2:Yc (vs++dvs) (us++ds):=r.append hd;have hl:(us++ds).length=ps.length:=by rw[<-r2.length];exact F.len _ _ _ _ h
 refine wpAny_call (codeAny_mono (F.run X.A X.stack s H ⟨us,[]⟩ (us++ds) (vs++dvs) Q E hr I.env0 (hb s us I.kIn hl) r2 h) fun r s' hq=> ?_);cases r with
 |error e=>exact hx pins σ H s e s' I hq
 |ok fl=>
  cases fl with
  |ret u=>exact I.after hq
  |next=>exact False.elim hq
  |brk=>exact False.elim hq
  |cont=>exact False.elim hq
theorem ZpN(F:Yo X.prog X.w X.K X.mg X.base CX k f fd ps sp)(hr:Xb k X.A)(hg:Gl X x)(hm:X.mg x=some (.ref f))(hk:PySem.W.keepIn X.K (.ref f)=true)(hb:JT X.K fd ps ds)(hd:Yc dvs ds)(hx:JV CX X E)
  (ha:PA X (e::es) t)(hdb:(x==("__debug__":Str))=false:=by decide)(he:starEach (e::es) X.env=(false,eval e X.env)::starEach es X.env:=by rfl)(hpl:(backTo pos (starEach es X.env)).any (·.1)=false:=by rfl):
  PE X (.Call (.Name x p) (e::es) [] pos) (ZlP sp dvs E t):=by
 intro pins s σ H Q I h;refine wpAny_Call_Name_kw (YZ I hg hm ?_ hdb);refine PySem.W.callWith_K (h₀:=X.base) I.ok.mod.kin hk (thn (ha pos pins s σ H _ I h) fun us s1 ⟨vs,H1,I1,r,q⟩=>⟨I1.kIn, ?_⟩) he hpl;exact ZkP F hr hb hd hx I1 r q
theorem ZnZ(F:Yo X.prog X.w X.K X.mg X.base CX k f fd ps sp)(hr:Xb k X.A)(hg:Gl X x)(hm:X.mg x=some (.ref f))(hk:PySem.W.keepIn X.K (.ref f)=true)(hb:JT X.K fd ps ds)(hd:Yc dvs ds)(hx:JV CX X E)
  (hdb:(x==("__debug__":Str))=false:=by decide):PE X (.Call (.Name x p) [] [] pos) (ZlP sp dvs E ZkO):=by
 intro pins s σ H Q I h;refine wpAny_Call_Name_kw (YZ I hg hm ?_ hdb);exact PySem.W.callWith_K0 I.kIn hk (ZkP (us:=[]) F hr hb hd hx I .nil h)
structure Mk (K:PySem.W.Frag) (C f:Addr):Prop where
 makes:PySem.W.makesIn K C=true
 init:PySem.W.findIn K (.ref C) "__init__"=some (some (.ref f))
 fn:PySem.W.isFn K (.ref f)=true
 kp:PySem.W.keepIn K (.ref C)=true
theorem Zo0{pins:List (Addr×Obj)}{σ:St}{H:Hp}{s:Shared}{Q:VK}{us:List Value}{vs:List V}(M:Mk X.K C f)(F:Yo X.prog X.w X.K X.mg X.base CX k f fd ps sp)(hr:Xb (k+1) X.A)(hb:JT X.K fd ps ds)(hd:Yc dvs ds)
  (hx:JV CX X E)(I:Inv X pins σ H s)(r:Yc vs us)
  (h:∀x dx,H x=none->H dx=none->dx≠x->sp (.ref x::(vs++dvs)) (upd (upd H dx (.own x)) x (.ins C dx [])) (fun v H2=>v=.non/\Q (.ref x) H2) E):
  wpAny (model X.prog X.w) X.A (call (.ref C) us) (EP X pins σ Q) X.xe s:=by
 have hq:=h (s.heap.objs.size+1) s.heap.objs.size (I.hok.fresh (Nat.le_succ _)) (I.hok.fresh (Nat.le_refl _)) (Nat.ne_of_lt (Nat.lt_succ_self _));have I2:=Inv.made (C:=C) I;have r2:Yc (V.ref (s.heap.objs.size+1)::(vs++dvs)) (Value.ref (s.heap.objs.size+1)::(us++ds)):=.cons rfl (r.append hd);have hl:(Value.ref (s.heap.objs.size+1)::us++ds).length=ps.length:=by
  have e:=r2.length;rw[F.len _ _ _ _ hq] at e
  exact e.symm
 refine wpAny_call (ZnX (f:=f) I.kIn M.makes M.init (beq_iff_eq.mp M.fn) (codeAny_mono (F.run _ X.stack _ _ ⟨Value.ref (s.heap.objs.size+1)::us,[]⟩ (Value.ref (s.heap.objs.size+1)::(us++ds)) _ _ E (hr.make C us [])
  (I2.env0.make C us []) (hb _ (Value.ref (s.heap.objs.size+1)::us) I2.kIn hl) r2 hq) fun r s' hq'=> ?_))
 cases r with
 |error e=>exact hx pins σ _ _ e s' I2 hq'
 |ok fl=>
  cases fl with
  |ret u=>
   obtain⟨v,H',I3,rv,ev,q3⟩:=I2.after hq';subst ev;exact⟨rv,⟨V.ref (s.heap.objs.size+1),H',I3,rfl,q3⟩⟩
  |next=>exact False.elim hq'
  |brk=>exact False.elim hq'
  |cont=>exact False.elim hq'
theorem ZpO(M:Mk X.K C f)(F:Yo X.prog X.w X.K X.mg X.base CX k f fd ps sp)(hr:Xb (k+1) X.A)(hg:Gl X x)(hm:X.mg x=some (.ref C))(hb:JT X.K fd ps ds)(hd:Yc dvs ds)(hx:JV CX X E)
  (ha:PA X (e::es) t)(hdb:(x==("__debug__":Str))=false:=by decide)(he:starEach (e::es) X.env=(false,eval e X.env)::starEach es X.env:=by rfl)(hpl:(backTo pos (starEach es X.env)).any (·.1)=false:=by rfl):
  PE X (.Call (.Name x p) (e::es) [] pos) (Zrb C sp dvs E t):=by
 intro pins s σ H Q I h;refine wpAny_Call_Name_kw (YZ I hg hm ?_ hdb);refine PySem.W.callWith_K (h₀:=X.base) I.ok.mod.kin M.kp (thn (ha pos pins s σ H _ I h) fun us s1 ⟨vs,H1,I1,r,q⟩=>⟨I1.kIn, ?_⟩) he hpl;exact Zo0 M F hr hb hd hx I1 r q
end
section
variable {X:Cx} {CX:CXT} {k:Nat} {f C:Addr} {fd:FuncData} {ps ks:List Str} {sp:Sp} {E:XK} {x m:Str} {p pos apos kpos:Pos} {e o:Expr} {es:List Expr} {kws:List Keyword} {te ta:TE} {t tk:TA} {nm:Option Str}
variable {g:List Value->List Value->List Value} {gV:List V->List V->List V}
end
structure ZQ (N P:List Str) (sc:Scope):Prop where
 kind:sc.kind=.function
 co:sc.isCoroutine=false
 gen:sc.isGenerator=false
 nd:N.Nodup
 pre:N.take P.length=P
 par:∀x∈P,sc.names.lookup x=some .local\/sc.names.lookup x=some .cell
 nofree:∀y∈sc.names,y.2≠.free
theorem ZhQ{kindOf:Str->Option NameKind}{x:Str}:∀{binds:List (Str×Value)} {m:Str->Option Value},(∀v,(x,v)∉binds)->bindL kindOf binds m x=m x
 |[],_,_=>rfl
 |(n,v)::r,m,h=>by
  unfold bindL;rw[ZhQ fun w hw=>h w (List.mem_cons_of_mem _ hw)]
  split
  ·have:x≠n:=by rintro rfl;exact h v List.mem_cons_self
   simp[this]
  ·rfl
theorem ZhR{kindOf:Str->Option NameKind}{x:Str}:∀{binds:List (Str×Value)} {m:Str->Option Value},(∀v,(x,v)∉binds)->bindC kindOf binds m x=m x
 |[],_,_=>rfl
 |(n,v)::r,m,h=>by
  unfold bindC;rw[ZhR fun w hw=>h w (List.mem_cons_of_mem _ hw)]
  split
  ·rfl
  ·have:x≠n:=by rintro rfl;exact h v List.mem_cons_self
   simp[this]
theorem ZhS{kindOf:Str->Option NameKind}{x:Str}{v:Value}:∀{P:List Str} {vs:List Value} {i:Nat} {m:Str->Option Value},P.Nodup->P[i]? =some x->vs[i]? =some v->kindOf x=some .local->
  bindL kindOf (P.zip vs) m x=some v
 |[],_,_,_,_,h,_,_=>by simp at h
 |_::_,[],_,_,_,_,h,_=>by simp at h
 |p::P,w::vs,0,m,nd,h1,h2,hk=>by
  simp at h1 h2;subst h1;subst h2
  show bindL kindOf ((p,w)::P.zip vs) m p=_;unfold bindL;rw[ZhQ fun v hv=>(List.nodup_cons.mp nd).1 (List.of_mem_zip hv).1,if_pos hk];simp
 |p::P,w::vs,i+1,m,nd,h1,h2,hk=>by
  show bindL kindOf ((p,w)::P.zip vs) m x=_;unfold bindL;exact ZhS (i:=i) (List.nodup_cons.mp nd).2 (by simpa using h1) (by simpa using h2) hk
theorem ZhT{kindOf:Str->Option NameKind}{x:Str}{v:Value}:∀{P:List Str} {vs:List Value} {i:Nat} {m:Str->Option Value},P.Nodup->P[i]? =some x->vs[i]? =some v->kindOf x≠some .local->
  bindC kindOf (P.zip vs) m x=some v
 |[],_,_,_,_,h,_,_=>by simp at h
 |_::_,[],_,_,_,_,h,_=>by simp at h
 |p::P,w::vs,0,m,nd,h1,h2,hk=>by
  simp at h1 h2;subst h1;subst h2
  show bindC kindOf ((p,w)::P.zip vs) m p=_;unfold bindC;rw[ZhR fun v hv=>(List.nodup_cons.mp nd).1 (List.of_mem_zip hv).1,if_neg hk];simp
 |p::P,w::vs,i+1,m,nd,h1,h2,hk=>by
  show bindC kindOf ((p,w)::P.zip vs) m x=_;unfold bindC;exact ZhT (i:=i) (List.nodup_cons.mp nd).2 (by simpa using h1) (by simpa using h2) hk
def ZcP(N:List Str)(vs:List V):St:=vs.map some++List.replicate (N.length-vs.length) none
def ZW(CX:CXT)(P:Program)(w:World)(K:PySem.W.Frag)(mg:Str->Option Value)(base:Heap)(N:List Str)(qual:Str)(scope:Scope)(f:Addr)(cd:Value)(A:Around)(outer:List Env)(s:Shared)(H:Hp)(E:XK):Cx where
 prog:=P
 w:=w
 K:=K
 mg:=mg
 base:=base
 A:=A.deeper (envOfC qual scope s.heap.objs.size f cd)
 N:=N
 s₀:=s
 H₀:=H
 env:=envOfC qual scope s.heap.objs.size f cd
 outer:=outer
 stack:=envOfC qual scope s.heap.objs.size f cd::outer
 ex:=[]
 calm:=true
 fn:=fun _=>true
 pn:=[]
 xe:=fun e s'=>wpAny (model P w) (A.deeper (envOfC qual scope s.heap.objs.size f cd)) (leaving (envOfC qual scope s.heap.objs.size f cd) e) (fun _ s''=>CX outer H s E e s'') (fun e' s''=>CX outer H s E e' s'') s'
theorem ZjK{sc:Scope}{n:Nat}{x:Str}(h:sc.names.lookup x=some .cell):∃c,(cellsFrom n sc.names []).lookup x=some c:=by
 have q:=PySem.W.cellsFrom_some sc.names n [] (.inl h);exact Option.isSome_iff_exists.mp q
theorem ZhU{CX:CXT}{P:Program}{w:World}{K:PySem.W.Frag}{mg:Str->Option Value}{base:Heap}{N ps:List Str}{qual:Str}{scope:Scope}{f:Addr}{cd:Value}{A:Around}{outer:List Env}{s s1:Shared}{H:Hp}{E:XK}{us:List Value}{vs:List V}
  (S:ZQ N ps scope)(hd:A.handled=none)(e0:ZgC P w K mg base A outer s H)(hl:vs.length=ps.length)(r:Yc vs us)
  (x:InCallC s s.heap.objs.size (bindL (envOfC qual scope s.heap.objs.size f cd).kindOf (ps.zip us) fun _=>none) (cellsFrom (s.heap.objs.size+1) scope.names []) (bindC (envOfC qual scope s.heap.objs.size f cd).kindOf (ps.zip us) fun _=>none) s1):
  Inv (ZW CX P w K mg base N qual scope f cd A outer s H E) [] (ZcP N vs) H s1:=by
 have hpl:ps.length<=N.length:=by have:=congrArg List.length S.pre;rw[List.length_take] at this;omega
 obtain⟨h1,tk,rfl,hk⟩:=x.done;have noA:∀b:Addr,b∉(ZW CX P w K mg base N qual scope f cd A outer s H E).ex:=fun b z=>absurd (show b∈([]:List Addr) from z) (by simp);refine⟨⟨e0.mod,S.kind,rfl,rfl,Nat.le_refl _,fun y z c h1 h2=> ?_,fun y hy=> ?_,fun y c _ h=> ?_,fun _=>hd,Around.frames_deeper e0.frames,.inr ⟨rfl,rfl⟩,fun b z=>absurd z (noA b),e0.bs,e0.bsz,fun b _ _=>noA b,fun b z=>absurd z (noA b),e0.funs,e0.frf⟩,
  rfl,e0.bare,Un.kept hk,⟨_,x.toInCall.ns,fun i y v h1 h2 h3=> ?_⟩,fun y c h=>⟨_,x.cell y c h⟩,e0.hok.fresh (Nat.le_refl _),fun y c h=> ?_,fun p hp=>absurd (show p∈([]:List (Addr×Obj)) from hp) (by simp),e0.hok.kept hk, ?_⟩
 ·exact name_of_addr x.apart (PySem.mem_of_lookup h1) (PySem.mem_of_lookup h2)
 ·have hy:scope.names.lookup y=some .cell\/scope.names.lookup y=some .free:=hy;rcases hy with hy|hy
  ·exact ZjK hy
  ·exact absurd rfl (S.nofree _ (PySem.mem_of_lookup hy))
 ·exact Nat.le_of_lt (x.above y c (PySem.mem_of_lookup h))
 ·have hi:i<vs.length:=by
   unfold ZcP at h2
   by_cases hi:i<vs.length
   ·exact hi
   ·rw[List.getElem?_append_right (by simpa using hi)] at h2
    rw[List.getElem?_replicate] at h2
    split at h2<;>cases h2
  have ha:vs[i]? =some v:=by
   unfold ZcP at h2
   rw[List.getElem?_append_left (by simpa using hi),List.getElem?_map] at h2
   cases e:vs[i]? with
   |none=>rw[e] at h2;cases h2
   |some a=>rw[e] at h2;cases h2;rfl
  obtain⟨u,hu,rv⟩:=r.get ha;have hp:ps[i]? =some y:=by
   rw[<-S.pre,List.getElem?_take_of_lt (by omega)];exact h1
  have ndP:ps.Nodup:=by rw[<-S.pre];exact S.nd.sublist (List.take_sublist _ _)
  refine⟨u,rv, ?_⟩;rcases S.par y (List.mem_of_getElem? hp) with k|k
  ·exact .inl ⟨k,ZhS ndP hp hu k⟩
  ·obtain⟨c,e⟩:=ZjK (n:=s.heap.objs.size+1) k;refine .inr ⟨.inl k,c,e, ?_⟩;have q:=x.cell y c e;rw[ZhT ndP hp hu (by show scope.names.lookup y≠_;rw[k];decide)] at q
   exact q
 ·exact e0.hok.fresh (Nat.le_of_lt (x.above y c (PySem.mem_of_lookup h)))
 ·unfold ZcP;show _=N.length;rw[List.length_append,List.length_map,List.length_replicate];omega
theorem Zrc{CX:CXT}{P:Program}{w:World}{K:PySem.W.Frag}{mg:Str->Option Value}{base:Heap}{k:Nat}{f:Addr}{name qual:Str}{params:Arguments}{body:List Stmt}{scope:Scope}{dV kV doc pm cdv ct oc:Value}{an od:Option Addr}
  {osl:Array (Option Value)}{N ps:List Str}{sp:Sp}(lk:K.lookup f=some ⟨oc,od,.func (PySem.W.fnOf name qual params body scope dV kV doc pm an cdv ct),osl⟩)(hcd:PySem.W.codeIn K cdv qual=true)(S:ZQ N ps scope)
  (len:∀vs H Q E,sp vs H Q E->vs.length=ps.length)
  (hbody:∀(A:Around) (outer:List Env) (s:Shared) (H:Hp) (vs:List V) (Q:VK) (E:XK),Xb k (A.deeper (envOfC qual scope s.heap.objs.size f cdv))->sp vs H Q E->
   ∃t,PSs (ZW CX P w K mg base N qual scope f cdv A outer s H E) body t/\t {nx:=fun _ H'=>Q .non H',rt:=Q} (ZcP N vs) H):
  Yo P w K mg base CX (k+1) f (PySem.W.fnOf name qual params body scope dV kV doc pm an cdv ct) ps sp:=by
 refine⟨len,fun A outer s H args us vs Q E hr e0 hb r hsp=> ?_⟩;have hl:=len _ _ _ _ hsp;have KX:K.In s.heap:=e0.mod.kin.keeps fun b o e=>(e0.bs b o e).1;have lim:s.heap.NoLimit:=e0.mod.nolimit.keeps fun b o e=>(e0.bs b o e).1;have hkind:∀y∈ps.zip us,scope.names.lookup y.1=some .local\/(scope.names.lookup y.1=some .cell/\((cellsFrom (s.heap.objs.size+1) scope.names []).lookup y.1).isSome=true):=fun⟨n,v⟩ hy=>by
  rcases S.par n (List.of_mem_zip hy).1 with q|q
  ·exact .inl q
  ·exact .inr ⟨q,PySem.W.cellsFrom_some _ _ _ (.inl q)⟩
 refine codeAny_call_function hr.depth (KX _ _ lk) rfl S.co S.gen rfl (PySem.W.codeRec_of KX hcd) (hb _ _ _ _ ?_);refine wpAny_newFunctionEnv_cells S.kind hkind fun env he s1 x=> ?_;subst he;refine⟨lim.keeps x.toInCall.keep,codeAny_func ?_⟩;obtain⟨t,ht,hq⟩:=hbody A outer s H vs Q E (hr.deeper _) hsp;have I:Inv (ZW CX P w K mg base N qual scope f cdv A outer s H E) [] (ZcP N vs) H s1:=ZhU S hr.hd e0 hl r x
 refine wpAny_mono (ht [] s1 (ZcP N vs) H _ I hq) (fun fl s' hs=> ?_) fun e s' hs=>hs;have fin:∀{σ':St} {H':Hp} {v:V} {u:Value},Inv (ZW CX P w K mg base N qual scope f cdv A outer s H E) [] σ' H' s'->Ye v u->Q v H'->CE outer P w H s Q u s':=
  fun{σ' H' v u} J rv q=>⟨v,H',J.os,J.bare,J.base,J.hok,rv,q⟩
 cases fl with
 |ret u=>
  obtain⟨v,σ',H',J,rv,q⟩:=hs;exact fin J rv q
 |next=>
  obtain⟨σ',H',J,q⟩:=hs;exact fin (v:=V.non) (u:=Value.none) J rfl q
 |brk=>
  obtain⟨_,_,_,q⟩:=hs;exact False.elim q
 |cont=>
  obtain⟨_,_,_,q⟩:=hs;exact False.elim q
end L2
namespace L2
open PySem PySem.Spec PyProof.Rows
section
variable {X:Cx} {x:Str} {p pos:Pos} {e:Expr} {es:List Expr} {t:TA} {id T:String} {r:List V->Hp->VK->Prop}
def tCB(r:List V->Hp->VK->Prop)(t:TA):TE:=fun σ H Q=>t σ H fun vs H1=>r vs H1 Q
theorem ZZ(hc:ZaP X (.builtin id) r)(hg:Gl X x)(hm:X.mg x=none)(hv:bootBuiltins x=some (.builtin id))(ha:PA X (e::es) t)(hn:x≠"__name__":=by decide)(hdb:(x==("__debug__":Str))=false:=by decide)
  (he:starEach (e::es) X.env=(false,eval e X.env)::starEach es X.env:=by rfl)(hpl:(backTo pos (starEach es X.env)).any (·.1)=false:=by rfl):PE X (.Call (.Name x p) (e::es) [] pos) (tCB r t):=by
 intro pins s σ H Q I h;refine wpAny_Call_Name_kw (ZcX I hg hm hv ?_ hn hdb);exact PyProof.Rows.callWith_builtin1 (thn (ha pos pins s σ H _ I h) fun us s1 ⟨vs,H1,I1,r1,q1⟩=>hc pins s1 σ H1 vs us Q I1 r1 q1) he hpl
theorem XQ(hc:ZaP X (.type T) r)(hg:Gl X x)(hm:X.mg x=none)(hv:bootBuiltins x=some (.type T))(ha:PA X (e::es) t)(hn:x≠"__name__":=by decide)(hdb:(x==("__debug__":Str))=false:=by decide)
  (he:starEach (e::es) X.env=(false,eval e X.env)::starEach es X.env:=by rfl)(hpl:(backTo pos (starEach es X.env)).any (·.1)=false:=by rfl):PE X (.Call (.Name x p) (e::es) [] pos) (tCB r t):=by
 intro pins s σ H Q I h;refine wpAny_Call_Name_kw (ZcX I hg hm hv ?_ hn hdb);exact PyProof.Rows.callWith_type1 (thn (ha pos pins s σ H _ I h) fun us s1 ⟨vs,H1,I1,r1,q1⟩=>hc pins s1 σ H1 vs us Q I1 r1 q1) he hpl
end
end L2
namespace HT
open PySem PyProof.Rows
section
open PySem.SeqAt
open PySem.AutoSeq1 (wpAny_loadPart')
open PySem.MeetsSeq PySem.MeetsSeq2 PySem.MeetsSeq3
end
section
variable {prog:Program} {w:World} {A:Around} {E:Value->Shared->Prop} {s:Shared}
def sIx(n d:Nat):Option Int->Nat
 |none=>d
 |some v=>if v<0 then(v+(n:Int)).toNat else min v.toNat n
theorem ZjL(n d:Nat):sIx n d none=d:=rfl
theorem Zgc(n d k:Nat):sIx n d (some (k:Int))=min k n:=by
 show(if(k:Int)<0 then((k:Int)+(n:Int)).toNat else min (k:Int).toNat n)=min k n;rw[if_neg (by omega),Int.toNat_natCast]
end
end HT
namespace L2
open PySem PySem.Spec PyProof.Rows
abbrev TO:=St->Hp->(Option Int->Hp->Prop)->Prop
def PO(X:Cx)(e:Option Expr)(t:TO):Prop:=
 ∀(pins:List (Addr×Obj)) (s:Shared) (σ:St) (H:Hp) (Q:Option Int->Hp->Prop),Inv X pins σ H s->t σ H Q->
  wpAny (model X.prog X.w) X.A (evalPart e X.env) (fun u s'=>∃o H',Inv X pins σ H' s'/\IsPart u o/\Q o H') X.xe s
def ZpP:TO:=fun _ H Q=>Q none H
def ZsY(t:TE):TO:=fun σ H Q=>t σ H fun x H1=>∃i,x=.int i/\Q (some i) H1
section
variable {X:Cx} {e:Expr} {te:TE} {lo hi:Option Expr} {tl th:TO} {pos p2:Pos}
theorem JG:PO X none ZpP:=by
 intro pins s σ H Q I h;rw[evalPart_none];exact wpAny_pure ⟨none,H,I,.none,h⟩
theorem Jk(h:PE X e te):PO X (some e) (ZsY te):=by
 intro pins s σ H Q I hw;rw[evalPart_some];refine thn (h pins s σ H _ I hw) fun u s1 ⟨x,H1,I1,r1,q1⟩=> ?_;obtain⟨i,rfl,q⟩:=q1;obtain⟨t,rfl⟩:=r1;exact⟨some i,H1,I1,.int i t,q⟩
def SlR(X:Cx)(r:V->Option Int->Option Int->Hp->VK->Prop):Prop:=
 ∀(pins:List (Addr×Obj)) (s:Shared) (σ:St) (H:Hp) (x:V) (v vl vu:Value) (lo hi:Option Int) (sl:Addr) (Q:VK),Inv X pins σ H s->Ye x v->s.heap.IsSliceOf sl vl vu .none->IsPart vl lo->IsPart vu hi->r x lo hi H Q->
  ∃T id,typeLookup (.type T) "__getitem__"=pure (some (.builtin id))/\s.TypeIs v T/\wpAny (model X.prog X.w) X.A (getItem v (.ref sl)) (EP X pins σ Q) X.xe s
def tSl(r:V->Option Int->Option Int->Hp->VK->Prop)(te:TE)(tl th:TO):TE:=fun σ H Q=>te σ H fun x H1=>tl σ H1 fun l H2=>th σ H2 fun u H3=>r x l u H3 Q
theorem XF{r:V->Option Int->Option Int->Hp->VK->Prop}(hr:SlR X r)(he:PE X e te)(hl:PO X lo tl)(hu:PO X hi th):PE X (.Subscript e (.Slice lo hi none p2) pos) (tSl r te tl th):=by
 intro pins s σ H Q I h;refine Subscript_ (thn (he pins s σ H _ I h) fun v s1 ⟨x,H1,I1,r1,q1⟩=> ?_);refine wpAny_Slice (thn (hl pins s1 σ H1 _ I1 q1) fun vl s2 ⟨l,H2,I2,pl,q2⟩=>thn (hu pins s2 σ H2 _ I2 q2) fun vu s3 ⟨u,H3,I3,pu,q3⟩=> ?_);rw[evalPart_none];refine wpAny_pure ?_;have I4:Inv X pins σ H3 {s3 with heap:=s3.heap.push {cls:=.type "slice",data:=.fields #[vl,vu,.none]}}:=I3.kept (t':=s3.toks) fun b ob q=>Heap.get?_push_of_some _ q
 obtain⟨T,id,hT,ht,hg⟩:=hr pins {s3 with heap:=s3.heap.push {cls:=.type "slice",data:=.fields #[vl,vu,.none]}} σ H3 x v vl vu l u s3.heap.objs.size Q I4 r1 (Heap.IsSliceOf.new ..) pl pu q3;show wpAny (model X.prog X.w) X.A (subscriptTail e (.Slice lo hi none p2) v (.ref s3.heap.objs.size)) (EP X pins σ Q) X.xe {s3 with heap:=s3.heap.push {cls:=.type "slice",data:=.fields #[vl,vu,.none]}};exact tail_any (ops:=[.ref s3.heap.objs.size,v]) ht hT hg (by with_unfolding_all rfl)
def Zfd(xs:List V)(lo hi:Option Int):List V:=(xs.drop (HT.sIx xs.length 0 lo)).take (HT.sIx xs.length xs.length hi-HT.sIx xs.length 0 lo)
theorem ZjM(xs:List V)(lo hi:Option Int):(Zfd xs lo hi).length<=xs.length:=by
 unfold Zfd;rw[List.length_take,List.length_drop];omega
end
end L2
namespace L2
open PySem PySem.Spec PyProof.Rows
def ixN(n:Nat)(i:Int):Option Nat:=if 0<=i then(if i<n then some i.toNat else none) else if-(n:Int)<=i then some (i+n).toNat else none
def atI{α:Type}(xs:List α)(i:Int):Option α:=(ixN xs.length i).bind fun j=>xs[j]?
theorem ZpQ{n:Nat}{i:Int}{j:Nat}(h:ixN n i=some j):seqIndex? i n=some j/\j<n/\-(n:Int)<=i/\i<n:=by
 unfold ixN at h
 by_cases h0:0<=i
 ·rw[if_pos h0] at h
  by_cases h1:i<n
  ·rw[if_pos h1] at h
   have e:i.toNat=j:=Option.some.inj h;exact⟨by rw[seqIndex_of h0 h1,e],by omega,by omega,h1⟩
  ·rw[if_neg h1] at h;cases h
 ·rw[if_neg h0] at h
  by_cases h1: -(n:Int)<=i
  ·rw[if_pos h1] at h
   have e:(i+n).toNat=j:=Option.some.inj h;exact⟨by rw[seqIndex_neg (by omega) h1,e],by omega,h1,by omega⟩
  ·rw[if_neg h1] at h;cases h
theorem Zcf{α:Type}{xs:List α}{i:Int}{v:α}(h:atI xs i=some v):∃j,seqIndex? i xs.length=some j/\xs[j]? =some v/\j<xs.length/\-(xs.length:Int)<=i/\i<xs.length:=by
 unfold atI at h
 cases e:ixN xs.length i with
 |none=>rw[e] at h;cases h
 |some j=>
  rw[e] at h
  obtain⟨h1,h2,h3,h4⟩:=ZpQ e;exact⟨j,h1,h,h2,h3,h4⟩
def ZpR(b:Expr):Prop:=∀o i,subscripted b false o i=operate [o,i] (getItem o i)
def IxR(X:Cx)(r:R2):Prop:=
 ∀(value slice:Expr) (pins:List (Addr×Obj)) (s:Shared) (σ:St) (H:Hp) (x y:V) (v u:Value) (Q:VK),Inv X pins σ H s->Ye x v->Ye y u->r x y H Q->
  subscripted slice false v u=operate [v,u] (getItem v u)->wpAny (model X.prog X.w) X.A (subscriptTail value slice v u) (EP X pins σ Q) X.xe s
def MtR(X:Cx)(id:String)(r:V->List V->Hp->VK->Prop):Prop:=
 ∀(pins:List (Addr×Obj)) (s:Shared) (σ:St) (H:Hp) (x:V) (xs:List V) (v:Value) (us:List Value) (Q:VK),Inv X pins σ H s->Ye x v->Yc xs us->r x xs H Q->
  wpAny (model X.prog X.w) X.A (call (.builtin id) (v::us)) (EP X pins σ Q) X.xe s
section
variable {X:Cx} {a b:Expr} {ta tb:TE} {pos:Pos}
theorem YT{r:R2}(hr:IxR X r)(ha:PE X a ta)(hb:PE X b tb)(hs:ZpR b):PE X (.Subscript a b pos) (tOp r ta tb):=by
 intro pins s σ H Q I h;exact Subscript_ (ZrH ha hb I h fun v u s2 x y H2 I2 rx ry q=>hr a b pins s2 σ H2 x y v u Q I2 rx ry q (hs _ _))
def ZrL(K:PySem.W.Frag):R2:=fun x y H Q=>∃p xs i v,x=.ref p/\y=.int i/\SqL K H p xs/\atI xs i=some v/\Q v H
def ZrM(K:PySem.W.Frag):R2:=fun x y H Q=>∃p xs i v,x=.ref p/\y=.int i/\SqT K H p xs/\atI xs i=some v/\Q v H
def ZtN:R2:=fun x y H Q=>∃z i c,x=.str z/\y=.int i/\z.length<=sizeLine/\atI z.cps.toList i=some c/\Q (.str ⟨#[c]⟩) H
theorem YW:IxR X (ZrL X.K):=by
 intro value slice pins s σ H x y v u Q I rx ry h hs;obtain⟨p,xs,i,z,rfl,rfl,hq,he,q⟩:=h;cases rx;obtain⟨t,rfl⟩:=ry;obtain⟨its,r,pl,hz⟩:=I.list hq;obtain⟨j,h1,h2,h3,h4,h5⟩:=Zcf he;obtain⟨w,ew,rw'⟩:=r.get h2;have hl:=r.length;have hn:=ZiG;have fin:EP X pins σ Q w s:=⟨z,H,I,rw',q⟩
 by_cases h0:0<=i
 ·have hj:i.toNat=j:=by
   rw[seqIndex_of h0 h5] at h1
   exact Option.some.inj h1
  exact item_listR pl.isList h0 (by omega) (by rw[hj];simpa using ew) fin hs
 ·have hj:(i+(its.toArray.size:Int)).toNat=j:=by
   rw[seqIndex_neg (by omega) h4] at h1
   rw[List.size_toArray,<-hl];exact Option.some.inj h1
  exact subscriptTail_builtinR (x:=w) pl.isList.typeIs slot_list_getitem.lookup
   (wpAny_getItem_list_neg (Q:=fun r s'=>r=w/\EP X pins σ Q r s') pl.isList (by omega) (by rw[List.size_toArray]<;>omega) (by omega) (by rw[hj];simpa using ew) ⟨rfl,fin⟩) hs
theorem Zee:IxR X (ZrM X.K):=by
 intro value slice pins s σ H x y v u Q I rx ry h hs;obtain⟨p,xs,i,z,rfl,rfl,hq,he,q⟩:=h;cases rx;obtain⟨t,rfl⟩:=ry;obtain⟨its,r,pl,hz⟩:=I.tuple hq;obtain⟨j,h1,h2,h3,h4,h5⟩:=Zcf he;obtain⟨w,ew,rw'⟩:=r.get h2;have hl:=r.length;have hn:=ZiG;have fin:EP X pins σ Q w s:=⟨z,H,I,rw',q⟩
 exact subscriptTail_builtinR (x:=w) pl.typeIs slot_tuple_getitem.lookup
  (getItem_tuple (j:=j) (Q:=fun r s'=>r=w/\EP X pins σ Q r s') pl (by omega) (by omega) (by rw[List.size_toArray,<-hl];exact h1) (by simpa using ew) ⟨rfl,fin⟩) hs
theorem ZgD:IxR X ZtN:=by
 intro value slice pins s σ H x y v u Q I rx ry h hs;obtain⟨z,i,c,rfl,rfl,hz,he,q⟩:=h;obtain⟨t,rfl⟩:=rx;obtain⟨t',rfl⟩:=ry;obtain⟨j,h1,h2,h3,h4,h5⟩:=Zcf he;have hl:z.cps.toList.length=z.length:=by simp[Str.length]
 rw[hl] at h1 h4 h5
 have hn:=ZiG;exact tail_any (typeIs_str s z t) slot_str_getitem.lookup (getItem_str (c:=c) (by
  have e1:decide (i< -(2^63:Int))=false:=decide_eq_false (by omega);have e2:decide (i≥2^63)=false:=decide_eq_false (by omega);rw[e1,e2,Bool.or_false]) (by rw[h1];simpa using h2) ⟨.str ⟨#[c]⟩,H,I.tok _,⟨_,rfl⟩,q⟩) hs
theorem ZiI(lo hi:Option Int)(n:Nat):(sliceBounds lo hi none n).1=((HT.sIx n 0 lo:Nat):Int)/\(sliceBounds lo hi none n).2.1=((HT.sIx n n hi:Nat):Int)/\(sliceBounds lo hi none n).2.2=1:=by
 refine⟨?_, ?_,rfl⟩
 ·cases lo with
  |none=>simp[sliceBounds,HT.sIx]
  |some i=>
   simp only [sliceBounds,HT.sIx,Option.getD_none,show(1:Int)>0 by decide,if_true]
   by_cases h:i<0
   ·simp only [h,if_true]<;>omega
   ·simp only [h,if_false]<;>omega
 ·cases hi with
  |none=>simp[sliceBounds,HT.sIx]
  |some i=>
   simp only [sliceBounds,HT.sIx,Option.getD_none,show(1:Int)>0 by decide,if_true]
   by_cases h:i<0
   ·simp only [h,if_true]<;>omega
   ·simp only [h,if_false]<;>omega
theorem Zhw(its:List Value)(lo hi:Option Int):slicePick its.toArray lo hi none=((its.drop (HT.sIx its.length 0 lo)).take (HT.sIx its.length its.length hi-HT.sIx its.length 0 lo)).toArray:=by
 obtain⟨h1,h2,h3⟩:=ZiI lo hi its.toArray.size;unfold slicePick;rw[h1,h2,h3];simp only [sliceRange_one,pick_run,List.size_toArray]<;>rfl
def ZtO(K:PySem.W.Frag):V->Option Int->Option Int->Hp->VK->Prop:=fun x lo hi H Q=>∃a xs,x=.ref a/\SqL K H a xs/\∀p,H p=none->Q (.ref p) (upd H p (.lst (Zfd xs lo hi)))
theorem Zbk:SlR X (ZtO X.K):=by
 intro pins s σ H x v vl vu lo hi sl Q I rx hs pl pu h;obtain⟨a,xs,rfl,hx,q⟩:=h;cases rx;obtain⟨its,r,ht,hz⟩:=I.list hx;have hlen:=r.length;refine⟨"list",_,slot_list_getitem.lookup,ht.isList.typeIs, ?_⟩;refine wpAny_getItem_list_slice ht.isList hs pl pu .none (by simp) ?_ (by rw[List.size_toArray]<;>omega)
 rw[Zhw,<-hlen];refine⟨.ref s.heap.objs.size,_,I.laid (t':=s.toks) (o:=.lst (Zfd xs lo hi)) (fun b ob q=>Heap.get?_push_of_some _ q) (Nat.le_refl _) ?_,rfl,q _ (I.hok.fresh (Nat.le_refl _))⟩;exact⟨Nat.le_trans (ZjM xs lo hi) hz,_,0,(r.drop (HT.sIx xs.length 0 lo)).take (HT.sIx xs.length xs.length hi-HT.sIx xs.length 0 lo),Heap.get?_push_size _ rfl⟩
def XH:V->Bool
 | .non=>true
 | .bl _=>true
 | .int _=>true
 | .str _=>true
 |_=>false
def eqV:V->V->Bool
 | .non,.non=>true
 | .bl a,.bl b=>a==b
 | .bl a,.int b=>(if a then 1 else 0)==b
 | .int a,.bl b=>a==(if b then 1 else 0)
 | .int a,.int b=>a==b
 | .str a,.str b=>a==b
 |_,_=>false
theorem ZkQ{A:Around}{s:Shared}{y x:V}{u v:Value}(ry:Ye y u)(rx:Ye x v)(fy:XH y=true)(fx:XH x=true):SeqAt.EqAt A s u v (eqV y x):=by
 cases y with
 |non=>
  cases ry;cases x with
  |non=>cases rx;exact SeqAt.EqAt.same _
  |bl b=>cases rx;exact SeqAt.EqAt.none_bool b
  |int b=>obtain⟨t,rfl⟩:=rx;exact SeqAt.EqAt.none_int b t
  |str b=>obtain⟨t,rfl⟩:=rx;exact SeqAt.EqAt.none_str b t
  |_=>exact absurd (show false=true from fx) Bool.false_ne_true
 |bl a=>
  cases ry;cases x with
  |non=>cases rx;exact SeqAt.EqAt.bool_none a
  |bl b=>cases rx;exact SeqAt.EqAt.bool_bool a b
  |int b=>obtain⟨t,rfl⟩:=rx;exact SeqAt.EqAt.bool_int a b t
  |str b=>obtain⟨t,rfl⟩:=rx;exact SeqAt.EqAt.bool_str a b t
  |_=>exact absurd (show false=true from fx) Bool.false_ne_true
 |int a=>
  obtain⟨t',rfl⟩:=ry;cases x with
  |non=>cases rx;exact SeqAt.EqAt.int_none a t'
  |bl b=>cases rx;exact SeqAt.EqAt.int_bool a t' b
  |int b=>obtain⟨t,rfl⟩:=rx;exact SeqAt.EqAt.int_int a t' b t
  |str b=>obtain⟨t,rfl⟩:=rx;exact SeqAt.EqAt.int_str a t' b t
  |_=>exact absurd (show false=true from fx) Bool.false_ne_true
 |str a=>
  obtain⟨t',rfl⟩:=ry;cases x with
  |non=>cases rx;exact SeqAt.EqAt.str_none a t'
  |bl b=>cases rx;exact SeqAt.EqAt.str_bool a t' b
  |int b=>obtain⟨t,rfl⟩:=rx;exact SeqAt.EqAt.str_int a t' b t
  |str b=>obtain⟨t,rfl⟩:=rx;exact SeqAt.EqAt.str_str a t' b t
  |_=>exact absurd (show false=true from fx) Bool.false_ne_true
 |_=>exact absurd (show false=true from fy) Bool.false_ne_true
def eqU(x:V)(u:Value):Bool:=match u with
 | .none=>eqV .non x
 | .bool b=>eqV (.bl b) x
 | .int i _=>eqV (.int i) x
 | .str z _=>eqV (.str z) x
 |_=>false
theorem Zo1{x y:V}{u:Value}(r:Ye y u)(f:XH y=true):eqU x u=eqV y x:=by
 cases y with
 |non=>cases r;rfl
 |bl b=>cases r;rfl
 |int i=>obtain⟨t,rfl⟩:=r;rfl
 |str z=>obtain⟨t,rfl⟩:=r;rfl
 |_=>exact absurd (show false=true from f) Bool.false_ne_true
theorem ZiJ{x:V}:∀{xs:List V} {us:List Value},Yc xs us->xs.all XH=true->us.any (eqU x)=xs.any fun y=>eqV y x
 |_,_,.nil,_=>rfl
 |y::xs,u::us,.cons r t,f=>by
  rw[List.all_cons,Bool.and_eq_true] at f
  rw[List.any_cons,List.any_cons,Zo1 r f.1,ZiJ t f.2]
theorem ZgE{A:Around}{s:Shared}{x:V}{v:Value}(rx:Ye x v)(fx:XH x=true):∀{xs:List V} {us:List Value},Yc xs us->xs.all XH=true->∀u∈us,SeqAt.EqAt A s u v (eqU x u)
 |_,_,.nil,_=>fun u hu=>by cases hu
 |y::xs,u::us,.cons r t,f=>fun u' hu=>by
  rw[List.all_cons,Bool.and_eq_true] at f
  rcases List.mem_cons.mp hu with rfl|hu
  ·rw[Zo1 r f.1];exact ZkQ r rx f.1 fx
  ·exact ZgE rx fx t f.2 u' hu
def inV(x:V)(xs:List V):Bool:=xs.any fun y=>eqV y x
def rIn(K:PySem.W.Frag)(neg:Bool):R2:=fun x y H Q=>∃p xs,y=.ref p/\(SqL K H p xs\/SqT K H p xs)/\XH x=true/\xs.all XH=true/\Q (.bl (if neg then !inV x xs else inV x xs)) H
theorem ZiK:OpR X (compareOp .NotIn) (rIn X.K true):=by
 intro pins s σ H x y v u Q I rx ry h;obtain⟨p,xs,rfl,hq,fx,fs,q⟩:=h;cases ry;rcases hq with hq|hq
 ·obtain⟨its,r,pl,hz⟩:=I.list hq;refine SeqAt.notIn_listAt (eqU x) pl.isList (fun w hw=>ZgE rx fx r fs w (by simpa using hw)) ⟨.bl _,H,I,rfl, ?_⟩;rw[show its.toArray.any (eqU x)=its.any (eqU x) by simp,ZiJ r fs];exact q
 ·obtain⟨its,r,pl,hz⟩:=I.tuple hq;refine SeqAt.notIn_tupleAt (eqU x) pl (fun w hw=>ZgE rx fx r fs w (by simpa using hw)) ⟨.bl _,H,I,rfl, ?_⟩;rw[show its.toArray.any (eqU x)=its.any (eqU x) by simp,ZiJ r fs];exact q
def tyV(K:PySem.W.Frag)(T:String)(x:V)(H:Hp):Prop:=match x with
 | .str _=>T="str"
 | .int _=>T="int"
 | .ref p=>(T="list"/\∃xs,SqL K H p xs)\/(T="tuple"/\∃o,K.lookup p=some o/\o.cls=.type "tuple"/\o.dict=none)\/
   (T="dict"/\((∃kvs,H p=some (.dK kvs))\/∃kvs,H p=some (.dT kvs)))\/(T="set"/\∃S n,H p=some (.set S n))
 |_=>False
theorem ZkR{pins:List (Addr×Obj)}{σ:St}{H:Hp}{s:Shared}{T:String}{x:V}{v:Value}(I:Inv X pins σ H s)(r:Ye x v)(ty:tyV X.K T x H):
  s.TypeIs v T/\∀a,v=.ref a->∃ob,s.heap.get? a=some ob/\ob.dict=none:=by
 cases x with
 |str z=>
  obtain⟨t,rfl⟩:=r;cases(show T="str" from ty);exact⟨typeIs_str s z t,fun _ e=>nomatch e⟩
 |int i=>
  obtain⟨t,rfl⟩:=r;cases(show T="int" from ty);exact⟨typeIs_int s i t,fun _ e=>nomatch e⟩
 |ref p=>
  cases r;rcases ty with ⟨rfl,xs,hq⟩|⟨rfl,o,hk,hc,hd⟩|⟨rfl,hk⟩|⟨rfl,S,n,hk⟩
  ·obtain⟨its,_,pl,_⟩:=I.list hq;refine⟨pl.isList.typeIs,fun a e=> ?_⟩;cases e;obtain⟨o,n,e,c,hd,_⟩:=pl;exact⟨o,e,hd⟩
  ·refine⟨⟨o,I.kIn p o hk,hc⟩,fun a e=> ?_⟩;cases e;exact⟨o,I.kIn _ o hk,hd⟩
  ·have z:∃o,s.heap.get? p=some o/\o.ExactDict:=by
    rcases hk with ⟨kvs,hk⟩|⟨kvs,hk⟩
    ·obtain⟨_,_,_,_,o,_,_,e,ex,_⟩:=I.hok p _ hk;exact⟨o,e,ex⟩
    ·obtain⟨_,_,_,_,o,_,_,e,ex,_⟩:=I.hok p _ hk;exact⟨o,e,ex⟩
   obtain⟨o,e,ex⟩:=z;refine⟨⟨o,e,ex.1⟩,fun a e2=> ?_⟩;cases e2;exact⟨o,e,ex.2.1⟩
  ·obtain⟨o,_,_,_,e,ex,_⟩:=I.hok p _ hk;refine⟨⟨o,e,ex.1⟩,fun a e2=> ?_⟩;cases e2;exact⟨o,e,ex.2.1⟩
 |_=>exact False.elim ty
def ZtP(K:PySem.W.Frag)(T:String)(r:V->List V->Hp->VK->Prop)(to:TE):TE:=fun σ H Q=>to σ H fun x H1=>tyV K T x H1/\r x [] H1 Q
def tBM(K:PySem.W.Frag)(T:String)(r:V->List V->Hp->VK->Prop)(to:TE)(t:TA):TE:=fun σ H Q=>to σ H fun x H1=>tyV K T x H1/\t σ H1 fun xs H2=>r x xs H2 Q
variable {o e:Expr} {es:List Expr} {to:TE} {t:TA} {name:Str} {apos cpos:Pos} {T id:String} {r:V->List V->Hp->VK->Prop}
theorem ZrN(pa:PlainAttrs T)(slot:Slot T name id)(hty:typeOf (.builtin id)=pure (.type "method_descriptor"))(hm:MtR X id r)(ho:PE X o to)
  (hbase:attributeBase o name X.env (eval o X.env)=eval o X.env:=by rfl)(hline:(apos.endLine==cpos.line)=true:=by rfl):PE X (.Call (.Attribute o name apos) [] [] cpos) (ZtP X.K T r to):=by
 intro pins s σ H Q I h;refine wpAny_Call_method0_late hbase hline (thn (ho pins s σ H _ I h) fun v s1 ⟨x,H1,I1,r1,ty,q1⟩=> ?_);obtain⟨h1,h2⟩:=ZkR I1 r1 ty;exact⟨T,id,pa,slot,hty,h1,h2,Calls.callWith_builtin rfl (PySem.evalArgs_none (hm pins s1 σ H1 x [] v [] Q I1 r1 .nil q1))⟩
theorem Je(pa:PlainAttrs T)(slot:Slot T name id)(hty:typeOf (.builtin id)=pure (.type "method_descriptor"))(hm:MtR X id r)(ho:PE X o to)(ha:PA X (e::es) t)
  (hbase:attributeBase o name X.env (eval o X.env)=eval o X.env:=by rfl)
  (hfew:((backTo cpos (starEach (e::es) X.env)).all (fun x=> !x.1)&&(backToKw cpos (keywordEach [] X.env)).all (fun x=>x.1.isSome)
   &&decide ((e::es).length+([]:List Keyword).length+(if([]:List Keyword).isEmpty then 0 else 1)<30))=true:=by rfl)
  (hline:(apos.endLine==cpos.line)=true:=by rfl)(hs:starEach (e::es) X.env=(false,eval e X.env)::starEach es X.env:=by rfl)(hplain:(backTo cpos (starEach es X.env)).any (·.1)=false:=by rfl):
  PE X (.Call (.Attribute o name apos) (e::es) [] cpos) (tBM X.K T r to t):=by
 intro pins s σ H Q I h;refine wpAny_Call_method_late hbase hfew hline rfl (thn (ho pins s σ H _ I h) fun v s1 ⟨x,H1,I1,r1,ty,q1⟩=> ?_);obtain⟨h1,h2⟩:=ZkR I1 r1 ty;refine⟨T,id,pa,slot,hty,h1,h2, ?_⟩;have hA:=ha cpos pins s1 σ H1 _ I1 q1;rw[hs] at hA⊢
 refine Calls.callWith_builtin (by show(false||(backTo cpos (starEach es X.env)).any (·.1))=false;rw[hplain]<;>rfl) (Calls.evalArgs_plain ?_)
 exact thn hA fun us s2 ⟨vs,H2,I2,r2,q2⟩=>hm pins s2 σ H2 x vs v us Q I2 r1 r2 q2
end
end L2
namespace L2
open PySem PySem.Spec PyProof.Rows
def MtM(X:Cx)(id:String)(r:V->List V->Hp->VK->Prop):Prop:=
 ∀(pins:List (Addr×Obj)) (s:Shared) (σ:St) (H:Hp) (x:V) (xs:List V) (v:Value) (us:List Value) (Q:VK),Inv X pins σ H s->Ye x v->Yc xs us->r x xs H Q->
  wpAny (model X.prog X.w) X.A (call (.builtin id) (v::us)) (EP X pins σ Q) X.xe s
theorem Yc.one:∀{x:V} {us:List Value},Yc [x] us->∃u,us=[u]/\Ye x u
 |_,_,.cons r .nil=>⟨_,rfl,r⟩
theorem Yc.zero:∀{us:List Value},Yc [] us->us=[]
 |_,.nil=>rfl
theorem Yc.dropLast{xs:List V}{us:List Value}(h:Yc xs us):Yc xs.dropLast us.dropLast:=by
 induction h with
 |nil=>exact .nil
 |cons r t ih=>
  cases t with
  |nil=>exact .nil
  |cons q t'=>exact .cons r ih
theorem Yc.reverse{xs:List V}{us:List Value}(h:Yc xs us):Yc xs.reverse us.reverse:=by
 induction h with
 |nil=>exact .nil
 |cons r t ih=>rw[List.reverse_cons,List.reverse_cons];exact Yc.append ih (.cons r .nil)
theorem ZkS{α:Type}(l:List α):l.eraseIdx (l.length-1)=l.dropLast:=by
 induction l with
 |nil=>rfl
 |cons a r ih=>
  cases r with
  |nil=>rfl
  |cons b r=>
   have e:(a::b::r).length-1=((b::r).length-1)+1:=by
    have h1:(a::b::r).length=r.length+2:=rfl;have h2:(b::r).length=r.length+1:=rfl;omega
   rw[e,List.eraseIdx_cons_succ,ih]
   all_goals rfl
section
variable {X:Cx} {pins:List (Addr×Obj)} {σ:St} {H:Hp} {s:Shared} {l b:Addr} {xs ys zs:List V}
theorem Inv.lset{its its':List Value}{n:Nat}{f:Array Value->Array Value}{t':Nat}(I:Inv X pins σ H s)(hH:H l=some (.lst xs))
  (e:s.heap.get? l=some {cls:=.type "list",data:=.seq its.toArray n})(hf:f its.toArray=its'.toArray)(hv:Yc ys its')(hz:ys.length<=sizeLine):
  Inv X pins σ (upd H l (.lst ys)) {s with heap:=s.heap.update l (Obj.mapSeq f),toks:=t'}:=by
 have q:=PySem.IsL.update e f;rw[hf] at q
 refine I.write (x:=l) (e:=l) (by rw[hH];exact trivial) (.inl rfl) (fun b' u hb hu=>(Heap.get?_update_other s.heap (Obj.mapSeq f) (Ne.symm hb)).trans hu) ⟨_,q⟩ ?_
 exact⟨hz,its',_,hv,q⟩
theorem Inv.lnew{its:List Value}{t':Nat}(I:Inv X pins σ H s)(hv:Yc ys its)(hz:ys.length<=sizeLine):
  Inv X pins σ (upd H s.heap.objs.size (.lst ys)) {s with heap:=s.heap.push {cls:=.type "list",data:=.seq its.toArray},toks:=t'}:=
 I.laid (fun _ _ q=>Heap.get?_push_of_some _ q) (Nat.le_refl _) ⟨hz,its,0,hv,Heap.get?_push_size _ rfl⟩
theorem Inv.fresh(I:Inv X pins σ H s):H s.heap.objs.size=none:=I.hok.fresh (Nat.le_refl _)
theorem Inv.lstM(I:Inv X pins σ H s)(hH:H l=some (.lst xs)):xs.length<=sizeLine/\∃(its:List Value) (n:Nat),Yc xs its/\xs.length=its.length/\s.heap.get? l=some {cls:=.type "list",data:=.seq its.toArray n}:=by
 obtain⟨z,its,n,r,e⟩:=I.hok l _ hH;exact⟨z,its,n,r,r.length,e⟩
theorem Zo2{n:Nat}(h:n<=sizeLine):Builtin.List.listTooLong n=false:=by
 unfold Builtin.List.listTooLong;exact decide_eq_false (by omega)
end
section
variable {X:Cx}
def ZpS:V->List V->Hp->VK->Prop:=fun x vs H Q=>∃l xs y,x=.ref l/\vs=[y]/\H l=some (.lst xs)/\xs.length<sizeLine/\Q .non (upd H l (.lst (xs++[y])))
theorem XR:MtM X "list.append" ZpS:=by
 intro pins s σ H x vs v us Q I rx rv h;obtain⟨l,xs,y,rfl,rfl,hH,hz,q⟩:=h;cases rx;obtain⟨u,rfl,ru⟩:=rv.one;obtain⟨z,its,n,r,hl,e⟩:=I.lstM hH;refine call_meets F.slot_list_append ⟨_,e,rfl⟩ F.entry_list_append (F.args_list_append_2 _ _) (PySem.list_append l its.toArray n u (by rw[List.size_toArray];omega)) ⟨e, ?_⟩
 refine⟨.non,_,I.lset (its':=its++[u]) hH e (by simp) (r.append (.cons ru .nil)) ?_,rfl,q⟩;rw[List.length_append,List.length_singleton];omega
def ZpT:V->List V->Hp->VK->Prop:=fun x vs H Q=>∃l b xs zs,x=.ref l/\vs=[.ref b]/\H l=some (.lst xs)/\H b=some (.lst zs)/\xs.length+zs.length<=sizeLine/\Q .non (upd H l (.lst (xs++zs)))
theorem ZhV:MtM X "list.extend" ZpT:=by
 intro pins s σ H x vs v us Q I rx rv h;obtain⟨l,b,xs,zs,rfl,rfl,hH,hB,hz,q⟩:=h;cases rx;obtain⟨u,rfl,ru⟩:=rv.one;cases ru;obtain⟨z,its,n,r,hl,e⟩:=I.lstM hH;obtain⟨z2,its2,n2,r2,hl2,e2⟩:=I.lstM hB;have hsz:its.toArray.size+its2.toArray.size<=sizeLine:=by rw[List.size_toArray,List.size_toArray];omega
 have hlong:¬(!its.toArray.isEmpty&&Builtin.List.listTooLong (its.toArray.size+its2.toArray.size))=true:=by
  rw[Zo2 hsz,Bool.and_false];exact Bool.false_ne_true
 refine call_meets F.slot_list_extend ⟨_,e,rfl⟩ F.entry_list_extend (F.args_list_extend_2 _ _)
  (AutoSeq1.list_extend_list_list_0 l its.toArray n b its2.toArray n2 hlong (by rw[List.size_toArray];omega) (by omega)) ⟨e,e2, ?_⟩
 refine⟨.non,_,I.lset (its':=its++its2) hH e (by simp) (r.append r2) ?_,rfl,q⟩;rw[List.length_append];omega
def ZtQ:V->List V->Hp->VK->Prop:=fun x vs H Q=>∃l xs y,x=.ref l/\vs=[]/\H l=some (.lst xs)/\xs[xs.length-1]? =some y/\Q y (upd H l (.lst xs.dropLast))
theorem ZrO:MtM X "list.pop" ZtQ:=by
 intro pins s σ H x vs v us Q I rx rv h;obtain⟨l,xs,y,rfl,rfl,hH,hy,q⟩:=h;cases rx;have hus:=rv.zero;subst hus;obtain⟨z,its,n,r,hl,e⟩:=I.lstM hH;obtain⟨u,hu,ru⟩:=r.get hy;have hy':its.toArray[its.toArray.size-1]? =some u:=by
  show its.toArray[its.length-1]? =some u;rw[<-Array.getElem?_toList,<-hl];exact hu
 refine call_meets F.slot_list_pop ⟨_,e,rfl⟩ F.entry_list_pop (F.args_list_pop_1 _) (MeetsSeq.list_pop_last l its.toArray n u hy' (by rw[List.size_toArray];omega)) ⟨e, ?_⟩
 refine⟨y,_,I.lset (its':=its.dropLast) hH e ?_ r.dropLast ?_,ru,q⟩
 ·show its.toArray.eraseIdxIfInBounds (its.toArray.size-1)=its.dropLast.toArray;rw[List.size_toArray,List.eraseIdxIfInBounds_toArray,ZkS]
 ·rw[List.length_dropLast];omega
end
section
variable {prog:Program} {w:World} {A:Around} {E:Value->Shared->Prop} {s:Shared}
end
section
variable {X:Cx}
end
end L2
namespace L2
open PySem PySem.Spec PyProof.Rows
section
variable {κ:Type} [DecidableEq κ]
def Zc4(kvs:List (κ×V))(k:κ):Option V:=(kvs.find? fun kv=>decide (kv.1=k)).map (·.2)
def Zcg(kvs:List (κ×V))(k:κ)(v:V):List (κ×V):=
 if(kvs.any fun kv=>decide (kv.1=k))=true then kvs.map (fun kv=>if kv.1=k then(kv.1,v) else kv) else kvs++[(k,v)]
theorem Zc5{p:κ×V}{r:List (κ×V)}{k:κ}(e:p.1=k):Zc4 (p::r) k=some p.2:=by simp[Zc4,List.find?_cons,e]
theorem Zd0{p:κ×V}{r:List (κ×V)}{k:κ}(e:¬p.1=k):Zc4 (p::r) k=Zc4 r k:=by simp[Zc4,List.find?_cons,e]
theorem ZjN(k:κ):∀kvs:List (κ×V),(kvs.any fun kv=>decide (kv.1=k))=(Zc4 kvs k).isSome
 |[]=>rfl
 |p::r=>by
  rw[List.any_cons]
  by_cases e:p.1=k
  ·simp only [Zc5 e,decide_eq_true e,Bool.true_or,Option.isSome_some]
  ·rw[Zd0 e,decide_eq_false e,Bool.false_or];exact ZjN k r
theorem Zd1(kvs:List (κ×V))(k:κ)(v:V):(Zcg kvs k v).length<=kvs.length+1:=by
 unfold Zcg
 split
 ·rw[List.length_map];omega
 ·rw[List.length_append,List.length_cons,List.length_nil];omega
theorem Zcd.isSome_eq{o:Option V}{u:Option Value}(r:Zcd o u):o.isSome=u.isSome:=by
 cases o with
 |none=>cases u with
  |none=>rfl
  |some _=>exact(show False from r).elim
 |some _=>cases u with
  |none=>exact(show False from r).elim
  |some _=>rfl
theorem Zcd.getD{o:Option V}{u:Option Value}{d:V}{d':Value}(r:Zcd o u)(rd:Ye d d'):Ye (o.getD d) (u.getD d'):=by
 cases o with
 |none=>cases u with
  |none=>exact rd
  |some _=>exact(show False from r).elim
 |some _=>cases u with
  |none=>exact(show False from r).elim
  |some _=>exact r
theorem KV.val{kvs:List (κ×V)}{vs:List (κ×Value)}(r:KV kvs vs)(k:κ):Zcd (Zc4 kvs k) (valueAt vs k):=by
 unfold KV at r
 induction r with
 |nil=>exact True.intro
 | @cons p q ps qs h t ih=>
  obtain⟨h1,h2⟩:=h
  by_cases e:p.1=k
  ·have e':q.1=k:=h1.symm.trans e;have b:valueAt (q::qs) k=some q.2:=by simp[valueAt,List.find?_cons,e']
   rw[Zc5 e,b];exact h2
  ·have e':¬q.1=k:=fun z=>e (h1.trans z);have b:valueAt (q::qs) k=valueAt qs k:=by simp[valueAt,List.find?_cons,e']
   rw[Zd0 e,b];exact ih
theorem KV.any{kvs:List (κ×V)}{vs:List (κ×Value)}(r:KV kvs vs)(k:κ):(kvs.any fun kv=>decide (kv.1=k))=vs.any fun kv=>decide (kv.1=k):=by
 unfold KV at r
 induction r with
 |nil=>rfl
 |cons h t ih=>rw[List.any_cons,List.any_cons,ih,h.1]
theorem KV.repl{kvs:List (κ×V)}{vs:List (κ×Value)}(r:KV kvs vs)(k:κ){y:V}{u:Value}(ry:Ye y u):
  KV (kvs.map fun kv=>if kv.1=k then(kv.1,y) else kv) (vs.map fun kv=>if kv.1=k then(kv.1,u) else kv):=by
 unfold KV at r⊢
 induction r with
 |nil=>exact .nil
 | @cons p q ps qs h t ih=>
  rw[List.map_cons,List.map_cons];refine .cons ?_ ih;obtain⟨h1,h2⟩:=h
  by_cases e:p.1=k
  ·rw[if_pos e,if_pos (h1.symm.trans e)];exact⟨h1,ry⟩
  ·rw[if_neg e,if_neg (fun z=>e (h1.trans z))];exact⟨h1,h2⟩
theorem KV.put{kvs:List (κ×V)}{vs:List (κ×Value)}(r:KV kvs vs)(k:κ){y:V}{u:Value}(ry:Ye y u):KV (Zcg kvs k y) (stored vs k u):=by
 unfold Zcg stored;rw[r.any k]
 by_cases e:(vs.any fun kv=>decide (kv.1=k))=true
 ·rw[if_pos e,if_pos e];exact r.repl k ry
 ·rw[if_neg e,if_neg e];exact Paired.snoc r ⟨rfl,ry⟩
theorem KV.keys{kvs:List (κ×V)}{vs:List (κ×Value)}(r:KV kvs vs):kvs.map (·.1)=vs.map (·.1):=by
 unfold KV at r
 induction r with
 |nil=>rfl
 |cons h t ih=>rw[List.map_cons,List.map_cons,ih,h.1]
theorem KV.length{kvs:List (κ×V)}{vs:List (κ×Value)}(r:KV kvs vs):kvs.length=vs.length:=Paired.length r
end
theorem ZgF{P:Program}{w:World}{k:Key}{u:Value}(r:Ye (kV k) u):(Yx P w).is k u=true:=by
 cases k with
 |inl i=>obtain⟨t,e⟩:=(show∃t,u=Value.int i t from r);subst e;exact ZjF P w i t
 |inr x=>obtain⟨t,e⟩:=(show∃t,u=Value.str x t from r);subst e;exact ZjG P w x t
theorem ZhW{P:Program}{w:World}:∀{ks:List Key} {us:List Value},Yc (ks.map kV) us->ItemsAre (Yx P w) ks us
 |[],_,r=>by rw[List.map_nil] at r;cases r;exact .nil
 |k::ks,_,r=>by
  rw[List.map_cons] at r
  cases r with
  |cons h t=>exact .cons (ZgF h) (ZhW t)
abbrev KT(H:Hp):List (List Key×V)->List (List Key×Addr×Value)->Prop:=Paired fun p q=>p.1=q.1/\H q.2.1=some (.tup (p.1.map kV))/\Ye p.2 q.2.2
theorem KT.val{H:Hp}{kvs:List (List Key×V)}{xs:List (List Key×Addr×Value)}(r:KT H kvs xs)(k:List Key):Zcd (Zc4 kvs k) ((atKey xs k).map (·.2)):=by
 induction r with
 |nil=>exact True.intro
 | @cons p q ps qs h t ih=>
  obtain⟨h1,_,h2⟩:=h
  by_cases e:p.1=k
  ·have e':q.1=k:=h1.symm.trans e;have b:atKey (q::qs) k=some q.2:=by simp[atKey,List.find?_cons,e']
   rw[Zc5 e,b];exact h2
  ·have e':¬q.1=k:=fun z=>e (h1.trans z);have b:atKey (q::qs) k=atKey qs k:=by simp[atKey,List.find?_cons,e']
   rw[Zd0 e,b];exact ih
theorem KT.repl{H:Hp}{kvs:List (List Key×V)}{xs:List (List Key×Addr×Value)}(r:KT H kvs xs)(k:List Key){y:V}{u:Value}(ry:Ye y u):
  KT H (kvs.map fun kv=>if kv.1=k then(kv.1,y) else kv) (xs.map (putAt k u)):=by
 induction r with
 |nil=>exact .nil
 | @cons p q ps qs h t ih=>
  rw[List.map_cons,List.map_cons];refine .cons ?_ ih;obtain⟨h1,h2,h3⟩:=h;unfold putAt
  by_cases e:p.1=k
  ·rw[if_pos e,if_pos (h1.symm.trans e)];exact⟨h1,h2,ry⟩
  ·rw[if_neg e,if_neg (fun z=>e (h1.trans z))];exact⟨h1,h2,h3⟩
theorem KT.put{H:Hp}{kvs:List (List Key×V)}{xs:List (List Key×Addr×Value)}(r:KT H kvs xs)(k:List Key){b:Addr}{y:V}{u:Value}(hb:H b=some (.tup (k.map kV)))(ry:Ye y u):
  KT H (Zcg kvs k y) (storedH xs k b u):=by
 have e:(kvs.any fun kv=>decide (kv.1=k))=(atKey xs k).isSome:=by
  rw[ZjN,(r.val k).isSome_eq,Option.isSome_map]
 unfold Zcg storedH;rw[e]
 by_cases q:(atKey xs k).isSome=true
 ·rw[if_pos q,if_pos q];exact r.repl k ry
 ·rw[if_neg q,if_neg q];exact Paired.snoc r ⟨rfl,hb,ry⟩
theorem KT.keeps{H H':Hp}{kvs:List (List Key×V)}{xs:List (List Key×Addr×Value)}(r:KT H kvs xs)(ht:∀b ys,H b=some (.tup ys)->H' b=some (.tup ys)):KT H' kvs xs:=
 Paired.mapP r fun _ _ z=>⟨z.1,ht _ _ z.2.1,z.2.2⟩
section
variable {P:Program} {w:World} {H:Hp} {h:Heap} {a:Addr}
theorem Zrd{u:HO}(ok:HOk P w H h)(e:Rd H a u):YD P w H h a u:=e.ok ok
theorem ZcQ{kvs:List (Key×V)}(ok:HOk P w H h)(e:Rd H a (.dK kvs)):kvs.length<=sizeLine/\(a==sysModules)=false/\∃vs,KV kvs vs/\h.DictOf (Yx P w) a vs:=
 show YD P w H h a (.dK kvs) from Zrd ok e
theorem Zre{kvs:List (Key×V)}(ok:HOk P w H h)(e:H a=some (.dK kvs)):kvs.length<=sizeLine/\(a==sysModules)=false/\∃vs,KV kvs vs/\h.DictOf (Yx P w) a vs:=ZcQ ok (.inl e)
theorem Zfe{ks:List Key}(ok:HOk P w H h)(e:H a=some (.tup (ks.map kV))):(tupleKind (Yx P w)).is h ks a:=by
 obtain⟨_,its,r,o,h1,h2,n,h3⟩:=(show YD P w H h a (.tup (ks.map kV)) from ok a _ e)
 exact⟨o,its.toArray,n,h1,h2,h3,by simpa using ZhW r⟩
theorem ZgG{kvs:List (List Key×V)}(ok:HOk P w H h)(e:Rd H a (.dT kvs)):kvs.length<=sizeLine/\(a==sysModules)=false/\
  ∃xs,KT H kvs xs/\h.DictOfH (tupleKind (Yx P w)) a xs:=by
 obtain⟨z,y,xs,r,o,es,ep,h1,h2,h3,h4,h5⟩:=(show YD P w H h a (.dT kvs) from Zrd ok e)
 refine⟨z,y,xs,r,o,es,ep,h1,h2,h3,h4,fun x hx=> ?_,h5⟩;have all:∀{l:List (List Key×V)} {m:List (List Key×Addr×Value)},KT H l m->∀x∈m,(tupleKind (Yx P w)).is h x.1 x.2.1:=by
  intro l m q
  induction q with
  |nil=>intro x hx;exact nomatch hx
  | @cons p q ps qs hq t ih=>
   intro x hx;rcases List.mem_cons.mp hx with e|hx
   ·subst e;exact Zfe ok (by rw[<-hq.1];exact hq.2.1)
   ·exact ih x hx
 exact all r x hx
theorem ZsZ{kvs:List (List Key×V)}(ok:HOk P w H h)(e:H a=some (.dT kvs)):kvs.length<=sizeLine/\(a==sysModules)=false/\
  ∃xs,KT H kvs xs/\h.DictOfH (tupleKind (Yx P w)) a xs:=ZgG ok (.inl e)
end
def Zff(H:Hp)(a:Addr)(y:V)(r:Option V):Prop:=
 (∃kvs k,Rd H a (.dK kvs)/\y=kV k/\r=Zc4 kvs k)\/∃kvs k b,Rd H a (.dT kvs)/\y=.ref b/\H b=some (.tup (k.map kV))/\r=Zc4 kvs k
def Zo3(H:Hp)(a:Addr)(y v:V)(H':Hp):Prop:=
 (∃kvs k,H a=some (.dK kvs)/\y=kV k/\kvs.length<sizeLine/\H'=upd H a (.dK (Zcg kvs k v)))\/
 ∃kvs k b,H a=some (.dT kvs)/\y=.ref b/\H b=some (.tup (k.map kV))/\kvs.length<sizeLine/\H'=upd H a (.dT (Zcg kvs k v))
theorem Zo3.k{H:Hp}{a:Addr}{kvs:List (Key×V)}{k:Key}{v:V}(e:H a=some (.dK kvs))(hl:kvs.length<sizeLine):Zo3 H a (kV k) v (upd H a (.dK (Zcg kvs k v))):=.inl ⟨kvs,k,e,rfl,hl,rfl⟩
section
variable {X:Cx} {pins:List (Addr×Obj)} {σ:St} {H:Hp} {s:Shared} {a:Addr} {y v:V} {u r:Value} {o:Option V} {A:Around} {E:Value->Shared->Prop}
theorem Inv.big(I:Inv X pins σ H s):sysModules<s.heap.objs.size:=by
 have h:mainGlobals<s.heap.objs.size:=(I.mod.glob.keeps I.bk).lt;exact Nat.lt_trans (by decide) h
theorem ZmN{Q:Value->Shared->Prop}(hu:A.units+1<cLine)(I:Inv X pins σ H s)(g:Zff H a y (some v))(ry:Ye y u)(h:∀w' s',Inv X pins σ H s'->Ye v w'->Q w' s'):
  wpAny (model X.prog X.w) A (getItem (.ref a) u) Q E s:=by
 rcases g with ⟨kvs,k,e,ey,l⟩|⟨kvs,k,b,e,ey,eb,l⟩
 ·subst ey;obtain⟨z,hd,vs,rel,dd⟩:=ZcQ I.hok e;obtain⟨w',hw,rw'⟩:=Zcd.some_of (v:=v) (o:=valueAt vs k) (by rw[l];exact rel.val k)
  exact wpAny_getItem_of (ZgF ry) dd.mapOf hw (h w' _ (I.tok _) rw')
 ·subst ey;cases(show u=Value.ref b from ry);obtain⟨z,hd,xs,rel,dd⟩:=ZgG I.hok e;obtain⟨w',hw,rw'⟩:=Zcd.some_of (v:=v) (o:=(atKey xs k).map (·.2)) (by rw[l];exact rel.val k)
  obtain⟨p,hp,hp2⟩:=Option.map_eq_some_iff.mp hw;refine wpAny_getItem_heap (tupleKind_room_in1 hu) (Zfe I.hok eb) dd hp ?_;rw[hp2];exact h w' _ (I.tok _) rw'
theorem ZtR{Q:Value->Shared->Prop}(hu:A.units+1<cLine)(I:Inv X pins σ H s)(g:Zff H a y o)(ry:Ye y u)(h:∀s',Inv X pins σ H s'->Q (.bool o.isSome) s'):
  wpAny (model X.prog X.w) A (compareOp .In u (.ref a)) Q E s:=by
 rcases g with ⟨kvs,k,e,ey,l⟩|⟨kvs,k,b,e,ey,eb,l⟩
 ·subst ey;obtain⟨z,hd,vs,rel,dd⟩:=ZcQ I.hok e;refine wpAny_in_of (ZgF ry) hd dd.mapOf ?_;rw[<-(rel.val k).isSome_eq,<-l];exact h _ (I.tok _)
 ·subst ey;cases(show u=Value.ref b from ry);obtain⟨z,hd,xs,rel,dd⟩:=ZgG I.hok e;refine wpAny_in_heap (tupleKind_room_in1 hu) (Zfe I.hok eb) hd dd ?_;have q:=(rel.val k).isSome_eq;rw[Option.isSome_map] at q
  rw[<-q,<-l];exact h _ (I.tok _)
theorem ZpU{Q:Value->Shared->Prop}(hu:A.units+1<cLine)(I:Inv X pins σ H s)(g:Zff H a y o)(ry:Ye y u)(h:∀s',Inv X pins σ H s'->Q (.bool (!o.isSome)) s'):
  wpAny (model X.prog X.w) A (compareOp .NotIn u (.ref a)) Q E s:=by
 rcases g with ⟨kvs,k,e,ey,l⟩|⟨kvs,k,b,e,ey,eb,l⟩
 ·subst ey;obtain⟨z,hd,vs,rel,dd⟩:=ZcQ I.hok e;refine wpAny_notIn_of (ZgF ry) hd dd.mapOf ?_;rw[<-(rel.val k).isSome_eq,<-l];exact h _ (I.tok _)
 ·subst ey;cases(show u=Value.ref b from ry);obtain⟨z,hd,xs,rel,dd⟩:=ZgG I.hok e;refine wpAny_notIn_heap (tupleKind_room_in1 hu) (Zfe I.hok eb) hd dd ?_;have q:=(rel.val k).isSome_eq;rw[Option.isSome_map] at q
  rw[<-q,<-l];exact h _ (I.tok _)
theorem ZiL{h':Heap}{t':Nat}{ob:HO}(I:Inv X pins σ H s)(mu:Mut (H a))(hs:Heap.SameBut a s.heap h')(he:∃q,h'.get? a=some q)(new:YD X.prog X.w (upd H a ob) h' a ob):
  Inv X pins σ (upd H a ob) {s with heap:=h',toks:=t'}:=
 I.write (x:=a) (e:=a) mu (.inl rfl) (fun b q hb z=>(hs.2 b hb).trans z) he new
theorem ZkT{P:Program}{w:World}{H':Hp}{h':Heap}{kvs:List (Key×V)}{vs:List (Key×Value)}(z:kvs.length<=sizeLine)(hd:(a==sysModules)=false)(rel:KV kvs vs)(dd:h'.DictOf (Yx P w) a vs):
  YD P w H' h' a (.dK kvs):=⟨z,hd,vs,rel,dd⟩
theorem ZmO{H':Hp}{Q:Unit->Shared->Prop}(hu:A.units+1<cLine)(I:Inv X pins σ H s)(g:Zo3 H a y v H')(ry:Ye y u)(rv:Ye v r)(h:∀s',Inv X pins σ H' s'->Q () s'):
  wpAny (model X.prog X.w) A (setItem (.ref a) u r) Q E s:=by
 rcases g with ⟨kvs,k,e,ey,l,eH⟩|⟨kvs,k,b,e,ey,eb,l,eH⟩
 ·subst ey eH;obtain⟨z,hd,vs,rel,dd⟩:=Zre I.hok e;have hz:vs.length<=sizeLine:=by rw[<-rel.length];exact z
  have hl:(Zcg kvs k v).length<=sizeLine:=by have:=Zd1 kvs k v;omega
  refine wpAny_setItem_pairs (hsz:=hz) (ZgF ry) dd fun h' dd' hs=>h _ ?_;have he:∃q,h'.get? a=some q:=let ⟨q,_,_,hq,_⟩:=dd';⟨q,hq⟩;exact ZiL I (by rw[e];exact True.intro) hs he (ZkT hl hd (rel.put k rv) dd')
 ·subst ey eH;cases(show u=Value.ref b from ry);obtain⟨z,hd,xs,rel,dd⟩:=ZsZ I.hok e;have hz:xs.length<=sizeLine:=by rw[<-Paired.length rel];exact z
  have hl:(Zcg kvs k v).length<=sizeLine:=by have:=Zd1 kvs k v;omega
  refine wpAny_setItem_heap (hsz:=hz) (tupleKind_room_in1 hu) (Zfe I.hok eb) dd fun h' dd' hs=>h _ ?_;obtain⟨q,es,ep,hq,h2,h3,h4,_,h5⟩:=dd';refine ZiL I (by rw[e];exact True.intro) hs ⟨q,hq⟩ ⟨hl,hd,_,(rel.put k eb rv).keeps fun c ys ec=> ?_,q,es,ep,hq,h2,h3,h4,h5⟩
  rw[Zr (ZfE ec e (fun z=>nomatch z))];exact ec
end
section
variable {X:Cx} {pins:List (Addr×Obj)} {σ:St} {H:Hp} {s:Shared} {a:Addr} {kvs:List (Key×V)} {k:Key} {u:Value} {A:Around} {E:Value->Shared->Prop}
theorem Zt0{Q:Value->Shared->Prop}(I:Inv X pins σ H s)(e:Rd H a (.dK kvs))(h:∀t s',Inv X pins σ H s'->Q (.int kvs.length t) s'):wpAny (model X.prog X.w) A (call (.builtin "len") [.ref a]) Q E s:=by
 obtain⟨z,hd,vs,rel,dd⟩:=ZcQ I.hok e;refine call_len_dict hd dd (by rw[<-rel.length];rw[sizeLine_eq] at z;omega) ?_
 rw[<-rel.length];exact h _ _ (I.tok _)
end
def Zt1(i:Expr):Prop:=∀ov iv,subscripted i false ov iv=operate [ov,iv] (getItem ov iv)
theorem ZpV{prog:Program}{w:World}{A:Around}{E:Value->Shared->Prop}{s:Shared}{env:Env}{value slice:Expr}{pos:Pos}{T id:String}{Q:Value->Shared->Prop}
  (hl:typeLookup (.type T) "__getitem__"=pure (some (.builtin id)))(hs:Zt1 slice)
  (h:wpAny (model prog w) A (eval value env) (fun o s₁=>wpAny (model prog w) A (eval slice env) (fun i s₂=>s₂.TypeIs o T/\wpAny (model prog w) A (getItem o i) Q E s₂) E s₁) E s):
  wpAny (model prog w) A (eval (.Subscript value slice pos) env) Q E s:=by
 refine Subscript_ (wpAny_mono h (fun o s₁ h₁=>wpAny_mono h₁ (fun i s₂ h₂=> ?_) fun _ _ x=>x) fun _ _ x=>x);obtain⟨hT,h₂⟩:=h₂;unfold subscriptTail;refine wpAny_bind ?_;rw[getitemInPython_of_ne hT.not_modules];refine wpAny_bind (wpAny_specialOf hT hl ?_);have fin:wpAny (model prog w) A (subscripted slice false o i) (fun r s₃=>wpAny (model prog w) A (letTemporaryGo value o r>>=fun _=>pure r) Q E s₃) E s₂:=by
  rw[hs o i];exact wpAny_operating (wpAny_mono h₂ (fun r s₃ h₃=>wpAny_bind (wpAny_letTemporaryGo (wpAny_pure h₃))) fun _ _ x=>x)
 first
  |exact wpAny_pure (wpAny_bind fin)
  |exact wpAny_bind (wpAny_pure (wpAny_bind fin))
  |exact wpAny_bind fin
theorem ZjO{X:Cx}{pins:List (Addr×Obj)}{σ:St}{H:Hp}{s:Shared}{a:Addr}{y:V}{o:Option V}(I:Inv X pins σ H s)(g:Zff H a y o):s.TypeIs (.ref a) "dict":=by
 rcases g with ⟨kvs,k,e,_,_⟩|⟨kvs,k,b,e,_,_,_⟩
 ·obtain⟨_,_,vs,_,dd⟩:=ZcQ I.hok e;exact dd.typeIs
 ·obtain⟨_,_,xs,_,dd⟩:=ZgG I.hok e;exact dd.typeIs
def Zt2(td ty:TE):TE:=fun σ H Q=>td σ H fun x H1=>ty σ H1 fun y H2=>∃a v,x=.ref a/\Zff H2 a y (some v)/\Q v H2
def ZtS(ty td:TE):TE:=fun σ H Q=>ty σ H fun y H1=>td σ H1 fun x H2=>∃a o,x=.ref a/\Zff H2 a y o/\Q (.bl o.isSome) H2
def ZpW(ty td:TE):TE:=fun σ H Q=>ty σ H fun y H1=>td σ H1 fun x H2=>∃a o,x=.ref a/\Zff H2 a y o/\Q (.bl (!o.isSome)) H2
def Zt3(td ty tv:TE):TS:=fun D σ H=>tv σ H fun v H1=>td σ H1 fun x H2=>ty σ H2 fun y H3=>∃a H4,x=.ref a/\Zo3 H3 a y v H4/\D.nx σ H4
section
variable {X:Cx} {o i e value:Expr} {pos pos' tpos:Pos} {td ty tv:TE}
theorem ZpX(hu:X.A.units+1<cLine)(ho:PE X o td)(hi:PE X i ty)(hs:Zt1 i):PE X (.Subscript o i pos) (Zt2 td ty):=by
 intro pins s σ H Q I h;refine ZpV PySem.F.slot_dict_getitem.lookup hs (thn (ho pins s σ H _ I h) fun u s1 ⟨x,H1,I1,rx,q1⟩=>thn (hi pins s1 σ H1 _ I1 q1) fun iv s2 ⟨y,H2,I2,ry,a,v,ex,g,q2⟩=> ?_);subst ex;obtain rfl:u=Value.ref a:=rx;exact⟨ZjO I2 g,ZmN hu I2 g ry fun w' s3 I3 rw'=>⟨v,H2,I3,rw',q2⟩⟩
theorem Zo4(hu:X.A.units+1<cLine)(hi:PE X i ty)(ho:PE X o td):PC X .In i o (ZtS ty td):=by
 intro pins s σ H Q I h;refine thn (hi pins s σ H _ I h) fun iv s1 ⟨y,H1,I1,ry,q1⟩=>thn (ho pins s1 σ H1 _ I1 q1) fun u s2 ⟨x,H2,I2,rx,a,ov,ex,g,q2⟩=> ?_;subst ex;obtain rfl:u=Value.ref a:=rx;exact ZtR hu I2 g ry fun s3 I3=>⟨.bl ov.isSome,H2,I3,rfl,q2⟩
theorem ZmP(hu:X.A.units+1<cLine)(hi:PE X i ty)(ho:PE X o td):PC X .NotIn i o (ZpW ty td):=by
 intro pins s σ H Q I h;refine thn (hi pins s σ H _ I h) fun iv s1 ⟨y,H1,I1,ry,q1⟩=>thn (ho pins s1 σ H1 _ I1 q1) fun u s2 ⟨x,H2,I2,rx,a,ov,ex,g,q2⟩=> ?_;subst ex;obtain rfl:u=Value.ref a:=rx;exact ZpU hu I2 g ry fun s3 I3=>⟨.bl (!ov.isSome),H2,I3,rfl,q2⟩
theorem ZlQ(hu:X.A.units+1<cLine)(ho:PE X o td)(hi:PE X i ty)(hv:PE X value tv)(hs:swapsWith value (some (.Subscript o i pos')) pos.line X.env=pure false):
  PS X (.Assign [.Subscript o i pos'] value pos) (Zt3 td ty tv):=by
 intro pins s σ H D I h;refine wpAny_Assign_Subscript (thn (hv pins s σ H _ I h) fun r s1 ⟨v,H1,I1,rv,q1⟩=>thn (ho pins s1 σ H1 _ I1 q1) fun u s2 ⟨x,H2,I2,rx,q2⟩=>thn (hi pins s2 σ H2 _ I2 q2) fun iv s3 ⟨y,H3,I3,ry,a,H4,ex,g,q3⟩=> ?_) hs;subst ex;obtain rfl:u=Value.ref a:=rx;exact ZmO hu I3 g ry rv fun s4 I4=>⟨σ,H4,I4,q3⟩
end
theorem ZjP{P:Program}{w:World}{H:Hp}(h:Heap)(hb:sysModules<h.objs.size):YD P w H (h.push {cls:=.type "dict",data:=.dict #[]}) h.objs.size (.dK []):=
 ⟨Nat.zero_le _,beq_eq_false_iff_ne.mpr (Ne.symm (Nat.ne_of_lt hb)),[],.nil,Heap.DictOf.new h⟩
def ZrP:TE:=fun _ H Q=>∀p,H p=none->Q (.ref p) (upd H p (.dK []))
section
variable {X:Cx} {pos:Pos}
theorem Zo5:PE X (.Dict [] [] pos) ZrP:=fun pins s σ H Q I h=>
 wpAny_Dict_empty ⟨.ref s.heap.objs.size,_,I.laid (a:=s.heap.objs.size) (o:=.dK []) (t':=s.toks) (fun _ _ q=>Heap.get?_push_of_some _ q) (Nat.le_refl _) (ZjP s.heap I.big),rfl,h _ (I.hok.fresh (Nat.le_refl _))⟩
end
def ZkU:List (TE×TE)->St->Hp->(List (V×V)->Hp->Prop)->Prop
 |[],_,H,Q=>Q [] H
 |(tk,tv)::r,σ,H,Q=>tk σ H fun x H1=>tv σ H1 fun y H2=>ZkU r σ H2 fun ps H3=>Q ((x,y)::ps) H3
abbrev VV:List (V×V)->List (Value×Value)->Prop:=Paired fun p q=>Ye p.1 q.1/\Ye p.2 q.2
def PPs(X:Cx)(pos:Pos)(keys:List (Option Expr))(values:List Expr)(trs:List (TE×TE)):Prop:=
 ∀(pins:List (Addr×Obj)) (s:Shared) (σ:St) (H:Hp) (Q:List (V×V)->Hp->Prop),Inv X pins σ H s->ZkU trs σ H Q->
  wpAny (model X.prog X.w) X.A (evalPairs (pairTrees keys values X.env pos)) (fun vs s'=>∃ps H',Inv X pins σ H' s'/\VV ps vs/\Q ps H') X.xe s
theorem ZpY{X:Cx}{pos:Pos}:PPs X pos [] [] []:=fun pins s σ H Q I h=>pairTrees_nil_walk ⟨[],H,I,.nil,h⟩
theorem Zo6{X:Cx}{pos:Pos}{k v:Expr}{ks:List (Option Expr)}{vs:List Expr}{tk tv:TE}{trs:List (TE×TE)}(hk:PE X k tk)(hv:PE X v tv)(hr:PPs X pos ks vs trs):
  PPs X pos (some k::ks) (v::vs) ((tk,tv)::trs):=fun pins s σ H Q I h=>
 pairTrees_cons_walk (thn (hk pins s σ H _ I h) fun u s1 ⟨x,H1,I1,rx,q1⟩=>thn (hv pins s1 σ H1 _ I1 q1) fun w2 s2 ⟨y,H2,I2,ry,q2⟩=>
  thn (hr pins s2 σ H2 _ I2 q2) fun ws s3 ⟨ps,H3,I3,rel,q3⟩=>⟨(x,y)::ps,H3,I3,.cons ⟨rx,ry⟩ rel,q3⟩)
def Zd2(kvs more:List (Key×V)):List (Key×V):=more.foldl (fun acc kv=>Zcg acc kv.1 kv.2) kvs
theorem KV.merge:∀{more:List (Key×V)} {rs:List (Key×Value)} {kvs:List (Key×V)} {vs:List (Key×Value)},KV more rs->KV kvs vs->KV (Zd2 kvs more) (merged vs rs):=by
 intro more rs kvs vs r;unfold KV at r
 induction r generalizing kvs vs with
 |nil=>intro q;exact q
 | @cons p q ps qs h t ih=>
  intro r0;have e:KV (Zcg kvs p.1 p.2) (stored vs q.1 q.2):=by
   have:=r0.put p.1 h.2;rw[<-h.1];exact this
  exact ih e
theorem Ze3:∀(more kvs:List (Key×V)),(Zd2 kvs more).length<=kvs.length+more.length
 |[],kvs=>by show kvs.length<=kvs.length+0;omega
 |p::r,kvs=>by
  have h1:=Ze3 r (Zcg kvs p.1 p.2);have h2:=Zd1 kvs p.1 p.2;show(Zd2 (Zcg kvs p.1 p.2) r).length<=_;rw[List.length_cons];omega
theorem ZgH{P:Program}{w:World}:∀{kvs:List (Key×V)} {ws:List (Value×Value)},VV (kvs.map fun kv=>(kV kv.1,kv.2)) ws->∃rs,Carries (Yx P w) ws rs/\KV kvs rs
 |[],_,r=>by rw[List.map_nil] at r;cases r;exact⟨[],True.intro,.nil⟩
 |p::kvs,_,r=>by
  rw[List.map_cons] at r
  cases r with
  | @cons a b as bs h t=>
   obtain⟨rs,c,q⟩:=ZgH (P:=P) (w:=w) t;obtain⟨b1,b2⟩:=b;exact⟨(p.1,b2)::rs,⟨ZgF h.1,rfl,c⟩,.cons ⟨rfl,h.2⟩ q⟩
def Zt4(trs:List (TE×TE)):TE:=fun σ H Q=>∀p,H p=none->ZkU trs σ (upd H p (.dK [])) fun ps H2=>H2 p=some (.dK [])/\∃kvs:List (Key×V),ps=kvs.map (fun kv=>(kV kv.1,kv.2))/\kvs.length<=15/\Q (.ref p) (upd H2 p (.dK (Zd2 [] kvs)))
theorem ZpZ{X:Cx}{pos:Pos}{keys:List (Option Expr)}{values:List Expr}{trs:List (TE×TE)}(h:PPs X pos keys values trs)(hall:keys.all (·.isSome)=true)(hl:keys.length=values.length)(h0:keys≠[])
  (h15:keys.length<=15):PE X (.Dict keys values pos) (Zt4 trs):=by
 intro pins s σ H Q I q;have hn:=I.hok.fresh (Nat.le_refl s.heap.objs.size);have I1:=I.laid (a:=s.heap.objs.size) (o:=.dK []) (h':=s.heap.push {cls:=.type "dict",data:=.dict #[]}) (t':=s.toks) (fun _ _ q=>Heap.get?_push_of_some _ q) (Nat.le_refl _) (ZjP s.heap I.big);refine wpAny_Dict_walk (knd:=Yx X.prog X.w) hall hl h0 h15 (thn (h pins _ σ _ _ I1 (q _ hn)) fun ws s2 ⟨ps,H2,I2,rel,e,kvs,ep,lk,q2⟩=> ?_)
 subst ep;obtain⟨rs,c,rk⟩:=ZgH (P:=X.prog) (w:=X.w) rel;obtain⟨z,hd,vs0,r0,dd⟩:=Zre I2.hok e;cases r0;refine⟨rs,c,dd,fun h' dd' hs=>⟨.ref s.heap.objs.size,_, ?_,rfl,q2⟩⟩;have hz:(Zd2 [] kvs).length<=sizeLine:=by
  have h1:=Ze3 kvs [];rw[List.length_nil] at h1
  rw[sizeLine_eq];omega
 have he:∃q,h'.get? s.heap.objs.size=some q:=let ⟨q,_,_,hq,_⟩:=dd';⟨q,hq⟩;exact ZiL I2 (by rw[e];exact True.intro) hs he (ZkT hz hd (rk.merge .nil) dd')
structure M2 (X:Cx) (o:Expr) (m:Str) (apos:Pos) (e f:Expr) (cpos:Pos):Prop where
 base:attributeBase o m X.env (eval o X.env)=eval o X.env
 few:((backTo cpos (starEach [e,f] X.env)).all (fun x=> !x.1)&&(backToKw cpos (keywordEach [] X.env)).all (fun x=>x.1.isSome)
  &&decide (([e,f]:List Expr).length+([]:List Keyword).length+(if([]:List Keyword).isEmpty then 0 else 1)<30))=true
 line:(apos.endLine==cpos.line)=true
 trees:backTo cpos (starEach [e,f] X.env)=[(false,eval e X.env),(false,eval f X.env)]
def IsD(H:Hp)(a:Addr):Prop:=(∃kvs,Rd H a (.dK kvs))\/∃kvs,Rd H a (.dT kvs)
theorem ZrQ{X:Cx}{pins:List (Addr×Obj)}{σ:St}{H:Hp}{s:Shared}{a:Addr}(I:Inv X pins σ H s)(d:IsD H a):
  s.TypeIs (.ref a) "dict"/\(∀b,Value.ref a=.ref b->∃ob,s.heap.get? b=some ob/\ob.dict=none)/\(a==sysModules)=false:=by
 rcases d with ⟨kvs,e⟩|⟨kvs,e⟩
 ·obtain⟨_,hd,vs,_,dd⟩:=ZcQ I.hok e;refine⟨dd.typeIs,fun b q=> ?_,hd⟩;cases q;obtain⟨ob,_,_,h1,h2,_⟩:=dd;exact⟨ob,h1,h2.2.1⟩
 ·obtain⟨_,hd,xs,_,dd⟩:=ZgG I.hok e;refine⟨dd.typeIs,fun b q=> ?_,hd⟩;cases q;obtain⟨ob,_,_,h1,h2,_⟩:=dd;exact⟨ob,h1,h2.2.1⟩
section
variable {X:Cx} {pins:List (Addr×Obj)} {σ:St} {H:Hp} {s:Shared} {a:Addr} {y d:V} {u r:Value} {o:Option V} {A:Around} {E:Value->Shared->Prop}
theorem ZrR{Q:Value->Shared->Prop}(hu:A.units+1<cLine)(I:Inv X pins σ H s)(g:Zff H a y o)(ry:Ye y u)(rd:Ye d r)(h:∀w' s',Inv X pins σ H s'->Ye (o.getD d) w'->Q w' s'):
  wpAny (model X.prog X.w) A (call (.builtin "dict.get") [.ref a,u,r]) Q E s:=by
 rcases g with ⟨kvs,k,e,ey,l⟩|⟨kvs,k,b,e,ey,eb,l⟩
 ·subst ey;obtain⟨z,hd,vs,rel,dd⟩:=ZcQ I.hok e;refine call_meetsIn PySem.F.slot_dict_get dd.typeIs PySem.F.entry_dict_get (PySem.F.args_dict_get_3 _ _ _) (meets_dict_get_default (Yx X.prog X.w) a (ZgF ry) hd r) ⟨_,dd.mapOf,h _ _ (I.tok _) ?_⟩;rw[l];exact(rel.val k).getD rd
 ·subst ey;cases(show u=Value.ref b from ry);obtain⟨z,hd,xs,rel,dd⟩:=ZgG I.hok e;refine call_meetsIn PySem.F.slot_dict_get dd.typeIs PySem.F.entry_dict_get (PySem.F.args_dict_get_3 _ _ _) (meetsH_dict_get_default (tupleKind (Yx X.prog X.w)) a b hd r) ⟨tupleKind_room_in1 hu,k,xs,Zfe I.hok eb,dd,h _ _ (I.tok _) ?_⟩;rw[l];exact(rel.val k).getD rd
end
def ZrS(td ty tx:TE):TE:=fun σ H Q=>td σ H fun x H1=>∃a,x=.ref a/\IsD H1 a/\ty σ H1 fun y H2=>tx σ H2 fun z H3=>∃o,Zff H3 a y o/\Q (o.getD z) H3
section
variable {X:Cx} {o e f:Expr} {apos cpos:Pos} {td ty tx:TE}
theorem Zo7(hu:X.A.units+1<cLine)(ho:PE X o td)(he:PE X e ty)(hf:PE X f tx)(m:M2 X o "get" apos e f cpos):PE X (.Call (.Attribute o "get" apos) [e,f] [] cpos) (ZrS td ty tx):=by
 intro pins s σ H Q I h;refine wpAny_Call_method m.base m.few m.line PySem.F.plainAttrs_dict PySem.F.slot_dict_get PySem.F.type_dict_get (thn (ho pins s σ H _ I h) fun u s1 ⟨x,H1,I1,rx,a,ex,d,q1⟩=> ?_);subst ex;obtain rfl:u=Value.ref a:=rx;obtain⟨t1,t2,_⟩:=ZrQ I1 d;refine⟨t1,t2, ?_⟩;rw[m.trees];refine Calls.callWith_builtin rfl (Calls.evalArgs_plain (Calls.spliced_cons (thn (he pins s1 σ H1 _ I1 q1) fun iv s2 ⟨y,H2,I2,ry,q2⟩=>
  Calls.spliced_cons (thn (hf pins s2 σ H2 _ I2 q2) fun fv s3 ⟨z,H3,I3,rz,ov,g,q3⟩=>Calls.spliced_nil ?_))))
 exact ZrR hu I3 g ry rz fun w' s4 I4 rw'=>⟨_,H3,I4,rw',q3⟩
end
section
variable {X:Cx} {pins:List (Addr×Obj)} {σ:St} {H:Hp} {s:Shared} {a:Addr} {kvs:List (Key×V)} {A:Around} {E:Value->Shared->Prop}
theorem Zo8{Q:Value->Shared->Prop}(I:Inv X pins σ H s)(e:Rd H a (.dK kvs))(h:∀p s',H p=none->Inv X pins σ (upd H p (.dK kvs)) s'->Q (.ref p) s'):wpAny (model X.prog X.w) A (call (.type "dict") [.ref a]) Q E s:=by
 obtain⟨z,hd,vs,rel,dd⟩:=ZcQ I.hok e;refine kt_call_dict hd dd (by rw[<-rel.length];exact z) fun h' dd' hs=> ?_
 refine h _ _ (I.hok.fresh (Nat.le_refl _)) (I.laid (a:=s.heap.objs.size) (o:=.dK kvs) (t':=s.toks) (fun b q hq=> ?_) (Nat.le_refl _) (ZkT z (beq_eq_false_iff_ne.mpr (Ne.symm (Nat.ne_of_lt I.big))) rel dd'));exact(hs.2 b (Nat.ne_of_lt (Heap.lt_size hq))).trans (Heap.get?_push_of_some _ hq)
end
section
variable {X:Cx} {pins:List (Addr×Obj)} {σ:St} {H:Hp} {s:Shared} {a:Addr} {y:V} {u:Value} {A:Around} {E:Value->Shared->Prop}
end
end L2
namespace Att
open PySem PySem.W PySem.Calls PyProof.Rows
theorem ZfU{P:Params}{h:Heap}:∀(ns:List Int) (vs:List Value),WellAll P h vs (ns.map WData.int)->IntsAre vs ns:=by
 intro ns
 induction ns with
 |nil=>
  intro vs w;rw[List.map_nil] at w
  cases w;exact .nil
 |cons n ns ih=>
  intro vs w;rw[List.map_cons] at w
  cases w with
  |cons a b=>
   cases a;exact .cons _ _ (ih _ b)
theorem script_of{l:OpenLaw}{n:Nat}(hn:l.most=some n){P:Params}{h:Heap}{args:List WData}{vals:List Value}
  (hpre:l.row.toRowW.claim.pre args=true)(hwl:WellAll P h vals args):
  ∃a vs ns,vals=[Value.ref a]/\args=[WData.list (ns.map WData.int)]/\h.get? a=some {cls:=.type "list",data:=.seq vs.toArray}/\IntsAre vs ns/\ns.length<=n:=by
 have hsh:WShape.hasAll [] args [.list .int]=true:=(pre_splitW hpre).1;have hc:l.pre.holds [] {args:=args}=true:=(pre_splitW hpre).2;obtain⟨d,r,rfl,h1,h2⟩:=hasAllW_cons hsh;obtain rfl:=hasAllW_nil h2;obtain⟨xs,rfl,h3⟩:=hasW_list h1;obtain⟨ns,rfl⟩:=items_int h3;have hlen:ns.length<=n:=by
  unfold OpenLaw.pre at hc
  have h4:(WTm.not (.lt (.lit (.int (n:Int))) (.len (.arg 0)))).holds [] {args:=[.list (ns.map .int)]}=true:=by
   have h4:=(holds_andW hc).1;rw[hn] at h4
   exact h4
  have h5:=condW_of h4 (w_not (w_lt w_lit (w_len_list (w_arg rfl))));rw[List.length_map] at h5
  refine Nat.le_of_not_lt fun q=> ?_;have q':(n:Int)<((ns.length:Nat):Int):=by omega
  first
   |(rw[decide_eq_true q'] at h5;exact absurd h5 (by decide))
   |(simp at h5;omega)
 cases hwl with
 |cons w1 w2=>
  cases w2;cases w1 with
  |list ho hall=>exact⟨_,_,ns,rfl,rfl,ho,ZfU ns _ hall,hlen⟩
theorem post_true(l:OpenLaw)(args:List WData):l.row.toRowW.claim.post args (.bool true) args=true:=
 postW_of (r:=l.row.toRowW) (X:=(true==true))
  (show WShape.has [] (.bool true) .bool=true by first|rfl|decide|simp[WShape.has,WShape.arms,WShape.armsAll])
  (show(WTm.eq .res (.lit (.bool true))).value [] {args:=args,res:=some (.bool true),after:=args}=some (.bool (true==true)) from w_eq_bool (w_res rfl) w_lit) rfl
section
variable {prog:Program} {w:World} {A:Around} {E:Value->Shared->Prop} {s:Shared} {K:Frag}
theorem call_fn{R:Result->Shared->Prop}{name qual:Str}{params:Arguments}{body:List Stmt}{scope:Scope}{dV kV doc pm cdv ct oc:Value}{an od:Option Addr}{osl:Array (Option Value)}{f:Addr}{args:Args}{binds:List (Str×Value)}
  (X:K.In s.heap)(hlim:s.heap.NoLimit)(ho:K.lookup f=some ⟨oc,od,.func (fnOf name qual params body scope dV kV doc pm an cdv ct),osl⟩)(hcd:codeIn K cdv qual=true)(hroom:A.depth<recursionLimit)
  (hbind:BindsTo s (fnOf name qual params body scope dV kV doc pm an cdv ct) args binds)
  (hkind:(binds.all fun y=>scope.names.lookup y.1==some .local||scope.names.lookup y.1==some .cell)=true)
  (h:∀s₁,InCallC s s.heap.objs.size (bindL (envOfC qual scope s.heap.objs.size f cdv).kindOf binds fun _=>none) (cellsFrom (s.heap.objs.size+1) scope.names [])
    (bindC (envOfC qual scope s.heap.objs.size f cdv).kindOf binds fun _=>none) s₁->
   wpAny (model prog w) (A.deeper (envOfC qual scope s.heap.objs.size f cdv)) (execs body (envOfC qual scope s.heap.objs.size f cdv))
    (fun fl s'=>R (.ok (.ret (match fl with| .ret v=>v|_=> .none))) s')
    (fun e s'=>wpAny (model prog w) (A.deeper (envOfC qual scope s.heap.objs.size f cdv)) (leaving (envOfC qual scope s.heap.objs.size f cdv) e) (fun _ s''=>R (.error e) s'') (fun e' s''=>R (.error e') s'') s') s₁)
  (hco:scope.isCoroutine=false) (hgen:scope.isGenerator=false) (hk:scope.kind=.function):codeAny (model prog w) A (.call (.ref f) args) R s:=by
 refine codeAny_call_function hroom (X _ _ ho) rfl hco hgen rfl (codeRec_of X hcd) (hbind _ _ _ _ ?_);refine wpAny_newFunctionEnv_cells hk (kindsX hkind _) fun env he s₁ x=> ?_;subst he;exact⟨hlim.keeps x.toInCall.keep,codeAny_func (h s₁ x)⟩
end
end Att
namespace L2
open PySem PySem.Spec PyProof.Rows
theorem ZhX:∀{vs:List Value} {ns:List Int},IntsAre vs ns->Yc (ns.map V.int) vs
 |_,_,.nil=> .nil
 |_,_,.cons n t h=> .cons ⟨t,rfl⟩ (ZhX h)
def Zt5(H:Hp):Prop:=∀b,H b=none\/∃o xs,H b=some (.frz o (.lst xs))
theorem Zo9{P:Program}{w:World}{K:PySem.W.Frag}{mg mb:Str->Option Value}{CX:CXT}{k:Nat}{fa a:Addr}{fd:FuncData}{x:Str}{sp:Sp}{s₁:Shared}{vs:List Value}{ns:List Int}
  (KX:K.In s₁.heap)(hns:s₁.heap.Ns mainGlobals mg)(hb:s₁.heap.Ns builtinsNs mb)(hbb:∀x:Str,x≠"__name__"->mb x=bootBuiltins x)(hlim:s₁.heap.NoLimit)(hg:s₁.gens= #[])
  (ha:s₁.heap.get? a=some {cls:=.type "list",data:=.seq vs.toArray})(hi:IntsAre vs ns)(hl:ns.length<=sizeLine)(hr:Xb k callerA)
  (F:∀base:Heap,K.In base->base.Ns mainGlobals mg->Yo P w K mg base CX k fa fd [x] sp)(hbind:∀(s:Shared) (u:Value),BindsTo s fd ⟨[u],[]⟩ [(x,u)])
  (hsp:∀H:Hp,Zt5 H->SqL K H a (ns.map V.int)->sp [.ref a] H (fun v _=>v=.bl true) fun _ _ _=>False)
  (hCX:∀H e s',CX [] H s₁ (fun _ _ _=>False) e s'->False):
  codeAny (model P w) callerA (.call (.ref fa) ⟨[.ref a],[]⟩) (fun r s'=>r=.ok (.ret (.bool true))/\OldK s₁.heap s'.heap/\s'.os=s₁.os/\AllBare s'.gens) s₁:=by
 have rv:=ZhX hi;have Zbv:=hi.length;have core:∀H:Hp,Zt5 H->SqL K H a (ns.map V.int)->HOk P w H s₁.heap->(∀b,H b≠none->b=a)->(H a≠none->K.lookup a=none)->
   codeAny (model P w) callerA (.call (.ref fa) ⟨[.ref a],[]⟩) (fun r s'=>r=.ok (.ret (.bool true))/\OldK s₁.heap s'.heap/\s'.os=s₁.os/\AllBare s'.gens) s₁:=by
  intro H hO hS hok hA hK;have base_of:∀{b:Addr} {o:Obj},s₁.heap.get? b=some o->H b=none->(ZiB s₁.heap H).get? b=some o:=fun e n=>ZnM e n;have noA:∀{b:Addr} {o:Obj} {es:Array DictEntry} {ep:Nat},s₁.heap.get? b=some o->o.data=.dict es ep->H b=none:=fun{b o es ep} e d=>by
   cases q:H b with
   |none=>rfl
   |some u=>
    have e':b=a:=hA b (by rw[q];simp)
    subst e';rw[ha] at e;cases e
    have d':Data.seq vs.toArray _=Data.dict es ep:=d;cases d'
  have nsK:∀{b:Addr} {m:Str->Option Value},s₁.heap.Ns b m->(ZiB s₁.heap H).Ns b m:=fun{b m} ⟨o,es,ep,e,d,r⟩=>⟨o,es,ep,base_of e (noA e d),d,r⟩
  have hKb:K.In (ZiB s₁.heap H):=fun b o e=>base_of (KX b o e) (by
   cases q:H b with
   |none=>rfl
   |some u=>
    have e':b=a:=hA b (by rw[q];simp)
    subst e';rw[hK (by rw[q];simp)] at e;cases e)
  have hM:Mod K mg (ZiB s₁.heap H):=⟨hKb,nsK hns,⟨mb,nsK hb,hbb⟩,let ⟨mc,h1,h2⟩:=hlim;⟨mc,nsK h1,h2⟩⟩
  have e0:ZgC P w K mg (ZiB s₁.heap H) callerA [] s₁ H:=⟨rfl,hM,fun b o e=>ZpK e,Nat.le_of_eq (ZmG _ _),trivial,fun b hb=>absurd (show b∈([]:List Addr) from hb) (by simp),hok,.of_eq hg⟩
  refine codeAny_mono ((F _ hKb (nsK hns)).run callerA [] s₁ H ⟨[.ref a],[]⟩ [.ref a] [.ref a] _ _ hr e0 (hbind s₁ (.ref a)) (.cons rfl .nil) (hsp H hO hS)) fun r s' h=> ?_;cases r with
  |error e=>exact(hCX H e s' h).elim
  |ok fl=>
   cases fl with
   |next=>exact False.elim h
   |brk=>exact False.elim h
   |cont=>exact False.elim h
   |ret u=>
    obtain⟨v,H',os,bare,un,hok',r',q⟩:=h;have q':v=.bl true:=q;subst q';obtain rfl:u=Value.bool true:=r';refine⟨rfl,OldK.of_keep fun b o e=> ?_,os,bare⟩;cases q:H b with
    |none=>exact un.keep b o e q (by intro z;exact absurd (show b∈([]:List Addr) from z) (by simp)) (by simp)
    |some u=>
     rcases hO b with z|⟨ob,xs,z⟩
     ·rw[q] at z;cases z
     ·have z2:=un.frzs b ob _ z;obtain⟨e1,_⟩:=hok b _ z;obtain⟨e2,_⟩:=hok' b _ z2;rw[e] at e1;cases e1
      exact e2
 cases hk:K.lookup a with
 |some o=>
  have e:=KX a o hk;rw[ha] at e
  cases e;refine core (fun _=>none) (fun _=> .inl rfl) (.inr ⟨_,vs.toArray,_,hk,rfl,rfl,rfl,by rw[List.size_toArray,Zbv];exact hl,by simpa using rv⟩) (fun b u z=>by have z':(none:Option HO)=some u:=z;cases z') (fun b z=>absurd rfl z) fun z=>absurd rfl z
 |none=>
  refine core (fun b=>if b=a then some (.frz {cls:=.type "list",data:=.seq vs.toArray} (.lst (ns.map V.int))) else none) (fun b=> ?_) (.inl (.inr ⟨{cls:=.type "list",data:=.seq vs.toArray},if_pos rfl⟩)) (fun b u z=> ?_) (fun b z=> ?_) fun _=>hk
  ·by_cases hb:b=a
   ·exact .inr ⟨_,_,if_pos hb⟩
   ·exact .inl (if_neg hb)
  ·by_cases hb:b=a
   ·have z':=(if_pos hb).symm.trans z;cases z';subst hb;exact⟨ha,by rw[List.length_map];exact hl,vs,_,rv,ha⟩
   ·have z':=(if_neg hb).symm.trans z;cases z'
  ·by_cases hb:b=a
   ·exact hb
   ·exact absurd (if_neg hb) z
end L2
namespace L2
open PySem PySem.Spec PyProof.Rows
end L2
namespace L2
open PySem PySem.Spec PyProof.Rows
def Zch(s:Stmt)(j:Nat):Stmt:=match s with
 | .ClassDef _ _ _ body _ _ _ _ _ _ _=>body.getD j (.Pass ⟨0,0,0,0⟩)
 |_=> .Pass ⟨0,0,0,0⟩
def ZdL(s:Stmt):Arguments:=match s with
 | .FunctionDef _ a _ _ _ _ _ _ _ _=>a
 |_=>{posonlyargs:=[],args:=[],vararg:=none,kwonlyargs:=[],kw_defaults:=[],kwarg:=none,defaults:=[]}
def ZaB(s:Stmt):List Stmt:=match s with
 | .FunctionDef _ _ b _ _ _ _ _ _ _=>b
 |_=>[]
def ZF(s:Stmt):Scope:=match s with
 | .FunctionDef _ _ _ _ _ _ sc _ _ _=>sc
 |_=>{kind:=.function,names:=[],isGenerator:=false,isCoroutine:=false}
abbrev CX0:CXT:=fun _ _ _ _ _ _=>False
abbrev E0:XK:=fun _ _ _=>False
theorem Yp{X:Cx}:JV CX0 X E0:=fun _ _ _ _ _ _ _ h=>h.elim
structure Fun (K:PySem.W.Frag) (x qual:Str) (st:Stmt) (f:Addr) (fd:FuncData):Prop where
 ex:∃(oc:Value) (od:Option Addr) (kV doc pm:Value) (an:Option Addr) (cdv ct:Value) (osl:Array (Option Value)),
  fd=PySem.W.fnOf x qual (ZdL st) (ZaB st) (ZF st) .none kV doc pm an cdv ct/\K.lookup f=some ⟨oc,od,.func fd,osl⟩/\PySem.W.codeIn K cdv qual=true
 kp:PySem.W.keepIn K (.ref f)=true
section
variable {P:Program} {w:World} {K:PySem.W.Frag} {mg:Str->Option Value} {base:Heap}
theorem Fun.ok{x qual:Str}{st:Stmt}{f:Addr}{fd:FuncData}{N ps:List Str}{k:Nat}{sp:Sp}(F:Fun K x qual st f fd)(S:ZQ N ps (ZF st))(len:∀vs H Q E,sp vs H Q E->vs.length=ps.length)
  (hbody:∀(cdv:Value) (A:Around) (outer:List Env) (s:Shared) (H:Hp) (vs:List V) (Q:VK) (E:XK),Xb k (A.deeper (envOfC qual (ZF st) s.heap.objs.size f cdv))->sp vs H Q E->
   ∃t,PSs (ZW CX0 P w K mg base N qual (ZF st) f cdv A outer s H E).nox (ZaB st) t/\t {nx:=fun _ H'=>Q .non H',rt:=Q} (ZcP N vs) H):Yo P w K mg base CX0 (k+1) f fd ps sp:=by
 obtain⟨oc,od,kV,doc,pm,an,cdv,ct,osl,rfl,lk,hcd⟩:=F.ex;refine Zrc lk hcd S len fun A outer s H vs Q E hr hsp=> ?_;obtain⟨t,h,q⟩:=hbody cdv A outer s H vs Q E hr hsp;exact⟨t,h.nox,q⟩
theorem Fun.binds{x qual:Str}{st:Stmt}{f:Addr}{fd:FuncData}{ps:List Str}(F:Fun K x qual st f fd)
  (h:∀(kV doc pm:Value) (an:Option Addr) (cdv ct:Value) (us:List Value),us.length=ps.length->bindArgs (PySem.W.fnOf x qual (ZdL st) (ZaB st) (ZF st) .none kV doc pm an cdv ct) ⟨us,[]⟩=pure (ps.zip us)):JT K fd ps []:=by
 obtain⟨oc,od,kV,doc,pm,an,cdv,ct,osl,rfl,lk,hcd⟩:=F.ex;exact .all (h kV doc pm an cdv ct)
theorem ZiM{x qual:Str}{st:Stmt}{f:Addr}{oc:Value}{od an:Option Addr}{osl:Array (Option Value)}{kV doc pm cdv ct:Value}(l:K.lookup f=some ⟨oc,od,.func (PySem.W.fnOf x qual (ZdL st) (ZaB st) (ZF st) .none kV doc pm an cdv ct),osl⟩)
  (c:PySem.W.codeIn K cdv qual=true)(k:PySem.W.keepIn K (.ref f)=true):Fun K x qual st f (PySem.W.fnOf x qual (ZdL st) (ZaB st) (ZF st) .none kV doc pm an cdv ct):=⟨⟨oc,od,kV,doc,pm,an,cdv,ct,osl,rfl,l,c⟩,k⟩
end
theorem ZlR{A:Around}{k:Nat}(hr:Xb k A):A.units+1<cLine:=Nat.lt_of_le_of_lt (Nat.add_le_add_left (by decide:1<=64) _) hr.units
section
variable {X:Cx}
theorem pv(i:Nat){x:Str}{pos:Pos}(hN:X.N[i]? =some x:=by rfl)(hv:Vis X.env.scope x:=by first|exact Or.inl rfl|exact Or.inr (Or.inl rfl)|exact Or.inr (Or.inr rfl)) (hd:(x==("__debug__":Str))=false:=by decide)
  (hcd:(x==("__classdict__":Str))=false:=by decide):PE X (.Name x pos) (Zfb i):=ZrA hN hv hd hcd
theorem ZmQ:ZaP X (.builtin "len") (fun xs H Q=>∃a kvs,xs=[V.ref a]/\H a=some (.dK kvs)/\Q (.int kvs.length) H):=by
 intro pins s σ H xs us Q I r h;obtain⟨a,kvs,rfl,ha,q⟩:=h;obtain⟨u,rfl,ru⟩:=ZcO r;cases ru;exact Zt0 I (.inl ha) fun t s' I'=>⟨.int kvs.length,H,I',⟨t,rfl⟩,q⟩
end
theorem Zal{A B:Prop}(h:B):if false=true then A else B:=by
 rw[if_neg Bool.false_ne_true];exact h
theorem JS{A B:Prop}(h:A):if true=true then A else B:=by
 rw[if_pos rfl];exact h
theorem Xg{c A B:Prop} [Decidable c](h1:c->A)(h2:¬c->B):if c then A else B:=by
 by_cases h:c
 ·rw[if_pos h];exact h1 h
 ·rw[if_neg h];exact h2 h
theorem ZfK{c A B:Prop} [Decidable c](hc:c)(h:B):if(!decide c)=true then A else B:=by
 rw[decide_eq_true hc];exact Zal h
def ZJ(H H':Hp):Prop:=∀b o,H b=some o->H' b=some o
theorem ZJ.refl(H:Hp):ZJ H H:=fun _ _ h=>h
theorem ZJ.trans{H H1 H2:Hp}(a:ZJ H H1)(b:ZJ H1 H2):ZJ H H2:=fun c o h=>b c o (a c o h)
theorem ZJ.seq{K:PySem.W.Frag}{H H':Hp}{a:Addr}{xs:List V}(e:ZJ H H')(h:SqL K H a xs):SqL K H' a xs:=by
 rcases h with (h|⟨o,h⟩)|h
 ·exact .inl (.inl (e _ _ h))
 ·exact .inl (.inr ⟨o,e _ _ h⟩)
 ·exact .inr h
section
variable {κ:Type} [DecidableEq κ]
theorem ZlS:∀{l:List κ} {k:κ},l.Nodup->¬k∈l->(l++[k]).Nodup
 |[],k,_,_=>by simp
 |a::r,k,h,hk=>by
  obtain⟨h1,h2⟩:=List.nodup_cons.mp h;show(a::(r++[k])).Nodup;refine List.nodup_cons.mpr ⟨fun m=> ?_,ZlS h2 fun m=>hk (List.mem_cons.mpr (Or.inr m))⟩;rcases List.mem_append.mp m with q|q
  ·exact h1 q
  ·exact hk (List.mem_cons.mpr (Or.inl (List.mem_singleton.mp q).symm))
end
end L2
namespace L3
open PySem PySem.Spec PyProof.Rows L2
theorem up{α:Type}{M:Model}{A:Around}{t:Sem α}{Q:α->Shared->Prop}{E:Value->Shared->Prop}{s:Shared}(h:wpAny M A t Q (fun _ _=>False) s):wpAny M A t Q E s:=wpAny_mono h (fun _ _ z=>z) fun _ _ z=>z.elim
theorem Zq0{prog:Program}{w:World}{A:Around}{E:Value->Shared->Prop}{s:Shared}{l b:Addr}{vs ws:List Value}{Q:Value->Shared->Prop}(hl:s.heap.IsList l vs.toArray)(hb:s.heap.IsList b ws.toArray)
  (h:Q (.ref s.heap.objs.size) {s with heap:=s.heap.push {cls:=.type "list",data:=.seq (vs++ws).toArray}})(hz:vs.length+ws.length<=sizeLine):wpAny (model prog w) A (binaryOp .Add (.ref l) (.ref b)) Q E s:=by
 obtain⟨⟨c1,d1,t1,l1⟩,o1,k1,n1,e1⟩:=id hl;obtain⟨⟨c2,d2,t2,l2⟩,o2,k2,n2,e2⟩:=id hb;simp only at k1 e1 k2 e2
 subst k1 e1 k2 e2;refine concat_meets ⟨_,o1,rfl⟩ ⟨_,o2,rfl⟩ noFill_list_add seq_list_add PySem.F.slot_list_add PySem.F.entry_list_add (PySem.F.args_list_add_2 _ _) (list_addW l b vs.toArray ws.toArray n1 n2 d1 d2 l1 l2 (by simpa using hz)) ⟨o1,o2, ?_⟩;have ea:vs.toArray++ws.toArray=(vs++ws).toArray:=by simp
 rw[ea];exact h
section
variable {X:Cx}
theorem Zbl:OpR X (binaryOp .Mult) (rI IntMulOk fun i j=> .int (i*j)):=opI fun _ _ _ _ _ _ _ hc q=>mul_int q hc
def Zt6(K:PySem.W.Frag):R2:=fun x y H Q=>∃l b xs zs,x=.ref l/\y=.ref b/\SqL K H l xs/\SqL K H b zs/\xs.length+zs.length<=sizeLine/\∀p,H p=none->Q (.ref p) (upd H p (.lst (xs++zs)))
theorem Xc:OpR X (binaryOp .Add) (Zt6 X.K):=by
 intro pins s σ H x y v u Q I rx ry h;obtain⟨l,b,xs,zs,rfl,rfl,h1,h2,hz,q⟩:=h;cases rx;cases ry;obtain⟨its,r,pl,_⟩:=I.list h1;obtain⟨its2,r2,pl2,_⟩:=I.list h2;obtain⟨m,F⟩:=I.fr;have e1:=r.length;have e2:=r2.length;refine Zq0 pl.isList pl2.isList ?_ (by omega);exact⟨.ref _,_,I.lnew (t':=s.toks) (r.append r2) (by rw[List.length_append];omega),rfl,q _ I.fresh⟩
def Its(z:Str):It:=⟨fun i _=>i<z.length,fun i H x H'=>H'=H/\∃c,z.cps[i]? =some c/\x=.str ⟨#[c]⟩,fun i _=>z.length<=i⟩
def Zt7(tl:TE):TI:=fun σ H R=>tl σ H fun x H1=>∃z,x=.str z/\R (Its z) H1
theorem ZjQ{z:Str}{i:Nat}(h:i<z.length):∃c,z.cps[i]? =some c:=⟨_,Array.getElem?_eq_getElem h⟩
theorem ZjR{z:Str}{i:Nat}(h:z.length<=i):z.cps[i]? =none:=Array.getElem?_eq_none h
theorem ZkV{P:Program}{w:World}{K:PySem.W.Frag}{tg:Expr}(z:Str)(t:Tok)(it:Addr):ZkH P w K tg (Its z) [it] it (fun i h=>h.IsStrIter it "str_ascii_iterator" z t i) where
 mem:=by simp
 obj:=fun i h st b hb=>by
  have e:b=it:=by simpa using hb
  subst e;obtain⟨o,e,c,d⟩:=st;exact⟨o,e,fun v q=>by rw[d] at q;cases q⟩
 keep:=fun i h h' st k=>by
  obtain⟨o,e,r⟩:=st;exact⟨o,k it (by simp) o e,r⟩
 item:=by
  intro X hP hw hK hc i pins s σ H E I hf st hg;subst hP hw hK;obtain⟨c,hx⟩:=ZjQ (z:=z) hg;obtain⟨f0,f1,f2,f3,f4,f5⟩:=hf it (by simp);refine wpAny_pyNext_ascii_item st hx fun h' st' sb=> ?_;have I1:Inv X pins σ H {s with heap:=h',toks:=s.toks+1}:=I.turned (fun b o hb e=>(sb.2 b hb).trans e) f0 f1 f3 f4 f5;obtain⟨o,e,cl,d⟩:=id st';exact⟨_,rfl,ZlJ (s:={s with heap:=h',toks:=s.toks+1}) e cl d (by decide) ⟨.str ⟨#[c]⟩,H,I1,⟨_,rfl⟩,⟨rfl,c,hx,rfl⟩,st',fun b hb=>(hf b hb).1⟩⟩
 done:=by
  intro X hP hw hK hc i pins s σ H E I hf st hg;subst hP hw hK;obtain⟨f0,f1,f2,f3,f4,f5⟩:=hf it (by simp);exact wpAny_pyNext_ascii_end (I.ok.hd hc) st (ZjR hg) fun h' eb=>⟨rfl,I.turned (t':=s.toks) (fun b o hb e=>eb b o hb e) f0 f1 f3 f4 f5⟩
 self:=fun _ _ _ _ _ st h=>wpAny_pyIter_striter_ascii st h
theorem ZmR{P:Program}{w:World}{K:PySem.W.Frag}{tg:Expr}(z:Str)(t:Tok)(it:Addr):ZkH P w K tg (Its z) [it] it (fun i h=>h.IsStrIter it "str_iterator" z t i) where
 mem:=by simp
 obj:=fun i h st b hb=>by
  have e:b=it:=by simpa using hb
  subst e;obtain⟨o,e,c,d⟩:=st;exact⟨o,e,fun v q=>by rw[d] at q;cases q⟩
 keep:=fun i h h' st k=>by
  obtain⟨o,e,r⟩:=st;exact⟨o,k it (by simp) o e,r⟩
 item:=by
  intro X hP hw hK hc i pins s σ H E I hf st hg;subst hP hw hK;obtain⟨c,hx⟩:=ZjQ (z:=z) hg;obtain⟨f0,f1,f2,f3,f4,f5⟩:=hf it (by simp);refine wpAny_pyNext_wide_item st hx fun h' st' sb=> ?_;have I1:Inv X pins σ H {s with heap:=h',toks:=s.toks+1}:=I.turned (fun b o hb e=>(sb.2 b hb).trans e) f0 f1 f3 f4 f5;obtain⟨o,e,cl,d⟩:=id st';exact⟨_,rfl,ZlJ (s:={s with heap:=h',toks:=s.toks+1}) e cl d (by decide) ⟨.str ⟨#[c]⟩,H,I1,⟨_,rfl⟩,⟨rfl,c,hx,rfl⟩,st',fun b hb=>(hf b hb).1⟩⟩
 done:=by
  intro X hP hw hK hc i pins s σ H E I hf st hg;subst hP hw hK;obtain⟨f0,f1,f2,f3,f4,f5⟩:=hf it (by simp);exact wpAny_pyNext_wide_end (I.ok.hd hc) st (ZjR hg) fun h' eb=>⟨rfl,I.turned (t':=s.toks) (fun b o hb e=>eb b o hb e) f0 f1 f3 f4 f5⟩
 self:=fun _ _ _ _ _ st h=>wpAny_pyIter_striter_wide st h
theorem ZrT{tg l:Expr}{tl:TE}(hl:PE X l tl):PI X tg l (Zt7 tl):=by
 intro pins s σ H R I h;refine thn (hl pins s σ H _ I h) fun v s1 ⟨x,H1,I1,r1,q1⟩=> ?_;obtain⟨z,rfl,q⟩:=q1;obtain⟨t,rfl⟩:=r1;have fp:∀(o:Obj),∀b∈[s1.heap.objs.size],Zgy X pins H1 b:=fun o b hb=>by
  have e:b=s1.heap.objs.size:=by simpa using hb
  subst e;exact I1.fpOk (Nat.le_refl _) (I1.hok.fresh (Nat.le_refl _))
 cases ha:z.cps.all (· <128)
 ·exact wpAny_pyIter_wide ha ⟨s1.heap.objs.size,[s1.heap.objs.size],_,_,H1,rfl,I1.kept (t':=s1.toks) fun b o e=>Heap.get?_push_of_some _ e,ZmR z t _,⟨_,Heap.get?_push_size _ rfl,rfl,rfl⟩,fp ⟨.none,none,.fields #[], #[]⟩,q⟩
 ·exact wpAny_pyIter_ascii ha ⟨s1.heap.objs.size,[s1.heap.objs.size],_,_,H1,rfl,I1.kept (t':=s1.toks) fun b o e=>Heap.get?_push_of_some _ e,ZkV z t _,⟨_,Heap.get?_push_size _ rfl,rfl,rfl⟩,fp ⟨.none,none,.fields #[], #[]⟩,q⟩
def ZtT:V->Option Int->Option Int->Hp->VK->Prop:=fun x lo hi H Q=>∃z,x=.str z/\z.length<=sizeLine/\Q (.str (Txt.slice z lo hi)) H
theorem ZiN:SlR X ZtT:=by
 intro pins s σ H x v vl vu lo hi sl Q I rx hs pl pu h;obtain⟨z,rfl,hz,q⟩:=h;obtain⟨t,rfl⟩:=rx;have fin:∀t' k,EP X pins σ Q (.str (Txt.slice z lo hi) t') {s with toks:=k}:=fun t' k=>⟨.str _,H,I.tok _,⟨_,rfl⟩,q⟩
 refine⟨"str",_,F.slot_str_getitem.lookup,typeIs_str _ _ _, ?_⟩;cases pl with
 |none=>
  cases pu with
  |none=>exact wpAny_getItem_str_slice (l:=none) (u:=none) (st:=none) hs rfl (post_val_or_str ⟨Nat.le_trans (Txt.slice_le z _ _) hz,fin⟩)
  |int j uj=>exact wpAny_getItem_str_slice (l:=none) (u:=some (j,uj)) (st:=none) hs rfl (post_val_or_str ⟨Nat.le_trans (Txt.slice_le z _ _) hz,fin⟩)
 |int i ui=>
  cases pu with
  |none=>exact wpAny_getItem_str_slice (l:=some (i,ui)) (u:=none) (st:=none) hs rfl (post_val_or_str ⟨Nat.le_trans (Txt.slice_le z _ _) hz,fin⟩)
  |int j uj=>exact wpAny_getItem_str_slice (l:=some (i,ui)) (u:=some (j,uj)) (st:=none) hs rfl (post_val_or_str ⟨Nat.le_trans (Txt.slice_le z _ _) hz,fin⟩)
theorem Zef:∀{bs:List Bool} {us:List Value},Yc (bs.map V.bl) us->LSm.BoolsAre us bs
 |[],us,r=>by
  rw[List.map_nil] at r
  cases r;exact .nil
 |b::bs,us,r=>by
  rw[List.map_cons] at r
  cases r with
  |cons r1 r2=>
   cases(show _=Value.bool b from r1);exact .cons b (Zef r2)
theorem ZgI(hc:X.calm=true):ZaP X (.builtin "all") (fun xs H Q=>∃(p:Addr) (bs:List Bool),xs=[.ref p]/\SqL X.K H p (bs.map V.bl)/\Q (.bl (bs.all id)) H):=by
 intro pins s σ H xs us Q I r h;obtain⟨p,bs,rfl,hq,q⟩:=h;obtain⟨u,rfl,rx⟩:=ZcO r;cases rx;obtain⟨its,r',pl,hz⟩:=I.list hq;have hb:=Zef r';have hlt:p<s.heap.objs.size:=pl.lt;refine call_all_walk (wpAny_pyIter_list pl.isList ?_);refine⟨s.heap.objs.size,[s.heap.objs.size,p],[s.heap.objs.size],its.toArray.size,_,_,fun i=>(bs[i]?).getD true,rfl,Walks.list (A:=X.A.in1) (I.ok.hd hc) _ p (Nat.ne_of_lt hlt) its.toArray,
  ⟨⟨_,Heap.get?_push_size _ rfl,rfl,rfl⟩,pl.isList.push _⟩,fun i v s' Q' E' hP hQ=> ?_,fun h' tk hk=> ?_⟩
 ·obtain⟨bit,ebit,rfl⟩:=hb.get i v (by simpa using hP);simp only [ebit,Option.getD_some] at hQ
  exact wpAny_truthy_bool hQ
 ·have e:((List.range its.toArray.size).all fun i=>(bs[i]?).getD true)=bs.all id:=by
   rw[List.size_toArray,hb.length];exact LSm.range_all bs
  rw[e];exact⟨.bl (bs.all id),H,I.kept (LSm.kept_iter hk),rfl,q⟩
def Zoa:V->Option Value
 | .ty n=>some (.type n)
 | .ref a=>some (.ref a)
 |_=>none
theorem Zab:ZaP X (.builtin "isinstance") (fun xs H Q=>∃x y t c b,xs=[x,y]/\Zoa y=some c/\Ze1 X.K H x t/\PySem.W.kitOne X.K t c=some b/\Q (.bl b) H):=by
 intro pins s σ H xs us Q I r h;obtain⟨x,y,t,c,b,rfl,hy,ty,e,q⟩:=h;obtain⟨u,u2,rfl,rx,ry⟩:=ZjJ r;have ec:u2=c:=by
  cases y with
  |ty n=>cases hy;exact ry
  |ref a=>cases hy;exact ry
  |_=>cases hy
 subst ec;exact ZmM I rx ty e fun tk=>⟨.bl b,H,I.tok _,rfl,q⟩
end
def Ext:L2.St->L2.St->Prop
 |[],[]=>True
 |none::a,_::b=>Ext a b
 |some v::a,w::b=>w=some v/\Ext a b
 |_,_=>False
theorem Ext.len:∀{a b:L2.St},Ext a b->a.length=b.length
 |[],[],_=>rfl
 |none::a,_::b,h=>by
  have h:Ext a b:=h;simp[h.len]
 |some v::a,w::b,h=>by
  have h:w=some v/\Ext a b:=h;simp[h.2.len]
 |[],_::_,h=>h.elim
 |none::_,[],h=>h.elim
 |some _::_,[],h=>h.elim
theorem Ext.get:∀{a b:L2.St},Ext a b->∀(i:Nat) (v:V),a[i]? =some (some v)->b[i]? =some (some v)
 |[],[],_,i,v,e=>by simp at e
 |none::a,_::b,h,i,v,e=>by
  have h:Ext a b:=h;cases i with
  |zero=>simp at e
  |succ i=>simpa using h.get i v (by simpa using e)
 |some z::a,w::b,h,i,v,e=>by
  have h:w=some z/\Ext a b:=h;cases i with
  |zero=>
   have e':z=v:=by simpa using e
   subst e';rw[h.1]
   rfl
  |succ i=>simpa using h.2.get i v (by simpa using e)
 |[],_::_,h,_,_,_=>h.elim
 |none::_,[],h,_,_,_=>h.elim
 |some _::_,[],h,_,_,_=>h.elim
def frY(own:List Str)(fr:List (Str×Nat))(σ:L2.St):L2.St:=own.map (fun _=>none)++fr.map fun p=>σ.getD p.2 none
def nmY(own:List Str)(fr:List (Str×Nat)):List Str:=own++fr.map (·.1)
def Xx(X:Cx)(N:List Str)(scope:Scope)(cl:List (Str×Addr))(C:Addr)(s:Shared)(H:Hp)(fp:List Addr):Cx:=
 {X with N:=N,s₀:=s,H₀:=H,env:=compEnvC scope cl C X.env,outer:=X.stack,stack:=X.stack,ex:=fp,fn:=fun _=>false,pn:=[],xe:=fun _ _=>False}
def ZkW:Option NameKind->Bool
 |some .cell=>true
 |some .free=>true
 |_=>false
theorem ZiO{o:Option NameKind}(h:ZkW o=true):o=some .cell\/o=some .free:=by
 cases o with
 |none=>cases h
 |some k=>cases k<;>first|exact .inl rfl|exact .inr rfl|cases h
def ZkX(X:Cx)(scope:Scope):List (Str×Nat)->Prop
 |[]=>True
 |p::r=>(X.N[p.2]? =some p.1/\ZkW (X.env.scope.names.lookup p.1)=true/\ZkW ((relabel scope X.env).names.lookup p.1)=true)/\ZkX X scope r
theorem ZkX.mem{X:Cx}{scope:Scope}:∀{fr:List (Str×Nat)},ZkX X scope fr->∀p∈fr,X.N[p.2]? =some p.1/\ZkW (X.env.scope.names.lookup p.1)=true/\ZkW ((relabel scope X.env).names.lookup p.1)=true
 |[],_,p,hp=>by simp at hp
 |q::r,h,p,hp=>by
  have h:_/\ZkX X scope r:=h;rcases List.mem_cons.mp hp with rfl|hmore
  ·exact h.1
  ·exact h.2.mem p hmore
def ZkY(X:Cx):List (Str×Addr)->Prop
 |[]=>True
 |p::r=>X.env.cells.lookup p.1=some p.2/\ZkY X r
theorem ZkY.get{X:Cx}:∀{cl:List (Str×Addr)},ZkY X cl->∀x c,cl.lookup x=some c->X.env.cells.lookup x=some c
 |[],_,x,c,e=>by simp at e
 |(n,a)::r,h,x,c,e=>by
  have h:X.env.cells.lookup n=some a/\ZkY X r:=h
  by_cases hx:x=n
  ·subst hx;simp only [List.lookup_cons,beq_self_eq_true] at e
   cases e;exact h.1
  ·have hb:(x==n)=false:=by simpa using hx
   simp only [List.lookup_cons,hb] at e
   exact h.2.get x c e
def Zeg(scope:Scope)(env:Env)(cl:List (Str×Addr)):Bool:=
 scope.kind==.function&&scope.names.all (fun y=>y.2 !=.cell)&&scope.names.all (fun y=>y.2 !=.local||scope.names.lookup y.1==some .local)&&
 (relabel scope env).names.all (fun y=> !ZkW (some y.2)||(cl.lookup y.1).isSome)
def ZcR:TT:=fun _ H Q=>Q true H
def PTs(X:Cx)(ifs:List Expr)(t:TT):Prop:=
 ∀(pins:List (Addr×Obj)) (s:Shared) (σ:L2.St) (H:Hp) (Q:Bool->Hp->Prop),Inv X pins σ H s->t σ H Q->
  wpAny (model X.prog X.w) X.A (forIn ifs true fun c r=>if r=true then do let ok<-isTrue c X.env (eval c X.env);pure (ForInStep.yield ok) else pure (ForInStep.yield r)) (TP X pins σ Q) X.xe s
theorem ZaC{X:Cx}:PTs X [] ZcR:=fun _ _ _ H _ I h=>wpAny_tests_nil ⟨H,I,h⟩
theorem Zq1{prog:Program}{w:World}{A:Around}{R:Result->Shared->Prop}{s:Shared}{elt tg iter:Expr}{ifs:List Expr}{scope:Scope}{pos:Pos}{it acc:Value}{env:Env}(J:Nat->Shared->Prop)
  (turn:∀n s,J n s->∀E:Value->Shared->Prop,wpAny (model prog w) A (pyNext it) (fun r s₁=>(r=none/\R (.ok .next) s₁)\/∃v,r=some v/\
    wpAny (model prog w) A (letOwnedTupleGo tg it v) (fun _ s₂=>wpAny (model prog w) A (assign tg env v) (fun _ s₃=>
     wpAny (model prog w) A (forIn ifs true fun c r=>if r=true then do let ok<-isTrue c env (eval c env);pure (ForInStep.yield ok) else pure (ForInStep.yield r)) (fun ok s₄=>
      (ok=true/\wpAny (model prog w) A (eval elt env) (fun x s₅=>wpAny (model prog w) A (call (.builtin "list.append") [acc,x]) (fun _ s₆=>∃m,m<n/\J m s₆) E s₅) E s₄)\/
      (ok=false/\∃m,m<n/\J m s₄)) E s₃) E s₂) E s₁) E s)
  (n:Nat)(h:J n s):codeAny (model prog w) A (.compLoop (.ListComp elt [⟨tg,iter,ifs,0⟩] scope pos) 0 it acc env) R s:=by
 refine codeAny_loop rfl J (fun n s hJ=> ?_) n h;show wpAny _ A ((compTurn (.ListComp elt [⟨tg,iter,ifs,0⟩] scope pos) 0 it acc env).onRaise (fun x=>do noteFrame x env;theTreesLotGoes x)) _ _ s
 refine wpAny_noted ?_;rw[compTurn_list];refine wpAny_bind (wpAny_standAt (wpAny_bind (thn (turn n s hJ _) fun r s₁ h₁=> ?_)));rcases h₁ with ⟨rfl,h₁⟩|⟨v,rfl,h₁⟩
 ·exact wpAny_pure h₁
 ·refine wpAny_bind (thn h₁ fun _ s₂ h₂=>wpAny_bind (thn h₂ fun _ s₃ h₃=>wpAny_bind (thn h₃ fun ok s₄ h₄=> ?_)));rcases h₄ with ⟨rfl,h₄⟩|⟨rfl,h₄⟩
  ·exact wpAny_bind (wpAny_bind (thn h₄ fun x s₅ h₅=>wpAny_bind (thn h₅ fun _ s₆ h₆=>wpAny_pure (wpAny_pure ⟨rfl,h₆⟩))))
  ·exact wpAny_pure ⟨rfl,h₄⟩
def Zob(J:It)(own:List Str)(fr:List (Str×Nat))(g:TG)(tc:TT)(te:TE)(σ:L2.St)(H1:Hp)(Q:VK):Prop:=∀D,H1 D=none->∃W:Nat->Nat->List V->Hp->Prop,(∃m,W 0 m [] (upd H1 D (.lst [])))/\
 ∀i m ys H2,W i m ys H2->H2 D=some (.lst ys)/\((J.stop i H2/\Q (.ref D) H2)\/(J.go i H2/\∃N:List V->Hp->Prop,(∀zs H',N zs H'->∃m',m'<m/\W (i+1) m' zs H')/\
  ∀x H',J.yld i H2 x H'->g x (frY own fr σ) H' fun σ3 H3=>Ext (frY own fr σ) σ3/\tc σ3 H3 fun b H4=>if b=true then te σ3 H4 fun v H5=>H5 D=some (.lst ys)/\ys.length<sizeLine/\N (ys++[v]) (upd H5 D (.lst (ys++[v]))) else N ys H4))
def ZjS(wi:TI)(own:List Str)(fr:List (Str×Nat))(g:TG)(tc:TT)(te:TE):TE:=fun σ H Q=>wi σ H fun J H1=>Zob J own fr g tc te σ H1 Q
theorem ZhY{X:Cx}{elt tg iter:Expr}{ifs:List Expr}{scope:Scope}{pos ipos:Pos}{wi:TI}{g:TG}{tc:TT}{te:TE}{cl:List (Str×Addr)}(own:List Str)(fr:List (Str×Nat))(hc:X.calm=true)(hi:PI X tg iter wi)
  (hclos:closureFor scope X.env=pure cl)(hcl:ZkY X cl)(hok:Zeg scope X.env cl=true)(hfr:ZkX X scope fr)
  (hg:∀C s H fp,PG (Xx X (nmY own fr) scope cl C s H fp) tg g)(ht:∀C s H fp,PTs (Xx X (nmY own fr) scope cl C s H fp) ifs tc)(he:∀C s H fp,PE (Xx X (nmY own fr) scope cl C s H fp) elt te)
  (hs:∀x,foldedSetIterable iter X.env x=pure x){pins:List (Addr×Obj)}{s:Shared}{σ:L2.St}{H:Hp}{Q:VK}{use:Option (Value->Sem Unit)}{PQ:Value->Shared->Prop}(I:Inv X pins σ H s)(h:ZjS wi own fr g tc te σ H Q)
  (hend:∀(s6:Shared) (H5:Hp) (C D:Addr) (m:Str->Option Value),Inv X pins σ H5 s6->s6.heap.Ns C m->Zgy X pins H5 C->Q (.ref D) H5->compPost (model X.prog X.w) X.A X.xe use PQ (.ref D) C (.ok .next) s6):
  wpAny (model X.prog X.w) X.A (comprehension (.ListComp elt [⟨tg,iter,ifs,0⟩] scope pos) scope X.env ipos (newList []) false (eval iter X.env) use) PQ X.xe s:=by
 have ok1:scope.kind=.function:=by
  unfold Zeg at hok
  simp only [Bool.and_eq_true,beq_iff_eq] at hok
  exact hok.1.1.1
 have ok2:∀y∈scope.names,y.2≠.cell:=by
  unfold Zeg at hok
  simp only [Bool.and_eq_true,List.all_eq_true] at hok
  intro y hy
  simpa using hok.1.1.2 y hy
 have ok3:∀y∈scope.names,y.2=.local->scope.names.lookup y.1=some .local:=by
  unfold Zeg at hok
  simp only [Bool.and_eq_true,List.all_eq_true] at hok
  intro y hy e;have:=hok.1.2 y hy
  simpa [e] using this
 have ok4:∀x,(relabel scope X.env).names.lookup x=some .cell\/(relabel scope X.env).names.lookup x=some .free->∃c,cl.lookup x=some c:=by
  unfold Zeg at hok
  simp only [Bool.and_eq_true,List.all_eq_true] at hok
  intro x hx;have key:∀k,(relabel scope X.env).names.lookup x=some k->ZkW (some k)=true->∃c,cl.lookup x=some c:=fun k e hk=>by
   have:=hok.2 (x,k) (PySem.mem_of_lookup e);simp only [hk,Bool.not_true,Bool.false_or] at this
   exact Option.isSome_iff_exists.mp this
  rcases hx with e|e
  ·exact key _ e rfl
  ·exact key _ e rfl
 refine wpAny_comprehension_free (use:=use) rfl hs hclos ok1 ok3 ?_;refine thn (hi pins s σ H _ I h) fun v s1 h1=>thn h1 fun itv s2 h2=> ?_;obtain⟨it,fp,tn,J,H2,e,I2,T,st2,f2,hD⟩:=h2;subst e;have lt2:∀b∈fp,b<s2.heap.objs.size:=fun b hb=>by
  obtain⟨o,e,_⟩:=T.obj _ _ st2 b hb;exact Heap.lt_size e
 refine wpAny_newObj_type (wpAny_newFunctionEnv ok2 (by intro y hy;simp at hy) (fun h₁ hns₁ hsb₁=> ?_) ok1)
 obtain⟨W,⟨m0,w0⟩,turn⟩:=hD s2.heap.objs.size I2.fresh;have I3:Inv X pins σ (upd H2 s2.heap.objs.size (.lst [])) {s2 with heap:=s2.heap.push {cls:=.type "list",data:=.seq ([]:List Value).toArray}}:=I2.lnew (t':=s2.toks) .nil (Nat.zero_le _);have st3:=T.keep 0 _ (s2.heap.push {cls:=.type "list",data:=.seq ([]:List Value).toArray}) st2 fun b hb o e=>Heap.get?_push_of_some _ e;have f3:∀b∈fp,Zgy X pins (upd H2 s2.heap.objs.size (.lst [])) b:=fun b hb=>⟨by rw[Zr (Nat.ne_of_lt (lt2 b hb))];exact(f2 b hb).1,(f2 b hb).2⟩
 generalize hs3:({s2 with heap:=s2.heap.push {cls:=.type "list",data:=.seq ([]:List Value).toArray}}:Shared)=s3 at I3
 have es3:s3.heap=s2.heap.push {cls:=.type "list",data:=.seq ([]:List Value).toArray}:=by rw[<-hs3]
 have eg3:s3.gens=s2.gens:=by rw[<-hs3]
 have lt3:∀b∈fp,b<s3.heap.objs.size:=fun b hb=>by rw[es3,Heap.size_push];exact Nat.lt_succ_of_lt (lt2 b hb)
 rw[<-es3] at st3
 have hns:h₁.Ns s3.heap.objs.size (fun x=>([]:List (Str×Value)).reverse.lookup x):=by rw[es3];exact hns₁
 have k34:∀b o,s3.heap.get? b=some o->h₁.get? b=some o:=fun b o e=>by
  have hsb:=hsb₁.extBut b o;rw[es3] at e
  exact hsb (Nat.ne_of_lt (Heap.lt_size e)) (Heap.get?_push_of_some _ e)
 generalize hs4:({s3 with heap:=h₁,toks:=s3.toks+([]:List (Str×Value)).length}:Shared)=s4;have es4:s4.heap=h₁:=by rw[<-hs4]
 have st4:tn 0 s4.heap:=T.keep 0 _ _ st3 fun b hb o e=>by rw[es4];exact k34 b o e
 have IY:Inv (Xx X (nmY own fr) scope cl s3.heap.objs.size s3 (upd H2 s2.heap.objs.size (.lst [])) fp) [] (frY own fr σ) (upd H2 s2.heap.objs.size (.lst [])) s4:=by
  refine⟨⟨I3.ok.mod,ok1,I3.ok.glob,I3.ok.blt,Nat.le_refl _,fun x y c e1 e2=>I3.ok.inj x y c (hcl.get x c e1) (hcl.get y c e2),fun x hx=>ok4 x hx,(fun x c z=>nomatch z),I3.ok.hd,I3.ok.frames,.inl rfl,
   fun b hb=>⟨Nat.ne_of_lt (lt3 b hb),fun x c e=>(f3 b hb).2.2.2.2.1 x c (hcl.get x c e)⟩,I3.bs,Nat.le_trans I3.ok.bsz I3.sz,fun b o e hb=> ?_,fun b hb z=> ?_,I3.stack,I3.stkFree⟩,
   by rw[<-hs4];rfl,by rw[<-hs4];exact I3.bare,Un.kept (by rw[es4];exact k34),⟨_,by rw[es4];exact hns,fun i x v e1 e2 e3=> ?_⟩,fun x c e=> ?_,I3.hok.fresh (Nat.le_refl _),fun x c e=>I3.freeC x c (hcl.get x c e),fun p hp=>absurd hp (by simp[Xx]),by rw[es4];exact I3.hok.kept k34, ?_⟩
  ·rcases(f3 b hb).2.2.2.1 with z|z
   ·exact I3.ok.noex b o e z
   ·exact absurd (Nat.lt_of_lt_of_le (Heap.lt_size (I3.ok.bs b o e).1) z) (Nat.lt_irrefl _)
  ·rcases List.mem_cons.mp (I3.stkSub b z) with q|q
   ·exact(f3 b hb).2.1 q
   ·exact(f3 b hb).2.2.1 q
  ·have e1:(own++fr.map (·.1))[i]? =some x:=e1;have e2:(own.map (fun _=>(none:Option V))++fr.map fun p=>σ.getD p.2 none)[i]? =some (some v):=e2;have hi:own.length<=i:=by
    refine Nat.le_of_not_lt fun hlt=> ?_;rw[List.getElem?_append_left (by simpa using hlt),List.getElem?_map] at e2
    cases q:own[i]? with
    |none=>rw[q] at e2;cases e2
    |some a=>rw[q] at e2;cases e2
   rw[List.getElem?_append_right hi,List.getElem?_map] at e1
   rw[List.getElem?_append_right (by simpa using hi),List.getElem?_map,List.length_map] at e2
   cases q:fr[i-own.length]? with
   |none=>rw[q] at e1;cases e1
   |some p=>
    rw[q] at e1 e2
    obtain rfl:p.1=x:=Option.some.inj e1;have e2:σ.getD p.2 none=some v:=Option.some.inj e2;have e4:σ[p.2]? =some (some v):=by
     rw[List.getD_eq_getElem?_getD] at e2
     cases z:σ[p.2]? with
     |none=>rw[z] at e2;cases e2
     |some a=>
      rw[z] at e2
      have e2:a=some v:=e2;rw[e2]
    obtain⟨n1,n2,n3⟩:=hfr.mem p (List.mem_of_getElem? q);obtain⟨m,hn,hl⟩:=I3.loc;have vis:Vis X.env.scope p.1:=.inr (ZiO n2);obtain⟨u,r,l⟩:=hl p.2 p.1 v n1 e4 vis;refine⟨u,r, ?_⟩;rcases l with ⟨k,_⟩|⟨_,c,e,z⟩
    ·have k:X.env.scope.names.lookup p.1=some .local:=k;rw[k] at n2;cases n2
    ·obtain⟨c',e'⟩:=ok4 p.1 (ZiO n3);have e'':=hcl.get _ _ e';rw[e] at e''
     cases e'';obtain⟨o,ho,hd⟩:=z;exact .inr ⟨ZiO n3,c,e',o,by rw[es4];exact k34 c o ho,hd⟩
  ·obtain⟨v,o,ho,hd⟩:=I3.cell x c (hcl.get x c e);exact⟨v,o,by rw[es4];exact k34 c o ho,hd⟩
  ·simp[frY,nmY,Xx]
 have fY:∀{H':Hp} {s':Shared},(∀b∈fp,H' b=none)->∀b∈fp,Zgy (Xx X (nmY own fr) scope cl s3.heap.objs.size s3 (upd H2 s2.heap.objs.size (.lst [])) fp) [] H' b:=fun{H' _} hn b hb=>
  ⟨hn b hb,Nat.ne_of_lt (lt3 b hb),fun z=>by
   rcases List.mem_cons.mp (I3.stkSub b z) with q|q
   ·exact(f3 b hb).2.1 q
   ·exact(f3 b hb).2.2.1 q,.inl hb,fun x c e=>(f3 b hb).2.2.2.2.1 x c (hcl.get x c e),fun p hp=>absurd hp (by simp[Xx])⟩
 have loop:codeAny (model X.prog X.w) X.A (.compLoop (.ListComp elt [⟨tg,iter,ifs,0⟩] scope pos) 0 (.ref it) (.ref s2.heap.objs.size) (compEnvC scope cl s3.heap.objs.size X.env))
   (compPost (model X.prog X.w) X.A X.xe use PQ (.ref s2.heap.objs.size) s3.heap.objs.size) s4:=by
  refine Zq1 (fun n s'=>∃i ys H',Inv (Xx X (nmY own fr) scope cl s3.heap.objs.size s3 (upd H2 s2.heap.objs.size (.lst [])) fp) [] (frY own fr σ) H' s'/\tn i s'.heap/\(∀b∈fp,H' b=none)/\W i n ys H') ?_ m0
   ⟨0,[],_,IY,st4,fun b hb=>(f3 b hb).1,w0⟩
  rintro n s5 ⟨i,ys,H5,I5,st5,fr5,w5⟩ E;obtain⟨d5,way⟩:=turn i n ys H5 w5;rcases way with ⟨stop,q⟩|⟨go,N,hN,step⟩
  ·refine thn (T.done (Xx X (nmY own fr) scope cl s3.heap.objs.size s3 (upd H2 s2.heap.objs.size (.lst [])) fp) rfl rfl rfl hc i [] s5 _ H5 E I5 (fY (s':=s5) fr5) st5 stop) fun r s6 ⟨hr,I6⟩=> .inl ⟨hr, ?_⟩;obtain⟨m,hn,_⟩:=I6.loc;have I7:Inv X pins σ H5 s6:=I3.call' (s':=s6) (ch:=fp) I6.os I6.base I6.hok I6.bare (fun b hb=>⟨(f3 b hb).2.2.2.1,(f3 b hb).2.1,(f3 b hb).2.2.2.2.1,(f3 b hb).2.2.2.2.2⟩);exact hend s6 H5 _ _ m I7 hn (I3.fpOk (Nat.le_refl _) I6.free) q
  ·refine thn (T.item (Xx X (nmY own fr) scope cl s3.heap.objs.size s3 (upd H2 s2.heap.objs.size (.lst [])) fp) rfl rfl rfl hc i [] s5 _ H5 E I5 (fY (s':=s5) fr5) st5 go) fun r s6 ⟨u,hr,h6⟩=> .inr ⟨u,hr, ?_⟩;refine thn h6 fun _ s7 ⟨x,H7,I7,r7,y7,st7,fr7⟩=> ?_;have I7':=I7.pinned (fY (s':=s7) fr7) (T.obj _ _ st7);refine up (thn (hg _ _ _ _ _ s7 _ H7 x u _ I7' r7 (step x H7 y7)) fun _ s8 ⟨σ8,H8,I8,x8,q8⟩=> ?_)
   refine up (thn (ht _ _ _ _ _ s8 σ8 H8 _ I8 q8) fun ok s9 ⟨H9,I9,q9⟩=> ?_);have again:∀{σ':L2.St} {H':Hp} {s':Shared} {zs:List V},Inv (Xx X (nmY own fr) scope cl s3.heap.objs.size s3 (upd H2 s2.heap.objs.size (.lst [])) fp) ([]++Zgz fp s7.heap) σ' H' s'->Ext (frY own fr σ) σ'->N zs H'->
     ∃m,m<n/\∃i ys H',Inv (Xx X (nmY own fr) scope cl s3.heap.objs.size s3 (upd H2 s2.heap.objs.size (.lst [])) fp) [] (frY own fr σ) H' s'/\tn i s'.heap/\(∀b∈fp,H' b=none)/\W i m ys H':=fun{σ' H' s' zs} I' x' n'=>by
    obtain⟨m',hm,w'⟩:=hN zs H' n';refine⟨m',hm,i+1,zs,H',I'.unpinned.weak x'.len fun j v e=>x'.get j v e,T.keep _ _ _ st7 fun b hb o e=>(I'.pin (b,o) (List.mem_append_right _ (List.mem_append_right _ (Zce hb e)))).1,fun b hb=> ?_,w'⟩;obtain⟨o,e,_⟩:=T.obj _ _ st7 b hb;exact(I'.pin (b,o) (List.mem_append_right _ (List.mem_append_right _ (Zce hb e)))).2.1
   cases ok with
   |false=>
    rw[if_neg Bool.false_ne_true] at q9
    exact .inr ⟨rfl,again I9 x8 q9⟩
   |true=>
    rw[if_pos rfl] at q9
    refine .inl ⟨rfl,up (thn (he _ _ _ _ _ s9 σ8 H9 _ I9 q9) fun y s10 ⟨v10,H10,I10,r10,d10,z10,n10⟩=> ?_)⟩;refine up (thn (XR _ s10 σ8 H10 (.ref s2.heap.objs.size) [v10] _ [y] (fun _ H'=>N (ys++[v10]) H') I10 rfl (.cons r10 .nil) ⟨s2.heap.objs.size,ys,v10,rfl,rfl,d10,z10,n10⟩) fun _ s11 ⟨v11,H11,I11,_,n11⟩=> ?_);exact again I11 x8 n11
 have ZcP:codeAny (model X.prog X.w) X.A (.compStart (.ListComp elt [⟨tg,iter,ifs,0⟩] scope pos) 0 (.ref it) (.ref s2.heap.objs.size) (compEnvC scope cl s3.heap.objs.size X.env))
   (compPost (model X.prog X.w) X.A X.xe use PQ (.ref s2.heap.objs.size) s3.heap.objs.size) s4:=codeAny_compStart_list loop (T.self _ _ _ _ _ st4 loop)
 exact ZcP
theorem Zci{X:Cx}{elt tg iter:Expr}{ifs:List Expr}{scope:Scope}{pos:Pos}{wi:TI}{g:TG}{tc:TT}{te:TE}{cl:List (Str×Addr)}(own:List Str)(fr:List (Str×Nat))(hc:X.calm=true)(hi:PI X tg iter wi)
  (hclos:closureFor scope X.env=pure cl)(hcl:ZkY X cl)(hok:Zeg scope X.env cl=true)(hfr:ZkX X scope fr)
  (hg:∀C s H fp,PG (Xx X (nmY own fr) scope cl C s H fp) tg g)(ht:∀C s H fp,PTs (Xx X (nmY own fr) scope cl C s H fp) ifs tc)(he:∀C s H fp,PE (Xx X (nmY own fr) scope cl C s H fp) elt te)
  (hs:∀x,foldedSetIterable iter X.env x=pure x:=by intro _;rfl):PE X (.ListComp elt [⟨tg,iter,ifs,0⟩] scope pos) (ZjS wi own fr g tc te):=by
 intro pins s σ H Q I h;rw[eval_ListComp];refine ZhY (use:=none) own fr hc hi hclos hcl hok hfr hg ht he hs I h fun s6 H5 C D m I6 hn f q=>⟨m,hn,fun h' hs'=> ?_⟩
 exact⟨.ref D,H5,I6.turned (t':=s6.toks) (fun b o hb e=>(hs'.2 b hb).trans e) f.1 f.2.1 f.2.2.2.1 f.2.2.2.2.1 f.2.2.2.2.2,rfl,q⟩
theorem ZlT{X:Cx}{elt tg iter:Expr}{ifs:List Expr}{scope:Scope}{pos py spos:Pos}{y:Str}{i:Nat}{wi:TI}{g:TG}{tc:TT}{te:TE}{cl:List (Str×Addr)}(own:List Str)(fr:List (Str×Nat))(hN:X.N.Nodup)(hy:X.N[i]? =some y)(hx:Loc X.env.scope y)(hc:X.calm=true)(hi:PI X tg iter wi)
  (hclos:closureFor scope X.env=pure cl)(hcl:ZkY X cl)(hok:Zeg scope X.env cl=true)(hfr:ZkX X scope fr)
  (hg:∀C s H fp,PG (Xx X (nmY own fr) scope cl C s H fp) tg g)(ht:∀C s H fp,PTs (Xx X (nmY own fr) scope cl C s H fp) ifs tc)(he:∀C s H fp,PE (Xx X (nmY own fr) scope cl C s H fp) elt te)
  (hs:∀x,foldedSetIterable iter X.env x=pure x:=by intro _;rfl)(hsw:swapsWith (.ListComp elt [⟨tg,iter,ifs,0⟩] scope pos) (some (.Name y py)) spos.line X.env=pure true:=by rfl)
  (hf:X.fn y=true\/X.env.scope.names.lookup y=some .local:=by first|exact .inl rfl|exact .inr rfl|assumption):
  PS X (.Assign [.Name y py] (.ListComp elt [⟨tg,iter,ifs,0⟩] scope pos) spos) (ZrF (ZjS wi own fr g tc te) (ZhN i)):=by
 intro pins s σ H D' I h;rw[exec_Assign_Name_used y py _ spos hsw];refine wpAny_bind (wpAny_standAt (wpAny_bind (wpAny_bind ?_)));refine(thn (ZhY (use:=some (assign (.Name y py) X.env)) (PQ:=fun _ s'=>SP X pins D' .next s') own fr hc hi hclos hcl hok hfr hg ht he hs I h fun s6 H5 C D m I6 hn f q=> ?_) fun _ s' hq=>wpAny_pure (wpAny_pure hq));obtain⟨o,es,ep,ho,hrest⟩:=id hn;have I7:Inv X (pins++[(C,o)]) σ H5 s6:=I6.pins_of fun p hp=>by
  rcases List.mem_append.mp hp with old|z
  ·exact I6.pin p (List.mem_append_right _ old)
  ·have e:p=(C,o):=by simpa using z
   subst e;exact⟨ho,f.1,f.2.1,f.2.2.1,fun v z=>by rw[hrest.1] at z;cases z⟩
 refine thn (Yn (pos:=py) hN hy hx hf (pins++[(C,o)]) s6 σ H5 (.ref D) (.ref D) D'.nx I7 rfl q) fun _ s8 ⟨σ8,H8,I8,q8⟩=> ?_;have hC:=I8.pin (C,o) (List.mem_append_right _ (List.mem_append_right _ (by simp)));refine⟨m,hn.at' fun o' e=>by rw[ho] at e;cases e;exact hC.1,fun h' hs'=>⟨σ8,H8,I8.unpinned.turned (t':=s8.toks) (fun b o hb e=>(hs'.2 b hb).trans e) hC.2.1 f.2.1 f.2.2.2.1 f.2.2.2.2.1 f.2.2.2.2.2,q8⟩⟩
theorem ZrU{te:TE}{D:ZeB}{σ:L2.St}{H:Hp}(h:te σ H D.rt):ZsQ te D σ H:=h
theorem Zq2{r:List V->Hp->VK->Prop}{t:TA}{σ:L2.St}{H:Hp}{Q:VK}(h:t σ H fun vs H1=>r vs H1 Q):tCB r t σ H Q:=h
theorem ZrV{ta:TE}{σ:L2.St}{H:Hp}{Q:List V->Hp->Prop}(h:ta σ H fun x H1=>Q [x] H1):ZnY ta ZkO σ H Q:=h
theorem Zoc{z:Str}{own:List Str}{fr:List (Str×Nat)}{te:TE}{σ:L2.St}{H:Hp}{Q:VK}{i0 j:Nat}(f:Nat->V)(hv:σ[j]? =some (some (.str z)))(hz:z.length<=sizeLine)
  (hx:∀v,Ext (frY own fr σ) ((frY own fr σ).set i0 (some v)))(he:∀c H2 (Q2:VK),Q2 (f c) H2->te ((frY own fr σ).set i0 (some (.str ⟨#[c]⟩))) H2 Q2)(q:∀D,H D=none->Q (.ref D) (upd H D (.lst (z.cps.toList.map f)))):
  ZjS (Zt7 (Zfb j)) own fr (ZhN i0) ZcR te σ H Q:=by
 refine⟨_,hv,z,rfl,fun D hD=> ?_⟩;refine⟨fun i m ys H2=>m=z.length-i/\i<=z.length/\ys=(z.cps.toList.take i).map f/\H2=upd H D (.lst ys),⟨z.length,by simp,Nat.zero_le _,by simp,rfl⟩, ?_⟩;rintro i m ys H2 ⟨rfl,hi,rfl,rfl⟩;refine⟨Zc, ?_⟩;have hl:z.cps.toList.length=z.length:=by rw[Array.length_toList];rfl
 by_cases hlt:i<z.length
 ·refine .inr ⟨hlt,fun zs H'=>zs=(z.cps.toList.take (i+1)).map f/\H'=upd H D (.lst zs),fun zs H' ⟨e1,e2⟩=>⟨z.length-(i+1),by omega,rfl,hlt,e1,e2⟩,fun x H' y=> ?_⟩;obtain⟨e,c,hc,ex⟩:=y;subst e ex;refine⟨hx _, ?_⟩;unfold ZcR
  dsimp only
  rw[if_pos rfl];refine he c _ _ ⟨Zc, ?_, ?_,Xv⟩
  ·rw[List.length_map,List.length_take];omega
  ·have e3:z.cps.toList[i]? =some c:=by rw[Array.getElem?_toList];exact hc
   rw[List.take_add_one,e3,List.map_append]
   rfl
 ·have e:i=z.length:=by omega
  subst e;refine .inl ⟨Nat.le_refl _, ?_⟩;rw[List.take_of_length_le (by rw[hl];exact Nat.le_refl _)]
  exact q D hD
end L3
namespace L3
open PySem PySem.Spec PyProof.Rows L2
theorem Xh:bootBuiltins "len"=some (.builtin "len"):=by decide+kernel
theorem ZrW:bootBuiltins "max"=some (.builtin "max"):=by decide+kernel
theorem Zod:bootBuiltins "all"=some (.builtin "all"):=by decide+kernel
theorem YQ:bootBuiltins "isinstance"=some (.builtin "isinstance"):=by decide+kernel
theorem Zoe:bootBuiltins "int"=some (.type "int"):=by decide+kernel
theorem Zd3:bootBuiltins "str"=some (.type "str"):=by decide+kernel
theorem Zq3:bootBuiltins "bool"=some (.type "bool"):=by decide+kernel
theorem Zq4:bootBuiltins "list"=some (.type "list"):=by decide+kernel
theorem Zq5:bootBuiltins "dict"=some (.type "dict"):=by decide+kernel
theorem ZjT:bootBuiltins "reversed"=some (.type "reversed"):=by decide+kernel
structure Cal (P:Program) (w:World) (K:PySem.W.Frag) (mg:Str->Option Value) (base:Heap) (CX:CXT) (k:Nat) (x:Str) (ps:List Str) (sp:Sp):Prop where
 ex:∃(f:Addr) (fd:FuncData),mg x=some (.ref f)/\PySem.W.keepIn K (.ref f)=true/\JT K fd ps []/\Yo P w K mg base CX k f fd ps sp
section
variable {X:Cx} {CX:CXT} {k:Nat} {x:Str} {ps:List Str} {sp:Sp} {E:XK} {e:PySem.Expr} {es:List PySem.Expr} {t:TA} {p pos:Pos}
theorem Yd(c:Cal X.prog X.w X.K X.mg X.base CX k x ps sp)(hr:Xb k X.A)(hg:Gl X x)(hx:JV CX X E)(ha:PA X (e::es) t)(hdb:(x==("__debug__":Str))=false:=by decide)
  (he:starEach (e::es) X.env=(false,eval e X.env)::starEach es X.env:=by rfl)(hpl:(backTo pos (starEach es X.env)).any (·.1)=false:=by rfl):PE X (.Call (.Name x p) (e::es) [] pos) (ZlP sp [] E t):=by
 obtain⟨f,fd,hm,hk,hb,F⟩:=c.ex;exact ZpN F hr hg hm hk hb .nil hx ha hdb he hpl
theorem ZrX(c:Cal X.prog X.w X.K X.mg X.base CX k x ps sp)(hr:Xb k X.A)(hg:Gl X x)(hx:JV CX X E)(hdb:(x==("__debug__":Str))=false:=by decide):PE X (.Call (.Name x p) [] [] pos) (ZlP sp [] E ZkO):=by
 obtain⟨f,fd,hm,hk,hb,F⟩:=c.ex;exact ZnZ F hr hg hm hk hb .nil hx hdb
end
theorem Zd4:∀{ns:List Int} {B:Nat},PySem.W.WData.weightAll (ns.map PySem.W.WData.int)<=B->∀i∈ns,Builtin.Int.intBits i<=B
 |[],_,_,i,hi=>by simp at hi
 |n::ns,B,h,i,hi=>by
  have h:PySem.W.WData.weight (.int n)+1+PySem.W.WData.weightAll (ns.map PySem.W.WData.int)<=B:=h;have e:PySem.W.WData.weight (.int n)=Builtin.Int.intBits n:=rfl;rw[e] at h
  rcases List.mem_cons.mp hi with rfl|hi
  ·omega
  ·exact Zd4 (by omega) i hi
theorem Zq6{l:PySem.W.OpenLaw}{n:Nat}{q:Program}{loose:List Str}{XP:(Str->Option Value)->Heap->Prop}{YP:World->Heap->Prop}{d:DefRec}
  (hn:l.most=some n)(hdf:d.params.defaults=[])
  (call:∀(w:World) (s₀ s₁:Shared) (mg mb:Str->Option Value) (fa:Addr) (a:Addr) (vs:List Value) (ns:List Int),
   PySem.W.Ground q loose [] XP w s₀ mg mb s₁.heap->YP w s₁.heap->mg d.name=some (.ref fa)->
   s₁.heap.get? a=some {cls:=.type "list",data:=.seq vs.toArray}->IntsAre vs ns->ns.length<=n->(∀i∈ns,Builtin.Int.intBits i<=1048576)->s₁.gens= #[]->
   codeAny (model l.prog w) callerA (.call (.ref fa) ⟨[.ref a],[]⟩) (fun r s'=>r=.ok (.ret (.bool true))/\OldK s₁.heap s'.heap/\s'.os=s₁.os/\AllBare s'.gens) s₁):
  PySem.W.WalkO q loose XP YP l.row.toRowW d [] (fun f vs=>PySem.call f vs):=by
 intro w s₀ s₁ mg mb G Y fa o pm cd doc dV kV ho hdata hcode hD hmg hg args vals as hpre hlay hread hwl hlow;obtain rfl:dV=.none:=PySem.W.Dflts.none hD hdf;obtain rfl:kV=.none:=PySem.W.Dflts.noKw hD;obtain⟨a,vs,ns,rfl,rfl,hobj,hints,hlen⟩:=Att.script_of hn hpre hwl;have hb:∀i∈ns,Builtin.Int.intBits i<=1048576:=by
  have h1:PySem.W.WData.layableAll [PySem.W.WData.list (ns.map PySem.W.WData.int)]=true:=hlay;have h2:PySem.W.WData.layable (PySem.W.WData.list (ns.map PySem.W.WData.int))=true:=by simpa [PySem.W.WData.layableAll] using h1
  have h3:PySem.W.WData.weight (PySem.W.WData.list (ns.map PySem.W.WData.int))<=2^20:=by
   unfold PySem.W.WData.layable at h2
   rw[Bool.and_eq_true] at h2
   exact of_decide_eq_true h2.2
  exact Zd4 (show PySem.W.WData.weightAll (ns.map PySem.W.WData.int)<=1048576 from h3)
 refine PySem.W.enter_call (codeAny_mono (call w s₀ s₁ mg mb fa a vs ns G Y hmg hobj hints hlen hb hg) fun r s' hq=> ?_);obtain⟨rfl,h2,h3,h4⟩:=hq;exact⟨.inl ⟨.bool true,.bool true,[],rfl,fun _=>rfl,.bool true,Att.post_true l _,fun _=>⟨List.Pairwise.nil,fun _ hm=>(nomatch hm)⟩⟩,h2,h3,h4⟩
def Zof(K:PySem.W.Frag):Sp:=fun vs H Q _=>∃(a:Addr) (ns:List Int),vs=[.ref a]/\SqL K H a (ns.map V.int)/\ns.length<=63/\(∀i∈ns,Builtin.Int.intBits i<=1048576)/\∀H',Q (.bl true) H'
theorem Zt8{l:PySem.W.OpenLaw}{k:Nat}{q:Program}{loose:List Str}{XP:(Str->Option Value)->Heap->Prop}{YP:World->Heap->Prop}{d:DefRec}{K:Params->PySem.W.Frag}{x:Str}
  (hn:l.most=some 63)(hdf:d.params.defaults=[])(hr:Xb k callerA)(hY:∀(w:World) (h:Heap),YP w h->(K w.params).In h)
  (F:∀(w:World) (mg:Str->Option Value) (fa:Addr) (h:Heap),(K w.params).In h->h.Ns mainGlobals mg->mg d.name=some (.ref fa)->
   ∃fd:FuncData,(∀(s:Shared) (u:Value),BindsTo s fd ⟨[u],[]⟩ [(x,u)])/\∀base:Heap,(K w.params).In base->base.Ns mainGlobals mg->Yo l.prog w (K w.params) mg base CX0 k fa fd [x] (Zof (K w.params))):
  PySem.W.WalkO q loose XP YP l.row.toRowW d [] (fun f vs=>PySem.call f vs):=by
 refine Zq6 hn hdf fun w s₀ s₁ mg mb fa a vs ns G Y hmg hobj hints hlen hb hg=> ?_;have KX:=hY w _ Y;obtain⟨fd,hbd,hF⟩:=F w mg fa _ KX G.T.g hmg;exact Zo9 KX G.T.g G.T.b G.T.builtins G.T.nolimit hg hobj hints (Nat.le_trans hlen (by decide)) hr hF hbd (fun H hO hS=>⟨a,ns,rfl,hS,hlen,hb,fun _=>rfl⟩) fun H e s' z=>z
end L3
namespace L3
open PySem PySem.Spec PyProof.Rows L2 PySem.Builtin PySem.Builtin.Str
section
variable {X:Cx}
theorem ZiP:ZaP X (.type "int") (fun xs H Q=>∃x n,xs=[.str x]/\PySem.intText? x=some n/\x.length<=640/\Q (.int n) H):=by
 intro pins s σ H xs us Q I r h;obtain⟨x,n,rfl,hn,hl,q⟩:=h;obtain⟨u,rfl,t,rfl⟩:=ZcO r;exact PySem.W.KIN.call_text hn hl ⟨.int n,H,I.tok _,⟨_,rfl⟩,q⟩
theorem ZmS{prog:Program}{w:World}{A:Around}{E:Value->Shared->Prop}{s:Shared}{z y:Str}{t u:Tok}{Q:Value->Shared->Prop}(hy:(y.length==0)=false)
  (h:∀(l:List (Str×Tok)) (k:Nat),l.map (·.1)=Txt.split z y->Q (.ref s.heap.objs.size) {s with heap:=s.heap.push {cls:=.type "list",data:=.seq (strValues l).toArray},toks:=k})(hz:z.length+2<=sizeLine):
  wpAny (model prog w) A (call (.builtin "str.split") [.str z t,.str y u]) Q E s:=by
 have few:(partsBetween z (occurrences z y 0 z.length (z.length+1)) y.length).length<=sizeLine:=by
  have most:=StrLaws.occ_length_le z y 0 z.length (z.length+1);rw[length_partsBetween];omega
 cases can:(decide (z.length<y.length)||decide (strKind z<strKind y))
 ·cases none':(occurrences z y 0 z.length (z.length+1)).isEmpty
  ·refine call_meets PySem.F.slot_str_split (typeIs_str _ _ _) PySem.F.entry_str_split (PySem.F.args_str_split_2 _ _) (meets_str_split_sep z y t u can hy none' (by omega) few) ?_;show wants Q E _ {s with toks:=_,heap:=s.heap.push {cls:=.type "list",data:=.seq (strsFrom s.toks (partsBetween z (occurrences z y 0 z.length (z.length+1)) y.length)).toArray}};rw[strsFrom_eq];exact h (numbered s.toks _) _ ((numbered_texts _ _).trans ((if_neg (ne_true_of_eq_false can)).trans (if_neg (ne_true_of_eq_false none'))).symm)
  ·exact call_meets PySem.F.slot_str_split (typeIs_str _ _ _) PySem.F.entry_str_split (PySem.F.args_str_split_2 _ _) (meets_str_split_not_found z y t u can hy none') (h [(z,t)] s.toks ((if_neg (ne_true_of_eq_false can)).trans (if_pos none')).symm)
 ·exact call_meets PySem.F.slot_str_split (typeIs_str _ _ _) PySem.F.entry_str_split (PySem.F.args_str_split_2 _ _) (meets_str_split_cannot_occur z y t u can) (h [(z,t)] s.toks (if_pos can).symm)
theorem ZhZ:∀l:List (Str×Tok),Yc ((l.map (·.1)).map V.str) (strValues l)
 |[]=> .nil
 |p::l=> .cons ⟨p.2,rfl⟩ (ZhZ l)
theorem Zeh:MtR X "str.split" (fun x vs H Q=>∃z c,x=.str z/\vs=[.str ⟨#[c]⟩]/\z.length+2<=sizeLine/\∀p,H p=none->Q (.ref p) (upd H p (.lst ((Txt.split z ⟨#[c]⟩).map V.str)))):=by
 intro pins s σ H x xs v us Q I rx r h;obtain⟨z,c,rfl,rfl,hz,q⟩:=h;obtain⟨t,rfl⟩:=rx;obtain⟨u,rfl,t2,rfl⟩:=ZcO r;refine ZmS (by rfl) (fun l k e=> ?_) hz;have hl:(Txt.split z ⟨#[c]⟩).length<=z.length+2:=split_le z ⟨#[c]⟩;have hv:=ZhZ l;rw[e] at hv
 exact⟨.ref _,_,I.lnew (t':=k) hv (by rw[List.length_map];omega),rfl,q _ I.fresh⟩
theorem ZeE:∀{ys:List Str} {us:List Value},Yc (ys.map V.str) us->StrsAre us ys
 |[],us,r=>by
  rw[List.map_nil] at r
  cases r;exact .nil
 |y::ys,us,r=>by
  rw[List.map_cons] at r
  cases r with
  |cons r1 r2=>
   obtain⟨t,e⟩:=r1;subst e;exact .cons y t (ZeE r2)
theorem XX:MtR X "str.join" (fun x vs H Q=>∃z p ys,x=.str z/\vs=[.ref p]/\SqL X.K H p (ys.map V.str)/\(ys.map (·.length)).sum+ys.length*z.length<=16777216/\Q (.str (Txt.join z ys)) H):=by
 intro pins s σ H x xs v us Q I rx r h;obtain⟨z,p,ys,rfl,rfl,hS,hk,q⟩:=h;obtain⟨t,rfl⟩:=rx;obtain⟨u,rfl,r2⟩:=ZcO r;cases r2;obtain⟨its,rv,pl,_⟩:=I.list hS;exact join_list pl.isList (by simpa using ZeE rv) hk fun t' k=>⟨.str _,H,I.tok _,⟨_,rfl⟩,q⟩
abbrev TF:=L2.St->Hp->(Str->Hp->Prop)->Prop
def PF1(X:Cx)(e:PySem.Expr)(t:TF):Prop:=
 ∀(pins:List (Addr×Obj)) (s:Shared) (σ:L2.St) (H:Hp) (Q:Str->Hp->Prop),Inv X pins σ H s->t σ H Q->wpAny (model X.prog X.w) X.A (eval e X.env) (fun u s'=>∃y tk H',u=.str y tk/\Inv X pins σ H' s'/\Q y H') X.xe s
def PFs(X:Cx)(es:List PySem.Expr)(t:Str->TF):Prop:=
 ∀(out:Str) (pins:List (Addr×Obj)) (s:Shared) (σ:L2.St) (H:Hp) (Q:Str->Hp->Prop),Inv X pins σ H s->t out σ H Q->wpAny (model X.prog X.w) X.A (joinParts out (evalEach es X.env)) (fun u s'=>∃y tk H',u=.str y tk/\Inv X pins σ H' s'/\Q y H') X.xe s
theorem Zam{x:Str}{k:Nat}{pos:Pos}:PF1 X (.Constant (.str x) k pos) (fun _ H Q=>Q x H):=fun _ _ _ H _ I h=>Calls.Constant_str ⟨x,_,H,rfl,I.tok _,h⟩
theorem Zd5:PFs X [] (fun out _ H Q=>out.length<=sizeLine/\Q out H):=fun out _ s _ H _ I h=>joinParts_nil ⟨out,_,H,rfl,I.tok _,h.2⟩ h.1
theorem YF{e:PySem.Expr}{es:List PySem.Expr}{t1:TF}{t2:Str->TF}(h1:PF1 X e t1)(h2:PFs X es t2):PFs X (e::es) (fun out σ H Q=>t1 σ H fun y H1=>(out++y).length<=sizeLine/\t2 (out++y) σ H1 Q):=by
 intro out pins s σ H Q I h;show wpAny (model X.prog X.w) X.A (joinParts out (eval e X.env::evalEach es X.env)) _ X.xe s;refine joinParts_cons (thn (h1 pins s σ H _ I h) fun v s1 hv=> ?_);obtain⟨y,tk,H1,rfl,I1,hz,q⟩:=hv;exact⟨hz,h2 (out++y) pins s1 σ H1 Q I1 q⟩
theorem Zbm{v1 v2:PySem.Expr}{rest:List PySem.Expr}{pos:Pos}{t:Str->TF}(h:PFs X (v1::v2::rest) t):PE X (.JoinedStr (v1::v2::rest) pos) (fun σ H Q=>t Str.empty σ H fun y H1=>Q (.str y) H1):=by
 intro pins s σ H Q I q;refine JoinedStr_many (thn (h Str.empty pins s σ H _ I q) fun u s1 hu=> ?_);obtain⟨y,tk,H1,rfl,I1,q1⟩:=hu;exact⟨.str y,H1,I1,⟨tk,rfl⟩,q1⟩
end
end L3
namespace M1
open PySem.Builtin PySem.Builtin.Str PySem
def cs(x:Str):List Nat:=x.cps.toList
theorem ext{x y:Str}(h:cs x=cs y):x=y:=Str.ext' (Array.toList_inj.mp h)
theorem ZV(x y:Str):cs (x++y)=cs x++cs y:=by
 show(x.cps++y.cps).toList=_;rw[Array.toList_append]
 rfl
theorem Zcj(c:Nat):cs ⟨#[c]⟩=[c]:=rfl
theorem Jg(x:Str):x.length=(cs x).length:=by
 show x.cps.size=x.cps.toList.length;rw[Array.length_toList]
def J(c:Nat):List (List Nat)->List Nat
 |[]=>[]
 |[p]=>p
 |p::q::r=>p++c::J c (q::r)
theorem ZdM(c:Nat):∀ps:List Str,cs (Str.join ⟨#[c]⟩ ps)=J c (ps.map cs)
 |[]=>rfl
 |[p]=>rfl
 |p::q::r=>by
  show cs (p++⟨#[c]⟩++Str.join ⟨#[c]⟩ (q::r))=_;rw[ZV,ZV,Zcj,ZdM c (q::r),List.append_assoc]
  rfl
theorem ZlU{c:Nat}:∀{a b r s:List Nat},c∉a->c∉b->a++c::r=b++c::s->a=b/\r=s
 |[],[],_,_,_,_,e=>⟨rfl,(List.cons.inj e).2⟩
 |[],y::b,_,_,_,hb,e=>absurd (by have:=(List.cons.inj e).1;rw[this];exact List.mem_cons_self) hb
 |x::a,[],_,_,ha,_,e=>absurd (by have:=(List.cons.inj e).1;rw[<-this];exact List.mem_cons_self) ha
 |x::a,y::b,r,s,ha,hb,e=>by
  obtain⟨e1,e2⟩:=List.cons.inj e;obtain⟨e3,e4⟩:=ZlU (fun z=>ha (List.mem_cons_of_mem _ z)) (fun z=>hb (List.mem_cons_of_mem _ z)) e2;exact⟨by rw[e1,e3],e4⟩
theorem Zrf{c:Nat}:∀{ps qs:List (List Nat)},ps≠[]->qs≠[]->(∀p∈ps,c∉p)->(∀q∈qs,c∉q)->J c ps=J c qs->ps=qs
 |[],_,h,_,_,_,_=>absurd rfl h
 |_,[],_,h,_,_,_=>absurd rfl h
 |[p],[q],_,_,_,_,e=>by
  have e:p=q:=e;rw[e]
 |[p],q::q2::r,_,_,hp,_,e=>by
  have e:p=q++c::J c (q2::r):=e;exact absurd (by rw[e];simp) (hp p List.mem_cons_self)
 |p::p2::r,[q],_,_,_,hq,e=>by
  have e:p++c::J c (p2::r)=q:=e;exact absurd (by rw[<-e];simp) (hq q List.mem_cons_self)
 |p::p2::r,q::q2::s,_,_,hp,hq,e=>by
  have e:p++c::J c (p2::r)=q++c::J c (q2::s):=e;obtain⟨e1,e2⟩:=ZlU (hp p List.mem_cons_self) (hq q List.mem_cons_self) e;have ih:=Zrf (by simp) (by simp) (fun z hz=>hp z (List.mem_cons_of_mem _ hz)) (fun z hz=>hq z (List.mem_cons_of_mem _ hz)) e2;rw[e1,ih]
theorem Zog(x:Str)(c:Nat):Txt.split x ⟨#[c]⟩≠[]:=by
 intro e;have h:=StrLaws.join_split x ⟨#[c]⟩;unfold Txt.split at e
 split at e
 ·cases e
 ·split at e
  ·cases e
  ·rename_i h1 h2
   rw[StrLaws.partsBetween_eq] at e
   obtain⟨p,q,e'⟩:=StrLaws.partsFrom_ne x (⟨#[c]⟩:Str).length 0 (occurrences x ⟨#[c]⟩ 0 x.length (x.length+1));rw[e'] at e
   cases e
theorem Zd6(x:Str)(c:Nat)(ps:List Str)(h0:ps≠[])(hf:∀p∈ps,c∉cs p)(e:cs x=J c (ps.map cs)):Txt.split x ⟨#[c]⟩=ps:=by
 have h1:J c ((Txt.split x ⟨#[c]⟩).map cs)=J c (ps.map cs):=by rw[<-ZdM,StrLaws.join_split,e]
 have h2:=Zrf (c:=c) (ps:=(Txt.split x ⟨#[c]⟩).map cs) (qs:=ps.map cs) (by simpa using Zog x c) (by simpa using h0)
  (fun p hp=>by obtain⟨q,hq,rfl⟩:=List.mem_map.mp hp;exact StrLaws.split_free x c q hq) (fun p hp=>by obtain⟨q,hq,rfl⟩:=List.mem_map.mp hp;exact hf q hq) h1
 have h3:∀(a b:List Str),a.map cs=b.map cs->a=b:=by
  intro a
  induction a with
  |nil=>intro b e;cases b with|nil=>rfl|cons _ _=>cases e
  |cons x a ih=>
   intro b e;cases b with
   |nil=>cases e
   |cons y b=>
    obtain⟨e1,e2⟩:=List.cons.inj e;rw[ext e1,ih b e2]
 exact h3 _ _ h2
def ix(n d:Nat):Option Int->Nat
 |none=>d
 |some i=>(max 0 (min (if i<0 then i+(n:Int) else i) (n:Int))).toNat
theorem Zrg{n d:Nat}(h:d<=n):∀o,ix n d o<=n
 |none=>h
 |some i=>by
  show(max 0 (min (if i<0 then i+(n:Int) else i) (n:Int))).toNat<=n;omega
theorem Zt9(L:List Nat)(lo:Nat):∀m:Nat,(List.range m).filterMap (fun k=>L[lo+k]?)=(L.drop lo).take m
 |0=>by simp
 |m+1=>by
  rw[List.range_succ,List.filterMap_append,Zt9 L lo m,List.take_add_one,List.getElem?_drop];cases h:L[lo+m]? <;>simp[h]
theorem ZrY(l u:Option Int)(n:Nat):strSliceIndices l u 1 n=(List.range (ix n n u-ix n 0 l)).map (ix n 0 l+ ·):=by
 have key:∀a b:Nat,sliceRange (a:Int) (b:Int) 1=(List.range (b-a)).map (a+ ·):=by
  intro a b;unfold sliceRange;simp only [show(1:Int)>0 by decide,if_true];have e1:(if(a:Int)<(b:Int) then((b:Int)-(a:Int)+1-1)/1 else 0).toNat=b-a:=by
   split
   ·rw[Int.ediv_one];omega
   ·omega
  rw[e1];refine List.map_congr_left fun place _=> ?_;omega
 have e1:∀(d:Nat) (o:Option Int),(match o with|none=>(d:Int)|some i=>max 0 (min (if i<0 then i+(n:Int) else i) (n:Int)))=((ix n d o:Nat):Int):=by
  intro d o;cases o with
  |none=>rfl
  |some i=>
   show max 0 (min (if i<0 then i+(n:Int) else i) (n:Int))=(((max 0 (min (if i<0 then i+(n:Int) else i) (n:Int))).toNat:Nat):Int);omega
 rw[<-key,<-e1 0 l,<-e1 n u];unfold strSliceIndices;simp only [show(1:Int)>0 by decide,if_true];cases l<;>cases u<;>rfl
theorem Zc6(x:Str)(l u:Option Int):cs (Txt.slice x l u)=((cs x).drop (ix x.length 0 l)).take (ix x.length x.length u-ix x.length 0 l):=by
 unfold Txt.slice;rw[ZrY];have h1:=Zrg (n:=x.length) (d:=x.length) (Nat.le_refl _) u
 split
 ·rename_i h
  have h:ix x.length x.length u-ix x.length 0 l=x.length:=by simpa using h
  by_cases hx:x.length=0
  ·have e:cs x=[]:=List.length_eq_zero_iff.mp (by rw[<-Jg];exact hx)
   rw[e];simp
  ·have e:ix x.length 0 l=0:=by omega
   rw[h,e,List.drop_zero,Jg,List.take_length]
 ·show(((List.range (ix x.length x.length u-ix x.length 0 l)).map (ix x.length 0 l+ ·)).filterMap (x.cps[·]?)).toArray.toList=_;rw[List.filterMap_map,<-Zt9];have e:((fun a=>x.cps[a]?)∘fun k=>ix x.length 0 l+k)=fun k=>(cs x)[ix x.length 0 l+k]? :=by
   funext k
   show x.cps[ix x.length 0 l+k]? =(cs x)[ix x.length 0 l+k]?;unfold cs;rw[Array.getElem?_toList]
  rw[<-e]
theorem ZkZ(a:Str)(c:Nat):Txt.slice (a++⟨#[c]⟩) none (some (-1))=a:=by
 apply ext
 rw[Zc6,ZV,Zcj];have hl:(a++⟨#[c]⟩:Str).length=(cs a).length+1:=by rw[Jg,ZV,Zcj];simp
 have e1:ix (a++⟨#[c]⟩:Str).length (a++⟨#[c]⟩:Str).length (some (-1))=(cs a).length:=by
  show(max 0 (min (if(-1:Int)<0 then-1+((a++⟨#[c]⟩:Str).length:Int) else-1) ((a++⟨#[c]⟩:Str).length:Int))).toNat=_;rw[hl];omega
 rw[e1];show(((cs a)++[c]).drop 0).take ((cs a).length-0)=_;simp
theorem Zl0(a:Str)(c:Nat):Txt.slice (a++⟨#[c]⟩) (some (-1)) none=⟨#[c]⟩:=by
 apply ext
 rw[Zc6,ZV,Zcj];have hl:(a++⟨#[c]⟩:Str).length=(cs a).length+1:=by rw[Jg,ZV,Zcj];simp
 have e1:ix (a++⟨#[c]⟩:Str).length 0 (some (-1))=(cs a).length:=by
  show(max 0 (min (if(-1:Int)<0 then-1+((a++⟨#[c]⟩:Str).length:Int) else-1) ((a++⟨#[c]⟩:Str).length:Int))).toNat=_;rw[hl];omega
 rw[e1];show(((cs a)++[c]).drop (cs a).length).take ((a++⟨#[c]⟩:Str).length-(cs a).length)=_;rw[hl];simp
def inS(y:Str)(c:Nat):Bool:= !(occurrences y ⟨#[c]⟩ 0 y.length 1).isEmpty
theorem Zq7(y:Str)(c:Nat):inS y c=true↔c∈cs y:=by
 unfold inS;rw[StrLaws.found_iff]
 constructor
 ·rintro⟨i,h1,h2⟩;have:=(StrLaws.subAt_one y c i).mp ⟨h1,h2⟩;exact List.mem_of_getElem? this
 ·intro h;obtain⟨i,hi⟩:=List.getElem?_of_mem h;exact⟨i,(StrLaws.subAt_one y c i).mpr hi⟩
end M1
namespace M2
open PySem M1
def num(n:Nat):Str:=Str.ofString (toString ((n:Nat):Int))
theorem ZiQ(n:Nat):cs (num n)=(Nat.toDigits 10 n).map Char.toNat:=PySem.W.KIN.signs_num n
theorem fig:∀d:Nat,d<10->(Nat.digitChar d).toNat=48+d:=by decide
theorem ZdN{n:Nat}(h:n<10):cs (num n)=[48+n]:=by
 rw[ZiQ,Nat.toDigits_of_lt_base h];show[(Nat.digitChar n).toNat]=_;rw[fig n h]
theorem ZgJ{n:Nat}(h:10<=n):cs (num n)=cs (num (n/10))++[48+n%10]:=by
 have hm:n%10<10:=Nat.mod_lt n (by decide);have t:Nat.toDigits 10 (n/10)++Nat.toDigits 10 (n%10)=Nat.toDigits 10 (10*(n/10)+n%10):=Nat.toDigits_append_toDigits (by decide) (by omega) hm;rw[Nat.div_add_mod] at t
 rw[ZiQ,ZiQ,<-t,List.map_append,Nat.toDigits_of_lt_base hm];show _++[(Nat.digitChar (n%10)).toNat]=_;rw[fig _ hm]
theorem Zoh(n:Nat):cs (num n)≠[]:=by
 by_cases h:n<10
 ·rw[ZdN h];simp
 ·rw[ZgJ (by omega)];simp
theorem Zck(n:Nat):NumText.AllDigits (cs (num n)):=by
 induction n using Nat.strongRecOn with
 |_ n ih=>
  by_cases h:n<10
  ·rw[ZdN h];intro c hc;have e:c=48+n:=by simpa using hc
   omega
  ·rw[ZgJ (by omega)];intro c hc;rcases List.mem_append.mp hc with h1|h1
   ·exact ih (n/10) (by omega) c h1
   ·have e:c=48+n%10:=by simpa using h1
    have:=Nat.mod_lt n (show 10>0 by decide);omega
theorem Zoi(n:Nat):(cs (num n)).head? =some 48->n=0:=by
 induction n using Nat.strongRecOn with
 |_ n ih=>
  intro e
  by_cases h:n<10
  ·rw[ZdN h] at e
   have e:48+n=48:=by simpa using e
   omega
  ·rw[ZgJ (by omega)] at e
   have e2:(cs (num (n/10))).head? =some 48:=by
    cases q:cs (num (n/10)) with
    |nil=>exact absurd q (Zoh _)
    |cons a r=>rw[q] at e;simpa using e
   have:=ih (n/10) (by omega) e2;omega
theorem Zq8(n:Nat):NumText.digitsVal (cs (num n))=n:=by rw[ZiQ];exact PySem.W.KIN.val_back n
theorem Zgd{n k:Nat}(hk:0<k)(h:n<10^k):(num n).length<=k:=by
 refine PyProof.Rows.toString_length_le (by omega) hk ?_;have e:((10^k:Nat):Int)=(10:Int)^k:=by simp
 rw[<-e];omega
theorem Zoj:num 0=⟨#[48]⟩:=ext (ZdN (by decide))
end M2
namespace L3
open PySem PySem.Spec PyProof.Rows L2
theorem Zok{k:Key}{u:Value}(h:Zgt k u=true):Ye (kV k) u:=by
 rcases YM h with ⟨i,t,rfl,rfl⟩|⟨x,t,rfl,rfl⟩
 ·exact⟨t,rfl⟩
 ·exact⟨t,rfl⟩
theorem Zrh{kvs:List (Key×V)}{vs:List (Key×Value)}(r:KV kvs vs):∀{i:Nat} {p:Key×V},kvs[i]? =some p->∃u,vs[i]? =some (p.1,u)/\Ye p.2 u:=by
 induction r with
 |nil=>intro i p e;simp at e
 |cons h _ ih=>
  intro i p e;cases i with
  |zero=>
   obtain rfl:=Option.some.inj ((List.getElem?_cons_zero ..).symm.trans e);refine⟨_, ?_,h.2⟩;rw[List.getElem?_cons_zero,h.1]
  |succ i=>
   rw[List.getElem?_cons_succ] at e
   obtain⟨u,e1,e2⟩:=ih e;exact⟨u,by rw[List.getElem?_cons_succ];exact e1,e2⟩
section
variable {X:Cx} {pins:List (Addr×Obj)} {σ:L2.St} {H:Hp} {s:Shared} {a n:Addr} {p q:HO}
theorem ZjU(I:L2.Inv X pins σ H s)(h:H a=some p)(h1:∀xs,p≠.tup xs)(h2:∀x,p≠.own x)(h3:∀t,p≠.tbl t)(hf:∀o u,X.H₀ a≠some (.frz o u))(ok:YD X.prog X.w H s.heap a q):L2.Inv X pins σ (upd H a q) s:=by
 have nn:∀b,H b=none->b≠a:=fun b e z=>by subst z;rw[h] at e;cases e
 refine⟨I.ok,I.os,I.bare,⟨I.base.keep,I.base.slot,fun b o e n hx=> ?_,I.base.there,fun b xs e=> ?_,fun b o u e=> ?_,fun b ps e=> ?_⟩,I.loc,I.cell, ?_,fun x c e=> ?_,fun z hz=> ?_,fun b u e=> ?_,I.len⟩
 ·rw[Zr (nn b (I.base.free b o e n hx))];exact I.base.free b o e n hx
 ·have e2:=I.base.tups b xs e;rw[Zr (fun z=>by subst z;rw[h] at e2;exact h1 xs (Option.some.inj e2))]
  exact e2
 ·rw[Zr (fun z=>by subst z;exact hf o u e)]
  exact I.base.frzs b o u e
 ·obtain⟨m,e2⟩:=I.base.tbls b ps e;exact⟨m,by rw[Zr (fun z=>by subst z;rw[h] at e2;exact h3 _ (Option.some.inj e2))];exact e2⟩
 ·rw[Zr (nn _ I.free)];exact I.free
 ·rw[Zr (nn _ (I.freeC x c e))];exact I.freeC x c e
 ·obtain⟨z1,z2,z3⟩:=I.pin z hz;exact⟨z1,by rw[Zr (nn _ z2)];exact z2,z3⟩
 ·have ho:∀c x,H c=some (.own x)->upd H a q c=some (.own x):=fun c x ec=>by
   rw[Zr (fun z=>by subst z;rw[h] at ec;exact h2 x (Option.some.inj ec))]
   exact ec
  have ht:∀c xs,H c=some (.tup xs)->upd H a q c=some (.tup xs):=fun c xs ec=>by
   rw[Zr (fun z=>by subst z;rw[h] at ec;exact h1 xs (Option.some.inj ec))]
   exact ec
  by_cases hb:b=a
  ·subst hb;rw[Zc] at e
   cases e;exact ok.stay (fun _ _ _ z=>z) (fun c z=>ho c _ z) ht
  ·rw[Zr hb] at e
   exact(I.hok b u e).stay (fun _ _ _ z=>z) (fun c z=>ho c _ z) ht
theorem Zl1{kvs:List (Key×V)}(I:L2.Inv X pins σ H s)(h:H a=some (.dK kvs)):∃o,s.heap.get? a=some o/\L2.Inv X pins σ (upd H a (.frz o (.dK kvs))) s:=by
 obtain⟨z1,z2,vs,z3,o,es,ep,z4,z5⟩:=I.hok a _ h;refine⟨o,z4,ZjU I h (fun _ e=>nomatch e) (fun _ e=>nomatch e) (fun _ e=>nomatch e) (fun o' u e=> ?_) ⟨z4,I.hok a _ h⟩⟩;have:=I.base.frzs a o' u e;rw[h] at this
 cases this
theorem Zd7{o:Obj}{u:HO}(I:L2.Inv X pins σ H s)(h:H a=some (.frz o u))(hf:∀o u,X.H₀ a≠some (.frz o u)):L2.Inv X pins σ (upd H a u) s:=
 ZjU I h (fun _ e=>nomatch e) (fun _ e=>nomatch e) (fun _ e=>nomatch e) hf (I.hok a _ h).2
theorem Zi0(I:L2.Inv X pins σ H s)(f:Zgy X pins H n)(ok:YD X.prog X.w (upd H n q) s.heap n q):L2.Inv X pins σ (upd H n q) s:=by
 obtain⟨f0,f1,f2,f3,f4,f5⟩:=f;have ns:∀b u,H b=some u->b≠n:=fun b u e z=>by subst z;rw[f0] at e;cases e
 refine⟨I.ok,I.os,I.bare,⟨I.base.keep,I.base.slot,fun b o e m hx=> ?_,I.base.there,fun b xs e=> ?_,fun b o u e=> ?_,fun b ps e=> ?_⟩,I.loc,I.cell, ?_,fun x c e=> ?_,fun z hz=> ?_,fun b u e=> ?_,I.len⟩
 ·refine(Zr ?_).trans (I.base.free b o e m hx);rintro rfl;rcases f3 with z|z
  ·exact hx z
  ·exact absurd (Nat.lt_of_lt_of_le (Heap.lt_size e) z) (Nat.lt_irrefl _)
 ·have e2:=I.base.tups b xs e;rw[Zr (ns b _ e2)];exact e2
 ·have e2:=I.base.frzs b o u e;rw[Zr (ns b _ e2)];exact e2
 ·obtain⟨m,e2⟩:=I.base.tbls b ps e;exact⟨m,by rw[Zr (ns b _ e2)];exact e2⟩
 ·rw[Zr (Ne.symm f1)];exact I.free
 ·rw[Zr (f4 x c e)];exact I.freeC x c e
 ·obtain⟨z1,z2,z3⟩:=I.pin z hz;exact⟨z1,by rw[Zr (f5 z hz)];exact z2,z3⟩
 ·by_cases hb:b=n
  ·subst hb;rw[Zc] at e
   cases e;exact ok
  ·rw[Zr hb] at e
   exact(I.hok b u e).stay (fun _ _ _ z=>z) (fun c z=>by rw[Zr (ns c _ z)];exact z) fun c xs z=>by rw[Zr (ns c _ z)];exact z
end
theorem Zol{P:Program}{w:World}{H:Hp}{h:Heap}{a:Addr}{o:Obj}{kvs:List (Key×V)}(ok:HOk P w H h)(e:H a=some (.frz o (.dK kvs))){es:Array DictEntry}{ep:Nat}(hd:o.data=.dict es ep):
  (a==sysModules)=false/\∃vs,KV kvs vs/\h.DictAt (Yx P w) a vs ep:=by
 obtain⟨ho,z1,z2,vs,z3,o',es',ep',z4,z5,z6,z7⟩:=ok a _ e;rw[ho] at z4
 cases z4;rw[hd] at z6
 cases z6;exact⟨z2,vs,z3,o,es,ho,z5,hd,z7⟩
def Iti(a:Addr)(o:Obj)(kvs:List (Key×V)):It:=
 ⟨fun i H=>H a=some (.frz o (.dK kvs))/\i<kvs.length,fun i H x H'=>∃kv p,kvs[i]? =some kv/\H p=none/\x=.ref p/\H'=upd H p (.tup [kV kv.1,kv.2]),fun i H=>H a=some (.frz o (.dK kvs))/\kvs.length<=i⟩
theorem Zl2{P:Program}{w:World}{K:PySem.W.Frag}{elts:List PySem.Expr}{x1:Nat}{pos:Pos}(a it:Addr){o:Obj}{kvs:List (Key×V)}{es:Array DictEntry}{ep:Nat}(hd:o.data=.dict es ep)(n:Nat)(hn:n=kvs.length):
  ZkH P w K (.Tuple elts x1 pos) (Iti a o kvs) [it] it (fun i h=>∃ok ov,IsItemIter h it a i n ep ok ov) where
 mem:=by simp
 obj:=fun i h st b hb=>by
  have e:b=it:=by simpa using hb
  subst e;obtain⟨ok,ov,e⟩:=st;exact⟨_,e,fun v z=>by cases z⟩
 keep:=fun i h h' ⟨ok,ov,e⟩ k=>⟨ok,ov,k it (by simp) _ e⟩
 item:=by
  intro X hP hw hK hc i pins s σ H E I hf st hg;subst hP hw hK;obtain⟨hz,hlt⟩:=hg;obtain⟨_,vs,rv,hm⟩:=Zol I.hok hz hd;obtain⟨kv,hx⟩:∃kv,kvs[i]? =some kv:=⟨kvs[i],by simp[hlt]⟩
  obtain⟨u,hu,ru⟩:=Zrh rv hx;obtain⟨f0,f1,f2,f3,f4,f5⟩:=hf it (by simp);have el:n=vs.length:=by rw[hn];exact Paired.length rv
  rw[el] at st
  obtain⟨ok,ov,st⟩:=st;refine wpAny_pyNext_items_item st hm hu fun key h' hk st' nt sz kp=> ?_;refine⟨_,rfl,wpAny_letOwnedTupleGo_items (s:={s with heap:=h'}) st' fun h2 st2 sb2=> ?_⟩;have nit:s.heap.objs.size≠it:=fun z=>by
   exact absurd (Heap.lt_size st) (by rw[<-z];exact Nat.lt_irrefl _)
  have I1:L2.Inv X pins σ H {s with heap:=h2,toks:=s.toks}:=I.turned (t':=s.toks) (fun b o hb e=>(sb2.2 b hb).trans (kp b o hb e)) f0 f1 f3 f4 f5;have fn:=I.fpOk (H':=H) (Nat.le_refl _) (I.hok.fresh (Nat.le_refl _));have I2:=Zi0 (q:=.tup [kV kv.1,kv.2]) I1 fn ⟨by show 2<=sizeLine;rw[sizeLine_eq];decide,[key,u],.cons (Zok hk) (.cons ru .nil),{cls:=.type "tuple",data:=.seq #[key,u]},(sb2.2 _ nit).trans nt,rfl,_,rfl⟩
  refine⟨.ref s.heap.objs.size,_,I2,rfl,⟨kv,_,hx,fn.1,rfl,rfl⟩,⟨key,u, ?_⟩,fun b hb=> ?_⟩
  ·show IsItemIter h2 it a (i+1) n ep key u;rw[el];exact st2
  ·have e:b=it:=by simpa using hb
   subst e;rw[Zr (Ne.symm nit)];exact f0
 done:=by
  intro X hP hw hK hc i pins s σ H E I hf st hg;subst hP hw hK;obtain⟨hz,hle⟩:=hg;obtain⟨_,vs,rv,hm⟩:=Zol I.hok hz hd;have el:n=vs.length:=by rw[hn];exact Paired.length rv
  rw[el] at st
  obtain⟨ok,ov,st⟩:=st;obtain⟨f0,f1,f2,f3,f4,f5⟩:=hf it (by simp);exact wpAny_pyNext_items_end (I.ok.hd hc) st hm (List.getElem?_eq_none (by omega)) fun h' eb=>⟨rfl,I.turned (t':=s.toks) (fun b o hb e=>eb b o hb e) f0 f1 f3 f4 f5⟩
 self:=fun _ _ _ _ _ ⟨_,_,st⟩ h=>PySem.W.kcp_self st h
section
variable {X:Cx} {tg:PySem.Expr}
def ZaH(v a:Addr):HO:=.ext fun h=>h.IsItemsView v a
def Zom(tl:TE):TE:=fun σ H Q=>tl σ H fun x H1=>∃a kvs,x=.ref a/\H1 a=some (.dK kvs)/\∀v,H1 v=none->Q (.ref v) (upd H1 v (ZaH v a))
theorem ZgK{o:PySem.Expr}{to:TE}{apos cpos:Pos}(ho:PE X o to)
  (hbase:attributeBase o "items" X.env (eval o X.env)=eval o X.env:=by rfl)(hline:(apos.endLine==cpos.line)=true:=by rfl):PE X (.Call (.Attribute o "items" apos) [] [] cpos) (Zom to):=by
 intro pins s σ H Q I h;refine wpAny_Call_method0_late hbase hline (thn (ho pins s σ H _ I h) fun v s1 ⟨x,H1,I1,r1,a,kvs,e,ha,q1⟩=> ?_);subst e;cases r1;obtain⟨h1,h2⟩:=ZkR (T:="dict") (x:=.ref a) I1 rfl (.inr (.inr (.inl ⟨rfl,.inl ⟨kvs,ha⟩⟩)));obtain⟨z1,z2,vs,z3,z4⟩:=I1.hok a _ ha;refine⟨"dict","dict.items",F.plainAttrs_dict,F.slot_dict_items,F.type_dict_items,h1,h2,Calls.callWith_builtin rfl (PySem.evalArgs_none ?_)⟩
 refine call_meetsIn F.slot_dict_items h1 F.entry_dict_items (F.args_dict_items_1 _) (meets_dict_items (Yx X.prog X.w) a z2) ⟨⟨vs,z4⟩, ?_⟩;refine⟨.ref _,_,I1.laid (a:=s1.heap.objs.size) (o:=ZaH s1.heap.objs.size a) (t':=s1.toks) (fun b q hq=>Heap.get?_push_of_some _ hq) (Nat.le_refl _) ?_,rfl,q1 _ I1.fresh⟩;refine⟨⟨_,Heap.get?_push_size _ rfl,rfl,rfl⟩,⟨_,Heap.get?_push_size _ rfl⟩,fun g1 g2 z k=> ?_⟩
 obtain⟨ob,e1,e2⟩:=z;exact⟨ob,k _ e1,e2⟩
def Zon(tl:TE):TI:=fun σ H R=>tl σ H fun x H1=>∃v a kvs,x=.ref v/\H1 v=some (ZaH v a)/\H1 a=some (.dK kvs)/\∀o,R (Iti a o kvs) (upd H1 a (.frz o (.dK kvs)))
theorem ZjV{l:PySem.Expr}{tl:TE}{elts:List PySem.Expr}{x1:Nat}{pos:Pos}(hl:PE X l tl):PI X (.Tuple elts x1 pos) l (Zon tl):=by
 intro pins s σ H R I h;refine thn (hl pins s σ H _ I h) fun v s1 ⟨x,H1,I1,r1,q1⟩=> ?_;obtain⟨v,a,kvs,e,hv,hq,q⟩:=q1;subst e;cases r1;have vw:s1.heap.IsItemsView v a:=(I1.hok v _ hv).1;obtain⟨o,ho,I2⟩:=Zl1 I1 hq;obtain⟨z1,z2,vs0,z3,o',es,ep,z4,z5,z6,z7⟩:=I1.hok a _ hq;rw[ho] at z4
 cases z4;obtain⟨hs,vs,rv,hm⟩:=Zol I2.hok Zc z6;have el:kvs.length=vs.length:=Paired.length rv;refine wpAny_pyIter_items vw hm ?_;refine⟨s1.heap.objs.size,[s1.heap.objs.size],_,_,_,rfl,I2.kept (t':=s1.toks) fun b o e=>Heap.get?_push_of_some _ e,Zl2 a _ z6 vs.length el.symm,⟨_,_,Heap.get?_push_size _ rfl⟩,fun b hb=> ?_,q o⟩;have e:b=s1.heap.objs.size:=by simpa using hb
 subst e;exact I2.fpOk (Nat.le_refl _) (I2.hok.fresh (Nat.le_refl _))
def ZmT(H₀:Hp)(a:Addr)(H H':Hp):Prop:=(∀o u,H₀ a≠some (.frz o u))/\∃o u,H a=some (.frz o u)/\H'=upd H a u
def Zri(H₀:Hp)(a:Addr)(t:TE):TE:=fun σ H Q=>t σ H fun v H1=>∃H2,ZmT H₀ a H1 H2/\Q v H2
theorem Zq9{e:PySem.Expr}{t:TE}(a:Addr)(h:PE X e t):PE X e (Zri X.H₀ a t):=fun pins s σ H Q I q=>
 thn (h pins s σ H _ I q) fun _ _ ⟨v,_,I1,r1,H2,⟨hf,o,u,e1,e2⟩,q1⟩=>⟨v,H2,by rw[e2];exact Zd7 I1 e1 hf,r1,q1⟩
def Zta(H₀:Hp)(a:Addr)(t:TS):TS:=fun D σ H=>t {nx:=fun σ' H1=>∃H2,ZmT H₀ a H1 H2/\D.nx σ' H2,rt:=fun v H1=>∃H2,ZmT H₀ a H1 H2/\D.rt v H2,bk:=fun σ' H1=>∃H2,ZmT H₀ a H1 H2/\D.bk σ' H2,ct:=fun σ' H1=>∃H2,ZmT H₀ a H1 H2/\D.ct σ' H2} σ H
theorem Zqa{st:Stmt}{t:TS}(a:Addr)(h:PS X st t):PS X st (Zta X.H₀ a t):=fun pins s σ H D I q=>
 thn (h pins s σ H _ I q) fun f _ q1=>by
  cases f with
  |next=>obtain⟨σ7,H7,I7,H2,⟨hf,o,u,e1,e2⟩,q7⟩:=q1;exact⟨σ7,H2,by rw[e2];exact Zd7 I7 e1 hf,q7⟩
  |cont=>obtain⟨σ7,H7,I7,H2,⟨hf,o,u,e1,e2⟩,q7⟩:=q1;exact⟨σ7,H2,by rw[e2];exact Zd7 I7 e1 hf,q7⟩
  |brk=>obtain⟨σ7,H7,I7,H2,⟨hf,o,u,e1,e2⟩,q7⟩:=q1;exact⟨σ7,H2,by rw[e2];exact Zd7 I7 e1 hf,q7⟩
  |ret v=>obtain⟨x7,σ7,H7,I7,r7,H2,⟨hf,o,u,e1,e2⟩,q7⟩:=q1;exact⟨x7,σ7,H2,by rw[e2];exact Zd7 I7 e1 hf,r7,q7⟩
end
end L3
namespace L3
open PySem PySem.Spec PyProof.Rows L2
structure Ztb (n:Nat) (Pv:Nat->List V->Hp->Prop) (D:Addr) (J:It) (own:List Str) (fr:List (Str×Nat)) (g:TG) (tc:TT) (te:TE) (σ:L2.St) (H:Hp) (Q:VK):Prop where
 hn:n<=sizeLine
 h0:Pv 0 [] (upd H D (.lst []))
 hlen:∀i ys H2,Pv i ys H2->ys.length<=i
 st:∀i ys zs H2 H3,H2 D=some (.lst zs)->(∀b u,b≠D->H2 b=some u->H3 b=some u)->Pv i ys H2->Pv i ys H3
 hgo:∀i ys H2,Pv i ys H2->i<n->J.go i H2
 hstop:∀ys H2,Pv n ys H2->H2 D=some (.lst ys)->J.stop n H2/\Q (.ref D) H2
 hstep:∀i x ys H2 H3,Pv i ys H2->H2 D=some (.lst ys)->i<n->J.yld i H2 x H3->∀(RT:V->Hp->Prop) (RF:Hp->Prop),(∀v H6,H6 D=some (.lst ys)->Pv (i+1) (ys++[v]) H6->RT v H6)->(∀H5,H5 D=some (.lst ys)->Pv (i+1) ys H5->RF H5)->
   g x (frY own fr σ) H3 fun σ3 H4=>Ext (frY own fr σ) σ3/\tc σ3 H4 fun b H5=>if b=true then te σ3 H5 RT else RF H5
theorem ZjW{J:It}{own:List Str}{fr:List (Str×Nat)}{g:TG}{tc:TT}{te:TE}{σ:L2.St}{H:Hp}{Q:VK}(h:∀D,H D=none->∃n Pv,Ztb n Pv D J own fr g tc te σ H Q):Zob J own fr g tc te σ H Q:=by
 intro D hD;obtain⟨n,Pv,hn,h0,hlen,st,hgo,hstop,hstep⟩:=h D hD;refine⟨fun i m ys H2=>m=n-i/\i<=n/\H2 D=some (.lst ys)/\Pv i ys H2,⟨n,by simp,Nat.zero_le _,Zc,h0⟩, ?_⟩;rintro i m ys H2 ⟨rfl,hi,d2,p2⟩;refine⟨d2, ?_⟩
 by_cases hlt:i<n
 ·refine .inr ⟨hgo i ys H2 p2 hlt,fun zs H'=>H' D=some (.lst zs)/\Pv (i+1) zs H',fun zs H' ⟨e1,e2⟩=>⟨n-(i+1),by omega,rfl,hlt,e1,e2⟩,fun x H' y=> ?_⟩;have l2:=hlen i ys H2 p2;exact hstep i x ys H2 H' p2 d2 hlt y _ _ (fun v H6 e6 p6=>⟨e6,by omega,Zc,st _ _ _ _ _ e6 (fun b u nb e=>by rw[Zr nb];exact e) p6⟩) fun H5 e5 p5=>⟨e5,p5⟩
 ·have e:i=n:=by omega
  subst e;exact .inl (hstop ys H2 p2 d2)
theorem Zcl{J:It}{own:List Str}{fr:List (Str×Nat)}{g:TG}{tc:TT}{te:TE}{σ:L2.St}{H:Hp}{Q:VK}(n:Nat)(out:Nat->List V)(hn:n<=sizeLine)(ho:∀i,(out i).length<=1)
  (hgo:∀i H2,ZJ H H2->i<n->J.go i H2)(hstop:∀H2,ZJ H H2->J.stop n H2)
  (hstep:∀i x H2 H3,ZJ H H2->i<n->J.yld i H2 x H3->∀(RT:V->Hp->Prop) (RF:Hp->Prop),(∀v H6,out i=[v]->ZJ H2 H6->RT v H6)->(∀H5,out i=[]->ZJ H2 H5->RF H5)->
   g x (frY own fr σ) H3 fun σ3 H4=>Ext (frY own fr σ) σ3/\tc σ3 H4 fun b H5=>if b=true then te σ3 H5 RT else RF H5)
  (q:∀D H2,H D=none->ZJ H H2->H2 D=some (.lst ((List.range n).flatMap out))->Q (.ref D) H2):Zob J own fr g tc te σ H Q:=by
 have len:∀i,((List.range i).flatMap out).length<=i:=by
  intro i
  induction i with
  |zero=>simp
  |succ i ih=>
   have h1:=ho i;rw[List.range_succ,List.flatMap_append,List.length_append];simp only [List.flatMap_cons,List.flatMap_nil,List.append_nil];omega
 have nxt:∀i,(List.range (i+1)).flatMap out=(List.range i).flatMap out++out i:=fun i=>by
  rw[List.range_succ,List.flatMap_append];simp
 refine ZjW fun D hD=>⟨n,fun i ys H2=>ys=(List.range i).flatMap out/\ZJ H H2,hn,⟨rfl,fun b u e=>by rw[Zr (ZC e hD)];exact e⟩,fun i ys H2 p=>by rw[p.1];exact len i,fun i ys zs H2 H3 _ k p=>⟨p.1,fun b u e=>k b u (ZC e hD) (p.2 b u e)⟩,
  fun i ys H2 p lt=>hgo i H2 p.2 lt,fun ys H2 p d=>⟨hstop H2 p.2,q D H2 hD p.2 (by rw[<-p.1];exact d)⟩,fun i x ys H2 H3 p d lt y RT RF rt rf=> ?_⟩
 exact hstep i x H2 H3 p.2 lt y RT RF (fun v H6 e s=>rt v H6 (s _ _ d) ⟨by rw[nxt,e,p.1],p.2.trans s⟩) fun H5 e s=>rf H5 (s _ _ d) ⟨by rw[nxt,e,List.append_nil,p.1],p.2.trans s⟩
theorem Xr{α β:Type}(f:α->β):∀l:List α,l.flatMap (fun a=>[f a])=l.map f
 |[]=>rfl
 |a::l=>by rw[List.flatMap_cons,List.map_cons,Xr f l];rfl
theorem ZaI{α β:Type}(xs:List α)(f:α->β)(d:β):(List.range xs.length).map (fun i=>((xs[i]?).map f).getD d)=xs.map f:=by
 apply List.ext_getElem
 ·simp
 ·intro i h1 h2;have h3:i<xs.length:=by simpa using h1
  simp[h3]
theorem ZgL{α β:Type}(f:α->List β):∀xs:List α,(List.range xs.length).flatMap (fun i=>((xs[i]?).map f).getD [])=xs.flatMap f
 |[]=>rfl
 |x::xs=>by
  rw[List.length_cons,List.range_succ_eq_map,List.flatMap_cons,List.flatMap_map,List.flatMap_cons,<-ZgL f xs]
  rfl
theorem Zoo{J:It}{n:Nat}{g:TG}{tb:TS}{D:ZeB}{σ:L2.St}{H:Hp}(Pv:Nat->L2.St->Hp->Prop)(h0:Pv 0 σ H)(hgo:∀i σ H,i<n->Pv i σ H->J.go i H)(hstop:∀σ H,Pv n σ H->J.stop n H/\D.nx σ H)
  (hs:∀i x σ H H',i<n->Pv i σ H->J.yld i H x H'->g x σ H' fun σ2 H2=>tb {D with nx:=Pv (i+1),ct:=Pv (i+1),bk:=D.nx} σ2 H2):
  ∃W:Nat->Nat->L2.St->Hp->Prop,(∃m,W 0 m σ H)/\∀i m σ H,W i m σ H->
   (J.stop i H/\D.nx σ H)\/(J.go i H/\∃N:L2.St->Hp->Prop,(∀σ' H',N σ' H'->∃m',m'<m/\W (i+1) m' σ' H')/\∀x H',J.yld i H x H'->g x σ H' fun σ2 H2=>tb {D with nx:=N,ct:=N,bk:=D.nx} σ2 H2):=by
 refine⟨fun i m σ H=>m=n-i/\i<=n/\Pv i σ H,⟨n,by simp,Nat.zero_le _,h0⟩, ?_⟩;rintro i m σ H ⟨rfl,hi,p⟩
 by_cases hlt:i<n
 ·exact .inr ⟨hgo i σ H hlt p,Pv (i+1),fun σ' H' p'=>⟨n-(i+1),by omega,rfl,hlt,p'⟩,fun x H' y=>hs i x σ H H' hlt p y⟩
 ·have e:i=n:=by omega
  subst e;exact .inl (hstop σ H p)
theorem ZrZ:bootBuiltins "any"=some (.builtin "any"):=by decide+kernel
theorem Zi1:bootBuiltins "sorted"=some (.builtin "sorted"):=by decide+kernel
section
variable {X:Cx} {pins:List (Addr×Obj)} {σ:L2.St} {H:Hp} {s:Shared}
theorem Zs0{h:Heap}{L:Addr}{m m':Str->Option Value}(a:h.Ns L m)(b:h.Ns L m'):m=m':=by
 obtain⟨o,es,ep,e1,e2,_,e3⟩:=a;obtain⟨o',es',ep',f1,f2,_,f3⟩:=b;rw[e1] at f1
 cases f1;rw[e2] at f2
 cases f2;exact funext fun x=>(e3 x).symm.trans (f3 x)
theorem Zl3{m:Str->Option Value}{g:Heap}{tk:Nat}{more:List (Addr×Obj)}(I:L2.Inv X pins σ H s)(hm:s.heap.Ns X.env.locals m)(F:Fr X.base X.env.locals g m)(N:News X.base X.env.locals g (more++Zg8 X.base s.heap X.env.locals)):L2.Inv X pins σ H {s with heap:=g,toks:=tk}:=by
 have kp:∀b o,b≠X.env.locals->s.heap.get? b=some o->g.get? b=some o:=fun b o nb e=>by
  cases hb:X.base.get? b with
  |some o'=>
   have e2:=I.bk b o' hb;rw[e] at e2
   cases e2;exact F.keep b o hb
  |none=>exact(N (b,o) (List.mem_append_right _ (ZfF nb hb e))).1
 have nt:∀b u,H b=some u->b≠X.env.locals:=fun b u e z=>by rw[z,I.free] at e;cases e
 refine I.step (g':=s.gens) (d':=s.drawn) (ch:=[]) (fun _ z=>nomatch z) (fun b o nb _ _ e _=>kp b o nb e) (fun b o nb _ _ e _=>⟨o.slots,kp b o nb e⟩) (fun _ _ _ _ n=>n) (fun b o _ e=> ?_) (fun _ _ e=>e) (fun _ _ _ e=>e) (fun _ ps e=>⟨#[],by rw[e];simp⟩)
  (fun m' hm'=>by rw[Zs0 hm' hm];exact F.ns) (fun b u e=>(I.hok b u e).stay (fun c v hc z=>kp c v ?_ z) (fun _ z=>z) fun _ _ z=>z) I.bare
 ·by_cases nb:b=X.env.locals
  ·obtain⟨o',_,_,e',_⟩:=F.ns;exact⟨o',by rw[nb];exact e'⟩
  ·exact⟨o,kp b o nb e⟩
 ·rcases hc with rfl|hc
  ·exact nt _ _ e
  ·exact nt _ _ hc
end
section
variable {X:Cx}
theorem Zl4(hc:X.calm=true):ZaP X (.builtin "any") (fun xs H Q=>∃(p:Addr) (bs:List Bool),xs=[.ref p]/\SqL X.K H p (bs.map V.bl)/\Q (.bl (bs.any id)) H):=by
 intro pins s σ H xs us Q I r h;obtain⟨p,bs,rfl,hq,q⟩:=h;obtain⟨u,rfl,rx⟩:=ZcO r;cases rx;obtain⟨its,r',pl,hz⟩:=I.list hq;have hb:=Zef r';have hlt:p<s.heap.objs.size:=pl.lt;refine call_any_walk (wpAny_pyIter_list pl.isList ?_);refine⟨s.heap.objs.size,[s.heap.objs.size,p],[s.heap.objs.size],its.toArray.size,_,_,fun i=>(bs[i]?).getD false,rfl,Walks.list (A:=X.A.in1) (I.ok.hd hc) _ p (Nat.ne_of_lt hlt) its.toArray,
  ⟨⟨_,Heap.get?_push_size _ rfl,rfl,rfl⟩,pl.isList.push _⟩,fun i v s' Q' E' hP hQ=> ?_,fun h' tk hk=> ?_⟩
 ·obtain⟨bit,ebit,rfl⟩:=hb.get i v (by simpa using hP);simp only [ebit,Option.getD_some] at hQ
  exact wpAny_truthy_bool hQ
 ·have e:((List.range its.toArray.size).any fun i=>(bs[i]?).getD false)=bs.any id:=by
   rw[List.size_toArray,hb.length];exact LSm.range_any bs
  rw[e];exact⟨.bl (bs.any id),H,I.kept (LSm.kept_iter hk),rfl,q⟩
theorem ZiR:ZaP X (.type "dict") (fun xs H Q=>∃a kvs,xs=[.ref a]/\Rd H a (.dK kvs)/\∀p,H p=none->Q (.ref p) (upd H p (.dK kvs))):=by
 intro pins s σ H xs us Q I r h;obtain⟨a,kvs,rfl,hq,q⟩:=h;obtain⟨u,rfl,rx⟩:=ZcO r;cases rx;exact Zo8 I hq fun p s' hp I'=>⟨.ref p,_,I',rfl,q p hp⟩
end
def ZfL(a:Addr)(kvs:List (Key×V))(H H2:Hp):Prop:=(∀b u,b≠a->H b=some u->H2 b=some u)/\∃o,H2 a=some (.frz o (.dK kvs))
theorem ZfL.rd{a:Addr}{kvs:List (Key×V)}{H H2:Hp}(f:ZfL a kvs H H2):Rd H2 a (.dK kvs):=f.2.elim fun o e=> .inr ⟨o,e⟩
theorem ZfL.rd2{a b:Addr}{kvs ks:List (Key×V)}{H H2:Hp}(f:ZfL a kvs H H2)(ha:H a=some (.dK kvs))(hb:Rd H b (.dK ks)):Rd H2 b (.dK ks):=by
 by_cases e:b=a
 ·subst e;rcases hb with hb|⟨o,hb⟩
  ·rw[ha] at hb;cases hb;exact f.rd
  ·rw[ha] at hb;cases hb
 ·rcases hb with hb|⟨o,hb⟩
  ·exact .inl (f.1 b _ e hb)
  ·exact .inr ⟨o,f.1 b _ e hb⟩
theorem ZfL.thaw{H₀:Hp}{a:Addr}{kvs:List (Key×V)}{H H2:Hp}(f:ZfL a kvs H H2)(ha:H a=some (.dK kvs))(hf:∀o u,H₀ a≠some (.frz o u)):ZmT H₀ a H2 (upd H2 a (.dK kvs))/\ZJ H (upd H2 a (.dK kvs)):=by
 obtain⟨o,e⟩:=f.2;refine⟨⟨hf,o,_,e,rfl⟩,fun b u h=> ?_⟩
 by_cases hb:b=a
 ·subst hb;rw[ha] at h
  cases h;exact Zc
 ·rw[Zr hb];exact f.1 b u hb h
theorem Zl5{K:PySem.W.Frag}{H₀:Hp}{own:List Str}{fr:List (Str×Nat)}{te:TE}{σ:L2.St}{H:Hp}{Q:VK}{i0 i1 j:Nat}{a:Addr}{kvs:List (Key×V)}(f:Key×V->V)(hv:σ[j]? =some (some (.ref a)))(ha:H a=some (.dK kvs))(hz:kvs.length<=sizeLine)(hf:∀o u,H₀ a≠some (.frz o u))
  (hx:∀v u,Ext (frY own fr σ) (((frY own fr σ).set i0 (some v)).set i1 (some u)))(he:∀kv∈kvs,∀H2 (Q2:VK),ZfL a kvs H H2->(∀H3,ZJ H2 H3->Q2 (f kv) H3)->te (((frY own fr σ).set i0 (some (kV kv.1))).set i1 (some kv.2)) H2 Q2)
  (q:∀D H2,ZJ H H2->H D=none->H2 D=some (.lst (kvs.map f))->Q (.ref D) H2):Zri H₀ a (ZjS (Zon (Zom (Zfb j))) own fr (ZrE K 2 (ZnP (ZhN i0) (ZnP (ZhN i1) ZsR))) ZcR te) σ H Q:=by
 refine⟨_,hv,a,kvs,rfl,ha,fun v hv0=>⟨v,a,kvs,rfl,Zc, ?_,fun o=> ?_⟩⟩
 ·rw[Zr (ZC ha hv0)];exact ha
 have hva:v≠a:=fun e=>by rw[e,ha] at hv0;cases hv0
 have fs:∀{H2:Hp},ZJ (upd (upd H v (ZaH v a)) a (.frz o (.dK kvs))) H2->ZfL a kvs H H2:=fun s=>⟨fun b u n e=>s b u (by rw[Zr n,Zr (ZC e hv0)];exact e),o,s _ _ Zc⟩
 refine Zcl kvs.length (fun i=>((kvs[i]?).map fun kv=>[f kv]).getD []) hz (fun i=>by cases kvs[i]? <;>simp) (fun i H2 s lt=>⟨s _ _ Zc,lt⟩) (fun H2 s=>⟨s _ _ Zc,Nat.le_refl _⟩) (fun i x H2 H3 s lt y RT RF rt rf=> ?_) fun D H2 hD s d=> ?_
 ·obtain⟨kv,p,e2,hp,e3,e4⟩:=y;subst e3 e4;have s3:ZJ H2 (upd H2 p (.tup [kV kv.1,kv.2])):=fun b u e=>by rw[Zr (ZC e hp)];exact e
  refine⟨p,_,rfl,SqT.of Zc,rfl,_,_,rfl,_,_,rfl,rfl,hx _ _, ?_⟩;unfold ZcR;refine JS ?_;exact he kv (List.mem_of_getElem? e2) _ RT (fs (s.trans s3)) fun H4 s4=>rt _ H4 (by rw[e2];rfl) (s3.trans s4)
 ·have hDa:D≠a:=fun e=>by rw[e,Zc] at hD;cases hD
  have hDv:D≠v:=fun e=>by rw[e,Zr hva,Zc] at hD;cases hD
  obtain⟨t1,t2⟩:=(fs s).thaw ha hf;refine⟨_,t1,q D _ t2 (by rw[Zr hDa,Zr hDv] at hD;exact hD) ?_⟩
  rw[Zr hDa,d,ZgL (fun kv:Key×V=>[f kv]) kvs,Xr]
end L3
namespace L3
open PySem PySem.Spec PyProof.Rows L2
def EqP(P:Program)(w:World)(A:Around)(s:Shared)(y x:Value)(k:Bool):Prop:=∀(E:Value->Shared->Prop) (Q:Bool->Shared->Prop),Q k s->wpAny (model P w) A (eqBool y x) Q E s
def RcP(P:Program)(w:World)(A:Around)(s:Shared)(op:CmpOp)(y x:Value)(k:Bool):Prop:=∀(E:Value->Shared->Prop) (Q:Value->Shared->Prop),Q (.bool k) s->wpAny (model P w) A (richCompare op y x) Q E s
theorem EqP.refs{P:Program}{w:World}{A:Around}{s:Shared}{l b:Addr}{k:Bool}(n:l≠b)(h:RcP P w A s .Eq (.ref l) (.ref b) k):EqP P w A s (.ref l) (.ref b) k:=by
 intro E Q q;unfold eqBool;refine wpAny_holding (wpAny_ite_split (fun z=>absurd (Value.ref.inj (eq_of_beq z)) n) fun _=>wpAny_bind ?_);exact h E _ (wpAny_truthy_bool q)
abbrev ZgM(d:Option Addr)(t:Array Value)(n:Nat)(sl:Array (Option Value)):Obj:={cls:=.type "list",dict:=d,data:=.seq t n,slots:=sl}
abbrev ZmU(d:Option Addr)(t:Array Value)(n:Nat)(sl:Array (Option Value)):Obj:={cls:=.type "tuple",dict:=d,data:=.seq t n,slots:=sl}
section
variable {P:Program} {w:World} (l b:Addr) (xs ys:Array Value) (n m:Nat) (d1 d2:Option Addr) (s1 s2:Array (Option Value)) (e:Nat->Bool)
theorem Zop(hz:xs.size=ys.size)(c:Int)(hc:c=2\/c=3)(k:Nat):∀i:Nat,xs.size-i=k->MeetsIn P w (Builtin.«list.__eq__.loop» ⟨[.ref l,.ref b,rawInt i,rawInt c],[]⟩)
  (fun A R s=>s.heap.get? l=some (ZgM d1 xs n s1)/\s.heap.get? b=some (ZgM d2 ys m s2)/\(∀j (h1:j<xs.size) (h2:j<ys.size),EqP P w A.in1 s xs[j] ys[j] (e j))/\
   R (.ok (.ret (.bool (if c=2 then((List.range xs.size).drop i).all e else !((List.range xs.size).drop i).all e)))) s):=by
 induction k with
 |zero=>
  intro i hk A R s h;obtain⟨hq,gs,dr,tk,oss⟩:=s;obtain⟨u1,u2,ue,q⟩:=h;have v1:xs[((i:Nat):Int).toNat]? =none:=by simp;omega
  have v2:ys[((i:Nat):Int).toNat]? =none:=by simp;omega
  have v3:(List.range xs.size).drop i=[]:=by simp;omega
  rw[v3] at q
  rcases hc with rfl|rfl
  ·wp_walk using AutoSeq1.wpAny_loadPart' u1,AutoSeq1.wpAny_loadPart' u2
   rw[v1,v2]
   wp_walk using AutoSeq1.wpAny_loadPart' u1,AutoSeq1.wpAny_loadPart' u2
   show R (.ok (.ret (.bool (xs.size==ys.size)))) _;rw[hz,beq_self_eq_true];exact q
  ·wp_walk using AutoSeq1.wpAny_loadPart' u1,AutoSeq1.wpAny_loadPart' u2
   rw[v1,v2]
   wp_walk using AutoSeq1.wpAny_loadPart' u1,AutoSeq1.wpAny_loadPart' u2
   show R (.ok (.ret (.bool (xs.size !=ys.size)))) _;rw[hz,bne_self_eq_false];exact q
 |succ k ih=>
  intro i hk A R s h;obtain⟨hq,gs,dr,tk,oss⟩:=s;obtain⟨u1,u2,ue,q⟩:=h;have t1:i<xs.size:=by omega
  have t2:i<ys.size:=by omega
  have v1:xs[((i:Nat):Int).toNat]? =some xs[i]:=by simp[t1]
  have v2:ys[((i:Nat):Int).toNat]? =some ys[i]:=by simp[t2]
  have v3:(List.range xs.size).drop i=i::(List.range xs.size).drop (i+1):=by simp[List.drop_eq_getElem_cons,t1]
  have v4:((i:Int)+1)=((i+1:Nat):Int):=by push_cast;rfl
  rw[v3,List.all_cons] at q
  rcases hc with rfl|rfl
  ·wp_walk using AutoSeq1.wpAny_loadPart' u1,AutoSeq1.wpAny_loadPart' u2
   rw[v1,v2];refine wpAny_bind (ue i t1 t2 _ _ ?_);cases ei:e i with
   |true=>
    rw[ei,Bool.true_and] at q
    wp_walk
    rw[v4];refine⟨plainId_quiet MeetsSeq3.plain_eq_loop _,codeAny_builtin MeetsSeq3.entry_eq_loop ?_⟩;rw[Around.under_plainId MeetsSeq3.plain_eq_loop _];exact ih (i+1) (by omega) A R _ ⟨u1,u2,ue,q⟩
   |false=>
    rw[ei,Bool.false_and] at q
    wp_walk using AutoSeq1.wpAny_loadPart' u1,AutoSeq1.wpAny_loadPart' u2
    rw[v1,v2]
    wp_walk
    exact q
  ·wp_walk using AutoSeq1.wpAny_loadPart' u1,AutoSeq1.wpAny_loadPart' u2
   rw[v1,v2];refine wpAny_bind (ue i t1 t2 _ _ ?_);cases ei:e i with
   |true=>
    rw[ei,Bool.true_and] at q
    wp_walk
    rw[v4];refine⟨plainId_quiet MeetsSeq3.plain_eq_loop _,codeAny_builtin MeetsSeq3.entry_eq_loop ?_⟩;rw[Around.under_plainId MeetsSeq3.plain_eq_loop _];exact ih (i+1) (by omega) A R _ ⟨u1,u2,ue,q⟩
   |false=>
    rw[ei,Bool.false_and] at q
    wp_walk using AutoSeq1.wpAny_loadPart' u1,AutoSeq1.wpAny_loadPart' u2
    rw[v1,v2]
    wp_walk
    exact q
theorem Zs1(hz:xs.size=ys.size):MeetsIn P w (Builtin.«list.__eq__» ⟨[.ref l,.ref b],[]⟩) (fun A R s=>s.heap.get? l=some (ZgM d1 xs n s1)/\s.heap.get? b=some (ZgM d2 ys m s2)/\
  (∀j (h1:j<xs.size) (h2:j<ys.size),EqP P w A.in1 s xs[j] ys[j] (e j))/\R (.ok (.ret (.bool ((List.range xs.size).all e)))) s):=by
 intro A R s h;obtain⟨hq,gs,dr,tk,oss⟩:=s;obtain⟨u1,u2,ue,q⟩:=h;have sub:=AutoSeq1.sub_list_list;have v0:¬(xs.size !=ys.size)=true:=by simp[hz]
 wp_walk using AutoSeq1.wpAny_loadPart' u1,AutoSeq1.wpAny_loadPart' u2
 refine⟨plainId_quiet MeetsSeq3.plain_eq_loop _,codeAny_builtin MeetsSeq3.entry_eq_loop ?_⟩;rw[Around.under_plainId MeetsSeq3.plain_eq_loop _];exact Zop l b xs ys n m d1 d2 s1 s2 e hz 2 (.inl rfl) _ 0 rfl A R _ ⟨u1,u2,ue,by simpa using q⟩
theorem Zs2(hz:xs.size=ys.size):MeetsIn P w (Builtin.«list.__ne__» ⟨[.ref l,.ref b],[]⟩) (fun A R s=>s.heap.get? l=some (ZgM d1 xs n s1)/\s.heap.get? b=some (ZgM d2 ys m s2)/\
  (∀j (h1:j<xs.size) (h2:j<ys.size),EqP P w A.in1 s xs[j] ys[j] (e j))/\R (.ok (.ret (.bool (!(List.range xs.size).all e)))) s):=by
 intro A R s h;obtain⟨hq,gs,dr,tk,oss⟩:=s;obtain⟨u1,u2,ue,q⟩:=h;have sub:=AutoSeq1.sub_list_list;have v0:¬(xs.size !=ys.size)=true:=by simp[hz]
 wp_walk using AutoSeq1.wpAny_loadPart' u1,AutoSeq1.wpAny_loadPart' u2
 refine⟨plainId_quiet MeetsSeq3.plain_eq_loop _,codeAny_builtin MeetsSeq3.entry_eq_loop ?_⟩;rw[Around.under_plainId MeetsSeq3.plain_eq_loop _];exact Zop l b xs ys n m d1 d2 s1 s2 e hz 3 (.inr rfl) _ 0 rfl A R _ ⟨u1,u2,ue,by simpa using q⟩
end
end L3
namespace L3
open PySem PySem.Spec PyProof.Rows L2
section
variable {P:Program} {w:World} (l b:Addr) (xs ys:Array Value) (n m:Nat) (d1 d2:Option Addr) (s1 s2:Array (Option Value)) (e:Nat->Bool)
abbrev Zan(xs ys:Array Value)(e:Nat->Bool)(i:Nat):Bool:=((List.range (min xs.size ys.size)).drop i).all e&&xs.size==ys.size
theorem Ztc:MeetsIn P w (Builtin.«tuple.__eq__» ⟨[.ref l,.ref b],[]⟩) (fun A R s=>s.heap.get? l=some (ZmU d1 xs n s1)/\s.heap.get? b=some (ZmU d2 ys m s2)/\
  (∀j (h1:j<xs.size) (h2:j<ys.size),EqP P w A.in1 s xs[j] ys[j] (e j))/\R (.ok (.ret (.bool (Zan xs ys e 0)))) s):=
 .of_wp fun A R s h=>by
  obtain⟨hq,gs,dr,tk,oss⟩:=s;obtain⟨u1,u2,ue,q⟩:=h;have sub:=AutoSeq1.sub_tuple_tuple;have zl:(xs.toList.zip ys.toList).length=min xs.size ys.size:=by simp
  wp_walk using AutoSeq1.wpAny_loadPart' u1,AutoSeq1.wpAny_loadPart' u2,wpAny_forIn_list _ (fun rest a s'=>a.1=none/\s'=⟨hq,gs,dr,tk,oss⟩/\∃i,rest=(xs.toList.zip ys.toList).drop i/\
   R (.ok (.ret (.bool (Zan xs ys e i)))) ⟨hq,gs,dr,tk,oss⟩) _
  case turn=>
   rintro⟨y,x⟩ rest a s' ⟨ha,rfl,i,zr,zq⟩;have lt:i<(xs.toList.zip ys.toList).length:=Nat.lt_of_not_le fun z=>by rw[List.drop_of_length_le z] at zr;cases zr
   have lm:i<min xs.size ys.size:=zl▸lt;have l1:i<xs.size:=by omega
   have l2:i<ys.size:=by omega
   rw[List.drop_eq_getElem_cons lt] at zr
   injection zr with zyx zrest
   obtain rfl:y=xs[i]:=by simpa using congrArg Prod.fst zyx
   obtain rfl:x=ys[i]:=by simpa using congrArg Prod.snd zyx
   have zd:(List.range (min xs.size ys.size)).drop i=i::(List.range (min xs.size ys.size)).drop (i+1):=by simp[List.drop_eq_getElem_cons,lm]
   unfold Zan at zq
   rw[zd,List.all_cons] at zq
   refine wpAny_bind (ue i l1 l2 _ _ ?_);cases ei:e i with
   |true=>
    rw[ei,Bool.true_and] at zq
    wp_walk
    exact⟨rfl,rfl,i+1,zrest,zq⟩
   |false=>
    rw[ei,Bool.false_and,Bool.false_and] at zq
    wp_walk
    exact⟨_,rfl,zq⟩
  case fin=>
   rintro⟨a1,a2⟩ s' ⟨ha,rfl,i,zr,zq⟩;simp only at ha
   subst ha;have ge:min xs.size ys.size<=i:=Nat.le_of_not_lt fun z=>by rw[List.drop_eq_getElem_cons (zl▸z:i<(xs.toList.zip ys.toList).length)] at zr;cases zr
   unfold Zan at zq
   rw[List.drop_of_length_le (by simpa using ge)] at zq
   wp_walk
   exact⟨_,rfl,by simpa [Builtin.Tuple.tupleCompareSizes] using zq⟩
  case h=>exact⟨rfl,rfl,0,rfl,q⟩
theorem Ztd:MeetsIn P w (Builtin.«tuple.__ne__» ⟨[.ref l,.ref b],[]⟩) (fun A R s=>s.heap.get? l=some (ZmU d1 xs n s1)/\s.heap.get? b=some (ZmU d2 ys m s2)/\
  (∀j (h1:j<xs.size) (h2:j<ys.size),EqP P w A.in1 s xs[j] ys[j] (e j))/\R (.ok (.ret (.bool (!Zan xs ys e 0)))) s):=
 .of_wp fun A R s h=>by
  obtain⟨hq,gs,dr,tk,oss⟩:=s;obtain⟨u1,u2,ue,q⟩:=h;have sub:=AutoSeq1.sub_tuple_tuple;have zl:(xs.toList.zip ys.toList).length=min xs.size ys.size:=by simp
  wp_walk using AutoSeq1.wpAny_loadPart' u1,AutoSeq1.wpAny_loadPart' u2,wpAny_forIn_list _ (fun rest a s'=>a.1=none/\s'=⟨hq,gs,dr,tk,oss⟩/\∃i,rest=(xs.toList.zip ys.toList).drop i/\
   R (.ok (.ret (.bool (!Zan xs ys e i)))) ⟨hq,gs,dr,tk,oss⟩) _
  case turn=>
   rintro⟨y,x⟩ rest a s' ⟨ha,rfl,i,zr,zq⟩;have lt:i<(xs.toList.zip ys.toList).length:=Nat.lt_of_not_le fun z=>by rw[List.drop_of_length_le z] at zr;cases zr
   have lm:i<min xs.size ys.size:=zl▸lt;have l1:i<xs.size:=by omega
   have l2:i<ys.size:=by omega
   rw[List.drop_eq_getElem_cons lt] at zr
   injection zr with zyx zrest
   obtain rfl:y=xs[i]:=by simpa using congrArg Prod.fst zyx
   obtain rfl:x=ys[i]:=by simpa using congrArg Prod.snd zyx
   have zd:(List.range (min xs.size ys.size)).drop i=i::(List.range (min xs.size ys.size)).drop (i+1):=by simp[List.drop_eq_getElem_cons,lm]
   unfold Zan at zq
   rw[zd,List.all_cons] at zq
   refine wpAny_bind (ue i l1 l2 _ _ ?_);cases ei:e i with
   |true=>
    rw[ei,Bool.true_and] at zq
    wp_walk
    exact⟨rfl,rfl,i+1,zrest,zq⟩
   |false=>
    rw[ei,Bool.false_and,Bool.false_and] at zq
    wp_walk
    exact⟨_,rfl,zq⟩
  case fin=>
   rintro⟨a1,a2⟩ s' ⟨ha,rfl,i,zr,zq⟩;simp only at ha
   subst ha;have ge:min xs.size ys.size<=i:=Nat.le_of_not_lt fun z=>by rw[List.drop_eq_getElem_cons (zl▸z:i<(xs.toList.zip ys.toList).length)] at zr;cases zr
   unfold Zan at zq
   rw[List.drop_of_length_le (by simpa using ge)] at zq
   wp_walk
   exact⟨_,rfl,by simpa [Builtin.Tuple.tupleCompareSizes,bne] using zq⟩
  case h=>exact⟨rfl,rfl,0,rfl,q⟩
end
theorem ZaJ{c:Bool}{Q E:Value->Shared->Prop}{s:Shared}(q:Q (.bool c) s):wants (fun v s'=>v≠.notImplemented/\Q v s') E (.ok (.ret (.bool c))) s:=⟨(fun z=>nomatch z),q⟩
section
variable {P:Program} {w:World} {A:Around} {s:Shared} {l b:Addr} {xs ys:Array Value} {e:Nat->Bool}
theorem Zs3(hl:s.heap.IsList l xs)(hb:s.heap.IsList b ys)(hz:xs.size=ys.size)(hu:A.units<cLine)(he:∀j (h1:j<xs.size) (h2:j<ys.size),EqP P w A.in1 s xs[j] ys[j] (e j)):RcP P w A s .Eq (.ref l) (.ref b) ((List.range xs.size).all e)/\RcP P w A s .NotEq (.ref l) (.ref b) (!(List.range xs.size).all e):=by
 obtain⟨⟨c1,d1,t1,s1⟩,o1,k1,n,e1⟩:=id hl;obtain⟨⟨c2,d2,t2,s2⟩,o2,k2,m,e2⟩:=id hb;simp only at k1 e1 k2 e2
 subst k1 e1 k2 e2;exact⟨fun E Q q=>wpAny_richCompare_same_room hl.typeIs hb.typeIs F.slot_list_eq (call_meetsIn F.slot_list_eq hl.typeIs F.entry_list_eq (F.args_list_eq_2 _ _) (Zs1 l b xs ys n m d1 d2 s1 s2 e hz) ⟨o1,o2,he,ZaJ q⟩) hu,
  fun E Q q=>wpAny_richCompare_same_room hl.typeIs hb.typeIs F.slot_list_ne (call_meetsIn F.slot_list_ne hl.typeIs F.entry_list_ne (F.args_list_ne_2 _ _) (Zs2 l b xs ys n m d1 d2 s1 s2 e hz) ⟨o1,o2,he,ZaJ q⟩) hu⟩
theorem ZmV(hl:s.heap.IsList l xs)(hb:s.heap.IsList b ys)(hz:xs.size≠ys.size)(hu:A.units<cLine):RcP P w A s .Eq (.ref l) (.ref b) false/\RcP P w A s .NotEq (.ref l) (.ref b) true:=
 ⟨fun E Q q=>SeqAt.RcAt.lists_lengths hl hb (by simpa using hz) hu P w E Q q,fun E Q q=>SeqAt.RcNeAt.lists_lengths hl hb (by simpa using hz) hu P w E Q q⟩
theorem Zte(hl:s.heap.IsTuple l xs)(hb:s.heap.IsTuple b ys)(hu:A.units<cLine)(he:∀j (h1:j<xs.size) (h2:j<ys.size),EqP P w A.in1 s xs[j] ys[j] (e j)):RcP P w A s .Eq (.ref l) (.ref b) (Zan xs ys e 0)/\RcP P w A s .NotEq (.ref l) (.ref b) (!Zan xs ys e 0):=by
 obtain⟨⟨c1,d1,t1,s1⟩,o1,k1,n,e1⟩:=id hl;obtain⟨⟨c2,d2,t2,s2⟩,o2,k2,m,e2⟩:=id hb;simp only at k1 e1 k2 e2
 subst k1 e1 k2 e2;exact⟨fun E Q q=>wpAny_richCompare_same_room hl.typeIs hb.typeIs F.slot_tuple_eq (call_meetsIn F.slot_tuple_eq hl.typeIs F.entry_tuple_eq (F.args_tuple_eq_2 _ _) (Ztc l b xs ys n m d1 d2 s1 s2 e) ⟨o1,o2,he,ZaJ q⟩) hu,
  fun E Q q=>wpAny_richCompare_same_room hl.typeIs hb.typeIs F.slot_tuple_ne (call_meetsIn F.slot_tuple_ne hl.typeIs F.entry_tuple_ne (F.args_tuple_ne_2 _ _) (Ztd l b xs ys n m d1 d2 s1 s2 e) ⟨o1,o2,he,ZaJ q⟩) hu⟩
def dEq(a b:List (Key×V)):Bool:=a.length==b.length&&a.all fun kv=>match Zc4 b kv.1 with|some u=>eqV kv.2 u|none=>false
theorem ZlV{kb:List (Key×V)}{vb:List (Key×Value)}(rb:KV kb vb)(fb:∀kv∈kb,XH kv.2=true){ka:List (Key×V)}{va:List (Key×Value)}(ra:KV ka va)(fa:∀kv∈ka,XH kv.2=true):
  PySem.W.KeqHits A s vb va (ka.all fun kv=>match Zc4 kb kv.1 with|some u=>eqV kv.2 u|none=>false):=by
 induction ra with
 |nil=>exact .nil
 | @cons p q ps qs h t ih=>
  obtain⟨k,v⟩:=p;obtain⟨k',u⟩:=q;obtain⟨e1,e2⟩:=h;have e1:k=k':=e1;subst e1;have e2:Ye v u:=e2;have fr:=ih fun kv hm=>fa kv (List.mem_cons_of_mem _ hm);have fv:XH v=true:=fa (k,v) (List.mem_cons_self ..);have rv:=KV.val rb k;rw[List.all_cons];cases hv:Zc4 kb k with
  |none=>
   rw[hv] at rv
   exact .miss (Zcd.none_of rv)
  |some y=>
   rw[hv] at rv
   cases hw:valueAt vb k with
   |none=>rw[hw] at rv;exact rv.elim
   |some u'=>
    rw[hw] at rv
    have fy:XH y=true:=by
     unfold Zc4 at hv
     cases hf:kb.find? (fun kv=>decide (kv.1=k)) with
     |none=>rw[hf] at hv;exact nomatch hv
     |some p=>rw[hf] at hv;cases hv;exact fb p (List.mem_of_find?_eq_some hf)
    exact .hit hw (ZkQ e2 rv fv fy) fr
theorem Zs4{ka kb:List (Key×V)}{va vb:List (Key×Value)}(ha:(l==sysModules)=false)(hb:(b==sysModules)=false)(da:s.heap.DictOf (Yx P w) l va)(db:s.heap.DictOf (Yx P w) b vb)(ra:KV ka va)(rb:KV kb vb)
  (fa:∀kv∈ka,XH kv.2=true)(fb:∀kv∈kb,XH kv.2=true)(hu:A.units<cLine):RcP P w A s .Eq (.ref l) (.ref b) (dEq ka kb)/\RcP P w A s .NotEq (.ref l) (.ref b) (!dEq ka kb):=by
 have e1:ka.length=va.length:=Paired.length ra;have e2:kb.length=vb.length:=Paired.length rb;unfold dEq;rw[e1,e2];exact⟨fun E Q q=>PySem.W.keq_eq ha hb da db hu (fun _=>ZlV rb fb ra fa) q,fun E Q q=>PySem.W.keq_ne ha hb da db hu (fun _=>ZlV rb fb ra fa) q⟩
end
end L3
namespace L3
open PySem PySem.Spec PyProof.Rows L2
inductive Dt where
 |v (x:V)|lst (ds:List Dt)|tup (ds:List Dt)|dct (kvs:List (Key×V))
inductive Rep (K:PySem.W.Frag) (H:Hp):Dt->V->Prop where
 |flat {x:V} (f:XH x=true):Rep K H (.v x) x
 |lst {a:Addr} {ds:List Dt} {xs:List V} (h:SqL K H a xs) (r:Paired (Rep K H) ds xs):Rep K H (.lst ds) (.ref a)
 |tup {a:Addr} {ds:List Dt} {xs:List V} (h:SqT K H a xs) (r:Paired (Rep K H) ds xs):Rep K H (.tup ds) (.ref a)
 |dct {a:Addr} {kvs:List (Key×V)} (h:Rd H a (.dK kvs)) (f:∀kv∈kvs,XH kv.2=true):Rep K H (.dct kvs) (.ref a)
abbrev ZmW(K:PySem.W.Frag)(H:Hp)(ds:List Dt)(xs:List V):Prop:=Paired (Rep K H) ds xs
def XJ:Nat->Dt->Dt->Bool
 |_,.v x,.v y=>eqV x y
 |n+1,.lst a,.lst b=>a.length==b.length&&(a.zip b).all fun p=>XJ n p.1 p.2
 |n+1,.tup a,.tup b=>(a.zip b).all (fun p=>XJ n p.1 p.2)&&a.length==b.length
 |_+1,.dct a,.dct b=>dEq a b
 |_,_,_=>false
def ZaQ:Nat->Dt->Dt->Bool
 |_,.v _,.v _=>true
 |n+1,.lst a,.lst b=>(a.zip b).all fun p=>ZaQ n p.1 p.2
 |n+1,.tup a,.tup b=>(a.zip b).all fun p=>ZaQ n p.1 p.2
 |_+1,.dct _,.dct _=>true
 |_,_,_=>false
theorem ZeF{x:V}(f:XH x=true):eqV x x=true:=by
 cases x with
 |non=>rfl
 |bl b=>exact beq_self_eq_true b
 |int i=>exact beq_self_eq_true i
 |str z=>exact beq_self_eq_true z
 |_=>exact absurd (show false=true from f) Bool.false_ne_true
theorem Zoq{kvs:List (Key×V)}(nd:(kvs.map (·.1)).Nodup)(f:∀kv∈kvs,XH kv.2=true):dEq kvs kvs=true:=by
 unfold dEq;rw[beq_self_eq_true,Bool.true_and,List.all_eq_true];intro kv hm;have e:Zc4 kvs kv.1=some kv.2:=by
  clear f
  induction kvs with
  |nil=>cases hm
  |cons p r ih=>
   rw[List.map_cons,List.nodup_cons] at nd
   rcases List.mem_cons.mp hm with rfl|more
   ·exact Zc5 rfl
   ·rw[Zd0 (fun z=>nd.1 (by rw[z];exact List.mem_map.mpr ⟨kv,more,rfl⟩))]
    exact ih nd.2 more
 rw[e];exact ZeF (f kv hm)
theorem Zs5{H:Hp}{a:Addr}{k1 k2:List (Key×V)}(h1:Rd H a (.dK k1))(h2:Rd H a (.dK k2)):k1=k2:=by
 rcases h1 with h1|⟨o1,h1⟩<;>rcases h2 with h2|⟨o2,h2⟩<;>(rw[h1] at h2;cases h2;try rfl)
section
variable {X:Cx} {pins:List (Addr×Obj)} {σ:L2.St} {H:Hp} {s:Shared}
theorem Zor{a:Addr}{kvs:List (Key×V)}(I:L2.Inv X pins σ H s)(h:Rd H a (.dK kvs)):(kvs.map (·.1)).Nodup:=by
 obtain⟨_,_,vs,rel,dd⟩:=ZcQ I.hok h;rw[KV.keys rel];obtain⟨ep,hat⟩:=dd.dictAt;exact hat.nodup
theorem Zos(I:L2.Inv X pins σ H s):∀(n:Nat) (d e:Dt) (x:V),Rep X.K H d x->Rep X.K H e x->ZaQ n d e=true->XJ n d e=true:=by
 have Zcm:∀n,(∀(d e:Dt) (x:V),Rep X.K H d x->Rep X.K H e x->ZaQ n d e=true->XJ n d e=true)->∀{ds es:List Dt} {xs:List V},ZmW X.K H ds xs->ZmW X.K H es xs->((ds.zip es).all fun p=>ZaQ n p.1 p.2)=true->
   ds.length=es.length/\((ds.zip es).all fun p=>XJ n p.1 p.2)=true:=by
  intro n ih ds es xs r1
  induction r1 generalizing es with
  |nil=>intro r2 _;cases r2;exact⟨rfl,rfl⟩
  |cons h1 t1 ih2=>
   intro r2 lk;cases r2 with
   |cons h2 t2=>
    rw[List.zip_cons_cons,List.all_cons,Bool.and_eq_true] at lk
    obtain⟨z1,z2⟩:=ih2 t2 lk.2;refine⟨by simp[z1], ?_⟩;rw[List.zip_cons_cons,List.all_cons,Bool.and_eq_true];exact⟨ih _ _ _ h1 h2 lk.1,z2⟩
 intro n
 induction n with
 |zero=>
  intro d e x h1 h2 lk;cases h1 with
  |flat f=>
   cases h2 with
   |flat f2=>exact ZeF f
   |_=>cases f
  |_=>cases h2<;>cases lk
 |succ n ih=>
  intro d e x h1 h2 lk;cases h1 with
  |flat f=>
   cases h2 with
   |flat f2=>exact ZeF f
   |_=>cases f
  |lst q1 r1=>
   cases h2 with
   |lst q2 r2=>
    cases I.list_inj q1 q2;obtain⟨z1,z2⟩:=Zcm n ih r1 r2 lk;show(_==_&&_)=true;rw[z1,beq_self_eq_true,Bool.true_and];exact z2
   |_=>cases lk
  |tup q1 r1=>
   cases h2 with
   |tup q2 r2=>
    cases I.tuple_inj q1 q2;obtain⟨z1,z2⟩:=Zcm n ih r1 r2 lk;show(_&&_==_)=true;rw[z1,beq_self_eq_true,Bool.and_true];exact z2
   |_=>cases lk
  |dct q1 f1=>
   cases h2 with
   |dct q2 f2=>
    cases Zs5 q1 q2;exact Zoq (Zor I q1) f1
   |_=>cases lk
theorem Zge{n:Nat}{f:Nat->Dt->Dt->Bool}:∀(ds es:List Dt),((ds.zip es).all fun p=>f n p.1 p.2)=(List.range (min ds.length es.length)).all fun j=>f n (ds.getD j (.v .non)) (es.getD j (.v .non))
 |[],es=>by simp
 |_::_,[]=>by simp
 |d::ds,e::es=>by
  rw[List.zip_cons_cons,List.all_cons,Zge ds es,List.length_cons,List.length_cons,Nat.succ_min_succ,List.range_succ_eq_map,List.all_cons,List.all_map]
  rfl
theorem ZiS{K:PySem.W.Frag}:∀{ds:List Dt} {xs:List V} {us:List Value} (_:ZmW K H ds xs) (_:Yc xs us) (j:Nat) (h:j<us.length),∃x,Rep K H (ds.getD j (.v .non)) x/\Ye x us[j]
 |_,_,_,.nil,.nil,j,h=>absurd h (Nat.not_lt_zero _)
 |_,_,_,.cons r _,.cons v _,0,_=>⟨_,r,v⟩
 |_,_,_,.cons _ t,.cons _ vt,j+1,h=>by
  obtain⟨x,a,b⟩:=ZiS t vt j (by simpa using h);exact⟨x,a,b⟩
theorem Zgf(I:L2.Inv X pins σ H s):∀(n:Nat) (d e:Dt) (x y:V) (u v:Value) (A:Around),Rep X.K H d x->Rep X.K H e y->Ye x u->Ye y v->ZaQ n d e=true->A.units+n<cLine->
  EqP X.prog X.w A s u v (XJ n d e)/\(XH x=false->RcP X.prog X.w A s .Eq u v (XJ n d e)/\RcP X.prog X.w A s .NotEq u v (!XJ n d e)):=by
 have flatEq:∀{x y:V} {u v:Value} {A:Around},XH x=true->XH y=true->Ye x u->Ye y v->EqP X.prog X.w A s u v (eqV x y):=fun fx fy rx ry E Q q=>ZkQ rx ry fx fy X.prog X.w E Q q;have refl:∀{n:Nat} {d e:Dt} {a b:Addr} {A:Around},Rep X.K H d (.ref a)->Rep X.K H e (.ref b)->ZaQ n d e=true->(RcP X.prog X.w A s .Eq (.ref a) (.ref b) (XJ n d e)/\RcP X.prog X.w A s .NotEq (.ref a) (.ref b) (!XJ n d e))->
   EqP X.prog X.w A s (.ref a) (.ref b) (XJ n d e)/\(XH (.ref a)=false->RcP X.prog X.w A s .Eq (.ref a) (.ref b) (XJ n d e)/\RcP X.prog X.w A s .NotEq (.ref a) (.ref b) (!XJ n d e)):=fun{n d e a b A} h1 h2 lk rc=>by
  refine⟨?_,fun _=>rc⟩
  by_cases hab:a=b
  ·subst hab;rw[Zos I n d e _ h1 h2 lk];exact fun E Q q=>SeqAt.EqAt.same _ X.prog X.w E Q q
  ·exact EqP.refs hab rc.1
 have item:∀n,(∀(d e:Dt) (x y:V) (u v:Value) (A:Around),Rep X.K H d x->Rep X.K H e y->Ye x u->Ye y v->ZaQ n d e=true->A.units+n<cLine->
   EqP X.prog X.w A s u v (XJ n d e)/\(XH x=false->RcP X.prog X.w A s .Eq u v (XJ n d e)/\RcP X.prog X.w A s .NotEq u v (!XJ n d e)))->∀{A:Around} {ds es:List Dt} {xs ys:List V} {us vs:List Value},ZmW X.K H ds xs->ZmW X.K H es ys->Yc xs us->Yc ys vs->
   ((ds.zip es).all fun p=>ZaQ n p.1 p.2)=true->A.units+(n+1)<cLine->∀j (h1:j<us.toArray.size) (h2:j<vs.toArray.size),EqP X.prog X.w A.in1 s us.toArray[j] vs.toArray[j] (XJ n (ds.getD j (.v .non)) (es.getD j (.v .non))):=by
  intro n ih A ds es xs ys us vs r1 r2 v1 v2 lk hu j h1 h2;have l1:j<us.length:=by simpa using h1
  have l2:j<vs.length:=by simpa using h2
  obtain⟨x,a1,b1⟩:=ZiS r1 v1 j l1;obtain⟨y,a2,b2⟩:=ZiS r2 v2 j l2;have e1:=Paired.length r1;have e2:=Paired.length r2;have e3:=v1.length;have e4:=v2.length;rw[Zge (f:=ZaQ),List.all_eq_true] at lk
  have lkj:=lk j (List.mem_range.mpr (by omega));have:=(ih _ _ x y us[j] vs[j] A.in1 a1 a2 b1 b2 lkj (by show A.units+1+n<cLine;omega)).1
  simpa using this
 intro n
 induction n with
 |zero=>
  intro d e x y u v A h1 h2 rx ry lk hu;cases h1 with
  |flat f=>
   cases h2 with
   |flat f2=>exact⟨flatEq f f2 rx ry,fun z=>by rw[f] at z;cases z⟩
   |_=>cases lk
  |_=>cases h2<;>cases lk
 |succ n ih=>
  intro d e x y u v A h1 h2 rx ry lk hu;have hu0:A.units<cLine:=by omega
  cases h1 with
  |flat f=>
   cases h2 with
   |flat f2=>exact⟨flatEq f f2 rx ry,fun z=>by rw[f] at z;cases z⟩
   |_=>cases lk
  | @lst a ds xs q1 r1=>
   cases h2 with
   | @lst b es ys q2 r2=>
    cases rx;cases ry;refine refl (.lst q1 r1) (.lst q2 r2) lk ?_;obtain⟨us,v1,p1,_⟩:=I.list q1;obtain⟨vs,v2,p2,_⟩:=I.list q2;have e1:=Paired.length r1;have e2:=Paired.length r2;have e3:=v1.length;have e4:=v2.length
    by_cases hz:us.length=vs.length
    ·have rc:=Zs3 (P:=X.prog) (w:=X.w) (A:=A) (e:=fun j=>XJ n (ds.getD j (.v .non)) (es.getD j (.v .non))) p1.isList p2.isList (by simpa using hz) hu0 (item n ih r1 r2 v1 v2 lk hu);have ee:XJ (n+1) (.lst ds) (.lst es)=(List.range us.toArray.size).all fun j=>XJ n (ds.getD j (.v .non)) (es.getD j (.v .non)):=by
      show(ds.length==es.length&&((ds.zip es).all fun p=>XJ n p.1 p.2))=_;have el:ds.length=es.length:=by omega
      have eu:us.toArray.size=es.length:=by rw[List.size_toArray];omega
      rw[Zge (f:=XJ),el,beq_self_eq_true,Bool.true_and,Nat.min_self,eu]
     rw[ee];exact rc
    ·have ee:XJ (n+1) (.lst ds) (.lst es)=false:=by
      show(ds.length==es.length&&((ds.zip es).all fun p=>XJ n p.1 p.2))=false;have el:(ds.length==es.length)=false:=beq_eq_false_iff_ne.mpr (by omega);rw[el,Bool.false_and]
     rw[ee];exact ZmV p1.isList p2.isList (by simpa using hz) hu0
   |_=>cases lk
  | @tup a ds xs q1 r1=>
   cases h2 with
   | @tup b es ys q2 r2=>
    cases rx;cases ry;refine refl (.tup q1 r1) (.tup q2 r2) lk ?_;obtain⟨us,v1,p1,_⟩:=I.tuple q1;obtain⟨vs,v2,p2,_⟩:=I.tuple q2;have e1:=Paired.length r1;have e2:=Paired.length r2;have e3:=v1.length;have e4:=v2.length;have rc:=Zte (P:=X.prog) (w:=X.w) (A:=A) (e:=fun j=>XJ n (ds.getD j (.v .non)) (es.getD j (.v .non))) (show s.heap.IsTuple a us.toArray from p1) (show s.heap.IsTuple b vs.toArray from p2) hu0 (item n ih r1 r2 v1 v2 lk hu)
    have ee:XJ (n+1) (.tup ds) (.tup es)=Zan us.toArray vs.toArray (fun j=>XJ n (ds.getD j (.v .non)) (es.getD j (.v .non))) 0:=by
     show(((ds.zip es).all fun p=>XJ n p.1 p.2)&&ds.length==es.length)=_;unfold Zan;rw[Zge (f:=XJ),List.drop_zero,List.size_toArray,List.size_toArray,show us.length=ds.length by omega,show vs.length=es.length by omega]
    rw[ee];exact rc
   |_=>cases lk
  | @dct a ka q1 f1=>
   cases h2 with
   | @dct b kb q2 f2=>
    cases rx;cases ry;refine refl (.dct q1 f1) (.dct q2 f2) lk ?_;obtain⟨_,z1,va,r1,dd1⟩:=ZcQ I.hok q1;obtain⟨_,z2,vb,r2,dd2⟩:=ZcQ I.hok q2;exact Zs4 z1 z2 dd1 dd2 r1 r2 f1 f2 hu0
   |_=>cases lk
end
section
variable {X:Cx}
def Ztf(K:PySem.W.Frag)(neg:Bool):R2:=fun x y H Q=>∃n d e,n<=30/\XH x=false/\Rep K H d x/\Rep K H e y/\ZaQ n d e=true/\Q (.bl (if neg then !XJ n d e else XJ n d e)) H
theorem Zot(hu:X.A.units+30<cLine):OpR X (compareOp .Eq) (Ztf X.K false):=by
 intro pins s σ H x y v u Q I rx ry h;obtain⟨n,d,e,hn,fx,r1,r2,lk,q⟩:=h;exact((Zgf I n d e x y v u X.A r1 r2 rx ry lk (by omega)).2 fx).1 _ _ ⟨.bl _,H,I,rfl,q⟩
theorem Zou(hu:X.A.units+30<cLine):OpR X (compareOp .NotEq) (Ztf X.K true):=by
 intro pins s σ H x y v u Q I rx ry h;obtain⟨n,d,e,hn,fx,r1,r2,lk,q⟩:=h;exact((Zgf I n d e x y v u X.A r1 r2 rx ry lk (by omega)).2 fx).2 _ _ ⟨.bl _,H,I,rfl,q⟩
theorem Zqb{A:Around}{k:Nat}(hr:Xb k A):A.units+30<cLine:=Nat.lt_of_le_of_lt (Nat.add_le_add_left (by decide:30<=64) _) hr.units
end
end L3
namespace M3
open PySem PySem.Spec PyProof.Rows L2 L3
abbrev Tb:=List (Str×Int)
def kk(c:Tb):List (Key×V):=c.map fun p=>(Sum.inr p.1,V.int p.2)
def lk(c:Tb)(k:Str):Option Int:=(c.find? fun p=>decide (p.1=k)).map (·.2)
def ZeG(c:Tb)(k:Str)(v:Int):Tb:=if(c.any fun p=>decide (p.1=k))=true then c.map (fun p=>if p.1=k then(p.1,v) else p) else c++[(k,v)]
theorem Zc7(c:Tb):(kk c).length=c.length:=by unfold kk;rw[List.length_map]
theorem Zqc(c:Tb)(k:Str):Zc4 (kk c) (Sum.inr k)=(lk c k).map V.int:=by
 induction c with
 |nil=>rfl
 |cons p r ih=>
  by_cases e:p.1=k
  ·have h1:lk (p::r) k=some p.2:=by simp[lk,List.find?_cons,e]
   rw[h1];exact Zc5 (p:=(Sum.inr p.1,V.int p.2)) (by rw[e])
  ·have h1:lk (p::r) k=lk r k:=by simp[lk,List.find?_cons,e]
   rw[h1,<-ih];exact Zd0 (p:=(Sum.inr p.1,V.int p.2)) (fun h=>e (Sum.inr.inj h))
theorem Zs6(c:Tb)(k:Str):((kk c).any fun kv=>decide (kv.1=Sum.inr k))=c.any fun p=>decide (p.1=k):=by
 unfold kk;rw[List.any_map]
 congr 1
 funext p
 show decide ((Sum.inr p.1:Key)=Sum.inr k)=decide (p.1=k);exact ZnL p.1 k
theorem Zs7(c:Tb)(k:Str)(v:Int):Zcg (kk c) (Sum.inr k) (.int v)=kk (ZeG c k v):=by
 unfold Zcg ZeG;rw[Zs6];cases c.any fun p=>decide (p.1=k) with
 |true=>
  rw[if_pos rfl,if_pos rfl];unfold kk;rw[List.map_map,List.map_map]
  apply List.map_congr_left
  intro p _;show(if(Sum.inr p.1:Key)=Sum.inr k then((Sum.inr p.1:Key),V.int v) else(Sum.inr p.1,V.int p.2))=(Sum.inr (if p.1=k then(p.1,v) else p).1,V.int (if p.1=k then(p.1,v) else p).2)
  by_cases e:p.1=k
  ·rw[if_pos (by rw[e]),if_pos e]
  ·rw[if_neg (fun h=>e (Sum.inr.inj h)),if_neg e]
 |false=>
  rw[if_neg Bool.false_ne_true,if_neg Bool.false_ne_true];unfold kk;rw[List.map_append]
  rfl
theorem Zl6(c:Tb)(k:Str)(v:Int):(ZeG c k v).length<=c.length+1:=by
 unfold ZeG
 split
 ·rw[List.length_map];omega
 ·rw[List.length_append];exact Nat.le_refl _
theorem ZiT{c:Tb}(nd:(c.map (·.1)).Nodup){p:Str×Int}(h:p∈c):lk c p.1=some p.2:=by
 induction c with
 |nil=>cases h
 |cons q r ih=>
  rw[List.map_cons,List.nodup_cons] at nd
  rcases List.mem_cons.mp h with rfl|more
  ·simp[lk,List.find?_cons]
  ·have e:¬q.1=p.1:=fun z=>nd.1 (by rw[z];exact List.mem_map.mpr ⟨p,more,rfl⟩)
   have h1:lk (q::r) p.1=lk r p.1:=by simp[lk,List.find?_cons,e]
   rw[h1];exact ih nd.2 more
def ZaR(a b:Tb):Bool:=a.all fun p=>match lk b p.1 with|some u=>decide (p.2<=u)|none=>false
end M3
namespace M3
open PySem L2 L3
theorem ZmX{c:Tb}{k:Str}{v:Int}(nd:(c.map (·.1)).Nodup):((ZeG c k v).map (·.1)).Nodup:=by
 unfold ZeG
 split
 ·rw[List.map_map];have e:((fun p:Str×Int=>p.1)∘fun p=>if p.1=k then(p.1,v) else p)=fun p=>p.1:=by
   funext p
   show(if p.1=k then(p.1,v) else p).1=p.1
   split<;>rfl
  rw[e];exact nd
 ·rename_i h
  rw[List.map_append];refine ZlS nd fun m=>h ?_;obtain⟨p,hp,e⟩:=List.mem_map.mp m;exact List.any_eq_true.mpr ⟨p,hp,decide_eq_true e⟩
end M3
namespace L3
open PySem PySem.Spec PyProof.Rows L2
theorem Zqd{X:Cx}{K:PySem.W.Frag}{es:List PySem.Expr}{k:Nat}{t:TGs}{pos:Pos}(n:Nat)(hK:X.K=K)(hc:X.calm=true)(h:PGs X es t)(hn:(assignEach es X.env).length=n)(hst:(assignEach es X.env).findIdx? (·.1)=none):PG X (.Tuple es k pos) (ZrE K n t):=by
 subst hK;exact Zgx hc h hn hst
end L3
namespace L3
open PySem PySem.Spec PyProof.Rows L2
structure Zl7 (P:Program) (w:World) (K:PySem.W.Frag) (mg:Str->Option Value) (base:Heap) (CX:CXT) (k:Nat) (x:Str) (C:Addr) (ps:List Str) (sp:Sp):Prop where
 ex:∃(f:Addr) (fd:FuncData),mg x=some (.ref C)/\Mk K C f/\JT K fd ps []/\Yo P w K mg base CX k f fd ps sp
structure Zs8 (K:PySem.W.Frag) (mg:Str->Option Value) (x:Str) (C:Addr):Prop where
 at_:mg x=some (.ref C)
 makes:PySem.W.makesIn K C=true
 init:PySem.W.findIn K (.ref C) "__init__"=some (some (.builtin "object.__init__"))
 kp:PySem.W.keepIn K (.ref C)=true
structure Zov (P:Program) (w:World) (K:PySem.W.Frag) (mg:Str->Option Value) (base:Heap) (CX:CXT) (k:Nat) (m:Str) (ps:List Str) (sp:Addr->Sp) (Fam:Addr->Prop):Prop where
 ex:∀C,Fam C->Cls K C/\∃(f:Addr) (fd:FuncData),ZsX K C m f/\JT K fd ps []/\Yo P w K mg base CX k f fd ps (sp C)
theorem Zow{P:Program}{w:World}{H:Hp}{h:Heap}{a:Addr}{o:HO}(x:YD P w H h a o):∃ob,h.get? a=some ob:=by
 cases o with
 |lst xs=>obtain⟨_,_,_,_,e⟩:=x;exact⟨_,e⟩
 |tup xs=>obtain⟨_,_,_,ob,e,_⟩:=x;exact⟨ob,e⟩
 |dK kvs=>obtain⟨_,_,_,_,o,_,_,e,_⟩:=x;exact⟨o,e⟩
 |dT kvs=>obtain⟨_,_,_,_,o,_,_,e,_⟩:=x;exact⟨o,e⟩
 |set S n=>obtain⟨o,_,_,_,e,_⟩:=x;exact⟨o,e⟩
 |ins C dx fs=>obtain⟨_,_,_,e,_⟩:=x;exact⟨_,e⟩
 |own y=>exact x
 |xd fs=>obtain⟨_,⟨o,_,_,e,_⟩,_⟩:=x;exact⟨o,e⟩
 |rng lo hi=>obtain⟨_,_,_,e⟩:=x;exact⟨_,e⟩
 |frz ob u=>exact⟨ob,x.1⟩
 |tbl ps=>exact⟨_,x⟩
 |met f y=>exact⟨_,x⟩
 |ext φ=>exact x.2.1
section
variable {X:Cx} {pins:List (Addr×Obj)} {σ:L2.St} {H:Hp} {s:Shared} {n:Addr} {q:HO}
theorem ZaS{σ₁:L2.St}{H₁:Hp}{s':Shared}(I0:L2.Inv X pins σ₁ H₁ s)(I:L2.Inv X pins σ H s')(f0:H n=none)(hn:s.heap.get? n=none)(ok:YD X.prog X.w (upd H n q) s'.heap n q):L2.Inv X pins σ (upd H n q) s':=by
 have ns:∀b u,H b=some u->b≠n:=fun b u e z=>by subst z;rw[f0] at e;cases e
 have nh:∀b o,s.heap.get? b=some o->b≠n:=fun b o e z=>by subst z;rw[hn] at e;cases e
 have nL:X.env.locals≠n:=by
  obtain⟨m,⟨o,_,_,e,_⟩,_⟩:=I0.loc;exact nh _ o e
 refine⟨I.ok,I.os,I.bare,⟨I.base.keep,I.base.slot,fun b o e m hx=> ?_,I.base.there,fun b xs e=> ?_,fun b o u e=> ?_,fun b ps e=> ?_⟩,I.loc,I.cell, ?_,fun x c e=> ?_,fun z hz=> ?_,fun b u e=> ?_,I.len⟩
 ·refine(Zr ?_).trans (I.base.free b o e m hx);obtain⟨o',z⟩:=I0.base.there b o e hx;exact nh b o' z
 ·rw[Zr (ns b _ (I.base.tups b xs e))];exact I.base.tups b xs e
 ·rw[Zr (ns b _ (I.base.frzs b o u e))];exact I.base.frzs b o u e
 ·obtain⟨m,e2⟩:=I.base.tbls b ps e;exact⟨m,by rw[Zr (ns b _ e2)];exact e2⟩
 ·rw[Zr nL];exact I.free
 ·obtain⟨v,o,z,_⟩:=I0.cell x c e;rw[Zr (nh c o z)];exact I.freeC x c e
 ·obtain⟨z1,z2,z3⟩:=I.pin z hz;exact⟨z1,by rw[Zr (nh z.1 z.2 (I0.pin z hz).1)];exact z2,z3⟩
 ·by_cases hb:b=n
  ·subst hb;rw[Zc] at e
   cases e;exact ok
  ·rw[Zr hb] at e
   exact(I.hok b u e).stay (fun _ _ _ z=>z) (fun c z=>by rw[Zr (ns c _ z)];exact z) fun c xs z=>by rw[Zr (ns c _ z)];exact z
theorem Zl8{s':Shared}(I0:L2.Inv X pins σ H s)(I:L2.Inv X pins σ H s')(hn:s.heap.get? n=none)(ok:YD X.prog X.w (upd H n q) s'.heap n q):L2.Inv X pins σ (upd H n q) s':=by
 refine ZaS I0 I ?_ hn ok;cases e:H n with
 |none=>rfl
 |some u=>
  obtain⟨ob,z⟩:=Zow (I0.hok n u e);rw[hn] at z
  cases z
end
section
variable {X:Cx} {CX:CXT} {k:Nat} {x m:Str} {C:Addr} {ps:List Str} {sp:Sp} {sf:Addr->Sp} {Fam:Addr->Prop} {E:XK} {e o:PySem.Expr} {es:List PySem.Expr} {ta:TE} {t:TA} {p pos apos:Pos}
theorem Zl9(c:Zl7 X.prog X.w X.K X.mg X.base CX k x C ps sp)(hr:Xb (k+1) X.A)(hg:Gl X x)(hx:JV CX X E)(ha:PA X (e::es) t)(hdb:(x==("__debug__":Str))=false:=by decide)
  (he:starEach (e::es) X.env=(false,eval e X.env)::starEach es X.env:=by rfl)(hpl:(backTo pos (starEach es X.env)).any (·.1)=false:=by rfl):PE X (.Call (.Name x p) (e::es) [] pos) (Zrb C sp [] E t):=by
 obtain⟨f,fd,hm,M,hb,F⟩:=c.ex;exact ZpO M F hr hg hm hb .nil hx ha hdb he hpl
def Ztg(C:Addr):TE:=fun _ H Q=>∀x dx,H x=none->H dx=none->dx≠x->Q (.ref x) (upd (upd H dx (.own x)) x (.ins C dx []))
theorem Zqe(c:Zs8 X.K X.mg x C)(hg:Gl X x)(hdb:(x==("__debug__":Str))=false:=by decide):PE X (.Call (.Name x p) [] [] pos) (Ztg C):=by
 intro pins s σ H Q I h;refine wpAny_Call_Name_kw (YZ I hg c.at_ ?_ hdb);obtain⟨mm,F⟩:=I.fr;refine PySem.W.callWith_K0 I.kIn c.kp (PySem.W.call_cls0 F I.ok.mod.kin ZnN c.makes c.init fun y dy g F' N' hl hlt=> ?_);have I1:L2.Inv X pins σ H {s with heap:=g,toks:=s.toks}:=Zl3 (more:=[(y,PySem.W.instObj C dy),(dy,PySem.W.dictOf [] 0)]) I F.ns F' N';have gy:=N' (y,PySem.W.instObj C dy) (List.mem_cons_self ..)
 have gd:=N' (dy,PySem.W.dictOf [] 0) (List.mem_cons_of_mem _ (List.mem_cons_self ..));have fresh:∀z:Addr,dy<=z->z≠X.env.locals->X.base.get? z=none->s.heap.get? z=none:=fun z hz nl nb=>by
  cases e:s.heap.get? z with
  |none=>rfl
  |some ob=>exact absurd (hl (z,ob) (ZfF nl nb e)) (Nat.not_lt.mpr hz)
 have fd:=fresh dy (Nat.le_refl _) gd.2.1 gd.2.2;have fy:=fresh y (Nat.le_of_lt hlt) gy.2.1 gy.2.2;have I2:=Zl8 (q:=.own y) I I1 fd ⟨_,gd.1⟩;have nH:∀z,s.heap.get? z=none->H z=none:=fun z e=>by
  cases q:H z with
  |none=>rfl
  |some u=>obtain⟨ob,w⟩:=Zow (I.hok z u q);rw[e] at w;cases w
 have ne:dy≠y:=Nat.ne_of_lt hlt;have I3:L2.Inv X pins σ (upd (upd H dy (.own y)) y (.ins C dy [])) {s with heap:=g,toks:=s.toks}:=by
  have e3:g.Ns dy (fun _=>none):=⟨_, #[],_,gd.1,rfl,(fun e he=>absurd he (by simp)),fun _=>rfl⟩
  have f0:upd H dy (.own y) y=none:=(Zr (Ne.symm ne)).trans (nH y fy);have ok:YD X.prog X.w (upd (upd H dy (.own y)) y (.ins C dy [])) g y (.ins C dy []):=⟨by rw[Zr ne,Zc],Nat.zero_le _,ne,gy.1,fun _=>none,Heap.Ns1.of_empty e3,fun _=>True.intro,fun z hz=>absurd rfl hz⟩
  have ns:∀b u,upd H dy (.own y) b=some u->b≠y:=fun b u e z=>by subst z;rw[f0] at e;cases e
  have nh:∀b o,s.heap.get? b=some o->b≠y:=fun b o e z=>by subst z;rw[fy] at e;cases e
  refine⟨I2.ok,I2.os,I2.bare,⟨I2.base.keep,I2.base.slot,fun b o e m hx=> ?_,I2.base.there,fun b xs e=> ?_,fun b o u e=> ?_,fun b ps e=> ?_⟩,I2.loc,I2.cell, ?_,fun x c e=> ?_,fun z hz=> ?_,fun b u e=> ?_,I2.len⟩
  ·refine(Zr ?_).trans (I2.base.free b o e m hx);obtain⟨o',z⟩:=I.base.there b o e hx;exact nh b o' z
  ·rw[Zr (ns b _ (I2.base.tups b xs e))];exact I2.base.tups b xs e
  ·rw[Zr (ns b _ (I2.base.frzs b o u e))];exact I2.base.frzs b o u e
  ·obtain⟨m,e2⟩:=I2.base.tbls b ps e;exact⟨m,by rw[Zr (ns b _ e2)];exact e2⟩
  ·rw[Zr (Ne.symm gy.2.1)];exact I2.free
  ·obtain⟨v,o,z,_⟩:=I.cell x c e;rw[Zr (nh c o z)];exact I2.freeC x c e
  ·obtain⟨z1,z2,z3⟩:=I2.pin z hz;exact⟨z1,by rw[Zr (nh z.1 z.2 (I.pin z hz).1)];exact z2,z3⟩
  ·by_cases hb:b=y
   ·subst hb;rw[Zc] at e
    cases e;exact ok
   ·rw[Zr hb] at e
    exact(I2.hok b u e).stay (fun _ _ _ z=>z) (fun c z=>by rw[Zr (ns c _ z)];exact z) fun c xs z=>by rw[Zr (ns c _ z)];exact z
 exact⟨.ref y,_,I3,rfl,h y dy (nH y fy) (nH dy fd) ne⟩
def Zs9(Fam:Addr->Prop)(m:Str)(sf:Addr->Sp)(E:XK)(ta:TE)(t:TA):TE:=fun σ H Q=>ta σ H fun x H1=>∃a C dx fs,x=.ref a/\H1 a=some (.ins C dx fs)/\Fam C/\fs.lookup m=none/\t σ H1 fun vs H2=>sf C (x::vs) H2 Q E
theorem ZeH{pl:Sem Bool}(he:PE X o ta)(d:Zov X.prog X.w X.K X.mg X.base CX k m ps sf Fam)(hr:Xb k X.A)(hx:JV CX X E)
  (ht:eval (.Call (.Attribute o m apos) [] [] pos) X.env=(do
   let ov<-eval o X.env
   standAt apos.atName
   let (f,first)<-holding [ov] (getMethod ov m pl)
   callWith pos f first (backTo pos (starEach [] X.env)) (backToKw pos (keywordEach [] X.env))):=by rfl):PE X (.Call (.Attribute o m apos) [] [] pos) (Zs9 Fam m sf E ta ZkO):=by
 intro pins s σ H Q I h;refine PySem.W.methodCall_KW (pl:=pl) (thn (he pins s σ H _ I h) fun u s1 ⟨x,H1,I1,rx,a,C,dx,fs,ex,ea,fam,l,q⟩=> ?_) ht;subst ex;obtain rfl:u=Value.ref a:=rx;obtain⟨c,f,fd,hm,hb,F⟩:=d.ex C fam;refine ZkM I1 ea c hm l ?_;exact PySem.W.callWith_K0 (first:=[.ref a]) I1.kIn hm.kp (ZkP (us:=[.ref a]) (vs:=[.ref a]) F hr hb .nil hx I1 (.cons rfl .nil) q)
end
end L3
namespace L3
open PySem PySem.Spec PyProof.Rows L2
theorem ZdO{P:Program}{w:World}{K:PySem.W.Frag}{mg:Str->Option Value}{base:Heap}{CX:CXT}{k:Nat}{f:Addr}{fd:FuncData}{ps:List Str}{sp:Sp}(h:∀vs H Q E,¬sp vs H Q E):Yo P w K mg base CX k f fd ps sp:=
 ⟨fun vs H Q E z=>(h vs H Q E z).elim,fun _ _ _ H _ _ vs Q E _ _ _ _ z=>(h vs H Q E z).elim⟩
structure TyC (K:PySem.W.Frag) (C:Addr):Prop where
 cl:Cls K C
 ha:PySem.W.findIn K (.ref C) "__class__"=some (some (.builtin "object.__class__"))
 hn:PySem.W.specialIn K (.builtin "object.__class__") "__get__"=some (some (.builtin "getset_descriptor.__get__"))
 htk:PySem.W.takesIn K (.builtin "object.__class__")=some true
 hm:PySem.W.mroIn K C (.type "object")=some true
theorem TyC.of{K:PySem.W.Frag}{C a dx:Addr}{H:Hp}{fs:List (Str×V)}(t:TyC K C)(e:H a=some (.ins C dx fs)):Ze1 K H (.ref a) (.ref C):=.ins e t.cl t.ha t.hn t.htk t.hm
theorem Zth{c A B:Prop} [Decidable c](hc:¬c)(h:B):if decide c=true then A else B:=by
 rw[decide_eq_false hc];exact Zal h
theorem ZtU{α:Type}{P:List α->Prop}(h:P []):∀us:List α,us.length=0->P us
 |[],_=>h
theorem JB{α:Type}{P:List α->Prop}(h:∀a,P [a]):∀us:List α,us.length=1->P us
 |[a],_=>h a
theorem Zcm{α:Type}{P:List α->Prop}(h:∀a b,P [a,b]):∀us:List α,us.length=2->P us
 |[a,b],_=>h a b
theorem Zqf{α:Type}{P:List α->Prop}(h:∀a b c,P [a,b,c]):∀us:List α,us.length=3->P us
 |[a,b,c],_=>h a b c
end L3
namespace L3
open PySem PySem.Spec PyProof.Rows L2
theorem Zox:typeLookup (.type "list_reverseiterator") "__len__"=pure none:=by rw[typeLookup_type,builtinLookup_eq_fast];kernel_rfl
theorem Zqg:typeLookup (.type "list_reverseiterator") "__length_hint__"=pure (some (.builtin "list_reverseiterator.__length_hint__")):=by rw[typeLookup_type,builtinLookup_eq_fast];kernel_rfl
theorem Zqh:isSubtype (.type "list_reverseiterator") (.type "list_reverseiterator")=pure true:=by rw[isSubtype_type];kernel_rfl
section
variable {prog:Program} {w:World} {A:Around} {E:Value->Shared->Prop} {s:Shared} {it l S:Addr} {items:Array Value}
theorem Zqi{i:Int}{Q:Bool->Shared->Prop}(x:s.heap.IsRevIter it l i)(q:Q false s):wpAny (model prog w) A (Builtin.List.listLengthHint (.ref it)) Q E s:=by
 have ty:=x.typeIs
 delta Builtin.List.listLengthHint
 refine wpAny_bind (wpAny_specialOf ty Zox (show wpAny _ A (specialOf _ (Str.ofString "__length_hint__")>>=_) _ _ s from wpAny_bind (wpAny_specialOf ty Zqg ?_)));generalize hid:"list_reverseiterator.__length_hint__"=d
 wp_delta
 rw[show splitId d=some ("list_reverseiterator","__length_hint__") by subst hid;decide+kernel]
 subst hid;exact wpAny_bind (wpAny_isInstance ty Zqh (wpAny_pure q))
theorem Zqj{R:Result->Shared->Prop}{c:Nat}{res:Value}(hh:A.handled=none)(x:s.heap.IsRevIter it l ((items.size:Int)-1))(hl:s.heap.IsList l items)(hn:items.size<=sizeLine)(n1:S≠it)(n2:S≠l)(n3:l≠it)
  (hS:s.heap.get? S=some {cls:=.type "list",data:=.seq #[] c})
  (r:∀h' tk out c',(∀b o,b≠S->b≠it->s.heap.get? b=some o->h'.get? b=some o)->h'.get? S=some {cls:=.type "list",data:=.seq out c'}->ItemsOf (fun i v=>items[items.size-1-i]? =some v) out items.size->R (.ok (.ret res)) {s with heap:=h',toks:=tk}):
  wpAny (model prog w) A.in1 (Builtin.List.listExtendWith (.ref S) (.ref it) res) (fun fin s'=>match fin with| .done f=>R (.ok f) s'| .again c'=>c'.quiet=true/\codeAny (model prog w) A c' R s') (fun e s'=>R (.error e) s') s:=by
 have W:=(Walks.listRev (prog:=prog) (w:=w) (A:=A.in1) hh it l n3 items).toS;have off:Builtin.List.listSameRef (.ref S) (.ref it)=false:=by simp[Builtin.List.listSameRef,n1]
 have st0:0<=items.size/\s.heap.IsRevIter it l ((items.size:Int)-1-((0:Nat):Int))/\s.heap.IsList l items:=⟨Nat.zero_le _,by simpa using x,hl⟩
 delta Builtin.List.listExtendWith
 refine wpAny_bind (wpAny_typeOf x.typeIs ?_);rw[if_neg (by rw[off];decide)]
 refine wpAny_bind (wpAny_pyIter_revIter x (wpAny_bind (wpAny_holding (Zqi x ?_))));rw[if_neg (by decide)];refine wpAny_pure ⟨plainId_quiet F.plain_extend_loop _,codeAny_extend_loopS W hn S (by simp[n1,n2]) res _ 0 s #[] c rfl (Nat.zero_le _) st0 hS (ItemsOf.nil _) fun s' out c' mv e1 e2=> ?_⟩;rw[mv.eq_with];exact r _ _ out c' (fun b o b1 b2 e=>mv.heap b o (by simp[b1,b2]) e) e1 e2
theorem Zqk{Q:Value->Shared->Prop}(hh:A.handled=none)(x:s.heap.IsRevIter it l ((items.size:Int)-1))(hl:s.heap.IsList l items)(hn:items.size<=sizeLine)(n3:l≠it)
  (q:∀h' tk out c',(∀b o,b≠it->s.heap.get? b=some o->h'.get? b=some o)->h'.get? s.heap.objs.size=some {cls:=.type "list",data:=.seq out c'}->ItemsOf (fun i v=>items[items.size-1-i]? =some v) out items.size->Q (.ref s.heap.objs.size) {s with heap:=h',toks:=tk}):wpAny (model prog w) A (call (.type "list") [.ref it]) Q E s:=by
 generalize hD:s.heap.objs.size=D at q
 have off:∀b o,s.heap.get? b=some o->D≠b:=fun b o e z=>by
  have y:=Heap.lt_size e;rw[hD,z] at y
  exact Nat.lt_irrefl b y
 obtain⟨ox,ex,_⟩:=id x;obtain⟨ol,el,_⟩:=id hl;have e0:(s.heap.push {cls:=.type "list",data:=.seq #[]}).get? D=some {cls:=.type "list",data:=.seq #[]}:=by subst hD;exact Heap.get?_push_size _ rfl
 have e1:=Heap.get?_update_self (Obj.mapSeq fun _=>(#[]:Array Value)) e0 rfl;have up:∀b o,s.heap.get? b=some o->((s.heap.push {cls:=.type "list",data:=.seq #[]}).update D (Obj.mapSeq fun _=>(#[]:Array Value))).get? b=some o:=fun b o e=>(Heap.get?_update_other _ _ (off b o e)).trans (Heap.get?_push_of_some _ e);refine callType_codes (Q₁:=fun u s1=>u=.ref D/\s1={s with heap:=s.heap.push {cls:=.type "list",data:=.seq #[]}}) F.called_list (F.typeCall_list_1 _) F.entry_list_init (code_list_new _ ⟨congrArg Value.ref hD,rfl⟩) ?_
 rintro _ _ ⟨rfl,rfl⟩;refine⟨⟨_,e0,rfl⟩,F.args_list_init_2 _ _, ?_⟩;show wpAny _ _ ((seqItems? (.ref D)>>=_)>>=fun(old:Array Value)=>updateSeq D (fun _=> #[])>>=fun _=>letGo old.toList.reverse>>=fun _=>Builtin.List.listExtendWith (.ref D) (.ref it) .none) _ _ _;refine wpAny_bind (wpAny_bind (wpAny_seqItems e0 rfl (wpAny_pure (wpAny_bind (wpAny_updateSeq e0 rfl (wpAny_bind (wpAny_letGo ?_)))))));exact Zqj (A:=A.in1) hh (x.at fun o e=>up _ o e) (hl.at fun o e=>up _ o e) hn (off _ _ ex) (off _ _ el) n3 e1 fun h' tk out c' k z1 z2=>⟨rfl,q h' tk out c' (fun b o b1 e=>k b o (Ne.symm (off b o e)) b1 (up b o e)) z1 z2⟩
end
section
variable {X:Cx} {e:PySem.Expr} {te:TE} {p p2 pos pos2:Pos}
theorem Zoy{ys:List V}{us:List Value}{out:Array Value}(r:Yc ys us)(h:ItemsOf (fun i v=>us.toArray[us.toArray.size-1-i]? =some v) out us.toArray.size):Yc ys.reverse out.toList:=by
 have e:out.toList=us.reverse:=by
  refine List.ext_getElem? fun i=> ?_
  by_cases hi:i<us.length
  ·have z:i<out.toList.length:=by rw[Array.length_toList,h.1,List.size_toArray];exact hi
   have y:=h.2 i _ (by rw[<-Array.getElem?_toList,List.getElem?_eq_getElem z]);rw[List.getElem?_eq_getElem z,List.getElem?_reverse hi,<-y];simp
  ·rw[List.getElem?_eq_none (by rw[Array.length_toList,h.1,List.size_toArray];omega),List.getElem?_eq_none (by rw[List.length_reverse];omega)]
 rw[e];exact r.reverse
def Zoz(te:TE)(K:PySem.W.Frag):TE:=fun σ H Q=>te σ H fun v H1=>∃a ys,v=.ref a/\SqL K H1 a ys/\∀l,H1 l=none->Q (.ref l) (upd H1 l (.lst ys.reverse))
theorem Zla(hc:X.calm=true)(g1:Gl X "list")(z1:X.mg "list"=none)(g2:Gl X "reversed")(z2:X.mg "reversed"=none)(ha:PE X e te)
  (s1:starEach [e] X.env=(false,eval e X.env)::starEach [] X.env:=by rfl):PE X (.Call (.Name "list" p) [.Call (.Name "reversed" p2) [e] [] pos2] [] pos) (Zoz te X.K):=by
 intro pins s σ H Q I h;refine wpAny_Call_Name_kw (ZcX I g1 z1 Zq4 ?_);refine PyProof.Rows.callWith_type1 ?_ rfl rfl;show wpAny _ _ (spliced ((false,eval (.Call (.Name "reversed" p2) [e] [] pos2) X.env)::[])) _ _ s;refine Calls.spliced_cons (wpAny_Call_Name_kw (ZcX I g2 z2 ZjT ?_));refine PyProof.Rows.callWith_type1 ?_ s1 rfl;rw[s1];show wpAny _ _ (spliced ((false,eval e X.env)::[])) _ _ s;refine Calls.spliced_cons (thn (ha pins s σ H _ I h) fun u s' ⟨x,H1,I1,r1,a,ys,ex,hq,q⟩=>Calls.spliced_nil ?_)
 subst ex;cases r1;obtain⟨us,r,pl,hz⟩:=I1.list hq;have hlen:=r.length;have hl:=pl.isList;refine call_reversed_list hl (Calls.spliced_nil ?_);have hl1:=hl.at fun o e=>Heap.get?_push_of_some (revObj a ((us.toArray.size:Int)-1)) e
 have na:a≠s'.heap.objs.size:=by obtain⟨o,e,_⟩:=hl;exact Nat.ne_of_lt (Heap.lt_size e)
 refine Zqk (I1.ok.hd hc) ⟨_,Heap.get?_push_size _ rfl,rfl,rfl⟩ hl1 (by simp only [List.size_toArray];omega) na fun h' tk out c k e1 e2=> ?_
 have kp:∀b o,s'.heap.get? b=some o->h'.get? b=some o:=fun b o e=>k b o (Nat.ne_of_lt (Heap.lt_size e)) (Heap.get?_push_of_some _ e);refine⟨.ref _,_,I1.laid (o:=.lst ys.reverse) (t':=tk) kp (by show s'.heap.objs.size<=(s'.heap.push _).objs.size;rw[size_push'];omega) ⟨by rw[List.length_reverse];exact hz,out.toList,c,Zoy r e2,e1⟩,rfl,q _ (I1.hok.fresh (by rw[size_push'];omega))⟩
end
end L3
namespace L3
open PySem PySem.Spec PyProof.Rows L2 PySem.W PySem.Calls
section
variable {X:Cx}
theorem Zgg{e:PySem.Expr}{te:TE}{pos:Pos}(he:PE X e te):PF1 X (.FormattedValue e 114 none pos) (fun σ H Q=>te σ H fun v H1=>∃y,v=.str y/\y.length<=100000/\(∀c∈y.cps.toList,c<16^8)/\Q (reprText y) H1):=by
 intro pins s σ H Q I h;refine wpAny_FormattedValue_repr (thn (he pins s σ H _ I h) fun v s1 ⟨x,H1,I1,r1,q1⟩=> ?_);obtain⟨y,rfl,hy,hc,q⟩:=q1;obtain⟨t,rfl⟩:=r1;have l:=StrLaws.reprText_len y hc;have z:(reprText y).length<=sizeLine:=by rw[sizeLine_eq];omega
 exact wpAny_pyReprObj_str (formatField_str (fun t' tk=>⟨_,t',H1,rfl,I1.tok _,q⟩) z) z
end
def Zac(o:Obj):Option Value:=match o.data with
 | .fields vs=>vs[2]?
 |_=>none
def ChL(h:Heap):List (Addr×Obj)->Value->Prop
 |[],v=>v=.none
 |(a,o)::r,v=>v=.ref a/\h.get? a=some o/\∃x,Zac o=some x/\ChL h r x
def Chn(H:Hp)(h:Heap)(v:Value):Prop:=∃l,ChL h l v/\∀p∈l,H p.1=none
def Kd{α:Type}:Sem α->Prop
 | .pure _=>True
 | .raise _=>True
 | .unsupported _=>True
 | .finish _=>True
 | .rule _ k=>Kd (k ())
 | .at _ k=>Kd (k ())
 | .point _ k=>Kd (k ())
 | .load _ _ k=>∀o,Kd (k o)
 | .loadIfAlive _ k=>∀o,Kd (k o)
 | .update _ _ f k=>(∀o,(f o).dict=o.dict/\Zac (f o)=Zac o/\(f o).isFreed=o.isFreed)/\Kd (k ())
 | .alloc _ k=>∀a,Kd (k a)
 | .fresh k=>∀t,Kd (k t)
 | .ask k=>∀t,Kd (k t)
 | .stack k=>∀l,Kd (k l)
 |_=>False
def DK(h h':Heap):Prop:=∀b o,h.get? b=some o->∃o',h'.get? b=some o'/\o'.dict=o.dict/\Zac o'=Zac o
theorem DK.trans{h1 h2 h3:Heap}(x:DK h1 h2)(y:DK h2 h3):DK h1 h3:=fun b o e=>
 let ⟨o1,e1,d1⟩:=x b o e
 let ⟨o2,e2,d2⟩:=y b o1 e1
 ⟨o2,e2,d2.1.trans d1.1,d2.2.trans d1.2⟩
theorem DK.upd{h:Heap}{a:Addr}{f:Obj->Obj}(hf:∀o,(f o).dict=o.dict/\Zac (f o)=Zac o/\(f o).isFreed=o.isFreed):DK h (h.update a f):=fun b o e=>by
 by_cases q:a=b
 ·subst q;exact⟨f o,Heap.get?_update_self f e ((hf o).2.2.trans (Heap.get?_some_iff.mp e).2),(hf o).1,(hf o).2.1⟩
 ·exact⟨o,(Heap.get?_update_other h f q).trans e,rfl,rfl⟩
theorem Kd.wp{α:Type}{M:Model}{Γ:PySem.Ctx}{Q:α->Pos->Shared->Prop}{E:Value->Pos->Shared->Prop}{h0:Heap}(t:Sem α):∀(p:Pos) (s:Shared),Kd t->DK h0 s.heap->Sem.wp M Γ t Q E p s->
  Sem.wp M Γ t (fun a p' s'=>Q a p' s'/\DK h0 s'.heap) (fun e p' s'=>E e p' s'/\DK h0 s'.heap) p s:=by
 induction t with
 |pure a=>exact fun p s _ d w=>⟨w,d⟩
 |raise e=>exact fun p s _ d w=>⟨w,d⟩
 |unsupported|finish=>exact fun p s _ _ w=>w
 |rule _ k ih|point _ k ih=>exact fun p s c d w=>ih () p s c d w
 |«at» p' k ih=>exact fun p s c d w=>ih () p' s c d w
 |load a _ k ih=>exact fun p s c d ⟨o,ho,w⟩=>⟨o,ho,ih o p s (c o) d w⟩
 |loadIfAlive a k ih=>exact fun p s c d w=>ih _ p s (c _) d w
 |update a _ f k ih=>exact fun p s c d ⟨ha,w⟩=>⟨ha,ih () p _ c.2 (d.trans (DK.upd c.1)) w⟩
 |alloc o k ih=>exact fun p s c d w=>ih _ p _ (c _) (d.trans fun b o' e=>⟨o',Heap.get?_push_of_some o e,rfl,rfl⟩) w
 |fresh k ih=>exact fun p s c d w=>ih _ p _ (c _) d w
 |ask k ih=>exact fun p s c d w=>ih _ p s (c _) d w
 |stack k ih=>exact fun p s c d w=>ih _ p s (c _) d w
 |_=>exact fun p s c=>c.elim
theorem Kd.any{α:Type}{M:Model}{A:Around}{Q:α->Shared->Prop}{E:Value->Shared->Prop}{s:Shared}{t:Sem α}(c:Kd t)(h:wpAny M A t Q E s):wpAny M A t (fun a s'=>Q a s'/\DK s.heap s'.heap) (fun e s'=>E e s'/\DK s.heap s'.heap) s:=
 fun Γ p hΓ=>Kd.wp t p s c (fun _ o e=>⟨o,e,rfl,rfl⟩) (h Γ p hΓ)
theorem Kd.bind{α β:Type}{k:α->Sem β}(t:Sem α):Kd t->(∀a,Kd (k a))->Kd (t>>=k):=by
 show Kd t->(∀a,Kd (k a))->Kd (Sem.bind t k)
 induction t with
 |pure a=>exact fun _ z=>z a
 |raise|unsupported|finish=>exact fun _ _=>trivial
 |rule _ k ih|point _ k ih|«at» _ k ih=>exact fun c z=>ih () c z
 |load _ _ k ih|loadIfAlive _ k ih|alloc _ k ih|fresh k ih|ask k ih|stack k ih=>exact fun c z o=>ih o (c o) z
 |update _ _ f k ih=>exact fun c z=>⟨c.1,ih () c.2 z⟩
 |_=>exact fun c=>c.elim
theorem ZiU{α:Type}{a:Addr}{k:Obj->Sem α}(h:∀o,Kd (k o)):Kd (load a>>=k):=Kd.bind _ (fun _=>trivial) h
theorem ZeI(v:Value)(i:Nat):Kd (field v i):=by
 unfold field fieldsOf;refine Kd.bind _ ?_ fun x=>by split<;>exact trivial
 cases v<;>first|exact trivial|(refine ZiU fun o=> ?_;split<;>exact trivial)
theorem Zsa{i:Nat}(x:Value)(hi:i≠2)(o:Obj):(Obj.mapFields (·.setIfInBounds i x) o).dict=o.dict/\Zac (Obj.mapFields (·.setIfInBounds i x) o)=Zac o/\(Obj.mapFields (·.setIfInBounds i x) o).isFreed=o.isFreed:=by
 obtain⟨c,d,y,l⟩:=o;cases y with
 |fields vs=>exact⟨rfl,Array.getElem?_setIfInBounds_ne hi,rfl⟩
 |_=>exact⟨rfl,rfl,rfl⟩
theorem Zlb(v:Value){i:Nat}(hi:i≠2)(x:Value):Kd (setField v i x):=by
 unfold setField updateField;cases v<;>first|exact trivial|skip
 refine ZiU fun o=> ?_
 split
 ·split
  ·exact⟨Zsa _ hi,trivial⟩
  ·exact trivial
 ·exact trivial
theorem JW(e:Value)(f:Option Addr):Kd (setFlight e f):=by
 unfold setFlight;refine Kd.bind _ (ZeI _ _) fun tb=> ?_
 split
 ·exact Zlb _ (by decide) _
 ·exact trivial
theorem ZoA(a b c d e:Value)(l:List Value):Kd (EntryCells.newEntry a b c d e l):=by
 unfold EntryCells.newEntry newFields newObj newObjAsIs
 dsimp only
 generalize [a,b,c,d,e]++_=vs
 split
 ·exact trivial
 ·exact fun _=>trivial
theorem ZmY(env:Env)(outer:List Env):Kd (behindIsImport env outer):=by
 unfold behindIsImport
 split
 ·exact trivial
 ·split
  ·exact trivial
  ·exact Kd.bind _ (ZeI _ _) fun _=>trivial
theorem Zql(env:Env)(b:Bool):∀outer:List Env,Kd (keptBack env b outer)
 |[]=>by
  show Kd (if(env.scope.isGenerator||env.scope.isCoroutine)=true then pure Value.none else _)
  split
  ·exact trivial
  ·exact fun _=>trivial
 |_::_=>trivial
theorem ZjX:∀l:List Env,Kd (readyFrames l)
 |[]=>trivial
 |env::outer=>by
  unfold readyFrames
  split
  ·refine ZiU fun o=> ?_
   split
   ·exact trivial
   ·exact Kd.bind _ (ZmY _ _) fun _=>Kd.bind _ (Zql _ _ _) fun _=>⟨fun o=>⟨rfl,rfl,by obtain⟨c,d,x,l⟩:=o;cases x<;>rfl⟩,ZjX outer⟩
  ·exact trivial
theorem ZoB(env:Env):Kd (PySem.frameOf env):=by
 unfold PySem.frameOf;refine Kd.bind _ (fun _=>trivial) fun l=> ?_;refine Kd.bind _ ?_ fun x=>by split<;>exact trivial
 cases l.dropWhile (·.frame !=env.frame) with
 |nil=>exact trivial
 |cons a r=>exact Kd.bind _ (ZjX _) fun _=>trivial
theorem ZoC(f:Addr)(b:Bool):Kd (entryPlaceOf f b):=by
 unfold entryPlaceOf;refine Kd.bind _ (fun _=>trivial) fun l=> ?_
 split<;>exact trivial
theorem Zgh(e:Value)(env:Env):Kd (noteFrame e env):=by
 unfold noteFrame;have rest:∀(f:Addr) (head:Value),Kd (do let a<-PySem.frameOf env;let pl<-entryPlaceOf f (head !=.none);let b<-EntryCells.newEntry head a .none (rawInt f) .none pl;setField e 1 b):=fun f head=>
  Kd.bind _ (ZoB _) fun _=>Kd.bind _ (ZoC _ _) fun _=>Kd.bind _ (ZoA _ _ _ _ _ _) fun _=>Zlb _ (by decide) _
 split
 ·refine Kd.bind _ (ZeI _ _) fun head=> ?_
  dsimp only
  split
  ·refine Kd.bind _ (ZeI _ _) fun x=> ?_
   split
   ·exact trivial
   ·exact Kd.bind _ (Zlb _ (by decide) _) fun _=>rest _ _
  ·exact rest _ _
 ·exact trivial
theorem ZaT(env:Env)(e:Value):Kd (leaving env e):=Kd.bind _ (Zgh _ _) fun _=>JW _ _
structure Kp (fs:List Addr) (H H':Hp) (h h' B:Heap):Prop where
 keep:∀b o,h.get? b=some o->H b=none->b∉fs->B.get? b=some o/\H' b=none
 slot:∀b o,h.get? b=some o->H b=none->b∈fs->(∃sl,h'.get? b=some {o with slots:=sl})/\H' b=none
 there:∀b o,h.get? b=some o->b∉fs->∃o',B.get? b=some o'
 tups:∀b xs,H b=some (.tup xs)->H' b=some (.tup xs)
 frzs:∀b o u,H b=some (.frz o u)->H' b=some (.frz o u)
 tbls:∀b ps,H b=some (.tbl ps)->∃more,H' b=some (.tbl (ps++more))
def CXr(P:Program)(w:World):CXT:=fun outer H s E ev s'=>∃(e D:Addr) (a0:Value) (H':Hp) (B:Heap),ev=.ref e/\s'.os=s.os/\AllBare s'.gens/\Heap.FlyingW B outer e (.ref D) a0 s'.heap/\
 Kp (frs outer) H H' s.heap s'.heap B/\HOk P w H' B/\∃d cx,(∃ob,s'.heap.get? e=some ob/\ob.dict=d/\Zac ob=some cx)/\Chn H' B cx/\E (.ref D) d H'
section
variable {P:Program} {w:World} {K:Frag} {mg:Str->Option Value} {base:Heap} {N:List Str} {qual:Str} {scope:Scope} {f:Addr} {cdv:Value} {A:Around} {outer:List Env} {s₀:Shared} {H₀:Hp} {E:XK}
theorem ZiV{pins:List (Addr×Obj)}{σ:L2.St}{H:Hp}{s:Shared}{h':Heap}{e D:Addr}{us:List Value}(I:L2.Inv (ZW (CXr P w) P w K mg base N qual scope f cdv A outer s₀ H₀ E) pins σ H s)
  (hx:Heap.MadeExcOf s.heap h' e (.ref D) us)(q:E (.ref D) none H):(ZW (CXr P w) P w K mg base N qual scope f cdv A outer s₀ H₀ E).xe (.ref e) {s with heap:=h'}:=by
 have neL:∀b o,s₀.heap.get? b=some o->b≠s₀.heap.objs.size:=fun b o e=>Nat.ne_of_lt (Heap.lt_size e);have nst:∀b o,s₀.heap.get? b=some o->b∉frs outer->b∉frs (ZW (CXr P w) P w K mg base N qual scope f cdv A outer s₀ H₀ E).stack:=fun b o eb nb hb=>by
  rcases List.mem_cons.mp (I.stkSub b hb) with z|z
  ·exact neL b o eb z
  ·exact nb z
 have hin:∀env∈(ZW (CXr P w) P w K mg base N qual scope f cdv A outer s₀ H₀ E).stack,∀a,env.frame=some a->a∈frs (ZW (CXr P w) P w K mg base N qual scope f cdv A outer s₀ H₀ E).stack:=fun env he a ha=>List.mem_filterMap.mpr ⟨env,he,ha⟩;refine wpAny_mono (Kd.any (ZaT _ _) (wpAny_leaves_madeW (Q:=fun _ s2=>∃h'' t,s2={s with heap:=h''}/\Heap.FlyingW (hideAll s.heap (frs (ZW (CXr P w) P w K mg base N qual scope f cdv A outer s₀ H₀ E).stack)) outer e (.ref D) (.ref t) h''/\Heap.UpToSlots h' h'') (base:=hideAll s.heap (frs (ZW (CXr P w) P w K mg base N qual scope f cdv A outer s₀ H₀ E).stack)) (h:=s.heap) I.ok.frames rfl (fun b o z=>of_hideAll _ z) (funFrames_hide I.stack hin) hx fun h'' t fl tup tn ups=>⟨h'',t,rfl,fl,ups⟩)) (fun _ s2 z=> ?_) fun _ _ z=>z.1
 obtain⟨⟨h'',t,rfl,fl,ups⟩,dk⟩:=z;have dn:∃ob,h''.get? e=some ob/\ob.dict=none/\Zac ob=some .none:=by
  obtain⟨t',e1,_⟩:=hx.there;exact dk e _ e1
 refine⟨e,D,_,H,_,rfl,I.os,I.bare,fl,⟨fun b o eb nb hb=>⟨hideAll_get _ (I.base.keep b o eb nb hb (by intro z;cases z)) (nst b o eb hb),I.base.free b o eb nb (by intro z;cases z)⟩,fun b o eb nb hb=> ?_,fun b o eb hb=> ?_,I.base.tups,I.base.frzs,I.base.tbls⟩,
  fun b u eb=>(I.hok b u eb).stay (fun c v hc z=>hideAll_get _ z fun hm=> ?_) (fun _ z=>z) (fun _ _ z=>z),none,.none,dn,⟨[],rfl,fun _ z=>nomatch z⟩,q⟩
 ·obtain⟨sl,e1⟩:=I.base.slot b o eb nb hb (by intro z;cases z)
  obtain⟨_,o2,e2,hd⟩:=I.ok.funs.mem hb;have e2:s₀.heap.get? b=some o2:=e2;rw[eb] at e2
  cases e2;obtain⟨sl2,e3⟩:=ups b _ (hx.keeps b _ e1) hd;exact⟨⟨sl2,e3⟩,I.base.free b o eb nb (by intro z;cases z)⟩
 ·obtain⟨o',e1⟩:=I.base.there b o eb (by intro z;cases z)
  exact⟨o',hideAll_get _ e1 (nst b o eb hb)⟩
 ·have nn:=I.stkFree c hm;rcases hc with rfl|hc
  ·rw[nn] at eb;cases eb
  ·rw[nn] at hc;cases hc
theorem YK:JV (CXr P w) (ZW (CXr P w) P w K mg base N qual scope f cdv A outer s₀ H₀ E) E:=by
 intro pins σ H s ev s' I hcx;obtain⟨e,D,a0,H',B,rfl,os,bare,fl,kp,hok,d,cx,⟨ob,eb0,db0,fb0⟩,ch,q⟩:=hcx;have neL:∀b o,s₀.heap.get? b=some o->b≠s₀.heap.objs.size:=fun b o e=>Nat.ne_of_lt (Heap.lt_size e);have nst:∀b o,s₀.heap.get? b=some o->b∉frs outer->b∉frs (ZW (CXr P w) P w K mg base N qual scope f cdv A outer s₀ H₀ E).stack:=fun b o eb nb hb=>by
  rcases List.mem_cons.mp (I.stkSub b hb) with z|z
  ·exact neL b o eb z
  ·exact nb z
 have nex:∀b,b∉(ZW (CXr P w) P w K mg base N qual scope f cdv A outer s₀ H₀ E).ex:=fun b z=>by cases z
 have sub:∀b∈frs outer,b∈frs (ZW (CXr P w) P w K mg base N qual scope f cdv A outer s₀ H₀ E).stack:=fun b hb=>List.mem_cons_of_mem _ hb;refine wpAny_mono (Kd.any (ZaT _ _) (wpAny_leaves_onW (Q:=fun _ s2=>∃h'',s2={s' with heap:=h''}/\Heap.FlyingW B outer e (.ref D) a0 h''/\s'.heap.UpToSlots h'') I.ok.frames rfl fl fun h'' fl2 ups=>⟨h'',rfl,fl2,ups⟩)) (fun _ s2 z=> ?_) fun _ _ z=>z.1;obtain⟨⟨h'',rfl,fl2,ups⟩,dk⟩:=z
 obtain⟨ob2,eb2,db2,fb2⟩:=dk e ob eb0;refine⟨e,D,a0,H',B,rfl,os.trans I.os,bare,fl2,⟨fun b o eb nb hb=> ?_,fun b o eb nb hb=> ?_,fun b o eb hb=> ?_,fun b xs z=>kp.tups b xs (I.base.tups b xs z),fun b o u z=>kp.frzs b o u (I.base.frzs b o u z),fun b ps z=> ?_⟩,hok,d,cx,⟨ob2,eb2,db2.trans db0,fb2.trans fb0⟩,ch,q⟩
 ·exact kp.keep b o (I.base.keep b o eb nb hb (nex b)) (I.base.free b o eb nb (nex b)) (nst b o eb hb)
 ·obtain⟨sl,e1⟩:=I.base.slot b o eb nb hb (nex b);obtain⟨⟨sl2,e2⟩,n2⟩:=kp.slot b _ e1 (I.base.free b o eb nb (nex b)) (sub b hb);obtain⟨_,o2,e3,hd⟩:=I.ok.funs.mem hb;have e3:s₀.heap.get? b=some o2:=e3;rw[eb] at e3
  cases e3;obtain⟨sl3,e4⟩:=ups b _ e2 hd;exact⟨⟨sl3,e4⟩,n2⟩
 ·obtain⟨o',e1⟩:=I.base.there b o eb (nex b);exact kp.there b o' e1 (nst b o eb hb)
 ·obtain⟨m1,e1⟩:=I.base.tbls b ps z;obtain⟨m2,e2⟩:=kp.tbls b _ e1;exact⟨m1++m2,by rw[e2,Array.append_assoc]⟩
end
theorem okX{P:Program}{w:World}{K:Frag}{mg:Str->Option Value}{base:Heap}{x qual:Str}{st:Stmt}{f:Addr}{fd:FuncData}{N ps:List Str}{k:Nat}{sp:Sp}(F:Fun K x qual st f fd)(S:ZQ N ps (ZF st))(len:∀vs H Q E,sp vs H Q E->vs.length=ps.length)
  (hbody:∀(cdv:Value) (A:Around) (outer:List Env) (s:Shared) (H:Hp) (vs:List V) (Q:VK) (E:XK),Xb k (A.deeper (envOfC qual (ZF st) s.heap.objs.size f cdv))->sp vs H Q E->
   ∃t,PSs (ZW (CXr P w) P w K mg base N qual (ZF st) f cdv A outer s H E) (ZaB st) t/\t {nx:=fun _ H'=>Q .non H',rt:=Q} (ZcP N vs) H):Yo P w K mg base (CXr P w) (k+1) f fd ps sp:=by
 obtain⟨oc,od,kV,doc,pm,an,cdv,ct,osl,rfl,lk,hcd⟩:=F.ex;exact Zrc lk hcd S len fun A outer s H vs Q E hr hsp=>hbody cdv A outer s H vs Q E hr hsp
abbrev ZeJ(x:Str)(D:Addr)(mg:Str->Option Value)(base:Heap):Prop:=OwnCls x D [.type "ValueError",.type "Exception",.type "BaseException",.type "object"] "ValueError.__new__" mg base
def ZoD(X:Cx)(E:XK):Prop:=∀(pins:List (Addr×Obj)) (σ:L2.St) (H:Hp) (s:Shared) (h':Heap) (e D:Addr) (us:List Value),L2.Inv X pins σ H s->Heap.MadeExcOf s.heap h' e (.ref D) us->E (.ref D) none H->X.xe (.ref e) {s with heap:=h'}
theorem JC{P:Program}{w:World}{K:Frag}{mg:Str->Option Value}{base:Heap}{N:List Str}{qual:Str}{scope:Scope}{f:Addr}{cdv:Value}{A:Around}{outer:List Env}{s₀:Shared}{H₀:Hp}{E:XK}:
  ZoD (ZW (CXr P w) P w K mg base N qual scope f cdv A outer s₀ H₀ E) E:=fun _ _ _ _ _ _ _ _ I hx q=>ZiV I hx q
def Zsb(D:Addr)(E:XK)(t:TA):TS:=fun _ σ H=>t σ H fun vs H1=>vs.length<=sizeLine/\E (.ref D) none H1
theorem ZaU{X:Cx}{E:XK}{D:Addr}{x:Str}{np cpos pos:Pos}{e:PySem.Expr}{es:List PySem.Expr}{t:TA}(hr:ZoD X E)(O:ZeJ x D X.mg X.base)(hc:X.calm=true)(hg:Gl X x)(ha:PA X (e::es) t)
  (hdb:(x==("__debug__":Str))=false:=by decide)(hs:starEach (e::es) X.env=(false,eval e X.env)::starEach es X.env:=by rfl)(hpl:(backTo cpos (starEach es X.env)).any (·.1)=false:=by rfl):PS X (.Raise (some (.Call (.Name x np) (e::es) [] cpos)) none pos) (Zsb D E t):=by
 intro pins s σ H D' I h;obtain⟨bm,_,_,_,_,_,_,_,_,_,_,_,_,_,_,_,_,at_,names,plain,above⟩:=O.obj;have pl:(backTo cpos (starEach (e::es) X.env)).any (·.1)=false:=by rw[hs];exact hpl
 have go:=ha cpos pins s σ H _ I h;rw[hs] at go
 refine' wpAny_Raise_call_subT PySem.F.excBase_ValueError (above.hasType PySem.F.excBase_ValueError.hasBase) (I.ok.hd hc) pl plain (YZ I hg O.bound ⟨rfl, ?go⟩ hdb)
 case go=>
  rw[hs];refine Calls.evalArgs_plain (thn go fun us s1 z=> ?_);obtain⟨vs,H1,I1,r1,hz,q1⟩:=z;exact⟨rfl,r1.length▸hz,I1.bk _ _ at_,names.keeps I1.bk,above.keeps I1.bk,fun h' ex mk=>hr pins σ H1 s1 h' ex D us I1 mk q1⟩
end L3
namespace L3
open PySem PySem.Spec PyProof.Rows L2 PySem.W PySem.Calls
section
variable {P:Program} {w:World} {K:Frag} {mg:Str->Option Value} {base:Heap} {N:List Str} {qual:Str} {scope:Scope} {f:Addr} {cdv:Value} {A:Around} {outer:List Env} {s₀:Shared} {H₀:Hp} {E:XK} {CX:CXT}
theorem Zlc{pins:List (Addr×Obj)}{σ:L2.St}{H H':Hp}{s s':Shared}{B h5:Heap}(I:L2.Inv (ZW CX P w K mg base N qual scope f cdv A outer s₀ H₀ E) pins σ H s)(os:s'.os=s.os)(bare:AllBare s'.gens)(kp:Kp (frs (ZW CX P w K mg base N qual scope f cdv A outer s₀ H₀ E).stack) H H' s.heap s'.heap B)(hok:HOk P w H' B)(st:B.StaysIn h5)(sm:s'.heap.UpToSlots h5){tk:Nat}:
  L2.Inv (ZW CX P w K mg base N qual scope f cdv A outer s₀ H₀ E) pins σ H' {s' with heap:=h5,toks:=tk}:=by
 have dat:∀b∈frs (ZW CX P w K mg base N qual scope f cdv A outer s₀ H₀ E).stack,∀o,s.heap.get? b=some o->∀vs,o.data≠.fields vs:=fun b hb o eb=>by
  obtain⟨_,o2,e2,hd⟩:=I.stack.mem hb;rw[eb] at e2
  cases e2;exact hd
 have slots:∀b o,s.heap.get? b=some o->H b=none->b∈frs (ZW CX P w K mg base N qual scope f cdv A outer s₀ H₀ E).stack->∃sl,h5.get? b=some {o with slots:=sl}:=fun b o eb nb hb=>by
  obtain⟨⟨sl,e1⟩,_⟩:=kp.slot b o eb nb hb;obtain⟨sl2,e2⟩:=sm b _ e1 (dat b hb o eb);exact⟨sl2,e2⟩
 refine I.call' (s':={s' with heap:=h5,toks:=tk}) (ch:=[]) os ⟨fun b o eb nb hb _=>st _ _ (kp.keep b o eb nb hb).1,fun b o eb nb hb _=>slots b o eb nb hb,fun b o eb nb _=> ?_,fun b o eb _=> ?_,kp.tups,kp.frzs,kp.tbls⟩ (hok.kept st) bare fun b hb=>nomatch hb
 ·by_cases hb:b∈frs (ZW CX P w K mg base N qual scope f cdv A outer s₀ H₀ E).stack
  ·exact(kp.slot b o eb nb hb).2
  ·exact(kp.keep b o eb nb hb).2
 ·by_cases hb:b∈frs (ZW CX P w K mg base N qual scope f cdv A outer s₀ H₀ E).stack
  ·obtain⟨sl,e1⟩:=slots b o eb (I.stkFree b hb) hb;exact⟨_,e1⟩
  ·obtain⟨o',e1⟩:=kp.there b o eb hb;exact⟨o',st _ _ e1⟩
theorem Zsc{pins:List (Addr×Obj)}{σ:L2.St}{H:Hp}{s s':Shared}{ev:Value}{E':XK}{Q:Unit->Shared->Prop}{EE:Value->Shared->Prop}(I:L2.Inv (ZW CX P w K mg base N qual scope f cdv A outer s₀ H₀ E) pins σ H s)(hcx:CXr P w (ZW CX P w K mg base N qual scope f cdv A outer s₀ H₀ E).stack H s E' ev s')
  (k:∀(e D:Addr) (a0:Value) (H':Hp) (B h':Heap) (d:Option Addr),ev=.ref e->(∀(h5:Heap) (tk:Nat),B.StaysIn h5->h'.UpToSlots h5->L2.Inv (ZW CX P w K mg base N qual scope f cdv A outer s₀ H₀ E) pins σ H' {s' with heap:=h5,toks:=tk})->Heap.FlyingW B (ZW CX P w K mg base N qual scope f cdv A outer s₀ H₀ E).stack e (.ref D) a0 h'->HOk P w H' B->s.heap.get? e=none->(∃ob cx,h'.get? e=some ob/\ob.dict=d/\Zac ob=some cx/\Chn H' B cx)->E' (.ref D) d H'->Q () {s' with heap:=h'}):
  wpAny (model P w) (ZW CX P w K mg base N qual scope f cdv A outer s₀ H₀ E).A (noteFrame ev (ZW CX P w K mg base N qual scope f cdv A outer s₀ H₀ E).env) (fun _ s2=>wpAny (model P w) (ZW CX P w K mg base N qual scope f cdv A outer s₀ H₀ E).A (setFlight ev none) Q EE s2) EE s':=by
 obtain⟨e,D,a0,H',B,rfl,os,bare,fl,kp,hok,d,cx,⟨ob,eb,db,fb⟩,ch,q⟩:=hcx;have fresh:s.heap.get? e=none:=by
  cases z:s.heap.get? e with
  |none=>rfl
  |some o=>
   by_cases hb:e∈frs (ZW CX P w K mg base N qual scope f cdv A outer s₀ H₀ E).stack
   ·obtain⟨_,o2,e2,hd⟩:=fl.2.2.1.mem hb;obtain⟨oe,vs,e3,_,e4,_⟩:=fl.first;rw[e2] at e3
    cases e3;exact absurd e4 (hd vs)
   ·obtain⟨o',e1⟩:=kp.there e o z hb;have n:=fl.2.1;rw[e1] at n
    cases n
 refine wpAny_mono (Kd.any (Zgh _ _) (wpAny_looks_onW (Q:=fun _ s2=>∃h4,s2={s' with heap:=h4}/\Heap.HeldW B (ZW CX P w K mg base N qual scope f cdv A outer s₀ H₀ E).stack e (.ref D) a0 _ h4/\s'.heap.UpToSlots h4) I.ok.frames rfl fl fun h4 held sm4=>⟨h4,rfl,held,sm4⟩)) (fun _ s2 z=> ?_) fun _ _ z=>z.1;obtain⟨⟨h4,rfl,held,sm4⟩,dk4⟩:=z;refine wpAny_mono (Kd.any (JW _ _) (wpAny_landsW (Q:=fun _ s3=>∃h5,s3={s' with heap:=h5}/\Heap.FlyingW B (ZW CX P w K mg base N qual scope f cdv A outer s₀ H₀ E).stack e (.ref D) a0 h5/\h4.UpToSlots h5) held fun h5 fl5 sm5=>⟨h5,rfl,fl5,sm5⟩)) (fun _ s3 z=> ?_) fun _ _ z=>z.1
 obtain⟨⟨h5,rfl,fl5,sm5⟩,dk5⟩:=z;obtain⟨ob4,eb4,db4,fb4⟩:=dk4 e ob eb;obtain⟨ob5,eb5,db5,fb5⟩:=dk5 e ob4 eb4;exact k e D a0 H' B h5 d rfl (fun h6 tk st sm6=>Zlc I os bare kp hok st ((sm4.trans sm5).trans sm6)) fl5 hok fresh ⟨ob5,cx,eb5,(db5.trans db4).trans db,(fb5.trans fb4).trans fb,ch⟩ q
end
section
variable {X:Cx} {pins:List (Addr×Obj)} {σ:L2.St} {H:Hp} {s:Shared}
abbrev Jp(X:Cx)(e:Value)(E:Value->Shared->Prop):Cx:={X with A:=X.A.mark (some e),calm:=false,xe:=E}
theorem Zqm{e:Value}{E:Value->Shared->Prop}(o:X.Ok):(Jp X e E).Ok:=⟨o.mod,o.kind,o.glob,o.blt,o.above,o.inj,o.has,o.cab,(fun z=>nomatch z),o.frames,o.stk,o.exf,o.bs,o.bsz,o.noex,o.exfs,o.funs,o.frf⟩
theorem Zbn{e:Value}{E:Value->Shared->Prop}(I:L2.Inv X pins σ H s):L2.Inv (Jp X e E) pins σ H s:=⟨Zqm I.ok,I.os,I.bare,I.base,I.loc,I.cell,I.free,I.freeC,I.pin,I.hok,I.len⟩
theorem Zc8{e:Value}{E:Value->Shared->Prop}(o:X.Ok)(I:L2.Inv (Jp X e E) pins σ H s):L2.Inv X pins σ H s:=⟨o,I.os,I.bare,I.base,I.loc,I.cell,I.free,I.freeC,I.pin,I.hok,I.len⟩
theorem Zld{M:Model}{h:Heap}{e:Addr}{c:Value}(x:∃ob,h.get? e=some ob/\ob.cls=c):Looks M h (typeOf (.ref e)) c:=by
 obtain⟨ob,e1,rfl⟩:=x;exact(Looks.ld e1).andThen .now
end
theorem ZdP{X:Cx}{pins:List (Addr×Obj)}{σ:L2.St}{H:Hp}{s:Shared}{M:Model}{A:Around}{E:Value->Shared->Prop}{i:Nat}{x:Str}{pos:Pos}{Q:Unit->Shared->Prop}(I:L2.Inv X pins σ H s)(hN:X.N.Nodup)(hi:X.N[i]? =some x)(hk:X.env.scope.names.lookup x=some .local)
  (h:∀s',L2.Inv X pins (σ.set i none) H s'->Q () s'):wpAny M A (do bindName X.env x .none;unbindBehindTheSuite X.env x pos) Q E s:=by
 obtain⟨m,hn,hl⟩:=id I.loc;refine wpAny_nameGoes_keeps hk hn (by rw[I.ok.kind];rfl) fun h' v hn' sb=>h _ ?_
 have same:∀b,b≠X.env.locals->h'.get? b=s.heap.get? b:=fun b n=>sb.2 b n;have old:∀b o,X.s₀.heap.get? b=some o->h'.get? b=s.heap.get? b:=fun b o e=>same b (Nat.ne_of_lt (Nat.lt_of_lt_of_le (Heap.lt_size e) I.ok.above));refine⟨I.ok,I.os,I.bare,⟨?k, ?sl,I.base.free, ?th,I.base.tups,I.base.frzs,I.base.tbls⟩,⟨_,hn', ?lc⟩, ?ce,I.free,I.freeC, ?pn, ?ho,by simpa using I.len⟩
 case k=>exact fun b o e n f y=>(old b o e).trans (I.base.keep b o e n f y)
 case sl=>exact fun b o e n f y=>(I.base.slot b o e n f y).elim fun z q=>⟨z,(old b o e).trans q⟩
 case th=>exact fun b o e y=>(I.base.there b o e y).elim fun z q=>⟨z,(old b o e).trans q⟩
 case pn=>exact fun p hp=>let ⟨e,n,ne,r⟩:=I.pin p hp;⟨(same p.1 ne).trans e,n,ne,r⟩
 case ce=>exact fun y c e=>(I.cell y c e).elim fun z q=>⟨z,q.sameBut sb (I.cne y c e)⟩
 case ho=>
  refine fun b o e=>(I.hok b o e).stay (fun c u hc q=>(same c fun z=> ?_).trans q) (fun _ q=>q) fun _ _ q=>q;have fr:=I.free;rcases hc with rfl|hc
  ·rw[z,fr] at e;cases e
  ·rw[z,fr] at hc;cases hc
 case lc=>
  intro j y v' e1 e2 e3;have ji:j≠i:=fun z=>by
   subst z;have lt:j<σ.length:=by rw[I.len];exact(List.getElem?_eq_some_iff.mp hi).1
   rw[List.getElem?_set_self lt] at e2
   cases e2
  rw[List.getElem?_set_ne (Ne.symm ji)] at e2
  obtain⟨u,r,q⟩:=hl j y v' e1 e2 e3;refine⟨u,r,q.imp (fun⟨k1,k2⟩=>⟨k1, ?_⟩) fun⟨k1,c,k2,k3⟩=>⟨k1,c,k2,k3.sameBut sb (I.cne y c k2)⟩⟩;have yx:y≠x:=fun z=>ji (Zgv hN e1 (z▸hi));simp[yx,k2]
def ZoE(D:ZeB)(i:Nat):ZeB:={nx:=fun σ H=>D.nx (σ.set i none) H,bk:=fun σ H=>D.bk (σ.set i none) H,ct:=fun σ H=>D.ct (σ.set i none) H,rt:=D.rt}
def XO(e D:Addr)(d:Option Addr):HO:=.ext fun h=>∃ob,h.get? e=some ob/\ob.cls=.ref D/\ob.dict=d/\notCls ob=true
theorem Zti{P:Program}{w:World}{H:Hp}{B h:Heap}{l:List Env}{e D:Addr}{a0:Value}{d:Option Addr}(fl:Heap.FlyingW B l e (.ref D) a0 h)(dk:∃ob,h.get? e=some ob/\ob.dict=d):YD P w H h e (XO e D d):=by
 obtain⟨oe,vs,e1,e2,e3,_⟩:=fl.first;obtain⟨ob,e4,e5⟩:=dk;rw[e1] at e4
 cases e4;refine⟨⟨oe,e1,e2,e5, ?_⟩,⟨oe,e1⟩,fun h1 h2 ⟨o,q1,q2⟩ z=>⟨o,z o q1,q2⟩⟩;unfold notCls;rw[e3]
theorem ZoF{X:Cx}{pins:List (Addr×Obj)}{σ σ₁:L2.St}{H H₁:Hp}{s s₁:Shared}{B h:Heap}{l:List Env}{e C D:Addr}{a0:Value}{d:Option Addr}{cn n:Str}{np hpos:Pos}{b0:Stmt}{suite:List Stmt}{rest:List ExceptHandler}{i:Nat}{ts:TS}{D':ZeB}{EE:Value->Shared->Prop}
  (ok:X.Ok)(again:∀(h5:Heap) (tk:Nat),B.StaysIn h5->h.UpToSlots h5->L2.Inv X pins σ H {s with heap:=h5,toks:=tk})(fl:Heap.FlyingW B l e (.ref D) a0 h)(I₁:L2.Inv X pins σ₁ H₁ s₁)(new:s₁.heap.get? e=none)(free:H e=none)(dk:∃ob,h.get? e=some ob/\ob.dict=d)(hg:Gl X cn)(hm:X.mg cn=some (.ref C))(hx:exmOne X.K (.ref D) (.ref C)=some true)
  (hN:X.N.Nodup)(hi:X.N[i]? =some n)(hk:X.env.scope.names.lookup n=some .local)(hs:PSs (Jp X (.ref e) fun _ _=>False) (b0::suite) ts)(q:ts (ZoE D' i) (σ.set i (some (.ref e))) (upd H e (XO e D d)))(hdb:(cn==("__debug__":Str))=false:=by decide):
  wpAny (model X.prog X.w) X.A (handleBy (.ref e) X.env (.ExceptHandler (some (.Name cn np)) (some n) (b0::suite) hpos::rest)) (SP X pins D') EE {s with heap:=h}:=by
 have I0:=again h s.toks fl.1 (fun _ o z _=>⟨o.slots,z⟩);refine wpAny_handleBy_cons (codeAny_handlers_test (YZ (Zbn (e:=.ref e) (E:=fun _ _=>False) I0) hg hm ?_ hdb)) (fun z=>nomatch z);refine exm_one I0.kIn (Zld fl.there) hx _ _ _ _ (fun _ _ z=>z) ?_;refine codeAny_handlers_suite_as (wpAny_mono (Kd.any (JW _ _) (lands_againW (Q:=fun _ s2=>∃h6,s2={s with heap:=h6}/\Heap.FlyingW B l e (.ref D) a0 h6/\h.UpToSlots h6) fl fun h6 fl6 sm6=>⟨h6,rfl,fl6,sm6⟩)) (fun _ s2 z=> ?_) fun _ _ z=>z.1)
 obtain⟨⟨h6,rfl,fl6,sm6⟩,dk6⟩:=z;obtain⟨ob,e1,e2⟩:=dk;obtain⟨ob6,e3,e4,_⟩:=dk6 e ob e1;have I6:=ZaS (q:=XO e D d) I₁ (again h6 s.toks fl6.1 sm6) free new (Zti fl6 ⟨ob6,e3,e4.trans e2⟩);refine Zgw I6 hN hi (.inl hk) (v:=.ref e) rfl (fun s2 I2=> ?_) (.inr hk);refine wpAny_mono (hs pins s2 _ _ _ (Zbn I2) q) (fun f s3 z=> ?_) fun _ _ z=>z.elim;cases f with
 |next=>obtain⟨σ2,H2,I3,q3⟩:=z;exact ZdP (Zc8 ok I3) hN hi hk fun s4 I4=>⟨_,H2,I4,q3⟩
 |brk=>obtain⟨σ2,H2,I3,q3⟩:=z;exact ZdP (Zc8 ok I3) hN hi hk fun s4 I4=>⟨_,H2,I4,q3⟩
 |cont=>obtain⟨σ2,H2,I3,q3⟩:=z;exact ZdP (Zc8 ok I3) hN hi hk fun s4 I4=>⟨_,H2,I4,q3⟩
 |ret u=>obtain⟨v,σ2,H2,I3,r,q3⟩:=z;exact ZdP (Zc8 ok I3) hN hi hk fun s4 I4=>⟨v,_,H2,I4,r,q3⟩
theorem Zi2{P:Program}{w:World}{H:Hp}{h:Heap}{a:Addr}:∀{o:HO},YD P w H h a o->∃ob,h.get? a=some ob
 | .lst _,⟨_,_,_,_,e⟩=>⟨_,e⟩
 | .tup _,⟨_,_,_,p⟩=>p.elim fun ob q=>⟨ob,q.1⟩
 | .dK _,⟨_,_,_,_,ob,_,_,e,_⟩=>⟨ob,e⟩
 | .dT _,⟨_,_,_,_,ob,_,_,e,_⟩=>⟨ob,e⟩
 | .set _ _,⟨ob,_,_,_,e,_⟩=>⟨ob,e⟩
 | .ins _ _ _,⟨_,_,_,e,_⟩=>⟨_,e⟩
 | .own _,x=>x
 | .xd _,⟨_,⟨ob,_,_,e,_⟩,_⟩=>⟨ob,e⟩
 | .met _ _,e=>⟨_,e⟩
 | .rng _ _,⟨_,_,_,e⟩=>⟨_,e⟩
 | .frz _ _,⟨e,_⟩=>⟨_,e⟩
 | .tbl _,e=>⟨_,e⟩
 | .ext _,⟨_,e,_⟩=>e
theorem apart{P:Program}{w:World}{H:Hp}{B h:Heap}{l:List Env}{e:Addr}{c a0:Value}(hok:HOk P w H B)(fl:Heap.FlyingW B l e c a0 h):H e=none:=by
 cases q:H e with
 |none=>rfl
 |some o=>
  obtain⟨ob,z⟩:=Zi2 (hok e o q);have n:=fl.2.1;rw[z] at n
  cases n
end L3
namespace L3
open PySem PySem.Spec PyProof.Rows L2 PySem.W PySem.Calls
section
variable {P:Program} {w:World} {K:Frag} {mg:Str->Option Value} {base:Heap} {N:List Str} {qual:Str} {scope:Scope} {f:Addr} {cdv:Value} {A:Around} {outer:List Env} {s₀:Shared} {H₀:Hp} {E:XK} {CX:CXT}
end
end L3
namespace L3
open PySem PySem.Spec PyProof.Rows L2 PySem.W PySem.Calls
structure Jd (K:Frag) (D:Addr):Prop where
 ck:(kitCls K (.ref D) (.ref D)).isSome=true
 ga:findIn K (.ref D) "__getattribute__"=some (some (.builtin "BaseException.__getattribute__"))
 gt:findIn K (.ref D) "__getattr__"=some none
 cs:findIn K (.ref D) "__class__"=some (some (.builtin "object.__class__"))
 gg:specialIn K (.builtin "object.__class__") "__get__"=some (some (.builtin "getset_descriptor.__get__"))
 tk:takesIn K (.builtin "object.__class__")=some true
 mo:mroIn K D (.type "object")=some true
 mb:subIn K (.ref D) (.type "BaseException")=some true
theorem Jd.cl{K:Frag}{D:Addr}(Z:Jd K D):∃c d cd sl,K.lookup D=some ⟨c,d,.cls cd,sl⟩:=by
 have z:=Z.ck;simp only [kitCls] at z
 split at z
 ·rename_i q
  have q:=(Bool.and_eq_true_iff.mp q).1;unfold clsIn at q
  split at q
  ·rename_i h
   exact⟨_,_,_,_,h⟩
  ·cases q
 ·cases z
theorem Jd.find{K:Frag}{D:Addr}(Z:Jd K D)(od:Option Obj):findObj K D od "__class__"=some (.bind (.builtin "getset_descriptor.__get__") (.builtin "object.__class__")):=by
 obtain⟨c,d,cd,sl,h⟩:=Z.cl;have hc:clsIn K D=some cd:=by unfold clsIn;rw[h]
 simp[findObj,hc,Z.cs,Z.gg,Z.tk]
section
variable {prog:Program} {w:World} {A:Around} {E:Value->Shared->Prop} {s:Shared} {K:Frag} {x D:Addr} {ox:Obj} {od:Option Obj}
theorem ZmZ{tk:Tok}{Q:Fin->Shared->Prop}(Z:Jd K D)(X:K.In s.heap)(I:InstAt s.heap x ox D od)(hq:Q (.done (.ret (.ref D))) s):wpAny (model prog w) A (Builtin.«object.__getattribute__» ⟨[.ref x,.str "__class__" tk],[]⟩) Q E s:=by
 obtain⟨h,g,d,t,os⟩:=s;refine wpAny_bind (wpAny_pure ?_);refine wpAny_bind (wpAny_pure ?_);refine wpAny_bind (I.type.at ?_);refine wpAny_bind ((looks_find X I (Z.find od)).at ?_);exact wpAny_bind (wpAny_holding (wpAny_call (class_get X I Z.mo (wpAny_pure hq))))
theorem ZoG:builtinKind "BaseException.__getattribute__"=some .slot:=by decide+kernel
theorem Zn0:splitId "BaseException.__getattribute__"=some ("BaseException","__getattribute__"):=by decide+kernel
theorem Zi3{M:Model}{nm:Value}{Q:Unit->Shared->Prop}(Z:Jd K D)(X:K.In s.heap)(I:InstAt s.heap x ox D od)(hq:Q () s):wpAny M A (checkBuiltinCall "BaseException.__getattribute__" ⟨[.ref x,nm],[]⟩) Q E s:=by
 have l0:Looks M s.heap (typeOf (.ref x)) (.ref D):=I.type;have l1:Looks M s.heap (isSubtype (.ref D) (.type "BaseException")) true:=looks_subIn X Z.mb;have l2:Looks M s.heap (isInstance (.ref x) (.type "BaseException")) true:=l0.andThen l1;exact @check_slot M A E s "BaseException.__getattribute__" "BaseException" "__getattribute__" (.ref x) [nm] [] Q ZoG Zn0 l2 (PySem.F.args_bexc_ga _ _) hq
theorem Zqn{tk:Tok}{fill:Bool}{Q:Value->Shared->Prop}(Z:Jd K D)(X:K.In s.heap)(I:InstAt s.heap x ox D od)(hq:Q (.ref D) s):wpAny (model prog w) A (getAttrByItsOwn (.ref x) (.str "__class__" tk) (.ref D) (.builtin "BaseException.__getattribute__") fill false) Q E s:=by
 obtain⟨h,g,d,t,os⟩:=s;have hook:Looks (model prog w) h (hookBefore (.ref D)) none:=looks_findIn X Z.gt;refine wpAny_bind (hook.at (wpAny_bind (wpAny_attempt (wpAny_holding ?_))));have called:wpAny (model prog w) A (call (.builtin "BaseException.__getattribute__") [.ref x,.str "__class__" tk]) (fun v s'=>wpAny (model prog w) A (handedOut v) Q E s') (fun _ _=>False) ⟨h,g,d,t,os⟩:=
  wpAny_call (codeAny_call_builtin PySem.F.attr_ValueError.ga.plain PySem.F.entry_bexc_ga (Zi3 (s:=⟨h,g,d,t,os⟩) Z X I (ZmZ (s:=⟨h,g,d,t,os⟩) Z X I (handed_on rfl hq))))
 exact wpAny_bind (wpAny_of_eq (PySem.F.attr_ValueError.ga.bind (.ref x)) (wpAny_mono called (fun _ _ z=>z) fun _ _ z=>z.elim))
theorem Zn1{Q:Option Value->Shared->Prop}(Z:Jd K D)(X:K.In s.heap)(I:InstAt s.heap x ox D od)(hq:Q (some (.ref D)) {s with toks:=s.toks+1}):wpAny (model prog w) A (getAttr? (.ref x) "__class__") Q E s:=by
 obtain⟨h,g,d,t,os⟩:=s;have its:Looks (model prog w) h (typeLookup (.ref D) "__getattribute__") (some (.builtin "BaseException.__getattribute__")):=looks_findIn X Z.ga;have by_:wpAny (model prog w) A (getAttrBy (.ref x) (.str "__class__" t) false) (fun v s'=>v=.ref D/\s'=⟨h,g,d,t+1,os⟩) (fun _ _=>False) ⟨h,g,d,t+1,os⟩:=
  wpAny_holding (wpAny_bind (I.type.at (wpAny_bind (its.at (Zqn (s:=⟨h,g,d,t+1,os⟩) Z X I ⟨rfl,rfl⟩)))))
 refine wpAny_bind (wpAny_mkText (wpAny_bind (wpAny_attempt (wpAny_mono by_ (fun v s' z=> ?_) fun _ _ z=>z.elim))));obtain⟨rfl,rfl⟩:=z;exact wpAny_pure hq
theorem ZjY(Z:Jd K D):KitX K (.ref x) (.ref D) (fun h=>∃ox od,InstAt h x ox D od) where
 ty:=fun _ _ _ ⟨_,_,I⟩=>I.type
 it:=fun _ _ X _=>by
  obtain⟨v,e⟩:=Option.isSome_iff_exists.mp Z.ck;exact(kit_cls X e).2.1
 ne:=fun _ _ _ _ _ _ X tup=>by
  obtain⟨c,d,cd,sl,e⟩:=Z.cl;refine beq_eq_false_iff_ne.mpr fun same=> ?_;cases same;cases(X _ _ e).symm.trans tup
 ca:=fun X ⟨_,_,I⟩ k=>Zn1 Z X I k
end
section
variable {X:Cx} {pins:List (Addr×Obj)} {σ:L2.St} {H:Hp} {s:Shared}
def ZoH:List V->Option (List Value)
 |[]=>some []
 |y::ys=>(Zoa y).bind fun c=>(ZoH ys).map (c:: ·)
theorem ZgN:∀{ys:List V} {us cs:List Value},Yc ys us->ZoH ys=some cs->us=cs
 |[],_,_,.nil,h=>by cases h;rfl
 |y::ys,_,cs,.cons r1 r2,h=>by
  obtain⟨c,e1,h⟩:=Option.bind_eq_some_iff.mp h;obtain⟨cs',e2,rfl⟩:=Option.map_eq_some_iff.mp h;rw[ZgN r2 e2]
  congr 1
  cases y with
  |ty n=>cases e1;exact r1
  |ref a=>cases e1;exact r1
  |_=>cases e1
end
section
variable {X:Cx}
end
def ZdQ(es:Array DictEntry):Bool:=es.toList.all fun e=>match e.key with
 | .str _ _=>true
 |_=>false
theorem Xl{K:Frag}{N:Addr}{c:Value}{d:Option Addr}{es:Array DictEntry}{ep:Nat}{sl:Array (Option Value)}(h:K.lookup N=some ⟨c,d,.dict es ep,sl⟩)(e:ZdQ es=true):nsOkIn K N=true:=by
 unfold nsOkIn;rw[h];show es.all _=true;rw[<-Array.all_toList];exact e
theorem Zhx:bootBuiltins "ValueError"=some (.type "ValueError"):=by decide+kernel
end L3
namespace M1
open PySem.Builtin PySem.Builtin.Str PySem
end M1
namespace L3
open PySem PySem.W PyProof.Rows
structure Ord (ans:Nat->Nat->Bool):Prop where
 asym:∀i j,ans i j=true->ans j i=false
 tr:∀i j k,ans j i=false->ans k j=false->ans k i=false
theorem Ord.irr{ans:Nat->Nat->Bool}(o:Ord ans)(i:Nat):ans i i=false:=by
 cases e:ans i i with
 |false=>rfl
 |true=>exact e.symm.trans (o.asym i i e)
def Zqo(n:Nat)(ans:Nat->Nat->Bool)(i j:Nat)(C:Bool->Shared->Prop)(s:Shared):Prop:=i<n/\j<n/\C (ans i j) s
abbrev ZaV(n:Nat)(ans:Nat->Nat->Bool){α:Type}(s:Shared)(t:KasT α)(P:α->Prop):Prop:=t.kasWp (Zqo n ans) (fun a _=>P a) s
def at_(p:Array Nat)(i:Nat):Nat:=p.getD i 0
def JX(ans:Nat->Nat->Bool)(p:Array Nat)(k:Nat):Prop:=∀i j,i<=j->j<k->ans (at_ p j) (at_ p i)=false
def Zd8(ans:Nat->Nat->Bool)(p:Array Nat)(k:Nat):Prop:=∀i j,i<=j->j<k->ans (at_ p i) (at_ p j)=false
structure Pl (n:Nat) (p:Array Nat):Prop where
 size:p.size=n
 perm:p.Perm (List.toArray (List.range n))
theorem Pl.lt{n:Nat}{p:Array Nat}(h:Pl n p){i:Nat}(hi:i<n):at_ p i<n:=by
 have hi':i<p.size:=by rw[h.size];exact hi
 have e:at_ p i=p[i]:=by simp[at_,Array.getD,hi']
 have m:p[i]∈List.range n:=by
  have:=(Array.perm_iff_toList_perm.mp h.perm).mem_iff (a:=p[i])
  simpa using this.mp (by simp)
 rw[e];exact List.mem_range.mp m
theorem Zei(x:Array Nat)(k:Nat):at_ x k=(x[k]?).getD 0:=by
 by_cases hk:k<x.size<;>simp[at_,Array.getD,hk]
theorem Zd9{p:Array Nat}{i j:Nat}(hj:j<=p.size)(k:Nat):at_ (kas_rev p i j) k=if i<=k/\k<j then at_ p (i+j-1-k) else at_ p k:=by
 rw[Zei,kas_rev,getElem?_mirror_all hj k,Zei,Zei]
 split<;>rfl
theorem ZoI{p:Array Nat}{src d:Nat}(hs:src<p.size)(hd:d<=src)(k:Nat):at_ (bubble p src d) k=if k=src-d then at_ p src else if src-d<k/\k<=src then at_ p (k-1) else at_ p k:=by
 rw[Zei,getElem?_bubble hs d hd k,Zei,Zei,Zei]
 split
 ·rfl
 ·split<;>rfl
theorem Pl.rev{n:Nat}{p:Array Nat}(h:Pl n p)(i j:Nat):Pl n (kas_rev p i j):=⟨(mirror_size _ _ _ _).trans h.size,(mirror_perm _ _ _ _).trans h.perm⟩
theorem Pl.bub{n:Nat}{p:Array Nat}(h:Pl n p)(i j:Nat):Pl n (bubble p i j):=⟨(bubble_size _ _ _).trans h.size,(bubble_perm _ _ _).trans h.perm⟩
section
variable {n:Nat} {ans:Nat->Nat->Bool} {s:Shared}
theorem ZaW{α β:Type}{t:KasT α}{f:α->KasT β}{P:β->Prop}(h:ZaV n ans s t fun a=>ZaV n ans s (f a) P):ZaV n ans s (t.bind f) P:=by
 have st:∀(t:KasT α) (s0:Shared),t.kasWp (Zqo n ans) (fun a _=>ZaV n ans s (f a) P) s0->s0=s->t.kasWp (Zqo n ans) (fun a s'=>(f a).kasWp (Zqo n ans) (fun a _=>P a) s') s0:=by
  intro t
  induction t with
  |ret a=>intro s0 h e;subst e;exact h
  |ask i j k ih=>intro s0 ⟨a,b,h⟩ e;exact⟨a,b,ih _ s0 h e⟩
 show(t.bind f).kasWp _ _ _;rw[KasT.kasWp_bind];exact st t s h rfl
theorem Xi{α:Type}{P P':α->Prop}(hp:∀a,P a->P' a):∀{t:KasT α},ZaV n ans s t P->ZaV n ans s t P'
 | .ret a,h=>hp a h
 | .ask i j k,⟨a,b,h⟩=>⟨a,b,Xi hp (t:=k _) h⟩
theorem ZjZ{α:Type}{cmp:Nat->Nat->(Bool->Shared->Prop)->Shared->Prop}{P:α->Prop}{Q:α->Shared->Prop}(I:Shared->Prop)(hc:∀i j (C:Bool->Shared->Prop) s,i<n->j<n->I s->(∀s',I s'->C (ans i j) s')->cmp i j C s)(hq:∀a s',P a->I s'->Q a s'):
  ∀(t:KasT α) (s0 s1:Shared),ZaV n ans s0 t P->I s1->t.kasWp cmp Q s1
 | .ret a,s0,s1,h,i1=>hq a s1 h i1
 | .ask i j k,s0,s1,⟨a,b,h⟩,i1=>hc i j _ s1 a b i1 fun s' i'=>ZjZ I hc hq (k _) s0 s' h i'
theorem Zda(o:Ord ans){p:Array Nat}(hp:Pl n p){k:Nat}(hk:k<n)(hs:JX ans p k):∀(f l r:Nat),l<=r->r<=k->r-l<=f->(∀i,i<l->ans (at_ p k) (at_ p i)=false)->(∀i,r<=i->i<k->ans (at_ p k) (at_ p i)=true)->
  ZaV n ans s (kas_place p k f l r) fun x=>x<=k/\(∀i,i<x->ans (at_ p k) (at_ p i)=false)/\∀i,x<=i->i<k->ans (at_ p k) (at_ p i)=true
 |0,l,r,h1,h2,h3,lo,hi=>by
  have e:l=r:=by omega
  subst e;exact⟨h2,lo,hi⟩
 |f+1,l,r,h1,h2,h3,lo,hi=>by
  unfold kas_place
  by_cases g:l≥r
  ·rw[if_pos g];have e:l=r:=by omega
   subst e;exact⟨h2,lo,hi⟩
  ·rw[if_neg g];refine⟨hp.lt hk,hp.lt (by omega), ?_⟩;cases e:ans (p.getD k 0) (p.getD ((l+r)/2) 0) with
   |true=>
    (dsimp only;rw[if_pos rfl])
    refine Zda o hp hk hs f l ((l+r)/2) (by omega) (by omega) (by omega) lo fun i a b=> ?_;cases e2:ans (at_ p k) (at_ p i) with
    |true=>rfl
    |false=>
     have:=o.tr (at_ p ((l+r)/2)) (at_ p i) (at_ p k) (hs _ _ a b) e2;rw[show ans (at_ p k) (at_ p ((l+r)/2))=true from e] at this
     exact this.symm
   |false=>
    (dsimp only;rw[if_neg (by simp)])
    exact Zda o hp hk hs f ((l+r)/2+1) r (by omega) h2 (by omega) (fun i a=>o.tr (at_ p i) (at_ p ((l+r)/2)) (at_ p k) (hs _ _ (by omega) (by omega)) e) hi
theorem Zi4(o:Ord ans):∀(f:Nat) (p:Array Nat) (k:Nat),Pl n p->k+f=n->JX ans p k->ZaV n ans s (kas_bin f p k) fun q=>Pl n q/\JX ans q n
 |0,p,k,hp,e,hs=>by
  have e:k=n:=by omega
  subst e;exact⟨hp,hs⟩
 |f+1,p,k,hp,e,hs=>by
  have hk:k<n:=by omega
  unfold kas_bin;refine ZaW (Xi (fun l ⟨a,lo,hi⟩=> ?_) (Zda o hp hk hs k 0 k (by omega) (by omega) (by omega) (fun i z=>by omega) fun i z1 z2=>by omega));refine Zi4 o f _ (k+1) (hp.bub _ _) (by omega) fun i j hij hj=> ?_;have hks:k<p.size:=by rw[hp.size];exact hk
  rw[ZoI hks (by omega),ZoI hks (by omega),show k-(k-l)=l by omega]
  repeat' split
  all_goals first
   |(exfalso;omega)
   |exact o.irr _
   |exact lo _ (by omega)
   |exact o.asym _ _ (hi _ (by omega) (by omega))
   |exact hs _ _ (by omega) (by omega)
theorem Zfg(o:Ord ans){p:Array Nat}(hp:Pl n p):∀(f m:Nat),1<=m->m+f<=n->JX ans p m->ZaV n ans s (kas_asc p f m) fun x=>m<=x/\x<=m+f/\JX ans p x/\(x<m+f->ans (at_ p x) (at_ p (x-1))=true)
 |0,m,h1,h2,hs=>⟨Nat.le_refl _,Nat.le_refl _,hs,fun z=>absurd z (Nat.lt_irrefl _)⟩
 |f+1,m,h1,h2,hs=>by
  unfold kas_asc;refine⟨hp.lt (by omega),hp.lt (by omega), ?_⟩;cases e:ans (p.getD m 0) (p.getD (m-1) 0) with
  |true=>(dsimp only;rw[if_pos rfl]);exact⟨Nat.le_refl _,by omega,hs,fun _=>e⟩
  |false=>
   (dsimp only;rw[if_neg (by simp)])
   refine Xi (fun x ⟨a,b,c,d⟩=>⟨by omega,by omega,c,fun z=>d (by omega)⟩) (Zfg o hp f (m+1) (by omega) (by omega) fun i j hij hj=> ?_)
   by_cases q:j<m
   ·exact hs i j hij q
   ·have ej:j=m:=by omega
    subst ej
    by_cases q2:i=j
    ·subst q2;exact o.irr _
    ·exact o.tr (at_ p i) (at_ p (j-1)) (at_ p j) (hs _ _ (by omega) (by omega)) e
theorem ZgO(o:Ord ans){p q:Array Nat}{m:Nat}(h:Zd8 ans p m)(e:∀k,k<m->ans (at_ p k) (at_ q k)=false/\ans (at_ q k) (at_ p k)=false):Zd8 ans q m:=fun i j hij hj=>
 o.tr (at_ q j) (at_ p i) (at_ q i) (o.tr (at_ q j) (at_ p j) (at_ p i) (e j hj).1 (h i j hij hj)) (e i (by omega)).2
def Zqp(ans:Nat->Nat->Bool)(p:Array Nat)(m q:Nat):Prop:=∀k,m-(q+1)<=k->k<m->ans (at_ p k) (at_ p (m-1))=false/\ans (at_ p (m-1)) (at_ p k)=false
theorem Zk0(o:Ord ans){p:Array Nat}{m q:Nat}(hm:m<=p.size)(hq:q+1<=m)(t:Zqp ans p m q):∀k,k<m->ans (at_ p k) (at_ (kas_rev p (m-(q+1)) m) k)=false/\ans (at_ (kas_rev p (m-(q+1)) m) k) (at_ p k)=false:=fun k hk=>by
 rw[Zd9 hm]
 split
 ·rename_i h
  have a:=t k h.1 h.2;have b:=t (m-(q+1)+m-1-k) (by omega) (by omega);exact⟨o.tr _ _ _ b.2 a.1,o.tr _ _ _ a.2 b.1⟩
 ·exact⟨o.irr _,o.irr _⟩
theorem Zcn(o:Ord ans):∀(f:Nat) (p:Array Nat) (m q:Nat),Pl n p->1<=m->m+f<=n->q+1<=m->Zd8 ans p m->Zqp ans p m q->ZaV n ans s (kas_desc f p m q) fun r=>Pl n r.1/\1<=r.2.1/\r.2.1<=m+f/\r.2.2+1<=r.2.1/\Zd8 ans r.1 r.2.1/\Zqp ans r.1 r.2.1 r.2.2
 |0,p,m,q,hp,h1,h2,hq,hf,ht=>⟨hp,h1,Nat.le_refl _,hq,hf,ht⟩
 |f+1,p,m,q,hp,h1,h2,hq,hf,ht=>by
  unfold kas_desc;refine⟨hp.lt (by omega),hp.lt (by omega), ?_⟩;have more:∀(p':Array Nat),Zd8 ans p' m->ans (at_ p' (m-1)) (at_ p' m)=false->Zd8 ans p' (m+1):=fun p' hf' l i j hij hj=>by
   by_cases z:j<m
   ·exact hf' i j hij z
   ·have ej:j=m:=by omega
    subst ej
    by_cases z2:i=j
    ·subst z2;exact o.irr _
    ·exact o.tr (at_ p' j) (at_ p' (j-1)) (at_ p' i) l (hf' _ _ (by omega) (by omega))
  cases e:ans (p.getD m 0) (p.getD (m-1) 0) with
  |true=>
   (dsimp only;rw[if_pos rfl])
   have one:∀p':Array Nat,Zqp ans p' (m+1) 0:=fun p' k a b=>by
    have ek:k=m:=by omega
    subst ek;exact⟨o.irr _,o.irr _⟩
   by_cases z:q>0
   ·rw[if_pos z];have al:=Zk0 o (by rw[hp.size];omega) hq ht
    have f':=ZgO o hf al;refine Xi (fun r ⟨a,b,c,d⟩=>⟨a,b,by omega,d⟩) (Zcn o f _ (m+1) 0 (hp.rev _ _) (by omega) (by omega) (by omega) (more _ f' ?_) (one _));have em:at_ (kas_rev p (m-(q+1)) m) m=at_ p m:=by rw[Zd9 (by rw[hp.size];omega),if_neg (by omega)]
    rw[em];exact o.tr (at_ p m) (at_ p (m-1)) _ (o.asym _ _ e) (al (m-1) (by omega)).2
   ·rw[if_neg z];exact Xi (fun r ⟨a,b,c,d⟩=>⟨a,b,by omega,d⟩) (Zcn o f p (m+1) 0 hp (by omega) (by omega) (by omega) (more _ hf (o.asym _ _ e)) (one _))
  |false=>
   (dsimp only;rw[if_neg (by simp)])
   refine⟨hp.lt (by omega),hp.lt (by omega), ?_⟩;cases e2:ans (p.getD (m-1) 0) (p.getD m 0) with
   |true=>(dsimp only;rw[if_pos rfl]);exact⟨hp,h1,(show m<=m+(f+1) by omega),hq,hf,ht⟩
   |false=>
    (dsimp only;rw[if_neg (by simp)])
    refine Xi (fun r ⟨a,b,c,d⟩=>⟨a,b,by omega,d⟩) (Zcn o f p (m+1) (q+1) hp (by omega) (by omega) (by omega) (more _ hf e2) fun k a b=> ?_);show ans (at_ p k) (at_ p m)=false/\ans (at_ p m) (at_ p k)=false
    by_cases z:k=m
    ·subst z;exact⟨o.irr _,o.irr _⟩
    ·have t:=ht k (by omega) (by omega);exact⟨o.tr (at_ p m) (at_ p (m-1)) (at_ p k) e2 t.1,o.tr (at_ p k) (at_ p (m-1)) (at_ p m) t.2 e⟩
theorem ZfM(o:Ord ans){p:Array Nat}(hp:Pl n p){m:Nat}(h1:1<=m)(h2:m<=n)(hf:Zd8 ans p m):ZaV n ans s (kas_tail3 m n p) fun r=>1<=r.1/\r.1<=n/\Pl n r.2/\JX ans r.2 r.1:=by
 unfold kas_tail3;refine ZaW (Xi (fun x ⟨a,b,c,d⟩=>⟨by omega,by omega,hp.rev _ _,c⟩) (Zfg o (hp.rev 0 m) (n-m) m h1 (by omega) fun i j hij hj=> ?_));rw[Zd9 (by rw[hp.size];exact h2),Zd9 (by rw[hp.size];exact h2),if_pos (by omega),if_pos (by omega)]
 exact hf _ _ (by omega) (by omega)
theorem Zdb(o:Ord ans){p:Array Nat}(hp:Pl n p){m:Nat}(h1:1<=m)(h2:m<n)(hf:Zd8 ans p m)(hl:ans (at_ p m) (at_ p (m-1))=true):ZaV n ans s (kas_descPart m n p) fun r=>1<=r.1/\r.1<=n/\Pl n r.2/\JX ans r.2 r.1:=by
 unfold kas_descPart;refine ZaW (Xi (fun r ⟨a,b,c,d,e,t⟩=> ?g) (Zcn o (n-(m+1)) p (m+1) 0 hp (by omega) (by omega) (by omega) (fun i j hij hj=> ?f) fun k a b=> ?t))
 case g=>
  split
  ·have al:=Zk0 o (by rw[a.size];omega) d t
   exact ZfM o (a.rev _ _) b (by omega) (ZgO o e al)
  ·exact ZfM o a b (by omega) e
 case f=>
  by_cases z:j<m
  ·exact hf i j hij z
  ·have ej:j=m:=by omega
   subst ej
   by_cases z2:i=j
   ·subst z2;exact o.irr _
   ·exact o.tr (at_ p j) (at_ p (j-1)) (at_ p i) (o.asym _ _ hl) (hf _ _ (by omega) (by omega))
 case t=>
  have ek:k=m:=by omega
  subst ek;exact⟨o.irr _,o.irr _⟩
theorem Zk1(o:Ord ans){p:Array Nat}(hp:Pl n p)(h1:1<=n):ZaV n ans s (kas_count n p) fun r=>1<=r.1/\r.1<=n/\Pl n r.2/\JX ans r.2 r.1:=by
 unfold kas_count;refine ZaW (Xi (fun x ⟨a,b,c,d⟩=> ?g) (Zfg o hp (n-1) 1 (Nat.le_refl _) (by omega) fun i j hij hj=> ?f))
 case g=>
  by_cases z:x=n
  ·rw[if_pos (by simpa using z)];exact⟨a,by omega,hp,c⟩
  ·rw[if_neg (by simpa using z)];have l:=d (by omega)
   by_cases z2:x>1
   ·rw[if_pos z2];refine⟨hp.lt (by omega),hp.lt (by omega), ?_⟩;cases e:ans (p.getD 0 0) (p.getD (x-1) 0) with
    |true=>(dsimp only;rw[if_pos rfl]);exact⟨a,by omega,hp,c⟩
    |false=>
     (dsimp only;rw[if_neg (by simp)])
     have al:∀i j,i<x->j<x->ans (at_ p i) (at_ p j)=false:=fun i j hi hj=>o.tr (at_ p j) (at_ p 0) (at_ p i) (o.tr (at_ p j) (at_ p (x-1)) (at_ p 0) (c _ _ (by omega) (by omega)) e) (c _ _ (by omega) hi);have hx:x<=p.size:=by rw[hp.size];omega
     refine Zdb o (hp.rev 0 x) a (by omega) (fun i j hij hj=> ?_) ?_
     ·rw[Zd9 hx,Zd9 hx,if_pos (by omega),if_pos (by omega)];exact al _ _ (by omega) (by omega)
     ·rw[Zd9 hx,Zd9 hx,if_neg (by omega),if_pos (by omega),show 0+x-1-(x-1)=0 by omega];cases e3:ans (at_ p x) (at_ p 0) with
      |true=>rfl
      |false=>
       have:=o.tr (at_ p (x-1)) (at_ p 0) (at_ p x) e e3;rw[l] at this
       exact this.symm
   ·rw[if_neg z2];have ex:x=1:=by omega
    subst ex;exact Zdb o hp (Nat.le_refl _) (by omega) (fun i j hij hj=>by
     have:i=j:=by omega
     subst this;exact o.irr _) l
 case f=>
  have:i=j:=by omega
  subst this;exact o.irr _
theorem Zle(o:Ord ans)(h1:1<=n):ZaV n ans s (kas_sort n) fun q=>Pl n q/\JX ans q n:=by
 unfold kas_sort;have p0:Pl n (List.toArray (List.range n)):=⟨by simp,Array.Perm.refl _⟩
 refine ZaW (Xi (fun r ⟨a,b,c,d⟩=> ?_) (Zk1 o p0 h1))
 split
 ·have e:max r.1 1=r.1:=by omega
  rw[e];exact Zi4 o _ _ _ c (by omega) d
 ·have e:r.1=n:=by omega
  rw[e] at d
  exact⟨c,d⟩
end
end L3
namespace L3
open PySem
structure STO {α:Type} (lt:α->α->Bool):Prop where
 irr:∀a,lt a a=false
 tr:∀a b c,lt a b=true->lt b c=true->lt a c=true
 tri:∀a b,lt a b=true\/a=b\/lt b a=true
theorem STO.asym{α:Type}{lt:α->α->Bool}(o:STO lt){a b:α}(h:lt a b=true):lt b a=false:=by
 cases e:lt b a with
 |false=>rfl
 |true=>exact(o.tr a b a h e).symm.trans (o.irr a)
theorem STO.ord{α:Type}{lt:α->α->Bool}(o:STO lt)(f:Nat->α):Ord fun i j=>lt (f i) (f j) where
 asym:=fun i j h=>o.asym h
 tr:=fun i j k h1 h2=>by
  cases e:lt (f k) (f i) with
  |false=>rfl
  |true=>
   rcases o.tri (f i) (f j) with z|z|z
   ·exact(o.tr _ _ _ e z).symm.trans h2
   ·rw[z] at e;exact e.symm.trans h2
   ·exact z.symm.trans h1
def ZeK(a b:Int):Bool:=decide (a<b)
theorem ZdR:STO ZeK:=⟨fun a=>decide_eq_false (by omega),fun a b c h1 h2=>decide_eq_true (by have:=of_decide_eq_true h1;have:=of_decide_eq_true h2;omega),fun a b=>by
 rcases Int.lt_trichotomy a b with h|h|h
 ·exact .inl (decide_eq_true h)
 ·exact .inr (.inl h)
 ·exact .inr (.inr (decide_eq_true h))⟩
def Ze2{α:Type} [DecidableEq α](lt:α->α->Bool):List α->List α->Bool
 |[],[]=>false
 |[],_::_=>true
 |_::_,[]=>false
 |a::r,b::t=>if a=b then Ze2 lt r t else lt a b
theorem Zk2{α:Type} [DecidableEq α]{lt:α->α->Bool}(o:STO lt):STO (Ze2 lt) where
 irr:=fun l=>by
  induction l with
  |nil=>rfl
  |cons a r ih=>unfold Ze2;rw[if_pos rfl];exact ih
 tr:=fun x=>by
  induction x with
  |nil=>intro y z h1 h2;cases y with
   |nil=>exact h2
   |cons b t=>cases z with
    |nil=>exact absurd h2 (by simp[Ze2])
    |cons c u=>rfl
  |cons a r ih=>intro y z h1 h2;cases y with
   |nil=>exact absurd h1 (by simp[Ze2])
   |cons b t=>cases z with
    |nil=>exact absurd h2 (by simp[Ze2])
    |cons c u=>
     unfold Ze2 at h1 h2⊢
     by_cases e1:a=b
     ·subst e1;rw[if_pos rfl] at h1
      by_cases e2:a=c
      ·rw[if_pos e2] at h2⊢;exact ih t u h1 h2
      ·rw[if_neg e2] at h2⊢;exact h2
     ·rw[if_neg e1] at h1
      by_cases e2:b=c
      ·subst e2;rw[if_neg e1];exact h1
      ·rw[if_neg e2] at h2
       have h3:=o.tr _ _ _ h1 h2
       by_cases e3:a=c
       ·subst e3;rw[o.irr] at h3;cases h3
       ·rw[if_neg e3];exact h3
 tri:=fun x=>by
  induction x with
  |nil=>intro y;cases y with
   |nil=>exact .inr (.inl rfl)
   |cons b t=>exact .inl rfl
  |cons a r ih=>intro y;cases y with
   |nil=>exact .inr (.inr rfl)
   |cons b t=>
    unfold Ze2
    by_cases e:a=b
    ·subst e;rw[if_pos rfl,if_pos rfl];rcases ih t with h|h|h
     ·exact .inl h
     ·exact .inr (.inl (by rw[h]))
     ·exact .inr (.inr h)
    ·rw[if_neg e,if_neg (Ne.symm e)];rcases o.tri a b with h|h|h
     ·exact .inl h
     ·exact absurd h e
     ·exact .inr (.inr h)
def Zn2{α β:Type} [DecidableEq α](la:α->α->Bool)(lb:β->β->Bool)(x y:α×β):Bool:=if x.1=y.1 then lb x.2 y.2 else la x.1 y.1
theorem Zk3{α β:Type} [DecidableEq α]{la:α->α->Bool}{lb:β->β->Bool}(oa:STO la)(ob:STO lb):STO (Zn2 la lb) where
 irr:=fun x=>by unfold Zn2;rw[if_pos rfl];exact ob.irr _
 tr:=fun⟨a,x⟩ ⟨b,y⟩ ⟨c,z⟩ h1 h2=>by
  unfold Zn2 at h1 h2⊢
  dsimp only at h1 h2⊢
  by_cases e1:a=b
  ·subst e1;rw[if_pos rfl] at h1
   by_cases e2:a=c
   ·rw[if_pos e2] at h2⊢;exact ob.tr _ _ _ h1 h2
   ·rw[if_neg e2] at h2⊢;exact h2
  ·rw[if_neg e1] at h1
   by_cases e2:b=c
   ·subst e2;rw[if_neg e1];exact h1
   ·rw[if_neg e2] at h2
    have h3:=oa.tr _ _ _ h1 h2
    by_cases e3:a=c
    ·subst e3;rw[oa.irr] at h3;cases h3
    ·rw[if_neg e3];exact h3
 tri:=fun⟨a,x⟩ ⟨b,y⟩=>by
  unfold Zn2
  dsimp only
  by_cases e:a=b
  ·subst e;rw[if_pos rfl,if_pos rfl];rcases ob.tri x y with h|h|h
   ·exact .inl h
   ·exact .inr (.inl (by rw[h]))
   ·exact .inr (.inr h)
  ·rw[if_neg e,if_neg (Ne.symm e)];rcases oa.tri a b with h|h|h
   ·exact .inl h
   ·exact absurd h e
   ·exact .inr (.inr h)
def Zlf(a b:List Nat):Bool:=decide (a<b)
theorem ZgP:∀a b:List Nat,Zlf a b=Ze2 (fun x y=>decide (x<y)) a b
 |[],[]=>rfl
 |[],_::_=>rfl
 |_::_,[]=>rfl
 |a::r,b::t=>by
  unfold Ze2;have e:Zlf (a::r) (b::t)=(decide (a<b)||(a==b&&Zlf r t)):=StrLaws.lt_cons_cons a b r t;rw[e,ZgP r t]
  by_cases q:a=b
  ·subst q;rw[if_pos rfl];simp
  ·rw[if_neg q];simp[q]
def ZfN(a b:Str):Bool:=decide (a.cps.toList<b.cps.toList)
theorem Zn3:STO ZfN:=by
 have o:STO fun x y:Nat=>decide (x<y):=⟨fun a=>decide_eq_false (by omega),fun a b c h1 h2=>decide_eq_true (by have:=of_decide_eq_true h1;have:=of_decide_eq_true h2;omega),fun a b=>by
  rcases Nat.lt_trichotomy a b with h|h|h
  ·exact .inl (decide_eq_true h)
  ·exact .inr (.inl h)
  ·exact .inr (.inr (decide_eq_true h))⟩
 have L:=Zk2 o;have e:∀a b:Str,ZfN a b=Ze2 (fun x y=>decide (x<y)) a.cps.toList b.cps.toList:=fun a b=>ZgP _ _;refine⟨fun a=>(e a a).trans (L.irr _),fun a b c h1 h2=> ?_,fun a b=> ?_⟩
 ·rw[e] at h1 h2⊢;exact L.tr _ _ _ h1 h2
 ·rw[e,e];rcases L.tri a.cps.toList b.cps.toList with h|h|h
  ·exact .inl h
  ·refine .inr (.inl ?_);obtain⟨⟨x⟩⟩:=a;obtain⟨⟨y⟩⟩:=b;have h:x=y:=h;rw[h]
  ·exact .inr (.inr h)
abbrev Lf:=Str×Int
def ZeL:Lf->Lf->Bool:=Zn2 ZfN ZeK
def ZlW:List Lf->List Lf->Bool:=Ze2 ZeL
abbrev Ky:=Int×List Lf
def Zk4:Ky->Ky->Bool:=Zn2 ZeK ZlW
theorem Zc9:STO ZeL:=Zk3 Zn3 ZdR
theorem Zi5:STO ZlW:=Zk2 Zc9
theorem ZeM:STO Zk4:=Zk3 ZdR Zi5
end L3
namespace L3
open PySem PySem.Spec PyProof.Rows L2
def ZfV(e c:Nat->Bool)(fin:Bool):List Nat->Bool
 |[]=>fin
 |i::r=>if e i=true then ZfV e c fin r else c i
section
variable {P:Program} {w:World} (l b:Addr) (xs ys:Array Value) (n m:Nat) (d1 d2:Option Addr) (s1 s2:Array (Option Value)) (e c:Nat->Bool)
abbrev ZfW(xs ys:Array Value)(e c:Nat->Bool)(i:Nat):Bool:=ZfV e c (decide (xs.size<ys.size)) ((List.range (min xs.size ys.size)).drop i)
theorem Zsd(k:Nat):∀i:Nat,min xs.size ys.size-i=k->MeetsIn P w (Builtin.«list.__eq__.loop» ⟨[.ref l,.ref b,rawInt i,rawInt 0],[]⟩)
  (fun A R s=>s.heap.get? l=some (ZgM d1 xs n s1)/\s.heap.get? b=some (ZgM d2 ys m s2)/\(∀j (h1:j<xs.size) (h2:j<ys.size),EqP P w A.in1 s xs[j] ys[j] (e j))/\
   (∀j (h1:j<xs.size) (h2:j<ys.size),e j=false->RcP P w A.in1 s .Lt xs[j] ys[j] (c j))/\R (.ok (.ret (.bool (ZfW xs ys e c i)))) s):=by
 induction k with
 |zero=>
  intro i hk A R s h;obtain⟨hq,gs,dr,tk,oss⟩:=s;obtain⟨u1,u2,ue,uc,q⟩:=h;have v3:(List.range (min xs.size ys.size)).drop i=[]:=by simp;omega
  unfold ZfW at q
  rw[v3] at q
  have fin:∀o1 o2,(xs[((i:Nat):Int).toNat]? =o1)->(ys[((i:Nat):Int).toNat]? =o2)->o1=none\/o2=none:=fun o1 o2 a1 a2=>by
   rw[<-a1,<-a2]
   by_cases z:i<xs.size
   ·right;simp;omega
   ·left;simp;omega
  wp_walk using AutoSeq1.wpAny_loadPart' u1,AutoSeq1.wpAny_loadPart' u2
  cases v1:xs[((i:Nat):Int).toNat]? with
  |none=>
   wp_walk using AutoSeq1.wpAny_loadPart' u1,AutoSeq1.wpAny_loadPart' u2
   exact q
  |some x=>
   cases v2:ys[((i:Nat):Int).toNat]? with
   |none=>
    wp_walk using AutoSeq1.wpAny_loadPart' u1,AutoSeq1.wpAny_loadPart' u2
    exact q
   |some y=>exact absurd (fin _ _ v1 v2) (by simp)
 |succ k ih=>
  intro i hk A R s h;obtain⟨hq,gs,dr,tk,oss⟩:=s;obtain⟨u1,u2,ue,uc,q⟩:=h;have t1:i<xs.size:=by omega
  have t2:i<ys.size:=by omega
  have tm:i<min xs.size ys.size:=by omega
  have v1:xs[((i:Nat):Int).toNat]? =some xs[i]:=by simp[t1]
  have v2:ys[((i:Nat):Int).toNat]? =some ys[i]:=by simp[t2]
  have v3:(List.range (min xs.size ys.size)).drop i=i::(List.range (min xs.size ys.size)).drop (i+1):=by simp[List.drop_eq_getElem_cons,tm]
  have v4:((i:Int)+1)=((i+1:Nat):Int):=by push_cast;rfl
  unfold ZfW at q
  rw[v3] at q
  unfold ZfV at q
  wp_walk using AutoSeq1.wpAny_loadPart' u1,AutoSeq1.wpAny_loadPart' u2
  rw[v1,v2];refine wpAny_bind (ue i t1 t2 _ _ ?_);cases ei:e i with
  |true=>
   rw[ei,if_pos rfl] at q
   wp_walk
   rw[v4];refine⟨plainId_quiet MeetsSeq3.plain_eq_loop _,codeAny_builtin MeetsSeq3.entry_eq_loop ?_⟩;rw[Around.under_plainId MeetsSeq3.plain_eq_loop _];exact ih (i+1) (by omega) A R _ ⟨u1,u2,ue,uc,q⟩
  |false=>
   rw[ei,if_neg (by simp)] at q
   wp_walk using AutoSeq1.wpAny_loadPart' u1,AutoSeq1.wpAny_loadPart' u2
   rw[v1,v2];refine wpAny_bind (uc i t1 t2 ei _ _ ?_)
   wp_walk
   exact q
theorem Zse:MeetsIn P w (Builtin.«list.__lt__» ⟨[.ref l,.ref b],[]⟩) (fun A R s=>s.heap.get? l=some (ZgM d1 xs n s1)/\s.heap.get? b=some (ZgM d2 ys m s2)/\
  (∀j (h1:j<xs.size) (h2:j<ys.size),EqP P w A.in1 s xs[j] ys[j] (e j))/\(∀j (h1:j<xs.size) (h2:j<ys.size),e j=false->RcP P w A.in1 s .Lt xs[j] ys[j] (c j))/\R (.ok (.ret (.bool (ZfW xs ys e c 0)))) s):=by
 intro A R s h;obtain⟨hq,gs,dr,tk,oss⟩:=s;obtain⟨u1,u2,ue,uc,q⟩:=h;have sub:=AutoSeq1.sub_list_list
 wp_walk using AutoSeq1.wpAny_loadPart' u1,AutoSeq1.wpAny_loadPart' u2
 refine⟨plainId_quiet MeetsSeq3.plain_eq_loop _,codeAny_builtin MeetsSeq3.entry_eq_loop ?_⟩;rw[Around.under_plainId MeetsSeq3.plain_eq_loop _];exact Zsd l b xs ys n m d1 d2 s1 s2 e c _ 0 rfl A R _ ⟨u1,u2,ue,uc,q⟩
theorem Ztj:MeetsIn P w (Builtin.«tuple.__lt__» ⟨[.ref l,.ref b],[]⟩) (fun A R s=>s.heap.get? l=some (ZmU d1 xs n s1)/\s.heap.get? b=some (ZmU d2 ys m s2)/\
  (∀j (h1:j<xs.size) (h2:j<ys.size),EqP P w A.in1 s xs[j] ys[j] (e j))/\(∀j (h1:j<xs.size) (h2:j<ys.size),e j=false->RcP P w A.in1 s .Lt xs[j] ys[j] (c j))/\R (.ok (.ret (.bool (ZfW xs ys e c 0)))) s):=
 .of_wp fun A R s h=>by
  obtain⟨hq,gs,dr,tk,oss⟩:=s;obtain⟨u1,u2,ue,uc,q⟩:=h;have sub:=AutoSeq1.sub_tuple_tuple;have zl:(xs.toList.zip ys.toList).length=min xs.size ys.size:=by simp
  wp_walk using AutoSeq1.wpAny_loadPart' u1,AutoSeq1.wpAny_loadPart' u2,wpAny_forIn_list _ (fun rest a s'=>a.1=none/\s'=⟨hq,gs,dr,tk,oss⟩/\∃i,rest=(xs.toList.zip ys.toList).drop i/\
   R (.ok (.ret (.bool (ZfW xs ys e c i)))) ⟨hq,gs,dr,tk,oss⟩) _
  case turn=>
   rintro⟨y,x⟩ rest a s' ⟨ha,rfl,i,zr,zq⟩;have lt:i<(xs.toList.zip ys.toList).length:=Nat.lt_of_not_le fun z=>by rw[List.drop_of_length_le z] at zr;cases zr
   have lm:i<min xs.size ys.size:=zl▸lt;have l1:i<xs.size:=by omega
   have l2:i<ys.size:=by omega
   rw[List.drop_eq_getElem_cons lt] at zr
   injection zr with zyx zrest
   obtain rfl:y=xs[i]:=by simpa using congrArg Prod.fst zyx
   obtain rfl:x=ys[i]:=by simpa using congrArg Prod.snd zyx
   have zd:(List.range (min xs.size ys.size)).drop i=i::(List.range (min xs.size ys.size)).drop (i+1):=by simp[List.drop_eq_getElem_cons,lm]
   unfold ZfW at zq
   rw[zd] at zq
   unfold ZfV at zq
   refine wpAny_bind (ue i l1 l2 _ _ ?_);cases ei:e i with
   |true=>
    rw[ei,if_pos rfl] at zq
    wp_walk
    exact⟨rfl,rfl,i+1,zrest,zq⟩
   |false=>
    rw[ei,if_neg (by simp)] at zq
    have rc:=uc i l1 l2 ei;unfold RcP at rc
    generalize richCompare CmpOp.Lt xs[i] ys[i]=m at rc⊢
    wp_walk
    first|refine wpAny_bind (rc _ _ ?_)|refine rc _ _ ?_
    wp_walk
    exact⟨_,rfl,zq⟩
  case fin=>
   rintro⟨a1,a2⟩ s' ⟨ha,rfl,i,zr,zq⟩;simp only at ha
   subst ha;have ge:min xs.size ys.size<=i:=Nat.le_of_not_lt fun z=>by rw[List.drop_eq_getElem_cons (zl▸z:i<(xs.toList.zip ys.toList).length)] at zr;cases zr
   unfold ZfW at zq
   rw[List.drop_of_length_le (by simpa using ge)] at zq
   wp_walk
   exact⟨_,rfl,by simpa [Builtin.Tuple.tupleCompareSizes,ZfV] using zq⟩
  case h=>exact⟨rfl,rfl,0,rfl,q⟩
end
section
variable {P:Program} {w:World} {A:Around} {s:Shared} {l b:Addr} {xs ys:Array Value} {e c:Nat->Bool}
theorem Zqq(hl:s.heap.IsList l xs)(hb:s.heap.IsList b ys)(hu:A.units<cLine)(he:∀j (h1:j<xs.size) (h2:j<ys.size),EqP P w A.in1 s xs[j] ys[j] (e j))(hc:∀j (h1:j<xs.size) (h2:j<ys.size),e j=false->RcP P w A.in1 s .Lt xs[j] ys[j] (c j)):RcP P w A s .Lt (.ref l) (.ref b) (ZfW xs ys e c 0):=by
 obtain⟨⟨c1,d1,t1,s1⟩,o1,k1,n,e1⟩:=id hl;obtain⟨⟨c2,d2,t2,s2⟩,o2,k2,m,e2⟩:=id hb;simp only at k1 e1 k2 e2
 subst k1 e1 k2 e2;exact fun E Q q=>wpAny_richCompare_same_room hl.typeIs hb.typeIs F.slot_list_lt (call_meetsIn F.slot_list_lt hl.typeIs F.entry_list_lt (F.args_list_lt_2 _ _) (Zse l b xs ys n m d1 d2 s1 s2 e c) ⟨o1,o2,he,hc,ZaJ q⟩) hu
theorem Zsf(hl:s.heap.IsTuple l xs)(hb:s.heap.IsTuple b ys)(hu:A.units<cLine)(he:∀j (h1:j<xs.size) (h2:j<ys.size),EqP P w A.in1 s xs[j] ys[j] (e j))(hc:∀j (h1:j<xs.size) (h2:j<ys.size),e j=false->RcP P w A.in1 s .Lt xs[j] ys[j] (c j)):RcP P w A s .Lt (.ref l) (.ref b) (ZfW xs ys e c 0):=by
 obtain⟨⟨c1,d1,t1,s1⟩,o1,k1,n,e1⟩:=id hl;obtain⟨⟨c2,d2,t2,s2⟩,o2,k2,m,e2⟩:=id hb;simp only at k1 e1 k2 e2
 subst k1 e1 k2 e2;exact fun E Q q=>wpAny_richCompare_same_room hl.typeIs hb.typeIs F.slot_tuple_lt (call_meetsIn F.slot_tuple_lt hl.typeIs F.entry_tuple_lt (F.args_tuple_lt_2 _ _) (Ztj l b xs ys n m d1 d2 s1 s2 e c) ⟨o1,o2,he,hc,ZaJ q⟩) hu
end
end L3
namespace L3
open PySem PySem.Spec PyProof.Rows L2 PySem.W PySem.Calls
def lfD(x:Lf):Dt:=.tup [.v (.str x.1),.v (.int x.2)]
def ZfX(l:List Lf):Dt:=.lst (l.map lfD)
def kyD(k:Ky):Dt:=.tup [.v (.int k.1),ZfX k.2]
theorem ZoJ(n:Nat)(x y:Lf):XJ (n+1) (lfD x) (lfD y)=decide (x=y):=by
 obtain⟨a,b⟩:=x;obtain⟨c,d⟩:=y;have e:XJ (n+1) (lfD (a,b)) (lfD (c,d))=((a==c)&&(b==d)):=by simp[lfD,XJ,eqV]
 rw[e]
 by_cases h:(a,b)=(c,d)
 ·injection h with h1 h2;subst h1 h2;simp
 ·rw[decide_eq_false h]
  by_cases h1:a=c
  ·subst h1;have h2:b≠d:=fun z=>h (by rw[z]);simp[h2]
  ·simp[h1]
theorem Zqr(n:Nat):∀x y:List Lf,XJ (n+2) (ZfX x) (ZfX y)=decide (x=y):=by
 have go:∀x y:List Lf,((x.map lfD).length==(y.map lfD).length&&((x.map lfD).zip (y.map lfD)).all fun p=>XJ (n+1) p.1 p.2)=decide (x=y):=by
  intro x
  induction x with
  |nil=>intro y;cases y<;>rfl
  |cons a r ih=>intro y;cases y with
   |nil=>rfl
   |cons b t=>
    rw[List.map_cons,List.map_cons,List.zip_cons_cons,List.all_cons,ZoJ,List.length_cons,List.length_cons];have e:((r.map lfD).length+1==(t.map lfD).length+1)=((r.map lfD).length==(t.map lfD).length):=by
     by_cases z:(r.map lfD).length=(t.map lfD).length
     ·rw[z];simp
     ·rw[beq_false_of_ne z,beq_false_of_ne (by omega)]
    rw[e,Bool.and_left_comm,ih t]
    by_cases z:a=b
    ·subst z;simp
    ·simp[z]
 exact fun x y=>go x y
theorem ZlX(n:Nat)(x y:Lf):ZaQ (n+1) (lfD x) (lfD y)=true:=by simp[lfD,ZaQ]
theorem ZoK(n:Nat)(x y:List Lf):ZaQ (n+2) (ZfX x) (ZfX y)=true:=by
 show(((x.map lfD).zip (y.map lfD)).all fun p=>ZaQ (n+1) p.1 p.2)=true;rw[List.all_eq_true];intro p hp;have h1:=(List.of_mem_zip hp).1;have h2:=(List.of_mem_zip hp).2;obtain⟨a,_,e1⟩:=List.mem_map.mp h1;obtain⟨b,_,e2⟩:=List.mem_map.mp h2;rw[<-e1,<-e2];exact ZlX n a b
theorem Zi6(e c:Nat->Bool)(fin:Bool):∀l:List Nat,ZfV e c fin (l.map Nat.succ)=ZfV (fun j=>e (j+1)) (fun j=>c (j+1)) fin l
 |[]=>rfl
 |i::r=>by
  show(if e (i+1)=true then ZfV e c fin (r.map Nat.succ) else c (i+1))=_;rw[Zi6 e c fin r]
  rfl
theorem Zi7{α:Type} [DecidableEq α](lt:α->α->Bool)(d:α):∀a b:List α,ZfV (fun j=>decide (a.getD j d=b.getD j d)) (fun j=>lt (a.getD j d) (b.getD j d)) (decide (a.length<b.length)) (List.range (min a.length b.length))=Ze2 lt a b
 |[],[]=>rfl
 |[],_::_=>by simp[ZfV,Ze2]
 |_::_,[]=>by simp[ZfV,Ze2]
 |x::a,y::b=>by
  rw[List.length_cons,List.length_cons,Nat.succ_min_succ,List.range_succ_eq_map];show(if decide (x=y)=true then ZfV _ _ _ _ else lt x y)=if x=y then Ze2 lt a b else lt x y;rw[Zi6];have e:decide (a.length+1<b.length+1)=decide (a.length<b.length):=by
   by_cases z:a.length<b.length
   ·rw[decide_eq_true z,decide_eq_true (by omega)]
   ·rw[decide_eq_false z,decide_eq_false (by omega)]
  rw[e,<-Zi7 lt d a b]
  by_cases z:x=y
  ·rw[if_pos z,if_pos (decide_eq_true z)];rfl
  ·rw[if_neg z,if_neg (by rw[decide_eq_false z];simp)]
section
variable {X:Cx} {pins:List (Addr×Obj)} {σ:L2.St} {H:Hp} {s:Shared} {A:Around}
theorem Zsg{x:Lf}{v:V}(r:Rep X.K H (lfD x) v):∃p,v=.ref p/\SqT X.K H p [.str x.1,.int x.2]:=by
 cases r with
 |tup h r=>
  cases r with
  |cons a r=>
   cases r with
   |cons b r=>
    cases r;cases a;cases b;exact⟨_,rfl,h⟩
theorem Zrj(I:L2.Inv X pins σ H s){x:Lf}{p:Addr}(h:SqT X.K H p [.str x.1,.int x.2]):∃t u,s.heap.IsTuple p #[.str x.1 t,.int x.2 u]:=by
 obtain⟨its,r,T,_⟩:=I.tuple h;cases r with
 |cons a r=>
  cases r with
  |cons b r=>
   cases r;obtain⟨t,rfl⟩:=a;obtain⟨u,rfl⟩:=b;exact⟨t,u,T⟩
theorem Ztk(I:L2.Inv X pins σ H s){x y:Lf}{a b:Addr}(ha:SqT X.K H a [.str x.1,.int x.2])(hb:SqT X.K H b [.str y.1,.int y.2])(hu:A.units<cLine):RcP X.prog X.w A s .Lt (.ref a) (.ref b) (ZeL x y):=by
 obtain⟨t,u,T1⟩:=Zrj I ha;obtain⟨t',u',T2⟩:=Zrj I hb;have go:=Zsf (P:=X.prog) (w:=X.w) (A:=A) (e:=fun j=>if j=0 then decide (x.1=y.1) else(x.2==y.2)) (c:=fun j=>if j=0 then ZfN x.1 y.1 else ZeK x.2 y.2) T1 T2 hu (fun j h1 h2=> ?_) (fun j h1 h2 z=> ?_)
 ·have e:ZfW #[Value.str x.1 t,Value.int x.2 u] #[Value.str y.1 t',Value.int y.2 u'] (fun j=>if j=0 then decide (x.1=y.1) else(x.2==y.2)) (fun j=>if j=0 then ZfN x.1 y.1 else ZeK x.2 y.2) 0=ZeL x y:=by
   show(if decide (x.1=y.1)=true then(if(x.2==y.2)=true then false else ZeK x.2 y.2) else ZfN x.1 y.1)=if x.1=y.1 then ZeK x.2 y.2 else ZfN x.1 y.1
   by_cases z:x.1=y.1
   ·rw[if_pos (decide_eq_true z),if_pos z]
    by_cases z2:x.2=y.2
    ·rw[z2,beq_self_eq_true,if_pos rfl,ZdR.irr]
    ·rw[beq_false_of_ne z2,if_neg (by simp)]
   ·rw[if_neg (by rw[decide_eq_false z];simp),if_neg z]
  rw[e] at go
  exact go
 ·match j,h1,h2 with
  |0,_,_=>exact fun E Q q=>wpAny_eqBool_str q
  |1,_,_=>exact fun E Q q=>wpAny_eqBool_int q
 ·match j,h1,h2 with
  |0,_,_=>exact fun E Q q=>PySem.P.lt_str q
  |1,_,_=>exact fun E Q q=>PyProof.Rows.lt_int q
theorem Zdc:∀{l:List Lf} {xs:List V} {us:List Value} (_:ZmW X.K H (l.map lfD) xs) (_:Yc xs us) (j:Nat) (h:j<us.length),∃p,us[j]=.ref p/\SqT X.K H p [.str (l.getD j (Str.empty,0)).1,.int (l.getD j (Str.empty,0)).2]
 |[],_,_,.nil,.nil,j,h=>absurd h (Nat.not_lt_zero _)
 |x::l,_,_,.cons r _,.cons v _,0,_=>by
  obtain⟨p,rfl,e⟩:=Zsg r;exact⟨p,v,e⟩
 |x::l,_,_,.cons _ t,.cons _ vt,j+1,h=>by
  obtain⟨p,a,b⟩:=Zdc t vt j (by simpa using h);exact⟨p,a,b⟩
theorem Zsh(I:L2.Inv X pins σ H s){x y:List Lf}{a b:Addr}(ha:Rep X.K H (ZfX x) (.ref a))(hb:Rep X.K H (ZfX y) (.ref b))(hu:A.units+5<cLine):RcP X.prog X.w A s .Lt (.ref a) (.ref b) (ZlW x y):=by
 cases ha with
 |lst ha ra=>
  cases hb with
  |lst hb rb=>
   obtain⟨us,r1,p1,_⟩:=I.list ha;obtain⟨vs,r2,p2,_⟩:=I.list hb;have l1:us.length=x.length:=by rw[<-r1.length,<-Paired.length ra,List.length_map]
   have l2:vs.length=y.length:=by rw[<-r2.length,<-Paired.length rb,List.length_map]
   have u1:A.in1.units+1<cLine:=by show A.units+1+1<cLine;omega
   have go:=Zqq (P:=X.prog) (w:=X.w) (A:=A) (e:=fun j=>decide (x.getD j (Str.empty,0)=y.getD j (Str.empty,0))) (c:=fun j=>ZeL (x.getD j (Str.empty,0)) (y.getD j (Str.empty,0))) p1.isList p2.isList (by omega) (fun j h1 h2=> ?_) (fun j h1 h2 z=> ?_)
   ·unfold ZfW at go
    rw[List.drop_zero,List.size_toArray,List.size_toArray,l1,l2,Zi7 ZeL (Str.empty,0) x y] at go
    exact go
   ·obtain⟨p,e1,q1⟩:=Zdc ra r1 j (by simpa using h1);obtain⟨q,e2,q2⟩:=Zdc rb r2 j (by simpa using h2);have rp:Rep X.K H (lfD (x.getD j (Str.empty,0))) (.ref p):=.tup q1 (.cons (.flat rfl) (.cons (.flat rfl) .nil));have rq:Rep X.K H (lfD (y.getD j (Str.empty,0))) (.ref q):=.tup q2 (.cons (.flat rfl) (.cons (.flat rfl) .nil));have:=(Zgf I 1 _ _ _ _ (.ref p) (.ref q) A.in1 rp rq rfl rfl (ZlX 0 _ _) u1).1
    rw[ZoJ] at this
    rw[List.getElem_toArray,List.getElem_toArray,e1,e2];exact this
   ·obtain⟨p,e1,q1⟩:=Zdc ra r1 j (by simpa using h1);obtain⟨q,e2,q2⟩:=Zdc rb r2 j (by simpa using h2);rw[List.getElem_toArray,List.getElem_toArray,e1,e2];exact Ztk I q1 q2 (by omega)
theorem Zlg{k:Ky}{v:V}(r:Rep X.K H (kyD k) v):∃p q,v=.ref p/\SqT X.K H p [.int k.1,.ref q]/\Rep X.K H (ZfX k.2) (.ref q):=by
 cases r with
 |tup h r=>
  cases r with
  |cons a r=>
   cases r with
   |cons b r=>
    cases r;cases a;have b':=b;cases b with
    |lst h2 r2=>exact⟨_,_,rfl,h,b'⟩
theorem ZoL(I:L2.Inv X pins σ H s){k:Ky}{p q:Addr}(h:SqT X.K H p [.int k.1,.ref q]):∃t o n,s.heap.get? p=some o/\o.cls=.type "tuple"/\o.data=.seq #[.int k.1 t,.ref q] n:=by
 obtain⟨its,r,T,_⟩:=I.tuple h;cases r with
 |cons a r=>
  cases r with
  |cons b r=>
   cases r;obtain⟨t,rfl⟩:=a;cases b;obtain⟨o,e,c,n,d⟩:=T;exact⟨t,o,n,e,c,d⟩
theorem Zsi(I:L2.Inv X pins σ H s){x y:Ky}{a b:V}{u v:Value}(ra:Rep X.K H (kyD x) a)(rb:Rep X.K H (kyD y) b)(ru:Ye a u)(rv:Ye b v)(hu:A.units+5<cLine){C:Bool->Shared->Prop}(h:C (Zk4 x y) s):wpAny (model X.prog X.w) A (keyLt' (tuples' true) u v) C (fun _ _=>False) s:=by
 obtain⟨p,q,rfl,hp,hq⟩:=Zlg ra;obtain⟨p',q',rfl,hp',hq'⟩:=Zlg rb;cases ru;cases rv;obtain⟨t,o,n,e1,_,e3⟩:=ZoL I hp;obtain⟨t',o',n',f1,_,f3⟩:=ZoL I hp';have hk:Zk4 x y=if x.1=y.1 then ZlW x.2 y.2 else ZeK x.1 y.1:=rfl;refine kat_lt e1 e3 f1 f3 ?_;show KatLex X.prog X.w A true false C [(.int x.1 t,.int y.1 t'),(.ref q,.ref q')] 0 s;refine kat_cons (wpAny_eqBool_int ?_)
 by_cases z:x.1=y.1
 ·rw[if_pos z] at hk
  rw[z,beq_self_eq_true];refine kat_yes (kat_cons ?_);have eq:=(Zgf I 2 _ _ _ _ (.ref q) (.ref q') A hq hq' rfl rfl (ZoK 0 _ _) (by omega)).1;rw[Zqr 0] at eq
  refine eq _ _ ?_
  by_cases z2:x.2=y.2
  ·rw[decide_eq_true z2];refine kat_yes (kat_nil ?_);rw[hk,z2,Zi5.irr] at h
   exact h
  ·rw[decide_eq_false z2];refine kat_no ?_;show wpAny (model X.prog X.w) A (oneLt' false (.ref q) (.ref q')) C (fun _ _=>False) s;refine kat_one _ _ (Zsh I hq hq' hu _ _ ?_);rw[hk] at h
   exact h
 ·rw[if_neg z] at hk
  rw[beq_false_of_ne z];refine kat_no ?_;show wpAny (model X.prog X.w) A (oneLt' true (.int x.1 t) (.int y.1 t')) C (fun _ _=>False) s;refine oneLt_int ?_;rw[hk] at h
  exact h
end
end L3
namespace L3
open PySem PySem.Spec PyProof.Rows L2 PySem.W PySem.Calls
section
variable {prog:Program} {w:World} {A:Around} {E:Value->Shared->Prop} {s:Shared} {ks vs:List Value} {ans:Nat->Nat->Bool}
def ZiW(prog:Program)(w:World)(A:Around)(κ:SortKind)(ks:List Value)(n:Nat)(ans:Nat->Nat->Bool)(s:Shared):Prop:=
 ∀i j,i<n->j<n->∀C:Bool->Shared->Prop,C (ans i j) s->wpAny (model prog w) A (keyLt' κ (ks.getD i Value.none) (ks.getD j Value.none)) C (fun _ _=>False) s
structure Zqs (ks vs:List Value) (ans:Nat->Nat->Bool) (st:SortSt):Prop where
 ex:∃p:Array Nat,Pl vs.length p/\JX ans p vs.length/\(arrOf st).map (·.2)=List.toArray (p.toList.map fun i=>vs.getD i Value.none)
 ok:failedOf st=none
theorem Zi8{Q:SortSt->Shared->Prop}{κ:SortKind}(o:Ord ans)(hl:ks.length=vs.length)(h2:2<=vs.length)(h64:vs.length<64)(hk:ZiW prog w A κ ks vs.length ans s)(q:∀st,Zqs ks vs ans st->Q st s):wpAny (model prog w) A ((sortRuns').run (SortSt.mk' κ (ks.toArray.zip vs.toArray) #[] 7 none)) (fun r s'=>Q r.2 s') E s:=by
 refine kat_run (G:=fun p s'=>Pl vs.length p/\JX ans p vs.length/\s'=s) hl h2 h64 (fun p st s' _ e f g=> ?_) (ZjZ (fun s'=>s'=s) (fun i j C s1 hi hj e hC=> ?_) (fun a s' z e=>⟨z.1,z.2,e⟩) _ s s (Zle o (by omega)) rfl)
 ·obtain⟨a,b,rfl⟩:=g;exact q st ⟨⟨p,a,b,kat_snds hl e⟩,f⟩
 ·subst e;exact hk i j hi hj _ (hC _ rfl)
theorem Zk5(o:Ord ans)(hl:ks.length=vs.length)(h2:vs.length<2)(κ:SortKind):Zqs ks vs ans (SortSt.mk' κ (ks.toArray.zip vs.toArray) #[] 7 none):=by
 refine⟨⟨List.toArray (List.range vs.length),⟨by simp,Array.Perm.refl _⟩,fun i j hij hj=> ?_, ?_⟩,rfl⟩
 ·have:i=j:=by omega
  subst this;exact o.irr _
 ·apply Array.toList_inj.mp
  show((ks.toArray.zip vs.toArray).map (·.2)).toList=_;rw[Array.toList_map,ksk_zip];show List.map (·.2) (ks.toArray.toList.zip vs)=(List.range vs.length).map fun i=>vs.getD i Value.none;have e:List.map (·.2) (ks.toArray.toList.zip vs)=vs:=List.map_snd_zip (by simp[hl]);rw[e]
  apply List.ext_getElem
  ·simp
  ·intro i h1 h3;simp[h1]
theorem Zn4{D kS:Addr}{e1:Nat}{P:PySem.Fin->Shared->Prop}(o:Ord ans)(hl:ks.length=vs.length)(h64:vs.length<64)
  (hk:2<=vs.length->wpAny (model prog w) A (keyKind' (List.toArray ks)) (fun κ s'=>s'=s/\ZiW prog w A κ ks vs.length ans s) (fun _ _=>False) s)
  (q:∀st,Zqs ks vs ans st->wpAny (model prog w) A (ksk_tail D false e1 (.ref kS) st) P E s):wpAny (model prog w) A (ksk_end D false vs.toArray e1 (.ref kS) (List.toArray ks)) P E s:=by
 unfold ksk_end
 dsimp only
 simp only [reduceIte,Bool.false_eq_true]
 by_cases h2:vs.length<2
 ·have h3:vs.toArray.size<2:=by rw[List.size_toArray];exact h2
  rw[if_pos h3,if_pos h3];exact wpAny_bind (wpAny_pure (wpAny_bind (wpAny_pure (q _ (Zk5 o hl h2 _)))))
 ·have h3:¬vs.toArray.size<2:=by rw[List.size_toArray];exact h2
  rw[if_neg h3,if_neg h3];refine wpAny_bind (wpAny_mono (hk (by omega)) (fun κ s0 z=> ?_) fun _ _ x=>x.elim);obtain⟨rfl,hk⟩:=z;exact wpAny_bind (Zi8 (Q:=fun st s'=>wpAny (model prog w) A (ksk_tail D false e1 (.ref kS) st) P E s') o hl (by omega) h64 hk q)
theorem Zlh{D kS:Addr}{e1 e:Nat}{out:List Value}{st:SortSt}{P:PySem.Fin->Shared->Prop}(hk:s.heap.get? kS=some (seqObj "list" (List.toArray ks) e))(hD:s.heap.get? D=some (seqObj "list" #[] e1))(ne:D≠kS)(hout:(arrOf st).map (·.2)=List.toArray out)(hz:out.length<64)(hkz:ks.length<64)(hf:failedOf st=none)
  (q:P (.done (.ret .none)) {s with heap:=(s.heap.update kS (Obj.mapSeq fun _=> #[])).update D (Obj.mapSeq fun _=>List.toArray out)}):wpAny (model prog w) A (ksk_tail D false e1 (.ref kS) st) P E s:=by
 unfold ksk_tail
 dsimp only
 simp only [reduceIte,Bool.false_eq_true];rw[hout,hf];have hD1:(s.heap.update kS (Obj.mapSeq fun _=>(#[]:Array Value))).get? D=some (seqObj "list" #[] e1):=(Heap.get?_update_other _ _ (Ne.symm ne)).trans hD;have z1:(List.toArray ks).size<=sizeLine:=by rw[List.size_toArray,sizeLine_eq];omega
 have z2:(List.toArray out).size<=sizeLine+1:=by rw[List.size_toArray,sizeLine_eq];omega
 refine wpAny_bind (listUpdate_at hk rfl (wpAny_bind (wpAny_letGo (wpAny_bind (seqEpoch_at hD1 rfl (wpAny_bind (listUpdate_at hD1 rfl ?_ (Nat.zero_le _) z2)))))) z1 (Nat.zero_le _));simp only [reduceIte,bne_self_eq_false,Bool.false_eq_true];exact wpAny_pure q
end
section
variable {X:Cx} {pins:List (Addr×Obj)} {σ:L2.St} {H:Hp} {s:Shared}
structure ZoM (X:Cx) (a:Addr):Prop where
 new:X.s₀.heap.objs.size<=a
 cells:∀x c,X.env.cells.lookup x=some c->c≠a
 pn:∀p∈X.pn,p.1≠a
theorem ZlY(I:L2.Inv X pins σ H s){a:Addr}(h:s.heap.objs.size<=a):ZoM X a:=by
 refine⟨Nat.le_trans I.sz h,fun x c e z=> ?_,fun p hp z=> ?_⟩
 ·obtain⟨v,o,e1,_⟩:=I.cell x c e;exact absurd (z▸Heap.lt_size e1) (Nat.not_lt.mpr h)
 ·exact absurd (z▸Heap.lt_size (I.pin p (List.mem_append_left _ hp)).1) (Nat.not_lt.mpr h)
theorem ZiX{ps:List (Addr×Obj)}{a:Addr}{o o':Obj}{h':Heap}(I:L2.Inv X ((a,o)::ps) σ H s)(l:ZoM X a)(n:∀p∈ps,p.1≠a)(k:∀b u,b≠a->s.heap.get? b=some u->h'.get? b=some u)(e:h'.get? a=some o')(nc:∀v,o'.data≠.cell v):L2.Inv X ((a,o')::ps) σ H {s with heap:=h'}:=by
 have pa:=I.pin (a,o) (List.mem_append_right _ (.head _));have I1:L2.Inv X ps σ H s:=I.pins_of fun p hp=>I.pin p (List.mem_append_right _ (.tail _ hp));have I2:L2.Inv X ps σ H {s with heap:=h'}:=I1.turned (it:=a) (t':=s.toks) k pa.2.1 pa.2.2.1 (.inr l.new) l.cells fun p hp=>(List.mem_append.mp hp).elim (l.pn p) (n p);refine I2.pins_of fun p hp=> ?_;rcases List.mem_cons.mp hp with rfl|hp
 ·exact⟨e,pa.2.1,pa.2.2.1,pa.2.2.2.1,nc⟩
 ·exact I2.pin p (List.mem_append_right _ hp)
theorem Xy{h:Heap}{a:Addr}{f:Array Value->Array Value}:∀b u,b≠a->h.get? b=some u->(h.update a (Obj.mapSeq f)).get? b=some u:=fun b u n e=>(Heap.get?_update_other _ _ (Ne.symm n)).trans e
theorem Zad{c:String}{xs:Array Value}{n:Nat}:∀v,(seqObj c xs n).data≠.cell v:=fun _ z=>nomatch z
def kys(sp:Sp):List V->List V->Hp->(List V->Hp->Prop)->Prop
 |[],ks,H,R=>R ks H
 |x::r,ks,H,R=>sp [x] H (fun k H2=>kys sp r (ks++[k]) H2 R) fun _ _ _=>False
variable {k:Nat} {g:Addr} {fd:FuncData} {p:Str} {sp:Sp}
theorem ZoN(F:Yo X.prog X.w X.K X.mg X.base CX0 k g fd [p] sp)(hb:JT X.K fd [p] [])(hr:Xb (k+2) X.A)(I:L2.Inv X pins σ H s){x:V}{u:Value}(r:Ye x u){Q:VK}(h:sp [x] H Q fun _ _ _=>False):
  wpAny (model X.prog X.w) X.A.in1.in1 (call (.ref g) [u]) (EP X pins σ Q) (fun _ _=>False) s:=by
 have bd:=hb s [u] I.kIn rfl;rw[List.append_nil] at bd
 refine wpAny_call (codeAny_mono (F.run X.A.in1.in1 X.stack s H ⟨[u],[]⟩ [u] [x] Q _ hr.in1.in1 I.env0.in1.in1 bd (.cons r .nil) h) fun r s2 z=> ?_);cases r with
 |ok fl=>
  cases fl with
  |ret u=>exact I.after z
  |next=>exact False.elim z
  |brk=>exact False.elim z
  |cont=>exact False.elim z
 |error ev=>exact False.elim z
theorem Zi9{E:Value->Shared->Prop}{D kS:Addr}{oD:Obj}{R:List V->Hp->Prop}{body:Value->PUnit->Sem (ForInStep PUnit)}
  (hb:∀(x:V) (u:Value) (ks:List Value) (e:Nat) (s:Shared) (H:Hp) (Q:VK),ks.length<64->L2.Inv X ((kS,seqObj "list" (List.toArray ks) e)::(D,oD)::pins) σ H s->Ye x u->sp [x] H Q (fun _ _ _=>False)->
   wpAny (model X.prog X.w) X.A.in1.in1 (body u ⟨⟩) (fun r s'=>r=.yield ⟨⟩/\∃v kv e' H',L2.Inv X ((kS,seqObj "list" (List.toArray (ks++[kv])) e')::(D,oD)::pins) σ H' s'/\Ye v kv/\Q v H') E s):
  ∀(r:List Value) (xr:List V) (ks:List Value) (kx:List V) (e:Nat) (s:Shared) (H:Hp),ks.length+r.length<64->L2.Inv X ((kS,seqObj "list" (List.toArray ks) e)::(D,oD)::pins) σ H s->Yc xr r->Yc kx ks->kys sp xr kx H R->
   wpAny (model X.prog X.w) X.A.in1.in1 (forIn r PUnit.unit body) (fun _ s'=>∃ks' kx' e' H',L2.Inv X ((kS,seqObj "list" (List.toArray ks') e')::(D,oD)::pins) σ H' s'/\Yc kx' ks'/\ks'.length=ks.length+r.length/\R kx' H') E s
 |[],xr,ks,kx,e,s,H,hl,I,rx,rk,h=>by
  cases rx;rw[List.forIn_nil];exact wpAny_pure ⟨ks,kx,e,H,I,rk,rfl,h⟩
 |u::r,xr,ks,kx,e,s,H,hl,I,rx,rk,h=>by
  cases rx with
  |cons ru rx=>
   rw[List.length_cons] at hl
   rw[List.forIn_cons];refine wpAny_bind (wpAny_mono (hb _ u ks e s H _ (by omega) I ru h) (fun q s' z=> ?_) fun _ _ x=>x);obtain⟨rfl,v,kv,e',H',I',rv,q'⟩:=z;have l2:(ks++[kv]).length=ks.length+1:=by rw[List.length_append];rfl
   refine wpAny_mono (Zi9 hb r _ (ks++[kv]) (kx++[v]) e' s' H' (by omega) I' rx (Yc.append rk (.cons rv .nil)) q') (fun _ s2 z=> ?_) fun _ _ x=>x;obtain⟨ks',kx',e2,H2,I2,r2,l3,q2⟩:=z;exact⟨ks',kx',e2,H2,I2,r2,by rw[l3,l2,List.length_cons];omega,q2⟩
theorem Zli{E:Value->Shared->Prop}{D kS:Addr}{e1:Nat}{xs:List V}{vs:List Value}{R:List V->Hp->Prop}{P:PySem.Fin->Shared->Prop}(F:Yo X.prog X.w X.K X.mg X.base CX0 k g fd [p] sp)(hb:JT X.K fd [p] [])(hr:Xb (k+2) X.A)(lk:ZoM X kS)(nD:D≠kS)(np:∀p∈pins,p.1≠kS)
  (I:L2.Inv X ((kS,seqObj "list" #[] 0)::(D,seqObj "list" #[] e1)::pins) σ H s)(rx:Yc xs vs)(h64:vs.length<64)(h:kys sp xs [] H R)
  (q:∀ks kx e H' s',L2.Inv X ((kS,seqObj "list" (List.toArray ks) e)::(D,seqObj "list" #[] e1)::pins) σ H' s'->Yc kx ks->ks.length=vs.length->R kx H'->wpAny (model X.prog X.w) X.A.in1.in1 (ksk_end D false vs.toArray e1 (.ref kS) (List.toArray ks)) P E s'):
  wpAny (model X.prog X.w) X.A.in1.in1 (ksk_rest D (.ref g) false vs.toArray e1 (.ref kS)) P E s:=by
 unfold ksk_rest;refine wpAny_bind (wpAny_rule ?_);rw[List.forIn_toArray];refine wpAny_bind (wpAny_mono (Zi9 (sp:=sp) (R:=R) (fun x u ks e s H Q hz I ru hs=> ?_) vs xs [] [] 0 s H (by simpa using h64) I rx .nil h) (fun _ s' z=> ?_) fun _ _ x=>x)
 ·refine wpAny_bind (wpAny_attempt (wpAny_mono (ZoN F hb hr I ru hs) (fun kv s2 z=> ?_) fun _ _ x=>x.elim));obtain⟨v,H2,I2,rv,q2⟩:=z;have pk:=(I2.pin (kS,seqObj "list" (List.toArray ks) e) (List.mem_append_right _ (.head _))).1;have ea:(List.toArray ks).push kv=List.toArray (ks++[kv]):=by simp
  have up:=get?_update_seq pk (·.push kv);rw[ea] at up
  dsimp only
  refine wpAny_bind (listUpdate_at pk rfl ?_ (by rw[List.size_toArray,sizeLine_eq];omega) (Nat.le_trans (Nat.le_of_eq (Array.size_push ..)) (by rw[List.size_toArray,sizeLine_eq];omega)))
  refine wpAny_pure ⟨rfl,v,kv,_,H2,ZiX I2 lk (fun p hp=> ?_) Xy up Zad,rv,q2⟩;rcases List.mem_cons.mp hp with rfl|hp
  ·exact nD
  ·exact np p hp
 ·obtain⟨ks,kx,e,H2,I2,rk,l,r2⟩:=z;have pk:=(I2.pin (kS,seqObj "list" (List.toArray ks) e) (List.mem_append_right _ (.head _))).1
  try dsimp only
  refine wpAny_bind (listItems_at pk rfl ?_);exact q ks kx e H2 s' I2 rk (by simpa using l) r2
theorem ZlZ{K:PySem.W.Frag}:∀{kk:List Ky} {kx:List V} {ks:List Value} (_:Paired (fun y x=>Rep K H (kyD y) x) kk kx) (_:Yc kx ks) (i:Nat),i<ks.length->∃x,Rep K H (kyD (kk.getD i (0,[]))) x/\Ye x (ks.getD i Value.none)
 |_,_,_,.nil,.nil,i,h=>absurd h (Nat.not_lt_zero _)
 |_,_,_,.cons r _,.cons v _,0,_=>⟨_,r,v⟩
 |_,_,_,.cons _ t,.cons _ vt,i+1,h=>by
  obtain⟨x,a,b⟩:=ZlZ t vt i (by simpa using h);exact⟨x,a,b⟩
theorem Zia(I:L2.Inv X pins σ H s):∀{kk:List Ky} {kx:List V} {ks:List Value} (_:Paired (fun y x=>Rep X.K H (kyD y) x) kk kx) (_:Yc kx ks),∃fs,KatTups s.heap ks fs/\fs.length=ks.length/\∀v∈fs,∃n t,v=Value.int n t
 |_,_,_,.nil,.nil=>⟨[],.nil,rfl,fun v hv=>nomatch hv⟩
 |_,_,_,.cons (a:=y) r t,.cons v vt=>by
  obtain⟨fs,a,b,c⟩:=Zia I t vt;obtain⟨p,q,rfl,hp,hq⟩:=Zlg r;obtain⟨tk,o,n,e1,e2,e3⟩:=ZoL I hp;cases v;refine⟨.int y.1 tk::fs,.cons e1 e2 e3 rfl a,by rw[List.length_cons,List.length_cons,b],fun w hw=> ?_⟩;rcases List.mem_cons.mp hw with rfl|hw
  ·exact⟨_,_,rfl⟩
  ·exact c w hw
theorem Zm0:∀{xs:List V} {vs:List Value} (_:Yc xs vs) (i:Nat),i<vs.length->Ye (xs.getD i .non) (vs.getD i Value.none)
 |_,_,.nil,i,h=>absurd h (Nat.not_lt_zero _)
 |_,_,.cons v _,0,_=>v
 |_,_,.cons _ t,i+1,h=>Zm0 t i (by simpa using h)
theorem Zqt{xs:List V}{vs:List Value}(r:Yc xs vs){p:Array Nat}(pl:Pl vs.length p):Yc (p.toList.map fun i=>xs.getD i .non) (p.toList.map fun i=>vs.getD i Value.none):=by
 have mem:∀i∈p.toList,i<vs.length:=fun i hi=>by
  have:=(Array.perm_iff_toList_perm.mp pl.perm).mem_iff (a:=i)
  simpa using this.mp hi
 have go:∀l:List Nat,(∀i∈l,i<vs.length)->Yc (l.map fun i=>xs.getD i .non) (l.map fun i=>vs.getD i Value.none):=by
  intro l
  induction l with
  |nil=>exact fun _=> .nil
  |cons i l ih=>exact fun h=> .cons (Zm0 r i (h i (.head _))) (ih fun j hj=>h j (.tail _ hj))
 exact go _ mem
theorem Zqu{α β:Type}{xs:List α}{ks:List β}{a:α}{b:β}(hl:xs.length=ks.length){p:Array Nat}(pl:Pl xs.length p):(p.toList.map fun i=>(xs.getD i a,ks.getD i b)).Perm (xs.zip ks):=by
 have e:(List.range xs.length).map (fun i=>(xs.getD i a,ks.getD i b))=xs.zip ks:=by
  apply List.ext_getElem
  ·simp[hl]
  ·intro i h1 h2;have h3:i<xs.length:=by simpa using h1
   have h4:i<ks.length:=by omega
   simp[h3,h4]
 rw[<-e];refine List.Perm.map _ ?_
 simpa using Array.perm_iff_toList_perm.mp pl.perm
theorem Zm1{α β:Type}{lt:β->β->Bool}{f:Nat->α}{kk:Nat->β}{n:Nat}{p:Array Nat}(so:JX (fun i j=>lt (kk i) (kk j)) p n)(pl:Pl n p):(p.toList.map fun i=>(f i,kk i)).Pairwise (fun a b=>lt b.2 a.2=false):=by
 rw[List.pairwise_map,List.pairwise_iff_getElem];intro i j hi hj hij;have sz:p.toList.length=n:=by rw[Array.length_toList,pl.size]
 have h:=so i j (Nat.le_of_lt hij) (by omega);have e:∀m (hm:m<p.toList.length),at_ p m=p.toList[m]:=fun m hm=>by
  have hm':m<p.size:=by simpa using hm
  simp[at_,Array.getD,hm']
 rw[e i hi,e j hj] at h
 exact h
theorem ZiY{E:Value->Shared->Prop}{l:Addr}{xs:List V}{Q:VK}(F:Yo X.prog X.w X.K X.mg X.base CX0 k g fd [p] sp)(hb:JT X.K fd [p] [])(hr:Xb (k+2) X.A)(I:L2.Inv X pins σ H s)(hq:SqL X.K H l xs)(h64:xs.length<64)
  (h:kys sp xs [] H fun kx H2=>∃kk:List Ky,Paired (fun y x=>Rep X.K H2 (kyD y) x) kk kx/\∀zs:List (V×Ky),zs.Perm (xs.zip kk)->zs.Pairwise (fun a b=>Zk4 b.2 a.2=false)->∀D,H2 D=none->Q (.ref D) (upd H2 D (.lst (zs.map (·.1))))):
  wpAny (model X.prog X.w) X.A (call (.builtin "sorted") [.ref l] [(Str.ofString "key",.ref g)]) (EP X pins σ Q) E s:=by
 obtain⟨vs,rx,pl,_⟩:=I.list hq;have hn:vs.length<64:=by rw[<-rx.length];exact h64
 have hz:vs.length<=sizeLine:=by rw[sizeLine_eq];omega
 refine call_function_entry_kw kind_sorted plain_sorted entry_sorted (ksk_s1 _ _) ?_;unfold Builtin.«sorted»;refine wpAny_bind (m:=checkCount "sorted" 1 1 _) (wpAny_pure (wpAny_bind (collect_list pl.isList (wpAny_bind (wpAny_newList ?_ hz)) hz)));have sz1:((s.heap.push (seqObj "list" #[] 0)).update s.heap.objs.size (Obj.mapSeq (· ++vs.toArray))).objs.size=s.heap.objs.size+1:=by rw[Heap.size_update,size_push']
 generalize hh1:(s.heap.push (seqObj "list" #[] 0)).update s.heap.objs.size (Obj.mapSeq (· ++vs.toArray))=h1 at sz1
 have k1:∀b u,s.heap.get? b=some u->h1.get? b=some u:=fun b u e=>by
  have hlt:=Heap.lt_size e;rw[<-hh1];exact Xy b u (Nat.ne_of_lt hlt) (Heap.get?_push_of_some _ e)
 generalize hD:h1.objs.size=D at sz1
 have oD:(h1.push (seqObj "list" vs.toArray 0)).get? D=some (seqObj "list" vs.toArray 0):=by rw[<-hD];exact Heap.get?_push_size _ rfl
 refine wpAny_bind (wpAny_holding (wpAny_call_entry_kw slot_list_sort ⟨_,oD,rfl⟩ entry_list_sort ?body (ksk_l1 _ _)));show wpAny (model X.prog X.w) X.A.in1.in1 (Builtin.«list.sort» ⟨[.ref D],[(Str.ofString "key",.ref g)]⟩) _ _ _;rw[ksk_t1];unfold ksk_tree;obtain⟨e1,oD1⟩:∃e1,((h1.push (seqObj "list" vs.toArray 0)).update D (Obj.mapSeq fun _=>(#[]:Array Value))).get? D=some (seqObj "list" #[] e1):=⟨_,get?_update_seq oD fun _=> #[]⟩
 have za:vs.toArray.size<=sizeLine:=by rw[List.size_toArray];exact hz
 refine wpAny_bind (listItems_at oD rfl (wpAny_bind (listUpdate_at oD rfl (wpAny_bind (seqEpoch_at oD1 rfl (wpAny_bind (wpAny_newTuple (wpAny_bind (wpAny_newList (wpAny_holding ?_) (Nat.zero_le _))) hz)))) za (Nat.zero_le _))));have sz2:(((h1.push (seqObj "list" vs.toArray 0)).update D (Obj.mapSeq fun _=>(#[]:Array Value))).push (seqObj "tuple" vs.toArray 0)).objs.size=D+2:=by rw[size_push',Heap.size_update,size_push',hD]
 have k2:∀b u,s.heap.get? b=some u->((((h1.push (seqObj "list" vs.toArray 0)).update D (Obj.mapSeq fun _=>(#[]:Array Value))).push (seqObj "tuple" vs.toArray 0)).push (seqObj "list" #[] 0)).get? b=some u:=fun b u e=>by
  have hlt:=Heap.lt_size e;exact Heap.get?_push_of_some _ (Heap.get?_push_of_some _ (Xy b u (Nat.ne_of_lt (Nat.lt_of_lt_of_le hlt (by omega))) (Heap.get?_push_of_some _ (k1 b u e))))
 have I0:L2.Inv X pins σ H {s with heap:=(((h1.push (seqObj "list" vs.toArray 0)).update D (Obj.mapSeq fun _=>(#[]:Array Value))).push (seqObj "tuple" vs.toArray 0)).push (seqObj "list" #[] 0)}:=I.kept (t':=s.toks) k2;have oK:((((h1.push (seqObj "list" vs.toArray 0)).update D (Obj.mapSeq fun _=>(#[]:Array Value))).push (seqObj "tuple" vs.toArray 0)).push (seqObj "list" #[] 0)).get? (D+2)=some (seqObj "list" #[] 0):=by rw[<-sz2];exact Heap.get?_push_size _ rfl
 have oD2:((((h1.push (seqObj "list" vs.toArray 0)).update D (Obj.mapSeq fun _=>(#[]:Array Value))).push (seqObj "tuple" vs.toArray 0)).push (seqObj "list" #[] 0)).get? D=some (seqObj "list" #[] e1):=Heap.get?_push_of_some _ (Heap.get?_push_of_some _ oD1);have fresh:∀a,s.heap.objs.size<=a->H a=none/\a≠X.env.locals/\a∉X.fs:=fun a ha=>⟨I.hok.fresh ha,fun z=>absurd (z▸ha) (Nat.not_le.mpr I.lt),I.nofs ha⟩
 have lK:ZoM X (D+2):=ZlY I (by omega);have lD:ZoM X D:=ZlY I (by omega);have old:∀p∈pins,p.1<s.heap.objs.size:=fun p hp=>Heap.lt_size (I.pin p (List.mem_append_right _ hp)).1;have I2:L2.Inv X ((D+2,seqObj "list" #[] 0)::(D,seqObj "list" #[] e1)::pins) σ H {s with heap:=(((h1.push (seqObj "list" vs.toArray 0)).update D (Obj.mapSeq fun _=>(#[]:Array Value))).push (seqObj "tuple" vs.toArray 0)).push (seqObj "list" #[] 0)}:=I0.pins_of fun p hp=>by
  rcases List.mem_cons.mp hp with rfl|hp
  ·exact⟨oK,(fresh _ (by omega)).1,(fresh _ (by omega)).2.1,(fresh _ (by omega)).2.2,Zad⟩
  ·obtain rfl|hp:=List.mem_cons.mp hp
   ·exact⟨oD2,(fresh _ (by omega)).1,(fresh _ (by omega)).2.1,(fresh _ (by omega)).2.2,Zad⟩
   ·exact I0.pin p (List.mem_append_right _ hp)
 dsimp only
 rw[sz2];have nD:D≠D+2:=Nat.ne_of_lt (Nat.lt_add_of_pos_right (by decide));refine Zli F hb hr lK nD (fun p hp=>Nat.ne_of_lt (Nat.lt_of_lt_of_le (old p hp) (by omega))) I2 rx hn h fun ks kx e H3 s3 I3 rk lk ⟨kk,rp,q⟩=> ?_;have u5:X.A.in1.in1.units+5<cLine:=by
  have:=hr.units;show X.A.units+1+1+5<cLine;omega
 have lkk:kk.length=vs.length:=by rw[<-lk,<-rk.length];exact Paired.length rp
 have pk:=(I3.pin (D+2,seqObj "list" (List.toArray ks) e) (List.mem_append_right _ (.head _))).1;have pD:=I3.pin (D,seqObj "list" #[] e1) (List.mem_append_right _ (.tail _ (.head _)));have at1:∀i,i<vs.length->∃x v,Ye x (ks.getD i Value.none)/\Rep X.K H3 (kyD (kk.getD i (0,[]))) x/\v=ks.getD i Value.none:=fun i hi=>by
  obtain⟨x,r1,r2⟩:=ZlZ rp rk i (by omega);exact⟨x,_,r2,r1,rfl⟩
 refine Zn4 (ans:=fun i j=>Zk4 (kk.getD i (0,[])) (kk.getD j (0,[]))) (ZeM.ord _) lk hn (fun h2=> ?_) fun st dn=> ?_
 ·obtain⟨fs,t1,t2,t3⟩:=Zia I3 rp rk;refine kat_kind (T:=.type "int") t1 (by omega) (fun v hv=> ?_) rfl ⟨rfl,fun i j hi hj C hC=> ?_⟩
  ·obtain⟨n,t,rfl⟩:=t3 v hv;exact Looks.of_pure rfl
  ·obtain⟨x,_,r1,r2,_⟩:=at1 i hi;obtain⟨y,_,r3,r4,_⟩:=at1 j hj;exact Zsi I3 r2 r4 r1 r3 u5 hC
 ·obtain⟨⟨pp,pl2,so,ho⟩,hf⟩:=dn;have lout:(pp.toList.map fun i=>vs.getD i Value.none).length=vs.length:=by rw[List.length_map,Array.length_toList,pl2.size]
  refine Zlh pk pD.1 nD ho (by omega) (by omega) hf ⟨_,rfl,wpAny_pure ⟨_,rfl, ?_⟩⟩;have J1:=ZiX I3 lK (fun p hp=> ?n1) Xy (get?_update_seq pk fun _=> #[]) Zad;have J2:L2.Inv X ((D,seqObj "list" #[] e1)::pins) σ H3 {s3 with heap:=s3.heap.update (D+2) (Obj.mapSeq fun _=> #[])}:=J1.pins_of fun p hp=>J1.pin p (List.mem_append_right _ (.tail _ hp));have pD2:=(J2.pin (D,seqObj "list" #[] e1) (List.mem_append_right _ (.head _))).1
  have up:=get?_update_seq pD2 fun _=>List.toArray (pp.toList.map fun i=>vs.getD i Value.none);have J3:=ZiX J2 lD (fun p hp=>Nat.ne_of_lt (Nat.lt_of_lt_of_le (old p hp) (by omega))) Xy up Zad;have J4:L2.Inv X pins σ H3 {s3 with heap:=(s3.heap.update (D+2) (Obj.mapSeq fun _=> #[])).update D (Obj.mapSeq fun _=>List.toArray (pp.toList.map fun i=>vs.getD i Value.none))}:=J3.pins_of fun p hp=>J3.pin p (List.mem_append_right _ (.tail _ hp))
  have rv:=Zqt rx pl2;have J5:=ZaS (n:=D) (q:=.lst (pp.toList.map fun i=>xs.getD i .non)) I J4 pD.2.1 (by
   cases z:s.heap.get? D with
   |none=>rfl
   |some o=>exact absurd (Heap.lt_size z) (Nat.not_lt.mpr (by omega))) ⟨by rw[rv.length,lout];exact hz,_,_,rv,up⟩
  refine⟨.ref D,_,J5,rfl, ?_⟩;have fin:=q (pp.toList.map fun i=>(xs.getD i .non,kk.getD i (0,[]))) (Zqu (by rw[rx.length,lkk]) (by rw[rx.length];exact pl2)) (Zm1 so pl2) D pD.2.1
  rw[List.map_map] at fin
  exact fin
  case n1=>
   rcases List.mem_cons.mp hp with rfl|hp
   ·exact nD
   ·exact Nat.ne_of_lt (Nat.lt_of_lt_of_le (old p hp) (by omega))
end
end L3
namespace L3
open PySem PySem.Spec PyProof.Rows L2 PySem.W PySem.Calls
section
variable {prog:Program} {w:World} {A:Around} {E:Value->Shared->Prop} {s:Shared} {vs:List Value} {ans:Nat->Nat->Bool}
abbrev Zco(h:Heap)(D:Addr)(vs:List Value):Heap:=((h.update D (Obj.mapSeq fun _=>(#[]:Array Value))).push (seqObj "tuple" vs.toArray 0)).push (seqObj "list" #[] 0)
theorem Zlj{D:Addr}{n:Nat}{P:PySem.Fin->Shared->Prop}(ho:s.heap.get? D=some (seqObj "list" vs.toArray n))(h64:vs.length<64)(o:Ord ans)
  (hk:2<=vs.length->wpAny (model prog w) A (keyKind' vs.toArray) (fun κ s'=>s'={s with heap:=Zco s.heap D vs}/\ZiW prog w A κ vs vs.length ans {s with heap:=Zco s.heap D vs}) (fun _ _=>False) {s with heap:=Zco s.heap D vs})
  (q:∀p:Array Nat,Pl vs.length p->JX ans p vs.length->P (.done (.ret .none)) {s with heap:=sortedHeap s.heap D vs (List.toArray (p.toList.map fun i=>vs.getD i Value.none))}):wpAny (model prog w) A (Builtin.«list.sort» ⟨[.ref D],[]⟩) P E s:=by
 have hz:vs.length<=sizeLine:=by rw[sizeLine_eq];omega
 have za:vs.toArray.size<=sizeLine:=by rw[List.size_toArray];exact hz
 obtain⟨e1,o1⟩:∃e1,(s.heap.update D (Obj.mapSeq fun _=>(#[]:Array Value))).get? D=some (seqObj "list" #[] e1):=⟨_,get?_update_seq ho fun _=> #[]⟩
 have o2:(Zco s.heap D vs).get? D=some (seqObj "list" #[] e1):=Heap.get?_push_of_some _ (Heap.get?_push_of_some _ o1);rw[list_sort_plain];refine wpAny_bind (listItems_at ho rfl (wpAny_bind (listUpdate_at ho rfl (wpAny_bind (seqEpoch_at o1 rfl (wpAny_bind (wpAny_newTuple (wpAny_bind (wpAny_newList (wpAny_holding ?_) (Nat.zero_le _))) hz)))) za (Nat.zero_le _))));have zp:∀p:Array Nat,Pl vs.length p->(List.toArray (p.toList.map fun i=>vs.getD i Value.none)).size<=sizeLine+1:=fun p pl=>by rw[List.size_toArray,List.length_map,Array.length_toList,pl.size,sizeLine_eq];omega
 dsimp only
 by_cases h2:vs.length<2
 ·have h3:vs.toArray.size<2:=by rw[List.size_toArray];exact h2
  rw[if_pos h3,if_pos h3];refine wpAny_bind (wpAny_pure ?_);refine wpAny_bind (wpAny_pure ?_);obtain⟨⟨p,pl,so,hout⟩,_⟩:=Zk5 (ks:=vs) o rfl h2 general'
  try dsimp only
  rw[hout];refine wpAny_bind (seqEpoch_at o2 rfl (wpAny_bind (listUpdate_at o2 rfl ?_ (Nat.zero_le _) (zp p pl))));simp only [reduceIte,bne_self_eq_false,Bool.false_eq_true];exact wpAny_pure (q p pl so)
 ·have h3:¬vs.toArray.size<2:=by rw[List.size_toArray];exact h2
  rw[if_neg h3,if_neg h3];refine wpAny_bind (wpAny_mono (hk (by omega)) (fun κ s0 z=> ?_) fun _ _ x=>x.elim);obtain⟨rfl,ak⟩:=z;refine wpAny_bind (wpAny_mono (Zi8 (Q:=fun st s'=>Zqs vs vs ans st/\s'={s with heap:=Zco s.heap D vs}) o rfl (by omega) h64 ak fun st dn=>⟨dn,rfl⟩) (fun r s' z=> ?_) fun _ _ x=>x);obtain⟨⟨⟩,st⟩:=r;obtain⟨⟨⟨p,pl,so,hout⟩,hf⟩,rfl⟩:=z
  try dsimp only
  rw[hout,hf];refine wpAny_bind (seqEpoch_at o2 rfl (wpAny_bind (listUpdate_at o2 rfl ?_ (Nat.zero_le _) (zp p pl))));simp only [reduceIte,bne_self_eq_false,Bool.false_eq_true];exact wpAny_pure (q p pl so)
end
section
variable {X:Cx} {pins:List (Addr×Obj)} {σ:L2.St} {H:Hp} {s:Shared}
theorem Zk6{h:Heap}{D:Addr}{vs:List Value}:∀b u,b≠D->h.get? b=some u->(Zco h D vs).get? b=some u:=fun b u n e=>Heap.get?_push_of_some _ (Heap.get?_push_of_some _ (Xy b u n e))
theorem Zib{s':Shared}(I0:L2.Inv X pins σ H s):∀(l:List (Addr×List V)) (H1:Hp),L2.Inv X pins σ H1 s'->(l.map (·.1)).Nodup->(∀a∈l,H1 a.1=none/\s.heap.get? a.1=none/\a.2.length<=sizeLine/\∃its,Yc a.2 its/\IsTup s'.heap a.1 its.toArray)->
  ∃H2,L2.Inv X pins σ H2 s'/\ZJ H1 H2/\(∀a∈l,H2 a.1=some (.tup a.2))/\∀b,b∉l.map (·.1)->H2 b=H1 b
 |[],H1,I,_,_=>⟨H1,I,ZJ.refl H1,(fun a h=>nomatch h),fun _ _=>rfl⟩
 |a::l,H1,I,nd,h=>by
  rw[List.map_cons,List.nodup_cons] at nd
  obtain⟨n1,n2,z,its,rv,tp⟩:=h a (List.mem_cons_self ..);have I1:=ZaS (n:=a.1) (q:=.tup a.2) I0 I n1 n2 ⟨z,its,rv,tp⟩;have nm:∀b∈l,b.1≠a.1:=fun b hb e=>nd.1 (List.mem_map.mpr ⟨b,hb,e⟩);obtain⟨H2,I2,s2,al,ot⟩:=Zib I0 l _ I1 nd.2 fun b hb=>by
   obtain⟨m1,m2,m3⟩:=h b (List.mem_cons_of_mem _ hb);exact⟨by rw[Zr (nm b hb)];exact m1,m2,m3⟩
  refine⟨H2,I2,fun b u e=>s2 b u (by rw[Zr (ZC e n1)];exact e),fun b hb=> ?_,fun b hb=> ?_⟩
  ·obtain rfl|hb:=List.mem_cons.mp hb
   ·exact s2 _ _ Zc
   ·exact al b hb
  ·rw[List.map_cons] at hb
   rw[ot b fun z=>hb (List.mem_cons_of_mem _ z),Zr fun e=>hb (by rw[e];exact List.mem_cons_self ..)]
end
end L3
namespace L3
open PySem PySem.Spec PyProof.Rows L2 PySem.W PySem.Calls
theorem Zqv{prog:Program}{w:World}{A:Around}{s:Shared}{x y:Lf}{a b:Addr}{t t' u u':Tok}(ha:s.heap.IsTuple a #[.str x.1 t,.int x.2 u])(hb:s.heap.IsTuple b #[.str y.1 t',.int y.2 u']){C:Bool->Shared->Prop}(h:C (ZeL x y) s):
  wpAny (model prog w) A (keyLt' (tuples' true) (.ref a) (.ref b)) C (fun _ _=>False) s:=by
 obtain⟨o,e1,c1,n,e3⟩:=ha;obtain⟨o',f1,c2,n',f3⟩:=hb;have hk:ZeL x y=if x.1=y.1 then ZeK x.2 y.2 else ZfN x.1 y.1:=rfl;refine kat_lt e1 e3 f1 f3 ?_;show KatLex prog w A true false C [(.str x.1 t,.str y.1 t'),(.int x.2 u,.int y.2 u')] 0 s;refine kat_cons (wpAny_eqBool_str ?_)
 by_cases z:x.1=y.1
 ·rw[if_pos z] at hk
  rw[decide_eq_true z];refine kat_yes (kat_cons (wpAny_eqBool_int ?_))
  by_cases z2:x.2=y.2
  ·rw[z2,beq_self_eq_true];refine kat_yes (kat_nil ?_);rw[hk,z2,ZdR.irr] at h
   exact h
  ·rw[beq_false_of_ne z2];refine kat_no ?_;show wpAny (model prog w) A (oneLt' false (.int x.2 u) (.int y.2 u')) C (fun _ _=>False) s;refine kat_one _ _ (PyProof.Rows.lt_int ?_);rw[hk] at h
   exact h
 ·rw[if_neg z] at hk
  rw[decide_eq_false z];refine kat_no ?_;show wpAny (model prog w) A (oneLt' true (.str x.1 t) (.str y.1 t')) C (fun _ _=>False) s;refine oneLt_str ?_;rw[hk] at h
  exact h
def Zaz(h:Heap):List Addr->List Lf->Prop:=Paired fun a x=>∃t u,h.IsTuple a #[.str x.1 t,.int x.2 u]
theorem Zk7{h:Heap}:∀{as:List Addr} {c:List Lf},as.length=c.length->(∀(j:Nat) (a:Addr),as[j]? =some a->∃(x:Lf) (t u:Tok),c[j]? =some x/\h.IsTuple a #[.str x.1 t,.int x.2 u])->Zaz h as c
 |[],[],_,_=> .nil
 |[],_::_,e,_=>nomatch e
 |_::_,[],e,_=>nomatch e
 |a::as,x::c,e,k=>by
  obtain⟨y,t,u,e1,q⟩:=k 0 a rfl;cases e1;exact .cons ⟨t,u,q⟩ (Zk7 (by simpa using e) fun j b f=>k (j+1) b (by simpa using f))
theorem Zaz.at{h:Heap}:∀{as:List Addr} {c:List Lf},Zaz h as c->∀i,i<as.length->∃t u,h.IsTuple (as.getD i 0) #[.str (c.getD i (Str.empty,0)).1 t,.int (c.getD i (Str.empty,0)).2 u]
 |_,_,.nil,i,hi=>absurd hi (Nat.not_lt_zero _)
 |_,_,.cons r _,0,_=>r
 |_,_,.cons _ t,i+1,hi=>Zaz.at t i (by simpa using hi)
theorem Zaz.mono{h h':Heap}:∀{as:List Addr} {c:List Lf},Zaz h as c->(∀a∈as,∀o,h.get? a=some o->h'.get? a=some o)->Zaz h' as c
 |_,_,.nil,_=> .nil
 |_,_,.cons ⟨t,u,o,e,r⟩ k,f=> .cons ⟨t,u,o,f _ (List.mem_cons_self ..) o e,r⟩ (Zaz.mono k fun a ha=>f a (List.mem_cons_of_mem _ ha))
theorem Zaz.tups{h:Heap}:∀{as:List Addr} {c:List Lf},Zaz h as c->∃fs,KatTups h (as.map Value.ref) fs/\fs.length=as.length/\∀v∈fs,∃x t,v=Value.str x t
 |_,_,.nil=>⟨[],.nil,rfl,fun v hv=>nomatch hv⟩
 |_,_,.cons ⟨t,u,o,e,c,n,d⟩ k=>by
  obtain⟨fs,a,b,z⟩:=Zaz.tups k;refine⟨_::fs,.cons e c d rfl a,by rw[List.length_cons,List.length_cons,b],fun w hw=> ?_⟩;rcases List.mem_cons.mp hw with rfl|hw
  ·exact⟨_,_,rfl⟩
  ·exact z w hw
theorem Zaz.each{h:Heap}:∀{as:List Addr} {c:List Lf},Zaz h as c->∀p∈(as.zip c).map (fun p=>(p.1,[V.str p.2.1,V.int p.2.2])),p.1∈as/\p.2.length<=sizeLine/\∃its,Yc p.2 its/\IsTup h p.1 its.toArray
 |_,_,.nil,p,hp=>by cases hp
 |_,_,.cons ⟨t,u,q⟩ k,p,hp=>by
  rw[List.zip_cons_cons,List.map_cons] at hp
  rcases List.mem_cons.mp hp with rfl|hp
  ·exact⟨List.mem_cons_self ..,by show 2<=sizeLine;rw[sizeLine_eq];decide,[_,_],.cons ⟨t,rfl⟩ (.cons ⟨u,rfl⟩ .nil),q⟩
  ·obtain⟨a1,a2⟩:=Zaz.each k p hp;exact⟨List.mem_cons_of_mem _ a1,a2⟩
section
variable {X:Cx}
theorem ZiZ(hc:X.calm=true):ZaP X (.builtin "sorted") (fun xs H Q=>∃(v a:Addr) (c:List Lf),xs=[.ref v]/\H v=some (ZaH v a)/\H a=some (.dK (c.map fun p=>(Sum.inr p.1,V.int p.2)))/\c.length<64/\
  ∀zs:List Lf,zs.Perm c->zs.Pairwise (fun a b=>ZeL b a=false)->∀p H',H p=none->ZJ H H'->Rep X.K H' (ZfX zs) (.ref p)->Q (.ref p) H'):=by
 intro pins s σ H xs us Q I r h;obtain⟨v,a,c,rfl,hv,hq,h64,q⟩:=h;obtain⟨u,rfl,rx⟩:=ZcO r;cases rx;have vw:s.heap.IsItemsView v a:=(I.hok v _ hv).1;obtain⟨z1,z2,kvs,z3,z4⟩:=I.hok a _ hq;obtain⟨ep,hat⟩:=z4.dictAt;have el:kvs.length=c.length:=by have:=Paired.length z3;rw[List.length_map] at this;exact this.symm
 have hz:kvs.length<=sizeLine:=by rw[sizeLine_eq,el];omega
 refine call_function_entry kind_sorted plain_sorted entry_sorted (args_sorted1 (.ref v)) ?_;unfold Builtin.«sorted»;refine wpAny_bind (m:=checkCount "sorted" 1 1 _) (wpAny_pure (wpAny_bind ?_));refine kdx_collect (A:=X.A.in1) (knd:=Yx X.prog X.w) (kvs:=kvs) (ep:=ep) (I.ok.hd hc) vw hat hz fun h' tk as hk hl hG=> ?_;have la:as.length=c.length:=hl.trans el;have lin:Zaz h' as c:=by
  refine Zk7 la fun j b e=> ?_;obtain⟨key,k,x,e1,e2,e3⟩:=hG.pairs j b e;have hlt:j<c.length:=by
   have:=(List.getElem?_eq_some_iff.mp e).1;omega
  obtain⟨u2,f3,rv⟩:=Zrh z3 (i:=j) (p:=(Sum.inr c[j].1,V.int c[j].2)) (by rw[List.getElem?_map,List.getElem?_eq_getElem hlt];rfl)
  rw[e1] at f3
  have f4:=Option.some.inj f3;have f5:k=Sum.inr c[j].1:=congrArg Prod.fst f4;have f6:x=u2:=congrArg Prod.snd f4;subst f5 f6;obtain⟨t,rfl⟩:∃t,key=Value.str c[j].1 t:=Zok (k:=Sum.inr c[j].1) e2;obtain⟨t2,rfl⟩:∃t,x=Value.int c[j].2 t:=rv;exact⟨c[j],t,t2,List.getElem?_eq_getElem hlt,_,e3,rfl,0,rfl⟩
 have lv:(as.map Value.ref).length=c.length:=by rw[List.length_map,la]
 refine wpAny_bind (wpAny_newList ?_ (by rw[lv,sizeLine_eq];omega))
 generalize hD:h'.objs.size=D;have oD:(h'.push (seqObj "list" (as.map Value.ref).toArray 0)).get? D=some (seqObj "list" (as.map Value.ref).toArray 0):=by rw[<-hD];exact Heap.get?_push_size _ rfl
 have old:∀b o,s.heap.get? b=some o->b≠D:=fun b o e=>by rw[<-hD];exact Nat.ne_of_lt (Heap.lt_size (hk b o e))
 have asD:∀b∈as,b≠D:=fun b hb=>by rw[<-hD];exact Nat.ne_of_lt (hG.there hb)
 have lin2:Zaz (Zco (h'.push (seqObj "list" (as.map Value.ref).toArray 0)) D (as.map Value.ref)) as c:=lin.mono fun b hb o e=>Zk6 b o (asD b hb) (Heap.get?_push_of_some _ e);refine wpAny_bind (wpAny_holding (wpAny_call_entry slot_list_sort ⟨_,oD,rfl⟩ entry_list_sort ?body (args_list_sort _)));refine Zlj (ans:=fun i j=>ZeL (c.getD i (Str.empty,0)) (c.getD j (Str.empty,0))) oD (by omega) (Zc9.ord _) (fun h2=> ?_) fun p pl so=>⟨_,rfl,wpAny_pure ⟨_,rfl, ?_⟩⟩
 ·obtain⟨fs,t1,t2,t3⟩:=lin2.tups;refine kat_kind (T:=.type "str") t1 (by omega) (fun v hv=> ?_) rfl ⟨rfl,fun i j hi hj C hC=> ?_⟩
  ·obtain⟨n,t,rfl⟩:=t3 v hv;exact Looks.of_pure rfl
  ·have hi:i<as.length:=by omega
   have hj:j<as.length:=by omega
   obtain⟨t,u,q1⟩:=lin2.at i hi
   obtain⟨t',u',q2⟩:=lin2.at j hj
   have ei:(as.map Value.ref).getD i Value.none=.ref (as.getD i 0):=by simp[hi]
   have ej:(as.map Value.ref).getD j Value.none=.ref (as.getD j 0):=by simp[hj]
   rw[ei,ej];exact Zqv q1 q2 hC
 ·rw[lv] at pl so
  have mem:∀i∈p.toList,i<c.length:=fun i hi=>by
   have:=(Array.perm_iff_toList_perm.mp pl.perm).mem_iff (a:=i)
   simpa using this.mp hi
  have eo:(p.toList.map fun i=>(as.map Value.ref).getD i Value.none)=p.toList.map fun i=>Value.ref (as.getD i 0):=List.map_congr_left fun i hi=>by
   have:=mem i hi;have h3:i<as.length:=by omega
   simp[h3]
  rw[eo];obtain⟨e,he⟩:=sortedHeap_at (h:=h'.push (seqObj "list" (as.map Value.ref).toArray 0)) (out:=List.toArray (p.toList.map fun i=>Value.ref (as.getD i 0))) oD;have keepD:∀b o,b≠D->h'.get? b=some o->(sortedHeap (h'.push (seqObj "list" (as.map Value.ref).toArray 0)) D (as.map Value.ref) (List.toArray (p.toList.map fun i=>Value.ref (as.getD i 0)))).get? b=some o:=fun b o n z=>Xy b o n (Zk6 b o n (Heap.get?_push_of_some _ z))
  have I3:L2.Inv X pins σ H {s with heap:=sortedHeap (h'.push (seqObj "list" (as.map Value.ref).toArray 0)) D (as.map Value.ref) (List.toArray (p.toList.map fun i=>Value.ref (as.getD i 0))),toks:=tk}:=I.kept fun b o z=>keepD b o (old b o z) (hk b o z);have lin3:=lin.mono fun b hb o z=>keepD b o (asD b hb) z;have fresh:∀b,s.heap.objs.size<=b->s.heap.get? b=none:=fun b hb=>by
   cases z:s.heap.get? b with
   |none=>rfl
   |some o=>exact absurd (Heap.lt_size z) (Nat.not_lt.mpr hb)
  have ea:((as.zip c).map fun p=>(p.1,[V.str p.2.1,V.int p.2.2])).map (·.1)=as:=by
   rw[List.map_map];exact List.map_fst_zip (by omega)
  obtain⟨H2,I4,s2,al,ot⟩:=Zib (X:=X) (σ:=σ) I ((as.zip c).map fun p=>(p.1,[V.str p.2.1,V.int p.2.2])) H I3 (by rw[ea];exact hG.rise.imp fun z=>Nat.ne_of_lt z) fun b hb=>by
   obtain⟨a1,a2⟩:=lin3.each b hb;have:=hG.above b.1 a1;exact⟨I.hok.fresh (Nat.le_of_lt this),fresh _ (Nat.le_of_lt this),a2⟩
  have noD:s.heap.get? D=none:=by
   cases z:s.heap.get? D with
   |none=>rfl
   |some o=>exact absurd rfl (old D o z)
  have hnD:H D=none:=by
   cases z:H D with
   |none=>rfl
   |some o=>
    obtain⟨ob,e2⟩:=Zi2 (I.hok D o z);rw[noD] at e2
    cases e2
  have fD:H2 D=none:=by
   rw[ot D (by rw[ea];exact fun z=>asD D z rfl)]
   exact hnD
  have rv:Yc (p.toList.map fun i=>V.ref (as.getD i 0)) (p.toList.map fun i=>Value.ref (as.getD i 0)):=by
   generalize p.toList=l
   induction l with
   |nil=>exact .nil
   |cons i l ih=>exact .cons rfl ih
  have J:=ZaS (n:=D) (q:=.lst (p.toList.map fun i=>V.ref (as.getD i 0))) I I4 fD noD ⟨by rw[List.length_map,Array.length_toList,pl.size,sizeLine_eq];omega,_,_,rv,he⟩
  refine⟨.ref D,_,J,rfl,q (p.toList.map fun i=>c.getD i (Str.empty,0)) ?_ ?_ D _ hnD (fun b o z=>by rw[Zr (ZC (s2 b o z) fD)];exact s2 b o z) (.lst (SqL.of Zc) ?_)⟩
  ·have e2:(List.range c.length).map (fun i=>c.getD i (Str.empty,0))=c:=by
    apply List.ext_getElem
    ·simp
    ·intro i h1 h2;simp[h2]
   have pp:=List.Perm.map (fun i=>c.getD i (Str.empty,0)) (Array.perm_iff_toList_perm.mp pl.perm);simp only [List.toList_toArray] at pp
   rw[e2] at pp
   exact pp
  ·have:=Zm1 (α:=Unit) (lt:=ZeL) (f:=fun _=>()) (kk:=fun i=>c.getD i (Str.empty,0)) so pl;rw[List.pairwise_map] at this⊢
   exact this
  ·have each:∀i,i<c.length->Rep X.K (upd H2 D (.lst (p.toList.map fun i=>V.ref (as.getD i 0)))) (lfD (c.getD i (Str.empty,0))) (.ref (as.getD i 0)):=fun i hi=>by
    have h3:i<as.length:=by omega
    have m:(as[i],[V.str c[i].1,V.int c[i].2])∈(as.zip c).map fun p=>(p.1,[V.str p.2.1,V.int p.2.2]):=List.mem_map.mpr ⟨(as[i],c[i]),List.mem_iff_getElem.mpr ⟨i,by rw[List.length_zip];omega,by simp⟩,rfl⟩
    have e1:=al _ m;have e2:as.getD i 0=as[i]:=by simp[h3]
    have e3:c.getD i (Str.empty,0)=c[i]:=by simp[hi]
    rw[e2,e3];exact .tup (SqT.of (by rw[Zr (asD _ (List.getElem_mem h3))];exact e1)) (.cons (.flat rfl) (.cons (.flat rfl) .nil))
   rw[List.map_map];clear rv J I4 I3 eo he keepD lin3 pl so al ot;generalize upd H2 D _=HH at each
   generalize p.toList=l at mem
   induction l with
   |nil=>exact .nil
   |cons i l ih=>exact .cons (each i (mem i (List.mem_cons_self ..))) (ih fun j hj=>mem j (List.mem_cons_of_mem _ hj))
theorem Zhy{K:PySem.W.Frag}(hc:X.calm=true)(eK:X.K=K):ZaP X (.builtin "sorted") (fun xs H Q=>∃(v a:Addr) (c:List Lf),xs=[.ref v]/\H v=some (ZaH v a)/\H a=some (.dK (c.map fun p=>(Sum.inr p.1,V.int p.2)))/\c.length<64/\
  ∀zs:List Lf,zs.Perm c->zs.Pairwise (fun a b=>ZeL b a=false)->∀p H',H p=none->ZJ H H'->Rep K H' (ZfX zs) (.ref p)->Q (.ref p) H'):=by
 subst eK;exact ZiZ hc
def Zsj(K:PySem.W.Frag)(sp:Sp)(t:TA):TE:=fun σ H Q=>t σ H fun vs H1=>∃(l:Addr) (xs:List V),vs=[.ref l]/\SqL K H1 l xs/\xs.length<64/\kys sp xs [] H1 fun kx H2=>∃kk:List Ky,Paired (fun y x=>Rep K H2 (kyD y) x) kk kx/\
 ∀zs:List (V×Ky),zs.Perm (xs.zip kk)->zs.Pairwise (fun a b=>Zk4 b.2 a.2=false)->∀D,H2 D=none->Q (.ref D) (upd H2 D (.lst (zs.map (·.1))))
theorem Zlk{k:Nat}{x p:Str}{sp:Sp}{e:PySem.Expr}{t:TA}{p0 p1 p2 pos:Pos}(c:Cal X.prog X.w X.K X.mg X.base CX0 k x [p] sp)(hr:Xb (k+2) X.A)(hg:Gl X "sorted")(hm:X.mg "sorted"=none)(hgx:Gl X x)(ha:PA X [e] t)(hdb:(x==("__debug__":Str))=false:=by decide)
  (hs:starEach [e] X.env=[(false,eval e X.env)]:=by rfl):PE X (.Call (.Name "sorted" p0) [e] [⟨some "key",.Name x p1,p2⟩] pos) (Zsj X.K sp t):=by
 intro pins s σ H Q I h;obtain⟨f,fd,hmx,hkp,hb,F⟩:=c.ex;refine wpAny_Call_Name_kw (ZcX I hg hm Zi1 ?_ (by decide) (by decide));refine callWith_kw (thn (ha pos pins s σ H _ I h) fun us s1 z=> ?_) (by rw[hs];rfl) (by rw[hs];rfl)
 obtain⟨vs,H1,I1,r1,q1⟩:=z;obtain⟨l,xs,rfl,hq,h64,hk⟩:=q1;obtain⟨u,rfl,ru⟩:=ZcO r1;cases ru;refine kws_cons (YZ I1 hgx hmx (kws_nil ?_) hdb);exact ZiY F hb hr I1 hq h64 hk
end
end L3
namespace L3
open PySem PySem.Spec PyProof.Rows L2
section
variable {X:Cx}
end
end L3
namespace M4
open PySem L3 M3
section
variable {α:Type} {lt:α->α->Bool}
def Asc(lt:α->α->Bool)(l:List α):Prop:=l.Pairwise fun x y=>lt y x=false
def Zn5(lt:α->α->Bool)(x:α):List α->List α
 |[]=>[x]
 |y::r=>if lt y x=true then y::Zn5 lt x r else x::y::r
def Xe(lt:α->α->Bool)(l:List α):List α:=l.foldr (Zn5 lt) []
theorem Zfh(x:α):∀l:List α,(Zn5 lt x l).Perm (x::l)
 |[]=>List.Perm.refl _
 |y::r=>by
  unfold Zn5
  split
  ·exact((Zfh x r).cons y).trans (List.Perm.swap x y r)
  ·exact List.Perm.refl _
theorem JZ:∀l:List α,(Xe lt l).Perm l
 |[]=>List.Perm.refl _
 |x::l=>(Zfh x _).trans ((JZ l).cons x)
theorem Zk8(o:STO lt)(x:α):∀l:List α,Asc lt l->Asc lt (Zn5 lt x l)
 |[],_=>List.pairwise_singleton _ _
 |y::r,h=>by
  unfold Zn5;have h:=List.pairwise_cons.mp h
  split
  ·rename_i e
   refine List.pairwise_cons.mpr ⟨fun z hz=> ?_,Zk8 o x r h.2⟩;rcases List.mem_cons.mp ((Zfh x r).mem_iff.mp hz) with rfl|hz
   ·exact o.asym e
   ·exact h.1 z hz
  ·rename_i e
   have e:lt y x=false:=by simpa using e
   refine List.pairwise_cons.mpr ⟨fun z hz=> ?_,List.pairwise_cons.mpr h⟩;obtain rfl|hz:=List.mem_cons.mp hz
   ·exact e
   ·cases q:lt z x with
    |false=>rfl
    |true=>
     rcases o.tri x y with w|w|w
     ·exact(o.tr _ _ _ q w).symm.trans (h.1 z hz)
     ·rw[w] at q;exact q.symm.trans (h.1 z hz)
     ·exact w.symm.trans e
theorem ZdS(o:STO lt):∀l:List α,Asc lt (Xe lt l)
 |[]=>List.Pairwise.nil
 |x::l=>Zk8 o x _ (ZdS o l)
theorem Zm2(o:STO lt):∀{a b:List α},a.Perm b->Asc lt a->Asc lt b->a=b
 |[],b,p,_,_=>(List.nil_perm.mp p).symm
 |x::a,[],p,_,_=>absurd (List.perm_nil.mp p) (by simp)
 |x::a,y::b,p,ha,hb=>by
  have ha:=List.pairwise_cons.mp ha;have hb:=List.pairwise_cons.mp hb;have e:x=y:=by
   have m1:x∈y::b:=p.mem_iff.mp (List.mem_cons_self ..);have m2:y∈x::a:=p.mem_iff.mpr (List.mem_cons_self ..);rcases List.mem_cons.mp m1 with z|z
   ·exact z
   ·rcases List.mem_cons.mp m2 with w|w
    ·exact w.symm
    ·rcases o.tri x y with q|q|q
     ·exact absurd q (by rw[hb.1 x z];simp)
     ·exact q
     ·exact absurd q (by rw[ha.1 y w];simp)
  subst e;rw[Zm2 o ((List.perm_cons x).mp p) ha.2 hb.2]
theorem Zj0(o:STO lt){a b:List α}(p:b.Perm a)(h:Asc lt b):b=Xe lt a:=Zm2 o (p.trans (JZ a).symm) h (ZdS o a)
theorem Zic(o:STO lt){a b:List α}(p:a.Perm b):Xe lt a=Xe lt b:=Zj0 o ((JZ a).trans p) (ZdS o a)
end
def Xk(c:Tb):Tb:=Xe ZeL c
abbrev Nd(c:Tb):Prop:=(c.map (·.1)).Nodup
theorem ZaK(c:Tb):(Xk c).Perm c:=JZ c
theorem ZaX(c:Tb):(Xk c).length=c.length:=(ZaK c).length_eq
theorem Zm3{a b:Tb}(p:a.Perm b)(h:Nd b):Nd a:=(p.map (·.1)).nodup_iff.mpr h
theorem Zj1{c:Tb}(h:Nd c):Nd (Xk c):=Zm3 (ZaK c) h
theorem Zj2{c:Tb}{k:Str}(h:k∉c.map (·.1)):lk c k=none:=by
 induction c with
 |nil=>rfl
 |cons p r ih=>
  have e:¬p.1=k:=fun z=>h (by rw[List.map_cons,z];exact List.mem_cons_self ..)
  have h1:lk (p::r) k=lk r k:=by simp[lk,List.find?_cons,e]
  rw[h1];exact ih fun z=>h (List.mem_cons_of_mem _ z)
theorem Zdd{c:Tb}(h:Nd c){k:Str}{d:Int}:lk c k=some d↔(k,d)∈c:=by
 constructor
 ·intro e
  by_cases m:k∈c.map (·.1)
  ·obtain⟨p,hp,rfl⟩:=List.mem_map.mp m;have:=ZiT h hp;rw[e] at this
   have e2:d=p.2:=Option.some.inj this;subst e2;exact hp
  ·rw[Zj2 m] at e;cases e
 ·intro m;exact ZiT h m
theorem Zqw{a b:Tb}(p:a.Perm b)(h:Nd b)(k:Str):lk a k=lk b k:=by
 have ha:=Zm3 p h;cases e:lk b k with
 |some d=>exact(Zdd ha).mpr (p.mem_iff.mpr ((Zdd h).mp e))
 |none=>
  cases e2:lk a k with
  |none=>rfl
  |some d=>
   have:=(Zdd h).mpr (p.mem_iff.mp ((Zdd ha).mp e2));rw[e] at this;cases this
theorem Zgi{c:Tb}(h:Nd c)(k:Str):lk (Xk c) k=lk c k:=Zqw (ZaK c) h k
theorem Zm4{c:Tb}(h:Nd c):c.Nodup:=by
 induction c with
 |nil=>exact List.nodup_nil
 |cons p r ih=>
  rw[Nd,List.map_cons,List.nodup_cons] at h
  exact List.nodup_cons.mpr ⟨fun m=>h.1 (List.mem_map.mpr ⟨p,m,rfl⟩),ih h.2⟩
theorem Zk9{α:Type} [DecidableEq α]:∀{a b:List α},a.Nodup->b.Nodup->(∀x,x∈a↔x∈b)->a.Perm b
 |[],b,_,_,h=>by
  cases b with
  |nil=>exact List.Perm.refl _
  |cons y b=>exact absurd ((h y).mpr (List.mem_cons_self ..)) (by simp)
 |x::a,b,ha,hb,h=>by
  have hx:x∈b:=(h x).mp (List.mem_cons_self ..);have ha:=List.nodup_cons.mp ha;have p:=List.perm_cons_erase hx;have hb':=List.nodup_cons.mp (p.nodup_iff.mp hb);refine(List.Perm.cons x (Zk9 ha.2 hb'.2 fun y=> ?_)).trans p.symm
  constructor
  ·intro hy;have:y∈x::b.erase x:=p.mem_iff.mp ((h y).mp (List.mem_cons_of_mem _ hy));obtain rfl|z:=List.mem_cons.mp this
   ·exact absurd hy ha.1
   ·exact z
  ·intro hy;have:y∈x::a:=(h y).mpr (p.mem_iff.mpr (List.mem_cons_of_mem _ hy));obtain rfl|z:=List.mem_cons.mp this
   ·exact absurd hy hb'.1
   ·exact z
theorem ZoO{a b:Tb}(ha:Nd a)(hb:Nd b)(h:∀k,lk a k=lk b k):Xk a=Xk b:=
 Zic Zc9 (Zk9 (Zm4 ha) (Zm4 hb) fun p=>by rw[<-Zdd ha (k:=p.1) (d:=p.2),<-Zdd hb,h])
theorem Zid(c:Tb):Xk (Xk c)=Xk c:=Zic Zc9 (ZaK c)
theorem Zm5{a b:Tb}(ha:Nd a)(hb:Nd b)(h:Xk a=Xk b)(k:Str):lk a k=lk b k:=by rw[<-Zgi ha,<-Zgi hb,h]
theorem Zie{a b:Tb}:ZaR a b=true↔∀p∈a,∃u,lk b p.1=some u/\p.2<=u:=by
 unfold ZaR;rw[List.all_eq_true]
 constructor
 ·intro h p hp;have:=h p hp
  split at this
  ·rename_i u e
   exact⟨u,e,of_decide_eq_true this⟩
  ·cases this
 ·intro h p hp;obtain⟨u,e,q⟩:=h p hp;rw[e];exact decide_eq_true q
theorem Zll{a b:Tb}(hb:Nd b):ZaR (Xk a) (Xk b)=ZaR a b:=by
 apply Bool.eq_iff_iff.mpr
 rw[Zie,Zie];exact⟨fun h p hp=>by rw[<-Zgi hb];exact h p ((ZaK a).mem_iff.mpr hp),fun h p hp=>by rw[Zgi hb];exact h p ((ZaK a).mem_iff.mp hp)⟩
def Xm(a b:Tb):Tb:=b.foldl (fun c p=>ZeG c p.1 (max p.2 ((lk a p.1).getD p.2))) a
theorem ZoP{c:Tb}{k:Str}{v:Int}(j:Str):lk (ZeG c k v) j=if j=k then some v else lk c j:=by
 have up:∀c:Tb,(∃p∈c,p.1=k)->lk (c.map fun p=>if p.1=k then(p.1,v) else p) j=if j=k then some v else lk c j:=by
  intro c
  induction c with
  |nil=>intro ⟨p,hp,_⟩;cases hp
  |cons q r ih=>
   intro hm
   by_cases e:q.1=k
   ·by_cases z:j=k
    ·subst z;rw[if_pos rfl];simp[lk,List.find?_cons,e]
    ·rw[if_neg z];have n1:¬q.1=j:=fun w=>z (w.symm.trans e);have h1:lk (q::r) j=lk r j:=by simp[lk,List.find?_cons,n1]
     have h2:lk ((q::r).map fun p=>if p.1=k then(p.1,v) else p) j=lk (r.map fun p=>if p.1=k then(p.1,v) else p) j:=by
      rw[List.map_cons,if_pos e];simp[lk,List.find?_cons,n1]
     rw[h1,h2]
     by_cases more:∃p∈r,p.1=k
     ·rw[ih more,if_neg z]
     ·have e3:(r.map fun p=>if p.1=k then(p.1,v) else p)=r:=by
       refine(List.map_congr_left fun p hp=> ?_).trans (List.map_id' r);rw[if_neg fun w=>more ⟨p,hp,w⟩]
      rw[e3]
   ·have more:∃p∈r,p.1=k:=by
     obtain⟨p,hp,w⟩:=hm;obtain rfl|hp:=List.mem_cons.mp hp
     ·exact absurd w e
     ·exact⟨p,hp,w⟩
    rw[List.map_cons,if_neg e]
    by_cases n1:q.1=j
    ·have z:¬j=k:=fun w=>e (n1.trans w);rw[if_neg z];simp[lk,List.find?_cons,n1]
    ·have h1:lk (q::r) j=lk r j:=by simp[lk,List.find?_cons,n1]
     have h2:∀t:Tb,lk (q::t) j=lk t j:=fun t=>by simp[lk,List.find?_cons,n1]
     rw[h1,h2,ih more]
 unfold ZeG
 by_cases m:(c.any fun p=>decide (p.1=k))=true
 ·rw[if_pos m];obtain⟨p,hp,e⟩:=List.any_eq_true.mp m;exact up c ⟨p,hp,of_decide_eq_true e⟩
 ·rw[if_neg m];have no:∀p∈c,¬p.1=k:=fun p hp e=>m (List.any_eq_true.mpr ⟨p,hp,decide_eq_true e⟩);clear m up
  induction c with
  |nil=>
   by_cases z:j=k
   ·rw[if_pos z];simp[lk,z]
   ·rw[if_neg z];have n1:¬k=j:=fun w=>z w.symm;simp[lk,List.find?_cons,n1]
  |cons q r ih=>
   have ih:=ih fun p hp=>no p (List.mem_cons_of_mem _ hp)
   by_cases n1:q.1=j
   ·have z:¬j=k:=fun w=>no q (List.mem_cons_self ..) (n1.trans w);rw[if_neg z];simp[lk,List.find?_cons,n1]
   ·have h2:∀t:Tb,lk (q::t) j=lk t j:=fun t=>by simp[lk,List.find?_cons,n1]
    rw[List.cons_append,h2,h2,ih]
theorem ZdT{a b:Tb}(h:Nd a):Nd (Xm a b):=by
 have go:∀(b c:Tb),Nd c->Nd (b.foldl (fun c p=>ZeG c p.1 (max p.2 ((lk a p.1).getD p.2))) c):=by
  intro b
  induction b with
  |nil=>exact fun c h=>h
  |cons p r ih=>exact fun c h=>ih _ (ZmX h)
 exact go b a h
theorem Zgj{a b:Tb}(hb:Nd b)(j:Str):lk (Xm a b) j=match lk b j with|some d=>some (max d ((lk a j).getD d))|none=>lk a j:=by
 have go:∀(b c:Tb),Nd b->lk (b.foldl (fun c p=>ZeG c p.1 (max p.2 ((lk a p.1).getD p.2))) c) j=match lk b j with|some d=>some (max d ((lk a j).getD d))|none=>lk c j:=by
  intro b
  induction b with
  |nil=>exact fun c _=>rfl
  |cons p r ih=>
   intro c h;rw[Nd,List.map_cons,List.nodup_cons] at h
   rw[List.foldl_cons,ih _ h.2]
   by_cases n1:p.1=j
   ·have h1:lk (p::r) j=some p.2:=by simp[lk,List.find?_cons,n1]
    have h2:lk r j=none:=Zj2 (by rw[<-n1];exact h.1)
    rw[h1,h2]
    dsimp only
    rw[ZoP,if_pos n1.symm,n1]
   ·have h1:lk (p::r) j=lk r j:=by simp[lk,List.find?_cons,n1]
    rw[h1];cases e:lk r j with
    |some d=>rfl
    |none=>
     dsimp only
     rw[ZoP,if_neg (Ne.symm n1)]
 exact go b a hb
theorem Zn6{a b a' b':Tb}(ha:Nd a)(hb:Nd b)(ha':Nd a')(hb':Nd b')(e1:Xk a=Xk a')(e2:Xk b=Xk b'):Xk (Xm a b)=Xk (Xm a' b'):=
 ZoO (ZdT ha) (ZdT ha') fun j=>by rw[Zgj hb,Zgj hb',Zm5 ha ha' e1,Zm5 hb hb' e2]
theorem Zqx{a b:Tb}(h:a≠[])(hb:Nd b)(ha:Nd a):Xm a b≠[]:=by
 cases a with
 |nil=>exact absurd rfl h
 |cons p r=>
  intro z;have e:=Zgj (a:=p::r) hb p.1;rw[z] at e
  have e2:lk (p::r) p.1=some p.2:=ZiT ha (List.mem_cons_self ..);rw[e2] at e
  cases q:lk b p.1<;>rw[q] at e<;>cases e
def Zej(c:Tb):Ky:=((c.length:Int),c)
def ZaD(a b:Tb):Bool:=Zk4 (Zej a) (Zej b)
theorem ZoQ:STO ZaD:=⟨fun a=>ZeM.irr _,fun a b c h1 h2=>ZeM.tr _ _ _ h1 h2,fun a b=>(ZeM.tri (Zej a) (Zej b)).imp_right fun z=>z.imp_left fun e=>congrArg Prod.snd e⟩
def keep(kept:List Tb)(c:Tb):List Tb:=if(kept.any fun low=>ZaR low c)=true then kept else kept++[c]
def Zfi(cs:List Tb):List Tb:=cs.foldl keep []
theorem Zca:∀(cs kept:List Tb),∃r,cs.foldl keep kept=kept++r/\r.Sublist cs
 |[],kept=>⟨[],by simp,List.Sublist.refl _⟩
 |c::cs,kept=>by
  rw[List.foldl_cons]
  by_cases m:(kept.any fun low=>ZaR low c)=true
  ·rw[show keep kept c=kept from if_pos m];obtain⟨r,e,s⟩:=Zca cs kept;exact⟨r,e,s.cons c⟩
  ·rw[show keep kept c=kept++[c] from if_neg m];obtain⟨r,e,s⟩:=Zca cs (kept++[c]);exact⟨c::r,by rw[e];simp,s.cons₂ c⟩
theorem Zm6{α:Type} [DecidableEq α]:∀{a b:List α},a.Nodup->(∀x∈a,x∈b)->a.length<=b.length/\(b.Nodup->a.length=b.length->∀x∈b,x∈a)
 |[],b,_,_=>⟨Nat.zero_le _,fun _ e x hx=>by
   have:b=[]:=List.eq_nil_of_length_eq_zero e.symm;rw[this] at hx;cases hx⟩
 |y::a,b,ha,h=>by
  have ha:=List.nodup_cons.mp ha;have hy:y∈b:=h y (List.mem_cons_self ..);have p:=List.perm_cons_erase hy;have l:=p.length_eq;rw[List.length_cons] at l
  have sub:∀x∈a,x∈b.erase y:=fun x hx=>by
   rcases List.mem_cons.mp (p.mem_iff.mp (h x (List.mem_cons_of_mem _ hx))) with rfl|z
   ·exact absurd hx ha.1
   ·exact z
  obtain⟨h1,h2⟩:=Zm6 ha.2 sub;refine⟨by rw[List.length_cons];omega,fun hb e x hx=> ?_⟩
  rw[List.length_cons] at e
  rcases List.mem_cons.mp (p.mem_iff.mp hx) with rfl|z
  ·exact List.mem_cons_self ..
  ·exact List.mem_cons_of_mem _ (h2 (List.nodup_cons.mp (p.nodup_iff.mp hb)).2 (by omega) x z)
structure Nf (c:Tb):Prop where
 nd:Nd c
 asc:Asc ZeL c
theorem Zqy{c:Tb}(h:Nd c):Nf (Xk c):=⟨Zj1 h,ZdS Zc9 c⟩
end M4
namespace L3
open PySem PySem.Spec PyProof.Rows L2 PySem.W PySem.Calls
section
variable {X:Cx} {pins:List (Addr×Obj)} {σ:L2.St} {H:Hp} {s:Shared} {A:Around}
variable {k:Nat} {g:Addr} {fd:FuncData} {p:Str} {sp:Sp}
section
variable {prog:Program} {w:World} {B:Around} {R:Result->Shared->Prop} {it S:Addr} {key:Value} {c:Nat} {s:Shared}
end
end
end L3
namespace L3
open PySem PySem.Spec PyProof.Rows L2
section
variable {P:Program} {w:World} (l:Addr) (xs:Array Value) (n:Nat) (d1:Option Addr) (s1:Array (Option Value)) (y:Value) (e:Nat->Bool)
end
section
variable {X:Cx} {pins:List (Addr×Obj)} {σ:L2.St} {H:Hp} {s:Shared} {A:Around} {E:Value->Shared->Prop}
end
end L3
namespace L3
open PySem PySem.Spec PyProof.Rows L2 PySem.W PySem.Calls
section
variable {X:Cx}
end
end L3
namespace L3
open PySem PySem.Spec PyProof.Rows L2 PySem.W PySem.Calls
section
variable {X:Cx} {pins:List (Addr×Obj)} {σ:L2.St} {H:Hp} {s:Shared} {a:Addr} {kvs:List (Key×V)} {k:Key} {u:Value} {A:Around} {E:Value->Shared->Prop}
end
section
variable {X:Cx} {o e f:PySem.Expr} {apos cpos:Pos} {td ty tx:TE}
end
end L3
namespace L3
open PySem PySem.Spec PyProof.Rows L2
section
variable {X:Cx} {K:PySem.W.Frag}
end
end L3
namespace L3
open PySem PySem.Spec PyProof.Rows L2
section
variable {prog:Program} {w:World} {A:Around} {E:Value->Shared->Prop} {s:Shared}
theorem Zqz{T newId:String}{self:Value}{rest:List Value}{kw:List (Str×Value)}(hl:typeLookup (.type T) "__init__"=pure (some (.builtin "object.__init__")))
  (hm:Bind.madeBy (.type T)=pure (some newId))(hne:(some newId !=some "object.__new__")=true)(hk:rest.isEmpty=false):
  Meets (Builtin.«object.__init__» ⟨self::rest,kw⟩) (fun _ R s=>s.TypeIs self T/\R (.ok (.ret .none)) s):=by
 refine Meets.of_wp fun _ _ _ _ _ ⟨ty,fin⟩=> ?_;cases rest with
 |nil=>cases hk
 |cons a r=>
  repeat any_goals first|wp_step|assumption
  exact⟨_,rfl,fin⟩
theorem Ztl{T newId:String}{Bn:Builtin}{args:List Value}{kw:List (Str×Value)}{S:PySem.Spec}{Q:Value->Shared->Prop}(ft:TypeCalled T newId "object.__init__")(hne:(some newId !=some "object.__new__")=true)(h0:args.isEmpty=false)
  (c1:checkTypeCall T ⟨args,kw⟩=pure ())(c2:checkBuiltinCall newId ⟨.type T::args,kw⟩=pure ())(c3:∀obj,argsOk "object.__init__" ⟨obj::args,kw⟩)(en:entryFor table newId=some Bn)(g:Meets (Bn ⟨.type T::args,kw⟩) S)
  (h:S A.in1 (wants (fun obj s1=>s1.TypeIs obj T/\Q obj s1) E) s):wpAny (model prog w) A (call (.type T) args kw) Q E s:=by
 obtain⟨cc,tl,m0⟩:=ft.mro;have m1:=ft.made;have m2:=ft.sub;have m3:=ft.notType;have m4:=ft.canCreate;refine wpAny_call (codeAny_of_tree (wpAny_pure ⟨Code.quiet_builtin _ (by decide+kernel),codeAny_builtin F.entry_type_call ?_⟩));rw[Around.under_plain (weight_type_call_type T args kw) (units_type_call_type T args kw)]
 repeat any_goals first|wp_step|assumption
 refine codeAny_mono (codeAny_call_builtin ft.plain en (wpAny_of_eq c2 (g prog w A.in1 _ s h))) fun r s1 q1=> ?_
 match r,q1 with
 | .ok (.ret obj),⟨ty,fin⟩=>
  have i1:=ft.init.lookup;have i2:=ft.init.bind obj
  repeat any_goals first|wp_step|assumption
  refine codeAny_mono (codeAny_call_builtin ft.init.plain F.entry_object_init (ft.init.check _ _ _ _ _ _ _ _ ty (c3 obj) (Zqz i1 m1 hne h0 prog w A.in1 (wants (fun r s2=>r=.none/\Q obj s2) E) s1 ⟨ty,rfl,fin⟩))) fun r2 s2 q2=> ?_
  match r2,q2 with
  | .ok (.ret r),⟨e,q⟩=>
   subst e
   repeat any_goals first|wp_step|assumption
  | .error e,q=>exact q
 | .error e,q=>exact q
theorem ZqA(a b:Value):checkTypeCall "enumerate" ⟨[a],[("start",b)]⟩=pure ():=by kernel_rfl
theorem ZqB(a b:Value):checkBuiltinCall "enumerate.__new__" ⟨[.type "enumerate",a],[("start",b)]⟩=pure ():=by kernel_rfl
theorem ZqC(o a b:Value):argsOk "object.__init__" ⟨[o,a],[("start",b)]⟩:=by
 unfold argsOk;rw[signature?_of (id:="object.__init__") (n:="__tini__".toList) (o:="tcejbo".toList) (by kernel_rfl) F.owner_object]
 kernel_rfl
open AutoSeq1 in
theorem Zlm(l:Addr)(xs:Array Value)(n:Nat)(d1:Option Addr)(s1:Array (Option Value))(t:Tok):
  Meets (Builtin.«enumerate.__new__» ⟨[.type "enumerate",.ref l],[("start",.int 1 t)]⟩) (fun _ R s=>s.heap.get? l=some (ZgM d1 xs n s1)/\
   R (.ok (.ret (.ref (s.heap.objs.size+1)))) {s with heap:=(s.heap.push {cls:=.type "list_iterator",data:=.fields #[.ref l,.int 0 0]}).push {cls:=.type "enumerate",data:=.fields #[.none,.bool false,.ref s.heap.objs.size,rawInt 1,.none,.none]}}):=
 .of_wp fun _ _ _ _ s ⟨u1,fin⟩=>by
  obtain⟨hq,gs,dr,tk,oss⟩:=s;have u2:=sub_enumerate;have u3:Heap.IsList (Shared.heap ⟨hq,gs,dr,tk,oss⟩) l xs:=⟨_,u1,rfl,n,rfl⟩
  have u4:(hq.push {cls:=.type "list_iterator",data:=.fields #[.ref l,.int 0 0]}).objs.size=hq.objs.size+1:=Heap.size_push ..
  wp_walk using wpAny_loadPart' u1
  refine wpAny_stack_any fun calls=> ?_;refine wpAny_pure ?_;have u5:Builtin.SmallTypes.fitsIndex 1=true:=by decide
  rw[<-u4] at fin
  split
  ·rename_i c _ _ _ _ _
   rcases Bool.eq_false_or_eq_true (c==.type "enumerate") with z|z<;>rw[z]<;>(wp_walk using wpAny_loadPart' u1,wpAny_pyIter_list u3)<;>exact⟨_,rfl,fin⟩
  ·wp_walk using wpAny_loadPart' u1,wpAny_pyIter_list u3
   exact⟨_,rfl,fin⟩
section
variable {prog:Program} {w:World} {A:Around} {E:Value->Shared->Prop} {s:Shared}
theorem ZfY{l:Addr}{xs:Array Value}{t:Tok}{Q:Value->Shared->Prop}(hl:s.heap.IsList l xs)
  (q:∀h',IsEnum h' (s.heap.objs.size+1) s.heap.objs.size 1 .none->h'.IsListIter s.heap.objs.size l 0->(∀b o,s.heap.get? b=some o->h'.get? b=some o)->Q (.ref (s.heap.objs.size+1)) {s with heap:=h'}):
  wpAny (model prog w) A (call (.type "enumerate") [.ref l] [("start",.int 1 t)]) Q E s:=by
 obtain⟨⟨c1,d1,t1,s1⟩,o1,k1,n,e1⟩:=id hl;simp only at k1 e1
 subst k1 e1;have z:=Heap.get?_push_size (s.heap.push {cls:=.type "list_iterator",data:=.fields #[.ref l,.int 0 0]}) (o:={cls:=.type "enumerate",data:=.fields #[.none,.bool false,.ref s.heap.objs.size,rawInt 1,.none,.none]}) rfl;rw[Heap.size_push] at z
 exact Ztl F.called_enumerate (by decide) rfl (ZqA _ _) (ZqB _ _) (fun o=>ZqC o _ _) F.entry_enumerate_new (Zlm l xs n d1 s1 t)
  ⟨o1,⟨_,z,rfl⟩,q _ z ⟨_,Heap.get?_push_of_some _ (Heap.get?_push_size _ rfl),rfl,rfl⟩ fun b o e=>Heap.get?_push_of_some _ (Heap.get?_push_of_some _ e)⟩
theorem Zn7{e it l:Addr}{i:Nat}{c:Int}{xs:Array Value}{x old:Value}{Q:Option Value->Shared->Prop}(he:IsEnum s.heap e it c old)(hi:s.heap.IsListIter it l i)(hl:s.heap.IsList l xs)(hx:xs[i]? =some x)(ne:e≠it)
  (q:∀h1 h' tk,Heap.SameBut it s.heap h1->(∀b o,b≠e->h1.get? b=some o->h'.get? b=some o)->IsEnumOut h' e it (c+1) x s.heap.objs.size->h'.IsListIter it l (i+1)->h'.get? s.heap.objs.size=some {cls:=.type "tuple",data:=.seq #[.int c s.toks,x]}->Q (some (.ref s.heap.objs.size)) {s with heap:=h',toks:=tk}):wpAny (model prog w) A (pyNext (.ref e)) Q E s:=by
 have ty:s.TypeIs (.ref e) "enumerate":=⟨_,he,rfl⟩
 unfold pyNext;refine wpAny_bind (wpAny_attempt (wpAny_callSpecial?_slot (name:="__next__") ty F.slot_enumerate_next (wpAny_call_entry F.slot_enumerate_next ty F.entry_enumerate_next ?_ (F.args_enumerate_next_1 _))));obtain⟨h0,gs,dr,tk,oss⟩:=s;refine wpAny_bind (m:=field (.ref e) 2) (wpAny_field he rfl rfl (wpAny_bind (wpAny_nextOf_list_item hi hl hx fun h1 hi1 k1=> ?_)));have e1:IsEnum h1 e it c old:=(k1.2 e ne).trans he
 refine wpAny_bind (wpAny_field e1 rfl rfl (wpAny_bind (wpAny_field e1 rfl rfl ?_)));refine wpAny_bind (m:=mkInt c) (wpAny_mkInt ?_);refine wpAny_bind (wpAny_setField_rec e1 (by simp) fun h2 e2 k2=> ?_);refine wpAny_bind (wpAny_setField_rec e2 (by simp) fun h3 e3 k3=>wpAny_bind (wpAny_newTuple ?_));have kk:∀b,b≠e->h3.get? b=h1.get? b:=fun b n1=>(k3.2 b n1).trans (k2.2 b n1);have sz:h3.objs.size=h0.objs.size:=k3.1.trans (k2.1.trans k1.1)
 have ki:h3.get? it=h1.get? it:=(k3.2 it (Ne.symm ne)).trans (k2.2 it (Ne.symm ne));generalize hT:h3.push {cls:=.type "tuple",data:=.seq #[.int c tk,x]}=h4;have e4:IsEnum h4 e it (c+1) old:=by rw[<-hT];exact Heap.get?_push_of_some _ e3
 have t4:h4.get? h0.objs.size=some {cls:=.type "tuple",data:=.seq #[.int c tk,x]}:=by rw[<-hT,<-sz];exact Heap.get?_push_size _ rfl
 have i4:h4.IsListIter it l (i+1):=by
  obtain⟨o,w1,w2⟩:=hi1;exact⟨o,by rw[<-hT];exact Heap.get?_push_of_some _ (ki.trans w1),w2⟩
 have k4:∀b o,b≠e->h1.get? b=some o->h4.get? b=some o:=fun b o n1 z=>by rw[<-hT];exact Heap.get?_push_of_some _ ((kk b n1).trans z)
 have lt:e≠h0.objs.size:=Nat.ne_of_lt (Heap.lt_size he);show wpAny _ _ (Builtin.SmallTypes.ownedTupleIsFree (.ref e)>>=_) _ _ ⟨h4,gs,dr,tk+1,oss⟩;rw[sz];refine wpAny_bind (m:=Builtin.SmallTypes.ownedTupleIsFree (.ref e)) ?_;refine wpAny_bind (m:=field (.ref e) 0) (wpAny_field e4 rfl rfl (wpAny_pure ?_));refine wpAny_bind (m:=rule _) (wpAny_rule (wpAny_bind (wpAny_field e4 rfl rfl (wpAny_bind (wpAny_setField_rec e4 (by simp) fun h5 e5 k5=> ?_)))))
 refine wpAny_bind (m:=Builtin.SmallTypes.ownedTupleHandOut (.ref e) _) ?_;refine wpAny_bind (m:=setField (.ref e) 0 _) (wpAny_setField_rec e5 (by simp) fun h6 e6 k6=>wpAny_setField_rec e6 (by simp) fun h7 e7 k7=>wpAny_bind (wpAny_letGo (wpAny_pure ⟨_,rfl,wpAny_pure ?_⟩)));have k47:∀b,b≠e->h7.get? b=h4.get? b:=fun b n=>(k7.2 b n).trans ((k6.2 b n).trans (k5.2 b n));refine q h1 h7 (tk+1) k1 (fun b o n z=>(k47 b n).trans (k4 b o n z)) e7 ?_ ((k47 _ (Ne.symm lt)).trans t4)
 obtain⟨o,w1,w2⟩:=i4;exact⟨o,(k47 it (Ne.symm ne)).trans w1,w2⟩
theorem Zn8{e it l:Addr}{i:Nat}{c:Int}{xs:Array Value}{old:Value}{Q:Option Value->Shared->Prop}(hh:A.handled=none)(he:IsEnum s.heap e it c old)(hi:s.heap.IsListIter it l i)(hl:s.heap.IsList l xs)(hx:xs[i]? =none)
  (q:∀h',Heap.ExtBut it s.heap h'->Q none {s with heap:=h'}):wpAny (model prog w) A (pyNext (.ref e)) Q E s:=by
 have ty:s.TypeIs (.ref e) "enumerate":=⟨_,he,rfl⟩
 unfold pyNext;refine wpAny_bind (wpAny_attempt (wpAny_callSpecial?_slot (name:="__next__") ty F.slot_enumerate_next (wpAny_call_entry F.slot_enumerate_next ty F.entry_enumerate_next ?_ (F.args_enumerate_next_1 _))));refine wpAny_bind (m:=field (.ref e) 2) (wpAny_field he rfl rfl (wpAny_bind (wpAny_nextOf_list_end hh hi hl hx fun h1 z k1 ⟨o,w1,w2⟩=> ?_)));exact wpAny_bind (wpAny_isInstance (T:="StopIteration") (b:=true) ⟨o,w1,w2⟩ isSubtype_stop (wpAny_pure (q _ k1)))
end
end
def Ite(K:PySem.W.Frag)(a:Addr)(c:Int):It:=
 ⟨fun i H=>∃xs x,SqL K H a xs/\xs[i]? =some x,fun i H v H'=>∃p x,H p=none/\(∀xs,SqL K H a xs->xs[i]? =some x)/\v=.ref p/\H'=upd H p (.tup [.int (c+i),x]),fun i H=>∃xs,SqL K H a xs/\xs.length<=i⟩
theorem Zn9{P:Program}{w:World}{K:PySem.W.Frag}{elts:List PySem.Expr}{x1:Nat}{pos:Pos}(a e it:Addr)(ne:e≠it)(c:Int):
  ZkH P w K (.Tuple elts x1 pos) (Ite K a c) [e,it] e (fun i h=>(∃old,IsEnum h e it (c+(i:Nat)) old)/\h.IsListIter it a i) where
 mem:=by simp
 obj:=fun i h st b hb=>by
  obtain⟨⟨old,s1⟩,o,s2,_,s3⟩:=st;have hb:b=e\/b=it:=by simpa using hb
  rcases hb with rfl|rfl
  ·exact⟨_,s1,fun v z=>nomatch z⟩
  ·exact⟨_,s2,fun v z=>by rw[s3] at z;cases z⟩
 keep:=fun i h h' ⟨⟨old,s1⟩,s2⟩ k=>⟨⟨old,k e (by simp) _ s1⟩,s2.at fun o z=>k it (by simp) o z⟩
 item:=by
  intro X hP hw hK hc i pins s σ H E I hf st hg;subst hP hw hK;obtain⟨xs,x,hq,hx⟩:=hg;obtain⟨its,rv,p,hz⟩:=I.list hq;obtain⟨u,hu,ru⟩:=rv.get hx;obtain⟨⟨old,s1⟩,s2⟩:=st;obtain⟨f0,f1,f2,f3,f4,f5⟩:=hf e (by simp);obtain⟨g0,g1,g2,g3,g4,g5⟩:=hf it (by simp);refine Zn7 s1 s2 p.isList (x:=u) (by simpa using hu) ne fun h1 h' tk k1 k2 eo il tp=> ?_;have I1:L2.Inv X pins σ H {s with heap:=h1,toks:=s.toks}:=I.turned (t':=s.toks) (fun b o hb z=>(k1.2 b hb).trans z) g0 g1 g3 g4 g5
  refine⟨_,rfl,wpAny_letOwnedTupleGo_enum (s:={s with heap:=h',toks:=tk}) eo fun h2 en sb=> ?_⟩;have I2:L2.Inv X pins σ H {s with heap:=h2,toks:=tk}:=I1.turned (t':=tk) (fun b o hb z=>(sb.2 b hb).trans (k2 b o hb z)) f0 f1 f3 f4 f5;have ne1:s.heap.objs.size≠e:=fun z=>absurd (Heap.lt_size s1) (by rw[<-z];exact Nat.lt_irrefl _)
  have ne2:s.heap.objs.size≠it:=fun z=>by
   obtain⟨o,w1,_⟩:=s2;exact absurd (Heap.lt_size w1) (by rw[<-z];exact Nat.lt_irrefl _)
  have fn:=I.fpOk (H':=H) (Nat.le_refl _) (I.hok.fresh (Nat.le_refl _));have I3:=Zi0 (q:=.tup [.int (c+(i:Nat)),x]) I2 fn ⟨by show 2<=sizeLine;rw[sizeLine_eq];decide,[.int (c+(i:Nat)) s.toks,u],.cons ⟨_,rfl⟩ (.cons ru .nil),_,(sb.2 _ ne1).trans tp,rfl,_,rfl⟩
  refine⟨.ref s.heap.objs.size,_,I3,rfl,⟨_,x,fn.1,fun ys hy=>by rw[I.list_inj hy hq];exact hx,rfl,rfl⟩,⟨⟨u, ?_⟩,il.at fun o z=>(sb.2 it (Ne.symm ne)).trans z⟩,fun b hb=> ?_⟩
  ·have ec:c+((i+1:Nat):Int)=c+(i:Nat)+1:=by omega
   rw[ec];exact en
  ·have hb:b=e\/b=it:=by simpa using hb
   rcases hb with rfl|rfl
   ·rw[Zr (Ne.symm ne1)];exact f0
   ·rw[Zr (Ne.symm ne2)];exact g0
 done:=by
  intro X hP hw hK hc i pins s σ H E I hf st hg;subst hP hw hK;obtain⟨xs,hq,hx⟩:=hg;obtain⟨its,rv,p,hz⟩:=I.list hq;obtain⟨⟨old,s1⟩,s2⟩:=st;obtain⟨g0,g1,g2,g3,g4,g5⟩:=hf it (by simp);have hl:=rv.length;exact Zn8 (I.ok.hd hc) s1 s2 p.isList (by simp;omega) fun h' eb=>⟨rfl,I.turned (t':=s.toks) (fun b o hb z=>eb b o hb z) g0 g1 g3 g4 g5⟩
 self:=fun _ _ _ _ _ ⟨⟨_,s1⟩,_⟩ h=>wpAny_pyIter_enum s1 h
section
variable {X:Cx} {pins:List (Addr×Obj)} {σ:L2.St} {H:Hp} {s:Shared}
theorem Zj3{M:Model}{A:Around}{E:Value->Shared->Prop}{env:Env}{pos:Pos}{T:String}{e:Expr}{rest:List Expr}{kws:List Keyword}{Q:Value->Shared->Prop}
  (h:wpAny M A (spliced (backTo pos (starEach (e::rest) env))) (fun vs s1=>wpAny M A (evalAll ((backToKw pos (keywordEach kws env)).map (·.2))) (fun ks s2=>wpAny M A (call (.type T) vs (((backToKw pos (keywordEach kws env)).filterMap (·.1)).zip ks)) Q E s2) E s1) E s)
  (e1:backTo pos (starEach (e::rest) env)=(false,eval e env)::backTo pos (starEach rest env))(e2:(backTo pos (starEach (e::rest) env)).any (·.1)=false)
  (e3:(backToKw pos (keywordEach kws env)).all (·.1.isSome)=true)(e4:(backToKw pos (keywordEach kws env)).any (·.1.isNone)=false):
  wpAny M A (callWith pos (.type T) [] (backTo pos (starEach (e::rest) env)) (backToKw pos (keywordEach kws env))) Q E s:=by
 unfold callWith;rw[e1] at h e2⊢
 refine wpAny_bind (wpAny_holding (thn (evalArgs_kwB (f:=.type T) (Q:=fun a s1=>wpAny M A (call (.type T) a.pos a.kw) Q E s1) e3 h) fun a s1 q=>wpAny_bind (wpAny_standAt ?_)));simp only [e2,e4,Bool.or_false];exact wpAny_bind (wpAny_pure (wpAny_bind (thn q fun r s2 q2=>wpAny_bind (wpAny_holding (wpAny_point (wpAny_pure q2))))))
theorem Zj4:bootBuiltins "enumerate"=some (.type "enumerate"):=by decide+kernel
def Ztm(K:PySem.W.Frag)(t:TA):TI:=fun σ H R=>t σ H fun vs H1=>∃a,vs=[.ref a]/\(∃xs,SqL K H1 a xs)/\R (Ite K a 1) H1
theorem ZqD{K:PySem.W.Frag}{e:PySem.Expr}{t:TA}{p0 p1 p2 pos tp:Pos}{elts:List PySem.Expr}{x1 j:Nat}(eK:X.K=K)(hg:Gl X "enumerate")(hm:X.mg "enumerate"=none)(ha:PA X [e] t)
  (hs:starEach [e] X.env=[(false,eval e X.env)]:=by rfl):PI X (.Tuple elts x1 tp) (.Call (.Name "enumerate" p0) [e] [⟨some "start",.Constant (.int 1) j p1,p2⟩] pos) (Ztm K t):=by
 subst eK;intro pins s σ H R I h;refine wpAny_Call_Name_kw (ZcX I hg hm Zj4 ?_ (by decide) (by decide));refine Zj3 (thn (ha pos pins s σ H _ I h) fun us s1 z=> ?_) (by rw[hs];rfl) (by rw[hs];rfl) rfl rfl
 obtain⟨vs,H1,I1,r1,a,rfl,⟨xs,hq⟩,q⟩:=z;obtain⟨u,rfl,ru⟩:=ZcO r1;cases ru;refine kws_cons (thn (Zx (X:=X) pins s1 σ H1 (fun v H'=>v=.int 1/\H'=H1) I1 ⟨rfl,rfl⟩) fun v s2 ⟨x,H2,I2,r2,e1,e2⟩=>kws_nil ?_);subst e1 e2;obtain⟨tk,rfl⟩:=r2;obtain⟨its,rv,pl,hz⟩:=I2.list hq;refine ZfY pl.isList fun h' en il k=>wpAny_pyIter_enum en ?_;have ne:s2.heap.objs.size+1≠s2.heap.objs.size:=Nat.ne_of_gt (Nat.lt_succ_self _)
 refine⟨_,[s2.heap.objs.size+1,s2.heap.objs.size],_,_,_,rfl,I2.kept (t':=s2.toks) k,Zn9 a _ _ ne 1,⟨⟨_,en⟩,il⟩,fun b hb=> ?_,q⟩;have hb:b=s2.heap.objs.size+1\/b=s2.heap.objs.size:=by simpa using hb
 have le:s2.heap.objs.size<=b:=by rcases hb with rfl|rfl<;>omega
 exact I2.fpOk le (I2.hok.fresh le)
end
end L3
namespace L3
open PySem PySem.Spec PyProof.Rows L2
section
variable {X:Cx}
end
end L3
namespace L3
open PySem PySem.Spec PyProof.Rows L2 PySem.W PySem.Calls
section
variable {X:Cx} {K:PySem.W.Frag}
end
section
variable {P:Program} {w:World} (l b:Addr) (xs ys:Array Value) (n m:Nat) (d1 d2:Option Addr) (s1 s2:Array (Option Value)) (e c:Nat->Bool)
end
section
variable {P:Program} {w:World} {A:Around} {s:Shared} {l b:Addr} {xs ys:Array Value} {e c:Nat->Bool}
end
section
variable {X:Cx} {pins:List (Addr×Obj)} {σ:L2.St} {H:Hp} {s:Shared} {A:Around}
end
section
variable {prog:Program} {w:World} {B:Around} {R:Result->Shared->Prop} {it S:Addr} {c:Nat} {s:Shared}
end
section
variable {X:Cx} {pins:List (Addr×Obj)} {σ:L2.St} {H:Hp} {s:Shared}
end
end L3
namespace L3
open PySem PySem.Spec PyProof.Rows L2
section
variable {X:Cx} {K:PySem.W.Frag}
end
end L3
namespace L3
open PySem PySem.Spec PyProof.Rows L2 PySem.W PySem.Calls
section
variable {X:Cx} {pins:List (Addr×Obj)} {σ:L2.St} {H:Hp} {s:Shared} {A:Around}
end
section
variable {prog:Program} {w:World} {B:Around} {R:Result->Shared->Prop} {it S:Addr} {c:Nat} {s:Shared}
end
section
variable {X:Cx} {pins:List (Addr×Obj)} {σ:L2.St} {H:Hp} {s:Shared}
end
end L3
namespace L3
open PySem PySem.Spec PyProof.Rows L2
section
variable {X:Cx} {K:PySem.W.Frag}
end
end L3
namespace L3
open PySem PySem.Spec PyProof.Rows L2
section
variable {X:Cx} {pins:List (Addr×Obj)} {σ:L2.St} {H:Hp} {s:Shared} {h':Heap}
end
section
variable {X:Cx} {pins:List (Addr×Obj)} {σ:L2.St} {H:Hp} {s:Shared}
end
end L3
namespace L3
open PySem PySem.Spec PyProof.Rows L2 PySem.W PySem.Calls
section
variable {X:Cx} {pins:List (Addr×Obj)} {σ:L2.St} {H:Hp} {s:Shared} {α:Type} {lt:α->α->Bool} {R:Hp->α->V->Prop} {d:α}
end
section
variable {X:Cx} {pins:List (Addr×Obj)} {σ:L2.St} {H:Hp} {s:Shared} {α:Type} {lt:α->α->Bool} {R:Hp->α->V->Prop} {d:α} {k:Nat} {g:Addr} {fd:FuncData} {p:Str} {sp:Sp}
end
end L3
namespace L3
open PySem PySem.Spec PyProof.Rows L2
end L3
namespace L3
open PySem PySem.Spec PyProof.Rows L2
end L3
namespace L3
open PySem PySem.Spec PyProof.Rows L2 PySem.W PySem.Calls
end L3
namespace L3
open PySem PySem.Spec PyProof.Rows L2 PySem.W PySem.Calls
section
variable {X:Cx} {pins:List (Addr×Obj)} {σ:L2.St} {H:Hp} {s:Shared} {A:Around}
end
end L3
namespace L3
open PySem PySem.Spec PyProof.Rows L2 PySem.W PySem.Calls
end L3
namespace L3
open PySem PySem.Spec PyProof.Rows L2 PySem.W PySem.Calls
section
variable {X:Cx}
end
section
variable {X:Cx} {K:PySem.W.Frag}
end
end L3
namespace L3
open PySem PySem.Spec PyProof.Rows L2 PySem.W PySem.Calls
section
variable {P:Program} {w:World} {K:Frag} {mg:Str->Option Value} {base:Heap} {N:List Str} {qual:Str} {scope:Scope} {f:Addr} {cdv:Value} {A:Around} {outer:List Env} {s₀:Shared} {H₀:Hp} {E:XK} {CX:CXT}
abbrev pinned(X:Cx)(pn:List (Addr×Obj)):Cx:={X with pn:=pn,xe:=fun _ _=>False}
abbrev Zna(P:Program)(w:World)(X:Cx)(pn:List (Addr×Obj))(E':XK):Cx:={X with pn:=pn,xe:=fun ev s'=>∃(pins:List (Addr×Obj)) (σ:L2.St) (H:Hp) (s:Shared),L2.Inv (pinned X pn) pins σ H s/\CXr P w X.stack H s E' ev s'}
theorem Zsk{X:Cx}{pn:List (Addr×Obj)}{E':XK}(o:X.Ok):(Zna P w X pn E').Ok:=⟨o.mod,o.kind,o.glob,o.blt,o.above,o.inj,o.has,o.cab,o.hd,o.frames,o.stk,o.exf,o.bs,o.bsz,o.noex,o.exfs,o.funs,o.frf⟩
theorem Zln{X:Cx}{pn:List (Addr×Obj)}(o:X.Ok):(pinned X pn).Ok:=⟨o.mod,o.kind,o.glob,o.blt,o.above,o.inj,o.has,o.cab,o.hd,o.frames,o.stk,o.exf,o.bs,o.bsz,o.noex,o.exfs,o.funs,o.frf⟩
theorem ZoR{X:Cx}{pins:List (Addr×Obj)}{E':XK}{σ:L2.St}{H:Hp}{s:Shared}(I:L2.Inv X pins σ H s):L2.Inv (Zna P w X (X.pn++pins) E') [] σ H s:=⟨Zsk I.ok,I.os,I.bare,I.base,I.loc,I.cell,I.free,I.freeC,fun p hp=>I.pin p (by rwa [List.append_nil] at hp),I.hok,I.len⟩
theorem Zgk{X:Cx}{pins ps:List (Addr×Obj)}{E':XK}{σ:L2.St}{H:Hp}{s:Shared}(o:X.Ok)(I:L2.Inv (Zna P w X (X.pn++pins) E') ps σ H s):L2.Inv X pins σ H s:=⟨o,I.os,I.bare,I.base,I.loc,I.cell,I.free,I.freeC,fun p hp=>I.pin p (List.mem_append_left _ hp),I.hok,I.len⟩
theorem Zj5{X:Cx}{pins ps:List (Addr×Obj)}{σ:L2.St}{H:Hp}{s:Shared}(o:X.Ok)(I:L2.Inv (pinned X (X.pn++pins)) ps σ H s):L2.Inv X pins σ H s:=⟨o,I.os,I.bare,I.base,I.loc,I.cell,I.free,I.freeC,fun p hp=>I.pin p (List.mem_append_left _ hp),I.hok,I.len⟩
theorem ZoS{X:Cx}{pn:List (Addr×Obj)}{E':XK}(o:X.Ok):JV (CXr P w) (Zna P w X pn E') E':=fun pins σ H s _ _ I h=>⟨pins,σ,H,s,⟨Zln o,I.os,I.bare,I.base,I.loc,I.cell,I.free,I.freeC,I.pin,I.hok,I.len⟩,h⟩
def Zrk(K:Frag)(C:Addr)(i n:Nat)(tb:XK->TS)(ts:TS):TS:=fun D σ H=>tb (fun c d H2=>∀(σ':L2.St) (e:Addr),σ'.length=n->H2 e=none->∃B,c=.ref B/\exmOne K (.ref B) (.ref C)=some true/\ts (ZoE D i) (σ'.set i (some (.ref e))) (upd H2 e (XO e B d))) D σ H
theorem ZoT{X:Cx}(eX:X=ZW CX P w K mg base N qual scope f cdv A outer s₀ H₀ E){C:Addr}{i:Nat}{cn n:Str}{tb:XK->TS}{ts:TS}{np hpos pos:Pos}{body:List Stmt}{b0:Stmt}{suite:List Stmt}{rest:List ExceptHandler}{EE:Value->Shared->Prop}
  (hb:X.Ok->∀pn E',PSs (Zna P w X pn E') body (tb E'))(hN:X.N.Nodup)(hgc:Gl X cn)(hm:mg cn=some (.ref C))(hi:X.N[i]? =some n)(hk:X.env.scope.names.lookup n=some .local)
  (hs:∀e,PSs (Jp X e fun _ _=>False) (b0::suite) ts)(hd2:(cn==("__debug__":Str))=false:=by decide){pins:List (Addr×Obj)}{s:Shared}{σ:L2.St}{H:Hp}{D:ZeB}(I:L2.Inv X pins σ H s)(h:Zrk K C i X.N.length tb ts D σ H):
  wpAny (model X.prog X.w) X.A (exec (.Try body (.ExceptHandler (some (.Name cn np)) (some n) (b0::suite) hpos::rest) [] [] pos) X.env) (SP X pins D) EE s:=by
 subst eX;refine wpAny_Try_except (wpAny_mono (hb I.ok _ _ [] s σ H D (ZoR I) h) (fun fl s1 z=> ?_) fun ev s1 z=> ?_)
 ·cases fl with
  |next=>obtain⟨σ2,H2,I3,q3⟩:=z;exact wpAny_execs_nil ⟨σ2,H2,Zgk I.ok I3,q3⟩
  |brk=>obtain⟨σ2,H2,I3,q3⟩:=z;exact⟨σ2,H2,Zgk I.ok I3,q3⟩
  |cont=>obtain⟨σ2,H2,I3,q3⟩:=z;exact⟨σ2,H2,Zgk I.ok I3,q3⟩
  |ret u=>obtain⟨v,σ2,H2,I3,r,q3⟩:=z;exact⟨v,σ2,H2,Zgk I.ok I3,r,q3⟩
 ·obtain⟨ps,σ1,H1,s2,I2,hcx⟩:=z;have I1:=Zj5 (pins:=pins) I.ok I2;refine Zsc (P:=P) (w:=w) I1 hcx fun e D2 a0 H2 B h2 d ee again fl hok new ⟨ob,_,k1,k2,_⟩ q2=> ?_;subst ee;obtain⟨B2,eb,mt,q3⟩:=q2 σ1 e I1.len (apart hok fl);cases eb;exact ZoF I.ok again fl I1 new (apart hok fl) ⟨ob,k1,k2⟩ hgc hm mt hN hi hk (hs _) q3 hd2
theorem ZoU{X:Cx}(eX:X=(ZW CX P w K mg base N qual scope f cdv A outer s₀ H₀ E).nox){C:Addr}{i:Nat}{cn n:Str}{tb:XK->TS}{ts:TS}{np hpos pos:Pos}{body:List Stmt}{b0:Stmt}{suite:List Stmt}{rest:List ExceptHandler}
  (hb:X.Ok->∀pn E',PSs (Zna P w X pn E') body (tb E'))(hN:X.N.Nodup)(hgc:Gl X cn)(hm:mg cn=some (.ref C))(hi:X.N[i]? =some n)(hk:X.env.scope.names.lookup n=some .local)
  (hs:∀e,PSs (Jp X e fun _ _=>False) (b0::suite) ts)(hd2:(cn==("__debug__":Str))=false:=by decide):
  PS X (.Try body (.ExceptHandler (some (.Name cn np)) (some n) (b0::suite) hpos::rest) [] [] pos) (Zrk K C i X.N.length tb ts):=by
 subst eX;intro pins s σ H D I h;refine wpAny_mono (ZoT (P:=P) (w:=w) (K:=K) (mg:=mg) (base:=base) (N:=N) (qual:=qual) (scope:=scope) (f:=f) (cdv:=cdv) (A:=A) (outer:=outer) (s₀:=s₀) (H₀:=H₀) (E:=E) (CX:=CX) (X:=ZW CX P w K mg base N qual scope f cdv A outer s₀ H₀ E) rfl (fun _=>hb I.ok) hN hgc hm hi hk hs hd2 (EE:=fun _ _=>False) I.unwish h) (fun fl s2 z=> ?_) fun _ _ z=>z.elim;cases fl with
 |next=>obtain⟨σ2,H2,I3,q3⟩:=z;exact⟨σ2,H2,I3.wish _,q3⟩
 |brk=>obtain⟨σ2,H2,I3,q3⟩:=z;exact⟨σ2,H2,I3.wish _,q3⟩
 |cont=>obtain⟨σ2,H2,I3,q3⟩:=z;exact⟨σ2,H2,I3.wish _,q3⟩
 |ret u=>obtain⟨v,σ2,H2,I3,r,q3⟩:=z;exact⟨v,σ2,H2,I3.wish _,r,q3⟩
end
section
variable {X:Cx}
end
end L3
namespace L3
open PySem PySem.Spec PyProof.Rows L2 PySem.W PySem.Calls
section
variable {X:Cx} {pins:List (Addr×Obj)} {σ:L2.St} {H:Hp} {s:Shared} {A:Around}
end
end L3
namespace L3
open PySem PySem.Spec PyProof.Rows L2 PySem.W PySem.Calls
theorem ZeN{o:Obj}{x:Value}(h:Zac o=some x):∃vs,o.data=.fields vs/\vs[2]? =some x:=by
 unfold Zac at h
 split at h
 ·rename_i vs e;exact⟨vs,e,h⟩
 ·cases h
theorem Zek{M:Model}{A:Around}{E:Value->Shared->Prop}{s:Shared}{Q:Value->Shared->Prop}{a:Addr}{o:Obj}{x:Value}(ho:s.heap.get? a=some o)(h2:Zac o=some x)(h:Q x s):wpAny M A (field (.ref a) 2) Q E s:=by
 obtain⟨vs,hd,hi⟩:=ZeN h2;exact wpAny_field ho hd hi h
theorem Zhz:plainId "proto.unchain"=true:=by decide+kernel
theorem Ze4:entryFor table "proto.unchain"=some Builtin.«proto.unchain»:=entryFor_of_fast (by kernel_rfl)
section
variable {w:World} {s:Shared} {A:Around} {prog:Program}
theorem ZqE{R:Result->Shared->Prop}{e:Addr}{p:Nat->Addr}{n:Nat}(hp:∀i,i<=n->∃ob,s.heap.get? (p i)=some ob/\Zac ob=some (if i=n then .none else .ref (p (i+1))))(ne:∀i,i<=n->p i≠e)(q:R (.ok (.ret .none)) s):
  ∀(m j i:Nat) (tg:Bool),n-j=m->j<=n->i<=j->codeAny (model prog w) A (.builtin "proto.unchain" ⟨[.ref e,.ref (p j),.ref (p i),.bool tg],[]⟩) R s:=by
 intro m
 induction m with
 |zero=>
  intro j i tg hm hj hi;obtain rfl:j=n:=by omega
  obtain⟨ob,e1,e2⟩:=hp j hj;rw[if_pos rfl] at e2
  refine codeAny_builtin Ze4 ?_;unfold Builtin.«proto.unchain»;refine wpAny_bind (Zek e1 e2 ?_);rw[if_pos (by decide)];exact wpAny_pure q
 |succ m ih=>
  intro j i tg hm hj hi;obtain⟨ob,e1,e2⟩:=hp j hj;rw[if_neg (by omega)] at e2
  refine codeAny_builtin Ze4 ?_;unfold Builtin.«proto.unchain»;refine wpAny_bind (Zek e1 e2 ?_);rw[if_neg (show¬(Value.ref (p (j+1))==Value.none)=true from fun z=>by cases(eq_of_beq z)),if_neg (fun z=>ne (j+1) (by omega) (by have:=eq_of_beq z;injection this))]
  refine wpAny_ite ?_
  split
  ·exact wpAny_bind (wpAny_rule (wpAny_pure q))
  ·have go:∀k,k<=j+1->wpAny (model prog w) (A.under (Code.builtin "proto.unchain" {pos:=[Value.ref e,Value.ref (p j),Value.ref (p i),Value.bool tg]})) (again (Code.builtin "proto.unchain" {pos:=[Value.ref e,Value.ref (p (j+1)),Value.ref (p k),Value.bool !tg]})) (fun fin s'=>
     match fin with
     |Fin.done f=>R (Except.ok f) s'
     |Fin.again c'=>c'.quiet=true/\codeAny (model prog w) A c' R s') (fun e s'=>R (Except.error e) s') s:=fun k hk=>wpAny_pure ⟨plainId_quiet Zhz _,ih (j+1) k (!tg) (by omega) (by omega) hk⟩
   cases tg with
   |true=>
    obtain⟨ob2,e3,e4⟩:=hp i (by omega);rw[if_neg (by omega)] at e4
    exact wpAny_bind (Zek e3 e4 (go (i+1) (by omega)))
   |false=>exact wpAny_bind (wpAny_pure (go i (by omega)))
end
theorem ZoV{h:Heap}:∀{l:List (Addr×Obj)} {v:Value},ChL h l v->v=.none\/∃(p:Nat->Addr) (n:Nat),v=.ref (p 0)/\(∀i,i<=n->∃ob,h.get? (p i)=some ob/\Zac ob=some (if i=n then .none else .ref (p (i+1))))
 |[],_,z=> .inl z
 |(a,o)::r,_,⟨rfl,e1,x,e2,z⟩=>by
  rcases ZoV z with rfl|⟨p,n,rfl,k⟩
  ·exact .inr ⟨fun _=>a,0,rfl,fun i hi=>⟨o,e1,by rw[if_pos (by omega)];exact e2⟩⟩
  ·refine .inr ⟨fun i=>match i with|0=>a|i+1=>p i,n+1,rfl,fun i hi=> ?_⟩;cases i with
   |zero=>exact⟨o,e1,by rw[if_neg (by omega)];exact e2⟩
   |succ i=>
    obtain⟨ob,e3,e4⟩:=k i (by omega);refine⟨ob,e3, ?_⟩;rw[e4]
    by_cases j:i=n
    ·rw[if_pos j,if_pos (by omega)]
    ·rw[if_neg j,if_neg (by omega)]
section
variable {w:World} {s:Shared} {A:Around} {prog:Program}
theorem ZfO{α:Type}{E:Value->Shared->Prop}{e c:Addr}{ob:Obj}{vs:Array Value}{Q:α->Shared->Prop}{h0:Heap}(hh:A.handled=some (.ref c))(he:s.heap.get? e=some ob)(hd:ob.data=.fields vs)(h2:2<vs.size)
  {l:List (Addr×Obj)}(ch:ChL h0 l (.ref c))(new:h0.get? e=none)(kp:∀b o,h0.get? b=some o->s.heap.get? b=some o)(h:E (.ref e) {s with heap:=s.heap.update e (Obj.mapFields (·.setIfInBounds 2 (.ref c)))}):wpAny (model prog w) A (raiseNew (.ref e):Sem α) Q E s:=by
 rcases ZoV ch with z|⟨p,n,z,hp⟩
 ·cases z
 cases z;have ne:∀i,i<=n->p i≠e:=fun i hi z=>by
  obtain⟨ob,e1,_⟩:=hp i hi;rw[z,new] at e1
  cases e1
 unfold raiseNew;refine wpAny_bind (wpAny_handled (hh.symm▸?_));show wpAny (model prog w) A (if(Value.ref (p 0) !=Value.ref e)=true then _ else _) Q E s;rw[if_pos (by rw[bne_iff_ne];intro y;injection y with y;exact ne 0 (Nat.zero_le _) y)]
 refine wpAny_bind (wpAny_holding (wpAny_runValue (ZqE (fun i hi=> ?_) ne ?_ n 0 0 false rfl (Nat.zero_le _) (Nat.le_refl _))))
 ·obtain⟨ob,e1,e2⟩:=hp i hi;exact⟨ob,kp _ _ e1,e2⟩
 ·exact wpAny_bind (wpAny_setField (a:=e) he hd h2 (wpAny_throw h))
end
structure Zka (h h':Heap) (e D c:Addr):Prop where
 keeps:∀(b:Addr) (ob:Obj),h.get? b=some ob->h'.get? b=some ob
 new:h.get? e=none
 there:∃t,h'.get? e=some {cls:=.ref D,data:=.fields #[.ref t,.none,.ref c,.none,.bool true,.none]}
theorem Zlo{P:Program}{w:World}{A:Around}{E:Value->Shared->Prop}{s:Shared}{env:Env}{x:Str}{D c:Addr}{mg:Str->Option Value}{make cause:Sem Value}{Q:Flow->Shared->Prop}(held:A.handled=some (.ref c))(nothing:∀s R,R Value.none s->wpAny (model P w) A cause R E s)
  (h:wpAny (model P w) A make (fun v s1=>∃h0 e us,v=.ref e/\ZeJ x D mg s1.heap/\Heap.MadeExcOf h0 s1.heap e (.ref D) us/\(∃l,ChL h0 l (.ref c))/\∀h',Zka h0 h' e D c->E (.ref e) {s1 with heap:=h'}) E s):wpAny (model P w) A (raiseStmt env (some make) (some cause)) Q E s:=by
 unfold raiseStmt;refine wpAny_bind (thn h fun v s1 z=> ?_);obtain⟨h0,e,us,rfl,own,mk,⟨l,ch⟩,q⟩:=z;obtain⟨bm,_,_,_,_,_,_,_,_,_,_,_,_,_,_,_,_,at_,_,_,above⟩:=own.obj;obtain⟨t,e0,_,_⟩:=mk.there;have exc:(Value.ref D::bm).contains (.type "BaseException")=true:=List.contains_iff_mem.mpr (List.mem_cons_of_mem _ (List.contains_iff_mem.mp (above.hasType PySem.F.excBase_ValueError.hasBase)));have apart:e≠D:=fun y=>by rw[y,at_] at e0;cases e0
 refine wpAny_bind (wpAny_holding (nothing _ _ (wpAny_bind (wpAny_pure ?_))));cases s1 with|mk h1 gs dr tk os=>
 dsimp only at e0 at_ mk q
 generalize eo2:h1.update e (Obj.mapFields fun fs=>fs.setIfInBounds 3 Value.none)=h2;generalize eo3:h2.update e (Obj.mapFields fun fs=>fs.setIfInBounds 4 (Value.bool true))=h3;have e2:=eo2▸Heap.get?_update_self (Obj.mapFields fun fs=>fs.setIfInBounds 3 Value.none) e0 rfl;have e3:=eo3▸Heap.get?_update_self (Obj.mapFields fun fs=>fs.setIfInBounds 4 (Value.bool true)) e2 rfl;have same:∀b,b≠e->h3.get? b=h1.get? b:=fun b n=>by rw[<-eo3,Heap.get?_update_other _ _ (Ne.symm n),<-eo2,Heap.get?_update_other _ _ (Ne.symm n)]
 have at3:=(same D (Ne.symm apart)).trans at_;have old:∀b o,h0.get? b=some o->b≠e:=fun b o hb y=>by rw[y,mk.new] at hb;cases hb
 repeat (first|with_reducible refine wpAny_loadPart_at e0 ?_|with_reducible refine wpAny_loadPart_at at_ ?_|with_reducible refine wpAny_loadPart_at at3 ?_|(with_reducible refine wpAny_isSubtype_exc at_ ?_;rw[exc])|(with_reducible refine wpAny_isSubtype_exc at3 ?_;rw[exc])|wp_step|(rw[eo2])|(rw[eo3]))
 refine ZfO held e3 rfl (by simp) ch mk.new (fun b o hb=>(same b (old b o hb)).trans (mk.keeps b o hb)) (q _ ⟨fun b o hb=> ?_,mk.new,t,Heap.get?_update_self _ e3 rfl⟩);exact(Heap.get?_update_other _ _ (Ne.symm (old b o hb))).trans ((same b (old b o hb)).trans (mk.keeps b o hb))
theorem ChL.keeps{h h':Heap}(k:∀b o,(∃x,Zac o=some x)->h.get? b=some o->h'.get? b=some o):∀{l:List (Addr×Obj)} {v:Value},ChL h l v->ChL h' l v
 |[],_,z=>z
 |(a,o)::r,_,⟨e0,e1,x,e2,z⟩=>⟨e0,k a o ⟨x,e2⟩ e1,x,e2,ChL.keeps k z⟩
theorem ChL.mem{h:Heap}:∀{l:List (Addr×Obj)} {v:Value},ChL h l v->∀p∈l,h.get? p.1=some p.2/\∃x,Zac p.2=some x
 |[],_,_,p,hp=>nomatch hp
 |(a,o)::r,_,⟨e0,e1,x,e2,z⟩,p,hp=>by
  rcases List.mem_cons.mp hp with rfl|hp
  ·exact⟨e1,x,e2⟩
  ·exact ChL.mem z p hp
theorem ChL.moved{h h':Heap}:∀{l:List (Addr×Obj)} {v:Value},ChL h l v->(∀p∈l,h'.get? p.1=some p.2)->ChL h' l v
 |[],_,z,_=>z
 |(a,o)::r,_,⟨e0,e1,x,e2,z⟩,k=>⟨e0,k (a,o) (List.mem_cons_self ..),x,e2,z.moved fun p hp=>k p (List.mem_cons_of_mem _ hp)⟩
theorem ZfP{M:Model}{A:Around}{E:Value->Shared->Prop}{s:Shared}{B:Heap}{l:List Env}{e L:Addr}{cls a0:Value}{Q:Unit->Shared->Prop}(hh:Heap.HeldW B l e cls a0 L s.heap)
  (hQ:∀h',Heap.HeldW B l e cls a0 L h'->s.heap.UpToSlots h'->Q () {s with heap:=h'}):wpAny M A (setFlight (.ref e) (some L)) Q E s:=by
 obtain⟨k1,k2,k3,oe,vs,T,oT,ts,e0,hc,ed,e1,hnT,hTe,hT,hdT,h3⟩:=hh;have sz:3<ts.size:=(Array.getElem?_eq_some_iff.mp h3).1;have oth:∀b,b≠T->(s.heap.update T (Obj.mapFields (·.setIfInBounds 3 (rawInt L)))).get? b=s.heap.get? b:=fun b n=>Heap.get?_update_other _ _ (Ne.symm n);have nrec:∀b o,s.heap.get? b=some o->(∀vs,o.data≠.fields vs)->b≠T:=fun b o hb hn z=>by
  rw[z,hT] at hb
  cases hb;exact hn ts hdT
 unfold setFlight;refine wpAny_bind (wpAny_field e0 ed e1 ?_);rw[if_pos (by rw[bne_iff_ne];intro z;cases z)]
 refine wpAny_setField hT hdT sz (hQ _ ⟨fun b o hb=> ?_,k2, ?_, ?_⟩ fun b o hb hn=>⟨o.slots,(oth b (nrec b o hb hn)).trans hb⟩)
 ·exact(oth b fun z=>by rw[z,hnT] at hb;cases hb).trans (k1 b o hb)
 ·exact k3.of_keeps fun b o hb hn=>⟨o,(oth b (nrec b o hb hn)).trans hb,rfl⟩
 ·exact⟨oe,vs,T,_,_,(oth e (Ne.symm hTe)).trans e0,hc,ed,e1,hnT,hTe,Heap.get?_update_self _ hT (Obj.isFreed_of_fields (Obj.data_mapFields hdT _)),Obj.data_mapFields hdT _,by rw[Array.getElem?_setIfInBounds_self_of_lt sz];rfl⟩
section
variable {P:Program} {w:World} {K:Frag} {mg:Str->Option Value} {base:Heap} {N:List Str} {qual:Str} {scope:Scope} {f:Addr} {cdv:Value} {A:Around} {outer:List Env} {s₀:Shared} {H₀:Hp} {E:XK}
theorem ZfZ{pins:List (Addr×Obj)}{σ:L2.St}{H:Hp}{s:Shared}{h':Heap}{e D c:Addr}{l:List (Addr×Obj)}(I:L2.Inv (ZW (CXr P w) P w K mg base N qual scope f cdv A outer s₀ H₀ E) pins σ H s)
  (hx:Zka s.heap h' e D c)(ch:ChL s.heap l (.ref c))(fr:∀p∈l,H p.1=none)(q:E (.ref D) none H):
  notedBy (model P w) ((ZW (CXr P w) P w K mg base N qual scope f cdv A outer s₀ H₀ E).A.mark (some (.ref c))) (ZW (CXr P w) P w K mg base N qual scope f cdv A outer s₀ H₀ E).env (cameBackBy (model P w) (ZW (CXr P w) P w K mg base N qual scope f cdv A outer s₀ H₀ E).A (ZW (CXr P w) P w K mg base N qual scope f cdv A outer s₀ H₀ E).env (ZW (CXr P w) P w K mg base N qual scope f cdv A outer s₀ H₀ E).xe) (.ref e) {s with heap:=h'}:=by
 have neL:∀b o,s₀.heap.get? b=some o->b≠s₀.heap.objs.size:=fun b o e=>Nat.ne_of_lt (Heap.lt_size e);have nst:∀b o,s₀.heap.get? b=some o->b∉frs outer->b∉frs (ZW (CXr P w) P w K mg base N qual scope f cdv A outer s₀ H₀ E).stack:=fun b o eb nb hb=>by
  rcases List.mem_cons.mp (I.stkSub b hb) with z|z
  ·exact neL b o eb z
  ·exact nb z
 have hin:∀env∈(ZW (CXr P w) P w K mg base N qual scope f cdv A outer s₀ H₀ E).stack,∀a,env.frame=some a->a∈frs (ZW (CXr P w) P w K mg base N qual scope f cdv A outer s₀ H₀ E).stack:=fun env he a ha=>List.mem_filterMap.mpr ⟨env,he,ha⟩;obtain⟨t,he⟩:=hx.there;have en:(hideAll s.heap (frs (ZW (CXr P w) P w K mg base N qual scope f cdv A outer s₀ H₀ E).stack)).get? e=none:=by
  cases z:(hideAll s.heap (frs (ZW (CXr P w) P w K mg base N qual scope f cdv A outer s₀ H₀ E).stack)).get? e with
  |none=>rfl
  |some o=>
   have:=of_hideAll _ z;rw[hx.new] at this
   cases this
 have ff:=(funFrames_hide I.stack hin).of_keeps fun b o hb _=>⟨o,hx.keeps b o hb,rfl⟩
 have st:(hideAll s.heap (frs (ZW (CXr P w) P w K mg base N qual scope f cdv A outer s₀ H₀ E).stack)).StaysIn h':=fun b o z=>hx.keeps b o (of_hideAll _ z);have note:wpAny (model P w) ((ZW (CXr P w) P w K mg base N qual scope f cdv A outer s₀ H₀ E).A.mark (some (.ref c))) (noteFrame (.ref e) (ZW (CXr P w) P w K mg base N qual scope f cdv A outer s₀ H₀ E).env) (fun _ s2=>∃h4,s2={s with heap:=h4}/\Heap.HeldW (hideAll s.heap (frs (ZW (CXr P w) P w K mg base N qual scope f cdv A outer s₀ H₀ E).stack)) (ZW (CXr P w) P w K mg base N qual scope f cdv A outer s₀ H₀ E).stack e (.ref D) (.ref t) s₀.heap.objs.size h4/\h'.UpToSlots h4) (fun _ _=>False) {s with heap:=h'}:=by
  unfold noteFrame;refine wpAny_bind (wpAny_field (x:=.none) he rfl rfl ?_);rw[if_neg (show¬(Value.none !=Value.none)=true by decide)];exact wpAny_entryW (I.ok.frames) ff rfl he st en rfl (show 1<6 by decide) rfl fun h4 ⟨x1,x2,x3,x4⟩=>⟨h4,rfl,⟨x1,en,x2,x3⟩,x4⟩
 refine wpAny_mono (Kd.any (Zgh _ _) note) (fun _ s2 z=> ?_) fun _ _ z=>z.1.elim;obtain⟨⟨h4,rfl,held,up4⟩,dk4⟩:=z;obtain⟨ob4,e4,d4,f4⟩:=dk4 e _ he;obtain⟨oe,vs,T,oT,ts,he4,hc4,hd4,h14,_⟩:=held.2.2.2;refine wpAny_bind (wpAny_field he4 hd4 h14 ?_);rw[if_neg (fun z=>by cases(eq_of_beq z))];refine wpAny_mono (Kd.any (JW _ _) (ZfP (Q:=fun _ s2=>∃h5,s2={s with heap:=h5}/\Heap.HeldW (hideAll s.heap (frs (ZW (CXr P w) P w K mg base N qual scope f cdv A outer s₀ H₀ E).stack)) (ZW (CXr P w) P w K mg base N qual scope f cdv A outer s₀ H₀ E).stack e (.ref D) (.ref t) s₀.heap.objs.size h5/\h4.UpToSlots h5) held fun h5 x y=>⟨h5,rfl,x,y⟩)) (fun _ s3 z=> ?_) fun _ _ z=>z.1
 obtain⟨⟨h5,rfl,held5,up5⟩,dk5⟩:=z;obtain⟨ob5,e5,d5,f5⟩:=dk5 e _ e4;have leav:wpAny (model P w) (ZW (CXr P w) P w K mg base N qual scope f cdv A outer s₀ H₀ E).A (leaving (ZW (CXr P w) P w K mg base N qual scope f cdv A outer s₀ H₀ E).env (.ref e)) (fun _ s2=>∃h6,s2={s with heap:=h6}/\Heap.FlyingW (hideAll s.heap (frs (ZW (CXr P w) P w K mg base N qual scope f cdv A outer s₀ H₀ E).stack)) outer e (.ref D) (.ref t) h6/\h5.UpToSlots h6) (fun _ _=>False) {s with heap:=h5}:=by
  unfold leaving;refine wpAny_bind (wpAny_noteFrame_againW rfl held5.2.2.2 (wpAny_landsW held5 fun h6 fl up6=> ?_));obtain⟨k1,k2,⟨_,_,k3⟩,k4⟩:=fl;exact⟨h6,rfl,⟨k1,k2,k3,k4⟩,up6⟩
 refine wpAny_mono (Kd.any (ZaT _ _) leav) (fun _ s4 z=> ?_) fun _ _ z=>z.1.elim;obtain⟨⟨h6,rfl,fl,up6⟩,dk6⟩:=z;obtain⟨ob6,e6,d6,f6⟩:=dk6 e _ e5;have ups:=(up4.trans up5).trans up6;have nofr:∀b o,(∃x,Zac o=some x)->s.heap.get? b=some o->b∉frs (ZW (CXr P w) P w K mg base N qual scope f cdv A outer s₀ H₀ E).stack:=fun b o ⟨x,hx2⟩ hb hm=>by
  obtain⟨_,o2,e2,hd⟩:=I.stack.mem hm;rw[hb] at e2
  cases e2;obtain⟨vs,e3,_⟩:=ZeN hx2;exact hd vs e3
 refine⟨e,D,_,H,_,rfl,I.os,I.bare,fl,⟨fun b o eb nb hb=>⟨hideAll_get _ (I.base.keep b o eb nb hb (by intro z;cases z)) (nst b o eb hb),I.base.free b o eb nb (by intro z;cases z)⟩,fun b o eb nb hb=> ?_,fun b o eb hb=> ?_,I.base.tups,I.base.frzs,I.base.tbls⟩,
  fun b u eb=>(I.hok b u eb).stay (fun c v hc z=>hideAll_get _ z fun hm=> ?_) (fun _ z=>z) (fun _ _ z=>z),none,.ref c,⟨ob6,e6,(d6.trans d5).trans d4,(f6.trans f5).trans f4⟩,⟨l,ch.keeps fun b o hf hb=>hideAll_get _ hb (nofr b o hf hb),fr⟩,q⟩
 ·obtain⟨sl,e1⟩:=I.base.slot b o eb nb hb (by intro z;cases z)
  obtain⟨_,o2,e2,hd⟩:=I.ok.funs.mem hb;have e2:s₀.heap.get? b=some o2:=e2;rw[eb] at e2
  cases e2;obtain⟨sl2,e3⟩:=ups b _ (hx.keeps b _ e1) hd;exact⟨⟨sl2,e3⟩,I.base.free b o eb nb (by intro z;cases z)⟩
 ·obtain⟨o',e1⟩:=I.base.there b o eb (by intro z;cases z)
  exact⟨o',hideAll_get _ e1 (nst b o eb hb)⟩
 ·have nn:=I.stkFree c hm;rcases hc with rfl|hc
  ·rw[nn] at eb;cases eb
  ·rw[nn] at hc;cases hc
theorem Zkb{X:Cx}(eX:X=ZW (CXr P w) P w K mg base N qual scope f cdv A outer s₀ H₀ E){pins:List (Addr×Obj)}{σ:L2.St}{H:Hp}{s:Shared}{B h:Heap}{l:List Env}{e C D D':Addr}{a0:Value}{cn x:Str}{np np2 cpos zpos rpos hpos:Pos}{kk:Nat}{e1:PySem.Expr}{es:List PySem.Expr}{rest:List ExceptHandler}{t:TA}{Q:Flow->Shared->Prop}
  (again:∀(h5:Heap) (tk:Nat),B.StaysIn h5->h.UpToSlots h5->L2.Inv X pins σ H {s with heap:=h5,toks:=tk})(fl:Heap.FlyingW B l e (.ref D) a0 h)(free:H e=none)(dk:∃ob cx,h.get? e=some ob/\Zac ob=some cx/\Chn H B cx)(hg:Gl X cn)(hm:X.mg cn=some (.ref C))(hx:exmOne X.K (.ref D) (.ref C)=some true)
  (O:ZeJ x D' X.mg X.base)(hgx:Gl X x)(ha:PA (Jp X (.ref e) fun _ _=>False) (e1::es) t)(q:t σ H fun vs H1=>vs.length<=sizeLine/\E (.ref D') none H1)(hdb:(cn==("__debug__":Str))=false:=by decide)(hdx:(x==("__debug__":Str))=false:=by decide)
  (hs:starEach (e1::es) X.env=(false,eval e1 X.env)::starEach es X.env:=by rfl)(hpl:(backTo cpos (starEach es X.env)).any (·.1)=false:=by rfl):
  wpAny (model X.prog X.w) X.A (handleBy (.ref e) X.env (.ExceptHandler (some (.Name cn np)) none [.Raise (some (.Call (.Name x np2) (e1::es) [] cpos)) (some (.Constant .none kk zpos)) rpos] hpos::rest)) Q X.xe {s with heap:=h}:=by
 have I0:=again h s.toks fl.1 (fun _ o z _=>⟨o.slots,z⟩);refine wpAny_handleBy_cons (codeAny_handlers_test (YZ (Zbn (e:=.ref e) (E:=fun _ _=>False) I0) hg hm ?_ hdb)) (fun z=>nomatch z);refine exm_one I0.kIn (Zld fl.there) hx _ _ _ _ (fun _ _ z=>z) ?_;refine codeAny_handlers_suite (wpAny_mono (Kd.any (JW _ _) (lands_againW (Q:=fun _ s2=>∃h6,s2={s with heap:=h6}/\Heap.FlyingW B l e (.ref D) a0 h6/\h.UpToSlots h6) fl fun h6 fl6 sm6=>⟨h6,rfl,fl6,sm6⟩)) (fun _ s2 z=> ?_) fun _ _ z=>z.1)
 obtain⟨⟨h6,rfl,fl6,sm6⟩,dk6⟩:=z;obtain⟨ob,cx,b1,b2,cl,b3,b4⟩:=dk;obtain⟨ob6,g1,_,g2⟩:=dk6 e ob b1;have J:=again h6 s.toks fl6.1 sm6;have pinOk:∀p:Addr×Obj,h6.get? p.1=some p.2->(∃v,Zac p.2=some v)->H p.1=none->h6.get? p.1=some p.2/\H p.1=none/\p.1≠X.env.locals/\p.1∉X.fs/\∀v,p.2.data≠.cell v:=fun p z1 ⟨v,z2⟩ z3=>by
  obtain⟨vs,z4,_⟩:=ZeN z2;refine⟨z1,z3,fun z=> ?_,fun z=> ?_,fun v z=>by rw[z4] at z;cases z⟩
  ·obtain⟨m,hn,_⟩:=id J.loc;obtain⟨o,es,ep,y1,y2,_⟩:=hn;rw[<-z,z1] at y1
   cases y1;rw[z4] at y2
   cases y2
  ·subst eX;obtain⟨_,o2,y1,y2⟩:=J.stack.mem (List.mem_cons_of_mem _ z);rw[z1] at y1
   cases y1;exact y2 vs z4
 have cl6:=b3.keeps (h':=h6) fun b o _ z=>fl6.1 b o z;have ch6:ChL h6 ((e,ob6)::cl) (.ref e):=⟨rfl,g1,cx,g2.trans b2,cl6⟩
 have J2:=Zbn (e:=.ref e) (E:=fun _ _=>False) (J.pins_of (pins':=(e,ob6)::cl) fun p hp=>by
  obtain⟨z1,z2⟩:=ch6.mem p hp;refine pinOk p z1 z2 ?_;rcases List.mem_cons.mp hp with rfl|hp
  ·exact free
  ·exact b4 p hp)
 have pl:(backTo cpos (starEach (e1::es) X.env)).any (·.1)=false:=by rw[hs];exact hpl
 have go:=ha cpos _ _ σ H _ J2 q;rw[show(Jp X (.ref e) fun _ _=>False).env=X.env from rfl,hs] at go
 refine wpAny_execs_cons ?_;rw[arm_exec_Raise];refine wpAny_bind (wpAny_standAt (Zlo (x:=x) (D:=D') (mg:=X.mg) rfl (fun s2 R z=>wpAny_bind (Constant_none (wpAny_bind (wpAny_standAt (wpAny_pure z))))) ?_));refine wpAny_bind (thn (wpAny_Call_ofName (YZ J2 hgx O.bound ?_ hdx)) fun v s3 z=>wpAny_bind (wpAny_standAt (wpAny_pure z)));unfold callWith;rw[hs] at pl⊢
 refine wpAny_bind (wpAny_holding (Calls.evalArgs_plain (wpAny_mono go (fun us s1 z=> ?_) fun _ _ z=>z.elim)));obtain⟨vs,H1,I1,r1,hz,q1⟩:=z;have ch1:=ch6.moved (h':=s1.heap) fun p hp=>(I1.pin p (List.mem_append_right _ hp)).1;have own:=O.keeps I1.bk;obtain⟨bm,_,_,_,_,_,_,_,_,_,_,_,_,_,_,_,_,at_,names,plain,above⟩:=own.obj;simp only [pl];refine wpAny_bind (wpAny_standAt (wpAny_bind (wpAny_keeperOf_exc at_ (wpAny_bind (wpAny_call_exc_subT (hrest:=r1.length▸hz) PySem.F.excBase_ValueError above at_ names plain fun h' ex mk=>wpAny_bind (wpAny_holding (wpAny_point (wpAny_pure ?_))))))))
 refine⟨s1.heap,ex,us,rfl,own.keeps mk.keeps,mk,⟨_,ch1⟩,fun h'' ri=> ?_⟩;subst eX;have out:=ZfZ (Zc8 J.ok I1) ri ch1 (fun p hp=>(I1.pin p (List.mem_append_right _ hp)).2.1) q1;exact out
def ZqF(K:Frag)(C D':Addr)(E:XK)(sp:Sp)(t tr:TA):TS:=fun D σ H=>t σ H fun vs H1=>sp vs H1 (fun v H2=>D.rt v H2) (fun c _ H2=>∃B,c=.ref B/\exmOne K (.ref B) (.ref C)=some true/\tr σ H2 fun us H3=>us.length<=sizeLine/\E (.ref D') none H3)
theorem Znb{X:Cx}(eX:X=ZW (CXr P w) P w K mg base N qual scope f cdv A outer s₀ H₀ E){C D':Addr}{k:Nat}{fn cn x:Str}{ps:List Str}{sp:Sp}{t tr:TA}{p np np2 cpos apos xpos zpos rpos hpos pos:Pos}{kk:Nat}{e1 r1:PySem.Expr}{es rs:List PySem.Expr}{rest:List ExceptHandler}
  (c:Cal P w K mg base (CXr P w) k fn ps sp)(hr:Xb k X.A)(hgf:Gl X fn)(ha:PA X.nox (e1::es) t)(hgc:Gl X cn)(hm:mg cn=some (.ref C))(O:ZeJ x D' mg base)(hgx:Gl X x)(hb:∀e,PA (Jp X e fun _ _=>False) (r1::rs) tr)
  (hd1:(fn==("__debug__":Str))=false:=by decide)(hd2:(cn==("__debug__":Str))=false:=by decide)(hd3:(x==("__debug__":Str))=false:=by decide)(he:starEach (e1::es) X.env=(false,eval e1 X.env)::starEach es X.env:=by rfl)(hpl:(backTo cpos (starEach es X.env)).any (·.1)=false:=by rfl)
  (he2:starEach (r1::rs) X.env=(false,eval r1 X.env)::starEach rs X.env:=by rfl)(hpl2:(backTo xpos (starEach rs X.env)).any (·.1)=false:=by rfl):
  PS X (.Try [.Return (some (.Call (.Name fn p) (e1::es) [] cpos)) apos] (.ExceptHandler (some (.Name cn np)) none [.Raise (some (.Call (.Name x np2) (r1::rs) [] xpos)) (some (.Constant .none kk zpos)) rpos] hpos::rest) [] [] pos) (ZqF K C D' E sp t tr):=by
 intro pins s σ H D I h;have eX2:=eX;subst eX;obtain⟨g,fd,hmg,hkp,hb2,F⟩:=c.ex;refine wpAny_Try_except (wpAny_execs_cons ?_);refine wpAny_Return_some (wpAny_Call_Name_kw (YZ I hgf hmg ?_ hd1));refine PySem.W.callWith_K (h₀:=base) I.ok.mod.kin hkp (wpAny_mono (ha cpos pins s σ H _ (I.wish _) h) (fun us s1 z=> ?_) fun _ _ z=>z.elim) he hpl;obtain⟨vs,H1,I1,r1,q1⟩:=z;have I1:=I1.unwish;refine⟨I1.kIn, ?_⟩
 have hl:us.length=ps.length:=by rw[<-r1.length];exact F.len _ _ _ _ q1
 have bd:=hb2 s1 us I1.kIn (by rw[List.append_nil];exact hl)
 rw[List.append_nil] at bd
 refine wpAny_call (codeAny_mono (F.run _ _ s1 H1 ⟨us,[]⟩ us vs _ _ hr I1.env0 bd r1 q1) fun r s2 z=> ?_);cases r with
 |ok fl=>
  cases fl with
  |ret u=>
   obtain⟨v,H2,I2,r2,q2⟩:=I1.after z;exact⟨v,σ,H2,I2,r2,q2⟩
  |next=>exact False.elim z
  |brk=>exact False.elim z
  |cont=>exact False.elim z
 |error ev=>
  dsimp only [CR] at z
  refine Zsc (P:=P) (w:=w) I1 z fun e D2 a0 H2 B h2 d ee again fl hok new ⟨ob,cx,k1,_,k3,k4⟩ q2=> ?_;subst ee;obtain⟨B2,eb,mt,q3⟩:=q2;cases eb;exact Zkb eX2 again fl (apart hok fl) ⟨ob,cx,k1,k3,k4⟩ hgc hm mt O hgx (hb _) q3 hd2 hd3 he2 hpl2
end
end L3
namespace L3
open PySem PySem.Spec PyProof.Rows L2 PySem.W PySem.Calls
theorem Zj6{X:Cx}{e:PySem.Expr}{te:TE}{pos:Pos}(he:PE X e te):PF1 X (.FormattedValue e (-1) none pos) (fun σ H Q=>te σ H fun v H1=>∃i:Int,v=.int i/\i.natAbs.log2<1920/\Q ((toString i:String):Str) H1):=by
 intro pins s σ H Q I h;refine FormattedValue_plain (thn (he pins s σ H _ I h) fun v s1 ⟨x,H1,I1,r1,q1⟩=> ?_);obtain⟨i,rfl,hi,q⟩:=q1;obtain⟨t,rfl⟩:=r1;exact wpAny_formatField_int hi ⟨_,_,H1,rfl,I1.tok _,q⟩
end L3
namespace L3
open PySem PySem.Spec PyProof.Rows L2 PySem.W PySem.Calls
def XD(d:Addr)(f:Str)(y:V):HO:=.ext fun h=>∃ob u,h.get? d=some ob/\lookIn f ob=some (some u)/\Ye y u
section
variable {prog:Program} {w:World} {A:Around} {E:Value->Shared->Prop} {s:Shared} {K:Frag} {x D:Addr} {ox:Obj} {od:Option Obj} {name:Str} {v:Value}
structure Zrl (K:Frag) (D:Addr) (name:Str):Prop where
 no:findIn K (.ref D) name=some none
 hd:hasDictIn K D=true
theorem Znc{tk:Tok}{Q:Fin->Shared->Prop}(e:findObj K D od name=some (.value v))(X:K.In s.heap)(I:InstAt s.heap x ox D od)(hq:Q (.done (.ret v)) s):wpAny (model prog w) A (Builtin.«object.__getattribute__» ⟨[.ref x,.str name tk],[]⟩) Q E s:=by
 obtain⟨h,g,d,t,os⟩:=s;refine wpAny_bind (wpAny_pure ?_);refine wpAny_bind (wpAny_pure ?_);refine wpAny_bind (I.type.at ?_);refine wpAny_bind ((looks_find X I e).at ?_);exact wpAny_pure hq
theorem ZqG{tk:Tok}{fill ex:Bool}{Q:Value->Shared->Prop}(Z:Jd K D)(e:findObj K D od name=some (.value v))(hv:handedIn v=true)(X:K.In s.heap)(I:InstAt s.heap x ox D od)(hq:Q v s):wpAny (model prog w) A (getAttrByItsOwn (.ref x) (.str name tk) (.ref D) (.builtin "BaseException.__getattribute__") fill ex) Q E s:=by
 obtain⟨h,g,d,t,os⟩:=s;have hook:Looks (model prog w) h (hookBefore (.ref D)) none:=looks_findIn X Z.gt;refine wpAny_bind (hook.at (wpAny_bind (wpAny_attempt (wpAny_holding ?_))));have called:wpAny (model prog w) A (call (.builtin "BaseException.__getattribute__") [.ref x,.str name tk]) (fun v s'=>wpAny (model prog w) A (handedOut v) Q E s') (fun _ _=>False) ⟨h,g,d,t,os⟩:=
  wpAny_call (codeAny_call_builtin PySem.F.attr_ValueError.ga.plain PySem.F.entry_bexc_ga (Zi3 (s:=⟨h,g,d,t,os⟩) Z X I (Znc (s:=⟨h,g,d,t,os⟩) e X I (handed_on hv hq))))
 unfold callGetattribute;rw[if_neg (by cases ex<;>(intro z;cases z))]
 exact wpAny_bind (wpAny_of_eq (PySem.F.attr_ValueError.ga.bind (.ref x)) (wpAny_mono called (fun _ _ z=>z) fun _ _ z=>z.elim))
theorem ZqH{ex:Bool}{Q:Value->Shared->Prop}(Z:Jd K D)(e:findObj K D od name=some (.value v))(hv:handedIn v=true)(X:K.In s.heap)(I:InstAt s.heap x ox D od)(hq:Q v {s with toks:=s.toks+1}):wpAny (model prog w) A (getAttr (.ref x) name ex) Q E s:=by
 obtain⟨h,g,d,t,os⟩:=s;have its:Looks (model prog w) h (typeLookup (.ref D) "__getattribute__") (some (.builtin "BaseException.__getattribute__")):=looks_findIn X Z.ga;exact wpAny_bind (wpAny_mkText (wpAny_holding (wpAny_bind (I.type.at (wpAny_bind (its.at (ZqG (s:=⟨h,g,d,t+1,os⟩) Z e hv X I hq)))))))
end
section
variable {X:Cx} {pins:List (Addr×Obj)} {σ:L2.St} {H:Hp} {s:Shared}
theorem ZgQ{e D d:Addr}{f:Str}{y:V}(I:L2.Inv X pins σ H s)(h:H e=some (XO e D (some d)))(h2:H d=some (XD d f y)):∃ox od u,InstAt s.heap e ox D (some od)/\lookIn f od=some (some u)/\Ye y u:=by
 obtain⟨⟨ob,e1,e2,e3,e4⟩,_⟩:=I.hok e _ h;obtain⟨⟨od,u,g1,g2,g3⟩,_⟩:=I.hok d _ h2;exact⟨ob,od,u,⟨e1,e2,e4,by rw[e3];exact g1⟩,g2,g3⟩
def Ztn(K:Frag)(ta:TE)(f:Str):TE:=fun σ H Q=>ta σ H fun x H1=>∃e D d y,x=.ref e/\H1 e=some (XO e D (some d))/\H1 d=some (XD d f y)/\Jd K D/\Zrl K D f/\Q y H1
theorem Zm7{e:PySem.Expr}{ta:TE}{f:Str}{pos:Pos}(he:PE X e ta)(hb:attributeBase e f X.env (eval e X.env)=eval e X.env):PE X (.Attribute e f pos) (Ztn X.K ta f):=by
 intro pins s σ H Q I h;refine ZlO hb (thn (he pins s σ H _ I h) fun u s1 ⟨x,H1,I1,rx,a,D,d,y,ex,ea,ed,Z,n,q⟩=> ?_);subst ex;obtain rfl:u=Value.ref a:=rx;obtain⟨ox,od,v,J,l,ry⟩:=ZgQ I1 ea ed;exact ZqH Z (findObj_own n.hd n.no rfl (by rw[l])) (ZhP ry) I1.kIn J ⟨y,H1,I1.tok _,ry,q⟩
end
abbrev Zto:List Value:=[.type "ValueError",.type "Exception",.type "BaseException",.type "object"]
structure Zel (x:Str) (D fI:Addr) (mg:Str->Option Value) (h:Heap):Prop where
 bound:mg x=some (.ref D)
 obj:∃bm N nm q bs hdct sn sub ab col dd k0 k1 k2 k3 k5 mN,h.get? D=some (excClassObj nm q D N bs bm hdct sn sub ab col dd k0 k1 k2 k3 k5 "ValueError.__new__")/\h.Ns N mN/\mN "__init__"=some (.ref fI)/\OwnTail h Zto bm
 fn:∃o,h.get? fI=some o/\o.cls=.type "function"
theorem Zel.keeps{x:Str}{D fI:Addr}{mg:Str->Option Value}{h h':Heap}(O:Zel x D fI mg h)(k:∀b o,h.get? b=some o->h'.get? b=some o):Zel x D fI mg h':=by
 obtain⟨bm,N,nm,q,bs,hdct,sn,sub,ab,col,dd,k0,k1,k2,k3,k5,mN,hC,hN,hi,T⟩:=O.obj;obtain⟨o,e1,e2⟩:=O.fn;exact⟨O.bound,⟨bm,N,nm,q,bs,hdct,sn,sub,ab,col,dd,k0,k1,k2,k3,k5,mN,k _ _ hC,hN.keeps k,hi,T.keeps k⟩,o,k _ _ e1,e2⟩
abbrev Zif(h:Heap)(D:Addr)(us:List Value):Heap:=(h.push {cls:=.type "tuple",data:=.seq us.toArray}).push {cls:=.ref D,data:=.fields #[.ref h.objs.size,.none,.none,.none,.bool false,.none]}
theorem ZaL{h:Heap}{D:Addr}{us:List Value}(b:Addr)(o:Obj)(e:h.get? b=some o):(Zif h D us).get? b=some o:=Heap.get?_push_of_some _ (Heap.get?_push_of_some _ e)
theorem Zfj{h:Heap}{D:Addr}{us:List Value}:(Zif h D us).get? (h.objs.size+1)=some {cls:=.ref D,data:=.fields #[.ref h.objs.size,.none,.none,.none,.bool false,.none]}:=by heap_get
section
variable {P:Program} {w:World} {A:Around} {E:Value->Shared->Prop} {x:Str} {D fI:Addr} {mg:Str->Option Value} {h:Heap} {g:Array GenState} {d:Drawn} {t:Nat} {os:OsState} {us:List Value}
theorem Znd{Q:Fin->Shared->Prop}(O:Zel x D fI mg h)(hz:us.length<=sizeLine)(hq:wpAny (model P w) A (call (.ref fI) (.ref (h.objs.size+1)::us)) (fun r s'=>r=.none/\Q (.done (.ret (.ref (h.objs.size+1)))) s') E ⟨Zif h D us,g,d,t,os⟩):
  wpAny (model P w) A (Builtin.«type.__call__» ⟨.ref D::us,[]⟩) Q E ⟨h,g,d,t,os⟩:=by
 have F:=PySem.F.excBase_ValueError;have O1:=O.keeps (h':=Zif h D us) ZaL;obtain⟨bm,_,_,_,_,_,_,_,_,_,_,_,_,_,_,_,_,at_,names,hi,T⟩:=O.obj;obtain⟨o,fn,fc⟩:=O1.fn;have at1:=ZaL (D:=D) (us:=us) _ _ at_;have self:(Value.ref D::bm).contains (.ref D)=true:=by simp
 repeat (first|with_reducible refine wpAny_loadPart_at at_ ?_|with_reducible refine wpAny_madeBy_exc at_ ?_|wp_step)
 refine codeAny_call_builtin_code (Code.quiet_builtin _ F.quiet) (wpAny_check_new_subT F T at_ (codeAny_exc_new_subT F T at_ ?_ hz));show wpAny _ _ _ _ _ _;unfold isInstance
 repeat (first|with_reducible refine wpAny_loadPart_at Zfj ?_|(with_reducible refine wpAny_isSubtype_exc at1 ?_;rw[self])|wp_step)
 show wpAny _ _ (typeLookup (.ref D) _) _ _ _;refine wpAny_typeLookup_tail at1 (names.keeps ZaL) (T.keeps ZaL) F.mroIs F.init.lookup ?_;rw[hi];refine wpAny_holding (wpAny_bind ?_);unfold bindSpecial;refine wpAny_bind (wpAny_typeOf (T:="function") ⟨_,fn,fc⟩ ?_);rw[if_pos (by decide)];refine wpAny_pure (wpAny_bind (wpAny_mono hq (fun r s' z=> ?_) fun _ _ z=>z));obtain⟨rfl,q⟩:=z
 wp_walk
 exact q
theorem Zig{Q:Value->Shared->Prop}(O:Zel x D fI mg h)(hz:us.length<=sizeLine)(hq:wpAny (model P w) (A.under (.builtin "type.__call__" ⟨.ref D::us,[]⟩)) (call (.ref fI) (.ref (h.objs.size+1)::us)) (fun r s'=>r=.none/\Q (.ref (h.objs.size+1)) s') E ⟨Zif h D us,g,d,t,os⟩):
  wpAny (model P w) A (call (.ref D) us) Q E ⟨h,g,d,t,os⟩:=by
 have go:=Znd (A:=A.under (.builtin "type.__call__" ⟨.ref D::us,[]⟩)) (Q:=fun f s'=>f=.done (.ret (.ref (h.objs.size+1)))/\Q (.ref (h.objs.size+1)) s') O hz (wpAny_mono hq (fun r s' z=>⟨z.1,rfl,z.2⟩) fun _ _ z=>z);obtain⟨bm,_,_,_,_,_,_,_,_,_,_,_,_,_,_,_,_,at_,_⟩:=O.obj;have f1:=tc_lookup;have f2:=tc_bind (.ref D);have ty:(⟨h,g,d,t,os⟩:Shared).TypeIs (.ref D) "type":=⟨_,at_,rfl⟩
 refine wpAny_call (codeAny_of_tree ?_);show wpAny _ _ (callAny (.ref D) _) _ _ _
 repeat (any_goals (first|assumption|with_reducible refine wpAny_loadPart_at at_ ?_|wp_step))
 refine⟨rfl,codeAny_call_builtin_at (Code.quiet_builtin _ (by decide+kernel)) entry_typeCall (wpAny_check_type_call_sub at_ (wpAny_mono go (fun f s' z=> ?_) fun _ _ z=>z))⟩;obtain⟨rfl,q⟩:=z;exact q
end
end L3
namespace L3
open PySem PySem.Spec PyProof.Rows L2 PySem.W PySem.Calls
def Zg0(H:Hp)(e:Addr):Hp:=fun b=>if b=e then none else H b
theorem Zgl{H:Hp}{e b:Addr}(n:b≠e):Zg0 H e b=H b:=if_neg n
theorem ZdU{H:Hp}{e:Addr}:Zg0 H e e=none:=if_pos rfl
theorem Zkc{X:Cx}{pins:List (Addr×Obj)}{σ:L2.St}{H:Hp}{s:Shared}{e:Addr}{f:Heap->Prop}(I:L2.Inv X pins σ H s)(h:H e=some (.ext f)):L2.Inv X pins σ (Zg0 H e) s:=by
 have none_of:∀b,H b=none->Zg0 H e b=none:=fun b z=>by
  unfold Zg0
  split
  ·rfl
  ·exact z
 have same:∀b u,H b=some u->(∀g,u≠.ext g)->Zg0 H e b=some u:=fun b u z n=>by
  rw[Zgl (fun y=>by rw[y,h] at z;injection z with z;exact n _ z.symm)]
  exact z
 refine⟨I.ok,I.os,I.bare,⟨I.base.keep,I.base.slot,fun b o eb nb hb=>none_of b (I.base.free b o eb nb hb),I.base.there,fun b xs z=>same b _ (I.base.tups b xs z) (fun _ y=>nomatch y),fun b o u z=>same b _ (I.base.frzs b o u z) (fun _ y=>nomatch y),fun b ps z=> ?_⟩,I.loc,I.cell,none_of _ I.free,fun x c z=>none_of _ (I.freeC x c z),fun p hp=>let ⟨a,b,c⟩:=I.pin p hp;⟨a,none_of _ b,c⟩,fun b u z=> ?_,I.len⟩
 ·obtain⟨m,y⟩:=I.base.tbls b ps z;exact⟨m,same b _ y (fun _ y=>nomatch y)⟩
 ·have ne:b≠e:=fun y=>by rw[y,ZdU] at z;cases z
  rw[Zgl ne] at z
  exact(I.hok b u z).stay (fun _ _ _ y=>y) (fun c y=>same c _ y (fun _ y=>nomatch y)) fun c xs y=>same c _ y (fun _ y=>nomatch y)
section
variable {P:Program} {w:World} {K:Frag} {mg:Str->Option Value} {base:Heap} {N:List Str} {qual:Str} {scope:Scope} {f:Addr} {cdv:Value} {A:Around} {outer:List Env} {s₀:Shared} {H₀:Hp} {E:XK}
theorem Zj7{pins:List (Addr×Obj)}{σ:L2.St}{H:Hp}{s:Shared}{e D t:Addr}{dk:Option Addr}(I:L2.Inv (ZW (CXr P w) P w K mg base N qual scope f cdv A outer s₀ H₀ E) pins σ H s)
  (he:s.heap.get? e=some {cls:=.ref D,dict:=dk,data:=.fields #[.ref t,.none,.none,.none,.bool false,.none]})(hf:H e=none)(new:s₀.heap.get? e=none)(q:E (.ref D) dk H):(ZW (CXr P w) P w K mg base N qual scope f cdv A outer s₀ H₀ E).xe (.ref e) s:=by
 have neL:∀b o,s₀.heap.get? b=some o->b≠s₀.heap.objs.size:=fun b o e=>Nat.ne_of_lt (Heap.lt_size e);have nse:∀b o,s₀.heap.get? b=some o->b≠e:=fun b o y z=>by rw[z,new] at y;cases y
 have nst:∀b o,s₀.heap.get? b=some o->b∉frs outer->b∉e::frs (ZW (CXr P w) P w K mg base N qual scope f cdv A outer s₀ H₀ E).stack:=fun b o eb nb hb=>by
  rcases List.mem_cons.mp hb with z|hb
  ·exact nse b o eb z
  ·rcases List.mem_cons.mp (I.stkSub b hb) with z|z
   ·exact neL b o eb z
   ·exact nb z
 have hin:∀env∈(ZW (CXr P w) P w K mg base N qual scope f cdv A outer s₀ H₀ E).stack,∀a,env.frame=some a->a∈e::frs (ZW (CXr P w) P w K mg base N qual scope f cdv A outer s₀ H₀ E).stack:=fun env he a ha=>List.mem_cons_of_mem _ (List.mem_filterMap.mpr ⟨env,he,ha⟩);have en:(hideAll s.heap (e::frs (ZW (CXr P w) P w K mg base N qual scope f cdv A outer s₀ H₀ E).stack)).get? e=none:=hideAll_none _ (.head _)
 have ff:=funFrames_hide I.stack hin;have st:(hideAll s.heap (e::frs (ZW (CXr P w) P w K mg base N qual scope f cdv A outer s₀ H₀ E).stack)).StaysIn s.heap:=fun b o z=>of_hideAll _ z;have leav:wpAny (model P w) (ZW (CXr P w) P w K mg base N qual scope f cdv A outer s₀ H₀ E).A (leaving (ZW (CXr P w) P w K mg base N qual scope f cdv A outer s₀ H₀ E).env (.ref e)) (fun _ s2=>∃h6,s2={s with heap:=h6}/\Heap.FlyingW (hideAll s.heap (e::frs (ZW (CXr P w) P w K mg base N qual scope f cdv A outer s₀ H₀ E).stack)) outer e (.ref D) (.ref t) h6/\s.heap.UpToSlots h6) (fun _ _=>False) s:=by
  unfold leaving;have note:wpAny (model P w) (ZW (CXr P w) P w K mg base N qual scope f cdv A outer s₀ H₀ E).A (noteFrame (.ref e) (ZW (CXr P w) P w K mg base N qual scope f cdv A outer s₀ H₀ E).env) (fun _ s2=>∃h4,s2={s with heap:=h4}/\Heap.HeldW (hideAll s.heap (e::frs (ZW (CXr P w) P w K mg base N qual scope f cdv A outer s₀ H₀ E).stack)) (ZW (CXr P w) P w K mg base N qual scope f cdv A outer s₀ H₀ E).stack e (.ref D) (.ref t) s₀.heap.objs.size h4/\s.heap.UpToSlots h4) (fun _ _=>False) s:=by
   unfold noteFrame;refine wpAny_bind (wpAny_field (x:=.none) he rfl rfl ?_);rw[if_neg (show¬(Value.none !=Value.none)=true by decide)];exact wpAny_entryW (I.ok.frames) ff rfl he st en rfl (show 1<6 by decide) rfl fun h4 ⟨x1,x2,x3,x4⟩=>⟨h4,rfl,⟨x1,en,x2,x3⟩,x4⟩
  refine wpAny_bind (wpAny_mono note (fun _ s2 z=> ?_) fun _ _ z=>z);obtain⟨h4,rfl,held,up4⟩:=z;refine wpAny_landsW held fun h6 fl up6=> ?_;obtain⟨k1,k2,⟨_,_,k3⟩,k4⟩:=fl;exact⟨h6,rfl,⟨k1,k2,k3,k4⟩,up4.trans up6⟩
 refine wpAny_mono (Kd.any (ZaT _ _) leav) (fun _ s4 z=> ?_) fun _ _ z=>z.1.elim;obtain⟨⟨h6,rfl,fl,ups⟩,dk6⟩:=z;obtain⟨ob6,e6,d6,f6⟩:=dk6 e _ he;refine⟨e,D,_,H,_,rfl,I.os,I.bare,fl,⟨fun b o eb nb hb=>⟨hideAll_get _ (I.base.keep b o eb nb hb (by intro z;cases z)) (nst b o eb hb),I.base.free b o eb nb (by intro z;cases z)⟩,fun b o eb nb hb=> ?_,fun b o eb hb=> ?_,I.base.tups,I.base.frzs,I.base.tbls⟩,
  fun b u eb=>(I.hok b u eb).stay (fun c v hc z=>hideAll_get _ z fun hm=> ?_) (fun _ z=>z) (fun _ _ z=>z),dk,.none,⟨ob6,e6,d6,f6⟩,⟨[],rfl,fun _ z=>nomatch z⟩,q⟩
 ·obtain⟨sl,e1⟩:=I.base.slot b o eb nb hb (by intro z;cases z)
  obtain⟨_,o2,e2,hd⟩:=I.ok.funs.mem hb;have e2:s₀.heap.get? b=some o2:=e2;rw[eb] at e2
  cases e2;obtain⟨sl2,e3⟩:=ups b _ e1 hd;exact⟨⟨sl2,e3⟩,I.base.free b o eb nb (by intro z;cases z)⟩
 ·obtain⟨o',e1⟩:=I.base.there b o eb (by intro z;cases z)
  exact⟨o',hideAll_get _ e1 (nst b o eb hb)⟩
 ·have nn:H c=none:=by
   rcases List.mem_cons.mp hm with z|z
   ·rw[z];exact hf
   ·exact I.stkFree c z
  rcases hc with rfl|hc
  ·rw[nn] at eb;cases eb
  ·rw[nn] at hc;cases hc
end
def XN(e D:Addr)(d:Option Addr):HO:=.ext fun h=>∃t:Addr,h.get? e=some {cls:=.ref D,dict:=d,data:=.fields #[.ref t,.none,.none,.none,.bool false,.none]}
theorem Zm8{P:Program}{w:World}{H:Hp}{h:Heap}{e D t:Addr}{d:Option Addr}(he:h.get? e=some {cls:=.ref D,dict:=d,data:=.fields #[.ref t,.none,.none,.none,.bool false,.none]}):YD P w H h e (XN e D d):=⟨⟨t,he⟩,⟨_,he⟩,fun h1 h2 ⟨t,q⟩ z=>⟨t,z _ q⟩⟩
section
variable {P:Program} {w:World} {A:Around} {E:Value->Shared->Prop} {s:Shared} {env:Env} {x:Str} {D fI:Addr} {mg:Str->Option Value}
theorem Zkd{make:Sem Value}{Q:Flow->Shared->Prop}(free:A.handled=none)(h:wpAny (model P w) A make (fun v s1=>∃e t dk,v=.ref e/\Zel x D fI mg s1.heap/\s1.heap.get? e=some {cls:=.ref D,dict:=dk,data:=.fields #[.ref t,.none,.none,.none,.bool false,.none]}/\E (.ref e) s1) E s):wpAny (model P w) A (raiseStmt env (some make) none) Q E s:=by
 unfold raiseStmt;refine wpAny_bind (thn h fun v s1 z=> ?_);obtain⟨e,t,dk,rfl,own,e0,q⟩:=z;obtain⟨bm,_,_,_,_,_,_,_,_,_,_,_,_,_,_,_,_,at_,_,_,above⟩:=own.obj;have exc:(Value.ref D::bm).contains (.type "BaseException")=true:=List.contains_iff_mem.mpr (List.mem_cons_of_mem _ (List.contains_iff_mem.mp (above.hasType PySem.F.excBase_ValueError.hasBase)));cases s1 with|mk h1 gs dr tk os=>
 dsimp only at e0 at_
 repeat (first|with_reducible refine wpAny_loadPart_at e0 ?_|with_reducible refine wpAny_loadPart_at at_ ?_|(with_reducible refine wpAny_isSubtype_exc at_ ?_;rw[exc])|wp_step)
 exact wpAny_raiseNew_none free q
end
section
variable {P:Program} {w:World} {K:Frag} {mg:Str->Option Value} {base:Heap} {N:List Str} {qual:Str} {scope:Scope} {f:Addr} {cdv:Value} {A:Around} {outer:List Env} {s₀:Shared} {H₀:Hp} {E:XK}
def Zm9(D:Addr)(sp:Sp)(E:XK)(t:TA):TS:=fun _ σ H=>t σ H fun vs H1=>vs.length<=sizeLine/\∀e,H1 e=none->sp (.ref e::vs) (upd H1 e (XN e D none)) (fun v H2=>v=.non/\∃dk,H2 e=some (XN e D dk)/\E (.ref D) dk (Zg0 H2 e)) fun _ _ _=>False
theorem Zne{X:Cx}(eX:X=ZW (CXr P w) P w K mg base N qual scope f cdv A outer s₀ H₀ E){D fI:Addr}{fd:FuncData}{k:Nat}{ps:List Str}{sp:Sp}{x:Str}{np cpos pos:Pos}{e:PySem.Expr}{es:List PySem.Expr}{t:TA}
  (O:Zel x D fI mg base)(F:Yo P w K mg base CX0 k fI fd ps sp)(hb:JT K fd ps [])(hr:Xb (k+1) X.A)(hc:X.calm=true)(hg:Gl X x)(ha:PA X (e::es) t)
  (hdb:(x==("__debug__":Str))=false:=by decide)(hs:starEach (e::es) X.env=(false,eval e X.env)::starEach es X.env:=by rfl)(hpl:(backTo cpos (starEach es X.env)).any (·.1)=false:=by rfl):PS X (.Raise (some (.Call (.Name x np) (e::es) [] cpos)) none pos) (Zm9 D sp E t):=by
 intro pins s σ H D' I h;have pl:(backTo cpos (starEach (e::es) X.env)).any (·.1)=false:=by rw[hs];exact hpl
 have go:=ha cpos pins s σ H _ I h;rw[hs] at go pl
 subst eX;rw[arm_exec_Raise];refine wpAny_bind (wpAny_standAt (Zkd (x:=x) (D:=D) (fI:=fI) (mg:=mg) (I.ok.hd hc) ?_));refine wpAny_bind (thn (wpAny_Call_ofName (YZ I hg O.bound ?_ hdb)) fun v s3 z=>wpAny_bind (wpAny_standAt (wpAny_pure z)));unfold callWith;rw[hs];refine wpAny_bind (wpAny_holding (Calls.evalArgs_plain (thn go fun us s1 z=> ?_)));obtain⟨vs,H1,I1,r1,hz,q1⟩:=z;have own:=O.keeps I1.bk;obtain⟨bm,_,_,_,_,_,_,_,_,_,_,_,_,_,_,_,_,at_,_⟩:=own.obj
 simp only [pl];have fresh:=I1.hok.fresh (Nat.le_succ s1.heap.objs.size);have I2:L2.Inv (ZW (CXr P w) P w K mg base N qual scope f cdv A outer s₀ H₀ E) pins σ (upd H1 (s1.heap.objs.size+1) (XN (s1.heap.objs.size+1) D none)) {s1 with heap:=Zif s1.heap D us,toks:=s1.toks}:=Inv.laid I1 ZaL (Nat.le_succ _) (Zm8 Zfj);have q2:=q1 (s1.heap.objs.size+1) fresh;have r2:Yc (V.ref (s1.heap.objs.size+1)::vs) (Value.ref (s1.heap.objs.size+1)::us):=.cons rfl r1
 have hl:(Value.ref (s1.heap.objs.size+1)::us).length=ps.length:=by
  have e:=r2.length;rw[F.len _ _ _ _ q2] at e
  exact e.symm
 have bd:=hb _ (Value.ref (s1.heap.objs.size+1)::us) I2.kIn (by rw[List.append_nil];exact hl)
 rw[List.append_nil] at bd
 have zu:us.length<=sizeLine:=r1.length▸hz;refine wpAny_bind (wpAny_standAt (wpAny_bind (wpAny_keeperOf_exc at_ (wpAny_bind (Zig own zu ?_)))));refine wpAny_call (codeAny_mono (F.run _ (ZW (CXr P w) P w K mg base N qual scope f cdv A outer s₀ H₀ E).stack _ _ ⟨Value.ref (s1.heap.objs.size+1)::us,[]⟩ (Value.ref (s1.heap.objs.size+1)::us) _ _ _ (hr.make D us []) (I2.env0.make D us []) bd r2 q2) fun r s4 z=> ?_)
 cases r with
 |error ev=>exact z.elim
 |ok fl=>
  cases fl with
  |ret u=>
   obtain⟨v,H3,I3,rv,ev,dk,hx,qx⟩:=I2.after z;subst ev;refine⟨rv,wpAny_bind (wpAny_holding (wpAny_point (wpAny_pure ?_)))⟩;obtain⟨⟨t,e1⟩,_⟩:=I3.hok _ _ hx;refine⟨_,t,dk,rfl,O.keeps I3.bk,e1, ?_⟩;refine Zj7 (Zkc I3 hx) e1 ZdU ?_ qx;cases y:s₀.heap.get? (s1.heap.objs.size+1) with
   |none=>rfl
   |some o=>
    obtain⟨o',y2⟩:=I1.base.there _ o y (by intro z;cases z)
    exact absurd (Heap.lt_size y2) (Nat.not_lt.mpr (Nat.le_succ _))
  |next=>exact False.elim z
  |brk=>exact False.elim z
  |cont=>exact False.elim z
end
end L3
namespace L3
open PySem PySem.Spec PyProof.Rows L2 PySem.W PySem.Calls
section
variable {P:Program} {w:World} {A:Around} {E:Value->Shared->Prop} {s:Shared} {K:Frag} {x D t:Addr} {name:Str} {v:Value}
def Zj8(K:Frag)(D:Addr):Prop:=∃cd B,clsIn K D=some cd/\cd.mro=[.ref D,.ref B,.type "ValueError",.type "Exception",.type "BaseException",.type "object"]
theorem Ztp{ox:Obj}{od:Option Obj}{tk:Tok}{R:Result->Shared->Prop}(X:K.In s.heap)(I:InstAt s.heap x ox D od)(O:Zj8 K D)(no:findIn K (.ref D) name=some none)
  (h:wpAny (model P w) A.in1 (Builtin.ObjectAttr.storeInOwnDict (.ref x) (.ref D) (.str name tk) name v false)
   (fun f s'=>match f with| .done r=>R (.ok r) s'| .again c=>c.quiet=true/\codeAny (model P w) A c R s') (fun e s'=>R (.error e) s') s):
  codeAny (model P w) A (.call (.builtin "object.__setattr__") ⟨[.ref x,.str name tk,v],[]⟩) R s:=by
 obtain⟨cd,B,hc,hm⟩:=O;have isO:mroIn K D (.type "object")=some true:=by
  unfold mroIn;rw[hc,Option.bind_some,hm];simp
 have V:=PySem.F.store_ValueError;have mr:Looks (model P w) s.heap (mroOf (.ref D)) cd.mro:=Looks.andThen (looks_clsIn X hc) .now;have tp:=I.type (M:=model P w);refine codeAny_call_builtin V.slot.plain V.entry (check_slot (i:="object.__setattr__") (owner:="object") (n:="__setattr__") (self:=.ref x) (rest:=[.str name tk,v]) (kw:=[]) V.kind V.split (tp.andThen (looks_mroIn X isO)) (V.args (.ref x) (.str name tk) v) ?_)
 rw[osa_eq,refuse_eq];refine wpAny_bind (wpAny_bind (tp.here (wpAny_bind (mr.here ?_))));rw[hm,refuseLoop_ref,refuseLoop_ref,V.passes];have lk:=looks_findIn (M:=model P w) X no;refine wpAny_pure (wpAny_bind (tp.here (wpAny_bind (lk.here (wpAny_bind (wpAny_pure ?_))))));exact h
theorem Znf{Q:Unit->Shared->Prop}(X:K.In s.heap)(he:s.heap.get? x=some {cls:=.ref D,data:=.fields #[.ref t,.none,.none,.none,.bool false,.none]})
  (hs:findIn K (.ref D) "__setattr__"=some (some (.builtin "object.__setattr__")))(hp:Zj8 K D)(ht:findIn K (.ref D) name=some none)(hh:hasDictIn K D=true)
  (h:∀h',h'.Ns1 s.heap.objs.size (fun y=>if y=name then some v else none)->Heap.SameBut s.heap.objs.size ((s.heap.push {cls:=.type "dict",data:=.dict #[]}).update x fun o=>{o with dict:=some s.heap.objs.size}) h'->Q () {s with heap:=h',toks:=s.toks+2}):
  wpAny (model P w) A (setAttr (.ref x) name v) Q E s:=by
 have J:InstAt s.heap x {cls:=.ref D,data:=.fields #[.ref t,.none,.none,.none,.bool false,.none]} D none:=⟨he,rfl,rfl,trivial⟩
 refine set_plain X J hs (Ztp (s:={s with toks:=s.toks+1}) X J hp ht ?_);obtain⟨cd,hc,hd'⟩:=any_some hh;refine wpAny_bind (wpAny_pure (wpAny_bind (wpAny_bind (wpAny_loadPart he (wpAny_bind (Looks.here (s:={s with toks:=s.toks+1}) (looks_clsIn X hc) ?_))))));rw[hd'];rw[if_neg (by decide)];refine wpAny_bind (wpAny_alloc ?_);have he1:(s.heap.push {cls:=.type "dict",data:=.dict #[]}).get? x=some {cls:=.ref D,data:=.fields #[.ref t,.none,.none,.none,.bool false,.none]}:=Heap.get?_push_of_some _ he
 have nx:x≠s.heap.objs.size:=Nat.ne_of_lt (Heap.lt_size he);have hd1:(s.heap.push {cls:=.type "dict",data:=.dict #[]}).get? s.heap.objs.size=some {cls:=.type "dict",data:=.dict #[]}:=Heap.get?_push_at rfl rfl;refine wpAny_bind (wpAny_update he1 (wpAny_bind (wpAny_pure (wpAny_pure ?_))));refine wpAny_bind (wpAny_pure (wpAny_bind ?_));have ns:((s.heap.push {cls:=.type "dict",data:=.dict #[]}).update x fun o=>{o with dict:=some s.heap.objs.size}).Ns1 s.heap.objs.size (fun _=>none):=(Heap.Ns1.of_empty ⟨_, #[],_,hd1,rfl,(fun e he=>absurd he (by simp)),fun _=>rfl⟩).at fun o q=>(Heap.get?_update_other _ _ nx).trans q
 refine wpAny_nsSet1 ns fun h' hn2 hs2=> ?_;obtain⟨oD,esD,epD,hoD,hdD,hcD⟩:=hn2.count (PySem.Within.cons name v (ns:=[]) fun y hy=>absurd rfl hy);refine wpAny_bind (wpAny_lookBehind hoD (by rw[hdD];exact pastItsLine_dict (Nat.le_trans hcD (by show 1<=_;decide+kernel))) ?_)
 exact wpAny_pure (h _ hn2 hs2)
end
section
variable {X:Cx} {pins:List (Addr×Obj)} {σ:L2.St} {H:Hp} {s:Shared}
structure Zsl (K:Frag) (D:Addr) (f:Str):Prop where
 sa:findIn K (.ref D) "__setattr__"=some (some (.builtin "object.__setattr__"))
 po:Zj8 K D
 tk:findIn K (.ref D) f=some none
 hd:hasDictIn K D=true
theorem ZqI{A:Around}{E:Value->Shared->Prop}{e D:Addr}{f:Str}{y:V}{u:Value}{Q:Unit->Shared->Prop}(I:L2.Inv X pins σ H s)(he:H e=some (XN e D none))(Z:Zsl X.K D f)(ry:Ye y u)
  (h:∀d s',H d=none->d≠e->L2.Inv X pins σ (upd (upd H d (XD d f y)) e (XN e D (some d))) s'->Q () s'):wpAny (model X.prog X.w) A (setAttr (.ref e) f u) Q E s:=by
 obtain⟨⟨t,e0⟩,_⟩:=I.hok e _ he;refine Znf I.kIn e0 Z.sa Z.po Z.tk Z.hd fun h' ns sb=>h s.heap.objs.size _ (I.hok.fresh (Nat.le_refl _)) (Nat.ne_of_gt (Heap.lt_size e0)) ?_;obtain⟨od,o1,o2⟩:=ZhO ns;have fr:od.isFreed=false:=(Heap.get?_some_iff.mp o1).2;have g1:(s.heap.push od).get? s.heap.objs.size=some od:=Heap.get?_push_size s.heap fr;have lk:lookIn f od=some (some u):=(o2 f).trans (congrArg some (if_pos rfl))
 have ne:e≠s.heap.objs.size:=Nat.ne_of_lt (Heap.lt_size e0);have I1:=I.laid (a:=s.heap.objs.size) (o:=XD s.heap.objs.size f y) (h':=s.heap.push od) (t':=s.toks) (fun b u q=>Heap.get?_push_of_some _ q) (Nat.le_refl _) ⟨⟨od,u,g1,lk,ry⟩,⟨_,g1⟩,fun h1 h2 ⟨a,b,c,d⟩ z=>⟨a,b,z _ c,d⟩⟩;have e1:h'.get? e=some {cls:=.ref D,dict:=some s.heap.objs.size,data:=.fields #[.ref t,.none,.none,.none,.bool false,.none]}:=(sb.2 e ne).trans (Heap.get?_update_self _ (Heap.get?_push_of_some _ e0) rfl)
 refine I1.write (x:=e) (e:=e) (by rw[Zr ne,he];exact True.intro) (.inl rfl) (fun b v nb q=> ?_) ⟨_,e1⟩ (Zm8 e1)
 by_cases z:b=s.heap.objs.size
 ·subst z;have q:(s.heap.push od).get? s.heap.objs.size=some v:=q;rw[g1] at q
  cases q;exact o1
 ·have q:(s.heap.push od).get? b=some v:=q;refine(sb.2 b z).trans ((Heap.get?_update_other _ _ (Ne.symm nb)).trans (Heap.get?_push_of_some _ ?_))
  rwa [Heap.get?_push_ne _ _ _ z] at q
def Ztq(K:Frag)(ta tv:TE)(f:Str):TS:=fun Dd σ H=>tv σ H fun y H1=>ta σ H1 fun x H2=>∃e D,x=.ref e/\H2 e=some (XN e D none)/\Zsl K D f/\∀d,H2 d=none->d≠e->Dd.nx σ (upd (upd H2 d (XD d f y)) e (XN e D (some d)))
theorem Zma{o value:PySem.Expr}{ta tv:TE}{f:Str}{pos pos':Pos}(ha:PE X o ta)(hv:PE X value tv)(hs:swapsWith value (some (.Attribute o f pos')) pos.line X.env=pure false):PS X (.Assign [.Attribute o f pos'] value pos) (Ztq X.K ta tv f):=by
 intro pins s σ H Dd I h;refine plainObj_wpAny_Assign_Attribute (thn (hv pins s σ H _ I h) fun u s1 ⟨y,H1,I1,ry,q⟩=>thn (ha pins s1 σ H1 _ I1 q) fun ov s2 ⟨x,H2,I2,rx,a,D,ex,ea,Z,q2⟩=> ?_) hs;subst ex;obtain rfl:ov=Value.ref a:=rx;exact ZqI I2 ea Z ry fun d s3 fd nd I3=>⟨σ,_,I3,q2 d fd nd⟩
def Zng(base:Heap)(mg:Str->Option Value)(t:TA):TE:=fun σ H Q=>t σ H fun vs H1=>∃e D y x fI,vs=[.ref e,.str y]/\H1 e=some (XN e D none)/\Zel x D fI mg base/\Q .non H1
theorem ZfQ{cn:Str}{C:Addr}{np apos pos:Pos}{a0 a1:PySem.Expr}{t:TA}{pl:Sem Bool}(hg:Gl X cn)(hm:X.mg cn=some (.ref C))(hr:readsIn X.K C (.type "type")=true)(hga:specialIn X.K (.ref C) "__getattribute__"=some (some (.builtin "type.__getattribute__")))
  (hf:findCls X.K (.ref C) (.type "type") "__init__"=some (.val (.builtin "ValueError.__init__")))(ha:PA X [a0,a1] t)(hdb:(cn==("__debug__":Str))=false:=by decide)
  (hst:starEach [a0,a1] X.env=[(false,eval a0 X.env),(false,eval a1 X.env)]:=by rfl)
  (ht:eval (.Call (.Attribute (.Name cn np) "__init__" apos) [a0,a1] [] pos) X.env=(do
   let ov<-eval (.Name cn np) X.env
   standAt apos.atName
   let (f,first)<-holding [ov] (getMethod ov "__init__" pl)
   callWith pos f first (backTo pos (starEach [a0,a1] X.env)) (backToKw pos (keywordEach [] X.env))):=by rfl):
  PE X (.Call (.Attribute (.Name cn np) "__init__" apos) [a0,a1] [] pos) (Zng X.base X.mg t):=by
 intro pins s σ H Q I h;refine methodCall_KW (pl:=pl) (YZ I hg hm ?_ hdb) ht;refine method_cls I.kIn hga (cls_value I.kIn hr hf rfl ?_);have I1:=I.tok (s.toks+1);have go:=ha pos pins _ σ H _ I1 h;rw[hst] at go⊢
 refine Calls.callWith_builtin rfl (Calls.evalArgs_plain (thn go fun us s1 z=> ?_));obtain⟨vs,H1,I2,r1,e,D,y,x,fI,rfl,he,O,q⟩:=z;obtain⟨u1,u2,rfl,ru1,ru2⟩:=ZjJ r1;obtain rfl:u1=Value.ref e:=ru1;obtain⟨t2,rfl⟩:=ru2;obtain⟨⟨t,e0⟩,_⟩:=I2.hok e _ he;have own:=O.keeps I2.bk;obtain⟨bm,_,_,_,_,_,_,_,_,_,_,_,_,_,_,_,_,at_,_,_,T⟩:=own.obj;have F:=PySem.F.excBase_ValueError;cases s1 with|mk h1 gs dr tk os=>
 dsimp only at e0 at_ T
 refine wpAny_call (codeAny_call_builtin F.init.plain F.initEntry (wpAny_check_init_subT F T at_ e0 rfl ?_))
 wp_walk
 have K1:=I2.kept (h':=h1.push {cls:=.type "tuple",data:=.seq #[.str y t2]}) (t':=tk) fun b u q=>Heap.get?_push_of_some _ q;have e1:=Heap.get?_update_self (Obj.mapFields fun x=>x.setIfInBounds 0 (Value.ref h1.objs.size)) (Heap.get?_push_of_some {cls:=.type "tuple",data:=.seq #[.str y t2]} e0) rfl;have K2:=K1.write (x:=e) (e:=e) (o:=XN e D none) (h':=(h1.push {cls:=.type "tuple",data:=.seq #[.str y t2]}).update e (Obj.mapFields fun x=>x.setIfInBounds 0 (Value.ref h1.objs.size))) (t':=tk) (by rw[he];exact True.intro) (.inl rfl) (fun b v nb q=>(Heap.get?_update_other _ _ (Ne.symm nb)).trans q) ⟨_,e1⟩ (Zm8 e1)
 have same:upd H1 e (XN e D none)=H1:=by
  funext b
  by_cases z:b=e
  ·rw[z,Zc,he]
  ·rw[Zr z]
 rw[same] at K2
 exact⟨.non,H1,K2,rfl,q⟩
end
end L3
namespace L3
open PySem PySem.Spec PyProof.Rows L2 PySem.W PySem.Calls
structure Zrm (k:Nat) (A:Around):Prop where
 dp:A.depth+3*k+5<recursionLimit
 un:A.units+16*k+200<cLine
structure FnH (P:Program) (w:World) (K:Frag) (mg:Str->Option Value) (base:Heap) (k:Nat) (f:Addr) (fd:FuncData) (ps:List Str) (sp:Sp):Prop where
 len:∀vs H Q E,sp vs H Q E->vs.length=ps.length
 run:∀(A:Around) (c:Value) (outer:List Env) (s:Shared) (H:Hp) (us:List Value) (vs:List V) (Q:VK) (E:XK),A.handled=some c->Zrm k A->ZgC P w K mg base A outer s H->BindsTo s fd ⟨us,[]⟩ (ps.zip us)->Yc vs us->sp vs H Q E->codeAny (model P w) A (.call (.ref f) ⟨us,[]⟩) (CR CX0 outer P w H s Q E) s
theorem okH{P:Program}{w:World}{K:Frag}{mg:Str->Option Value}{base:Heap}{x qual:Str}{st:Stmt}{f:Addr}{fd:FuncData}{N ps:List Str}{k:Nat}{sp:Sp}(F:Fun K x qual st f fd)(S:ZQ N ps (ZF st))(len:∀vs H Q E,sp vs H Q E->vs.length=ps.length)
  (body:∀(cdv c:Value) (A:Around) (outer:List Env) (s:Shared) (H:Hp) (vs:List V) (Q:VK) (E:XK),sp vs H Q E->
   ∃t,PSs (Jp (ZW CX0 P w K mg base N qual (ZF st) f cdv A outer s H E) c fun _ _=>False) (ZaB st) t/\t {nx:=fun _ H'=>Q .non H',rt:=Q} (ZcP N vs) H):FnH P w K mg base (k+1) f fd ps sp:=by
 obtain⟨oc,od,kV,doc,pm,an,cdv,ct,osl,rfl,lk,hcd⟩:=F.ex;refine⟨len,fun A c outer s H us vs Q E hh hr e0 hb r q=> ?_⟩;have old:=fun b o e=>(e0.bs b o e).1;refine Att.call_fn (e0.mod.kin.keeps old) (e0.mod.nolimit.keeps old) lk hcd (by have:=hr.dp;omega) hb (List.all_eq_true.mpr fun y hy=> ?_) (fun s1 x=> ?_) S.co S.gen S.kind
 ·rcases S.par y.1 (List.of_mem_zip (b:=y.2) hy).1 with z|z<;>rw[z]<;>rfl
 ·obtain⟨t,go,q1⟩:=body cdv c {A with handled:=none} outer s H vs Q E q;have J:=Zbn (e:=c) (E:=fun _ _=>False) (ZhU (CX:=CX0) (A:={A with handled:=none}) (E:=E) S rfl ⟨e0.frames,e0.mod,e0.bs,e0.bsz,e0.funs,e0.frf,e0.hok,e0.bare⟩ (len _ _ _ _ q) r x);have eA:∀env,(Around.deeper {A with handled:=none} env).mark (some c)=A.deeper env:=fun env=>by
   cases A;cases hh
   rfl
  have go:=go [] s1 _ H _ J q1;rw[show(Jp (ZW CX0 P w K mg base N qual (ZF st) f cdv {A with handled:=none} outer s H E) c fun _ _=>False).A=A.deeper (envOfC qual (ZF st) s.heap.objs.size f cdv) from eA _] at go
  refine wpAny_mono go (fun fl s2 z=> ?_) fun _ _ z=>z.elim;cases fl with
  |next=>obtain⟨_,H2,J2,q2⟩:=z;exact⟨.non,H2,J2.os,J2.bare,J2.base,J2.hok,rfl,q2⟩
  |ret u=>obtain⟨v,_,H2,J2,rv,q2⟩:=z;exact⟨v,H2,J2.os,J2.bare,J2.base,J2.hok,rv,q2⟩
  |brk=>obtain⟨_,_,_,q2⟩:=z;exact q2.elim
  |cont=>obtain⟨_,_,_,q2⟩:=z;exact q2.elim
theorem Zfk{P:Program}{w:World}{A:Around}{E:Value->Shared->Prop}{s:Shared}{env:Env}{x:Str}{D fI c:Addr}{mg:Str->Option Value}{make cause:Sem Value}{Q:Flow->Shared->Prop}(held:A.handled=some (.ref c))(nothing:∀s R,R Value.none s->wpAny (model P w) A cause R E s)
  (h:wpAny (model P w) A make (fun v s1=>∃e t dk l,v=.ref e/\Zel x D fI mg s1.heap/\s1.heap.get? e=some {cls:=.ref D,dict:=dk,data:=.fields #[.ref t,.none,.none,.none,.bool false,.none]}/\ChL s1.heap l (.ref c)/\(∀p∈l,p.1≠e)/\
   ∀h',(∀b,b≠e->h'.get? b=s1.heap.get? b)->h'.get? e=some {cls:=.ref D,dict:=dk,data:=.fields #[.ref t,.none,.ref c,.none,.bool true,.none]}->E (.ref e) {s1 with heap:=h'}) E s):wpAny (model P w) A (raiseStmt env (some make) (some cause)) Q E s:=by
 unfold raiseStmt;refine wpAny_bind (thn h fun v s1 z=> ?_);obtain⟨e,t,dk,l,rfl,own,e0,ch,nel,q⟩:=z;obtain⟨bm,_,_,_,_,_,_,_,_,_,_,_,_,_,_,_,_,at_,_,_,above⟩:=own.obj;have exc:(Value.ref D::bm).contains (.type "BaseException")=true:=List.contains_iff_mem.mpr (List.mem_cons_of_mem _ (List.contains_iff_mem.mp (above.hasType PySem.F.excBase_ValueError.hasBase)));have apart:e≠D:=fun y=>by rw[y,at_] at e0;cases e0
 refine wpAny_bind (wpAny_holding (nothing _ _ (wpAny_bind (wpAny_pure ?_))));cases s1 with|mk h1 gs dr tk os=>
 dsimp only at e0 at_ ch q
 generalize eo2:h1.update e (Obj.mapFields fun fs=>fs.setIfInBounds 3 Value.none)=h2;generalize eo3:h2.update e (Obj.mapFields fun fs=>fs.setIfInBounds 4 (Value.bool true))=h3;have e2:=eo2▸Heap.get?_update_self (Obj.mapFields fun fs=>fs.setIfInBounds 3 Value.none) e0 rfl;have e3:=eo3▸Heap.get?_update_self (Obj.mapFields fun fs=>fs.setIfInBounds 4 (Value.bool true)) e2 rfl;have same:∀b,b≠e->h3.get? b=h1.get? b:=fun b n=>by rw[<-eo3,Heap.get?_update_other _ _ (Ne.symm n),<-eo2,Heap.get?_update_other _ _ (Ne.symm n)]
 have at3:=(same D (Ne.symm apart)).trans at_;have hid:∀b o,(hideAll h1 [e]).get? b=some o->b≠e/\h1.get? b=some o:=fun b o hb=>⟨fun y=>(by rw[y,hideAll_none _ (.head _)] at hb;cases hb),of_hideAll _ hb⟩
 repeat (first|with_reducible refine wpAny_loadPart_at e0 ?_|with_reducible refine wpAny_loadPart_at at_ ?_|with_reducible refine wpAny_loadPart_at at3 ?_|(with_reducible refine wpAny_isSubtype_exc at_ ?_;rw[exc])|(with_reducible refine wpAny_isSubtype_exc at3 ?_;rw[exc])|wp_step|(rw[eo2])|(rw[eo3]))
 refine ZfO held e3 rfl (by simp) (ch.moved (h':=hideAll h1 [e]) fun p hp=>hideAll_get _ (ch.mem p hp).1 fun z=>nel p hp (List.mem_singleton.mp z)) (hideAll_none _ (.head _)) (fun b o hb=>(same b (hid b o hb).1).trans (hid b o hb).2) (q _ (fun b n=> ?_) (Heap.get?_update_self _ e3 rfl));exact(Heap.get?_update_other _ _ (Ne.symm n)).trans (same b n)
section
variable {P:Program} {w:World} {K:Frag} {mg:Str->Option Value} {base:Heap} {N:List Str} {qual:Str} {scope:Scope} {f:Addr} {cdv:Value} {A:Around} {outer:List Env} {s₀:Shared} {H₀:Hp} {E:XK}
theorem Zke{pins:List (Addr×Obj)}{σ:L2.St}{H:Hp}{s:Shared}{h':Heap}{e D c t:Addr}{dk:Option Addr}{l:List (Addr×Obj)}(I:L2.Inv (ZW (CXr P w) P w K mg base N qual scope f cdv A outer s₀ H₀ E) pins σ H s)
  (kp:∀b o,b≠e->s.heap.get? b=some o->h'.get? b=some o)(he:h'.get? e=some {cls:=.ref D,dict:=dk,data:=.fields #[.ref t,.none,.ref c,.none,.bool true,.none]})(hq:∀o,s.heap.get? e=some o->∃vs,o.data=.fields vs)(hf:H e=none)(new:s₀.heap.get? e=none)(ch:ChL s.heap l (.ref c))(ne:∀p∈l,p.1≠e)(fr:∀p∈l,H p.1=none)(q:E (.ref D) dk H):
  notedBy (model P w) ((ZW (CXr P w) P w K mg base N qual scope f cdv A outer s₀ H₀ E).A.mark (some (.ref c))) (ZW (CXr P w) P w K mg base N qual scope f cdv A outer s₀ H₀ E).env (cameBackBy (model P w) (ZW (CXr P w) P w K mg base N qual scope f cdv A outer s₀ H₀ E).A (ZW (CXr P w) P w K mg base N qual scope f cdv A outer s₀ H₀ E).env (ZW (CXr P w) P w K mg base N qual scope f cdv A outer s₀ H₀ E).xe) (.ref e) {s with heap:=h'}:=by
 have neL:∀b o,s₀.heap.get? b=some o->b≠s₀.heap.objs.size:=fun b o e=>Nat.ne_of_lt (Heap.lt_size e);have nse:∀b o,s₀.heap.get? b=some o->b≠e:=fun b o y z=>by rw[z,new] at y;cases y
 have nst:∀b o,s₀.heap.get? b=some o->b∉frs outer->b∉e::frs (ZW (CXr P w) P w K mg base N qual scope f cdv A outer s₀ H₀ E).stack:=fun b o eb nb hb=>by
  rcases List.mem_cons.mp hb with z|hb
  ·exact nse b o eb z
  ·rcases List.mem_cons.mp (I.stkSub b hb) with z|z
   ·exact neL b o eb z
   ·exact nb z
 have hin:∀env∈(ZW (CXr P w) P w K mg base N qual scope f cdv A outer s₀ H₀ E).stack,∀a,env.frame=some a->a∈e::frs (ZW (CXr P w) P w K mg base N qual scope f cdv A outer s₀ H₀ E).stack:=fun env he a ha=>List.mem_cons_of_mem _<|List.mem_filterMap.mpr ⟨env,he,ha⟩
 have en:(hideAll s.heap (e::frs (ZW (CXr P w) P w K mg base N qual scope f cdv A outer s₀ H₀ E).stack)).get? e=none:=hideAll_none _ (.head _);have kh:∀b o,(hideAll s.heap (e::frs (ZW (CXr P w) P w K mg base N qual scope f cdv A outer s₀ H₀ E).stack)).get? b=some o->h'.get? b=some o:=fun b o z=>kp b o (fun y=>by rw[y,en] at z;cases z) (of_hideAll _ z)
 have ff:=(funFrames_hide I.stack hin).of_keeps fun b o hb nf=>⟨o,kp b o (fun y=>by rw[y] at hb;obtain⟨vs,z⟩:=hq o hb;exact nf vs z) hb,rfl⟩
 have st:(hideAll s.heap (e::frs (ZW (CXr P w) P w K mg base N qual scope f cdv A outer s₀ H₀ E).stack)).StaysIn h':=kh;have note:wpAny (model P w) ((ZW (CXr P w) P w K mg base N qual scope f cdv A outer s₀ H₀ E).A.mark (some (.ref c))) (noteFrame (.ref e) (ZW (CXr P w) P w K mg base N qual scope f cdv A outer s₀ H₀ E).env) (fun _ s2=>∃h4,s2={s with heap:=h4}/\Heap.HeldW (hideAll s.heap (e::frs (ZW (CXr P w) P w K mg base N qual scope f cdv A outer s₀ H₀ E).stack)) (ZW (CXr P w) P w K mg base N qual scope f cdv A outer s₀ H₀ E).stack e (.ref D) (.ref t) s₀.heap.objs.size h4/\h'.UpToSlots h4) (fun _ _=>False) {s with heap:=h'}:=by
  unfold noteFrame;refine wpAny_bind (wpAny_field (x:=.none) he rfl rfl ?_);rw[if_neg (show¬(Value.none !=Value.none)=true by decide)];exact wpAny_entryW (I.ok.frames) ff rfl he st en rfl (show 1<6 by decide) rfl fun h4 ⟨x1,x2,x3,x4⟩=>⟨h4,rfl,⟨x1,en,x2,x3⟩,x4⟩
 refine wpAny_mono (Kd.any (Zgh _ _) note) (fun _ s2 z=> ?_) fun _ _ z=>z.1.elim;obtain⟨⟨h4,rfl,held,up4⟩,dk4⟩:=z;obtain⟨ob4,e4,d4,f4⟩:=dk4 e _ he;obtain⟨oe,vs,T,oT,ts,he4,hc4,hd4,h14,_⟩:=held.2.2.2;refine wpAny_bind (wpAny_field he4 hd4 h14 ?_);rw[if_neg (fun z=>by cases(eq_of_beq z))];refine wpAny_mono (Kd.any (JW _ _) (ZfP (Q:=fun _ s2=>∃h5,s2={s with heap:=h5}/\Heap.HeldW (hideAll s.heap (e::frs (ZW (CXr P w) P w K mg base N qual scope f cdv A outer s₀ H₀ E).stack)) (ZW (CXr P w) P w K mg base N qual scope f cdv A outer s₀ H₀ E).stack e (.ref D) (.ref t) s₀.heap.objs.size h5/\h4.UpToSlots h5) held fun h5 x y=>⟨h5,rfl,x,y⟩)) (fun _ s3 z=> ?_) fun _ _ z=>z.1
 obtain⟨⟨h5,rfl,held5,up5⟩,dk5⟩:=z;obtain⟨ob5,e5,d5,f5⟩:=dk5 e _ e4;have leav:wpAny (model P w) (ZW (CXr P w) P w K mg base N qual scope f cdv A outer s₀ H₀ E).A (leaving (ZW (CXr P w) P w K mg base N qual scope f cdv A outer s₀ H₀ E).env (.ref e)) (fun _ s2=>∃h6,s2={s with heap:=h6}/\Heap.FlyingW (hideAll s.heap (e::frs (ZW (CXr P w) P w K mg base N qual scope f cdv A outer s₀ H₀ E).stack)) outer e (.ref D) (.ref t) h6/\h5.UpToSlots h6) (fun _ _=>False) {s with heap:=h5}:=by
  unfold leaving;refine wpAny_bind (wpAny_noteFrame_againW rfl held5.2.2.2 (wpAny_landsW held5 fun h6 fl up6=> ?_));obtain⟨k1,k2,⟨_,_,k3⟩,k4⟩:=fl;exact⟨h6,rfl,⟨k1,k2,k3,k4⟩,up6⟩
 refine wpAny_mono (Kd.any (ZaT _ _) leav) (fun _ s4 z=> ?_) fun _ _ z=>z.1.elim;obtain⟨⟨h6,rfl,fl,up6⟩,dk6⟩:=z;obtain⟨ob6,e6,d6,f6⟩:=dk6 e _ e5;have ups:=(up4.trans up5).trans up6;have nofr:∀b o,(∃x,Zac o=some x)->s.heap.get? b=some o->b∉frs (ZW (CXr P w) P w K mg base N qual scope f cdv A outer s₀ H₀ E).stack:=fun b o ⟨x,hx2⟩ hb hm=>by
  obtain⟨_,o2,e2,hd⟩:=I.stack.mem hm;rw[hb] at e2
  cases e2;obtain⟨vs,e3,_⟩:=ZeN hx2;exact hd vs e3
 refine⟨e,D,_,H,_,rfl,I.os,I.bare,fl,⟨fun b o eb nb hb=>⟨hideAll_get _ (I.base.keep b o eb nb hb (by intro z;cases z)) (nst b o eb hb),I.base.free b o eb nb (by intro z;cases z)⟩,fun b o eb nb hb=> ?_,fun b o eb hb=> ?_,I.base.tups,I.base.frzs,I.base.tbls⟩,
  fun b u eb=>(I.hok b u eb).stay (fun c v hc z=>hideAll_get _ z fun hm=> ?_) (fun _ z=>z) (fun _ _ z=>z),dk,.ref c,⟨ob6,e6,(d6.trans d5).trans d4,(f6.trans f5).trans f4⟩,⟨l,ch.moved fun p hp=>hideAll_get _ (ch.mem p hp).1 (fun hm=>(List.mem_cons.mp hm).elim (ne p hp) (nofr _ _ (ch.mem p hp).2 (ch.mem p hp).1)),fr⟩,q⟩
 ·obtain⟨sl,e1⟩:=I.base.slot b o eb nb hb (by intro z;cases z)
  obtain⟨_,o2,e2,hd⟩:=I.ok.funs.mem hb;have e2:s₀.heap.get? b=some o2:=e2;rw[eb] at e2
  cases e2;obtain⟨sl2,e3⟩:=ups b _ (kp b _ (nse b o eb) e1) hd;exact⟨⟨sl2,e3⟩,I.base.free b o eb nb (by intro z;cases z)⟩
 ·obtain⟨o',e1⟩:=I.base.there b o eb (by intro z;cases z)
  exact⟨o',hideAll_get _ e1 (nst b o eb hb)⟩
 ·have nn:H c=none:=by
   rcases List.mem_cons.mp hm with z|z
   ·rw[z];exact hf
   ·exact I.stkFree c z
  rcases hc with rfl|hc
  ·rw[nn] at eb;cases eb
  ·rw[nn] at hc;cases hc
theorem Zj9{X:Cx}(eX:X=ZW (CXr P w) P w K mg base N qual scope f cdv A outer s₀ H₀ E){pins:List (Addr×Obj)}{σ:L2.St}{H:Hp}{s:Shared}{B h:Heap}{l:List Env}{e C C2 D D' fI:Addr}{fd:FuncData}{k:Nat}{ps:List Str}{sp:Sp}{a0:Value}{cn cn2 x:Str}{np np1 np2 cpos tpos zpos rpos hpos:Pos}{kk kt:Nat}{e1:PySem.Expr}{es:List PySem.Expr}{rest:List ExceptHandler}{t:TA}{Q:Flow->Shared->Prop}
  (again:∀(h5:Heap) (tk:Nat),B.StaysIn h5->h.UpToSlots h5->L2.Inv X pins σ H {s with heap:=h5,toks:=tk})(fl:Heap.FlyingW B l e (.ref D) a0 h)(free:H e=none)(dk:∃ob cx,h.get? e=some ob/\Zac ob=some cx/\Chn H B cx)(hg:Gl X cn)(hm:X.mg cn=some (.ref C))(hg2:Gl X cn2)(hm2:X.mg cn2=some (.ref C2))(hx:exmAny X.K (.ref D) [.ref C,.ref C2]=some true)
  (O:Zel x D' fI X.mg X.base)(F:FnH P w K mg base k fI fd ps sp)(hb:JT K fd ps [])(hr:Xb (k+1) X.A)(hgx:Gl X x)(ha:PA (Jp X (.ref e) fun _ _=>False) (e1::es) t)
  (q:t σ H fun vs H1=>vs.length<=sizeLine/\∀n,H1 n=none->sp (.ref n::vs) (upd H1 n (XN n D' none)) (fun v H2=>v=.non/\∃dk,H2 n=some (XN n D' dk)/\E (.ref D') dk (Zg0 H2 n)) fun _ _ _=>False)
  (hdb:(cn==("__debug__":Str))=false:=by decide)(hdb2:(cn2==("__debug__":Str))=false:=by decide)(hdx:(x==("__debug__":Str))=false:=by decide)
  (hs:starEach (e1::es) X.env=(false,eval e1 X.env)::starEach es X.env:=by rfl)(hpl:(backTo cpos (starEach es X.env)).any (·.1)=false:=by rfl):
  wpAny (model X.prog X.w) X.A (handleBy (.ref e) X.env (.ExceptHandler (some (.Tuple [.Name cn np,.Name cn2 np1] kt tpos)) none [.Raise (some (.Call (.Name x np2) (e1::es) [] cpos)) (some (.Constant .none kk zpos)) rpos] hpos::rest)) Q X.xe {s with heap:=h}:=by
 have I0:=again h s.toks fl.1 (fun _ o z _=>⟨o.slots,z⟩);refine wpAny_handleBy_cons (codeAny_handlers_test (wpAny_Tuple (wpAny_items_cons (YZ (Zbn (e:=.ref e) (E:=fun _ _=>False) I0) hg hm (wpAny_items_cons (YZ (Zbn (e:=.ref e) (E:=fun _ _=>False) I0) hg2 hm2 (wpAny_items_nil ⟨by size_fits, ?_⟩) hdb2)) hdb)))) (fun z=>nomatch z)
 dsimp only
 have kp:∀q o,h.get? q=some o->(h.push {cls:=.type "tuple",data:=.seq [Value.ref C,Value.ref C2].toArray}).get? q=some o:=fun _ _ z=>Heap.get?_push_of_some _ z;have LT:=(Zld (M:=model X.prog X.w) fl.there).keeps kp;have hp:=Heap.get?_push_size h (o:={cls:=.type "tuple",data:=.seq [Value.ref C,Value.ref C2].toArray}) rfl;have fl:=flying_keeps fl kp;have up0:h.UpToSlots (h.push {cls:=.type "tuple",data:=.seq [Value.ref C,Value.ref C2].toArray}):=Heap.UpToSlots.of_keeps kp
 have dk:∃ob cx,(h.push {cls:=.type "tuple",data:=.seq [Value.ref C,Value.ref C2].toArray}).get? e=some ob/\Zac ob=some cx/\Chn H B cx:=by
  obtain⟨ob,cx,b1,b2⟩:=dk;exact⟨ob,cx,kp _ _ b1,b2⟩
 have K0:=I0.kIn.keeps kp;generalize h.push {cls:=.type "tuple",data:=.seq [Value.ref C,Value.ref C2].toArray}=hh at kp LT hp fl up0 dk K0
 have again:∀(h5:Heap) (tk:Nat),B.StaysIn h5->hh.UpToSlots h5->L2.Inv X pins σ H {s with heap:=h5,toks:=tk}:=fun h5 tk y z=>again h5 tk y (up0.trans z);refine exm_tup2 K0 LT hp hx _ _ _ _ (fun _ _ z=>z) ?_;refine codeAny_handlers_suite (wpAny_mono (Kd.any (JW _ _) (lands_againW (Q:=fun _ s2=>∃h6,s2={s with heap:=h6}/\Heap.FlyingW B l e (.ref D) a0 h6/\hh.UpToSlots h6) fl fun h6 fl6 sm6=>⟨h6,rfl,fl6,sm6⟩)) (fun _ s2 z=> ?_) fun _ _ z=>z.1)
 obtain⟨⟨h6,rfl,fl6,sm6⟩,dk6⟩:=z;obtain⟨ob,cx,b1,b2,cl,b3,b4⟩:=dk;obtain⟨ob6,g1,_,g2⟩:=dk6 e ob b1;have J:=again h6 s.toks fl6.1 sm6;have pinOk:∀p:Addr×Obj,h6.get? p.1=some p.2->(∃v,Zac p.2=some v)->H p.1=none->h6.get? p.1=some p.2/\H p.1=none/\p.1≠X.env.locals/\p.1∉X.fs/\∀v,p.2.data≠.cell v:=fun p z1 ⟨v,z2⟩ z3=>by
  obtain⟨vs,z4,_⟩:=ZeN z2;refine⟨z1,z3,fun z=> ?_,fun z=> ?_,fun v z=>by rw[z4] at z;cases z⟩
  ·obtain⟨m,hn,_⟩:=id J.loc;obtain⟨o,es,ep,y1,y2,_⟩:=hn;rw[<-z,z1] at y1
   cases y1;rw[z4] at y2
   cases y2
  ·subst eX;obtain⟨_,o2,y1,y2⟩:=J.stack.mem (List.mem_cons_of_mem _ z);rw[z1] at y1
   cases y1;exact y2 vs z4
 have cl6:=b3.keeps (h':=h6) fun b o _ z=>fl6.1 b o z;have ch6:ChL h6 ((e,ob6)::cl) (.ref e):=⟨rfl,g1,cx,g2.trans b2,cl6⟩
 have J2:=Zbn (e:=.ref e) (E:=fun _ _=>False) (J.pins_of (pins':=(e,ob6)::cl) fun p hp=>by
  obtain⟨z1,z2⟩:=ch6.mem p hp;refine pinOk p z1 z2 ?_;rcases List.mem_cons.mp hp with rfl|hp
  ·exact free
  ·exact b4 p hp)
 have pl:(backTo cpos (starEach (e1::es) X.env)).any (·.1)=false:=by rw[hs];exact hpl
 have go:=ha cpos _ _ σ H _ J2 q;rw[show(Jp X (.ref e) fun _ _=>False).env=X.env from rfl,hs] at go
 refine wpAny_execs_cons ?_;rw[arm_exec_Raise];refine wpAny_bind (wpAny_standAt (Zfk (x:=x) (D:=D') (fI:=fI) (mg:=X.mg) rfl (fun s2 R z=>wpAny_bind (Constant_none (wpAny_bind (wpAny_standAt (wpAny_pure z))))) ?_));refine wpAny_bind (thn (wpAny_Call_ofName (YZ J2 hgx O.bound ?_ hdx)) fun v s3 z=>wpAny_bind (wpAny_standAt (wpAny_pure z)));unfold callWith;rw[hs] at pl⊢
 refine wpAny_bind (wpAny_holding (Calls.evalArgs_plain (wpAny_mono go (fun us s1 z=> ?_) fun _ _ z=>z.elim)));obtain⟨vs,H1,I1,r1,hz,q1⟩:=z;have own:=O.keeps I1.bk;obtain⟨bm,_,_,_,_,_,_,_,_,_,_,_,_,_,_,_,_,at_,_⟩:=own.obj;simp only [pl];have fresh:=I1.hok.fresh (Nat.le_succ s1.heap.objs.size);have I2:=Inv.laid (t':=s1.toks) I1 (ZaL (D:=D') (us:=us)) (Nat.le_succ _) (Zm8 Zfj);have q2:=q1 (s1.heap.objs.size+1) fresh
 have r2:Yc (V.ref (s1.heap.objs.size+1)::vs) (Value.ref (s1.heap.objs.size+1)::us):=.cons rfl r1;have hl:(Value.ref (s1.heap.objs.size+1)::us).length=ps.length:=by
  have e:=r2.length;rw[F.len _ _ _ _ q2] at e
  exact e.symm
 subst eX;have bd:=hb _ (Value.ref (s1.heap.objs.size+1)::us) I2.kIn (by rw[List.append_nil];exact hl)
 rw[List.append_nil] at bd
 have zu:us.length<=sizeLine:=r1.length▸hz;refine wpAny_bind (wpAny_standAt (wpAny_bind (wpAny_keeperOf_exc at_ (wpAny_bind (Zig own zu ?_)))));have hrH:Zrm k (Around.under (Jp (ZW (CXr P w) P w K mg base N qual scope f cdv A outer s₀ H₀ E) (.ref e) fun _ _=>False).A (.builtin "type.__call__" ⟨.ref D'::us,[]⟩)):=⟨by have:=hr.dp;rw[ZgA];show(ZW (CXr P w) P w K mg base N qual scope f cdv A outer s₀ H₀ E).A.depth+1+3*k+5<_;omega,by have:=hr.un;rw[ZgB];show(ZW (CXr P w) P w K mg base N qual scope f cdv A outer s₀ H₀ E).A.units+1+16*k+200<_;omega⟩
 refine wpAny_call (codeAny_mono (F.run _ (.ref e) (ZW (CXr P w) P w K mg base N qual scope f cdv A outer s₀ H₀ E).stack _ _ (Value.ref (s1.heap.objs.size+1)::us) _ _ _ rfl hrH (I2.env0.make D' us []) bd r2 q2) fun r s4 z=> ?_);cases r with
 |error ev=>exact z.elim
 |ok fl=>
  cases fl with
  |ret u=>
   obtain⟨v,H3,I3,rv,ev,dk,hx,qx⟩:=I2.after z;subst ev;refine⟨rv,wpAny_bind (wpAny_holding (wpAny_point (wpAny_pure ?_)))⟩;obtain⟨⟨t,e1⟩,_⟩:=I3.hok _ _ hx;have pin3:=fun p hp=>I3.pin p (List.mem_append_right _ hp);have pin1:=fun p hp=>(I1.pin p (List.mem_append_right _ hp)).1;have ch3:=ch6.moved (h':=s4.heap) fun p hp=>(pin3 p hp).1;have ne3:∀p∈(e,ob6)::cl,p.1≠s1.heap.objs.size+1:=fun p hp y=>absurd (Heap.lt_size (pin1 p hp)) (by rw[y];exact Nat.not_lt.mpr (Nat.le_succ _))
   refine⟨_,t,dk,_,rfl,O.keeps I3.bk,e1,ch3,ne3,fun h'' ot he''=> ?_⟩;refine Zke (Zkc (Zc8 J.ok I3) hx) (fun b o n z=>(ot b n).trans z) he'' (fun o y=>by rw[e1] at y;cases y;exact⟨_,rfl⟩) ZdU ?_ ch3 ne3 (fun p hp=>(Zgl (ne3 p hp)).trans (pin3 p hp).2.1) qx
   cases y:s₀.heap.get? (s1.heap.objs.size+1) with
   |none=>rfl
   |some o=>
    obtain⟨o',y2⟩:=I1.base.there _ o y (by intro z;cases z)
    exact absurd (Heap.lt_size y2) (Nat.not_lt.mpr (Nat.le_succ _))
  |next=>exact False.elim z
  |brk=>exact False.elim z
  |cont=>exact False.elim z
end
end L3
namespace L3
open PySem PySem.Spec PyProof.Rows L2 PySem.W PySem.Calls
section
variable {P:Program} {w:World}
abbrev ZoW(P:Program)(w:World)(X:Cx)(pn:List (Addr×Obj))(E':L2.St->XK):Cx:={X with pn:=pn,xe:=fun ev s'=>∃(pins:List (Addr×Obj)) (σ:L2.St) (H:Hp) (s:Shared),L2.Inv (pinned X pn) pins σ H s/\CXr P w X.stack H s (E' σ) ev s'}
theorem ZqJ{X:Cx}{pins:List (Addr×Obj)}{E':L2.St->XK}{σ:L2.St}{H:Hp}{s:Shared}(I:L2.Inv X pins σ H s):L2.Inv (ZoW P w X (X.pn++pins) E') [] σ H s:=
 have J:=ZoR (P:=P) (w:=w) (E':=fun _ _ _=>False) I
 ⟨⟨I.ok.mod,I.ok.kind,I.ok.glob,I.ok.blt,I.ok.above,I.ok.inj,I.ok.has,I.ok.cab,I.ok.hd,I.ok.frames,I.ok.stk,I.ok.exf,I.ok.bs,I.ok.bsz,I.ok.noex,I.ok.exfs,I.ok.funs,I.ok.frf⟩,J.os,J.bare,J.base,J.loc,J.cell,J.free,J.freeC,J.pin,J.hok,J.len⟩
theorem ZeO{X:Cx}{pins ps:List (Addr×Obj)}{E':L2.St->XK}{σ:L2.St}{H:Hp}{s:Shared}(o:X.Ok)(I:L2.Inv (ZoW P w X (X.pn++pins) E') ps σ H s):L2.Inv X pins σ H s:=Zj5 o ⟨Zln o,I.os,I.bare,I.base,I.loc,I.cell,I.free,I.freeC,I.pin,I.hok,I.len⟩
def Zsm(sp:Sp)(E':L2.St->XK)(t:TA):TE:=fun σ H Q=>t σ H fun vs H1=>sp vs H1 Q (E' σ)
def Zrn(CX:CXT)(X:Cx)(E':L2.St->XK):Prop:=∀(pins:List (Addr×Obj)) (σ:L2.St) (H:Hp) (s:Shared) (e:Value) (s':Shared),L2.Inv X pins σ H s->CX X.stack H s (E' σ) e s'->X.xe e s'
theorem Zih{X:Cx}{pn:List (Addr×Obj)}{E':L2.St->XK}(o:X.Ok):Zrn (CXr P w) (ZoW P w X pn E') E':=fun pins σ H s _ _ I h=>⟨pins,σ,H,s,⟨Zln o,I.os,I.bare,I.base,I.loc,I.cell,I.free,I.freeC,I.pin,I.hok,I.len⟩,h⟩
theorem ZoX{X:Cx}{CX:CXT}{E':L2.St->XK}{k:Nat}{x:Str}{ps:List Str}{sp:Sp}{e:PySem.Expr}{es:List PySem.Expr}{t:TA}{p pos:Pos}(c:Cal X.prog X.w X.K X.mg X.base CX k x ps sp)(hr:Xb k X.A)(hg:Gl X x)(hx:Zrn CX X E')(ha:PA X (e::es) t)
  (hdb:(x==("__debug__":Str))=false:=by decide)(he:starEach (e::es) X.env=(false,eval e X.env)::starEach es X.env:=by rfl)(hpl:(backTo pos (starEach es X.env)).any (·.1)=false:=by rfl):PE X (.Call (.Name x p) (e::es) [] pos) (Zsm sp E' t):=by
 intro pins s σ H Q I h;obtain⟨g,fd,hmg,hkp,hb,F⟩:=c.ex;refine wpAny_Call_Name_kw (YZ I hg hmg ?_ hdb);refine PySem.W.callWith_K (h₀:=X.base) I.ok.mod.kin hkp (thn (ha pos pins s σ H _ I h) fun us s1 z=> ?_) he hpl;obtain⟨vs,H1,I1,r1,q1⟩:=z;refine⟨I1.kIn, ?_⟩;have bd:=hb s1 us I1.kIn (by rw[List.append_nil,<-r1.length];exact F.len _ _ _ _ q1)
 rw[List.append_nil] at bd
 refine wpAny_call (codeAny_mono (F.run _ _ s1 H1 ⟨us,[]⟩ us vs _ _ hr I1.env0 bd r1 q1) fun r s2 z=> ?_);cases r with
 |ok fl=>
  cases fl with
  |ret u=>exact I1.after z
  |next=>exact False.elim z
  |brk=>exact False.elim z
  |cont=>exact False.elim z
 |error ev=>exact hx pins σ H1 s1 ev s2 I1 z
end
section
variable {P:Program} {w:World} {K:Frag} {mg:Str->Option Value} {base:Heap} {N:List Str} {qual:Str} {scope:Scope} {f:Addr} {cdv:Value} {A:Around} {outer:List Env} {s₀:Shared} {H₀:Hp} {E:XK}
def Zmb(K:Frag)(C C2 D':Addr)(E:XK)(sp:Sp)(tb:List (Addr×Obj)->(L2.St->XK)->TS)(tr:TA):TS:=fun D σ H=>∀pn,tb pn (fun σ' c _ H2=>∃B,c=.ref B/\exmAny K (.ref B) [.ref C,.ref C2]=some true/\tr σ' H2 fun us H3=>us.length<=sizeLine/\∀n,H3 n=none->sp (.ref n::us) (upd H3 n (XN n D' none)) (fun v H4=>v=.non/\∃dk,H4 n=some (XN n D' dk)/\E (.ref D') dk (Zg0 H4 n)) fun _ _ _=>False) D σ H
theorem Znh{X:Cx}(eX:X=ZW (CXr P w) P w K mg base N qual scope f cdv A outer s₀ H₀ E){C C2 D' fI:Addr}{fd:FuncData}{k:Nat}{cn cn2 x:Str}{ps:List Str}{sp:Sp}{tb:List (Addr×Obj)->(L2.St->XK)->TS}{tr:TA}{np np1 np2 xpos tpos zpos rpos hpos pos:Pos}{kk kt:Nat}{body:List Stmt}{r1:PySem.Expr}{rs:List PySem.Expr}{rest:List ExceptHandler}
  (hb:X.Ok->∀pn E',PSs (ZoW P w X pn E') body (tb pn E'))(hgc:Gl X cn)(hm:mg cn=some (.ref C))(hgc2:Gl X cn2)(hm2:mg cn2=some (.ref C2))(O:Zel x D' fI mg base)(F:FnH P w K mg base k fI fd ps sp)(hbd:JT K fd ps [])(hr:Xb (k+1) X.A)(hgx:Gl X x)(ha:∀e,PA (Jp X e fun _ _=>False) (r1::rs) tr)
  (hd1:(cn==("__debug__":Str))=false:=by decide)(hd2:(cn2==("__debug__":Str))=false:=by decide)(hd3:(x==("__debug__":Str))=false:=by decide)(he2:starEach (r1::rs) X.env=(false,eval r1 X.env)::starEach rs X.env:=by rfl)(hpl2:(backTo xpos (starEach rs X.env)).any (·.1)=false:=by rfl):
  PS X (.Try body (.ExceptHandler (some (.Tuple [.Name cn np,.Name cn2 np1] kt tpos)) none [.Raise (some (.Call (.Name x np2) (r1::rs) [] xpos)) (some (.Constant .none kk zpos)) rpos] hpos::rest) [] [] pos) (Zmb K C C2 D' E sp tb tr):=by
 intro pins s σ H D I h;have eX2:=eX;subst eX;refine wpAny_Try_except (wpAny_mono (hb I.ok _ _ [] s σ H D (ZqJ I) (h _)) (fun fl s1 z=> ?_) fun ev s1 z=> ?_)
 ·cases fl with
  |next=>obtain⟨σ2,H2,I3,q3⟩:=z;exact wpAny_execs_nil ⟨σ2,H2,ZeO I.ok I3,q3⟩
  |brk=>obtain⟨σ2,H2,I3,q3⟩:=z;exact⟨σ2,H2,ZeO I.ok I3,q3⟩
  |cont=>obtain⟨σ2,H2,I3,q3⟩:=z;exact⟨σ2,H2,ZeO I.ok I3,q3⟩
  |ret u=>obtain⟨v,σ2,H2,I3,r,q3⟩:=z;exact⟨v,σ2,H2,ZeO I.ok I3,r,q3⟩
 ·obtain⟨ps,σ1,H1,s2,I2,hcx⟩:=z;have I1:=Zj5 (pins:=pins) I.ok I2;refine Zsc (P:=P) (w:=w) I1 hcx fun e D2 a0 H2 B h2 d ee again fl hok new ⟨ob,cx,k1,_,k3,k4⟩ q2=> ?_;subst ee;obtain⟨B2,eb,mt,q3⟩:=q2;cases eb;exact Zj9 eX2 again fl (apart hok fl) ⟨ob,cx,k1,k3,k4⟩ hgc hm hgc2 hm2 mt O F hbd hr hgx (ha _) q3 hd1 hd2 hd3 he2 hpl2
end
section
variable {X:Cx}
theorem Ze5:ZaP X (.builtin "isinstance") (fun xs H Q=>∃e D d f y0 y c b,xs=[.ref e,y]/\H e=some (XO e D (some d))/\H d=some (XD d f y0)/\Jd X.K D/\Zoa y=some c/\kitOne X.K (.ref D) c=some b/\Q (.bl b) H):=by
 intro pins s σ H xs us Q I r h;obtain⟨e,D,d,f,y0,y,c,b,rfl,he,hd,Z,hy,hb,q⟩:=h;obtain⟨u,u2,rfl,rx,ry⟩:=ZjJ r;cases rx;obtain rfl:u2=c:=by
  cases y with
  |ty n=>cases hy;exact ry
  |ref a=>cases hy;exact ry
  |_=>cases hy
 obtain⟨ox,od,_,J,_⟩:=ZgQ I he hd;exact kia_one (ZjY Z) I.kIn ⟨ox,_,J⟩ hb (fun z=>nomatch z) fun tk=>⟨.bl b,H,I.tok _,rfl,q⟩
theorem ZgR:ZaP X (.builtin "isinstance") (fun xs H Q=>∃e D d f y0 p ys cs b,xs=[.ref e,.ref p]/\H e=some (XO e D (some d))/\H d=some (XD d f y0)/\Jd X.K D/\H p=some (.tup ys)/\ZoH ys=some cs/\kitAny X.K (.ref D) cs=some b/\Q (.bl b) H):=by
 intro pins s σ H xs us Q I r h;obtain⟨e,D,d,f,y0,p,ys,cs,b,rfl,he,hd,Z,hp,hy,hb,q⟩:=h;obtain⟨u,u2,rfl,rx,ry⟩:=ZjJ r;cases rx;cases ry;obtain⟨_,its,rv,⟨c,dd,da,sl⟩,e1,e2,n,e3⟩:=I.hok p _ hp;obtain rfl:=ZgN rv hy;cases e2;cases e3;obtain⟨ox,od,_,J,_⟩:=ZgQ I he hd;exact kia_tup (ZjY Z) I.kIn ⟨ox,_,J⟩ e1 hb (fun z=>nomatch z) fun tk=>⟨.bl b,H,I.tok _,rfl,q⟩
end
end L3
namespace L3
open PySem PySem.Spec PyProof.Rows L2 PySem.W PySem.Calls
structure ZoY (P:Program) (w:World) (K:Frag) (mg:Str->Option Value) (base:Heap) (k:Nat) (x:Str) (D:Addr) (ps:List Str) (sp:Sp):Prop where
 ex:∃(fI:Addr) (fd:FuncData),Zel x D fI mg base/\Yo P w K mg base CX0 k fI fd ps sp/\FnH P w K mg base k fI fd ps sp/\JT K fd ps []
theorem Zja{P:Program}{w:World}{X:Cx}:JV (CXr P w) X fun _ _ _=>False:=fun _ _ _ _ _ _ _ ⟨_,_,_,_,_,_,_,_,_,_,_,_,_,_,_,q⟩=>q.elim
section
variable {P:Program} {w:World} {K:Frag} {mg:Str->Option Value} {base:Heap} {N:List Str} {qual:Str} {scope:Scope} {f:Addr} {cdv:Value} {A:Around} {outer:List Env} {s₀:Shared} {H₀:Hp} {E:XK}
theorem Zfl{X:Cx}(eX:X=ZW (CXr P w) P w K mg base N qual scope f cdv A outer s₀ H₀ E){D:Addr}{k:Nat}{ps:List Str}{sp:Sp}{x:Str}{np cpos pos:Pos}{e:PySem.Expr}{es:List PySem.Expr}{t:TA}(c:ZoY P w K mg base k x D ps sp)(hr:Xb (k+1) X.A)(hc:X.calm=true)(hg:Gl X x)(ha:PA X (e::es) t)
  (hdb:(x==("__debug__":Str))=false:=by decide)(hs:starEach (e::es) X.env=(false,eval e X.env)::starEach es X.env:=by rfl)(hpl:(backTo cpos (starEach es X.env)).any (·.1)=false:=by rfl):PS X (.Raise (some (.Call (.Name x np) (e::es) [] cpos)) none pos) (Zm9 D sp E t):=by
 obtain⟨fI,fd,O,F,_,B⟩:=c.ex;exact Zne eX O F B hr hc hg ha hdb hs hpl
theorem Zlp{X:Cx}(eX:X=ZW (CXr P w) P w K mg base N qual scope f cdv A outer s₀ H₀ E){C C2 D':Addr}{k:Nat}{cn cn2 x:Str}{ps:List Str}{sp:Sp}{tb:List (Addr×Obj)->(L2.St->XK)->TS}{tr:TA}{np np1 np2 xpos tpos zpos rpos hpos pos:Pos}{kk kt:Nat}{body:List Stmt}{r1:PySem.Expr}{rs:List PySem.Expr}{rest:List ExceptHandler}
  (hb:X.Ok->∀pn E',PSs (ZoW P w X pn E') body (tb pn E'))(hgc:Gl X cn)(hm:mg cn=some (.ref C))(hgc2:Gl X cn2)(hm2:mg cn2=some (.ref C2))(c:ZoY P w K mg base k x D' ps sp)(hr:Xb (k+1) X.A)(hgx:Gl X x)(ha:∀e,PA (Jp X e fun _ _=>False) (r1::rs) tr)
  (hd1:(cn==("__debug__":Str))=false:=by decide)(hd2:(cn2==("__debug__":Str))=false:=by decide)(hd3:(x==("__debug__":Str))=false:=by decide)(he2:starEach (r1::rs) X.env=(false,eval r1 X.env)::starEach rs X.env:=by rfl)(hpl2:(backTo xpos (starEach rs X.env)).any (·.1)=false:=by rfl):
  PS X (.Try body (.ExceptHandler (some (.Tuple [.Name cn np,.Name cn2 np1] kt tpos)) none [.Raise (some (.Call (.Name x np2) (r1::rs) [] xpos)) (some (.Constant .none kk zpos)) rpos] hpos::rest) [] [] pos) (Zmb K C C2 D' E sp tb tr):=by
 obtain⟨fI,fd,O,_,F,B⟩:=c.ex;exact Znh eX hb hgc hm hgc2 hm2 O F B hr hgx ha hd1 hd2 hd3 he2 hpl2
end
end L3
namespace L3
open PySem PySem.Spec PyProof.Rows L2 PySem.W PySem.Calls
theorem Zsn{K:Frag}{h:Heap}{N:Addr}{m:Str->Option Value}{x:Str}{v:Value}(X:K.In h)(G:h.Ns N m)(e:nsIn K N x=some (some v)):m x=some v:=by
 obtain⟨o,es,ep,there,data,_,all⟩:=G;cases l:K.lookup N with
 |none=>simp only [nsIn,l] at e;cases e
 |some ob=>
  obtain rfl:ob=o:=Option.some.inj ((X _ _ l).symm.trans there);obtain⟨c,d,da,sl⟩:=ob;cases data;simp only [nsIn,l] at e
  cases w:es.toList.find? (·.key.isStr x) with
  |none=>rw[w] at e;revert e;dsimp only;split<;>(intro e;cases e)
  |some en=>
   rw[w] at e
   cases e;rw[<-all];unfold nsFind findBy;rw[<-Array.find?_toList,w]
   rfl
end L3
namespace L3
open PySem PySem.Spec PyProof.Rows L2 PySem.W PySem.Calls
def Zde(z:Str)(m:Nat):Str:=⟨(List.replicate m z.cps).foldl (· ++ ·) #[]⟩
theorem Zmc(z:Str)(m:Nat):(Zde z m).length=z.length*m:=by
 have go:∀(m:Nat) (a:Array Nat),((List.replicate m z.cps).foldl (· ++ ·) a).size=a.size+z.cps.size*m:=by
  intro m
  induction m with
  |zero=>intro a;simp
  |succ m ih=>intro a;rw[List.replicate_succ,List.foldl_cons,ih,Array.size_append,Nat.mul_succ];omega
 have:=go m #[];rw[show(#[]:Array Nat).size=0 from rfl,Nat.zero_add] at this
 exact this
section
variable {X:Cx}
theorem Zgm:OpR X (binaryOp .Mult) (fun x y H Q=>∃(z:Str) (m:Nat),x=.str z/\y=.int (m:Int)/\2<=m/\m<=1000/\0<z.length/\z.length*m<=100000/\Q (.str (Zde z m)) H):=by
 intro pins s σ H x y v u Q I rx ry h;obtain⟨z,m,rfl,rfl,m2,m1,z0,zm,q⟩:=h;obtain⟨t,rfl⟩:=rx;obtain⟨t',rfl⟩:=ry;have l5:100000<=sizeLine:=by rw[sizeLine_eq];decide
 have zl:z.length<=z.length*m:=Nat.le_mul_of_pos_right _ (by omega);refine PySem.P.mul_str (by rw[decide_eq_false (by omega),decide_eq_false (by omega)];rfl) (fun _ _=> ?_) (fun _ _=> ?_) ?_
 ·have:(1000:Int)*100000<2^63-1:=by decide
  have h2:(100000:Int)<=(2^63-1)/(m:Int):=by
   rw[Int.le_ediv_iff_mul_le (by omega)];omega
  omega
 ·show decide (z.length*(m:Int).toNat>sizeLine)=false;exact decide_eq_false (by rw[Int.toNat_natCast];omega)
 ·rw[if_neg (by omega),if_neg (by
   intro z1;rcases Bool.or_eq_true_iff.mp z1 with y|y
   ·have:=eq_of_beq y;omega
   ·have:=eq_of_beq y;omega)]
  rw[Int.toNat_natCast];exact⟨by have:=Zmc z m;show(Zde z m).length<=_;omega,.str (Zde z m),H,I.tok _,⟨_,rfl⟩,q⟩
end
end L3
namespace K22
open PySem PySem.Spec PyProof.Rows L2 L3 M1 M2 M3
set_option maxHeartbeats 5000000
def top(i:Nat):Stmt:=PySem.Challenge.pw_disposehall_k22_the_first_bad_row_of_a_b.main.body.getD i (.Pass ⟨0,0,0,0⟩)
abbrev Zcp:Stmt:=top 21
abbrev Zdf:Stmt:=top 22
abbrev Za0:Stmt:=top 23
abbrev Zbw:Stmt:=top 24
abbrev ZaY:Stmt:=top 25
abbrev Zfm:Stmt:=top 26
abbrev Zjb:Stmt:=top 35
abbrev Zjc:Stmt:=top 36
abbrev Zjd:Stmt:=top 37
abbrev Zfn:Stmt:=top 38
abbrev Zdg:Stmt:=top 39
abbrev Zcq:Stmt:=top 40
abbrev Zcr:Stmt:=top 41
abbrev Zcs:Stmt:=top 42
abbrev ZaZ:Stmt:=top 43
abbrev Zem:Stmt:=top 46
abbrev Zen:Stmt:=top 47
abbrev Zje:Stmt:=top 48
abbrev Zfo:Stmt:=top 49
abbrev Zct:Stmt:=top 50
abbrev ZgS:Stmt:=top 51
abbrev Zdh:Stmt:=top 53
abbrev Zbx:Stmt:=top 54
abbrev Zby:Stmt:=top 55
abbrev Zcu:Stmt:=top 56
abbrev Zb0:Stmt:=top 57
abbrev Zdi:Stmt:=top 59
abbrev Zbz:Stmt:=top 60
abbrev ZbA:Stmt:=top 61
abbrev Zcv:Stmt:=top 62
abbrev Zao:Stmt:=top 63
abbrev Zap:Stmt:=top 64
abbrev Zb1:Stmt:=top 65
abbrev Zeo:Stmt:=top 66
abbrev ZbB:Stmt:=top 67
abbrev ZbC:Stmt:=top 68
abbrev ZbD:Stmt:=top 69
abbrev ZbE:Stmt:=top 70
abbrev ZeP:Stmt:=top 71
abbrev Za7:Stmt:=Zch (top 7) 0
abbrev ZbF:Stmt:=Zch (top 30) 1
abbrev Zcw:Stmt:=Zch (top 31) 0
abbrev ZbG:Stmt:=Zch (top 31) 2
abbrev Zbo:Stmt:=Zch (top 32) 0
abbrev ZbH:Stmt:=Zch (top 33) 1
abbrev Zaq:Stmt:=Zch (top 34) 1
def YS:Str:="0123456789"
def Za1:Str:="abcdefghijklmnopqrstuvwxyz"
structure Txt (K:PySem.W.Frag) (mg:Str->Option Value) (t_YEAR_DAYS:Tok) (t_MONTH_DAYS:Tok) (t_MOST_FIGURES:Tok) (t_MOST_LETTERS:Tok) (t_FIGURES:Tok) (t_LETTERS:Tok) (t_MOST_WORDS:Tok) (t_MOST_CLAUSES:Tok) (Zj:Addr) (Zg:Addr) (Zh:Addr) (Zb:Addr) (Zm:Addr) (ZL:Addr) (Zn:Addr) (Zo:Addr) (Zq:Addr) (Zi:Addr) (Zy:Addr) (Zv:Addr) (Zz:Addr) (ZD:Addr) (ZG:Addr) (ZM:Addr):Prop where
 g_YEAR_DAYS:mg "YEAR_DAYS"=some (.int 360 t_YEAR_DAYS)
 g_MONTH_DAYS:mg "MONTH_DAYS"=some (.int 30 t_MONTH_DAYS)
 g_MOST_FIGURES:mg "MOST_FIGURES"=some (.int 40 t_MOST_FIGURES)
 g_MOST_LETTERS:mg "MOST_LETTERS"=some (.int 12 t_MOST_LETTERS)
 g_FIGURES:mg "FIGURES"=some (.str YS t_FIGURES)
 g_LETTERS:mg "LETTERS"=some (.str Za1 t_LETTERS)
 g_MOST_WORDS:mg "MOST_WORDS"=some (.int 61 t_MOST_WORDS)
 g_MOST_CLAUSES:mg "MOST_CLAUSES"=some (.int 40 t_MOST_CLAUSES)
 z_ValueError:mg "ValueError"=none
 z_all:mg "all"=none
 z_any:mg "any"=none
 z_bool:mg "bool"=none
 z_dict:mg "dict"=none
 z_enumerate:mg "enumerate"=none
 z_int:mg "int"=none
 z_isinstance:mg "isinstance"=none
 z_len:mg "len"=none
 z_list:mg "list"=none
 z_max:mg "max"=none
 z_range:mg "range"=none
 z_reversed:mg "reversed"=none
 z_sorted:mg "sorted"=none
 z_str:mg "str"=none
 kib:PySem.W.kitOne K (.type "int") (.type "bool")=some false
 kii:PySem.W.kitOne K (.type "int") (.type "int")=some true
 cl_Never:Cls K Zj
 ty_Never:TyC K Zj
 cl_After:Cls K Zg
 n_After_kind:Jo K Zg "kind"
 n_After_days:Jo K Zg "days"
 ty_After:TyC K Zg
 cl_Later:Cls K Zh
 n_Later_one:Jo K Zh "one"
 n_Later_other:Jo K Zh "other"
 ty_Later:TyC K Zh
 cl_Earlier:Cls K Zb
 n_Earlier_one:Jo K Zb "one"
 n_Earlier_other:Jo K Zb "other"
 ty_Earlier:TyC K Zb
 mg_HallError:mg "HallError"=some (.ref Zm)
 mg_NoDay:mg "NoDay"=some (.ref ZL)
 mg_NoLength:mg "NoLength"=some (.ref Zn)
 mg_NoTerm:mg "NoTerm"=some (.ref Zo)
 mg_TooWide:mg "TooWide"=some (.ref Zq)
 mg_NoBook:mg "NoBook"=some (.ref Zi)
 mg_PutTwice:mg "PutTwice"=some (.ref Zy)
 mg_HeldTwice:mg "HeldTwice"=some (.ref Zv)
 mg_NoSeries:mg "NoSeries"=some (.ref Zz)
 mg_RunBack:mg "RunBack"=some (.ref ZD)
 mg_Unlike:mg "Unlike"=some (.ref ZG)
 mg_NoRow:mg "NoRow"=some (.ref ZM)
 mg_After:mg "After"=some (.ref Zg)
 mg_Earlier:mg "Earlier"=some (.ref Zb)
 mg_Later:mg "Later"=some (.ref Zh)
 xc_NoLength:Jd K Zn
 xc_NoTerm:Jd K Zo
 xc_TooWide:Jd K Zq
 xc_NoBook:Jd K Zi
 xa_NoBook:Zrl K Zi "row"
 xt_NoBook:Zsl K Zi "row"
 k_Never_After:PySem.W.kitOne K (.ref Zj) (.ref Zg)=some false
 k_Never_Earlier:PySem.W.kitOne K (.ref Zj) (.ref Zb)=some false
 k_Never_Later:PySem.W.kitOne K (.ref Zj) (.ref Zh)=some false
 k_After_After:PySem.W.kitOne K (.ref Zg) (.ref Zg)=some true
 k_After_Earlier:PySem.W.kitOne K (.ref Zg) (.ref Zb)=some false
 k_After_Later:PySem.W.kitOne K (.ref Zg) (.ref Zh)=some false
 k_Later_After:PySem.W.kitOne K (.ref Zh) (.ref Zg)=some false
 k_Later_Earlier:PySem.W.kitOne K (.ref Zh) (.ref Zb)=some false
 k_Later_Later:PySem.W.kitOne K (.ref Zh) (.ref Zh)=some true
 k_Earlier_After:PySem.W.kitOne K (.ref Zb) (.ref Zg)=some false
 k_Earlier_Earlier:PySem.W.kitOne K (.ref Zb) (.ref Zb)=some true
 k_Earlier_Later:PySem.W.kitOne K (.ref Zb) (.ref Zh)=some false
 xm_n:PySem.W.exmOne K (.ref Zn) (.ref Zn)=some true
 xm_t:PySem.W.exmAny K (.ref Zo) [.ref Zo,.ref Zq]=some true
 xm_w:PySem.W.exmAny K (.ref Zq) [.ref Zo,.ref Zq]=some true
 xm_b:PySem.W.exmOne K (.ref Zi) (.ref Zm)=some true
 rd_base:PySem.W.readsIn K Zm (.type "type")=true
 ga_base:PySem.W.specialIn K (.ref Zm) "__getattribute__"=some (some (.builtin "type.__getattribute__"))
 fi_base:PySem.W.findCls K (.ref Zm) (.type "type") "__init__"=some (.val (.builtin "ValueError.__init__"))
 i_b_ve:PySem.W.kitOne K (.ref Zi) (.type "ValueError")=some true
 i_b_NoBook:PySem.W.kitOne K (.ref Zi) (.ref Zi)=some true
 i_b_others:PySem.W.kitAny K (.ref Zi) [.ref Zv,.ref ZL,.ref Zn,.ref ZM,.ref Zz,.ref Zo,.ref Zy,.ref ZD,.ref Zq,.ref ZG]=some false
 ne_Never_After:Zj≠Zg
 ne_Never_Later:Zj≠Zh
 ne_Never_Earlier:Zj≠Zb
 ne_After_Later:Zg≠Zh
 ne_After_Earlier:Zg≠Zb
 ne_Later_Earlier:Zh≠Zb
theorem Ys:100000<=sizeLine:=by rw[sizeLine_eq];decide
theorem sl{n:Nat}(h:n<=100000:=by decide):n<=sizeLine:=Nat.le_trans h Ys
theorem Zd{H:Hp}{p:Addr}{o:HO}(h:H p=none):ZJ H (upd H p o):=fun b u e=>by rw[Zr (ZC e h)];exact e
theorem ZeQ(x:Str)(c:Nat):(x++⟨#[c]⟩:Str).length=x.length+1:=strLen_append x ⟨#[c]⟩
theorem Zdj{α:Type}{xs:List α}{i:Int}(h0: -(xs.length:Int)<=i)(h1:i<xs.length):∃v,atI xs i=some v:=by
 unfold atI ixN
 by_cases h:0<=i
 ·rw[if_pos h,if_pos h1];exact⟨_,List.getElem?_eq_getElem (by omega)⟩
 ·rw[if_neg h,if_pos h0];exact⟨_,List.getElem?_eq_getElem (by omega)⟩
theorem ZoZ{ns:List Int}{i:Int}(h0: -(ns.length:Int)<=i)(h1:i<ns.length):∃c,c∈ns/\atI (ns.map V.int) i=some (.int c):=by
 obtain⟨v,e⟩:=Zdj (xs:=ns.map V.int) (i:=i) (by rw[List.length_map];exact h0) (by rw[List.length_map];exact h1)
 obtain⟨j,_,hj,_⟩:=Zcf e;rw[List.getElem?_map] at hj
 cases q:ns[j]? with
 |none=>rw[q] at hj;cases hj
 |some c=>
  rw[q] at hj
  cases hj;exact⟨c,List.mem_of_getElem? q,e⟩
theorem Zfp{Q:VK}{a b:V}{H:Hp}(q:Q a H)(e:a=b):Q b H:=e▸q
theorem Zp0{α:Type}{xs:List α}{c:α}(h:atI xs 0=some c):xs.head? =some c:=by
 unfold atI ixN at h
 rw[if_pos (by decide)] at h
 split at h
 ·rw[List.head?_eq_getElem?];exact h
 ·cases h
theorem ZtV{c A B:Prop} [Decidable c](hc:c)(h:A):if decide c=true then A else B:=by
 rw[decide_eq_true hc];exact JS h
theorem ZeR(k:Nat):((10:Int)^k)=((10^k:Nat):Int):=by simp
theorem Zso{k:Int}(h0:0<=k)(h1:k<=1000):ZsV 10 k:=⟨h0,by omega,by decide⟩
theorem pow_pos(k:Nat):(0:Int)<10^k:=by rw[ZeR];exact Int.natCast_pos.mpr (Nat.pow_pos (by decide))
theorem ixT{K:PySem.W.Frag}{i:Nat}{j:Int}{σ:L2.St}{H:Hp}{Q:VK}{a:Addr}{xs:List V}{v:V}(e:σ[i]? =some (some (.ref a)))(h:SqT K H a xs)(m:atI xs j=some v)(k:Q v H):tOp (ZrM K) (Zfb i) (tC (.int j)) σ H Q:=⟨_,e,a,_,_,_,rfl,rfl,h,m,k⟩
theorem vI{C:Int->Int->Prop}{g:Int->Int->V}{i:Nat}{σ:L2.St}{H:Hp}{Q:VK}{a k:Int}(e:σ[i]? =some (some (.int a)))(c:C a k)(q:Q (g a k) H):tOp (rI C g) (Zfb i) (tC (.int k)) σ H Q:=⟨_,e,a,k,rfl,rfl,c,q⟩
theorem vEq{i:Nat}{σ:L2.St}{H:Hp}{k:Bool->Hp->Prop}{x v:V}(e:σ[i]? =some (some x))(f:ZrK x v=true)(q:k (decide (x=v)) H):Zra (tOp rEq (Zfb i) (tC v)) σ H k:=⟨_,e,f,_,rfl,q⟩
def Za8:Sp:=fun vs H Q _=>∃x y:Str,vs=[.str x,.str y]/\x.length<=100000/\∀H',ZJ H H'->Q (.bl (x.cps.toList.all (inS y))) H'
def ZcS(x:Str):Bool:=if x.length=0\/40<x.length then false else if(cs x).head? =some 48/\x≠⟨#[48]⟩ then false else x.cps.toList.all (inS YS)
def Zcx:Sp:=fun vs H Q _=>∃x:Str,vs=[.str x]/\x.length<=100000/\∀H',ZJ H H'->Q (.bl (ZcS x)) H'
theorem Zsp:Str.ofString "0"=⟨#[48]⟩:=by decide
theorem Zkf(c:Nat):V.str ⟨#[c]⟩=V.str (Str.ofString "0")↔c=48:=by
 rw[Zsp]
 constructor
 ·intro e
  injection e with e
  injection e with e
  have e:[c]=[48]:=congrArg Array.toList e
  injection e
 ·rintro rfl
  rfl
theorem Zsq:∀k<10,inS YS (48+k)=true:=by decide+kernel
theorem Zsr:∀c∈cs YS,48<=c/\c<=57:=by decide+kernel
theorem Zmd(c:Nat):inS YS c=true↔48<=c/\c<=57:=by
 refine⟨fun h=>Zsr c ((Zq7 _ _).mp h),fun h=> ?_⟩;have:=Zsq (c-48) (by omega)
 rwa [Nat.add_sub_cancel' h.1] at this
theorem Zni{n:Nat}(h:n<10^40):ZcS (num n)=true:=by
 have h1:(num n).length<=40:=Zgd (by decide) h;have h2:(num n).length≠0:=by
  rw[Jg];intro e;exact Zoh n (List.length_eq_zero_iff.mp e)
 unfold ZcS;rw[if_neg (by omega)];rw[if_neg (by
  rintro⟨e1,e2⟩;have:=Zoi n e1;subst this;exact e2 Zoj)]
 rw[List.all_eq_true];intro c hc;exact(Zmd c).mpr (Zck n c hc)
def Zb2(x:Str):V:=if x=Str.ofString "y" then .int 360 else if x=Str.ofString "m" then .int 30 else if x=Str.ofString "d" then .int 1 else .non
def Zae(d:Nat):Str:=if d%360=0 then num (d/360)++Str.ofString "y" else if d%30=0 then num (d/30)++Str.ofString "m" else num d++Str.ofString "d"
def JH:Sp:=fun vs H Q _=>∃x:Str,vs=[.str x]/\∀H',ZJ H H'->Q (Zb2 x) H'
def Zar:Sp:=fun vs H Q _=>∃d:Nat,vs=[.int (d:Int)]/\d<10^100/\∀H',ZJ H H'->Q (.str (Zae d)) H'
theorem Zep{m:Nat}(h:m<10^100):((m:Nat):Int).natAbs.log2<1920:=by
 rw[Int.natAbs_natCast]
 by_cases z:m=0
 ·rw[z];decide
 ·exact(Nat.log2_lt z).mpr (Nat.lt_trans h (by decide+kernel))
theorem Zcy{m:Nat}(h:m<10^100):(num m).length<=100:=Zgd (by decide) h
theorem Ztr:Str.ofString "y"=⟨#[121]⟩:=by decide
theorem Zss:Str.ofString "m"=⟨#[109]⟩:=by decide
theorem Zst:Str.ofString "d"=⟨#[100]⟩:=by decide
theorem Zsu:Zb2 ⟨#[121]⟩=.int 360:=by decide
theorem Zp1:Zb2 ⟨#[109]⟩=.int 30:=by decide
theorem Zp2:Zb2 ⟨#[100]⟩=.int 1:=by decide
theorem Zkg(d:Nat):∃n c u,Zae d=num n++⟨#[c]⟩/\n<=d/\Zb2 ⟨#[c]⟩=.int ((u:Nat):Int)/\u<=360/\n*u=d:=by
 unfold Zae
 by_cases h1:d%360=0
 ·rw[if_pos h1,Ztr];exact⟨d/360,121,360,rfl,by omega,Zsu,by omega,by omega⟩
 ·rw[if_neg h1]
  by_cases h2:d%30=0
  ·rw[if_pos h2,Zss];exact⟨d/30,109,30,rfl,by omega,Zp1,by omega,by omega⟩
  ·rw[if_neg h2,Zst];exact⟨d,100,1,rfl,by omega,Zp2,by omega,by omega⟩
def dv(x:Str):Nat:=NumText.digitsVal (cs x)
def Ok(x:Str):Prop:=∀c∈x.cps.toList,c<16^8
abbrev Zkh(x:Str):Str:=Txt.slice x none (some (-1))
abbrev Zki(x:Str):V:=Zb2 (Txt.slice x (some (-1)) none)
def Zbv(x:Str):V:=match Zki x with
 | .int u=>if ZcS (Zkh x)=true then .int ((dv (Zkh x):Int)*u) else .non
 |_=> .non
def Zb3(C:Addr):Sp:=fun vs H Q E=>∃x:Str,vs=[.str x]/\x.length<=5000/\Ok x/\(Zbv x≠.non->∀H',ZJ H H'->Q (Zbv x) H')/\(Zbv x=.non->∀H',ZJ H H'->E (.ref C) none H')
theorem Zkj{x:Str}(h:x.cps.toList.all (inS YS)=true):NumText.AllDigits (cs x):=fun c hc=>(Zmd c).mp (List.all_eq_true.mp h c hc)
theorem Znj{x:Str}(h:x.cps.toList.all (inS YS)=true)(n:x.length≠0)(l:x.length<=4300):intText? x=some (dv x:Int):=
 intText_digits (x:=x) (Zkj h) (fun z=>n (by rw[Jg];show(cs x).length=0;rw[show cs x=[] from z];rfl)) l
theorem Zp3{x:Str}(h:ZcS x=true):x.cps.toList.all (inS YS)=true/\x.length≠0/\x.length<=40:=by
 unfold ZcS at h
 split at h
 ·cases h
 ·rename_i n
  split at h
  ·cases h
  ·exact⟨h,by omega,by omega⟩
theorem Zlq(x:Str):Zb2 x=.non\/∃u:Nat,Zb2 x=.int (u:Int)/\u<=360:=by
 unfold Zb2
 split
 ·exact .inr ⟨360,rfl,by decide⟩
 ·split
  ·exact .inr ⟨30,rfl,by decide⟩
  ·split
   ·exact .inr ⟨1,rfl,by decide⟩
   ·exact .inl rfl
theorem YG(x:Str):Str.empty++x=x:=ext (by rw[ZV];rfl)
theorem Zaf{x w:Str}(hx:x.length<=5000)(hok:Ok x)(hw:w.length<=100):(reprText x++w).length<=sizeLine:=by
 have l5:=Ys;have lr:=StrLaws.reprText_len x hok;rw[strLen_append];omega
def Yz(x:Str):Bool:=decide (1<=x.length)&&decide (x.length<=12)&&x.cps.toList.all (inS Za1)
def Zcz:Sp:=fun vs H Q _=>∃x:Str,vs=[.str x]/\x.length<=100000/\∀H',ZJ H H'->Q (.bl (Yz x)) H'
def Nm(z:Str):Prop:=1<=z.length/\z.length<=11/\∀c∈cs z,97<=c/\c<=122
inductive Tr where
 |never|after (k:Str) (d:Int)|later (x y:Tr)|earlier (x y:Tr)
def Tr.deep:Tr->Nat
 | .never=>0
 | .after _ _=>0
 | .later x y=>max x.deep y.deep+1
 | .earlier x y=>max x.deep y.deep+1
def Tr.cnt:Tr->Nat
 | .never=>1
 | .after _ _=>1
 | .later x y=>x.cnt+y.cnt
 | .earlier x y=>x.cnt+y.cnt
def ZtW:Option Int->Option Int->Option Int
 |some a,some b=>some (if b>a then b else a)
 |_,_=>none
def fA(k:Str)(d:Int):List (Str×V):=Zc3 "days" (.int d) (Zc3 "kind" (.str k) [])
def fP(p q:Addr):List (Str×V):=Zc3 "other" (.ref q) (Zc3 "one" (.ref p) [])
def YB(cn ca cl ce:Addr)(H:Hp):Tr->Addr->Prop
 | .never,a=>∃dx,H a=some (.ins cn dx [])
 | .after k d,a=>∃dx,H a=some (.ins ca dx (fA k d))
 | .later x y,a=>∃dx p q,H a=some (.ins cl dx (fP p q))/\YB cn ca cl ce H x p/\YB cn ca cl ce H y q
 | .earlier x y,a=>∃dx p q,H a=some (.ins ce dx (fP p q))/\YB cn ca cl ce H x p/\YB cn ca cl ce H y q
def Zii(cn ca cl ce:Addr):Tr->Addr
 | .never=>cn
 | .after _ _=>ca
 | .later _ _=>cl
 | .earlier _ _=>ce
def ZbI(C:Addr):Sp:=fun vs H Q _=>∃(x dx:Addr) (k:Str) (d:Int),vs=[.ref x,.str k,.int d]/\H x=some (.ins C dx [])/\Q .non (upd H x (.ins C dx (fA k d)))
def JK(C:Addr):Sp:=fun vs H Q _=>∃(x dx p q:Addr),vs=[.ref x,.ref p,.ref q]/\H x=some (.ins C dx [])/\Q .non (upd H x (.ins C dx (fP p q)))
def ZgT(cn ca cl ce:Addr):Sp:=fun vs H Q _=>vs=[]/\∀a H',ZJ H H'->H a=none->YB cn ca cl ce H' .never a->Q (.ref a) H'
def ZgU(cn ca cl ce:Addr):Sp:=fun vs H Q _=>∃(k:Str) (d:Int),vs=[.str k,.int d]/\∀a H',ZJ H H'->H a=none->YB cn ca cl ce H' (.after k d) a->Q (.ref a) H'
def ZgV(cn ca cl ce:Addr):Sp:=fun vs H Q _=>∃(p q:Addr) (x y:Tr),vs=[.ref p,.ref q]/\YB cn ca cl ce H x p/\YB cn ca cl ce H y q/\∀a H',ZJ H H'->H a=none->YB cn ca cl ce H' (.later x y) a->Q (.ref a) H'
def Zeq(cn ca cl ce:Addr):Sp:=fun vs H Q _=>∃(p q:Addr) (x y:Tr),vs=[.ref p,.ref q]/\YB cn ca cl ce H x p/\YB cn ca cl ce H y q/\∀a H',ZJ H H'->H a=none->YB cn ca cl ce H' (.earlier x y) a->Q (.ref a) H'
def Tr.good:Tr->Prop
 | .never=>True
 | .after k d=>Nm k/\0<=d/\d<10^40
 | .later x y=>x.good/\y.good
 | .earlier x y=>x.good/\y.good
def ZeS(d:Nat)(c:Int):Str:=if c%3=0/\d%30=0 then num (d/30)++Str.ofString "m" else if c%3=1 then num d++Str.ofString "d" else Zae d
def Tr.tC:Tr->Int->Str
 | .never,_=>Str.ofString "never"
 | .after k d,c=>Str.ofString "after "++k++Str.ofString " "++ZeS d.toNat c
 | .later x y,c=>Str.ofString "later"++Str.ofString " "++x.tC (c/2)++Str.ofString " "++y.tC (c/3)
 | .earlier x y,c=>Str.ofString "earlier"++Str.ofString " "++x.tC (c/2)++Str.ofString " "++y.tC (c/3)
def Tr.wC:Tr->Int->List Str
 | .never,_=>[Str.ofString "never"]
 | .after k d,c=>[Str.ofString "after",k,ZeS d.toNat c]
 | .later x y,c=>Str.ofString "later"::(x.wC (c/2)++y.wC (c/3))
 | .earlier x y,c=>Str.ofString "earlier"::(x.wC (c/2)++y.wC (c/3))
theorem Zkk{c:Nat}:∀{u v:List (List Nat)},u≠[]->v≠[]->J c (u++v)=J c u++c::J c v
 |[],_,h,_=>absurd rfl h
 |[p],[],_,h=>absurd rfl h
 |[p],q::r,_,_=>rfl
 |p::q::r,v,_,hv=>by
  show p++c::J c ((q::r)++v)=(p++c::J c (q::r))++c::J c v;rw[Zkk (by simp) hv];simp
theorem Tr.wC_ne(t:Tr)(c:Int):t.wC c≠[]:=by cases t<;>simp[Tr.wC]
theorem Zkl:cs (Str.ofString " ")=[32]:=by decide+kernel
theorem Zme(a:Str){x y:Str}{u v:List Str}(hu:u≠[])(hv:v≠[])(h1:cs x=J 32 (u.map cs))(h2:cs y=J 32 (v.map cs)):cs (a++Str.ofString " "++x++Str.ofString " "++y)=J 32 ((a::(u++v)).map cs):=by
 rw[ZV,ZV,ZV,ZV,Zkl,h1,h2,List.map_cons,List.map_append];have e:([cs a]++(u.map cs++v.map cs))=cs a::(u.map cs++v.map cs):=rfl;rw[<-e,Zkk (by simp) (by simp[hu]),Zkk (by simpa using hu) (by simpa using hv)];show cs a++[32]++_++[32]++_=cs a++32::_;simp
theorem Zij:∀(t:Tr) (c:Int),cs (t.tC c)=J 32 ((t.wC c).map cs)
 | .never,c=>rfl
 | .after k d,c=>by
  show cs (Str.ofString "after "++k++Str.ofString " "++ZeS d.toNat c)=cs (Str.ofString "after")++32::(cs k++32::cs (ZeS d.toNat c));rw[ZV,ZV,ZV,Zkl,show cs (Str.ofString "after ")=cs (Str.ofString "after")++[32] by decide+kernel];simp
 | .later x y,c=>Zme _ (x.wC_ne _) (y.wC_ne _) (Zij x _) (Zij y _)
 | .earlier x y,c=>Zme _ (x.wC_ne _) (y.wC_ne _) (Zij x _) (Zij y _)
theorem ZgW(d:Nat)(c:Int):∃n ch u,ZeS d c=num n++⟨#[ch]⟩/\n<=d/\Zb2 ⟨#[ch]⟩=.int ((u:Nat):Int)/\u<=360/\n*u=d:=by
 unfold ZeS
 by_cases h1:c%3=0/\d%30=0
 ·rw[if_pos h1,Zss];exact⟨d/30,109,30,rfl,by omega,Zp1,by omega,by omega⟩
 ·rw[if_neg h1]
  by_cases h2:c%3=1
  ·rw[if_pos h2,Zst];exact⟨d,100,1,rfl,by omega,Zp2,by omega,by omega⟩
  ·rw[if_neg h2];exact Zkg d
def Zmf(z:Str)(d:Int):Prop:=∃n c u:Nat,z=num n++⟨#[c]⟩/\n<10^40/\Zb2 ⟨#[c]⟩=.int (u:Int)/\u<=360/\d=((n*u:Nat):Int)
def Zjf:Tr->List Str->Prop
 | .never,ws=>ws=[Str.ofString "never"]
 | .after k d,ws=>∃z,ws=[Str.ofString "after",k,z]/\Nm k/\Zmf z d
 | .later x y,ws=>∃u v,ws=Str.ofString "later"::(u++v)/\Zjf x u/\Zjf y v
 | .earlier x y,ws=>∃u v,ws=Str.ofString "earlier"::(u++v)/\Zjf x u/\Zjf y v
def Jq(cn ca cl ce:Addr)(n:Nat)(C:Addr):Sp:=fun vs H Q _=>∃(a:Addr) (t:Tr),vs=[.ref a]/\YB cn ca cl ce H t a/\t.deep<n/\t.cnt<=100/\t.good/\Zii cn ca cl ce t=C/\∀H',ZJ H H'->Q (.str (t.tC (-1))) H'
theorem ZcA{cn ca cl ce C:Addr}:∀vs H Q E,¬Jq cn ca cl ce 0 C vs H Q E:=fun _ _ _ _ ⟨_,t,_,_,z,_⟩=>Nat.not_lt_zero t.deep z
theorem ZqK{d:Int}(h0:0<=d)(h1:d<10^40)(c:Int):Zmf (ZeS d.toNat c) d:=by
 obtain⟨n,ch,u,e1,e2,e3,e4,e5⟩:=ZgW d.toNat c;rw[ZeR] at h1
 generalize hB:(10^40:Nat)=B at h1
 exact⟨n,ch,u,e1,by omega,e3,e4,by omega⟩
theorem Zbp:∀(t:Tr) (c:Int),t.good->Zjf t (t.wC c)
 | .never,c,_=>rfl
 | .after k d,c,⟨hk,h0,h1⟩=>⟨_,rfl,hk,ZqK h0 h1 c⟩
 | .later x y,c,⟨h1,h2⟩=>⟨_,_,rfl,Zbp x _ h1,Zbp y _ h2⟩
 | .earlier x y,c,⟨h1,h2⟩=>⟨_,_,rfl,Zbp x _ h1,Zbp y _ h2⟩
theorem Zdk:∀{t:Tr} {ws:List Str},Zjf t ws->0<ws.length/\ws.length+1<=4*t.cnt
 | .never,ws,h=>by rw[show ws=_ from h];exact⟨Nat.zero_lt_one,by decide⟩
 | .after k d,ws,⟨z,e,hk,hz⟩=>by rw[e];exact⟨by show 0<3;decide,by show 4<=4*1;decide⟩
 | .later x y,ws,⟨u,v,e,h1,h2⟩=>by
  have a:=Zdk h1;have b:=Zdk h2;rw[e,List.length_cons,List.length_append];show _/\_<=4*(x.cnt+y.cnt);omega
 | .earlier x y,ws,⟨u,v,e,h1,h2⟩=>by
  have a:=Zdk h1;have b:=Zdk h2;rw[e,List.length_cons,List.length_append];show _/\_<=4*(x.cnt+y.cnt);omega
theorem ZgX{d:Nat}(h:d<10^40)(c:Int):(ZeS d c).length<=41:=by
 obtain⟨n,ch,u,e1,e2,_⟩:=ZgW d c;rw[e1,ZeQ];have:=Zgd (k:=40) (by decide) (Nat.lt_of_le_of_lt e2 h);omega
theorem ZgY{d:Int}(h0:0<=d)(h1:d<10^40):d.toNat<10^40:=by
 rw[ZeR] at h1
 generalize hB:(10^40:Nat)=B at*
 omega
theorem Za2:∀(t:Tr) (c:Int),t.good->(t.tC c).length+20<=80*t.cnt
 | .never,c,_=>by show(Str.ofString "never").length+20<=80;decide+kernel
 | .after k d,c,⟨hk,h0,h1⟩=>by
  have l:=ZgX (ZgY h0 h1) c;have a:=hk.2.1;show(Str.ofString "after "++k++Str.ofString " "++ZeS d.toNat c).length+20<=80;rw[strLen_append,strLen_append,strLen_append,show(Str.ofString "after ").length=6 by decide+kernel,show(Str.ofString " ").length=1 by decide+kernel];omega
 | .later x y,c,⟨h1,h2⟩=>by
  have a:=Za2 x (c/2) h1;have b:=Za2 y (c/3) h2;show(Str.ofString "later"++Str.ofString " "++x.tC (c/2)++Str.ofString " "++y.tC (c/3)).length+20<=80*(x.cnt+y.cnt);rw[strLen_append,strLen_append,strLen_append,strLen_append,show(Str.ofString "later").length=5 by decide+kernel,show(Str.ofString " ").length=1 by decide+kernel];omega
 | .earlier x y,c,⟨h1,h2⟩=>by
  have a:=Za2 x (c/2) h1;have b:=Za2 y (c/3) h2;show(Str.ofString "earlier"++Str.ofString " "++x.tC (c/2)++Str.ofString " "++y.tC (c/3)).length+20<=80*(x.cnt+y.cnt);rw[strLen_append,strLen_append,strLen_append,strLen_append,show(Str.ofString "earlier").length=7 by decide+kernel,show(Str.ofString " ").length=1 by decide+kernel];omega
def Wd(x:Str):Prop:=x.length<=60/\32∉cs x/\Ok x
def pt:Nat->List Str->Option (Tr×List Str)
 |0,_=>none
 |_+1,[]=>none
 |n+1,w::r=>
  if w=Str.ofString "never" then some (.never,r)
  else if w=Str.ofString "after" then(match r with
   |k::l::q=>(match Yz k,Zbv l with
    |true,.int d=>some (.after k d,q)
    |_,_=>none)
   |_=>none)
  else if w=Str.ofString "later" then(pt n r).bind fun x=>(pt n x.2).bind fun y=>some (.later x.1 y.1,y.2)
  else if w=Str.ofString "earlier" then(pt n r).bind fun x=>(pt n x.2).bind fun y=>some (.earlier x.1 y.1,y.2)
  else none
def Jr(ws:List Str):Option Tr:=if 61<ws.length then none else match pt 64 ws with
 |some (t,[])=>some t
 |_=>none
def Js(C:Addr):Sp:=fun vs H Q E=>∃(R:Addr) (ws:List Str),vs=[.ref R]/\H R=some (.lst (ws.reverse.map V.str))/\(ws=[]->E (.ref C) none H)/\∀w r,ws=w::r->Q (.str w) (upd H R (.lst (r.reverse.map V.str)))
def ZbJ(C:Addr):Sp:=fun vs H Q E=>∃(R:Addr) (ws:List Str),vs=[.ref R]/\H R=some (.lst (ws.reverse.map V.str))/\(∀w∈ws,Wd w)/\(∀w r,ws=w::r->Yz w=true->∀H',ZJ (upd H R (.lst (r.reverse.map V.str))) H'->Q (.str w) H')/\((∀w r,ws=w::r->Yz w=false)->∀zs H',ZJ (upd H R (.lst zs)) H'->E (.ref C) none H')
def Zas(C:Addr):Sp:=fun vs H Q E=>∃(R:Addr) (ws:List Str),vs=[.ref R]/\H R=some (.lst (ws.reverse.map V.str))/\(∀w∈ws,Wd w)/\(∀w r d,ws=w::r->Zbv w=.int d->∀H',ZJ (upd H R (.lst (r.reverse.map V.str))) H'->Q (.int d) H')/\((∀w r,ws=w::r->Zbv w=.non)->∀zs H',ZJ (upd H R (.lst zs)) H'->E (.ref C) none H')
def Jt(cn ca cl ce C:Addr)(n:Nat):Sp:=fun vs H Q E=>∃(R:Addr) (ws:List Str),vs=[.ref R]/\H R=some (.lst (ws.reverse.map V.str))/\(∀w∈ws,Wd w)/\ws.length<n/\(∀t r,pt n ws=some (t,r)->∀p H',ZJ (upd H R (.lst (r.reverse.map V.str))) H'->YB cn ca cl ce H' t p->Q (.ref p) H')/\(pt n ws=none->∀zs H',ZJ (upd H R (.lst zs)) H'->E (.ref C) none H')
def ZcB(cn ca cl ce C:Addr):Sp:=fun vs H Q E=>∃x:Str,vs=[.str x]/\(∀w∈Txt.split x ⟨#[32]⟩,Wd w)/\x.length<=50000/\(Txt.split x ⟨#[32]⟩).length<=1000/\(∀t,Jr (Txt.split x ⟨#[32]⟩)=some t->∀p H',ZJ H H'->YB cn ca cl ce H' t p->Q (.ref p) H')/\(Jr (Txt.split x ⟨#[32]⟩)=none->∀H',ZJ H H'->E (.ref C) none H')
theorem Zg1{cn ca cl ce C:Addr}:∀vs H Q E,¬Jt cn ca cl ce C 0 vs H Q E:=fun _ _ _ _ ⟨_,ws,_,_,_,z,_⟩=>Nat.not_lt_zero ws.length z
theorem Zp4{x:Str}(h:Zbv x≠.non):∃d,Zbv x=.int d:=by
 unfold Zbv at h⊢
 split at h
 ·split at h
  ·rename_i u e f
   rw[if_pos f];exact⟨_,rfl⟩
  ·exact absurd rfl h
 ·exact absurd rfl h
theorem Zmg:Str.ofString " "=⟨#[32]⟩:=by decide
def Yq:Tr->List Tb
 | .never=>[]
 | .after k d=>[[(k,d)]]
 | .later a b=>M4.Zfi (M4.Xe M4.ZaD ((Yq a).flatMap fun x=>(Yq b).map fun y=>M4.Xk (M4.Xm x y)))
 | .earlier a b=>M4.Zfi (M4.Xe M4.ZaD (Yq a++Yq b))
theorem ZeT{cs:List Tb}{c:Tb}(h:c∈M4.Zfi cs):c∈cs:=by
 obtain⟨r,e,s⟩:=M4.Zca cs [];have:c∈r:=by
  unfold M4.Zfi at h
  rw[e] at h
  simpa using h
 exact s.subset this
theorem Zkm(cs:List Tb):(M4.Zfi cs).length<=cs.length:=by
 obtain⟨r,e,s⟩:=M4.Zca cs [];unfold M4.Zfi;rw[e,List.nil_append];exact s.length_le
theorem Zcb{cs:List Tb}{c:Tb}:c∈M4.Xe M4.ZaD cs↔c∈cs:=(M4.JZ cs).mem_iff
theorem ZdV(cs:List Tb):(M4.Xe M4.ZaD cs).length=cs.length:=(M4.JZ cs).length_eq
theorem ZgZ{as bs:List Tb}{c:Tb}(h:c∈as.flatMap fun x=>bs.map fun y=>M4.Xk (M4.Xm x y)):∃x∈as,∃y∈bs,c=M4.Xk (M4.Xm x y):=by
 obtain⟨x,hx,h⟩:=List.mem_flatMap.mp h;obtain⟨y,hy,e⟩:=List.mem_map.mp h;exact⟨x,hx,y,hy,e.symm⟩
theorem Zag:∀(t:Tr),∀c∈Yq t,M4.Nf c/\c≠[]
 | .never,c,h=>nomatch h
 | .after k d,c,h=>by
  have e:c=[(k,d)]:=by simpa [Yq] using h
  subst e;exact⟨⟨List.nodup_cons.mpr ⟨(fun z=>nomatch z),List.nodup_nil⟩,List.pairwise_singleton _ _⟩,by simp⟩
 | .later a b,c,h=>by
  obtain⟨x,hx,y,hy,rfl⟩:=ZgZ (Zcb.mp (ZeT h));have nx:=Zag a x hx;have ny:=Zag b y hy;refine⟨M4.Zqy (M4.ZdT nx.1.nd),fun z=>M4.Zqx nx.2 ny.1.nd nx.1.nd ?_⟩;have:=M4.ZaX (M4.Xm x y);rw[z] at this
  exact List.eq_nil_of_length_eq_zero this.symm
 | .earlier a b,c,h=>by
  rcases List.mem_append.mp (Zcb.mp (ZeT h)) with z|z
  ·exact Zag a c z
  ·exact Zag b c z
theorem Zkn(as bs:List Tb):(as.flatMap fun x=>bs.map fun y=>M4.Xk (M4.Xm x y)).length=as.length*bs.length:=by
 induction as with
 |nil=>simp
 |cons a as ih=>rw[List.flatMap_cons,List.length_append,ih,List.length_map,List.length_cons,Nat.succ_mul,Nat.add_comm]
theorem Zlr{a b:Tb}(ha:M4.Nd a)(hb:M4.Nd b){p:Str×Int}(h:p∈M4.Xm a b):p.1∈a.map (·.1)\/p.1∈b.map (·.1):=by
 have e:=(M4.Zdd (M4.ZdT (b:=b) ha) (k:=p.1) (d:=p.2)).mpr h;rw[M4.Zgj hb] at e
 by_cases q:p.1∈b.map (·.1)
 ·exact .inr q
 ·rw[M4.Zj2 q] at e
  exact .inl (List.mem_map.mpr ⟨p,(M4.Zdd ha).mp e,rfl⟩)
theorem Zik{a b:Tb}(ha:M4.Nd a)(hb:M4.Nd b):(M4.Xm a b).length<=a.length+b.length:=by
 have:=(M4.Zm6 (a:=(M4.Xm a b).map (·.1)) (b:=a.map (·.1)++b.map (·.1)) (M4.ZdT ha) fun k hk=>by
  obtain⟨p,hp,rfl⟩:=List.mem_map.mp hk;exact List.mem_append.mpr (Zlr ha hb hp)).1
 simpa using this
theorem Jh:∀t:Tr,∀c∈Yq t,c.length<=t.cnt
 | .never,c,h=>nomatch h
 | .after k d,c,h=>by
  have e:c=[(k,d)]:=by simpa [Yq] using h
  subst e;exact Nat.le_refl _
 | .later a b,c,h=>by
  obtain⟨x,hx,y,hy,rfl⟩:=ZgZ (Zcb.mp (ZeT h));rw[M4.ZaX];exact Nat.le_trans (Zik (Zag a x hx).1.nd (Zag b y hy).1.nd) (Nat.add_le_add (Jh a x hx) (Jh b y hy))
 | .earlier a b,c,h=>by
  rcases List.mem_append.mp (Zcb.mp (ZeT h)) with z|z
  ·exact Nat.le_trans (Jh a c z) (Nat.le_add_right _ _)
  ·exact Nat.le_trans (Jh b c z) (Nat.le_add_left _ _)
def Tr.wd:Tr->Nat
 | .never=>1
 | .after _ _=>1
 | .later x y=>x.wd*y.wd
 | .earlier x y=>x.wd+y.wd
theorem Zh0:∀t:Tr,0<t.wd
 | .never=>Nat.one_pos
 | .after _ _=>Nat.one_pos
 | .later x y=>Nat.mul_pos (Zh0 x) (Zh0 y)
 | .earlier x y=>Nat.add_pos_left (Zh0 x) _
theorem Ju:∀t:Tr,(Yq t).length<=t.wd
 | .never=>Nat.zero_le _
 | .after _ _=>Nat.le_refl 1
 | .later x y=>by
  have l:=Zkm (M4.Xe M4.ZaD ((Yq x).flatMap fun x=>(Yq y).map fun y=>M4.Xk (M4.Xm x y)));rw[ZdV,Zkn] at l
  exact Nat.le_trans l (Nat.mul_le_mul (Ju x) (Ju y))
 | .earlier x y=>by
  have l:=Zkm (M4.Xe M4.ZaD (Yq x++Yq y));rw[ZdV,List.length_append] at l
  exact Nat.le_trans l (Nat.add_le_add (Ju x) (Ju y))
def ZfR(n:Nat):Nat:=[0,1,2,3,4,6,9,12,18,27,36,54,81].getD n 1000
theorem Zh1:∀a,a<13->∀b,b<13->a+b<13->ZfR a*ZfR b<=ZfR (a+b)/\ZfR a+ZfR b<=ZfR (a+b):=by decide+kernel
theorem Zh2:∀n,n<6->ZfR n<=6:=by decide
theorem Zer:∀t:Tr,t.cnt<=12->t.wd<=ZfR t.cnt
 | .never,_=>Nat.le_refl 1
 | .after _ _,_=>Nat.le_refl 1
 | .later x y,h=>by
  have h:x.cnt+y.cnt<=12:=h;exact Nat.le_trans (Nat.mul_le_mul (Zer x (by omega)) (Zer y (by omega))) (Zh1 x.cnt (by omega) y.cnt (by omega) (by omega)).1
 | .earlier x y,h=>by
  have h:x.cnt+y.cnt<=12:=h;exact Nat.le_trans (Nat.add_le_add (Zer x (by omega)) (Zer y (by omega))) (Zh1 x.cnt (by omega) y.cnt (by omega) (by omega)).2
def okT(t:Tr):Prop:=t.wd<=60/\t.cnt<=31
theorem Zsv{t:Tr}(h:t.cnt<=5):okT t:=⟨by have:=Zer t (by omega);have:=Zh2 t.cnt (by omega);omega,by omega⟩
theorem Znk{x y:Tr}(h:okT (.later x y)):okT x/\okT y:=by
 obtain⟨a,b⟩:=h;have a:x.wd*y.wd<=60:=a;have b:x.cnt+y.cnt<=31:=b;have px:=Zh0 x;have py:=Zh0 y;exact⟨⟨Nat.le_trans (Nat.le_mul_of_pos_right _ py) a,by omega⟩,Nat.le_trans (Nat.le_mul_of_pos_left _ px) a,by omega⟩
theorem Zko{x y:Tr}(h:okT (.earlier x y)):okT x/\okT y:=by
 obtain⟨a,b⟩:=h;have a:x.wd+y.wd<=60:=a;have b:x.cnt+y.cnt<=31:=b;exact⟨⟨by omega,by omega⟩,by omega,by omega⟩
theorem Zkp{x y:Tr}(h:okT (.later x y)):okT x/\okT y/\(Yq x).length*(Yq y).length<=60/\(Yq x).length<=60/\(Yq y).length<=60/\(∀w∈Yq x,w.length<=31)/\(∀w∈Yq y,w.length<=31):=by
 obtain⟨a,b⟩:=Znk h;have lx:=Ju x;have ly:=Ju y;have a1:=a.1;have a2:=a.2;have b1:=b.1;have b2:=b.2;exact⟨a,b,Nat.le_trans (Nat.mul_le_mul lx ly) h.1,by omega,by omega,fun w hw=>by have:=Jh x w hw;omega,fun w hw=>by have:=Jh y w hw;omega⟩
theorem ZhA{x y:Tr}(h:okT (.earlier x y)):okT x/\okT y/\(Yq x).length+(Yq y).length<=60/\(∀w∈Yq x,w.length<=31)/\(∀w∈Yq y,w.length<=31):=by
 obtain⟨a,b⟩:=Zko h;have lx:=Ju x;have ly:=Ju y;have a2:=a.2;have b2:=b.2;have hw:x.wd+y.wd<=60:=h.1;exact⟨a,b,by omega,fun w hw=>by have:=Jh x w hw;omega,fun w hw=>by have:=Jh y w hw;omega⟩
def Ji:Tr->Bool
 | .never=>true
 | .after _ _=>true
 | .later x y=>Ji x&&Ji y&&decide ((Yq (.later x y)).length<=40)
 | .earlier x y=>Ji x&&Ji y&&decide ((Yq (.earlier x y)).length<=40)
def YJ(H:Hp)(as:List Addr)(ws:List Tb):Prop:=Paired (fun a w=>∃c:Tb,H a=some (.dK (kk c))/\M4.Nd c/\M4.Xk c=w) as ws
def Zdl:Sp:=fun vs H Q _=>∃(a b:Addr) (c l:Tb),vs=[.ref a,.ref b]/\H a=some (.dK (kk c))/\Rd H b (.dK (kk l))/\c.length<=1000/\∀H',ZJ H H'->Q (.bl (ZaR c l)) H'
def Zbq(K:PySem.W.Frag):Sp:=fun vs H Q _=>∃(a:Addr) (c:Tb),vs=[.ref a]/\H a=some (.dK (kk c))/\c.length<64/\∀t H',ZJ H H'->Rep K H' (kyD ((c.length:Int),M4.Xk c)) (.ref t)->Q (.ref t) H'
def Zfq:Sp:=fun vs H Q _=>∃(a b:Addr) (c l:Tb),vs=[.ref a,.ref b]/\Rd H a (.dK (kk c))/\H b=some (.dK (kk l))/\c.length<=1000/\l.length<=1000/\∀p H',H p=none->ZJ H H'->H' p=some (.dK (kk (M4.Xm c l)))->Q (.ref p) H'
def ZbK:Sp:=fun vs H Q _=>∃(p q:Addr) (as bs:List Addr) (ws us:List Tb),vs=[.ref p,.ref q]/\H p=some (.lst (as.map V.ref))/\H q=some (.lst (bs.map V.ref))/\YJ H as ws/\YJ H bs us/\as.length*bs.length<=1000/\bs.length<=1000/\(∀w∈ws,w.length<=500)/\(∀w∈us,w.length<=500)/\
 ∀r ds H',H r=none->ZJ H H'->H' r=some (.lst (ds.map V.ref))->YJ H' ds (ws.flatMap fun x=>us.map fun y=>M4.Xk (M4.Xm x y))->(∀d∈ds,H d=none)->Q (.ref r) H'
def Zes(C:Addr):Sp:=fun vs H Q E=>∃(p:Addr) (as:List Addr) (ws:List Tb),vs=[.ref p]/\H p=some (.lst (as.map V.ref))/\YJ H as ws/\ws.length<64/\(∀w∈ws,w.length<64)/\
 ((M4.Zfi (M4.Xe M4.ZaD ws)).length<=40->∀r ds H',H r=none->ZJ H H'->H' r=some (.lst (ds.map V.ref))->YJ H' ds (M4.Zfi (M4.Xe M4.ZaD ws))->(∀d∈ds,d∈as)->Q (.ref r) H')/\(40<(M4.Zfi (M4.Xe M4.ZaD ws)).length->∀H',ZJ H H'->E (.ref C) none H')
def Zdm(cn ca cl ce C:Addr)(n:Nat):Sp:=fun vs H Q E=>∃(a:Addr) (t:Tr),vs=[.ref a]/\YB cn ca cl ce H t a/\t.deep<n/\okT t/\
 (Ji t=true->∀r ds H',H r=none->ZJ H H'->H' r=some (.lst (ds.map V.ref))->YJ H' ds (Yq t)->(∀d∈ds,H d=none)->Q (.ref r) H')/\(Ji t=false->∀H',ZJ H H'->E (.ref C) none H')
theorem Zls{cn ca cl ce C:Addr}:∀vs H Q E,¬Zdm cn ca cl ce C 0 vs H Q E:=fun _ _ _ _ ⟨_,t,_,_,z,_⟩=>Nat.not_lt_zero t.deep z
structure Sr where
 nm:Str
 el:Option Str
 tm:Option Tr
def oS:Option Str->V
 |some z=> .str z
 |none=> .non
def Zp5(t:Tr):Prop:=(t.wC (-1)).length<=61/\Ji t=true/\okT t
structure Sr.good (r:Sr):Prop where
 nm:Nm r.nm
 el:∀e,r.el=some e->Nm e
 tm:∀t,r.tm=some t->t.good/\t.cnt<=31/\Zp5 t
 some:r.el=none->r.tm≠none
def Xn:List Str->List Sr->Prop
 |_,[]=>True
 |ns,r::rs=>r.good/\r.nm∉ns/\(∀e,r.el=some e->e∈ns)/\Xn (ns++[r.nm]) rs
def ZtX(cn ca cl ce:Addr)(H:Hp):Option Tr->V->Prop
 |some t,v=>∃a,v=.ref a/\YB cn ca cl ce H t a
 |none,v=>v=.non
def Zdn(cn ca cl ce:Addr)(H:Hp)(d:Addr)(r:Sr):Prop:=∃v,H d=some (.tup [.str r.nm,oS r.el,v])/\ZtX cn ca cl ce H r.tm v
def Zts(cn ca cl ce:Addr)(H:Hp)(p:Addr)(rs:List Sr):Prop:=∃ds:List Addr,H p=some (.lst (ds.map V.ref))/\Paired (Zdn cn ca cl ce H) ds rs
def oT:Option Tr->V
 |some t=> .str (t.tC (-1))
 |none=> .non
def elW:Option Str->List Str
 |some e=>[Str.ofString "under",e]
 |none=>[]
def tmW:Option Tr->List Str
 |some t=>t.wC (-1)
 |none=>[]
def Sr.wds(r:Sr):List Str:=Str.ofString "series"::r.nm::(elW r.el++tmW r.tm)
def Ze6(r:Sr):Str:=match r.el with
 |some e=>Str.ofString "series "++r.nm++Str.ofString " under "++e
 |none=>Str.ofString "series "++r.nm
def Sr.txt(r:Sr):Str:=match r.tm with
 |some t=>Ze6 r++Str.ofString " "++t.tC (-1)
 |none=>Ze6 r
def nks(ns:List Str):List (Key×V):=ns.map fun z=>(Sum.inr z,V.bl true)
def Xj(rs:List Sr):Str:=Txt.join (Str.ofString "\n") (rs.map Sr.txt)
def Xz(ws:List Str):Option Tr:=match Jr ws with
 |some t=>if Ji t=true then some t else none
 |none=>none
def ZcC(ns:List Str):List Str->Option Sr
 |s::nm::w::q=>
  if s=Str.ofString "series"/\Yz nm=true/\nm∉ns then
   if w=Str.ofString "under" then(match q with
    |[]=>none
    |e::r=>if e∈ns then(if r=[] then some ⟨nm,some e,none⟩ else(Xz r).map fun t=>⟨nm,some e,some t⟩) else none)
   else(Xz (w::q)).map fun t=>⟨nm,none,some t⟩
  else none
 |_=>none
abbrev Xo(x:Str):List Str:=Txt.split x ⟨#[32]⟩
abbrev YX(x:Str):List Str:=Txt.split x ⟨#[10]⟩
def ZeU:List Str->List Str
 |_::_::w::q=>if w=Str.ofString "under" then q.drop 1 else w::q
 |_=>[]
structure Zil (x:Str):Prop where
 len:x.length<=20000
 wds:∀w∈Xo x,Wd w
 many:(Xo x).length<=500
 fits:∀t,Jr (ZeU (Xo x))=some t->okT t
def Bad(C:Addr)(n:Int)(E:XK)(H:Hp):Prop:=∀d H',H d=none->ZJ H H'->H' d=some (XD d (Str.ofString "row") (.int n))->E (.ref C) (some d) H'
def Zh3:List Str->List Str->List Sr->Prop
 |_,[],rs=>rs=[]
 |ns,x::xs,rs=>∃r q,rs=r::q/\ZcC ns (Xo x)=some r/\Zh3 (ns++[r.nm]) xs q
def Xp(C:Addr):Sp:=fun vs H Q _=>∃(e:Addr) (n:Int),vs=[.ref e,.int n]/\H e=some (XN e C none)/\0<=n/\n<=1000/\∀d,H d=none->d≠e->Q .non (upd (upd H d (XD d (Str.ofString "row") (.int n))) e (XN e C (some d)))
def Zb4(cn ca cl ce C:Addr):Sp:=fun vs H Q E=>∃(p:Addr) (ws:List Str) (n:Int),vs=[.ref p,.int n]/\H p=some (.lst (ws.map V.str))/\ws≠[]/\(∀w∈ws,Wd w)/\ws.length<=500/\(∀t,Jr ws=some t->okT t)/\0<=n/\n<=1000/\(∀t,Xz ws=some t->∀a H',ZJ H H'->YB cn ca cl ce H' t a->Q (.ref a) H')/\(Xz ws=none->Bad C n E H)
def Zb5(cn ca cl ce C:Addr):Sp:=fun vs H Q E=>∃(x:Str) (n:Int) (a:Addr) (ns:List Str),vs=[.str x,.int n,.ref a]/\H a=some (.dK (nks ns))/\Zil x/\0<=n/\n<=1000/\
 (∀r,ZcC ns (Xo x)=some r->∀d H',H d=none->ZJ H H'->Zdn cn ca cl ce H' d r->Q (.ref d) H')/\(ZcC ns (Xo x)=none->Bad C n E H)
def ZaE(cn ca cl ce C:Addr):Sp:=fun vs H Q E=>∃(x:Str) (rs:List Sr),vs=[.str x]/\x.length<=99000/\rs.length<=30/\(x=Str.ofString ""->rs=[])/\(x≠Str.ofString ""->(∀i y,(YX x)[i]? =some y->i<=rs.length->Zil y)/\Zh3 [] ((YX x).take rs.length) rs/\rs.length<=(YX x).length/\
  ∀y,(YX x)[rs.length]? =some y->ZcC (rs.map Sr.nm) (Xo y)=none/\Bad C (rs.length+1) E H)/\
 ((x=Str.ofString ""\/rs.length=(YX x).length)->∀p H',H p=none->ZJ H H'->Zts cn ca cl ce H' p rs->Q (.ref p) H')
def Zat(cn ca cl ce:Addr):Sp:=fun vs H Q _=>∃(d:Addr) (r:Sr),vs=[.ref d]/\Zdn cn ca cl ce H d r/\r.good/\∀H',ZJ H H'->Q (.str r.txt) H'
def ZbL(cn ca cl ce:Addr):Sp:=fun vs H Q _=>∃(p:Addr) (rs:List Sr),vs=[.ref p]/\Zts cn ca cl ce H p rs/\(∀r∈rs,r.good)/\rs.length<=30/\∀H',ZJ H H'->Q (.str (Xj rs)) H'
def ZeV(H:Hp)(d:Addr)(r:Sr):Prop:=H d=some (.tup [.str r.nm,oS r.el,oT r.tm])
def JL:Sp:=fun vs H Q _=>∃n k:Int,vs=[.int n,.int k]/\0<=k/\k<600/\∀(z:Str) H',Nm z->ZJ H H'->Q (.str z) H'
def ZbM:Sp:=fun vs H Q _=>∃n:Int,vs=[.int n]/\0<=n/\n<2147483647/\∀(d:Nat) H',d<10^40->ZJ H H'->Q (.str (ZeS d (-1))) H'
def Za3:Sp:=fun vs H Q _=>∃n c:Int,vs=[.int n,.int c]/\∀(t:Tr) H',t.good->t.cnt<=31/\Zp5 t->ZJ H H'->Q (.str (t.tC (-1))) H'
def Za4:Sp:=fun vs H Q _=>∃(p:Addr) (ns:List Int) (c:Int),vs=[.ref p,.int c]/\H p=some (.lst (ns.map V.int))/\ns.length<=30/\
 ∀q es (rs:List Sr) H',H q=none->ZJ H H'->H' q=some (.lst (es.map V.ref))->Paired (ZeV H') es rs->Xn [] rs->rs.length<=ns.length->Q (.ref q) H'
def Jz:Sp:=fun vs H Q _=>∃(d:Addr) (r:Sr),vs=[.ref d]/\ZeV H d r/\r.good/\∀H',ZJ H H'->Q (.str r.txt) H'
structure Zfr (y:Str):Prop where
 row:Zil y
 nl:10∉cs y
 len:y.length<=3000
def Yu(ks:List Str)(x:Str):Prop:=Zfr x/\∀ns:List Str,(∀z∈ns,Nm z)->(∀k∈ks,k∈ns)->ZcC ns (Xo x)=none
structure Zbr (rs:List Sr) (ys:List Str) (m:Int):Prop where
 ex:∃(j:Nat) (y:Str) (zs:List Str),m=(j:Int)+1/\j<=rs.length/\ys=(rs.take j).map Sr.txt++y::zs/\ZcC ((rs.take j).map Sr.nm) (Xo y)=none
 lines:∀y∈ys,Zfr y
 one:ys≠[Str.ofString ""]
 many:ys.length<=rs.length+2
def Zmh:Str:=Str.ofString "earlier earlier earlier earlier earlier earlier after a 0m after b 1m after c 2m after d 3m after e 4m after f 5m after g 6m"
def Zmi:Str:=Str.ofString "earlier earlier earlier earlier earlier earlier after h 0m after i 1m after j 2m after k 3m after l 4m after m 5m after n 6m"
def Zb6(K:PySem.W.Frag):Sp:=fun vs H Q _=>∃(a:Addr) (ns:List Int) (k:Nat),vs=[.ref a,.int (k:Int)]/\SqL K H a (ns.map V.int)/\∀(c:Int) H',ZJ H H'->Q (.int c) H'
def ZcD:Sp:=fun vs H Q _=>∃i:Int,vs=[.int i]/\∀H',ZJ H H'->Q (.bl true) H'
def Zdo:Sp:=fun vs H Q _=>∃b:Bool,vs=[.str (if b then Str.ofString "abcdefg" else Str.ofString "hijklmn")]/\∀H',ZJ H H'->Q (.str (if b then Zmh else Zmi)) H'
def JM:Sp:=fun vs H Q _=>∃(n:Int) (p:Addr) (ks:List Str),vs=[.int n,.ref p]/\H p=some (.lst (ks.map V.str))/\(∀k∈ks,Nm k)/\ks.length<=30/\∀x H',ZJ H H'->Yu ks x->Q (.str x) H'
def Zb7:Sp:=fun vs H Q _=>∃(p:Addr) (es:List Addr) (rs:List Sr) (n:Int),vs=[.ref p,.int n]/\H p=some (.lst (es.map V.ref))/\Paired (ZeV H) es rs/\Xn [] rs/\rs.length<=12/\0<=n/\
 ∀t q ys m H',ZJ H H'->H' t=some (.tup [.ref q,.int m])->H' q=some (.lst (ys.map V.str))->Zbr rs ys m->Q (.ref t) H'
def Zb8(C:Addr):Sp:=fun vs H Q _=>∃(x:Str) (rs:List Sr) (y:Str),vs=[.str x]/\x.length<=99000/\rs.length<=30/\x≠Str.ofString ""/\(∀i y,(YX x)[i]? =some y->i<=rs.length->Zil y)/\Zh3 [] ((YX x).take rs.length) rs/\rs.length<=(YX x).length/\(YX x)[rs.length]? =some y/\ZcC (rs.map Sr.nm) (Xo y)=none/\
 ∀e d H',ZJ H H'->H' e=some (XO e C (some d))->H' d=some (XD d (Str.ofString "row") (.int (rs.length+1)))->Q (.ref e) H'
def Zb9(C:Addr):Sp:=fun vs H Q _=>∃(e d:Addr) (n:Int),vs=[.ref e,.int n]/\H e=some (XO e C (some d))/\H d=some (XD d (Str.ofString "row") (.int n))/\∀H',ZJ H H'->Q (.bl true) H'
section
variable {P:Program} {w:World} {K:PySem.W.Frag} {mg:Str->Option Value} {base:Heap} {t_YEAR_DAYS:Tok} {t_MONTH_DAYS:Tok} {t_MOST_FIGURES:Tok} {t_MOST_LETTERS:Tok} {t_FIGURES:Tok} {t_LETTERS:Tok} {t_MOST_WORDS:Tok} {t_MOST_CLAUSES:Tok} {Zj:Addr} {Zg:Addr} {Zh:Addr} {Zb:Addr} {Zm:Addr} {ZL:Addr} {Zn:Addr} {Zo:Addr} {Zq:Addr} {Zi:Addr} {Zy:Addr} {Zv:Addr} {Zz:Addr} {ZD:Addr} {ZG:Addr} {ZM:Addr}
theorem ZhB:ZQ ["text","signs"] ["text","signs"] (ZF Zcp):=⟨rfl,rfl,rfl,by decide+kernel,rfl,by decide+kernel,by decide+kernel⟩
theorem ZhC{f:Addr}{fd:FuncData}(F:Fun K "is_made_of" "is_made_of" Zcp f fd)(T:Txt K mg t_YEAR_DAYS t_MONTH_DAYS t_MOST_FIGURES t_MOST_LETTERS t_FIGURES t_LETTERS t_MOST_WORDS t_MOST_CLAUSES Zj Zg Zh Zb Zm ZL Zn Zo Zq Zi Zy Zv Zz ZD ZG ZM):Yo P w K mg base CX0 1 f fd ["text","signs"] Za8:=by
 refine F.ok ZhB (fun vs H Q E h=> ?_) (fun cdv A outer s H vs Q E hr h=> ?_)
 ·obtain⟨x,y,rfl,_⟩:=h
  rfl
 ·obtain⟨x,y,rfl,hx,k⟩:=h;refine⟨_,(Zt (ZP (ZZ (ZgI rfl) (by rfl) T.z_all Zod (Za (Zci ["sign"] [("signs",1)] rfl (ZrT (pv 0)) (by rfl) (by exact⟨rfl,trivial⟩) (by rfl) (by exact⟨⟨rfl,rfl,rfl⟩,trivial⟩) (fun _ _ _ _=>(Yn (i:=0) (show(nmY ["sign"] [("signs",1)]).Nodup by decide+kernel) rfl (Or.inl rfl))) (fun _ _ _ _=>ZaC) (fun _ _ _ _=>(ZeD ZmK (pv 0) (pv 1) rfl))) Ze)))), ?_⟩;refine ZrU (Zq2 (ZrV (Zoc (f:=fun c=>V.bl (inS y c)) rfl (Nat.le_trans hx Ys) (fun v=>⟨rfl,trivial⟩) (fun c H2 Q2 q=>⟨_,rfl,_,rfl,_,_,rfl,rfl,q⟩) fun D hD=> ?_)))
  refine⟨D,x.cps.toList.map (inS y),rfl,SqL.of (by rw[Zc,List.map_map];rfl), ?_⟩
  have e:(x.cps.toList.map (inS y)).all id=x.cps.toList.all (inS y):=by rw[List.all_map];rfl
  rw[e];exact k _ (Zd hD)
theorem Zjg:ZQ ["text"] ["text"] (ZF Zdf):=⟨rfl,rfl,rfl,by decide+kernel,rfl,by decide+kernel,by decide+kernel⟩
theorem Zjh{f:Addr}{fd:FuncData}(F:Fun K "is_number" "is_number" Zdf f fd)(T:Txt K mg t_YEAR_DAYS t_MONTH_DAYS t_MOST_FIGURES t_MOST_LETTERS t_FIGURES t_LETTERS t_MOST_WORDS t_MOST_CLAUSES Zj Zg Zh Zb Zm ZL Zn Zo Zq Zi Zy Zv Zz ZD ZG ZM)(Jl:Cal P w K mg base CX0 1 "is_made_of" ["text","signs"] Za8):Yo P w K mg base CX0 2 f fd ["text"] Zcx:=by
 refine F.ok Zjg (fun vs H Q E h=> ?_) (fun cdv A outer s H vs Q E hr h=> ?_)
 ·obtain⟨x,rfl,_⟩:=h
  rfl
 ·obtain⟨x,rfl,hx,k⟩:=h;have hz:=Nat.le_trans hx Ys;refine⟨_,(Zf (Yi (PW.pt (ZfH (ZR XC (ZZ Yr (by rfl) T.z_len Xh (Za (pv 0) Ze)) Zx (ZX _)) (ZcY (ZR ZfI (ZZ Yr (by rfl) T.z_len Xh (Za (pv 0) Ze)) (Yk (v:=.int 40) rfl T.g_MOST_FIGURES ⟨_,rfl⟩) (ZX _))))) (Zt (ZP ZfG)) ZS) (Zf (Yi (PW.pt (ZiD (ZR XC (YT ZgD (pv 0) Zx (fun _ _=>rfl)) Zw (ZX _)) (Zg9 (ZR ZlN (pv 0) Zw (ZX _))))) (Zt (ZP ZfG)) ZS) (Zt (ZP (Yd Jl (hr.mono (by omega)) rfl Yp (Za (pv 0) (Za (Yk (v:=.str YS) rfl T.g_FIGURES ⟨_,rfl⟩) Ze))))))), ?_⟩
  refine⟨_,rfl,_,_,rfl,⟨hz,rfl⟩,rfl,_,rfl, ?_⟩;refine Xg (fun e=>JS ?_) (fun e=> ?_)
  ·have e:V.int (x.length:Int)=V.int 0:=of_decide_eq_true e;have e:x.length=0:=by injection e with e;omega
   exact Zfp (k H (ZJ.refl H)) (by unfold ZcS;rw[if_pos (.inl e)])
  ·have e:¬V.int (x.length:Int)=V.int 0:=fun z=>e (decide_eq_true z);have e:x.length≠0:=fun z=>e (by rw[z];rfl)
   refine⟨_,rfl,_,_,rfl,⟨hz,rfl⟩,_,_,rfl,rfl,_,rfl, ?_⟩;refine Xg (fun e2=> ?_) (fun e2=> ?_)
   ·have e2:(40:Int)<(x.length:Int):=of_decide_eq_true e2;exact Zfp (k H (ZJ.refl H)) (by unfold ZcS;rw[if_pos (.inr (by omega))])
   ·have e2:¬(40:Int)<(x.length:Int):=fun z=>e2 (decide_eq_true z);have hn:¬(x.length=0\/40<x.length):=by omega
    obtain⟨c,hc⟩:=Zdj (xs:=x.cps.toList) (i:=0) (by omega) (by rw[Array.length_toList];show(0:Int)<((x.length:Nat):Int);omega)
    have hh:(cs x).head? =some c:=Zp0 hc;refine⟨_,rfl,x,0,c,rfl,rfl,hz,hc,rfl,_,rfl, ?_⟩;have fin:¬((cs x).head? =some 48/\x≠⟨#[48]⟩)->ZcS x=x.cps.toList.all (inS YS):=fun z=>by
     unfold ZcS;rw[if_neg hn,if_neg z]
    refine Xg (fun e3=> ?_) (fun e3=> ?_)
    ·have e3:c=48:=(Zkf c).mp (of_decide_eq_true e3);refine⟨_,rfl,rfl,_,rfl, ?_⟩
     by_cases ex:x=⟨#[48]⟩
     ·refine ZfK (by rw[ex,<-Zsp]) ?_;refine⟨_,rfl,x,YS,rfl,hx,fun H' s'=> ?_⟩;exact Zfp (k H' s') (by rw[fin (fun z=>z.2 ex)])
     ·have ed:decide (V.str x=V.str (Str.ofString "0"))=false:=decide_eq_false (fun z=>ex ((V.str.inj z).trans Zsp));show if(!decide (V.str x=V.str (Str.ofString "0")))=true then _ else _;rw[ed];refine JS ?_;exact Zfp (k H (ZJ.refl H)) (by unfold ZcS;rw[if_neg hn,if_pos ⟨by rw[hh,e3],ex⟩])
    ·have e3:¬c=48:=fun z=>e3 (decide_eq_true ((Zkf c).mpr z));refine Zal ?_;refine⟨_,rfl,x,YS,rfl,hx,fun H' s'=> ?_⟩;exact Zfp (k H' s') (by rw[fin (fun z=>e3 (by have:=z.1;rw[hh] at this;exact Option.some.inj this))])
theorem ZeW:ZQ ["letter"] ["letter"] (ZF Za0):=⟨rfl,rfl,rfl,by decide+kernel,rfl,by decide+kernel,by decide+kernel⟩
theorem ZeX{f:Addr}{fd:FuncData}(F:Fun K "days_of_letter" "days_of_letter" Za0 f fd)(T:Txt K mg t_YEAR_DAYS t_MONTH_DAYS t_MOST_FIGURES t_MOST_LETTERS t_FIGURES t_LETTERS t_MOST_WORDS t_MOST_CLAUSES Zj Zg Zh Zb Zm ZL Zn Zo Zq Zi Zy Zv Zz ZD ZG ZM):Yo P w K mg base CX0 1 f fd ["letter"] JH:=by
 refine F.ok ZeW (fun vs H Q E h=> ?_) (fun cdv A outer s H vs Q E hr h=> ?_)
 ·obtain⟨x,rfl,_⟩:=h
  rfl
 ·obtain⟨x,rfl,k⟩:=h;have q:=k H (ZJ.refl H);unfold Zb2 at q
  refine⟨_,(Zf (Yi (ZR XC (pv 0) Zw (ZX _)) (Zt (ZP (Yk (v:=.int 360) rfl T.g_YEAR_DAYS ⟨_,rfl⟩))) ZS) (Zf (Yi (ZR XC (pv 0) Zw (ZX _)) (Zt (ZP (Yk (v:=.int 30) rfl T.g_MONTH_DAYS ⟨_,rfl⟩))) ZS) (Zf (Yi (ZR XC (pv 0) Zw (ZX _)) (Zt (ZP Zx)) ZS) (Zt (ZP Zaj))))), ?_⟩;have ds:∀y:Str,V.str x=V.str y->x=y:=fun y e=>by injection e
  refine⟨_,rfl,rfl,_,rfl,Xg (fun e=> ?_) (fun e=> ?_)⟩
  ·rw[if_pos (ds _ (of_decide_eq_true e))] at q
   exact q
  ·rw[if_neg (fun z=>e (decide_eq_true (by rw[z])))] at q
   refine⟨_,rfl,rfl,_,rfl,Xg (fun e=> ?_) (fun e=> ?_)⟩
   ·rw[if_pos (ds _ (of_decide_eq_true e))] at q
    exact q
   ·rw[if_neg (fun z=>e (decide_eq_true (by rw[z])))] at q
    refine⟨_,rfl,rfl,_,rfl,Xg (fun e=> ?_) (fun e=> ?_)⟩
    ·rw[if_pos (ds _ (of_decide_eq_true e))] at q
     exact q
    ·rw[if_neg (fun z=>e (decide_eq_true (by rw[z])))] at q
     exact q
theorem Zba:ZQ ["text","number","unit"] ["text"] (ZF Zbw):=⟨rfl,rfl,rfl,by decide+kernel,rfl,by decide+kernel,by decide+kernel⟩
theorem Zh4{f:Addr}{fd:FuncData}(F:Fun K "length_read" "length_read" Zbw f fd)(T:Txt K mg t_YEAR_DAYS t_MONTH_DAYS t_MOST_FIGURES t_MOST_LETTERS t_FIGURES t_LETTERS t_MOST_WORDS t_MOST_CLAUSES Zj Zg Zh Zb Zm ZL Zn Zo Zq Zi Zy Zv Zz ZD ZG ZM)(o_NoLength:ZeJ "NoLength" Zn mg base)(Za5:Cal P w K mg base CX0 1 "days_of_letter" ["letter"] JH)(Zdp:Cal P w K mg base CX0 2 "is_number" ["text"] Zcx):Yo P w K mg base (CXr P w) 3 f fd ["text"] (Zb3 Zn):=by
 refine okX F Zba (fun vs H Q E h=> ?_) (fun cdv A outer s H vs Q E hr h=> ?_)
 ·obtain⟨x,rfl,_⟩:=h
  rfl
 ·obtain⟨x,rfl,hx,hok,k1,k2⟩:=h;have l5:=Ys;have hz:x.length<=sizeLine:=by omega
  have lr:=StrLaws.reprText_len x hok;have ln:(Zkh x).length<=x.length:=Txt.slice_le x none (some (-1));refine⟨_,(Zf (ZK (i:=1) Zba.nd rfl (Or.inl rfl) (XF ZiN (pv 0) JG (Jk (Zr9 ZnT Zx)))) (Zf (ZK (i:=2) Zba.nd rfl (Or.inl rfl) (Yd Za5 (hr.mono (by omega)) rfl Yp (Za (XF ZiN (pv 0) (Jk (Zr9 ZnT Zx)) JG) Ze))) (Zf (Yi (PW.pt (ZfH (ZR ZnV (pv 2) Zaj (ZX _)) (ZcY (Zed (ZaO (Yd Zdp (hr.mono (by omega)) rfl Yp (Za (pv 1) Ze))))))) (Zt (ZaU JC o_NoLength rfl rfl (Za (Zbm (YF (Zgg (pv 0)) (YF Zam Zd5))) Ze))) ZS) (Zt (ZP (Zu Zbl (XQ ZiP (by rfl) T.z_int Zoe (Za (pv 1) Ze)) (pv 2))))))), ?_⟩
  refine⟨_,rfl,_,rfl,_,rfl,_,rfl,hz, ?_⟩;refine⟨_,rfl,_,rfl,_,rfl,_,rfl,hz,_,rfl,fun H1 s1=> ?_⟩;rcases Zlq (Txt.slice x (some (-1)) none) with e|⟨u,e,hu⟩
  ·have en:Zbv x=.non:=by unfold Zbv;rw[show Zki x=.non from e]
   rw[e];refine⟨_,rfl,rfl,_,rfl,JS (JS ?_)⟩;refine⟨_,rfl,x,rfl,by omega,hok, ?_⟩
   try dsimp only
   rw[YG];exact⟨by omega,Zaf hx hok (by decide),Zaf hx hok (by decide),(by show 1<=sizeLine;omega),k2 en H1 s1⟩
  ·rw[e];refine⟨_,rfl,rfl,_,rfl,Zal ?_⟩;refine⟨_,rfl,Zkh x,rfl,by omega,fun H2 s2=>⟨_,rfl, ?_⟩⟩;cases f:ZcS (Zkh x) with
   |false=>
    have en:Zbv x=.non:=by unfold Zbv;rw[show Zki x=.int (u:Int) from e,f];rfl
    refine JS ?_;refine⟨_,rfl,x,rfl,by omega,hok, ?_⟩
    try dsimp only
    rw[YG];exact⟨by omega,Zaf hx hok (by decide),Zaf hx hok (by decide),(by show 1<=sizeLine;omega),k2 en H2 (s1.trans s2)⟩
   |true=>
    have en:Zbv x=.int ((dv (Zkh x):Int)*(u:Int)):=by unfold Zbv;rw[show Zki x=.int (u:Int) from e,f];rfl
    obtain⟨a1,a2,a3⟩:=Zp3 f;refine Zal ?_;refine⟨_,rfl,Zkh x,_,rfl,Znj a1 a2 (by omega),by omega,_,rfl,_,_,rfl,rfl,IntMulOk.of_right (intBits_le_64 (by omega) (by omega)), ?_⟩;exact Zfp (k1 (by rw[en];intro z;cases z) H2 (s1.trans s2)) en
theorem Zg2:ZQ ["days"] ["days"] (ZF ZaY):=⟨rfl,rfl,rfl,by decide+kernel,rfl,by decide+kernel,by decide+kernel⟩
theorem Zg3{f:Addr}{fd:FuncData}(F:Fun K "length_shown" "length_shown" ZaY f fd)(T:Txt K mg t_YEAR_DAYS t_MONTH_DAYS t_MOST_FIGURES t_MOST_LETTERS t_FIGURES t_LETTERS t_MOST_WORDS t_MOST_CLAUSES Zj Zg Zh Zb Zm ZL Zn Zo Zq Zi Zy Zv Zz ZD ZG ZM):Yo P w K mg base CX0 1 f fd ["days"] Zar:=by
 refine F.ok Zg2 (fun vs H Q E h=> ?_) (fun cdv A outer s H vs Q E hr h=> ?_)
 ·obtain⟨d,rfl,_⟩:=h
  rfl
 ·obtain⟨d,rfl,hd,k⟩:=h;have l5:=Ys;have q:=k H (ZJ.refl H);unfold Zae at q
  have a1:=Zcy (m:=d/360) (by omega);have a2:=Zcy (m:=d/30) (by omega);have a3:=Zcy hd;refine⟨_,(Zf (Yi (ZR XC (Zu Yt (pv 0) (Yk (v:=.int 360) rfl T.g_YEAR_DAYS ⟨_,rfl⟩)) Zx (ZX _)) (Zt (ZP (Zu Zk (XQ Xa (by rfl) T.z_str Zd3 (Za (Zu Yy (pv 0) (Yk (v:=.int 360) rfl T.g_YEAR_DAYS ⟨_,rfl⟩)) Ze)) Zw))) ZS) (Zf (Yi (ZR XC (Zu Yt (pv 0) (Yk (v:=.int 30) rfl T.g_MONTH_DAYS ⟨_,rfl⟩)) Zx (ZX _)) (Zt (ZP (Zu Zk (XQ Xa (by rfl) T.z_str Zd3 (Za (Zu Yy (pv 0) (Yk (v:=.int 30) rfl T.g_MONTH_DAYS ⟨_,rfl⟩)) Ze)) Zw))) ZS) (Zt (ZP (Zu Zk (XQ Xa (by rfl) T.z_str Zd3 (Za (pv 0) Ze)) Zw))))), ?_⟩
  refine(vI rfl (by show(0:Int)<360;decide) ⟨rfl,_,rfl,Xg (fun e=> ?_) (fun e=> ?_)⟩)
  ·have e:V.int ((d:Int)%360)=V.int 0:=of_decide_eq_true e;have e:d%360=0:=by injection e with e;omega
   rw[if_pos e] at q
   refine(vI rfl ⟨by decide,by decide⟩ ⟨((d/360:Nat):Int),rfl,Zep (by omega),_,_,rfl,rfl, ?_,q⟩);show(num (d/360)).length+1<=sizeLine;omega
  ·have e:¬V.int ((d:Int)%360)=V.int 0:=fun z=>e (decide_eq_true z);have e:¬d%360=0:=fun z=>e (by congr 1;omega)
   rw[if_neg e] at q
   refine(vI rfl (by show(0:Int)<30;decide) ⟨rfl,_,rfl,Xg (fun e=> ?_) (fun e=> ?_)⟩)
   ·have e:V.int ((d:Int)%30)=V.int 0:=of_decide_eq_true e;have e:d%30=0:=by injection e with e;omega
    rw[if_pos e] at q
    refine(vI rfl ⟨by decide,by decide⟩ ⟨((d/30:Nat):Int),rfl,Zep (by omega),_,_,rfl,rfl, ?_,q⟩);show(num (d/30)).length+1<=sizeLine;omega
   ·have e:¬V.int ((d:Int)%30)=V.int 0:=fun z=>e (decide_eq_true z);have e:¬d%30=0:=fun z=>e (by congr 1;omega)
    rw[if_neg e] at q
    refine⟨_,rfl,((d:Nat):Int),rfl,Zep hd,_,_,rfl,rfl, ?_,q⟩;show(num d).length+1<=sizeLine;omega
theorem Zlt:ZQ ["text"] ["text"] (ZF Zfm):=⟨rfl,rfl,rfl,by decide+kernel,rfl,by decide+kernel,by decide+kernel⟩
theorem Zlu{f:Addr}{fd:FuncData}(F:Fun K "is_name" "is_name" Zfm f fd)(T:Txt K mg t_YEAR_DAYS t_MONTH_DAYS t_MOST_FIGURES t_MOST_LETTERS t_FIGURES t_LETTERS t_MOST_WORDS t_MOST_CLAUSES Zj Zg Zh Zb Zm ZL Zn Zo Zq Zi Zy Zv Zz ZD ZG ZM)(Jl:Cal P w K mg base CX0 1 "is_made_of" ["text","signs"] Za8):Yo P w K mg base CX0 2 f fd ["text"] Zcz:=by
 refine F.ok Zlt (fun vs H Q E h=> ?_) (fun cdv A outer s H vs Q E hr h=> ?_)
 ·obtain⟨x,rfl,_⟩:=h
  rfl
 ·obtain⟨x,rfl,hx,k⟩:=h;have hz:=Nat.le_trans hx Ys;refine⟨_,(Zf (Yi (PW.pt (ZfH (ZR XC (ZZ Yr (by rfl) T.z_len Xh (Za (pv 0) Ze)) Zx (ZX _)) (ZcY (ZR ZfI (ZZ Yr (by rfl) T.z_len Xh (Za (pv 0) Ze)) (Yk (v:=.int 12) rfl T.g_MOST_LETTERS ⟨_,rfl⟩) (ZX _))))) (Zt (ZP ZfG)) ZS) (Zt (ZP (Yd Jl (hr.mono (by omega)) rfl Yp (Za (pv 0) (Za (Yk (v:=.str Za1) rfl T.g_LETTERS ⟨_,rfl⟩) Ze)))))), ?_⟩;refine⟨_,rfl,_,_,rfl,⟨hz,rfl⟩,rfl,_,rfl, ?_⟩
  refine Xg (fun e=>JS ?_) (fun e=> ?_)
  ·have e:V.int (x.length:Int)=V.int 0:=of_decide_eq_true e;have e:x.length=0:=by injection e with e;omega
   have ev:Yz x=false:=by simp[Yz,e]
   have q:=k H (ZJ.refl H);rw[ev] at q
   exact q
  ·have e:¬V.int (x.length:Int)=V.int 0:=fun z=>e (decide_eq_true z);have e:x.length≠0:=fun z=>e (by rw[z];rfl)
   refine⟨_,rfl,_,_,rfl,⟨hz,rfl⟩,_,_,rfl,rfl,_,rfl, ?_⟩;refine Xg (fun e2=> ?_) (fun e2=> ?_)
   ·have e2:(12:Int)<(x.length:Int):=of_decide_eq_true e2;have ev:Yz x=false:=by
     have:¬x.length<=12:=by omega
     simp[Yz,this]
    have q:=k H (ZJ.refl H);rw[ev] at q
    exact q
   ·have e2:¬(12:Int)<(x.length:Int):=fun z=>e2 (decide_eq_true z);refine⟨_,rfl,x,Za1,rfl,hx,fun H' s'=> ?_⟩;have ev:Yz x=x.cps.toList.all (inS Za1):=by
     have h1:1<=x.length:=by omega
     have h2:x.length<=12:=by omega
     simp[Yz,h1,h2]
    have q:=k H' s';rw[ev] at q
    exact q
theorem Zh5:ZQ ["_law_script","_law_k"] ["_law_script","_law_k"] (ZF Zbz):=⟨rfl,rfl,rfl,by decide+kernel,rfl,by decide+kernel,by decide+kernel⟩
theorem Zh6{f:Addr}{fd:FuncData}(F:Fun K "_law_cell_at" "_law_cell_at" Zbz f fd)(T:Txt K mg t_YEAR_DAYS t_MONTH_DAYS t_MOST_FIGURES t_MOST_LETTERS t_FIGURES t_LETTERS t_MOST_WORDS t_MOST_CLAUSES Zj Zg Zh Zb Zm ZL Zn Zo Zq Zi Zy Zv Zz ZD ZG ZM):Yo P w K mg base CX0 1 f fd ["_law_script","_law_k"] (Zb6 K):=by
 refine F.ok Zh5 (fun vs H Q E h=> ?_) (fun cdv A outer s H vs Q E hr h=> ?_)
 ·obtain⟨a,ns,k,rfl,_⟩:=h
  rfl
 ·obtain⟨a,ns,k,rfl,hS,q⟩:=h;refine⟨_,(Zf (Yi (ZR ZjI (pv 1) (ZZ Yr (by rfl) T.z_len Xh (Za (pv 0) Ze)) (ZX _)) (Zt (ZP (YT YW (pv 0) (pv 1) (fun _ _=>rfl)))) ZS) (Zt (ZP Zx))), ?_⟩;refine⟨_,rfl,_,rfl,_,_,rfl,.inl ⟨_,hS,rfl⟩,_,_,rfl,rfl,_,rfl,Xg (fun e=> ?_) (fun e=> ?_)⟩
  ·have e:(k:Int)<((ns.map V.int).length:Int):=of_decide_eq_true e;rw[List.length_map] at e
   obtain⟨c,_,ec⟩:=ZoZ (ns:=ns) (i:=(k:Int)) (by omega) (by omega);exact⟨_,rfl,_,rfl,a,_,_,_,rfl,rfl,hS,ec,q c H (ZJ.refl H)⟩
  ·exact q 0 H (ZJ.refl H)
theorem kd:¬(("kind":Str)="days"):=by decide+kernel
theorem oo:¬(("one":Str)="other"):=by decide+kernel
theorem Zmj(k:Str)(d:Int):(fA k d).lookup ("kind":Str)=some (.str k):=by
 unfold fA;rw[Yw,if_neg kd,Yw,if_pos rfl]
theorem Zmk(k:Str)(d:Int):(fA k d).lookup ("days":Str)=some (.int d):=by
 unfold fA;rw[Yw,if_pos rfl]
theorem Zji(p q:Addr):(fP p q).lookup ("one":Str)=some (.ref p):=by
 unfold fP;rw[Yw,if_neg oo,Yw,if_pos rfl]
theorem ZeY(p q:Addr):(fP p q).lookup ("other":Str)=some (.ref q):=by
 unfold fP;rw[Yw,if_pos rfl]
theorem Ztt(k:Str)(d:Int){m:Str}(h1:¬m="days")(h2:¬m="kind"):(fA k d).lookup m=none:=by
 unfold fA;rw[Yw,if_neg h1,Yw,if_neg h2]
 rfl
theorem Zro(p q:Addr){m:Str}(h1:¬m="other")(h2:¬m="one"):(fP p q).lookup m=none:=by
 unfold fP;rw[Yw,if_neg h1,Yw,if_neg h2]
 rfl
theorem YB.same{cn ca cl ce:Addr}{H H':Hp}(s:ZJ H H'):∀{t:Tr} {a:Addr},YB cn ca cl ce H t a->YB cn ca cl ce H' t a
 | .never,a,⟨dx,h⟩=>⟨dx,s _ _ h⟩
 | .after k d,a,⟨dx,h⟩=>⟨dx,s _ _ h⟩
 | .later x y,a,⟨dx,p,q,h,h1,h2⟩=>⟨dx,p,q,s _ _ h,h1.same s,h2.same s⟩
 | .earlier x y,a,⟨dx,p,q,h,h1,h2⟩=>⟨dx,p,q,s _ _ h,h1.same s,h2.same s⟩
theorem Tr.deep_cnt:∀t:Tr,t.deep<t.cnt
 | .never=>Nat.zero_lt_one
 | .after _ _=>Nat.zero_lt_one
 | .later x y=>by
  have h1:=x.deep_cnt;have h2:=y.deep_cnt;simp only [Tr.deep,Tr.cnt];omega
 | .earlier x y=>by
  have h1:=x.deep_cnt;have h2:=y.deep_cnt;simp only [Tr.deep,Tr.cnt];omega
theorem Zp6{cn ca cl ce:Addr}{H:Hp}{a:Addr}:∀{t:Tr},YB cn ca cl ce H t a->∃dx fs,H a=some (.ins (Zii cn ca cl ce t) dx fs)/\∀m:Str,¬m="days"->¬m="kind"->¬m="other"->¬m="one"->fs.lookup m=none
 | .never,⟨dx,h⟩=>⟨dx,_,h,fun _ _ _ _ _=>rfl⟩
 | .after k d,⟨dx,h⟩=>⟨dx,_,h,fun _ h1 h2 _ _=>Ztt k d h1 h2⟩
 | .later x y,⟨dx,p,q,h,_⟩=>⟨dx,_,h,fun _ _ _ h1 h2=>Zro p q h1 h2⟩
 | .earlier x y,⟨dx,p,q,h,_⟩=>⟨dx,_,h,fun _ _ _ h1 h2=>Zro p q h1 h2⟩
theorem Zsw{cn ca cl ce:Addr}:∀t:Tr,(Zii cn ca cl ce t=cn\/Zii cn ca cl ce t=ca\/Zii cn ca cl ce t=cl\/Zii cn ca cl ce t=ce)
 | .never=> .inl rfl
 | .after _ _=> .inr (.inl rfl)
 | .later _ _=> .inr (.inr (.inl rfl))
 | .earlier _ _=> .inr (.inr (.inr rfl))
theorem Zp7{H:Hp}{b:Addr}{l:Tb}(h:Rd H b (.dK (kk l)))(k:Str):Zff H b (.str k) ((lk l k).map V.int):=by
 rw[<-Zqc];exact .inl ⟨_,Sum.inr k,h,rfl,rfl⟩
theorem Zlv{o:Option Int}:(o.map V.int).isSome=o.isSome:=by cases o<;>rfl
theorem ZhD:ZQ ["self","kind","days"] ["self","kind","days"] (ZF Zcw):=⟨rfl,rfl,rfl,by decide+kernel,rfl,by decide+kernel,by decide+kernel⟩
theorem ZhE{f:Addr}{fd:FuncData}(F:Fun K "__init__" "After.__init__" Zcw f fd)(T:Txt K mg t_YEAR_DAYS t_MONTH_DAYS t_MOST_FIGURES t_MOST_LETTERS t_FIGURES t_LETTERS t_MOST_WORDS t_MOST_CLAUSES Zj Zg Zh Zb Zm ZL Zn Zo Zq Zi Zy Zv Zz ZD ZG ZM){C:Addr}(cl:Cls K C)(n_kind:Jo K C "kind")(n_days:Jo K C "days"):Yo P w K mg base CX0 1 f fd ["self","kind","days"] (ZbI C):=by
 refine F.ok ZhD (fun vs H Q E h=> ?_) (fun cdv A outer s H vs Q E hr h=> ?_)
 ·obtain⟨x,dx,k,d,rfl,_⟩:=h
  rfl
 ·obtain⟨x,dx,k,d,rfl,hx,q⟩:=h;refine⟨_,(Zf (ZiH (pv 0) (pv 1) rfl) (Zt (ZiH (pv 0) (pv 2) rfl))), ?_⟩;refine⟨_,rfl,_,rfl,x,C,dx,_,rfl,hx,cl,n_kind,(by show 0<1000;decide),_,rfl,_,rfl,x,C,dx,_,rfl,Zc,cl,n_days,(by show 1<1000;decide), ?_⟩
  rw[Xv];exact q
theorem Zjj:ZQ ["self","one","other"] ["self","one","other"] (ZF Zbo):=⟨rfl,rfl,rfl,by decide+kernel,rfl,by decide+kernel,by decide+kernel⟩
theorem ZeZ{f:Addr}{fd:FuncData}(F:Fun K "__init__" "Pair.__init__" Zbo f fd)(T:Txt K mg t_YEAR_DAYS t_MONTH_DAYS t_MOST_FIGURES t_MOST_LETTERS t_FIGURES t_LETTERS t_MOST_WORDS t_MOST_CLAUSES Zj Zg Zh Zb Zm ZL Zn Zo Zq Zi Zy Zv Zz ZD ZG ZM){C:Addr}(cl:Cls K C)(n_one:Jo K C "one")(n_other:Jo K C "other"):Yo P w K mg base CX0 1 f fd ["self","one","other"] (JK C):=by
 refine F.ok Zjj (fun vs H Q E h=> ?_) (fun cdv A outer s H vs Q E hr h=> ?_)
 ·obtain⟨x,dx,p,q,rfl,_⟩:=h
  rfl
 ·obtain⟨x,dx,p,q,rfl,hx,k⟩:=h;refine⟨_,(Zf (ZiH (pv 0) (pv 1) rfl) (Zt (ZiH (pv 0) (pv 2) rfl))), ?_⟩;refine⟨_,rfl,_,rfl,x,C,dx,_,rfl,hx,cl,n_one,(by show 0<1000;decide),_,rfl,_,rfl,x,C,dx,_,rfl,Zc,cl,n_other,(by show 1<1000;decide), ?_⟩
  rw[Xv];exact k
theorem Zah{H:Hp}{x dx:Addr}{o:HO}(h1:H x=none)(h2:H dx=none):ZJ H (upd (upd H dx (.own x)) x o):=fun b u e=>by
 rw[Zr (ZC e h1),Zr (ZC e h2)];exact e
theorem Zp8:ZQ [] [] (ZF Zjb):=⟨rfl,rfl,rfl,by decide+kernel,rfl,by decide+kernel,by decide+kernel⟩
theorem Zp9{f:Addr}{fd:FuncData}(F:Fun K "never" "never" Zjb f fd)(T:Txt K mg t_YEAR_DAYS t_MONTH_DAYS t_MOST_FIGURES t_MOST_LETTERS t_FIGURES t_LETTERS t_MOST_WORDS t_MOST_CLAUSES Zj Zg Zh Zb Zm ZL Zn Zo Zq Zi Zy Zv Zz ZD ZG ZM)(Zjk:Zs8 K mg "Never" Zj):Yo P w K mg base CX0 1 f fd [] (ZgT Zj Zg Zh Zb):=by
 refine F.ok Zp8 (fun vs H Q E h=> ?_) (fun cdv A outer s H vs Q E hr h=> ?_)
 ·obtain⟨rfl,_⟩:=h
  rfl
 ·obtain⟨rfl,q⟩:=h;refine⟨_,(Zt (ZP (Zqe Zjk rfl))), ?_⟩;exact fun x dx h1 h2 _=>q x _ (Zah h1 h2) h1 ⟨dx,Zc⟩
theorem Zpa:ZQ ["kind","days"] ["kind","days"] (ZF Zjc):=⟨rfl,rfl,rfl,by decide+kernel,rfl,by decide+kernel,by decide+kernel⟩
theorem Zpb{f:Addr}{fd:FuncData}(F:Fun K "after" "after" Zjc f fd)(T:Txt K mg t_YEAR_DAYS t_MONTH_DAYS t_MOST_FIGURES t_MOST_LETTERS t_FIGURES t_LETTERS t_MOST_WORDS t_MOST_CLAUSES Zj Zg Zh Zb Zm ZL Zn Zo Zq Zi Zy Zv Zz ZD ZG ZM)(Zjl:Zl7 P w K mg base CX0 1 "After" Zg ["self","kind","days"] (ZbI Zg)):Yo P w K mg base CX0 3 f fd ["kind","days"] (ZgU Zj Zg Zh Zb):=by
 refine F.ok Zpa (fun vs H Q E h=> ?_) (fun cdv A outer s H vs Q E hr h=> ?_)
 ·obtain⟨k,d,rfl,_⟩:=h
  rfl
 ·obtain⟨k,d,rfl,q⟩:=h;refine⟨_,(Zt (ZP (Zl9 Zjl (hr.mono (by omega)) rfl Yp (Za (pv 0) (Za (pv 1) Ze))))), ?_⟩;refine⟨_,rfl,_,rfl,fun x dx h1 h2 _=>⟨x,dx,k,d,rfl,Zc,rfl, ?_⟩⟩;rw[Xv];exact q x _ (Zah h1 h2) h1 ⟨dx,Zc⟩
theorem Zpc:ZQ ["one","other"] ["one","other"] (ZF Zjd):=⟨rfl,rfl,rfl,by decide+kernel,rfl,by decide+kernel,by decide+kernel⟩
theorem Zpd{f:Addr}{fd:FuncData}(F:Fun K "later" "later" Zjd f fd)(T:Txt K mg t_YEAR_DAYS t_MONTH_DAYS t_MOST_FIGURES t_MOST_LETTERS t_FIGURES t_LETTERS t_MOST_WORDS t_MOST_CLAUSES Zj Zg Zh Zb Zm ZL Zn Zo Zq Zi Zy Zv Zz ZD ZG ZM)(Zjm:Zl7 P w K mg base CX0 1 "Later" Zh ["self","one","other"] (JK Zh)):Yo P w K mg base CX0 3 f fd ["one","other"] (ZgV Zj Zg Zh Zb):=by
 refine F.ok Zpc (fun vs H Q E h=> ?_) (fun cdv A outer s H vs Q E hr h=> ?_)
 ·obtain⟨p,q,x,y,rfl,_⟩:=h
  rfl
 ·obtain⟨p,q,x,y,rfl,t1,t2,k⟩:=h;refine⟨_,(Zt (ZP (Zl9 Zjm (hr.mono (by omega)) rfl Yp (Za (pv 0) (Za (pv 1) Ze))))), ?_⟩;refine⟨_,rfl,_,rfl,fun a dx h1 h2 _=>⟨a,dx,p,q,rfl,Zc,rfl, ?_⟩⟩;rw[Xv];exact k a _ (Zah h1 h2) h1 ⟨dx,p,q,Zc,t1.same (Zah h1 h2),t2.same (Zah h1 h2)⟩
theorem Zlw:ZQ ["one","other"] ["one","other"] (ZF Zfn):=⟨rfl,rfl,rfl,by decide+kernel,rfl,by decide+kernel,by decide+kernel⟩
theorem Zlx{f:Addr}{fd:FuncData}(F:Fun K "earlier" "earlier" Zfn f fd)(T:Txt K mg t_YEAR_DAYS t_MONTH_DAYS t_MOST_FIGURES t_MOST_LETTERS t_FIGURES t_LETTERS t_MOST_WORDS t_MOST_CLAUSES Zj Zg Zh Zb Zm ZL Zn Zo Zq Zi Zy Zv Zz ZD ZG ZM)(Zfs:Zl7 P w K mg base CX0 1 "Earlier" Zb ["self","one","other"] (JK Zb)):Yo P w K mg base CX0 3 f fd ["one","other"] (Zeq Zj Zg Zh Zb):=by
 refine F.ok Zlw (fun vs H Q E h=> ?_) (fun cdv A outer s H vs Q E hr h=> ?_)
 ·obtain⟨p,q,x,y,rfl,_⟩:=h
  rfl
 ·obtain⟨p,q,x,y,rfl,t1,t2,k⟩:=h;refine⟨_,(Zt (ZP (Zl9 Zfs (hr.mono (by omega)) rfl Yp (Za (pv 0) (Za (pv 1) Ze))))), ?_⟩;refine⟨_,rfl,_,rfl,fun a dx h1 h2 _=>⟨a,dx,p,q,rfl,Zc,rfl, ?_⟩⟩;rw[Xv];exact k a _ (Zah h1 h2) h1 ⟨dx,p,q,Zc,t1.same (Zah h1 h2),t2.same (Zah h1 h2)⟩
theorem Ztu(m:Str)(h:m="due"\/m="leaves"\/m="shown"):¬m="days"/\¬m="kind"/\¬m="other"/\¬m="one":=by
 rcases h with rfl|rfl|rfl<;>decide+kernel
theorem YB.keep{cn ca cl ce:Addr}{H H':Hp}(s:∀b C dx fs,H b=some (.ins C dx fs)->H' b=some (.ins C dx fs)):∀{t:Tr} {a:Addr},YB cn ca cl ce H t a->YB cn ca cl ce H' t a
 | .never,a,⟨dx,h⟩=>⟨dx,s _ _ _ _ h⟩
 | .after k d,a,⟨dx,h⟩=>⟨dx,s _ _ _ _ h⟩
 | .later x y,a,⟨dx,p,q,h,h1,h2⟩=>⟨dx,p,q,s _ _ _ _ h,h1.keep s,h2.keep s⟩
 | .earlier x y,a,⟨dx,p,q,h,h1,h2⟩=>⟨dx,p,q,s _ _ _ _ h,h1.keep s,h2.keep s⟩
theorem shR{cn ca cl ce m:Addr}{n:Nat}{t:Tr}{σ:L2.St}{H:Hp}{Q:VK}{E:XK}(tm:YB cn ca cl ce H t m)(o1:t.deep<n)(o2:t.cnt<=100)(g:t.good)(k:∀H',ZJ H H'->Q (.str (t.tC (-1))) H'):
  ∃a C dx fs,V.ref m=.ref a/\H a=some (.ins C dx fs)/\(C=cn\/C=ca\/C=cl\/C=ce)/\fs.lookup (Str.ofString "shown")=none/\ZkO σ H fun vs H2=>Jq cn ca cl ce n C (V.ref m::vs) H2 Q E:=by
 obtain⟨dx,fs,ii,lk⟩:=Zp6 tm;obtain⟨n1,n2,n3,n4⟩:=Ztu "shown" (.inr (.inr rfl));exact⟨m,_,dx,fs,rfl,ii,Zsw t,lk _ n1 n2 n3 n4,m,t,rfl,tm,o1,o2,g,rfl,k⟩
theorem ZqL{α:Type}(us:List α)(y:α):(us++[y])[(us++[y]).length-1]? =some y:=by
 rw[List.length_append];simp
theorem Znl{α:Type}(us:List α)(y:α):(us++[y]).dropLast=us:=by simp
theorem ZdW{H H1 H2:Hp}{R:Addr}{o1 o2:HO}(s1:ZJ (upd H R o1) H1)(s2:ZJ (upd H1 R o2) H2):ZJ (upd H R o2) H2:=fun b u e=>by
 by_cases h:b=R
 ·subst h;rw[Zc] at e
  exact s2 _ _ (by rw[Zc];exact e)
 ·rw[Zr h] at e
  exact s2 _ _ (by rw[Zr h];exact s1 _ _ (by rw[Zr h];exact e))
theorem ZqM(xs:List V)(v:V):¬V.int (((xs++[v]).length:Nat):Int)=V.int 0:=fun e=>by
 injection e with e
 rw[List.length_append] at e
 have:[v].length=1:=rfl;omega
theorem Zpe(w:Str)(r:List Str):(w::r).reverse.map V.str=r.reverse.map V.str++[V.str w]:=by
 rw[List.reverse_cons,List.map_append]
 rfl
theorem ZhF:ZQ ["rest"] ["rest"] (ZF Zcq):=⟨rfl,rfl,rfl,by decide+kernel,rfl,by decide+kernel,by decide+kernel⟩
theorem ZhG{f:Addr}{fd:FuncData}(F:Fun K "word_taken" "word_taken" Zcq f fd)(T:Txt K mg t_YEAR_DAYS t_MONTH_DAYS t_MOST_FIGURES t_MOST_LETTERS t_FIGURES t_LETTERS t_MOST_WORDS t_MOST_CLAUSES Zj Zg Zh Zb Zm ZL Zn Zo Zq Zi Zy Zv Zz ZD ZG ZM)(o_NoTerm:ZeJ "NoTerm" Zo mg base):Yo P w K mg base (CXr P w) 1 f fd ["rest"] (Js Zo):=by
 refine okX F ZhF (fun vs H Q E h=> ?_) (fun cdv A outer s H vs Q E hr h=> ?_)
 ·obtain⟨R,ws,rfl,_⟩:=h
  rfl
 ·obtain⟨R,ws,rfl,hR,k1,k2⟩:=h;have l5:=Ys;refine⟨_,(Zf (Yi (ZR XC (ZZ Yr (by rfl) T.z_len Xh (Za (pv 0) Ze)) Zx (ZX _)) (Zt (ZaU JC o_NoTerm rfl rfl (Za Zw Ze))) ZS) (Zt (ZP (ZrN PySem.F.plainAttrs_list PySem.F.slot_list_pop PySem.F.type_list_pop ZrO (pv 0))))), ?_⟩;cases ws with
  |nil=>
   have hR:H R=some (.lst []):=hR;exact⟨_,rfl,_,_,rfl,.inl ⟨_,SqL.of hR,rfl⟩,rfl,_,rfl,ZtV rfl ⟨(by show 1<=sizeLine;omega),k1 rfl⟩⟩
  |cons z r=>
   rw[Zpe] at hR
   refine⟨_,rfl,_,_,rfl,.inl ⟨_,SqL.of hR,rfl⟩,rfl,_,rfl,Zth (ZqM _ (.str z)) ?_⟩;refine⟨_,rfl,.inl ⟨rfl,_,SqL.of hR⟩,R,_,V.str z,rfl,rfl,hR,ZqL _ _, ?_⟩;rw[Znl];exact k2 z r rfl
theorem Ze7:ZQ ["rest","word"] ["rest"] (ZF Zcs):=⟨rfl,rfl,rfl,by decide+kernel,rfl,by decide+kernel,by decide+kernel⟩
theorem ZhH{f:Addr}{fd:FuncData}(F:Fun K "kind_taken" "kind_taken" Zcs f fd)(T:Txt K mg t_YEAR_DAYS t_MONTH_DAYS t_MOST_FIGURES t_MOST_LETTERS t_FIGURES t_LETTERS t_MOST_WORDS t_MOST_CLAUSES Zj Zg Zh Zb Zm ZL Zn Zo Zq Zi Zy Zv Zz ZD ZG ZM)(o_NoTerm:ZeJ "NoTerm" Zo mg base)(ZaM:Cal P w K mg base CX0 2 "is_name" ["text"] Zcz)(YL:Cal P w K mg base (CXr P w) 1 "word_taken" ["rest"] (Js Zo)):Yo P w K mg base (CXr P w) 3 f fd ["rest"] (ZbJ Zo):=by
 refine okX F Ze7 (fun vs H Q E h=> ?_) (fun cdv A outer s H vs Q E hr h=> ?_)
 ·obtain⟨R,ws,rfl,_⟩:=h
  rfl
 ·obtain⟨R,ws,rfl,hR,hw,k1,k2⟩:=h;have l5:=Ys;refine⟨_,(Zf (ZK (i:=1) Ze7.nd rfl (Or.inl rfl) (Yd YL (hr.mono (by omega)) rfl YK (Za (pv 0) Ze))) (Zf (Yi (Zed (ZaO (Yd ZaM (hr.mono (by omega)) rfl Yp (Za (pv 1) Ze)))) (Zt (ZaU JC o_NoTerm rfl rfl (Za (Zbm (YF (Zgg (pv 1)) (YF Zam Zd5))) Ze))) ZS) (Zt (ZP (pv 1))))), ?_⟩;refine⟨_,rfl,R,ws,rfl,hR,fun e=> ?_,fun z r e=> ?_⟩
  ·exact k2 (fun w r z=>by rw[e] at z;cases z) (ws.reverse.map V.str) H (fun b u y=>by
    by_cases bR:b=R
    ·rw[bR,Zc] at y;rw[bR,hR];exact y
    ·rwa [Zr bR] at y)
  ·subst e;obtain⟨lz,_,okz⟩:=hw z (List.mem_cons_self ..);refine⟨_,rfl,z,rfl,by omega,fun H1 s1=>⟨_,rfl, ?_⟩⟩;cases f:Yz z with
   |true=>exact Zal ⟨_,rfl,k1 z r rfl f H1 s1⟩
   |false=>
    refine JS ⟨_,rfl,z,rfl,by omega,okz, ?_⟩
    try dsimp only
    rw[YG];exact⟨by have:=StrLaws.reprText_len z okz;omega,Zaf (by omega) okz (by decide),Zaf (by omega) okz (by decide),(by show 1<=sizeLine;omega),k2 (fun w r e=>by injection e with e1 e2;rw[<-e1];exact f) _ H1 s1⟩
theorem ZcT:ZQ ["rest","word"] ["rest"] (ZF ZaZ):=⟨rfl,rfl,rfl,by decide+kernel,rfl,by decide+kernel,by decide+kernel⟩
theorem Zg4{f:Addr}{fd:FuncData}(F:Fun K "length_taken" "length_taken" ZaZ f fd)(T:Txt K mg t_YEAR_DAYS t_MONTH_DAYS t_MOST_FIGURES t_MOST_LETTERS t_FIGURES t_LETTERS t_MOST_WORDS t_MOST_CLAUSES Zj Zg Zh Zb Zm ZL Zn Zo Zq Zi Zy Zv Zz ZD ZG ZM)(o_NoTerm:ZeJ "NoTerm" Zo mg base)(ZbN:Cal P w K mg base (CXr P w) 3 "length_read" ["text"] (Zb3 Zn))(YL:Cal P w K mg base (CXr P w) 1 "word_taken" ["rest"] (Js Zo)):Yo P w K mg base (CXr P w) 4 f fd ["rest"] (Zas Zo):=by
 refine okX F ZcT (fun vs H Q E h=> ?_) (fun cdv A outer s H vs Q E hr h=> ?_)
 ·obtain⟨R,ws,rfl,_⟩:=h
  rfl
 ·obtain⟨R,ws,rfl,hR,hw,k1,k2⟩:=h;have l5:=Ys;refine⟨_,(Zf (ZK (i:=1) ZcT.nd rfl (Or.inl rfl) (Yd YL (hr.mono (by omega)) rfl YK (Za (pv 0) Ze))) (Zt (Znb (by rfl) ZbN (hr.mono (by omega)) (by rfl) (Za (pv 1) Ze) (by rfl) T.mg_NoLength o_NoTerm (by rfl) (fun _=>(Za (Zbm (YF (Zgg (pv 1)) (YF Zam Zd5))) Ze))))), ?_⟩;refine⟨_,rfl,R,ws,rfl,hR,fun e=> ?_,fun z r e=> ?_⟩
  ·exact k2 (fun w r z=>by rw[e] at z;cases z) (ws.reverse.map V.str) H (fun b u y=>by
    by_cases bR:b=R
    ·rw[bR,Zc] at y;rw[bR,hR];exact y
    ·rwa [Zr bR] at y)
  ·subst e;obtain⟨lz,_,okz⟩:=hw z (List.mem_cons_self ..);refine⟨_,rfl,z,rfl,by omega,okz,fun ne H1 s1=> ?_,fun e H1 s1=> ?_⟩
   ·obtain⟨d,ed⟩:=Zp4 ne;rw[ed];exact k1 z r d rfl ed H1 s1
   ·refine⟨_,rfl,T.xm_n, ?_⟩;refine⟨_,rfl,z,rfl,by omega,okz, ?_⟩
    try dsimp only
    rw[YG];exact⟨by have:=StrLaws.reprText_len z okz;omega,Zaf (by omega) okz (by decide),Zaf (by omega) okz (by decide),(by show 1<=sizeLine;omega),k2 (fun w r y=>by injection y with e1 e2;rw[<-e1];exact e) _ H1 s1⟩
theorem Zml:∀{n:Nat} {ws:List Str} {t:Tr} {r:List Str},pt n ws=some (t,r)->r.length<ws.length/\∀x∈r,x∈ws:=by
 intro n
 induction n with
 |zero=>intro ws t r h;cases h
 |succ n ih=>
  intro ws t r h;cases ws with
  |nil=>cases h
  |cons w q=>
   have two:∀{f:Tr->Tr->Tr},((pt n q).bind fun x=>(pt n x.2).bind fun y=>some (f x.1 y.1,y.2))=some (t,r)->r.length<(w::q).length/\∀x∈r,x∈w::q:=fun{f} h=>by
    obtain⟨⟨x,r1⟩,e1,h⟩:=Option.bind_eq_some_iff.mp h;obtain⟨⟨y,r2⟩,e2,h⟩:=Option.bind_eq_some_iff.mp h
    injection h with h
    injection h with _ h
    subst h;obtain⟨a1,b1⟩:=ih e1;obtain⟨a2,b2⟩:=ih e2;exact⟨by have a2:r2.length<r1.length:=a2;have a1:r1.length<q.length:=a1;show r2.length<q.length+1;omega,fun z hz=>List.mem_cons_of_mem _ (b1 z (b2 z hz))⟩
   unfold pt at h
   split at h
   ·injection h with h
    injection h with _ h
    subst h;exact⟨Nat.lt_succ_self _,fun z hz=>List.mem_cons_of_mem _ hz⟩
   ·split at h
    ·cases q with
     |nil=>cases h
     |cons k q=>
      cases q with
      |nil=>cases h
      |cons l q=>
       dsimp only at h
       split at h
       ·injection h with h
        injection h with _ h
        subst h;exact⟨by simp only [List.length_cons];omega,fun z hz=>by simp[hz]⟩
       ·cases h
    ·split at h
     ·exact two h
     ·split at h
      ·exact two h
      ·cases h
theorem Zh7(n:Nat)(r:List Str):pt (n+1) (Str.ofString "never"::r)=some (.never,r):=by
 unfold pt;rw[if_pos rfl]
theorem an1:¬Str.ofString "after"=Str.ofString "never":=by decide+kernel
theorem ln1:¬Str.ofString "later"=Str.ofString "never":=by decide+kernel
theorem ln2:¬Str.ofString "later"=Str.ofString "after":=by decide+kernel
theorem en1:¬Str.ofString "earlier"=Str.ofString "never":=by decide+kernel
theorem en2:¬Str.ofString "earlier"=Str.ofString "after":=by decide+kernel
theorem en3:¬Str.ofString "earlier"=Str.ofString "later":=by decide+kernel
theorem Zkq(n:Nat){k l:Str}{d:Int}(q:List Str)(hk:Yz k=true)(hd:Zbv l=.int d):pt (n+1) (Str.ofString "after"::k::l::q)=some (.after k d,q):=by
 unfold pt;rw[if_neg an1,if_pos rfl]
 dsimp only
 rw[hk,hd]
theorem Zly(n:Nat){q:List Str}(h:∀w r,q=w::r->Yz w=false):pt (n+1) (Str.ofString "after"::q)=none:=by
 unfold pt;rw[if_neg an1,if_pos rfl];cases q with
 |nil=>rfl
 |cons k q=>
  cases q with
  |nil=>rfl
  |cons l q=>
   dsimp only
   rw[h k _ rfl]
theorem Znm(n:Nat){k:Str}{q:List Str}(h:∀w r,q=w::r->Zbv w=.non):pt (n+1) (Str.ofString "after"::k::q)=none:=by
 unfold pt;rw[if_neg an1,if_pos rfl];cases q with
 |nil=>rfl
 |cons l q=>
  dsimp only
  rw[h l _ rfl];cases Yz k<;>rfl
theorem Zkr(n:Nat)(q:List Str):pt (n+1) (Str.ofString "later"::q)=(pt n q).bind fun x=>(pt n x.2).bind fun y=>some (.later x.1 y.1,y.2):=by
 show(if _ then _ else _)=_;rw[if_neg ln1,if_neg ln2,if_pos rfl]
theorem Zh8(n:Nat)(q:List Str):pt (n+1) (Str.ofString "earlier"::q)=(pt n q).bind fun x=>(pt n x.2).bind fun y=>some (.earlier x.1 y.1,y.2):=by
 show(if _ then _ else _)=_;rw[if_neg en1,if_neg en2,if_neg en3,if_pos rfl]
theorem Znn{H:Hp}{R:Addr}{o:HO}(h:H R=some o):ZJ (upd H R o) H:=fun b u y=>by
 by_cases bR:b=R
 ·rw[bR,Zc] at y;rw[bR,h];exact y
 ·rwa [Zr bR] at y
theorem Jv:ZQ ["rest","word","kind","one"] ["rest"] (ZF Zcr):=⟨rfl,rfl,rfl,by decide+kernel,rfl,by decide+kernel,by decide+kernel⟩
theorem ZhI{f:Addr}{fd:FuncData}(F:Fun K "part_taken" "part_taken" Zcr f fd)(T:Txt K mg t_YEAR_DAYS t_MONTH_DAYS t_MOST_FIGURES t_MOST_LETTERS t_FIGURES t_LETTERS t_MOST_WORDS t_MOST_CLAUSES Zj Zg Zh Zb Zm ZL Zn Zo Zq Zi Zy Zv Zz ZD ZG ZM)(n:Nat)(o_NoTerm:ZeJ "NoTerm" Zo mg base)(Zjn:Cal P w K mg base CX0 3 "after" ["kind","days"] (ZgU Zj Zg Zh Zb))(Zft:Cal P w K mg base CX0 3 "earlier" ["one","other"] (Zeq Zj Zg Zh Zb))(ZcE:Cal P w K mg base (CXr P w) 3 "kind_taken" ["rest"] (ZbJ Zo))(Zjo:Cal P w K mg base CX0 3 "later" ["one","other"] (ZgV Zj Zg Zh Zb))(Zbb:Cal P w K mg base (CXr P w) 4 "length_taken" ["rest"] (Zas Zo))(Zjp:Cal P w K mg base CX0 1 "never" [] (ZgT Zj Zg Zh Zb))(Xf:Cal P w K mg base (CXr P w) (4+n+1) "part_taken" ["rest"] (Jt Zj Zg Zh Zb Zo n))(YL:Cal P w K mg base (CXr P w) 1 "word_taken" ["rest"] (Js Zo)):Yo P w K mg base (CXr P w) (4+n+1+1) f fd ["rest"] (Jt Zj Zg Zh Zb Zo (n+1)):=by
 refine okX F Jv (fun vs H Q E h=> ?_) (fun cdv A outer s H vs Q E hr h=> ?_)
 ·obtain⟨R,ws,rfl,_⟩:=h
  rfl
 ·obtain⟨R,ws,rfl,hR,hw,hl,k1,k2⟩:=h;have l5:=Ys;refine⟨_,(Zf (ZK (i:=1) Jv.nd rfl (Or.inl rfl) (Yd YL (hr.mono (by omega)) rfl YK (Za (pv 0) Ze))) (Zf (Yi (ZR XC (pv 1) Zw (ZX _)) (Zt (ZP (ZrX Zjp (hr.mono (by omega)) rfl Yp))) ZS) (Zf (Yi (ZR XC (pv 1) Zw (ZX _)) (Zf (ZK (i:=2) Jv.nd rfl (Or.inl rfl) (Yd ZcE (hr.mono (by omega)) rfl YK (Za (pv 0) Ze))) (Zt (ZP (Yd Zjn (hr.mono (by omega)) rfl Yp (Za (pv 2) (Za (Yd Zbb (hr.mono (by omega)) rfl YK (Za (pv 0) Ze)) Ze)))))) ZS) (Zf (Yi (ZR XC (pv 1) Zw (ZX _)) (Zf (ZK (i:=3) Jv.nd rfl (Or.inl rfl) (Yd Xf (hr.mono (by omega)) rfl YK (Za (pv 0) Ze))) (Zt (ZP (Yd Zjo (hr.mono (by omega)) rfl Yp (Za (pv 3) (Za (Yd Xf (hr.mono (by omega)) rfl YK (Za (pv 0) Ze)) Ze)))))) ZS) (Zf (Yi (ZR XC (pv 1) Zw (ZX _)) (Zf (ZK (i:=3) Jv.nd rfl (Or.inl rfl) (Yd Xf (hr.mono (by omega)) rfl YK (Za (pv 0) Ze))) (Zt (ZP (Yd Zft (hr.mono (by omega)) rfl Yp (Za (pv 3) (Za (Yd Xf (hr.mono (by omega)) rfl YK (Za (pv 0) Ze)) Ze)))))) ZS) (Zt (ZaU JC o_NoTerm rfl rfl (Za (Zbm (YF Zam (YF (Zgg (pv 1)) Zd5))) Ze)))))))), ?_⟩
  refine⟨_,rfl,R,ws,rfl,hR,fun e=> ?_,fun w r e=> ?_⟩
  ·subst e;exact k2 rfl _ H (Znn hR)
  subst e;obtain⟨lw,_,okw⟩:=hw w (List.mem_cons_self ..);have hw':∀x∈r,Wd x:=fun x hx=>hw x (List.mem_cons_of_mem _ hx);have hl':r.length<n:=by rw[List.length_cons] at hl;omega
  have ew:∀y:Str,V.str w=V.str y->w=y:=fun y e=>by injection e
  refine⟨_,rfl,rfl,_,rfl,Xg (fun e=> ?_) (fun e=> ?_)⟩
  ·obtain rfl:=ew _ (of_decide_eq_true e);exact⟨rfl,fun p H' s _ t=>k1 .never r (Zh7 n r) p H' s t⟩
  have n1:¬w=Str.ofString "never":=fun z=>e (decide_eq_true (by rw[z]));refine⟨_,rfl,rfl,_,rfl,Xg (fun e=> ?_) (fun e=> ?_)⟩
  ·obtain rfl:=ew _ (of_decide_eq_true e);refine⟨_,rfl,R,r,rfl,Zc,hw',fun k q e nk H2 s2=> ?_,fun no zs H2 s2=> ?_⟩
   ·subst e;rw[Xv] at s2
    refine⟨_,rfl,_,rfl,R,q,rfl,s2 _ _ Zc,fun x hx=>hw' x (List.mem_cons_of_mem _ hx),fun l q2 d e2 ld H3 s3=> ?_,fun no zs H3 s3=> ?_⟩
    ·subst e2;exact⟨k,d,rfl,fun p H4 s4 _ t=>k1 (.after k d) q2 (Zkq n q2 nk ld) p H4 ((ZdW s2 s3).trans s4) t⟩
    ·exact k2 (Znm n no) zs H3 (ZdW s2 s3)
   ·rw[Xv] at s2
    exact k2 (Zly n no) zs H2 s2
  have n2:¬w=Str.ofString "after":=fun z=>e (decide_eq_true (by rw[z]));refine⟨_,rfl,rfl,_,rfl,Xg (fun e=> ?_) (fun e=> ?_)⟩
  ·obtain rfl:=ew _ (of_decide_eq_true e);rw[Zkr] at k1 k2
   refine⟨_,rfl,R,r,rfl,Zc,hw',hl',fun x r1 ex m1 H2 s2 t1=> ?_,fun no zs H2 s2=> ?_⟩
   ·rw[Xv] at s2
    obtain⟨lr,sub⟩:=Zml ex;rw[ex] at k1 k2
    refine⟨_,rfl,_,rfl,R,r1,rfl,s2 _ _ Zc,fun y hy=>hw' y (sub y hy),by omega,fun y r2 ey m2 H3 s3 t2=> ?_,fun no zs H3 s3=> ?_⟩
    ·have t3:=t1.keep fun b C dx fs e=>s3 b (.ins C dx fs) (by rw[Zr (ZfE e (s2 _ _ Zc) (fun z=>nomatch z))];exact e)
     exact⟨m1,m2,x,y,rfl,t3,t2,fun p H4 s4 _ t4=>k1 (.later x y) r2 (by show(pt n r1).bind _=_;rw[ey];rfl) p H4 ((ZdW s2 s3).trans s4) t4⟩
    ·exact k2 (by show(pt n r1).bind _=_;rw[no];rfl) zs H3 (ZdW s2 s3)
   ·rw[Xv] at s2
    exact k2 (by rw[no];rfl) zs H2 s2
  have n3:¬w=Str.ofString "later":=fun z=>e (decide_eq_true (by rw[z]));refine⟨_,rfl,rfl,_,rfl,Xg (fun e=> ?_) (fun e=> ?_)⟩
  ·obtain rfl:=ew _ (of_decide_eq_true e);rw[Zh8] at k1 k2
   refine⟨_,rfl,R,r,rfl,Zc,hw',hl',fun x r1 ex m1 H2 s2 t1=> ?_,fun no zs H2 s2=> ?_⟩
   ·rw[Xv] at s2
    obtain⟨lr,sub⟩:=Zml ex;rw[ex] at k1 k2
    refine⟨_,rfl,_,rfl,R,r1,rfl,s2 _ _ Zc,fun y hy=>hw' y (sub y hy),by omega,fun y r2 ey m2 H3 s3 t2=> ?_,fun no zs H3 s3=> ?_⟩
    ·have t3:=t1.keep fun b C dx fs e=>s3 b (.ins C dx fs) (by rw[Zr (ZfE e (s2 _ _ Zc) (fun z=>nomatch z))];exact e)
     exact⟨m1,m2,x,y,rfl,t3,t2,fun p H4 s4 _ t4=>k1 (.earlier x y) r2 (by show(pt n r1).bind _=_;rw[ey];rfl) p H4 ((ZdW s2 s3).trans s4) t4⟩
    ·exact k2 (by show(pt n r1).bind _=_;rw[no];rfl) zs H3 (ZdW s2 s3)
   ·rw[Xv] at s2
    exact k2 (by rw[no];rfl) zs H2 s2
  have n4:¬w=Str.ofString "earlier":=fun z=>e (decide_eq_true (by rw[z]));have pn:pt (n+1) (w::r)=none:=by
   show(if _ then _ else _)=_;rw[if_neg n1,if_neg n2,if_neg n3,if_neg n4]
  have lr:=StrLaws.reprText_len w okw;have la:(Str.empty++Str.ofString "no term begins with ").length<=sizeLine:=by
   rw[YG,show(Str.ofString "no term begins with ").length=20 by decide+kernel];omega
  have lb:(Str.empty++Str.ofString "no term begins with "++reprText w).length<=sizeLine:=by
   rw[YG,strLen_append,show(Str.ofString "no term begins with ").length=20 by decide+kernel];omega
  exact⟨la,_,rfl,w,rfl,by omega,okw,lb,lb,(by show 1<=sizeLine;omega),k2 pn _ _ (ZJ.refl _)⟩
theorem ZaF:ZQ ["text","words","rest","term"] ["text"] (ZF Zdg):=⟨rfl,rfl,rfl,by decide+kernel,rfl,by decide+kernel,by decide+kernel⟩
theorem Zjq{f:Addr}{fd:FuncData}(F:Fun K "term_read" "term_read" Zdg f fd)(T:Txt K mg t_YEAR_DAYS t_MONTH_DAYS t_MOST_FIGURES t_MOST_LETTERS t_FIGURES t_LETTERS t_MOST_WORDS t_MOST_CLAUSES Zj Zg Zh Zb Zm ZL Zn Zo Zq Zi Zy Zv Zz ZD ZG ZM)(o_NoTerm:ZeJ "NoTerm" Zo mg base)(Xf:Cal P w K mg base (CXr P w) 69 "part_taken" ["rest"] (Jt Zj Zg Zh Zb Zo 64)):Yo P w K mg base (CXr P w) 70 f fd ["text"] (ZcB Zj Zg Zh Zb Zo):=by
 refine okX F ZaF (fun vs H Q E h=> ?_) (fun cdv A outer s H vs Q E hr h=> ?_)
 ·obtain⟨x,rfl,_⟩:=h
  rfl
 ·obtain⟨x,rfl,hw,lx,lws,k1,k2⟩:=h;have l5:=Ys;refine⟨_,(Zf (ZK (i:=1) ZaF.nd rfl (Or.inl rfl) (Je PySem.F.plainAttrs_str PySem.F.slot_str_split PySem.F.type_str_split Zeh (pv 0) (Za Zw Ze))) (Zf (Yi (ZR ZfI (ZZ Yr (by rfl) T.z_len Xh (Za (pv 1) Ze)) (Yk (v:=.int 61) rfl T.g_MOST_WORDS ⟨_,rfl⟩) (ZX _)) (Zt (ZaU JC o_NoTerm rfl rfl (Za (Zbm (YF Zam (YF (Zj6 (Yk (v:=.int 61) rfl T.g_MOST_WORDS ⟨_,rfl⟩)) (YF Zam Zd5)))) Ze))) ZS) (Zf (ZK (i:=2) ZaF.nd rfl (Or.inl rfl) (Zla rfl (by rfl) T.z_list (by rfl) T.z_reversed (pv 1))) (Zf (ZK (i:=3) ZaF.nd rfl (Or.inl rfl) (Yd Xf (hr.mono (by omega)) rfl YK (Za (pv 2) Ze))) (Zf (Yi (ZR ZfI (ZZ Yr (by rfl) T.z_len Xh (Za (pv 2) Ze)) Zx (ZX _)) (Zt (ZaU JC o_NoTerm rfl rfl (Za Zw Ze))) ZS) (Zt (ZP (pv 3)))))))), ?_⟩
  refine⟨_,rfl,rfl,x,32,rfl,by rw[Zmg],by omega,fun p hp=> ?_⟩;generalize Txt.split x ⟨#[32]⟩=ws at hw lws k1 k2⊢
  refine⟨_,rfl,_,_,rfl,.inl ⟨_,SqL.of Zc,rfl⟩,_,_,rfl,rfl,_,rfl,Xg (fun e=> ?_) (fun e=> ?_)⟩
  ·have e:(61:Int)<((ws.map V.str).length:Nat):=of_decide_eq_true e;have e61:61<ws.length:=by rw[List.length_map] at e;omega
   have la:(Str.empty++Str.ofString "a term has at most ").length<=100:=by decide+kernel
   have lb:(Str.empty++Str.ofString "a term has at most "++((toString (61:Int):String):Str)).length<=100:=by decide+kernel
   have lc:(Str.empty++Str.ofString "a term has at most "++((toString (61:Int):String):Str)++Str.ofString " words").length<=100:=by decide+kernel
   exact⟨by omega,61,rfl,by decide+kernel,by omega,by omega,by omega,(by show 1<=sizeLine;omega),k2 (by unfold Jr;rw[if_pos e61]) _ (Zd hp)⟩
  have e61:¬61<ws.length:=fun z=>e (decide_eq_true (by rw[List.length_map];omega))
  refine⟨_,rfl,p,_,rfl,SqL.of Zc,fun R hR2=> ?_⟩;have s12:=(Zd hp (o:=.lst (ws.map V.str))).trans (Zd hR2 (o:=.lst (ws.map V.str).reverse));refine⟨_,rfl,R,ws,rfl,by rw[Zc,List.map_reverse],hw,by omega,fun t r et m H1 s1 tm=> ?_,fun no zs H1 s1=> ?_⟩
  ·rw[Xv] at s1
   have s2:=((Zd hp (o:=.lst (ws.map V.str))).trans (Zd hR2)).trans s1;refine⟨_,rfl,_,_,rfl,.inl ⟨_,SqL.of (s1 _ _ Zc),rfl⟩,_,_,rfl,rfl,_,rfl,Xg (fun e=> ?_) (fun e=> ?_)⟩
   ·refine⟨(by show 1<=sizeLine;omega),k2 ?_ H1 s2⟩
    have e:(0:Int)<((r.reverse.map V.str).length:Nat):=of_decide_eq_true e;unfold Jr;rw[if_neg e61,et];cases r with
    |nil=>exact absurd e (by decide)
    |cons _ _=>rfl
   ·refine⟨_,rfl,k1 t ?_ m H1 s2 tm⟩;unfold Jr;rw[if_neg e61,et];cases r with
    |nil=>rfl
    |cons a b=>exact absurd (decide_eq_true (by rw[List.length_map,List.length_reverse,List.length_cons];omega)) e
  ·rw[Xv] at s1
   exact k2 (by unfold Jr;rw[if_neg e61,no]) H1 (((Zd hp (o:=.lst (ws.map V.str))).trans (Zd hR2)).trans s1)
theorem YJ.same{H H':Hp}(s:ZJ H H'):∀{as:List Addr} {ws:List Tb},YJ H as ws->YJ H' as ws
 |_,_,.nil=> .nil
 |_,_,.cons ⟨c,e,r⟩ t=> .cons ⟨c,s _ _ e,r⟩ (YJ.same s t)
theorem YJ.but{H H':Hp}(s:∀(b:Addr) (kvs:List (Key×V)),H b=some (.dK kvs)->H' b=some (.dK kvs)):∀{as:List Addr} {ws:List Tb},YJ H as ws->YJ H' as ws
 |_,_,.nil=> .nil
 |_,_,.cons ⟨c,e,r⟩ t=> .cons ⟨c,s _ _ e,r⟩ (YJ.but s t)
theorem YJ.app{H:Hp}:∀{as bs:List Addr} {ws us:List Tb},YJ H as ws->YJ H bs us->YJ H (as++bs) (ws++us)
 |_,_,_,_,.nil,k=>k
 |_,_,_,_,.cons r t,k=> .cons r (YJ.app t k)
theorem YJ.get{H:Hp}:∀{as:List Addr} {ws:List Tb},YJ H as ws->∀(i:Nat) (x:V),(as.map V.ref)[i]? =some x->∃a w c,x=.ref a/\as[i]? =some a/\ws[i]? =some w/\H a=some (.dK (kk c))/\M4.Nd c/\M4.Xk c=w
 |_,_,.nil,i,x,h=>by simp at h
 |_,_,.cons ⟨c,e,n,q⟩ t,0,x,h=>⟨_,_,c,(by simpa using h.symm),rfl,rfl,e,n,q⟩
 |_,_,.cons _ t,i+1,x,h=>YJ.get t i x (by simpa using h)
theorem YJ.len{H:Hp}{as:List Addr}{ws:List Tb}(h:YJ H as ws):as.length=ws.length:=Paired.length h
theorem Zrp{H:Hp}{a:Addr}{kvs:List (Key×V)}(h:H a=some (.dK kvs)):∀o u,H a≠some (.frz o u):=fun o u e=>by rw[h] at e;cases e
theorem Zpf{c:Tb}(h:c.length<=1000):(kk c).length<=sizeLine:=by
 have l5:=Ys;rw[Zc7];omega
theorem Zsx{c:Tb}{kv:Key×V}(h:kv∈kk c):∃p∈c,kv=(Sum.inr p.1,V.int p.2):=
 (List.mem_map.mp h).elim fun p z=>⟨p,z.1,z.2.symm⟩
def Zsy:Key->Str
 | .inr x=>x
 | .inl _=>Str.empty
def Zrq:V->Int
 | .int i=>i
 |_=>0
theorem Zsz{β:Type}(c:Tb)(f:Str->Int->β):((kk c).map fun kv=>f (Zsy kv.1) (Zrq kv.2))=c.map fun p=>f p.1 p.2:=by
 unfold kk;rw[List.map_map]
 rfl
theorem Ztv{c:Tb}{i:Nat}{kv:Key×V}(h:(kk c)[i]? =some kv):∃p,c[i]? =some p/\kv=(Sum.inr p.1,V.int p.2):=by
 unfold kk at h
 rw[List.getElem?_map] at h
 cases q:c[i]? with
 |none=>rw[q] at h;cases h
 |some p=>rw[q] at h;cases h;exact⟨p,rfl,rfl⟩
theorem Zks:ZQ ["one","other"] ["one","other"] (ZF Zem):=⟨rfl,rfl,rfl,by decide+kernel,rfl,by decide+kernel,by decide+kernel⟩
theorem Zkt{f:Addr}{fd:FuncData}(F:Fun K "is_below" "is_below" Zem f fd)(T:Txt K mg t_YEAR_DAYS t_MONTH_DAYS t_MOST_FIGURES t_MOST_LETTERS t_FIGURES t_LETTERS t_MOST_WORDS t_MOST_CLAUSES Zj Zg Zh Zb Zm ZL Zn Zo Zq Zi Zy Zv Zz ZD ZG ZM):Yo P w K mg base CX0 1 f fd ["one","other"] Zdl:=by
 refine F.ok Zks (fun vs H Q E h=> ?_) (fun cdv A outer s H vs Q E hr h=> ?_)
 ·obtain⟨a,b,c,l,rfl,_⟩:=h
  rfl
 ·obtain⟨a,b,c,l,rfl,ha,hb,hl,q⟩:=h;have hu:=ZlR hr;refine⟨_,(Zt (ZP (ZZ (ZgI rfl) (by rfl) T.z_all Zod (Za (Zq9 a (Zci ["kind","length"] [("other",1)] rfl (ZjV (ZgK (pv 0))) (by rfl) (by exact⟨rfl,trivial⟩) (by rfl) (by exact⟨⟨rfl,rfl,rfl⟩,trivial⟩) (fun _ _ _ _=>(Zqd (K:=K) 2 rfl rfl (Jf (Yn (i:=0) (show(nmY ["kind","length"] [("other",1)]).Nodup by decide+kernel) rfl (Or.inl rfl) (Or.inr rfl)) (Jf (Yn (i:=1) (show(nmY ["kind","length"] [("other",1)]).Nodup by decide+kernel) rfl (Or.inl rfl) (Or.inr rfl)) ZeC)) rfl rfl)) (fun _ _ _ _=>ZaC) (fun _ _ _ _=>(ZiF (ZrB (Zo4 hu (pv 0) (pv 2))) (ZiE (ZeD ZsW (pv 1) (ZpX hu (pv 2) (pv 0) (fun _ _=>rfl)) (ZX _))))))) Ze)))), ?_⟩
  refine Zl5 (f:=fun kv=>V.bl (match lk l (Zsy kv.1) with|some u=>decide (Zrq kv.2<=u)|none=>false)) rfl ha (Zpf hl) (Zrp ha) (fun v u=>⟨rfl,trivial⟩) (fun kv hm H3 Q3 fs k3=> ?_) fun D3 H3 s3 _ d3=> ?_
  ·obtain⟨p,hp,rfl⟩:=Zsx hm;have hg:=Zp7 (fs.rd2 ha hb) p.1;have k4:=k3 H3 (ZJ.refl _);rw[show Zsy (Sum.inr p.1)=p.1 from rfl] at k4
   refine⟨_,rfl,_,rfl,b,_,rfl,hg,_,rfl, ?_⟩;rw[Zlv];cases ev:lk l p.1 with
   |none=>
    rw[ev] at k4
    exact Zal k4
   |some u=>
    rw[ev] at k4 hg
    exact JS ⟨_,rfl,_,rfl,_,rfl,b,_,rfl,hg,_,_,rfl,rfl,k4⟩
  ·rw[Zsz c (fun k i=>V.bl (match lk l k with|some u=>decide (i<=u)|none=>false))] at d3
   refine⟨D3,c.map (fun p=>match lk l p.1 with|some u=>decide (p.2<=u)|none=>false),rfl,SqL.of (by rw[d3,List.map_map];rfl), ?_⟩
   have e:(c.map fun p=>match lk l p.1 with|some u=>decide (p.2<=u)|none=>false).all id=ZaR c l:=by
    unfold ZaR;rw[List.all_map]
    rfl
   rw[e];exact q H3 s3
theorem Zku{H H':Hp}{a:Addr}{xs:List V}(s:ZJ H H')(h:SqT K H a xs):SqT K H' a xs:=by
 rcases h with h|h
 ·rcases h with h|⟨o,h⟩
  ·exact .inl (.inl (s _ _ h))
  ·exact .inl (.inr ⟨o,s _ _ h⟩)
 ·exact .inr h
theorem Zpg{H H':Hp}{a:Addr}{xs:List V}(s:ZJ H H')(h:SqL K H a xs):SqL K H' a xs:=by
 rcases h with h|h
 ·rcases h with h|⟨o,h⟩
  ·exact .inl (.inl (s _ _ h))
  ·exact .inl (.inr ⟨o,s _ _ h⟩)
 ·exact .inr h
theorem ZqN{H H':Hp}{x:Lf}{v:V}(s:ZJ H H')(r:Rep K H (lfD x) v):Rep K H' (lfD x) v:=by
 cases r with
 |tup h r=>
  refine .tup (Zku s h) ?_;cases r with
  |cons a r=>
   cases r with
   |cons b r=>
    cases r;cases a;cases b;exact .cons (.flat rfl) (.cons (.flat rfl) .nil)
theorem Zkv{H H':Hp}{l:List Lf}{v:V}(s:ZJ H H')(r:Rep K H (ZfX l) v):Rep K H' (ZfX l) v:=by
 cases r with
 |lst h r=>
  refine .lst (Zpg s h) ?_;clear h;generalize e:l.map lfD=ds at r
  induction r generalizing l with
  |nil=>exact .nil
  |cons a t ih=>
   cases l with
   |nil=>cases e
   |cons y l=>
    rw[List.map_cons] at e
    injection e with e1 e2
    subst e1;exact .cons (ZqN s a) (ih e2)
theorem ZqO{H H':Hp}{k:Ky}{v:V}(s:ZJ H H')(r:Rep K H (kyD k) v):Rep K H' (kyD k) v:=by
 cases r with
 |tup h r=>
  refine .tup (Zku s h) ?_;cases r with
  |cons a r=>
   cases r with
   |cons b r=>
    cases r;cases a;exact .cons (.flat rfl) (.cons (Zkv s b) .nil)
theorem Zkw:ZQ ["clause"] ["clause"] (ZF Zen):=⟨rfl,rfl,rfl,by decide+kernel,rfl,by decide+kernel,by decide+kernel⟩
theorem Zkx{f:Addr}{fd:FuncData}(F:Fun K "place_of" "place_of" Zen f fd)(T:Txt K mg t_YEAR_DAYS t_MONTH_DAYS t_MOST_FIGURES t_MOST_LETTERS t_FIGURES t_LETTERS t_MOST_WORDS t_MOST_CLAUSES Zj Zg Zh Zb Zm ZL Zn Zo Zq Zi Zy Zv Zz ZD ZG ZM):Yo P w K mg base CX0 1 f fd ["clause"] (Zbq K):=by
 refine F.ok Zkw (fun vs H Q E h=> ?_) (fun cdv A outer s H vs Q E hr h=> ?_)
 ·obtain⟨a,c,rfl,_⟩:=h
  rfl
 ·obtain⟨a,c,rfl,ha,hl,q⟩:=h;have l5:=Ys;refine⟨_,(Zt (ZP (Zbu (Za (ZZ ZmQ (by rfl) T.z_len Xh (Za (pv 0) Ze)) (Za (ZZ (Zhy (K:=K) rfl rfl) (by rfl) T.z_sorted Zi1 (Za (ZgK (pv 0)) Ze)) Ze))))), ?_⟩;refine⟨_,rfl,a,_,rfl,ha,_,rfl,a,_,rfl,ha,fun v hv=>⟨v,a,c,rfl,Zc,by rw[Zr (ZC ha hv)];exact ha,by omega,fun zs pz az p H1 hp s1 rp=>⟨show 2<=sizeLine from sl,fun t ht=> ?_⟩⟩⟩
  have e:zs=M4.Xk c:=M4.Zj0 Zc9 pz az;subst e;have s2:ZJ H1 (upd H1 t (.tup [.int ((kk c).length:Int),.ref p])):=Zd ht;refine q t _ (((Zd hv).trans s1).trans s2) ?_;rw[Zc7];exact .tup (SqT.of Zc) (.cons (.flat rfl) (.cons (Zkv (Zd ht) rp) .nil))
theorem Zno(c:Tb):∀l:Tb,(M4.Xm c l).length<=c.length+l.length:=by
 have go:∀(l d:Tb),(l.foldl (fun x p=>ZeG x p.1 (max p.2 ((lk c p.1).getD p.2))) d).length<=d.length+l.length:=by
  intro l
  induction l with
  |nil=>exact fun d=>Nat.le_refl _
  |cons p r ih=>
   intro d;have h1:=ih (ZeG d p.1 (max p.2 ((lk c p.1).getD p.2)));have h2:=Zl6 d p.1 (max p.2 ((lk c p.1).getD p.2));rw[List.length_cons,List.foldl_cons];omega
 exact fun l=>go l c
theorem Znp{c l:Tb}{i:Nat}{p:Str×Int}(h:l[i]? =some p):M4.Xm c (l.take (i+1))=ZeG (M4.Xm c (l.take i)) p.1 (max p.2 ((lk c p.1).getD p.2)):=by
 unfold M4.Xm;rw[List.take_add_one,h,List.foldl_append]
 rfl
theorem ZdX:ZQ ["one","other","clause","kind","length"] ["one","other"] (ZF ZgS):=⟨rfl,rfl,rfl,by decide+kernel,rfl,by decide+kernel,by decide+kernel⟩
theorem Znq{f:Addr}{fd:FuncData}(F:Fun K "joined" "joined" ZgS f fd)(T:Txt K mg t_YEAR_DAYS t_MONTH_DAYS t_MOST_FIGURES t_MOST_LETTERS t_FIGURES t_LETTERS t_MOST_WORDS t_MOST_CLAUSES Zj Zg Zh Zb Zm ZL Zn Zo Zq Zi Zy Zv Zz ZD ZG ZM):Yo P w K mg base CX0 1 f fd ["one","other"] Zfq:=by
 refine F.ok ZdX (fun vs H Q E h=> ?_) (fun cdv A outer s H vs Q E hr h=> ?_)
 ·obtain⟨a,b,c,l,rfl,_⟩:=h
  rfl
 ·obtain⟨a,b,c,l,rfl,ha,hb,hc,hl,q⟩:=h;have l5:=Ys;have hu:=ZlR hr;refine⟨_,(Zf (ZK (i:=2) ZdX.nd rfl (Or.inl rfl) (XQ ZiR (by rfl) T.z_dict Zq5 (Za (pv 0) Ze))) (Zf (Zqa b (ZcZ PassesOwn.never rfl (ZjV (ZgK (pv 1))) (Zgx rfl (Jf (Yn (i:=3) ZdX.nd rfl (Or.inl rfl)) (Jf (Yn (i:=4) ZdX.nd rfl (Or.inl rfl)) ZeC))) (Zt (ZlQ hu (pv 2) (pv 3) (ZZ (ZmL rfl) (by rfl) T.z_max ZrW (Za (pv 4) (Za (Zo7 hu (pv 0) (pv 3) (pv 4) ⟨rfl,rfl,rfl,rfl⟩) Ze))) rfl)))) (Zt (ZP (pv 2))))), ?_⟩
  refine⟨_,rfl,a,_,rfl,ha,fun p hp=> ?_⟩;have npb:b≠p:=ZC hb hp;have hb1:upd H p (.dK (kk c)) b=some (.dK (kk l)):=by rw[Zr npb];exact hb
  refine⟨_,rfl,b,_,rfl,hb1,fun v hv=>⟨v,b,_,rfl,Zc,by rw[Zr (ZC hb1 hv)];exact hb1,fun o=> ?_⟩⟩
  have nvb:b≠v:=ZC hb1 hv;have npv:p≠v:=ZC Zc hv;refine Zoo (J:=Iti b o (kk l)) (n:=l.length) (fun i σ H'=>∃v3 v4,σ=[some (.ref a),some (.ref b),some (.ref p),v3,v4]/\H' p=some (.dK (kk (M4.Xm c (l.take i))))/\(∀b' u,b'≠b->H b'=some u->H' b'=some u)/\H' b=some (.frz o (.dK (kk l)))) ?_ ?_ ?_ ?_
  ·exact⟨none,none,rfl,by rw[Zr (Ne.symm npb),Zr npv];exact Zc,fun b' u n e=>by rw[Zr n];exact Zd hv _ _ (Zd hp _ _ e),Zc⟩
  ·rintro i σ H1 hi ⟨v3,v4,rfl,d1,f1,g1⟩;exact⟨g1,by rw[Zc7];exact hi⟩
  ·rintro σ H1 ⟨v3,v4,rfl,d1,f1,g1⟩;rw[List.take_of_length_le (Nat.le_refl _)] at d1
   refine⟨⟨g1,by rw[Zc7];exact Nat.le_refl _⟩,upd H1 b (.dK (kk l)),⟨Zrp hb,o,_,g1,rfl⟩, ?_⟩
   refine⟨_,rfl,q p _ hp (fun b' u e=> ?_) (by rw[Zr (Ne.symm npb)];exact d1)⟩
   by_cases z:b'=b
   ·subst z;rw[hb] at e
    cases e;exact Zc
   ·rw[Zr z];exact f1 b' u z e
  ·rintro i x σ H1 H2 hi ⟨v3,v4,rfl,d1,f1,g1⟩ ⟨kv,pp,e3,hpp,rfl,rfl⟩;obtain⟨pr,e5,rfl⟩:=Ztv e3;have npp:p≠pp:=ZC d1 hpp;refine⟨pp,_,rfl,SqT.of Zc,rfl,_,_,rfl,_,_,rfl,rfl, ?_⟩;have sp:ZJ H1 (upd H1 pp (.tup [kV (Sum.inr pr.1),V.int pr.2])):=Zd hpp;have rdA:Rd (upd H1 pp (.tup [kV (Sum.inr pr.1),V.int pr.2])) a (.dK (kk c)):=by
    by_cases z:a=b
    ·subst z;rcases ha with h|⟨o',h⟩
     ·rw[hb] at h
      injection h with h
      injection h with h
      exact .inr ⟨o,by rw[<-h];exact sp _ _ g1⟩
     ·rw[hb] at h;cases h
    ·rcases ha with h|⟨o',h⟩
     ·exact .inl (sp _ _ (f1 _ _ z h))
     ·exact .inr ⟨o',sp _ _ (f1 _ _ z h)⟩
   have ej:((lk c pr.1).map V.int).getD (V.int pr.2)=V.int ((lk c pr.1).getD pr.2):=by cases lk c pr.1<;>rfl
   have len:(kk (M4.Xm c (l.take i))).length<sizeLine:=by
    have:=Zno c (l.take i);have:=List.length_take_le i l;rw[Zc7];omega
   refine⟨_,rfl,_,rfl,a,rfl,.inl ⟨_,rdA⟩,_,rfl,_,rfl,_,Zp7 rdA pr.1,pr.2,(lk c pr.1).getD pr.2,by rw[ej],_,rfl,_,rfl,p,_,rfl,Zo3.k (k:=Sum.inr pr.1) (sp _ _ d1) len, ?_⟩;refine⟨_,_,rfl, ?_,fun b' u n e=> ?_,by rw[Zr npb];exact sp _ _ g1⟩
   ·rw[Zs7,Zc,Znp e5]
    congr 4
    split<;>omega
   ·have nb:b'≠p:=ZC e hp;rw[Zr nb];exact sp _ _ (f1 b' u n e)
theorem YJ.sizes{H:Hp}{as:List Addr}{ws:List Tb}{i:Nat}{w c:Tb}{n:Nat}(hw:∀w∈ws,w.length<=n)(e:ws[i]? =some w)(q:M4.Xk c=w):c.length<=n:=by
 rw[<-M4.ZaX c,q];exact hw w (List.mem_of_getElem? e)
theorem ZbO:ZQ ["ones","others","clauses","one"] ["ones","others"] (ZF Zct):=⟨rfl,rfl,rfl,by decide+kernel,rfl,by decide+kernel,by decide+kernel⟩
theorem ZhJ{f:Addr}{fd:FuncData}(F:Fun K "all_joined" "all_joined" Zct f fd)(T:Txt K mg t_YEAR_DAYS t_MONTH_DAYS t_MOST_FIGURES t_MOST_LETTERS t_FIGURES t_LETTERS t_MOST_WORDS t_MOST_CLAUSES Zj Zg Zh Zb Zm ZL Zn Zo Zq Zi Zy Zv Zz ZD ZG ZM)(Zh9:Cal P w K mg base CX0 1 "joined" ["one","other"] Zfq):Yo P w K mg base CX0 2 f fd ["ones","others"] ZbK:=by
 refine F.ok ZbO (fun vs H Q E h=> ?_) (fun cdv A outer s H vs Q E hr h=> ?_)
 ·obtain⟨p,q,as,bs,ws,us,rfl,_⟩:=h
  rfl
 ·obtain⟨p,q,as,bs,ws,us,rfl,hp,hq,ca,cb,ln,lb,wa,wb,k⟩:=h;have l5:=Ys;refine⟨_,(Zf (ZK (i:=2) ZbO.nd rfl (Or.inl rfl) (Yj Ze)) (Zf (ZcZ PassesOwn.never rfl (ZaA (pv 0)) (Yn (i:=3) ZbO.nd rfl (Or.inr rfl)) (Zt (Xw (Je PySem.F.plainAttrs_list PySem.F.slot_list_extend PySem.F.type_list_extend ZhV (pv 2) (Za (Zci ["other"] [("one",3)] rfl (ZaA (pv 1)) (by rfl) (by exact⟨rfl,trivial⟩) (by rfl) (by exact⟨⟨rfl,rfl,rfl⟩,trivial⟩) (fun _ _ _ _=>(Yn (i:=0) (show(nmY ["other"] [("one",3)]).Nodup by decide+kernel) rfl (Or.inl rfl))) (fun _ _ _ _=>ZaC) (fun _ _ _ _=>(Yd Zh9 (hr.mono (by omega)) rfl Yp (Za (pv 1) (Za (pv 0) Ze))))) Ze))))) (Zt (ZP (pv 2))))), ?_⟩
  refine⟨Nat.zero_le _,fun S hS=>⟨_,rfl,p,rfl,⟨_,SqL.of (Zd hS _ _ hp)⟩,ZjH (xs:=as.map V.ref) (fun i σ H'=>∃(ds:List Addr) (v3:Option V),σ=[some (.ref p),some (.ref q),some (.ref S),v3]/\H' S=some (.lst (ds.map V.ref))/\YJ H' ds ((ws.take i).flatMap fun x=>us.map fun y=>M4.Xk (M4.Xm x y))/\(∀d∈ds,H d=none)/\ZJ H H'/\ds.length=i*bs.length) ?_ ?_ ?_ ?_⟩⟩
  ·exact⟨[],none,rfl,Zc,by rw[List.take_zero];exact .nil,(fun d hd=>nomatch hd),Zd hS,by simp⟩
  ·rintro i σ H1 _ ⟨ds,v3,rfl,d1,c1,n1,s1,l1⟩;exact SqL.of (s1 _ _ hp)
  ·rintro i x σ H1 hx ⟨ds,v3,rfl,d1,c1,n1,s1,l1⟩;obtain⟨a,w,c,rfl,e1,e2,e3,e4,e5⟩:=YJ.get (ca.same s1) i x hx;have hi:i<as.length:=(List.getElem?_eq_some_iff.mp e1).1;have hc:=YJ.sizes (H:=H1) (as:=as) wa e2 e5;refine⟨_,rfl,.inl ⟨rfl,_,SqL.of d1⟩,_,rfl,q,rfl,⟨_,SqL.of (s1 _ _ hq)⟩,ZjW fun D hD=>⟨bs.length,fun j ys H2=>∃es:List Addr,ys=es.map V.ref/\YJ H2 es ((us.take j).map fun y=>M4.Xk (M4.Xm w y))/\(∀d∈es,H1 d=none)/\ZJ H1 H2/\es.length=j, ?_⟩⟩
   have hSD:S≠D:=ZC d1 hD;refine⟨by omega,⟨[],rfl,by rw[List.take_zero];exact .nil,(fun d hd=>nomatch hd),Zd hD,rfl⟩,fun j ys H2 z=> ?_,fun j ys zs H2 H3 e kp z=> ?_,fun j ys H2 z lt=> ?_,fun ys H2 z e=> ?_,fun j y ys H2 H3 z e lt yl RT RF rt rf=> ?_⟩
   ·obtain⟨es,rfl,_,_,_,le⟩:=z;rw[List.length_map,le];exact Nat.le_refl _
   ·obtain⟨es,rfl,c2,n2,s2,le⟩:=z;refine⟨es,rfl,YJ.but (fun b u h1=>kp b _ (fun w=>by rw[w,e] at h1;cases h1) h1) c2,n2,fun b u h1=>kp b u (ZC h1 hD) (s2 b u h1),le⟩
   ·obtain⟨es,rfl,c2,n2,s2,le⟩:=z;exact⟨_,_,SqL.of (s2 _ _ (s1 _ _ hq)),List.getElem?_eq_getElem (by rw[List.length_map];exact lt)⟩
   ·obtain⟨es,rfl,c2,n2,s2,le⟩:=z;refine⟨⟨_,SqL.of (s2 _ _ (s1 _ _ hq)),by rw[List.length_map];exact Nat.le_refl _⟩, ?_⟩
    rw[cb.len,List.take_of_length_le (Nat.le_refl _)] at c2
    have d2:=s2 _ _ d1;have nDS:D≠S:=fun z=>hSD z.symm;refine⟨S,D,_,_,rfl,rfl,d2,e, ?_,ds++es,_,rfl, ?_, ?_,fun d hd=> ?_,fun b u h1=> ?_, ?_⟩
    ·rw[List.length_map,List.length_map,l1,le];have:i*bs.length<=as.length*bs.length:=Nat.mul_le_mul_right _ (Nat.le_of_lt hi);omega
    ·rw[Zc,List.map_append]
    ·have e6:(ws.take (i+1)).flatMap (fun x=>us.map fun y=>M4.Xk (M4.Xm x y))=(ws.take i).flatMap (fun x=>us.map fun y=>M4.Xk (M4.Xm x y))++us.map fun y=>M4.Xk (M4.Xm w y):=by
      rw[List.take_add_one,e2,List.flatMap_append];simp
     rw[e6];exact YJ.but (fun b u h1=>by rw[Zr (fun w=>by rw[w,d2] at h1;cases h1)];exact h1) (YJ.app (c1.same s2) c2)
    ·rcases List.mem_append.mp hd with z|z
     ·exact n1 d z
     ·cases q2:H d with
      |none=>rfl
      |some u=>have:=s1 d u q2;rw[n2 d z] at this;cases this
    ·rw[Zr (ZC h1 hS)];exact s2 b u (s1 b u h1)
    ·rw[List.length_append,l1,le,Nat.succ_mul]
   ·obtain⟨es,rfl,c2,n2,s2,le⟩:=z;obtain⟨rfl,yl⟩:=yl;have hy:=yl _ (SqL.of (s2 _ _ (s1 _ _ hq)));obtain⟨a',w',c',rfl,f1,f2,f3,f4,f5⟩:=YJ.get (cb.same (s1.trans s2)) j y hy;have hc':=YJ.sizes (H:=H1) (as:=as) wb f2 f5;refine⟨⟨rfl,trivial⟩, ?_⟩;unfold ZcR;refine JS ⟨_,rfl,_,rfl,a,a',c,c',rfl,.inl (s2 _ _ e3),f3,by omega,by omega,fun pd H6 hpd s6 d6=>rt _ H6 (s6 _ _ e) ⟨es++[pd],by rw[List.map_append];rfl, ?_,fun d hd=> ?_,s2.trans s6,by rw[List.length_append,le];rfl⟩⟩
    ·rw[List.take_add_one,f2,List.map_append];exact YJ.app (c2.same s6) (.cons ⟨_,d6,M4.ZdT e4,by rw[<-e5,<-f5];exact M4.Zn6 e4 f4 (M4.Zj1 e4) (M4.Zj1 f4) (M4.Zid c).symm (M4.Zid c').symm⟩ .nil)
    ·rcases List.mem_append.mp hd with z|z
     ·exact n2 d z
     ·have e7:d=pd:=by simpa using z
      subst e7;cases q2:H1 d with
      |none=>rfl
      |some u=>have:=s2 d u q2;rw[hpd] at this;cases this
  ·rintro σ H1 ⟨ds,v3,rfl,d1,c1,n1,s1,l1⟩;rw[List.length_map,ca.len,List.take_of_length_le (Nat.le_refl _)] at c1
   exact⟨_,rfl,k S ds H1 hS s1 d1 c1 n1⟩
theorem ZqP(c:Tb):((c.length:Int),M4.Xk c)=M4.Zej (M4.Xk c):=by
 unfold M4.Zej;rw[M4.ZaX]
theorem Zky{H:Hp}:∀{kk ll:List Ky} {xs ys:List V},Paired (fun y x=>Rep K H (kyD y) x) kk xs->Paired (fun y x=>Rep K H (kyD y) x) ll ys->Paired (fun y x=>Rep K H (kyD y) x) (kk++ll) (xs++ys)
 |_,_,_,_,.nil,k=>k
 |_,_,_,_,.cons r t,k=> .cons r (Zky t k)
theorem Zim{H H':Hp}(s:ZJ H H'):∀{kk:List Ky} {xs:List V},Paired (fun y x=>Rep K H (kyD y) x) kk xs->Paired (fun y x=>Rep K H' (kyD y) x) kk xs
 |_,_,.nil=> .nil
 |_,_,.cons r t=> .cons (ZqO s r) (Zim s t)
theorem Zph{R:List V->Hp->Prop}:∀{as:List Addr} {ws:List Tb} {H:Hp} {kk:List Ky} {ks:List V},YJ H as ws->(∀w∈ws,w.length<64)->Paired (fun y x=>Rep K H (kyD y) x) kk ks->
  (∀kx H2,ZJ H H2->Paired (fun y x=>Rep K H2 (kyD y) x) (kk++ws.map M4.Zej) kx->R kx H2)->kys (Zbq K) (as.map V.ref) ks H R
 |_,_,H,kk,ks,.nil,_,rp,q=>q ks H (ZJ.refl H) (by rw[List.map_nil,List.append_nil];exact rp)
 |_,_,H,kk,ks,.cons (a:=a) (b:=w) ⟨c,e,n,e2⟩ t,hl,rp,q=>by
  have lc:c.length<64:=by rw[<-M4.ZaX c,e2];exact hl w (List.mem_cons_self ..)
  refine⟨a,c,rfl,e,lc,fun pt H' s' r'=> ?_⟩;rw[ZqP c,e2] at r'
  refine Zph (YJ.same s' t) (fun w' hw=>hl w' (List.mem_cons_of_mem _ hw)) (Zky (Zim s' rp) (.cons r' .nil)) fun kx H2 s2 r2=>q kx H2 (s'.trans s2) ?_;rw[List.append_assoc] at r2
  exact r2
theorem Zpi{H:Hp}{as:List Addr}:∀zs:List (V×Ky),(∀z∈zs,∃a w,z=(V.ref a,M4.Zej w)/\a∈as/\∃c,H a=some (.dK (kk c))/\M4.Nd c/\M4.Xk c=w)->∃bs:List Addr,zs.map (·.1)=bs.map V.ref/\YJ H bs (zs.map (·.2.2))/\∀b∈bs,b∈as
 |[],_=>⟨[],rfl,.nil,fun b hb=>nomatch hb⟩
 |z::zs,h=>by
  obtain⟨a,w,rfl,m,c,e⟩:=h z (List.mem_cons_self ..);obtain⟨bs,e1,e2,e3⟩:=Zpi zs fun y hy=>h y (List.mem_cons_of_mem _ hy);refine⟨a::bs,by rw[List.map_cons,List.map_cons,e1],.cons ⟨c,e⟩ e2,fun b hb=> ?_⟩;obtain rfl|hb:=List.mem_cons.mp hb
  ·exact m
  ·exact e3 b hb
theorem Zpj{H:Hp}:∀{as:List Addr} {ws:List Tb},YJ H as ws->∀z∈(as.map V.ref).zip (ws.map M4.Zej),∃a w,z=(V.ref a,M4.Zej w)/\a∈as/\∃c,H a=some (.dK (kk c))/\M4.Nd c/\M4.Xk c=w
 |_,_,.nil,z,hz=>by simp at hz
 |_,_,.cons (a:=a) (b:=w) r t,z,hz=>by
  rw[List.map_cons,List.map_cons,List.zip_cons_cons] at hz
  obtain rfl|hz:=List.mem_cons.mp hz
  ·exact⟨a,w,rfl,List.mem_cons_self ..,r⟩
  ·obtain⟨a',w',e,m,r'⟩:=Zpj t z hz;exact⟨a',w',e,List.mem_cons_of_mem _ m,r'⟩
theorem Zpk{H:Hp}{as:List Addr}{ws:List Tb}(h:YJ H as ws){zs:List (V×Ky)}(pz:zs.Perm ((as.map V.ref).zip (ws.map M4.Zej)))(az:zs.Pairwise fun a b=>Zk4 b.2 a.2=false):
  ∃bs:List Addr,zs.map (·.1)=bs.map V.ref/\YJ H bs (M4.Xe M4.ZaD ws)/\∀b∈bs,b∈as:=by
 have each:=fun z (hz:z∈zs)=>Zpj h z (pz.mem_iff.mp hz);obtain⟨bs,e1,e2,e3⟩:=Zpi zs each;refine⟨bs,e1, ?_,e3⟩;have e:zs.map (·.2.2)=M4.Xe M4.ZaD ws:=by
  refine M4.Zj0 M4.ZoQ ?_ ?_
  ·have:=pz.map (·.2.2);have e4:((as.map V.ref).zip (ws.map M4.Zej)).map (·.2.2)=ws:=by
    have e5:((as.map V.ref).zip (ws.map M4.Zej)).map (·.2.2)=(((as.map V.ref).zip (ws.map M4.Zej)).map (·.2)).map (·.2):=by rw[List.map_map];rfl
    rw[e5,List.map_snd_zip (by rw[List.length_map,List.length_map,h.len];exact Nat.le_refl _),List.map_map]
    exact List.map_id' ws
   rw[e4] at this
   exact this
  ·unfold M4.Asc;rw[List.pairwise_map];refine az.imp_of_mem fun{x y} hx hy z=> ?_;obtain⟨a,w,rfl,_⟩:=each x hx;obtain⟨a',w',rfl,_⟩:=each y hy;exact z
 rw[e] at e2
 exact e2
theorem Znr(cs:List Tb)(i:Nat):((cs.take i).foldl M4.keep []).length<=(M4.Zfi cs).length:=by
 obtain⟨r,e,_⟩:=M4.Zca (cs.drop i) ((cs.take i).foldl M4.keep []);have z:M4.Zfi cs=(cs.take i).foldl M4.keep []++r:=by
  rw[<-e,<-List.foldl_append,List.take_append_drop]
  rfl
 rw[z,List.length_append];exact Nat.le_add_right _ _
theorem Zpl{β:Type}(l:List β)(f:β->Bool):(l.map f).any id=l.any f:=by rw[List.any_map];rfl
theorem Zet:ZQ ["clauses","kept","clause"] ["clauses"] (ZF Zfo):=⟨rfl,rfl,rfl,by decide+kernel,rfl,by decide+kernel,by decide+kernel⟩
theorem Zlz{f:Addr}{fd:FuncData}(F:Fun K "thinned" "thinned" Zfo f fd)(T:Txt K mg t_YEAR_DAYS t_MONTH_DAYS t_MOST_FIGURES t_MOST_LETTERS t_FIGURES t_LETTERS t_MOST_WORDS t_MOST_CLAUSES Zj Zg Zh Zb Zm ZL Zn Zo Zq Zi Zy Zv Zz ZD ZG ZM)(o_TooWide:ZeJ "TooWide" Zq mg base)(Zeu:Cal P w K mg base CX0 1 "is_below" ["one","other"] Zdl)(Zev:Cal P w K mg base CX0 1 "place_of" ["clause"] (Zbq K)):Yo P w K mg base (CXr P w) 4 f fd ["clauses"] (Zes Zq):=by
 refine okX F Zet (fun vs H Q E h=> ?_) (fun cdv A outer s H vs Q E hr h=> ?_)
 ·obtain⟨p,as,ws,rfl,_⟩:=h
  rfl
 ·obtain⟨p,as,ws,rfl,hp,ca,lw,sw,k,kw⟩:=h;have l5:=Ys;refine⟨_,(Zf (ZK (i:=1) Zet.nd rfl (Or.inl rfl) (Yj Ze)) (Zf (ZcZ PassesOwn.leaving rfl (ZaA (Zlk Zev (hr.mono (by omega)) (by rfl) T.z_sorted (by rfl) (Za (pv 0) Ze))) (Yn (i:=2) Zet.nd rfl (Or.inr rfl)) (Zf (Yi (Zed (ZaO (ZZ (Zl4 rfl) (by rfl) T.z_any ZrZ (Za (Zci ["low"] [("clause",2)] rfl (ZaA (pv 1)) (by rfl) (by exact⟨rfl,trivial⟩) (by rfl) (by exact⟨⟨rfl,rfl,rfl⟩,trivial⟩) (fun _ _ _ _=>(Yn (i:=0) (show(nmY ["low"] [("clause",2)]).Nodup by decide+kernel) rfl (Or.inl rfl))) (fun _ _ _ _=>ZaC) (fun _ _ _ _=>(Yd Zeu (hr.mono (by omega)) rfl Yp (Za (pv 0) (Za (pv 1) Ze))))) Ze)))) (Zt (Xw (Je PySem.F.plainAttrs_list PySem.F.slot_list_append PySem.F.type_list_append XR (pv 1) (Za (pv 2) Ze)))) ZS) (Zt (Yi (ZR ZfI (ZZ Yr (by rfl) T.z_len Xh (Za (pv 1) Ze)) (Yk (v:=.int 40) rfl T.g_MOST_CLAUSES ⟨_,rfl⟩) (ZX _)) (Zt (ZaU JC o_TooWide rfl rfl (Za (Zbm (YF Zam (YF (Zj6 (Yk (v:=.int 40) rfl T.g_MOST_CLAUSES ⟨_,rfl⟩)) (YF Zam Zd5)))) Ze))) ZS)))) (Zt (ZP (pv 1))))), ?_⟩
  refine⟨Nat.zero_le _,fun S hS=> ?_⟩;have s0:ZJ H (upd H S (.lst [])):=Zd hS;refine⟨_,rfl,p,as.map V.ref,rfl,SqL.of (s0 _ _ hp),by rw[List.length_map,ca.len];omega,Zph (ca.same s0) sw .nil fun kx H2 s2 rp=>⟨ws.map M4.Zej,rp,fun zs pz az D hD=> ?_⟩⟩
  obtain⟨bs,e1,cb,mb⟩:=Zpk (ca.same (s0.trans s2)) pz az;have s3:=(s0.trans s2).trans (Zd (o:=.lst (zs.map (·.1))) hD);have dS:upd H2 D (.lst (zs.map (·.1))) S=some (.lst []):=Zd hD _ _ (s2 _ _ Zc);have dD:upd H2 D (.lst (zs.map (·.1))) D=some (.lst (bs.map V.ref)):=by rw[Zc,e1]
  have cb:=cb.same (Zd (o:=.lst (zs.map (·.1))) hD);have lb:bs.length=ws.length:=by rw[cb.len,ZdV]
  have nSD:S≠D:=ZC (s2 _ _ Zc) hD;generalize upd H2 D (.lst (zs.map (·.1)))=H3 at s3 dS dD cb
  refine⟨D,rfl,⟨_,SqL.of dD⟩,ZjH (xs:=bs.map V.ref) (fun i σ H'=>∃(ds:List Addr) (v2:Option V),σ=[some (.ref p),some (.ref S),v2]/\H' S=some (.lst (ds.map V.ref))/\YJ H' ds (((M4.Xe M4.ZaD ws).take i).foldl M4.keep [])/\(∀d∈ds,d∈as)/\(((M4.Xe M4.ZaD ws).take i).foldl M4.keep []).length<=40/\∀b u,b≠S->H3 b=some u->H' b=some u) ?_ ?_ ?_ ?_⟩
  ·exact⟨[],none,rfl,dS,by rw[List.take_zero];exact .nil,(fun d hd=>nomatch hd),Nat.zero_le _,fun b u _ e=>e⟩
  ·rintro i σ H1 _ ⟨ds,v2,rfl,d1,c1,n1,lk,k1⟩;exact SqL.of (k1 _ _ (Ne.symm nSD) dD)
  ·rintro i x σ H1 hx ⟨ds,v2,rfl,d1,c1,n1,lk,k1⟩;have cb1:YJ H1 bs (M4.Xe M4.ZaD ws):=YJ.but (fun b u h1=>k1 b _ (fun z=>by rw[z,dS] at h1;cases h1) h1) cb
   obtain⟨a,w,c,rfl,e1,e2,e3,e4,e5⟩:=YJ.get cb1 i x hx;have hi:i<(M4.Xe M4.ZaD ws).length:=(List.getElem?_eq_some_iff.mp e2).1;rw[ZdV] at hi
   have enx:((M4.Xe M4.ZaD ws).take (i+1)).foldl M4.keep []=M4.keep (((M4.Xe M4.ZaD ws).take i).foldl M4.keep []) w:=by
    rw[List.take_add_one,e2,List.foldl_append]
    rfl
   have lk2:=Znr (M4.Xe M4.ZaD ws) (i+1);rw[enx] at lk2
   have wl:∀u∈((M4.Xe M4.ZaD ws).take i).foldl M4.keep [],u.length<64:=fun u hu=>by
    obtain⟨r,e,s⟩:=M4.Zca ((M4.Xe M4.ZaD ws).take i) [];rw[e,List.nil_append] at hu
    exact sw u (Zcb.mp (List.mem_of_mem_take (s.subset hu)))
   rw[enx];generalize ((M4.Xe M4.ZaD ws).take i).foldl M4.keep []=kf at c1 lk lk2 wl
   refine⟨_,rfl,S,rfl,⟨_,SqL.of d1⟩,Zcl ds.length (fun j=>[((kf[j]?).map fun low=>V.bl (ZaR low w)).getD .non]) (by rw[c1.len];omega) (fun j=>Nat.le_refl 1) (fun j H4 s4 lt=>⟨_,_,SqL.of (s4 _ _ d1),List.getElem?_eq_getElem (by rw[List.length_map];exact lt)⟩) (fun H4 s4=>⟨_,SqL.of (s4 _ _ d1),by rw[List.length_map];exact Nat.le_refl _⟩) (fun j y H4 H5 s4 lt yl RT RF rt rf=> ?_) fun D4 H4 hD4 s4 d4=> ?_⟩
   ·obtain⟨rfl,yl⟩:=yl;have hy:=yl _ (SqL.of (s4 _ _ d1));obtain⟨a',w',c',rfl,f1,f2,f3,f4,f5⟩:=YJ.get (c1.same s4) j y hy;have lc':c'.length<=1000:=by
     have:=wl w' (List.mem_of_getElem? f2);rw[<-f5,M4.ZaX] at this
     omega
    refine⟨⟨rfl,trivial⟩, ?_⟩;unfold ZcR;refine JS ⟨_,rfl,_,rfl,a',a,c',c,rfl,f3,.inl (s4 _ _ e3),lc',fun H6 s6=>rt _ H6 ?_ s6⟩;rw[f2,<-e5,<-f5];show[V.bl (ZaR (M4.Xk c') (M4.Xk c))]=_;rw[M4.Zll e4]
   ·have e6:(List.range ds.length).flatMap (fun j=>[((kf[j]?).map fun low=>V.bl (ZaR low w)).getD .non])=(kf.map fun low=>ZaR low w).map V.bl:=by
     rw[Xr,c1.len,ZaI kf (fun low=>V.bl (ZaR low w)) .non,List.map_map]
     rfl
    rw[e6] at d4
    refine⟨D4,_,rfl,SqL.of d4,_,rfl, ?_⟩;rw[Zpl];have dS4:=s4 _ _ d1;cases ea:kf.any fun low=>ZaR low w with
    |true=>
     have ek:M4.keep kf w=kf:=if_pos ea;rw[ek];refine Zal ?_;refine⟨_,rfl,_,_,rfl,.inl ⟨_,SqL.of dS4,rfl⟩,_,_,rfl,rfl,_,rfl,Xg (fun e=> ?_) (fun e=>⟨ds,_,rfl,dS4,c1.same s4,n1,lk,fun b u n z=>s4 _ _ (k1 b u n z)⟩)⟩;have e:=of_decide_eq_true e;rw[List.length_map,c1.len] at e
     exact absurd e (by omega)
    |false=>
     have ek:M4.keep kf w=kf++[w]:=if_neg (by rw[ea];exact Bool.false_ne_true)
     rw[ek,List.length_append] at lk2
     rw[ek];refine JS ?_;have l6:(ds.map V.ref).length<sizeLine:=by rw[List.length_map,c1.len];omega
     have dS5:upd H4 S (.lst (ds.map V.ref++[V.ref a])) S=some (.lst ((ds++[a]).map V.ref)):=by rw[Zc,List.map_append];rfl
     refine⟨_,rfl,.inl ⟨rfl,_,SqL.of dS4⟩,_,rfl,S,_,_,rfl,rfl,dS4,l6, ?_⟩;have c5:YJ (upd H4 S (.lst (ds.map V.ref++[V.ref a]))) (ds++[a]) (kf++[w]):=YJ.but (fun b u h1=>by rw[Zr (fun z=>by rw[z,dS4] at h1;cases h1)];exact h1) (YJ.app (c1.same s4) (.cons ⟨c,s4 _ _ e3,e4,e5⟩ .nil))
     have l7:((ds++[a]).map V.ref).length=kf.length+1:=by rw[List.length_map,List.length_append,c1.len];rfl
     refine⟨_,rfl,_,_,rfl,.inl ⟨_,SqL.of dS5,rfl⟩,_,_,rfl,rfl,_,rfl,Xg (fun e=> ?_) (fun e=>⟨ds++[a],_,rfl,dS5,c5,fun d hd=> ?_, ?_,fun b u n z=>by rw[Zr n];exact s4 _ _ (k1 b u n z)⟩)⟩
     ·have e:=of_decide_eq_true e;rw[l7] at e
      have big:40<(M4.Zfi (M4.Xe M4.ZaD ws)).length:=by
       have lk2:kf.length+1<=(M4.Zfi (M4.Xe M4.ZaD ws)).length:=lk2;omega
      have sm:ZJ H (upd H4 S (.lst (ds.map V.ref++[V.ref a]))):=fun b u e=>by
       rw[Zr (ZC e hS)];exact s4 _ _ (k1 b u (ZC e hS) (s3 b u e))
      have rx:=kw big _ sm;exact⟨Nat.le_trans (show(Str.empty++Str.ofString "a part of the term has more than ").length<=100 by decide+kernel) (by omega),40,rfl,by decide+kernel,Nat.le_trans (show(Str.empty++Str.ofString "a part of the term has more than "++Str.ofString (toString (40:Int))).length<=100 by decide+kernel) (by omega),Nat.le_trans (show(Str.empty++Str.ofString "a part of the term has more than "++Str.ofString (toString (40:Int))++Str.ofString " least clauses").length<=100 by decide+kernel) (by omega),Nat.le_trans (show(Str.empty++Str.ofString "a part of the term has more than "++Str.ofString (toString (40:Int))++Str.ofString " least clauses").length<=100 by decide+kernel) (by omega),show 1<=sizeLine from sl,rx⟩
     ·rcases List.mem_append.mp hd with z|z
      ·exact n1 d z
      ·have e7:d=a:=by simpa using z
       subst e7;exact mb d (List.mem_of_getElem? e1)
     ·have e:¬(40:Int)<((((ds++[a]).map V.ref).length:Nat):Int):=fun z=>e (decide_eq_true z);rw[l7] at e
      show(kf++[w]).length<=40;rw[List.length_append];show kf.length+1<=40;omega
  ·rintro σ H1 ⟨ds,v2,rfl,d1,c1,n1,lk,k1⟩;rw[List.length_map,cb.len,List.take_of_length_le (Nat.le_refl _)] at c1 lk
   exact⟨_,rfl,k lk S ds H1 hS (fun b u e=>k1 b u (ZC e hS) (s3 b u e)) d1 c1 n1⟩
theorem none_of{H H':Hp}{r:Addr}(s:ZJ H H')(h:H' r=none):H r=none:=by
 cases z:H r with
 |none=>rfl
 |some u=>rw[s r u z] at h;cases h
theorem Zf0{x y:Tr}:Ji (.later x y)=(Ji x&&Ji y&&decide ((Yq (.later x y)).length<=40)):=rfl
theorem Zdq{x y:Tr}:Ji (.earlier x y)=(Ji x&&Ji y&&decide ((Yq (.earlier x y)).length<=40)):=rfl
theorem Zpm:ZQ ["term"] ["term"] (ZF Zje):=⟨rfl,rfl,rfl,by decide+kernel,rfl,by decide+kernel,by decide+kernel⟩
theorem Zpn{f:Addr}{fd:FuncData}(F:Fun K "least" "least" Zje f fd)(T:Txt K mg t_YEAR_DAYS t_MONTH_DAYS t_MOST_FIGURES t_MOST_LETTERS t_FIGURES t_LETTERS t_MOST_WORDS t_MOST_CLAUSES Zj Zg Zh Zb Zm ZL Zn Zo Zq Zi Zy Zv Zz ZD ZG ZM)(n:Nat)(ZcF:Cal P w K mg base CX0 2 "all_joined" ["ones","others"] ZbK)(Zbs:Cal P w K mg base (CXr P w) (4+n+1) "least" ["term"] (Zdm Zj Zg Zh Zb Zq n))(ZdY:Cal P w K mg base (CXr P w) 4 "thinned" ["clauses"] (Zes Zq)):Yo P w K mg base (CXr P w) (4+n+1+1) f fd ["term"] (Zdm Zj Zg Zh Zb Zq (n+1)):=by
 refine okX F Zpm (fun vs H Q E h=> ?_) (fun cdv A outer s H vs Q E hr h=> ?_)
 ·obtain⟨a,t,rfl,_⟩:=h
  rfl
 ·obtain⟨a,t,rfl,ht,hd,hc,q,qx⟩:=h;have l5:=Ys;refine⟨_,(Zf (Yi (ZaO (ZZ Zab (by rfl) T.z_isinstance YQ (Za (pv 0) (Za (Yk (v:=.ref Zg) rfl T.mg_After rfl) Ze)))) (Zt (ZP (Yj (Za (ZpZ (Zo6 (Zak (pv 0) rfl) (Zak (pv 0) rfl) ZpY) rfl rfl (by simp) (by decide)) Ze)))) ZS) (Zf (Yi (ZaO (ZZ Zab (by rfl) T.z_isinstance YQ (Za (pv 0) (Za (Yk (v:=.ref Zb) rfl T.mg_Earlier rfl) Ze)))) (Zt (ZP (Yd ZdY (hr.mono (by omega)) rfl YK (Za (Zu Xc (Yd Zbs (hr.mono (by omega)) rfl YK (Za (Zak (pv 0) rfl) Ze)) (Yd Zbs (hr.mono (by omega)) rfl YK (Za (Zak (pv 0) rfl) Ze))) Ze)))) ZS) (Zf (Yi (ZaO (ZZ Zab (by rfl) T.z_isinstance YQ (Za (pv 0) (Za (Yk (v:=.ref Zh) rfl T.mg_Later rfl) Ze)))) (Zt (ZP (Yd ZdY (hr.mono (by omega)) rfl YK (Za (Yd ZcF (hr.mono (by omega)) rfl Yp (Za (Yd Zbs (hr.mono (by omega)) rfl YK (Za (Zak (pv 0) rfl) Ze)) (Za (Yd Zbs (hr.mono (by omega)) rfl YK (Za (Zak (pv 0) rfl) Ze)) Ze))) Ze)))) ZS) (Zt (ZP (Yj Ze)))))), ?_⟩
  cases t with
  |never=>
   have q:=q rfl;obtain⟨dx,h0⟩:=ht;refine⟨_,rfl,_,_,_,_,_,rfl,rfl,T.ty_Never.of h0,T.k_Never_After,_,rfl,Zal ?_⟩;refine⟨_,rfl,_,_,_,_,_,rfl,rfl,T.ty_Never.of h0,T.k_Never_Earlier,_,rfl,Zal ?_⟩;refine⟨_,rfl,_,_,_,_,_,rfl,rfl,T.ty_Never.of h0,T.k_Never_Later,_,rfl,Zal ?_⟩;exact⟨Nat.zero_le _,fun r hr=>q r [] _ hr (Zd hr) Zc .nil fun d hd=>nomatch hd⟩
  |after k d=>
   have q:=q rfl;obtain⟨dx,h0⟩:=ht;refine⟨_,rfl,_,_,_,_,_,rfl,rfl,T.ty_After.of h0,T.k_After_After,_,rfl,JS fun p hp=> ?_⟩;have h1:=Zd (o:=.dK []) hp _ _ h0;have e0:upd H p (.dK []) p=some (.dK []):=Zc;refine⟨_,rfl,a,_,dx,_,_,rfl,h1,T.cl_After,T.n_After_kind,Zmj k d,_,rfl,a,_,dx,_,_,rfl,h1,T.cl_After,T.n_After_days,Zmk k d,e0,[(Sum.inr k,.int d)],rfl,(show 1<=15 by decide),show 1<=sizeLine from sl,fun r hr=> ?_⟩
   have d2:upd (upd (upd H p (.dK [])) p (.dK (Zd2 [] [(Sum.inr k,V.int d)]))) r (.lst [V.ref p]) p=some (.dK (kk [(k,d)])):=by rw[Zr (ZC Zc hr)];exact Zc
   have s2:ZJ H (upd (upd (upd H p (.dK [])) p (.dK (Zd2 [] [(Sum.inr k,V.int d)]))) r (.lst [V.ref p])):=fun b u e=>by
    have n1:=ZC e hp;have e1:upd (upd H p (.dK [])) p (.dK (Zd2 [] [(Sum.inr k,V.int d)])) b=some u:=by rw[Zr n1,Zr n1];exact e
    rw[Zr (ZC e1 hr)];exact e1
   have hr0:H r=none:=by
    cases z:H r with
    |none=>rfl
    |some u=>
     have n1:=ZC z hp;rw[Zr n1,Zr n1,z] at hr
     cases hr
   exact q r [p] _ hr0 s2 Zc (.cons ⟨[(k,d)],d2,List.nodup_cons.mpr ⟨(fun z=>nomatch z),List.nodup_nil⟩,rfl⟩ .nil) fun d' hd'=>by
    have e7:d'=p:=by simpa using hd'
    subst e7;exact hp
  |later x y=>
   obtain⟨dx,p1,p2,h0,t1,t2⟩:=ht;refine⟨_,rfl,_,_,_,_,_,rfl,rfl,T.ty_Later.of h0,T.k_Later_After,_,rfl,Zal ?_⟩;refine⟨_,rfl,_,_,_,_,_,rfl,rfl,T.ty_Later.of h0,T.k_Later_Earlier,_,rfl,Zal ?_⟩;refine⟨_,rfl,_,_,_,_,_,rfl,rfl,T.ty_Later.of h0,T.k_Later_Later,_,rfl,JS ?_⟩;have hdeep:max x.deep y.deep+1<n+1:=hd;obtain⟨o1,o2,pr,z1,z2,z3,z4⟩:=Zkp hc;rw[Zf0] at q qx
   refine⟨_,rfl,a,_,dx,_,_,rfl,h0,T.cl_Later,T.n_Later_one,Zji p1 p2,p1,x,rfl,t1,by omega,o1,fun w1 r1 ds1 H1 hr1 s1 d1 c1 n1=> ?_,fun w1 H1 s1=>qx (by rw[w1];rfl) H1 s1⟩
   refine⟨_,rfl,a,_,dx,_,_,rfl,s1 _ _ h0,T.cl_Later,T.n_Later_other,ZeY p1 p2,p2,y,rfl,t2.same s1,by omega,o2,fun w2 r2 ds2 H2 hr2 s2 d2 c2 n2=> ?_,fun w2 H2 s2=>qx (by rw[w2,Bool.and_false];rfl) H2 (s1.trans s2)⟩
   rw[w1,w2] at q qx
   refine⟨r1,r2,ds1,ds2,Yq x,Yq y,rfl,s2 _ _ d1,d2,c1.same s2,c2,by rw[c1.len,c2.len];omega,by rw[c2.len];omega,fun w hw=> ?_,fun w hw=> ?_,fun r3 ds3 H3 hr3 s3 d3 c3 n3=> ?_⟩
   ·have:=z3 w hw;omega
   ·have:=z4 w hw;omega
   refine⟨r3,ds3,_,rfl,d3,c3,by rw[Zkn];omega,fun w hw=> ?_,fun tl r ds H4 hr s4 d4 c4 n4=> ?_,fun tl H4 s4=>qx ?_ H4 ((s1.trans s2).trans (s3.trans s4))⟩
   ·obtain⟨u,hu,v,hv,rfl⟩:=ZgZ hw;have k1:=z3 u hu;have k2:=z4 v hv;have k3:=Zik (Zag x u hu).1.nd (Zag y v hv).1.nd;rw[M4.ZaX];omega
   ·have s13:=(s1.trans s2).trans s3;exact q (decide_eq_true tl) r ds H4 (none_of s13 hr) (s13.trans s4) d4 c4 fun d hd=>none_of (s1.trans s2) (n3 d (n4 d hd))
   ·exact decide_eq_false (Nat.not_le.mpr tl)
  |earlier x y=>
   obtain⟨dx,p1,p2,h0,t1,t2⟩:=ht;refine⟨_,rfl,_,_,_,_,_,rfl,rfl,T.ty_Earlier.of h0,T.k_Earlier_After,_,rfl,Zal ?_⟩;refine⟨_,rfl,_,_,_,_,_,rfl,rfl,T.ty_Earlier.of h0,T.k_Earlier_Earlier,_,rfl,JS ?_⟩;have hdeep:max x.deep y.deep+1<n+1:=hd;obtain⟨o1,o2,pr,z3,z4⟩:=ZhA hc;rw[Zdq] at q qx
   refine⟨_,rfl,a,_,dx,_,_,rfl,h0,T.cl_Earlier,T.n_Earlier_one,Zji p1 p2,p1,x,rfl,t1,by omega,o1,fun w1 r1 ds1 H1 hr1 s1 d1 c1 n1=> ?_,fun w1 H1 s1=>qx (by rw[w1];rfl) H1 s1⟩
   refine⟨_,rfl,a,_,dx,_,_,rfl,s1 _ _ h0,T.cl_Earlier,T.n_Earlier_other,ZeY p1 p2,p2,y,rfl,t2.same s1,by omega,o2,fun w2 r2 ds2 H2 hr2 s2 d2 c2 n2=> ?_,fun w2 H2 s2=>qx (by rw[w2,Bool.and_false];rfl) H2 (s1.trans s2)⟩
   rw[w1,w2] at q qx
   have l1:=c1.len;have l2:=c2.len;refine⟨r1,r2,ds1.map V.ref,ds2.map V.ref,rfl,rfl,SqL.of (s2 _ _ d1),SqL.of d2,by rw[List.length_map,List.length_map];omega,fun r3 hr3=> ?_⟩
   have s3:=Zd (o:=.lst (ds1.map V.ref++ds2.map V.ref)) hr3;refine⟨r3,ds1++ds2,Yq x++Yq y,rfl,by rw[Zc,List.map_append],(YJ.app (c1.same s2) c2).same s3,by rw[List.length_append];omega,fun w hw=> ?_,fun tl r ds H4 hr s4 d4 c4 n4=> ?_,fun tl H4 s4=>qx ?_ H4 ((s1.trans s2).trans (s3.trans s4))⟩
   ·rcases List.mem_append.mp hw with z|z
    ·have:=z3 w z;omega
    ·have:=z4 w z;omega
   ·have s13:=(s1.trans s2).trans s3;refine q (decide_eq_true tl) r ds H4 (none_of s13 hr) (s13.trans s4) d4 c4 fun d hd=> ?_;rcases List.mem_append.mp (n4 d hd) with z|z
    ·exact n1 d z
    ·exact none_of s1 (n2 d z)
   ·exact decide_eq_false (Nat.not_le.mpr tl)
theorem ZqQ:∀m,m<1001->(Str.ofString (toString ((m:Nat):Int))).length<=4:=by decide+kernel
theorem Zmm{n:Int}(h0:0<=n)(h1:n<=1000):(Str.ofString (toString n)).length<=4/\n.natAbs.log2<1920:=by
 obtain⟨m,rfl⟩:=Int.eq_ofNat_of_zero_le h0;exact⟨ZqQ m (by omega),by have:=Nat.log2_le_self m;show m.log2<1920;omega⟩
theorem Zdr:ZQ ["self","row"] ["self","row"] (ZF Za7):=⟨rfl,rfl,rfl,by decide+kernel,rfl,by decide+kernel,by decide+kernel⟩
theorem Zha{f:Addr}{fd:FuncData}(F:Fun K "__init__" "NoBook.__init__" Za7 f fd)(T:Txt K mg t_YEAR_DAYS t_MONTH_DAYS t_MOST_FIGURES t_MOST_LETTERS t_FIGURES t_LETTERS t_MOST_WORDS t_MOST_CLAUSES Zj Zg Zh Zb Zm ZL Zn Zo Zq Zi Zy Zv Zz ZD ZG ZM)(o_NoBook:Zel "NoBook" Zi f mg base):Yo P w K mg base CX0 1 f fd ["self","row"] (Xp Zi):=by
 refine F.ok Zdr (fun vs H Q E h=> ?_) (fun cdv A outer s H vs Q E hr h=> ?_)
 ·obtain⟨e,n,rfl,_⟩:=h
  rfl
 ·obtain⟨e,n,rfl,he,n0,n1,q⟩:=h;have l5:=Ys;obtain⟨ln,lg⟩:=Zmm n0 n1;have l1:(Str.ofString "row ").length=4:=by decide+kernel
  have l2:(Str.ofString " cannot stand").length=13:=by decide+kernel
  refine⟨_,(Zf (Xw (ZfQ (by rfl) T.mg_HallError T.rd_base T.ga_base T.fi_base (Za (pv 0) (Za (Zbm (YF Zam (YF (Zj6 (pv 1)) (YF Zam Zd5)))) Ze)))) (Zt (Zma (pv 0) (pv 1) (by rfl)))), ?_⟩;refine⟨_,rfl,by rw[YG];omega,_,rfl,n,rfl,lg,by rw[YG,strLen_append];omega,by rw[YG,strLen_append,strLen_append];omega,by rw[YG,strLen_append,strLen_append];omega,e,Zi,_,_,f,rfl,he,o_NoBook, ?_⟩
  exact⟨_,rfl,_,rfl,e,Zi,rfl,he,T.xt_NoBook,q⟩
theorem Zg5{f:Addr}{fd:FuncData}(F:Fun K "__init__" "NoBook.__init__" Za7 f fd)(T:Txt K mg t_YEAR_DAYS t_MONTH_DAYS t_MOST_FIGURES t_MOST_LETTERS t_FIGURES t_LETTERS t_MOST_WORDS t_MOST_CLAUSES Zj Zg Zh Zb Zm ZL Zn Zo Zq Zi Zy Zv Zz ZD ZG ZM)(o_NoBook:Zel "NoBook" Zi f mg base):FnH P w K mg base 1 f fd ["self","row"] (Xp Zi):=by
 refine okH F Zdr (fun vs H Q E h=> ?_) (fun cdv c A outer s H vs Q E h=> ?_)
 ·obtain⟨e,n,rfl,_⟩:=h
  rfl
 ·obtain⟨e,n,rfl,he,n0,n1,q⟩:=h;have l5:=Ys;obtain⟨ln,lg⟩:=Zmm n0 n1;have l1:(Str.ofString "row ").length=4:=by decide+kernel
  have l2:(Str.ofString " cannot stand").length=13:=by decide+kernel
  refine⟨_,(Zf (Xw (ZfQ (by rfl) T.mg_HallError T.rd_base T.ga_base T.fi_base (Za (pv 0) (Za (Zbm (YF Zam (YF (Zj6 (pv 1)) (YF Zam Zd5)))) Ze)))) (Zt (Zma (pv 0) (pv 1) (by rfl)))), ?_⟩;refine⟨_,rfl,by rw[YG];omega,_,rfl,n,rfl,lg,by rw[YG,strLen_append];omega,by rw[YG,strLen_append,strLen_append];omega,by rw[YG,strLen_append,strLen_append];omega,e,Zi,_,_,f,rfl,he,o_NoBook, ?_⟩
  exact⟨_,rfl,_,rfl,e,Zi,rfl,he,T.xt_NoBook,q⟩
theorem Zew(d:Nat):ZeS d (-1)=Zae d:=by
 unfold ZeS;rw[if_neg (by rintro⟨h,_⟩;exact absurd h (by decide)),if_neg (by decide)]
theorem Zrr(a b c:Str):cs (Txt.join (Str.ofString " ") [a,b,c])=cs a++32::(cs b++32::cs c):=by
 have e:Txt.join (Str.ofString " ") [a,b,c]=Str.join (Str.ofString " ") [a,b,c]:=StrLaws.glued_eq_join _ _;rw[e,Zmg,ZdM]
 rfl
theorem ZlA(k:Str)(d:Int):Txt.join (Str.ofString " ") [Str.ofString "after",k,Zae d.toNat]=(Tr.after k d).tC (-1):=by
 refine ext ?_;rw[Zrr,Zij];show _=cs (Str.ofString "after")++32::(cs k++32::cs (ZeS d.toNat (-1)));rw[Zew]
theorem Zin(w a b:Str):Txt.join (Str.ofString " ") [w,a,b]=w++Str.ofString " "++a++Str.ofString " "++b:=by
 refine ext ?_;rw[Zrr,ZV,ZV,ZV,ZV,Zkl];simp
theorem sp1:(Str.ofString " ").length=1:=by decide+kernel
theorem sp5:(Str.ofString "after").length=5:=by decide+kernel
theorem ZtY:(Str.ofString "later").length=5:=by decide+kernel
theorem sp7:(Str.ofString "earlier").length=7:=by decide+kernel
theorem Ztw{d:Int}(h0:0<=d)(h1:d<10^40):d.toNat<10^100:=Nat.lt_trans (ZgY h0 h1) (by decide+kernel)
theorem Zhb:ZQ ["self"] ["self"] (ZF ZbF):=⟨rfl,rfl,rfl,by decide+kernel,rfl,by decide+kernel,by decide+kernel⟩
theorem Zhc{f:Addr}{fd:FuncData}(F:Fun K "shown" "Never.shown" ZbF f fd)(T:Txt K mg t_YEAR_DAYS t_MONTH_DAYS t_MOST_FIGURES t_MOST_LETTERS t_FIGURES t_LETTERS t_MOST_WORDS t_MOST_CLAUSES Zj Zg Zh Zb Zm ZL Zn Zo Zq Zi Zy Zv Zz ZD ZG ZM)(n:Nat):Yo P w K mg base CX0 (1+n+1+1) f fd ["self"] (Jq Zj Zg Zh Zb (n+1) Zj):=by
 refine F.ok Zhb (fun vs H Q E h=> ?_) (fun cdv A outer s H vs Q E hr h=> ?_)
 ·obtain⟨a,t,rfl,_⟩:=h
  rfl
 ·obtain⟨a,t,rfl,ht,hd,hc,hg,hC,q⟩:=h;refine⟨_,(Zt (ZP Zw)), ?_⟩;cases t with
  |never=>exact q H (ZJ.refl H)
  |after k d=>exact absurd hC.symm T.ne_Never_After
  |later x y=>exact absurd hC.symm T.ne_Never_Later
  |earlier x y=>exact absurd hC.symm T.ne_Never_Earlier
theorem Zhd:ZQ ["self"] ["self"] (ZF ZbG):=⟨rfl,rfl,rfl,by decide+kernel,rfl,by decide+kernel,by decide+kernel⟩
theorem Zhe{f:Addr}{fd:FuncData}(F:Fun K "shown" "After.shown" ZbG f fd)(T:Txt K mg t_YEAR_DAYS t_MONTH_DAYS t_MOST_FIGURES t_MOST_LETTERS t_FIGURES t_LETTERS t_MOST_WORDS t_MOST_CLAUSES Zj Zg Zh Zb Zm ZL Zn Zo Zq Zi Zy Zv Zz ZD ZG ZM)(n:Nat)(Zbc:Cal P w K mg base CX0 1 "length_shown" ["days"] Zar):Yo P w K mg base CX0 (1+n+1+1) f fd ["self"] (Jq Zj Zg Zh Zb (n+1) Zg):=by
 refine F.ok Zhd (fun vs H Q E h=> ?_) (fun cdv A outer s H vs Q E hr h=> ?_)
 ·obtain⟨a,t,rfl,_⟩:=h
  rfl
 ·obtain⟨a,t,rfl,ht,hd,hc,hg,hC,q⟩:=h;have l5:=Ys;cases t with
  |never=>exact absurd hC T.ne_Never_After
  |later x y=>exact absurd hC.symm T.ne_After_Later
  |earlier x y=>exact absurd hC.symm T.ne_After_Earlier
  |after k d=>
   obtain⟨dx,ha⟩:=ht;obtain⟨nk,d0,d1⟩:=hg;have e0:d=((d.toNat:Nat):Int):=by omega
   have ls:=ZgX (ZgY d0 d1) (-1);rw[Zew] at ls
   have lk:=nk.2.1;refine⟨_,(Zt (ZP (Je PySem.F.plainAttrs_str PySem.F.slot_str_join PySem.F.type_str_join XX Zw (Za (Yj (Za Zw (Za (Zak (pv 0) rfl) (Za (Yd Zbc (hr.mono (by omega)) rfl Yp (Za (Zak (pv 0) rfl) Ze)) Ze)))) Ze)))), ?_⟩;refine⟨rfl,_,rfl,a,_,dx,_,_,rfl,ha,T.cl_After,T.n_After_kind,Zmj k d,_,rfl,a,_,dx,_,_,rfl,ha,T.cl_After,T.n_After_days,Zmk k d,d.toNat,by rw[<-e0];rfl,Ztw d0 d1,fun H1 s1=>⟨show 3<=sizeLine from sl,fun p hp=> ?_⟩⟩
   refine⟨_,p,[Str.ofString "after",k,Zae d.toNat],rfl,rfl,SqL.of Zc, ?_, ?_⟩
   ·show(Str.ofString "after").length+(k.length+((Zae d.toNat).length+0))+3*(Str.ofString " ").length<=_;rw[sp1,sp5];omega
   ·rw[ZlA];exact q _ (s1.trans (Zd hp))
theorem Zhf:ZQ ["self"] ["self"] (ZF ZbH):=⟨rfl,rfl,rfl,by decide+kernel,rfl,by decide+kernel,by decide+kernel⟩
theorem Zhg{f:Addr}{fd:FuncData}(F:Fun K "shown" "Later.shown" ZbH f fd)(T:Txt K mg t_YEAR_DAYS t_MONTH_DAYS t_MOST_FIGURES t_MOST_LETTERS t_FIGURES t_LETTERS t_MOST_WORDS t_MOST_CLAUSES Zj Zg Zh Zb Zm ZL Zn Zo Zq Zi Zy Zv Zz ZD ZG ZM)(n:Nat)(ZaG:Zov P w K mg base CX0 (1+n+1) "shown" ["self"] (Jq Zj Zg Zh Zb n) (fun C=>C=Zj\/C=Zg\/C=Zh\/C=Zb)):Yo P w K mg base CX0 (1+n+1+1) f fd ["self"] (Jq Zj Zg Zh Zb (n+1) Zh):=by
 refine F.ok Zhf (fun vs H Q E h=> ?_) (fun cdv A outer s H vs Q E hr h=> ?_)
 ·obtain⟨a,t,rfl,_⟩:=h
  rfl
 ·obtain⟨a,t,rfl,ht,hd,hc,hg,hC,q⟩:=h;have l5:=Ys;cases t with
  |never=>exact absurd hC T.ne_Never_Later
  |after k d=>exact absurd hC T.ne_After_Later
  |earlier x y=>exact absurd hC.symm T.ne_Later_Earlier
  |later x y=>
   obtain⟨dx,p1,p2,ha,t1,t2⟩:=ht;obtain⟨g1,g2⟩:=hg;have hdeep:max x.deep y.deep+1<n+1:=hd;have hcnt:x.cnt+y.cnt<=100:=hc;have lx:=Za2 x (-1) g1;have ly:=Za2 y (-1) g2;refine⟨_,(Zt (ZP (Je PySem.F.plainAttrs_str PySem.F.slot_str_join PySem.F.type_str_join XX Zw (Za (Yj (Za Zw (Za (ZeH (Zak (pv 0) rfl) ZaG (hr.mono (by omega)) Yp) (Za (ZeH (Zak (pv 0) rfl) ZaG (hr.mono (by omega)) Yp) Ze)))) Ze)))), ?_⟩
   refine⟨rfl,_,rfl,a,_,dx,_,_,rfl,ha,T.cl_Later,T.n_Later_one,Zji p1 p2,shR t1 (by omega) (by omega) g1 fun H1 s1=> ?_⟩;refine⟨_,rfl,a,_,dx,_,_,rfl,s1 _ _ ha,T.cl_Later,T.n_Later_other,ZeY p1 p2,shR (t2.same s1) (by omega) (by omega) g2 fun H2 s2=>⟨show 3<=sizeLine from sl,fun p hp=> ?_⟩⟩;refine⟨_,p,[Str.ofString "later",x.tC (-1),y.tC (-1)],rfl,rfl,SqL.of Zc, ?_, ?_⟩
   ·show(Str.ofString "later").length+((x.tC (-1)).length+((y.tC (-1)).length+0))+3*(Str.ofString " ").length<=_;rw[sp1,ZtY];omega
   ·rw[Zin];exact q _ (s1.trans (s2.trans (Zd hp)))
theorem Zfu:ZQ ["self"] ["self"] (ZF Zaq):=⟨rfl,rfl,rfl,by decide+kernel,rfl,by decide+kernel,by decide+kernel⟩
theorem Zfv{f:Addr}{fd:FuncData}(F:Fun K "shown" "Earlier.shown" Zaq f fd)(T:Txt K mg t_YEAR_DAYS t_MONTH_DAYS t_MOST_FIGURES t_MOST_LETTERS t_FIGURES t_LETTERS t_MOST_WORDS t_MOST_CLAUSES Zj Zg Zh Zb Zm ZL Zn Zo Zq Zi Zy Zv Zz ZD ZG ZM)(n:Nat)(ZaG:Zov P w K mg base CX0 (1+n+1) "shown" ["self"] (Jq Zj Zg Zh Zb n) (fun C=>C=Zj\/C=Zg\/C=Zh\/C=Zb)):Yo P w K mg base CX0 (1+n+1+1) f fd ["self"] (Jq Zj Zg Zh Zb (n+1) Zb):=by
 refine F.ok Zfu (fun vs H Q E h=> ?_) (fun cdv A outer s H vs Q E hr h=> ?_)
 ·obtain⟨a,t,rfl,_⟩:=h
  rfl
 ·obtain⟨a,t,rfl,ht,hd,hc,hg,hC,q⟩:=h;have l5:=Ys;cases t with
  |never=>exact absurd hC T.ne_Never_Earlier
  |after k d=>exact absurd hC T.ne_After_Earlier
  |later x y=>exact absurd hC T.ne_Later_Earlier
  |earlier x y=>
   obtain⟨dx,p1,p2,ha,t1,t2⟩:=ht;obtain⟨g1,g2⟩:=hg;have hdeep:max x.deep y.deep+1<n+1:=hd;have hcnt:x.cnt+y.cnt<=100:=hc;have lx:=Za2 x (-1) g1;have ly:=Za2 y (-1) g2;refine⟨_,(Zt (ZP (Je PySem.F.plainAttrs_str PySem.F.slot_str_join PySem.F.type_str_join XX Zw (Za (Yj (Za Zw (Za (ZeH (Zak (pv 0) rfl) ZaG (hr.mono (by omega)) Yp) (Za (ZeH (Zak (pv 0) rfl) ZaG (hr.mono (by omega)) Yp) Ze)))) Ze)))), ?_⟩
   refine⟨rfl,_,rfl,a,_,dx,_,_,rfl,ha,T.cl_Earlier,T.n_Earlier_one,Zji p1 p2,shR t1 (by omega) (by omega) g1 fun H1 s1=> ?_⟩;refine⟨_,rfl,a,_,dx,_,_,rfl,s1 _ _ ha,T.cl_Earlier,T.n_Earlier_other,ZeY p1 p2,shR (t2.same s1) (by omega) (by omega) g2 fun H2 s2=>⟨show 3<=sizeLine from sl,fun p hp=> ?_⟩⟩;refine⟨_,p,[Str.ofString "earlier",x.tC (-1),y.tC (-1)],rfl,rfl,SqL.of Zc, ?_, ?_⟩
   ·show(Str.ofString "earlier").length+((x.tC (-1)).length+((y.tC (-1)).length+0))+3*(Str.ofString " ").length<=_;rw[sp1,sp7];omega
   ·rw[Zin];exact q _ (s1.trans (s2.trans (Zd hp)))
theorem Zio{c A B:Prop} [Decidable c](hc:¬c)(h:A):if(!decide c)=true then A else B:=by
 rw[decide_eq_false hc];exact JS h
theorem Zbt:∀{ns:List Str} {rs:List Sr},Xn ns rs->∀r∈rs,r.good
 |_,[],_,r,h=>nomatch h
 |_,x::rs,⟨g,_,_,k⟩,r,h=>by
  obtain rfl|h:=List.mem_cons.mp h
  ·exact g
  ·exact Zbt k r h
theorem Zdn.keep{cn ca cl ce:Addr}{H H':Hp}(s1:∀b xs,H b=some (.tup xs)->H' b=some (.tup xs))(s2:∀b C dx fs,H b=some (.ins C dx fs)->H' b=some (.ins C dx fs)){d:Addr}{r:Sr}:Zdn cn ca cl ce H d r->Zdn cn ca cl ce H' d r
 |⟨v,h,t⟩=>by
  refine⟨v,s1 _ _ h, ?_⟩
  revert t
  cases r.tm with
  |none=>exact fun t=>t
  |some x=>exact fun⟨a,e,t⟩=>⟨a,e,t.keep s2⟩
theorem Zfw{cn ca cl ce:Addr}{H H':Hp}(s1:∀b xs,H b=some (.tup xs)->H' b=some (.tup xs))(s2:∀b C dx fs,H b=some (.ins C dx fs)->H' b=some (.ins C dx fs)):∀{ds:List Addr} {rs:List Sr},Paired (Zdn cn ca cl ce H) ds rs->Paired (Zdn cn ca cl ce H') ds rs
 |_,_,.nil=> .nil
 |_,_,.cons h t=> .cons (h.keep s1 s2) (Zfw s1 s2 t)
theorem Zip{cn ca cl ce:Addr}{H H':Hp}(s:ZJ H H'):∀{ds:List Addr} {rs:List Sr},Paired (Zdn cn ca cl ce H) ds rs->Paired (Zdn cn ca cl ce H') ds rs:=Zfw (fun b xs h=>s b _ h) fun b C dx fs h=>s b _ h
theorem Zmn(c:Nat):∀ps:List (List Nat),(J c ps).length<=(ps.map List.length).sum+ps.length
 |[]=>Nat.zero_le _
 |[p]=>by simp[J]
 |p::q::r=>by
  have:=Zmn c (q::r);show(p++c::J c (q::r)).length<=_;rw[List.length_append,List.length_cons,List.map_cons,List.sum_cons,List.length_cons];omega
theorem Zpo{c d:Nat}:∀{ps:List (List Nat)},d∈J c ps->d=c\/∃p∈ps,d∈p
 |[],h=>nomatch h
 |[p],h=> .inr ⟨p,List.mem_singleton_self _,h⟩
 |p::q::r,h=>by
  have h:d∈p++c::J c (q::r):=h;rcases List.mem_append.mp h with z|z
  ·exact .inr ⟨p,List.mem_cons_self ..,z⟩
  ·rcases List.mem_cons.mp z with z|z
   ·exact .inl z
   ·exact(Zpo z).imp_right fun⟨x,hx,hd⟩=>⟨x,List.mem_cons_of_mem _ hx,hd⟩
theorem Zpp:∀c<48,Zb2 ⟨#[c]⟩=.non:=by decide+kernel
theorem ZqR{z:Str}{d:Int}(h:Zmf z d):∀c∈cs z,48<=c:=by
 obtain⟨n,k,u,rfl,_,hu,_⟩:=h;rw[ZV,Zcj];intro c m;rcases List.mem_append.mp m with m|m
 ·exact(Zck n c m).1
 ·have e:c=k:=by simpa using m
  refine Nat.le_of_not_lt fun lt=> ?_;rw[<-e,Zpp c lt] at hu
  cases hu
theorem Zds:∀{t:Tr} {ws:List Str},Zjf t ws->∀p∈ws,∀c∈cs p,48<=c
 | .never,ws,h,p,m=>by
  rw[show ws=_ from h] at m
  rw[show p=Str.ofString "never" by simpa using m]
  decide+kernel
 | .after k d,ws,⟨z,e,hk,hz⟩,p,m=>by
  rw[e] at m
  have m:p=Str.ofString "after"\/p=k\/p=z:=by simpa using m
  rcases m with rfl|rfl|rfl
  ·decide+kernel
  ·exact fun c hc=>by have:=hk.2.2 c hc;omega
  ·exact ZqR hz
 | .later x y,ws,⟨u,v,e,h1,h2⟩,p,m=>by
  rw[e] at m
  rcases List.mem_cons.mp m with rfl|m
  ·decide+kernel
  ·exact(List.mem_append.mp m).elim (Zds h1 p) (Zds h2 p)
 | .earlier x y,ws,⟨u,v,e,h1,h2⟩,p,m=>by
  rw[e] at m
  rcases List.mem_cons.mp m with rfl|m
  ·decide+kernel
  ·exact(List.mem_append.mp m).elim (Zds h1 p) (Zds h2 p)
theorem Zmo{r:Sr}(g:r.good):∀p∈r.wds,∀c∈cs p,48<=c:=fun p hp=>by
 unfold Sr.wds at hp
 rcases List.mem_cons.mp hp with rfl|hp
 ·decide+kernel
 rcases List.mem_cons.mp hp with rfl|hp
 ·exact fun c hc=>by have:=g.nm.2.2 c hc;omega
 rcases List.mem_append.mp hp with inE|inT
 ·cases he:r.el with
  |none=>rw[he] at inE;cases inE
  |some e=>
   rw[he] at inE
   have inE:p=Str.ofString "under"\/p=e:=by simpa [elW] using inE
   rcases inE with rfl|rfl
   ·decide+kernel
   ·exact fun c hc=>by have:=(g.el p he).2.2 c hc;omega
 ·cases ht:r.tm with
  |none=>rw[ht] at inT;cases inT
  |some t=>
   rw[ht] at inT
   exact Zds (Zbp t (-1) (g.tm t ht).1) p inT
theorem Zmp{a x:Str}{us vs:List Str}(hu:us≠[])(hv:vs≠[])(h1:cs a=J 32 (us.map cs))(h2:cs x=J 32 (vs.map cs)):cs (a++Str.ofString " "++x)=J 32 ((us++vs).map cs):=by
 rw[ZV,ZV,Zkl,h1,h2,List.map_append,Zkk (by simpa using hu) (by simpa using hv)];simp
theorem Zgn(r:Sr):cs (Ze6 r)=J 32 ((Str.ofString "series"::r.nm::elW r.el).map cs):=by
 have e1:cs (Str.ofString "series ")=cs (Str.ofString "series")++[32]:=by decide+kernel
 have e2:cs (Str.ofString " under ")=32::cs (Str.ofString "under")++[32]:=by decide+kernel
 unfold Ze6;cases r.el with
 |none=>
  show cs (Str.ofString "series "++r.nm)=cs (Str.ofString "series")++32::cs r.nm;rw[ZV,e1];simp
 |some e=>
  show cs (Str.ofString "series "++r.nm++Str.ofString " under "++e)=cs (Str.ofString "series")++32::(cs r.nm++32::(cs (Str.ofString "under")++32::cs e));rw[ZV,ZV,ZV,e1,e2];simp
theorem ZlB(r:Sr):cs r.txt=J 32 (r.wds.map cs):=by
 unfold Sr.txt Sr.wds;cases r.tm with
 |none=>
  show cs (Ze6 r)=J 32 ((Str.ofString "series"::r.nm::(elW r.el++[])).map cs);rw[List.append_nil];exact Zgn r
 |some t=>exact Zmp (us:=Str.ofString "series"::r.nm::elW r.el) (by simp) (t.wC_ne _) (Zgn r) (Zij t _)
theorem Zpq{r:Sr}(g:r.good):10∉cs r.txt:=fun h=>by
 rw[ZlB] at h
 rcases Zpo h with z|⟨p,hp,z⟩
 ·cases z
 ·obtain⟨w,hw,rfl⟩:=List.mem_map.mp hp;have:=Zmo g w hw 10 z;omega
theorem Zns{r:Sr}(g:r.good):∀p∈r.wds,32∉cs p:=fun p hp z=>by
 have:=Zmo g p hp 32 z;omega
theorem Zpr{r:Sr}(g:r.good):(Ze6 r).length<=40:=by
 have l1:=g.nm.2.1;unfold Ze6;cases he:r.el with
 |none=>
  show(Str.ofString "series "++r.nm).length<=40;rw[strLen_append,show(Str.ofString "series ").length=7 by decide+kernel];omega
 |some e=>
  have l2:=(g.el e he).2.1;show(Str.ofString "series "++r.nm++Str.ofString " under "++e).length<=40;rw[strLen_append,strLen_append,strLen_append,show(Str.ofString "series ").length=7 by decide+kernel,show(Str.ofString " under ").length=7 by decide+kernel];omega
theorem Zmq{r:Sr}(g:r.good):r.txt.length<=2521:=by
 have l1:=Zpr g;unfold Sr.txt;cases ht:r.tm with
 |none=>exact Nat.le_trans l1 (by decide)
 |some t=>
  obtain⟨gt,ct⟩:=g.tm t ht;have:=Za2 t (-1) gt;show(Ze6 r++Str.ofString " "++t.tC (-1)).length<=2521;rw[strLen_append,strLen_append,show(Str.ofString " ").length=1 by decide+kernel];omega
theorem Zps:Str.ofString "\n"=⟨#[10]⟩:=by decide
theorem ZqS(rs:List Sr):cs (Xj rs)=J 10 ((rs.map Sr.txt).map cs):=by
 have e:Txt.join (Str.ofString "\n") (rs.map Sr.txt)=Str.join (Str.ofString "\n") (rs.map Sr.txt):=StrLaws.glued_eq_join _ _;unfold Xj;rw[e,Zps,ZdM]
theorem Zdt{α:Type}(f:α->Nat)(k:Nat):∀l:List α,(∀x∈l,f x<=k)->(l.map f).sum<=l.length*k
 |[],_=>Nat.zero_le _
 |x::l,h=>by
  have hx:=h x (List.mem_cons_self ..);have h2:=Zdt f k l fun y hy=>h y (List.mem_cons_of_mem _ hy);rw[List.map_cons,List.sum_cons,List.length_cons,Nat.succ_mul];omega
theorem ixL{K:PySem.W.Frag}{i:Nat}{j:Int}{σ:L2.St}{H:Hp}{Q:VK}{a:Addr}{xs:List V}{v:V}(e:σ[i]? =some (some (.ref a)))(h:SqL K H a xs)(m:atI xs j=some v)(k:Q v H):tOp (ZrL K) (Zfb i) (tC (.int j)) σ H Q:=⟨_,e,a,_,_,_,rfl,rfl,h,m,k⟩
theorem atN{α:Type}{xs:List α}{n:Nat}{v:α}(h:xs[n]? =some v):atI xs ((n:Nat):Int)=some v:=by
 have lt:=(List.getElem?_eq_some_iff.mp h).1;unfold atI ixN;rw[if_pos (by omega),if_pos (by omega),Int.toNat_natCast];exact h
theorem Zmr{z:Str}:∀ns:List Str,Zc4 (nks ns) (Sum.inr z)=if z∈ns then some (V.bl true) else none
 |[]=>rfl
 |n::ns=>by
  unfold nks;rw[List.map_cons]
  by_cases h:n=z
  ·subst h;rw[if_pos (List.mem_cons_self ..)];exact Zc5 rfl
  ·have e:Zc4 ((Sum.inr n,V.bl true)::nks ns) (Sum.inr z)=Zc4 (nks ns) (Sum.inr z):=by
    unfold Zc4;rw[List.find?_cons,decide_eq_false (fun w=>h (by injection w))]
   refine e.trans ((Zmr ns).trans ?_)
   by_cases h2:z∈ns
   ·rw[if_pos h2,if_pos (List.mem_cons_of_mem _ h2)]
   ·rw[if_neg h2,if_neg (fun w=>(List.mem_cons.mp w).elim (fun y=>h y.symm) h2)]
theorem Zpt{H:Hp}{a:Addr}{ns:List Str}(h:H a=some (.dK (nks ns)))(z:Str):Zff H a (.str z) (if z∈ns then some (V.bl true) else none):=.inl ⟨_,Sum.inr z,.inl h,rfl,(Zmr ns).symm⟩
theorem Zpu{H:Hp}{a:Addr}{ns:List Str}{z:Str}(h:H a=some (.dK (nks ns)))(n:z∉ns):Zff H a (.str z) none:=by
 have:=Zpt h z
 rwa [if_neg n] at this
theorem Zms{H:Hp}{a:Addr}{ns:List Str}{z:Str}(h:H a=some (.dK (nks ns)))(n:z∈ns):Zff H a (.str z) (some (.bl true)):=by
 have:=Zpt h z
 rwa [if_pos n] at this
theorem Zkz{t:Tr}{c:Int}:(t.wC c)[0]?≠some (Str.ofString "under"):=by
 cases t<;>(intro h;injection h with h;exact absurd h (by decide+kernel))
theorem Zf1(xs:List V)(k:Nat):Zfd xs (some (k:Int)) none=xs.drop k:=by
 unfold Zfd;rw[HT.ZjL,HT.Zgc,List.take_of_length_le (by rw[List.length_drop];omega)]
 by_cases h:k<=xs.length
 ·rw[Nat.min_eq_left h]
 ·have lt:xs.length<=k:=Nat.le_of_not_le h;rw[Nat.min_eq_right lt,List.drop_length,List.drop_of_length_le lt]
theorem ZqT{ns:List Str}{z:Str}(h:z∉ns):Zcg (nks ns) (Sum.inr z) (V.bl true)=nks (ns++[z]):=by
 unfold Zcg;rw[if_neg]
 ·unfold nks;rw[List.map_append]
  rfl
 ·intro w;obtain⟨kv,hm,e⟩:=List.any_eq_true.mp w;obtain⟨y,hy,rfl⟩:=List.mem_map.mp hm;have e:(Sum.inr y:Key)=Sum.inr z:=of_decide_eq_true e
  injection e with e
  exact h (e▸hy)
theorem Zgo(ps:List Str):cs (Txt.join (Str.ofString " ") ps)=J 32 (ps.map cs):=by
 have e:Txt.join (Str.ofString " ") ps=Str.join (Str.ofString " ") ps:=StrLaws.glued_eq_join _ _;rw[e,Zmg,ZdM]
theorem ZaN{α β:Type}{R:α->β->Prop}:∀{as:List α} {bs:List β},Paired R as bs->∀(i:Nat) (a:α),as[i]? =some a->∃b,bs[i]? =some b/\R a b
 |_,_,.nil,i,a,h=>by simp at h
 |_,_,.cons (a:=x) r t,0,a,h=>by
  have h:x=a:=by simpa using h
  subst h;exact⟨_,rfl,r⟩
 |_,_,.cons r t,i+1,a,h=>by
  obtain⟨b,e,z⟩:=ZaN t i a (by simpa using h);exact⟨b,by simpa using e,z⟩
theorem Zf2{ds:List Addr}{i:Nat}{y:V}(h:(ds.map V.ref)[i]? =some y):∃d,y=.ref d/\ds[i]? =some d:=by
 rw[List.getElem?_map] at h
 cases e:ds[i]? with
 |none=>rw[e] at h;cases h
 |some d=>rw[e] at h;exact⟨d,(Option.some.inj h).symm,rfl⟩
theorem ZlC{ps:List Str}(h:∀p∈ps,p.length<=2521)(l:ps.length<=30):(ps.map (·.length)).sum+ps.length*(Str.ofString "\n").length<=16777216:=by
 have h1:=Zdt (fun p:Str=>p.length) 2521 ps h;rw[show(Str.ofString "\n").length=1 by decide+kernel];have h3:ps.length*2521<=30*2521:=Nat.mul_le_mul_right _ l;omega
theorem Zpv{ws:List Str}(h:∀w∈ws,Wd w)(ne:ws≠[]):Xo (Txt.join (Str.ofString " ") ws)=ws:=Zd6 _ 32 ws ne (fun w hw=>(h w hw).2.1) (Zgo ws)
theorem ZkA{ws:List Str}(h:∀w∈ws,Wd w)(l:ws.length<=500):(ws.map (·.length)).sum<=30000:=by
 have h1:=Zdt (fun p:Str=>p.length) 60 ws fun w hw=>(h w hw).1;have h3:ws.length*60<=500*60:=Nat.mul_le_mul_right _ l;omega
theorem ZlD{ws:List Str}(h:∀w∈ws,Wd w)(l:ws.length<=500):(Txt.join (Str.ofString " ") ws).length<=40000:=by
 rw[Jg,Zgo];have h1:=Zmn 32 (ws.map cs);have e:(ws.map cs).map List.length=ws.map (·.length):=by
  rw[List.map_map];exact List.map_congr_left fun r _=>(Jg _).symm
 have h2:=ZkA h l;rw[e,List.length_map] at h1
 omega
theorem ZsA{C e d:Addr}{n:Int}{E:XK}{H0 H1:Hp}{o:HO}(b:Bad C n E H0)(s:ZJ H0 H1)(he:H1 e=none)(hd:upd H1 e o d=none)(nd:d≠e):E (.ref C) (some d) (Zg0 (upd (upd (upd H1 e o) d (XD d (Str.ofString "row") (.int n))) e (XN e C (some d))) e):=by
 rw[Zr nd] at hd
 have eq:Zg0 (upd (upd (upd H1 e o) d (XD d (Str.ofString "row") (.int n))) e (XN e C (some d))) e=upd H1 d (XD d (Str.ofString "row") (.int n)):=by
  funext b
  by_cases z:b=e
  ·rw[z,ZdU,Zr (Ne.symm nd),he]
  ·rw[Zgl z,Zr z]
   by_cases y:b=d
   ·rw[y,Zc,Zc]
   ·rw[Zr y,Zr z,Zr y]
 rw[eq];exact b d _ (none_of s hd) (s.trans (Zd hd)) Zc
theorem JD{C:Addr}{n:Int}{E:XK}{H0 H1:Hp}(b:Bad C n E H0)(s:ZJ H0 H1)(n0:0<=n)(n1:n<=1000):[V.int n].length<=sizeLine/\∀e,H1 e=none->Xp C [.ref e,.int n] (upd H1 e (XN e C none)) (fun v H2=>v=.non/\∃dk,H2 e=some (XN e C dk)/\E (.ref C) dk (Zg0 H2 e)) fun _ _ _=>False:=
 ⟨sl (n:=1),fun e he=>⟨e,n,rfl,Zc,n0,n1,fun d hd nd=>⟨rfl,some d,Zc,ZsA b s he hd nd⟩⟩⟩
theorem Zfx{ws:List Str}{t:Tr}(h:Jr ws=some t)(k:Ji t=true):Xz ws=some t:=by
 unfold Xz;rw[h];exact if_pos k
theorem Znt{ws:List Str}{t:Tr}(h:Jr ws=some t)(k:Ji t=false):Xz ws=none:=by
 unfold Xz;rw[h];exact if_neg (by rw[k];exact Bool.false_ne_true)
theorem Ziq{ws:List Str}(h:Jr ws=none):Xz ws=none:=by
 unfold Xz;rw[h]
theorem Zdu:ZQ ["words","number","term"] ["words","number"] (ZF Zby):=⟨rfl,rfl,rfl,by decide+kernel,rfl,by decide+kernel,by decide+kernel⟩
theorem Zhh{f:Addr}{fd:FuncData}(F:Fun K "series_term" "series_term" Zby f fd)(T:Txt K mg t_YEAR_DAYS t_MONTH_DAYS t_MOST_FIGURES t_MOST_LETTERS t_FIGURES t_LETTERS t_MOST_WORDS t_MOST_CLAUSES Zj Zg Zh Zb Zm ZL Zn Zo Zq Zi Zy Zv Zz ZD ZG ZM)(o_NoBook:ZoY P w K mg base 1 "NoBook" Zi ["self","row"] (Xp Zi))(Zbs:Cal P w K mg base (CXr P w) 69 "least" ["term"] (Zdm Zj Zg Zh Zb Zq 64))(Zdv:Cal P w K mg base (CXr P w) 70 "term_read" ["text"] (ZcB Zj Zg Zh Zb Zo)):Yo P w K mg base (CXr P w) 71 f fd ["words","number"] (Zb4 Zj Zg Zh Zb Zi):=by
 refine okX F Zdu (fun vs H Q E h=> ?_) (fun cdv A outer s H vs Q E hr h=> ?_)
 ·obtain⟨p,ws,n,rfl,_⟩:=h
  rfl
 ·obtain⟨p,ws,n,rfl,hp,ne,hw,lw,fit,n0,n1,k1,k2⟩:=h;have l5:=Ys;refine⟨_,(Zf (Zlp (by rfl) (fun o_k _ _=>(Zf (ZK (i:=2) Zdu.nd rfl (Or.inl rfl) (ZoX Zdv (hr.mono (by omega)) rfl (Zih o_k) (Za (Je PySem.F.plainAttrs_str PySem.F.slot_str_join PySem.F.type_str_join XX Zw (Za (pv 0) Ze)) Ze))) (Zt (Xw (ZoX Zbs (hr.mono (by omega)) rfl (Zih o_k) (Za (pv 2) Ze)))))) (by rfl) T.mg_NoTerm (by rfl) T.mg_TooWide o_NoBook (hr.mono (by omega)) (by rfl) (fun _=>(Za (pv 1) Ze))) (Zt (ZP (pv 2)))), ?_⟩
  have ej:Txt.split (Txt.join (Str.ofString " ") ws) ⟨#[32]⟩=ws:=Zpv hw ne;refine fun pn=>⟨rfl,_,rfl,_,p,ws,rfl,rfl,SqL.of hp,by rw[sp1];have:=ZkA hw lw;omega, ?_⟩
  refine⟨_,rfl,by rw[ej];exact hw,by have:=ZlD hw lw;omega,by rw[ej];omega,fun t et m H1 s1 tm=> ?_,fun et H1 s1=> ?_⟩
  ·rw[ej] at et
   obtain⟨ow,oc⟩:=fit t et;have dp:=t.deep_cnt;refine⟨_,rfl,m,t,rfl,tm,by omega,⟨ow,oc⟩,fun nr r ds H2 _ s2 _ _ _=> ?_,fun nr H2 s2=> ?_⟩
   ·exact⟨_,rfl,k1 t (Zfx et nr) m H2 (s1.trans s2) (tm.same s2)⟩
   ·exact⟨Zq,rfl,T.xm_w,_,rfl,JD (k2 (Znt et nr)) (s1.trans s2) n0 n1⟩
  ·rw[ej] at et
   exact⟨Zo,rfl,T.xm_t,_,rfl,JD (k2 (Ziq et)) s1 n0 n1⟩
theorem ZqU{ns ws:List Str}(h:ws.length<3):ZcC ns ws=none:=by
 rcases ws with _|⟨a,_|⟨b,_|⟨c,q⟩⟩⟩
 ·rfl
 ·rfl
 ·rfl
 ·exact absurd h (by simp only [List.length_cons];omega)
theorem ZdZ{ns:List Str}{s nm w:Str}{q:List Str}(h:¬(s=Str.ofString "series"/\Yz nm=true/\nm∉ns)):ZcC ns (s::nm::w::q)=none:=if_neg h
theorem Zjr{ns:List Str}{nm w:Str}{q:List Str}(h1:Yz nm=true)(h2:nm∉ns)(h:¬w=Str.ofString "under"):ZcC ns (Str.ofString "series"::nm::w::q)=(Xz (w::q)).map fun t=>⟨nm,none,some t⟩:=(if_pos ⟨rfl,h1,h2⟩).trans (if_neg h)
theorem Ze0{ns:List Str}{nm:Str}{q:List Str}(h1:Yz nm=true)(h2:nm∉ns):ZcC ns (Str.ofString "series"::nm::Str.ofString "under"::q)=(match q with
    |[]=>none
    |e::r=>if e∈ns then(if r=[] then some ⟨nm,some e,none⟩ else(Xz r).map fun t=>⟨nm,some e,some t⟩) else none):=(if_pos ⟨rfl,h1,h2⟩).trans (if_pos rfl)
theorem ZlE{a b:Str}(h:(!decide (V.str a=V.str b))=true):¬a=b:=fun z=>by
 rw[z] at h
 simp at h
theorem Zpw{a b:Str}(h:¬(!decide (V.str a=V.str b))=true):a=b:=by
 have:decide (V.str a=V.str b)=true:=by
  cases z:decide (V.str a=V.str b)
  ·rw[z] at h;exact absurd rfl h
  ·rfl
 have:=of_decide_eq_true this
 injection this
theorem Zf3{a b:Str}{q:List Str}:ZeU (a::b::Str.ofString "under"::q)=q.drop 1:=by
 show(if Str.ofString "under"=Str.ofString "under" then q.drop 1 else Str.ofString "under"::q)=_;exact if_pos rfl
theorem Zdw:ZQ ["row","number","ahead","words"] ["row","number","ahead"] (ZF Zbx):=⟨rfl,rfl,rfl,by decide+kernel,rfl,by decide+kernel,by decide+kernel⟩
theorem Zhi{f:Addr}{fd:FuncData}(F:Fun K "series_read" "series_read" Zbx f fd)(T:Txt K mg t_YEAR_DAYS t_MONTH_DAYS t_MOST_FIGURES t_MOST_LETTERS t_FIGURES t_LETTERS t_MOST_WORDS t_MOST_CLAUSES Zj Zg Zh Zb Zm ZL Zn Zo Zq Zi Zy Zv Zz ZD ZG ZM)(o_NoBook:ZoY P w K mg base 1 "NoBook" Zi ["self","row"] (Xp Zi))(ZaM:Cal P w K mg base CX0 2 "is_name" ["text"] Zcz)(Za9:Cal P w K mg base (CXr P w) 71 "series_term" ["words","number"] (Zb4 Zj Zg Zh Zb Zi)):Yo P w K mg base (CXr P w) 72 f fd ["row","number","ahead"] (Zb5 Zj Zg Zh Zb Zi):=by
 refine okX F Zdw (fun vs H Q E h=> ?_) (fun cdv A outer s H vs Q E hr h=> ?_)
 ·obtain⟨x,n,a,ns,rfl,_⟩:=h
  rfl
 ·obtain⟨x,n,a,ns,rfl,ha,ro,n0,n1,k1,k2⟩:=h;have l5:=Ys;have hu:=ZlR hr;have lx:=ro.len;refine⟨_,(Zf (ZK (i:=3) Zdw.nd rfl (Or.inl rfl) (Je PySem.F.plainAttrs_str PySem.F.slot_str_split PySem.F.type_str_split Zeh (pv 0) (Za Zw Ze))) (Zf (Yi (PW.pt (ZfH (ZR ZjI (ZZ Yr (by rfl) T.z_len Xh (Za (pv 3) Ze)) Zx (ZX _)) (ZcY (ZR ZlN (YT YW (pv 3) Zx (fun _ _=>rfl)) Zw (ZX _))))) (Zt (Zfl (by rfl) o_NoBook (hr.mono (by omega)) rfl (by rfl) (Za (pv 1) Ze))) ZS) (Zf (Yi (PW.pt (ZfH (Zed (ZaO (Yd ZaM (hr.mono (by omega)) rfl Yp (Za (YT YW (pv 3) Zx (fun _ _=>rfl)) Ze)))) (ZcY (ZnO (Zo4 hu (YT YW (pv 3) Zx (fun _ _=>rfl)) (pv 2)))))) (Zt (Zfl (by rfl) o_NoBook (hr.mono (by omega)) rfl (by rfl) (Za (pv 1) Ze))) ZS) (Zf (Yi (ZR ZlN (YT YW (pv 3) Zx (fun _ _=>rfl)) Zw (ZX _)) (Zt (ZP (Zbu (Za (YT YW (pv 3) Zx (fun _ _=>rfl)) (Za Zaj (Za (Yd Za9 (hr.mono (by omega)) rfl YK (Za (XF Zbk (pv 3) (Jk Zx) JG) (Za (pv 1) Ze))) Ze)))))) ZS) (Zf (Yi (PW.pt (ZfH (ZR ZjI (ZZ Yr (by rfl) T.z_len Xh (Za (pv 3) Ze)) Zx (ZX _)) (ZcY (ZnO (ZmP hu (YT YW (pv 3) Zx (fun _ _=>rfl)) (pv 2)))))) (Zt (Zfl (by rfl) o_NoBook (hr.mono (by omega)) rfl (by rfl) (Za (pv 1) Ze))) ZS) (Zf (Yi (ZR XC (ZZ Yr (by rfl) T.z_len Xh (Za (pv 3) Ze)) Zx (ZX _)) (Zt (ZP (Zbu (Za (YT YW (pv 3) Zx (fun _ _=>rfl)) (Za (YT YW (pv 3) Zx (fun _ _=>rfl)) (Za Zaj Ze)))))) ZS) (Zt (ZP (Zbu (Za (YT YW (pv 3) Zx (fun _ _=>rfl)) (Za (YT YW (pv 3) Zx (fun _ _=>rfl)) (Za (Yd Za9 (hr.mono (by omega)) rfl YK (Za (XF Zbk (pv 3) (Jk Zx) JG) (Za (pv 1) Ze))) Ze)))))))))))), ?_⟩
  refine⟨_,rfl,rfl,x,32,rfl,by rw[Zmg],by omega,fun p hp=> ?_⟩;have hw:=ro.wds;have lw:=ro.many;have fits:=ro.fits;simp only [Xo] at hw lw fits k1 k2
  generalize Txt.split x ⟨#[32]⟩=ws at hw lw fits k1 k2⊢
  have s0:ZJ H (upd H p (.lst (ws.map V.str))):=Zd hp;have hx:upd H p (.lst (ws.map V.str)) p=some (.lst (ws.map V.str)):=Zc;have ha1:=s0 _ _ ha;generalize upd H p (.lst (ws.map V.str))=H1 at s0 hx ha1
  refine⟨_,rfl,_,_,rfl,.inl ⟨_,SqL.of hx,rfl⟩,_,_,rfl,rfl,_,rfl,Xg (fun e=> ?_) (fun e=> ?_)⟩
  ·have e:(((ws.map V.str).length:Nat):Int)<3:=of_decide_eq_true e;exact⟨_,rfl,JD (k2 (ZqU (by rw[List.length_map] at e;omega))) s0 n0 n1⟩
  have e3:¬(((ws.map V.str).length:Nat):Int)<3:=fun z=>e (decide_eq_true z);rw[List.length_map] at e3
  obtain⟨a0,nm,w,q,rfl⟩:∃a0 nm w q,ws=a0::nm::w::q:=by
   rcases ws with _|⟨a,_|⟨b,_|⟨c,q⟩⟩⟩
   ·exact absurd (by decide) e3
   ·exact absurd (by simp) e3
   ·exact absurd (by simp) e3
   ·exact⟨_,_,_,_,rfl⟩
  have wn:=(hw nm (by simp)).1;refine ixL rfl (SqL.of hx) (atN rfl) ⟨rfl,_,rfl,Xg (fun e=> ?_) (fun e=> ?_)⟩
  ·exact⟨_,rfl,JD (k2 (ZdZ fun z=>ZlE e z.1)) s0 n0 n1⟩
  obtain rfl:=Zpw e;refine ixL rfl (SqL.of hx) (atN rfl) ⟨nm,rfl,by omega,fun H2 s2=>⟨_,rfl, ?_⟩⟩;have s02:=s0.trans s2;have hx2:=s2 _ _ hx;have ha2:=s2 _ _ ha1;cases f:Yz nm with
  |false=>exact JS ⟨_,rfl,JD (k2 (ZdZ fun z=>by rw[z.2.1] at f;cases f)) s02 n0 n1⟩
  |true=>
   by_cases nn:nm∈ns
   ·exact Zal (ixL rfl (SqL.of hx2) (atN rfl) ⟨_,rfl,a,_,rfl,Zms ha2 nn,_,rfl,JS ⟨_,rfl,JD (k2 (ZdZ fun z=>z.2.2 nn)) s02 n0 n1⟩⟩)
   refine Zal (ixL rfl (SqL.of hx2) (atN rfl) ⟨_,rfl,a,_,rfl,Zpu ha2 nn,_,rfl,Zal ?_⟩);refine ixL rfl (SqL.of hx2) (atN rfl) ⟨rfl,_,rfl,Xg (fun e=> ?_) (fun e=> ?_)⟩
   ·have ro:=Zjr (q:=q) f nn (ZlE e);rw[ro] at k1 k2
    refine ixL rfl (SqL.of hx2) (atN rfl) ⟨_,rfl,_,rfl,p,_,rfl,SqL.of hx2,fun p2 hp2=>⟨_,rfl,p2,w::q,n,rfl, ?_,by simp,fun y hy=>hw y (List.mem_cons_of_mem _ (List.mem_cons_of_mem _ hy)),by simp only [List.length_cons] at lw⊢;omega,(by rw[show ZeU (Str.ofString "series"::nm::w::q)=w::q from if_neg (ZlE e)] at fits;exact fits),n0,n1,fun t et m H3 s3 tm=>⟨show 3<=sizeLine from sl,fun d hd=> ?_⟩,fun et d H3 hd s3 hx3=> ?_⟩⟩
    ·rw[Zc];show some (HO.lst (Zfd _ (some ((2:Nat):Int)) none))=_;rw[Zf1]
     rfl
    ·have s03:=s02.trans ((Zd hp2).trans s3);exact k1 ⟨nm,none,some t⟩ (by rw[et];rfl) d _ (none_of s03 hd) (s03.trans (Zd hd)) ⟨.ref m,Zc,m,rfl,tm.same (Zd hd)⟩
    ·exact k2 (by rw[et];rfl) d H3 (none_of (s02.trans (Zd hp2)) hd) ((s02.trans (Zd hp2)).trans s3) hx3
   obtain rfl:=Zpw e;rw[Ze0 f nn] at k1 k2
   refine⟨_,rfl,_,_,rfl,.inl ⟨_,SqL.of hx2,rfl⟩,_,_,rfl,rfl,_,rfl,Xg (fun e=> ?_) (fun e=> ?_)⟩
   ·have e:((((Str.ofString "series"::nm::Str.ofString "under"::q).map V.str).length:Nat):Int)<4:=of_decide_eq_true e;simp only [List.length_map,List.length_cons] at e
    obtain rfl:q=[]:=List.eq_nil_of_length_eq_zero (by omega);exact⟨_,rfl,JD (k2 rfl) s02 n0 n1⟩
   obtain⟨el,r,rfl⟩:∃el r,q=el::r:=by
    cases q with
    |nil=>exact absurd (decide_eq_true (show((3:Nat):Int)<4 by decide)) e
    |cons x y=>exact⟨x,y,rfl⟩
   by_cases ne:el∈ns
   ·refine ixL rfl (SqL.of hx2) (atN rfl) ⟨_,rfl,a,_,rfl,Zms ha2 ne,_,rfl,Zal ?_⟩
    dsimp only at k1 k2
    rw[if_pos ne] at k1 k2
    refine⟨_,rfl,_,_,rfl,.inl ⟨_,SqL.of hx2,rfl⟩,rfl,_,rfl,Xg (fun e=> ?_) (fun e=> ?_)⟩
    ·have e:V.int ((((Str.ofString "series"::nm::Str.ofString "under"::el::r).map V.str).length:Nat):Int)=V.int 4:=of_decide_eq_true e
     injection e with e
     simp only [List.length_map,List.length_cons] at e
     obtain rfl:r=[]:=List.eq_nil_of_length_eq_zero (by omega);refine ixL rfl (SqL.of hx2) (atN rfl) (ixL rfl (SqL.of hx2) (atN rfl) ⟨show 3<=sizeLine from sl,fun d hd=> ?_⟩);exact k1 _ (if_pos rfl) d _ (none_of s02 hd) (s02.trans (Zd hd)) ⟨.non,Zc,rfl⟩
    ·have nr:¬r=[]:=fun z=>by
      subst z;exact e (decide_eq_true rfl)
     rw[if_neg nr] at k1 k2
     refine ixL rfl (SqL.of hx2) (atN rfl) (ixL rfl (SqL.of hx2) (atN rfl) ⟨_,rfl,_,rfl,p,_,rfl,SqL.of hx2,fun p2 hp2=>⟨_,rfl,p2,r,n,rfl, ?_,nr,fun y hy=>hw y (by simp[hy]),by simp only [List.length_cons] at lw;omega,(by rw[Zf3] at fits;exact fits),n0,n1,fun t et m H3 s3 tm=>⟨show 3<=sizeLine from sl,fun d hd=> ?_⟩,fun et d H3 hd s3 hx3=> ?_⟩⟩)
     ·rw[Zc];show some (HO.lst (Zfd _ (some ((4:Nat):Int)) none))=_;rw[Zf1]
      rfl
     ·have s03:=s02.trans ((Zd hp2).trans s3);exact k1 ⟨nm,some el,some t⟩ (by rw[et];rfl) d _ (none_of s03 hd) (s03.trans (Zd hd)) ⟨.ref m,Zc,m,rfl,tm.same (Zd hd)⟩
     ·exact k2 (by rw[et];rfl) d H3 (none_of (s02.trans (Zd hp2)) hd) ((s02.trans (Zd hp2)).trans s3) hx3
   ·exact ixL rfl (SqL.of hx2) (atN rfl) ⟨_,rfl,a,_,rfl,Zpu ha2 ne,_,rfl,JS ⟨_,rfl,JD (k2 (if_neg ne)) s02 n0 n1⟩⟩
theorem Znu{ns ws:List Str}{r:Sr}(h:ZcC ns ws=some r):r.nm∉ns:=by
 rcases ws with _|⟨a,_|⟨b,_|⟨c,q⟩⟩⟩
 ·cases h
 ·cases h
 ·cases h
 ·have h:(if a=Str.ofString "series"/\Yz b=true/\b∉ns then _ else none)=some r:=h
  split at h
  ·rename_i k
   have nn:=k.2.2
   split at h
   ·cases q with
    |nil=>cases h
    |cons e q=>
     dsimp only at h
     split at h
     ·split at h
      ·cases h;exact nn
      ·obtain⟨t,_,rfl⟩:=Option.map_eq_some_iff.mp h;exact nn
     ·cases h
   ·obtain⟨t,_,rfl⟩:=Option.map_eq_some_iff.mp h;exact nn
  ·cases h
theorem Zhj:∀{xs:List Str} {ns:List Str} {rs:List Sr} {i:Nat} {x:Str},Zh3 ns xs rs->xs[i]? =some x->∃r,rs[i]? =some r/\ZcC (ns++(rs.take i).map Sr.nm) (Xo x)=some r
 |[],_,_,i,_,_,h=>by simp at h
 |y::xs,ns,_,0,x,⟨r,q,rfl,e,_⟩,h=>by
  have h:y=x:=by simpa using h
  subst h;exact⟨r,rfl,by rw[List.take_zero,List.map_nil,List.append_nil];exact e⟩
 |y::xs,ns,_,i+1,x,⟨r,q,rfl,e,k⟩,h=>by
  obtain⟨r2,e2,e3⟩:=Zhj k (i:=i) (x:=x) (by simpa using h);refine⟨r2,by simpa using e2, ?_⟩;rw[List.append_assoc] at e3
  rw[List.take_succ_cons,List.map_cons];exact e3
theorem Jm:ZQ ["text","book","ahead","number","row","series"] ["text"] (ZF Zdh):=⟨rfl,rfl,rfl,by decide+kernel,rfl,by decide+kernel,by decide+kernel⟩
theorem Zjs{f:Addr}{fd:FuncData}(F:Fun K "book_read" "book_read" Zdh f fd)(T:Txt K mg t_YEAR_DAYS t_MONTH_DAYS t_MOST_FIGURES t_MOST_LETTERS t_FIGURES t_LETTERS t_MOST_WORDS t_MOST_CLAUSES Zj Zg Zh Zb Zm ZL Zn Zo Zq Zi Zy Zv Zz ZD ZG ZM)(ZbP:Cal P w K mg base (CXr P w) 72 "series_read" ["row","number","ahead"] (Zb5 Zj Zg Zh Zb Zi)):Yo P w K mg base (CXr P w) 73 f fd ["text"] (ZaE Zj Zg Zh Zb Zi):=by
 refine okX F Jm (fun vs H Q E h=> ?_) (fun cdv A outer s H vs Q E hr h=> ?_)
 ·obtain⟨x,rs,rfl,_⟩:=h
  rfl
 ·obtain⟨x,rs,rfl,bl,lr,em,more,q⟩:=h;have l5:=Ys;have hu:=ZlR hr;refine⟨_,(Zf (ZK (i:=1) Jm.nd rfl (Or.inl rfl) (Yj Ze)) (Zf (ZK (i:=2) Jm.nd rfl (Or.inl rfl) Zo5) (Zf (Yi (ZR XC (pv 0) Zw (ZX _)) (Zt (ZP (pv 1))) ZS) (Zf (ZcZ PassesOwn.leaving rfl (ZqD (K:=K) rfl (by rfl) T.z_enumerate (Za (Je PySem.F.plainAttrs_str PySem.F.slot_str_split PySem.F.type_str_split Zeh (pv 0) (Za Zw Ze)) Ze)) (Zgx rfl (Jf (Yn (i:=3) Jm.nd rfl (Or.inl rfl)) (Jf (Yn (i:=4) Jm.nd rfl (Or.inl rfl)) ZeC))) (Zf (ZK (i:=5) Jm.nd rfl (Or.inl rfl) (Yd ZbP (hr.mono (by omega)) rfl YK (Za (pv 4) (Za (pv 3) (Za (pv 2) Ze))))) (Zf (ZlQ hu (pv 2) (YT Zee (pv 5) Zx (fun _ _=>rfl)) ZfG rfl) (Zt (Xw (Je PySem.F.plainAttrs_list PySem.F.slot_list_append PySem.F.type_list_append XR (pv 1) (Za (pv 5) Ze))))))) (Zt (ZP (pv 1))))))), ?_⟩
  refine⟨Nat.zero_le _,fun B hB=> ?_⟩;intro D hD;have nDB:D≠B:=fun z=>by rw[z,Zc] at hD;cases hD
  have hD0:H D=none:=by rw[Zr nDB] at hD;exact hD
  have dB:upd (upd H B (.lst [])) D (.dK []) B=some (.lst []):=by rw[Zr (Ne.symm nDB)];exact Zc
  have dD:upd (upd H B (.lst [])) D (.dK []) D=some (.dK (nks [])):=Zc;have fr:∀b u,b≠B->b≠D->H b=some u->upd (upd H B (.lst [])) D (.dK []) b=some u:=fun b u n1 n2 e=>by rw[Zr n2,Zr n1];exact e
  generalize upd (upd H B (.lst [])) D (.dK [])=H1 at dB dD fr
  have same:∀{H':Hp},(∀b u,b≠B->b≠D->H b=some u->H' b=some u)->ZJ H H':=fun f b u e=>f b u (ZC e hB) (ZC e hD0) e;refine(vEq rfl rfl (Xg (fun e=> ?_) (fun e=> ?_)))
  ·have e:V.str x=V.str (Str.ofString ""):=of_decide_eq_true e
   injection e with e
   have z:=em e;subst z;exact⟨_,rfl,q (.inl e) B _ hB (same fr) ⟨[],dB,.nil⟩⟩
  ·have ne:x≠Str.ofString "":=fun z=>e (decide_eq_true (by rw[z]));obtain⟨ro,rd,lxs,bad⟩:=more ne;have q:=fun z=>q (.inr z);clear more em e;simp only [YX] at ro rd lxs bad q
   refine⟨_,rfl,rfl,x,10,rfl,by rw[Zps],by omega,fun p hp=> ?_⟩;generalize Txt.split x ⟨#[10]⟩=xs at ro rd lxs bad q⊢
   have npB:p≠B:=fun z=>by rw[z,dB] at hp;cases hp
   have npD:p≠D:=fun z=>by rw[z,dD] at hp;cases hp
   have hp2:upd H1 p (.lst (xs.map V.str)) p=some (.lst (xs.map V.str)):=Zc;have dB:=Zd (o:=.lst (xs.map V.str)) hp _ _ dB;have dD:=Zd (o:=.lst (xs.map V.str)) hp _ _ dD;have fr:∀b u,b≠B->b≠D->H b=some u->upd H1 p (.lst (xs.map V.str)) b=some u:=fun b u n1 n2 e=>Zd hp _ _ (fr b u n1 n2 e);generalize upd H1 p (.lst (xs.map V.str))=H2 at dB dD fr hp2
   refine⟨p,rfl,⟨_,SqL.of hp2⟩,Zoo (J:=Ite K p 1) (n:=xs.length) (fun i σ H'=>i<=rs.length/\∃(v3 v4 v5:Option V) (ds:List Addr),σ=[some (.str x),some (.ref B),some (.ref D),v3,v4,v5]/\H' B=some (.lst (ds.map V.ref))/\Paired (Zdn Zj Zg Zh Zb H') ds (rs.take i)/\H' D=some (.dK (nks ((rs.take i).map Sr.nm)))/\H' p=some (.lst (xs.map V.str))/\∀b u,b≠B->b≠D->H b=some u->H' b=some u) ?_ ?_ ?_ ?_⟩
   ·exact⟨Nat.zero_le _,none,none,none,[],rfl,dB,.nil,dD,hp2,fr⟩
   ·rintro i σ H3 hi ⟨ir,v3,v4,v5,ds,rfl,b3,p3,d3,h3,f3⟩;exact⟨_,_,SqL.of h3,List.getElem?_eq_getElem (by rw[List.length_map];exact hi)⟩
   ·rintro σ H3 ⟨ir,v3,v4,v5,ds,rfl,b3,p3,d3,h3,f3⟩;rw[List.take_of_length_le lxs] at p3
    refine⟨⟨_,SqL.of h3,by rw[List.length_map];exact Nat.le_refl _⟩, ?_⟩
    exact⟨_,rfl,q (by omega) B H3 hB (same f3) ⟨ds,b3,p3⟩⟩
   ·rintro i y σ H3 H4 hi ⟨ir,v3,v4,v5,ds,rfl,b3,p3,d3,h3,f3⟩ ⟨pp,x',hpp,hx,rfl,rfl⟩;have hx:=hx _ (SqL.of h3);have ey:xs[i]? =some xs[i]:=List.getElem?_eq_getElem hi;generalize xs[i]=y at ey
    have ex:x'=.str y:=by
     rw[List.getElem?_map,ey] at hx
     exact(Option.some.inj hx).symm
    subst ex;have s4:ZJ H3 (upd H3 pp (.tup [.int (1+(i:Nat)),.str y])):=Zd hpp;have s04:ZJ H H3:=same f3;refine⟨pp,_,rfl,SqT.of Zc,rfl,_,_,rfl,_,_,rfl,rfl, ?_⟩;refine⟨_,rfl,_,rfl,_,rfl,y,_,D,_,rfl,s4 _ _ d3,ro i y ey ir,by omega,by omega,fun r er d H5 hd s5 ser=> ?_,fun er d H5 hd s5 hx5=> ?_⟩
    rotate_left
    ·rcases Nat.lt_or_ge i rs.length with il|il
     ·obtain⟨r2,e2,e3⟩:=Zhj rd (i:=i) (x:=y) (by rw[List.getElem?_take_of_lt il];exact ey)
      rw[List.nil_append,er] at e3
      cases e3
     ·obtain rfl:i=rs.length:=by omega
      refine(bad y ey).2 d H5 (none_of (s04.trans s4) hd) ((s04.trans s4).trans s5) ?_;rw[hx5,Int.add_comm]
    have il:i<rs.length:=by
     rcases Nat.lt_or_ge i rs.length with il|il
     ·exact il
     ·obtain rfl:i=rs.length:=by omega
      have:=(bad y ey).1;rw[List.take_of_length_le (Nat.le_refl _)] at er
      rw[er] at this
      cases this
    have er2:rs[i]? =some r:=by
     obtain⟨r2,e2,e3⟩:=Zhj rd (i:=i) (x:=y) (by rw[List.getElem?_take_of_lt il];exact ey)
     rw[List.nil_append,er] at e3
     rw[e2,<-e3]
    have nn:=Znu er;clear er;have er:=er2;have s35:=s4.trans s5;obtain⟨v,sd,st⟩:=id ser;have d5:=s35 _ _ d3;have b5:=s35 _ _ b3;have h5:=s35 _ _ h3;have li:(rs.take i).length<=30:=by rw[List.length_take];omega
    refine⟨_,rfl,ixT rfl (SqT.of sd) rfl ⟨D,_,rfl,.inl ⟨_,Sum.inr r.nm,d5,rfl, ?_,rfl⟩, ?_⟩⟩
    ·unfold nks;rw[List.length_map,List.length_map];omega
    rw[ZqT nn];have nBD:B≠D:=Ne.symm nDB;have ld:ds.length<=30:=by rw[Paired.length p3];exact li
    have l6:(ds.map V.ref).length<sizeLine:=by rw[List.length_map];omega
    have b6:upd H5 D (.dK (nks ((rs.take i).map Sr.nm++[r.nm]))) B=some (.lst (ds.map V.ref)):=by rw[Zr nBD];exact b5
    refine⟨_,rfl,.inl ⟨rfl,_,SqL.of b6⟩,_,rfl,B,_,_,rfl,rfl,b6,l6, ?_⟩;have tk:rs.take (i+1)=rs.take i++[r]:=by rw[List.take_add_one,er];rfl
    have k1:∀b u,b≠B->b≠D->H5 b=some u->upd (upd H5 D (.dK (nks ((rs.take i).map Sr.nm++[r.nm])))) B (.lst (ds.map V.ref++[V.ref d])) b=some u:=fun b u n1 n2 e=>by rw[Zr n1,Zr n2];exact e
    have kt:∀b xs,H5 b=some (.tup xs)->upd (upd H5 D (.dK (nks ((rs.take i).map Sr.nm++[r.nm])))) B (.lst (ds.map V.ref++[V.ref d])) b=some (.tup xs):=fun b xs e=>k1 b _ (ZfE e b5 (fun z=>nomatch z)) (ZfE e d5 (fun z=>nomatch z)) e;have ki:∀b C dx fs,H5 b=some (.ins C dx fs)->upd (upd H5 D (.dK (nks ((rs.take i).map Sr.nm++[r.nm])))) B (.lst (ds.map V.ref++[V.ref d])) b=some (.ins C dx fs):=fun b C dx fs e=>k1 b _ (ZfE e b5 (fun z=>nomatch z)) (ZfE e d5 (fun z=>nomatch z)) e
    refine⟨il,_,_,_,ds++[d],rfl,by rw[Zc,List.map_append];rfl, ?_, ?_, ?_,fun b u n1 n2 e=>k1 b u n1 n2 (s35 _ _ (f3 b u n1 n2 e))⟩
    ·rw[tk];exact Paired.snoc (Zfw kt ki (Zip s35 p3)) (ser.keep kt ki)
    ·rw[tk,List.map_append,Zr nDB];exact Zc
    ·exact k1 p _ npB npD h5
theorem Zpx(r:Sr):Txt.join (Str.ofString " ") (Str.ofString "series"::r.nm::(elW r.el++(match r.tm with|some t=>[t.tC (-1)]|none=>[])))=r.txt:=by
 refine ext ?_;rw[Zgo];unfold Sr.txt;cases r.tm with
 |none=>
  show J 32 ((Str.ofString "series"::r.nm::(elW r.el++[])).map cs)=cs (Ze6 r);rw[List.append_nil];exact(Zgn r).symm
 |some t=>
  show J 32 ((Str.ofString "series"::r.nm::(elW r.el++[t.tC (-1)])).map cs)=cs (Ze6 r++Str.ofString " "++t.tC (-1));exact(Zmp (us:=Str.ofString "series"::r.nm::elW r.el) (vs:=[t.tC (-1)]) (by simp) (by simp) (Zgn r) rfl).symm
theorem ZcU:ZQ ["series","words"] ["series"] (ZF Zb0):=⟨rfl,rfl,rfl,by decide+kernel,rfl,by decide+kernel,by decide+kernel⟩
theorem Zg6{f:Addr}{fd:FuncData}(F:Fun K "series_shown" "series_shown" Zb0 f fd)(T:Txt K mg t_YEAR_DAYS t_MONTH_DAYS t_MOST_FIGURES t_MOST_LETTERS t_FIGURES t_LETTERS t_MOST_WORDS t_MOST_CLAUSES Zj Zg Zh Zb Zm ZL Zn Zo Zq Zi Zy Zv Zz ZD ZG ZM)(ZaG:Zov P w K mg base CX0 66 "shown" ["self"] (Jq Zj Zg Zh Zb 64) (fun C=>C=Zj\/C=Zg\/C=Zh\/C=Zb)):Yo P w K mg base CX0 67 f fd ["series"] (Zat Zj Zg Zh Zb):=by
 refine F.ok ZcU (fun vs H Q E h=> ?_) (fun cdv A outer s H vs Q E hr h=> ?_)
 ·obtain⟨d,r,rfl,_⟩:=h
  rfl
 ·obtain⟨d,r,rfl,⟨v,sd,st⟩,g,q⟩:=h;have l5:=Ys;have nz:=g.nm.2.1;refine⟨_,(Zf (ZK (i:=1) ZcU.nd rfl (Or.inl rfl) (Yj (Za Zw (Za (YT Zee (pv 0) Zx (fun _ _=>rfl)) Ze)))) (Zf (Yi (ZR Zga (YT Zee (pv 0) Zx (fun _ _=>rfl)) Zaj (ZX _)) (Zt (Xw (Je PySem.F.plainAttrs_list PySem.F.slot_list_extend PySem.F.type_list_extend ZhV (pv 1) (Za (Yj (Za Zw (Za (YT Zee (pv 0) Zx (fun _ _=>rfl)) Ze))) Ze)))) ZS) (Zf (Yi (ZR Zga (YT Zee (pv 0) Zx (fun _ _=>rfl)) Zaj (ZX _)) (Zt (Xw (Je PySem.F.plainAttrs_list PySem.F.slot_list_append PySem.F.type_list_append XR (pv 1) (Za (ZeH (YT Zee (pv 0) Zx (fun _ _=>rfl)) ZaG (hr.mono (by omega)) Yp) Ze)))) ZS) (Zt (ZP (Je PySem.F.plainAttrs_str PySem.F.slot_str_join PySem.F.type_str_join XX Zw (Za (pv 1) Ze))))))), ?_⟩
  have fin:∀(H1:Hp) (W:Addr) (ws:List Str),ZJ H H1->H1 W=some (.lst (ws.map V.str))->ws=Str.ofString "series"::r.nm::(elW r.el++(match r.tm with|some t=>[t.tC (-1)]|none=>[]))->tBM K "str" (fun x vs H Q=>∃z p ys,x=.str z/\vs=[.ref p]/\SqL K H p (ys.map V.str)/\(ys.map (·.length)).sum+ys.length*z.length<=16777216/\Q (.str (Txt.join z ys)) H) (tC (.str (Str.ofString " "))) (ZnY (Zfb 1) ZkO) [some (.ref d),some (.ref W)] H1 Q:=fun H1 W ws s1 hw ew=>by
   refine⟨rfl,_,rfl,_,W,ws,rfl,rfl,SqL.of hw, ?_, ?_⟩
   ·rw[sp1,ew];have a1:(Str.ofString "series").length=6:=by decide+kernel
    have a2:(Str.ofString "under").length=5:=by decide+kernel
    cases he:r.el with
    |none=>cases ht:r.tm with
     |none=>simp only [elW,List.append_nil,List.map_cons,List.map_nil,List.sum_cons,List.sum_nil,List.length_cons,List.length_nil,a1];omega
     |some t=>
      obtain⟨gt,ct⟩:=g.tm t ht;have:=Za2 t (-1) gt;simp only [elW,List.nil_append,List.map_cons,List.map_nil,List.sum_cons,List.sum_nil,List.length_cons,List.length_nil,a1];omega
    |some e=>
     have:=(g.el e he).2.1;cases ht:r.tm with
     |none=>simp only [elW,List.append_nil,List.map_cons,List.map_nil,List.sum_cons,List.sum_nil,List.length_cons,List.length_nil,a1,a2];omega
     |some t=>
      obtain⟨gt,ct⟩:=g.tm t ht;have:=Za2 t (-1) gt;simp only [elW,List.cons_append,List.nil_append,List.map_cons,List.map_nil,List.sum_cons,List.sum_nil,List.length_cons,List.length_nil,a1,a2];omega
   ·rw[ew,Zpx];exact q H1 s1
  refine(ixT rfl (SqT.of sd) rfl ⟨show 2<=sizeLine from sl,fun W hW=> ?_⟩);obtain⟨nm,el,tm⟩:=r;have s1:ZJ H (upd H W (.lst [.str (Str.ofString "series"),.str nm])):=Zd hW;have nWd:d≠W:=ZC sd hW;have nz:nm.length<=11:=nz;cases el with
  |none=>
   refine(ixT rfl (SqT.of (s1 _ _ sd)) rfl ⟨rfl,_,rfl,ZfK rfl ?_⟩);have hw2:upd H W (.lst [.str (Str.ofString "series"),.str nm]) W=some (.lst ((Str.ofString "series"::nm::elW none).map V.str)):=Zc;have s2:=s1;generalize upd H W (.lst [.str (Str.ofString "series"),.str nm])=H2 at hw2 s2
   have sd2:=s2 _ _ sd;cases tm with
   |none=>
    obtain rfl:v=.non:=st;exact(ixT rfl (SqT.of sd2) rfl ⟨rfl,_,rfl,ZfK rfl (fin H2 W _ s2 hw2 rfl)⟩)
   |some t=>
    obtain⟨m,rfl,tm⟩:=st;obtain⟨gt,ct⟩:=g.tm t rfl;have dp:=t.deep_cnt;refine(ixT rfl (SqT.of sd2) rfl ⟨rfl,_,rfl,Zio (fun z=>nomatch z) ?_⟩);refine⟨_,rfl,.inl ⟨rfl,_,SqL.of hw2⟩,ixT rfl (SqT.of sd2) rfl (shR (tm.same s2) (by omega) (by omega) gt fun H3 s3=> ?_)⟩;refine⟨W,_,_,rfl,rfl,s3 _ _ hw2,by simp only [List.length_map,List.length_cons,elW,List.length_nil];omega, ?_⟩
    exact fin _ W (Str.ofString "series"::nm::(elW none++[t.tC (-1)])) (fun b u e=>by rw[Zr (ZC e hW)];exact s3 _ _ (s2 _ _ e)) (by rw[Zc];rfl) rfl
  |some e=>
   refine(ixT rfl (SqT.of (s1 _ _ sd)) rfl ⟨rfl,_,rfl,Zio (fun z=>nomatch z) ?_⟩);refine⟨_,rfl,.inl ⟨rfl,_,SqL.of Zc⟩,ixT rfl (SqT.of (s1 _ _ sd)) rfl ⟨show 2<=sizeLine from sl,fun L hL=> ?_⟩⟩;have nLW:W≠L:=ZC Zc hL;refine⟨W,L,[.str (Str.ofString "series"),.str nm],[.str (Str.ofString "under"),oS (some e)],rfl,rfl,by rw[Zr nLW];exact Zc,Zc,show 4<=sizeLine from sl, ?_⟩
   have s2:ZJ H (upd (upd (upd H W (.lst [.str (Str.ofString "series"),.str nm])) L (.lst [.str (Str.ofString "under"),oS (some e)])) W (.lst ([.str (Str.ofString "series"),.str nm]++[.str (Str.ofString "under"),oS (some e)]))):=fun b u z=>by rw[Zr (ZC z hW)];exact Zd hL _ _ (s1 _ _ z)
   have hw2:upd (upd (upd H W (.lst [.str (Str.ofString "series"),.str nm])) L (.lst [.str (Str.ofString "under"),oS (some e)])) W (.lst ([.str (Str.ofString "series"),.str nm]++[.str (Str.ofString "under"),oS (some e)])) W=some (.lst ((Str.ofString "series"::nm::elW (some e)).map V.str)):=Zc;generalize upd (upd (upd H W (.lst [.str (Str.ofString "series"),.str nm])) L (.lst [.str (Str.ofString "under"),oS (some e)])) W (.lst ([.str (Str.ofString "series"),.str nm]++[.str (Str.ofString "under"),oS (some e)]))=H2 at hw2 s2
   have sd2:=s2 _ _ sd;cases tm with
   |none=>
    obtain rfl:v=.non:=st;exact(ixT rfl (SqT.of sd2) rfl ⟨rfl,_,rfl,ZfK rfl (fin H2 W _ s2 hw2 rfl)⟩)
   |some t=>
    obtain⟨m,rfl,tm⟩:=st;obtain⟨gt,ct⟩:=g.tm t rfl;have dp:=t.deep_cnt;refine(ixT rfl (SqT.of sd2) rfl ⟨rfl,_,rfl,Zio (fun z=>nomatch z) ?_⟩);refine⟨_,rfl,.inl ⟨rfl,_,SqL.of hw2⟩,ixT rfl (SqT.of sd2) rfl (shR (tm.same s2) (by omega) (by omega) gt fun H3 s3=> ?_)⟩;refine⟨W,_,_,rfl,rfl,s3 _ _ hw2,by simp only [List.length_map,List.length_cons,elW,List.length_nil];omega, ?_⟩
    exact fin _ W (Str.ofString "series"::nm::(elW (some e)++[t.tC (-1)])) (fun b u e=>by rw[Zr (ZC e hW)];exact s3 _ _ (s2 _ _ e)) (by rw[Zc];rfl) rfl
theorem ZhK:ZQ ["book"] ["book"] (ZF Zcu):=⟨rfl,rfl,rfl,by decide+kernel,rfl,by decide+kernel,by decide+kernel⟩
theorem ZhL{f:Addr}{fd:FuncData}(F:Fun K "book_shown" "book_shown" Zcu f fd)(T:Txt K mg t_YEAR_DAYS t_MONTH_DAYS t_MOST_FIGURES t_MOST_LETTERS t_FIGURES t_LETTERS t_MOST_WORDS t_MOST_CLAUSES Zj Zg Zh Zb Zm ZL Zn Zo Zq Zi Zy Zv Zz ZD ZG ZM)(Zbd:Cal P w K mg base CX0 67 "series_shown" ["series"] (Zat Zj Zg Zh Zb)):Yo P w K mg base CX0 68 f fd ["book"] (ZbL Zj Zg Zh Zb):=by
 refine F.ok ZhK (fun vs H Q E h=> ?_) (fun cdv A outer s H vs Q E hr h=> ?_)
 ·obtain⟨p,rs,rfl,_⟩:=h
  rfl
 ·obtain⟨p,rs,rfl,⟨ds,hp,pr⟩,good,lr,q⟩:=h;have l5:=Ys;have le:=Paired.length pr;refine⟨_,(Zt (ZP (Je PySem.F.plainAttrs_str PySem.F.slot_str_join PySem.F.type_str_join XX Zw (Za (Zci ["series"] [] rfl (ZaA (pv 0)) (by rfl) (by exact trivial) (by rfl) (by exact trivial) (fun _ _ _ _=>(Yn (i:=0) (show(nmY ["series"] []).Nodup by decide+kernel) rfl (Or.inl rfl))) (fun _ _ _ _=>ZaC) (fun _ _ _ _=>(Yd Zbd (hr.mono (by omega)) rfl Yp (Za (pv 0) Ze)))) Ze)))), ?_⟩
  refine⟨rfl,_,rfl,p,rfl,⟨_,SqL.of hp⟩,Zcl ds.length (fun j=>[((rs[j]?).map fun r=>V.str r.txt).getD .non]) (by omega) (fun j=>Nat.le_refl 1) (fun j H4 s4 lt=>⟨_,_,SqL.of (s4 _ _ hp),List.getElem?_eq_getElem (by rw[List.length_map];exact lt)⟩) (fun H4 s4=>⟨_,SqL.of (s4 _ _ hp),by rw[List.length_map];exact Nat.le_refl _⟩) (fun j y H4 H5 s4 lt yl RT RF rt rf=> ?_) fun D4 H4 hD4 s4 d4=> ?_⟩
  ·obtain⟨rfl,yl⟩:=yl;obtain⟨d,rfl,ed⟩:=Zf2 (yl _ (SqL.of (s4 _ _ hp)));obtain⟨r,er,ser⟩:=ZaN (Zip s4 pr) j d ed;refine⟨trivial, ?_⟩;unfold ZcR;exact JS ⟨_,rfl,d,r,rfl,ser,good r (List.mem_of_getElem? er),fun H6 s6=>rt _ H6 (by rw[er];rfl) s6⟩
  ·have e6:(List.range ds.length).flatMap (fun j=>[((rs[j]?).map fun r=>V.str r.txt).getD .non])=(rs.map Sr.txt).map V.str:=by
    rw[Xr,le,ZaI rs (fun r=>V.str r.txt) .non,List.map_map]
    rfl
   rw[e6] at d4
   refine⟨_,D4,rs.map Sr.txt,rfl,rfl,SqL.of d4,ZlC (fun z hz=> ?_) (by rw[List.length_map];exact lr),q H4 s4⟩
   obtain⟨r,hr,rfl⟩:=List.mem_map.mp hz;exact Zmq (good r hr)
theorem abc:∀c∈cs (Str.ofString "abcdefghijklmnopqrstuvwxyz"),97<=c/\c<=122:=by decide+kernel
theorem Zgp:(Str.ofString "abcdefghijklmnopqrstuvwxyz").length=26:=by decide+kernel
theorem ZlF{i:Int}(h0:0<=i)(h1:i<26):∃c,atI (Str.ofString "abcdefghijklmnopqrstuvwxyz").cps.toList i=some c/\97<=c/\c<=122:=by
 have l:(Str.ofString "abcdefghijklmnopqrstuvwxyz").cps.toList.length=26:=by rw[Array.length_toList];exact Zgp
 obtain⟨c,e⟩:=Zdj (xs:=(Str.ofString "abcdefghijklmnopqrstuvwxyz").cps.toList) (i:=i) (by rw[l];omega) (by rw[l];omega)
 refine⟨c,e, ?_⟩;obtain⟨j,_,hj,_⟩:=Zcf e;have m:c∈cs (Str.ofString "abcdefghijklmnopqrstuvwxyz"):=List.mem_of_getElem? hj;exact abc c m
def Let(z:Str):Prop:=∀c∈cs z,97<=c/\c<=122
theorem Zir{x:Str}(h:Let x)(l u:Option Int):Let (Txt.slice x l u):=fun c hc=>by
 rw[Zc6] at hc
 exact h c (List.mem_of_mem_drop (List.mem_of_mem_take hc))
theorem Znv(x:Str)(a:Int):(Txt.slice x none (some a)).length+(Txt.slice x (some a) none).length=x.length:=by
 rw[Jg,Jg,Zc6,Zc6];have h1:=Zrg (n:=x.length) (d:=x.length) (Nat.le_refl _) (some a);have e:ix x.length 0 (some a)=ix x.length x.length (some a):=rfl;rw[e];have e2:ix x.length 0 none=0:=rfl;have e3:ix x.length x.length none=x.length:=rfl;rw[e2,e3,List.length_take,List.length_take,List.length_drop,List.length_drop,<-Jg];omega
theorem Zgq{x y:Str}(h1:Let x)(h2:Let y):Let (x++y):=fun c hc=>by
 rw[ZV] at hc
 exact(List.mem_append.mp hc).elim (h1 c) (h2 c)
theorem Zgr{c:Nat}(h1:97<=c)(h2:c<=122):Let ⟨#[c]⟩:=fun d hd=>by
 rw[Zcj] at hd
 have:d=c:=by simpa using hd
 omega
theorem YC:ZQ ["_law_cell","_law_k","_law_letters","_law_base","_law_j","_law_at","_law_middle"] ["_law_cell","_law_k"] (ZF ZbA):=⟨rfl,rfl,rfl,by decide+kernel,rfl,by decide+kernel,by decide+kernel⟩
theorem Zhk{f:Addr}{fd:FuncData}(F:Fun K "_law_name_by" "_law_name_by" ZbA f fd)(T:Txt K mg t_YEAR_DAYS t_MONTH_DAYS t_MOST_FIGURES t_MOST_LETTERS t_FIGURES t_LETTERS t_MOST_WORDS t_MOST_CLAUSES Zj Zg Zh Zb Zm ZL Zn Zo Zq Zi Zy Zv Zz ZD ZG ZM):Yo P w K mg base CX0 1 f fd ["_law_cell","_law_k"] JL:=by
 refine F.ok YC (fun vs H Q E h=> ?_) (fun cdv A outer s H vs Q E hr h=> ?_)
 ·obtain⟨n,k,rfl,_⟩:=h
  rfl
 ·obtain⟨n,k,rfl,k0,k1,q⟩:=h;have l5:=Ys;have m1:=Int.emod_nonneg n (show(9:Int)≠0 by decide);have m2:=Int.emod_lt_of_pos n (show(0:Int)<9 by decide);obtain⟨S0,e0,p1,p2⟩:∃S0:Nat,1+n%9=(S0:Int)/\1<=S0/\S0<=9:=⟨(1+n%9).toNat,by omega,by omega,by omega⟩
  refine⟨_,(Zf (ZK (i:=2) YC.nd rfl (Or.inl rfl) Zw) (Zf (ZK (i:=3) YC.nd rfl (Or.inl rfl) Zw) (Zf (ZcZ PassesOwn.never rfl (ZdJ rfl T.z_range (Za (Zu Jc Zx (Zu Yt (pv 0) Zx)) Ze)) (Yn (i:=4) YC.nd rfl (Or.inl rfl)) (Zt (ZK (i:=3) YC.nd rfl (Or.inl rfl) (Zu Zk (pv 3) (YT ZgD (pv 2) (Zu Yt (Zu Jc (Zu Yy (pv 0) (Zu Jc (pv 4) Zx)) (Zu Zbl (pv 4) (pv 4))) Zx) (fun _ _=>rfl)))))) (Zf (ZK (i:=5) YC.nd rfl (Or.inl rfl) (Zu Yt (Zu Yy (pv 0) Zx) (Zu Jc (ZZ Yr (by rfl) T.z_len Xh (Za (pv 3) Ze)) Zx))) (Zf (ZK (i:=6) YC.nd rfl (Or.inl rfl) (YT ZgD (pv 2) (Zu Yt (pv 1) Zx) (fun _ _=>rfl))) (Zf (Yi (ZR ZfI (pv 1) Zx (ZX _)) (Zt (ZK (i:=6) YC.nd rfl (Or.inl rfl) (Zu Zk (YT ZgD (pv 2) (Zu Yy (pv 1) Zx) (fun _ _=>rfl)) (pv 6)))) ZS) (Zt (ZP (Zu Zk (Zu Zk (XF ZiN (pv 3) JG (Jk (pv 5))) (pv 6)) (XF ZiN (pv 3) (Jk (pv 5)) JG)))))))))), ?_⟩
  refine(vI rfl (by show(0:Int)<9;decide) ⟨_,_,rfl,rfl,_,rfl,by omega,by omega,ZdK (fun i σ H'=>∃(x:Str) (v4:Option V),σ=[some (.int n),some (.int k),some (.str (Str.ofString "abcdefghijklmnopqrstuvwxyz")),some (.str x),v4,none,none]/\x.length=i/\Let x/\H'=H) ?_ ?_ ?_⟩)
  ·exact⟨Str.empty,none,rfl,rfl,(fun c hc=>nomatch hc),rfl⟩
  ·rintro i σ H1 hi ⟨x,v4,rfl,hl,hc,rfl⟩;have hi':(i:Int)<9:=by omega
   have ib:Builtin.Int.intBits (0+(i:Int))<=64:=intBits_le_64 (by omega) (by omega);obtain⟨c,ec,c1,c2⟩:=ZlF (i:=(n/(0+(i:Int)+3)+(0+(i:Int))*(0+(i:Int)))%26) (Int.emod_nonneg _ (by decide)) (Int.emod_lt_of_pos _ (by decide));refine⟨_,rfl,_,rfl,_,rfl,_,rfl,_,_,rfl,rfl,_,_,rfl,rfl,⟨by omega,by omega⟩,_,rfl,_,rfl,_,_,rfl,rfl,IntMulOk.of_left ib,_,_,rfl,rfl,_,_,rfl,rfl,(by show(0:Int)<26;decide),_,_,c,rfl,rfl, ?_,ec,_,_,rfl,rfl, ?_, ?_⟩
   ·rw[Zgp];omega
   ·show x.length+1<=sizeLine;omega
   ·exact⟨x++⟨#[c]⟩,_,rfl,by rw[ZeQ,hl],Zgq hc (Zgr c1 c2),rfl⟩
  ·rintro σ H1 ⟨x,v4,rfl,hl,hc,rfl⟩;have hx:1<=x.length/\x.length<=9:=by omega
   clear hl;have lx:(0:Int)<(x.length:Int)+1:=by omega
   obtain⟨c,ec,c1,c2⟩:=ZlF (i:=k%26) (Int.emod_nonneg _ (by decide)) (Int.emod_lt_of_pos _ (by decide));refine(vI rfl ⟨by decide,by decide⟩ ⟨_,rfl,_,_,rfl,⟨by omega,rfl⟩,_,_,rfl,rfl,_,_,rfl,rfl,lx, ?_⟩);refine⟨_,rfl,vI rfl (by show(0:Int)<26;decide) ⟨_,_,c,rfl,rfl,by rw[Zgp];omega,ec, ?_⟩⟩
   have l2:=Znv x (n/9%((x.length:Int)+1));have fin:∀m:Str,Let m->1<=m.length->m.length<=2->Q (.str (Txt.slice x none (some (n/9%((x.length:Int)+1)))++m++Txt.slice x (some (n/9%((x.length:Int)+1))) none)) H1:=fun m lm m1 m2=>q _ H1 ⟨by rw[strLen_append,strLen_append];omega,by rw[strLen_append,strLen_append];omega,Zgq (Zgq (Zir hc _ _) lm) (Zir hc _ _)⟩ (ZJ.refl _)
   refine⟨_,rfl,_,_,rfl,rfl,_,rfl,Xg (fun e=> ?_) (fun e=> ?_)⟩
   ·have e:25<k:=of_decide_eq_true e;obtain⟨c',ec',c1',c2'⟩:=ZlF (i:=k/26) (by omega) (by omega);refine⟨_,rfl,vI rfl ⟨by decide,by decide⟩ ⟨_,_,c',rfl,rfl,by rw[Zgp];omega,ec',_,rfl,_,_,rfl,rfl,(by show 1+1<=sizeLine;omega), ?_⟩⟩
    refine⟨_,rfl,_,rfl,_,rfl,x,rfl,by omega,_,rfl,_,_,rfl,rfl, ?_,_,rfl,_,rfl,_,rfl,x,rfl,by omega,_,_,rfl,rfl, ?_,fin (⟨#[c']⟩++⟨#[c]⟩) (Zgq (Zgr c1' c2') (Zgr c1 c2)) (by rw[ZeQ];exact Nat.le_add_left 1 _) (by rw[ZeQ];exact Nat.le_refl 2)⟩
    ·show _+2<=_;omega
    ·rw[strLen_append];show _+2+_<=_;omega
   ·refine⟨_,rfl,_,rfl,_,rfl,x,rfl,by omega,_,rfl,_,_,rfl,rfl, ?_,_,rfl,_,rfl,_,rfl,x,rfl,by omega,_,_,rfl,rfl, ?_,fin ⟨#[c]⟩ (Zgr c1 c2) (Nat.le_refl 1) (show 1<=2 by decide)⟩
    ·show _+1<=_;omega
    ·rw[strLen_append];show _+1+_<=_;omega
theorem Zmt(m:Nat):Zae (360*m)=num m++Str.ofString "y":=by
 unfold Zae;rw[if_pos (by omega),Nat.mul_div_cancel_left _ (by decide)]
theorem ZqV{m:Nat}(h:1<=m/\m<=11):Zae (30*m)=num m++Str.ofString "m":=by
 unfold Zae;rw[if_neg (by omega),if_pos (by omega),Nat.mul_div_cancel_left _ (by decide)]
theorem ZqW{m:Nat}(h:1<=m/\m<=29):Zae m=num m++Str.ofString "d":=by
 unfold Zae;rw[if_neg (by omega),if_neg (by omega)]
theorem ZqX:Zae 0=Str.ofString "0y":=by decide+kernel
theorem at5{a b c d e:V}{P:V->Prop}{j:Int}(h0:0<=j)(h1:j<5)(pa:P a)(pb:P b)(pc:P c)(pd:P d)(pe:P e):∃v,atI [a,b,c,d,e] j=some v/\P v:=by
 have:j=0\/j=1\/j=2\/j=3\/j=4:=by omega
 rcases this with rfl|rfl|rfl|rfl|rfl
 ·exact⟨a,rfl,pa⟩
 ·exact⟨b,rfl,pb⟩
 ·exact⟨c,rfl,pc⟩
 ·exact⟨d,rfl,pd⟩
 ·exact⟨e,rfl,pe⟩
theorem Ze8:ZQ ["_law_number","_law_some"] ["_law_number"] (ZF Zcv):=⟨rfl,rfl,rfl,by decide+kernel,rfl,by decide+kernel,by decide+kernel⟩
theorem ZhM{f:Addr}{fd:FuncData}(F:Fun K "_law_length" "_law_length" Zcv f fd)(T:Txt K mg t_YEAR_DAYS t_MONTH_DAYS t_MOST_FIGURES t_MOST_LETTERS t_FIGURES t_LETTERS t_MOST_WORDS t_MOST_CLAUSES Zj Zg Zh Zb Zm ZL Zn Zo Zq Zi Zy Zv Zz ZD ZG ZM):Yo P w K mg base CX0 1 f fd ["_law_number"] ZbM:=by
 refine F.ok Ze8 (fun vs H Q E h=> ?_) (fun cdv A outer s H vs Q E hr h=> ?_)
 ·obtain⟨n,rfl,_⟩:=h
  rfl
 ·obtain⟨n,rfl,n0,n1,q⟩:=h;have l5:=Ys;obtain⟨N,rfl⟩:∃N:Nat,n=(N:Int):=⟨n.toNat,by omega⟩
  have hN:N<2147483647:=by omega
  have b1:∀m:Nat,m<10^100->(num m).length<=100:=fun m h=>Zcy h;have small:∀{m:Nat},m<=100->m<10^100:=fun{m} h=>Nat.lt_of_le_of_lt h (by decide+kernel);have q:∀(d:Nat) (H':Hp),d<10^40->ZJ H H'->Q (.str (Zae d)) H':=fun d H' h s=>by rw[<-Zew];exact q d H' h s
  have bits:∀x:Int,0<=x->x<2147483648*2147483648->Builtin.Int.intBits x<=64:=fun x h1 h2=>intBits_le_64 (by omega) (by omega);have nn:(N:Int)*N<2147483648*2147483648:=by
   have z:N*N<2147483648*2147483648:=Nat.mul_lt_mul'' (by omega) (by omega);have z2:(N:Int)*N=((N*N:Nat):Int):=by simp
   rw[z2];omega
  have nn0:(0:Int)<=(N:Int)*N:=Int.mul_nonneg (by omega) (by omega);refine⟨_,(Zf (ZK (i:=1) Ze8.nd rfl (Or.inl rfl) (Yj (Za (Zu Zk (XQ Xa (by rfl) T.z_str Zd3 (Za (Zu Yt (pv 0) Zx) Ze)) Zw) (Za (Zu Zk (XQ Xa (by rfl) T.z_str Zd3 (Za (Zu Jc Zx (Zu Yt (pv 0) Zx)) Ze)) Zw) (Za (Zu Zk (XQ Xa (by rfl) T.z_str Zd3 (Za (Zu Jc Zx (Zu Yt (pv 0) Zx)) Ze)) Zw) (Za Zw Ze)))))) (Zf (Xw (Je PySem.F.plainAttrs_list PySem.F.slot_list_append PySem.F.type_list_append XR (pv 1) (Za (Zu Zk (XQ Xa (by rfl) T.z_str Zd3 (Za (Zu Jc Zx (Zu Yt (Zu Zbl (Zu Zbl (Zu Zbl (pv 0) (pv 0)) (pv 0)) Zx) (Zu ZrJ Zx Zx))) Ze)) Zw) Ze))) (Zt (ZP (YT YW (pv 1) (Zu Yt (Zu Yy (pv 0) Zx) Zx) (fun _ _=>rfl)))))), ?_⟩
  refine(vI rfl (by show(0:Int)<40;decide) ⟨((N%40:Nat):Int),rfl,Zep (small (by omega)),_,_,rfl,rfl, ?l0, ?_⟩)
  case l0=>
   show(num (N%40)).length+1<=sizeLine;have:=b1 (N%40) (small (by omega));omega
  refine(vI rfl (by show(0:Int)<11;decide) ⟨_,_,rfl,rfl,((1+N%11:Nat):Int),rfl,Zep (small (by omega)),_,_,rfl,rfl, ?l1, ?_⟩)
  case l1=>
   show(num (1+N%11)).length+1<=sizeLine;have:=b1 (1+N%11) (small (by omega));omega
  refine(vI rfl (by show(0:Int)<29;decide) ⟨_,_,rfl,rfl,((1+N%29:Nat):Int),rfl,Zep (small (by omega)),_,_,rfl,rfl, ?l2, ?_⟩)
  case l2=>
   show(num (1+N%29)).length+1<=sizeLine;have:=b1 (1+N%29) (small (by omega));omega
  refine⟨show 4<=sizeLine from sl,fun p hp=> ?_⟩;have p37:(0:Int)<10^(37:Int).toNat:=pow_pos _;obtain⟨M,eM,hM⟩:∃M:Nat,1+(N:Int)*N*N*982451653%10^(37:Int).toNat=(M:Int)/\M<=10^37:=by
   have z0:=Int.emod_nonneg ((N:Int)*N*N*982451653) (Int.ne_of_gt p37);have z1:=Int.emod_lt_of_pos ((N:Int)*N*N*982451653) p37;have e37:(10:Int)^(37:Int).toNat=((10^37:Nat):Int):=ZeR 37;rw[e37] at z0 z1⊢
   generalize (10^37:Nat)=B at z0 z1⊢
   generalize (N:Int)*N*N*982451653%(B:Int)=z at z0 z1⊢
   exact⟨(1+z).toNat,by omega,by omega⟩
  have hM1:M<10^100:=Nat.lt_of_le_of_lt hM (by decide+kernel);refine⟨_,rfl,.inl ⟨rfl,_,SqL.of Zc⟩,_,rfl,_,rfl,_,_,rfl,rfl,IntMulOk.of_left (bits _ (by omega) (by omega)),_,rfl,_,_,rfl,rfl,IntMulOk.of_left (bits _ nn0 nn),_,_,rfl,rfl,IntMulOk.of_right (intBits_le_64 (by decide) (by decide)),_,_,rfl,rfl,Zso (by decide) (by decide),_,_,rfl,rfl,p37,_,_,rfl,rfl,(M:Int),(by show[V.int _]=_;rw[eM]),Zep hM1,_,_,rfl,rfl, ?l3, ?_⟩
  case l3=>
   show(num M).length+1<=sizeLine;have:=b1 M hM1;omega
  refine⟨p,_,_,rfl,rfl,Zc,show 4<sizeLine from Nat.lt_of_lt_of_le (by decide) l5, ?_⟩;rw[Xv];have s2:∀o,ZJ H (upd H p o):=fun o=>Zd hp;have h40:(36000:Nat)<10^40:=by decide+kernel
  have hb:360*M<10^40:=Nat.lt_of_le_of_lt (Nat.mul_le_mul_left 360 hM) (by decide+kernel);obtain⟨v,ev,hv⟩:=at5 (a:=.str (num (N%40)++Str.ofString "y")) (b:=.str (num (1+N%11)++Str.ofString "m")) (c:=.str (num (1+N%29)++Str.ofString "d")) (d:=.str (Str.ofString "0y")) (e:=.str (num M++Str.ofString "y")) (P:=fun v=>Q v (upd H p (.lst [.str (num (N%40)++Str.ofString "y"),.str (num (1+N%11)++Str.ofString "m"),.str (num (1+N%29)++Str.ofString "d"),.str (Str.ofString "0y"),.str (num M++Str.ofString "y")]))) (Int.emod_nonneg ((N:Int)/7) (show(5:Int)≠0 by decide)) (Int.emod_lt_of_pos ((N:Int)/7) (by decide))
   (Zfp (q (360*(N%40)) _ (by omega) (s2 _)) (congrArg V.str (Zmt _))) (Zfp (q (30*(1+N%11)) _ (by omega) (s2 _)) (congrArg V.str (ZqV (by omega)))) (Zfp (q (1+N%29) _ (by omega) (s2 _)) (congrArg V.str (ZqW (by omega)))) (Zfp (q 0 _ (by omega) (s2 _)) (congrArg V.str ZqX)) (Zfp (q (360*M) _ hb (s2 _)) (congrArg V.str (Zmt _)))
  exact⟨_,rfl,vI rfl ⟨by decide,by decide⟩ ⟨_,_,rfl,rfl,(by show(0:Int)<5;decide),p,_,_,v,rfl,rfl,SqL.of Zc,ev,hv⟩⟩
theorem Zex{x:Str}(h1:x.length<=60)(h2:(cs x).all (fun c=>decide (c≠32)&&decide (c<16^8))=true):Wd x:=by
 rw[List.all_eq_true] at h2
 refine⟨h1,fun m=> ?_,fun c hc=> ?_⟩
 ·have:=h2 32 m;simp at this
 ·have:=h2 c hc;rw[Bool.and_eq_true] at this
  exact of_decide_eq_true this.2
theorem ZsB{n:Nat}(h:n<10^41){c:Nat}(hc:c=121\/c=109\/c=100):Wd (num n++⟨#[c]⟩):=by
 have l:=Zgd (k:=41) (by decide) h;refine⟨by rw[ZeQ];omega,fun m=> ?_,fun x hx=> ?_⟩
 ·rw[ZV,Zcj] at m
  rcases List.mem_append.mp m with m|m
  ·have:=Zck n 32 m;omega
  ·have e:32=c:=by simpa using m
   omega
 ·have hx:x∈cs (num n++⟨#[c]⟩):=hx;rw[ZV,Zcj] at hx
  rcases List.mem_append.mp hx with m|m
  ·have:=Zck n x m;omega
  ·have e:x=c:=by simpa using m
   omega
theorem Zmu{z:Str}(h:Nm z):Wd z:=⟨by have:=h.2.1;omega,fun m=>by have:=h.2.2 32 m;omega,fun c hc=>by have:=h.2.2 c hc;omega⟩
theorem ZqY{c u:Nat}(h:Zb2 ⟨#[c]⟩=.int (u:Int)):c=121\/c=109\/c=100:=by
 unfold Zb2 at h
 split at h
 ·rename_i e;rw[Ztr] at e;injection e with e;left;simpa using congrArg Array.toList e
 ·split at h
  ·rename_i e;rw[Zss] at e;injection e with e;right;left;simpa using congrArg Array.toList e
  ·split at h
   ·rename_i e;rw[Zst] at e;injection e with e;right;right;simpa using congrArg Array.toList e
   ·cases h
theorem Zf4:∀{t:Tr} {ws:List Str},Zjf t ws->∀p∈ws,Wd p
 | .never,ws,h,p,m=>by
  rw[show ws=_ from h] at m
  rw[show p=Str.ofString "never" by simpa using m];exact Zex (by decide+kernel) (by decide+kernel)
 | .after k d,ws,⟨z,e,hk,n,c,u,ez,hn,hu,_⟩,p,m=>by
  rw[e] at m
  have m:p=Str.ofString "after"\/p=k\/p=z:=by simpa using m
  rcases m with rfl|rfl|rfl
  ·exact Zex (by decide+kernel) (by decide+kernel)
  ·exact Zmu hk
  ·rw[ez];exact ZsB (Nat.lt_trans hn (by decide+kernel)) (ZqY hu)
 | .later x y,ws,⟨u,v,e,h1,h2⟩,p,m=>by
  rw[e] at m
  rcases List.mem_cons.mp m with rfl|m
  ·exact Zex (by decide+kernel) (by decide+kernel)
  ·exact(List.mem_append.mp m).elim (Zf4 h1 p) (Zf4 h2 p)
 | .earlier x y,ws,⟨u,v,e,h1,h2⟩,p,m=>by
  rw[e] at m
  rcases List.mem_cons.mp m with rfl|m
  ·exact Zex (by decide+kernel) (by decide+kernel)
  ·exact(List.mem_append.mp m).elim (Zf4 h1 p) (Zf4 h2 p)
theorem ZsC:∀k<26,inS Za1 (97+k)=true:=by decide+kernel
theorem Zmv{z:Str}(h:Nm z):Yz z=true:=by
 obtain⟨h1,h2,h3⟩:=h;have h4:z.length<=12:=by omega
 unfold Yz;rw[decide_eq_true h1,decide_eq_true h4,Bool.and_self,Bool.true_and,List.all_eq_true];intro c hc;have b:=h3 c hc;have:=ZsC (c-97) (by omega)
 rwa [Nat.add_sub_cancel' b.1] at this
theorem ZsD{z:Str}{d:Int}(h:Zmf z d):Zbv z=.int d:=by
 obtain⟨n,c,u,rfl,hn,hu,_,rfl⟩:=h;have e1:Zkh (num n++⟨#[c]⟩)=num n:=ZkZ _ _;have e2:Txt.slice (num n++⟨#[c]⟩) (some (-1)) none=⟨#[c]⟩:=Zl0 _ _;have e3:dv (num n)=n:=Zq8 n;unfold Zbv Zki;rw[e2,hu]
 dsimp only
 rw[e1,Zni hn,if_pos rfl,e3,Int.natCast_mul]
theorem Zf5:∀{t:Tr} {ws:List Str} {n:Nat} (r:List Str),Zjf t ws->t.deep<n->pt n (ws++r)=some (t,r)
 | .never,ws,n+1,r,h,_=>by
  rw[show ws=_ from h];exact Zh7 n r
 | .after k d,ws,n+1,r,⟨z,e,hk,hz⟩,_=>by
  rw[e];exact Zkq n r (Zmv hk) (ZsD hz)
 | .later x y,ws,n+1,r,⟨u,v,e,h1,h2⟩,l=>by
  have l:max x.deep y.deep+1<n+1:=l;rw[e,List.cons_append,Zkr,List.append_assoc,Zf5 (v++r) h1 (by omega)];show(pt n (v++r)).bind _=_;rw[Zf5 r h2 (by omega)]
  rfl
 | .earlier x y,ws,n+1,r,⟨u,v,e,h1,h2⟩,l=>by
  have l:max x.deep y.deep+1<n+1:=l;rw[e,List.cons_append,Zh8,List.append_assoc,Zf5 (v++r) h1 (by omega)];show(pt n (v++r)).bind _=_;rw[Zf5 r h2 (by omega)]
  rfl
theorem Zbe:∀t:Tr,t.cnt<=5->Ji t=true
 | .never,_=>rfl
 | .after _ _,_=>rfl
 | .later x y,h=>by
  have h':x.cnt+y.cnt<=5:=h;have l:=Ju (.later x y);have a:=Zer (.later x y) (by omega);have b:=Zh2 (Tr.later x y).cnt (by omega);rw[Zf0,Zbe x (by omega),Zbe y (by omega),decide_eq_true (by omega)]
  rfl
 | .earlier x y,h=>by
  have h':x.cnt+y.cnt<=5:=h;have l:=Ju (.earlier x y);have a:=Zer (.earlier x y) (by omega);have b:=Zh2 (Tr.earlier x y).cnt (by omega);rw[Zdq,Zbe x (by omega),Zbe y (by omega),decide_eq_true (by omega)]
  rfl
theorem ZtZ{t:Tr}(g:t.good)(c:t.cnt<=5):t.cnt<=31/\Zp5 t:=⟨by omega,by have:=(Zdk (Zbp t (-1) g)).2;omega,Zbe t c,Zsv c⟩
theorem Zjt{t:Tr}(g:t.good)(f:t.cnt<=31/\Zp5 t):Jr (t.wC (-1))=some t:=by
 have d:=t.deep_cnt;have p:=Zf5 (n:=64) [] (Zbp t (-1) g) (by omega);rw[List.append_nil] at p
 unfold Jr;rw[if_neg (by have:=f.2.1;omega),p]
theorem Zgs{r:Sr}(g:r.good):Xo r.txt=r.wds:=Zd6 r.txt 32 r.wds (by unfold Sr.wds;simp) (Zns g) (ZlB r)
theorem Znw{r:Sr}{ns:List Str}(g:r.good)(nn:r.nm∉ns)(nel:∀e,r.el=some e->e∈ns):ZcC ns (Xo r.txt)=some r:=by
 rw[Zgs g];obtain⟨nm,el,tm⟩:=r;have hn:=Zmv g.nm;cases el with
 |none=>
  cases tm with
  |none=>exact absurd rfl (g.some rfl)
  |some t=>
   obtain⟨gt,ct⟩:=g.tm t rfl;have un:=Zkz (t:=t) (c:= -1);show ZcC ns (Str.ofString "series"::nm::t.wC (-1))=_;have e:=Zfx (Zjt gt ct) ct.2.2.1;cases ew:t.wC (-1) with
   |nil=>exact absurd ew (t.wC_ne (-1))
   |cons w q=>
    rw[ew] at un e
    rw[Zjr hn nn (fun z=>un (by rw[z];rfl)),e]
    rfl
 |some e=>
  have he:=nel e rfl;show ZcC ns (Str.ofString "series"::nm::Str.ofString "under"::e::tmW tm)=_;rw[Ze0 hn nn]
  dsimp only
  rw[if_pos he];cases tm with
  |none=>exact if_pos rfl
  |some t=>
   obtain⟨gt,ct⟩:=g.tm t rfl;rw[show tmW (some t)=t.wC (-1) from rfl,if_neg (t.wC_ne (-1)),Zfx (Zjt gt ct) ct.2.2.1]
   rfl
theorem Zdx:∀{rs:List Sr} {ns:List Str},Xn ns rs->Zh3 ns (rs.map Sr.txt) rs
 |[],_,_=>rfl
 |r::rs,ns,⟨g,n,e,k⟩=>⟨r,rs,rfl,Znw g n e,Zdx k⟩
theorem Zrs{c:Nat}{w v:List (List Nat)}(h:w≠[]):J c (J c w::v)=J c (w++v):=by
 cases v with
 |nil=>rw[List.append_nil];rfl
 |cons x v=>rw[Zkk h (by simp)];rfl
theorem Zpy{c:Nat}{w v:List (List Nat)}(h:w≠[]):∀us:List (List Nat),J c (us++J c w::v)=J c (us++(w++v))
 |[]=>Zrs h
 |[u]=>by
  cases w with
  |nil=>exact absurd rfl h
  |cons x w=>
   show u++c::J c (J c (x::w)::v)=u++c::J c (x::w++v);rw[Zrs h]
 |u::u2::us=>by
  show u++c::J c (u2::us++J c w::v)=u++c::J c (u2::us++(w++v));rw[Zpy h (u2::us)]
def ZkB(ps:List Str)(l k:Nat):Prop:=∀ts:List Tr,ts.length=l->(∀t∈ts,t.good)->∃t:Tr,t.good/\t.cnt=k+(ts.map Tr.cnt).sum/\J 32 (ps.map cs++ts.map fun t=>cs (t.tC (-1)))=cs (t.tC (-1))
theorem Znx:ZkB [] 1 0:=fun ts hl g=>by
 cases ts with
 |nil=>cases hl
 |cons t ts=>
  cases ts with
  |nil=>exact⟨t,g t (List.mem_cons_self ..),by simp,rfl⟩
  |cons _ _=>simp at hl
theorem ZsE(w:Str)(a b:Tr):cs (w++Str.ofString " "++a.tC (-1)++Str.ofString " "++b.tC (-1))=J 32 [cs w,cs (a.tC (-1)),cs (b.tC (-1))]:=by
 rw[ZV,ZV,ZV,ZV,Zkl];show cs w++[32]++_++[32]++_=cs w++32::(_++32::cs (b.tC (-1)));simp
theorem Zis{ps:List Str}{l k:Nat}(h:ZkB ps (l+1) k){w:Str}(mk:Tr->Tr->Tr)(e1:∀a b,(mk a b).good↔a.good/\b.good)(e2:∀a b,(mk a b).cnt=a.cnt+b.cnt)(e3:∀a b,(mk a b).tC (-1)=w++Str.ofString " "++a.tC (-1)++Str.ofString " "++b.tC (-1)):ZkB (ps++[w]) (l+2) k:=fun ts hl g=>by
 match ts,hl,g with
 |a::b::ts,hl,g=>
  obtain⟨t,g1,c1,j1⟩:=h (mk a b::ts) (by simp only [List.length_cons] at hl⊢;omega) fun x hx=>by
   obtain rfl|hx:=List.mem_cons.mp hx
   ·exact(e1 a b).mpr ⟨g a (List.mem_cons_self ..),g b (List.mem_cons_of_mem _ (List.mem_cons_self ..))⟩
   ·exact g x (List.mem_cons_of_mem _ (List.mem_cons_of_mem _ hx))
  refine⟨t,g1, ?_, ?_⟩
  ·rw[c1];simp only [List.map_cons,List.sum_cons,e2];omega
  ·rw[List.map_cons] at j1
   rw[e3,ZsE,Zpy (by simp)] at j1
   rw[<-j1];simp
theorem Zit{ps:List Str}{l k:Nat}(h:ZkB ps (l+1) k){w:Str}{t0:Tr}(g0:t0.good)(c0:t0.cnt=1)(e:t0.tC (-1)=w):ZkB (ps++[w]) l (k+1):=fun ts hl g=>by
 obtain⟨t,g1,c1,j1⟩:=h (t0::ts) (by rw[List.length_cons,hl]) fun x hx=>by
  obtain rfl|hx:=List.mem_cons.mp hx
  ·exact g0
  ·exact g x hx
 refine⟨t,g1, ?_, ?_⟩
 ·rw[c1,List.map_cons,List.sum_cons,c0];omega
 ·rw[<-j1,List.map_cons,e];simp
theorem two_words{j:Int}(h0:0<=j)(h1:j<2):∃w,atI [V.str (Str.ofString "later"),V.str (Str.ofString "earlier")] j=some (.str w)/\(w=Str.ofString "later"\/w=Str.ofString "earlier"):=by
 have:j=0\/j=1:=by omega
 rcases this with rfl|rfl
 ·exact⟨_,rfl,.inl rfl⟩
 ·exact⟨_,rfl,.inr rfl⟩
theorem vI0{g:Int->Int->V}{i:Nat}{σ:L2.St}{H:Hp}{Q:VK}{a k:Int}(e:σ[i]? =some (some (.int a)))(q:Q (g a k) H):tOp (rI0 g) (Zfb i) (tC (.int k)) σ H Q:=⟨_,e,a,k,rfl,rfl,q⟩
theorem vIe{g:Int->Int->V}{i:Nat}{σ:L2.St}{H:Hp}{Q:VK}{a k:Int}{v:V}(e:σ[i]? =some (some (.int a)))(ev:g a k=v)(q:Q v H):tOp (rI0 g) (Zfb i) (tC (.int k)) σ H Q:=⟨_,e,a,k,rfl,rfl,ev▸q⟩
theorem Yg:ZQ ["_law_number","_law_names_by","_law_words","_law_left","_law_joints","_law_pick","_law_kind"] ["_law_number","_law_names_by"] (ZF Zao):=⟨rfl,rfl,rfl,by decide+kernel,rfl,by decide+kernel,by decide+kernel⟩
theorem Zfy{f:Addr}{fd:FuncData}(F:Fun K "_law_term_text" "_law_term_text" Zao f fd)(T:Txt K mg t_YEAR_DAYS t_MONTH_DAYS t_MOST_FIGURES t_MOST_LETTERS t_FIGURES t_LETTERS t_MOST_WORDS t_MOST_CLAUSES Zj Zg Zh Zb Zm ZL Zn Zo Zq Zi Zy Zv Zz ZD ZG ZM)(ZcG:Cal P w K mg base CX0 1 "_law_length" ["_law_number"] ZbM)(Ja:Cal P w K mg base CX0 1 "_law_name_by" ["_law_cell","_law_k"] JL):Yo P w K mg base CX0 2 f fd ["_law_number","_law_names_by"] Za3:=by
 refine F.ok Yg (fun vs H Q E h=> ?_) (fun cdv A outer s H vs Q E hr h=> ?_)
 ·obtain⟨n,c,rfl,_⟩:=h
  rfl
 ·obtain⟨n0,c,rfl,q⟩:=h;have l5:=Ys;refine⟨_,(Zf (ZK (i:=2) Yg.nd rfl (Or.inl rfl) (Yj Ze)) (Zf (ZK (i:=3) Yg.nd rfl (Or.inl rfl) Zx) (Zf (ZK (i:=4) Yg.nd rfl (Or.inl rfl) Zx) (Zf (ZnR PassesOwn.never (ZR ZfI (pv 3) Zx (ZX _)) (Zf (ZK (i:=0) Yg.nd rfl (Or.inl rfl) (Zu Yt (Zu Jc (Zu Zbl (pv 0) Zx) Zx) Zx)) (Zf (ZK (i:=5) Yg.nd rfl (Or.inl rfl) (Zu Yt (Zu Yy (pv 0) Zx) Zx)) (Zt (Yi (PW.pt (ZiD (ZR ZjI (pv 5) Zx (ZX _)) (Zg9 (ZR ZjI (pv 4) Zx (ZX _))))) (Zf (Xw (Je PySem.F.plainAttrs_list PySem.F.slot_list_append PySem.F.type_list_append XR (pv 2) (Za (YT YW (Yj (Za Zw (Za Zw Ze))) (Zu Yt (Zu Yy (pv 0) Zx) Zx) (fun _ _=>rfl)) Ze))) (Zf (ZK (i:=4) Yg.nd rfl (Or.inl rfl) (Zu Jc (pv 4) Zx)) (Zt (ZK (i:=3) Yg.nd rfl (Or.inl rfl) (Zu Jc (pv 3) Zx))))) (Zt (Yi (ZR XC (pv 5) Zx (ZX _)) (Zf (Xw (Je PySem.F.plainAttrs_list PySem.F.slot_list_append PySem.F.type_list_append XR (pv 2) (Za Zw Ze))) (Zt (ZK (i:=3) Yg.nd rfl (Or.inl rfl) (Zu ZkJ (pv 3) Zx)))) (Zf (ZK (i:=6) Yg.nd rfl (Or.inl rfl) (Yd Ja (hr.mono (by omega)) rfl Yp (Za (pv 1) (Za (Zu Jc Zx (Zu Yt (Zu Yy (pv 0) Zx) Zx)) Ze)))) (Zf (Xw (Je PySem.F.plainAttrs_list PySem.F.slot_list_append PySem.F.type_list_append XR (pv 2) (Za (Zu Zk (Zu Zk (Zu Zk Zw (pv 6)) Zw) (Yd ZcG (hr.mono (by omega)) rfl Yp (Za (Zu Yy (pv 0) Zx) Ze))) Ze))) (Zt (ZK (i:=3) Yg.nd rfl (Or.inl rfl) (Zu ZkJ (pv 3) Zx)))))))))))) (Zt (ZP (Je PySem.F.plainAttrs_str PySem.F.slot_str_join PySem.F.type_str_join XX Zw (Za (pv 2) Ze)))))))), ?_⟩
  refine⟨Nat.zero_le _,fun P hP=> ?_⟩;refine⟨fun m σ H'=>∃(n:Int) (v5 v6:Option V) (ps:List Str) (l j k:Nat),σ=[some (.int n),some (.int c),some (.ref P),some (.int (l:Int)),some (.int (j:Int)),v5,v6]/\H' P=some (.lst (ps.map V.str))/\(∀b u,b≠P->H b=some u->H' b=some u)/\ZkB ps l k/\k+l=j+1/\j<=4/\ps.length=j+k/\(∀p∈ps,p.length<=80)/\m=2*(4-j)+l,⟨9,n0,none,none,[],1,0,0,rfl,Zc,fun b u nb e=>by rw[Zr nb];exact e,Znx,rfl,by decide,rfl,(fun p hp=>nomatch hp),rfl⟩, ?_⟩
  rintro m σ H1 ⟨n,v5,v6,ps,l,j,k,rfl,hp,fr,fl,ek,hj,lp,sp,rfl⟩;have s1:ZJ H H1:=fun b u e=>fr b u (ZC e hP) e;refine⟨_,rfl,_,_,rfl,rfl,_,rfl,Xg (fun e=> ?_) (fun e=> ?_)⟩
  ·have e:(0:Int)<l:=of_decide_eq_true e;obtain⟨l',rfl⟩:∃l',l=l'+1:=⟨l-1,by omega⟩
   refine⟨fun σ' H'=>∃(n:Int) (v5 v6:Option V) (ps':List Str) (l2 j2 k2:Nat),σ'=[some (.int n),some (.int c),some (.ref P),some (.int (l2:Int)),some (.int (j2:Int)),v5,v6]/\H' P=some (.lst (ps'.map V.str))/\(∀b u,b≠P->H b=some u->H' b=some u)/\ZkB ps' l2 k2/\k2+l2=j2+1/\j2<=4/\ps'.length=j2+k2/\(∀p∈ps',p.length<=80)/\2*(4-j2)+l2<2*(4-j)+(l'+1),fun σ' H' ⟨n,v5,v6,ps',l2,j2,k2,e,h1,h2,h3,h4,h5,h6,h7,h8⟩=>⟨_,h8,n,v5,v6,ps',l2,j2,k2,e,h1,h2,h3,h4,h5,h6,h7,rfl⟩, ?_⟩
   refine(vI rfl (IntMulOk.of_right (intBits_le_64 (by decide) (by decide))) ⟨_,_,rfl,rfl,_,_,rfl,rfl,(by show(0:Int)<2147483647;decide), ?_⟩)
   have lo_:=Int.emod_nonneg (n*48271+11) (show(2147483647:Int)≠0 by decide);have hi_:=Int.emod_lt_of_pos (n*48271+11) (show(0:Int)<2147483647 by decide);refine(vI rfl ⟨by decide,by decide⟩ ⟨_,_,rfl,rfl,(by show(0:Int)<7;decide), ?_⟩)
   have l6:(ps.map V.str).length<sizeLine:=by rw[List.length_map];omega
   have add:∀(w:Str),upd H1 P (.lst (ps.map V.str++[.str w])) P=some (.lst ((ps++[w]).map V.str)):=fun w=>by rw[Zc,List.map_append];rfl
   have fr2:∀(w:Str) b u,b≠P->H b=some u->upd H1 P (.lst (ps.map V.str++[.str w])) b=some u:=fun w b u nb e=>by rw[Zr nb];exact fr b u nb e
   have sz:∀{w:Str},w.length<=80->∀p∈ps++[w],p.length<=80:=fun{w} h p hp=>by
    rcases List.mem_append.mp hp with old|new
    ·exact sp p old
    ·have:p=w:=by simpa using new
     rw[this];exact h
   have ls:∀w:Str,(ps++[w]).length=ps.length+1:=fun w=>by rw[List.length_append];rfl
   have ml:=fun(d:Nat) (h:d<10^40)=>ZgX h (-1);refine(fun(rest:¬(((n*48271+11)%2147483647)/16%7<3/\(j:Int)<4)->_)=>⟨_,rfl,_,_,rfl,rfl,_,rfl,Xg (fun e1=>⟨_,rfl,_,_,rfl,rfl,_,rfl,Xg (fun e2=> ?joint) (fun e2=>rest fun z=>e2 (decide_eq_true z.2))⟩) (fun e1=>Zal (rest fun z=>e1 (decide_eq_true z.1)))⟩) ?rest
   case joint=>
    have e2:(j:Int)<4:=of_decide_eq_true e2;obtain⟨w,ew,hw⟩:=two_words (Int.emod_nonneg (((n*48271+11)%2147483647)/112) (show(2:Int)≠0 by decide)) (Int.emod_lt_of_pos (((n*48271+11)%2147483647)/112) (by decide));have fl2:ZkB (ps++[w]) (l'+2) k:=by
     rcases hw with rfl|rfl
     ·exact Zis fl Tr.later (fun _ _=>Iff.rfl) (fun _ _=>rfl) fun _ _=>rfl
     ·exact Zis fl Tr.earlier (fun _ _=>Iff.rfl) (fun _ _=>rfl) fun _ _=>rfl
    have lw:w.length<=80:=by rcases hw with rfl|rfl<;>decide+kernel
    refine⟨_,rfl,.inl ⟨rfl,_,SqL.of hp⟩,show 2<=sizeLine from sl,fun L hL=> ?_⟩;have nLP:P≠L:=ZC hp hL;have hp2:upd H1 L (.lst [.str (Str.ofString "later"),.str (Str.ofString "earlier")]) P=some (.lst (ps.map V.str)):=by rw[Zr nLP];exact hp
    refine(vI rfl ⟨by decide,by decide⟩ ⟨_,_,rfl,rfl,(by show(0:Int)<2;decide),L,_,_,_,rfl,rfl,SqL.of Zc,ew,P,_,_,rfl,rfl,hp2,l6, ?_⟩)
    refine(vI0 rfl (vI0 rfl ?_));refine⟨((n*48271+11)%2147483647),_,_,ps++[w],l'+2,j+1,k,rfl,by rw[Zc,List.map_append];rfl,fun b u nb e=>by rw[Zr nb,Zr (ZC (fr b u nb e) hL)];exact fr b u nb e,fl2,by omega,by omega,by rw[ls];omega,sz lw,by omega⟩
   case rest=>
    intro hN;refine(vEq rfl rfl (Xg (fun e=> ?_) (fun e=> ?_)))
    ·refine⟨_,rfl,.inl ⟨rfl,_,SqL.of hp⟩,P,_,_,rfl,rfl,hp,l6, ?_⟩;refine(vIe (v:=.int (l':Int)) rfl (by show V.int _=V.int _;congr 1;omega) ?_)
     exact⟨((n*48271+11)%2147483647),_,_,ps++[Str.ofString "never"],l',j,k+1,rfl,add _,fr2 _,Zit fl (t0:=.never) trivial rfl rfl,by omega,hj,by rw[ls];omega,sz (by decide+kernel),by omega⟩
    ·have k0:=Int.emod_nonneg (((n*48271+11)%2147483647)/112) (show(6:Int)≠0 by decide);have k1:=Int.emod_lt_of_pos (((n*48271+11)%2147483647)/112) (show(0:Int)<6 by decide);refine⟨_,rfl,vI rfl ⟨by decide,by decide⟩ ⟨_,_,rfl,rfl,(by show(0:Int)<6;decide),_,_,rfl,rfl,c,_,rfl,by omega,by omega,fun z H2 nz s2=> ?_⟩⟩
     have hp2:=s2 _ _ hp;have lz:=nz.2.1;refine⟨_,rfl,.inl ⟨rfl,_,SqL.of hp2⟩,_,rfl,_,_,rfl,rfl, ?_,_,_,rfl,rfl, ?_,vI rfl ⟨by decide,by decide⟩ ⟨_,rfl,by omega,by omega,fun d H3 hd s3=>⟨_,_,rfl,rfl, ?_, ?_⟩⟩⟩
     ·rw[show(Str.ofString "after ").length=6 by decide+kernel];omega
     ·rw[strLen_append,show(Str.ofString "after ").length=6 by decide+kernel,show(Str.ofString " ").length=1 by decide+kernel];omega
     ·have:=ml d hd;rw[strLen_append,strLen_append,show(Str.ofString "after ").length=6 by decide+kernel,show(Str.ofString " ").length=1 by decide+kernel];omega
     ·have hp3:=s3 _ _ hp2;have:=ml d hd;refine⟨P,_,_,rfl,rfl,hp3,l6, ?_⟩;refine(vIe (v:=.int (l':Int)) rfl (by show V.int _=V.int _;congr 1;omega) ?_)
      refine⟨((n*48271+11)%2147483647),_,_,ps++[Str.ofString "after "++z++Str.ofString " "++ZeS d (-1)],l',j,k+1,rfl,by rw[Zc,List.map_append];rfl,fun b u nb e=>by rw[Zr nb];exact s3 _ _ (s2 _ _ (fr b u nb e)),Zit fl (t0:=.after z (d:Int)) ⟨nz,by omega, ?_⟩ rfl rfl,by omega,hj,by rw[ls];omega,sz ?_,by omega⟩
      ·rw[ZeR];generalize (10^40:Nat)=B at hd
       omega
      ·rw[strLen_append,strLen_append,strLen_append,show(Str.ofString "after ").length=6 by decide+kernel,show(Str.ofString " ").length=1 by decide+kernel];omega
  ·have e:¬(0:Int)<l:=fun z=>e (decide_eq_true z);obtain rfl:l=0:=by omega
   obtain⟨t,gt,ct,jt⟩:=fl [] rfl (fun t ht=>nomatch ht);have et:Txt.join (Str.ofString " ") ps=t.tC (-1):=by
    refine ext ?_;rw[Zgo]
    simpa using jt
   refine⟨rfl,_,rfl,_,P,ps,rfl,rfl,SqL.of hp, ?_, ?_⟩
   ·have z:=Zdt (fun p:Str=>p.length) 80 ps sp;rw[sp1];omega
   ·rw[et];refine q t H1 gt (ZtZ gt ?_) s1;rw[ct];simp;omega
theorem YH:ZQ ["_law_row","_law_name","_law_elder","_law_text","_law_found"] ["_law_row"] (ZF Zb1):=⟨rfl,rfl,rfl,by decide+kernel,rfl,by decide+kernel,by decide+kernel⟩
theorem Zg7{f:Addr}{fd:FuncData}(F:Fun K "_law_row_text" "_law_row_text" Zb1 f fd)(T:Txt K mg t_YEAR_DAYS t_MONTH_DAYS t_MOST_FIGURES t_MOST_LETTERS t_FIGURES t_LETTERS t_MOST_WORDS t_MOST_CLAUSES Zj Zg Zh Zb Zm ZL Zn Zo Zq Zi Zy Zv Zz ZD ZG ZM):Yo P w K mg base CX0 1 f fd ["_law_row"] Jz:=by
 refine F.ok YH (fun vs H Q E h=> ?_) (fun cdv A outer s H vs Q E hr h=> ?_)
 ·obtain⟨d,r,rfl,_⟩:=h
  rfl
 ·obtain⟨d,r,rfl,hd,g,q⟩:=h;have l5:=Ys;have nz:=g.nm.2.1;have a1:(Str.ofString "series ").length=7:=by decide+kernel
  have a2:(Str.ofString " under ").length=7:=by decide+kernel
  obtain⟨nm,el,tm⟩:=r;have nz:nm.length<=11:=nz;refine⟨_,(Zf (ZnQ (pv 0) (Zgx rfl (Jf (Yn (i:=1) YH.nd rfl (Or.inl rfl)) (Jf (Yn (i:=2) YH.nd rfl (Or.inl rfl)) (Jf (Yn (i:=3) YH.nd rfl (Or.inl rfl)) ZeC))))) (Zf (ZK (i:=4) YH.nd rfl (Or.inl rfl) (Zu Zk Zw (pv 1))) (Zf (Yi (ZR Zga (pv 2) Zaj (ZX _)) (Zt (ZK (i:=4) YH.nd rfl (Or.inl rfl) (Zu Zk (Zu Zk (pv 4) Zw) (pv 2)))) ZS) (Zf (Yi (ZR Zga (pv 3) Zaj (ZX _)) (Zt (ZK (i:=4) YH.nd rfl (Or.inl rfl) (Zu Zk (Zu Zk (pv 4) Zw) (pv 3)))) ZS) (Zt (ZP (pv 4))))))), ?_⟩
  refine⟨_,rfl,d,_,rfl,SqT.of hd,rfl,_,_,rfl,_,_,rfl,_,_,rfl,rfl, ?_⟩;refine⟨_,rfl,_,_,rfl,rfl,by rw[a1];omega, ?_⟩
  cases el with
  |none=>
   refine⟨_,rfl,rfl,_,rfl,ZfK rfl ?_⟩;cases tm with
   |none=>exact⟨_,rfl,rfl,_,rfl,ZfK rfl ⟨_,rfl,q H (ZJ.refl H)⟩⟩
   |some t=>
    have:=Za2 t (-1) (g.tm t rfl).1;have:=(g.tm t rfl).2;refine⟨_,rfl,rfl,_,rfl,Zio (fun z=>nomatch z) ⟨_,rfl,_,_,rfl,rfl, ?_,_,rfl,_,_,rfl,rfl, ?_,_,rfl,q H (ZJ.refl H)⟩⟩
    ·rw[strLen_append,a1,sp1];omega
    ·rw[strLen_append,strLen_append,a1,sp1];omega
  |some e=>
   have ne:=(g.el e rfl).2.1;refine⟨_,rfl,rfl,_,rfl,Zio (fun z=>nomatch z) ⟨_,rfl,_,_,rfl,rfl, ?_,_,rfl,_,_,rfl,rfl, ?_, ?_⟩⟩
   ·rw[strLen_append,a1,a2];omega
   ·rw[strLen_append,strLen_append,a1,a2];omega
   cases tm with
   |none=>exact⟨_,rfl,rfl,_,rfl,ZfK rfl ⟨_,rfl,q H (ZJ.refl H)⟩⟩
   |some t=>
    have:=Za2 t (-1) (g.tm t rfl).1;have:=(g.tm t rfl).2;refine⟨_,rfl,rfl,_,rfl,Zio (fun z=>nomatch z) ⟨_,rfl,_,_,rfl,rfl, ?_,_,rfl,_,_,rfl,rfl, ?_,_,rfl,q H (ZJ.refl H)⟩⟩
    ·rw[strLen_append,strLen_append,strLen_append,a1,a2,sp1];omega
    ·rw[strLen_append,strLen_append,strLen_append,strLen_append,a1,a2,sp1];omega
theorem Zu0{K:PySem.W.Frag}{i j n:Nat}{σ:L2.St}{H:Hp}{Q:VK}{a:Addr}{xs:List V}{v:V}(e:σ[i]? =some (some (.ref a)))(e2:σ[j]? =some (some (.int (0+(n:Int)))))(h:SqL K H a xs)(m:xs[n]? =some v)(k:Q v H):tOp (ZrL K) (Zfb i) (Zfb j) σ H Q:=⟨_,e,_,e2,a,_,_,_,rfl,rfl,h,by rw[Int.zero_add];exact atN m,k⟩
theorem Yv{H H':Hp}(s:ZJ H H'):∀{es:List Addr} {rs:List Sr},Paired (ZeV H) es rs->Paired (ZeV H') es rs
 |_,_,.nil=> .nil
 |_,_,.cons h t=> .cons (s _ _ h) (Yv s t)
theorem Zmw{X:Cx}{K:PySem.W.Frag}(eK:X.K=K):IxR X (ZrM K):=by
 subst eK;exact Zee
theorem Zmx:∀{rs:List Sr} {ns:List Str} {r:Sr},Xn ns rs->r.good->r.nm∉ns++rs.map Sr.nm->(∀e,r.el=some e->e∈ns++rs.map Sr.nm)->Xn ns (rs++[r])
 |[],ns,r,_,g,n,e=>by
  rw[List.map_nil,List.append_nil] at n e
  exact⟨g,n,e,trivial⟩
 |x::rs,ns,r,⟨h1,h2,h3,h4⟩,g,n,e=>by
  rw[List.map_cons] at n e
  exact⟨h1,h2,h3,Zmx h4 g (by rw[List.append_assoc];exact n) fun z hz=>by rw[List.append_assoc];exact e z hz⟩
theorem ZqZ{j:Int}(h0:0<=j)(h1:j<4):∃w,atI [V.str (Str.ofString "under"),V.str (Str.ofString "series"),V.str (Str.ofString "never"),V.str (Str.ofString "after")] j=some (.str w)/\Nm w:=by
 have:j=0\/j=1\/j=2\/j=3:=by omega
 rcases this with rfl|rfl|rfl|rfl
 ·exact⟨_,rfl,by decide+kernel,by decide+kernel,by decide+kernel⟩
 ·exact⟨_,rfl,by decide+kernel,by decide+kernel,by decide+kernel⟩
 ·exact⟨_,rfl,by decide+kernel,by decide+kernel,by decide+kernel⟩
 ·exact⟨_,rfl,by decide+kernel,by decide+kernel,by decide+kernel⟩
theorem Ziu:∀ws:List Str,(ws.map V.str).all XH=true
 |[]=>rfl
 |w::ws=>by rw[List.map_cons,List.all_cons,Ziu ws];rfl
theorem Zdy{K:PySem.W.Frag}{H:Hp}:∀ws:List Str,Paired (Rep K H) (ws.map fun w=>Dt.v (.str w)) (ws.map V.str)
 |[]=> .nil
 |w::ws=> .cons (.flat rfl) (Zdy ws)
theorem Zr0(z:Str)(ws:List Str):inV (.str z) (ws.map V.str)=decide (z∈ws):=by
 unfold inV
 apply Bool.eq_iff_iff.mpr
 rw[List.any_eq_true,decide_eq_true_iff]
 constructor
 ·rintro⟨y,hy,e⟩;obtain⟨w,hw,rfl⟩:=List.mem_map.mp hy;have e:(w==z)=true:=e;exact eq_of_beq e▸hw
 ·exact fun h=>⟨.str z,List.mem_map.mpr ⟨z,h,rfl⟩,ZeF rfl⟩
theorem Yh:ZQ ["_law_cells","_law_names_by","_law_found","_law_k","_law_number","_law_name","_law_known","_law_elder","_law_text"] ["_law_cells","_law_names_by"] (ZF Zap):=⟨rfl,rfl,rfl,by decide+kernel,rfl,by decide+kernel,by decide+kernel⟩
theorem Zfz{f:Addr}{fd:FuncData}(F:Fun K "_law_book_rows" "_law_book_rows" Zap f fd)(T:Txt K mg t_YEAR_DAYS t_MONTH_DAYS t_MOST_FIGURES t_MOST_LETTERS t_FIGURES t_LETTERS t_MOST_WORDS t_MOST_CLAUSES Zj Zg Zh Zb Zm ZL Zn Zo Zq Zi Zy Zv Zz ZD ZG ZM)(Ja:Cal P w K mg base CX0 1 "_law_name_by" ["_law_cell","_law_k"] JL)(Zau:Cal P w K mg base CX0 2 "_law_term_text" ["_law_number","_law_names_by"] Za3):Yo P w K mg base CX0 3 f fd ["_law_cells","_law_names_by"] Za4:=by
 refine F.ok Yh (fun vs H Q E h=> ?_) (fun cdv A outer s H vs Q E hr h=> ?_)
 ·obtain⟨p,ns,c,rfl,_⟩:=h
  rfl
 ·obtain⟨p,ns,c,rfl,hp,ln,q⟩:=h;have l5:=Ys;have hu3:=Zqb hr;refine⟨_,(Zf (ZK (i:=2) Yh.nd rfl (Or.inl rfl) (Yj Ze)) (Zf (ZcZ PassesOwn.never rfl (ZdJ rfl T.z_range (Za (ZZ Yr (by rfl) T.z_len Xh (Za (pv 0) Ze)) Ze)) (Yn (i:=3) Yh.nd rfl (Or.inl rfl)) (Zf (ZK (i:=4) Yh.nd rfl (Or.inl rfl) (Zu Yt (Zu Zbl (YT YW (pv 0) (pv 3) (fun _ _=>rfl)) Zx) Zx)) (Zf (ZK (i:=5) Yh.nd rfl (Or.inl rfl) (Yd Ja (hr.mono (by omega)) rfl Yp (Za (pv 1) (Za (pv 3) Ze)))) (Zf (Yi (ZR XC (Zu Yt (pv 4) Zx) Zx (ZX _)) (Zt (ZK (i:=5) Yh.nd rfl (Or.inl rfl) (YT YW (Yj (Za Zw (Za Zw (Za Zw (Za Zw Ze))))) (Zu Yt (Zu Yy (pv 4) Zx) Zx) (fun _ _=>rfl)))) ZS) (Zf (ZlT (i:=6) ["_law_row"] [] Yh.nd rfl (Or.inl rfl) rfl (ZaA (pv 2)) (by rfl) (by exact trivial) (by rfl) (by exact trivial) (fun _ _ _ _=>(Yn (i:=0) (show(nmY ["_law_row"] []).Nodup by decide+kernel) rfl (Or.inl rfl))) (fun _ _ _ _=>ZaC) (fun _ _ _ _=>(YT (Zmw (K:=K) rfl) (pv 0) Zx (fun _ _=>rfl)))) (Zf (ZK (i:=7) Yh.nd rfl (Or.inl rfl) Zaj) (Zf (ZK (i:=8) Yh.nd rfl (Or.inl rfl) Zaj) (Zf (Yi (PW.pt (ZiD (ZR (Zou hu3) (pv 6) (Yj Ze) (ZX _)) (Zg9 (ZR ZfI (Zu Yt (Zu Yy (pv 4) Zx) Zx) Zx (ZX _))))) (Zt (ZK (i:=7) Yh.nd rfl (Or.inl rfl) (YT YW (pv 6) (Zu Yt (Zu Yy (pv 4) Zx) (ZZ Yr (by rfl) T.z_len Xh (Za (pv 6) Ze))) (fun _ _=>rfl)))) ZS) (Zf (Yi (PW.pt (ZfH (ZR ZnV (pv 7) Zaj (ZX _)) (ZcY (ZR XC (Zu Yt (Zu Yy (pv 4) Zx) Zx) Zx (ZX _))))) (Zt (ZK (i:=8) Yh.nd rfl (Or.inl rfl) (Yd Zau (hr.mono (by omega)) rfl Yp (Za (Zu Yy (pv 4) Zx) (Za (pv 1) Ze))))) ZS) (Zt (Yi (ZR ZiK (pv 5) (pv 6) rfl) (Zt (Xw (Je PySem.F.plainAttrs_list PySem.F.slot_list_append PySem.F.type_list_append XR (pv 2) (Za (Zbu (Za (pv 5) (Za (pv 7) (Za (pv 8) Ze)))) Ze)))) ZS))))))))))) (Zt (ZP (pv 2))))), ?_⟩
  refine⟨Nat.zero_le _,fun F hF=> ?_⟩;have nFp:p≠F:=ZC hp hF;refine⟨_,rfl,_,_,rfl,.inl ⟨_,SqL.of (Zd hF _ _ hp),rfl⟩,_,rfl,by omega,by rw[List.length_map];omega,ZdK (fun i σ H'=>∃(v3 v4 v5 v6 v7 v8:Option V) (es:List Addr) (rs:List Sr),σ=[some (.ref p),some (.int c),some (.ref F),v3,v4,v5,v6,v7,v8]/\H' F=some (.lst (es.map V.ref))/\Paired (ZeV H') es rs/\Xn [] rs/\rs.length<=i/\∀b u,b≠F->H b=some u->H' b=some u) ?_ ?_ ?_⟩
  ·exact⟨none,none,none,none,none,none,[],[],rfl,Zc,.nil,trivial,Nat.le_refl _,fun b u nb e=>by rw[Zr nb];exact e⟩
  ·rintro i σ H1 hi ⟨v3,v4,v5,v6,v7,v8,es,rs,rfl,hf,pe,bk,lr,fr⟩;rw[List.length_map] at hi
   have hp1:=fr p _ nFp hp;have en:ns[i]? =some ns[i]:=List.getElem?_eq_getElem hi;generalize ns[i]=c0 at en
   refine(Zu0 rfl rfl (SqL.of hp1) (by rw[List.getElem?_map,en];rfl) ⟨_,_,rfl,rfl,IntMulOk.of_right (intBits_le_64 (by decide) (by decide)),_,_,rfl,rfl,(by show(0:Int)<2147483647;decide), ?_⟩)
   have lo_:=Int.emod_nonneg (c0*1583458089) (show(2147483647:Int)≠0 by decide);have hi_:=Int.emod_lt_of_pos (c0*1583458089) (show(0:Int)<2147483647 by decide);refine⟨_,rfl,_,rfl,c,_,rfl,by omega,by omega,fun z0 H2 nz0 s2=> ?_⟩;have hf2:=s2 _ _ hf;have pe2:=Yv s2 pe;have fr2:∀b u,b≠F->H b=some u->H2 b=some u:=fun b u nb e=>s2 _ _ (fr b u nb e);have le:=Paired.length pe2;clear hf pe fr hp1;generalize eN:(fun i j=>V.int (i%j)) (c0*1583458089) 2147483647=vN
   obtain rfl:vN=.int (c0*1583458089%2147483647):=eN.symm;generalize c0*1583458089%2147483647=N at lo_ hi_
   refine(fun(rest:∀(σ':L2.St) (H':Hp),(∃z,Nm z/\σ'=[some (.ref p),some (.int c),some (.ref F),some (.int (0+(i:Int))),some (.int N),some (.str z),v6,v7,v8]/\ZJ H2 H')->(_:L2.St->Hp->Prop) σ' H')=>(vI rfl (by show(0:Int)<11;decide) ⟨rfl,_,rfl,Xg (fun e=> ?four) (fun e=>rest _ _ ⟨z0,nz0,rfl,ZJ.refl _⟩)⟩)) ?rest
   case four=>
    obtain⟨w,ew,nw⟩:=ZqZ (Int.emod_nonneg (N/11) (show(4:Int)≠0 by decide)) (Int.emod_lt_of_pos (N/11) (by decide));exact⟨show 4<=sizeLine from sl,fun L hL=>vI rfl ⟨by decide,by decide⟩ ⟨_,_,rfl,rfl,(by show(0:Int)<4;decide),L,_,_,_,rfl,rfl,SqL.of Zc,ew,rest _ _ ⟨w,nw,rfl,Zd hL⟩⟩⟩
   case rest=>
    rintro σ' H3 ⟨z,nz,rfl,s3⟩;have hf3:=s3 _ _ hf2;have pe3:=Yv s3 pe2;have fr3:∀b u,b≠F->H b=some u->H3 b=some u:=fun b u nb e=>s3 _ _ (fr2 b u nb e);clear hf2 pe2 fr2 s2 s3;refine⟨_,rfl,F,rfl,⟨_,SqL.of hf3⟩,Zcl es.length (fun j=>[((rs[j]?).map fun r=>V.str r.nm).getD .non]) (by omega) (fun j=>Nat.le_refl 1) (fun j H4 s4 lt=>⟨_,_,SqL.of (s4 _ _ hf3),List.getElem?_eq_getElem (by rw[List.length_map];exact lt)⟩) (fun H4 s4=>⟨_,SqL.of (s4 _ _ hf3),by rw[List.length_map];exact Nat.le_refl _⟩) (fun j y H4 H5 s4 lt yl RT RF rt rf=> ?_) fun Kn H4 hKn s4 d4=> ?_⟩
    ·obtain⟨rfl,yl⟩:=yl;obtain⟨d,rfl,ed⟩:=Zf2 (yl _ (SqL.of (s4 _ _ hf3)));obtain⟨r,er,row⟩:=ZaN (Yv s4 pe3) j d ed;have row:H5 d=some (.tup [.str r.nm,oS r.el,oT r.tm]):=row;refine⟨trivial, ?_⟩;unfold ZcR;exact JS (ixT rfl (SqT.of row) rfl (rt _ _ (by rw[er];rfl) (ZJ.refl _)))
    have e6:(List.range es.length).flatMap (fun j=>[((rs[j]?).map fun r=>V.str r.nm).getD .non])=(rs.map Sr.nm).map V.str:=by
     rw[Xr,le,ZaI rs (fun r=>V.str r.nm) .non,List.map_map]
     rfl
    rw[e6] at d4
    have hf4:=s4 _ _ hf3;have pe4:=Yv s4 pe3;have fr4:∀b u,b≠F->H b=some u->H4 b=some u:=fun b u nb e=>s4 _ _ (fr3 b u nb e);have good:=Zbt bk;clear hf3 pe3 fr3 s4;refine(fun(rest:∀(σ':L2.St) (H':Hp),(∃o:Option Str,(∀e,o=some e->e∈rs.map Sr.nm)/\σ'=[some (.ref p),some (.int c),some (.ref F),some (.int (0+(i:Int))),some (.int N),some (.str z),some (.ref Kn),some (oS o),some .non]/\ZJ H4 H')->(_:L2.St->Hp->Prop) σ' H')=>
     ⟨_,rfl,Nat.zero_le _,fun E hE=>⟨1,.lst ((rs.map Sr.nm).map fun w=>Dt.v (.str w)),.lst [],by decide,rfl,.lst (SqL.of (Zd hE _ _ d4)) (Zdy _),.lst (SqL.of Zc) .nil, ?like,_,rfl,Xg (fun e1=>vI rfl ⟨by decide,by decide⟩ ⟨_,_,rfl,rfl,(by show(0:Int)<3;decide),_,_,rfl,rfl,_,rfl,Xg (fun e2=> ?elder) (fun e2=>rest _ _ ⟨none,(fun e he=>nomatch he),rfl,Zd hE⟩)⟩) (fun e1=>Zal (rest _ _ ⟨none,(fun e he=>nomatch he),rfl,Zd hE⟩))⟩⟩) ?rest2
    case like=>
     show(((rs.map Sr.nm).map fun w=>Dt.v (.str w)).zip ([]:List Dt)).all _=true;rw[List.zip_nil_right]
     rfl
    case elder=>
     have pos:0<rs.length:=by
      refine Nat.pos_of_ne_zero fun z=> ?_;have z:=List.eq_nil_of_length_eq_zero z;subst z;exact absurd e1 (by decide)
     have b1:(0:Int)<(((rs.map Sr.nm).map V.str).length:Nat):=by rw[List.length_map,List.length_map];omega
     have m0:=Int.emod_nonneg (N/15) (Int.ne_of_gt b1);have m1:=Int.emod_lt_of_pos (N/15) b1;obtain⟨v,ev⟩:=Zdj (xs:=(rs.map Sr.nm).map V.str) (i:=N/15%(((rs.map Sr.nm).map V.str).length:Nat)) (by omega) m1;obtain⟨k,_,hk,_⟩:=Zcf ev;rw[List.getElem?_map] at hk
     cases ek:(rs.map Sr.nm)[k]? with
     |none=>rw[ek] at hk;cases hk
     |some w=>
      rw[ek] at hk
      obtain rfl:V.str w=v:=Option.some.inj hk;have d5:=Zd hE (o:=.lst []) _ _ d4;exact⟨_,rfl,vI rfl ⟨by decide,by decide⟩ ⟨_,rfl,_,_,rfl,.inl ⟨_,SqL.of d5,rfl⟩,_,_,rfl,rfl,b1,Kn,_,_,_,rfl,rfl,SqL.of d5,ev,rest _ _ ⟨some w,fun e he=>by cases he;exact List.mem_of_getElem? ek,rfl,Zd hE⟩⟩⟩
    case rest2=>
     rintro σ' H5 ⟨o,ho,rfl,s5⟩;have hf5:=s5 _ _ hf4;have pe5:=Yv s5 pe4;have d5:=s5 _ _ d4;have fr5:∀b u,b≠F->H b=some u->H5 b=some u:=fun b u nb e=>s5 _ _ (fr4 b u nb e);clear hf4 pe4 fr4 d4 s5;refine(fun(rest:∀(σ':L2.St) (H':Hp),(∃tm:Option Tr,(∀t,tm=some t->t.good/\t.cnt<=31/\Zp5 t)/\(o=none->tm≠none)/\σ'=[some (.ref p),some (.int c),some (.ref F),some (.int (0+(i:Int))),some (.int N),some (.str z),some (.ref Kn),some (oS o),some (oT tm)]/\ZJ H5 H')->(_:L2.St->Hp->Prop) σ' H')=>
      ⟨_,rfl,rfl,_,rfl,Xg (fun e1=>vI rfl ⟨by decide,by decide⟩ ⟨_,rfl,_,c,rfl,fun t H6 gt ct s6=>rest _ _ ⟨some t,fun t' h=>by cases h;exact⟨gt,ct⟩,(fun _ h=>nomatch h),rfl,s6⟩⟩) (fun e1=>vI rfl ⟨by decide,by decide⟩ ⟨_,_,rfl,rfl,(by show(0:Int)<3;decide),rfl,_,rfl,Xg (fun e2=>vI rfl ⟨by decide,by decide⟩ ⟨_,rfl,_,c,rfl,fun t H6 gt ct s6=>rest _ _ ⟨some t,fun t' h=>by cases h;exact⟨gt,ct⟩,(fun _ h=>nomatch h),rfl,s6⟩⟩) (fun e2=>rest _ _ ⟨none,(fun t h=>nomatch h),fun h=>absurd (decide_eq_true (by rw[h];rfl)) e1,rfl,ZJ.refl _⟩)⟩)⟩) ?rest3
     case rest3=>
      rintro σ' H6 ⟨tm,gtm,otm,rfl,s6⟩;have hf6:=s6 _ _ hf5;have pe6:=Yv s6 pe5;have d6:=s6 _ _ d5;have fr6:∀b u,b≠F->H b=some u->H6 b=some u:=fun b u nb e=>s6 _ _ (fr5 b u nb e);clear hf5 pe5 fr5 d5 s6;refine⟨_,rfl,_,rfl,Kn,_,rfl,.inl (SqL.of d6),rfl,Ziu _,_,rfl,Xg (fun e=> ?_) (fun e=> ?_)⟩
      ·have nn:z∉rs.map Sr.nm:=fun h=>by
        have e:(!inV (.str z) ((rs.map Sr.nm).map V.str))=true:=e;rw[Zr0,decide_eq_true h] at e
        cases e
       have g:Sr.good ⟨z,o,tm⟩:=⟨nz,fun e he=>by
        obtain⟨r,hr,er⟩:=List.mem_map.mp (ho e he);exact er▸(good r hr).nm,gtm,otm⟩
       have l6:(es.map V.ref).length<sizeLine:=by rw[List.length_map];omega
       refine⟨_,rfl,.inl ⟨rfl,_,SqL.of hf6⟩,_,rfl,_,rfl,_,rfl,show 3<=sizeLine from sl,fun d hd=> ?_⟩;have nFd:F≠d:=ZC hf6 hd;have hf7:upd H6 d (.tup [.str z,oS o,oT tm]) F=some (.lst (es.map V.ref)):=by rw[Zr nFd];exact hf6
       refine⟨F,_,_,rfl,rfl,hf7,l6, ?_⟩;have k1:∀b u,b≠F->upd H6 d (.tup [.str z,oS o,oT tm]) b=some u->upd (upd H6 d (.tup [.str z,oS o,oT tm])) F (.lst (es.map V.ref++[V.ref d])) b=some u:=fun b u nb e=>by rw[Zr nb];exact e
       refine⟨_,_,_,_,_,_,es++[d],rs++[⟨z,o,tm⟩],rfl,by rw[Zc,List.map_append];rfl, ?_,Zmx bk g (by rw[List.nil_append];exact nn) (by rw[List.nil_append];exact ho),by rw[List.length_append];exact Nat.add_le_add_right lr 1,fun b u nb e=>k1 b u nb (Zd hd _ _ (fr6 b u nb e))⟩
       have keep:∀{x:Addr} {r:Sr},ZeV (upd H6 d (.tup [.str z,oS o,oT tm])) x r->ZeV (upd (upd H6 d (.tup [.str z,oS o,oT tm])) F (.lst (es.map V.ref++[V.ref d]))) x r:=fun h=>k1 _ _ (ZfE h hf7 (fun z=>nomatch z)) h;exact Paired.snoc (Paired.imp' (fun _ _ h=>keep h) (Yv (Zd hd) pe6)) (keep Zc)
      ·exact⟨_,_,_,_,_,_,es,rs,rfl,hf6,pe6,bk,Nat.le_succ_of_le lr,fr6⟩
  ·rintro σ H1 ⟨v3,v4,v5,v6,v7,v8,es,rs,rfl,hf,pe,bk,lr,fr⟩;rw[List.length_map] at lr
   exact⟨_,rfl,q F es rs H1 hF (fun b u e=>fr b u (ZC e hF) e) hf pe bk (by omega)⟩
theorem Zju:ZQ ["_law_found"] ["_law_found"] (ZF Zdi):=⟨rfl,rfl,rfl,by decide+kernel,rfl,by decide+kernel,by decide+kernel⟩
theorem Zjv{f:Addr}{fd:FuncData}(F:Fun K "_law_whole" "_law_whole" Zdi f fd)(T:Txt K mg t_YEAR_DAYS t_MONTH_DAYS t_MOST_FIGURES t_MOST_LETTERS t_FIGURES t_LETTERS t_MOST_WORDS t_MOST_CLAUSES Zj Zg Zh Zb Zm ZL Zn Zo Zq Zi Zy Zv Zz ZD ZG ZM):Yo P w K mg base CX0 1 f fd ["_law_found"] ZcD:=by
 refine F.ok Zju (fun vs H Q E h=> ?_) (fun cdv A outer s H vs Q E hr h=> ?_)
 ·obtain⟨i,rfl,_⟩:=h
  rfl
 ·obtain⟨i,rfl,q⟩:=h;refine⟨_,(Zt (ZP (ZiF (ZZ Zab (by rfl) T.z_isinstance YQ (Za (pv 0) (Za (ZiC (v:=.ty "int") rfl T.z_int Zoe rfl) Ze))) (ZiE (ZrC (ZZ Zab (by rfl) T.z_isinstance YQ (Za (pv 0) (Za (ZiC (v:=.ty "bool") rfl T.z_bool Zq3 rfl) Ze)))))))), ?_⟩;refine⟨_,rfl,_,_,_,_,true,rfl,rfl,Ze1.int _,T.kii,_,rfl,JS ?_⟩;exact⟨_,rfl,_,_,_,_,false,rfl,rfl,Ze1.int _,T.kib,_,rfl,q H (ZJ.refl H)⟩
theorem Zhl:ZQ ["_law_told","_law_due"] ["_law_told","_law_due"] (ZF ZbE):=⟨rfl,rfl,rfl,by decide+kernel,rfl,by decide+kernel,by decide+kernel⟩
theorem Zhm{f:Addr}{fd:FuncData}(F:Fun K "_law_refused" "_law_refused" ZbE f fd)(T:Txt K mg t_YEAR_DAYS t_MONTH_DAYS t_MOST_FIGURES t_MOST_LETTERS t_FIGURES t_LETTERS t_MOST_WORDS t_MOST_CLAUSES Zj Zg Zh Zb Zm ZL Zn Zo Zq Zi Zy Zv Zz ZD ZG ZM)(Zdz:Cal P w K mg base CX0 1 "_law_whole" ["_law_found"] ZcD):Yo P w K mg base CX0 2 f fd ["_law_told","_law_due"] (Zb9 Zi):=by
 refine F.ok Zhl (fun vs H Q E h=> ?_) (fun cdv A outer s H vs Q E hr h=> ?_)
 ·obtain⟨e,d,n,rfl,_⟩:=h
  rfl
 ·obtain⟨e,d,n,rfl,he,hd,q⟩:=h;have l5:=Ys;refine⟨_,(Zf (Yi (PW.pt (ZfH (Zed (ZaO (ZZ Ze5 (by rfl) T.z_isinstance YQ (Za (pv 0) (Za (Yk (v:=.ref Zi) rfl T.mg_NoBook rfl) Ze))))) (ZcY (Zed (ZaO (ZZ Ze5 (by rfl) T.z_isinstance YQ (Za (pv 0) (Za (ZiC (v:=.ty "ValueError") rfl T.z_ValueError Zhx rfl) Ze)))))))) (Zt (ZP ZfG)) ZS) (Zf (Yi (ZaO (ZZ ZgR (by rfl) T.z_isinstance YQ (Za (pv 0) (Za (Zbu (Za (Yk (v:=.ref Zv) rfl T.mg_HeldTwice rfl) (Za (Yk (v:=.ref ZL) rfl T.mg_NoDay rfl) (Za (Yk (v:=.ref Zn) rfl T.mg_NoLength rfl) (Za (Yk (v:=.ref ZM) rfl T.mg_NoRow rfl) (Za (Yk (v:=.ref Zz) rfl T.mg_NoSeries rfl) (Za (Yk (v:=.ref Zo) rfl T.mg_NoTerm rfl) (Za (Yk (v:=.ref Zy) rfl T.mg_PutTwice rfl) (Za (Yk (v:=.ref ZD) rfl T.mg_RunBack rfl) (Za (Yk (v:=.ref Zq) rfl T.mg_TooWide rfl) (Za (Yk (v:=.ref ZG) rfl T.mg_Unlike rfl) Ze))))))))))) Ze)))) (Zt (ZP ZfG)) ZS) (Zt (ZP (ZiF (Yd Zdz (hr.mono (by omega)) rfl Yp (Za (Zm7 (pv 0) (by rfl)) Ze)) (ZiE (ZeD XC (Zm7 (pv 0) (by rfl)) (pv 1) (ZX _)))))))), ?_⟩
  refine⟨_,rfl,e,Zi,d,_,_,_,_,true,rfl,he,hd,T.xc_NoBook,rfl,T.i_b_NoBook,_,rfl,Zal ?_⟩;refine⟨_,rfl,e,Zi,d,_,_,_,_,true,rfl,he,hd,T.xc_NoBook,rfl,T.i_b_ve,_,rfl,Zal ?_⟩;refine⟨_,rfl,(by show 10<=sizeLine;omega),fun p hp=> ?_⟩
  have s1:=fun o=>Zd (H:=H) (p:=p) (o:=o) hp;refine⟨e,Zi,d,_,_,p,_,_,false,rfl,s1 _ _ _ he,s1 _ _ _ hd,T.xc_NoBook,Zc,rfl,T.i_b_others,_,rfl,Zal ?_⟩;refine⟨_,rfl,e,Zi,d,_,rfl,s1 _ _ _ he,s1 _ _ _ hd,T.xc_NoBook,T.xa_NoBook,n,rfl,fun H2 s2=>⟨_,rfl,JS ?_⟩⟩;exact⟨_,rfl,e,Zi,d,_,rfl,s2 _ _ (s1 _ _ _ he),s2 _ _ (s1 _ _ _ hd),T.xc_NoBook,T.xa_NoBook,_,rfl,rfl,Zfp (q H2 ((s1 _).trans s2)) (by rw[decide_eq_true rfl])⟩
theorem JN:ZQ ["_law_text","_law_told","e"] ["_law_text"] (ZF ZbD):=⟨rfl,rfl,rfl,by decide+kernel,rfl,by decide+kernel,by decide+kernel⟩
theorem Zhn{f:Addr}{fd:FuncData}(F:Fun K "_law_told_of" "_law_told_of" ZbD f fd)(T:Txt K mg t_YEAR_DAYS t_MONTH_DAYS t_MOST_FIGURES t_MOST_LETTERS t_FIGURES t_LETTERS t_MOST_WORDS t_MOST_CLAUSES Zj Zg Zh Zb Zm ZL Zn Zo Zq Zi Zy Zv Zz ZD ZG ZM)(Xu:Cal P w K mg base (CXr P w) 73 "book_read" ["text"] (ZaE Zj Zg Zh Zb Zi)):Yo P w K mg base CX0 74 f fd ["_law_text"] (Zb8 Zi):=by
 refine F.ok JN (fun vs H Q E h=> ?_) (fun cdv A outer s H vs Q E hr h=> ?_)
 ·obtain⟨x,rs,y,rfl,_⟩:=h
  rfl
 ·obtain⟨x,rs,y,rfl,lx,lr,ne,ro,rd,ll,ey,bad,q⟩:=h;have l5:=Ys;refine⟨_,(Zf (ZK (i:=1) JN.nd rfl (Or.inl rfl) Zaj) (Zf (ZoU (CX:=CX0) (i:=2) (by rfl) (fun o_k _ _=>(Zt (Xw (Yd Xu (hr.mono (by omega)) rfl (ZoS o_k) (Za (pv 0) Ze))))) JN.nd (by rfl) T.mg_HallError (by rfl) (by rfl) (fun _=>(Zt (ZK (i:=1) JN.nd rfl (Or.inl rfl) (pv 2))))) (Zt (ZP (pv 1))))), ?_⟩;refine⟨_,rfl,x,rs,rfl,lx,lr,fun z=>absurd z ne,fun _=>⟨ro,rd,ll,fun y2 e2=> ?_⟩,fun z=> ?_⟩
  ·rw[ey] at e2
   cases e2;refine⟨bad,fun d H1 hd s1 hx σ' e hl he=>⟨_,rfl,T.xm_b, ?_⟩⟩;have hl:σ'.length=3:=hl;obtain⟨a,b,c,rfl⟩:∃a b c,σ'=[a,b,c]:=by
    match σ',hl with
    |[a,b,c],_=>exact⟨a,b,c,rfl⟩
   exact⟨_,rfl,_,rfl,q e d _ (s1.trans (Zd he)) Zc (by rw[Zr (ZC hx he)];exact hx)⟩
  ·rcases z with z|z
   ·exact absurd z ne
   ·rw[List.getElem?_eq_none (by omega)] at ey
    cases ey
def Zho(x:Str)(k:Nat):Str:=Str.ofString "after "++⟨#[(cs x).getD k 0]⟩++Str.ofString " "++Str.ofString (toString (0+(k:Int)))++Str.ofString "m"
theorem ZsF:Zde (Str.ofString "earlier ") 6++Txt.join (Str.ofString " ") ((List.range 7).map (Zho (Str.ofString "abcdefg")))=Zmh:=by decide+kernel
theorem ZsG:Zde (Str.ofString "earlier ") 6++Txt.join (Str.ofString " ") ((List.range 7).map (Zho (Str.ofString "hijklmn")))=Zmi:=by decide+kernel
theorem Zpz:∀b:Bool,∀k,k<7->(Zho (if b then Str.ofString "abcdefg" else Str.ofString "hijklmn") k).length=10/\(Str.ofString (toString (0+(k:Int)))).length=1:=by decide+kernel
theorem ZdA:ZQ ["_law_letters","_law_found","_law_k"] ["_law_letters"] (ZF Zeo):=⟨rfl,rfl,rfl,by decide+kernel,rfl,by decide+kernel,by decide+kernel⟩
theorem ZkC{f:Addr}{fd:FuncData}(F:Fun K "_law_wide" "_law_wide" Zeo f fd)(T:Txt K mg t_YEAR_DAYS t_MONTH_DAYS t_MOST_FIGURES t_MOST_LETTERS t_FIGURES t_LETTERS t_MOST_WORDS t_MOST_CLAUSES Zj Zg Zh Zb Zm ZL Zn Zo Zq Zi Zy Zv Zz ZD ZG ZM):Yo P w K mg base CX0 1 f fd ["_law_letters"] Zdo:=by
 refine F.ok ZdA (fun vs H Q E h=> ?_) (fun cdv A outer s H vs Q E hr h=> ?_)
 ·obtain⟨b,rfl,_⟩:=h
  rfl
 ·obtain⟨b,rfl,q⟩:=h;have l5:=Ys;have wl:=Zpz b;refine⟨_,(Zf (ZK (i:=1) ZdA.nd rfl (Or.inl rfl) (Yj Ze)) (Zf (ZcZ PassesOwn.never rfl (ZdJ rfl T.z_range (Za Zx Ze)) (Yn (i:=2) ZdA.nd rfl (Or.inl rfl)) (Zt (Xw (Je PySem.F.plainAttrs_list PySem.F.slot_list_append PySem.F.type_list_append XR (pv 1) (Za (Zu Zk (Zu Zk (Zu Zk (Zu Zk Zw (YT ZgD (pv 0) (pv 2) (fun _ _=>rfl))) Zw) (XQ Xa (by rfl) T.z_str Zd3 (Za (pv 2) Ze))) Zw) Ze))))) (Zt (ZP (Zu Zk (Zu Zgm Zw Zx) (Je PySem.F.plainAttrs_str PySem.F.slot_str_join PySem.F.type_str_join XX Zw (Za (pv 1) Ze))))))), ?_⟩
  have fin:Zde (Str.ofString "earlier ") 6++Txt.join (Str.ofString " ") ((List.range 7).map (Zho (if b=true then Str.ofString "abcdefg" else Str.ofString "hijklmn")))=if b=true then Zmh else Zmi:=by
   cases b
   ·exact ZsG
   ·exact ZsF
  have lz:(if b=true then Str.ofString "abcdefg" else Str.ofString "hijklmn").length=7:=by cases b<;>decide+kernel
  generalize (if b=true then Str.ofString "abcdefg" else Str.ofString "hijklmn")=z at wl fin lz⊢
  refine⟨Nat.zero_le _,fun P hP=> ?_⟩;refine⟨_,rfl,by omega,by omega,ZdK (fun i σ H'=>∃v2:Option V,σ=[some (.str z),some (.ref P),v2]/\H' P=some (.lst (((List.range i).map (Zho z)).map V.str))/\ZJ H H') ?_ ?_ ?_⟩
  ·exact⟨none,rfl,Zc,Zd hP⟩
  ·rintro i σ H1 hi ⟨v2,rfl,h1,s1⟩;have hi:i<7:=hi;obtain⟨w1,w2⟩:=wl i hi;have li:i<(cs z).length:=by rw[<-Jg,lz];exact hi
   have ec:atI (cs z) (0+(i:Int))=some ((cs z).getD i 0):=by
    rw[Int.zero_add];exact atN (by rw[List.getD_eq_getElem?_getD,List.getElem?_eq_getElem li];rfl)
   have a1:(Str.ofString "after ").length=6:=by decide+kernel
   have a2:(Str.ofString " ").length=1:=by decide+kernel
   have a3:(Str.ofString "m").length=1:=by decide+kernel
   have lg:(0+(i:Int)).natAbs.log2<1920:=by
    rw[Int.zero_add];have:=Nat.log2_le_self i;show i.log2<1920;omega
   have one:∀c:Nat,(⟨#[c]⟩:Str).length=1:=fun _=>rfl;have l6:(((List.range i).map (Zho z)).map V.str).length<sizeLine:=by rw[List.length_map,List.length_map,List.length_range];omega
   refine⟨_,rfl,.inl ⟨rfl,_,SqL.of h1⟩,_,rfl,_,rfl,z,_,_,rfl,rfl,by omega,ec,_,_,rfl,rfl,by rw[one];omega,_,_,rfl,rfl,by rw[strLen_append,one];omega,_,rfl,_,rfl,lg,_,_,rfl,rfl,by rw[strLen_append,strLen_append,one];omega,_,_,rfl,rfl,by rw[strLen_append,strLen_append,strLen_append,one];omega,P,_,_,rfl,rfl,h1,l6, ?_⟩
   refine⟨_,rfl, ?_,fun b u e=>by rw[Zr (ZC e hP)];exact s1 b u e⟩
   rw[Zc,List.range_succ,List.map_append,List.map_append]
   rfl
  ·rintro σ H1 ⟨v2,rfl,h1,s1⟩;have h1:H1 P=some (.lst (((List.range 7).map (Zho z)).map V.str)):=h1;have lb:(((List.range 7).map (Zho z)).map (·.length)).sum<=70:=by
    have:=Zdt (fun p:Str=>p.length) 10 ((List.range 7).map (Zho z)) fun x hx=>by
     obtain⟨k,hk,rfl⟩:=List.mem_map.mp hx;exact Nat.le_of_eq (wl k (List.mem_range.mp hk)).1
    rwa [List.length_map,List.length_range] at this
   have e8:(Str.ofString "earlier ").length=8:=by decide+kernel
   refine⟨_,6,rfl,rfl,by decide,by decide,by omega,by omega,rfl,_,rfl,_,P,(List.range 7).map (Zho z),rfl,rfl,SqL.of h1,by rw[sp1,List.length_map,List.length_range];omega,_,_,rfl,rfl, ?_, ?_⟩
   ·have e:(Zde (Str.ofString "earlier ") 6++Txt.join (Str.ofString " ") ((List.range 7).map (Zho z))).length<=1000:=by rw[fin];cases b<;>decide+kernel
    rw[strLen_append] at e
    omega
   ·rw[fin];exact q H1 s1
def wdB(w:Str):Bool:=decide (w.length<=60)&&(cs w).all (fun c=>decide (c≠32)&&decide (c<16^8))
def ZpA(ws:List Str):Bool:=match Jr ws with
 |some t=>decide (t.wd<=60)&&decide (t.cnt<=31)
 |none=>true
def ZpB:List Str->Bool
 |[]=>true
 |e::r=>decide (e.length=0)||decide (12<=e.length)||(!r.isEmpty&&(Xz r).isNone)
def Ztx:List Str->Bool
 |s::nm::w::q=> !(decide (s=Str.ofString "series")&&Yz nm)||(if w=Str.ofString "under" then ZpB q else(Xz (w::q)).isNone)
 |_=>true
def Zjw(x:Str):Bool:=decide (x.length<=3000)&&(cs x).all (fun c=>decide (c≠10))&&(Xo x).all wdB&&decide ((Xo x).length<=500)&&ZpA (ZeU (Xo x))&&Ztx (Xo x)
abbrev Yl:Str:=Str.ofString "series zzzzzzzzzzzz"
def Zai:Str:=Str.ofString "later "++Zmh++Str.ofString " "++Zmi
theorem Zjx{w:Str}(h:wdB w=true):Wd w:=by
 obtain⟨h1,h2⟩:=Bool.and_eq_true_iff.mp h;exact Zex (of_decide_eq_true h1) h2
theorem Ziv{ws:List Str}(h:(Xz ws).isNone=true):Xz ws=none:=Option.isNone_iff_eq_none.mp h
theorem Zav{x:Str}(h:Zjw x=true)(ks:List Str):Yu ks x:=by
 unfold Zjw at h
 obtain⟨h,h6⟩:=Bool.and_eq_true_iff.mp h;obtain⟨h,h5⟩:=Bool.and_eq_true_iff.mp h;obtain⟨h,h4⟩:=Bool.and_eq_true_iff.mp h;obtain⟨h,h3⟩:=Bool.and_eq_true_iff.mp h;obtain⟨h1,h2⟩:=Bool.and_eq_true_iff.mp h;have h1:x.length<=3000:=of_decide_eq_true h1;refine⟨⟨⟨by omega,fun w hw=>Zjx (List.all_eq_true.mp h3 w hw),of_decide_eq_true h4,fun t ht=> ?_⟩,fun z=>of_decide_eq_true (List.all_eq_true.mp h2 10 z) rfl,h1⟩,fun ns nn _=> ?_⟩
 ·unfold ZpA at h5
  rw[ht] at h5
  obtain⟨a,b⟩:=Bool.and_eq_true_iff.mp h5;exact⟨of_decide_eq_true a,of_decide_eq_true b⟩
 ·revert h6
  generalize Xo x=ws;intro h6;rcases ws with _|⟨s,_|⟨nm,_|⟨w,q⟩⟩⟩
  ·rfl
  ·rfl
  ·rfl
  ·have h6:(!(decide (s=Str.ofString "series")&&Yz nm)||(if w=Str.ofString "under" then ZpB q else(Xz (w::q)).isNone))=true:=h6
   by_cases k:s=Str.ofString "series"/\Yz nm=true/\nm∉ns
   ·obtain⟨rfl,k2,k3⟩:=k;rw[decide_eq_true rfl,k2] at h6
    have h6:(if w=Str.ofString "under" then _ else _)=true:=h6
    by_cases u:w=Str.ofString "under"
    ·subst u;rw[if_pos rfl] at h6
     rw[Ze0 k2 k3];cases q with
     |nil=>rfl
     |cons e r=>
      have h6:(decide (e.length=0)||decide (12<=e.length)||(!r.isEmpty&&(Xz r).isNone))=true:=h6
      dsimp only
      by_cases ee:e∈ns
      ·have ne:=nn e ee;rw[decide_eq_false (by have:=ne.1;omega),decide_eq_false (by have:=ne.2.1;omega)] at h6
       obtain⟨a,b⟩:=Bool.and_eq_true_iff.mp (show(!r.isEmpty&&(Xz r).isNone)=true from h6);rw[if_pos ee,if_neg (fun z=>by subst z;cases a),Ziv b]
       rfl
      ·exact if_neg ee
    ·rw[if_neg u] at h6
     rw[Zjr k2 k3 u,Ziv h6]
     rfl
   ·exact ZdZ k
theorem ZpC{r:Sr}(g:r.good):Zfr r.txt:=by
 have lt:=Zmq g;refine⟨⟨by omega, ?_, ?_, ?_⟩,Zpq g,by omega⟩
 ·rw[Zgs g];intro w hw;unfold Sr.wds at hw
  rcases List.mem_cons.mp hw with rfl|hw
  ·exact Zex (by decide+kernel) (by decide+kernel)
  rcases List.mem_cons.mp hw with rfl|hw
  ·exact Zmu g.nm
  rcases List.mem_append.mp hw with hw|hw
  ·cases he:r.el with
   |none=>rw[he] at hw;cases hw
   |some e=>
    rw[he] at hw
    have hw:w=Str.ofString "under"\/w=e:=by simpa [elW] using hw
    rcases hw with rfl|rfl
    ·exact Zex (by decide+kernel) (by decide+kernel)
    ·exact Zmu (g.el w he)
  ·cases ht:r.tm with
   |none=>rw[ht] at hw;cases hw
   |some t=>
    rw[ht] at hw
    exact Zf4 (Zbp t (-1) (g.tm t ht).1) w hw
 ·rw[Zgs g];unfold Sr.wds;have a:(elW r.el).length<=2:=by
   cases r.el with
   |none=>decide
   |some e=>exact Nat.le_refl 2
  have b:(tmW r.tm).length<=61:=by
   cases ht:r.tm with
   |none=>decide
   |some t=>exact(g.tm t ht).2.2.1
  rw[List.length_cons,List.length_cons,List.length_append];omega
 ·rw[Zgs g];obtain⟨nm,el,tm⟩:=r;intro t ht;have e:ZeU (Sr.wds ⟨nm,el,tm⟩)=tmW tm:=by
   cases el with
   |none=>
    cases tm with
    |none=>exact absurd rfl (g.some rfl)
    |some t=>
     have un:=Zkz (t:=t) (c:= -1);show ZeU (Str.ofString "series"::nm::t.wC (-1))=t.wC (-1);cases ew:t.wC (-1) with
     |nil=>exact absurd ew (t.wC_ne (-1))
     |cons w q=>
      rw[ew] at un
      exact if_neg fun z=>un (by rw[z];rfl)
   |some e=>
    exact Zf3 (q:=e::tmW tm)
  rw[e] at ht
  cases tm with
  |none=>cases ht
  |some u=>
   obtain⟨gu,cu⟩:=g.tm u rfl;rw[show tmW (some u)=u.wC (-1) from rfl,Zjt gu cu] at ht
   cases ht;exact cu.2.2.2
theorem Zhp(z:Str)(m:Nat):cs (Zde z m)=(List.replicate m (cs z)).flatten:=by
 have go:∀(m:Nat) (a:Array Nat),((List.replicate m z.cps).foldl (· ++ ·) a).toList=a.toList++(List.replicate m (cs z)).flatten:=by
  intro m
  induction m with
  |zero=>intro a;simp
  |succ m ih=>intro a;rw[List.replicate_succ,List.foldl_cons,ih,Array.toList_append,List.append_assoc,List.replicate_succ,List.flatten_cons];rfl
 exact go m #[]
theorem le1{n:Nat}(h:n<=3000):n<=sizeLine:=Nat.le_trans h (Nat.le_trans (by decide) Ys)
def Zbf:List Str:=[Str.ofString "",Str.ofString " ",Str.ofString "series",Str.ofString "series ",Yl,Yl++Str.ofString " ",Yl++Str.ofString " under",Yl++Str.ofString " under ",Yl++Str.ofString "  never"]
theorem Zny(ks:List Str):∀x∈Zbf,Yu ks x:=fun x hx=>Zav (List.all_eq_true.mp (show Zbf.all Zjw=true by decide+kernel) x hx) ks
def Zcc:List Str:=[Yl++Str.ofString " under yyyyyyyyyyyy",Yl++Str.ofString " under yyyyyyyyyyyy never",Yl++Str.ofString " under zzzzzzzzzzzz never"]
theorem Znz(ks:List Str):∀x∈Zcc,Yu ks x:=fun x hx=>Zav (List.all_eq_true.mp (show Zcc.all Zjw=true by decide+kernel) x hx) ks
def ZcV:List Str:=[Yl++Str.ofString " never ",Yl++Str.ofString " never never",Yl++Str.ofString " after a",Yl++Str.ofString " after a 3",Yl++Str.ofString " after a 03d"]
theorem ZnA(ks:List Str):∀x∈ZcV,Yu ks x:=fun x hx=>Zav (List.all_eq_true.mp (show ZcV.all Zjw=true by decide+kernel) x hx) ks
def ZdB:List Str:=[Yl++Str.ofString " after A 3d",Yl++Str.ofString " after a 3d never",Yl++Str.ofString " later never",Yl++Str.ofString " earlier never"]
theorem ZnB(ks:List Str):∀x∈ZdB,Yu ks x:=fun x hx=>Zav (List.all_eq_true.mp (show ZdB.all Zjw=true by decide+kernel) x hx) ks
def Ze9:List Str:=[Yl++Str.ofString " Never",Yl++Str.ofString " after",Str.ofString "Series a never",Str.ofString " "++Yl++Str.ofString " never",Str.ofString "series never"]
theorem ZnC(ks:List Str):∀x∈Ze9,Yu ks x:=fun x hx=>Zav (List.all_eq_true.mp (show Ze9.all Zjw=true by decide+kernel) x hx) ks
def Zf6:List Str:=[Str.ofString "series Zz never",Str.ofString "series zzzzzzzzzzzzz never",Str.ofString "series z9 never",Yl++Str.ofString " after a  3d"]
theorem ZnD(ks:List Str):∀x∈Zf6,Yu ks x:=fun x hx=>Zav (List.all_eq_true.mp (show Zf6.all Zjw=true by decide+kernel) x hx) ks
theorem Zjy{x:Str}{ws:List Str}(e:cs x=J 32 (ws.map cs))(h:(decide ((J 32 (ws.map cs)).length<=3000)&&(J 32 (ws.map cs)).all (fun c=>decide (c≠10))&&ws.all wdB&&decide (ws.length<=500)&&ZpA (ZeU ws)&&Ztx ws)=true)(ne:ws≠[])(ks:List Str):Yu ks x:=by
 have hw:Xo x=ws:=by
  refine Zd6 x 32 ws ne (fun p hp=> ?_) e;obtain⟨h,_⟩:=Bool.and_eq_true_iff.mp h;obtain⟨h,_⟩:=Bool.and_eq_true_iff.mp h;obtain⟨h,_⟩:=Bool.and_eq_true_iff.mp h;exact(Zjx (List.all_eq_true.mp (Bool.and_eq_true_iff.mp h).2 p hp)).2.1
 refine Zav ?_ ks;unfold Zjw;rw[hw,Jg,e];exact h
def Zr1:List Str:=[Str.ofString "series",Str.ofString "zzzzzzzzzzzz"]
def Zrt(w:Str):List Str:=(List.replicate 31 [w,Str.ofString "never"]).flatten++[Str.ofString "never"]
def aft(k l:String):List Str:=[Str.ofString "after",Str.ofString k,Str.ofString l]
def Zru:List Str:=Str.ofString "later"::((List.replicate 6 (Str.ofString "earlier"))++(aft "a" "0m"++aft "b" "1m"++aft "c" "2m"++aft "d" "3m"++aft "e" "4m"++aft "f" "5m"++aft "g" "6m")++(List.replicate 6 (Str.ofString "earlier"))++(aft "h" "0m"++aft "i" "1m"++aft "j" "2m"++aft "k" "3m"++aft "l" "4m"++aft "m" "5m"++aft "n" "6m"))
def Zhq:List Str:=[Yl++Str.ofString " later never never never",Yl++Str.ofString " "++Zde (Str.ofString "later never ") 31++Str.ofString "never"]
theorem ZnE(ks:List Str):∀x∈Zhq,Yu ks x:=List.forall_mem_cons.mpr ⟨Zav (by decide+kernel) ks,List.forall_mem_cons.mpr ⟨Zjy (ws:=Zr1++Zrt (Str.ofString "later")) (by rw[ZV,ZV,ZV,Zhp];decide+kernel) (by decide+kernel) (by decide) ks,fun _ h=>nomatch h⟩⟩
def Ziw:List Str:=[Yl++Str.ofString " "++Zai,Yl++Str.ofString " later never "++Zai,Yl++Str.ofString " "++Zde (Str.ofString "earlier never ") 31++Str.ofString "never"]
theorem ZnF(ks:List Str):∀x∈Ziw,Yu ks x:=List.forall_mem_cons.mpr ⟨Zjy (ws:=Zr1++Zru) (by unfold Zai;rw[ZV,ZV,ZV,ZV,ZV];decide+kernel) (by decide+kernel) (by decide) ks,List.forall_mem_cons.mpr ⟨Zjy (ws:=Zr1++Str.ofString "later"::Str.ofString "never"::Zru) (by unfold Zai;rw[ZV,ZV,ZV,ZV,ZV];decide+kernel) (by decide+kernel) (by decide) ks,List.forall_mem_cons.mpr ⟨Zjy (ws:=Zr1++Zrt (Str.ofString "earlier")) (by rw[ZV,ZV,ZV,Zhp];decide+kernel) (by decide+kernel) (by decide) ks,fun _ h=>nomatch h⟩⟩⟩
theorem ZpD{ks:List Str}{x:Str}(ws:List Str)(e:cs x=J 32 (ws.map cs))(ne:ws≠[])(hw:∀w∈ws,Wd w/\10∉cs w)(lw:ws.length<=40)(fit:∀t,Jr (ZeU ws)=some t->okT t)(bad:∀ns:List Str,(∀z∈ns,Nm z)->(∀k∈ks,k∈ns)->ZcC ns ws=none):Yu ks x:=by
 have es:Xo x=ws:=Zd6 x 32 ws ne (fun w h=>(hw w h).1.2.1) e;have lx:x.length<=3000:=by
  rw[Jg,e];have h1:=Zmn 32 (ws.map cs);have e2:(ws.map cs).map List.length=ws.map (·.length):=by
   rw[List.map_map];exact List.map_congr_left fun r _=>(Jg _).symm
  have h2:=Zdt (fun p:Str=>p.length) 60 ws fun w h=>(hw w h).1.1;have h3:ws.length*60<=40*60:=Nat.mul_le_mul_right _ lw;rw[e2,List.length_map] at h1
  omega
 refine⟨⟨⟨by omega,by rw[es];exact fun w h=>(hw w h).1,by rw[es];omega,by rw[es];exact fit⟩,fun z=> ?_,lx⟩,fun ns a b=>by rw[es];exact bad ns a b⟩
 rw[e] at z
 rcases Zpo z with z|⟨c,hc,z⟩
 ·cases z
 ·obtain⟨w,h,rfl⟩:=List.mem_map.mp hc;exact(hw w h).2 z
def Zty(w:Str):Bool:=wdB w&&(cs w).all (fun c=>decide (c≠10))
theorem ZdC{w:Str}(h:Zty w=true):Wd w/\10∉cs w:=by
 obtain⟨a,b⟩:=Bool.and_eq_true_iff.mp h;exact⟨Zjx a,fun z=>of_decide_eq_true (List.all_eq_true.mp b 10 z) rfl⟩
theorem Zmy{k:Str}(h:Nm k):Wd k/\10∉cs k:=⟨Zmu h,fun z=>by have:=h.2.2 10 z;omega⟩
abbrev zzz:Str:=Str.ofString "zzzzzzzzzzzz"
theorem ZsH{ns:List Str}(h:∀z∈ns,Nm z):zzz∉ns:=fun m=>by
 have a:=(h _ m).2.1;have b:zzz.length=12:=by decide+kernel
 omega
theorem ZpE:Yz zzz=true:=by decide+kernel
theorem ZpF:cs (Str.ofString "series ")=cs (Str.ofString "series")++[32]:=by decide+kernel
theorem ZsI:cs Yl=cs (Str.ofString "series")++32::cs zzz:=by decide+kernel
theorem ZpG:cs (Str.ofString " under ")=32::(cs (Str.ofString "under")++[32]):=by decide+kernel
section
variable {ks:List Str} {k:Str}
theorem Zu1(hk:k∈ks)(nk:Nm k):Yu ks (Str.ofString "series "++k++Str.ofString " never"):=by
 refine ZpD [Str.ofString "series",k,Str.ofString "never"] ?_ (by simp) (fun w hw=> ?_) (by simp) (fun t h=> ?_) fun ns a b=>ZdZ fun z=>z.2.2 (b k hk)
 ·rw[ZV,ZV,ZpF,show cs (Str.ofString " never")=32::cs (Str.ofString "never") by decide+kernel];simp[J]
 ·have hw:w=Str.ofString "series"\/w=k\/w=Str.ofString "never":=by simpa using hw
  rcases hw with rfl|rfl|rfl
  ·exact ZdC (by decide+kernel)
  ·exact Zmy nk
  ·exact ZdC (by decide+kernel)
 ·have h:Jr [Str.ofString "never"]=some t:=h;have r1:Jr [Str.ofString "never"]=some .never:=by
   unfold Jr;rw[if_neg (by decide),show pt 64 [Str.ofString "never"]=some (.never,[]) from Zh7 63 []]
  rw[r1] at h
  cases h;exact⟨by decide,by decide⟩
theorem Zu2(hk:k∈ks)(nk:Nm k):Yu ks (Str.ofString "series "++k++Str.ofString " under "++k):=by
 refine ZpD [Str.ofString "series",k,Str.ofString "under",k] ?_ (by simp) (fun w hw=> ?_) (by simp) (fun t h=> ?_) fun ns a b=>ZdZ fun z=>z.2.2 (b k hk)
 ·rw[ZV,ZV,ZV,ZpF,ZpG];simp[J]
 ·have hw:w=Str.ofString "series"\/w=k\/w=Str.ofString "under"\/w=k:=by simpa using hw
  rcases hw with rfl|rfl|rfl|rfl
  ·exact ZdC (by decide+kernel)
  ·exact Zmy nk
  ·exact ZdC (by decide+kernel)
  ·exact Zmy nk
 ·rw[Zf3] at h
  cases h
theorem Zr2(hk:k∈ks)(nk:Nm k)(x:Str)(r:List Str)(ex:cs x=32::J 32 (r.map cs))(ne:r≠[])(hr:r.all Zty=true)(lr:r.length<=30)(no:Jr r=none):Yu ks (Yl++Str.ofString " under "++k++x):=by
 refine ZpD (Str.ofString "series"::zzz::Str.ofString "under"::k::r) ?_ (by simp) (fun w hw=> ?_) (by simp only [List.length_cons];omega) (fun t h=> ?_) fun ns a b=> ?_
 ·rw[ZV,ZV,ZV,ZsI,ZpG,ex];obtain⟨y,q,rfl⟩:∃y q,r=y::q:=by
   cases r with
   |nil=>exact absurd rfl ne
   |cons y q=>exact⟨y,q,rfl⟩
  simp[J]
 ·rcases List.mem_cons.mp hw with rfl|hw
  ·exact ZdC (by decide+kernel)
  rcases List.mem_cons.mp hw with rfl|hw
  ·exact ZdC (by decide+kernel)
  rcases List.mem_cons.mp hw with rfl|hw
  ·exact ZdC (by decide+kernel)
  rcases List.mem_cons.mp hw with rfl|hw
  ·exact Zmy nk
  exact ZdC (List.all_eq_true.mp hr w hw)
 ·rw[Zf3] at h
  have h:Jr r=some t:=h;rw[no] at h
  cases h
 ·rw[Ze0 ZpE (ZsH a)]
  dsimp only
  rw[if_pos (b k hk),if_neg ne,Ziq no]
  rfl
theorem Zu3(hk:k∈ks)(nk:Nm k):Yu ks (Yl++Str.ofString " under "++k++Str.ofString " "):=Zr2 hk nk _ [Str.ofString ""] (by decide+kernel) (by simp) (by decide+kernel) (by decide) (by decide+kernel)
theorem Zu4(hk:k∈ks)(nk:Nm k):Yu ks (Yl++Str.ofString " under "++k++Str.ofString "  never"):=Zr2 hk nk _ [Str.ofString "",Str.ofString "never"] (by decide+kernel) (by simp) (by decide+kernel) (by decide) (by decide+kernel)
theorem Zu5(hk:k∈ks)(nk:Nm k):Yu ks (Yl++Str.ofString " under "++k++Str.ofString " never never"):=Zr2 hk nk _ [Str.ofString "never",Str.ofString "never"] (by decide+kernel) (by simp) (by decide+kernel) (by decide) (by decide+kernel)
theorem Zu6(hk:k∈ks)(nk:Nm k):Yu ks (Yl++Str.ofString " under "++k++Str.ofString " after"):=Zr2 hk nk _ [Str.ofString "after"] (by decide+kernel) (by simp) (by decide+kernel) (by decide) (by decide+kernel)
end
theorem ZkD{xs:List Str}{i:Int}(h0:0<=i)(h1:i<xs.length):∃x,x∈xs/\atI (xs.map V.str) i=some (.str x):=by
 obtain⟨v,e⟩:=Zdj (xs:=xs.map V.str) (i:=i) (by omega) (by rw[List.length_map];exact h1)
 obtain⟨j,_,hj,_⟩:=Zcf e;rw[List.getElem?_map] at hj
 cases q:xs[j]? with
 |none=>rw[q] at hj;cases hj
 |some c=>
  rw[q] at hj
  cases hj;exact⟨c,List.mem_of_getElem? q,e⟩
theorem JP{a b:TS}{D:ZeB}{σ:L2.St}{H:Hp}(h:∀B:L2.St->Hp->Prop,(∀σ' H',b D σ' H'->B σ' H')->ZrD a (fun _=>B) D σ H):ZrD a b D σ H:=h (b D) fun _ _ x=>x
theorem Yb:ZQ ["_law_number","_law_known","_law_new","_law_wide_here","_law_some","_law_name"] ["_law_number","_law_known"] (ZF ZbB):=⟨rfl,rfl,rfl,by decide+kernel,rfl,by decide+kernel,by decide+kernel⟩
theorem Zhr{f:Addr}{fd:FuncData}(F:Fun K "_law_odd_row" "_law_odd_row" ZbB f fd)(T:Txt K mg t_YEAR_DAYS t_MONTH_DAYS t_MOST_FIGURES t_MOST_LETTERS t_FIGURES t_LETTERS t_MOST_WORDS t_MOST_CLAUSES Zj Zg Zh Zb Zm ZL Zn Zo Zq Zi Zy Zv Zz ZD ZG ZM)(ZcH:Cal P w K mg base CX0 1 "_law_wide" ["_law_letters"] Zdo):Yo P w K mg base CX0 2 f fd ["_law_number","_law_known"] JM:=by
 refine F.ok Yb (fun vs H Q E h=> ?_) (fun cdv A outer s H vs Q E hr h=> ?_)
 ·obtain⟨n,p,ks,rfl,_⟩:=h
  rfl
 ·obtain⟨n,p,ks,rfl,hp,nk,lk,q⟩:=h;have l5:=Ys;have hu3:=Zqb hr;refine⟨_,(Zf (ZK (i:=2) Yb.nd rfl (Or.inl rfl) Zw) (Zf (ZK (i:=3) Yb.nd rfl (Or.inl rfl) (Zu Zk (Zu Zk (Zu Zk Zw (Yd ZcH (hr.mono (by omega)) rfl Yp (Za Zw Ze))) Zw) (Yd ZcH (hr.mono (by omega)) rfl Yp (Za Zw Ze)))) (Zf (ZK (i:=4) Yb.nd rfl (Or.inl rfl) (Yj (Za Zw (Za Zw (Za Zw (Za Zw (Za (pv 2) (Za (Zu Zk (pv 2) Zw) (Za (Zu Zk (pv 2) Zw) (Za (Zu Zk (pv 2) Zw) (Za (Zu Zk (pv 2) Zw) Ze))))))))))) (Zf (ZK (i:=4) Yb.nd rfl (Or.inl rfl) (Zu Xc (pv 4) (Yj (Za (Zu Zk (pv 2) Zw) (Za (Zu Zk (pv 2) Zw) (Za (Zu Zk (pv 2) Zw) Ze)))))) (Zf (ZK (i:=4) Yb.nd rfl (Or.inl rfl) (Zu Xc (pv 4) (Yj (Za (Zu Zk (pv 2) Zw) (Za (Zu Zk (pv 2) Zw) (Za (Zu Zk (pv 2) Zw) (Za (Zu Zk (pv 2) Zw) (Za (Zu Zk (pv 2) Zw) Ze)))))))) (Zf (ZK (i:=4) Yb.nd rfl (Or.inl rfl) (Zu Xc (pv 4) (Yj (Za (Zu Zk (pv 2) Zw) (Za (Zu Zk (pv 2) Zw) (Za (Zu Zk (pv 2) Zw) (Za (Zu Zk (pv 2) Zw) Ze))))))) (Zf (ZK (i:=4) Yb.nd rfl (Or.inl rfl) (Zu Xc (pv 4) (Yj (Za (Zu Zk (pv 2) Zw) (Za (Zu Zk (pv 2) Zw) (Za Zw (Za (Zu Zk (Zu Zk Zw (pv 2)) Zw) (Za Zw Ze)))))))) (Zf (ZK (i:=4) Yb.nd rfl (Or.inl rfl) (Zu Xc (pv 4) (Yj (Za Zw (Za Zw (Za Zw (Za (Zu Zk (pv 2) Zw) Ze))))))) (Zf (ZK (i:=4) Yb.nd rfl (Or.inl rfl) (Zu Xc (pv 4) (Yj (Za (Zu Zk (pv 2) Zw) (Za (Zu Zk (Zu Zk (Zu Zk (pv 2) Zw) (Zu Zgm Zw Zx)) Zw) Ze))))) (Zf (ZK (i:=4) Yb.nd rfl (Or.inl rfl) (Zu Xc (pv 4) (Yj (Za (Zu Zk (Zu Zk (pv 2) Zw) (pv 3)) (Za (Zu Zk (Zu Zk (pv 2) Zw) (pv 3)) (Za (Zu Zk (Zu Zk (Zu Zk (pv 2) Zw) (Zu Zgm Zw Zx)) Zw) Ze)))))) (Zf (Yi (ZR (Zou hu3) (pv 1) (Yj Ze) (ZX _)) (Zf (ZK (i:=5) Yb.nd rfl (Or.inl rfl) (YT YW (pv 1) (Zu Yt (Zu Yy (pv 0) Zx) (ZZ Yr (by rfl) T.z_len Xh (Za (pv 1) Ze))) (fun _ _=>rfl))) (Zf (ZK (i:=4) Yb.nd rfl (Or.inl rfl) (Zu Xc (pv 4) (Yj (Za (Zu Zk (Zu Zk Zw (pv 5)) Zw) (Za (Zu Zk (Zu Zk (Zu Zk Zw (pv 5)) Zw) (pv 5)) (Za (Zu Zk (Zu Zk (Zu Zk (pv 2) Zw) (pv 5)) Zw) Ze)))))) (Zf (ZK (i:=4) Yb.nd rfl (Or.inl rfl) (Zu Xc (pv 4) (Yj (Za (Zu Zk (Zu Zk (Zu Zk (pv 2) Zw) (pv 5)) Zw) (Za (Zu Zk (Zu Zk (Zu Zk (pv 2) Zw) (pv 5)) Zw) Ze))))) (Zt (ZK (i:=4) Yb.nd rfl (Or.inl rfl) (Zu Xc (pv 4) (Yj (Za (Zu Zk (Zu Zk (Zu Zk (pv 2) Zw) (pv 5)) Zw) Ze)))))))) ZS) (Zt (ZP (YT YW (pv 4) (Zu Yt (pv 0) (ZZ Yr (by rfl) T.z_len Xh (Za (pv 4) Ze))) (fun _ _=>rfl))))))))))))))), ?_⟩
  refine JP fun B_ hB=> ?_
  suffices nx:B_ [some (.int n),some (.ref p),some (.str Yl),none,none,none] H by exact nx
  refine hB _ _ ?_;refine JP fun B_ hB=> ?_
  suffices nx:∀H',ZJ H H'->B_ [some (.int n),some (.ref p),some (.str Yl),some (.str Zai),none,none] H' by
   exact⟨true,rfl,fun H1 s1=>⟨_,_,rfl,rfl,(le1 (by decide+kernel)),_,_,rfl,rfl,(le1 (by decide+kernel)),false,rfl,fun H2 s2=>⟨_,_,rfl,rfl,(le1 (by decide+kernel)),nx H2 (s1.trans s2)⟩⟩⟩
  intro H2 s2;refine hB _ _ ?_;refine JP fun B_ hB=> ?_
  suffices nx:∀(L2:Addr) (H':Hp),ZJ H H'->H' L2=some (.lst (Zbf.map V.str))->B_ [some (.int n),some (.ref p),some (.str Yl),some (.str Zai),some (.ref L2),none] H' by
   exact⟨_,rfl,_,rfl,_,_,rfl,rfl,(le1 (by decide+kernel)),_,rfl,_,_,rfl,rfl,(le1 (by decide+kernel)),_,rfl,_,_,rfl,rfl,(le1 (by decide+kernel)),_,rfl,_,_,rfl,rfl,(le1 (by decide+kernel)),(by show 9<=sizeLine;omega),fun L2 h2=>nx L2 _ (s2.trans (Zd h2)) (by rw[Zc];rfl)⟩
  intro L0 H0 s0 h0;refine hB _ _ ?_;refine JP fun B_ hB=> ?_
  suffices nx:∀(L2:Addr) (H':Hp),ZJ H H'->H' L2=some (.lst ((Zbf++Zcc).map V.str))->B_ [some (.int n),some (.ref p),some (.str Yl),some (.str Zai),some (.ref L2),none] H' by
   exact⟨_,rfl,_,rfl,_,_,rfl,rfl,(le1 (by decide+kernel)),_,rfl,_,_,rfl,rfl,(le1 (by decide+kernel)),_,rfl,_,_,rfl,rfl,(le1 (by decide+kernel)),(by show 3<=sizeLine;omega),fun T_ hT=>⟨_,T_,_,_,rfl,rfl,SqL.of (Zd hT _ _ h0),SqL.of Zc,(by show 12<=sizeLine;omega),fun L2 h2=>nx L2 _ (s0.trans ((Zd hT).trans (Zd h2))) (by rw[Zc,List.map_append];rfl)⟩⟩
  intro L1 H1 s1 h1;refine hB _ _ ?_;refine JP fun B_ hB=> ?_
  suffices nx:∀(L2:Addr) (H':Hp),ZJ H H'->H' L2=some (.lst ((Zbf++Zcc++ZcV).map V.str))->B_ [some (.int n),some (.ref p),some (.str Yl),some (.str Zai),some (.ref L2),none] H' by
   exact⟨_,rfl,_,rfl,_,_,rfl,rfl,(le1 (by decide+kernel)),_,rfl,_,_,rfl,rfl,(le1 (by decide+kernel)),_,rfl,_,_,rfl,rfl,(le1 (by decide+kernel)),_,rfl,_,_,rfl,rfl,(le1 (by decide+kernel)),_,rfl,_,_,rfl,rfl,(le1 (by decide+kernel)),(by show 5<=sizeLine;omega),fun T_ hT=>⟨_,T_,_,_,rfl,rfl,SqL.of (Zd hT _ _ h1),SqL.of Zc,(by show 17<=sizeLine;omega),fun L2 h2=>nx L2 _ (s1.trans ((Zd hT).trans (Zd h2))) (by rw[Zc,List.map_append];rfl)⟩⟩
  intro L12 H12 s12 h12;refine hB _ _ ?_;refine JP fun B_ hB=> ?_
  suffices nx:∀(L2:Addr) (H':Hp),ZJ H H'->H' L2=some (.lst ((Zbf++Zcc++ZcV++ZdB).map V.str))->B_ [some (.int n),some (.ref p),some (.str Yl),some (.str Zai),some (.ref L2),none] H' by
   exact⟨_,rfl,_,rfl,_,_,rfl,rfl,(le1 (by decide+kernel)),_,rfl,_,_,rfl,rfl,(le1 (by decide+kernel)),_,rfl,_,_,rfl,rfl,(le1 (by decide+kernel)),_,rfl,_,_,rfl,rfl,(le1 (by decide+kernel)),(by show 4<=sizeLine;omega),fun T_ hT=>⟨_,T_,_,_,rfl,rfl,SqL.of (Zd hT _ _ h12),SqL.of Zc,(by show 21<=sizeLine;omega),fun L2 h2=>nx L2 _ (s12.trans ((Zd hT).trans (Zd h2))) (by rw[Zc,List.map_append];rfl)⟩⟩
  intro L3 H3 s3 h3;refine hB _ _ ?_;refine JP fun B_ hB=> ?_
  suffices nx:∀(L2:Addr) (H':Hp),ZJ H H'->H' L2=some (.lst ((Zbf++Zcc++ZcV++ZdB++Ze9).map V.str))->B_ [some (.int n),some (.ref p),some (.str Yl),some (.str Zai),some (.ref L2),none] H' by
   exact⟨_,rfl,_,rfl,_,_,rfl,rfl,(le1 (by decide+kernel)),_,rfl,_,_,rfl,rfl,(le1 (by decide+kernel)),_,rfl,_,_,rfl,rfl,(le1 (by decide+kernel)),_,_,rfl,rfl,(le1 (by decide+kernel)),(by show 5<=sizeLine;omega),fun T_ hT=>⟨_,T_,_,_,rfl,rfl,SqL.of (Zd hT _ _ h3),SqL.of Zc,(by show 26<=sizeLine;omega),fun L2 h2=>nx L2 _ (s3.trans ((Zd hT).trans (Zd h2))) (by rw[Zc,List.map_append];rfl)⟩⟩
  intro L4 H4 s4 h4;refine hB _ _ ?_;refine JP fun B_ hB=> ?_
  suffices nx:∀(L2:Addr) (H':Hp),ZJ H H'->H' L2=some (.lst ((Zbf++Zcc++ZcV++ZdB++Ze9++Zf6).map V.str))->B_ [some (.int n),some (.ref p),some (.str Yl),some (.str Zai),some (.ref L2),none] H' by
   exact⟨_,rfl,_,rfl,_,_,rfl,rfl,(le1 (by decide+kernel)),(by show 4<=sizeLine;omega),fun T_ hT=>⟨_,T_,_,_,rfl,rfl,SqL.of (Zd hT _ _ h4),SqL.of Zc,(by show 30<=sizeLine;omega),fun L2 h2=>nx L2 _ (s4.trans ((Zd hT).trans (Zd h2))) (by rw[Zc,List.map_append];rfl)⟩⟩
  intro L5 H5 s5 h5;refine hB _ _ ?_;refine JP fun B_ hB=> ?_
  suffices nx:∀(L2:Addr) (H':Hp),ZJ H H'->H' L2=some (.lst ((Zbf++Zcc++ZcV++ZdB++Ze9++Zf6++Zhq).map V.str))->B_ [some (.int n),some (.ref p),some (.str Yl),some (.str Zai),some (.ref L2),none] H' by
   exact⟨_,rfl,_,rfl,_,_,rfl,rfl,(le1 (by decide+kernel)),_,rfl,_,_,rfl,rfl,(le1 (by decide+kernel)),_,31,rfl,rfl,by decide,by decide,by decide+kernel,by decide+kernel,_,_,rfl,rfl,(le1 (by decide+kernel)),_,_,rfl,rfl,(le1 (by decide+kernel)),(by show 2<=sizeLine;omega),fun T_ hT=>⟨_,T_,_,_,rfl,rfl,SqL.of (Zd hT _ _ h5),SqL.of Zc,(by show 32<=sizeLine;omega),fun L2 h2=>nx L2 _ (s5.trans ((Zd hT).trans (Zd h2))) (by rw[Zc,List.map_append];rfl)⟩⟩
  intro L6 H6 s6 h6;refine hB _ _ ?_;refine JP fun B_ hB=> ?_
  suffices nx:∀(L2:Addr) (H':Hp),ZJ H H'->H' L2=some (.lst ((Zbf++Zcc++ZcV++ZdB++Ze9++Zf6++Zhq++Ziw).map V.str))->B_ [some (.int n),some (.ref p),some (.str Yl),some (.str Zai),some (.ref L2),none] H' by
   exact⟨_,rfl,_,rfl,_,_,rfl,rfl,(le1 (by decide+kernel)),_,rfl,_,_,rfl,rfl,(le1 (by decide+kernel)),_,rfl,_,_,rfl,rfl,(le1 (by decide+kernel)),_,rfl,_,_,rfl,rfl,(le1 (by decide+kernel)),_,rfl,_,_,rfl,rfl,(le1 (by decide+kernel)),_,31,rfl,rfl,by decide,by decide,by decide+kernel,by decide+kernel,_,_,rfl,rfl,(le1 (by decide+kernel)),_,_,rfl,rfl,(le1 (by decide+kernel)),(by show 3<=sizeLine;omega),fun T_ hT=>⟨_,T_,_,_,rfl,rfl,SqL.of (Zd hT _ _ h6),SqL.of Zc,(by show 35<=sizeLine;omega),fun L2 h2=>nx L2 _ (s6.trans ((Zd hT).trans (Zd h2))) (by rw[Zc,List.map_append];rfl)⟩⟩
  intro L7 H7 s7 h7;refine hB _ _ ?_;refine JP fun B_ hB=> ?_;have nx:∀(v5:Option V) (L:Addr) (xs:List Str) (H':Hp),ZJ H H'->H' L=some (.lst (xs.map V.str))->xs≠[]->(∀x∈xs,Yu ks x)->B_ [some (.int n),some (.ref p),some (.str Yl),some (.str Zai),some (.ref L),v5] H':=fun v5 L xs H' s' h' ne od=>hB _ _ (by
   have pos:0<xs.length:=List.length_pos_iff.mpr ne;have b1:(0:Int)<((xs.map V.str).length:Nat):=by rw[List.length_map];omega
   have m0:=Int.emod_nonneg n (Int.ne_of_gt b1);have m1:=Int.emod_lt_of_pos n b1;obtain⟨x,hx,ex⟩:=ZkD (xs:=xs) m0 (by rw[List.length_map] at m1⊢;exact m1)
   exact⟨_,rfl,_,rfl,_,rfl,_,_,rfl,.inl ⟨_,SqL.of h',rfl⟩,_,_,rfl,rfl,b1,L,_,_,_,rfl,rfl,SqL.of h',ex,q x H' s' (od x hx)⟩)
  have app:∀{us vs:List Str},(∀u∈us,Yu ks u)->(∀u∈vs,Yu ks u)->∀u∈us++vs,Yu ks u:=fun a b u hu=>(List.mem_append.mp hu).elim (a u) (b u);have od:∀x∈Zbf++Zcc++ZcV++ZdB++Ze9++Zf6++Zhq++Ziw,Yu ks x:=app (app (app (app (app (app (app (Zny ks) (Znz ks)) (ZnA ks)) (ZnB ks)) (ZnC ks)) (ZnD ks)) (ZnE ks)) (ZnF ks);have ne:Zbf++Zcc++ZcV++ZdB++Ze9++Zf6++Zhq++Ziw≠[]:=by simp[Zbf]
  have lxs:(Zbf++Zcc++ZcV++ZdB++Ze9++Zf6++Zhq++Ziw).length=35:=rfl;clear hB;generalize Zbf++Zcc++ZcV++ZdB++Ze9++Zf6++Zhq++Ziw=XS at h7 od ne lxs
  refine⟨_,rfl,Nat.zero_le _,fun E_ hE=>⟨1,.lst (ks.map fun w=>Dt.v (.str w)),.lst [],by decide,rfl,.lst (SqL.of (Zd hE _ _ (s7 _ _ hp))) (Zdy _),.lst (SqL.of Zc) .nil, ?like,_,rfl,Xg (fun e1=> ?yes) (fun e1=>nx none _ XS _ (s7.trans (Zd hE)) (Zd hE _ _ h7) ne od)⟩⟩
  case like=>
   show((ks.map fun w=>Dt.v (.str w)).zip ([]:List Dt)).all _=true;rw[List.zip_nil_right]
   rfl
  case yes=>
   have s8:ZJ H (upd H7 E_ (.lst [])):=s7.trans (Zd hE);have h8:=Zd hE (o:=.lst []) _ _ h7;generalize upd H7 E_ (.lst [])=H8 at s8 h8
   have hp8:=s8 _ _ hp;have pos:0<ks.length:=by
    refine Nat.pos_of_ne_zero fun z=> ?_;have z:=List.eq_nil_of_length_eq_zero z;subst z;exact absurd e1 (by decide)
   have b1:(0:Int)<((ks.map V.str).length:Nat):=by rw[List.length_map];omega
   have m0:=Int.emod_nonneg (n/64) (Int.ne_of_gt b1);have m1:=Int.emod_lt_of_pos (n/64) b1;obtain⟨k,hk,ev⟩:=ZkD (xs:=ks) m0 (by rw[List.length_map] at m1⊢;exact m1)
   have nk':=nk k hk;have kl:=nk'.2.1;have q0:(Str.ofString "series ").length=7:=by decide+kernel
   have q1:(Str.ofString " never").length=6:=by decide+kernel
   have q2:(Str.ofString " under ").length=7:=by decide+kernel
   have q3:(Str.ofString " ").length=1:=by decide+kernel
   have q4:(Str.ofString "  never").length=7:=by decide+kernel
   have q5:(Str.ofString " never never").length=12:=by decide+kernel
   have q6:(Str.ofString " after").length=6:=by decide+kernel
   have q7:(Yl).length=19:=by decide+kernel
   refine JP fun C_ hC=> ?_
   suffices mx:C_ [some (.int n),some (.ref p),some (.str Yl),some (.str Zai),some (.ref L7),some (.str k)] H8 by
    exact⟨_,rfl,vI rfl ⟨by decide,by decide⟩ ⟨_,rfl,_,_,rfl,.inl ⟨_,SqL.of hp8,rfl⟩,_,_,rfl,rfl,b1,p,_,_,_,rfl,rfl,SqL.of hp8,ev,mx⟩⟩
   refine hC _ _ ?_;refine JP fun C_ hC=> ?_
   suffices mx:∀(L2:Addr) (H':Hp),ZJ H H'->H' L2=some (.lst ((XS++[Str.ofString "series "++k++Str.ofString " never",Str.ofString "series "++k++Str.ofString " under "++k,Yl++Str.ofString " under "++k++Str.ofString " "]).map V.str))->C_ [some (.int n),some (.ref p),some (.str Yl),some (.str Zai),some (.ref L2),some (.str k)] H' by
    exact⟨_,rfl,_,rfl,_,_,rfl,rfl,(by(try simp only [strLen_append]);omega),_,_,rfl,rfl,(by(try simp only [strLen_append]);omega),_,rfl,_,_,rfl,rfl,(by(try simp only [strLen_append]);omega),_,_,rfl,rfl,(by(try simp only [strLen_append]);omega),_,rfl,_,_,rfl,rfl,(by(try simp only [strLen_append]);omega),_,rfl,_,_,rfl,rfl,(by(try simp only [strLen_append]);omega),_,rfl,_,_,rfl,rfl,(by(try simp only [strLen_append]);omega),_,_,rfl,rfl,(by(try simp only [strLen_append]);omega),(by show 3<=sizeLine;omega),fun T_ hT=>⟨_,T_,_,_,rfl,rfl,SqL.of (Zd hT _ _ h8),SqL.of Zc,(by(try rw[List.length_map]);(try simp only [List.length_append,List.length_cons,List.length_nil]);omega),fun L2 h2=>mx L2 _ (s8.trans ((Zd hT).trans (Zd h2))) (Zc.trans (congrArg (fun z=>some (HO.lst z)) (List.map_append (f:=V.str) (l₁:=XS) (l₂:=[Str.ofString "series "++k++Str.ofString " never",Str.ofString "series "++k++Str.ofString " under "++k,Yl++Str.ofString " under "++k++Str.ofString " "])).symm))⟩⟩
   intro M0 G0 t0 g0;refine hC _ _ ?_;refine JP fun C_ hC=> ?_
   suffices mx:∀(L2:Addr) (H':Hp),ZJ H H'->H' L2=some (.lst ((XS++[Str.ofString "series "++k++Str.ofString " never",Str.ofString "series "++k++Str.ofString " under "++k,Yl++Str.ofString " under "++k++Str.ofString " "]++[Yl++Str.ofString " under "++k++Str.ofString "  never",Yl++Str.ofString " under "++k++Str.ofString " never never"]).map V.str))->C_ [some (.int n),some (.ref p),some (.str Yl),some (.str Zai),some (.ref L2),some (.str k)] H' by
    exact⟨_,rfl,_,rfl,_,_,rfl,rfl,(by(try simp only [strLen_append]);omega),_,rfl,_,_,rfl,rfl,(by(try simp only [strLen_append]);omega),_,_,rfl,rfl,(by(try simp only [strLen_append]);omega),_,rfl,_,_,rfl,rfl,(by(try simp only [strLen_append]);omega),_,rfl,_,_,rfl,rfl,(by(try simp only [strLen_append]);omega),_,_,rfl,rfl,(by(try simp only [strLen_append]);omega),(by show 2<=sizeLine;omega),fun T_ hT=>⟨_,T_,_,_,rfl,rfl,SqL.of (Zd hT _ _ g0),SqL.of Zc,(by(try rw[List.length_map]);(try simp only [List.length_append,List.length_cons,List.length_nil]);omega),fun L2 h2=>mx L2 _ (t0.trans ((Zd hT).trans (Zd h2))) (Zc.trans (congrArg (fun z=>some (HO.lst z)) (List.map_append (f:=V.str) (l₁:=XS++[Str.ofString "series "++k++Str.ofString " never",Str.ofString "series "++k++Str.ofString " under "++k,Yl++Str.ofString " under "++k++Str.ofString " "]) (l₂:=[Yl++Str.ofString " under "++k++Str.ofString "  never",Yl++Str.ofString " under "++k++Str.ofString " never never"])).symm))⟩⟩
   intro M1 G1 t1 g1;refine hC _ _ ?_;have last:∀x∈XS++[Str.ofString "series "++k++Str.ofString " never",Str.ofString "series "++k++Str.ofString " under "++k,Yl++Str.ofString " under "++k++Str.ofString " "]++[Yl++Str.ofString " under "++k++Str.ofString "  never",Yl++Str.ofString " under "++k++Str.ofString " never never"]++[Yl++Str.ofString " under "++k++Str.ofString " after"],Yu ks x:=app (app (app od (by
    intro x hx;have hx:x=Str.ofString "series "++k++Str.ofString " never"\/x=Str.ofString "series "++k++Str.ofString " under "++k\/x=Yl++Str.ofString " under "++k++Str.ofString " ":=by simpa using hx
    rcases hx with rfl|rfl|rfl
    ·exact Zu1 hk nk'
    ·exact Zu2 hk nk'
    ·exact Zu3 hk nk')) (by
    intro x hx;have hx:x=Yl++Str.ofString " under "++k++Str.ofString "  never"\/x=Yl++Str.ofString " under "++k++Str.ofString " never never":=by simpa using hx
    rcases hx with rfl|rfl
    ·exact Zu4 hk nk'
    ·exact Zu5 hk nk')) (by
    intro x hx;rw[List.mem_singleton.mp hx];exact Zu6 hk nk')
   exact⟨_,rfl,_,rfl,_,_,rfl,rfl,(by(try simp only [strLen_append]);omega),_,rfl,_,_,rfl,rfl,(by(try simp only [strLen_append]);omega),_,_,rfl,rfl,(by(try simp only [strLen_append]);omega),(by show 1<=sizeLine;omega),fun T_ hT=>⟨_,T_,_,_,rfl,rfl,SqL.of (Zd hT _ _ g1),SqL.of Zc,(by(try rw[List.length_map]);(try simp only [List.length_append,List.length_cons,List.length_nil]);omega),fun L2 h2=>nx (some (.str k)) L2 (XS++[Str.ofString "series "++k++Str.ofString " never",Str.ofString "series "++k++Str.ofString " under "++k,Yl++Str.ofString " under "++k++Str.ofString " "]++[Yl++Str.ofString " under "++k++Str.ofString "  never",Yl++Str.ofString " under "++k++Str.ofString " never never"]++[Yl++Str.ofString " under "++k++Str.ofString " after"]) _ (t1.trans ((Zd hT).trans (Zd h2))) (Zc.trans (congrArg (fun z=>some (HO.lst z)) (List.map_append (f:=V.str) (l₁:=XS++[Str.ofString "series "++k++Str.ofString " never",Str.ofString "series "++k++Str.ofString " under "++k,Yl++Str.ofString " under "++k++Str.ofString " "]++[Yl++Str.ofString " under "++k++Str.ofString "  never",Yl++Str.ofString " under "++k++Str.ofString " never never"]) (l₂:=[Yl++Str.ofString " under "++k++Str.ofString " after"])).symm)) (by simp) last⟩⟩
theorem JF{rs:List Sr}(bk:Xn [] rs):∀y∈rs.map Sr.txt,Zfr y:=fun y hy=>by
 obtain⟨r,hr,rfl⟩:=List.mem_map.mp hy;exact ZpC (Zbt bk r hr)
theorem ZdD{rs:List Sr}(bk:Xn [] rs)(j:Nat):∀z∈(rs.take j).map Sr.nm,Nm z:=fun z hz=>by
 obtain⟨r,hr,rfl⟩:=List.mem_map.mp hz;exact(Zbt bk r (List.mem_of_mem_take hr)).nm
theorem ZsJ{r:Sr}(g:r.good):r.txt≠Str.ofString "":=fun z=>by
 have e:=ZlB r;rw[z] at e
 have e:([]:List Nat)=_:=e;unfold Sr.wds at e
 rw[List.map_cons,List.map_cons] at e
 cases e
theorem ZlG:Zbr [] [Str.ofString " "] 1:=by
 have o:=Zav (x:=Str.ofString " ") (by decide+kernel) [];exact⟨⟨0,_,[],rfl,Nat.le_refl _,rfl,o.2 [] (fun _ h=>nomatch h) (fun _ h=>nomatch h)⟩,fun y hy=>by rw[List.mem_singleton.mp hy];exact o.1,by decide+kernel,by decide⟩
theorem ZnG{rs:List Sr}(bk:Xn [] rs)(ne:rs≠[]):Zbr rs (rs.map Sr.txt++[Str.ofString ""]) ((rs.length:Int)+1):=by
 have o:=Zav (x:=Str.ofString "") (by decide+kernel) [];refine⟨⟨rs.length,_,[],rfl,Nat.le_refl _,by rw[List.take_length],o.2 _ (ZdD bk _) (fun _ h=>nomatch h)⟩,fun y hy=> ?_,fun z=> ?_,by rw[List.length_append,List.length_map];show rs.length+1<=_;omega⟩
 ·rcases List.mem_append.mp hy with h|h
  ·exact JF bk y h
  ·rw[List.mem_singleton.mp h];exact o.1
 ·have:=congrArg List.length z;rw[List.length_append,List.length_map] at this
  have l:=List.length_pos_iff.mpr ne;have t:rs.length+1=1:=this;omega
def two1:Str:=Str.ofString "series zzzzzzzzzzzz under yyyyyyyyyyyy"
def two2:Str:=Str.ofString "series yyyyyyyyyyyy never"
theorem two2_ok:Zfr two2:=by
 have h:(decide (two2.length<=3000)&&(cs two2).all (fun c=>decide (c≠10))&&(Xo two2).all wdB&&decide ((Xo two2).length<=500)&&ZpA (ZeU (Xo two2)))=true:=by decide+kernel
 obtain⟨h,h5⟩:=Bool.and_eq_true_iff.mp h;obtain⟨h,h4⟩:=Bool.and_eq_true_iff.mp h;obtain⟨h,h3⟩:=Bool.and_eq_true_iff.mp h;obtain⟨h1,h2⟩:=Bool.and_eq_true_iff.mp h;have h1:two2.length<=3000:=of_decide_eq_true h1;refine⟨⟨by omega,fun w hw=>Zjx (List.all_eq_true.mp h3 w hw),of_decide_eq_true h4,fun t ht=> ?_⟩,fun z=>of_decide_eq_true (List.all_eq_true.mp h2 10 z) rfl,h1⟩;unfold ZpA at h5
 rw[ht] at h5
 obtain⟨a,b⟩:=Bool.and_eq_true_iff.mp h5;exact⟨of_decide_eq_true a,of_decide_eq_true b⟩
theorem ZnH{rs:List Sr}(bk:Xn [] rs):Zbr rs ([two1,two2]++rs.map Sr.txt) 1:=by
 have o:=Zav (x:=two1) (by decide+kernel) [];refine⟨⟨0,two1,two2::rs.map Sr.txt,rfl,Nat.zero_le _,by rw[List.take_zero];rfl,o.2 _ (fun _ h=>nomatch h) (fun _ h=>nomatch h)⟩,fun y hy=> ?_,fun z=> ?_,by rw[List.length_append,List.length_map];show 2+rs.length<=_;omega⟩
 ·rcases List.mem_append.mp hy with h|h
  ·have h:y=two1\/y=two2:=by simpa using h
   rcases h with rfl|rfl
   ·exact o.1
   ·exact two2_ok
  ·exact JF bk y h
 ·have:=congrArg List.length z;rw[List.length_append,List.length_map] at this
  have t:2+rs.length=1:=this;omega
theorem ZpH{rs:List Sr}(bk:Xn [] rs){j:Nat}(hj:j<=rs.length){x:Str}(o:Yu ((rs.take j).map Sr.nm) x)(ne:rs=[]->x≠Str.ofString ""):Zbr rs ((rs.map Sr.txt).take j++[x]++(rs.map Sr.txt).drop j) ((j:Int)+1):=by
 refine⟨⟨j,x,(rs.map Sr.txt).drop j,rfl,hj,by rw[List.map_take,List.append_assoc];rfl,o.2 _ (ZdD bk j) fun _ h=>h⟩,fun y hy=> ?_,fun z=> ?_, ?_⟩
 ·rcases List.mem_append.mp hy with h|h
  ·rcases List.mem_append.mp h with h|h
   ·exact JF bk y (List.mem_of_mem_take h)
   ·rw[List.mem_singleton.mp h];exact o.1
  ·exact JF bk y (List.mem_of_mem_drop h)
 ·have l:=congrArg List.length z;simp only [List.length_append,List.length_take,List.length_drop,List.length_map,List.length_cons,List.length_nil] at l
  have r0:rs=[]:=List.eq_nil_of_length_eq_zero (by omega);subst r0;simp at z
  exact ne rfl z
 ·simp only [List.length_append,List.length_take,List.length_drop,List.length_map,List.length_cons,List.length_nil];omega
theorem ZlH(xs:List V)(k:Nat):Zfd xs none (some (k:Int))=xs.take k:=by
 unfold Zfd;rw[HT.Zgc,HT.ZjL,List.drop_zero,Nat.sub_zero]
 by_cases h:k<=xs.length
 ·rw[Nat.min_eq_left h]
 ·have lt:xs.length<=k:=Nat.le_of_not_le h;rw[Nat.min_eq_right lt,List.take_length,List.take_of_length_le lt]
theorem ZfS{α β:Type}{R:α->β->Prop}:∀{as:List α} {bs:List β} (m:Nat),Paired R as bs->Paired R (as.take m) (bs.take m)
 |_,_,_,.nil=>by rw[List.take_nil,List.take_nil];exact .nil
 |_,_,0,.cons _ _=> .nil
 |_,_,m+1,.cons h t=> .cons h (ZfS m t)
theorem Jj:ZQ ["_law_rows","_law_number","_law_texts","_law_at","_law_odd"] ["_law_rows","_law_number"] (ZF ZbC):=⟨rfl,rfl,rfl,by decide+kernel,rfl,by decide+kernel,by decide+kernel⟩
theorem Zhs{f:Addr}{fd:FuncData}(F:Fun K "_law_spoiled" "_law_spoiled" ZbC f fd)(T:Txt K mg t_YEAR_DAYS t_MONTH_DAYS t_MOST_FIGURES t_MOST_LETTERS t_FIGURES t_LETTERS t_MOST_WORDS t_MOST_CLAUSES Zj Zg Zh Zb Zm ZL Zn Zo Zq Zi Zy Zv Zz ZD ZG ZM)(Jb:Cal P w K mg base CX0 2 "_law_odd_row" ["_law_number","_law_known"] JM)(Xq:Cal P w K mg base CX0 1 "_law_row_text" ["_law_row"] Jz):Yo P w K mg base CX0 3 f fd ["_law_rows","_law_number"] Zb7:=by
 refine F.ok Jj (fun vs H Q E h=> ?_) (fun cdv A outer s H vs Q E hr h=> ?_)
 ·obtain⟨p,es,rs,n,rfl,_⟩:=h
  rfl
 ·obtain⟨p,es,rs,n,rfl,hp,pr,bk,lr,n0,q⟩:=h;have l5:=Ys;have hu3:=Zqb hr;have le:=Paired.length pr;have good:=Zbt bk;refine⟨_,(Zf (ZlT (i:=2) ["_law_row"] [] Jj.nd rfl (Or.inl rfl) rfl (ZaA (pv 0)) (by rfl) (by exact trivial) (by rfl) (by exact trivial) (fun _ _ _ _=>(Yn (i:=0) (show(nmY ["_law_row"] []).Nodup by decide+kernel) rfl (Or.inl rfl))) (fun _ _ _ _=>ZaC) (fun _ _ _ _=>(Yd Xq (hr.mono (by omega)) rfl Yp (Za (pv 0) Ze)))) (Zf (Yi (ZR XC (Zu Yt (pv 1) Zx) Zx (ZX _)) (Zf (Yi (ZR (Zot hu3) (pv 2) (Yj Ze) (ZX _)) (Zt (ZP (Zbu (Za (Yj (Za Zw Ze)) (Za Zx Ze))))) ZS) (Zt (ZP (Zbu (Za (Zu Xc (pv 2) (Yj (Za Zw Ze))) (Za (Zu Jc (ZZ Yr (by rfl) T.z_len Xh (Za (pv 2) Ze)) Zx) Ze)))))) ZS) (Zf (Yi (ZR XC (Zu Yt (pv 1) Zx) Zx (ZX _)) (Zt (ZP (Zbu (Za (Zu Xc (Yj (Za Zw (Za Zw Ze))) (pv 2)) (Za Zx Ze))))) ZS) (Zf (ZK (i:=3) Jj.nd rfl (Or.inl rfl) (Zu Yt (Zu Yy (pv 1) Zx) (Zu Jc (ZZ Yr (by rfl) T.z_len Xh (Za (pv 0) Ze)) Zx))) (Zf (ZK (i:=4) Jj.nd rfl (Or.inl rfl) (Yd Jb (hr.mono (by omega)) rfl Yp (Za (Zu Yy (pv 1) Zx) (Za (Zci ["_law_row"] [] rfl (ZaA (XF Zbk (pv 0) JG (Jk (pv 3)))) (by rfl) (by exact trivial) (by rfl) (by exact trivial) (fun _ _ _ _=>(Yn (i:=0) (show(nmY ["_law_row"] []).Nodup by decide+kernel) rfl (Or.inl rfl))) (fun _ _ _ _=>ZaC) (fun _ _ _ _=>(YT (Zmw (K:=K) rfl) (pv 0) Zx (fun _ _=>rfl)))) Ze)))) (Zf (Yi (PW.pt (ZiD (ZR XC (pv 4) Zw (ZX _)) (Zg9 (ZR (Zot hu3) (pv 2) (Yj Ze) (ZX _))))) (Zt (ZK (i:=4) Jj.nd rfl (Or.inl rfl) Zw)) ZS) (Zt (ZP (Zbu (Za (Zu Xc (Zu Xc (XF Zbk (pv 2) JG (Jk (pv 3))) (Yj (Za (pv 4) Ze))) (XF Zbk (pv 2) (Jk (pv 3)) JG)) (Za (Zu Jc (pv 3) Zx) Ze))))))))))), ?_⟩
  refine JP fun B_ hB=> ?_
  suffices nx:∀(D:Addr) (H':Hp),ZJ H H'->H' D=some (.lst ((rs.map Sr.txt).map V.str))->B_ [some (.ref p),some (.int n),some (.ref D),none,none] H' by
   refine⟨_,rfl,p,rfl,⟨_,SqL.of hp⟩,Zcl es.length (fun j=>[((rs[j]?).map fun r=>V.str r.txt).getD .non]) (by omega) (fun j=>Nat.le_refl 1) (fun j H4 s4 lt=>⟨_,_,SqL.of (s4 _ _ hp),List.getElem?_eq_getElem (by rw[List.length_map];exact lt)⟩) (fun H4 s4=>⟨_,SqL.of (s4 _ _ hp),by rw[List.length_map];exact Nat.le_refl _⟩) (fun j y H4 H5 s4 lt yl RT RF rt rf=> ?_) fun D4 H4 hD4 s4 d4=> ?_⟩
   ·obtain⟨rfl,yl⟩:=yl;obtain⟨d,rfl,ed⟩:=Zf2 (yl _ (SqL.of (s4 _ _ hp)));obtain⟨r,er,row⟩:=ZaN (Yv s4 pr) j d ed;refine⟨trivial, ?_⟩;unfold ZcR;exact JS ⟨_,rfl,d,r,rfl,row,good r (List.mem_of_getElem? er),fun H6 s6=>rt _ H6 (by rw[er];rfl) s6⟩
   have e6:(List.range es.length).flatMap (fun j=>[((rs[j]?).map fun r=>V.str r.txt).getD .non])=(rs.map Sr.txt).map V.str:=by
    rw[Xr,le,ZaI rs (fun r=>V.str r.txt) .non,List.map_map]
    rfl
   rw[e6] at d4
   exact nx D4 H4 s4 d4
  intro D H1 s1 d1;refine hB _ _ ?_;clear hB;refine JP fun B_ hB=> ?_;refine(vI rfl (by show(0:Int)<8;decide) ⟨rfl,_,rfl,Xg (fun e=> ?_) (fun e=>hB _ _ ?_)⟩)
  ·refine⟨_,rfl,Nat.zero_le _,fun E_ hE=>⟨1,.lst ((rs.map Sr.txt).map fun w=>Dt.v (.str w)),.lst [],by decide,rfl,.lst (SqL.of (Zd hE _ _ d1)) (Zdy _),.lst (SqL.of Zc) .nil, ?like,_,rfl,Xg (fun e1=> ?a) (fun e1=> ?b)⟩⟩
   case like=>
    show(((rs.map Sr.txt).map fun w=>Dt.v (.str w)).zip ([]:List Dt)).all _=true;rw[List.zip_nil_right]
    rfl
   case a=>
    have z:rs=[]:=by
     cases rs with
     |nil=>rfl
     |cons r rs=>
      rw[show XJ 1 (.lst (((r::rs).map Sr.txt).map fun w=>Dt.v (.str w))) (.lst [])=false from ?_] at e1
      ·cases e1
      ·simp[XJ]
    subst z;have s2:=s1.trans (Zd hE (o:=.lst []));refine⟨(by show 1<=sizeLine;omega),fun L hL=>⟨(by show 2<=sizeLine;omega),fun t ht=> ?_⟩⟩
    exact q t L [Str.ofString " "] 1 _ (s2.trans ((Zd hL).trans (Zd ht))) Zc (Zd ht _ _ Zc) ZlG
   case b=>
    have ne:rs≠[]:=fun z=>by
     subst z;exact e1 (by rfl)
    have s2:=s1.trans (Zd hE (o:=.lst []));have d2:=Zd hE (o:=.lst []) _ _ d1;generalize upd H1 E_ (.lst [])=H2 at s2 d2⊢
    refine⟨_,rfl,(by show 1<=sizeLine;omega),fun T_ hT=>⟨D,T_,_,_,rfl,rfl,SqL.of (Zd hT _ _ d2),SqL.of Zc,(by simp only [List.length_map,List.length_cons,List.length_nil];omega),fun L hL=> ?_⟩⟩
    have s3:=s2.trans ((Zd hT (o:=.lst [V.str (Str.ofString "")])).trans (Zd hL (o:=.lst ((rs.map Sr.txt).map V.str++[V.str (Str.ofString "")]))));refine⟨_,rfl,_,_,rfl,.inl ⟨_,SqL.of (Zd hL _ _ (Zd hT _ _ d2)),rfl⟩,_,_,rfl,rfl,(by show 2<=sizeLine;omega),fun t ht=> ?_⟩
    refine q t L (rs.map Sr.txt++[Str.ofString ""]) _ _ (s3.trans (Zd ht)) Zc (Zd ht _ _ (Zc.trans (congrArg (fun z=>some (HO.lst z)) (List.map_append (f:=V.str) (l₁:=rs.map Sr.txt) (l₂:=[Str.ofString ""])).symm))) ?_;rw[List.length_map,List.length_map];exact ZnG bk ne
  clear hB;refine JP fun B_ hB=> ?_;refine(vI rfl (by show(0:Int)<8;decide) ⟨rfl,_,rfl,Xg (fun e=> ?_) (fun e=>hB _ _ ?_)⟩)
  ·refine⟨(by show 2<=sizeLine;omega),fun T_ hT=>⟨_,rfl,T_,D,_,_,rfl,rfl,SqL.of Zc,SqL.of (Zd hT _ _ d1),(by simp only [List.length_map,List.length_cons,List.length_nil];omega),fun L hL=>⟨(by show 2<=sizeLine;omega),fun t ht=> ?_⟩⟩⟩
   exact q t L ([two1,two2]++rs.map Sr.txt) 1 _ (s1.trans ((Zd hT).trans ((Zd hL).trans (Zd ht)))) Zc (Zd ht _ _ Zc) (ZnH bk)
  clear hB;have b1:(0:Int)<(((es.map V.ref).length:Nat):Int)+1:=by omega
  have m0:=Int.emod_nonneg (n/8) (Int.ne_of_gt b1);have m1:=Int.emod_lt_of_pos (n/8) b1;obtain⟨j,ej⟩:∃j:Nat,n/8%((((es.map V.ref).length:Nat):Int)+1)=(j:Int):=⟨_,(Int.toNat_of_nonneg m0).symm⟩
  rw[ej] at m0 m1
  rw[List.length_map] at m1
  have hj:j<=rs.length:=by omega
  refine JP fun B_ hB=> ?_
  suffices nx:B_ [some (.ref p),some (.int n),some (.ref D),some (.int (j:Int)),none] H1 by
   refine(vI rfl ⟨by decide,by decide⟩ ⟨_,rfl,_,_,rfl,.inl ⟨_,SqL.of (s1 _ _ hp),rfl⟩,_,_,rfl,rfl,_,_,rfl,rfl,b1, ?_⟩);show B_ [some (.ref p),some (.int n),some (.ref D),some (.int (n/8%((((es.map V.ref).length:Nat):Int)+1))),none] H1;rw[ej];exact nx
  refine hB _ _ ?_;clear hB;refine JP fun B_ hB=> ?_
  suffices nx:∀(x:Str) (H':Hp),ZJ H1 H'->Yu ((rs.take j).map Sr.nm) x->B_ [some (.ref p),some (.int n),some (.ref D),some (.int (j:Int)),some (.str x)] H' by
   refine(vI rfl ⟨by decide,by decide⟩ ⟨_,rfl,_,rfl,_,rfl,p,_,rfl,SqL.of (s1 _ _ hp),fun P hP=> ?_⟩);rw[ZlH,<-List.map_take];have s2:ZJ H1 (upd H1 P (.lst ((es.take j).map V.ref))):=Zd hP;have hP2:upd H1 P (.lst ((es.take j).map V.ref)) P=some (.lst ((es.take j).map V.ref)):=Zc;have pr2:=ZfS j (Yv (s1.trans s2) pr);have le2:=Paired.length pr2;have lj:(rs.take j).length<=12:=by rw[List.length_take];omega
   generalize upd H1 P (.lst ((es.take j).map V.ref))=H2 at s2 hP2 pr2
   generalize es.take j=fs at hP2 pr2 le2
   refine⟨P,rfl,⟨_,SqL.of hP2⟩,Zcl fs.length (fun i=>[(((rs.take j)[i]?).map fun r=>V.str r.nm).getD .non]) (by omega) (fun i=>Nat.le_refl 1) (fun i H4 s4 lt=>⟨_,_,SqL.of (s4 _ _ hP2),List.getElem?_eq_getElem (by rw[List.length_map];exact lt)⟩) (fun H4 s4=>⟨_,SqL.of (s4 _ _ hP2),by rw[List.length_map];exact Nat.le_refl _⟩) (fun i y H4 H5 s4 lt yl RT RF rt rf=> ?_) fun Kn H4 hKn s4 d4=> ?_⟩
   ·obtain⟨rfl,yl⟩:=yl;obtain⟨d,rfl,ed⟩:=Zf2 (yl _ (SqL.of (s4 _ _ hP2)));obtain⟨r,er,row⟩:=ZaN (Yv s4 pr2) i d ed;have row:H5 d=some (.tup [.str r.nm,oS r.el,oT r.tm]):=row;refine⟨trivial, ?_⟩;unfold ZcR;exact JS (ixT rfl (SqT.of row) rfl (rt _ _ (by rw[er];rfl) (ZJ.refl _)))
   have e6:(List.range fs.length).flatMap (fun i=>[(((rs.take j)[i]?).map fun r=>V.str r.nm).getD .non])=((rs.take j).map Sr.nm).map V.str:=by
    rw[Xr,le2,ZaI (rs.take j) (fun r=>V.str r.nm) .non,List.map_map]
    rfl
   rw[e6] at d4
   exact⟨_,Kn,(rs.take j).map Sr.nm,rfl,d4,ZdD bk j,by rw[List.length_map];omega,fun x H5 s5 ox=>nx x H5 (s2.trans (s4.trans s5)) ox⟩
  intro x H2 s2 ox;refine hB _ _ ?_;clear hB;have d2:=s2 _ _ d1;refine JP fun B_ hB=> ?_
  suffices nx:∀(x:Str) (H':Hp),ZJ H2 H'->Yu ((rs.take j).map Sr.nm) x->(rs=[]->x≠Str.ofString "")->B_ [some (.ref p),some (.int n),some (.ref D),some (.int (j:Int)),some (.str x)] H' by
   refine⟨_,rfl,rfl,_,rfl,Xg (fun e=> ?_) (fun e=>Zal (nx x H2 (ZJ.refl _) ox fun _ z=>e (decide_eq_true (by rw[z]))))⟩;refine⟨_,rfl,Nat.zero_le _,fun E_ hE=>⟨1,.lst ((rs.map Sr.txt).map fun w=>Dt.v (.str w)),.lst [],by decide,rfl,.lst (SqL.of (Zd hE _ _ d2)) (Zdy _),.lst (SqL.of Zc) .nil, ?like,_,rfl,Xg (fun e1=> ?a) (fun e1=> ?b)⟩⟩
   case like=>
    show(((rs.map Sr.txt).map fun w=>Dt.v (.str w)).zip ([]:List Dt)).all _=true;rw[List.zip_nil_right]
    rfl
   case a=>
    exact(nx _ _ (Zd hE) (Zav (x:=Str.ofString " ") (by decide+kernel) _) fun _=>by decide+kernel)
   case b=>
    refine(nx x _ (Zd hE) ox fun z=> ?_);subst z;exact absurd rfl e1
  intro x H3 s3 ox ne;refine hB _ _ ?_;clear hB;have d3:=s3 _ _ d2;have s3:=s1.trans (s2.trans s3);clear d1 d2 s1 s2;refine⟨_,rfl,_,rfl,_,rfl,D,_,rfl,SqL.of d3,fun A1 hA1=> ?_⟩;rw[ZlH,<-List.map_take];have d4:=Zd hA1 (o:=.lst (((rs.map Sr.txt).take j).map V.str)) _ _ d3;have s4:=s3.trans (Zd hA1 (o:=.lst (((rs.map Sr.txt).take j).map V.str)));have a4:upd H3 A1 (.lst (((rs.map Sr.txt).take j).map V.str)) A1=some (.lst (((rs.map Sr.txt).take j).map V.str)):=Zc
  generalize upd H3 A1 (.lst (((rs.map Sr.txt).take j).map V.str))=H4 at d4 s4 a4⊢
  refine⟨_,rfl,(by show 1<=sizeLine;omega),fun T_ hT=>⟨A1,T_,_,_,rfl,rfl,SqL.of (Zd hT _ _ a4),SqL.of Zc,(by simp only [List.length_map,List.length_take,List.length_cons,List.length_nil];omega),fun L hL=> ?_⟩⟩
  have d5:=Zd hL (o:=.lst (((rs.map Sr.txt).take j).map V.str++[V.str x])) _ _ (Zd hT (o:=.lst [V.str x]) _ _ d4);have s5:=s4.trans ((Zd hT (o:=.lst [V.str x])).trans (Zd hL (o:=.lst (((rs.map Sr.txt).take j).map V.str++[V.str x]))));have a5:upd (upd H4 T_ (.lst [V.str x])) L (.lst (((rs.map Sr.txt).take j).map V.str++[V.str x])) L=some (.lst (((rs.map Sr.txt).take j).map V.str++[V.str x])):=Zc;generalize upd (upd H4 T_ (.lst [V.str x])) L (.lst (((rs.map Sr.txt).take j).map V.str++[V.str x]))=H5 at d5 s5 a5⊢
  refine⟨_,rfl,_,rfl,_,rfl,D,_,rfl,SqL.of d5,fun A2 hA2=> ?_⟩;rw[Zf1,<-List.map_drop];refine⟨L,A2,_,_,rfl,rfl,SqL.of (Zd hA2 _ _ a5),SqL.of Zc,(by simp only [List.length_map,List.length_append,List.length_take,List.length_drop,List.length_cons,List.length_nil];omega),fun L2 hL2=>⟨_,rfl,_,_,rfl,rfl,(by show 2<=sizeLine;omega),fun t ht=> ?_⟩⟩
  refine q t L2 ((rs.map Sr.txt).take j++[x]++(rs.map Sr.txt).drop j) _ _ (s5.trans ((Zd hA2).trans ((Zd hL2).trans (Zd ht)))) Zc (Zd ht _ _ (Zc.trans (congrArg (fun z=>some (HO.lst z)) ?_))) (ZpH bk hj ox ne);simp only [List.map_append]
  rfl
theorem Zmz:∀{rs:List Sr} {ns:List Str} (m:Nat),Xn ns rs->Xn ns (rs.take m)
 |[],_,_,_=>by rw[List.take_nil];trivial
 |_::_,_,0,_=>trivial
 |_::_,_,m+1,⟨g,n,e,k⟩=>⟨g,n,e,Zmz m k⟩
theorem Zrv(ys:List Str):cs (Txt.join (Str.ofString "\n") ys)=J 10 (ys.map cs):=by
 have e:Txt.join (Str.ofString "\n") ys=Str.join (Str.ofString "\n") ys:=StrLaws.glued_eq_join _ _;rw[e,Zps,ZdM]
theorem ZkE{ys:List Str}(h:∀y∈ys,10∉cs y)(ne:ys≠[]):YX (Txt.join (Str.ofString "\n") ys)=ys:=Zd6 _ 10 ys ne h (Zrv ys)
theorem ZpI{ys:List Str}(h:∀y∈ys,y.length<=3000)(l:ys.length<=15):(Txt.join (Str.ofString "\n") ys).length<=99000:=by
 rw[Jg,Zrv];have h1:=Zmn 10 (ys.map cs);have e:(ys.map cs).map List.length=ys.map (·.length):=by
  rw[List.map_map];exact List.map_congr_left fun r _=>(Jg _).symm
 have h2:=Zdt (fun p:Str=>p.length) 3000 ys h;have h3:ys.length*3000<=15*3000:=Nat.mul_le_mul_right _ l;rw[e,List.length_map] at h1
 omega
theorem ZpJ{ys:List Str}(h:∀y∈ys,y.length<=3000)(l:ys.length<=15):(ys.map (·.length)).sum+ys.length*(Str.ofString "\n").length<=16777216:=by
 have h1:=Zdt (fun p:Str=>p.length) 3000 ys h;rw[show(Str.ofString "\n").length=1 by decide+kernel];have h3:ys.length*3000<=15*3000:=Nat.mul_le_mul_right _ l;omega
theorem Zix:YX (Str.ofString "")=[Str.ofString ""]:=by decide+kernel
structure Zr3 (rs:List Sr) (ys:List Str) (m:Int):Prop where
 ex:∃(j:Nat) (y:Str) (zs:List Str),m=(j:Int)+1/\j<=rs.length/\ys=(rs.take j).map Sr.txt++y::zs/\ZcC ((rs.take j).map Sr.nm) (Xo y)=none
 lines:∀y∈ys,Zfr y
 one:ys≠[Str.ofString ""]
 many:ys.length<=15
theorem Zr4{rs:List Sr}{ys:List Str}{m:Int}(s:Zbr rs ys m)(l:rs.length<=12):Zr3 rs ys m:=⟨s.ex,s.lines,s.one,by have:=s.many;omega⟩
theorem Zr5{rs:List Sr}{ys:List Str}{m:Int}(s:Zbr rs ys m)(l:rs.length<=12){x:Str}(o:Yu [] x){b:Nat}(hb:m<=(b:Int)):Zr3 rs (ys.take b++[x]++ys.drop b) m:=by
 have many:=s.many;obtain⟨j,y,zs,rfl,hj,e,no⟩:=s.ex;have la:((rs.take j).map Sr.txt).length=j:=by rw[List.length_map,List.length_take];omega
 have ly:1<=ys.length:=by rw[e,List.length_append,List.length_cons];omega
 refine⟨⟨j,y,zs.take (b-j-1)++[x]++ys.drop b,rfl,hj, ?_,no⟩,fun y hy=> ?_,fun z=> ?_, ?_⟩
 ·conv=>lhs;arg 1;arg 1;rw[e]
  rw[List.take_append,la,List.take_of_length_le (by rw[la];omega),show b-j=(b-j-1)+1 by omega,List.take_succ_cons]
  simp only [List.append_assoc,List.cons_append]
  rfl
 ·rcases List.mem_append.mp hy with h|h
  ·rcases List.mem_append.mp h with h|h
   ·exact s.lines y (List.mem_of_mem_take h)
   ·rw[List.mem_singleton.mp h];exact o.1
  ·exact s.lines y (List.mem_of_mem_drop h)
 ·have l:=congrArg List.length z;simp only [List.length_append,List.length_take,List.length_drop,List.length_cons,List.length_nil] at l
  omega
 ·simp only [List.length_append,List.length_take,List.length_drop,List.length_cons,List.length_nil];omega
theorem ZnI{rs:List Sr}{ys:List Str}{m:Int}(bk:Xn [] rs)(l:rs.length<=12)(t:Zr3 rs ys m):∃(qs:List Sr) (y:Str),m=(qs.length:Int)+1/\(Txt.join (Str.ofString "\n") ys).length<=99000/\qs.length<=30/\Txt.join (Str.ofString "\n") ys≠Str.ofString ""/\(∀i y,(YX (Txt.join (Str.ofString "\n") ys))[i]? =some y->i<=qs.length->Zil y)/\Zh3 [] ((YX (Txt.join (Str.ofString "\n") ys)).take qs.length) qs/\qs.length<=(YX (Txt.join (Str.ofString "\n") ys)).length/\(YX (Txt.join (Str.ofString "\n") ys))[qs.length]? =some y/\ZcC (qs.map Sr.nm) (Xo y)=none:=by
 obtain⟨j,y,zs,rfl,hj,e,no⟩:=t.ex;have la:(rs.take j).length=j:=by rw[List.length_take];omega
 have lb:((rs.take j).map Sr.txt).length=j:=by rw[List.length_map,la]
 have ne:ys≠[]:=fun z=>by rw[z] at e;cases h:(rs.take j).map Sr.txt<;>rw[h] at e<;>cases e
 have sp:=ZkE (fun y hy=>(t.lines y hy).nl) ne;have nx:Txt.join (Str.ofString "\n") ys≠Str.ofString "":=fun z=>t.one (by rw[<-sp,z,Zix]);refine⟨rs.take j,y,by rw[la],ZpI (fun y hy=>(t.lines y hy).len) t.many,by omega,nx,fun i z hz _=> ?_, ?_, ?_, ?_,no⟩
 ·rw[sp] at hz
  exact(t.lines z (List.mem_of_getElem? hz)).row
 ·rw[sp,la,e,List.take_append,lb,Nat.sub_self,List.take_zero,List.append_nil,List.take_of_length_le (by omega)];exact Zdx (Zmz j bk)
 ·rw[sp,la,e,List.length_append,List.length_cons];omega
 ·rw[sp,la,e,List.getElem?_append_right (by omega),lb,Nat.sub_self]
  rfl
theorem ZmA{rs:List Sr}(bk:Xn [] rs)(l:rs.length<=12):(Xj rs).length<=99000/\rs.length<=30/\(Xj rs=Str.ofString ""->rs=[])/\(Xj rs≠Str.ofString ""->(∀i y,(YX (Xj rs))[i]? =some y->i<=rs.length->Zil y)/\Zh3 [] ((YX (Xj rs)).take rs.length) rs/\rs.length<=(YX (Xj rs)).length/\∀(P:Prop) y,(YX (Xj rs))[rs.length]? =some y->P):=by
 have lo:=JF bk;have lx:(Xj rs).length<=99000:=ZpI (fun y hy=>(lo y hy).len) (by rw[List.length_map];omega)
 by_cases z:rs=[]
 ·subst z;have e0:Xj []=Str.ofString "":=by decide+kernel
  exact⟨lx,by decide,fun _=>rfl,fun h=>absurd e0 h⟩
 ·have ne:rs.map Sr.txt≠[]:=fun h=>z (List.map_eq_nil_iff.mp h);have sp:YX (Xj rs)=rs.map Sr.txt:=ZkE (fun y hy=>(lo y hy).nl) ne;have le:(YX (Xj rs)).length=rs.length:=by rw[sp,List.length_map]
  refine⟨lx,by omega,fun e=> ?_,fun _=>⟨fun i y hy _=> ?_, ?_,by omega,fun P y hy=> ?_⟩⟩
  ·rw[e,Zix] at sp
   cases rs with
   |nil=>rfl
   |cons r q=>
    cases q with
    |nil=>exact absurd (List.cons.inj sp).1.symm (ZsJ (Zbt bk r (List.mem_singleton.mpr rfl)))
    |cons r2 q=>exact absurd (congrArg List.length sp) (by intro h;rw[List.length_map] at h;simp only [List.length_cons,List.length_nil] at h;omega)
  ·rw[sp] at hy
   exact(lo y (List.mem_of_getElem? hy)).row
  ·rw[sp,List.take_of_length_le (by rw[List.length_map];omega)]
   exact Zdx bk
  ·rw[List.getElem?_eq_none (by omega)] at hy
   cases hy
def Zrw:Str:=Str.ofString "series a "++Zde (Str.ofString "later never ") 30++Str.ofString "never"
def ZfA:Nat->Tr
 |0=> .never
 |n+1=> .later .never (ZfA n)
def ZmB:Sr:=⟨Str.ofString "a",none,some (ZfA 30)⟩
theorem ZmC:∀(n:Nat) (c:Int),cs ((ZfA n).tC c)=(List.replicate n (cs (Str.ofString "later never "))).flatten++cs (Str.ofString "never")
 |0,c=>rfl
 |n+1,c=>by
  show cs (Str.ofString "later"++Str.ofString " "++Str.ofString "never"++Str.ofString " "++(ZfA n).tC (c/3))=_;rw[ZV,ZmC n,List.replicate_succ,List.flatten_cons,List.append_assoc];exact congrArg (· ++_) (show cs (Str.ofString "later"++Str.ofString " "++Str.ofString "never"++Str.ofString " ")=cs (Str.ofString "later never ") by decide+kernel)
theorem Zr6:Xj [ZmB]=Zrw:=by
 have e:cs (Xj [ZmB])=cs Zrw:=by
  rw[ZqS];show cs (Str.ofString "series "++Str.ofString "a"++Str.ofString " "++(ZfA 30).tC (-1))=cs (Str.ofString "series a "++Zde (Str.ofString "later never ") 30++Str.ofString "never");rw[ZV,ZmC,ZV _ (Str.ofString "never"),ZV _ (Zde _ _),Zhp,List.append_assoc];exact congrArg (· ++_) (show cs (Str.ofString "series "++Str.ofString "a"++Str.ofString " ")=cs (Str.ofString "series a ") by decide+kernel)
 exact M1.ext e
theorem Ziy:∀n,(ZfA n).good
 |0=>trivial
 |n+1=>⟨trivial,Ziy n⟩
theorem Zr7:Xn [] [ZmB]:=⟨⟨⟨by decide+kernel,by decide+kernel,by decide+kernel⟩,(fun e he=>nomatch he),fun t ht=>by cases ht;exact⟨Ziy 30,by decide+kernel,by decide+kernel,by decide+kernel,by decide+kernel,by decide+kernel⟩,fun _ h=>nomatch h⟩,(fun h=>nomatch h),(fun e he=>nomatch he),trivial⟩
theorem Zr8:∃ls:List Sr,Xn [] ls/\ls.length<=12/\Xj ls=Str.ofString "series a "++Zde (Str.ofString "later never ") 30++Str.ofString "never":=⟨[ZmB],Zr7,by decide,Zr6⟩
theorem ZkF:0<(Str.ofString "later never ").length/\(Str.ofString "later never ").length*30<=100000:=by decide+kernel
theorem ZmD:(Str.ofString "series a ").length+(Zde (Str.ofString "later never ") 30).length<=500/\(Str.ofString "series a "++Zde (Str.ofString "later never ") 30).length+(Str.ofString "never").length<=500:=by
 rw[strLen_append,Zmc]
 decide+kernel
theorem ZsK(ns:List Int):∃ms:List Int,Zfd (ns.map V.int) (some 4) (some 16)=ms.map V.int/\ms.length<=12:=by
 refine⟨(ns.drop (HT.sIx ns.length 0 (some 4))).take (HT.sIx ns.length ns.length (some 16)-HT.sIx ns.length 0 (some 4)), ?_, ?_⟩
 ·unfold Zfd;rw[List.length_map,List.map_take,List.map_drop]
 ·rw[List.length_take,show(16:Int)=((16:Nat):Int) from rfl,show(4:Int)=((4:Nat):Int) from rfl,HT.Zgc,HT.Zgc];omega
theorem ZbQ:ZQ ["_law_script","_law_rows","_law_text","_law_k","_law_number","_law_bad","_law_due","_law_behind","_law_long"] ["_law_script"] (ZF ZeP):=⟨rfl,rfl,rfl,by decide+kernel,rfl,by decide+kernel,by decide+kernel⟩
theorem ZsL{f:Addr}{fd:FuncData}(F:Fun K "law" "law" ZeP f fd)(T:Txt K mg t_YEAR_DAYS t_MONTH_DAYS t_MOST_FIGURES t_MOST_LETTERS t_FIGURES t_LETTERS t_MOST_WORDS t_MOST_CLAUSES Zj Zg Zh Zb Zm ZL Zn Zo Zq Zi Zy Zv Zz ZD ZG ZM)(Zaw:Cal P w K mg base CX0 3 "_law_book_rows" ["_law_cells","_law_names_by"] Za4)(Zaa:Cal P w K mg base CX0 1 "_law_cell_at" ["_law_script","_law_k"] (Zb6 K))(Jb:Cal P w K mg base CX0 2 "_law_odd_row" ["_law_number","_law_known"] JM)(ZbR:Cal P w K mg base CX0 2 "_law_refused" ["_law_told","_law_due"] (Zb9 Zi))(Xq:Cal P w K mg base CX0 1 "_law_row_text" ["_law_row"] Jz)(ZbS:Cal P w K mg base CX0 3 "_law_spoiled" ["_law_rows","_law_number"] Zb7)(ZbT:Cal P w K mg base CX0 74 "_law_told_of" ["_law_text"] (Zb8 Zi))(Xu:Cal P w K mg base (CXr P w) 73 "book_read" ["text"] (ZaE Zj Zg Zh Zb Zi))(JQ:Cal P w K mg base CX0 68 "book_shown" ["book"] (ZbL Zj Zg Zh Zb)):Yo P w K mg base CX0 75 f fd ["_law_script"] (Zof K):=by
 refine F.ok ZbQ (fun vs H Q E h=> ?_) (fun cdv A outer s H vs Q E hr h=> ?_)
 ·obtain⟨a,ns,rfl,_⟩:=h
  rfl
 ·obtain⟨a,ns,rfl,hS,hlen,_,fin⟩:=h;have l5:=Ys;have hu3:=Zqb hr;refine⟨_,(Zf (ZK (i:=1) ZbQ.nd rfl (Or.inl rfl) (Yd Zaw (hr.mono (by omega)) rfl Yp (Za (XF Zbk (pv 0) (Jk Zx) (Jk Zx)) (Za (Yd Zaa (hr.mono (by omega)) rfl Yp (Za (pv 0) (Za Zx Ze))) Ze)))) (Zf (ZK (i:=2) ZbQ.nd rfl (Or.inl rfl) (Je PySem.F.plainAttrs_str PySem.F.slot_str_join PySem.F.type_str_join XX Zw (Za (Zci ["_law_row"] [] rfl (ZaA (pv 1)) (by rfl) (by exact trivial) (by rfl) (by exact trivial) (fun _ _ _ _=>(Yn (i:=0) (show(nmY ["_law_row"] []).Nodup by decide+kernel) rfl (Or.inl rfl))) (fun _ _ _ _=>ZaC) (fun _ _ _ _=>(Yd Xq (hr.mono (by omega)) rfl Yp (Za (pv 0) Ze)))) Ze))) (Zf (Yi (ZR ZlN (Yd JQ (hr.mono (by omega)) rfl Yp (Za (Yd Xu (hr.mono (by omega)) rfl Zja (Za (pv 2) Ze)) Ze)) (pv 2) (ZX _)) (Zt (ZP ZfG)) ZS) (Zf (ZcZ PassesOwn.never rfl (ZdJ rfl T.z_range (Za Zx Ze)) (Yn (i:=3) ZbQ.nd rfl (Or.inl rfl)) (Zf (ZK (i:=4) ZbQ.nd rfl (Or.inl rfl) (Zu Yt (Zu Zbl (Zu Jc (Yd Zaa (hr.mono (by omega)) rfl Yp (Za (pv 0) (Za (Zu Jc (pv 3) Zx) Ze))) (pv 3)) Zx) Zx)) (Zf (ZnQ (Yd ZbS (hr.mono (by omega)) rfl Yp (Za (pv 1) (Za (pv 4) Ze))) (Zgx rfl (Jf (Yn (i:=5) ZbQ.nd rfl (Or.inl rfl)) (Jf (Yn (i:=6) ZbQ.nd rfl (Or.inl rfl)) ZeC)))) (Zf (Yi (ZR XC (Zu Yt (Zu Yy (pv 4) Zx) Zx) Zx (ZX _)) (Zf (ZK (i:=7) ZbQ.nd rfl (Or.inl rfl) (Zu Jc (pv 6) (Zu Yt (Zu Yy (pv 4) Zx) (Zu ZkJ (Zu Jc Zx (ZZ Yr (by rfl) T.z_len Xh (Za (pv 5) Ze))) (pv 6))))) (Zt (ZK (i:=5) ZbQ.nd rfl (Or.inl rfl) (Zu Xc (Zu Xc (XF Zbk (pv 5) JG (Jk (pv 7))) (Yj (Za (Yd Jb (hr.mono (by omega)) rfl Yp (Za (Zu Yy (pv 4) Zx) (Za (Yj Ze) Ze))) Ze))) (XF Zbk (pv 5) (Jk (pv 7)) JG))))) ZS) (Zt (Yi (Zed (ZaO (Yd ZbR (hr.mono (by omega)) rfl Yp (Za (Yd ZbT (hr.mono (by omega)) rfl Yp (Za (Je PySem.F.plainAttrs_str PySem.F.slot_str_join PySem.F.type_str_join XX Zw (Za (pv 5) Ze)) Ze)) (Za (pv 6) Ze))))) (Zt (ZP ZfG)) ZS)))))) (Zf (ZK (i:=8) ZbQ.nd rfl (Or.inl rfl) (Zu Zk (Zu Zk Zw (Zu Zgm Zw Zx)) Zw)) (Zt (ZP (ZiF (ZeD XC (Yd JQ (hr.mono (by omega)) rfl Yp (Za (Yd Xu (hr.mono (by omega)) rfl Zja (Za (pv 8) Ze)) Ze)) (pv 8) (ZX _)) (ZiE (ZeD XC (Yd JQ (hr.mono (by omega)) rfl Yp (Za (Yd Xu (hr.mono (by omega)) rfl Zja (Za (pv 2) Ze)) Ze)) (pv 2) (ZX _))))))))))), ?_⟩
  refine JP fun B_ hB=> ?_
  suffices nx:∀(R:Addr) (es:List Addr) (rs:List Sr) (H1:Hp),ZJ H H1->H1 R=some (.lst (es.map V.ref))->Paired (ZeV H1) es rs->Xn [] rs->rs.length<=12->B_ [some (.ref a),some (.ref R),none,none,none,none,none,none,none] H1 by
   obtain⟨ms,em,lm⟩:=ZsK ns;refine⟨_,rfl,_,rfl,_,rfl,a,_,rfl,hS,fun P hP=> ?_⟩;have s1:ZJ H (upd H P (.lst (Zfd (ns.map V.int) (some 4) (some 16)))):=Zd hP;refine⟨_,rfl,a,ns,0,rfl,s1.seq hS,fun c0 H1 s2=> ?_⟩;refine⟨P,ms,c0,rfl,by rw[<-em];exact s2 _ _ Zc,by omega,fun R es rs H2 hR s3 hr pr bk lr=> ?_⟩
   exact nx R es rs H2 (s1.trans (s2.trans s3)) hr pr bk (by omega)
  intro R es rs H1 s1 hR pr bk lr;refine hB _ _ ?_;clear hB;have good:=Zbt bk;have le:=Paired.length pr;refine JP fun B_ hB=> ?_
  suffices nx:∀H2,ZJ H1 H2->B_ [some (.ref a),some (.ref R),some (.str (Xj rs)),none,none,none,none,none,none] H2 by
   refine⟨rfl,_,rfl,R,rfl,⟨_,SqL.of hR⟩,Zcl es.length (fun j=>[((rs[j]?).map fun r=>V.str r.txt).getD .non]) (by omega) (fun j=>Nat.le_refl 1) (fun j H4 s4 lt=>⟨_,_,SqL.of (s4 _ _ hR),List.getElem?_eq_getElem (by rw[List.length_map];exact lt)⟩) (fun H4 s4=>⟨_,SqL.of (s4 _ _ hR),by rw[List.length_map];exact Nat.le_refl _⟩) (fun j y H4 H5 s4 lt yl RT RF rt rf=> ?_) fun D4 H4 hD4 s4 d4=> ?_⟩
   ·obtain⟨rfl,yl⟩:=yl;obtain⟨d,rfl,ed⟩:=Zf2 (yl _ (SqL.of (s4 _ _ hR)));obtain⟨r,er,row⟩:=ZaN (Yv s4 pr) j d ed;refine⟨trivial, ?_⟩;unfold ZcR;exact JS ⟨_,rfl,d,r,rfl,row,good r (List.mem_of_getElem? er),fun H6 s6=>rt _ H6 (by rw[er];rfl) s6⟩
   have e6:(List.range es.length).flatMap (fun j=>[((rs[j]?).map fun r=>V.str r.txt).getD .non])=(rs.map Sr.txt).map V.str:=by
    rw[Xr,le,ZaI rs (fun r=>V.str r.txt) .non,List.map_map]
    rfl
   rw[e6] at d4
   exact⟨_,D4,rs.map Sr.txt,rfl,rfl,SqL.of d4,ZpJ (fun y hy=>(JF bk y hy).len) (by rw[List.length_map];omega),nx _ s4⟩
  intro H2 s2;refine hB _ _ ?_;clear hB;have hS2:=(s1.trans s2).seq hS;have hR2:=s2 _ _ hR;have pr2:=Yv s2 pr;clear hR pr s1 s2 hS;obtain⟨k1,k2,k3,k4⟩:=ZmA bk lr;refine JP fun B_ hB=> ?_
  suffices nx:∀H3,ZJ H2 H3->B_ [some (.ref a),some (.ref R),some (.str (Xj rs)),none,none,none,none,none,none] H3 by
   refine⟨_,rfl,_,rs,rfl,k1,k2,k3,fun h=>⟨(k4 h).1,(k4 h).2.1,(k4 h).2.2.1,fun y hy=>(k4 h).2.2.2 _ y hy⟩,fun _ B H5 hB s5 bat=> ?_⟩;exact⟨B,rs,rfl,bat,good,k2,fun H6 s6=>⟨_,rfl,rfl,_,rfl,ZfK rfl (nx H6 (s5.trans s6))⟩⟩
  intro H3 s3;refine hB _ _ ?_;clear hB;have hS3:=s3.seq hS2;have hR3:=s3 _ _ hR2;have pr3:=Yv s3 pr2;clear hR2 pr2 s3 hS2;refine JP fun B_ hB=> ?_
  suffices nx:∀(v3 v4 v5 v6 v7:Option V) (H4:Hp),ZJ H3 H4->B_ [some (.ref a),some (.ref R),some (.str (Xj rs)),v3,v4,v5,v6,v7,none] H4 by
   refine⟨3,rfl,by decide,by decide,ZdK (fun i σ H'=>∃v3 v4 v5 v6 v7:Option V,σ=[some (.ref a),some (.ref R),some (.str (Xj rs)),v3,v4,v5,v6,v7,none]/\ZJ H3 H') ⟨none,none,none,none,none,rfl,ZJ.refl _⟩ ?_ (fun σ H4 h=> ?_)⟩
   ·rintro i σ H4 hi ⟨v3,v4,v5,v6,v7,rfl,s4⟩;clear nx hB;have hS4:=s4.seq hS3;have hR4:=s4 _ _ hR3;have pr4:=Yv s4 pr3;clear hR3 pr3 hS3;refine JP fun B_ hB=> ?_
    suffices nx:∀(n:Int) (H5:Hp),0<=n->ZJ H4 H5->B_ [some (.ref a),some (.ref R),some (.str (Xj rs)),some (.int (0+(i:Int))),some (.int n),v5,v6,v7,none] H5 by
     refine⟨_,rfl,_,rfl,_,_,rfl,rfl,a,ns,i+1,by show[V.ref a,V.int (0+(i:Int)+1)]=_;rw[Int.zero_add];rfl,hS4,fun c H5 s5=> ?_⟩
     exact⟨_,rfl,_,_,rfl,rfl,_,_,rfl,rfl,IntMulOk.of_right (intBits_le_64 (by decide) (by decide)),_,_,rfl,rfl,(by show(0:Int)<2147483647;decide),nx _ _ (Int.emod_nonneg _ (by decide)) s5⟩
    intro n H5 n0 s5;refine hB _ _ ?_;clear hB;have hR5:=s5 _ _ hR4;have pr5:=Yv s5 pr4;refine JP fun B_ hB=> ?_
    suffices nx:∀(L:Addr) (ys:List Str) (m:Int) (H6:Hp),ZJ H5 H6->H6 L=some (.lst (ys.map V.str))->Zbr rs ys m->B_ [some (.ref a),some (.ref R),some (.str (Xj rs)),some (.int (0+(i:Int))),some (.int n),some (.ref L),some (.int m),v7,none] H6 by
     refine⟨_,rfl,_,rfl,R,es,rs,n,rfl,hR5,pr5,bk,lr,n0,fun t L ys m H6 s6 ht hL sp=> ?_⟩;exact⟨t,_,rfl,SqT.of ht,rfl,_,_,rfl,_,_,rfl,rfl,nx L ys m H6 s6 hL sp⟩
    intro L ys m H6 s6 hL sp;refine hB _ _ ?_;clear hB;refine JP fun B_ hB=> ?_
    suffices nx:∀(L:Addr) (ys:List Str) (v7:Option V) (H7:Hp),ZJ H6 H7->H7 L=some (.lst (ys.map V.str))->Zr3 rs ys m->B_ [some (.ref a),some (.ref R),some (.str (Xj rs)),some (.int (0+(i:Int))),some (.int n),some (.ref L),some (.int m),v7,none] H7 by
     refine(vI rfl ⟨by decide,by decide⟩ ⟨_,_,rfl,rfl,(by show(0:Int)<2;decide),rfl,_,rfl,Xg (fun e=> ?_) (fun e=>nx L ys v7 H6 (ZJ.refl _) hL (Zr4 sp lr))⟩)
     have many:=sp.many;obtain⟨b,hb,eb⟩:∃b:Nat,m<=(b:Int)/\m+n/18%(1+(ys.length:Int)-m)=(b:Int):=by
      obtain⟨j,y,zs,em,hj,ey,_⟩:=sp.ex;have lj:j+1<=ys.length:=by rw[ey,List.length_append,List.length_map,List.length_take,List.length_cons];omega
      have m0:=Int.emod_nonneg (n/18) (show 1+(ys.length:Int)-m≠0 by omega);exact⟨(m+n/18%(1+(ys.length:Int)-m)).toNat,by omega,by omega⟩
     have pos:(0:Int)<1+(ys.length:Int)-m:=by
      obtain⟨j,y,zs,em,hj,ey,_⟩:=sp.ex;have lj:j+1<=ys.length:=by rw[ey,List.length_append,List.length_map,List.length_take,List.length_cons];omega
      omega
     refine JP fun B2 hB2=> ?_
     suffices nx2:B2 [some (.ref a),some (.ref R),some (.str (Xj rs)),some (.int (0+(i:Int))),some (.int n),some (.ref L),some (.int m),some (.int (b:Int)),none] H6 by
      refine⟨_,rfl,(vI rfl ⟨by decide,by decide⟩ ⟨_,rfl,_,_,rfl,.inl ⟨_,SqL.of hL,rfl⟩,_,_,rfl,rfl,_,rfl,_,_,rfl,rfl,_,_,rfl,rfl,(by show(0:Int)<1+(((ys.map V.str).length:Nat):Int)-m;rw[List.length_map];exact pos),_,_,rfl,rfl, ?_⟩)⟩
      show B2 [some (.ref a),some (.ref R),some (.str (Xj rs)),some (.int (0+(i:Int))),some (.int n),some (.ref L),some (.int m),some (.int (m+n/18%(1+(((ys.map V.str).length:Nat):Int)-m))),none] H6;rw[List.length_map,eb];exact nx2
     refine hB2 _ _ ?_;clear hB2;refine⟨_,rfl,_,rfl,_,rfl,L,_,rfl,SqL.of hL,fun A1 hA1=> ?_⟩;rw[ZlH,<-List.map_take];have d4:=Zd hA1 (o:=.lst ((ys.take b).map V.str)) _ _ hL;have q4:=Zd hA1 (o:=.lst ((ys.take b).map V.str));have a4:upd H6 A1 (.lst ((ys.take b).map V.str)) A1=some (.lst ((ys.take b).map V.str)):=Zc;generalize upd H6 A1 (.lst ((ys.take b).map V.str))=Z4 at d4 q4 a4⊢
     refine(vI rfl ⟨by decide,by decide⟩ ⟨Nat.zero_le _,fun E_ hE=>⟨_,E_,[],rfl,Zc,(fun _ h=>nomatch h),by decide,fun x Z5 q5 ox=> ?_⟩⟩);have q5:=(Zd hE).trans q5;have d5:=q5 _ _ d4;have a5:=q5 _ _ a4;have q5:=q4.trans q5;clear d4 a4 q4 hE;refine⟨(by show 1<=sizeLine;omega),fun T_ hT=>⟨A1,T_,_,_,rfl,rfl,SqL.of (Zd hT _ _ a5),SqL.of Zc,(by simp only [List.length_map,List.length_take,List.length_cons,List.length_nil];omega),fun L1 hL1=> ?_⟩⟩
     have d6:=Zd hL1 (o:=.lst ((ys.take b).map V.str++[V.str x])) _ _ (Zd hT (o:=.lst [V.str x]) _ _ d5);have q6:=q5.trans ((Zd hT (o:=.lst [V.str x])).trans (Zd hL1 (o:=.lst ((ys.take b).map V.str++[V.str x]))));have a6:upd (upd Z5 T_ (.lst [V.str x])) L1 (.lst ((ys.take b).map V.str++[V.str x])) L1=some (.lst ((ys.take b).map V.str++[V.str x])):=Zc;generalize upd (upd Z5 T_ (.lst [V.str x])) L1 (.lst ((ys.take b).map V.str++[V.str x]))=Z6 at d6 q6 a6⊢
     refine⟨_,rfl,_,rfl,_,rfl,L,_,rfl,SqL.of d6,fun A2 hA2=> ?_⟩;rw[Zf1,<-List.map_drop];refine⟨L1,A2,_,_,rfl,rfl,SqL.of (Zd hA2 _ _ a6),SqL.of Zc,(by simp only [List.length_map,List.length_append,List.length_take,List.length_drop,List.length_cons,List.length_nil];omega),fun L2 hL2=> ?_⟩
     refine nx L2 (ys.take b++[x]++ys.drop b) _ _ (q6.trans ((Zd hA2).trans (Zd hL2))) (Zc.trans (congrArg (fun z=>some (HO.lst z)) ?_)) (Zr5 sp lr ox hb);simp only [List.map_append]
     rfl
    intro L ys v7 H7 s7 hL td;refine hB _ _ ?_;clear hB;obtain⟨qs,y,rfl,t1,t2,t3,t4,t5,t6,t7,t8⟩:=ZnI bk lr td;refine⟨rfl,_,rfl,_,L,ys,rfl,rfl,SqL.of hL,ZpJ (fun y hy=>(td.lines y hy).len) td.many, ?_⟩;refine⟨_,qs,y,rfl,t1,t2,t3,t4,t5,t6,t7,t8,fun e d H8 s8 he hd=>⟨_,rfl,e,d,_,rfl,he,hd,fun H9 s9=>⟨_,rfl,Zal ?_⟩⟩⟩;exact⟨_,_,_,_,_,rfl,s4.trans (s5.trans (s6.trans (s7.trans (s8.trans s9))))⟩
   ·obtain⟨v3,v4,v5,v6,v7,rfl,s4⟩:=h;exact nx v3 v4 v5 v6 v7 H4 s4
  intro v3 v4 v5 v6 v7 H4 s4;refine hB _ _ ?_;clear hB;obtain⟨ls,lb,ll,e9⟩:=Zr8;obtain⟨g1,g2,g3,g4⟩:=ZmA lb ll;have gl:=Zbt lb;refine JP fun B_ hB=> ?_
  suffices nx:B_ [some (.ref a),some (.ref R),some (.str (Xj rs)),v3,v4,v5,v6,v7,some (.str (Xj ls))] H4 by
   rw[e9] at nx
   refine⟨_,30,rfl,rfl,by decide,by decide,ZkF.1,ZkF.2,_,_,rfl,rfl,(Nat.le_trans ZmD.1 (by omega)),_,_,rfl,rfl,(Nat.le_trans ZmD.2 (by omega)),nx⟩
  refine hB _ _ ?_;clear hB e9;refine⟨_,rfl,_,ls,rfl,g1,g2,g3,fun h=>⟨(g4 h).1,(g4 h).2.1,(g4 h).2.2.1,fun y hy=>(g4 h).2.2.2 _ y hy⟩,fun _ B H5 hB s5 bat=> ?_⟩;refine⟨B,ls,rfl,bat,gl,g2,fun H6 s6=>⟨_,rfl,rfl, ?_⟩⟩;refine⟨true,by rw[decide_eq_true rfl],JS ?_⟩;refine⟨_,rfl,_,rs,rfl,k1,k2,k3,fun h=>⟨(k4 h).1,(k4 h).2.1,(k4 h).2.2.1,fun y hy=>(k4 h).2.2.2 _ y hy⟩,fun _ B H7 hB s7 bat=> ?_⟩;refine⟨B,rs,rfl,bat,good,k2,fun H8 s8=>⟨_,rfl,rfl, ?_⟩⟩
  exact Zfp (fin H8) (by rw[decide_eq_true rfl])
end
def Gd(K:PySem.W.Frag)(x:Str)(st:Stmt):Prop:=∃A fd,PySem.W.nsIn K mainGlobals x=some (some (.ref A))/\Fun K x x st A fd
def Md(K:PySem.W.Frag)(C:Addr)(x q:Str)(st:Stmt):Prop:=∃A fd,PySem.W.findIn K (.ref C) x=some (some (.ref A))/\PySem.W.isFn K (.ref A)=true/\Fun K x q st A fd
def Xd(K:PySem.W.Frag)(N:Addr)(x q:Str)(st:Stmt):Prop:=∃A oc od fd sl,PySem.W.nsIn K N x=some (some (.ref A))/\K.lookup A=some ⟨oc,od,.func fd,sl⟩/\oc=.type "function"/\Fun K x q st A fd
theorem all_mk{l:PySem.W.OpenLaw}{w:World}{K:PySem.W.Frag}{h:Heap}{mg:Str->Option Value}{fa:Addr}{A_law:Addr}{oc_law kV_law dc_law pm_law cd_law ct_law:Value}{od_law an_law:Option Addr}{sl_law:Array (Option Value)}{Zj:Addr}{Zg:Addr}{Zh:Addr}{Zb:Addr}{Zm:Addr}{ZL:Addr}{Zn:Addr}{Zo:Addr}{Zq:Addr}{Zi:Addr}{Zy:Addr}{Zv:Addr}{Zz:Addr}{ZD:Addr}{ZG:Addr}{ZM:Addr}{t_YEAR_DAYS:Tok}{t_MONTH_DAYS:Tok}{t_MOST_FIGURES:Tok}{t_MOST_LETTERS:Tok}{t_FIGURES:Tok}{x_FIGURES:Str}{t_LETTERS:Tok}{x_LETTERS:Str}{t_MOST_WORDS:Tok}{t_MOST_CLAUSES:Tok}{N_NoLength:Addr}{nm_NoLength qn_NoLength:Str}{bs_NoLength sb_NoLength:List Value}{ZkG ab_NoLength:Bool}{sn_NoLength:List Str}{co_NoLength:Option Bool}{dd_NoLength:Option Addr}{k0_NoLength k1_NoLength k2_NoLength k3_NoLength k5_NoLength:Option Value}{nc_NoLength:Value}{nd_NoLength:Option Addr}{ZfT:Array DictEntry}{np_NoLength:Nat}{nl_NoLength:Array (Option Value)}{N_NoTerm:Addr}{nm_NoTerm qn_NoTerm:Str}{bs_NoTerm sb_NoTerm:List Value}{ZnJ ab_NoTerm:Bool}{sn_NoTerm:List Str}{co_NoTerm:Option Bool}{dd_NoTerm:Option Addr}{k0_NoTerm k1_NoTerm k2_NoTerm k3_NoTerm k5_NoTerm:Option Value}{nc_NoTerm:Value}{nd_NoTerm:Option Addr}{Ziz:Array DictEntry}{np_NoTerm:Nat}{nl_NoTerm:Array (Option Value)}{N_TooWide:Addr}{nm_TooWide qn_TooWide:Str}{bs_TooWide sb_TooWide:List Value}{ZlI ab_TooWide:Bool}{sn_TooWide:List Str}{co_TooWide:Option Bool}{dd_TooWide:Option Addr}{k0_TooWide k1_TooWide k2_TooWide k3_TooWide k5_TooWide:Option Value}{nc_TooWide:Value}{nd_TooWide:Option Addr}{Zht:Array DictEntry}{np_TooWide:Nat}{nl_TooWide:Array (Option Value)}{N_NoBook:Addr}{nm_NoBook qn_NoBook:Str}{bs_NoBook sb_NoBook:List Value}{ZnK ab_NoBook:Bool}{sn_NoBook:List Str}{co_NoBook:Option Bool}{dd_NoBook:Option Addr}{k0_NoBook k1_NoBook k2_NoBook k3_NoBook k5_NoBook:Option Value}{nc_NoBook:Value}{nd_NoBook:Option Addr}{ZiA:Array DictEntry}{np_NoBook:Nat}{nl_NoBook:Array (Option Value)}{N_HallError:Addr}{nm_HallError qn_HallError:Str}{bs_HallError sb_HallError:List Value}{Zjz ab_HallError:Bool}{sn_HallError:List Str}{co_HallError:Option Bool}{dd_HallError:Option Addr}{k0_HallError k1_HallError k2_HallError k3_HallError k5_HallError:Option Value}{nc_HallError:Value}{nd_HallError:Option Addr}{Zf7:Array DictEntry}{np_HallError:Nat}{nl_HallError:Array (Option Value)}
  (X:K.In h)(G:h.Ns mainGlobals mg)(hfa:mg "law"=some (.ref fa))
  (J7:Gd K "is_made_of" Zcp)
  (Z06:Gd K "is_number" Zdf)
  (Z1:Gd K "days_of_letter" Za0)
  (Y9:Gd K "length_read" Zbw)
  (Y0:Gd K "length_shown" ZaY)
  (Z0i:Gd K "is_name" Zfm)
  (Z0F:Gd K "never" Zjb)
  (Z0G:Gd K "after" Zjc)
  (Z0H:Gd K "later" Zjd)
  (Z0j:Gd K "earlier" Zfn)
  (Z07:Gd K "term_read" Zdg)
  (J8:Gd K "word_taken" Zcq)
  (Y8:Gd K "part_taken" Zcr)
  (J9:Gd K "kind_taken" Zcs)
  (Y4:Gd K "length_taken" ZaZ)
  (Z0a:Gd K "is_below" Zem)
  (Z0b:Gd K "place_of" Zen)
  (Z0x:Gd K "least" Zje)
  (Z0k:Gd K "thinned" Zfo)
  (Z00:Gd K "all_joined" Zct)
  (Z0u:Gd K "joined" ZgS)
  (Z08:Gd K "book_read" Zdh)
  (X3:Gd K "series_read" Zbx)
  (X4:Gd K "series_term" Zby)
  (Z01:Gd K "book_shown" Zcu)
  (Y5:Gd K "series_shown" Zb0)
  (Z09:Gd K "_law_whole" Zdi)
  (X5:Gd K "_law_cell_at" Zbz)
  (X6:Gd K "_law_name_by" ZbA)
  (Z02:Gd K "_law_length" Zcv)
  (Z2:Gd K "_law_term_text" Zao)
  (Z3:Gd K "_law_book_rows" Zap)
  (Y6:Gd K "_law_row_text" Zb1)
  (Z0c:Gd K "_law_wide" Zeo)
  (X7:Gd K "_law_odd_row" ZbB)
  (X8:Gd K "_law_spoiled" ZbC)
  (J0:Gd K "_law_told_of" ZbD)
  (J6:Gd K "_law_refused" ZbE)
  (Z1c:PySem.W.nsIn K mainGlobals "law"=some (some (.ref A_law)))
  (l_law:K.lookup A_law=some ⟨oc_law,od_law,.func (PySem.W.fnOf "law" "law" (ZdL ZeP) (ZaB ZeP) (ZF ZeP) .none kV_law dc_law pm_law an_law cd_law ct_law),sl_law⟩)
  (cd_law':PySem.W.codeIn K cd_law "law"=true)
  (k_law:PySem.W.keepIn K (.ref A_law)=true)
  (Z0X:PySem.W.nsIn K mainGlobals "Never"=some (some (.ref Zj)))
  (Z0I:PySem.W.nsIn K mainGlobals "After"=some (some (.ref Zg)))
  (Z0J:PySem.W.nsIn K mainGlobals "Later"=some (some (.ref Zh)))
  (Z0l:PySem.W.nsIn K mainGlobals "Earlier"=some (some (.ref Zb)))
  (Z0m:PySem.W.nsIn K mainGlobals "HallError"=some (some (.ref Zm)))
  (Z0Y:PySem.W.nsIn K mainGlobals "NoDay"=some (some (.ref ZL)))
  (Z0f:PySem.W.nsIn K mainGlobals "NoLength"=some (some (.ref Zn)))
  (Z0y:PySem.W.nsIn K mainGlobals "NoTerm"=some (some (.ref Zo)))
  (Z0n:PySem.W.nsIn K mainGlobals "TooWide"=some (some (.ref Zq)))
  (Z0z:PySem.W.nsIn K mainGlobals "NoBook"=some (some (.ref Zi)))
  (Z0v:PySem.W.nsIn K mainGlobals "PutTwice"=some (some (.ref Zy)))
  (Z0o:PySem.W.nsIn K mainGlobals "HeldTwice"=some (some (.ref Zv)))
  (Z0w:PySem.W.nsIn K mainGlobals "NoSeries"=some (some (.ref Zz)))
  (Z0A:PySem.W.nsIn K mainGlobals "RunBack"=some (some (.ref ZD)))
  (Z0W:PySem.W.nsIn K mainGlobals "Unlike"=some (some (.ref ZG)))
  (Z0Z:PySem.W.nsIn K mainGlobals "NoRow"=some (some (.ref ZM)))
  (Z0K:PySem.W.plainGet K Zj Str.empty=true)
  (Z0L:PySem.W.hasDictIn K Zj=true)
  (Z0M:PySem.W.plainOver K Zj=true)
  (Z0N:PySem.W.findIn K (.ref Zj) "__setattr__"=some (some (.builtin "object.__setattr__")))
  (Z10:PySem.W.makesIn K Zj=true)
  (Z11:PySem.W.keepIn K (.ref Zj)=true)
  (in_Never:PySem.W.findIn K (.ref Zj) "__init__"=some (some (.builtin "object.__init__")))
  (Z12:PySem.W.findIn K (.ref Zj) "__class__"=some (some (.builtin "object.__class__")))
  (Z13:PySem.W.mroIn K Zj (.type "object")=some true)
  (Z0O:PySem.W.plainGet K Zg Str.empty=true)
  (Z0P:PySem.W.hasDictIn K Zg=true)
  (Z0Q:PySem.W.plainOver K Zg=true)
  (Z0R:PySem.W.findIn K (.ref Zg) "__setattr__"=some (some (.builtin "object.__setattr__")))
  (Z14:PySem.W.makesIn K Zg=true)
  (Z15:PySem.W.keepIn K (.ref Zg)=true)
  (Z03:Md K Zg "__init__" "After.__init__" Zcw)
  (Z0g:PySem.W.findIn K (.ref Zg) "kind"=some none)
  (Z0h:PySem.W.findIn K (.ref Zg) "days"=some none)
  (Z16:PySem.W.findIn K (.ref Zg) "__class__"=some (some (.builtin "object.__class__")))
  (Z17:PySem.W.mroIn K Zg (.type "object")=some true)
  (Z0S:PySem.W.plainGet K Zh Str.empty=true)
  (Z0T:PySem.W.hasDictIn K Zh=true)
  (Z0U:PySem.W.plainOver K Zh=true)
  (Z0V:PySem.W.findIn K (.ref Zh) "__setattr__"=some (some (.builtin "object.__setattr__")))
  (Z18:PySem.W.makesIn K Zh=true)
  (Z19:PySem.W.keepIn K (.ref Zh)=true)
  (Z04:Md K Zh "__init__" "Pair.__init__" Zbo)
  (Z0p:PySem.W.findIn K (.ref Zh) "one"=some none)
  (Z0d:PySem.W.findIn K (.ref Zh) "other"=some none)
  (Z1a:PySem.W.findIn K (.ref Zh) "__class__"=some (some (.builtin "object.__class__")))
  (Z1b:PySem.W.mroIn K Zh (.type "object")=some true)
  (Z0q:PySem.W.plainGet K Zb Str.empty=true)
  (Z0r:PySem.W.hasDictIn K Zb=true)
  (Z0s:PySem.W.plainOver K Zb=true)
  (Z0t:PySem.W.findIn K (.ref Zb) "__setattr__"=some (some (.builtin "object.__setattr__")))
  (Z0B:PySem.W.makesIn K Zb=true)
  (Z0C:PySem.W.keepIn K (.ref Zb)=true)
  (Y7:Md K Zb "__init__" "Pair.__init__" Zbo)
  (Z0e:PySem.W.findIn K (.ref Zb) "one"=some none)
  (Z05:PySem.W.findIn K (.ref Zb) "other"=some none)
  (Z0D:PySem.W.findIn K (.ref Zb) "__class__"=some (some (.builtin "object.__class__")))
  (Z0E:PySem.W.mroIn K Zb (.type "object")=some true)
  (hn:PySem.W.specialIn K (.builtin "object.__class__") "__get__"=some (some (.builtin "getset_descriptor.__get__")))
  (htk:PySem.W.takesIn K (.builtin "object.__class__")=some true)
  (Z7:Md K Zj "shown" "Never.shown" ZbF)
  (Z8:Md K Zg "shown" "After.shown" ZbG)
  (Z9:Md K Zh "shown" "Later.shown" ZbH)
  (Z0:Md K Zb "shown" "Earlier.shown" Zaq)
  (g_YEAR_DAYS:PySem.W.nsIn K mainGlobals "YEAR_DAYS"=some (some (.int 360 t_YEAR_DAYS)))
  (g_MONTH_DAYS:PySem.W.nsIn K mainGlobals "MONTH_DAYS"=some (some (.int 30 t_MONTH_DAYS)))
  (g_MOST_FIGURES:PySem.W.nsIn K mainGlobals "MOST_FIGURES"=some (some (.int 40 t_MOST_FIGURES)))
  (g_MOST_LETTERS:PySem.W.nsIn K mainGlobals "MOST_LETTERS"=some (some (.int 12 t_MOST_LETTERS)))
  (g_FIGURES:PySem.W.nsIn K mainGlobals "FIGURES"=some (some (.str x_FIGURES t_FIGURES)))
  (e_FIGURES:x_FIGURES=YS)
  (g_LETTERS:PySem.W.nsIn K mainGlobals "LETTERS"=some (some (.str x_LETTERS t_LETTERS)))
  (e_LETTERS:x_LETTERS=Za1)
  (g_MOST_WORDS:PySem.W.nsIn K mainGlobals "MOST_WORDS"=some (some (.int 61 t_MOST_WORDS)))
  (g_MOST_CLAUSES:PySem.W.nsIn K mainGlobals "MOST_CLAUSES"=some (some (.int 40 t_MOST_CLAUSES)))
  (xl_NoLength:K.lookup Zn=some (excClassObj nm_NoLength qn_NoLength Zn N_NoLength bs_NoLength [.ref Zm,.type "ValueError",.type "Exception",.type "BaseException",.type "object"] ZkG sn_NoLength sb_NoLength ab_NoLength co_NoLength dd_NoLength k0_NoLength k1_NoLength k2_NoLength k3_NoLength k5_NoLength "ValueError.__new__"))
  (xN_NoLength:K.lookup N_NoLength=some ⟨nc_NoLength,nd_NoLength,.dict ZfT np_NoLength,nl_NoLength⟩)
  (xe_NoLength:ZdQ ZfT=true)
  (xi_NoLength:PySem.W.nsIn K N_NoLength "__init__"=some none)
  (xl_NoTerm:K.lookup Zo=some (excClassObj nm_NoTerm qn_NoTerm Zo N_NoTerm bs_NoTerm [.ref Zm,.type "ValueError",.type "Exception",.type "BaseException",.type "object"] ZnJ sn_NoTerm sb_NoTerm ab_NoTerm co_NoTerm dd_NoTerm k0_NoTerm k1_NoTerm k2_NoTerm k3_NoTerm k5_NoTerm "ValueError.__new__"))
  (xN_NoTerm:K.lookup N_NoTerm=some ⟨nc_NoTerm,nd_NoTerm,.dict Ziz np_NoTerm,nl_NoTerm⟩)
  (xe_NoTerm:ZdQ Ziz=true)
  (xi_NoTerm:PySem.W.nsIn K N_NoTerm "__init__"=some none)
  (xl_TooWide:K.lookup Zq=some (excClassObj nm_TooWide qn_TooWide Zq N_TooWide bs_TooWide [.ref Zm,.type "ValueError",.type "Exception",.type "BaseException",.type "object"] ZlI sn_TooWide sb_TooWide ab_TooWide co_TooWide dd_TooWide k0_TooWide k1_TooWide k2_TooWide k3_TooWide k5_TooWide "ValueError.__new__"))
  (xN_TooWide:K.lookup N_TooWide=some ⟨nc_TooWide,nd_TooWide,.dict Zht np_TooWide,nl_TooWide⟩)
  (xe_TooWide:ZdQ Zht=true)
  (xi_TooWide:PySem.W.nsIn K N_TooWide "__init__"=some none)
  (xl_NoBook:K.lookup Zi=some (excClassObj nm_NoBook qn_NoBook Zi N_NoBook bs_NoBook [.ref Zm,.type "ValueError",.type "Exception",.type "BaseException",.type "object"] ZnK sn_NoBook sb_NoBook ab_NoBook co_NoBook dd_NoBook k0_NoBook k1_NoBook k2_NoBook k3_NoBook k5_NoBook "ValueError.__new__"))
  (xN_NoBook:K.lookup N_NoBook=some ⟨nc_NoBook,nd_NoBook,.dict ZiA np_NoBook,nl_NoBook⟩)
  (xe_NoBook:ZdQ ZiA=true)
  (xi_NoBook:Xd K N_NoBook "__init__" "NoBook.__init__" Za7)
  (xl_HallError:K.lookup Zm=some (excClassObj nm_HallError qn_HallError Zm N_HallError bs_HallError [.type "ValueError",.type "Exception",.type "BaseException",.type "object"] Zjz sn_HallError sb_HallError ab_HallError co_HallError dd_HallError k0_HallError k1_HallError k2_HallError k3_HallError k5_HallError "ValueError.__new__"))
  (xN_HallError:K.lookup N_HallError=some ⟨nc_HallError,nd_HallError,.dict Zf7 np_HallError,nl_HallError⟩)
  (xe_HallError:ZdQ Zf7=true)
  (xi_HallError:PySem.W.nsIn K N_HallError "__init__"=some none)
  (xd1_NoBook:PySem.W.findIn K (.ref Zi) "row"=some none)
  (xd2_NoBook:PySem.W.hasDictIn K Zi=true)
  (xd3_NoBook:PySem.W.findIn K (.ref Zi) "__setattr__"=some (some (.builtin "object.__setattr__")))
  (xk_NoLength:(PySem.W.kitCls K (.ref Zn) (.ref Zn)).isSome=true)
  (xg_NoLength:PySem.W.findIn K (.ref Zn) "__getattribute__"=some (some (.builtin "BaseException.__getattribute__")))
  (xh_NoLength:PySem.W.findIn K (.ref Zn) "__getattr__"=some none)
  (xs_NoLength:PySem.W.findIn K (.ref Zn) "__class__"=some (some (.builtin "object.__class__")))
  (xo_NoLength:PySem.W.mroIn K Zn (.type "object")=some true)
  (xb_NoLength:PySem.W.subIn K (.ref Zn) (.type "BaseException")=some true)
  (xk_NoTerm:(PySem.W.kitCls K (.ref Zo) (.ref Zo)).isSome=true)
  (xg_NoTerm:PySem.W.findIn K (.ref Zo) "__getattribute__"=some (some (.builtin "BaseException.__getattribute__")))
  (xh_NoTerm:PySem.W.findIn K (.ref Zo) "__getattr__"=some none)
  (xs_NoTerm:PySem.W.findIn K (.ref Zo) "__class__"=some (some (.builtin "object.__class__")))
  (xo_NoTerm:PySem.W.mroIn K Zo (.type "object")=some true)
  (xb_NoTerm:PySem.W.subIn K (.ref Zo) (.type "BaseException")=some true)
  (xk_TooWide:(PySem.W.kitCls K (.ref Zq) (.ref Zq)).isSome=true)
  (xg_TooWide:PySem.W.findIn K (.ref Zq) "__getattribute__"=some (some (.builtin "BaseException.__getattribute__")))
  (xh_TooWide:PySem.W.findIn K (.ref Zq) "__getattr__"=some none)
  (xs_TooWide:PySem.W.findIn K (.ref Zq) "__class__"=some (some (.builtin "object.__class__")))
  (xo_TooWide:PySem.W.mroIn K Zq (.type "object")=some true)
  (xb_TooWide:PySem.W.subIn K (.ref Zq) (.type "BaseException")=some true)
  (xk_NoBook:(PySem.W.kitCls K (.ref Zi) (.ref Zi)).isSome=true)
  (xg_NoBook:PySem.W.findIn K (.ref Zi) "__getattribute__"=some (some (.builtin "BaseException.__getattribute__")))
  (xh_NoBook:PySem.W.findIn K (.ref Zi) "__getattr__"=some none)
  (xs_NoBook:PySem.W.findIn K (.ref Zi) "__class__"=some (some (.builtin "object.__class__")))
  (xo_NoBook:PySem.W.mroIn K Zi (.type "object")=some true)
  (xb_NoBook:PySem.W.subIn K (.ref Zi) (.type "BaseException")=some true)
  (f_k_Never_After:PySem.W.kitOne K (.ref Zj) (.ref Zg)=some false)
  (f_k_Never_Earlier:PySem.W.kitOne K (.ref Zj) (.ref Zb)=some false)
  (f_k_Never_Later:PySem.W.kitOne K (.ref Zj) (.ref Zh)=some false)
  (f_k_After_After:PySem.W.kitOne K (.ref Zg) (.ref Zg)=some true)
  (f_k_After_Earlier:PySem.W.kitOne K (.ref Zg) (.ref Zb)=some false)
  (f_k_After_Later:PySem.W.kitOne K (.ref Zg) (.ref Zh)=some false)
  (f_k_Later_After:PySem.W.kitOne K (.ref Zh) (.ref Zg)=some false)
  (f_k_Later_Earlier:PySem.W.kitOne K (.ref Zh) (.ref Zb)=some false)
  (f_k_Later_Later:PySem.W.kitOne K (.ref Zh) (.ref Zh)=some true)
  (f_k_Earlier_After:PySem.W.kitOne K (.ref Zb) (.ref Zg)=some false)
  (f_k_Earlier_Earlier:PySem.W.kitOne K (.ref Zb) (.ref Zb)=some true)
  (f_k_Earlier_Later:PySem.W.kitOne K (.ref Zb) (.ref Zh)=some false)
  (f_xm_n:PySem.W.exmOne K (.ref Zn) (.ref Zn)=some true)
  (f_xm_t:PySem.W.exmAny K (.ref Zo) [.ref Zo,.ref Zq]=some true)
  (f_xm_w:PySem.W.exmAny K (.ref Zq) [.ref Zo,.ref Zq]=some true)
  (f_xm_b:PySem.W.exmOne K (.ref Zi) (.ref Zm)=some true)
  (f_rd_base:PySem.W.readsIn K Zm (.type "type")=true)
  (f_ga_base:PySem.W.specialIn K (.ref Zm) "__getattribute__"=some (some (.builtin "type.__getattribute__")))
  (f_fi_base:PySem.W.findCls K (.ref Zm) (.type "type") "__init__"=some (.val (.builtin "ValueError.__init__")))
  (f_i_b_ve:PySem.W.kitOne K (.ref Zi) (.type "ValueError")=some true)
  (f_i_b_NoBook:PySem.W.kitOne K (.ref Zi) (.ref Zi)=some true)
  (f_i_b_others:PySem.W.kitAny K (.ref Zi) [.ref Zv,.ref ZL,.ref Zn,.ref ZM,.ref Zz,.ref Zo,.ref Zy,.ref ZD,.ref Zq,.ref ZG]=some false)
  (z_ValueError:PySem.W.nsIn K mainGlobals "ValueError"=some none)
  (z_all:PySem.W.nsIn K mainGlobals "all"=some none)
  (z_any:PySem.W.nsIn K mainGlobals "any"=some none)
  (z_bool:PySem.W.nsIn K mainGlobals "bool"=some none)
  (z_dict:PySem.W.nsIn K mainGlobals "dict"=some none)
  (z_enumerate:PySem.W.nsIn K mainGlobals "enumerate"=some none)
  (z_int:PySem.W.nsIn K mainGlobals "int"=some none)
  (z_isinstance:PySem.W.nsIn K mainGlobals "isinstance"=some none)
  (z_len:PySem.W.nsIn K mainGlobals "len"=some none)
  (z_list:PySem.W.nsIn K mainGlobals "list"=some none)
  (z_max:PySem.W.nsIn K mainGlobals "max"=some none)
  (z_range:PySem.W.nsIn K mainGlobals "range"=some none)
  (z_reversed:PySem.W.nsIn K mainGlobals "reversed"=some none)
  (z_sorted:PySem.W.nsIn K mainGlobals "sorted"=some none)
  (z_str:PySem.W.nsIn K mainGlobals "str"=some none)
  (kib:PySem.W.kitOne K (.type "int") (.type "bool")=some false)
  (kii:PySem.W.kitOne K (.type "int") (.type "int")=some true)
  (ne_Never_After:Zj≠Zg)
  (ne_Never_Later:Zj≠Zh)
  (ne_Never_Earlier:Zj≠Zb)
  (ne_After_Later:Zg≠Zh)
  (ne_After_Earlier:Zg≠Zb)
  (ne_Later_Earlier:Zh≠Zb)
  :∃fd:FuncData,(∀(s:Shared) (v:Value),BindsTo s fd ⟨[v],[]⟩ [("_law_script",v)])/\∀base:Heap,K.In base->base.Ns mainGlobals mg->Yo l.prog w K mg base CX0 75 fa fd ["_law_script"] (Zof K):=by
 have e:=hfa.symm.trans (PySem.W.mg_of X G Z1c);cases e;subst e_FIGURES;subst e_LETTERS;have T:Txt K mg t_YEAR_DAYS t_MONTH_DAYS t_MOST_FIGURES t_MOST_LETTERS t_FIGURES t_LETTERS t_MOST_WORDS t_MOST_CLAUSES Zj Zg Zh Zb Zm ZL Zn Zo Zq Zi Zy Zv Zz ZD ZG ZM:=⟨PySem.W.mg_of X G g_YEAR_DAYS,PySem.W.mg_of X G g_MONTH_DAYS,PySem.W.mg_of X G g_MOST_FIGURES,PySem.W.mg_of X G g_MOST_LETTERS,PySem.W.mg_of X G g_FIGURES,PySem.W.mg_of X G g_LETTERS,PySem.W.mg_of X G g_MOST_WORDS,PySem.W.mg_of X G g_MOST_CLAUSES,PySem.W.mg_none_of X G z_ValueError,PySem.W.mg_none_of X G z_all,PySem.W.mg_none_of X G z_any,PySem.W.mg_none_of X G z_bool,PySem.W.mg_none_of X G z_dict,PySem.W.mg_none_of X G z_enumerate,PySem.W.mg_none_of X G z_int,PySem.W.mg_none_of X G z_isinstance,PySem.W.mg_none_of X G z_len,PySem.W.mg_none_of X G z_list,PySem.W.mg_none_of X G z_max,PySem.W.mg_none_of X G z_range,PySem.W.mg_none_of X G z_reversed,PySem.W.mg_none_of X G z_sorted,PySem.W.mg_none_of X G z_str,kib,kii,⟨Z0K,Z0L,Z0M,Z0N⟩,⟨⟨Z0K,Z0L,Z0M,Z0N⟩,Z12,hn,htk,Z13⟩,⟨Z0O,Z0P,Z0Q,Z0R⟩,Z0g,Z0h,⟨⟨Z0O,Z0P,Z0Q,Z0R⟩,Z16,hn,htk,Z17⟩,⟨Z0S,Z0T,Z0U,Z0V⟩,Z0p,Z0d,⟨⟨Z0S,Z0T,Z0U,Z0V⟩,Z1a,hn,htk,Z1b⟩,⟨Z0q,Z0r,Z0s,Z0t⟩,Z0e,Z05,⟨⟨Z0q,Z0r,Z0s,Z0t⟩,Z0D,hn,htk,Z0E⟩,PySem.W.mg_of X G Z0m,PySem.W.mg_of X G Z0Y,PySem.W.mg_of X G Z0f,PySem.W.mg_of X G Z0y,PySem.W.mg_of X G Z0n,PySem.W.mg_of X G Z0z,PySem.W.mg_of X G Z0v,PySem.W.mg_of X G Z0o,PySem.W.mg_of X G Z0w,PySem.W.mg_of X G Z0A,PySem.W.mg_of X G Z0W,PySem.W.mg_of X G Z0Z,PySem.W.mg_of X G Z0I,PySem.W.mg_of X G Z0l,PySem.W.mg_of X G Z0J,⟨xk_NoLength,xg_NoLength,xh_NoLength,xs_NoLength,hn,htk,xo_NoLength,xb_NoLength⟩,⟨xk_NoTerm,xg_NoTerm,xh_NoTerm,xs_NoTerm,hn,htk,xo_NoTerm,xb_NoTerm⟩,⟨xk_TooWide,xg_TooWide,xh_TooWide,xs_TooWide,hn,htk,xo_TooWide,xb_TooWide⟩,⟨xk_NoBook,xg_NoBook,xh_NoBook,xs_NoBook,hn,htk,xo_NoBook,xb_NoBook⟩,⟨xd1_NoBook,xd2_NoBook⟩,⟨xd3_NoBook,⟨_,_,by unfold PySem.W.clsIn;rw[xl_NoBook],rfl⟩,xd1_NoBook,xd2_NoBook⟩,f_k_Never_After,f_k_Never_Earlier,f_k_Never_Later,f_k_After_After,f_k_After_Earlier,f_k_After_Later,f_k_Later_After,f_k_Later_Earlier,f_k_Later_Later,f_k_Earlier_After,f_k_Earlier_Earlier,f_k_Earlier_Later,f_xm_n,f_xm_t,f_xm_w,f_xm_b,f_rd_base,f_ga_base,f_fi_base,f_i_b_ve,f_i_b_NoBook,f_i_b_others,ne_Never_After,ne_Never_Later,ne_Never_Earlier,ne_After_Later,ne_After_Earlier,ne_Later_Earlier⟩
 have Ztz:=ZiM (st:=ZeP) l_law cd_law' k_law;obtain⟨_,_,J7,ZcI⟩:=J7;obtain⟨_,_,Z06,ZdE⟩:=Z06;obtain⟨_,_,Z1,Za6⟩:=Z1;obtain⟨_,_,Y9,ZbU⟩:=Y9;obtain⟨_,_,Y0,Zbg⟩:=Y0;obtain⟨_,_,Z0i,ZfB⟩:=Z0i;obtain⟨_,_,Z0F,ZjA⟩:=Z0F;obtain⟨_,_,Z0G,ZjB⟩:=Z0G;obtain⟨_,_,Z0H,ZjC⟩:=Z0H;obtain⟨_,_,Z0j,ZfC⟩:=Z0j;obtain⟨_,_,Z07,ZdF⟩:=Z07;obtain⟨_,_,J8,ZcJ⟩:=J8;obtain⟨_,_,Y8,JR⟩:=Y8;obtain⟨_,_,J9,ZcK⟩:=J9;obtain⟨_,_,Y4,Zbh⟩:=Y4
 obtain⟨_,_,Z0a,Zey⟩:=Z0a;obtain⟨_,_,Z0b,Zez⟩:=Z0b;obtain⟨_,_,Z0x,Zf8⟩:=Z0x;obtain⟨_,_,Z0k,ZfD⟩:=Z0k;obtain⟨_,_,Z00,ZcL⟩:=Z00;obtain⟨_,_,Z0u,Zhu⟩:=Z0u;obtain⟨_,_,Z08,ZdG⟩:=Z08;obtain⟨_,_,X3,ZbV⟩:=X3;obtain⟨_,_,X4,ZbW⟩:=X4;obtain⟨_,_,Z01,ZcM⟩:=Z01;obtain⟨_,_,Y5,Zbi⟩:=Y5;obtain⟨_,_,Z09,ZdH⟩:=Z09;obtain⟨_,_,X5,ZbX⟩:=X5;obtain⟨_,_,X6,ZbY⟩:=X6;obtain⟨_,_,Z02,ZcN⟩:=Z02;obtain⟨_,_,Z2,Zax⟩:=Z2;obtain⟨_,_,Z3,Zay⟩:=Z3
 obtain⟨_,_,Y6,Zbj⟩:=Y6;obtain⟨_,_,Z0c,ZeA⟩:=Z0c;obtain⟨_,_,X7,ZbZ⟩:=X7;obtain⟨_,_,X8,Zc0⟩:=X8;obtain⟨_,_,J0,Zc1⟩:=J0;obtain⟨_,_,J6,Zc2⟩:=J6;obtain⟨_,_,Z03,ZjD,Zf9⟩:=Z03;obtain⟨_,_,Z04,ZjE,Zfa⟩:=Z04;obtain⟨_,_,Y7,Zhv,ZdI⟩:=Y7;obtain⟨_,_,Z7,Zea,Jw⟩:=Z7;obtain⟨_,_,Z8,Zeb,Jx⟩:=Z8;obtain⟨_,_,Z9,Zec,Jy⟩:=Z9;obtain⟨_,_,Z0,ZcW,XM⟩:=Z0;obtain⟨_,_,_,_,_,xi_NoBook,li_NoBook,ei_NoBook,Fi_NoBook⟩:=xi_NoBook;refine⟨PySem.W.fnOf "law" "law" (ZdL ZeP) (ZaB ZeP) (ZF ZeP) .none kV_law dc_law pm_law an_law cd_law ct_law,fun s v=> .of_eq rfl,fun base Kb _=> ?_⟩
 have o_NoLength:ZeJ "NoLength" Zn mg base:=⟨PySem.W.mg_of X G Z0f,_,_,_,_,_,_,_,_,_,_,_,_,_,_,_,_,_,Kb _ _ xl_NoLength,.of_isNs (PySem.W.isNs_of_in Kb (Xl xN_NoLength xe_NoLength)),PySem.W.nsMap_none_of_in Kb (Xl xN_NoLength xe_NoLength) xi_NoLength,.own (Kb _ _ xl_HallError) (.of_isNs (PySem.W.isNs_of_in Kb (Xl xN_HallError xe_HallError))) (PySem.W.nsMap_none_of_in Kb (Xl xN_HallError xe_HallError) xi_HallError) .base⟩
 have o_NoTerm:ZeJ "NoTerm" Zo mg base:=⟨PySem.W.mg_of X G Z0y,_,_,_,_,_,_,_,_,_,_,_,_,_,_,_,_,_,Kb _ _ xl_NoTerm,.of_isNs (PySem.W.isNs_of_in Kb (Xl xN_NoTerm xe_NoTerm)),PySem.W.nsMap_none_of_in Kb (Xl xN_NoTerm xe_NoTerm) xi_NoTerm,.own (Kb _ _ xl_HallError) (.of_isNs (PySem.W.isNs_of_in Kb (Xl xN_HallError xe_HallError))) (PySem.W.nsMap_none_of_in Kb (Xl xN_HallError xe_HallError) xi_HallError) .base⟩
 have o_TooWide:ZeJ "TooWide" Zq mg base:=⟨PySem.W.mg_of X G Z0n,_,_,_,_,_,_,_,_,_,_,_,_,_,_,_,_,_,Kb _ _ xl_TooWide,.of_isNs (PySem.W.isNs_of_in Kb (Xl xN_TooWide xe_TooWide)),PySem.W.nsMap_none_of_in Kb (Xl xN_TooWide xe_TooWide) xi_TooWide,.own (Kb _ _ xl_HallError) (.of_isNs (PySem.W.isNs_of_in Kb (Xl xN_HallError xe_HallError))) (PySem.W.nsMap_none_of_in Kb (Xl xN_HallError xe_HallError) xi_HallError) .base⟩
 have p_NoBook:Zel "NoBook" Zi _ mg base:=⟨PySem.W.mg_of X G Z0z,⟨_,_,_,_,_,_,_,_,_,_,_,_,_,_,_,_,_,Kb _ _ xl_NoBook,.of_isNs (PySem.W.isNs_of_in Kb (Xl xN_NoBook xe_NoBook)),Zsn Kb (.of_isNs (PySem.W.isNs_of_in Kb (Xl xN_NoBook xe_NoBook))) xi_NoBook,.own (Kb _ _ xl_HallError) (.of_isNs (PySem.W.isNs_of_in Kb (Xl xN_HallError xe_HallError))) (PySem.W.nsMap_none_of_in Kb (Xl xN_HallError xe_HallError) xi_HallError) .base⟩,_,Kb _ _ li_NoBook,ei_NoBook⟩
 have o_NoBook:ZoY l.prog w K mg base 1 "NoBook" Zi ["self","row"] (Xp Zi):=⟨_,_,p_NoBook,Zha Fi_NoBook T p_NoBook,Zg5 Fi_NoBook T p_NoBook,Fi_NoBook.binds (fun _ _ _ _ _ _=>Zcm fun _ _=>rfl)⟩
 have Jl:Cal l.prog w K mg base CX0 1 "is_made_of" ["text","signs"] Za8:=⟨_,_,PySem.W.mg_of X G J7,ZcI.kp,ZcI.binds (fun _ _ _ _ _ _=>Zcm fun _ _=>rfl),ZhC ZcI T⟩
 have Zdp:Cal l.prog w K mg base CX0 2 "is_number" ["text"] Zcx:=⟨_,_,PySem.W.mg_of X G Z06,ZdE.kp,ZdE.binds (fun _ _ _ _ _ _=>JB fun _=>rfl),Zjh ZdE T Jl⟩
 have Za5:Cal l.prog w K mg base CX0 1 "days_of_letter" ["letter"] JH:=⟨_,_,PySem.W.mg_of X G Z1,Za6.kp,Za6.binds (fun _ _ _ _ _ _=>JB fun _=>rfl),ZeX Za6 T⟩
 have ZbN:Cal l.prog w K mg base (CXr l.prog w) 3 "length_read" ["text"] (Zb3 Zn):=⟨_,_,PySem.W.mg_of X G Y9,ZbU.kp,ZbU.binds (fun _ _ _ _ _ _=>JB fun _=>rfl),Zh4 ZbU T o_NoLength Za5 Zdp⟩
 have Zbc:Cal l.prog w K mg base CX0 1 "length_shown" ["days"] Zar:=⟨_,_,PySem.W.mg_of X G Y0,Zbg.kp,Zbg.binds (fun _ _ _ _ _ _=>JB fun _=>rfl),Zg3 Zbg T⟩
 have ZaM:Cal l.prog w K mg base CX0 2 "is_name" ["text"] Zcz:=⟨_,_,PySem.W.mg_of X G Z0i,ZfB.kp,ZfB.binds (fun _ _ _ _ _ _=>JB fun _=>rfl),Zlu ZfB T Jl⟩
 have Zjk:Zs8 K mg "Never" Zj:=⟨PySem.W.mg_of X G Z0X,Z10,in_Never,Z11⟩
 have Zjp:Cal l.prog w K mg base CX0 1 "never" [] (ZgT Zj Zg Zh Zb):=⟨_,_,PySem.W.mg_of X G Z0F,ZjA.kp,ZjA.binds (fun _ _ _ _ _ _=>ZtU rfl),Zp9 ZjA T Zjk⟩
 have Zjl:Zl7 l.prog w K mg base CX0 1 "After" Zg ["self","kind","days"] (ZbI Zg):=⟨_,_,PySem.W.mg_of X G Z0I,⟨Z14,Z03,ZjD,Z15⟩,Zf9.binds (fun _ _ _ _ _ _=>Zqf fun _ _ _=>rfl),ZhE Zf9 T T.cl_After T.n_After_kind T.n_After_days⟩
 have Zjn:Cal l.prog w K mg base CX0 3 "after" ["kind","days"] (ZgU Zj Zg Zh Zb):=⟨_,_,PySem.W.mg_of X G Z0G,ZjB.kp,ZjB.binds (fun _ _ _ _ _ _=>Zcm fun _ _=>rfl),Zpb ZjB T Zjl⟩
 have Zjm:Zl7 l.prog w K mg base CX0 1 "Later" Zh ["self","one","other"] (JK Zh):=⟨_,_,PySem.W.mg_of X G Z0J,⟨Z18,Z04,ZjE,Z19⟩,Zfa.binds (fun _ _ _ _ _ _=>Zqf fun _ _ _=>rfl),ZeZ Zfa T T.cl_Later T.n_Later_one T.n_Later_other⟩
 have Zjo:Cal l.prog w K mg base CX0 3 "later" ["one","other"] (ZgV Zj Zg Zh Zb):=⟨_,_,PySem.W.mg_of X G Z0H,ZjC.kp,ZjC.binds (fun _ _ _ _ _ _=>Zcm fun _ _=>rfl),Zpd ZjC T Zjm⟩
 have Zfs:Zl7 l.prog w K mg base CX0 1 "Earlier" Zb ["self","one","other"] (JK Zb):=⟨_,_,PySem.W.mg_of X G Z0l,⟨Z0B,Y7,Zhv,Z0C⟩,ZdI.binds (fun _ _ _ _ _ _=>Zqf fun _ _ _=>rfl),ZeZ ZdI T T.cl_Earlier T.n_Earlier_one T.n_Earlier_other⟩
 have Zft:Cal l.prog w K mg base CX0 3 "earlier" ["one","other"] (Zeq Zj Zg Zh Zb):=⟨_,_,PySem.W.mg_of X G Z0j,ZfC.kp,ZfC.binds (fun _ _ _ _ _ _=>Zcm fun _ _=>rfl),Zlx ZfC T Zfs⟩
 have YL:Cal l.prog w K mg base (CXr l.prog w) 1 "word_taken" ["rest"] (Js Zo):=⟨_,_,PySem.W.mg_of X G J8,ZcJ.kp,ZcJ.binds (fun _ _ _ _ _ _=>JB fun _=>rfl),ZhG ZcJ T o_NoTerm⟩
 have ZcE:Cal l.prog w K mg base (CXr l.prog w) 3 "kind_taken" ["rest"] (ZbJ Zo):=⟨_,_,PySem.W.mg_of X G J9,ZcK.kp,ZcK.binds (fun _ _ _ _ _ _=>JB fun _=>rfl),ZhH ZcK T o_NoTerm ZaM YL⟩
 have Zbb:Cal l.prog w K mg base (CXr l.prog w) 4 "length_taken" ["rest"] (Zas Zo):=⟨_,_,PySem.W.mg_of X G Y4,Zbh.kp,Zbh.binds (fun _ _ _ _ _ _=>JB fun _=>rfl),Zg4 Zbh T o_NoTerm ZbN YL⟩
 have Xf:∀n,Cal l.prog w K mg base (CXr l.prog w) (4+n+1) "part_taken" ["rest"] (Jt Zj Zg Zh Zb Zo n):=fun n=>by
  induction n with
  |zero=>exact⟨_,_,PySem.W.mg_of X G Y8,JR.kp,JR.binds (fun _ _ _ _ _ _=>JB fun _=>rfl),ZdO Zg1⟩
  |succ n ih=>exact⟨_,_,PySem.W.mg_of X G Y8,JR.kp,JR.binds (fun _ _ _ _ _ _=>JB fun _=>rfl),ZhI JR T n o_NoTerm Zjn Zft ZcE Zjo Zbb Zjp ih YL⟩
 have Zdv:Cal l.prog w K mg base (CXr l.prog w) 70 "term_read" ["text"] (ZcB Zj Zg Zh Zb Zo):=⟨_,_,PySem.W.mg_of X G Z07,ZdF.kp,ZdF.binds (fun _ _ _ _ _ _=>JB fun _=>rfl),Zjq ZdF T o_NoTerm (Xf 64)⟩
 have Zeu:Cal l.prog w K mg base CX0 1 "is_below" ["one","other"] Zdl:=⟨_,_,PySem.W.mg_of X G Z0a,Zey.kp,Zey.binds (fun _ _ _ _ _ _=>Zcm fun _ _=>rfl),Zkt Zey T⟩
 have Zev:Cal l.prog w K mg base CX0 1 "place_of" ["clause"] (Zbq K):=⟨_,_,PySem.W.mg_of X G Z0b,Zez.kp,Zez.binds (fun _ _ _ _ _ _=>JB fun _=>rfl),Zkx Zez T⟩
 have Zh9:Cal l.prog w K mg base CX0 1 "joined" ["one","other"] Zfq:=⟨_,_,PySem.W.mg_of X G Z0u,Zhu.kp,Zhu.binds (fun _ _ _ _ _ _=>Zcm fun _ _=>rfl),Znq Zhu T⟩
 have ZcF:Cal l.prog w K mg base CX0 2 "all_joined" ["ones","others"] ZbK:=⟨_,_,PySem.W.mg_of X G Z00,ZcL.kp,ZcL.binds (fun _ _ _ _ _ _=>Zcm fun _ _=>rfl),ZhJ ZcL T Zh9⟩
 have ZdY:Cal l.prog w K mg base (CXr l.prog w) 4 "thinned" ["clauses"] (Zes Zq):=⟨_,_,PySem.W.mg_of X G Z0k,ZfD.kp,ZfD.binds (fun _ _ _ _ _ _=>JB fun _=>rfl),Zlz ZfD T o_TooWide Zeu Zev⟩
 have Zbs:∀n,Cal l.prog w K mg base (CXr l.prog w) (4+n+1) "least" ["term"] (Zdm Zj Zg Zh Zb Zq n):=fun n=>by
  induction n with
  |zero=>exact⟨_,_,PySem.W.mg_of X G Z0x,Zf8.kp,Zf8.binds (fun _ _ _ _ _ _=>JB fun _=>rfl),ZdO Zls⟩
  |succ n ih=>exact⟨_,_,PySem.W.mg_of X G Z0x,Zf8.kp,Zf8.binds (fun _ _ _ _ _ _=>JB fun _=>rfl),Zpn Zf8 T n ZcF ih ZdY⟩
 have Za9:Cal l.prog w K mg base (CXr l.prog w) 71 "series_term" ["words","number"] (Zb4 Zj Zg Zh Zb Zi):=⟨_,_,PySem.W.mg_of X G X4,ZbW.kp,ZbW.binds (fun _ _ _ _ _ _=>Zcm fun _ _=>rfl),Zhh ZbW T o_NoBook (Zbs 64) Zdv⟩
 have ZbP:Cal l.prog w K mg base (CXr l.prog w) 72 "series_read" ["row","number","ahead"] (Zb5 Zj Zg Zh Zb Zi):=⟨_,_,PySem.W.mg_of X G X3,ZbV.kp,ZbV.binds (fun _ _ _ _ _ _=>Zqf fun _ _ _=>rfl),Zhi ZbV T o_NoBook ZaM Za9⟩
 have Xu:Cal l.prog w K mg base (CXr l.prog w) 73 "book_read" ["text"] (ZaE Zj Zg Zh Zb Zi):=⟨_,_,PySem.W.mg_of X G Z08,ZdG.kp,ZdG.binds (fun _ _ _ _ _ _=>JB fun _=>rfl),Zjs ZdG T ZbP⟩
 have ZaG:∀n,Zov l.prog w K mg base CX0 (1+n+1) "shown" ["self"] (Jq Zj Zg Zh Zb n) (fun C=>C=Zj\/C=Zg\/C=Zh\/C=Zb):=fun n=>by
  induction n with
  |zero=>
   refine⟨fun C hC=> ?_⟩;rcases hC with hC|hC|hC|hC
   ·cases hC.symm;exact⟨T.cl_Never,_,_,⟨Z7,Zea,Jw.kp⟩,Jw.binds (fun _ _ _ _ _ _=>JB fun _=>rfl),ZdO ZcA⟩
   ·cases hC.symm;exact⟨T.cl_After,_,_,⟨Z8,Zeb,Jx.kp⟩,Jx.binds (fun _ _ _ _ _ _=>JB fun _=>rfl),ZdO ZcA⟩
   ·cases hC.symm;exact⟨T.cl_Later,_,_,⟨Z9,Zec,Jy.kp⟩,Jy.binds (fun _ _ _ _ _ _=>JB fun _=>rfl),ZdO ZcA⟩
   ·cases hC.symm;exact⟨T.cl_Earlier,_,_,⟨Z0,ZcW,XM.kp⟩,XM.binds (fun _ _ _ _ _ _=>JB fun _=>rfl),ZdO ZcA⟩
  |succ n ih=>
   refine⟨fun C hC=> ?_⟩;rcases hC with hC|hC|hC|hC
   ·cases hC.symm;exact⟨T.cl_Never,_,_,⟨Z7,Zea,Jw.kp⟩,Jw.binds (fun _ _ _ _ _ _=>JB fun _=>rfl),Zhc Jw T n⟩
   ·cases hC.symm;exact⟨T.cl_After,_,_,⟨Z8,Zeb,Jx.kp⟩,Jx.binds (fun _ _ _ _ _ _=>JB fun _=>rfl),Zhe Jx T n Zbc⟩
   ·cases hC.symm;exact⟨T.cl_Later,_,_,⟨Z9,Zec,Jy.kp⟩,Jy.binds (fun _ _ _ _ _ _=>JB fun _=>rfl),Zhg Jy T n ih⟩
   ·cases hC.symm;exact⟨T.cl_Earlier,_,_,⟨Z0,ZcW,XM.kp⟩,XM.binds (fun _ _ _ _ _ _=>JB fun _=>rfl),Zfv XM T n ih⟩
 have Zbd:Cal l.prog w K mg base CX0 67 "series_shown" ["series"] (Zat Zj Zg Zh Zb):=⟨_,_,PySem.W.mg_of X G Y5,Zbi.kp,Zbi.binds (fun _ _ _ _ _ _=>JB fun _=>rfl),Zg6 Zbi T (ZaG 64)⟩
 have JQ:Cal l.prog w K mg base CX0 68 "book_shown" ["book"] (ZbL Zj Zg Zh Zb):=⟨_,_,PySem.W.mg_of X G Z01,ZcM.kp,ZcM.binds (fun _ _ _ _ _ _=>JB fun _=>rfl),ZhL ZcM T Zbd⟩
 have Zdz:Cal l.prog w K mg base CX0 1 "_law_whole" ["_law_found"] ZcD:=⟨_,_,PySem.W.mg_of X G Z09,ZdH.kp,ZdH.binds (fun _ _ _ _ _ _=>JB fun _=>rfl),Zjv ZdH T⟩
 have Zaa:Cal l.prog w K mg base CX0 1 "_law_cell_at" ["_law_script","_law_k"] (Zb6 K):=⟨_,_,PySem.W.mg_of X G X5,ZbX.kp,ZbX.binds (fun _ _ _ _ _ _=>Zcm fun _ _=>rfl),Zh6 ZbX T⟩
 have Ja:Cal l.prog w K mg base CX0 1 "_law_name_by" ["_law_cell","_law_k"] JL:=⟨_,_,PySem.W.mg_of X G X6,ZbY.kp,ZbY.binds (fun _ _ _ _ _ _=>Zcm fun _ _=>rfl),Zhk ZbY T⟩
 have ZcG:Cal l.prog w K mg base CX0 1 "_law_length" ["_law_number"] ZbM:=⟨_,_,PySem.W.mg_of X G Z02,ZcN.kp,ZcN.binds (fun _ _ _ _ _ _=>JB fun _=>rfl),ZhM ZcN T⟩
 have Zau:Cal l.prog w K mg base CX0 2 "_law_term_text" ["_law_number","_law_names_by"] Za3:=⟨_,_,PySem.W.mg_of X G Z2,Zax.kp,Zax.binds (fun _ _ _ _ _ _=>Zcm fun _ _=>rfl),Zfy Zax T ZcG Ja⟩
 have Zaw:Cal l.prog w K mg base CX0 3 "_law_book_rows" ["_law_cells","_law_names_by"] Za4:=⟨_,_,PySem.W.mg_of X G Z3,Zay.kp,Zay.binds (fun _ _ _ _ _ _=>Zcm fun _ _=>rfl),Zfz Zay T Ja Zau⟩
 have Xq:Cal l.prog w K mg base CX0 1 "_law_row_text" ["_law_row"] Jz:=⟨_,_,PySem.W.mg_of X G Y6,Zbj.kp,Zbj.binds (fun _ _ _ _ _ _=>JB fun _=>rfl),Zg7 Zbj T⟩
 have ZcH:Cal l.prog w K mg base CX0 1 "_law_wide" ["_law_letters"] Zdo:=⟨_,_,PySem.W.mg_of X G Z0c,ZeA.kp,ZeA.binds (fun _ _ _ _ _ _=>JB fun _=>rfl),ZkC ZeA T⟩
 have Jb:Cal l.prog w K mg base CX0 2 "_law_odd_row" ["_law_number","_law_known"] JM:=⟨_,_,PySem.W.mg_of X G X7,ZbZ.kp,ZbZ.binds (fun _ _ _ _ _ _=>Zcm fun _ _=>rfl),Zhr ZbZ T ZcH⟩
 have ZbS:Cal l.prog w K mg base CX0 3 "_law_spoiled" ["_law_rows","_law_number"] Zb7:=⟨_,_,PySem.W.mg_of X G X8,Zc0.kp,Zc0.binds (fun _ _ _ _ _ _=>Zcm fun _ _=>rfl),Zhs Zc0 T Jb Xq⟩
 have ZbT:Cal l.prog w K mg base CX0 74 "_law_told_of" ["_law_text"] (Zb8 Zi):=⟨_,_,PySem.W.mg_of X G J0,Zc1.kp,Zc1.binds (fun _ _ _ _ _ _=>JB fun _=>rfl),Zhn Zc1 T Xu⟩
 have ZbR:Cal l.prog w K mg base CX0 2 "_law_refused" ["_law_told","_law_due"] (Zb9 Zi):=⟨_,_,PySem.W.mg_of X G J6,Zc2.kp,Zc2.binds (fun _ _ _ _ _ _=>Zcm fun _ _=>rfl),Zhm Zc2 T Zdz⟩
 exact ZsL Ztz T Zaw Zaa Jb ZbR Xq ZbS ZbT Xu JQ
end K22
namespace PySem.W.Fast
theorem tw7169200865252489344:0=0:=rfl
theorem tw1427144906021934240:0=0:=rfl
theorem tw10001324847480150272:0=0:=rfl
theorem tw16687328576173445376:0=0:=rfl
theorem tw11599572904998613312:0=0:=rfl
theorem tw11468264341472557408:0=0:=rfl
theorem tw17744464103049758080:0=0:=rfl
theorem tw8804747747693545952:0=0:=rfl
theorem tw13484529353936479744:0=0:=rfl
theorem tw6005037819215072864:0=0:=rfl
theorem tw16059348651447964256:0=0:=rfl
theorem tw8911682380980743808:0=0:=rfl
theorem tw9094271355945147008:0=0:=rfl
theorem tw568980729666676480:0=0:=rfl
theorem tw7699211331620865792:0=0:=rfl
theorem tw8000698129557738304:0=0:=rfl
theorem tw13655402716140413824:0=0:=rfl
theorem tw18080876880727670720:0=0:=rfl
theorem tw11803510484712900576:0=0:=rfl
theorem tw5083581414781728769:0=0:=rfl
theorem tw18215294426572028929:0=0:=rfl
theorem tw3569628519797134401:0=0:=rfl
theorem tw11117482119662598369:0=0:=rfl
theorem tw14392691090010520897:0=0:=rfl
theorem tw2538614202448192897:0=0:=rfl
theorem tw14606172090642833793:0=0:=rfl
theorem tw13123212168641298913:0=0:=rfl
theorem tw11915964194440129025:0=0:=rfl
theorem tw7424486665245564513:0=0:=rfl
theorem tw7425744814429417089:0=0:=rfl
theorem tw2173286040902383265:0=0:=rfl
theorem tw684312557625002881:0=0:=rfl
theorem tw17549545802820895617:0=0:=rfl
theorem tw10858634992155109313:0=0:=rfl
theorem tw9080390528450837506:0=0:=rfl
theorem tw12025827432696823810:0=0:=rfl
theorem tw17578218493919251490:0=0:=rfl
theorem tw3870897687407200354:0=0:=rfl
theorem tw132374786284524738:0=0:=rfl
theorem tw1401773358428583138:0=0:=rfl
theorem tw1792714534315502914:0=0:=rfl
theorem tw3688092494579218850:0=0:=rfl
theorem tw18426414112213846434:0=0:=rfl
theorem tw14734375531613871522:0=0:=rfl
theorem tw1111331750348330434:0=0:=rfl
theorem tw1838365851418994146:0=0:=rfl
theorem tw5705945036242222562:0=0:=rfl
theorem tw14341281434288007746:0=0:=rfl
theorem tw4612290329434404418:0=0:=rfl
theorem tw11532507722457439810:0=0:=rfl
theorem tw4456260043445294722:0=0:=rfl
theorem tw2687006520566268578:0=0:=rfl
theorem tw16693842954711569090:0=0:=rfl
theorem tw1946753385605711554:0=0:=rfl
theorem tw8829287203516832514:0=0:=rfl
theorem tw5312729608088464258:0=0:=rfl
theorem tw767470864364083106:0=0:=rfl
theorem tw15054362069406787587:0=0:=rfl
theorem tw13100937530321729539:0=0:=rfl
theorem tw7118740316521346147:0=0:=rfl
theorem tw6834832547619302499:0=0:=rfl
theorem tw6564942434745852035:0=0:=rfl
theorem tw5803020763419224195:0=0:=rfl
theorem tw6981657467796905123:0=0:=rfl
theorem tw5959869977808581795:0=0:=rfl
theorem tw7131367346018633923:0=0:=rfl
theorem tw4208285604917525699:0=0:=rfl
theorem tw11789883280976791875:0=0:=rfl
theorem tw13349040654604973379:0=0:=rfl
theorem tw16146914894697178467:0=0:=rfl
theorem tw17902538219700144611:0=0:=rfl
theorem tw15270055434243151363:0=0:=rfl
theorem tw4855848790931445379:0=0:=rfl
theorem tw12791101360367877763:0=0:=rfl
theorem tw14762234839941401251:0=0:=rfl
theorem tw16426661983671361251:0=0:=rfl
theorem tw16827279739710590755:0=0:=rfl
theorem tw3995587455953156931:0=0:=rfl
theorem tw428852615845701603:0=0:=rfl
theorem tw14636216507830405156:0=0:=rfl
theorem tw10830968459903771844:0=0:=rfl
theorem tw5020378476814423236:0=0:=rfl
theorem tw13182586482015563012:0=0:=rfl
theorem tw15137114848063269156:0=0:=rfl
theorem tw5885551750672773412:0=0:=rfl
theorem tw12956231072623741252:0=0:=rfl
theorem tw8599517746324027748:0=0:=rfl
theorem tw16203965251438189956:0=0:=rfl
theorem tw14894032800215499140:0=0:=rfl
theorem tw14932444419664328100:0=0:=rfl
theorem tw15307031189293755812:0=0:=rfl
theorem tw17405176225873058308:0=0:=rfl
theorem tw10513128286731431588:0=0:=rfl
theorem tw9876059527436601124:0=0:=rfl
theorem tw14495368140900348708:0=0:=rfl
theorem tw10303716071701925668:0=0:=rfl
theorem tw8487207530806596388:0=0:=rfl
theorem tw11437714288890516388:0=0:=rfl
theorem tw2600534037161620420:0=0:=rfl
theorem tw14666603293163767748:0=0:=rfl
theorem tw15588661136913995813:0=0:=rfl
theorem tw8326575879995856005:0=0:=rfl
theorem tw4974639865450161285:0=0:=rfl
theorem tw3626747044562333861:0=0:=rfl
theorem tw9317050952088296709:0=0:=rfl
theorem tw9501566649355132165:0=0:=rfl
theorem tw11692598854759368037:0=0:=rfl
theorem tw3187987825353662917:0=0:=rfl
theorem tw3356274480029792709:0=0:=rfl
theorem tw5779214759276461541:0=0:=rfl
theorem tw13373515505658784261:0=0:=rfl
theorem tw7023366030189120037:0=0:=rfl
theorem tw2378872587203541573:0=0:=rfl
theorem tw417984707625818757:0=0:=rfl
theorem tw10703415071817391749:0=0:=rfl
theorem tw7962641870495256229:0=0:=rfl
theorem tw16992162972314150565:0=0:=rfl
theorem tw15265161740748449445:0=0:=rfl
theorem tw12307807203104382661:0=0:=rfl
theorem tw11600717529019107045:0=0:=rfl
theorem tw15815437136225088261:0=0:=rfl
theorem tw6545873160283318117:0=0:=rfl
theorem tw11441817924450171781:0=0:=rfl
theorem tw5880126634595251077:0=0:=rfl
theorem tw8418678855643531237:0=0:=rfl
theorem tw8370052525914683430:0=0:=rfl
theorem tw6600414088158370886:0=0:=rfl
theorem tw7802686427212581030:0=0:=rfl
theorem tw7453419259379688710:0=0:=rfl
theorem tw10374212800463122790:0=0:=rfl
theorem tw10199782334797659526:0=0:=rfl
theorem tw13649247854127857062:0=0:=rfl
theorem tw11961365504959601094:0=0:=rfl
theorem tw3662941703358359014:0=0:=rfl
theorem tw13713269798784487942:0=0:=rfl
theorem tw123548250291343974:0=0:=rfl
theorem tw8388337322874754790:0=0:=rfl
theorem tw9103534872570105574:0=0:=rfl
theorem tw17782595725986122502:0=0:=rfl
theorem tw13447773166332274438:0=0:=rfl
theorem tw10822969822595117830:0=0:=rfl
theorem tw1173286185027143494:0=0:=rfl
theorem tw12874352084337435462:0=0:=rfl
theorem tw446860885779645286:0=0:=rfl
theorem tw10238170622770297734:0=0:=rfl
theorem tw8171303539926696838:0=0:=rfl
theorem tw5616014122121342886:0=0:=rfl
theorem tw10711614115146213318:0=0:=rfl
theorem tw4971523674347026406:0=0:=rfl
theorem tw12423872548769636359:0=0:=rfl
theorem tw9384975358781398119:0=0:=rfl
theorem tw10226992980275295335:0=0:=rfl
theorem tw14162337943704613127:0=0:=rfl
theorem tw8888589300373553639:0=0:=rfl
theorem tw4802525496458893895:0=0:=rfl
theorem tw6192842954494355079:0=0:=rfl
theorem tw16532979975447167655:0=0:=rfl
theorem tw10432952832709215911:0=0:=rfl
theorem tw14079300193793395399:0=0:=rfl
theorem tw5884357518021663463:0=0:=rfl
theorem tw7541827615100566343:0=0:=rfl
theorem tw618286047469217639:0=0:=rfl
theorem tw17459329790841506727:0=0:=rfl
theorem tw2870198346391780360:0=0:=rfl
theorem tw11831573512280300584:0=0:=rfl
theorem tw16651680826074852392:0=0:=rfl
theorem tw5069813506577087528:0=0:=rfl
theorem tw11815138296213261384:0=0:=rfl
theorem tw9841422653870566472:0=0:=rfl
theorem tw10986643483769733224:0=0:=rfl
theorem tw13357317862049474664:0=0:=rfl
theorem tw13137184196785500360:0=0:=rfl
theorem tw227611978193206504:0=0:=rfl
theorem tw11810774852684950760:0=0:=rfl
theorem tw17145054763721925992:0=0:=rfl
theorem tw13965991840522060200:0=0:=rfl
theorem tw6166524193841175976:0=0:=rfl
theorem tw6988774288164120008:0=0:=rfl
theorem tw5819998716839013960:0=0:=rfl
theorem tw14565849611743117896:0=0:=rfl
theorem tw17607448335878984296:0=0:=rfl
theorem tw16377483239588617864:0=0:=rfl
theorem tw14336634872588142248:0=0:=rfl
theorem tw2018717189032258248:0=0:=rfl
theorem tw3073502694756327112:0=0:=rfl
theorem tw13722473963551850184:0=0:=rfl
theorem tw12682925481344090856:0=0:=rfl
theorem tw7369908390130538216:0=0:=rfl
theorem tw16399072915865119496:0=0:=rfl
theorem tw13338501363619236744:0=0:=rfl
theorem tw8357953793507376040:0=0:=rfl
theorem tw17552580258920992680:0=0:=rfl
theorem tw18359312627073350600:0=0:=rfl
theorem tw7511400040303414409:0=0:=rfl
theorem tw2174055096868708617:0=0:=rfl
theorem tw16785196500651042057:0=0:=rfl
theorem tw16618092556340278601:0=0:=rfl
theorem tw3284960900102135145:0=0:=rfl
theorem tw18062235508349088105:0=0:=rfl
theorem tw13164151375641256329:0=0:=rfl
theorem tw16971486182487449993:0=0:=rfl
theorem tw18348392775654504873:0=0:=rfl
theorem tw12763050010814482889:0=0:=rfl
theorem tw3475256876136523273:0=0:=rfl
theorem tw5387372865893024393:0=0:=rfl
theorem tw586785138316733161:0=0:=rfl
theorem tw2852007168323713833:0=0:=rfl
theorem tw3900120891614156649:0=0:=rfl
theorem tw18031969778549797833:0=0:=rfl
theorem tw7082302760125890666:0=0:=rfl
theorem tw12372926725713044586:0=0:=rfl
theorem tw4802672882823558250:0=0:=rfl
theorem tw12701214035325728938:0=0:=rfl
theorem tw16894194219918626026:0=0:=rfl
theorem tw7588385159823946986:0=0:=rfl
theorem tw11828977874098261258:0=0:=rfl
theorem tw11151306760888004874:0=0:=rfl
theorem tw740336724477060394:0=0:=rfl
theorem tw8764535110222185834:0=0:=rfl
theorem tw12951164519675446634:0=0:=rfl
theorem tw296318312323703146:0=0:=rfl
theorem tw16789445597290433930:0=0:=rfl
theorem tw2322489250541634058:0=0:=rfl
theorem tw512324790103827146:0=0:=rfl
theorem tw2182050786639813322:0=0:=rfl
theorem tw16891788206248582890:0=0:=rfl
theorem tw16383177922222566122:0=0:=rfl
theorem tw3494336687701832426:0=0:=rfl
theorem tw5601401499859393290:0=0:=rfl
theorem tw2506548781066803978:0=0:=rfl
theorem tw11979989440711288586:0=0:=rfl
theorem tw2876354852173386602:0=0:=rfl
theorem tw5195199268132419498:0=0:=rfl
theorem tw11409350389119763499:0=0:=rfl
theorem tw15196482846898011211:0=0:=rfl
theorem tw8043173153332669547:0=0:=rfl
theorem tw686580569326958763:0=0:=rfl
theorem tw973692897197243563:0=0:=rfl
theorem tw1791881087837117675:0=0:=rfl
theorem tw9278506887795121451:0=0:=rfl
theorem tw1684764333949146443:0=0:=rfl
theorem tw4956579234759189867:0=0:=rfl
theorem tw11016002388714446187:0=0:=rfl
theorem tw11154170816616817003:0=0:=rfl
theorem tw11201766801169116587:0=0:=rfl
theorem tw6985939456581356011:0=0:=rfl
theorem tw12379321448922240619:0=0:=rfl
theorem tw15547668891710919371:0=0:=rfl
theorem tw16226925409647466283:0=0:=rfl
theorem tw10010988838714092395:0=0:=rfl
theorem tw7290938110701546379:0=0:=rfl
theorem tw292719666333600683:0=0:=rfl
theorem tw3941456861600481195:0=0:=rfl
theorem tw928836480319396811:0=0:=rfl
theorem tw15678887040987148235:0=0:=rfl
theorem tw13321443051975602155:0=0:=rfl
theorem tw16453902141369516011:0=0:=rfl
theorem tw13409844151685639180:0=0:=rfl
theorem tw14979884146857343020:0=0:=rfl
theorem tw10241934510139486316:0=0:=rfl
theorem tw17813734277698921580:0=0:=rfl
theorem tw16282071675595351276:0=0:=rfl
theorem tw5796329132599095564:0=0:=rfl
theorem tw8703389479586135340:0=0:=rfl
theorem tw16377722203152352620:0=0:=rfl
theorem tw3134189841617038796:0=0:=rfl
theorem tw2256743465949498860:0=0:=rfl
theorem tw12836001248286631404:0=0:=rfl
theorem tw13573743281485113900:0=0:=rfl
theorem tw10349792138197657228:0=0:=rfl
theorem tw13097289112754522892:0=0:=rfl
theorem tw13744316978834723596:0=0:=rfl
theorem tw7573205295653986124:0=0:=rfl
theorem tw16904974116391347052:0=0:=rfl
theorem tw9962668095182434188:0=0:=rfl
theorem tw3032838116717552556:0=0:=rfl
theorem tw6469445790397504428:0=0:=rfl
theorem tw6741140573523325900:0=0:=rfl
theorem tw423279803162306605:0=0:=rfl
theorem tw6654421674977326157:0=0:=rfl
theorem tw5912183681286559981:0=0:=rfl
theorem tw6647040360074281357:0=0:=rfl
theorem tw16286823864767218061:0=0:=rfl
theorem tw9434787229190923661:0=0:=rfl
theorem tw1370704071875601805:0=0:=rfl
theorem tw14915329010909149613:0=0:=rfl
theorem tw7035870600417722861:0=0:=rfl
theorem tw12057436691750830733:0=0:=rfl
theorem tw7129012455093662349:0=0:=rfl
theorem tw4259475966083408621:0=0:=rfl
theorem tw7267100899004158701:0=0:=rfl
theorem tw15645868942279671597:0=0:=rfl
theorem tw1216994375735441197:0=0:=rfl
theorem tw7277300166751662925:0=0:=rfl
theorem tw16748458683760223117:0=0:=rfl
theorem tw13068083622229095405:0=0:=rfl
theorem tw5791633933336527853:0=0:=rfl
theorem tw16224927127613931566:0=0:=rfl
theorem tw8512697642155561038:0=0:=rfl
theorem tw13872741582531655822:0=0:=rfl
theorem tw1966817756111094926:0=0:=rfl
theorem tw5179506211612097710:0=0:=rfl
theorem tw10279672231890811214:0=0:=rfl
theorem tw7479881897406557550:0=0:=rfl
theorem tw11763307896612835726:0=0:=rfl
theorem tw9364252831659578830:0=0:=rfl
theorem tw1143945057119848910:0=0:=rfl
theorem tw10945289417937274350:0=0:=rfl
theorem tw16275897698322839054:0=0:=rfl
theorem tw4926937771318426222:0=0:=rfl
theorem tw8052416079770412654:0=0:=rfl
theorem tw2974366747131446958:0=0:=rfl
theorem tw8689965691216285358:0=0:=rfl
theorem tw6116243062150010542:0=0:=rfl
theorem tw4174073658311230158:0=0:=rfl
theorem tw3495509503562926830:0=0:=rfl
theorem tw2869387005034807278:0=0:=rfl
theorem tw6868775833956688911:0=0:=rfl
theorem tw8221630122089442319:0=0:=rfl
theorem tw4406376028693686351:0=0:=rfl
theorem tw17559293813999824047:0=0:=rfl
theorem tw17603268980992908527:0=0:=rfl
theorem tw13478754942738173199:0=0:=rfl
theorem tw746266317067554127:0=0:=rfl
theorem tw6422575364716595567:0=0:=rfl
theorem tw15294590074404220303:0=0:=rfl
theorem tw12582513016005024143:0=0:=rfl
theorem tw13261813164479350191:0=0:=rfl
theorem tw996169538924630479:0=0:=rfl
theorem tw428118625347290575:0=0:=rfl
theorem tw3659855323779135983:0=0:=rfl
theorem tw13857143243028580847:0=0:=rfl
theorem tw9017237201175510575:0=0:=rfl
theorem tw2218976725152578127:0=0:=rfl
theorem tw8309080569891804783:0=0:=rfl
theorem tw15362645532830257807:0=0:=rfl
theorem tw4474450584618376879:0=0:=rfl
theorem tw15668505522504237775:0=0:=rfl
theorem tw14859335615838953231:0=0:=rfl
theorem tw17427160738225535855:0=0:=rfl
theorem tw16160259084902085583:0=0:=rfl
theorem tw10604090388014175280:0=0:=rfl
theorem tw17035421399223618672:0=0:=rfl
theorem tw423276400389545136:0=0:=rfl
theorem tw10439842277912579408:0=0:=rfl
theorem tw3026016022151049584:0=0:=rfl
theorem tw4499402969096887696:0=0:=rfl
theorem tw9804779062126899632:0=0:=rfl
theorem tw13776302373964193392:0=0:=rfl
theorem tw8898258800580653712:0=0:=rfl
theorem tw11226884832832211632:0=0:=rfl
theorem tw2007430588978515664:0=0:=rfl
theorem tw136878373690993360:0=0:=rfl
theorem tw16163872145239405424:0=0:=rfl
theorem tw16401669439675615120:0=0:=rfl
theorem tw3413094824504828848:0=0:=rfl
theorem tw3661971015633443792:0=0:=rfl
theorem tw5614493768021349328:0=0:=rfl
theorem tw11255302835455683665:0=0:=rfl
theorem tw13668415025135074417:0=0:=rfl
theorem tw2733037169012186225:0=0:=rfl
theorem tw15709004892404535441:0=0:=rfl
theorem tw16329518395377424561:0=0:=rfl
theorem tw14228099606541872337:0=0:=rfl
theorem tw8662388834260225265:0=0:=rfl
theorem tw8202889753808089329:0=0:=rfl
theorem tw1364375862071189745:0=0:=rfl
theorem tw13354347849977848177:0=0:=rfl
theorem tw13342484312625583601:0=0:=rfl
theorem tw7191900660334465585:0=0:=rfl
theorem tw4399943373508227665:0=0:=rfl
theorem tw8803393046753092209:0=0:=rfl
theorem tw14700077328118176369:0=0:=rfl
theorem tw10247940820098739825:0=0:=rfl
theorem tw6303002590381444753:0=0:=rfl
theorem tw11452670721577458321:0=0:=rfl
theorem tw12784692428845394609:0=0:=rfl
theorem tw5765861595919236785:0=0:=rfl
theorem tw685477751421776593:0=0:=rfl
theorem tw4120101017985889073:0=0:=rfl
theorem tw8311477516040567601:0=0:=rfl
theorem tw6963400342195243857:0=0:=rfl
theorem tw7261882050662115153:0=0:=rfl
theorem tw576018737535004818:0=0:=rfl
theorem tw15389827405456631090:0=0:=rfl
theorem tw10369110555952128338:0=0:=rfl
theorem tw6278732081118567762:0=0:=rfl
theorem tw9203700761218898482:0=0:=rfl
theorem tw15326582307877681746:0=0:=rfl
theorem tw12951226587816815282:0=0:=rfl
theorem tw60294686330774354:0=0:=rfl
theorem tw14863561063941314386:0=0:=rfl
theorem tw16230489310071980914:0=0:=rfl
theorem tw656956330529491826:0=0:=rfl
theorem tw15264824158253029298:0=0:=rfl
theorem tw9329572946531896403:0=0:=rfl
theorem tw3519726441273220243:0=0:=rfl
theorem tw18413621145750222003:0=0:=rfl
theorem tw345192042306614483:0=0:=rfl
theorem tw8907523489790237939:0=0:=rfl
theorem tw11370641254598401331:0=0:=rfl
theorem tw17882334311537751443:0=0:=rfl
theorem tw4645961656827219411:0=0:=rfl
theorem tw16656439698145338867:0=0:=rfl
theorem tw7494104019528471027:0=0:=rfl
theorem tw5304720998336087667:0=0:=rfl
theorem tw9519101633577763507:0=0:=rfl
theorem tw5529078967273308851:0=0:=rfl
theorem tw2729613000344543091:0=0:=rfl
theorem tw11849799057747140499:0=0:=rfl
theorem tw9155572953882183635:0=0:=rfl
theorem tw1219937065138328660:0=0:=rfl
theorem tw2508909235777129652:0=0:=rfl
theorem tw3063007781602352340:0=0:=rfl
theorem tw15376985869919496532:0=0:=rfl
theorem tw7587042977233066356:0=0:=rfl
theorem tw10696204809954838964:0=0:=rfl
theorem tw5651315590124109268:0=0:=rfl
theorem tw16177659078861810196:0=0:=rfl
theorem tw5382829769334223412:0=0:=rfl
theorem tw13091671562138422900:0=0:=rfl
theorem tw1922546952750673524:0=0:=rfl
theorem tw4660125376658811572:0=0:=rfl
theorem tw10573182892098443988:0=0:=rfl
theorem tw11089588994982910708:0=0:=rfl
theorem tw16054176515333980948:0=0:=rfl
theorem tw12818765130227675956:0=0:=rfl
theorem tw16563788060121276308:0=0:=rfl
theorem tw14884459102885926836:0=0:=rfl
theorem tw8710248022854787060:0=0:=rfl
theorem tw14004394375782603764:0=0:=rfl
theorem tw9837098837357455381:0=0:=rfl
theorem tw12192991892090555445:0=0:=rfl
theorem tw14087857196422260821:0=0:=rfl
theorem tw2222875148498584789:0=0:=rfl
theorem tw5638024750348854517:0=0:=rfl
theorem tw12671882126941907285:0=0:=rfl
theorem tw13558455172984321397:0=0:=rfl
theorem tw8841818339451923861:0=0:=rfl
theorem tw2970040906411964917:0=0:=rfl
theorem tw3841141797061609973:0=0:=rfl
theorem tw17809115232523471381:0=0:=rfl
theorem tw78756156146686549:0=0:=rfl
theorem tw15698090111054877333:0=0:=rfl
theorem tw8267232845588930197:0=0:=rfl
theorem tw9860370975074503349:0=0:=rfl
theorem tw8417560246888730293:0=0:=rfl
theorem tw9249546659277288149:0=0:=rfl
theorem tw13930084345508255445:0=0:=rfl
theorem tw16945197234756746069:0=0:=rfl
theorem tw18284003234360445813:0=0:=rfl
theorem tw16084223543181351861:0=0:=rfl
theorem tw3714667234608523221:0=0:=rfl
theorem tw2890314763646402549:0=0:=rfl
theorem tw6581538225632402518:0=0:=rfl
theorem tw11658885043784208470:0=0:=rfl
theorem tw7763548886741309590:0=0:=rfl
theorem tw14592601952733017302:0=0:=rfl
theorem tw16667827226642718006:0=0:=rfl
theorem tw214807984779350326:0=0:=rfl
theorem tw11527896682806141238:0=0:=rfl
theorem tw2286908665561096534:0=0:=rfl
theorem tw583321038270411094:0=0:=rfl
theorem tw9140841019117384118:0=0:=rfl
theorem tw15763781495368913366:0=0:=rfl
theorem tw1918446718729373174:0=0:=rfl
theorem tw18216314448414952982:0=0:=rfl
theorem tw12311443906036676150:0=0:=rfl
theorem tw7187179210148268630:0=0:=rfl
theorem tw15506494093382148726:0=0:=rfl
theorem tw1810978703541730966:0=0:=rfl
theorem tw7476318161538480950:0=0:=rfl
theorem tw2843006360425334614:0=0:=rfl
theorem tw16094631965783775062:0=0:=rfl
theorem tw14606511463808576406:0=0:=rfl
theorem tw4350980670230395862:0=0:=rfl
theorem tw3543189297454979062:0=0:=rfl
theorem tw13101791374372411382:0=0:=rfl
theorem tw6192206971828376695:0=0:=rfl
theorem tw12032965826470049943:0=0:=rfl
theorem tw3856581389770383607:0=0:=rfl
theorem tw16021808685395601687:0=0:=rfl
theorem tw8008315096316139799:0=0:=rfl
theorem tw422354039988077879:0=0:=rfl
theorem tw2390985187192542551:0=0:=rfl
theorem tw14618537984793166263:0=0:=rfl
theorem tw17244932015381538263:0=0:=rfl
theorem tw15366949507037954615:0=0:=rfl
theorem tw17364373532408279607:0=0:=rfl
theorem tw18185219974436212503:0=0:=rfl
theorem tw8018777290145659735:0=0:=rfl
theorem tw9995110448067811191:0=0:=rfl
theorem tw7621026622923473847:0=0:=rfl
theorem tw16417424558820142071:0=0:=rfl
theorem tw16812416999662616:0=0:=rfl
theorem tw4472001364177116280:0=0:=rfl
theorem tw13318423829697421432:0=0:=rfl
theorem tw5013368585984836760:0=0:=rfl
theorem tw5165580520562455736:0=0:=rfl
theorem tw10691569957338579160:0=0:=rfl
theorem tw13641863828535196888:0=0:=rfl
theorem tw6212131057187251448:0=0:=rfl
theorem tw1544080072918970744:0=0:=rfl
theorem tw3196473167497215352:0=0:=rfl
theorem tw4604335368448369016:0=0:=rfl
theorem tw10492209200084903288:0=0:=rfl
theorem tw13908789798039622072:0=0:=rfl
theorem tw8217865221801448920:0=0:=rfl
theorem tw3861905840670633464:0=0:=rfl
theorem tw10452133788443345560:0=0:=rfl
theorem tw5907547856598062744:0=0:=rfl
theorem tw16055206468274818840:0=0:=rfl
theorem tw10514235950444327704:0=0:=rfl
theorem tw14521679485362454296:0=0:=rfl
theorem tw695476746370566936:0=0:=rfl
theorem tw147402310886374200:0=0:=rfl
theorem tw17728823634028444472:0=0:=rfl
theorem tw17834386048112224056:0=0:=rfl
theorem tw10354360163312133944:0=0:=rfl
theorem tw10775727910500564856:0=0:=rfl
theorem tw7577442589498923928:0=0:=rfl
theorem tw5466610852681561113:0=0:=rfl
theorem tw10322626315171298329:0=0:=rfl
theorem tw11138255077516760185:0=0:=rfl
theorem tw10181143354159248537:0=0:=rfl
theorem tw8582264584837389465:0=0:=rfl
theorem tw14862753921238250713:0=0:=rfl
theorem tw16353187712092923097:0=0:=rfl
theorem tw6206973771416987865:0=0:=rfl
theorem tw15893985929986510073:0=0:=rfl
theorem tw6797024268176115993:0=0:=rfl
theorem tw6117221120111415609:0=0:=rfl
theorem tw3239281684291823033:0=0:=rfl
theorem tw12397234638679385561:0=0:=rfl
theorem tw5650270325174340089:0=0:=rfl
theorem tw12887508917239079705:0=0:=rfl
theorem tw5867108003327090521:0=0:=rfl
theorem tw6811158749545185113:0=0:=rfl
theorem tw16279757994630368121:0=0:=rfl
theorem tw11601794061326052281:0=0:=rfl
theorem tw13545169902177893369:0=0:=rfl
theorem tw1188095152568507450:0=0:=rfl
theorem tw15979729519941786714:0=0:=rfl
theorem tw8641506492414685274:0=0:=rfl
theorem tw11991212451514559610:0=0:=rfl
theorem tw5852505260610699386:0=0:=rfl
theorem tw6632211544540594426:0=0:=rfl
theorem tw11148292828749030714:0=0:=rfl
theorem tw3192273535107068218:0=0:=rfl
theorem tw11721669094015065562:0=0:=rfl
theorem tw11377868304709707258:0=0:=rfl
theorem tw9320814426865043002:0=0:=rfl
theorem tw11536723771043177082:0=0:=rfl
theorem tw11831800436695242362:0=0:=rfl
theorem tw15851530068822484698:0=0:=rfl
theorem tw16743475229906787066:0=0:=rfl
theorem tw11027354246980054842:0=0:=rfl
theorem tw5553439353150032698:0=0:=rfl
theorem tw14206545599580082010:0=0:=rfl
theorem tw6929325325309357946:0=0:=rfl
theorem tw4060692773072994170:0=0:=rfl
theorem tw9508515904830563226:0=0:=rfl
theorem tw4185656730103284730:0=0:=rfl
theorem tw16567642394693719163:0=0:=rfl
theorem tw3924699055692054747:0=0:=rfl
theorem tw963068255668665563:0=0:=rfl
theorem tw9557029089471808795:0=0:=rfl
theorem tw9949985353498974491:0=0:=rfl
theorem tw17689503823297117595:0=0:=rfl
theorem tw15157327447360371131:0=0:=rfl
theorem tw13154742484574191035:0=0:=rfl
theorem tw5258730877930595803:0=0:=rfl
theorem tw10595920350632994267:0=0:=rfl
theorem tw14857569924948788731:0=0:=rfl
theorem tw5109786011908883003:0=0:=rfl
theorem tw17931710831971738203:0=0:=rfl
theorem tw1630396998274389627:0=0:=rfl
theorem tw5872049756331303611:0=0:=rfl
theorem tw6321056425087813339:0=0:=rfl
theorem tw1190522132712147675:0=0:=rfl
theorem tw14175121968472675067:0=0:=rfl
theorem tw17278198367868027707:0=0:=rfl
theorem tw4292766644672738139:0=0:=rfl
theorem tw4943587613536598939:0=0:=rfl
theorem tw2727662791635889051:0=0:=rfl
theorem tw13197335081832681467:0=0:=rfl
theorem tw9105769305421282332:0=0:=rfl
theorem tw14825025237137209436:0=0:=rfl
theorem tw9583496193558195324:0=0:=rfl
theorem tw5848984368587425948:0=0:=rfl
theorem tw11950376740716061852:0=0:=rfl
theorem tw13206301921483446460:0=0:=rfl
theorem tw426624763785944284:0=0:=rfl
theorem tw5823512814888715548:0=0:=rfl
theorem tw8893438305626005788:0=0:=rfl
theorem tw12473160759732394428:0=0:=rfl
theorem tw1457908332848505276:0=0:=rfl
theorem tw3827301466089983516:0=0:=rfl
theorem tw9750486798834761276:0=0:=rfl
theorem tw8434251480207307356:0=0:=rfl
theorem tw17375094700962546300:0=0:=rfl
theorem tw4756964702113232508:0=0:=rfl
theorem tw11779387100107388572:0=0:=rfl
theorem tw9364850172786502332:0=0:=rfl
theorem tw12031840750311168700:0=0:=rfl
theorem tw4102924422797485884:0=0:=rfl
theorem tw15723494379753771900:0=0:=rfl
theorem tw16862548356931923900:0=0:=rfl
theorem tw8769195778327482300:0=0:=rfl
theorem tw17151438810300035004:0=0:=rfl
theorem tw11251570882254610461:0=0:=rfl
theorem tw11145769076420356157:0=0:=rfl
theorem tw6018290378034049085:0=0:=rfl
theorem tw6780190779256924253:0=0:=rfl
theorem tw13696097537083009117:0=0:=rfl
theorem tw10389526642172460125:0=0:=rfl
theorem tw17971293658592792701:0=0:=rfl
theorem tw3206726026801427613:0=0:=rfl
theorem tw1647609992527446173:0=0:=rfl
theorem tw9731704496957137053:0=0:=rfl
theorem tw10080091494179157213:0=0:=rfl
theorem tw12125958394961083613:0=0:=rfl
theorem tw3310190006951156957:0=0:=rfl
theorem tw9382467345556391197:0=0:=rfl
theorem tw7469275393992027453:0=0:=rfl
theorem tw330508477459811645:0=0:=rfl
theorem tw15324559693679037789:0=0:=rfl
theorem tw1616626300693611901:0=0:=rfl
theorem tw6194132737046897085:0=0:=rfl
theorem tw8103166854551274941:0=0:=rfl
theorem tw7431715047048131165:0=0:=rfl
theorem tw2199114998072850045:0=0:=rfl
theorem tw14189066531095688829:0=0:=rfl
theorem tw1725923749218249341:0=0:=rfl
theorem tw10167955966254612093:0=0:=rfl
theorem tw1156866596305362653:0=0:=rfl
theorem tw16558676859383004925:0=0:=rfl
theorem tw16700112549449089885:0=0:=rfl
theorem tw12523531760337462141:0=0:=rfl
theorem tw17893545657142564797:0=0:=rfl
theorem tw5258148857070998461:0=0:=rfl
theorem tw12865797197003500509:0=0:=rfl
theorem tw9845895044423578589:0=0:=rfl
theorem tw13641921559797790685:0=0:=rfl
theorem tw17385567841788424222:0=0:=rfl
theorem tw5467886101193193566:0=0:=rfl
theorem tw5533870158906111166:0=0:=rfl
theorem tw1621886352452001022:0=0:=rfl
theorem tw11455959669332984062:0=0:=rfl
theorem tw296280532935804190:0=0:=rfl
theorem tw6027613682432436510:0=0:=rfl
theorem tw18171468219032828222:0=0:=rfl
theorem tw9629445163791196510:0=0:=rfl
theorem tw7883626828983128414:0=0:=rfl
theorem tw8492060841493180894:0=0:=rfl
theorem tw2620993637426768414:0=0:=rfl
theorem tw17426149538763544350:0=0:=rfl
theorem tw14788851703611767678:0=0:=rfl
theorem tw5634228562901071742:0=0:=rfl
theorem tw3034389307291279262:0=0:=rfl
theorem tw7792773598788691039:0=0:=rfl
theorem tw16374357357837369471:0=0:=rfl
theorem tw6987491917176485087:0=0:=rfl
theorem tw2185476855129651519:0=0:=rfl
theorem tw1671871902796812767:0=0:=rfl
theorem tw14180628715124354559:0=0:=rfl
theorem tw17866730710893198015:0=0:=rfl
theorem tw8883939329024925407:0=0:=rfl
theorem tw10447686687414788959:0=0:=rfl
theorem tw14002146308263195487:0=0:=rfl
theorem tw3334020564411957087:0=0:=rfl
theorem tw15517980969621161855:0=0:=rfl
theorem tw5722107673527683967:0=0:=rfl
theorem tw4298126086242780063:0=0:=rfl
theorem tw11430802118548101087:0=0:=rfl
theorem tw5556542583956351999:0=0:=rfl
theorem tw6346374409920696918:0=0:=rfl
end PySem.W.Fast
open PySem PySem.W PyProof.Rows
set_option maxRecDepth 100000 in
set_option maxHeartbeats 0 in
theorem PySem.Challenge.cw_disposehall_k22_the_first_bad_row_of_a_b_holds : PySem.Challenge.rw_disposehall_k22_the_first_bad_row_of_a_b.Holds := by
 w_on;o_law;k_head;(case hw=>w_witness2)
 k_fill
 refine L3.Zt8 (l:=PySem.Challenge.rw_disposehall_k22_the_first_bad_row_of_a_b) (k:=75) (x:="_law_script") rfl rfl ⟨rfl,by decide,by decide⟩ (fun w h Y=>PySem.W.kIn_of Y) ?F
 case F=>
  intro w mg fa h KX G hmg;refine' K22.all_mk KX G hmg ?J7 ?Z06 ?Z1 ?Y9 ?Y0 ?Z0i ?Z0F ?Z0G ?Z0H ?Z0j ?Z07 ?J8 ?Y8 ?J9 ?Y4 ?Z0a ?Z0b ?Z0x ?Z0k ?Z00 ?Z0u ?Z08 ?X3 ?X4 ?Z01 ?Y5 ?Z09 ?X5 ?X6 ?Z02 ?Z2 ?Z3 ?Y6 ?Z0c ?X7 ?X8 ?J0 ?J6 ?Z1c ?l_law ?cd_law2 ?k_law ?Z0X ?Z0I ?Z0J ?Z0l ?Z0m ?Z0Y ?Z0f ?Z0y ?Z0n ?Z0z ?Z0v ?Z0o ?Z0w ?Z0A ?Z0W ?Z0Z ?Z0K ?Z0L ?Z0M ?Z0N ?Z10 ?Z11 ?in_Never ?Z12 ?Z13 ?Z0O ?Z0P ?Z0Q ?Z0R ?Z14 ?Z15 ?Z03 ?Z0g ?Z0h ?Z16 ?Z17 ?Z0S ?Z0T ?Z0U ?Z0V ?Z18 ?Z19 ?Z04 ?Z0p ?Z0d ?Z1a ?Z1b ?Z0q ?Z0r ?Z0s ?Z0t ?Z0B ?Z0C ?Y7 ?Z0e ?Z05 ?Z0D ?Z0E ?hn ?htk ?Z7 ?Z8 ?Z9 ?Z0 ?g_YEAR_DAYS ?g_MONTH_DAYS ?g_MOST_FIGURES ?g_MOST_LETTERS ?g_FIGURES ?e_FIGURES ?g_LETTERS ?e_LETTERS ?g_MOST_WORDS ?g_MOST_CLAUSES ?xl_NoLength ?xN_NoLength ?xe_NoLength ?xi_NoLength ?xl_NoTerm ?xN_NoTerm ?xe_NoTerm ?xi_NoTerm ?xl_TooWide ?xN_TooWide ?xe_TooWide ?xi_TooWide ?xl_NoBook ?xN_NoBook ?xe_NoBook ?xi_NoBook ?xl_HallError ?xN_HallError ?xe_HallError ?xi_HallError ?xd1_NoBook ?xd2_NoBook ?xd3_NoBook ?xk_NoLength ?xg_NoLength ?xh_NoLength ?xs_NoLength ?xo_NoLength ?xb_NoLength ?xk_NoTerm ?xg_NoTerm ?xh_NoTerm ?xs_NoTerm ?xo_NoTerm ?xb_NoTerm ?xk_TooWide ?xg_TooWide ?xh_TooWide ?xs_TooWide ?xo_TooWide ?xb_TooWide ?xk_NoBook ?xg_NoBook ?xh_NoBook ?xs_NoBook ?xo_NoBook ?xb_NoBook ?f_k_Never_After ?f_k_Never_Earlier ?f_k_Never_Later ?f_k_After_After ?f_k_After_Earlier ?f_k_After_Later ?f_k_Later_After ?f_k_Later_Earlier ?f_k_Later_Later ?f_k_Earlier_After ?f_k_Earlier_Earlier ?f_k_Earlier_Later ?f_xm_n ?f_xm_t ?f_xm_w ?f_xm_b ?f_rd_base ?f_ga_base ?f_fi_base ?f_i_b_ve ?f_i_b_NoBook ?f_i_b_others ?z_ValueError ?z_all ?z_any ?z_bool ?z_dict ?z_enumerate ?z_int ?z_isinstance ?z_len ?z_list ?z_max ?z_range ?z_reversed ?z_sorted ?z_str ?kib ?kii ?ne_Never_After ?ne_Never_Later ?ne_Never_Earlier ?ne_After_Later ?ne_After_Earlier ?ne_Later_Earlier
  (case Z1c|Z0X|Z0I|Z0J|Z0l|Z0m|Z0Y|Z0f|Z0y|Z0n|Z0z|Z0v|Z0o|Z0w|Z0A|Z0W|Z0Z=>k_is)
  (case xl_NoLength|xl_NoTerm|xl_TooWide|xl_NoBook|xl_HallError=>k_is)
  (case xN_NoLength|xN_NoTerm|xN_TooWide|xN_NoBook|xN_HallError=>k_is)
  (case J7|Z06|Z1|Y9|Y0|Z0i|Z0F|Z0G|Z0H|Z0j|Z07|J8|Y8|J9|Y4|Z0a|Z0b|Z0x|Z0k|Z00|Z0u|Z08|X3|X4|Z01|Y5|Z09|X5|X6|Z02|Z2|Z3|Y6|Z0c|X7|X8|J0|J6=>exact⟨_,_,by k_is,L2.ZiM (by k_is) (by k_is) (by k_is)⟩)
  (case l_law|cd_law2|k_law|Z0K|Z0L|Z0M|Z0N|Z10|Z11|in_Never|Z12|Z13|Z0O|Z0P|Z0Q|Z0R|Z14|Z15|Z0g|Z0h|Z16|Z17|Z0S|Z0T|Z0U|Z0V|Z18|Z19|Z0p|Z0d|Z1a|Z1b|Z0q|Z0r|Z0s|Z0t|Z0B|Z0C|Z0e|Z05|Z0D|Z0E|hn|htk|g_YEAR_DAYS|g_MONTH_DAYS|g_MOST_FIGURES|g_MOST_LETTERS|g_FIGURES|g_LETTERS|g_MOST_WORDS|g_MOST_CLAUSES|xi_NoLength|xi_NoTerm|xi_TooWide|xi_HallError|xd1_NoBook|xd2_NoBook|xd3_NoBook|xg_NoLength|xh_NoLength|xs_NoLength|xo_NoLength|xb_NoLength|xg_NoTerm|xh_NoTerm|xs_NoTerm|xo_NoTerm|xb_NoTerm|xg_TooWide|xh_TooWide|xs_TooWide|xo_TooWide|xb_TooWide|xg_NoBook|xh_NoBook|xs_NoBook|xo_NoBook|xb_NoBook|z_ValueError|z_all|z_any|z_bool|z_dict|z_enumerate|z_int|z_isinstance|z_len|z_list|z_max|z_range|z_reversed|z_sorted|z_str=>k_is)
  (case Z03|Z04|Y7|Z7|Z8|Z9|Z0=>exact⟨_,_,by k_is,by k_is,L2.ZiM (by k_is) (by k_is) (by k_is)⟩)
  (case e_FIGURES|e_LETTERS=>first|rfl|decide+kernel)
  (case xe_NoLength|xe_NoTerm|xe_TooWide|xe_NoBook|xe_HallError|xk_NoLength|xk_NoTerm|xk_TooWide|xk_NoBook|f_k_Never_After|f_k_Never_Earlier|f_k_Never_Later|f_k_After_After|f_k_After_Earlier|f_k_After_Later|f_k_Later_After|f_k_Later_Earlier|f_k_Later_Later|f_k_Earlier_After|f_k_Earlier_Earlier|f_k_Earlier_Later|f_xm_n|f_xm_t|f_xm_w|f_xm_b|f_rd_base|f_ga_base|f_fi_base|f_i_b_ve|f_i_b_NoBook|f_i_b_others|kib|kii=>first|rfl|decide+kernel|k_is)
  (case xi_NoBook=>exact⟨_,_,_,_,_,by k_is,by k_is,rfl,L2.ZiM (by k_is) (by k_is) (by k_is)⟩)
  (case ne_Never_After|ne_Never_Later|ne_Never_Earlier|ne_After_Later|ne_After_Earlier|ne_Later_Earlier=>decide)
