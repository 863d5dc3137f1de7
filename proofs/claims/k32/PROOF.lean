import PyProof.Rows.All
import Wide.All
import OpenK.AllK
import Wide.FinOn
import Lean
import PyProof.EqAt
import PyProof.EqKinds
import PyProof.TupleCall
import PySem.Challenge.RW_disposehall_k32_not_taken
set_option Elab.async false
set_option linter.all false
set_option maxRecDepth 100000
namespace L2
open PySem PySem.Spec PyProof.Rows
abbrev Key:=Sum Int Str
def Zhw:Key->Value->Bool
 | .inl k,v=>Value.isInt k v
 | .inr x,v=>Value.isStrOf x v
def Zts(w:World):Key->Int
 | .inl k=>hashInt k
 | .inr x=>hashStr w x
theorem Xx:∀{k:Key} {v:Value},Zhw k v=true->(∃i t,k=Sum.inl i/\v=Value.int i t)\/(∃x t,k=Sum.inr x/\v=Value.str x t)
 | .inl i,v,h=>by
  obtain⟨t,e⟩:=Value.isInt_shape (k:=i) (v:=v) h;exact .inl ⟨i,t,rfl,e⟩
 | .inr x,v,h=>by
  obtain⟨t,e⟩:=Value.isStrOf_shape (x:=x) (v:=v) h;exact .inr ⟨x,t,rfl,e⟩
theorem Znz(i:Int)(t:Tok):Zhw (.inl i) (.int i t)=true:=by simp[Zhw,Value.isInt]
theorem ZnA(x:Str)(t:Tok):Zhw (.inr x) (.str x t)=true:=by simp[Zhw,Value.isStrOf]
theorem Zrw(a b:Int):decide ((Sum.inl a:Key)=Sum.inl b)=(a==b):=by
 by_cases e:a=b
 ·subst e;simp
 ·have h:¬(Sum.inl a:Key)=Sum.inl b:=fun q=>e (Sum.inl.inj q);rw[decide_eq_false h];exact(beq_eq_false_iff_ne.mpr e).symm
theorem Zoz(a b:Str):decide ((Sum.inr a:Key)=Sum.inr b)=decide (a=b):=by
 by_cases e:a=b
 ·subst e;simp
 ·have h:¬(Sum.inr a:Key)=Sum.inr b:=fun q=>e (Sum.inr.inj q);rw[decide_eq_false h,decide_eq_false e]
theorem Zrx(a:Int)(b:Str):decide ((Sum.inl a:Key)=Sum.inr b)=false:=decide_eq_false (fun q=>nomatch q)
theorem Zry(a:Str)(b:Int):decide ((Sum.inr a:Key)=Sum.inl b)=false:=decide_eq_false (fun q=>nomatch q)
def Xo(prog:Program)(w:World):PySem.KeyKind prog w Key where
 is:=Zhw
 hash:=Zts w
 inj:=fun v a b ha hb=>by
  rcases Xx ha with ⟨i,t,rfl,rfl⟩|⟨x,t,rfl,rfl⟩
  ·rcases Xx hb with ⟨j,u,rfl,e⟩|⟨y,u,rfl,e⟩
   ·injection e with e1 _;rw[e1]
   ·exact nomatch e
  ·rcases Xx hb with ⟨j,u,rfl,e⟩|⟨y,u,rfl,e⟩
   ·exact nomatch e
   ·injection e with e1 _;rw[e1]
 byValue:=fun k v h=>by
  rcases Xx h with ⟨i,t,rfl,rfl⟩|⟨x,t,rfl,rfl⟩<;>rfl
 pyHash:=fun hv h=>by
  rcases Xx hv with ⟨i,t,rfl,rfl⟩|⟨x,t,rfl,rfl⟩
  ·exact wpAny_pyHash_int h
  ·exact wpAny_pyHash_str h
 eqBool:=fun hu hv h=>by
  rcases Xx hu with ⟨i,t,rfl,rfl⟩|⟨x,t,rfl,rfl⟩
  ·rcases Xx hv with ⟨j,u,rfl,rfl⟩|⟨y,u,rfl,rfl⟩
   ·rw[Zrw] at h;exact wpAny_eqBool_int h
   ·rw[Zrx] at h;exact SeqAt.EqAt.int_str i t y u _ _ _ _ h
  ·rcases Xx hv with ⟨j,u,rfl,rfl⟩|⟨y,u,rfl,rfl⟩
   ·rw[Zry] at h;exact SeqAt.EqAt.str_int x t j u _ _ _ _ h
   ·rw[Zoz] at h;exact wpAny_eqBool_str h
 «strs»:=fun k x t v h=>by
  rcases Xx h with ⟨i,u,rfl,e⟩|⟨y,u,rfl,e⟩
  ·exact nomatch e
  ·injection e with e1 _
   subst e1;cases v<;>rfl
theorem Zl2(prog:Program)(w:World)(i:Int)(t:Tok):(Xo prog w).is (.inl i) (.int i t)=true:=Znz i t
theorem Zl3(prog:Program)(w:World)(x:Str)(t:Tok):(Xo prog w).is (.inr x) (.str x t)=true:=ZnA x t
end L2
namespace L2
open PySem PySem.Spec PyProof.Rows
inductive V where
 |non|bl (b:Bool)|int (i:Int)|str (x:Str)|byt (b:Array UInt8)|flt (b:UInt64)|ref (a:Addr)|ty (n:String)
 deriving DecidableEq
def Yn:V->Value->Prop
 | .non,u=>u=Value.none
 | .bl b,u=>u=Value.bool b
 | .int i,u=>∃t,u=Value.int i t
 | .str x,u=>∃t,u=Value.str x t
 | .byt b,u=>∃t,u=Value.bytes b t
 | .flt b,u=>∃t,u=Value.float b t
 | .ref a,u=>u=Value.ref a
 | .ty n,u=>u=Value.type n
abbrev Yr:List V->List Value->Prop:=Paired Yn
theorem Yr.length{xs:List V}{us:List Value}(r:Yr xs us):xs.length=us.length:=Paired.length r
theorem Yr.get:∀{xs:List V} {us:List Value} {i:Nat} {x:V},Yr xs us->xs[i]? =some x->∃u,us[i]? =some u/\Yn x u
 |_,_,_,_,.nil,e=>by simp at e
 |_,_,0,_,.cons r _,e=>by simp at e;subst e;exact⟨_,rfl,r⟩
 |_,_,i+1,x,.cons _ t,e=>by
  obtain⟨u,h1,h2⟩:=Yr.get (i:=i) (x:=x) t (by simpa using e);exact⟨u,by simpa using h1,h2⟩
theorem Yr.append:∀{xs ys:List V} {us ws:List Value},Yr xs us->Yr ys ws->Yr (xs++ys) (us++ws)
 |_,_,_,_,.nil,s=>s
 |_,_,_,_,.cons r t,s=> .cons r (Yr.append t s)
theorem Yr.take:∀{xs:List V} {us:List Value} (n:Nat),Yr xs us->Yr (xs.take n) (us.take n)
 |_,_,0,_=> .nil
 |_,_,_+1,.nil=> .nil
 |_,_,n+1,.cons r t=> .cons r (Yr.take n t)
theorem Yr.drop:∀{xs:List V} {us:List Value} (n:Nat),Yr xs us->Yr (xs.drop n) (us.drop n)
 |_,_,0,r=>r
 |_,_,_+1,.nil=> .nil
 |_,_,n+1,.cons _ t=>Yr.drop n t
def ZcY:Option V->Option Value->Prop
 |some v,some u=>Yn v u
 |none,none=>True
 |_,_=>False
def KV{κ:Type}:List (κ×V)->List (κ×Value)->Prop:=Paired fun(p:κ×V) (q:κ×Value)=>p.1=q.1/\Yn p.2 q.2
def kV:Key->V
 | .inl i=> .int i
 | .inr x=> .str x
inductive HO where
 |lst (xs:List V)
 |tup (xs:List V)
 |dK (kvs:List (Key×V))|dT (kvs:List (List Key×V))
 |set (S:Int->Bool) (n:Nat)
 |ins (C dx:Addr) (fs:List (Str×V))
 |own (x:Addr)
 |xd (fs:List (Str×V))
 |met (f x:Addr)
 |rng (lo hi:Int)
 |frz (o:Obj) (u:HO)
 |tbl (ps:Array Value)
 |ext (φ:Heap->Prop)
abbrev Hp:=Addr->Option HO
def upd(H:Hp)(a:Addr)(o:HO):Hp:=fun b=>if b=a then some o else H b
theorem Zc{H:Hp}{a:Addr}{o:HO}:upd H a o a=some o:=by unfold upd;rw[if_pos rfl]
theorem Zv{H:Hp}{a b:Addr}{o:HO}(h:b≠a):upd H a o b=H b:=by unfold upd;rw[if_neg h]
theorem Zff{H:Hp}{a:Addr}{o u:HO}:upd (upd H a o) a u=upd H a u:=by
 funext b;unfold upd;split<;>rfl
theorem Yt{H:Hp}{a b:Addr}{o u:HO}(h:H a=some o)(h':H b=some u)(d:o≠u):a≠b:=by
 intro e;subst e;rw[h] at h';exact d (Option.some.inj h')
theorem Zn{H:Hp}{a b:Addr}{o:HO}(h:H a=some o)(h':H b=none):a≠b:=by
 intro e;subst e;rw[h] at h';cases h'
section
variable (P:Program) (w:World)
def XN(H:Hp)(h:Heap)(a:Addr):HO->Prop
 | .lst xs=>xs.length<=sizeLine/\∃(its:List Value) (n:Nat),Yr xs its/\h.get? a=some {cls:=.type "list",data:=.seq its.toArray n}
 | .tup xs=>xs.length<=sizeLine/\∃its:List Value,Yr xs its/\IsTup h a its.toArray
 | .dK kvs=>kvs.length<=sizeLine/\(a==sysModules)=false/\∃vs,KV kvs vs/\h.DictOf (Xo P w) a vs
 | .dT kvs=>kvs.length<=sizeLine/\(a==sysModules)=false/\∃xs:List (List Key×Addr×Value),
   Paired (fun(p:List Key×V) (q:List Key×Addr×Value)=>p.1=q.1/\H q.2.1=some (.tup (p.1.map kV))/\Yn p.2 q.2.2) kvs xs/\
   ∃o es ep,h.get? a=some o/\o.ExactDict/\o.data=.dict es ep/\es.toList=xs.map (entryOfKey (tupleKind (Xo P w)))/\(xs.map (·.1)).Nodup
 | .set S n=>h.SetOf (intKind P w) a S n
 | .ins C dx fs=>H dx=some (.own a)/\fs.length<=1000/\dx≠a/\h.get? a=some (PySem.W.instObj C dx)/\
   ∃mA,h.Ns1 dx mA/\(∀f,ZcY (fs.lookup f) (mA f))/\PySem.Within mA (fs.map (·.1))
 | .own _=>∃o,h.get? a=some o
 | .xd fs=>∃mA,h.Ns1 a mA/\∀f,ZcY (fs.lookup f) (mA f)
 | .rng lo hi=>∃t u v,h.get? a=some {cls:=.type "range",data:=.fields #[.int lo t,.int hi u,.int 1 v]}
 | .frz o u=>h.get? a=some o/\XN H h a u
 | .tbl ps=>h.get? a=some {cls:=.none,data:=.fields ps}
 | .met f x=>h.get? a=some (PySem.W.methodObj (.ref f) (.ref x))
 | .ext φ=>φ h/\(∃o,h.get? a=some o)/\∀h1 h2:Heap,φ h1->(∀o,h1.get? a=some o->h2.get? a=some o)->φ h2
def HOk(H:Hp)(h:Heap):Prop:=∀a o,H a=some o->XN P w H h a o
end
section
variable {P:Program} {w:World} {H H':Hp} {h h':Heap} {a:Addr} {o:HO}
theorem XN.lt(x:XN P w H h a o):a<h.objs.size:=by
 cases o with
 |lst xs=>obtain⟨_,_,_,_,e⟩:=x;exact Heap.lt_size e
 |tup xs=>obtain⟨_,_,_,p⟩:=x;exact p.lt
 |dK kvs=>obtain⟨_,_,_,_,o,_,_,e,_⟩:=x;exact Heap.lt_size e
 |dT kvs=>obtain⟨_,_,_,_,o,_,_,e,_⟩:=x;exact Heap.lt_size e
 |set S n=>obtain⟨o,_,_,_,e,_⟩:=x;exact Heap.lt_size e
 |ins C dx fs=>obtain⟨_,_,_,e,_⟩:=x;exact Heap.lt_size e
 |own y=>obtain⟨_,e⟩:=x;exact Heap.lt_size e
 |xd fs=>obtain⟨_,⟨_,_,_,e,_⟩,_⟩:=x;exact Heap.lt_size e
 |rng lo hi=>obtain⟨_,_,_,e⟩:=x;exact Heap.lt_size e
 |frz ob u=>obtain⟨e,_⟩:=x;exact Heap.lt_size e
 |tbl ps=>exact Heap.lt_size (show h.get? a=some _ from x)
 |met f y=>exact Heap.lt_size (show h.get? a=some _ from x)
 |ext φ=>obtain⟨_,⟨_,e⟩,_⟩:=x;exact Heap.lt_size e
theorem Paired.mapP{α β:Type}{F G:α->β->Prop}:∀{l₁:List α} {l₂:List β},Paired F l₁ l₂->(∀a b,F a b->G a b)->Paired G l₁ l₂
 |_,_,.nil,_=> .nil
 |_,_,.cons r t,f=> .cons (f _ _ r) (Paired.mapP t f)
theorem XN.stay(x:XN P w H h a o)(k:∀b u,(b=a\/H b=some (.own a))->h.get? b=some u->h'.get? b=some u)
  (ho:∀b,H b=some (.own a)->H' b=some (.own a))(ht:∀b xs,H b=some (.tup xs)->H' b=some (.tup xs)):XN P w H' h' a o:=by
 induction o with
 |lst xs=>obtain⟨z,its,n,r,e⟩:=x;exact⟨z,its,n,r,k _ _ (.inl rfl) e⟩
 |tup xs=>obtain⟨z,its,r,ob,e,c⟩:=x;exact⟨z,its,r,ob,k _ _ (.inl rfl) e,c⟩
 |dK kvs=>obtain⟨z,y,vs,r,ob,es,ep,e,c⟩:=x;exact⟨z,y,vs,r,ob,es,ep,k _ _ (.inl rfl) e,c⟩
 |dT kvs=>
  obtain⟨z,y,xs,r,ob,es,ep,e,c⟩:=x;exact⟨z,y,xs,Paired.mapP r fun p q z=>⟨z.1,ht _ _ z.2.1,z.2.2⟩,ob,es,ep,k _ _ (.inl rfl) e,c⟩
 |set S n=>obtain⟨ob,es,ep,t,e,c⟩:=x;exact⟨ob,es,ep,t,k _ _ (.inl rfl) e,c⟩
 |ins C dx fs=>
  obtain⟨d,z,ne,e,mA,⟨od,es,ep,e2,c⟩,r⟩:=x;exact⟨ho _ d,z,ne,k _ _ (.inl rfl) e,mA,⟨od,es,ep,k _ _ (.inr d) e2,c⟩,r⟩
 |own y=>obtain⟨ob,e⟩:=x;exact⟨ob,k _ _ (.inl rfl) e⟩
 |xd fs=>obtain⟨mA,⟨od,es,ep,e,c⟩,r⟩:=x;exact⟨mA,⟨od,es,ep,k _ _ (.inl rfl) e,c⟩,r⟩
 |rng lo hi=>obtain⟨t,u,v,e⟩:=x;exact⟨t,u,v,k _ _ (.inl rfl) e⟩
 |frz ob u ih=>obtain⟨e,q⟩:=x;exact⟨k _ _ (.inl rfl) e,ih q⟩
 |tbl ps=>
  have e:h.get? a=some {cls:=.none,data:=.fields ps}:=x;show h'.get? a=some {cls:=.none,data:=.fields ps};exact k a _ (.inl rfl) e
 |met f y=>
  have e:h.get? a=some (PySem.W.methodObj (.ref f) (.ref y)):=x;show h'.get? a=some (PySem.W.methodObj (.ref f) (.ref y));exact k a _ (.inl rfl) e
 |ext φ=>obtain⟨p,⟨o,e⟩,st⟩:=x;exact⟨st _ _ p fun o q=>k _ _ (.inl rfl) q,⟨o,k _ _ (.inl rfl) e⟩,st⟩
theorem HOk.lt(x:HOk P w H h)(e:H a=some o):a<h.objs.size:=(x a o e).lt
theorem HOk.fresh(x:HOk P w H h)(e:h.objs.size<=a):H a=none:=by
 cases q:H a with
 |none=>rfl
 |some u=>exact absurd (Nat.lt_of_lt_of_le (x.lt q) e) (Nat.lt_irrefl _)
theorem HOk.kept(x:HOk P w H h)(k:∀b u,h.get? b=some u->h'.get? b=some u):HOk P w H h':=fun a o e=>
 (x a o e).stay (fun b u _ q=>k b u q) (fun _ q=>q) fun _ _ q=>q
theorem HOk.laid(x:HOk P w H h)(k:∀b u,h.get? b=some u->h'.get? b=some u)(hp:h.objs.size<=a)(new:XN P w (upd H a o) h' a o):HOk P w (upd H a o) h':=fun b u e=>by
 have hn:=x.fresh hp
 by_cases hb:b=a
 ·subst hb;rw[Zc] at e;cases e;exact new
 ·rw[Zv hb] at e
  exact(x b u e).stay (fun c v _ q=>k c v q) (fun c q=>by rw[Zv (Zn q hn)];exact q) fun c xs q=>by rw[Zv (Zn q hn)];exact q
end
def Rd(H:Hp)(a:Addr)(u:HO):Prop:=H a=some u\/∃o,H a=some (.frz o u)
theorem Rd.ok{P:Program}{w:World}{H:Hp}{h:Heap}{a:Addr}{u:HO}(r:Rd H a u)(x:HOk P w H h):XN P w H h a u:=by
 rcases r with r|⟨o,r⟩
 ·exact x a u r
 ·obtain⟨_,q⟩:=x a _ r;exact q
def Mut:Option HO->Prop
 |some (.lst _)=>True
 |some (.dK _)=>True
 |some (.dT _)=>True
 |some (.set _ _)=>True
 |some (.ins _ _ _)=>True
 |some (.ext _)=>True
 |_=>False
section
variable {P:Program} {w:World} {H:Hp} {h h':Heap} {x e:Addr} {o':HO}
theorem HOk.write(ok:HOk P w H h)(mu:Mut (H x))(he:e=x\/H e=some (.own x))(k:∀b u,b≠e->h.get? b=some u->h'.get? b=some u)(heo:∃u,h'.get? e=some u)
  (new:XN P w (upd H x o') h' x o'):HOk P w (upd H x o') h':=fun b u q=>by
 have nown:∀c y,H c=some (.own y)->c≠x:=fun c y r z=>by subst z;rw[r] at mu;exact mu
 have ntup:∀c xs,H c=some (.tup xs)->c≠x:=fun c xs r z=>by subst z;rw[r] at mu;exact mu
 by_cases hb:b=x
 ·subst hb;rw[Zc] at q;cases q;exact new
 ·rw[Zv hb] at q
  by_cases hbe:b=e
  ·have q':H b=some (.own x):=by
    rcases he with z|z
    ·exact absurd (hbe.trans z) hb
    ·rw[hbe];exact z
   rw[q] at q';cases q'
   obtain⟨v,hv⟩:=heo;exact⟨v,by rw[hbe];exact hv⟩
  ·refine(ok b u q).stay (fun c v hc r=>k c v ?_ r) (fun c r=>by rw[Zv (nown c b r)];exact r) fun c xs r=>by rw[Zv (ntup c xs r)];exact r
   rcases hc with rfl|hc
   ·exact hbe
   ·rintro rfl;rcases he with z|z
    ·exact nown c b hc z
    ·rw[hc] at z;cases z;exact hb rfl
end
structure Un (fs ex:List Addr) (H H':Hp) (h h':Heap):Prop where
 keep:∀b o,h.get? b=some o->H b=none->b∉fs->b∉ex->h'.get? b=some o
 slot:∀b o,h.get? b=some o->H b=none->b∈fs->b∉ex->∃sl,h'.get? b=some {o with slots:=sl}
 free:∀b o,h.get? b=some o->H b=none->b∉ex->H' b=none
 there:∀b o,h.get? b=some o->b∉ex->∃o',h'.get? b=some o'
 tups:∀b xs,H b=some (.tup xs)->H' b=some (.tup xs)
 frzs:∀b o u,H b=some (.frz o u)->H' b=some (.frz o u)
 tbls:∀b ps,H b=some (.tbl ps)->∃more,H' b=some (.tbl (ps++more))
section
variable {fs fs' ex ex':List Addr} {H H1 H2:Hp} {h h1 h2 h':Heap} {a x e:Addr} {o:HO}
theorem Un.any(u:Un fs ex H H1 h h1){b:Addr}{ob:Obj}(q:h.get? b=some ob)(n:H b=none)(hx:b∉ex):∃sl,h1.get? b=some {ob with slots:=sl}:=by
 by_cases hb:b∈fs
 ·exact u.slot b ob q n hb hx
 ·exact⟨ob.slots,u.keep b ob q n hb hx⟩
theorem Un.kept(k:∀b u,h.get? b=some u->h'.get? b=some u):Un fs ex H H h h':=
 ⟨fun b ob q _ _ _=>k b ob q,fun b ob q _ _ _=>⟨ob.slots,k b ob q⟩,fun _ _ _ n _=>n,fun b ob q _=>⟨ob,k b ob q⟩,fun _ _ q=>q,fun _ _ _ q=>q,fun _ ps q=>⟨#[],by rw[q];simp⟩⟩
theorem Un.refl:Un fs ex H H h h:=Un.kept fun _ _ q=>q
theorem Un.laid(k:∀b u,h.get? b=some u->h'.get? b=some u)(hp:h.objs.size<=a)(hn:H a=none):Un fs ex H (upd H a o) h h' where
 keep:=fun b u q _ _ _=>k b u q
 slot:=fun b u q _ _ _=>⟨u.slots,k b u q⟩
 free:=fun b u q n _=>by rw[Zv (Nat.ne_of_lt (Nat.lt_of_lt_of_le (Heap.lt_size q) hp))];exact n
 there:=fun b u q _=>⟨u,k b u q⟩
 tups:=fun b xs q=>by rw[Zv (Zn q hn)];exact q
 frzs:=fun b u xs q=>by rw[Zv (Zn q hn)];exact q
 tbls:=fun b ps q=>⟨#[],by rw[Zv (Zn q hn),q];simp⟩
theorem Un.write(mu:Mut (H x))(he:e=x\/H e=some (.own x))(k:∀b u,b≠e->h.get? b=some u->h'.get? b=some u)(heo:∃u,h'.get? e=some u):Un fs ex H (upd H x o) h h':=by
 have hx:∀b,H b=none->b≠x:=fun b n z=>by subst z;rw[n] at mu;exact mu
 have hb:∀b,H b=none->b≠e:=fun b n z=>by
  subst z;rcases he with r|r
  ·exact hx b n r
  ·rw[n] at r;cases r
 have hm:∀b u,H b=some u->¬Mut (some u)->b≠x:=fun b u q nm z=>by subst z;rw[q] at mu;exact nm mu
 refine⟨fun b u q n _ _=>k b u (hb b n) q,fun b u q n _ _=>⟨u.slots,k b u (hb b n) q⟩,fun b u q n _=>by rw[Zv (hx b n)];exact n,fun b u q _=> ?_,
  fun b xs q=>by rw[Zv (hm b _ q fun z=>z)];exact q,fun b u xs q=>by rw[Zv (hm b _ q fun z=>z)];exact q,fun b ps q=>⟨#[],by rw[Zv (hm b _ q fun z=>z),q];simp⟩⟩
 by_cases hbe:b=e
 ·subst hbe;exact heo
 ·exact⟨u,k b u hbe q⟩
end
def trk(h:Heap)(H:Hp):List Addr:=(List.range h.objs.size).filter fun a=>(H a).isSome
def ZjI(h:Heap)(H:Hp):Heap:=PySem.W.hideAll h (trk h H)
theorem ZnB(h:Heap)(H:Hp):(ZjI h H).objs.size=h.objs.size:=PySem.W.hideAll_size _ _
theorem ZoA{h:Heap}{H:Hp}{b:Addr}{o:Obj}(e:h.get? b=some o)(n:H b=none):(ZjI h H).get? b=some o:=
 PySem.W.hideAll_get _ e fun hm=>by
  have q:(H b).isSome=true:=(List.mem_filter.mp hm).2;rw[n] at q;simp at q
theorem Zqm{h:Heap}{H:Hp}{b:Addr}{o:Obj}(e:(ZjI h H).get? b=some o):h.get? b=some o/\H b=none:=by
 have e':h.get? b=some o:=PySem.W.of_hideAll (trk h H) e;refine⟨e', ?_⟩;cases q:H b with
 |none=>rfl
 |some x=>
  have hm:b∈trk h H:=List.mem_filter.mpr ⟨List.mem_range.mpr (Heap.lt_size e'),by simp[q]⟩;have z:(ZjI h H).get? b=none:=PySem.W.hideAll_none (trk h H) hm;rw[z] at e;cases e
def Zhf(g h:Heap)(L:Addr):List (Addr×Obj):=(List.range h.objs.size).filterMap fun a=>if a=L\/(g.get? a).isSome=true then none else(h.get? a).map fun o=>(a,o)
theorem ZgL{g h:Heap}{L a:Addr}{o:Obj}(h1:a≠L)(h2:g.get? a=none)(h3:h.get? a=some o):(a,o)∈Zhf g h L:=
 List.mem_filterMap.mpr ⟨a,List.mem_range.mpr (Heap.lt_size h3),by simp[h1,h2,h3]⟩
theorem Zhx{g h:Heap}{L:Addr}{p:Addr×Obj}(hp:p∈Zhf g h L):p.1≠L/\g.get? p.1=none/\h.get? p.1=some p.2:=by
 obtain⟨b,_,e⟩:=List.mem_filterMap.mp hp
 split at e
 ·cases e
 ·rename_i hn
  cases q:h.get? b with
  |none=>rw[q] at e;simp at e
  |some u=>
   rw[q] at e
   simp only [Option.map_some,Option.some.injEq] at e
   subst e;refine⟨fun z=>hn (.inl z), ?_,q⟩;show g.get? b=none;cases r:g.get? b with
   |none=>rfl
   |some v=>exact(hn (.inr (by simp[r]))).elim
theorem ZoB{g h:Heap}{L:Addr}:News g L h (Zhf g h L):=fun p hp=>let ⟨a,b,c⟩:=Zhx hp;⟨c,a,b⟩
end L2
namespace L2
open PySem PySem.Spec PyProof.Rows
structure Mod (K:PySem.W.Frag) (mg:Str->Option Value) (base:Heap):Prop where
 kin:K.In base
 glob:base.Ns mainGlobals mg
 blt:∃mb,base.Ns builtinsNs mb/\∀x:Str,x≠"__name__"->mb x=bootBuiltins x
 nolimit:base.NoLimit
structure Cx where
 prog:Program
 w:World
 K:PySem.W.Frag
 mg:Str->Option Value
 base:Heap
 A:Around
 N:List Str
 s₀:Shared
 H₀:Hp
 env:Env
 outer:List Env
 stack:List Env
 ex:List Addr
 fn:Str->Bool
 calm:Bool
 pn:List (Addr×Obj)
 xe:Value->Shared->Prop
def frs(l:List Env):List Addr:=l.filterMap (·.frame)
abbrev Cx.fs(X:Cx):List Addr:=frs X.outer
def Vis(sc:Scope)(x:Str):Prop:=sc.names.lookup x=some .local\/sc.names.lookup x=some .cell\/sc.names.lookup x=some .free
def Loc(sc:Scope)(x:Str):Prop:=sc.names.lookup x=some .local\/sc.names.lookup x=some .cell
def Ztt(env:Env)(h:Heap)(m:Str->Option Value)(x:Str)(u:Value):Prop:=
 (env.kindOf x=some .local/\m x=some u)\/((env.kindOf x=some .cell\/env.kindOf x=some .free)/\∃c,env.cells.lookup x=some c/\h.IsCell c (some u))
structure Cx.Ok (X:Cx):Prop where
 mod:Mod X.K X.mg X.base
 kind:X.env.scope.kind=.function
 glob:X.env.globals=mainGlobals
 blt:X.env.builtins=builtinsNs
 above:X.s₀.heap.objs.size<=X.env.locals
 inj:∀x y c,X.env.cells.lookup x=some c->X.env.cells.lookup y=some c->x=y
 has:∀x,(X.env.kindOf x=some .cell\/X.env.kindOf x=some .free)->∃c,X.env.cells.lookup x=some c
 cab:∀x c,X.fn x=true->X.env.cells.lookup x=some c->X.s₀.heap.objs.size<=c
 hd:X.calm=true->X.A.handled=none
 frames:X.A.frames=some X.stack
 stk:X.stack=X.outer\/(X.stack=X.env::X.outer/\X.env.frame=some X.env.locals)
 exf:∀b∈X.ex,b≠X.env.locals/\∀x c,X.env.cells.lookup x=some c->c≠b
 bs:∀b o,X.base.get? b=some o->X.s₀.heap.get? b=some o/\X.H₀ b=none
 bsz:X.base.objs.size<=X.s₀.heap.objs.size
 noex:∀b o,X.base.get? b=some o->b∉X.ex
 exfs:∀b∈X.ex,b∉X.fs
 funs:X.s₀.heap.FunFrames X.base X.outer
 frf:∀b∈X.fs,X.H₀ b=none
structure Inv (X:Cx) (pins:List (Addr×Obj)) (σ:List (Option V)) (H:Hp) (s:Shared):Prop where
 ok:X.Ok
 os:s.os=X.s₀.os
 bare:AllBare s.gens
 base:Un X.fs X.ex X.H₀ H X.s₀.heap s.heap
 loc:∃m,s.heap.Ns X.env.locals m/\∀(i:Nat) (x:Str) (v:V),X.N[i]? =some x->σ[i]? =some (some v)->Vis X.env.scope x->∃u,Yn v u/\Ztt X.env s.heap m x u
 cell:∀x c,X.env.cells.lookup x=some c->∃v,s.heap.IsCell c v
 free:H X.env.locals=none
 freeC:∀x c,X.env.cells.lookup x=some c->H c=none
 pin:∀p∈X.pn++pins,s.heap.get? p.1=some p.2/\H p.1=none/\p.1≠X.env.locals/\p.1∉X.fs/\∀v,p.2.data≠.cell v
 hok:HOk X.prog X.w H s.heap
 len:σ.length=X.N.length
section
variable {X:Cx} {pins:List (Addr×Obj)} {σ:List (Option V)} {H H':Hp} {s:Shared} {h':Heap}
theorem Cx.Ok.nofr(ok:X.Ok){b:Addr}{o:Obj}(e:X.base.get? b=some o):b∉X.fs:=fun hb=>by
 have:=(ok.funs.mem hb).1;rw[e] at this;cases this
theorem Inv.bs(I:Inv X pins σ H s):∀b o,X.base.get? b=some o->s.heap.get? b=some o/\H b=none:=fun b o e=>
 ⟨I.base.keep b o (I.ok.bs b o e).1 (I.ok.bs b o e).2 (I.ok.nofr e) (I.ok.noex b o e),I.base.free b o (I.ok.bs b o e).1 (I.ok.bs b o e).2 (I.ok.noex b o e)⟩
theorem Inv.bk(I:Inv X pins σ H s):∀b o,X.base.get? b=some o->s.heap.get? b=some o:=fun b o e=>(I.bs b o e).1
theorem Inv.mod(I:Inv X pins σ H s):Mod X.K X.mg X.base:=I.ok.mod
theorem Inv.kIn(I:Inv X pins σ H s):X.K.In s.heap:=I.ok.mod.kin.keeps I.bk
theorem Inv.fr(I:Inv X pins σ H s):∃m,Fr X.base X.env.locals s.heap m:=
 let ⟨m,hn,_⟩:=I.loc
 ⟨m,hn,I.bk,Nat.le_trans I.ok.bsz I.ok.above⟩
theorem Inv.lt(I:Inv X pins σ H s):X.env.locals<s.heap.objs.size:=let ⟨_,hn,_⟩:=I.loc;hn.lt
theorem Inv.sz(I:Inv X pins σ H s):X.s₀.heap.objs.size<=s.heap.objs.size:=Nat.le_trans I.ok.above (Nat.le_of_lt I.lt)
theorem Inv.nofs(I:Inv X pins σ H s){a:Addr}(h:s.heap.objs.size<=a):a∉X.fs:=fun hb=>by
 obtain⟨_,o,ho,_⟩:=I.ok.funs.mem hb;exact absurd (Nat.lt_of_lt_of_le (Heap.lt_size ho) (Nat.le_trans I.sz h)) (Nat.lt_irrefl _)
theorem Inv.cne(I:Inv X pins σ H s):∀x c,X.env.cells.lookup x=some c->c≠X.env.locals:=fun x c e z=>by
 obtain⟨v,o,ho,hd⟩:=I.cell x c e;obtain⟨m,⟨o',es,ep,ho',hd',_⟩,_⟩:=I.loc;rw[z,ho'] at ho;cases ho;rw[hd'] at hd;cases hd
theorem Inv.funs(I:Inv X pins σ H s):s.heap.FunFrames X.base X.outer:=by
 have all:∀(l:List Env),(∀b∈frs l,b∈X.fs)->X.s₀.heap.FunFrames X.base l->s.heap.FunFrames X.base l:=by
  intro l
  induction l with
  |nil=>intro _ _;trivial
  |cons env r ih=>
   intro hs hl;obtain⟨hk,⟨L,o,hf,hn,ho,hd⟩,hr⟩:=hl;have hL:L∈X.fs:=hs L (by unfold frs;rw[List.filterMap_cons,hf];exact List.mem_cons_self)
   obtain⟨sl,e⟩:=I.base.slot L o ho (I.ok.frf L hL) hL fun z=>I.ok.exfs L z hL;exact⟨hk,⟨L,_,hf,hn,e,hd⟩,ih (fun b hb=>hs b (by unfold frs;rw[List.filterMap_cons,hf];exact List.mem_cons_of_mem _ hb)) hr⟩
 exact all X.outer (fun _ hb=>hb) I.ok.funs
theorem Inv.stack(I:Inv X pins σ H s):s.heap.FunFrames X.base X.stack:=by
 rcases I.ok.stk with e|⟨e,hf⟩
 ·rw[e];exact I.funs
 ·rw[e];obtain⟨m,hn,_⟩:=I.loc;refine .cons (by rw[I.ok.kind];decide) hf hn ?_ I.funs
  exact Heap.get?_none_of_le (Nat.le_trans I.ok.bsz I.ok.above)
theorem Inv.stkSub(I:Inv X pins σ H s):∀b∈frs X.stack,b∈X.env.locals::X.fs:=fun b hb=>by
 rcases I.ok.stk with e|⟨e,hf⟩
 ·rw[e] at hb;exact List.mem_cons_of_mem _ hb
 ·rw[e] at hb
  unfold frs at hb
  rw[List.filterMap_cons,hf] at hb
  exact hb
theorem Inv.stkFree(I:Inv X pins σ H s):∀b∈frs X.stack,H b=none:=fun b hb=>by
 rcases List.mem_cons.mp (I.stkSub b hb) with e|hb
 ·rw[e];exact I.free
 ·obtain⟨_,o,ho,_⟩:=I.ok.funs.mem hb;exact I.base.free b o ho (I.ok.frf b hb) fun z=>I.ok.exfs b z hb
theorem Inv.step{g':Array GenState}{t':Nat}{d':Drawn}{ch:List Addr}(I:Inv X pins σ H s)
  (hch:∀b∈ch,(b∈X.ex\/X.s₀.heap.objs.size<=b)/\b≠X.env.locals/\(∀x c,X.env.cells.lookup x=some c->c≠b)/\∀p∈X.pn++pins,p.1≠b)
  (keep:∀b o,b≠X.env.locals->b∉X.fs->b∉ch->s.heap.get? b=some o->H b=none->h'.get? b=some o)
  (slot:∀b o,b≠X.env.locals->b∈X.fs->b∉ch->s.heap.get? b=some o->H b=none->∃sl,h'.get? b=some {o with slots:=sl})(free:∀b o,b∉ch->s.heap.get? b=some o->H b=none->H' b=none)
  (there:∀b o,b∉ch->s.heap.get? b=some o->∃o',h'.get? b=some o')
  (tups:∀b xs,H b=some (.tup xs)->H' b=some (.tup xs))(frzs:∀b o u,H b=some (.frz o u)->H' b=some (.frz o u))(tbls:∀b ps,H b=some (.tbl ps)->∃more,H' b=some (.tbl (ps++more)))
  (ns:∀m,s.heap.Ns X.env.locals m->h'.Ns X.env.locals m)(hok:HOk X.prog X.w H' h')(hg:AllBare g'):
  Inv X pins σ H' {s with heap:=h',gens:=g',drawn:=d',toks:=t'}:=by
 have neL:∀b o,X.s₀.heap.get? b=some o->b≠X.env.locals:=fun b o e=>Nat.ne_of_lt (Nat.lt_of_lt_of_le (Heap.lt_size e) I.ok.above);have neC:∀b o,X.s₀.heap.get? b=some o->b∉X.ex->b∉ch:=fun b o e hx hb=>by
  rcases(hch b hb).1 with z|z
  ·exact hx z
  ·exact absurd (Nat.lt_of_lt_of_le (Heap.lt_size e) z) (Nat.lt_irrefl _)
 have cellK:∀x c,X.env.cells.lookup x=some c->∀v,s.heap.IsCell c v->h'.IsCell c v:=fun x c e v ⟨o,ho,hd⟩=>by
  have nch:c∉ch:=fun z=>(hch c z).2.2.1 x c e rfl
  by_cases hc:c∈X.fs
  ·obtain⟨sl,q⟩:=slot c o (I.cne x c e) hc nch ho (I.freeC x c e);exact⟨_,q,hd⟩
  ·exact⟨o,keep c o (I.cne x c e) hc nch ho (I.freeC x c e),hd⟩
 refine⟨I.ok,I.os,hg,⟨fun b o e n hb hx=> ?_,fun b o e n hb hx=> ?_,fun b o e n hx=> ?_,fun b o e hx=> ?_,fun b xs e=>tups b xs (I.base.tups b xs e),fun b o xs e=>frzs b o xs (I.base.frzs b o xs e),fun b ps e=> ?_⟩, ?_,fun x c e=> ?_, ?_,fun x c e=> ?_,fun p hp=> ?_,hok,I.len⟩
 ·exact keep b o (neL b o e) hb (neC b o e hx) (I.base.keep b o e n hb hx) (I.base.free b o e n hx)
 ·obtain⟨sl,e1⟩:=I.base.slot b o e n hb hx;obtain⟨sl',e2⟩:=slot b _ (neL b o e) hb (neC b o e hx) e1 (I.base.free b o e n hx);exact⟨sl',e2⟩
 ·obtain⟨o',e1⟩:=I.base.there b o e hx;exact free b o' (neC b o e hx) e1 (I.base.free b o e n hx)
 ·obtain⟨o',e1⟩:=I.base.there b o e hx;exact there b o' (neC b o e hx) e1
 ·obtain⟨m1,e1⟩:=I.base.tbls b ps e;obtain⟨m2,e2⟩:=tbls b _ e1;exact⟨m1++m2,by rw[e2,Array.append_assoc]⟩
 ·obtain⟨m,hn,hl⟩:=I.loc;refine⟨m,ns m hn,fun i x v e1 e2 e3=> ?_⟩;obtain⟨u,r,l⟩:=hl i x v e1 e2 e3;refine⟨u,r, ?_⟩;rcases l with l|⟨k,c,e,z⟩
  ·exact .inl l
  ·exact .inr ⟨k,c,e,cellK x c e _ z⟩
 ·obtain⟨v,z⟩:=I.cell x c e;exact⟨v,cellK x c e v z⟩
 ·obtain⟨m,⟨o,_,_,ho,_⟩,_⟩:=I.loc;exact free _ o (fun z=>(hch _ z).2.1 rfl) ho I.free
 ·obtain⟨v,o,ho,hd⟩:=I.cell x c e;exact free c o (fun z=>(hch c z).2.2.1 x c e rfl) ho (I.freeC x c e)
 ·obtain⟨e,n,ne,nf,d⟩:=I.pin p hp;have nch:p.1∉ch:=fun z=>(hch p.1 z).2.2.2 p hp rfl;exact⟨keep p.1 p.2 ne nf nch e n,free p.1 p.2 nch e n,ne,nf,d⟩
theorem Inv.un{t':Nat}(I:Inv X pins σ H s)(u:Un X.fs [] H H' s.heap h')(hok:HOk X.prog X.w H' h'):Inv X pins σ H' {s with heap:=h',toks:=t'}:=by
 obtain⟨m,⟨o,es,ep,ho,r⟩,_⟩:=id I.loc;obtain⟨sl,hL⟩:=u.any ho I.free (by simp);exact I.step (g':=s.gens) (d':=s.drawn) (ch:=[]) (fun _ z=>nomatch z) (fun b o _ hb _ e n=>u.keep b o e n hb (by simp)) (fun b o _ hb _ e n=>u.slot b o e n hb (by simp)) (fun b o _ e n=>u.free b o e n (by simp)) (fun b o _ e=>u.there b o e (by simp)) u.tups u.frzs u.tbls (fun m' hm=>by
  obtain⟨o',es',ep',ho',r'⟩:=hm;rw[ho] at ho';cases ho'
  exact⟨_,es',ep',hL,r'⟩) hok I.bare
theorem Inv.call{g':Array GenState}{t':Nat}{d':Drawn}{ch:List Addr}(I:Inv X pins σ H s)(u:Un (frs X.stack) ch H H' s.heap h')(hok:HOk X.prog X.w H' h')(hg:AllBare g')
  (hch:∀b∈ch,(b∈X.ex\/X.s₀.heap.objs.size<=b)/\b≠X.env.locals/\(∀x c,X.env.cells.lookup x=some c->c≠b)/\∀p∈X.pn++pins,p.1≠b):
  Inv X pins σ H' {s with heap:=h',gens:=g',drawn:=d',toks:=t'}:=by
 obtain⟨m,⟨o,es,ep,ho,r⟩,_⟩:=id I.loc;obtain⟨sl,hL⟩:=u.any ho I.free fun z=>(hch _ z).2.1 rfl;exact I.step (ch:=ch) hch (fun b o hL hb hc e n=>u.keep b o e n (fun z=>(List.mem_cons.mp (I.stkSub b z)).elim hL hb) hc) (fun b o _ _ hc e n=>u.any e n hc) (fun b o hc e n=>u.free b o e n hc) (fun b o hc e=>u.there b o e hc) u.tups u.frzs u.tbls (fun m' hm=>by
  obtain⟨o',es',ep',ho',r'⟩:=hm;rw[ho] at ho';cases ho'
  exact⟨_,es',ep',hL,r'⟩) hok hg
theorem Inv.turned{t':Nat}{it:Addr}(I:Inv X pins σ H s)(k:∀b o,b≠it->s.heap.get? b=some o->h'.get? b=some o)(hn:H it=none)(hL:it≠X.env.locals)
  (h1:it∈X.ex\/X.s₀.heap.objs.size<=it)(h2:∀x c,X.env.cells.lookup x=some c->c≠it)(h3:∀p∈X.pn++pins,p.1≠it):Inv X pins σ H {s with heap:=h',toks:=t'}:=by
 have nit:∀b u,H b=some u->b≠it:=fun b u e z=>by rw[z,hn] at e;cases e
 refine I.step (g':=s.gens) (d':=s.drawn) (ch:=[it]) (fun b hb=> ?_) (fun b o _ _ hc e _=>k b o (fun z=>hc (by simp[z])) e) (fun b o _ _ hc e _=>⟨o.slots,k b o (fun z=>hc (by simp[z])) e⟩) (fun _ _ _ _ n=>n)
  (fun b o hc e=>⟨o,k b o (fun z=>hc (by simp[z])) e⟩) (fun _ _ e=>e) (fun _ _ _ e=>e) (fun b ps e=>⟨#[],by rw[e];simp⟩) (fun m hm=> ?_) (fun b u e=> ?_) I.bare
 ·have e:b=it:=by simpa using hb
  subst e;exact⟨h1,hL,h2,h3⟩
 ·obtain⟨o,es,ep,ho,r⟩:=hm;exact⟨o,es,ep,k _ o (Ne.symm hL) ho,r⟩
 ·refine(I.hok b u e).stay (fun c v hc q=>k c v ?_ q) (fun _ q=>q) fun _ _ q=>q;rcases hc with z|z
  ·rw[z];exact nit b u e
  ·exact nit c _ z
theorem Inv.tok(I:Inv X pins σ H s)(t:Nat):Inv X pins σ H {s with toks:=t}:=I.un (h':=s.heap) (t':=t) Un.refl I.hok
theorem Inv.kept{t':Nat}(I:Inv X pins σ H s)(k:∀b u,s.heap.get? b=some u->h'.get? b=some u):Inv X pins σ H {s with heap:=h',toks:=t'}:=I.un (Un.kept k) (I.hok.kept k)
theorem Inv.laid{a:Addr}{o:HO}{t':Nat}(I:Inv X pins σ H s)(k:∀b u,s.heap.get? b=some u->h'.get? b=some u)(hp:s.heap.objs.size<=a)(new:XN X.prog X.w (upd H a o) h' a o):
  Inv X pins σ (upd H a o) {s with heap:=h',toks:=t'}:=I.un (Un.laid k hp (I.hok.fresh hp)) (I.hok.laid k hp new)
theorem Inv.write{x e:Addr}{o:HO}{t':Nat}(I:Inv X pins σ H s)(mu:Mut (H x))(he:e=x\/H e=some (.own x))(k:∀b u,b≠e->s.heap.get? b=some u->h'.get? b=some u)(heo:∃u,h'.get? e=some u)
  (new:XN X.prog X.w (upd H x o) h' x o):Inv X pins σ (upd H x o) {s with heap:=h',toks:=t'}:=I.un (Un.write mu he k heo) (I.hok.write mu he k heo new)
theorem Inv.weak{σ':List (Option V)}(I:Inv X pins σ H s)(hl:σ'.length=σ.length)(w:∀(i:Nat) v,σ'[i]? =some (some v)->σ[i]? =some (some v)):Inv X pins σ' H s:=
 ⟨I.ok,I.os,I.bare,I.base,let ⟨m,hn,hl'⟩:=I.loc;⟨m,hn,fun i x v e1 e2 e3=>hl' i x v e1 (w i v e2) e3⟩,I.cell,I.free,I.freeC,I.pin,I.hok,hl.trans I.len⟩
theorem Inv.pins_of{pins':List (Addr×Obj)}(I:Inv X pins σ H s)(h:∀p∈pins',s.heap.get? p.1=some p.2/\H p.1=none/\p.1≠X.env.locals/\p.1∉X.fs/\∀v,p.2.data≠.cell v):Inv X pins' σ H s:=
 ⟨I.ok,I.os,I.bare,I.base,I.loc,I.cell,I.free,I.freeC,fun p hp=>(List.mem_append.mp hp).elim (fun z=>I.pin p (List.mem_append_left _ z)) (h p),I.hok,I.len⟩
theorem Zhy{N:List Str}(hN:N.Nodup){i j:Nat}{x:Str}(a:N[i]? =some x)(b:N[j]? =some x):i=j:=by
 obtain⟨h1,e1⟩:=List.getElem?_eq_some_iff.mp a;obtain⟨h2,e2⟩:=List.getElem?_eq_some_iff.mp b;exact(List.getElem_inj hN).mp (e1.trans e2.symm)
theorem ZnC{M:Model}{A:Around}{E:Value->Shared->Prop}{i:Nat}{x:Str}{v:V}{u:Value}{Q:Unit->Shared->Prop}(I:Inv X pins σ H s)(hN:X.N.Nodup)(hi:X.N[i]? =some x)(hx:Loc X.env.scope x)(r:Yn v u)
  (h:∀s',Inv X pins (σ.set i (some v)) H s'->(∃a,Heap.SameBut a s.heap s'.heap/\(a=X.env.locals\/X.env.cells.lookup x=some a))->Q () s')(hf:X.fn x=true\/X.env.scope.names.lookup x=some .local:=by first|exact .inl rfl|exact .inr rfl|assumption):wpAny M A (storeName X.env x u) Q E s:=by
 obtain⟨m,hn,hl⟩:=id I.loc;have hcls:(X.env.scope.kind==.class||(X.env.scope.kind==.module&&X.env.locals !=X.env.globals))=false:=by rw[I.ok.kind];rfl
 have hiσ:i<σ.length:=by rw[I.len];exact(List.getElem?_eq_some_iff.mp hi).1
 have cne:=I.cne;have tracked:∀{a:Addr} {h':Heap},(∃o,s.heap.get? a=some o/\H a=none)->Heap.SameBut a s.heap h'->HOk X.prog X.w H h':=fun{a h'} ha hs b ob e=>by
  obtain⟨_,_,hfree⟩:=ha;refine(I.hok b ob e).stay (fun c w' hc q=>(hs.2 c ?_).trans q) (fun _ q=>q) fun _ _ q=>q;rintro rfl;rcases hc with rfl|hc
  ·rw[hfree] at e;cases e
  ·rw[hfree] at hc;cases hc
 rcases hx with hk|hk
 ·refine wpAny_storeName_local hk hn (fun h' hn' hs=> ?_) hcls;obtain⟨oL,_,_,hoL,_⟩:=id hn;refine h _ ⟨I.ok,I.os,I.bare,⟨fun b o e n hb hx=> ?_,fun b o e n hb hx=> ?_,I.base.free,fun b o e hx=> ?_,I.base.tups,I.base.frzs,I.base.tbls⟩,⟨_,hn',fun j y v' e1 e2 e3=> ?_⟩,fun y c e=> ?_,I.free,I.freeC,fun p hp=> ?_,tracked ⟨oL,hoL,I.free⟩ hs,by simpa using I.len⟩ ⟨_,hs,.inl rfl⟩
  ·exact(hs.2 b (Nat.ne_of_lt (Nat.lt_of_lt_of_le (Heap.lt_size e) I.ok.above))).trans (I.base.keep b o e n hb hx)
  ·obtain⟨sl,e1⟩:=I.base.slot b o e n hb hx;exact⟨sl,(hs.2 b (Nat.ne_of_lt (Nat.lt_of_lt_of_le (Heap.lt_size e) I.ok.above))).trans e1⟩
  ·obtain⟨o',e1⟩:=I.base.there b o e hx;exact⟨o',(hs.2 b (Nat.ne_of_lt (Nat.lt_of_lt_of_le (Heap.lt_size e) I.ok.above))).trans e1⟩
  ·by_cases hj:j=i
   ·subst hj;rw[hi] at e1;cases e1
    rw[List.getElem?_set_self hiσ] at e2
    cases e2;exact⟨u,r,.inl ⟨hk,by simp⟩⟩
   ·rw[List.getElem?_set_ne (Ne.symm hj)] at e2
    obtain⟨u',r',q⟩:=hl j y v' e1 e2 e3;refine⟨u',r', ?_⟩;rcases q with ⟨k,e⟩|⟨k,c,e,z⟩
    ·refine .inl ⟨k, ?_⟩;have:y≠x:=fun e=>hj (Zhy hN e1 (e▸hi));simp[this,e]
    ·exact .inr ⟨k,c,e,z.sameBut hs (cne y c e)⟩
  ·obtain⟨w',z⟩:=I.cell y c e;exact⟨w',z.sameBut hs (cne y c e)⟩
  ·obtain⟨e,n,ne,nf,d⟩:=I.pin p hp;exact⟨(hs.2 p.1 ne).trans e,n,ne,nf,d⟩
 ·have hfn:X.fn x=true:=by
   rcases hf with z|z
   ·exact z
   ·rw[z] at hk;cases hk
  obtain⟨c,hc⟩:=I.ok.has x (.inl hk);obtain⟨w',z⟩:=I.cell x c hc;refine wpAny_storeName_cell I.ok.kind hk hc z (fun h' hc' hs=> ?_);obtain⟨oc,hoc,hocd⟩:=id z;refine h {s with heap:=h'} ⟨I.ok,I.os,I.bare,⟨fun b o e n hb hx=> ?_,fun b o e n hb hx=> ?_,I.base.free,fun b o e hx=> ?_,I.base.tups,I.base.frzs,I.base.tbls⟩,⟨m,hn.sameBut hs (Ne.symm (cne x c hc)),fun j y v' e1 e2 e3=> ?_⟩,fun y c' e=> ?_,I.free,I.freeC,fun p hp=> ?_,tracked ⟨oc,hoc,I.freeC x c hc⟩ hs,by simpa using I.len⟩ ⟨c,hs,.inr hc⟩
  ·exact(hs.2 b (Nat.ne_of_lt (Nat.lt_of_lt_of_le (Heap.lt_size e) (I.ok.cab x c hfn hc)))).trans (I.base.keep b o e n hb hx)
  ·obtain⟨sl,e1⟩:=I.base.slot b o e n hb hx;exact⟨sl,(hs.2 b (Nat.ne_of_lt (Nat.lt_of_lt_of_le (Heap.lt_size e) (I.ok.cab x c hfn hc)))).trans e1⟩
  ·obtain⟨o',e1⟩:=I.base.there b o e hx;exact⟨o',(hs.2 b (Nat.ne_of_lt (Nat.lt_of_lt_of_le (Heap.lt_size e) (I.ok.cab x c hfn hc)))).trans e1⟩
  ·by_cases hj:j=i
   ·subst hj;rw[hi] at e1;cases e1
    rw[List.getElem?_set_self hiσ] at e2
    cases e2;exact⟨u,r,.inr ⟨.inl hk,c,hc,hc'⟩⟩
   ·rw[List.getElem?_set_ne (Ne.symm hj)] at e2
    obtain⟨u',r',q⟩:=hl j y v' e1 e2 e3;refine⟨u',r', ?_⟩;rcases q with q|⟨k,c',e,z'⟩
    ·exact .inl q
    ·refine .inr ⟨k,c',e,z'.sameBut hs ?_⟩;rintro rfl;exact hj (Zhy hN e1 (I.ok.inj _ _ _ e hc▸hi))
  ·by_cases hcc:c'=c
   ·subst hcc;exact⟨_,hc'⟩
   ·obtain⟨w2,z2⟩:=I.cell y c' e;exact⟨w2,z2.sameBut hs hcc⟩
  ·obtain⟨e,n,ne,nf,d⟩:=I.pin p hp;refine⟨(hs.2 p.1 ?_).trans e,n,ne,nf,d⟩;intro q;rw[q,hoc] at e
   have q':oc=p.2:=Option.some.inj e;exact d w' (by rw[<-q'];exact hocd)
theorem Zhz{M:Model}{A:Around}{E:Value->Shared->Prop}{i:Nat}{x:Str}{v:V}{u:Value}{Q:Unit->Shared->Prop}(I:Inv X pins σ H s)(hN:X.N.Nodup)(hi:X.N[i]? =some x)(hx:Loc X.env.scope x)(r:Yn v u)
  (h:∀s',Inv X pins (σ.set i (some v)) H s'->Q () s')(hf:X.fn x=true\/X.env.scope.names.lookup x=some .local:=by first|exact .inl rfl|exact .inr rfl|assumption):wpAny M A (storeName X.env x u) Q E s:=
 ZnC I hN hi hx r (fun s' I' _=>h s' I') hf
theorem Inv.call'{s':Shared}{ch:List Addr}(I:Inv X pins σ H s)(ho:s'.os=s.os)(u:Un (frs X.stack) ch H H' s.heap s'.heap)(hok:HOk X.prog X.w H' s'.heap)(hg:AllBare s'.gens)
  (hch:∀b∈ch,(b∈X.ex\/X.s₀.heap.objs.size<=b)/\b≠X.env.locals/\(∀x c,X.env.cells.lookup x=some c->c≠b)/\∀p∈X.pn++pins,p.1≠b):Inv X pins σ H' s':=by
 obtain⟨h',g',d',t',o'⟩:=s';have e:o'=s.os:=ho;subst e;exact I.call (g':=g') (t':=t') (d':=d') u hok hg hch
end
abbrev XK:=Value->Option Addr->Hp->Prop
abbrev St:=List (Option V)
abbrev VK:=V->Hp->Prop
abbrev TE:=St->Hp->VK->Prop
abbrev TT:=St->Hp->(Bool->Hp->Prop)->Prop
abbrev TA:=St->Hp->(List V->Hp->Prop)->Prop
structure Zfg where
 nx:St->Hp->Prop
 rt:VK
 bk:St->Hp->Prop:=fun _ _=>False
 ct:St->Hp->Prop:=fun _ _=>False
abbrev TS:=Zfg->St->Hp->Prop
def EP(X:Cx)(pins:List (Addr×Obj))(σ:St)(Q:VK)(u:Value)(s':Shared):Prop:=∃v H',Inv X pins σ H' s'/\Yn v u/\Q v H'
def TP(X:Cx)(pins:List (Addr×Obj))(σ:St)(Q:Bool->Hp->Prop)(b:Bool)(s':Shared):Prop:=∃H',Inv X pins σ H' s'/\Q b H'
def AP(X:Cx)(pins:List (Addr×Obj))(σ:St)(Q:List V->Hp->Prop)(us:List Value)(s':Shared):Prop:=∃vs H',Inv X pins σ H' s'/\Yr vs us/\Q vs H'
def SP(X:Cx)(pins:List (Addr×Obj))(D:Zfg)(f:Flow)(s':Shared):Prop:=
 match f with
 | .next=>∃σ' H',Inv X pins σ' H' s'/\D.nx σ' H'
 | .brk=>∃σ' H',Inv X pins σ' H' s'/\D.bk σ' H'
 | .cont=>∃σ' H',Inv X pins σ' H' s'/\D.ct σ' H'
 | .ret u=>∃v σ' H',Inv X pins σ' H' s'/\Yn v u/\D.rt v H'
def PE(X:Cx)(e:Expr)(t:TE):Prop:=
 ∀(pins:List (Addr×Obj)) (s:Shared) (σ:St) (H:Hp) (Q:VK),Inv X pins σ H s->t σ H Q->wpAny (model X.prog X.w) X.A (eval e X.env) (EP X pins σ Q) X.xe s
def PT(X:Cx)(e:Expr)(t:TT):Prop:=
 ∀(pins:List (Addr×Obj)) (s:Shared) (σ:St) (H:Hp) (Q:Bool->Hp->Prop),Inv X pins σ H s->t σ H Q->wpAny (model X.prog X.w) X.A (isTrue e X.env (eval e X.env)) (TP X pins σ Q) X.xe s
def PW(X:Cx)(e:Expr)(t:TT):Prop:=
 ∀(whole:Sem Value) (pins:List (Addr×Obj)) (s:Shared) (σ:St) (H:Hp) (Q:Bool->Hp->Prop),Inv X pins σ H s->t σ H Q->wpAny (model X.prog X.w) X.A (isTrue e X.env whole) (TP X pins σ Q) X.xe s
theorem PW.pt{X:Cx}{e:Expr}{t:TT}(h:PW X e t):PT X e t:=h _
def PA(X:Cx)(es:List Expr)(t:TA):Prop:=
 ∀(pos:Pos) (pins:List (Addr×Obj)) (s:Shared) (σ:St) (H:Hp) (Q:List V->Hp->Prop),Inv X pins σ H s->t σ H Q->wpAny (model X.prog X.w) X.A (spliced (backTo pos (starEach es X.env))) (AP X pins σ Q) X.xe s
def PS(X:Cx)(st:Stmt)(t:TS):Prop:=
 ∀(pins:List (Addr×Obj)) (s:Shared) (σ:St) (H:Hp) (D:Zfg),Inv X pins σ H s->t D σ H->wpAny (model X.prog X.w) X.A (exec st X.env) (SP X pins D) X.xe s
def PSs(X:Cx)(st:List Stmt)(t:TS):Prop:=
 ∀(pins:List (Addr×Obj)) (s:Shared) (σ:St) (H:Hp) (D:Zfg),Inv X pins σ H s->t D σ H->wpAny (model X.prog X.w) X.A (execs st X.env) (SP X pins D) X.xe s
theorem thn{α:Type}{t:Sem α}{Q Q':α->Shared->Prop}{M:Model}{A:Around}{E:Value->Shared->Prop}{s:Shared}(h:wpAny M A t Q E s)(hQ:∀a s,Q a s->Q' a s):wpAny M A t Q' E s:=wpAny_mono h hQ fun _ _ x=>x
end L2
namespace L2
open PySem PySem.Spec PyProof.Rows
section
variable {X:Cx}
def ZoC(i:Nat):TE:=fun σ H Q=>∃v,σ[i]? =some (some v)/\Q v H
def tC(v:V):TE:=fun _ H Q=>Q v H
theorem Zrz{i:Nat}{x:Str}{pos:Pos}(hN:X.N[i]? =some x)(hv:Vis X.env.scope x)(hd:(x==("__debug__":Str))=false:=by decide)(hcd:(x==("__classdict__":Str))=false:=by decide):PE X (.Name x pos) (ZoC i):=by
 intro pins s σ H Q I h;obtain⟨v,e,h⟩:=h;obtain⟨m,hn,hl⟩:=I.loc;obtain⟨u,r,l⟩:=hl i x v hN e hv;have fin:EP X pins σ Q u s:=⟨v,H,I,r,h⟩
 rcases l with ⟨hk,hm⟩|⟨hk,c,hc,hcell⟩
 ·exact wpAny_Name (wpAny_loadName_local I.ok.kind hk hn hm fin) hd
 ·rcases hk with hk|hk
  ·exact wpAny_Name (wpAny_loadName_cell I.ok.kind hk hc hcell fin) hd
  ·exact wpAny_Name (wpAny_loadName_free I.ok.kind hk hc hcell fin hcd) hd
theorem Zo{i j pos}:PE X (.Constant (.int i) j pos) (tC (.int i)):=fun _ _ _ H _ I h=>wpAny_Constant_int ⟨.int i,H,I.tok _,⟨_,rfl⟩,h⟩
theorem Zfh{b j pos}:PE X (.Constant (.bool b) j pos) (tC (.bl b)):=fun _ _ _ H _ I h=>Constant_bool ⟨.bl b,H,I,rfl,h⟩
theorem Yv{j pos}:PE X (.Constant .none j pos) (tC .non):=fun _ _ _ H _ I h=>Constant_none ⟨.non,H,I,rfl,h⟩
theorem ZR{x j pos}:PE X (.Constant (.str x) j pos) (tC (.str x)):=fun _ _ _ H _ I h=>Calls.Constant_str ⟨.str x,H,I.tok _,⟨_,rfl⟩,h⟩
def Gl(X:Cx)(x:Str):Prop:=X.env.kindOf x=some .globalImplicit
theorem ZcZ{E:Value->Shared->Prop}{pins:List (Addr×Obj)}{s:Shared}{σ:St}{H:Hp}{x:Str}{u:Value}{pos:Pos}{Q:Value->Shared->Prop}(I:Inv X pins σ H s)(hg:Gl X x)(hm:X.mg x=some u)(h:Q u s)
  (hd:(x==("__debug__":Str))=false:=by decide):wpAny (model X.prog X.w) X.A (eval (.Name x pos) X.env) Q E s:=
 Calls.Name_function_global I.ok.kind hg (Calls.loadGlobal_global (by rw[I.ok.glob];exact I.mod.glob.keeps I.bk) hm h) hd
theorem ZhA{E:Value->Shared->Prop}{pins:List (Addr×Obj)}{s:Shared}{σ:St}{H:Hp}{x:Str}{u:Value}{pos:Pos}{Q:Value->Shared->Prop}(I:Inv X pins σ H s)(hg:Gl X x)(hm:X.mg x=none)(hv:bootBuiltins x=some u)(h:Q u s)
  (hn:x≠"__name__":=by decide)(hd:(x==("__debug__":Str))=false:=by decide):wpAny (model X.prog X.w) X.A (eval (.Name x pos) X.env) Q E s:=by
 obtain⟨mb,h1,h2⟩:=I.mod.blt;exact Calls.Name_function_global I.ok.kind hg (Calls.loadGlobal_builtin (by rw[I.ok.glob];exact I.mod.glob.keeps I.bk) hm (by rw[I.ok.blt];exact h1.keeps I.bk) ((h2 x hn).trans hv) h) hd
theorem Xp{x:Str}{v:V}{u:Value}{pos:Pos}(hg:Gl X x)(hm:X.mg x=some u)(r:Yn v u)(hd:(x==("__debug__":Str))=false:=by decide):PE X (.Name x pos) (tC v):=
 fun _ _ _ H _ I h=>ZcZ I hg hm ⟨v,H,I,r,h⟩ hd
theorem Zqn{x:Str}{v:V}{u:Value}{pos:Pos}(hg:Gl X x)(hm:X.mg x=none)(hv:bootBuiltins x=some u)(r:Yn v u)(hn:x≠"__name__":=by decide)(hd:(x==("__debug__":Str))=false:=by decide):PE X (.Name x pos) (tC v):=
 fun _ _ _ H _ I h=>ZhA I hg hm hv ⟨v,H,I,r,h⟩ hn hd
variable {a b:Expr} {ta tb:TE} {pos:Pos}
def PC(X:Cx)(op:CmpOp)(a b:Expr)(t:TE):Prop:=
 ∀(pins:List (Addr×Obj)) (s:Shared) (σ:St) (H:Hp) (Q:VK),Inv X pins σ H s->t σ H Q->
  wpAny (model X.prog X.w) X.A (eval a X.env) (fun v s₁=>wpAny (model X.prog X.w) X.A (eval b X.env) (fun u s₂=>wpAny (model X.prog X.w) X.A (compareOp op v u) (EP X pins σ Q) X.xe s₂) X.xe s₁) X.xe s
def tB(t:TE):TT:=fun σ H Q=>t σ H fun x H1=>∃c,x=.bl c/\Q c H1
theorem ZrA{op:CmpOp}{t:TE}(h:PC X op a b t)(h1:behindInMarks op b=false:=by first|exact nobehind _ (by decide) (by decide)|rfl):PE X (.Compare a [op] [b] pos) t:=fun pins s σ H Q I hw=>wpAny_Compare1 (h pins s σ H Q I hw) h1
theorem Zg4{op:CmpOp}{t:TE}(h:PC X op a b t)(h1:behindInMarks op b=false:=by first|exact nobehind _ (by decide) (by decide)|rfl):PT X (.Compare a [op] [b] pos) (tB t):=by
 intro pins s σ H Q I hw;refine wpAny_isTrue_Compare1 (thn (h pins s σ H _ I hw) fun v s1 h1=>thn h1 fun u s2 h2=>thn h2 fun c s3 ⟨x,H1,I1,r1,q1⟩=> ?_) h1;obtain⟨d,rfl,q⟩:=q1;cases r1;exact wpAny_truthy_bool ⟨H1,I1,q⟩
theorem ZeD{e:Expr}{t:TE}(h:PE X e t)(he:∀whole,isTrue e X.env whole=(do let v<-whole;standAt e.pos;holding [v] (truthy v)):=by intro _;rfl):PT X e (tB t):=by
 intro pins s σ H Q I hw;refine isTrue_plain (thn (h pins s σ H _ I hw) fun v s1 ⟨x,H1,I1,r1,q1⟩=> ?_) (he _);obtain⟨d,rfl,q⟩:=q1;cases r1;exact wpAny_truthy_bool ⟨H1,I1,q⟩
variable {tA tB':TT} {rest:List Expr}
def Ztu(t u:TT):TT:=fun σ H Q=>t σ H fun c H1=>if c=true then u σ H1 Q else Q false H1
def tOr(t u:TT):TT:=fun σ H Q=>t σ H fun c H1=>if c=true then Q true H1 else u σ H1 Q
def Ztv(t:TT):TT:=fun σ H Q=>t σ H fun c H1=>Q (!c) H1
theorem XH(ha:PT X a tA):PW X (.BoolOp .And [a] pos) tA:=by
 intro wh pins s σ H Q I h;refine isTrue_and (thn (ha pins s σ H Q I h) fun c s1 e=> ?_);cases c with
 |true=>exact isTrue_and_nil e
 |false=>exact e
theorem ZjJ(ha:PT X a tA):PW X (.BoolOp .Or [a] pos) tA:=by
 intro wh pins s σ H Q I h;refine isTrue_or (thn (ha pins s σ H Q I h) fun c s1 e=> ?_);cases c with
 |false=>exact isTrue_or_nil e
 |true=>exact e
theorem Jx(ha:PT X a tA)(hb:PW X (.BoolOp .And (b::rest) pos) tB'):PW X (.BoolOp .And (a::b::rest) pos) (Ztu tA tB'):=by
 intro wh pins s σ H Q I h;refine isTrue_and (thn (ha pins s σ H _ I h) fun c s1 ⟨H1,I1,q1⟩=> ?_);cases c with
 |true=>exact hb wh pins s1 σ H1 Q I1 q1
 |false=>exact⟨H1,I1,q1⟩
theorem Zn0(ha:PT X a tA)(hb:PW X (.BoolOp .Or (b::rest) pos) tB'):PW X (.BoolOp .Or (a::b::rest) pos) (tOr tA tB'):=by
 intro wh pins s σ H Q I h;refine isTrue_or (thn (ha pins s σ H _ I h) fun c s1 ⟨H1,I1,q1⟩=> ?_);cases c with
 |true=>exact⟨H1,I1,q1⟩
 |false=>exact hb wh pins s1 σ H1 Q I1 q1
theorem ZjK(ha:PT X a tA):PT X (.UnaryOp .Not a pos) (Ztv tA):=by
 intro pins s σ H Q I h;exact isTrue_not (ha pins s σ H (fun c H1=>Q (!c) H1) I h)
def Zsv(ta tb:TE):TE:=fun σ H Q=>ta σ H fun x H1=>∃c,x=.bl c/\if c=true then tb σ H1 Q else Q (.bl false) H1
theorem ZlX{op}{t:TE}(h:PE X a t):PE X (.BoolOp op [a] pos) t:=fun pins s σ H Q I hw=>BoolOp_one (h pins s σ H Q I hw)
theorem ZjL(ha:PE X a ta)(hb:PE X (.BoolOp .And (b::rest) pos) tb):PE X (.BoolOp .And (a::b::rest) pos) (Zsv ta tb):=by
 intro pins s σ H Q I h;refine BoolOp_and (thn (ha pins s σ H _ I h) fun v s1 ⟨x,H1,I1,r1,q1⟩=> ?_);obtain⟨c,rfl,q1⟩:=q1;cases r1;refine wpAny_truthy_bool ?_;cases c with
 |true=>exact hb pins s1 σ H1 Q I1 q1
 |false=>exact⟨.bl false,H1,I1,rfl,q1⟩
def tIf(t:TT)(ta tb:TE):TE:=fun σ H Q=>t σ H fun c H1=>if c=true then ta σ H1 Q else tb σ H1 Q
theorem Zfi{c:Expr}(hc:PT X c tA)(ha:PE X a ta)(hb:PE X b tb):PE X (.IfExp c a b pos) (tIf tA ta tb):=by
 intro pins s σ H Q I h;refine wpAny_IfExp (thn (hc pins s σ H _ I h) fun d s1 ⟨H1,I1,q1⟩=> ?_);cases d with
 |true=>exact ha pins s1 σ H1 Q I1 q1
 |false=>exact hb pins s1 σ H1 Q I1 q1
end
end L2
namespace L2
open PySem PySem.Spec PyProof.Rows
def SqL(K:PySem.W.Frag)(H:Hp)(a:Addr)(xs:List V):Prop:=
 Rd H a (.lst xs)\/
  ∃(o:Obj) (its:Array Value) (n:Nat),K.lookup a=some o/\o.cls=.type "list"/\o.dict=none/\o.data=.seq its n/\its.size<=sizeLine/\Yr xs its.toList
def SqT(K:PySem.W.Frag)(H:Hp)(a:Addr)(xs:List V):Prop:=
 Rd H a (.tup xs)\/
  ∃(o:Obj) (its:Array Value) (n:Nat),K.lookup a=some o/\o.cls=.type "tuple"/\o.data=.seq its n/\its.size<=sizeLine/\Yr xs its.toList
def Ztw:Value->Option V
 | .none=>some .non
 | .bool b=>some (.bl b)
 | .int i _=>some (.int i)
 | .str x _=>some (.str x)
 | .bytes b _=>some (.byt b)
 | .float b _=>some (.flt b)
 | .ref a=>some (.ref a)
 | .type n=>some (.ty n)
 |_=>none
theorem Yn.abs{x:V}{u:Value}(r:Yn x u):Ztw u=some x:=by
 cases x with
 |non=>cases r;rfl
 |bl _=>cases r;rfl
 |int _=>obtain⟨t,rfl⟩:=r;rfl
 |str _=>obtain⟨t,rfl⟩:=r;rfl
 |byt _=>obtain⟨t,rfl⟩:=r;rfl
 |flt _=>obtain⟨t,rfl⟩:=r;rfl
 |ref _=>cases r;rfl
 |ty _=>cases r;rfl
theorem Yn.inj{x y:V}{u:Value}(r:Yn x u)(q:Yn y u):x=y:=Option.some.inj (r.abs.symm.trans q.abs)
theorem Yr.inj:∀{xs ys:List V} {us:List Value},Yr xs us->Yr ys us->xs=ys
 |_,_,_,.nil,.nil=>rfl
 |_,_,_,.cons r t,.cons r' t'=>by rw[r.inj r',Yr.inj t t']
section
variable {X:Cx} {pins:List (Addr×Obj)} {σ:St} {H:Hp} {s:Shared} {a:Addr} {xs ys:List V}
theorem SqL.of{K:PySem.W.Frag}(h:H a=some (.lst xs)):SqL K H a xs:=.inl (.inl h)
theorem SqT.of{K:PySem.W.Frag}(h:H a=some (.tup xs)):SqT K H a xs:=.inl (.inl h)
theorem Inv.list(I:Inv X pins σ H s)(h:SqL X.K H a xs):∃its:List Value,Yr xs its/\PlainL s.heap a its.toArray/\xs.length<=sizeLine:=by
 rcases h with h|⟨o,its,n,hk,hc,hd,hs,hz,r⟩
 ·obtain⟨z,its,n,r,e⟩:=h.ok I.hok;exact⟨its,r,⟨_,n,e,rfl,rfl,rfl⟩,z⟩
 ·refine⟨its.toList,r,⟨o,n,I.kIn a o hk,hc,hd,by simpa using hs⟩, ?_⟩;have e:=r.length;simp only [Array.length_toList] at e
  omega
theorem Inv.tuple(I:Inv X pins σ H s)(h:SqT X.K H a xs):∃its:List Value,Yr xs its/\IsTup s.heap a its.toArray/\xs.length<=sizeLine:=by
 rcases h with h|⟨o,its,n,hk,hc,hs,hz,r⟩
 ·obtain⟨z,its,r,p⟩:=h.ok I.hok;exact⟨its,r,p,z⟩
 ·refine⟨its.toList,r,⟨o,I.kIn a o hk,hc,n,by simpa using hs⟩, ?_⟩;have e:=r.length;simp only [Array.length_toList] at e
  omega
theorem Inv.list_inj(I:Inv X pins σ H s)(h:SqL X.K H a xs)(h':SqL X.K H a ys):xs=ys:=by
 obtain⟨its,r,⟨o,n,e,_,_,d⟩,_⟩:=I.list h;obtain⟨its',r',⟨o',n',e',_,_,d'⟩,_⟩:=I.list h';rw[e] at e';cases e'
 rw[d] at d'
 injection d' with d1 _
 have:its=its':=by simpa using congrArg Array.toList d1
 subst this;exact r.inj r'
theorem Inv.tuple_inj(I:Inv X pins σ H s)(h:SqT X.K H a xs)(h':SqT X.K H a ys):xs=ys:=by
 obtain⟨its,r,⟨o,e,_,n,d⟩,_⟩:=I.tuple h;obtain⟨its',r',⟨o',e',_,n',d'⟩,_⟩:=I.tuple h';rw[e] at e';cases e'
 rw[d] at d'
 injection d' with d1 _
 have:its=its':=by simpa using congrArg Array.toList d1
 subst this;exact r.inj r'
end
abbrev Cx.wish(X:Cx)(E:Value->Shared->Prop):Cx:={X with xe:=E}
abbrev Cx.nox(X:Cx):Cx:=X.wish fun _ _=>False
theorem Cx.Ok.wish{X:Cx}(ok:X.Ok)(E:Value->Shared->Prop):(X.wish E).Ok:=
 ⟨ok.mod,ok.kind,ok.glob,ok.blt,ok.above,ok.inj,ok.has,ok.cab,ok.hd,ok.frames,ok.stk,ok.exf,ok.bs,ok.bsz,ok.noex,ok.exfs,ok.funs,ok.frf⟩
theorem Cx.Ok.unwish{X:Cx}{E:Value->Shared->Prop}(ok:(X.wish E).Ok):X.Ok:=
 ⟨ok.mod,ok.kind,ok.glob,ok.blt,ok.above,ok.inj,ok.has,ok.cab,ok.hd,ok.frames,ok.stk,ok.exf,ok.bs,ok.bsz,ok.noex,ok.exfs,ok.funs,ok.frf⟩
section
variable {X:Cx} {pins:List (Addr×Obj)} {σ:St} {H:Hp} {s:Shared} {E:Value->Shared->Prop}
theorem Inv.wish(I:Inv X pins σ H s)(E:Value->Shared->Prop):Inv (X.wish E) pins σ H s:=⟨I.ok.wish E,I.os,I.bare,I.base,I.loc,I.cell,I.free,I.freeC,I.pin,I.hok,I.len⟩
theorem Inv.unwish(I:Inv (X.wish E) pins σ H s):Inv X pins σ H s:=⟨I.ok.unwish,I.os,I.bare,I.base,I.loc,I.cell,I.free,I.freeC,I.pin,I.hok,I.len⟩
theorem SP.unwish{D:Zfg}{f:Flow}{s':Shared}(h:SP (X.wish E) pins D f s'):SP X pins D f s':=by
 cases f with
 |next=>obtain⟨σ',H',I,q⟩:=h;exact⟨σ',H',I.unwish,q⟩
 |brk=>obtain⟨σ',H',I,q⟩:=h;exact⟨σ',H',I.unwish,q⟩
 |cont=>obtain⟨σ',H',I,q⟩:=h;exact⟨σ',H',I.unwish,q⟩
 |ret u=>obtain⟨v,σ',H',I,r,q⟩:=h;exact⟨v,σ',H',I.unwish,r,q⟩
theorem PSs.nox{st:List Stmt}{t:TS}(h:PSs X.nox st t):PSs X st t:=fun pins s σ H D I hw=>
 wpAny_mono (h pins s σ H D (I.wish _) hw) (fun _ _ q=>q.unwish) fun _ _ z=>False.elim z
end
section
variable {X:Cx} {st:Stmt} {rest:List Stmt} {t u:TS} {e:Expr} {te:TE} {pos:Pos}
def Zsw:TS:=fun D σ H=>D.nx σ H
def ZnD(t u:TS):TS:=fun D σ H=>t {D with nx:=u D} σ H
theorem ZW:PSs X [] Zsw:=fun _ _ σ H _ I h=>wpAny_execs_nil ⟨σ,H,I,h⟩
theorem Zh(h1:PS X st t)(h2:PSs X rest u):PSs X (st::rest) (ZnD t u):=by
 intro pins s σ H D I h;refine wpAny_execs_cons (thn (h1 pins s σ H {D with nx:=u D} I h) fun f s1 q=> ?_);cases f with
 |next=>
  obtain⟨σ',H',I',q⟩:=q;exact h2 pins s1 σ' H' D I' q
 |ret v=>exact q
 |brk=>exact q
 |cont=>exact q
theorem Zu(h1:PS X st t):PSs X [st] t:=by
 intro pins s σ H D I h;refine wpAny_execs_cons (thn (h1 pins s σ H D I h) fun f s1 q=> ?_);cases f with
 |next=>exact wpAny_execs_nil q
 |ret v=>exact q
 |brk=>exact q
 |cont=>exact q
theorem Inv.quiet{pins:List (Addr×Obj)}{σ:St}{H:Hp}{s:Shared}(I:Inv X pins σ H s):interactive X.env=false:=by simp[interactive,I.ok.kind]
def Zsx(te:TE):TS:=fun D σ H=>te σ H fun _ H1=>D.nx σ H1
theorem Xv(he:PE X e te)(hs:swapsWith e none pos.line X.env=pure false:=by rfl):PS X (.Expr e pos) (Zsx te):=by
 intro pins s σ H D I h;exact wpAny_Expr_any (thn (he pins s σ H _ I h) fun v s1 ⟨x,H1,I1,r1,q1⟩=>⟨σ,H1,I1,q1⟩) I.quiet hs
def Ztx(te:TE):TS:=fun D σ H=>te σ H D.rt
theorem ZJ(he:PE X e te):PS X (.Return (some e) pos) (Ztx te):=by
 intro pins s σ H D I h;exact wpAny_Return_some (thn (he pins s σ H _ I h) fun v s1 ⟨x,H1,I1,r1,q1⟩=>⟨x,σ,H1,I1,r1,q1⟩)
def Zty(c:TT)(t u:TS):TS:=fun D σ H=>c σ H fun b H1=>if b=true then t D σ H1 else u D σ H1
theorem Yj{c:Expr}{a b:List Stmt}{tc:TT}(hc:PT X c tc)(ha:PSs X a t)(hb:PSs X b u):PS X (.If c a b pos) (Zty tc t u):=by
 intro pins s σ H D I h;refine wpAny_If (thn (hc pins s σ H _ I h) fun d s1 ⟨H1,I1,q1⟩=> ?_);cases d with
 |true=>exact ha pins s1 σ H1 D I1 q1
 |false=>exact hb pins s1 σ H1 D I1 q1
end
abbrev TG:=V->St->Hp->(St->Hp->Prop)->Prop
abbrev TGs:=List V->St->Hp->(St->Hp->Prop)->Prop
def PG(X:Cx)(target:Expr)(t:TG):Prop:=
 ∀(pins:List (Addr×Obj)) (s:Shared) (σ:St) (H:Hp) (v:V) (u:Value) (Q:St->Hp->Prop),Inv X pins σ H s->Yn v u->t v σ H Q->
  wpAny (model X.prog X.w) X.A (assign target X.env u) (fun _ s'=>∃σ' H',Inv X pins σ' H' s'/\Q σ' H') X.xe s
def PGs(X:Cx)(ts:List Expr)(t:TGs):Prop:=
 ∀(pins:List (Addr×Obj)) (s:Shared) (σ:St) (H:Hp) (vs:List V) (us:List Value) (Q:St->Hp->Prop),Inv X pins σ H s->Yr vs us->t vs σ H Q->
  wpAny (model X.prog X.w) X.A (assignInOrder ((assignEach ts X.env).map (·.2)) us) (fun _ s'=>∃σ' H',Inv X pins σ' H' s'/\Q σ' H') X.xe s
section
variable {X:Cx} {pos:Pos}
def ZoD(i:Nat):TG:=fun v σ H Q=>Q (σ.set i (some v)) H
theorem Yi{i:Nat}{x:Str}(hN:X.N.Nodup)(hi:X.N[i]? =some x)(hx:Loc X.env.scope x)(hf:X.fn x=true\/X.env.scope.names.lookup x=some .local:=by first|exact .inl rfl|exact .inr rfl|assumption):PG X (.Name x pos) (ZoD i):=by
 intro pins s σ H v u Q I r h;exact wpAny_assign_Name (Zhz I hN hi hx r (fun s' I'=>⟨_,H,I',h⟩) hf)
def Ztz:TGs:=fun vs σ H Q=>vs=[]/\Q σ H
def Zsy(t:TG)(u:TGs):TGs:=fun vs σ H Q=>∃v r,vs=v::r/\t v σ H fun σ' H'=>u r σ' H' Q
theorem Zfj:PGs X [] Ztz:=by
 intro pins s σ H vs us Q I r h;obtain⟨e,h⟩:=h;subst e;cases r;exact assignInOrder_nil ⟨σ,H,I,h⟩
theorem JC{e:Expr}{es:List Expr}{t:TG}{u:TGs}(h1:PG X e t)(h2:PGs X es u)
  (hs:(assignEach (e::es) X.env).map (·.2)=assign e X.env::(assignEach es X.env).map (·.2):=by rfl):PGs X (e::es) (Zsy t u):=by
 intro pins s σ H vs us Q I r h;obtain⟨v,vr,e1,h⟩:=h;subst e1;cases r with
 |cons r rr=>
  rw[hs];refine assignInOrder_cons (thn (h1 pins s σ H _ _ _ I r h) fun _ s1 ⟨σ1,H1,I1,q1⟩=> ?_);exact h2 pins s1 σ1 H1 _ _ Q I1 rr q1
def Zsz(K:PySem.W.Frag)(n:Nat)(t:TGs):TG:=fun v σ H Q=>∃a xs,v=.ref a/\SqT K H a xs/\xs.length=n/\t xs σ H Q
theorem ZlY{es:List Expr}{k:Nat}{t:TGs}{n:Nat}(hc:X.calm=true)(h:PGs X es t)
  (hn:(assignEach es X.env).length=n:=by rfl)(hst:(assignEach es X.env).findIdx? (·.1)=none:=by rfl):PG X (.Tuple es k pos) (Zsz X.K n t):=by
 intro pins s σ H v u Q I r hw;obtain⟨a,xs,e1,hq,hl,hw⟩:=hw;subst e1;cases r;obtain⟨its,rv,ht,hz⟩:=I.tuple hq;refine assign_Tuple_tuple (I.ok.hd hc) ht (by simp[hn,<-hl,rv.length]) hst fun h' hx=> ?_;have I1:Inv X pins σ H {s with heap:=h'}:=I.kept (t':=s.toks) fun b o e=>hx b o (Nat.ne_of_lt (Heap.lt_size e)) e;exact h pins _ σ H xs _ Q I1 (by simpa using rv) hw
def ZsA(te:TE)(g:TG):TS:=fun D σ H=>te σ H fun x H1=>g x σ H1 D.nx
theorem ZK{i:Nat}{x:Str}{e:Expr}{te:TE}{pos':Pos}(hN:X.N.Nodup)(hi:X.N[i]? =some x)(hx:Loc X.env.scope x)(he:PE X e te)(hs:swapsWith e (some (.Name x pos')) pos.line X.env=pure false:=by rfl)(hf:X.fn x=true\/X.env.scope.names.lookup x=some .local:=by first|exact .inl rfl|exact .inr rfl|assumption):
  PS X (.Assign [.Name x pos'] e pos) (ZsA te (ZoD i)):=by
 intro pins s σ H D I h;refine wpAny_Assign_Name (thn (he pins s σ H _ I h) fun v s1 ⟨y,H1,I1,r1,q1⟩=> ?_) hs;exact Zhz I1 hN hi hx r1 (fun s2 I2=>⟨_,H1,I2,q1⟩) hf
end
section
variable {X:Cx} {pos:Pos}
def ZrB(c:TT)(tb:TS):TS:=fun D σ H=>∃W:Nat->St->Hp->Prop,(∃m,W m σ H)/\∀m σ H,W m σ H->
 c σ H fun b H1=>if b=true then∃N:St->Hp->Prop,(∀σ' H',N σ' H'->∃m',m'<m/\W m' σ' H')/\tb {D with nx:=N,ct:=N,bk:=D.nx} σ H1 else D.nx σ H1
theorem ZoE{c:Expr}{body:List Stmt}{tc:TT}{tb:TS}(hp:PassesOwn (model X.prog X.w) X.A X.env X.xe)(hc:PT X c tc)(hb:PSs X body tb):PS X (.While c body [] pos) (ZrB tc tb):=by
 intro pins s σ H D I h;obtain⟨W,⟨m0,w0⟩,turn⟩:=h;refine wpAny_While (codeAny_whileLoop (fun n s'=>∃σ' H',Inv X pins σ' H' s'/\W n σ' H') ?_ m0 ⟨σ,H,I,w0⟩);rintro n s1 ⟨σ1,H1,I1,w1⟩;refine wpAny_passesOwn hp (thn (hc pins s1 σ1 H1 _ I1 (turn n σ1 H1 w1)) fun b s2 ⟨H2,I2,q2⟩=> ?_);cases b with
 |true=>
  obtain⟨N,hN,q2⟩:=q2;rw[if_pos rfl];refine wpAny_passesOwn hp (thn (hb pins s2 σ1 H2 _ I2 q2) fun f s3 q3=> ?_);cases f with
  |next=>
   obtain⟨σ3,H3,I3,n3⟩:=q3;obtain⟨m',hm,w3⟩:=hN σ3 H3 n3;exact⟨m',hm,σ3,H3,I3,w3⟩
  |cont=>
   obtain⟨σ3,H3,I3,n3⟩:=q3;obtain⟨m',hm,w3⟩:=hN σ3 H3 n3;exact⟨m',hm,σ3,H3,I3,w3⟩
  |brk=>exact q3
  |ret v=>exact q3
 |false=>
  rw[if_neg Bool.false_ne_true];exact wpAny_execs_nil ⟨σ1,H2,I2,q2⟩
end
structure It where
 go:Nat->Hp->Prop
 yld:Nat->Hp->V->Hp->Prop
 stop:Nat->Hp->Prop
def ZiK(X:Cx)(pins:List (Addr×Obj))(H:Hp)(b:Addr):Prop:=
 H b=none/\b≠X.env.locals/\b∉X.fs/\(b∈X.ex\/X.s₀.heap.objs.size<=b)/\(∀x c,X.env.cells.lookup x=some c->c≠b)/\∀p∈X.pn++pins,p.1≠b
theorem Inv.fpOk{X:Cx}{pins:List (Addr×Obj)}{σ:St}{H H':Hp}{s:Shared}{b:Addr}(I:Inv X pins σ H s)(hb:s.heap.objs.size<=b)(hn:H' b=none):ZiK X pins H' b:=by
 refine⟨hn,Nat.ne_of_gt (Nat.lt_of_lt_of_le I.lt hb),I.nofs hb,.inr (Nat.le_trans I.sz hb),fun x c e z=> ?_,fun p hp z=> ?_⟩
 ·obtain⟨v,q⟩:=I.cell x c e;exact absurd (Nat.lt_of_lt_of_le q.lt (by rw[z];exact hb)) (Nat.lt_irrefl _)
 ·exact absurd (Nat.lt_of_lt_of_le (Heap.lt_size (I.pin p hp).1) (by rw[z];exact hb)) (Nat.lt_irrefl _)
structure ZnE (P:Program) (w:World) (K:PySem.W.Frag) (tg:Expr) (J:It) (fp:List Addr) (it:Addr) (tn:Nat->Heap->Prop):Prop where
 mem:it∈fp
 obj:∀i h,tn i h->∀b∈fp,∃o,h.get? b=some o/\∀v,o.data≠.cell v
 keep:∀i h h',tn i h->(∀b∈fp,∀o,h.get? b=some o->h'.get? b=some o)->tn i h'
 item:∀(X:Cx),X.prog=P->X.w=w->X.K=K->X.calm=true->∀(i:Nat) (pins:List (Addr×Obj)) (s:Shared) (σ:St) (H:Hp) (E:Value->Shared->Prop),Inv X pins σ H s->(∀b∈fp,ZiK X pins H b)->tn i s.heap->J.go i H->
  wpAny (model P w) X.A (pyNext (.ref it)) (fun r s1=>∃u,r=some u/\
   wpAny (model P w) X.A (letOwnedTupleGo tg (.ref it) u) (fun _ s2=>∃x H',Inv X pins σ H' s2/\Yn x u/\J.yld i H x H'/\tn (i+1) s2.heap/\∀b∈fp,H' b=none) E s1) E s
 done:∀(X:Cx),X.prog=P->X.w=w->X.K=K->X.calm=true->∀(i:Nat) (pins:List (Addr×Obj)) (s:Shared) (σ:St) (H:Hp) (E:Value->Shared->Prop),Inv X pins σ H s->(∀b∈fp,ZiK X pins H b)->tn i s.heap->J.stop i H->
  wpAny (model P w) X.A (pyNext (.ref it)) (fun r s1=>r=none/\Inv X pins σ H s1) E s
 self:∀(A:Around) (i:Nat) (s:Shared) (Q:Value->Shared->Prop) (E:Value->Shared->Prop),tn i s.heap->Q (.ref it) s->wpAny (model P w) A (pyIter (.ref it)) Q E s
abbrev TI:=St->Hp->(It->Hp->Prop)->Prop
def PIE(X:Cx)(pins:List (Addr×Obj))(σ:St)(tg:Expr)(R:It->Hp->Prop)(itv:Value)(s2:Shared):Prop:=
 ∃(it:Addr) (fp:List Addr) (tn:Nat->Heap->Prop) (J:It) (H':Hp),itv=.ref it/\Inv X pins σ H' s2/\ZnE X.prog X.w X.K tg J fp it tn/\tn 0 s2.heap/\(∀b∈fp,ZiK X pins H' b)/\R J H'
def PI(X:Cx)(tg iter:Expr)(wi:TI):Prop:=
 ∀(pins:List (Addr×Obj)) (s:Shared) (σ:St) (H:Hp) (R:It->Hp->Prop),Inv X pins σ H s->wi σ H R->
  wpAny (model X.prog X.w) X.A (eval iter X.env) (fun v s1=>wpAny (model X.prog X.w) X.A (pyIter v) (PIE X pins σ tg R) X.xe s1) X.xe s
theorem Zn1{M:Model}{A:Around}{E:Value->Shared->Prop}{s:Shared}{tg:Expr}{it:Addr}{u:Value}{o:Obj}{n:String}{vs:Array Value}{Q:Unit->Shared->Prop}(ho:s.heap.get? it=some o)(hc:o.cls=.type n)(hd:o.data=.fields vs)
  (hn:["enumerate","zip","dict_itemiterator","dict_reverseitemiterator","odict_iterator","itertools.zip_longest","itertools.pairwise"].contains n=false)(hQ:Q () s):wpAny M A (letOwnedTupleGo tg (.ref it) u) Q E s:=by
 unfold letOwnedTupleGo;cases tg<;>first
  |exact wpAny_pure hQ
  |(cases u<;>first
    |exact wpAny_pure hQ
    |(refine wpAny_bind (wpAny_load ho ?_)
      rw[hc,hd];show wpAny M A (if(["enumerate","zip","dict_itemiterator","dict_reverseitemiterator","odict_iterator","itertools.zip_longest","itertools.pairwise"].contains n&&vs[0]? ==some (rawInt _))=true then _ else _) Q E s;rw[if_neg (by intro h;rw[hn,Bool.false_and] at h;cases h)]
      exact wpAny_pure hQ))
def Itl(K:PySem.W.Frag)(a:Addr):It:=
 ⟨fun i H=>∃xs x,SqL K H a xs/\xs[i]? =some x,fun i H x H'=>H'=H/\∀xs,SqL K H a xs->xs[i]? =some x,fun i H=>∃xs,SqL K H a xs/\xs.length<=i⟩
def Itr(lo:Int)(n:Nat):It:=⟨fun i _=>i<n,fun i H x H'=>H'=H/\x=.int (lo+i),fun i _=>n<=i⟩
theorem ZnF{P:Program}{w:World}{K:PySem.W.Frag}{tg:Expr}(a it:Addr):ZnE P w K tg (Itl K a) [it] it (fun i h=>h.IsListIter it a i) where
 mem:=by simp
 obj:=fun i h st b hb=>by
  have e:b=it:=by simpa using hb
  subst e;obtain⟨o,e,c,d⟩:=st;exact⟨o,e,fun v z=>by rw[d] at z;cases z⟩
 keep:=fun i h h' st k=>st.at fun o e=>k it (by simp) o e
 item:=by
  intro X hP hw hK hc i pins s σ H E I hf st hg;subst hP hw hK;obtain⟨xs,x,hq,hx⟩:=hg;obtain⟨its,rv,p,hz⟩:=I.list hq;obtain⟨u,hu,ru⟩:=rv.get hx;obtain⟨f0,f1,f2,f3,f4,f5⟩:=hf it (by simp);refine wpAny_pyNext_list_item st p.isList (x:=u) (by simpa using hu) fun h' st' sb=> ?_;have I1:Inv X pins σ H {s with heap:=h'}:=I.turned (t':=s.toks) (fun b o hb e=>(sb.2 b hb).trans e) f0 f1 f3 f4 f5;obtain⟨o,e,c,d⟩:=id st'
  exact⟨u,rfl,Zn1 (s:={s with heap:=h'}) e c d (by decide) ⟨x,H,I1,ru,⟨rfl,fun ys hy=>by rw[I.list_inj hy hq];exact hx⟩,st',fun b hb=>(hf b hb).1⟩⟩
 done:=by
  intro X hP hw hK hc i pins s σ H E I hf st hg;subst hP hw hK;obtain⟨xs,hq,hx⟩:=hg;obtain⟨its,rv,p,hz⟩:=I.list hq;obtain⟨f0,f1,f2,f3,f4,f5⟩:=hf it (by simp);have hl:=rv.length;exact wpAny_pyNext_list_end (I.ok.hd hc) st p.isList (by simp;omega) fun h' eb=>⟨rfl,I.turned (t':=s.toks) (fun b o hb e=>eb b o hb e) f0 f1 f3 f4 f5⟩
 self:=fun _ _ _ _ _ st h=>wpAny_pyIter_listiter st h
theorem ZlZ{P:Program}{w:World}{K:PySem.W.Frag}{tg:Expr}(it:Addr)(lo:Int)(n:Nat):ZnE P w K tg (Itr lo n) [it] it (fun i h=>IsRangeIter h it (lo+(i:Nat)*1) ((n:Int)-(i:Nat)) 1) where
 mem:=by simp
 obj:=fun i h st b hb=>by
  have e:b=it:=by simpa using hb
  subst e;exact⟨_,st,fun v z=>by
   have z':Data.fields _=Data.cell v:=z;cases z'⟩
 keep:=fun i h h' st k=>k it (by simp) _ st
 item:=by
  intro X hP hw hK hc i pins s σ H E I hf st hg;subst hP hw hK;obtain⟨f0,f1,f2,f3,f4,f5⟩:=hf it (by simp);have W:=Walks.range (prog:=X.prog) (w:=X.w) (I.ok.hd hc) it lo 1 n;refine W.item i s _ _ hg st fun v h' tk hv st' kk=> ?_;obtain⟨t,rfl⟩:=hv;have I1:Inv X pins σ H {s with heap:=h',toks:=tk}:=I.turned (fun b o hb e=>kk b o (by simpa using hb) e) f0 f1 f3 f4 f5;refine⟨_,rfl,Zn1 (s:={s with heap:=h',toks:=tk}) (n:="range_iterator") st' rfl rfl (by decide) ⟨.int (lo+i),H,I1,⟨t, ?_⟩,⟨rfl,rfl⟩,st',fun b hb=>(hf b hb).1⟩⟩
  rw[Int.mul_one]
 done:=by
  intro X hP hw hK hc i pins s σ H E I hf st hg;subst hP hw hK;obtain⟨f0,f1,f2,f3,f4,f5⟩:=hf it (by simp);exact wpAny_pyNext_range_end (I.ok.hd hc) st (by have:n<=i:=hg;omega) fun h' eb=>⟨rfl,I.turned (t':=s.toks) (fun b o hb e=>eb b o hb e) f0 f1 f3 f4 f5⟩
 self:=fun _ _ _ _ _ st h=>wpAny_pyIter_rangeiter st h
end L2
namespace L2
open PySem PySem.Spec PyProof.Rows
section
variable {X:Cx} {tg:Expr}
def ZsB(K:PySem.W.Frag)(tl:TE):TI:=fun σ H R=>tl σ H fun x H1=>∃a,x=.ref a/\(∃xs,SqL K H1 a xs)/\R (Itl K a) H1
theorem Xc{l:Expr}{tl:TE}(hl:PE X l tl):PI X tg l (ZsB X.K tl):=by
 intro pins s σ H R I h;refine thn (hl pins s σ H _ I h) fun v s1 ⟨x,H1,I1,r1,q1⟩=> ?_;obtain⟨a,e,⟨xs,hq⟩,q⟩:=q1;subst e;cases r1;obtain⟨its,rv,p,hz⟩:=I1.list hq;refine wpAny_pyIter_list p.isList ?_;refine⟨s1.heap.objs.size,[s1.heap.objs.size],_,_,H1,rfl,I1.kept (t':=s1.toks) fun b o e=>Heap.get?_push_of_some _ e,ZnF a _,⟨_,Heap.get?_push_size _ rfl,rfl,rfl⟩,fun b hb=> ?_,q⟩;have e:b=s1.heap.objs.size:=by simpa using hb
 subst e;exact I1.fpOk (Nat.le_refl _) (I1.hok.fresh (Nat.le_refl _))
theorem ZoF{pins:List (Addr×Obj)}{σ:St}{H:Hp}{s:Shared}{R:It->Hp->Prop}{E:Value->Shared->Prop}{lo hi:Int}{t u v:Tok}{tk:Nat}(I:Inv X pins σ H s)(h1: -(2^62)<=lo)(h2:lo<2^62)(h3: -(2^62)<=hi)(h4:hi<2^62)
  (q:R (Itr lo (hi-lo).toNat) H):wpAny (model X.prog X.w) X.A (pyIter (.ref s.heap.objs.size)) (PIE X pins σ tg R) E {s with heap:=s.heap.push {cls:=.type "range",data:=.fields #[.int lo t,.int hi u,.int 1 v]},toks:=tk}:=by
 refine wpAny_pyIter_range (IsRange.new ..) (small_one h1 h2 h3 h4) ?_;have I1:Inv X pins σ H {s with heap:=s.heap.push {cls:=.type "range",data:=.fields #[.int lo t,.int hi u,.int 1 v]},toks:=tk}:=I.kept fun b o e=>Heap.get?_push_of_some _ e;refine⟨(s.heap.push {cls:=.type "range",data:=.fields #[.int lo t,.int hi u,.int 1 v]}).objs.size,[(s.heap.push {cls:=.type "range",data:=.fields #[.int lo t,.int hi u,.int 1 v]}).objs.size],_,_,H,rfl,
  I1.kept (t':=tk) fun b o e=>Heap.get?_push_of_some _ e,ZlZ _ lo (hi-lo).toNat, ?_,fun b hb=> ?_,q⟩
 ·have e1:lo+((0:Nat):Int)*1=lo:=by simp
  have e2:(((hi-lo).toNat:Nat):Int)-((0:Nat):Int)=Builtin.Range.rangeSize lo hi 1:=by rw[rangeSize_one];split<;>omega
  show IsRangeIter _ _ (lo+((0:Nat):Int)*1) ((((hi-lo).toNat:Nat):Int)-((0:Nat):Int)) 1;rw[e1,e2];exact Heap.get?_push_size _ rfl
 ·have e:b=(s.heap.push {cls:=.type "range",data:=.fields #[.int lo t,.int hi u,.int 1 v]}).objs.size:=by simpa using hb
  subst e;exact I1.fpOk (Nat.le_refl _) (I1.hok.fresh (Nat.le_refl _))
def ZsC(ta:TA):TI:=fun σ H R=>ta σ H fun vs H1=>∃j:Int,vs=[.int j]/\-(2^62)<=j/\j<2^62/\R (Itr 0 j.toNat) H1
theorem ZcH{a:Expr}{ta:TA}{p pos:Pos}(hg:Gl X "range")(hm:X.mg "range"=none)(ha:PA X [a] ta)(hs:starEach [a] X.env=[(false,eval a X.env)]:=by rfl):PI X tg (.Call (.Name "range" p) [a] [] pos) (ZsC ta):=by
 intro pins s σ H R I h;refine Call_ (ZhA I hg hm boot_range (PyProof.Rows.callWith_type1 (thn (ha pos pins s σ H _ I h) fun us s1 ⟨vs,H1,I1,r1,q1⟩=> ?_) hs rfl));obtain⟨j,e,q1,q2,q⟩:=q1;subst e;cases r1 with
 |cons r rr=>
  cases rr;obtain⟨t,rfl⟩:=r;exact call_range_1 (ZoF I1 (by omega) (by omega) q1 q2 (by simpa using q))
def ZtA(wi:TI)(g:TG)(tb:TS):TS:=fun D σ H=>wi σ H fun J H1=>∃W:Nat->Nat->St->Hp->Prop,(∃m,W 0 m σ H1)/\∀i m σ H,W i m σ H->
 (J.stop i H/\D.nx σ H)\/(J.go i H/\∃N:St->Hp->Prop,(∀σ' H',N σ' H'->∃m',m'<m/\W (i+1) m' σ' H')/\∀x H',J.yld i H x H'->g x σ H' fun σ2 H2=>tb {D with nx:=N,ct:=N,bk:=D.nx} σ2 H2)
def ZhB(fp:List Addr)(h:Heap):List (Addr×Obj):=fp.filterMap fun b=>(h.get? b).map fun o=>(b,o)
theorem Zd0{fp:List Addr}{h:Heap}{b:Addr}{o:Obj}(hb:b∈fp)(e:h.get? b=some o):(b,o)∈ZhB fp h:=List.mem_filterMap.mpr ⟨b,hb,by rw[e];rfl⟩
theorem ZnG{fp:List Addr}{h:Heap}{p:Addr×Obj}(hp:p∈ZhB fp h):p.1∈fp/\h.get? p.1=some p.2:=by
 obtain⟨b,hb,e⟩:=List.mem_filterMap.mp hp;cases q:h.get? b with
 |none=>rw[q] at e;cases e
 |some o=>
  rw[q] at e
  have e':(b,o)=p:=Option.some.inj e;subst e';exact⟨hb,q⟩
theorem Inv.pinned{pins:List (Addr×Obj)}{σ:St}{H:Hp}{s:Shared}{fp:List Addr}(I:Inv X pins σ H s)(hf:∀b∈fp,ZiK X pins H b)(ho:∀b∈fp,∃o,s.heap.get? b=some o/\∀v,o.data≠.cell v):Inv X (pins++ZhB fp s.heap) σ H s:=
 I.pins_of fun p hp=>(List.mem_append.mp hp).elim (fun z=>I.pin p (List.mem_append_right _ z)) fun z=>by
  obtain⟨hb,e⟩:=ZnG z;obtain⟨f0,f1,f2,_⟩:=hf p.1 hb;obtain⟨o,e',d⟩:=ho p.1 hb;rw[e] at e';cases e'
  exact⟨e,f0,f1,f2,d⟩
theorem Inv.unpinned{pins pl:List (Addr×Obj)}{σ:St}{H:Hp}{s:Shared}(I:Inv X (pins++pl) σ H s):Inv X pins σ H s:=I.pins_of fun p hp=>I.pin p (List.mem_append_right _ (List.mem_append_left _ hp))
theorem JV{iter:Expr}{body:List Stmt}{wi:TI}{g:TG}{tb:TS}{pos:Pos}(hp:PassesOwn (model X.prog X.w) X.A X.env X.xe)(hc:X.calm=true)(hi:PI X tg iter wi)(hg:PG X tg g)(hb:PSs X body tb)
  (hs:∀x,foldedSetIterable iter X.env x=pure x:=by intro _;rfl):PS X (.For tg iter body [] pos) (ZtA wi g tb):=by
 intro pins s σ H D I h;refine wpAny_For (thn (hi pins s σ H _ I h) fun v s1 h1=>thn h1 fun itv s2 h2=> ?_) hs;obtain⟨it,fp,tn,J,H2,e,I2,T,st2,f2,W,⟨m0,w0⟩,turn⟩:=h2;subst e;have stat:∀{H':Hp},(∀b∈fp,H' b=none)->∀b∈fp,ZiK X pins H' b:=fun hn b hb=>⟨hn b hb,(f2 b hb).2⟩
 refine codeAny_forLoop_any (fun n s'=>∃i σ' H',Inv X pins σ' H' s'/\tn i s'.heap/\(∀b∈fp,H' b=none)/\W i n σ' H') ?_ m0 ⟨0,σ,H2,I2,st2,fun b hb=>(f2 b hb).1,w0⟩;rintro n s3 ⟨i,σ3,H3,I3,st3,fr3,w3⟩;rcases turn i n σ3 H3 w3 with ⟨stop,qn⟩|⟨go,N,hN,step⟩
 ·refine wpAny_passesOwn hp (thn (T.done X rfl rfl rfl hc i pins s3 σ3 H3 X.xe I3 (stat fr3) st3 stop) fun r s4 ⟨hr,I4⟩=> ?_);subst hr;exact wpAny_execs_nil ⟨σ3,H3,I4,qn⟩
 ·refine wpAny_passesOwn hp (thn (T.item X rfl rfl rfl hc i pins s3 σ3 H3 X.xe I3 (stat fr3) st3 go) fun r s4 ⟨u,hr,h4⟩=> ?_);subst hr;refine wpAny_passesOwn hp (thn h4 fun _ s5 ⟨x,H5,I5,r5,y5,st5,fr5⟩=> ?_);have I5':=I5.pinned (stat fr5) (T.obj _ _ st5);refine wpAny_passesOwn hp (thn (hg _ s5 σ3 H5 x u _ I5' r5 (step x H5 y5)) fun _ s6 ⟨σ6,H6,I6,q6⟩=> ?_);refine wpAny_passesOwn hp (thn (hb _ s6 σ6 H6 _ I6 q6) fun f s7 q7=> ?_)
  have again:∀{σ7:St} {H7:Hp},Inv X (pins++ZhB fp s5.heap) σ7 H7 s7->N σ7 H7->∃m,m<n/\∃i σ' H',Inv X pins σ' H' s7/\tn i s7.heap/\(∀b∈fp,H' b=none)/\W i m σ' H':=fun{σ7 H7} I7 n7=>by
   obtain⟨m',hm,w7⟩:=hN σ7 H7 n7;refine⟨m',hm,i+1,σ7,H7,I7.unpinned,T.keep _ _ _ st5 fun b hb o e=>(I7.pin (b,o) (List.mem_append_right _ (List.mem_append_right _ (Zd0 hb e)))).1,fun b hb=> ?_,w7⟩;obtain⟨o,e,d⟩:=T.obj _ _ st5 b hb;exact(I7.pin (b,o) (List.mem_append_right _ (List.mem_append_right _ (Zd0 hb e)))).2.1
  cases f with
  |next=>obtain⟨σ7,H7,I7,n7⟩:=q7;exact again I7 n7
  |cont=>obtain⟨σ7,H7,I7,n7⟩:=q7;exact again I7 n7
  |brk=>obtain⟨σ7,H7,I7,q7⟩:=q7;exact⟨σ7,H7,I7.unpinned,q7⟩
  |ret v=>obtain⟨x7,σ7,H7,I7,r7,q7⟩:=q7;exact⟨x7,σ7,H7,I7.unpinned,r7,q7⟩
end
theorem JD{K:PySem.W.Frag}{a:Addr}{xs:List V}{g:TG}{tb:TS}{D:Zfg}{σ:St}{H:Hp}(Pv:Nat->St->Hp->Prop)(h0:Pv 0 σ H)(hl:∀i σ H,i<=xs.length->Pv i σ H->SqL K H a xs)
  (hs:∀i x σ H,xs[i]? =some x->Pv i σ H->g x σ H fun σ2 H2=>tb {D with nx:=Pv (i+1),ct:=Pv (i+1),bk:=D.nx} σ2 H2)(hd:∀σ H,Pv xs.length σ H->D.nx σ H):
  ∃W:Nat->Nat->St->Hp->Prop,(∃m,W 0 m σ H)/\∀i m σ H,W i m σ H->
   ((Itl K a).stop i H/\D.nx σ H)\/((Itl K a).go i H/\∃N:St->Hp->Prop,(∀σ' H',N σ' H'->∃m',m'<m/\W (i+1) m' σ' H')/\∀x H',(Itl K a).yld i H x H'->g x σ H' fun σ2 H2=>tb {D with nx:=N,ct:=N,bk:=D.nx} σ2 H2):=by
 refine⟨fun i m σ H=>m=xs.length-i/\i<=xs.length/\Pv i σ H,⟨xs.length,by simp,Nat.zero_le _,h0⟩, ?_⟩;rintro i m σ H ⟨rfl,hi,p⟩;have q:=hl i σ H hi p
 by_cases hlt:i<xs.length
 ·refine .inr ⟨⟨xs,xs[i],q,by simp[hlt]⟩,Pv (i+1),fun σ' H' p'=>⟨xs.length-(i+1),by omega,rfl,hlt,p'⟩,fun x H' y=> ?_⟩;obtain⟨e,y⟩:=y;subst e;exact hs i x σ _ (y xs q) p
 ·have e:i=xs.length:=by omega
  subst e;exact .inl ⟨⟨xs,q,Nat.le_refl _⟩,hd σ H p⟩
theorem Zeb{lo:Int}{n:Nat}{g:TG}{tb:TS}{D:Zfg}{σ:St}{H:Hp}(Pv:Nat->St->Hp->Prop)(h0:Pv 0 σ H)
  (hs:∀i σ H,i<n->Pv i σ H->g (.int (lo+i)) σ H fun σ2 H2=>tb {D with nx:=Pv (i+1),ct:=Pv (i+1),bk:=D.nx} σ2 H2)(hd:∀σ H,Pv n σ H->D.nx σ H):
  ∃W:Nat->Nat->St->Hp->Prop,(∃m,W 0 m σ H)/\∀i m σ H,W i m σ H->
   ((Itr lo n).stop i H/\D.nx σ H)\/((Itr lo n).go i H/\∃N:St->Hp->Prop,(∀σ' H',N σ' H'->∃m',m'<m/\W (i+1) m' σ' H')/\∀x H',(Itr lo n).yld i H x H'->g x σ H' fun σ2 H2=>tb {D with nx:=N,ct:=N,bk:=D.nx} σ2 H2):=by
 refine⟨fun i m σ H=>m=n-i/\i<=n/\Pv i σ H,⟨n,by simp,Nat.zero_le _,h0⟩, ?_⟩;rintro i m σ H ⟨rfl,hi,p⟩
 by_cases hlt:i<n
 ·refine .inr ⟨hlt,Pv (i+1),fun σ' H' p'=>⟨n-(i+1),by omega,rfl,hlt,p'⟩,fun x H' y=> ?_⟩;obtain⟨e,y⟩:=y;subst e y;exact hs i σ _ hlt p
 ·have e:i=n:=by omega
  subst e;exact .inl ⟨Nat.le_refl _,hd σ H p⟩
end L2
namespace L2
open PySem PySem.Spec PyProof.Rows
abbrev R2:=V->V->Hp->VK->Prop
def OpR(X:Cx)(f:Value->Value->Sem Value)(r:R2):Prop:=
 ∀(pins:List (Addr×Obj)) (s:Shared) (σ:St) (H:Hp) (x y:V) (v u:Value) (Q:VK),Inv X pins σ H s->Yn x v->Yn y u->r x y H Q->
  wpAny (model X.prog X.w) X.A (f v u) (EP X pins σ Q) X.xe s
def UnR(X:Cx)(f:Value->Sem Value)(r:V->Hp->VK->Prop):Prop:=
 ∀(pins:List (Addr×Obj)) (s:Shared) (σ:St) (H:Hp) (x:V) (v:Value) (Q:VK),Inv X pins σ H s->Yn x v->r x H Q->
  wpAny (model X.prog X.w) X.A (f v) (EP X pins σ Q) X.xe s
def Zbm(X:Cx)(f:Value)(r:List V->Hp->VK->Prop):Prop:=
 ∀(pins:List (Addr×Obj)) (s:Shared) (σ:St) (H:Hp) (xs:List V) (us:List Value) (Q:VK),Inv X pins σ H s->Yr xs us->r xs H Q->
  wpAny (model X.prog X.w) X.A (call f us) (EP X pins σ Q) X.xe s
def tOp(r:R2)(ta tb:TE):TE:=fun σ H Q=>ta σ H fun x H1=>tb σ H1 fun y H2=>r x y H2 Q
def tUn(r:V->Hp->VK->Prop)(ta:TE):TE:=fun σ H Q=>ta σ H fun x H1=>r x H1 Q
def rI(C:Int->Int->Prop)(g:Int->Int->V):R2:=fun x y H Q=>∃i j,x=.int i/\y=.int j/\C i j/\Q (g i j) H
def rI0(g:Int->Int->V):R2:=fun x y H Q=>∃i j,x=.int i/\y=.int j/\Q (g i j) H
def rU(g:Int->V):V->Hp->VK->Prop:=fun x H Q=>∃i,x=.int i/\Q (g i) H
section
variable {X:Cx} {a b c:Expr} {ta tb tc:TE} {pos:Pos}
theorem ZrC(ha:PE X a ta)(hb:PE X b tb){pins:List (Addr×Obj)}{s:Shared}{σ:St}{H:Hp}{R:V->V->Hp->Prop}(I:Inv X pins σ H s)
  (h:ta σ H fun x H1=>tb σ H1 fun y H2=>R x y H2){Q:Value->Shared->Prop}{f:Value->Value->Sem Value}
  (hf:∀v u s2 x y H2,Inv X pins σ H2 s2->Yn x v->Yn y u->R x y H2->wpAny (model X.prog X.w) X.A (f v u) Q X.xe s2):
  wpAny (model X.prog X.w) X.A (eval a X.env) (fun v s₁=>wpAny (model X.prog X.w) X.A (eval b X.env) (fun u s₂=>wpAny (model X.prog X.w) X.A (f v u) Q X.xe s₂) X.xe s₁) X.xe s:=by
 refine thn (ha pins s σ H _ I h) fun v s1 ⟨x,H1,I1,r1,q1⟩=> ?_;refine thn (hb pins s1 σ H1 _ I1 q1) fun u s2 ⟨y,H2,I2,r2,q2⟩=> ?_;exact hf v u s2 x y H2 I2 r1 r2 q2
theorem ZQ{op:Operator}{r:R2}(ho:OpR X (binaryOp op) r)(ha:PE X a ta)(hb:PE X b tb):PE X (.BinOp a op b pos) (tOp r ta tb):=by
 intro pins s σ H Q I h;exact wpAny_BinOp (ZrC ha hb I h fun v u s2 x y H2 I2 rx ry q=>ho pins s2 σ H2 x y v u Q I2 rx ry q)
theorem ZoG{op:UnaryOp}{r:V->Hp->VK->Prop}(ho:UnR X (unaryOp op) r)(ha:PE X a ta):PE X (.UnaryOp op a pos) (tUn r ta):=by
 intro pins s σ H Q I h;exact UnaryOp_ (thn (ha pins s σ H _ I h) fun v s1 ⟨x,H1,I1,r1,q1⟩=>ho pins s1 σ H1 x v Q I1 r1 q1)
theorem opI{f:Value->Value->Sem Value}{C:Int->Int->Prop}{g:Int->Int->Int}
  (rule:∀(i j:Int) (t u:Tok) (s:Shared) (Q:Value->Shared->Prop) (E:Value->Shared->Prop),C i j->Q (.int (g i j) s.toks) {s with toks:=s.toks+1}->wpAny (model X.prog X.w) X.A (f (.int i t) (.int j u)) Q E s):
  OpR X f (rI C fun i j=> .int (g i j)):=by
 intro pins s σ H x y v u Q I rx ry h;obtain⟨i,j,rfl,rfl,hc,q⟩:=h;obtain⟨t,rfl⟩:=rx;obtain⟨t',rfl⟩:=ry;exact rule i j t t' s _ _ hc ⟨.int (g i j),H,I.tok _,⟨_,rfl⟩,q⟩
theorem ZsD{f:Value->Value->Sem Value}{g:Int->Int->Int}
  (rule:∀(i j:Int) (t u:Tok) (s:Shared) (Q:Value->Shared->Prop) (E:Value->Shared->Prop),Q (.int (g i j) s.toks) {s with toks:=s.toks+1}->wpAny (model X.prog X.w) X.A (f (.int i t) (.int j u)) Q E s):
  OpR X f (rI0 fun i j=> .int (g i j)):=by
 intro pins s σ H x y v u Q I rx ry h;obtain⟨i,j,rfl,rfl,q⟩:=h;obtain⟨t,rfl⟩:=rx;obtain⟨t',rfl⟩:=ry;exact rule i j t t' s _ _ ⟨.int (g i j),H,I.tok _,⟨_,rfl⟩,q⟩
theorem ZrD{f:Value->Value->Sem Value}{g:Int->Int->Bool}
  (rule:∀(i j:Int) (t u:Tok) (s:Shared) (Q:Value->Shared->Prop) (E:Value->Shared->Prop),Q (.bool (g i j)) s->wpAny (model X.prog X.w) X.A (f (.int i t) (.int j u)) Q E s):
  OpR X f (rI0 fun i j=> .bl (g i j)):=by
 intro pins s σ H x y v u Q I rx ry h;obtain⟨i,j,rfl,rfl,q⟩:=h;obtain⟨t,rfl⟩:=rx;obtain⟨t',rfl⟩:=ry;exact rule i j t t' s _ _ ⟨.bl (g i j),H,I,rfl,q⟩
def ZtB(i j:Int):Prop:=0<j/\j<1073741824
def ZsE(i j:Int):Prop:=0<=j/\j<=1000000/\i.natAbs<2^64
theorem Jy:OpR X (binaryOp .Add) (rI0 fun i j=> .int (i+j)):=ZsD fun _ _ _ _ _ _ _ q=>add_int q
theorem ZoH:OpR X (binaryOp .Sub) (rI0 fun i j=> .int (i-j)):=ZsD fun _ _ _ _ _ _ _ q=>sub_int q
theorem Yx:OpR X (binaryOp .FloorDiv) (rI ZtB fun i j=> .int (i/j)):=opI fun i j _ _ _ _ _ hc q=>by
 have h1:(0:Int)<j:=hc.1;have h2:j<1073741824:=hc.2;exact floordiv_int (by omega) (by rw[Int.fdiv_eq_ediv_of_nonneg i (by omega)];exact q) (.inl (PyProof.noPylong_small (by omega)))
theorem Yo:OpR X (binaryOp .Mod) (rI (fun _ j=>0<j) fun i j=> .int (i%j)):=opI fun i j _ _ _ _ _ hc q=>by
 have h1:(0:Int)<j:=hc;exact mod_int' (by omega) (by rw[Int.fmod_eq_emod_of_nonneg i (by omega)];exact q)
theorem ZrE:OpR X (binaryOp .Pow) (rI ZsE fun i j=> .int (i^j.toNat)):=opI fun _ _ _ _ _ _ _ hc q=>pow_int_small hc.1 hc.2.1 hc.2.2 q
theorem unI{f:Value->Sem Value}{g:Int->Int}
  (rule:∀(i:Int) (t:Tok) (s:Shared) (Q:Value->Shared->Prop) (E:Value->Shared->Prop),Q (.int (g i) s.toks) {s with toks:=s.toks+1}->wpAny (model X.prog X.w) X.A (f (.int i t)) Q E s):
  UnR X f (rU fun i=> .int (g i)):=by
 intro pins s σ H x v Q I rx h;obtain⟨i,rfl,q⟩:=h;obtain⟨t,rfl⟩:=rx;exact rule i t s _ _ ⟨.int (g i),H,I.tok _,⟨_,rfl⟩,q⟩
theorem Zm0:UnR X (unaryOp .USub) (rU fun i=> .int (-i)):=unI fun _ _ _ _ _ q=>neg_int q
end
def Zqo:V->V->Bool
 | .non,.non=>true| .non,.int _=>true| .int _,.non=>true| .non,.bl _=>true| .bl _,.non=>true| .non,.str _=>true| .str _,.non=>true
 | .int _,.int _=>true| .bl _,.bl _=>true| .str _,.str _=>true| .byt _,.byt _=>true
 | .int _,.str _=>true| .str _,.int _=>true| .bl _,.str _=>true| .str _,.bl _=>true
 |_,_=>false
def rEq:R2:=fun x y H Q=>Zqo x y=true/\Q (.bl (decide (x=y))) H
def rNe:R2:=fun x y H Q=>Zqo x y=true/\Q (.bl (!decide (x=y))) H
theorem Zn2{i j:Int}:decide (V.int i=V.int j)=(i==j):=by
 rw[Bool.eq_iff_iff];simp
theorem ZoI{i j:Bool}:decide (V.bl i=V.bl j)=(i==j):=by
 rw[Bool.eq_iff_iff];simp
theorem Zn3{i j:Str}:decide (V.str i=V.str j)=(i==j):=by
 rw[Bool.eq_iff_iff];simp
theorem Zn4{i j:Array UInt8}:decide (V.byt i=V.byt j)=(i.toList==j.toList):=by
 rw[Bool.eq_iff_iff];cases i;cases j;simp
section
variable {X:Cx} {a b c:Expr} {ta tb tc:TE} {pos:Pos}
theorem YG{pins:List (Addr×Obj)}{σ:St}{H:Hp}{s:Shared}{Q:VK}{k k':Bool}(I:Inv X pins σ H s)(q:Q (.bl k) H)(e:k=k'):EP X pins σ Q (.bool k') s:=by
 subst e;exact⟨.bl k,H,I,rfl,q⟩
theorem Yu:OpR X (compareOp .Eq) rEq:=by
 intro pins s σ H x y v u Q I rx ry h;obtain⟨hs,q⟩:=h;cases x with
 |non=>
  cases rx;cases y with
  |non=>cases ry;exact PySem.EqNone.eq_none_none (YG I q (by simp))
  |bl j=>cases ry;exact PySem.EqNone.eq_none_bool (YG I q (by simp))
  |int j=>obtain⟨t',rfl⟩:=ry;exact PySem.EqNone.eq_none_int (YG I q (by simp))
  |str j=>obtain⟨t',rfl⟩:=ry;exact PySem.EqNone.eq_none_str (YG I q (by simp))
  |_=>exact absurd (show false=true from hs) Bool.false_ne_true
 |bl i=>
  cases rx;cases y with
  |non=>cases ry;exact PySem.EqNone.eq_bool_none (YG I q (by simp))
  |bl j=>cases ry;exact eq_bool (YG I q ZoI)
  |str j=>obtain⟨t',rfl⟩:=ry;exact PySem.EqMixed.eq_bool_str (YG I q (by simp))
  |_=>exact absurd (show false=true from hs) Bool.false_ne_true
 |int i=>
  obtain⟨t,rfl⟩:=rx;cases y with
  |non=>cases ry;exact PySem.EqNone.eq_int_none (YG I q (by simp))
  |int j=>obtain⟨t',rfl⟩:=ry;exact eq_int (YG I q Zn2)
  |str j=>obtain⟨t',rfl⟩:=ry;exact PySem.EqMixed.eq_int_str (YG I q (by simp))
  |_=>exact absurd (show false=true from hs) Bool.false_ne_true
 |str i=>
  obtain⟨t,rfl⟩:=rx;cases y with
  |non=>cases ry;exact PySem.EqNone.eq_str_none (YG I q (by simp))
  |bl j=>cases ry;exact PySem.EqMixed.eq_str_bool (YG I q (by simp))
  |int j=>obtain⟨t',rfl⟩:=ry;exact PySem.EqMixed.eq_str_int (YG I q (by simp))
  |str j=>obtain⟨t',rfl⟩:=ry;exact eq_str (YG I q Zn3)
  |_=>exact absurd (show false=true from hs) Bool.false_ne_true
 |byt i=>
  obtain⟨t,rfl⟩:=rx;cases y with
  |byt j=>obtain⟨t',rfl⟩:=ry;exact PySem.W.eq_bytes (YG I q Zn4)
  |_=>exact absurd (show false=true from hs) Bool.false_ne_true
 |_=>cases y<;>exact absurd (show false=true from hs) Bool.false_ne_true
theorem ZoJ:OpR X (compareOp .NotEq) rNe:=by
 intro pins s σ H x y v u Q I rx ry h;obtain⟨hs,q⟩:=h;cases x with
 |non=>
  cases rx;cases y with
  |non=>cases ry;exact PySem.EqNone.ne_none_none (YG I q (by simp))
  |bl j=>cases ry;exact PySem.EqNone.ne_none_bool (YG I q (by simp))
  |int j=>obtain⟨t',rfl⟩:=ry;exact PySem.EqNone.ne_none_int (YG I q (by simp))
  |str j=>obtain⟨t',rfl⟩:=ry;exact PySem.EqNone.ne_none_str (YG I q (by simp))
  |_=>exact absurd (show false=true from hs) Bool.false_ne_true
 |bl i=>
  cases rx;cases y with
  |non=>cases ry;exact PySem.EqNone.ne_bool_none (YG I q (by simp))
  |bl j=>cases ry;exact ne_bool (YG I q (congrArg not ZoI))
  |str j=>obtain⟨t',rfl⟩:=ry;exact PySem.EqMixed.ne_bool_str (YG I q (by simp))
  |_=>exact absurd (show false=true from hs) Bool.false_ne_true
 |int i=>
  obtain⟨t,rfl⟩:=rx;cases y with
  |non=>cases ry;exact PySem.EqNone.ne_int_none (YG I q (by simp))
  |int j=>obtain⟨t',rfl⟩:=ry;exact ne_int (YG I q (congrArg not Zn2))
  |str j=>obtain⟨t',rfl⟩:=ry;exact PySem.EqMixed.ne_int_str (YG I q (by simp))
  |_=>exact absurd (show false=true from hs) Bool.false_ne_true
 |str i=>
  obtain⟨t,rfl⟩:=rx;cases y with
  |non=>cases ry;exact PySem.EqNone.ne_str_none (YG I q (by simp))
  |bl j=>cases ry;exact PySem.EqMixed.ne_str_bool (YG I q (by simp))
  |int j=>obtain⟨t',rfl⟩:=ry;exact PySem.EqMixed.ne_str_int (YG I q (by simp))
  |str j=>obtain⟨t',rfl⟩:=ry;exact ne_str (YG I q (congrArg not Zn3))
  |_=>exact absurd (show false=true from hs) Bool.false_ne_true
 |byt i=>
  obtain⟨t,rfl⟩:=rx;cases y with
  |byt j=>obtain⟨t',rfl⟩:=ry;exact PySem.W.ne_bytes (YG I q (congrArg not Zn4))
  |_=>exact absurd (show false=true from hs) Bool.false_ne_true
 |_=>cases y<;>exact absurd (show false=true from hs) Bool.false_ne_true
theorem Zfk:OpR X (compareOp .Lt) (rI0 fun i j=> .bl (decide (i<j))):=ZrD fun _ _ _ _ _ _ _ q=>lt_int q
theorem ZsF:OpR X (compareOp .LtE) (rI0 fun i j=> .bl (decide (i<=j))):=ZrD fun _ _ _ _ _ _ _ q=>le_int q
theorem ZgM:OpR X (compareOp .Gt) (rI0 fun i j=> .bl (decide (j<i))):=ZrD fun _ _ _ _ _ _ _ q=>gt_int q
theorem Zah:OpR X (compareOp .Is) (fun x y H Q=>y=.non/\Q (.bl (decide (x=.non))) H):=by
 intro pins s σ H x y v u Q I rx ry h;obtain⟨rfl,q⟩:=h;cases ry;refine is_none_gen (YG I q ?_);cases x<;>first
  |(cases rx;rfl)
  |(obtain⟨t,rfl⟩:=rx;rfl)
theorem Zhg:OpR X (compareOp .IsNot) (fun x y H Q=>y=.non/\Q (.bl (!decide (x=.non))) H):=by
 intro pins s σ H x y v u Q I rx ry h;obtain⟨rfl,q⟩:=h;cases ry;refine isnot_none_gen (YG I q ?_);cases x<;>first
  |(cases rx;rfl)
  |(obtain⟨t,rfl⟩:=rx;rfl)
theorem ZL(b:Expr){op:CmpOp}(h:op≠.In:=by decide)(h2:op≠.NotIn:=by decide):behindInMarks op b=false:=by
 have e1:(op==CmpOp.In)=false:=by cases op<;>first|rfl|exact absurd rfl h
 have e2:(op==CmpOp.NotIn)=false:=by cases op<;>first|rfl|exact absurd rfl h2
 cases b<;>simp[behindInMarks,e1,e2]
theorem Za5{op:CmpOp}{r:R2}(ho:OpR X (compareOp op) r)(ha:PE X a ta)(hb:PE X b tb)(hm:behindInMarks op b=false):PE X (.Compare a [op] [b] pos) (tOp r ta tb):=by
 intro pins s σ H Q I h;exact wpAny_Compare1 (ZrC ha hb I h fun v u s2 x y H2 I2 rx ry q=>ho pins s2 σ H2 x y v u Q I2 rx ry q) hm
def Zrf(t:TE):TT:=fun σ H Q=>t σ H fun x H'=>∃k,x=.bl k/\Q k H'
theorem Zy{op:CmpOp}{r:R2}(ho:OpR X (compareOp op) r)(ha:PE X a ta)(hb:PE X b tb)(hm:behindInMarks op b=false):PT X (.Compare a [op] [b] pos) (Zrf (tOp r ta tb)):=by
 intro pins s σ H Q I h;refine wpAny_isTrue_Compare1 (thn (ha pins s σ H _ I h) fun v s1 ⟨x,H1,I1,r1,q1⟩=>thn (hb pins s1 σ H1 _ I1 q1) fun u s2 ⟨y,H2,I2,r2,q2⟩=>
  thn (ho pins s2 σ H2 x y v u _ I2 r1 r2 q2) fun c s3 ⟨z,H3,I3,r3,k,e,q3⟩=> ?_) hm
 subst e;cases r3;exact wpAny_truthy_bool ⟨H3,I3,q3⟩
theorem ZjM:(sizeLine:Nat)<2^63:=by rw[sizeLine_eq];decide
theorem ZeE:OpR X (binaryOp .Add) (fun x y H Q=>∃i j,x=.str i/\y=.str j/\i.length+j.length<=sizeLine/\Q (.str (i++j)) H):=by
 intro pins s σ H x y v u Q I rx ry h;obtain⟨i,j,rfl,rfl,hz,q⟩:=h;obtain⟨t,rfl⟩:=rx;obtain⟨t',rfl⟩:=ry;exact add_str (fun t' tk=>⟨.str (i++j),H,I.tok _,⟨_,rfl⟩,q⟩) hz
theorem ZcI{x:V}{us:List Value}(r:Yr [x] us):∃u,us=[u]/\Yn x u:=by
 cases r with
 |cons r1 r2=>cases r2;exact⟨_,rfl,r1⟩
theorem ZoK{x y:V}{us:List Value}(r:Yr [x,y] us):∃u w',us=[u,w']/\Yn x u/\Yn y w':=by
 cases r with
 |cons r1 r2=>
  cases r2 with
  |cons r3 r4=>cases r4;exact⟨_,_,rfl,r1,r3⟩
theorem ZhC:Zbm X (.builtin "abs") (fun xs H Q=>∃i,xs=[.int i]/\Q (.int (if i<0 then-i else i)) H):=by
 intro pins s σ H xs us Q I r h;obtain⟨i,rfl,q⟩:=h;obtain⟨u,rfl,t,rfl⟩:=ZcI r;exact call_abs_int fun u tk=>⟨.int (if i<0 then-i else i),H,I.tok _,⟨_,rfl⟩,q⟩
theorem Zjb(hc:X.calm=true):Zbm X (.builtin "max") (fun xs H Q=>∃i j,xs=[.int i,.int j]/\Q (.int (if j>i then j else i)) H):=by
 intro pins s σ H xs us Q I r h;obtain⟨i,j,rfl,q⟩:=h;obtain⟨u,w',rfl,⟨t,rfl⟩,⟨t',rfl⟩⟩:=ZoK r;refine max_two_ints (I.ok.hd hc) fun h' tk k=>⟨_,H,I.kept k, ?_,q⟩
 by_cases hj:j>i
 ·rw[if_pos hj,if_pos hj];exact⟨_,rfl⟩
 ·rw[if_neg hj,if_neg hj];exact⟨_,rfl⟩
theorem ZnH(hc:X.calm=true):Zbm X (.builtin "min") (fun xs H Q=>∃i j,xs=[.int i,.int j]/\Q (.int (if j<i then j else i)) H):=by
 intro pins s σ H xs us Q I r h;obtain⟨i,j,rfl,q⟩:=h;obtain⟨u,w',rfl,⟨t,rfl⟩,⟨t',rfl⟩⟩:=ZoK r;refine min_two_ints (I.ok.hd hc) fun h' tk k=>⟨_,H,I.kept k, ?_,q⟩
 by_cases hj:j<i
 ·rw[if_pos hj,if_pos hj];exact⟨_,rfl⟩
 ·rw[if_neg hj,if_neg hj];exact⟨_,rfl⟩
theorem ZcJ:Zbm X (.type "int") (fun xs H Q=>(∃i,xs=[.int i]/\Q (.int i) H)\/∃k,xs=[.bl k]/\Q (.int (if k then 1 else 0)) H):=by
 intro pins s σ H xs us Q I r h;rcases h with ⟨i,rfl,q⟩|⟨k,rfl,q⟩
 ·obtain⟨u,rfl,t,rfl⟩:=ZcI r;exact call_int_int ⟨.int i,H,I,⟨_,rfl⟩,q⟩
 ·obtain⟨u,rfl,r1⟩:=ZcI r;cases r1;exact call_int_bool ⟨.int (if k then 1 else 0),H,I.tok _,⟨_,rfl⟩,q⟩
def ZtC(K:PySem.W.Frag)(x:V)(H:Hp)(n:Nat):Prop:=
 match x with
 | .str y=>y.length<=sizeLine/\n=y.length
 | .byt y=>y.size<=sizeLine/\n=y.size
 | .ref p=>(∃xs,SqL K H p xs/\n=xs.length)\/∃xs,SqT K H p xs/\n=xs.length
 |_=>False
theorem Zai:Zbm X (.builtin "len") (fun xs H Q=>∃x n,xs=[x]/\ZtC X.K x H n/\Q (.int n) H):=by
 intro pins s σ H xs us Q I r h;obtain⟨x,n,rfl,e,q⟩:=h;obtain⟨u,rfl,rx⟩:=ZcI r;have hl:=ZjM;have hs:sizeLine=16777216:=sizeLine_eq;cases x with
 |str y=>
  obtain⟨t,rfl⟩:=rx;obtain⟨hy,e'⟩:y.length<=sizeLine/\n=y.length:=e;subst e';exact len_str (by omega) ⟨.int _,H,I.tok _,⟨_,rfl⟩,q⟩
 |byt y=>
  obtain⟨t,rfl⟩:=rx;obtain⟨hy,e'⟩:y.size<=sizeLine/\n=y.size:=e;subst e';exact PySem.W.len_bytes (by omega) ⟨.int _,H,I.tok _,⟨_,rfl⟩,q⟩
 |ref p=>
  cases rx;have e':(∃xs,SqL X.K H p xs/\n=xs.length)\/∃xs,SqT X.K H p xs/\n=xs.length:=e;rcases e' with ⟨xs,hx,e'⟩|⟨xs,hx,e'⟩
  ·subst e';obtain⟨its,r',pl,hz⟩:=I.list hx;have hlen:=r'.length;exact Calls.call_len_list pl.isList (by simp only [List.size_toArray];omega) ⟨.int xs.length,H,I.tok _,⟨_,by simp only [List.size_toArray];rw[hlen]⟩,q⟩
  ·subst e';obtain⟨its,r',pl,hz⟩:=I.tuple hx;have hlen:=r'.length;exact len_tuple pl (by simp only [List.size_toArray];omega) ⟨.int xs.length,H,I.tok _,⟨_,by simp only [List.size_toArray];rw[hlen]⟩,q⟩
 |_=>exact(show False from e).elim
end
end L2
namespace L2
open PySem PySem.Spec PyProof.Rows
structure Zm1 (h:Heap) (x dx C:Addr) (mA:Str->Option Value):Prop where
 obj:h.get? x=some (PySem.W.instObj C dx)
 ns:h.Ns1 dx mA
 ne:dx≠x
theorem ZnI{h:Heap}{dx:Addr}{mA:Str->Option Value}(n:h.Ns1 dx mA):∃od,h.get? dx=some od/\∀name,PySem.W.lookIn name od=some (mA name):=by
 obtain⟨o,es,ep,ho,hd,hk,_,hm⟩:=n;refine⟨o,ho,fun name=> ?_⟩;have e:=hm name;unfold nsFind findBy at e
 rw[<-Array.find?_toList] at e
 unfold PySem.W.lookIn;rw[hd]
 dsimp only
 split
 ·rename_i y q
  rw[q] at e
  exact congrArg some e
 ·rename_i q
  rw[q] at e
  have a:es.toList.any (·.refKey)=false:=by
   rw[List.any_eq_false];intro y hy;obtain⟨z,t,hkey⟩:=hk y (Array.mem_toList_iff.mp hy);simp[DictEntry.refKey,hkey]
  have a':¬es.toList.any (·.refKey)=true:=by rw[a];exact Bool.false_ne_true
  rw[if_neg a'];exact congrArg some e
theorem Zm1.look{h:Heap}{x dx C:Addr}{mA:Str->Option Value}(I:Zm1 h x dx C mA):∃od,PySem.W.InstAt h x (PySem.W.instObj C dx) C (some od)/\∀name,PySem.W.lookIn name od=some (mA name):=
 let ⟨od,ho,hl⟩:=ZnI I.ns
 ⟨od,⟨I.obj,rfl,rfl,ho⟩,hl⟩
section
variable {prog:Program} {w:World} {A:Around} {E:Value->Shared->Prop} {s:Shared} {K:PySem.W.Frag} {x dx C f:Addr} {mA:Str->Option Value} {name:Str} {v:Value}
theorem Zqp{expr:Bool}{Q:Value->Shared->Prop}(X:K.In s.heap)(I:Zm1 s.heap x dx C mA)(hg:PySem.W.plainGet K C name=true)(hh:PySem.W.hasDictIn K C=true)
  (ha:PySem.W.findIn K (.ref C) name=some none)(hv:mA name=some v)(hv':PySem.W.handedIn v=true)(h:Q v {s with toks:=s.toks+1}):
  wpAny (model prog w) A (getAttr (.ref x) name expr) Q E s:=by
 obtain⟨od,J,hl⟩:=I.look;exact PySem.W.get_value X J (PySem.W.plainGet_of hg).1 (PySem.W.findObj_own hh ha rfl (by rw[hl,hv])) hv' h
theorem ZoL{pl:Sem Bool}{Q:Value×List Value->Shared->Prop}(X:K.In s.heap)(I:Zm1 s.heap x dx C mA)(hg:PySem.W.plainGet K C name=true)
  (hf:PySem.W.findIn K (.ref C) name=some (some (.ref f)))(ht:PySem.W.isFn K (.ref f)=true)(hv:mA name=none)(h:Q (.ref f,[.ref x]) s):
  wpAny (model prog w) A (getMethod (.ref x) name pl) Q E s:=by
 obtain⟨od,J,hl⟩:=I.look;exact PySem.W.method_fn X J (PySem.W.plainGet_of hg).1 (PySem.W.plainGet_of hg).2 hf (beq_iff_eq.mp ht) (by show(PySem.W.lookIn name od).map (·.isSome)=some false;rw[hl,hv];rfl) h
theorem Zqq{ns:List Str}{Q:Unit->Shared->Prop}(X:K.In s.heap)(I:Zm1 s.heap x dx C mA)
  (hs:PySem.W.findIn K (.ref C) "__setattr__"=some (some (.builtin "object.__setattr__")))(hp:PySem.W.plainOver K C=true)(ht:PySem.W.takerIn K C name=some none)(hh:PySem.W.hasDictIn K C=true)
  (hw:PySem.Within mA ns)(hsz:ns.length<=sizeLine)
  (h:∀h',Zm1 h' x dx C (fun y=>if y=name then some v else mA y)->Heap.SameBut dx s.heap h'->Q () {s with heap:=h',toks:=s.toks+2}):
  wpAny (model prog w) A (setAttr (.ref x) name v) Q E s:=by
 obtain⟨od,J,hl⟩:=I.look;refine PySem.W.set_plain X J hs (PySem.W.osa_open (s:={s with toks:=s.toks+1}) (r:=none) X J hp ht fun b=> ?_);obtain⟨cd,hc,hd'⟩:=PySem.W.any_some hh;have hx:s.heap.get? x=some ⟨.ref C,some dx,.plain, #[]⟩:=I.obj;refine wpAny_bind (wpAny_pure (wpAny_bind (wpAny_bind (wpAny_loadPart hx (wpAny_bind (PySem.W.Looks.here (s:={s with toks:=s.toks+1}) (PySem.W.looks_clsIn X hc) ?_))))))
 rw[hd'];refine wpAny_pure (a:=some dx) (wpAny_bind (wpAny_pure (wpAny_bind ?_)));refine wpAny_nsSet1 (s:={s with toks:=s.toks+1}) I.ns fun h' hn2 hs2=> ?_;obtain⟨oD,esD,epD,hoD,hdD,hcD⟩:=hn2.count (PySem.Within.cons name v hw);refine wpAny_bind (wpAny_lookBehind hoD (by rw[hdD];exact pastItsLine_dict (Nat.le_trans hcD (by rw[List.length_cons];omega))) ?_)
 exact wpAny_pure (h _ ⟨(hs2.2 _ (Ne.symm I.ne)).trans I.obj,hn2,I.ne⟩ hs2)
theorem ZoM{R:Result->Shared->Prop}{vs:List Value}{kw:List (Str×Value)}(X:K.In s.heap)(hm:PySem.W.makesIn K C=true)
  (hi:PySem.W.findIn K (.ref C) "__init__"=some (some (.ref f)))(hf:PySem.W.typeIn K (.ref f)=some (.type "function"))
  (h:codeAny (model prog w) (A.under (.builtin "type.__call__" ⟨.ref C::vs,kw⟩)) (.call (.ref f) ⟨.ref (s.heap.objs.size+1)::vs,kw⟩) (PySem.W.InitBack (s.heap.objs.size+1) R)
   {s with heap:=(s.heap.push PySem.W.emptyDict).push (PySem.W.instObj C s.heap.objs.size)}):
  codeAny (model prog w) A (.call (.ref C) ⟨vs,kw⟩) R s:=by
 obtain⟨hh,g,d,t,os⟩:=s;exact PySem.W.make_core (PySem.W.makes_of X hm) (PySem.W.looks_findIn X hi) (fun self=>PySem.W.bind_fn X self hf) (.inl rfl) h
end
def Yg(f:Str)(v:V):List (Str×V)->List (Str×V)
 |[]=>[(f,v)]
 |(g,x)::r=>if g=f then(g,v)::r else(g,x)::Yg f v r
theorem Zz(f g:Str)(v:V):∀fs:List (Str×V),(Yg f v fs).lookup g=if g=f then some v else fs.lookup g
 |[]=>by
  show List.lookup g [(f,v)]=_
  by_cases h:g=f
  ·have hb:(g==f)=true:=beq_iff_eq.mpr h;simp only [List.lookup,hb,if_pos h]
  ·have hb:(g==f)=false:=beq_eq_false_iff_ne.mpr h;simp only [List.lookup,hb,if_neg h]
 |(k,x)::r=>by
  have ih:=Zz f g v r;rw[show Yg f v ((k,x)::r)=(if k=f then(k,v)::r else(k,x)::Yg f v r) from rfl]
  by_cases hk:k=f
  ·rw[if_pos hk]
   by_cases h:g=k
   ·have hb:(g==k)=true:=beq_iff_eq.mpr h;simp only [List.lookup,hb,if_pos (h.trans hk)]
   ·have hb:(g==k)=false:=beq_eq_false_iff_ne.mpr h;simp only [List.lookup,hb,if_neg (fun e:g=f=>h (e.trans hk.symm))]
  ·rw[if_neg hk]
   by_cases h:g=k
   ·have hb:(g==k)=true:=beq_iff_eq.mpr h;simp only [List.lookup,hb,if_neg (fun e:g=f=>hk (h.symm.trans e))]
   ·have hb:(g==k)=false:=beq_eq_false_iff_ne.mpr h;simp only [List.lookup,hb];exact ih
theorem Zg5(f:Str)(v:V):∀fs:List (Str×V),f∈(Yg f v fs).map (·.1)/\∀g,g∈fs.map (·.1)->g∈(Yg f v fs).map (·.1)
 |[]=>⟨by simp[Yg],fun g h=>by simp at h⟩
 |(k,x)::r=>by
  obtain⟨i1,i2⟩:=Zg5 f v r;rw[show Yg f v ((k,x)::r)=(if k=f then(k,v)::r else(k,x)::Yg f v r) from rfl]
  by_cases hk:k=f
  ·rw[if_pos hk];subst hk;exact⟨by simp,fun g h=>by simpa using h⟩
  ·rw[if_neg hk];refine⟨?_,fun g h=> ?_⟩
   ·rw[List.map_cons];exact List.mem_cons_of_mem _ i1
   ·rw[List.map_cons] at h⊢
    rcases List.mem_cons.mp h with e|e
    ·exact List.mem_cons.mpr (.inl e)
    ·exact List.mem_cons_of_mem _ (i2 g e)
theorem ZgN(f:Str)(v:V):∀fs:List (Str×V),(Yg f v fs).length<=fs.length+1
 |[]=>by simp[Yg]
 |(k,x)::r=>by
  have ih:=ZgN f v r;rw[show Yg f v ((k,x)::r)=(if k=f then(k,v)::r else(k,x)::Yg f v r) from rfl]
  by_cases hk:k=f
  ·rw[if_pos hk,List.length_cons,List.length_cons];omega
  ·rw[if_neg hk,List.length_cons,List.length_cons];omega
theorem ZcY.some_of{v:V}{o:Option Value}(r:ZcY (some v) o):∃u,o=some u/\Yn v u:=by
 cases o with
 |none=>exact(show False from r).elim
 |some u=>exact⟨u,rfl,r⟩
theorem ZcY.none_of{o:Option Value}(r:ZcY none o):o=none:=by
 cases o with
 |none=>rfl
 |some u=>exact(show False from r).elim
theorem ZnJ{v:V}{u:Value}(r:Yn v u):PySem.W.handedIn u=true:=by
 cases v with
 |non=>cases(show u=Value.none from r);rfl
 |bl b=>cases(show u=Value.bool b from r);rfl
 |int i=>obtain⟨t,e⟩:=(show∃t,u=Value.int i t from r);cases e;rfl
 |str x=>obtain⟨t,e⟩:=(show∃t,u=Value.str x t from r);cases e;rfl
 |byt b=>obtain⟨t,e⟩:=(show∃t,u=Value.bytes b t from r);cases e;rfl
 |flt b=>obtain⟨t,e⟩:=(show∃t,u=Value.float b t from r);cases e;rfl
 |ref a=>cases(show u=Value.ref a from r);rfl
 |ty n=>cases(show u=Value.type n from r);rfl
section
variable {P:Program} {w:World} {H H':Hp} {h h':Heap} {a C dx:Addr} {fs fs':List (Str×V)}
theorem ZjN(hok:HOk P w H h)(e:H a=some (.ins C dx fs)):∃mA,Zm1 h a dx C mA/\(∀f,ZcY (fs.lookup f) (mA f))/\PySem.Within mA (fs.map (·.1))/\fs.length<=1000/\H dx=some (.own a):=by
 obtain⟨d,z,ne,ob,mA,n,r,q⟩:=(show XN P w H h a (.ins C dx fs) from hok a _ e)
 exact⟨mA,⟨ob,n,ne⟩,r,q,z,d⟩
end
structure Cls (K:PySem.W.Frag) (C:Addr):Prop where
 pg:PySem.W.plainGet K C Str.empty=true
 hd:PySem.W.hasDictIn K C=true
 po:PySem.W.plainOver K C=true
 sa:PySem.W.findIn K (.ref C) "__setattr__"=some (some (.builtin "object.__setattr__"))
theorem Cls.get{K:PySem.W.Frag}{C:Addr}(c:Cls K C)(f:Str):PySem.W.plainGet K C f=true:=c.pg
def YW(K:PySem.W.Frag)(C:Addr)(f:Str):Prop:=PySem.W.findIn K (.ref C) f=some none
theorem YW.taker{K:PySem.W.Frag}{C:Addr}{f:Str}(n:YW K C f):PySem.W.takerIn K C f=some none:=by
 unfold PySem.W.takerIn;rw[show PySem.W.findIn K (.ref C) f=some none from n]
 rfl
structure ZsG (K:PySem.W.Frag) (C:Addr) (m:Str) (f:Addr):Prop where
 at_:PySem.W.findIn K (.ref C) m=some (some (.ref f))
 fn:PySem.W.isFn K (.ref f)=true
 kp:PySem.W.keepIn K (.ref f)=true
section
variable {X:Cx} {pins:List (Addr×Obj)} {σ:St} {H:Hp} {s:Shared} {a C dx:Addr} {fs:List (Str×V)} {f:Str} {v:V} {A:Around} {E:Value->Shared->Prop}
theorem Zm2{b:Bool}{Q:Value->Shared->Prop}(I:Inv X pins σ H s)(e:H a=some (.ins C dx fs))(c:Cls X.K C)(n:YW X.K C f)(l:fs.lookup f=some v)
  (h:∀u s',Inv X pins σ H s'->Yn v u->Q u s'):wpAny (model X.prog X.w) A (getAttr (.ref a) f b) Q E s:=by
 obtain⟨mA,O,r,_,_,_⟩:=ZjN I.hok e;obtain⟨u,hu,ru⟩:=ZcY.some_of (v:=v) (o:=mA f) (by rw[<-l];exact r f)
 exact Zqp I.kIn O (c.get f) c.hd n hu (ZnJ ru) (h u _ (I.tok _) ru)
theorem ZhD{m:Str}{g:Addr}{pl:Sem Bool}{Q:Value×List Value->Shared->Prop}(I:Inv X pins σ H s)(e:H a=some (.ins C dx fs))(c:Cls X.K C)(k:ZsG X.K C m g)(l:fs.lookup m=none)
  (h:Q (.ref g,[.ref a]) s):wpAny (model X.prog X.w) A (getMethod (.ref a) m pl) Q E s:=by
 obtain⟨mA,O,r,_,_,_⟩:=ZjN I.hok e;have hn:mA m=none:=ZcY.none_of (by rw[<-l];exact r m)
 exact ZoL I.kIn O (c.get m) k.at_ k.fn hn h
theorem Zm3{y:V}{u:Value}{Q:Unit->Shared->Prop}(I:Inv X pins σ H s)(e:H a=some (.ins C dx fs))(c:Cls X.K C)(n:YW X.K C f)(hl:fs.length<1000)(ry:Yn y u)
  (h:∀s',Inv X pins σ (upd H a (.ins C dx (Yg f y fs))) s'->Q () s'):wpAny (model X.prog X.w) A (setAttr (.ref a) f u) Q E s:=by
 obtain⟨mA,O,r,wi,_,ho⟩:=ZjN I.hok e;have hz:(fs.map (·.1)).length<=sizeLine:=by rw[List.length_map,sizeLine_eq];omega
 refine Zqq I.kIn O c.sa c.po n.taker c.hd wi hz fun h' O' sb=>h _ ?_;have hd:∃o,h'.get? dx=some o:=let ⟨o,_,_,e',_⟩:=O'.ns;⟨o,e'⟩;refine I.write (x:=a) (e:=dx) (by rw[e];exact True.intro) (.inr ho) (fun b q hb z=>(sb.2 b hb).trans z) hd ?_
 refine⟨by rw[Zv O.ne];exact ho, ?_,O.ne,O'.obj,_,O'.ns,fun g=> ?_,fun g hg=> ?_⟩
 ·have:=ZgN f y fs;omega
 ·show ZcY ((Yg f y fs).lookup g) (if g=f then some u else mA g);rw[Zz]
  by_cases q:g=f
  ·rw[if_pos q,if_pos q];exact ry
  ·rw[if_neg q,if_neg q];exact r g
 ·by_cases q:g=f
  ·rw[q];exact(Zg5 f y fs).1
  ·refine(Zg5 f y fs).2 g (wi g fun z=>hg ?_);show(if g=f then some u else mA g)=none;rw[if_neg q];exact z
theorem Inv.made(I:Inv X pins σ H s):Inv X pins σ (upd (upd H s.heap.objs.size (.own (s.heap.objs.size+1))) (s.heap.objs.size+1) (.ins C s.heap.objs.size []))
  {s with heap:=(s.heap.push PySem.W.emptyDict).push (PySem.W.instObj C s.heap.objs.size)}:=by
 have e1:(s.heap.push PySem.W.emptyDict).get? s.heap.objs.size=some PySem.W.emptyDict:=Heap.get?_push_size s.heap rfl;have e2:((s.heap.push PySem.W.emptyDict).push (PySem.W.instObj C s.heap.objs.size)).get? (s.heap.objs.size+1)=some (PySem.W.instObj C s.heap.objs.size):=by
  have:=Heap.get?_push_size (s.heap.push PySem.W.emptyDict) (o:=PySem.W.instObj C s.heap.objs.size) rfl
  rwa [Heap.size_push] at this
 have e3:(s.heap.push PySem.W.emptyDict).Ns s.heap.objs.size (fun _=>none):=⟨PySem.W.emptyDict, #[],_,e1,rfl,(fun e he=>absurd he (by simp)),fun _=>rfl⟩
 have I1:=I.laid (a:=s.heap.objs.size) (o:=.own (s.heap.objs.size+1)) (h':=s.heap.push PySem.W.emptyDict) (t':=s.toks) (fun b u q=>Heap.get?_push_of_some _ q) (Nat.le_refl _) ⟨_,e1⟩;refine I1.laid (a:=s.heap.objs.size+1) (o:=.ins C s.heap.objs.size []) (t':=s.toks) (fun b u q=>Heap.get?_push_of_some _ q) (Nat.le_of_eq (Heap.size_push _ _)) ?_;have ne:s.heap.objs.size≠s.heap.objs.size+1:=Nat.ne_of_lt (Nat.lt_succ_self _)
 refine⟨by rw[Zv ne,Zc],Nat.zero_le _,ne,e2,fun _=>none,(Heap.Ns1.of_empty e3).at fun o q=>Heap.get?_push_of_some _ q,fun _=>True.intro,fun y hy=>absurd rfl hy⟩
theorem Zqr{prog:Program}{w:World}{env:Env}{e:Expr}{f:Str}{pos:Pos}{s:Shared}{Q:Value->Shared->Prop}(hb:attributeBase e f env (eval e env)=eval e env)
  (h:wpAny (model prog w) A (eval e env) (fun o s₁=>wpAny (model prog w) A (getAttr o f true) Q E s₁) E s):wpAny (model prog w) A (eval (.Attribute e f pos) env) Q E s:=
 Attribute_any_ h (by rw[arm_eval_Attribute,hb])
end
def ZrF(K:PySem.W.Frag)(ta:TE)(f:Str):TE:=fun σ H Q=>ta σ H fun x H1=>∃a C dx fs v,x=.ref a/\H1 a=some (.ins C dx fs)/\Cls K C/\YW K C f/\fs.lookup f=some v/\Q v H1
def ZtD(K:PySem.W.Frag)(ta tv:TE)(f:Str):TS:=fun D σ H=>tv σ H fun y H1=>ta σ H1 fun x H2=>∃a C dx fs,x=.ref a/\H2 a=some (.ins C dx fs)/\Cls K C/\YW K C f/\fs.length<1000/\
 D.nx σ (upd H2 a (.ins C dx (Yg f y fs)))
section
variable {X:Cx} {o e value:Expr} {f:Str} {pos pos' tpos:Pos} {ta tv:TE}
theorem Yp(he:PE X e ta)(hb:attributeBase e f X.env (eval e X.env)=eval e X.env):PE X (.Attribute e f pos) (ZrF X.K ta f):=by
 intro pins s σ H Q I h;refine Zqr hb (thn (he pins s σ H _ I h) fun u s1 ⟨x,H1,I1,rx,a,C,dx,fs,v,ex,ea,c,n,l,q⟩=> ?_);subst ex;obtain rfl:u=Value.ref a:=rx;exact Zm2 I1 ea c n l fun u' s2 I2 ru=>⟨v,H1,I2,ru,q⟩
theorem Zbz(ha:PE X o ta)(hv:PE X value tv)(hs:swapsWith value (some (.Attribute o f pos')) pos.line X.env=pure false):PS X (.Assign [.Attribute o f pos'] value pos) (ZtD X.K ta tv f):=by
 intro pins s σ H D I h;refine plainObj_wpAny_Assign_Attribute (thn (hv pins s σ H _ I h) fun u s1 ⟨y,H1,I1,ry,q⟩=>thn (ha pins s1 σ H1 _ I1 q) fun ov s2 ⟨x,H2,I2,rx,a,C,dx,fs,ex,ea,c,n,l,q2⟩=> ?_) hs;subst ex;obtain rfl:ov=Value.ref a:=rx;exact Zm3 I2 ea c n l ry fun s3 I3=>⟨σ,_,I3,q2⟩
end
section
variable {X:Cx} {pins:List (Addr×Obj)} {σ:St} {H:Hp} {s:Shared} {A:Around} {E:Value->Shared->Prop} {Q:Value->Shared->Prop} {c:Value} {b:Bool}
end
end L2
namespace L2
open PySem PySem.Spec PyProof.Rows
structure Za8 (k:Nat) (A:Around):Prop where
 hd:A.handled=none
 dp:A.depth+3*k+5<recursionLimit
 un:A.units+16*k+200<cLine
theorem Za8.mono{j k:Nat}{A:Around}(r:Za8 k A)(h:j<=k):Za8 j A:=⟨r.hd,by have:=r.dp;omega,by have:=r.un;omega⟩
theorem Za8.deeper{k:Nat}{A:Around}(r:Za8 (k+1) A)(env:Env):Za8 k (A.deeper env):=
 ⟨r.hd,by have:=r.dp;show A.depth+1+3*k+5<_;omega,by have:=r.un;show A.units+3+16*k+200<_;omega⟩
theorem Zm4{A:Around}{C:Addr}{us:List Value}{kw:List (Str×Value)}:(A.under (.builtin "type.__call__" ⟨.ref C::us,kw⟩)).depth=A.depth+1:=by
 first|rfl|simp[Around.under,Code.weight,Code.isCreation,Code.isGuard,Code.isCaller,Code.frames,Code.isFrame,guardIds]
theorem Zm5{A:Around}{C:Addr}{us:List Value}{kw:List (Str×Value)}:(A.under (.builtin "type.__call__" ⟨.ref C::us,kw⟩)).units=A.units+1:=by
 first|rfl|simp[Around.under,Code.cUnits,Code.frames,Code.isFrame]
theorem Za8.make{k:Nat}{A:Around}(r:Za8 (k+1) A)(C:Addr)(us:List Value)(kw:List (Str×Value)):Za8 k (A.under (.builtin "type.__call__" ⟨.ref C::us,kw⟩)):=
 ⟨r.hd,by have:=r.dp;rw[Zm4];omega,by have:=r.un;rw[Zm5];omega⟩
theorem Za8.depth{k:Nat}{A:Around}(r:Za8 k A):A.depth<recursionLimit:=by have:=r.dp;omega
theorem Za8.units{k:Nat}{A:Around}(r:Za8 k A):A.units+64<cLine:=by have:=r.un;omega
def Zm6:TA:=fun _ H Q=>Q [] H
def ZsH(ta:TE)(tr:TA):TA:=fun σ H Q=>ta σ H fun x H1=>tr σ H1 fun xs H2=>Q (x::xs) H2
section
variable {X:Cx} {e:Expr} {es:List Expr} {te:TE} {t:TA} {pos:Pos}
theorem Zm:PA X [] Zm6:=fun _ _ _ _ H Q I h=>Calls.spliced_nil ⟨[],H,I,.nil,h⟩
theorem Za(ha:PE X e te)(hr:PA X es t)(hs:starEach (e::es) X.env=(false,eval e X.env)::starEach es X.env:=by rfl):PA X (e::es) (ZsH te t):=by
 intro pos pins s σ H Q I h;rw[hs];show wpAny _ _ (spliced ((false,eval e X.env)::backTo pos (starEach es X.env))) _ _ s;refine Calls.spliced_cons (thn (ha pins s σ H _ I h) fun u s1 ⟨x,H1,I1,r1,q1⟩=> ?_);exact thn (hr pos pins s1 σ H1 _ I1 q1) fun us s2 ⟨xs,H2,I2,r2,q2⟩=>⟨x::xs,H2,I2,.cons r1 r2,q2⟩
def ZtE(t:TA):TE:=fun σ H Q=>t σ H fun xs H1=>xs.length<=sizeLine/\∀p,H1 p=none->Q (.ref p) (upd H1 p (.tup xs))
def ZtF(t:TA):TE:=fun σ H Q=>t σ H fun xs H1=>xs.length<=sizeLine/\∀p,H1 p=none->Q (.ref p) (upd H1 p (.lst xs))
theorem YX{x1}(h:PA X es t):PE X (.Tuple es x1 pos) (ZtE t):=by
 intro pins s σ H Q I hq;refine wpAny_Tuple_spliced (thn (h pos pins s σ H _ I hq) fun us s1 ⟨xs,H1,I1,r,z,q⟩=>⟨by rw[<-r.length];exact z, ?_⟩)
 have hf:H1 s1.heap.objs.size=none:=I1.hok.fresh (Nat.le_refl _);refine⟨.ref s1.heap.objs.size,upd H1 s1.heap.objs.size (.tup xs),I1.laid (t':=s1.toks) (fun b u e=>Heap.get?_push_of_some _ e) (Nat.le_refl _) ?_,rfl,q _ hf⟩;exact⟨z,us,r,⟨_,Heap.get?_push_size _ rfl,rfl,_,rfl⟩⟩
theorem Yq(h:PA X es t):PE X (.List es pos) (ZtF t):=by
 intro pins s σ H Q I hq;refine wpAny_List_spliced (thn (h pos pins s σ H _ I hq) fun us s1 ⟨xs,H1,I1,r,z,q⟩=>⟨by rw[<-r.length];exact z, ?_⟩)
 have hf:H1 s1.heap.objs.size=none:=I1.hok.fresh (Nat.le_refl _);refine⟨.ref s1.heap.objs.size,upd H1 s1.heap.objs.size (.lst xs),I1.laid (t':=s1.toks) (fun b u e=>Heap.get?_push_of_some _ e) (Nat.le_refl _) ?_,rfl,q _ hf⟩;exact⟨z,us,0,r,Heap.get?_push_size _ rfl⟩
end
abbrev Sp:=List V->Hp->VK->XK->Prop
abbrev CXT:=List Env->Hp->Shared->XK->Value->Shared->Prop
structure Zm7 (P:Program) (w:World) (K:PySem.W.Frag) (mg:Str->Option Value) (base:Heap) (A:Around) (outer:List Env) (s:Shared) (H:Hp):Prop where
 frames:A.frames=some outer
 mod:Mod K mg base
 bs:∀b o,base.get? b=some o->s.heap.get? b=some o/\H b=none
 bsz:base.objs.size<=s.heap.objs.size
 funs:s.heap.FunFrames base outer
 frf:∀b∈frs outer,H b=none
 hok:HOk P w H s.heap
 bare:AllBare s.gens
def CE(outer:List Env)(P:Program)(w:World)(H:Hp)(s:Shared)(Q:VK)(u:Value)(s':Shared):Prop:=
 ∃v H',s'.os=s.os/\AllBare s'.gens/\Un (frs outer) [] H H' s.heap s'.heap/\HOk P w H' s'.heap/\Yn v u/\Q v H'
def CR(CX:CXT)(outer:List Env)(P:Program)(w:World)(H:Hp)(s:Shared)(Q:VK)(E:XK)(r:Result)(s':Shared):Prop:=
 match r with
 | .ok (.ret u)=>CE outer P w H s Q u s'
 | .ok _=>False
 | .error e=>CX outer H s E e s'
structure Yy (P:Program) (w:World) (K:PySem.W.Frag) (mg:Str->Option Value) (base:Heap) (CX:CXT) (k:Nat) (f:Addr) (fd:FuncData) (ps:List Str) (sp:Sp):Prop where
 len:∀vs H Q E,sp vs H Q E->vs.length=ps.length
 run:∀(A:Around) (outer:List Env) (s:Shared) (H:Hp) (args:Args) (us:List Value) (vs:List V) (Q:VK) (E:XK),Za8 k A->Zm7 P w K mg base A outer s H->BindsTo s fd args (ps.zip us)->Yr vs us->sp vs H Q E->
  codeAny (model P w) A (.call (.ref f) args) (CR CX outer P w H s Q E) s
theorem Zm7.make{P:Program}{w:World}{K:PySem.W.Frag}{mg:Str->Option Value}{base:Heap}{A:Around}{outer:List Env}{s:Shared}{H:Hp}(e:Zm7 P w K mg base A outer s H)(C:Addr)(us:List Value)(kw:List (Str×Value)):
  Zm7 P w K mg base (A.under (.builtin "type.__call__" ⟨.ref C::us,kw⟩)) outer s H:=⟨by first|exact e.frames|(simpa [Around.under,Code.envs,Code.isFrame,pushEnvs] using e.frames),e.mod,e.bs,e.bsz,e.funs,e.frf,e.hok,e.bare⟩
section
variable {X:Cx} {pins:List (Addr×Obj)} {σ:St} {H:Hp} {s s':Shared}
theorem Inv.env0(I:Inv X pins σ H s):Zm7 X.prog X.w X.K X.mg X.base X.A X.stack s H:=
 ⟨I.ok.frames,I.ok.mod,I.bs,Nat.le_trans I.ok.bsz I.sz,I.stack,I.stkFree,I.hok,I.bare⟩
theorem Inv.after{Q:VK}{u:Value}(I:Inv X pins σ H s)(h:CE X.stack X.prog X.w H s Q u s'):EP X pins σ Q u s':=by
 obtain⟨v,H',os,bare,un,hok,r,q⟩:=h;obtain⟨hh,g,d,t,os'⟩:=s';obtain rfl:os'=s.os:=os;exact⟨v,H',I.call (h':=hh) (g':=g) (d':=d) (t':=t) (ch:=[]) un hok bare (fun b z=>absurd z (by simp)),r,q⟩
end
def Zn5(sp:Sp)(dvs:List V)(E:XK)(t:TA):TE:=fun σ H Q=>t σ H fun vs H1=>sp (vs++dvs) H1 Q E
def Zrg(C:Addr)(sp:Sp)(dvs:List V)(E:XK)(t:TA):TE:=fun σ H Q=>t σ H fun vs H1=>∀x dx,H1 x=none->H1 dx=none->dx≠x->
 sp (.ref x::(vs++dvs)) (upd (upd H1 dx (.own x)) x (.ins C dx [])) (fun v H2=>v=.non/\Q (.ref x) H2) E
def Zdy(K:PySem.W.Frag)(fd:FuncData)(ps:List Str)(ds:List Value):Prop:=
 ∀(s:Shared) (us:List Value),K.In s.heap->(us++ds).length=ps.length->BindsTo s fd ⟨us,[]⟩ (ps.zip (us++ds))
theorem Zdy.all{K:PySem.W.Frag}{fd:FuncData}{ps:List Str}(h:∀us:List Value,us.length=ps.length->bindArgs fd ⟨us,[]⟩=pure (ps.zip us)):Zdy K fd ps []:=fun s us _ hl=>by
 rw[List.append_nil] at hl⊢
 exact .of_eq (h us hl)
def ZaA(CX:CXT)(X:Cx)(E:XK):Prop:=∀(pins:List (Addr×Obj)) (σ:St) (H:Hp) (s:Shared) (e:Value) (s':Shared),Inv X pins σ H s->CX X.stack H s E e s'->X.xe e s'
section
variable {X:Cx} {CX:CXT} {k:Nat} {f C:Addr} {fd:FuncData} {ps:List Str} {sp:Sp} {dvs:List V} {ds:List Value} {E:XK} {x m:Str} {p pos apos:Pos} {e o:Expr} {es:List Expr} {ta:TE} {t:TA}
theorem ZjO{pins:List (Addr×Obj)}{σ:St}{H:Hp}{s:Shared}{Q:VK}{us:List Value}{vs:List V}(F:Yy X.prog X.w X.K X.mg X.base CX k f fd ps sp)(hr:Za8 k X.A)(hb:Zdy X.K fd ps ds)(hd:Yr dvs ds)(hx:ZaA CX X E)
  (I:Inv X pins σ H s)(r:Yr vs us)(h:sp (vs++dvs) H Q E):wpAny (model X.prog X.w) X.A (call (.ref f) us) (EP X pins σ Q) X.xe s:=by
 have r2:Yr (vs++dvs) (us++ds):=r.append hd;have hl:(us++ds).length=ps.length:=by rw[<-r2.length];exact F.len _ _ _ _ h
 refine wpAny_call (codeAny_mono (F.run X.A X.stack s H ⟨us,[]⟩ (us++ds) (vs++dvs) Q E hr I.env0 (hb s us I.kIn hl) r2 h) fun r s' hq=> ?_);cases r with
 |error e=>exact hx pins σ H s e s' I hq
 |ok fl=>
  cases fl with
  |ret u=>exact I.after hq
  |next=>exact False.elim hq
  |brk=>exact False.elim hq
  |cont=>exact False.elim hq
theorem Zqs(F:Yy X.prog X.w X.K X.mg X.base CX k f fd ps sp)(hr:Za8 k X.A)(hg:Gl X x)(hm:X.mg x=some (.ref f))(hk:PySem.W.keepIn X.K (.ref f)=true)(hb:Zdy X.K fd ps ds)(hd:Yr dvs ds)(hx:ZaA CX X E)
  (ha:PA X (e::es) t)(hdb:(x==("__debug__":Str))=false:=by decide)(he:starEach (e::es) X.env=(false,eval e X.env)::starEach es X.env:=by rfl)(hpl:(backTo pos (starEach es X.env)).any (·.1)=false:=by rfl):
  PE X (.Call (.Name x p) (e::es) [] pos) (Zn5 sp dvs E t):=by
 intro pins s σ H Q I h;refine wpAny_Call_Name_kw (ZcZ I hg hm ?_ hdb);refine PySem.W.callWith_K (h₀:=X.base) I.ok.mod.kin hk (thn (ha pos pins s σ H _ I h) fun us s1 ⟨vs,H1,I1,r,q⟩=>⟨I1.kIn, ?_⟩) he hpl;exact ZjO F hr hb hd hx I1 r q
theorem ZoN(F:Yy X.prog X.w X.K X.mg X.base CX k f fd ps sp)(hr:Za8 k X.A)(hg:Gl X x)(hm:X.mg x=some (.ref f))(hk:PySem.W.keepIn X.K (.ref f)=true)(hb:Zdy X.K fd ps ds)(hd:Yr dvs ds)(hx:ZaA CX X E)
  (hdb:(x==("__debug__":Str))=false:=by decide):PE X (.Call (.Name x p) [] [] pos) (Zn5 sp dvs E Zm6):=by
 intro pins s σ H Q I h;refine wpAny_Call_Name_kw (ZcZ I hg hm ?_ hdb);exact PySem.W.callWith_K0 I.kIn hk (ZjO (us:=[]) F hr hb hd hx I .nil h)
structure Mk (K:PySem.W.Frag) (C f:Addr):Prop where
 makes:PySem.W.makesIn K C=true
 init:PySem.W.findIn K (.ref C) "__init__"=some (some (.ref f))
 fn:PySem.W.isFn K (.ref f)=true
 kp:PySem.W.keepIn K (.ref C)=true
theorem ZoO{pins:List (Addr×Obj)}{σ:St}{H:Hp}{s:Shared}{Q:VK}{us:List Value}{vs:List V}(M:Mk X.K C f)(F:Yy X.prog X.w X.K X.mg X.base CX k f fd ps sp)(hr:Za8 (k+1) X.A)(hb:Zdy X.K fd ps ds)(hd:Yr dvs ds)
  (hx:ZaA CX X E)(I:Inv X pins σ H s)(r:Yr vs us)
  (h:∀x dx,H x=none->H dx=none->dx≠x->sp (.ref x::(vs++dvs)) (upd (upd H dx (.own x)) x (.ins C dx [])) (fun v H2=>v=.non/\Q (.ref x) H2) E):
  wpAny (model X.prog X.w) X.A (call (.ref C) us) (EP X pins σ Q) X.xe s:=by
 have hq:=h (s.heap.objs.size+1) s.heap.objs.size (I.hok.fresh (Nat.le_succ _)) (I.hok.fresh (Nat.le_refl _)) (Nat.ne_of_lt (Nat.lt_succ_self _));have I2:=Inv.made (C:=C) I;have r2:Yr (V.ref (s.heap.objs.size+1)::(vs++dvs)) (Value.ref (s.heap.objs.size+1)::(us++ds)):=.cons rfl (r.append hd);have hl:(Value.ref (s.heap.objs.size+1)::us++ds).length=ps.length:=by
  have e:=r2.length;rw[F.len _ _ _ _ hq] at e
  exact e.symm
 refine wpAny_call (ZoM (f:=f) I.kIn M.makes M.init (beq_iff_eq.mp M.fn) (codeAny_mono (F.run _ X.stack _ _ ⟨Value.ref (s.heap.objs.size+1)::us,[]⟩ (Value.ref (s.heap.objs.size+1)::(us++ds)) _ _ E (hr.make C us [])
  (I2.env0.make C us []) (hb _ (Value.ref (s.heap.objs.size+1)::us) I2.kIn hl) r2 hq) fun r s' hq'=> ?_))
 cases r with
 |error e=>exact hx pins σ _ _ e s' I2 hq'
 |ok fl=>
  cases fl with
  |ret u=>
   obtain⟨v,H',I3,rv,ev,q3⟩:=I2.after hq';subst ev;exact⟨rv,⟨V.ref (s.heap.objs.size+1),H',I3,rfl,q3⟩⟩
  |next=>exact False.elim hq'
  |brk=>exact False.elim hq'
  |cont=>exact False.elim hq'
theorem Zqt(M:Mk X.K C f)(F:Yy X.prog X.w X.K X.mg X.base CX k f fd ps sp)(hr:Za8 (k+1) X.A)(hg:Gl X x)(hm:X.mg x=some (.ref C))(hb:Zdy X.K fd ps ds)(hd:Yr dvs ds)(hx:ZaA CX X E)
  (ha:PA X (e::es) t)(hdb:(x==("__debug__":Str))=false:=by decide)(he:starEach (e::es) X.env=(false,eval e X.env)::starEach es X.env:=by rfl)(hpl:(backTo pos (starEach es X.env)).any (·.1)=false:=by rfl):
  PE X (.Call (.Name x p) (e::es) [] pos) (Zrg C sp dvs E t):=by
 intro pins s σ H Q I h;refine wpAny_Call_Name_kw (ZcZ I hg hm ?_ hdb);refine PySem.W.callWith_K (h₀:=X.base) I.ok.mod.kin M.kp (thn (ha pos pins s σ H _ I h) fun us s1 ⟨vs,H1,I1,r,q⟩=>⟨I1.kIn, ?_⟩) he hpl;exact ZoO M F hr hb hd hx I1 r q
end
section
variable {X:Cx} {CX:CXT} {k:Nat} {f C:Addr} {fd:FuncData} {ps ks:List Str} {sp:Sp} {E:XK} {x m:Str} {p pos apos kpos:Pos} {e o:Expr} {es:List Expr} {kws:List Keyword} {te ta:TE} {t tk:TA} {nm:Option Str}
variable {g:List Value->List Value->List Value} {gV:List V->List V->List V}
end
structure ZX (N P:List Str) (sc:Scope):Prop where
 kind:sc.kind=.function
 co:sc.isCoroutine=false
 gen:sc.isGenerator=false
 nd:N.Nodup
 pre:N.take P.length=P
 par:∀x∈P,sc.names.lookup x=some .local\/sc.names.lookup x=some .cell
 nofree:∀y∈sc.names,y.2≠.free
theorem Zjc{kindOf:Str->Option NameKind}{x:Str}:∀{binds:List (Str×Value)} {m:Str->Option Value},(∀v,(x,v)∉binds)->bindL kindOf binds m x=m x
 |[],_,_=>rfl
 |(n,v)::r,m,h=>by
  unfold bindL;rw[Zjc fun w hw=>h w (List.mem_cons_of_mem _ hw)]
  split
  ·have:x≠n:=by rintro rfl;exact h v List.mem_cons_self
   simp[this]
  ·rfl
theorem Zjd{kindOf:Str->Option NameKind}{x:Str}:∀{binds:List (Str×Value)} {m:Str->Option Value},(∀v,(x,v)∉binds)->bindC kindOf binds m x=m x
 |[],_,_=>rfl
 |(n,v)::r,m,h=>by
  unfold bindC;rw[Zjd fun w hw=>h w (List.mem_cons_of_mem _ hw)]
  split
  ·rfl
  ·have:x≠n:=by rintro rfl;exact h v List.mem_cons_self
   simp[this]
theorem Zje{kindOf:Str->Option NameKind}{x:Str}{v:Value}:∀{P:List Str} {vs:List Value} {i:Nat} {m:Str->Option Value},P.Nodup->P[i]? =some x->vs[i]? =some v->kindOf x=some .local->
  bindL kindOf (P.zip vs) m x=some v
 |[],_,_,_,_,h,_,_=>by simp at h
 |_::_,[],_,_,_,_,h,_=>by simp at h
 |p::P,w::vs,0,m,nd,h1,h2,hk=>by
  simp at h1 h2;subst h1;subst h2
  show bindL kindOf ((p,w)::P.zip vs) m p=_;unfold bindL;rw[Zjc fun v hv=>(List.nodup_cons.mp nd).1 (List.of_mem_zip hv).1,if_pos hk];simp
 |p::P,w::vs,i+1,m,nd,h1,h2,hk=>by
  show bindL kindOf ((p,w)::P.zip vs) m x=_;unfold bindL;exact Zje (i:=i) (List.nodup_cons.mp nd).2 (by simpa using h1) (by simpa using h2) hk
theorem Zjf{kindOf:Str->Option NameKind}{x:Str}{v:Value}:∀{P:List Str} {vs:List Value} {i:Nat} {m:Str->Option Value},P.Nodup->P[i]? =some x->vs[i]? =some v->kindOf x≠some .local->
  bindC kindOf (P.zip vs) m x=some v
 |[],_,_,_,_,h,_,_=>by simp at h
 |_::_,[],_,_,_,_,h,_=>by simp at h
 |p::P,w::vs,0,m,nd,h1,h2,hk=>by
  simp at h1 h2;subst h1;subst h2
  show bindC kindOf ((p,w)::P.zip vs) m p=_;unfold bindC;rw[Zjd fun v hv=>(List.nodup_cons.mp nd).1 (List.of_mem_zip hv).1,if_neg hk];simp
 |p::P,w::vs,i+1,m,nd,h1,h2,hk=>by
  show bindC kindOf ((p,w)::P.zip vs) m x=_;unfold bindC;exact Zjf (i:=i) (List.nodup_cons.mp nd).2 (by simpa using h1) (by simpa using h2) hk
def Zdz(N:List Str)(vs:List V):St:=vs.map some++List.replicate (N.length-vs.length) none
def Js(CX:CXT)(P:Program)(w:World)(K:PySem.W.Frag)(mg:Str->Option Value)(base:Heap)(N:List Str)(qual:Str)(scope:Scope)(f:Addr)(cd:Value)(A:Around)(outer:List Env)(s:Shared)(H:Hp)(E:XK):Cx where
 prog:=P
 w:=w
 K:=K
 mg:=mg
 base:=base
 A:=A.deeper (envOfC qual scope s.heap.objs.size f cd)
 N:=N
 s₀:=s
 H₀:=H
 env:=envOfC qual scope s.heap.objs.size f cd
 outer:=outer
 stack:=envOfC qual scope s.heap.objs.size f cd::outer
 ex:=[]
 calm:=true
 fn:=fun _=>true
 pn:=[]
 xe:=fun e s'=>wpAny (model P w) (A.deeper (envOfC qual scope s.heap.objs.size f cd)) (leaving (envOfC qual scope s.heap.objs.size f cd) e) (fun _ s''=>CX outer H s E e s'') (fun e' s''=>CX outer H s E e' s'') s'
theorem Zl4{sc:Scope}{n:Nat}{x:Str}(h:sc.names.lookup x=some .cell):∃c,(cellsFrom n sc.names []).lookup x=some c:=by
 have q:=PySem.W.cellsFrom_some sc.names n [] (.inl h);exact Option.isSome_iff_exists.mp q
theorem ZnK{CX:CXT}{P:Program}{w:World}{K:PySem.W.Frag}{mg:Str->Option Value}{base:Heap}{N ps:List Str}{qual:Str}{scope:Scope}{f:Addr}{cd:Value}{A:Around}{outer:List Env}{s s1:Shared}{H:Hp}{E:XK}{us:List Value}{vs:List V}
  (S:ZX N ps scope)(hd:A.handled=none)(e0:Zm7 P w K mg base A outer s H)(hl:vs.length=ps.length)(r:Yr vs us)
  (x:InCallC s s.heap.objs.size (bindL (envOfC qual scope s.heap.objs.size f cd).kindOf (ps.zip us) fun _=>none) (cellsFrom (s.heap.objs.size+1) scope.names []) (bindC (envOfC qual scope s.heap.objs.size f cd).kindOf (ps.zip us) fun _=>none) s1):
  Inv (Js CX P w K mg base N qual scope f cd A outer s H E) [] (Zdz N vs) H s1:=by
 have hpl:ps.length<=N.length:=by have:=congrArg List.length S.pre;rw[List.length_take] at this;omega
 obtain⟨h1,tk,rfl,hk⟩:=x.done;have noA:∀b:Addr,b∉(Js CX P w K mg base N qual scope f cd A outer s H E).ex:=fun b z=>absurd (show b∈([]:List Addr) from z) (by simp);refine⟨⟨e0.mod,S.kind,rfl,rfl,Nat.le_refl _,fun y z c h1 h2=> ?_,fun y hy=> ?_,fun y c _ h=> ?_,fun _=>hd,Around.frames_deeper e0.frames,.inr ⟨rfl,rfl⟩,fun b z=>absurd z (noA b),e0.bs,e0.bsz,fun b _ _=>noA b,fun b z=>absurd z (noA b),e0.funs,e0.frf⟩,
  rfl,e0.bare,Un.kept hk,⟨_,x.toInCall.ns,fun i y v h1 h2 h3=> ?_⟩,fun y c h=>⟨_,x.cell y c h⟩,e0.hok.fresh (Nat.le_refl _),fun y c h=> ?_,fun p hp=>absurd (show p∈([]:List (Addr×Obj)) from hp) (by simp),e0.hok.kept hk, ?_⟩
 ·exact name_of_addr x.apart (PySem.mem_of_lookup h1) (PySem.mem_of_lookup h2)
 ·have hy:scope.names.lookup y=some .cell\/scope.names.lookup y=some .free:=hy;rcases hy with hy|hy
  ·exact Zl4 hy
  ·exact absurd rfl (S.nofree _ (PySem.mem_of_lookup hy))
 ·exact Nat.le_of_lt (x.above y c (PySem.mem_of_lookup h))
 ·have hi:i<vs.length:=by
   unfold Zdz at h2
   by_cases hi:i<vs.length
   ·exact hi
   ·rw[List.getElem?_append_right (by simpa using hi)] at h2
    rw[List.getElem?_replicate] at h2
    split at h2<;>cases h2
  have ha:vs[i]? =some v:=by
   unfold Zdz at h2
   rw[List.getElem?_append_left (by simpa using hi),List.getElem?_map] at h2
   cases e:vs[i]? with
   |none=>rw[e] at h2;cases h2
   |some a=>rw[e] at h2;cases h2;rfl
  obtain⟨u,hu,rv⟩:=r.get ha;have hp:ps[i]? =some y:=by
   rw[<-S.pre,List.getElem?_take_of_lt (by omega)];exact h1
  have ndP:ps.Nodup:=by rw[<-S.pre];exact S.nd.sublist (List.take_sublist _ _)
  refine⟨u,rv, ?_⟩;rcases S.par y (List.mem_of_getElem? hp) with k|k
  ·exact .inl ⟨k,Zje ndP hp hu k⟩
  ·obtain⟨c,e⟩:=Zl4 (n:=s.heap.objs.size+1) k;refine .inr ⟨.inl k,c,e, ?_⟩;have q:=x.cell y c e;rw[Zjf ndP hp hu (by show scope.names.lookup y≠_;rw[k];decide)] at q
   exact q
 ·exact e0.hok.fresh (Nat.le_of_lt (x.above y c (PySem.mem_of_lookup h)))
 ·unfold Zdz;show _=N.length;rw[List.length_append,List.length_map,List.length_replicate];omega
theorem Zrh{CX:CXT}{P:Program}{w:World}{K:PySem.W.Frag}{mg:Str->Option Value}{base:Heap}{k:Nat}{f:Addr}{name qual:Str}{params:Arguments}{body:List Stmt}{scope:Scope}{dV kV doc pm cdv ct oc:Value}{an od:Option Addr}
  {osl:Array (Option Value)}{N ps:List Str}{sp:Sp}(lk:K.lookup f=some ⟨oc,od,.func (PySem.W.fnOf name qual params body scope dV kV doc pm an cdv ct),osl⟩)(hcd:PySem.W.codeIn K cdv qual=true)(S:ZX N ps scope)
  (len:∀vs H Q E,sp vs H Q E->vs.length=ps.length)
  (hbody:∀(A:Around) (outer:List Env) (s:Shared) (H:Hp) (vs:List V) (Q:VK) (E:XK),Za8 k (A.deeper (envOfC qual scope s.heap.objs.size f cdv))->sp vs H Q E->
   ∃t,PSs (Js CX P w K mg base N qual scope f cdv A outer s H E) body t/\t {nx:=fun _ H'=>Q .non H',rt:=Q} (Zdz N vs) H):
  Yy P w K mg base CX (k+1) f (PySem.W.fnOf name qual params body scope dV kV doc pm an cdv ct) ps sp:=by
 refine⟨len,fun A outer s H args us vs Q E hr e0 hb r hsp=> ?_⟩;have hl:=len _ _ _ _ hsp;have KX:K.In s.heap:=e0.mod.kin.keeps fun b o e=>(e0.bs b o e).1;have lim:s.heap.NoLimit:=e0.mod.nolimit.keeps fun b o e=>(e0.bs b o e).1;have hkind:∀y∈ps.zip us,scope.names.lookup y.1=some .local\/(scope.names.lookup y.1=some .cell/\((cellsFrom (s.heap.objs.size+1) scope.names []).lookup y.1).isSome=true):=fun⟨n,v⟩ hy=>by
  rcases S.par n (List.of_mem_zip hy).1 with q|q
  ·exact .inl q
  ·exact .inr ⟨q,PySem.W.cellsFrom_some _ _ _ (.inl q)⟩
 refine codeAny_call_function hr.depth (KX _ _ lk) rfl S.co S.gen rfl (PySem.W.codeRec_of KX hcd) (hb _ _ _ _ ?_);refine wpAny_newFunctionEnv_cells S.kind hkind fun env he s1 x=> ?_;subst he;refine⟨lim.keeps x.toInCall.keep,codeAny_func ?_⟩;obtain⟨t,ht,hq⟩:=hbody A outer s H vs Q E (hr.deeper _) hsp;have I:Inv (Js CX P w K mg base N qual scope f cdv A outer s H E) [] (Zdz N vs) H s1:=ZnK S hr.hd e0 hl r x
 refine wpAny_mono (ht [] s1 (Zdz N vs) H _ I hq) (fun fl s' hs=> ?_) fun e s' hs=>hs;have fin:∀{σ':St} {H':Hp} {v:V} {u:Value},Inv (Js CX P w K mg base N qual scope f cdv A outer s H E) [] σ' H' s'->Yn v u->Q v H'->CE outer P w H s Q u s':=
  fun{σ' H' v u} J rv q=>⟨v,H',J.os,J.bare,J.base,J.hok,rv,q⟩
 cases fl with
 |ret u=>
  obtain⟨v,σ',H',J,rv,q⟩:=hs;exact fin J rv q
 |next=>
  obtain⟨σ',H',J,q⟩:=hs;exact fin (v:=V.non) (u:=Value.none) J rfl q
 |brk=>
  obtain⟨_,_,_,q⟩:=hs;exact False.elim q
 |cont=>
  obtain⟨_,_,_,q⟩:=hs;exact False.elim q
end L2
namespace L2
open PySem PySem.Spec PyProof.Rows
section
variable {X:Cx} {x:Str} {p pos:Pos} {e:Expr} {es:List Expr} {t:TA} {id T:String} {r:List V->Hp->VK->Prop}
def tCB(r:List V->Hp->VK->Prop)(t:TA):TE:=fun σ H Q=>t σ H fun vs H1=>r vs H1 Q
theorem Yb(hc:Zbm X (.builtin id) r)(hg:Gl X x)(hm:X.mg x=none)(hv:bootBuiltins x=some (.builtin id))(ha:PA X (e::es) t)(hn:x≠"__name__":=by decide)(hdb:(x==("__debug__":Str))=false:=by decide)
  (he:starEach (e::es) X.env=(false,eval e X.env)::starEach es X.env:=by rfl)(hpl:(backTo pos (starEach es X.env)).any (·.1)=false:=by rfl):PE X (.Call (.Name x p) (e::es) [] pos) (tCB r t):=by
 intro pins s σ H Q I h;refine wpAny_Call_Name_kw (ZhA I hg hm hv ?_ hn hdb);exact PyProof.Rows.callWith_builtin1 (thn (ha pos pins s σ H _ I h) fun us s1 ⟨vs,H1,I1,r1,q1⟩=>hc pins s1 σ H1 vs us Q I1 r1 q1) he hpl
theorem JQ(hc:Zbm X (.type T) r)(hg:Gl X x)(hm:X.mg x=none)(hv:bootBuiltins x=some (.type T))(ha:PA X (e::es) t)(hn:x≠"__name__":=by decide)(hdb:(x==("__debug__":Str))=false:=by decide)
  (he:starEach (e::es) X.env=(false,eval e X.env)::starEach es X.env:=by rfl)(hpl:(backTo pos (starEach es X.env)).any (·.1)=false:=by rfl):PE X (.Call (.Name x p) (e::es) [] pos) (tCB r t):=by
 intro pins s σ H Q I h;refine wpAny_Call_Name_kw (ZhA I hg hm hv ?_ hn hdb);exact PyProof.Rows.callWith_type1 (thn (ha pos pins s σ H _ I h) fun us s1 ⟨vs,H1,I1,r1,q1⟩=>hc pins s1 σ H1 vs us Q I1 r1 q1) he hpl
end
end L2
namespace HT
open PySem PyProof.Rows
section
open PySem.SeqAt
open PySem.AutoSeq1 (wpAny_loadPart')
open PySem.MeetsSeq PySem.MeetsSeq2 PySem.MeetsSeq3
end
section
variable {prog:Program} {w:World} {A:Around} {E:Value->Shared->Prop} {s:Shared}
theorem Zqu{t b:Addr}{vs ws:List Value}{Q:Value->Shared->Prop}(ht:IsTup s.heap t vs.toArray)(hb:IsTup s.heap b ws.toArray)(hv:vs≠[])
  (h1:ws=[]->Q (.ref t) s)(h2:ws≠[]->Q (.ref s.heap.objs.size) {s with heap:=s.heap.push {cls:=.type "tuple",data:=.seq (vs++ws).toArray}})
  (hsz:vs.length+ws.length<=sizeLine):wpAny (model prog w) A (binaryOp .Add (.ref t) (.ref b)) Q E s:=by
 obtain⟨⟨cls,dd,data,sl⟩,ho,hc,n,hd⟩:=id ht;obtain⟨⟨cls2,dd2,data2,sl2⟩,ho2,hc2,n2,hd2⟩:=id hb;simp only at hc hd hc2 hd2
 subst hc hd hc2 hd2;have e:vs.toArray++ws.toArray=(vs++ws).toArray:=by simp
 by_cases hw:ws=[]
 ·exact concat_meets ⟨_,ho,rfl⟩ ⟨_,ho2,rfl⟩ noFill_tuple_add seq_tuple_add PySem.F.slot_tuple_add PySem.F.entry_tuple_add (PySem.F.args_tuple_add_2 _ _)
   (tuple_addW1 t b vs.toArray ws.toArray n n2 dd dd2 sl sl2 (by simpa using hv) (by simp[hw])) ⟨ho,ho2,h1 hw⟩
 ·refine concat_meets ⟨_,ho,rfl⟩ ⟨_,ho2,rfl⟩ noFill_tuple_add seq_tuple_add PySem.F.slot_tuple_add PySem.F.entry_tuple_add (PySem.F.args_tuple_add_2 _ _)
   (tuple_addW2 t b vs.toArray ws.toArray n n2 dd dd2 sl sl2 (by simpa using hv) (by simpa using hw) (by rw[List.size_toArray,List.size_toArray];exact hsz)) ⟨ho,ho2, ?_⟩
  rw[e];exact h2 hw
def sIx(n d:Nat):Option Int->Nat
 |none=>d
 |some v=>if v<0 then(v+(n:Int)).toNat else min v.toNat n
theorem Zn6(n d k:Nat):sIx n d (some (k:Int))=min k n:=by
 show(if(k:Int)<0 then((k:Int)+(n:Int)).toNat else min (k:Int).toNat n)=min k n;rw[if_neg (by omega),Int.toNat_natCast]
theorem ZrG(n d:Nat)(hd:d<=n)(o:Option Int):sIx n d o<=n:=by
 cases o with
 |none=>exact hd
 |some v=>
  show(if v<0 then(v+(n:Int)).toNat else min v.toNat n)<=n
  by_cases hv:v<0
  ·rw[if_pos hv];omega
  ·rw[if_neg hv];exact Nat.min_le_right _ _
theorem Zn7(v:Int)(n d:Nat):(if v<0 then max (v+(n:Int)) 0 else min v (n:Int))=((sIx n d (some v):Nat):Int):=by
 show(if v<0 then max (v+(n:Int)) 0 else min v (n:Int))=(((if v<0 then(v+(n:Int)).toNat else min v.toNat n):Nat):Int)
 by_cases hv:v<0
 ·simp only [if_pos hv];omega
 ·simp only [if_neg hv];omega
theorem Zm8(lo hi:Option Int)(n:Nat):Builtin.Slice.sliceAdjust lo hi 1 (n:Int)=(((sIx n 0 lo:Nat):Int),((sIx n n hi:Nat):Int)):=by
 have h1:¬((1:Int)<0):=by omega
 unfold Builtin.Slice.sliceAdjust;simp only [h1,if_false];refine Prod.ext ?_ ?_
 ·cases lo with
  |none=>rfl
  |some v=>exact Zn7 v n 0
 ·cases hi with
  |none=>rfl
  |some v=>exact Zn7 v n n
theorem Zm9(i j:Nat):Builtin.Slice.slicePlaces (i:Int) (j:Int) 1=j-i:=by
 unfold Builtin.Slice.slicePlaces;have h1:(1:Int)>0:=by omega
 simp only [h1,if_true,Int.ediv_one]
 split<;>omega
theorem ZhE{v:Value}{o:Option Int}{Q:Option Int->Shared->Prop}(p:IsPart v o)(h:Q o s):wpAny (model prog w) A (Builtin.Slice.slicePartIndex v) Q E s:=by
 cases p with
 |none=>exact slicePart_none h
 |int i t=>exact slicePart_int h
theorem Zg6{sl:Addr}{vl vu:Value}{lo hi:Option Int}{n:Nat}{Q:Int×Int×Nat->Shared->Prop}(hs:s.heap.IsSliceOf sl vl vu .none)(pl:IsPart vl lo)(pu:IsPart vu hi)
  (h:Q (((sIx n 0 lo:Nat):Int),1,sIx n n hi-sIx n 0 lo) s):wpAny (model prog w) A (Builtin.Slice.sliceApplied (.ref sl) (pure (n:Int))) Q E s:=by
 obtain⟨os,hos,hcs,hds⟩:=id hs;unfold Builtin.Slice.sliceApplied Builtin.Slice.sliceFields;refine wpAny_bind (wpAny_bind (wpAny_field hos hds (x:=vl) rfl (wpAny_bind (wpAny_field hos hds (x:=vu) rfl (wpAny_bind (wpAny_field hos hds (x:=.none) rfl (wpAny_pure ?_)))))));refine wpAny_bind (slicePart_none ?_);show wpAny _ _ (if((1:Int)==0)=true then _ else _) _ _ s;rw[if_neg (by decide)];refine wpAny_bind (ZhE pl (wpAny_bind (ZhE pu (wpAny_bind (wpAny_pure ?_)))))
 show wpAny _ _ (match Builtin.Slice.sliceAdjust lo hi 1 (n:Int) with|(lo,hi)=>pure (lo,(1:Int),Builtin.Slice.slicePlaces lo hi 1)) _ _ s;rw[Zm8 lo hi n];show wpAny _ _ (pure (((sIx n 0 lo:Nat):Int),(1:Int),Builtin.Slice.slicePlaces ((sIx n 0 lo:Nat):Int) ((sIx n n hi:Nat):Int) 1)) _ _ s;rw[Zm9];exact wpAny_pure h
theorem ZoP(xs:Array Value)(i k:Nat):((List.range k).filterMap fun(m:Nat)=>xs[((i:Int)+(m:Int)*1).toNat]?).toArray=((xs.toList.drop i).take k).toArray:=by
 have e:(fun(m:Nat)=>xs[((i:Int)+(m:Int)*1).toNat]?)=fun m=>xs[i+m]? :=by
  funext m
  have:((i:Int)+(m:Int)*1).toNat=i+m:=by omega
  rw[this]
 rw[e];have:=pick_run xs i k;rw[List.filterMap_map] at this
 have e2:((fun x=>xs[x]?)∘fun x=>i+x)=fun m=>xs[i+m]? :=rfl;rw[e2] at this
 rw[this]
theorem Zfl{t sl:Addr}{items:Array Value}{vl vu:Value}{lo hi:Option Int}{Q:Value->Shared->Prop}(ht:IsTup s.heap t items)(hs:s.heap.IsSliceOf sl vl vu .none)(pl:IsPart vl lo)(pu:IsPart vu hi)
  (hw:¬(sIx items.size 0 lo=0/\sIx items.size items.size hi=items.size))
  (h:Q (.ref s.heap.objs.size) {s with heap:=s.heap.push {cls:=.type "tuple",data:=.seq ((items.toList.drop (sIx items.size 0 lo)).take (sIx items.size items.size hi-sIx items.size 0 lo)).toArray}})
  (hsz:items.size<=sizeLine):wpAny (model prog w) A (getItem (.ref t) (.ref sl)) Q E s:=by
 have htake:sizeOk (.seq ((items.toList.drop (sIx items.size 0 lo)).take (sIx items.size items.size hi-sIx items.size 0 lo)).toArray):=by
  show((items.toList.drop (sIx items.size 0 lo)).take (sIx items.size items.size hi-sIx items.size 0 lo)).toArray.size<=sizeLine;rw[List.size_toArray,List.length_take,List.length_drop,Array.length_toList];omega
 have hj:sIx items.size items.size hi<=items.size:=ZrG _ _ (Nat.le_refl _) hi;obtain⟨os,hos,hcs,hds⟩:=id hs;have hTs:s.TypeIs (.ref sl) "slice":=⟨os,hos,hcs⟩
 unfold getItem
 try with_reducible refine wpAny_holding ?_
 first|refine wpAny_bind (wpAny_pure ?_)|skip
 refine wpAny_bind (wpAny_sequenceKey ht.typeIs (by decide) ?_);refine wpAny_bind (wpAny_callSpecial?_slot (name:=Str.ofString "__getitem__") ht.typeIs PyProof.Rows.slot_tuple_getitem
  (wpAny_call_entry PyProof.Rows.slot_tuple_getitem ht.typeIs entry_tuple_getitem ?_ (args_tuple_getitem _ _)))
 show wpAny _ _ (Builtin.Tuple.tupleItemsOf (.ref t)>>=_) _ _ s;refine wpAny_bind (tupleItemsOf_ ht ?_);refine wpAny_bind (wpAny_typeOf hTs ?_);rw[if_pos (by decide)];refine wpAny_bind (Zg6 hs pl pu ?_);have hno:¬((((sIx items.size 0 lo:Nat):Int)==0&&(1:Int)==1&&(sIx items.size items.size hi-sIx items.size 0 lo)==items.size)=true):=by
  intro q;rw[Bool.and_eq_true,Bool.and_eq_true] at q
  have q1:((sIx items.size 0 lo:Nat):Int)=0:=eq_of_beq q.1.1;have q2:sIx items.size items.size hi-sIx items.size 0 lo=items.size:=eq_of_beq q.2;exact hw ⟨by omega,by omega⟩
 show wpAny _ _ (if(((sIx items.size 0 lo:Nat):Int)==0&&(1:Int)==1&&(sIx items.size items.size hi-sIx items.size 0 lo)==items.size)=true then _ else _) _ _ s;rw[if_neg hno,ZoP]
 first
  |exact wpAny_bind (m:=Builtin.Tuple.tupleExact _) (wpAny_newObj_type (wpAny_pure ⟨_,rfl,wpAny_pure h⟩) htake)
  |exact wpAny_bind (m:=Builtin.Tuple.tupleExact _) (wpAny_newObj_type (wpAny_bind (wpAny_pure (wpAny_pure ⟨_,rfl,wpAny_pure h⟩))) htake)
  |exact wpAny_bind (wpAny_bind (m:=Builtin.Tuple.tupleExact _) (wpAny_newObj_type (wpAny_pure (wpAny_pure ⟨_,rfl,wpAny_pure h⟩)) htake))
  |exact wpAny_bind (wpAny_bind (m:=Builtin.Tuple.tupleExact _) (wpAny_newObj_type (wpAny_pure ⟨_,rfl,wpAny_pure h⟩) htake))
end
end HT
namespace L2
open PySem PySem.Spec PyProof.Rows
abbrev TO:=St->Hp->(Option Int->Hp->Prop)->Prop
def PO(X:Cx)(e:Option Expr)(t:TO):Prop:=
 ∀(pins:List (Addr×Obj)) (s:Shared) (σ:St) (H:Hp) (Q:Option Int->Hp->Prop),Inv X pins σ H s->t σ H Q->
  wpAny (model X.prog X.w) X.A (evalPart e X.env) (fun u s'=>∃o H',Inv X pins σ H' s'/\IsPart u o/\Q o H') X.xe s
def Zqv:TO:=fun _ H Q=>Q none H
def ZsI(t:TE):TO:=fun σ H Q=>t σ H fun x H1=>∃i,x=.int i/\Q (some i) H1
section
variable {X:Cx} {e:Expr} {te:TE} {lo hi:Option Expr} {tl th:TO} {pos p2:Pos}
theorem Zec:PO X none Zqv:=by
 intro pins s σ H Q I h;rw[evalPart_none];exact wpAny_pure ⟨none,H,I,.none,h⟩
theorem Zc9(h:PE X e te):PO X (some e) (ZsI te):=by
 intro pins s σ H Q I hw;rw[evalPart_some];refine thn (h pins s σ H _ I hw) fun u s1 ⟨x,H1,I1,r1,q1⟩=> ?_;obtain⟨i,rfl,q⟩:=q1;obtain⟨t,rfl⟩:=r1;exact⟨some i,H1,I1,.int i t,q⟩
def SlR(X:Cx)(r:V->Option Int->Option Int->Hp->VK->Prop):Prop:=
 ∀(pins:List (Addr×Obj)) (s:Shared) (σ:St) (H:Hp) (x:V) (v vl vu:Value) (lo hi:Option Int) (sl:Addr) (Q:VK),Inv X pins σ H s->Yn x v->s.heap.IsSliceOf sl vl vu .none->IsPart vl lo->IsPart vu hi->r x lo hi H Q->
  ∃T id,typeLookup (.type T) "__getitem__"=pure (some (.builtin id))/\s.TypeIs v T/\wpAny (model X.prog X.w) X.A (getItem v (.ref sl)) (EP X pins σ Q) X.xe s
def tSl(r:V->Option Int->Option Int->Hp->VK->Prop)(te:TE)(tl th:TO):TE:=fun σ H Q=>te σ H fun x H1=>tl σ H1 fun l H2=>th σ H2 fun u H3=>r x l u H3 Q
theorem ZbA{r:V->Option Int->Option Int->Hp->VK->Prop}(hr:SlR X r)(he:PE X e te)(hl:PO X lo tl)(hu:PO X hi th):PE X (.Subscript e (.Slice lo hi none p2) pos) (tSl r te tl th):=by
 intro pins s σ H Q I h;refine Subscript_ (thn (he pins s σ H _ I h) fun v s1 ⟨x,H1,I1,r1,q1⟩=> ?_);refine wpAny_Slice (thn (hl pins s1 σ H1 _ I1 q1) fun vl s2 ⟨l,H2,I2,pl,q2⟩=>thn (hu pins s2 σ H2 _ I2 q2) fun vu s3 ⟨u,H3,I3,pu,q3⟩=> ?_);rw[evalPart_none];refine wpAny_pure ?_;have I4:Inv X pins σ H3 {s3 with heap:=s3.heap.push {cls:=.type "slice",data:=.fields #[vl,vu,.none]}}:=I3.kept (t':=s3.toks) fun b ob q=>Heap.get?_push_of_some _ q
 obtain⟨T,id,hT,ht,hg⟩:=hr pins {s3 with heap:=s3.heap.push {cls:=.type "slice",data:=.fields #[vl,vu,.none]}} σ H3 x v vl vu l u s3.heap.objs.size Q I4 r1 (Heap.IsSliceOf.new ..) pl pu q3;show wpAny (model X.prog X.w) X.A (subscriptTail e (.Slice lo hi none p2) v (.ref s3.heap.objs.size)) (EP X pins σ Q) X.xe {s3 with heap:=s3.heap.push {cls:=.type "slice",data:=.fields #[vl,vu,.none]}};exact tail_any (ops:=[.ref s3.heap.objs.size,v]) ht hT hg (by with_unfolding_all rfl)
def ZeF(xs:List V)(lo hi:Option Int):List V:=(xs.drop (HT.sIx xs.length 0 lo)).take (HT.sIx xs.length xs.length hi-HT.sIx xs.length 0 lo)
theorem ZgO(xs:List V)(lo hi:Option Int):(ZeF xs lo hi).length<=xs.length:=by
 unfold ZeF;rw[List.length_take,List.length_drop];omega
def ZsJ(K:PySem.W.Frag):V->Option Int->Option Int->Hp->VK->Prop:=fun x lo hi H Q=>∃a xs,x=.ref a/\SqT K H a xs/\
 ¬(HT.sIx xs.length 0 lo=0/\HT.sIx xs.length xs.length hi=xs.length)/\∀p,H p=none->Q (.ref p) (upd H p (.tup (ZeF xs lo hi)))
theorem Zg7:SlR X (ZsJ X.K):=by
 intro pins s σ H x v vl vu lo hi sl Q I rx hs pl pu h;obtain⟨a,xs,rfl,hx,hw,q⟩:=h;cases rx;obtain⟨its,r,ht,hz⟩:=I.tuple hx;have hlen:its.toArray.size=xs.length:=by rw[List.size_toArray];exact r.length.symm
 refine⟨"tuple",_,PyProof.Rows.slot_tuple_getitem.lookup,ht.typeIs, ?_⟩;refine HT.Zfl ht hs pl pu (by rw[hlen];exact hw) ?_ (by rw[hlen];exact hz)
 rw[hlen];refine⟨.ref s.heap.objs.size,_,I.laid (t':=s.toks) (o:=.tup (ZeF xs lo hi)) (fun b ob q=>Heap.get?_push_of_some _ q) (Nat.le_refl _) ?_,rfl,q _ (I.hok.fresh (Nat.le_refl _))⟩;exact⟨Nat.le_trans (ZgO xs lo hi) hz,_,(r.drop (HT.sIx xs.length 0 lo)).take (HT.sIx xs.length xs.length hi-HT.sIx xs.length 0 lo),IsTup.new _ _⟩
def ZsK(K:PySem.W.Frag):R2:=fun x y H Q=>∃a b xs ys,x=.ref a/\y=.ref b/\SqT K H a xs/\SqT K H b ys/\xs≠[]/\xs.length+ys.length<=sizeLine/\
 (ys=[]->Q (.ref a) H)/\(ys≠[]->∀p,H p=none->Q (.ref p) (upd H p (.tup (xs++ys))))
theorem Yr.nil_iff{xs:List V}{us:List Value}(r:Yr xs us):us=[]↔xs=[]:=by
 cases r with
 |nil=>simp
 |cons _ _=>simp
theorem Zhh:OpR X (binaryOp .Add) (ZsK X.K):=by
 intro pins s σ H x y v u Q I rx ry h;obtain⟨a,b,xs,ys,rfl,rfl,ha,hb,hx,hz,q1,q2⟩:=h;cases rx;cases ry;obtain⟨its,r1,p1,_⟩:=I.tuple ha;obtain⟨its2,r2,p2,_⟩:=I.tuple hb;refine HT.Zqu p1 p2 (fun z=>hx (r1.nil_iff.mp z)) (fun z=>⟨.ref a,H,I,rfl,q1 (r2.nil_iff.mp z)⟩) (fun z=> ?_) (by rw[<-r1.length,<-r2.length];exact hz)
 refine⟨.ref s.heap.objs.size,_,I.laid (t':=s.toks) (o:=.tup (xs++ys)) (fun b ob q=>Heap.get?_push_of_some _ q) (Nat.le_refl _) ?_,rfl,q2 (fun w=>z (r2.nil_iff.mpr w)) _ (I.hok.fresh (Nat.le_refl _))⟩;exact⟨by rw[List.length_append];exact hz,_,r1.append r2,IsTup.new _ _⟩
end
end L2
namespace L2
open PySem PySem.Spec PyProof.Rows
def ixN(n:Nat)(i:Int):Option Nat:=if 0<=i then(if i<n then some i.toNat else none) else if-(n:Int)<=i then some (i+n).toNat else none
def atI{α:Type}(xs:List α)(i:Int):Option α:=(ixN xs.length i).bind fun j=>xs[j]?
theorem Zqw{n:Nat}{i:Int}{j:Nat}(h:ixN n i=some j):seqIndex? i n=some j/\j<n/\-(n:Int)<=i/\i<n:=by
 unfold ixN at h
 by_cases h0:0<=i
 ·rw[if_pos h0] at h
  by_cases h1:i<n
  ·rw[if_pos h1] at h
   have e:i.toNat=j:=Option.some.inj h;exact⟨by rw[seqIndex_of h0 h1,e],by omega,by omega,h1⟩
  ·rw[if_neg h1] at h;cases h
 ·rw[if_neg h0] at h
  by_cases h1: -(n:Int)<=i
  ·rw[if_pos h1] at h
   have e:(i+n).toNat=j:=Option.some.inj h;exact⟨by rw[seqIndex_neg (by omega) h1,e],by omega,h1,by omega⟩
  ·rw[if_neg h1] at h;cases h
theorem Zed{α:Type}{xs:List α}{i:Int}{v:α}(h:atI xs i=some v):∃j,seqIndex? i xs.length=some j/\xs[j]? =some v/\j<xs.length/\-(xs.length:Int)<=i/\i<xs.length:=by
 unfold atI at h
 cases e:ixN xs.length i with
 |none=>rw[e] at h;cases h
 |some j=>
  rw[e] at h
  obtain⟨h1,h2,h3,h4⟩:=Zqw e;exact⟨j,h1,h,h2,h3,h4⟩
theorem ZoQ{α:Type}(xs:List α)(v:α):atI (xs++[v]) (-1)=some v:=by
 have hl:(xs++[v]).length=xs.length+1:=by simp
 have e:ixN (xs++[v]).length (-1)=some xs.length:=by
  unfold ixN;rw[hl,if_neg (by decide),if_pos (by omega)]
  congr 1
  omega
 unfold atI;rw[e];show(xs++[v])[xs.length]? =some v;simp
def Zqx(b:Expr):Prop:=∀o i,subscripted b false o i=operate [o,i] (getItem o i)
def IxR(X:Cx)(r:R2):Prop:=
 ∀(value slice:Expr) (pins:List (Addr×Obj)) (s:Shared) (σ:St) (H:Hp) (x y:V) (v u:Value) (Q:VK),Inv X pins σ H s->Yn x v->Yn y u->r x y H Q->
  subscripted slice false v u=operate [v,u] (getItem v u)->wpAny (model X.prog X.w) X.A (subscriptTail value slice v u) (EP X pins σ Q) X.xe s
def MtR(X:Cx)(id:String)(r:V->List V->Hp->VK->Prop):Prop:=
 ∀(pins:List (Addr×Obj)) (s:Shared) (σ:St) (H:Hp) (x:V) (xs:List V) (v:Value) (us:List Value) (Q:VK),Inv X pins σ H s->Yn x v->Yr xs us->r x xs H Q->
  wpAny (model X.prog X.w) X.A (call (.builtin id) (v::us)) (EP X pins σ Q) X.xe s
section
variable {X:Cx} {a b:Expr} {ta tb:TE} {pos:Pos}
theorem ZV{r:R2}(hr:IxR X r)(ha:PE X a ta)(hb:PE X b tb)(hs:Zqx b):PE X (.Subscript a b pos) (tOp r ta tb):=by
 intro pins s σ H Q I h;exact Subscript_ (ZrC ha hb I h fun v u s2 x y H2 I2 rx ry q=>hr a b pins s2 σ H2 x y v u Q I2 rx ry q (hs _ _))
def ZtG(K:PySem.W.Frag):R2:=fun x y H Q=>∃p xs i v,x=.ref p/\y=.int i/\SqL K H p xs/\atI xs i=some v/\Q v H
def ZrH(K:PySem.W.Frag):R2:=fun x y H Q=>∃p xs i v,x=.ref p/\y=.int i/\SqT K H p xs/\atI xs i=some v/\Q v H
def ZtH:R2:=fun x y H Q=>∃z i c,x=.str z/\y=.int i/\z.length<=sizeLine/\atI z.cps.toList i=some c/\Q (.str ⟨#[c]⟩) H
theorem Xq:IxR X (ZtG X.K):=by
 intro value slice pins s σ H x y v u Q I rx ry h hs;obtain⟨p,xs,i,z,rfl,rfl,hq,he,q⟩:=h;cases rx;obtain⟨t,rfl⟩:=ry;obtain⟨its,r,pl,hz⟩:=I.list hq;obtain⟨j,h1,h2,h3,h4,h5⟩:=Zed he;obtain⟨w,ew,rw'⟩:=r.get h2;have hl:=r.length;have hn:=ZjM;have fin:EP X pins σ Q w s:=⟨z,H,I,rw',q⟩
 by_cases h0:0<=i
 ·have hj:i.toNat=j:=by
   rw[seqIndex_of h0 h5] at h1
   exact Option.some.inj h1
  exact item_listR pl.isList h0 (by omega) (by rw[hj];simpa using ew) fin hs
 ·have hj:(i+(its.toArray.size:Int)).toNat=j:=by
   rw[seqIndex_neg (by omega) h4] at h1
   rw[List.size_toArray,<-hl];exact Option.some.inj h1
  exact subscriptTail_builtinR (x:=w) pl.isList.typeIs slot_list_getitem.lookup
   (wpAny_getItem_list_neg (Q:=fun r s'=>r=w/\EP X pins σ Q r s') pl.isList (by omega) (by rw[List.size_toArray]<;>omega) (by omega) (by rw[hj];simpa using ew) ⟨rfl,fin⟩) hs
theorem ZZ:IxR X (ZrH X.K):=by
 intro value slice pins s σ H x y v u Q I rx ry h hs;obtain⟨p,xs,i,z,rfl,rfl,hq,he,q⟩:=h;cases rx;obtain⟨t,rfl⟩:=ry;obtain⟨its,r,pl,hz⟩:=I.tuple hq;obtain⟨j,h1,h2,h3,h4,h5⟩:=Zed he;obtain⟨w,ew,rw'⟩:=r.get h2;have hl:=r.length;have hn:=ZjM;have fin:EP X pins σ Q w s:=⟨z,H,I,rw',q⟩
 exact subscriptTail_builtinR (x:=w) pl.typeIs slot_tuple_getitem.lookup
  (getItem_tuple (j:=j) (Q:=fun r s'=>r=w/\EP X pins σ Q r s') pl (by omega) (by omega) (by rw[List.size_toArray,<-hl];exact h1) (by simpa using ew) ⟨rfl,fin⟩) hs
theorem ZjP:IxR X ZtH:=by
 intro value slice pins s σ H x y v u Q I rx ry h hs;obtain⟨z,i,c,rfl,rfl,hz,he,q⟩:=h;obtain⟨t,rfl⟩:=rx;obtain⟨t',rfl⟩:=ry;obtain⟨j,h1,h2,h3,h4,h5⟩:=Zed he;have hl:z.cps.toList.length=z.length:=by simp[Str.length]
 rw[hl] at h1 h4 h5
 have hn:=ZjM;exact tail_any (typeIs_str s z t) slot_str_getitem.lookup (getItem_str (c:=c) (by
  have e1:decide (i< -(2^63:Int))=false:=decide_eq_false (by omega);have e2:decide (i≥2^63)=false:=decide_eq_false (by omega);rw[e1,e2,Bool.or_false]) (by rw[h1];simpa using h2) ⟨.str ⟨#[c]⟩,H,I.tok _,⟨_,rfl⟩,q⟩) hs
theorem ZjQ(lo hi:Option Int)(n:Nat):(sliceBounds lo hi none n).1=((HT.sIx n 0 lo:Nat):Int)/\(sliceBounds lo hi none n).2.1=((HT.sIx n n hi:Nat):Int)/\(sliceBounds lo hi none n).2.2=1:=by
 refine⟨?_, ?_,rfl⟩
 ·cases lo with
  |none=>simp[sliceBounds,HT.sIx]
  |some i=>
   simp only [sliceBounds,HT.sIx,Option.getD_none,show(1:Int)>0 by decide,if_true]
   by_cases h:i<0
   ·simp only [h,if_true]<;>omega
   ·simp only [h,if_false]<;>omega
 ·cases hi with
  |none=>simp[sliceBounds,HT.sIx]
  |some i=>
   simp only [sliceBounds,HT.sIx,Option.getD_none,show(1:Int)>0 by decide,if_true]
   by_cases h:i<0
   ·simp only [h,if_true]<;>omega
   ·simp only [h,if_false]<;>omega
theorem ZiL(its:List Value)(lo hi:Option Int):slicePick its.toArray lo hi none=((its.drop (HT.sIx its.length 0 lo)).take (HT.sIx its.length its.length hi-HT.sIx its.length 0 lo)).toArray:=by
 obtain⟨h1,h2,h3⟩:=ZjQ lo hi its.toArray.size;unfold slicePick;rw[h1,h2,h3];simp only [sliceRange_one,pick_run,List.size_toArray]<;>rfl
def ZtI(K:PySem.W.Frag):V->Option Int->Option Int->Hp->VK->Prop:=fun x lo hi H Q=>∃a xs,x=.ref a/\SqL K H a xs/\∀p,H p=none->Q (.ref p) (upd H p (.lst (ZeF xs lo hi)))
theorem Zqy:SlR X (ZtI X.K):=by
 intro pins s σ H x v vl vu lo hi sl Q I rx hs pl pu h;obtain⟨a,xs,rfl,hx,q⟩:=h;cases rx;obtain⟨its,r,ht,hz⟩:=I.list hx;have hlen:=r.length;refine⟨"list",_,slot_list_getitem.lookup,ht.isList.typeIs, ?_⟩;refine wpAny_getItem_list_slice ht.isList hs pl pu .none (by simp) ?_ (by rw[List.size_toArray]<;>omega)
 rw[ZiL,<-hlen];refine⟨.ref s.heap.objs.size,_,I.laid (t':=s.toks) (o:=.lst (ZeF xs lo hi)) (fun b ob q=>Heap.get?_push_of_some _ q) (Nat.le_refl _) ?_,rfl,q _ (I.hok.fresh (Nat.le_refl _))⟩;exact⟨Nat.le_trans (ZgO xs lo hi) hz,_,0,(r.drop (HT.sIx xs.length 0 lo)).take (HT.sIx xs.length xs.length hi-HT.sIx xs.length 0 lo),Heap.get?_push_size _ rfl⟩
def Xy:V->Bool
 | .non=>true
 | .bl _=>true
 | .int _=>true
 | .str _=>true
 |_=>false
def eqV:V->V->Bool
 | .non,.non=>true
 | .bl a,.bl b=>a==b
 | .bl a,.int b=>(if a then 1 else 0)==b
 | .int a,.bl b=>a==(if b then 1 else 0)
 | .int a,.int b=>a==b
 | .str a,.str b=>a==b
 |_,_=>false
theorem ZhF{A:Around}{s:Shared}{y x:V}{u v:Value}(ry:Yn y u)(rx:Yn x v)(fy:Xy y=true)(fx:Xy x=true):SeqAt.EqAt A s u v (eqV y x):=by
 cases y with
 |non=>
  cases ry;cases x with
  |non=>cases rx;exact SeqAt.EqAt.same _
  |bl b=>cases rx;exact SeqAt.EqAt.none_bool b
  |int b=>obtain⟨t,rfl⟩:=rx;exact SeqAt.EqAt.none_int b t
  |str b=>obtain⟨t,rfl⟩:=rx;exact SeqAt.EqAt.none_str b t
  |_=>exact absurd (show false=true from fx) Bool.false_ne_true
 |bl a=>
  cases ry;cases x with
  |non=>cases rx;exact SeqAt.EqAt.bool_none a
  |bl b=>cases rx;exact SeqAt.EqAt.bool_bool a b
  |int b=>obtain⟨t,rfl⟩:=rx;exact SeqAt.EqAt.bool_int a b t
  |str b=>obtain⟨t,rfl⟩:=rx;exact SeqAt.EqAt.bool_str a b t
  |_=>exact absurd (show false=true from fx) Bool.false_ne_true
 |int a=>
  obtain⟨t',rfl⟩:=ry;cases x with
  |non=>cases rx;exact SeqAt.EqAt.int_none a t'
  |bl b=>cases rx;exact SeqAt.EqAt.int_bool a t' b
  |int b=>obtain⟨t,rfl⟩:=rx;exact SeqAt.EqAt.int_int a t' b t
  |str b=>obtain⟨t,rfl⟩:=rx;exact SeqAt.EqAt.int_str a t' b t
  |_=>exact absurd (show false=true from fx) Bool.false_ne_true
 |str a=>
  obtain⟨t',rfl⟩:=ry;cases x with
  |non=>cases rx;exact SeqAt.EqAt.str_none a t'
  |bl b=>cases rx;exact SeqAt.EqAt.str_bool a t' b
  |int b=>obtain⟨t,rfl⟩:=rx;exact SeqAt.EqAt.str_int a t' b t
  |str b=>obtain⟨t,rfl⟩:=rx;exact SeqAt.EqAt.str_str a t' b t
  |_=>exact absurd (show false=true from fx) Bool.false_ne_true
 |_=>exact absurd (show false=true from fy) Bool.false_ne_true
def eqU(x:V)(u:Value):Bool:=match u with
 | .none=>eqV .non x
 | .bool b=>eqV (.bl b) x
 | .int i _=>eqV (.int i) x
 | .str z _=>eqV (.str z) x
 |_=>false
theorem ZoR{x y:V}{u:Value}(r:Yn y u)(f:Xy y=true):eqU x u=eqV y x:=by
 cases y with
 |non=>cases r;rfl
 |bl b=>cases r;rfl
 |int i=>obtain⟨t,rfl⟩:=r;rfl
 |str z=>obtain⟨t,rfl⟩:=r;rfl
 |_=>exact absurd (show false=true from f) Bool.false_ne_true
theorem Zfm{x:V}:∀{xs:List V} {us:List Value},Yr xs us->xs.all Xy=true->us.any (eqU x)=xs.any fun y=>eqV y x
 |_,_,.nil,_=>rfl
 |y::xs,u::us,.cons r t,f=>by
  rw[List.all_cons,Bool.and_eq_true] at f
  rw[List.any_cons,List.any_cons,ZoR r f.1,Zfm t f.2]
theorem ZdA{A:Around}{s:Shared}{x:V}{v:Value}(rx:Yn x v)(fx:Xy x=true):∀{xs:List V} {us:List Value},Yr xs us->xs.all Xy=true->∀u∈us,SeqAt.EqAt A s u v (eqU x u)
 |_,_,.nil,_=>fun u hu=>by cases hu
 |y::xs,u::us,.cons r t,f=>fun u' hu=>by
  rw[List.all_cons,Bool.and_eq_true] at f
  rcases List.mem_cons.mp hu with rfl|hu
  ·rw[ZoR r f.1];exact ZhF r rx f.1 fx
  ·exact ZdA rx fx t f.2 u' hu
def inV(x:V)(xs:List V):Bool:=xs.any fun y=>eqV y x
def rIn(K:PySem.W.Frag)(neg:Bool):R2:=fun x y H Q=>∃p xs,y=.ref p/\(SqL K H p xs\/SqT K H p xs)/\Xy x=true/\xs.all Xy=true/\Q (.bl (if neg then !inV x xs else inV x xs)) H
theorem ZaB:OpR X (compareOp .In) (rIn X.K false):=by
 intro pins s σ H x y v u Q I rx ry h;obtain⟨p,xs,rfl,hq,fx,fs,q⟩:=h;cases ry;rcases hq with hq|hq
 ·obtain⟨its,r,pl,hz⟩:=I.list hq;refine SeqAt.in_listAt (eqU x) pl.isList (fun w hw=>ZdA rx fx r fs w (by simpa using hw)) ⟨.bl _,H,I,rfl, ?_⟩;rw[show its.toArray.any (eqU x)=its.any (eqU x) by simp,Zfm r fs];exact q
 ·obtain⟨its,r,pl,hz⟩:=I.tuple hq;refine SeqAt.in_tupleAt (eqU x) pl (fun w hw=>ZdA rx fx r fs w (by simpa using hw)) ⟨.bl _,H,I,rfl, ?_⟩;rw[show its.toArray.any (eqU x)=its.any (eqU x) by simp,Zfm r fs];exact q
theorem ZjR:OpR X (compareOp .NotIn) (rIn X.K true):=by
 intro pins s σ H x y v u Q I rx ry h;obtain⟨p,xs,rfl,hq,fx,fs,q⟩:=h;cases ry;rcases hq with hq|hq
 ·obtain⟨its,r,pl,hz⟩:=I.list hq;refine SeqAt.notIn_listAt (eqU x) pl.isList (fun w hw=>ZdA rx fx r fs w (by simpa using hw)) ⟨.bl _,H,I,rfl, ?_⟩;rw[show its.toArray.any (eqU x)=its.any (eqU x) by simp,Zfm r fs];exact q
 ·obtain⟨its,r,pl,hz⟩:=I.tuple hq;refine SeqAt.notIn_tupleAt (eqU x) pl (fun w hw=>ZdA rx fx r fs w (by simpa using hw)) ⟨.bl _,H,I,rfl, ?_⟩;rw[show its.toArray.any (eqU x)=its.any (eqU x) by simp,Zfm r fs];exact q
theorem Zfn:Zbm X (.type "list") (fun xs H Q=>∃p ys,xs=[.ref p]/\(SqL X.K H p ys\/SqT X.K H p ys)/\∀l,H l=none->Q (.ref l) (upd H l (.lst ys))):=by
 intro pins s σ H xs us Q I r h;obtain⟨p,ys,rfl,hq,q⟩:=h;obtain⟨u,rfl,rx⟩:=ZcI r;cases rx;have fin:∀(its:List Value),Yr ys its->ys.length<=sizeLine->∀(h':Heap) (c':Nat),(∀b o',s.heap.get? b=some o'->h'.get? b=some o')->
   h'.get? s.heap.objs.size=some {cls:=.type "list",dict:=none,data:=.seq its.toArray c',slots:= #[]}->EP X pins σ Q (.ref s.heap.objs.size) {s with heap:=h'}:=fun its r' hz h' c' kp e=>
  ⟨.ref s.heap.objs.size,_,I.laid (t':=s.toks) kp (Nat.le_refl _) (show XN X.prog X.w _ h' _ (.lst ys) from⟨hz,its,c',r',e⟩),rfl,q _ (I.hok.fresh (Nat.le_refl _))⟩
 rcases hq with hq|hq
 ·obtain⟨its,r',pl,hz⟩:=I.list hq;have hlen:=r'.length;obtain⟨o,ho,hc,n,hd⟩:=pl.isList;exact call_list_seq p (.inl rfl) ho hc hd (fun h' c' kp e=>fin its r' hz h' c' kp e) (by simp only [List.size_toArray]<;>omega)
 ·obtain⟨its,r',pl,hz⟩:=I.tuple hq;have hlen:=r'.length;obtain⟨o,ho,hc,n,hd⟩:=pl;exact call_list_seq p (.inr rfl) ho hc hd (fun h' c' kp e=>fin its r' hz h' c' kp e) (by simp only [List.size_toArray]<;>omega)
theorem ZiM:Zbm X (.type "tuple") (fun xs H Q=>∃p ys,xs=[.ref p]/\((SqL X.K H p ys/\∀l,H l=none->Q (.ref l) (upd H l (.tup ys)))\/(SqT X.K H p ys/\Q (.ref p) H))):=by
 intro pins s σ H xs us Q I r h;obtain⟨p,ys,rfl,h⟩:=h;obtain⟨u,rfl,rx⟩:=ZcI r;cases rx;rcases h with ⟨hq,q⟩|⟨hq,q⟩
 ·obtain⟨its,r',pl,hz⟩:=I.list hq;have hlen:=r'.length;refine call_tuple_list pl.isList (fun h' kp=> ?_) (by simp only [List.size_toArray]<;>omega)
  have I1:Inv X pins σ H {s with heap:=h'}:=I.kept (t':=s.toks) kp;have I2:Inv X pins σ (upd H h'.objs.size (.tup ys)) {s with heap:=h'.push {cls:=.type "tuple",data:=.seq its.toArray}}:=
   I1.laid (t':=s.toks) (fun b o e=>Heap.get?_push_of_some _ e) (Nat.le_refl _) (show XN X.prog X.w _ _ _ (.tup ys) from⟨hz,its,r',IsTup.new _ _⟩)
  exact⟨.ref h'.objs.size,_,I2,rfl,q _ (I1.hok.fresh (Nat.le_refl _))⟩
 ·obtain⟨its,r',pl,hz⟩:=I.tuple hq;exact call_tuple_same pl ⟨.ref p,H,I,rfl,q⟩
def tyV(K:PySem.W.Frag)(T:String)(x:V)(H:Hp):Prop:=match x with
 | .str _=>T="str"
 | .int _=>T="int"
 | .ref p=>(T="list"/\∃xs,SqL K H p xs)\/(T="tuple"/\∃o,K.lookup p=some o/\o.cls=.type "tuple"/\o.dict=none)\/
   (T="dict"/\((∃kvs,H p=some (.dK kvs))\/∃kvs,H p=some (.dT kvs)))\/(T="set"/\∃S n,H p=some (.set S n))
 |_=>False
theorem Zma{pins:List (Addr×Obj)}{σ:St}{H:Hp}{s:Shared}{T:String}{x:V}{v:Value}(I:Inv X pins σ H s)(r:Yn x v)(ty:tyV X.K T x H):
  s.TypeIs v T/\∀a,v=.ref a->∃ob,s.heap.get? a=some ob/\ob.dict=none:=by
 cases x with
 |str z=>
  obtain⟨t,rfl⟩:=r;cases(show T="str" from ty);exact⟨typeIs_str s z t,fun _ e=>nomatch e⟩
 |int i=>
  obtain⟨t,rfl⟩:=r;cases(show T="int" from ty);exact⟨typeIs_int s i t,fun _ e=>nomatch e⟩
 |ref p=>
  cases r;rcases ty with ⟨rfl,xs,hq⟩|⟨rfl,o,hk,hc,hd⟩|⟨rfl,hk⟩|⟨rfl,S,n,hk⟩
  ·obtain⟨its,_,pl,_⟩:=I.list hq;refine⟨pl.isList.typeIs,fun a e=> ?_⟩;cases e;obtain⟨o,n,e,c,hd,_⟩:=pl;exact⟨o,e,hd⟩
  ·refine⟨⟨o,I.kIn p o hk,hc⟩,fun a e=> ?_⟩;cases e;exact⟨o,I.kIn _ o hk,hd⟩
  ·have z:∃o,s.heap.get? p=some o/\o.ExactDict:=by
    rcases hk with ⟨kvs,hk⟩|⟨kvs,hk⟩
    ·obtain⟨_,_,_,_,o,_,_,e,ex,_⟩:=I.hok p _ hk;exact⟨o,e,ex⟩
    ·obtain⟨_,_,_,_,o,_,_,e,ex,_⟩:=I.hok p _ hk;exact⟨o,e,ex⟩
   obtain⟨o,e,ex⟩:=z;refine⟨⟨o,e,ex.1⟩,fun a e2=> ?_⟩;cases e2;exact⟨o,e,ex.2.1⟩
  ·obtain⟨o,_,_,_,e,ex,_⟩:=I.hok p _ hk;refine⟨⟨o,e,ex.1⟩,fun a e2=> ?_⟩;cases e2;exact⟨o,e,ex.2.1⟩
 |_=>exact False.elim ty
def ZtJ(K:PySem.W.Frag)(T:String)(r:V->List V->Hp->VK->Prop)(to:TE):TE:=fun σ H Q=>to σ H fun x H1=>tyV K T x H1/\r x [] H1 Q
def tBM(K:PySem.W.Frag)(T:String)(r:V->List V->Hp->VK->Prop)(to:TE)(t:TA):TE:=fun σ H Q=>to σ H fun x H1=>tyV K T x H1/\t σ H1 fun xs H2=>r x xs H2 Q
variable {o e:Expr} {es:List Expr} {to:TE} {t:TA} {name:Str} {apos cpos:Pos} {T id:String} {r:V->List V->Hp->VK->Prop}
theorem ZjS(pa:PlainAttrs T)(slot:Slot T name id)(hty:typeOf (.builtin id)=pure (.type "method_descriptor"))(hm:MtR X id r)(ho:PE X o to)
  (hbase:attributeBase o name X.env (eval o X.env)=eval o X.env:=by rfl)(hline:(apos.endLine==cpos.line)=true:=by rfl):PE X (.Call (.Attribute o name apos) [] [] cpos) (ZtJ X.K T r to):=by
 intro pins s σ H Q I h;refine wpAny_Call_method0_late hbase hline (thn (ho pins s σ H _ I h) fun v s1 ⟨x,H1,I1,r1,ty,q1⟩=> ?_);obtain⟨h1,h2⟩:=Zma I1 r1 ty;exact⟨T,id,pa,slot,hty,h1,h2,Calls.callWith_builtin rfl (PySem.evalArgs_none (hm pins s1 σ H1 x [] v [] Q I1 r1 .nil q1))⟩
theorem Zaj(pa:PlainAttrs T)(slot:Slot T name id)(hty:typeOf (.builtin id)=pure (.type "method_descriptor"))(hm:MtR X id r)(ho:PE X o to)(ha:PA X (e::es) t)
  (hbase:attributeBase o name X.env (eval o X.env)=eval o X.env:=by rfl)
  (hfew:((backTo cpos (starEach (e::es) X.env)).all (fun x=> !x.1)&&(backToKw cpos (keywordEach [] X.env)).all (fun x=>x.1.isSome)
   &&decide ((e::es).length+([]:List Keyword).length+(if([]:List Keyword).isEmpty then 0 else 1)<30))=true:=by rfl)
  (hline:(apos.endLine==cpos.line)=true:=by rfl)(hs:starEach (e::es) X.env=(false,eval e X.env)::starEach es X.env:=by rfl)(hplain:(backTo cpos (starEach es X.env)).any (·.1)=false:=by rfl):
  PE X (.Call (.Attribute o name apos) (e::es) [] cpos) (tBM X.K T r to t):=by
 intro pins s σ H Q I h;refine wpAny_Call_method_late hbase hfew hline rfl (thn (ho pins s σ H _ I h) fun v s1 ⟨x,H1,I1,r1,ty,q1⟩=> ?_);obtain⟨h1,h2⟩:=Zma I1 r1 ty;refine⟨T,id,pa,slot,hty,h1,h2, ?_⟩;have hA:=ha cpos pins s1 σ H1 _ I1 q1;rw[hs] at hA⊢
 refine Calls.callWith_builtin (by show(false||(backTo cpos (starEach es X.env)).any (·.1))=false;rw[hplain]<;>rfl) (Calls.evalArgs_plain ?_)
 exact thn hA fun us s2 ⟨vs,H2,I2,r2,q2⟩=>hm pins s2 σ H2 x vs v us Q I2 r1 r2 q2
end
end L2
namespace L2
open PySem PySem.Spec PyProof.Rows
def MtM(X:Cx)(id:String)(r:V->List V->Hp->VK->Prop):Prop:=
 ∀(pins:List (Addr×Obj)) (s:Shared) (σ:St) (H:Hp) (x:V) (xs:List V) (v:Value) (us:List Value) (Q:VK),Inv X pins σ H s->Yn x v->Yr xs us->r x xs H Q->
  wpAny (model X.prog X.w) X.A (call (.builtin id) (v::us)) (EP X pins σ Q) X.xe s
theorem Yr.one:∀{x:V} {us:List Value},Yr [x] us->∃u,us=[u]/\Yn x u
 |_,_,.cons r .nil=>⟨_,rfl,r⟩
theorem Yr.zero:∀{us:List Value},Yr [] us->us=[]
 |_,.nil=>rfl
theorem Yr.dropLast{xs:List V}{us:List Value}(h:Yr xs us):Yr xs.dropLast us.dropLast:=by
 induction h with
 |nil=>exact .nil
 |cons r t ih=>
  cases t with
  |nil=>exact .nil
  |cons q t'=>exact .cons r ih
theorem Zmb{α:Type}(l:List α):l.eraseIdx (l.length-1)=l.dropLast:=by
 induction l with
 |nil=>rfl
 |cons a r ih=>
  cases r with
  |nil=>rfl
  |cons b r=>
   have e:(a::b::r).length-1=((b::r).length-1)+1:=by
    have h1:(a::b::r).length=r.length+2:=rfl;have h2:(b::r).length=r.length+1:=rfl;omega
   rw[e,List.eraseIdx_cons_succ,ih]
   all_goals rfl
section
variable {X:Cx} {pins:List (Addr×Obj)} {σ:St} {H:Hp} {s:Shared} {l b:Addr} {xs ys zs:List V}
theorem Inv.lset{its its':List Value}{n:Nat}{f:Array Value->Array Value}{t':Nat}(I:Inv X pins σ H s)(hH:H l=some (.lst xs))
  (e:s.heap.get? l=some {cls:=.type "list",data:=.seq its.toArray n})(hf:f its.toArray=its'.toArray)(hv:Yr ys its')(hz:ys.length<=sizeLine):
  Inv X pins σ (upd H l (.lst ys)) {s with heap:=s.heap.update l (Obj.mapSeq f),toks:=t'}:=by
 have q:=PySem.IsL.update e f;rw[hf] at q
 refine I.write (x:=l) (e:=l) (by rw[hH];exact trivial) (.inl rfl) (fun b' u hb hu=>(Heap.get?_update_other s.heap (Obj.mapSeq f) (Ne.symm hb)).trans hu) ⟨_,q⟩ ?_
 exact⟨hz,its',_,hv,q⟩
theorem Inv.lnew{its:List Value}{t':Nat}(I:Inv X pins σ H s)(hv:Yr ys its)(hz:ys.length<=sizeLine):
  Inv X pins σ (upd H s.heap.objs.size (.lst ys)) {s with heap:=s.heap.push {cls:=.type "list",data:=.seq its.toArray},toks:=t'}:=
 I.laid (fun _ _ q=>Heap.get?_push_of_some _ q) (Nat.le_refl _) ⟨hz,its,0,hv,Heap.get?_push_size _ rfl⟩
theorem Inv.fresh(I:Inv X pins σ H s):H s.heap.objs.size=none:=I.hok.fresh (Nat.le_refl _)
theorem Inv.lstM(I:Inv X pins σ H s)(hH:H l=some (.lst xs)):xs.length<=sizeLine/\∃(its:List Value) (n:Nat),Yr xs its/\xs.length=its.length/\s.heap.get? l=some {cls:=.type "list",data:=.seq its.toArray n}:=by
 obtain⟨z,its,n,r,e⟩:=I.hok l _ hH;exact⟨z,its,n,r,r.length,e⟩
end
section
variable {X:Cx}
def Zqz:V->List V->Hp->VK->Prop:=fun x vs H Q=>∃l xs y,x=.ref l/\vs=[y]/\H l=some (.lst xs)/\xs.length<sizeLine/\Q .non (upd H l (.lst (xs++[y])))
theorem Xa:MtM X "list.append" Zqz:=by
 intro pins s σ H x vs v us Q I rx rv h;obtain⟨l,xs,y,rfl,rfl,hH,hz,q⟩:=h;cases rx;obtain⟨u,rfl,ru⟩:=rv.one;obtain⟨z,its,n,r,hl,e⟩:=I.lstM hH;refine call_meets F.slot_list_append ⟨_,e,rfl⟩ F.entry_list_append (F.args_list_append_2 _ _) (PySem.list_append l its.toArray n u (by rw[List.size_toArray];omega)) ⟨e, ?_⟩
 refine⟨.non,_,I.lset (its':=its++[u]) hH e (by simp) (r.append (.cons ru .nil)) ?_,rfl,q⟩;rw[List.length_append,List.length_singleton];omega
def ZsL:V->List V->Hp->VK->Prop:=fun x vs H Q=>∃l xs y,x=.ref l/\vs=[]/\H l=some (.lst xs)/\xs[xs.length-1]? =some y/\Q y (upd H l (.lst xs.dropLast))
theorem ZjT:MtM X "list.pop" ZsL:=by
 intro pins s σ H x vs v us Q I rx rv h;obtain⟨l,xs,y,rfl,rfl,hH,hy,q⟩:=h;cases rx;have hus:=rv.zero;subst hus;obtain⟨z,its,n,r,hl,e⟩:=I.lstM hH;obtain⟨u,hu,ru⟩:=r.get hy;have hy':its.toArray[its.toArray.size-1]? =some u:=by
  show its.toArray[its.length-1]? =some u;rw[<-Array.getElem?_toList,<-hl];exact hu
 refine call_meets F.slot_list_pop ⟨_,e,rfl⟩ F.entry_list_pop (F.args_list_pop_1 _) (MeetsSeq.list_pop_last l its.toArray n u hy' (by rw[List.size_toArray];omega)) ⟨e, ?_⟩
 refine⟨y,_,I.lset (its':=its.dropLast) hH e ?_ r.dropLast ?_,ru,q⟩
 ·show its.toArray.eraseIdxIfInBounds (its.toArray.size-1)=its.dropLast.toArray;rw[List.size_toArray,List.eraseIdxIfInBounds_toArray,Zmb]
 ·rw[List.length_dropLast];omega
end
section
variable {prog:Program} {w:World} {A:Around} {E:Value->Shared->Prop} {s:Shared}
end
section
variable {X:Cx}
end
end L2
namespace L2
open PySem PySem.Spec PyProof.Rows
section
variable {κ:Type} [DecidableEq κ]
def YK(kvs:List (κ×V))(k:κ):Option V:=(kvs.find? fun kv=>decide (kv.1=k)).map (·.2)
def JF(kvs:List (κ×V))(k:κ)(v:V):List (κ×V):=
 if(kvs.any fun kv=>decide (kv.1=k))=true then kvs.map (fun kv=>if kv.1=k then(kv.1,v) else kv) else kvs++[(k,v)]
theorem YH{p:κ×V}{r:List (κ×V)}{k:κ}(e:p.1=k):YK (p::r) k=some p.2:=by simp[YK,List.find?_cons,e]
theorem YC{p:κ×V}{r:List (κ×V)}{k:κ}(e:¬p.1=k):YK (p::r) k=YK r k:=by simp[YK,List.find?_cons,e]
theorem Zak(k:κ):∀kvs:List (κ×V),(kvs.any fun kv=>decide (kv.1=k))=(YK kvs k).isSome
 |[]=>rfl
 |p::r=>by
  rw[List.any_cons]
  by_cases e:p.1=k
  ·simp only [YH e,decide_eq_true e,Bool.true_or,Option.isSome_some]
  ·rw[YC e,decide_eq_false e,Bool.false_or];exact Zak k r
theorem ZhG(k j:κ)(y:V):∀kvs:List (κ×V),YK (kvs.map fun kv=>if kv.1=k then(kv.1,y) else kv) j=(YK kvs j).map fun x=>if j=k then y else x
 |[]=>rfl
 |p::r=>by
  have ih:=ZhG k j y r;rw[List.map_cons]
  by_cases h:p.1=k
  ·rw[if_pos h]
   by_cases e:p.1=j
   ·rw[YH (p:=(p.1,y)) e,YH e,Option.map_some,if_pos (e.symm.trans h)]
   ·rw[YC (p:=(p.1,y)) e,YC e,ih]
  ·rw[if_neg h]
   by_cases e:p.1=j
   ·rw[YH (p:=p) e,YH e,Option.map_some,if_neg (fun z=>h (e.trans z))]
   ·rw[YC (p:=p) e,YC e,ih]
theorem Zjg(k j:κ)(y:V):∀kvs:List (κ×V),YK kvs k=none->YK (kvs++[(k,y)]) j=if j=k then some y else YK kvs j
 |[],_=>by
  by_cases e:k=j
  ·rw[if_pos e.symm];exact YH (p:=(k,y)) e
  ·rw[if_neg (fun z=>e z.symm)];exact YC (p:=(k,y)) e
 |p::r,hn=>by
  rw[List.cons_append];have hk:¬p.1=k:=fun z=>by rw[YH z] at hn;cases hn
  rw[YC hk] at hn
  have ih:=Zjg k j y r hn
  by_cases e:p.1=j
  ·rw[YH e,YH e,if_neg (fun z=>hk (e.trans z))]
  ·rw[YC e,YC e,ih]
theorem Zfo(kvs:List (κ×V))(k j:κ)(y:V):YK (JF kvs k y) j=if j=k then some y else YK kvs j:=by
 unfold JF
 by_cases a:(kvs.any fun kv=>decide (kv.1=k))=true
 ·rw[if_pos a,ZhG];rw[Zak] at a
  by_cases e:j=k
  ·obtain⟨x,hx⟩:=Option.isSome_iff_exists.mp a;rw[if_pos e,e,hx,Option.map_some,if_pos rfl]
  ·rw[if_neg e];cases YK kvs j with
   |none=>rfl
   |some x=>rw[Option.map_some,if_neg e]
 ·rw[if_neg a];refine Zjg k j y kvs ?_;rw[Zak] at a
  cases q:YK kvs k with
  |none=>rfl
  |some x=>rw[q] at a;exact(a rfl).elim
theorem ZaQ(kvs:List (κ×V))(k:κ)(v:V):(JF kvs k v).length<=kvs.length+1:=by
 unfold JF
 split
 ·rw[List.length_map];omega
 ·rw[List.length_append,List.length_cons,List.length_nil];omega
theorem ZcY.isSome_eq{o:Option V}{u:Option Value}(r:ZcY o u):o.isSome=u.isSome:=by
 cases o with
 |none=>cases u with
  |none=>rfl
  |some _=>exact(show False from r).elim
 |some _=>cases u with
  |none=>exact(show False from r).elim
  |some _=>rfl
theorem ZcY.getD{o:Option V}{u:Option Value}{d:V}{d':Value}(r:ZcY o u)(rd:Yn d d'):Yn (o.getD d) (u.getD d'):=by
 cases o with
 |none=>cases u with
  |none=>exact rd
  |some _=>exact(show False from r).elim
 |some _=>cases u with
  |none=>exact(show False from r).elim
  |some _=>exact r
theorem KV.val{kvs:List (κ×V)}{vs:List (κ×Value)}(r:KV kvs vs)(k:κ):ZcY (YK kvs k) (valueAt vs k):=by
 unfold KV at r
 induction r with
 |nil=>exact True.intro
 | @cons p q ps qs h t ih=>
  obtain⟨h1,h2⟩:=h
  by_cases e:p.1=k
  ·have e':q.1=k:=h1.symm.trans e;have b:valueAt (q::qs) k=some q.2:=by simp[valueAt,List.find?_cons,e']
   rw[YH e,b];exact h2
  ·have e':¬q.1=k:=fun z=>e (h1.trans z);have b:valueAt (q::qs) k=valueAt qs k:=by simp[valueAt,List.find?_cons,e']
   rw[YC e,b];exact ih
theorem KV.any{kvs:List (κ×V)}{vs:List (κ×Value)}(r:KV kvs vs)(k:κ):(kvs.any fun kv=>decide (kv.1=k))=vs.any fun kv=>decide (kv.1=k):=by
 unfold KV at r
 induction r with
 |nil=>rfl
 |cons h t ih=>rw[List.any_cons,List.any_cons,ih,h.1]
theorem KV.repl{kvs:List (κ×V)}{vs:List (κ×Value)}(r:KV kvs vs)(k:κ){y:V}{u:Value}(ry:Yn y u):
  KV (kvs.map fun kv=>if kv.1=k then(kv.1,y) else kv) (vs.map fun kv=>if kv.1=k then(kv.1,u) else kv):=by
 unfold KV at r⊢
 induction r with
 |nil=>exact .nil
 | @cons p q ps qs h t ih=>
  rw[List.map_cons,List.map_cons];refine .cons ?_ ih;obtain⟨h1,h2⟩:=h
  by_cases e:p.1=k
  ·rw[if_pos e,if_pos (h1.symm.trans e)];exact⟨h1,ry⟩
  ·rw[if_neg e,if_neg (fun z=>e (h1.trans z))];exact⟨h1,h2⟩
theorem KV.put{kvs:List (κ×V)}{vs:List (κ×Value)}(r:KV kvs vs)(k:κ){y:V}{u:Value}(ry:Yn y u):KV (JF kvs k y) (stored vs k u):=by
 unfold JF stored;rw[r.any k]
 by_cases e:(vs.any fun kv=>decide (kv.1=k))=true
 ·rw[if_pos e,if_pos e];exact r.repl k ry
 ·rw[if_neg e,if_neg e];exact Paired.snoc r ⟨rfl,ry⟩
theorem KV.keys{kvs:List (κ×V)}{vs:List (κ×Value)}(r:KV kvs vs):kvs.map (·.1)=vs.map (·.1):=by
 unfold KV at r
 induction r with
 |nil=>rfl
 |cons h t ih=>rw[List.map_cons,List.map_cons,ih,h.1]
theorem KV.length{kvs:List (κ×V)}{vs:List (κ×Value)}(r:KV kvs vs):kvs.length=vs.length:=Paired.length r
end
theorem ZhH{P:Program}{w:World}{k:Key}{u:Value}(r:Yn (kV k) u):(Xo P w).is k u=true:=by
 cases k with
 |inl i=>obtain⟨t,e⟩:=(show∃t,u=Value.int i t from r);subst e;exact Zl2 P w i t
 |inr x=>obtain⟨t,e⟩:=(show∃t,u=Value.str x t from r);subst e;exact Zl3 P w x t
theorem Zjh{P:Program}{w:World}:∀{ks:List Key} {us:List Value},Yr (ks.map kV) us->ItemsAre (Xo P w) ks us
 |[],_,r=>by rw[List.map_nil] at r;cases r;exact .nil
 |k::ks,_,r=>by
  rw[List.map_cons] at r
  cases r with
  |cons h t=>exact .cons (ZhH h) (Zjh t)
abbrev KT(H:Hp):List (List Key×V)->List (List Key×Addr×Value)->Prop:=Paired fun p q=>p.1=q.1/\H q.2.1=some (.tup (p.1.map kV))/\Yn p.2 q.2.2
theorem KT.val{H:Hp}{kvs:List (List Key×V)}{xs:List (List Key×Addr×Value)}(r:KT H kvs xs)(k:List Key):ZcY (YK kvs k) ((atKey xs k).map (·.2)):=by
 induction r with
 |nil=>exact True.intro
 | @cons p q ps qs h t ih=>
  obtain⟨h1,_,h2⟩:=h
  by_cases e:p.1=k
  ·have e':q.1=k:=h1.symm.trans e;have b:atKey (q::qs) k=some q.2:=by simp[atKey,List.find?_cons,e']
   rw[YH e,b];exact h2
  ·have e':¬q.1=k:=fun z=>e (h1.trans z);have b:atKey (q::qs) k=atKey qs k:=by simp[atKey,List.find?_cons,e']
   rw[YC e,b];exact ih
theorem KT.repl{H:Hp}{kvs:List (List Key×V)}{xs:List (List Key×Addr×Value)}(r:KT H kvs xs)(k:List Key){y:V}{u:Value}(ry:Yn y u):
  KT H (kvs.map fun kv=>if kv.1=k then(kv.1,y) else kv) (xs.map (putAt k u)):=by
 induction r with
 |nil=>exact .nil
 | @cons p q ps qs h t ih=>
  rw[List.map_cons,List.map_cons];refine .cons ?_ ih;obtain⟨h1,h2,h3⟩:=h;unfold putAt
  by_cases e:p.1=k
  ·rw[if_pos e,if_pos (h1.symm.trans e)];exact⟨h1,h2,ry⟩
  ·rw[if_neg e,if_neg (fun z=>e (h1.trans z))];exact⟨h1,h2,h3⟩
theorem KT.put{H:Hp}{kvs:List (List Key×V)}{xs:List (List Key×Addr×Value)}(r:KT H kvs xs)(k:List Key){b:Addr}{y:V}{u:Value}(hb:H b=some (.tup (k.map kV)))(ry:Yn y u):
  KT H (JF kvs k y) (storedH xs k b u):=by
 have e:(kvs.any fun kv=>decide (kv.1=k))=(atKey xs k).isSome:=by
  rw[Zak,(r.val k).isSome_eq,Option.isSome_map]
 unfold JF storedH;rw[e]
 by_cases q:(atKey xs k).isSome=true
 ·rw[if_pos q,if_pos q];exact r.repl k ry
 ·rw[if_neg q,if_neg q];exact Paired.snoc r ⟨rfl,hb,ry⟩
theorem KT.keeps{H H':Hp}{kvs:List (List Key×V)}{xs:List (List Key×Addr×Value)}(r:KT H kvs xs)(ht:∀b ys,H b=some (.tup ys)->H' b=some (.tup ys)):KT H' kvs xs:=
 Paired.mapP r fun _ _ z=>⟨z.1,ht _ _ z.2.1,z.2.2⟩
section
variable {P:Program} {w:World} {H:Hp} {h:Heap} {a:Addr}
theorem Zri{u:HO}(ok:HOk P w H h)(e:Rd H a u):XN P w H h a u:=e.ok ok
theorem ZcK{kvs:List (Key×V)}(ok:HOk P w H h)(e:Rd H a (.dK kvs)):kvs.length<=sizeLine/\(a==sysModules)=false/\∃vs,KV kvs vs/\h.DictOf (Xo P w) a vs:=
 show XN P w H h a (.dK kvs) from Zri ok e
theorem Zrj{kvs:List (Key×V)}(ok:HOk P w H h)(e:H a=some (.dK kvs)):kvs.length<=sizeLine/\(a==sysModules)=false/\∃vs,KV kvs vs/\h.DictOf (Xo P w) a vs:=ZcK ok (.inl e)
theorem Zg8{ks:List Key}(ok:HOk P w H h)(e:H a=some (.tup (ks.map kV))):(tupleKind (Xo P w)).is h ks a:=by
 obtain⟨_,its,r,o,h1,h2,n,h3⟩:=(show XN P w H h a (.tup (ks.map kV)) from ok a _ e)
 exact⟨o,its.toArray,n,h1,h2,h3,by simpa using Zjh r⟩
theorem ZhI{kvs:List (List Key×V)}(ok:HOk P w H h)(e:Rd H a (.dT kvs)):kvs.length<=sizeLine/\(a==sysModules)=false/\
  ∃xs,KT H kvs xs/\h.DictOfH (tupleKind (Xo P w)) a xs:=by
 obtain⟨z,y,xs,r,o,es,ep,h1,h2,h3,h4,h5⟩:=(show XN P w H h a (.dT kvs) from Zri ok e)
 refine⟨z,y,xs,r,o,es,ep,h1,h2,h3,h4,fun x hx=> ?_,h5⟩;have all:∀{l:List (List Key×V)} {m:List (List Key×Addr×Value)},KT H l m->∀x∈m,(tupleKind (Xo P w)).is h x.1 x.2.1:=by
  intro l m q
  induction q with
  |nil=>intro x hx;exact nomatch hx
  | @cons p q ps qs hq t ih=>
   intro x hx;rcases List.mem_cons.mp hx with e|hx
   ·subst e;exact Zg8 ok (by rw[<-hq.1];exact hq.2.1)
   ·exact ih x hx
 exact all r x hx
theorem ZsM{kvs:List (List Key×V)}(ok:HOk P w H h)(e:H a=some (.dT kvs)):kvs.length<=sizeLine/\(a==sysModules)=false/\
  ∃xs,KT H kvs xs/\h.DictOfH (tupleKind (Xo P w)) a xs:=ZhI ok (.inl e)
end
def Zh1(H:Hp)(a:Addr)(y:V)(r:Option V):Prop:=
 (∃kvs k,Rd H a (.dK kvs)/\y=kV k/\r=YK kvs k)\/∃kvs k b,Rd H a (.dT kvs)/\y=.ref b/\H b=some (.tup (k.map kV))/\r=YK kvs k
def ZiN(H:Hp)(a:Addr)(y v:V)(H':Hp):Prop:=
 (∃kvs k,H a=some (.dK kvs)/\y=kV k/\kvs.length<sizeLine/\H'=upd H a (.dK (JF kvs k v)))\/
 ∃kvs k b,H a=some (.dT kvs)/\y=.ref b/\H b=some (.tup (k.map kV))/\kvs.length<sizeLine/\H'=upd H a (.dT (JF kvs k v))
theorem ZiN.k{H:Hp}{a:Addr}{kvs:List (Key×V)}{k:Key}{v:V}(e:H a=some (.dK kvs))(hl:kvs.length<sizeLine):ZiN H a (kV k) v (upd H a (.dK (JF kvs k v))):=.inl ⟨kvs,k,e,rfl,hl,rfl⟩
section
variable {X:Cx} {pins:List (Addr×Obj)} {σ:St} {H:Hp} {s:Shared} {a:Addr} {y v:V} {u r:Value} {o:Option V} {A:Around} {E:Value->Shared->Prop}
theorem Inv.big(I:Inv X pins σ H s):sysModules<s.heap.objs.size:=by
 have h:mainGlobals<s.heap.objs.size:=(I.mod.glob.keeps I.bk).lt;exact Nat.lt_trans (by decide) h
theorem ZnL{Q:Value->Shared->Prop}(hu:A.units+1<cLine)(I:Inv X pins σ H s)(g:Zh1 H a y (some v))(ry:Yn y u)(h:∀w' s',Inv X pins σ H s'->Yn v w'->Q w' s'):
  wpAny (model X.prog X.w) A (getItem (.ref a) u) Q E s:=by
 rcases g with ⟨kvs,k,e,ey,l⟩|⟨kvs,k,b,e,ey,eb,l⟩
 ·subst ey;obtain⟨z,hd,vs,rel,dd⟩:=ZcK I.hok e;obtain⟨w',hw,rw'⟩:=ZcY.some_of (v:=v) (o:=valueAt vs k) (by rw[l];exact rel.val k)
  exact wpAny_getItem_of (ZhH ry) dd.mapOf hw (h w' _ (I.tok _) rw')
 ·subst ey;cases(show u=Value.ref b from ry);obtain⟨z,hd,xs,rel,dd⟩:=ZhI I.hok e;obtain⟨w',hw,rw'⟩:=ZcY.some_of (v:=v) (o:=(atKey xs k).map (·.2)) (by rw[l];exact rel.val k)
  obtain⟨p,hp,hp2⟩:=Option.map_eq_some_iff.mp hw;refine wpAny_getItem_heap (tupleKind_room_in1 hu) (Zg8 I.hok eb) dd hp ?_;rw[hp2];exact h w' _ (I.tok _) rw'
theorem ZtK{Q:Value->Shared->Prop}(hu:A.units+1<cLine)(I:Inv X pins σ H s)(g:Zh1 H a y o)(ry:Yn y u)(h:∀s',Inv X pins σ H s'->Q (.bool o.isSome) s'):
  wpAny (model X.prog X.w) A (compareOp .In u (.ref a)) Q E s:=by
 rcases g with ⟨kvs,k,e,ey,l⟩|⟨kvs,k,b,e,ey,eb,l⟩
 ·subst ey;obtain⟨z,hd,vs,rel,dd⟩:=ZcK I.hok e;refine wpAny_in_of (ZhH ry) hd dd.mapOf ?_;rw[<-(rel.val k).isSome_eq,<-l];exact h _ (I.tok _)
 ·subst ey;cases(show u=Value.ref b from ry);obtain⟨z,hd,xs,rel,dd⟩:=ZhI I.hok e;refine wpAny_in_heap (tupleKind_room_in1 hu) (Zg8 I.hok eb) hd dd ?_;have q:=(rel.val k).isSome_eq;rw[Option.isSome_map] at q
  rw[<-q,<-l];exact h _ (I.tok _)
theorem ZqA{Q:Value->Shared->Prop}(hu:A.units+1<cLine)(I:Inv X pins σ H s)(g:Zh1 H a y o)(ry:Yn y u)(h:∀s',Inv X pins σ H s'->Q (.bool (!o.isSome)) s'):
  wpAny (model X.prog X.w) A (compareOp .NotIn u (.ref a)) Q E s:=by
 rcases g with ⟨kvs,k,e,ey,l⟩|⟨kvs,k,b,e,ey,eb,l⟩
 ·subst ey;obtain⟨z,hd,vs,rel,dd⟩:=ZcK I.hok e;refine wpAny_notIn_of (ZhH ry) hd dd.mapOf ?_;rw[<-(rel.val k).isSome_eq,<-l];exact h _ (I.tok _)
 ·subst ey;cases(show u=Value.ref b from ry);obtain⟨z,hd,xs,rel,dd⟩:=ZhI I.hok e;refine wpAny_notIn_heap (tupleKind_room_in1 hu) (Zg8 I.hok eb) hd dd ?_;have q:=(rel.val k).isSome_eq;rw[Option.isSome_map] at q
  rw[<-q,<-l];exact h _ (I.tok _)
theorem ZjU{h':Heap}{t':Nat}{ob:HO}(I:Inv X pins σ H s)(mu:Mut (H a))(hs:Heap.SameBut a s.heap h')(he:∃q,h'.get? a=some q)(new:XN X.prog X.w (upd H a ob) h' a ob):
  Inv X pins σ (upd H a ob) {s with heap:=h',toks:=t'}:=
 I.write (x:=a) (e:=a) mu (.inl rfl) (fun b q hb z=>(hs.2 b hb).trans z) he new
theorem Zmc{P:Program}{w:World}{H':Hp}{h':Heap}{kvs:List (Key×V)}{vs:List (Key×Value)}(z:kvs.length<=sizeLine)(hd:(a==sysModules)=false)(rel:KV kvs vs)(dd:h'.DictOf (Xo P w) a vs):
  XN P w H' h' a (.dK kvs):=⟨z,hd,vs,rel,dd⟩
theorem ZnM{H':Hp}{Q:Unit->Shared->Prop}(hu:A.units+1<cLine)(I:Inv X pins σ H s)(g:ZiN H a y v H')(ry:Yn y u)(rv:Yn v r)(h:∀s',Inv X pins σ H' s'->Q () s'):
  wpAny (model X.prog X.w) A (setItem (.ref a) u r) Q E s:=by
 rcases g with ⟨kvs,k,e,ey,l,eH⟩|⟨kvs,k,b,e,ey,eb,l,eH⟩
 ·subst ey eH;obtain⟨z,hd,vs,rel,dd⟩:=Zrj I.hok e;have hz:vs.length<=sizeLine:=by rw[<-rel.length];exact z
  have hl:(JF kvs k v).length<=sizeLine:=by have:=ZaQ kvs k v;omega
  refine wpAny_setItem_pairs (hsz:=hz) (ZhH ry) dd fun h' dd' hs=>h _ ?_;have he:∃q,h'.get? a=some q:=let ⟨q,_,_,hq,_⟩:=dd';⟨q,hq⟩;exact ZjU I (by rw[e];exact True.intro) hs he (Zmc hl hd (rel.put k rv) dd')
 ·subst ey eH;cases(show u=Value.ref b from ry);obtain⟨z,hd,xs,rel,dd⟩:=ZsM I.hok e;have hz:xs.length<=sizeLine:=by rw[<-Paired.length rel];exact z
  have hl:(JF kvs k v).length<=sizeLine:=by have:=ZaQ kvs k v;omega
  refine wpAny_setItem_heap (hsz:=hz) (tupleKind_room_in1 hu) (Zg8 I.hok eb) dd fun h' dd' hs=>h _ ?_;obtain⟨q,es,ep,hq,h2,h3,h4,_,h5⟩:=dd';refine ZjU I (by rw[e];exact True.intro) hs ⟨q,hq⟩ ⟨hl,hd,_,(rel.put k eb rv).keeps fun c ys ec=> ?_,q,es,ep,hq,h2,h3,h4,h5⟩
  rw[Zv (Yt ec e (fun z=>nomatch z))];exact ec
end
section
variable {X:Cx} {pins:List (Addr×Obj)} {σ:St} {H:Hp} {s:Shared} {a:Addr} {kvs:List (Key×V)} {k:Key} {u:Value} {A:Around} {E:Value->Shared->Prop}
end
def ZsN(i:Expr):Prop:=∀ov iv,subscripted i false ov iv=operate [ov,iv] (getItem ov iv)
theorem ZqB{prog:Program}{w:World}{A:Around}{E:Value->Shared->Prop}{s:Shared}{env:Env}{value slice:Expr}{pos:Pos}{T id:String}{Q:Value->Shared->Prop}
  (hl:typeLookup (.type T) "__getitem__"=pure (some (.builtin id)))(hs:ZsN slice)
  (h:wpAny (model prog w) A (eval value env) (fun o s₁=>wpAny (model prog w) A (eval slice env) (fun i s₂=>s₂.TypeIs o T/\wpAny (model prog w) A (getItem o i) Q E s₂) E s₁) E s):
  wpAny (model prog w) A (eval (.Subscript value slice pos) env) Q E s:=by
 refine Subscript_ (wpAny_mono h (fun o s₁ h₁=>wpAny_mono h₁ (fun i s₂ h₂=> ?_) fun _ _ x=>x) fun _ _ x=>x);obtain⟨hT,h₂⟩:=h₂;unfold subscriptTail;refine wpAny_bind ?_;rw[getitemInPython_of_ne hT.not_modules];refine wpAny_bind (wpAny_specialOf hT hl ?_);have fin:wpAny (model prog w) A (subscripted slice false o i) (fun r s₃=>wpAny (model prog w) A (letTemporaryGo value o r>>=fun _=>pure r) Q E s₃) E s₂:=by
  rw[hs o i];exact wpAny_operating (wpAny_mono h₂ (fun r s₃ h₃=>wpAny_bind (wpAny_letTemporaryGo (wpAny_pure h₃))) fun _ _ x=>x)
 first
  |exact wpAny_pure (wpAny_bind fin)
  |exact wpAny_bind (wpAny_pure (wpAny_bind fin))
  |exact wpAny_bind fin
theorem Zl5{X:Cx}{pins:List (Addr×Obj)}{σ:St}{H:Hp}{s:Shared}{a:Addr}{y:V}{o:Option V}(I:Inv X pins σ H s)(g:Zh1 H a y o):s.TypeIs (.ref a) "dict":=by
 rcases g with ⟨kvs,k,e,_,_⟩|⟨kvs,k,b,e,_,_,_⟩
 ·obtain⟨_,_,vs,_,dd⟩:=ZcK I.hok e;exact dd.typeIs
 ·obtain⟨_,_,xs,_,dd⟩:=ZhI I.hok e;exact dd.typeIs
def ZsO(td ty:TE):TE:=fun σ H Q=>td σ H fun x H1=>ty σ H1 fun y H2=>∃a v,x=.ref a/\Zh1 H2 a y (some v)/\Q v H2
def ZtL(ty td:TE):TE:=fun σ H Q=>ty σ H fun y H1=>td σ H1 fun x H2=>∃a o,x=.ref a/\Zh1 H2 a y o/\Q (.bl o.isSome) H2
def ZqC(ty td:TE):TE:=fun σ H Q=>ty σ H fun y H1=>td σ H1 fun x H2=>∃a o,x=.ref a/\Zh1 H2 a y o/\Q (.bl (!o.isSome)) H2
def ZsP(td ty tv:TE):TS:=fun D σ H=>tv σ H fun v H1=>td σ H1 fun x H2=>ty σ H2 fun y H3=>∃a H4,x=.ref a/\ZiN H3 a y v H4/\D.nx σ H4
section
variable {X:Cx} {o i e value:Expr} {pos pos' tpos:Pos} {td ty tv:TE}
theorem Zbp(hu:X.A.units+1<cLine)(ho:PE X o td)(hi:PE X i ty)(hs:ZsN i):PE X (.Subscript o i pos) (ZsO td ty):=by
 intro pins s σ H Q I h;refine ZqB PySem.F.slot_dict_getitem.lookup hs (thn (ho pins s σ H _ I h) fun u s1 ⟨x,H1,I1,rx,q1⟩=>thn (hi pins s1 σ H1 _ I1 q1) fun iv s2 ⟨y,H2,I2,ry,a,v,ex,g,q2⟩=> ?_);subst ex;obtain rfl:u=Value.ref a:=rx;exact⟨Zl5 I2 g,ZnL hu I2 g ry fun w' s3 I3 rw'=>⟨v,H2,I3,rw',q2⟩⟩
theorem Zmd(hu:X.A.units+1<cLine)(hi:PE X i ty)(ho:PE X o td):PC X .In i o (ZtL ty td):=by
 intro pins s σ H Q I h;refine thn (hi pins s σ H _ I h) fun iv s1 ⟨y,H1,I1,ry,q1⟩=>thn (ho pins s1 σ H1 _ I1 q1) fun u s2 ⟨x,H2,I2,rx,a,ov,ex,g,q2⟩=> ?_;subst ex;obtain rfl:u=Value.ref a:=rx;exact ZtK hu I2 g ry fun s3 I3=>⟨.bl ov.isSome,H2,I3,rfl,q2⟩
theorem Zee(hu:X.A.units+1<cLine)(hi:PE X i ty)(ho:PE X o td):PC X .NotIn i o (ZqC ty td):=by
 intro pins s σ H Q I h;refine thn (hi pins s σ H _ I h) fun iv s1 ⟨y,H1,I1,ry,q1⟩=>thn (ho pins s1 σ H1 _ I1 q1) fun u s2 ⟨x,H2,I2,rx,a,ov,ex,g,q2⟩=> ?_;subst ex;obtain rfl:u=Value.ref a:=rx;exact ZqA hu I2 g ry fun s3 I3=>⟨.bl (!ov.isSome),H2,I3,rfl,q2⟩
theorem Zd1(hu:X.A.units+1<cLine)(ho:PE X o td)(hi:PE X i ty)(hv:PE X value tv)(hs:swapsWith value (some (.Subscript o i pos')) pos.line X.env=pure false):
  PS X (.Assign [.Subscript o i pos'] value pos) (ZsP td ty tv):=by
 intro pins s σ H D I h;refine wpAny_Assign_Subscript (thn (hv pins s σ H _ I h) fun r s1 ⟨v,H1,I1,rv,q1⟩=>thn (ho pins s1 σ H1 _ I1 q1) fun u s2 ⟨x,H2,I2,rx,q2⟩=>thn (hi pins s2 σ H2 _ I2 q2) fun iv s3 ⟨y,H3,I3,ry,a,H4,ex,g,q3⟩=> ?_) hs;subst ex;obtain rfl:u=Value.ref a:=rx;exact ZnM hu I3 g ry rv fun s4 I4=>⟨σ,H4,I4,q3⟩
end
theorem ZoS{P:Program}{w:World}{H:Hp}(h:Heap)(hb:sysModules<h.objs.size):XN P w H (h.push {cls:=.type "dict",data:=.dict #[]}) h.objs.size (.dK []):=
 ⟨Nat.zero_le _,beq_eq_false_iff_ne.mpr (Ne.symm (Nat.ne_of_lt hb)),[],.nil,Heap.DictOf.new h⟩
def ZrI:TE:=fun _ H Q=>∀p,H p=none->Q (.ref p) (upd H p (.dK []))
section
variable {X:Cx} {pos:Pos}
theorem ZbB:PE X (.Dict [] [] pos) ZrI:=fun pins s σ H Q I h=>
 wpAny_Dict_empty ⟨.ref s.heap.objs.size,_,I.laid (a:=s.heap.objs.size) (o:=.dK []) (t':=s.toks) (fun _ _ q=>Heap.get?_push_of_some _ q) (Nat.le_refl _) (ZoS s.heap I.big),rfl,h _ (I.hok.fresh (Nat.le_refl _))⟩
end
structure M2 (X:Cx) (o:Expr) (m:Str) (apos:Pos) (e f:Expr) (cpos:Pos):Prop where
 base:attributeBase o m X.env (eval o X.env)=eval o X.env
 few:((backTo cpos (starEach [e,f] X.env)).all (fun x=> !x.1)&&(backToKw cpos (keywordEach [] X.env)).all (fun x=>x.1.isSome)
  &&decide (([e,f]:List Expr).length+([]:List Keyword).length+(if([]:List Keyword).isEmpty then 0 else 1)<30))=true
 line:(apos.endLine==cpos.line)=true
 trees:backTo cpos (starEach [e,f] X.env)=[(false,eval e X.env),(false,eval f X.env)]
def IsD(H:Hp)(a:Addr):Prop:=(∃kvs,Rd H a (.dK kvs))\/∃kvs,Rd H a (.dT kvs)
theorem ZoT{X:Cx}{pins:List (Addr×Obj)}{σ:St}{H:Hp}{s:Shared}{a:Addr}(I:Inv X pins σ H s)(d:IsD H a):
  s.TypeIs (.ref a) "dict"/\(∀b,Value.ref a=.ref b->∃ob,s.heap.get? b=some ob/\ob.dict=none)/\(a==sysModules)=false:=by
 rcases d with ⟨kvs,e⟩|⟨kvs,e⟩
 ·obtain⟨_,hd,vs,_,dd⟩:=ZcK I.hok e;refine⟨dd.typeIs,fun b q=> ?_,hd⟩;cases q;obtain⟨ob,_,_,h1,h2,_⟩:=dd;exact⟨ob,h1,h2.2.1⟩
 ·obtain⟨_,hd,xs,_,dd⟩:=ZhI I.hok e;refine⟨dd.typeIs,fun b q=> ?_,hd⟩;cases q;obtain⟨ob,_,_,h1,h2,_⟩:=dd;exact⟨ob,h1,h2.2.1⟩
section
variable {X:Cx} {pins:List (Addr×Obj)} {σ:St} {H:Hp} {s:Shared} {a:Addr} {y d:V} {u r:Value} {o:Option V} {A:Around} {E:Value->Shared->Prop}
theorem ZrJ{Q:Value->Shared->Prop}(hu:A.units+1<cLine)(I:Inv X pins σ H s)(g:Zh1 H a y o)(ry:Yn y u)(rd:Yn d r)(h:∀w' s',Inv X pins σ H s'->Yn (o.getD d) w'->Q w' s'):
  wpAny (model X.prog X.w) A (call (.builtin "dict.get") [.ref a,u,r]) Q E s:=by
 rcases g with ⟨kvs,k,e,ey,l⟩|⟨kvs,k,b,e,ey,eb,l⟩
 ·subst ey;obtain⟨z,hd,vs,rel,dd⟩:=ZcK I.hok e;refine call_meetsIn PySem.F.slot_dict_get dd.typeIs PySem.F.entry_dict_get (PySem.F.args_dict_get_3 _ _ _) (meets_dict_get_default (Xo X.prog X.w) a (ZhH ry) hd r) ⟨_,dd.mapOf,h _ _ (I.tok _) ?_⟩;rw[l];exact(rel.val k).getD rd
 ·subst ey;cases(show u=Value.ref b from ry);obtain⟨z,hd,xs,rel,dd⟩:=ZhI I.hok e;refine call_meetsIn PySem.F.slot_dict_get dd.typeIs PySem.F.entry_dict_get (PySem.F.args_dict_get_3 _ _ _) (meetsH_dict_get_default (tupleKind (Xo X.prog X.w)) a b hd r) ⟨tupleKind_room_in1 hu,k,xs,Zg8 I.hok eb,dd,h _ _ (I.tok _) ?_⟩;rw[l];exact(rel.val k).getD rd
end
def ZrK(td ty tx:TE):TE:=fun σ H Q=>td σ H fun x H1=>∃a,x=.ref a/\IsD H1 a/\ty σ H1 fun y H2=>tx σ H2 fun z H3=>∃o,Zh1 H3 a y o/\Q (o.getD z) H3
section
variable {X:Cx} {o e f:Expr} {apos cpos:Pos} {td ty tx:TE}
theorem Zl6(hu:X.A.units+1<cLine)(ho:PE X o td)(he:PE X e ty)(hf:PE X f tx)(m:M2 X o "get" apos e f cpos):PE X (.Call (.Attribute o "get" apos) [e,f] [] cpos) (ZrK td ty tx):=by
 intro pins s σ H Q I h;refine wpAny_Call_method m.base m.few m.line PySem.F.plainAttrs_dict PySem.F.slot_dict_get PySem.F.type_dict_get (thn (ho pins s σ H _ I h) fun u s1 ⟨x,H1,I1,rx,a,ex,d,q1⟩=> ?_);subst ex;obtain rfl:u=Value.ref a:=rx;obtain⟨t1,t2,_⟩:=ZoT I1 d;refine⟨t1,t2, ?_⟩;rw[m.trees];refine Calls.callWith_builtin rfl (Calls.evalArgs_plain (Calls.spliced_cons (thn (he pins s1 σ H1 _ I1 q1) fun iv s2 ⟨y,H2,I2,ry,q2⟩=>
  Calls.spliced_cons (thn (hf pins s2 σ H2 _ I2 q2) fun fv s3 ⟨z,H3,I3,rz,ov,g,q3⟩=>Calls.spliced_nil ?_))))
 exact ZrJ hu I3 g ry rz fun w' s4 I4 rw'=>⟨_,H3,I4,rw',q3⟩
end
section
variable {X:Cx} {pins:List (Addr×Obj)} {σ:St} {H:Hp} {s:Shared} {a:Addr} {kvs:List (Key×V)} {A:Around} {E:Value->Shared->Prop}
theorem ZoU{Q:Value->Shared->Prop}(I:Inv X pins σ H s)(e:Rd H a (.dK kvs))(h:∀p s',H p=none->Inv X pins σ (upd H p (.dK kvs)) s'->Q (.ref p) s'):wpAny (model X.prog X.w) A (call (.type "dict") [.ref a]) Q E s:=by
 obtain⟨z,hd,vs,rel,dd⟩:=ZcK I.hok e;refine kt_call_dict hd dd (by rw[<-rel.length];exact z) fun h' dd' hs=> ?_
 refine h _ _ (I.hok.fresh (Nat.le_refl _)) (I.laid (a:=s.heap.objs.size) (o:=.dK kvs) (t':=s.toks) (fun b q hq=> ?_) (Nat.le_refl _) (Zmc z (beq_eq_false_iff_ne.mpr (Ne.symm (Nat.ne_of_lt I.big))) rel dd'));exact(hs.2 b (Nat.ne_of_lt (Heap.lt_size hq))).trans (Heap.get?_push_of_some _ hq)
end
section
variable {X:Cx} {pins:List (Addr×Obj)} {σ:St} {H:Hp} {s:Shared} {a:Addr} {y:V} {u:Value} {A:Around} {E:Value->Shared->Prop}
end
end L2
namespace Att
open PySem PySem.W PySem.Calls PyProof.Rows
theorem Zh2{P:Params}{h:Heap}:∀(ns:List Int) (vs:List Value),WellAll P h vs (ns.map WData.int)->IntsAre vs ns:=by
 intro ns
 induction ns with
 |nil=>
  intro vs w;rw[List.map_nil] at w
  cases w;exact .nil
 |cons n ns ih=>
  intro vs w;rw[List.map_cons] at w
  cases w with
  |cons a b=>
   cases a;exact .cons _ _ (ih _ b)
theorem script_of{l:OpenLaw}{n:Nat}(hn:l.most=some n){P:Params}{h:Heap}{args:List WData}{vals:List Value}
  (hpre:l.row.toRowW.claim.pre args=true)(hwl:WellAll P h vals args):
  ∃a vs ns,vals=[Value.ref a]/\args=[WData.list (ns.map WData.int)]/\h.get? a=some {cls:=.type "list",data:=.seq vs.toArray}/\IntsAre vs ns/\ns.length<=n:=by
 have hsh:WShape.hasAll [] args [.list .int]=true:=(pre_splitW hpre).1;have hc:l.pre.holds [] {args:=args}=true:=(pre_splitW hpre).2;obtain⟨d,r,rfl,h1,h2⟩:=hasAllW_cons hsh;obtain rfl:=hasAllW_nil h2;obtain⟨xs,rfl,h3⟩:=hasW_list h1;obtain⟨ns,rfl⟩:=items_int h3;have hlen:ns.length<=n:=by
  unfold OpenLaw.pre at hc
  have h4:(WTm.not (.lt (.lit (.int (n:Int))) (.len (.arg 0)))).holds [] {args:=[.list (ns.map .int)]}=true:=by
   have h4:=(holds_andW hc).1;rw[hn] at h4
   exact h4
  have h5:=condW_of h4 (w_not (w_lt w_lit (w_len_list (w_arg rfl))));rw[List.length_map] at h5
  refine Nat.le_of_not_lt fun q=> ?_;have q':(n:Int)<((ns.length:Nat):Int):=by omega
  first
   |(rw[decide_eq_true q'] at h5;exact absurd h5 (by decide))
   |(simp at h5;omega)
 cases hwl with
 |cons w1 w2=>
  cases w2;cases w1 with
  |list ho hall=>exact⟨_,_,ns,rfl,rfl,ho,Zh2 ns _ hall,hlen⟩
theorem post_true(l:OpenLaw)(args:List WData):l.row.toRowW.claim.post args (.bool true) args=true:=
 postW_of (r:=l.row.toRowW) (X:=(true==true))
  (show WShape.has [] (.bool true) .bool=true by first|rfl|decide|simp[WShape.has,WShape.arms,WShape.armsAll])
  (show(WTm.eq .res (.lit (.bool true))).value [] {args:=args,res:=some (.bool true),after:=args}=some (.bool (true==true)) from w_eq_bool (w_res rfl) w_lit) rfl
section
variable {prog:Program} {w:World} {A:Around} {E:Value->Shared->Prop} {s:Shared} {K:Frag}
end
end Att
namespace L2
open PySem PySem.Spec PyProof.Rows
theorem Zji:∀{vs:List Value} {ns:List Int},IntsAre vs ns->Yr (ns.map V.int) vs
 |_,_,.nil=> .nil
 |_,_,.cons n t h=> .cons ⟨t,rfl⟩ (Zji h)
def ZsQ(H:Hp):Prop:=∀b,H b=none\/∃o xs,H b=some (.frz o (.lst xs))
theorem ZoV{P:Program}{w:World}{K:PySem.W.Frag}{mg mb:Str->Option Value}{CX:CXT}{k:Nat}{fa a:Addr}{fd:FuncData}{x:Str}{sp:Sp}{s₁:Shared}{vs:List Value}{ns:List Int}
  (KX:K.In s₁.heap)(hns:s₁.heap.Ns mainGlobals mg)(hb:s₁.heap.Ns builtinsNs mb)(hbb:∀x:Str,x≠"__name__"->mb x=bootBuiltins x)(hlim:s₁.heap.NoLimit)(hg:s₁.gens= #[])
  (ha:s₁.heap.get? a=some {cls:=.type "list",data:=.seq vs.toArray})(hi:IntsAre vs ns)(hl:ns.length<=sizeLine)(hr:Za8 k callerA)
  (F:∀base:Heap,K.In base->base.Ns mainGlobals mg->Yy P w K mg base CX k fa fd [x] sp)(hbind:∀(s:Shared) (u:Value),BindsTo s fd ⟨[u],[]⟩ [(x,u)])
  (hsp:∀H:Hp,ZsQ H->SqL K H a (ns.map V.int)->sp [.ref a] H (fun v _=>v=.bl true) fun _ _ _=>False)
  (hCX:∀H e s',CX [] H s₁ (fun _ _ _=>False) e s'->False):
  codeAny (model P w) callerA (.call (.ref fa) ⟨[.ref a],[]⟩) (fun r s'=>r=.ok (.ret (.bool true))/\OldK s₁.heap s'.heap/\s'.os=s₁.os/\AllBare s'.gens) s₁:=by
 have rv:=Zji hi;have lenV:=hi.length;have core:∀H:Hp,ZsQ H->SqL K H a (ns.map V.int)->HOk P w H s₁.heap->(∀b,H b≠none->b=a)->(H a≠none->K.lookup a=none)->
   codeAny (model P w) callerA (.call (.ref fa) ⟨[.ref a],[]⟩) (fun r s'=>r=.ok (.ret (.bool true))/\OldK s₁.heap s'.heap/\s'.os=s₁.os/\AllBare s'.gens) s₁:=by
  intro H hO hS hok hA hK;have base_of:∀{b:Addr} {o:Obj},s₁.heap.get? b=some o->H b=none->(ZjI s₁.heap H).get? b=some o:=fun e n=>ZoA e n;have noA:∀{b:Addr} {o:Obj} {es:Array DictEntry} {ep:Nat},s₁.heap.get? b=some o->o.data=.dict es ep->H b=none:=fun{b o es ep} e d=>by
   cases q:H b with
   |none=>rfl
   |some u=>
    have e':b=a:=hA b (by rw[q];simp)
    subst e';rw[ha] at e;cases e
    have d':Data.seq vs.toArray _=Data.dict es ep:=d;cases d'
  have nsK:∀{b:Addr} {m:Str->Option Value},s₁.heap.Ns b m->(ZjI s₁.heap H).Ns b m:=fun{b m} ⟨o,es,ep,e,d,r⟩=>⟨o,es,ep,base_of e (noA e d),d,r⟩
  have hKb:K.In (ZjI s₁.heap H):=fun b o e=>base_of (KX b o e) (by
   cases q:H b with
   |none=>rfl
   |some u=>
    have e':b=a:=hA b (by rw[q];simp)
    subst e';rw[hK (by rw[q];simp)] at e;cases e)
  have hM:Mod K mg (ZjI s₁.heap H):=⟨hKb,nsK hns,⟨mb,nsK hb,hbb⟩,let ⟨mc,h1,h2⟩:=hlim;⟨mc,nsK h1,h2⟩⟩
  have e0:Zm7 P w K mg (ZjI s₁.heap H) callerA [] s₁ H:=⟨rfl,hM,fun b o e=>Zqm e,Nat.le_of_eq (ZnB _ _),trivial,fun b hb=>absurd (show b∈([]:List Addr) from hb) (by simp),hok,.of_eq hg⟩
  refine codeAny_mono ((F _ hKb (nsK hns)).run callerA [] s₁ H ⟨[.ref a],[]⟩ [.ref a] [.ref a] _ _ hr e0 (hbind s₁ (.ref a)) (.cons rfl .nil) (hsp H hO hS)) fun r s' h=> ?_;cases r with
  |error e=>exact(hCX H e s' h).elim
  |ok fl=>
   cases fl with
   |next=>exact False.elim h
   |brk=>exact False.elim h
   |cont=>exact False.elim h
   |ret u=>
    obtain⟨v,H',os,bare,un,hok',r',q⟩:=h;have q':v=.bl true:=q;subst q';obtain rfl:u=Value.bool true:=r';refine⟨rfl,OldK.of_keep fun b o e=> ?_,os,bare⟩;cases q:H b with
    |none=>exact un.keep b o e q (by intro z;exact absurd (show b∈([]:List Addr) from z) (by simp)) (by simp)
    |some u=>
     rcases hO b with z|⟨ob,xs,z⟩
     ·rw[q] at z;cases z
     ·have z2:=un.frzs b ob _ z;obtain⟨e1,_⟩:=hok b _ z;obtain⟨e2,_⟩:=hok' b _ z2;rw[e] at e1;cases e1
      exact e2
 cases hk:K.lookup a with
 |some o=>
  have e:=KX a o hk;rw[ha] at e
  cases e;refine core (fun _=>none) (fun _=> .inl rfl) (.inr ⟨_,vs.toArray,_,hk,rfl,rfl,rfl,by rw[List.size_toArray,lenV];exact hl,by simpa using rv⟩) (fun b u z=>by have z':(none:Option HO)=some u:=z;cases z') (fun b z=>absurd rfl z) fun z=>absurd rfl z
 |none=>
  refine core (fun b=>if b=a then some (.frz {cls:=.type "list",data:=.seq vs.toArray} (.lst (ns.map V.int))) else none) (fun b=> ?_) (.inl (.inr ⟨{cls:=.type "list",data:=.seq vs.toArray},if_pos rfl⟩)) (fun b u z=> ?_) (fun b z=> ?_) fun _=>hk
  ·by_cases hb:b=a
   ·exact .inr ⟨_,_,if_pos hb⟩
   ·exact .inl (if_neg hb)
  ·by_cases hb:b=a
   ·have z':=(if_pos hb).symm.trans z;cases z';subst hb;exact⟨ha,by rw[List.length_map];exact hl,vs,_,rv,ha⟩
   ·have z':=(if_neg hb).symm.trans z;cases z'
  ·by_cases hb:b=a
   ·exact hb
   ·exact absurd (if_neg hb) z
end L2
namespace L2
open PySem PySem.Spec PyProof.Rows
end L2
namespace L2
open PySem PySem.Spec PyProof.Rows
def Xr(s:Stmt)(j:Nat):Stmt:=match s with
 | .ClassDef _ _ _ body _ _ _ _ _ _ _=>body.getD j (.Pass ⟨0,0,0,0⟩)
 |_=> .Pass ⟨0,0,0,0⟩
def Zef(s:Stmt):Arguments:=match s with
 | .FunctionDef _ a _ _ _ _ _ _ _ _=>a
 |_=>{posonlyargs:=[],args:=[],vararg:=none,kwonlyargs:=[],kw_defaults:=[],kwarg:=none,defaults:=[]}
def Zca(s:Stmt):List Stmt:=match s with
 | .FunctionDef _ _ b _ _ _ _ _ _ _=>b
 |_=>[]
def ZG(s:Stmt):Scope:=match s with
 | .FunctionDef _ _ _ _ _ _ sc _ _ _=>sc
 |_=>{kind:=.function,names:=[],isGenerator:=false,isCoroutine:=false}
abbrev CX0:CXT:=fun _ _ _ _ _ _=>False
abbrev E0:XK:=fun _ _ _=>False
theorem Yc{X:Cx}:ZaA CX0 X E0:=fun _ _ _ _ _ _ _ h=>h.elim
structure Fun (K:PySem.W.Frag) (x qual:Str) (st:Stmt) (f:Addr) (fd:FuncData):Prop where
 ex:∃(oc:Value) (od:Option Addr) (kV doc pm:Value) (an:Option Addr) (cdv ct:Value) (osl:Array (Option Value)),
  fd=PySem.W.fnOf x qual (Zef st) (Zca st) (ZG st) .none kV doc pm an cdv ct/\K.lookup f=some ⟨oc,od,.func fd,osl⟩/\PySem.W.codeIn K cdv qual=true
 kp:PySem.W.keepIn K (.ref f)=true
section
variable {P:Program} {w:World} {K:PySem.W.Frag} {mg:Str->Option Value} {base:Heap}
theorem Fun.ok{x qual:Str}{st:Stmt}{f:Addr}{fd:FuncData}{N ps:List Str}{k:Nat}{sp:Sp}(F:Fun K x qual st f fd)(S:ZX N ps (ZG st))(len:∀vs H Q E,sp vs H Q E->vs.length=ps.length)
  (hbody:∀(cdv:Value) (A:Around) (outer:List Env) (s:Shared) (H:Hp) (vs:List V) (Q:VK) (E:XK),Za8 k (A.deeper (envOfC qual (ZG st) s.heap.objs.size f cdv))->sp vs H Q E->
   ∃t,PSs (Js CX0 P w K mg base N qual (ZG st) f cdv A outer s H E).nox (Zca st) t/\t {nx:=fun _ H'=>Q .non H',rt:=Q} (Zdz N vs) H):Yy P w K mg base CX0 (k+1) f fd ps sp:=by
 obtain⟨oc,od,kV,doc,pm,an,cdv,ct,osl,rfl,lk,hcd⟩:=F.ex;refine Zrh lk hcd S len fun A outer s H vs Q E hr hsp=> ?_;obtain⟨t,h,q⟩:=hbody cdv A outer s H vs Q E hr hsp;exact⟨t,h.nox,q⟩
theorem Fun.binds{x qual:Str}{st:Stmt}{f:Addr}{fd:FuncData}{ps:List Str}(F:Fun K x qual st f fd)
  (h:∀(kV doc pm:Value) (an:Option Addr) (cdv ct:Value) (us:List Value),us.length=ps.length->bindArgs (PySem.W.fnOf x qual (Zef st) (Zca st) (ZG st) .none kV doc pm an cdv ct) ⟨us,[]⟩=pure (ps.zip us)):Zdy K fd ps []:=by
 obtain⟨oc,od,kV,doc,pm,an,cdv,ct,osl,rfl,lk,hcd⟩:=F.ex;exact .all (h kV doc pm an cdv ct)
theorem Zme{x qual:Str}{st:Stmt}{f:Addr}{oc:Value}{od an:Option Addr}{osl:Array (Option Value)}{kV doc pm cdv ct:Value}(l:K.lookup f=some ⟨oc,od,.func (PySem.W.fnOf x qual (Zef st) (Zca st) (ZG st) .none kV doc pm an cdv ct),osl⟩)
  (c:PySem.W.codeIn K cdv qual=true)(k:PySem.W.keepIn K (.ref f)=true):Fun K x qual st f (PySem.W.fnOf x qual (Zef st) (Zca st) (ZG st) .none kV doc pm an cdv ct):=⟨⟨oc,od,kV,doc,pm,an,cdv,ct,osl,rfl,l,c⟩,k⟩
end
theorem ZbC{A:Around}{k:Nat}(hr:Za8 k A):A.units+1<cLine:=Nat.lt_of_le_of_lt (Nat.add_le_add_left (by decide:1<=64) _) hr.units
section
variable {X:Cx}
theorem pv(i:Nat){x:Str}{pos:Pos}(hN:X.N[i]? =some x:=by rfl)(hv:Vis X.env.scope x:=by first|exact Or.inl rfl|exact Or.inr (Or.inl rfl)|exact Or.inr (Or.inr rfl)) (hd:(x==("__debug__":Str))=false:=by decide)
  (hcd:(x==("__classdict__":Str))=false:=by decide):PE X (.Name x pos) (ZoC i):=Zrz hN hv hd hcd
end
theorem Yw{A B:Prop}(h:B):if false=true then A else B:=by
 rw[if_neg Bool.false_ne_true];exact h
theorem Jq{A B:Prop}(h:A):if true=true then A else B:=by
 rw[if_pos rfl];exact h
theorem Xg{c A B:Prop} [Decidable c](h1:c->A)(h2:¬c->B):if c then A else B:=by
 by_cases h:c
 ·rw[if_pos h];exact h1 h
 ·rw[if_neg h];exact h2 h
theorem ZsR{c A B:Prop} [Decidable c](hc:c)(h:B):if(!decide c)=true then A else B:=by
 rw[decide_eq_true hc];exact Yw h
def ZS(H H':Hp):Prop:=∀b o,H b=some o->H' b=some o
theorem ZS.refl(H:Hp):ZS H H:=fun _ _ h=>h
theorem ZS.trans{H H1 H2:Hp}(a:ZS H H1)(b:ZS H1 H2):ZS H H2:=fun c o h=>b c o (a c o h)
theorem ZS.free{H H':Hp}(e:ZS H H'){l:Addr}(h:H' l=Option.none):H l=Option.none:=by
 cases q:H l with
 |none=>rfl
 |some o=>
  rw[e l o q] at h
  cases h
theorem ZS.seq{K:PySem.W.Frag}{H H':Hp}{a:Addr}{xs:List V}(e:ZS H H')(h:SqL K H a xs):SqL K H' a xs:=by
 rcases h with (h|⟨o,h⟩)|h
 ·exact .inl (.inl (e _ _ h))
 ·exact .inl (.inr ⟨o,e _ _ h⟩)
 ·exact .inr h
section
variable {κ:Type} [DecidableEq κ]
end
end L2
namespace L3
open PySem PySem.Spec PyProof.Rows L2
theorem up{α:Type}{M:Model}{A:Around}{t:Sem α}{Q:α->Shared->Prop}{E:Value->Shared->Prop}{s:Shared}(h:wpAny M A t Q (fun _ _=>False) s):wpAny M A t Q E s:=wpAny_mono h (fun _ _ z=>z) fun _ _ z=>z.elim
theorem ZqD{prog:Program}{w:World}{A:Around}{E:Value->Shared->Prop}{s:Shared}{l b:Addr}{vs ws:List Value}{Q:Value->Shared->Prop}(hl:s.heap.IsList l vs.toArray)(hb:s.heap.IsList b ws.toArray)
  (h:Q (.ref s.heap.objs.size) {s with heap:=s.heap.push {cls:=.type "list",data:=.seq (vs++ws).toArray}})(hz:vs.length+ws.length<=sizeLine):wpAny (model prog w) A (binaryOp .Add (.ref l) (.ref b)) Q E s:=by
 obtain⟨⟨c1,d1,t1,l1⟩,o1,k1,n1,e1⟩:=id hl;obtain⟨⟨c2,d2,t2,l2⟩,o2,k2,n2,e2⟩:=id hb;simp only at k1 e1 k2 e2
 subst k1 e1 k2 e2;refine concat_meets ⟨_,o1,rfl⟩ ⟨_,o2,rfl⟩ noFill_list_add seq_list_add PySem.F.slot_list_add PySem.F.entry_list_add (PySem.F.args_list_add_2 _ _) (list_addW l b vs.toArray ws.toArray n1 n2 d1 d2 l1 l2 (by simpa using hz)) ⟨o1,o2, ?_⟩;have ea:vs.toArray++ws.toArray=(vs++ws).toArray:=by simp
 rw[ea];exact h
section
variable {X:Cx}
theorem Zbq:OpR X (binaryOp .Mult) (rI IntMulOk fun i j=> .int (i*j)):=opI fun _ _ _ _ _ _ _ hc q=>mul_int q hc
def ZsS(K:PySem.W.Frag):R2:=fun x y H Q=>∃l b xs zs,x=.ref l/\y=.ref b/\SqL K H l xs/\SqL K H b zs/\xs.length+zs.length<=sizeLine/\∀p,H p=none->Q (.ref p) (upd H p (.lst (xs++zs)))
theorem Zbr:OpR X (binaryOp .Add) (ZsS X.K):=by
 intro pins s σ H x y v u Q I rx ry h;obtain⟨l,b,xs,zs,rfl,rfl,h1,h2,hz,q⟩:=h;cases rx;cases ry;obtain⟨its,r,pl,_⟩:=I.list h1;obtain⟨its2,r2,pl2,_⟩:=I.list h2;obtain⟨m,F⟩:=I.fr;have e1:=r.length;have e2:=r2.length;refine ZqD pl.isList pl2.isList ?_ (by omega);exact⟨.ref _,_,I.lnew (t':=s.toks) (r.append r2) (by rw[List.length_append];omega),rfl,q _ I.fresh⟩
theorem ZhJ:∀{bs:List Bool} {us:List Value},Yr (bs.map V.bl) us->LSm.BoolsAre us bs
 |[],us,r=>by
  rw[List.map_nil] at r
  cases r;exact .nil
 |b::bs,us,r=>by
  rw[List.map_cons] at r
  cases r with
  |cons r1 r2=>
   cases(show _=Value.bool b from r1);exact .cons b (ZhJ r2)
def ZsT:V->Option Value
 | .ty n=>some (.type n)
 | .ref a=>some (.ref a)
 |_=>none
end
def Ext:L2.St->L2.St->Prop
 |[],[]=>True
 |none::a,_::b=>Ext a b
 |some v::a,w::b=>w=some v/\Ext a b
 |_,_=>False
theorem Ext.len:∀{a b:L2.St},Ext a b->a.length=b.length
 |[],[],_=>rfl
 |none::a,_::b,h=>by
  have h:Ext a b:=h;simp[h.len]
 |some v::a,w::b,h=>by
  have h:w=some v/\Ext a b:=h;simp[h.2.len]
 |[],_::_,h=>h.elim
 |none::_,[],h=>h.elim
 |some _::_,[],h=>h.elim
theorem Ext.get:∀{a b:L2.St},Ext a b->∀(i:Nat) (v:V),a[i]? =some (some v)->b[i]? =some (some v)
 |[],[],_,i,v,e=>by simp at e
 |none::a,_::b,h,i,v,e=>by
  have h:Ext a b:=h;cases i with
  |zero=>simp at e
  |succ i=>simpa using h.get i v (by simpa using e)
 |some z::a,w::b,h,i,v,e=>by
  have h:w=some z/\Ext a b:=h;cases i with
  |zero=>
   have e':z=v:=by simpa using e
   subst e';rw[h.1]
   rfl
  |succ i=>simpa using h.2.get i v (by simpa using e)
 |[],_::_,h,_,_,_=>h.elim
 |none::_,[],h,_,_,_=>h.elim
 |some _::_,[],h,_,_,_=>h.elim
def frY(own:List Str)(fr:List (Str×Nat))(σ:L2.St):L2.St:=own.map (fun _=>none)++fr.map fun p=>σ.getD p.2 none
def nmY(own:List Str)(fr:List (Str×Nat)):List Str:=own++fr.map (·.1)
def Jt(X:Cx)(N:List Str)(scope:Scope)(cl:List (Str×Addr))(C:Addr)(s:Shared)(H:Hp)(fp:List Addr):Cx:=
 {X with N:=N,s₀:=s,H₀:=H,env:=compEnvC scope cl C X.env,outer:=X.stack,stack:=X.stack,ex:=fp,fn:=fun _=>false,pn:=[],xe:=fun _ _=>False}
def Zmf:Option NameKind->Bool
 |some .cell=>true
 |some .free=>true
 |_=>false
theorem ZjV{o:Option NameKind}(h:Zmf o=true):o=some .cell\/o=some .free:=by
 cases o with
 |none=>cases h
 |some k=>cases k<;>first|exact .inl rfl|exact .inr rfl|cases h
def Zmg(X:Cx)(scope:Scope):List (Str×Nat)->Prop
 |[]=>True
 |p::r=>(X.N[p.2]? =some p.1/\Zmf (X.env.scope.names.lookup p.1)=true/\Zmf ((relabel scope X.env).names.lookup p.1)=true)/\Zmg X scope r
theorem Zmg.mem{X:Cx}{scope:Scope}:∀{fr:List (Str×Nat)},Zmg X scope fr->∀p∈fr,X.N[p.2]? =some p.1/\Zmf (X.env.scope.names.lookup p.1)=true/\Zmf ((relabel scope X.env).names.lookup p.1)=true
 |[],_,p,hp=>by simp at hp
 |q::r,h,p,hp=>by
  have h:_/\Zmg X scope r:=h;rcases List.mem_cons.mp hp with rfl|hmore
  ·exact h.1
  ·exact h.2.mem p hmore
def Zmh(X:Cx):List (Str×Addr)->Prop
 |[]=>True
 |p::r=>X.env.cells.lookup p.1=some p.2/\Zmh X r
theorem Zmh.get{X:Cx}:∀{cl:List (Str×Addr)},Zmh X cl->∀x c,cl.lookup x=some c->X.env.cells.lookup x=some c
 |[],_,x,c,e=>by simp at e
 |(n,a)::r,h,x,c,e=>by
  have h:X.env.cells.lookup n=some a/\Zmh X r:=h
  by_cases hx:x=n
  ·subst hx;simp only [List.lookup_cons,beq_self_eq_true] at e
   cases e;exact h.1
  ·have hb:(x==n)=false:=by simpa using hx
   simp only [List.lookup_cons,hb] at e
   exact h.2.get x c e
def ZeG(scope:Scope)(env:Env)(cl:List (Str×Addr)):Bool:=
 scope.kind==.function&&scope.names.all (fun y=>y.2 !=.cell)&&scope.names.all (fun y=>y.2 !=.local||scope.names.lookup y.1==some .local)&&
 (relabel scope env).names.all (fun y=> !Zmf (some y.2)||(cl.lookup y.1).isSome)
def Zl7:TT:=fun _ H Q=>Q true H
def PTs(X:Cx)(ifs:List Expr)(t:TT):Prop:=
 ∀(pins:List (Addr×Obj)) (s:Shared) (σ:L2.St) (H:Hp) (Q:Bool->Hp->Prop),Inv X pins σ H s->t σ H Q->
  wpAny (model X.prog X.w) X.A (forIn ifs true fun c r=>if r=true then do let ok<-isTrue c X.env (eval c X.env);pure (ForInStep.yield ok) else pure (ForInStep.yield r)) (TP X pins σ Q) X.xe s
theorem Zd2{X:Cx}:PTs X [] Zl7:=fun _ _ _ H _ I h=>wpAny_tests_nil ⟨H,I,h⟩
theorem ZaM{X:Cx}{c:Expr}{t:TT}(h:PT X c t):PTs X [c] t:=fun pins s σ H Q I q=>wpAny_tests_one (h pins s σ H Q I q)
theorem ZqE{prog:Program}{w:World}{A:Around}{R:Result->Shared->Prop}{s:Shared}{elt tg iter:Expr}{ifs:List Expr}{scope:Scope}{pos:Pos}{it acc:Value}{env:Env}(J:Nat->Shared->Prop)
  (turn:∀n s,J n s->∀E:Value->Shared->Prop,wpAny (model prog w) A (pyNext it) (fun r s₁=>(r=none/\R (.ok .next) s₁)\/∃v,r=some v/\
    wpAny (model prog w) A (letOwnedTupleGo tg it v) (fun _ s₂=>wpAny (model prog w) A (assign tg env v) (fun _ s₃=>
     wpAny (model prog w) A (forIn ifs true fun c r=>if r=true then do let ok<-isTrue c env (eval c env);pure (ForInStep.yield ok) else pure (ForInStep.yield r)) (fun ok s₄=>
      (ok=true/\wpAny (model prog w) A (eval elt env) (fun x s₅=>wpAny (model prog w) A (call (.builtin "list.append") [acc,x]) (fun _ s₆=>∃m,m<n/\J m s₆) E s₅) E s₄)\/
      (ok=false/\∃m,m<n/\J m s₄)) E s₃) E s₂) E s₁) E s)
  (n:Nat)(h:J n s):codeAny (model prog w) A (.compLoop (.ListComp elt [⟨tg,iter,ifs,0⟩] scope pos) 0 it acc env) R s:=by
 refine codeAny_loop rfl J (fun n s hJ=> ?_) n h;show wpAny _ A ((compTurn (.ListComp elt [⟨tg,iter,ifs,0⟩] scope pos) 0 it acc env).onRaise (fun x=>do noteFrame x env;theTreesLotGoes x)) _ _ s
 refine wpAny_noted ?_;rw[compTurn_list];refine wpAny_bind (wpAny_standAt (wpAny_bind (thn (turn n s hJ _) fun r s₁ h₁=> ?_)));rcases h₁ with ⟨rfl,h₁⟩|⟨v,rfl,h₁⟩
 ·exact wpAny_pure h₁
 ·refine wpAny_bind (thn h₁ fun _ s₂ h₂=>wpAny_bind (thn h₂ fun _ s₃ h₃=>wpAny_bind (thn h₃ fun ok s₄ h₄=> ?_)));rcases h₄ with ⟨rfl,h₄⟩|⟨rfl,h₄⟩
  ·exact wpAny_bind (wpAny_bind (thn h₄ fun x s₅ h₅=>wpAny_bind (thn h₅ fun _ s₆ h₆=>wpAny_pure (wpAny_pure ⟨rfl,h₆⟩))))
  ·exact wpAny_pure ⟨rfl,h₄⟩
def ZoW(J:It)(own:List Str)(fr:List (Str×Nat))(g:TG)(tc:TT)(te:TE)(σ:L2.St)(H1:Hp)(Q:VK):Prop:=∀D,H1 D=none->∃W:Nat->Nat->List V->Hp->Prop,(∃m,W 0 m [] (upd H1 D (.lst [])))/\
 ∀i m ys H2,W i m ys H2->H2 D=some (.lst ys)/\((J.stop i H2/\Q (.ref D) H2)\/(J.go i H2/\∃N:List V->Hp->Prop,(∀zs H',N zs H'->∃m',m'<m/\W (i+1) m' zs H')/\
  ∀x H',J.yld i H2 x H'->g x (frY own fr σ) H' fun σ3 H3=>Ext (frY own fr σ) σ3/\tc σ3 H3 fun b H4=>if b=true then te σ3 H4 fun v H5=>H5 D=some (.lst ys)/\ys.length<sizeLine/\N (ys++[v]) (upd H5 D (.lst (ys++[v]))) else N ys H4))
def ZoX(wi:TI)(own:List Str)(fr:List (Str×Nat))(g:TG)(tc:TT)(te:TE):TE:=fun σ H Q=>wi σ H fun J H1=>ZoW J own fr g tc te σ H1 Q
theorem Zjj{X:Cx}{elt tg iter:Expr}{ifs:List Expr}{scope:Scope}{pos ipos:Pos}{wi:TI}{g:TG}{tc:TT}{te:TE}{cl:List (Str×Addr)}(own:List Str)(fr:List (Str×Nat))(hc:X.calm=true)(hi:PI X tg iter wi)
  (hclos:closureFor scope X.env=pure cl)(hcl:Zmh X cl)(hok:ZeG scope X.env cl=true)(hfr:Zmg X scope fr)
  (hg:∀C s H fp,PG (Jt X (nmY own fr) scope cl C s H fp) tg g)(ht:∀C s H fp,PTs (Jt X (nmY own fr) scope cl C s H fp) ifs tc)(he:∀C s H fp,PE (Jt X (nmY own fr) scope cl C s H fp) elt te)
  (hs:∀x,foldedSetIterable iter X.env x=pure x){pins:List (Addr×Obj)}{s:Shared}{σ:L2.St}{H:Hp}{Q:VK}{use:Option (Value->Sem Unit)}{PQ:Value->Shared->Prop}(I:Inv X pins σ H s)(h:ZoX wi own fr g tc te σ H Q)
  (hend:∀(s6:Shared) (H5:Hp) (C D:Addr) (m:Str->Option Value),Inv X pins σ H5 s6->s6.heap.Ns C m->ZiK X pins H5 C->Q (.ref D) H5->compPost (model X.prog X.w) X.A X.xe use PQ (.ref D) C (.ok .next) s6):
  wpAny (model X.prog X.w) X.A (comprehension (.ListComp elt [⟨tg,iter,ifs,0⟩] scope pos) scope X.env ipos (newList []) false (eval iter X.env) use) PQ X.xe s:=by
 have ok1:scope.kind=.function:=by
  unfold ZeG at hok
  simp only [Bool.and_eq_true,beq_iff_eq] at hok
  exact hok.1.1.1
 have ok2:∀y∈scope.names,y.2≠.cell:=by
  unfold ZeG at hok
  simp only [Bool.and_eq_true,List.all_eq_true] at hok
  intro y hy
  simpa using hok.1.1.2 y hy
 have ok3:∀y∈scope.names,y.2=.local->scope.names.lookup y.1=some .local:=by
  unfold ZeG at hok
  simp only [Bool.and_eq_true,List.all_eq_true] at hok
  intro y hy e;have:=hok.1.2 y hy
  simpa [e] using this
 have ok4:∀x,(relabel scope X.env).names.lookup x=some .cell\/(relabel scope X.env).names.lookup x=some .free->∃c,cl.lookup x=some c:=by
  unfold ZeG at hok
  simp only [Bool.and_eq_true,List.all_eq_true] at hok
  intro x hx;have key:∀k,(relabel scope X.env).names.lookup x=some k->Zmf (some k)=true->∃c,cl.lookup x=some c:=fun k e hk=>by
   have:=hok.2 (x,k) (PySem.mem_of_lookup e);simp only [hk,Bool.not_true,Bool.false_or] at this
   exact Option.isSome_iff_exists.mp this
  rcases hx with e|e
  ·exact key _ e rfl
  ·exact key _ e rfl
 refine wpAny_comprehension_free (use:=use) rfl hs hclos ok1 ok3 ?_;refine thn (hi pins s σ H _ I h) fun v s1 h1=>thn h1 fun itv s2 h2=> ?_;obtain⟨it,fp,tn,J,H2,e,I2,T,st2,f2,hD⟩:=h2;subst e;have lt2:∀b∈fp,b<s2.heap.objs.size:=fun b hb=>by
  obtain⟨o,e,_⟩:=T.obj _ _ st2 b hb;exact Heap.lt_size e
 refine wpAny_newObj_type (wpAny_newFunctionEnv ok2 (by intro y hy;simp at hy) (fun h₁ hns₁ hsb₁=> ?_) ok1)
 obtain⟨W,⟨m0,w0⟩,turn⟩:=hD s2.heap.objs.size I2.fresh;have I3:Inv X pins σ (upd H2 s2.heap.objs.size (.lst [])) {s2 with heap:=s2.heap.push {cls:=.type "list",data:=.seq ([]:List Value).toArray}}:=I2.lnew (t':=s2.toks) .nil (Nat.zero_le _);have st3:=T.keep 0 _ (s2.heap.push {cls:=.type "list",data:=.seq ([]:List Value).toArray}) st2 fun b hb o e=>Heap.get?_push_of_some _ e;have f3:∀b∈fp,ZiK X pins (upd H2 s2.heap.objs.size (.lst [])) b:=fun b hb=>⟨by rw[Zv (Nat.ne_of_lt (lt2 b hb))];exact(f2 b hb).1,(f2 b hb).2⟩
 generalize hs3:({s2 with heap:=s2.heap.push {cls:=.type "list",data:=.seq ([]:List Value).toArray}}:Shared)=s3 at I3
 have es3:s3.heap=s2.heap.push {cls:=.type "list",data:=.seq ([]:List Value).toArray}:=by rw[<-hs3]
 have eg3:s3.gens=s2.gens:=by rw[<-hs3]
 have lt3:∀b∈fp,b<s3.heap.objs.size:=fun b hb=>by rw[es3,Heap.size_push];exact Nat.lt_succ_of_lt (lt2 b hb)
 rw[<-es3] at st3
 have hns:h₁.Ns s3.heap.objs.size (fun x=>([]:List (Str×Value)).reverse.lookup x):=by rw[es3];exact hns₁
 have k34:∀b o,s3.heap.get? b=some o->h₁.get? b=some o:=fun b o e=>by
  have hsb:=hsb₁.extBut b o;rw[es3] at e
  exact hsb (Nat.ne_of_lt (Heap.lt_size e)) (Heap.get?_push_of_some _ e)
 generalize hs4:({s3 with heap:=h₁,toks:=s3.toks+([]:List (Str×Value)).length}:Shared)=s4;have es4:s4.heap=h₁:=by rw[<-hs4]
 have st4:tn 0 s4.heap:=T.keep 0 _ _ st3 fun b hb o e=>by rw[es4];exact k34 b o e
 have IY:Inv (Jt X (nmY own fr) scope cl s3.heap.objs.size s3 (upd H2 s2.heap.objs.size (.lst [])) fp) [] (frY own fr σ) (upd H2 s2.heap.objs.size (.lst [])) s4:=by
  refine⟨⟨I3.ok.mod,ok1,I3.ok.glob,I3.ok.blt,Nat.le_refl _,fun x y c e1 e2=>I3.ok.inj x y c (hcl.get x c e1) (hcl.get y c e2),fun x hx=>ok4 x hx,(fun x c z=>nomatch z),I3.ok.hd,I3.ok.frames,.inl rfl,
   fun b hb=>⟨Nat.ne_of_lt (lt3 b hb),fun x c e=>(f3 b hb).2.2.2.2.1 x c (hcl.get x c e)⟩,I3.bs,Nat.le_trans I3.ok.bsz I3.sz,fun b o e hb=> ?_,fun b hb z=> ?_,I3.stack,I3.stkFree⟩,
   by rw[<-hs4];rfl,by rw[<-hs4];exact I3.bare,Un.kept (by rw[es4];exact k34),⟨_,by rw[es4];exact hns,fun i x v e1 e2 e3=> ?_⟩,fun x c e=> ?_,I3.hok.fresh (Nat.le_refl _),fun x c e=>I3.freeC x c (hcl.get x c e),fun p hp=>absurd hp (by simp[Jt]),by rw[es4];exact I3.hok.kept k34, ?_⟩
  ·rcases(f3 b hb).2.2.2.1 with z|z
   ·exact I3.ok.noex b o e z
   ·exact absurd (Nat.lt_of_lt_of_le (Heap.lt_size (I3.ok.bs b o e).1) z) (Nat.lt_irrefl _)
  ·rcases List.mem_cons.mp (I3.stkSub b z) with q|q
   ·exact(f3 b hb).2.1 q
   ·exact(f3 b hb).2.2.1 q
  ·have e1:(own++fr.map (·.1))[i]? =some x:=e1;have e2:(own.map (fun _=>(none:Option V))++fr.map fun p=>σ.getD p.2 none)[i]? =some (some v):=e2;have hi:own.length<=i:=by
    refine Nat.le_of_not_lt fun hlt=> ?_;rw[List.getElem?_append_left (by simpa using hlt),List.getElem?_map] at e2
    cases q:own[i]? with
    |none=>rw[q] at e2;cases e2
    |some a=>rw[q] at e2;cases e2
   rw[List.getElem?_append_right hi,List.getElem?_map] at e1
   rw[List.getElem?_append_right (by simpa using hi),List.getElem?_map,List.length_map] at e2
   cases q:fr[i-own.length]? with
   |none=>rw[q] at e1;cases e1
   |some p=>
    rw[q] at e1 e2
    obtain rfl:p.1=x:=Option.some.inj e1;have e2:σ.getD p.2 none=some v:=Option.some.inj e2;have e4:σ[p.2]? =some (some v):=by
     rw[List.getD_eq_getElem?_getD] at e2
     cases z:σ[p.2]? with
     |none=>rw[z] at e2;cases e2
     |some a=>
      rw[z] at e2
      have e2:a=some v:=e2;rw[e2]
    obtain⟨n1,n2,n3⟩:=hfr.mem p (List.mem_of_getElem? q);obtain⟨m,hn,hl⟩:=I3.loc;have vis:Vis X.env.scope p.1:=.inr (ZjV n2);obtain⟨u,r,l⟩:=hl p.2 p.1 v n1 e4 vis;refine⟨u,r, ?_⟩;rcases l with ⟨k,_⟩|⟨_,c,e,z⟩
    ·have k:X.env.scope.names.lookup p.1=some .local:=k;rw[k] at n2;cases n2
    ·obtain⟨c',e'⟩:=ok4 p.1 (ZjV n3);have e'':=hcl.get _ _ e';rw[e] at e''
     cases e'';obtain⟨o,ho,hd⟩:=z;exact .inr ⟨ZjV n3,c,e',o,by rw[es4];exact k34 c o ho,hd⟩
  ·obtain⟨v,o,ho,hd⟩:=I3.cell x c (hcl.get x c e);exact⟨v,o,by rw[es4];exact k34 c o ho,hd⟩
  ·simp[frY,nmY,Jt]
 have fY:∀{H':Hp} {s':Shared},(∀b∈fp,H' b=none)->∀b∈fp,ZiK (Jt X (nmY own fr) scope cl s3.heap.objs.size s3 (upd H2 s2.heap.objs.size (.lst [])) fp) [] H' b:=fun{H' _} hn b hb=>
  ⟨hn b hb,Nat.ne_of_lt (lt3 b hb),fun z=>by
   rcases List.mem_cons.mp (I3.stkSub b z) with q|q
   ·exact(f3 b hb).2.1 q
   ·exact(f3 b hb).2.2.1 q,.inl hb,fun x c e=>(f3 b hb).2.2.2.2.1 x c (hcl.get x c e),fun p hp=>absurd hp (by simp[Jt])⟩
 have loop:codeAny (model X.prog X.w) X.A (.compLoop (.ListComp elt [⟨tg,iter,ifs,0⟩] scope pos) 0 (.ref it) (.ref s2.heap.objs.size) (compEnvC scope cl s3.heap.objs.size X.env))
   (compPost (model X.prog X.w) X.A X.xe use PQ (.ref s2.heap.objs.size) s3.heap.objs.size) s4:=by
  refine ZqE (fun n s'=>∃i ys H',Inv (Jt X (nmY own fr) scope cl s3.heap.objs.size s3 (upd H2 s2.heap.objs.size (.lst [])) fp) [] (frY own fr σ) H' s'/\tn i s'.heap/\(∀b∈fp,H' b=none)/\W i n ys H') ?_ m0
   ⟨0,[],_,IY,st4,fun b hb=>(f3 b hb).1,w0⟩
  rintro n s5 ⟨i,ys,H5,I5,st5,fr5,w5⟩ E;obtain⟨d5,way⟩:=turn i n ys H5 w5;rcases way with ⟨stop,q⟩|⟨go,N,hN,step⟩
  ·refine thn (T.done (Jt X (nmY own fr) scope cl s3.heap.objs.size s3 (upd H2 s2.heap.objs.size (.lst [])) fp) rfl rfl rfl hc i [] s5 _ H5 E I5 (fY (s':=s5) fr5) st5 stop) fun r s6 ⟨hr,I6⟩=> .inl ⟨hr, ?_⟩;obtain⟨m,hn,_⟩:=I6.loc;have I7:Inv X pins σ H5 s6:=I3.call' (s':=s6) (ch:=fp) I6.os I6.base I6.hok I6.bare (fun b hb=>⟨(f3 b hb).2.2.2.1,(f3 b hb).2.1,(f3 b hb).2.2.2.2.1,(f3 b hb).2.2.2.2.2⟩);exact hend s6 H5 _ _ m I7 hn (I3.fpOk (Nat.le_refl _) I6.free) q
  ·refine thn (T.item (Jt X (nmY own fr) scope cl s3.heap.objs.size s3 (upd H2 s2.heap.objs.size (.lst [])) fp) rfl rfl rfl hc i [] s5 _ H5 E I5 (fY (s':=s5) fr5) st5 go) fun r s6 ⟨u,hr,h6⟩=> .inr ⟨u,hr, ?_⟩;refine thn h6 fun _ s7 ⟨x,H7,I7,r7,y7,st7,fr7⟩=> ?_;have I7':=I7.pinned (fY (s':=s7) fr7) (T.obj _ _ st7);refine up (thn (hg _ _ _ _ _ s7 _ H7 x u _ I7' r7 (step x H7 y7)) fun _ s8 ⟨σ8,H8,I8,x8,q8⟩=> ?_)
   refine up (thn (ht _ _ _ _ _ s8 σ8 H8 _ I8 q8) fun ok s9 ⟨H9,I9,q9⟩=> ?_);have again:∀{σ':L2.St} {H':Hp} {s':Shared} {zs:List V},Inv (Jt X (nmY own fr) scope cl s3.heap.objs.size s3 (upd H2 s2.heap.objs.size (.lst [])) fp) ([]++ZhB fp s7.heap) σ' H' s'->Ext (frY own fr σ) σ'->N zs H'->
     ∃m,m<n/\∃i ys H',Inv (Jt X (nmY own fr) scope cl s3.heap.objs.size s3 (upd H2 s2.heap.objs.size (.lst [])) fp) [] (frY own fr σ) H' s'/\tn i s'.heap/\(∀b∈fp,H' b=none)/\W i m ys H':=fun{σ' H' s' zs} I' x' n'=>by
    obtain⟨m',hm,w'⟩:=hN zs H' n';refine⟨m',hm,i+1,zs,H',I'.unpinned.weak x'.len fun j v e=>x'.get j v e,T.keep _ _ _ st7 fun b hb o e=>(I'.pin (b,o) (List.mem_append_right _ (List.mem_append_right _ (Zd0 hb e)))).1,fun b hb=> ?_,w'⟩;obtain⟨o,e,_⟩:=T.obj _ _ st7 b hb;exact(I'.pin (b,o) (List.mem_append_right _ (List.mem_append_right _ (Zd0 hb e)))).2.1
   cases ok with
   |false=>
    rw[if_neg Bool.false_ne_true] at q9
    exact .inr ⟨rfl,again I9 x8 q9⟩
   |true=>
    rw[if_pos rfl] at q9
    refine .inl ⟨rfl,up (thn (he _ _ _ _ _ s9 σ8 H9 _ I9 q9) fun y s10 ⟨v10,H10,I10,r10,d10,z10,n10⟩=> ?_)⟩;refine up (thn (Xa _ s10 σ8 H10 (.ref s2.heap.objs.size) [v10] _ [y] (fun _ H'=>N (ys++[v10]) H') I10 rfl (.cons r10 .nil) ⟨s2.heap.objs.size,ys,v10,rfl,rfl,d10,z10,n10⟩) fun _ s11 ⟨v11,H11,I11,_,n11⟩=> ?_);exact again I11 x8 n11
 have Zdz:codeAny (model X.prog X.w) X.A (.compStart (.ListComp elt [⟨tg,iter,ifs,0⟩] scope pos) 0 (.ref it) (.ref s2.heap.objs.size) (compEnvC scope cl s3.heap.objs.size X.env))
   (compPost (model X.prog X.w) X.A X.xe use PQ (.ref s2.heap.objs.size) s3.heap.objs.size) s4:=codeAny_compStart_list loop (T.self _ _ _ _ _ st4 loop)
 exact Zdz
theorem Jz{X:Cx}{elt tg iter:Expr}{ifs:List Expr}{scope:Scope}{pos:Pos}{wi:TI}{g:TG}{tc:TT}{te:TE}{cl:List (Str×Addr)}(own:List Str)(fr:List (Str×Nat))(hc:X.calm=true)(hi:PI X tg iter wi)
  (hclos:closureFor scope X.env=pure cl)(hcl:Zmh X cl)(hok:ZeG scope X.env cl=true)(hfr:Zmg X scope fr)
  (hg:∀C s H fp,PG (Jt X (nmY own fr) scope cl C s H fp) tg g)(ht:∀C s H fp,PTs (Jt X (nmY own fr) scope cl C s H fp) ifs tc)(he:∀C s H fp,PE (Jt X (nmY own fr) scope cl C s H fp) elt te)
  (hs:∀x,foldedSetIterable iter X.env x=pure x:=by intro _;rfl):PE X (.ListComp elt [⟨tg,iter,ifs,0⟩] scope pos) (ZoX wi own fr g tc te):=by
 intro pins s σ H Q I h;rw[eval_ListComp];refine Zjj (use:=none) own fr hc hi hclos hcl hok hfr hg ht he hs I h fun s6 H5 C D m I6 hn f q=>⟨m,hn,fun h' hs'=> ?_⟩
 exact⟨.ref D,H5,I6.turned (t':=s6.toks) (fun b o hb e=>(hs'.2 b hb).trans e) f.1 f.2.1 f.2.2.2.1 f.2.2.2.2.1 f.2.2.2.2.2,rfl,q⟩
theorem ZjW{X:Cx}{elt tg iter:Expr}{ifs:List Expr}{scope:Scope}{pos py spos:Pos}{y:Str}{i:Nat}{wi:TI}{g:TG}{tc:TT}{te:TE}{cl:List (Str×Addr)}(own:List Str)(fr:List (Str×Nat))(hN:X.N.Nodup)(hy:X.N[i]? =some y)(hx:Loc X.env.scope y)(hc:X.calm=true)(hi:PI X tg iter wi)
  (hclos:closureFor scope X.env=pure cl)(hcl:Zmh X cl)(hok:ZeG scope X.env cl=true)(hfr:Zmg X scope fr)
  (hg:∀C s H fp,PG (Jt X (nmY own fr) scope cl C s H fp) tg g)(ht:∀C s H fp,PTs (Jt X (nmY own fr) scope cl C s H fp) ifs tc)(he:∀C s H fp,PE (Jt X (nmY own fr) scope cl C s H fp) elt te)
  (hs:∀x,foldedSetIterable iter X.env x=pure x:=by intro _;rfl)(hsw:swapsWith (.ListComp elt [⟨tg,iter,ifs,0⟩] scope pos) (some (.Name y py)) spos.line X.env=pure true:=by rfl)
  (hf:X.fn y=true\/X.env.scope.names.lookup y=some .local:=by first|exact .inl rfl|exact .inr rfl|assumption):
  PS X (.Assign [.Name y py] (.ListComp elt [⟨tg,iter,ifs,0⟩] scope pos) spos) (ZsA (ZoX wi own fr g tc te) (ZoD i)):=by
 intro pins s σ H D' I h;rw[exec_Assign_Name_used y py _ spos hsw];refine wpAny_bind (wpAny_standAt (wpAny_bind (wpAny_bind ?_)));refine(thn (Zjj (use:=some (assign (.Name y py) X.env)) (PQ:=fun _ s'=>SP X pins D' .next s') own fr hc hi hclos hcl hok hfr hg ht he hs I h fun s6 H5 C D m I6 hn f q=> ?_) fun _ s' hq=>wpAny_pure (wpAny_pure hq));obtain⟨o,es,ep,ho,hrest⟩:=id hn;have I7:Inv X (pins++[(C,o)]) σ H5 s6:=I6.pins_of fun p hp=>by
  rcases List.mem_append.mp hp with old|z
  ·exact I6.pin p (List.mem_append_right _ old)
  ·have e:p=(C,o):=by simpa using z
   subst e;exact⟨ho,f.1,f.2.1,f.2.2.1,fun v z=>by rw[hrest.1] at z;cases z⟩
 refine thn (Yi (pos:=py) hN hy hx hf (pins++[(C,o)]) s6 σ H5 (.ref D) (.ref D) D'.nx I7 rfl q) fun _ s8 ⟨σ8,H8,I8,q8⟩=> ?_;have hC:=I8.pin (C,o) (List.mem_append_right _ (List.mem_append_right _ (by simp)));refine⟨m,hn.at' fun o' e=>by rw[ho] at e;cases e;exact hC.1,fun h' hs'=>⟨σ8,H8,I8.unpinned.turned (t':=s8.toks) (fun b o hb e=>(hs'.2 b hb).trans e) hC.2.1 f.2.1 f.2.2.2.1 f.2.2.2.2.1 f.2.2.2.2.2,q8⟩⟩
end L3
namespace L3
open PySem PySem.Spec PyProof.Rows L2
theorem Zd3:bootBuiltins "len"=some (.builtin "len"):=by decide+kernel
theorem Zmi:bootBuiltins "abs"=some (.builtin "abs"):=by decide+kernel
theorem Zmj:bootBuiltins "max"=some (.builtin "max"):=by decide+kernel
theorem ZoY:bootBuiltins "min"=some (.builtin "min"):=by decide+kernel
theorem Yd:bootBuiltins "isinstance"=some (.builtin "isinstance"):=by decide+kernel
theorem ZhK:bootBuiltins "int"=some (.type "int"):=by decide+kernel
theorem Zn8:bootBuiltins "list"=some (.type "list"):=by decide+kernel
theorem ZqF:bootBuiltins "dict"=some (.type "dict"):=by decide+kernel
theorem Zl8:bootBuiltins "reversed"=some (.type "reversed"):=by decide+kernel
structure Cal (P:Program) (w:World) (K:PySem.W.Frag) (mg:Str->Option Value) (base:Heap) (CX:CXT) (k:Nat) (x:Str) (ps:List Str) (sp:Sp):Prop where
 ex:∃(f:Addr) (fd:FuncData),mg x=some (.ref f)/\PySem.W.keepIn K (.ref f)=true/\Zdy K fd ps []/\Yy P w K mg base CX k f fd ps sp
section
variable {X:Cx} {CX:CXT} {k:Nat} {x:Str} {ps:List Str} {sp:Sp} {E:XK} {e:PySem.Expr} {es:List PySem.Expr} {t:TA} {p pos:Pos}
theorem Ym(c:Cal X.prog X.w X.K X.mg X.base CX k x ps sp)(hr:Za8 k X.A)(hg:Gl X x)(hx:ZaA CX X E)(ha:PA X (e::es) t)(hdb:(x==("__debug__":Str))=false:=by decide)
  (he:starEach (e::es) X.env=(false,eval e X.env)::starEach es X.env:=by rfl)(hpl:(backTo pos (starEach es X.env)).any (·.1)=false:=by rfl):PE X (.Call (.Name x p) (e::es) [] pos) (Zn5 sp [] E t):=by
 obtain⟨f,fd,hm,hk,hb,F⟩:=c.ex;exact Zqs F hr hg hm hk hb .nil hx ha hdb he hpl
theorem ZrL(c:Cal X.prog X.w X.K X.mg X.base CX k x ps sp)(hr:Za8 k X.A)(hg:Gl X x)(hx:ZaA CX X E)(hdb:(x==("__debug__":Str))=false:=by decide):PE X (.Call (.Name x p) [] [] pos) (Zn5 sp [] E Zm6):=by
 obtain⟨f,fd,hm,hk,hb,F⟩:=c.ex;exact ZoN F hr hg hm hk hb .nil hx hdb
end
theorem ZdB:∀{ns:List Int} {B:Nat},PySem.W.WData.weightAll (ns.map PySem.W.WData.int)<=B->∀i∈ns,Builtin.Int.intBits i<=B
 |[],_,_,i,hi=>by simp at hi
 |n::ns,B,h,i,hi=>by
  have h:PySem.W.WData.weight (.int n)+1+PySem.W.WData.weightAll (ns.map PySem.W.WData.int)<=B:=h;have e:PySem.W.WData.weight (.int n)=Builtin.Int.intBits n:=rfl;rw[e] at h
  rcases List.mem_cons.mp hi with rfl|hi
  ·omega
  ·exact ZdB (by omega) i hi
theorem ZqG{l:PySem.W.OpenLaw}{n:Nat}{q:Program}{loose:List Str}{XP:(Str->Option Value)->Heap->Prop}{YP:World->Heap->Prop}{d:DefRec}
  (hn:l.most=some n)(hdf:d.params.defaults=[])
  (call:∀(w:World) (s₀ s₁:Shared) (mg mb:Str->Option Value) (fa:Addr) (a:Addr) (vs:List Value) (ns:List Int),
   PySem.W.Ground q loose [] XP w s₀ mg mb s₁.heap->YP w s₁.heap->mg d.name=some (.ref fa)->
   s₁.heap.get? a=some {cls:=.type "list",data:=.seq vs.toArray}->IntsAre vs ns->ns.length<=n->(∀i∈ns,Builtin.Int.intBits i<=1048576)->s₁.gens= #[]->
   codeAny (model l.prog w) callerA (.call (.ref fa) ⟨[.ref a],[]⟩) (fun r s'=>r=.ok (.ret (.bool true))/\OldK s₁.heap s'.heap/\s'.os=s₁.os/\AllBare s'.gens) s₁):
  PySem.W.WalkO q loose XP YP l.row.toRowW d [] (fun f vs=>PySem.call f vs):=by
 intro w s₀ s₁ mg mb G Y fa o pm cd doc dV kV ho hdata hcode hD hmg hg args vals as hpre hlay hread hwl hlow;obtain rfl:dV=.none:=PySem.W.Dflts.none hD hdf;obtain rfl:kV=.none:=PySem.W.Dflts.noKw hD;obtain⟨a,vs,ns,rfl,rfl,hobj,hints,hlen⟩:=Att.script_of hn hpre hwl;have hb:∀i∈ns,Builtin.Int.intBits i<=1048576:=by
  have h1:PySem.W.WData.layableAll [PySem.W.WData.list (ns.map PySem.W.WData.int)]=true:=hlay;have h2:PySem.W.WData.layable (PySem.W.WData.list (ns.map PySem.W.WData.int))=true:=by simpa [PySem.W.WData.layableAll] using h1
  have h3:PySem.W.WData.weight (PySem.W.WData.list (ns.map PySem.W.WData.int))<=2^20:=by
   unfold PySem.W.WData.layable at h2
   rw[Bool.and_eq_true] at h2
   exact of_decide_eq_true h2.2
  exact ZdB (show PySem.W.WData.weightAll (ns.map PySem.W.WData.int)<=1048576 from h3)
 refine PySem.W.enter_call (codeAny_mono (call w s₀ s₁ mg mb fa a vs ns G Y hmg hobj hints hlen hb hg) fun r s' hq=> ?_);obtain⟨rfl,h2,h3,h4⟩:=hq;exact⟨.inl ⟨.bool true,.bool true,[],rfl,fun _=>rfl,.bool true,Att.post_true l _,fun _=>⟨List.Pairwise.nil,fun _ hm=>(nomatch hm)⟩⟩,h2,h3,h4⟩
def ZoZ(K:PySem.W.Frag):Sp:=fun vs H Q _=>∃(a:Addr) (ns:List Int),vs=[.ref a]/\SqL K H a (ns.map V.int)/\ns.length<=63/\(∀i∈ns,Builtin.Int.intBits i<=1048576)/\∀H',Q (.bl true) H'
theorem ZsU{l:PySem.W.OpenLaw}{k:Nat}{q:Program}{loose:List Str}{XP:(Str->Option Value)->Heap->Prop}{YP:World->Heap->Prop}{d:DefRec}{K:Params->PySem.W.Frag}{x:Str}
  (hn:l.most=some 63)(hdf:d.params.defaults=[])(hr:Za8 k callerA)(hY:∀(w:World) (h:Heap),YP w h->(K w.params).In h)
  (F:∀(w:World) (mg:Str->Option Value) (fa:Addr) (h:Heap),(K w.params).In h->h.Ns mainGlobals mg->mg d.name=some (.ref fa)->
   ∃fd:FuncData,(∀(s:Shared) (u:Value),BindsTo s fd ⟨[u],[]⟩ [(x,u)])/\∀base:Heap,(K w.params).In base->base.Ns mainGlobals mg->Yy l.prog w (K w.params) mg base CX0 k fa fd [x] (ZoZ (K w.params))):
  PySem.W.WalkO q loose XP YP l.row.toRowW d [] (fun f vs=>PySem.call f vs):=by
 refine ZqG hn hdf fun w s₀ s₁ mg mb fa a vs ns G Y hmg hobj hints hlen hb hg=> ?_;have KX:=hY w _ Y;obtain⟨fd,hbd,hF⟩:=F w mg fa _ KX G.T.g hmg;exact ZoV KX G.T.g G.T.b G.T.builtins G.T.nolimit hg hobj hints (Nat.le_trans hlen (by decide)) hr hF hbd (fun H hO hS=>⟨a,ns,rfl,hS,hlen,hb,fun _=>rfl⟩) fun H e s' z=>z
end L3
namespace L3
open PySem PySem.Spec PyProof.Rows L2 PySem.Builtin PySem.Builtin.Str
section
variable {X:Cx}
theorem Zfp:∀{ys:List Str} {us:List Value},Yr (ys.map V.str) us->StrsAre us ys
 |[],us,r=>by
  rw[List.map_nil] at r
  cases r;exact .nil
 |y::ys,us,r=>by
  rw[List.map_cons] at r
  cases r with
  |cons r1 r2=>
   obtain⟨t,e⟩:=r1;subst e;exact .cons y t (Zfp r2)
theorem ZnN:MtR X "str.join" (fun x vs H Q=>∃z p ys,x=.str z/\vs=[.ref p]/\SqL X.K H p (ys.map V.str)/\(ys.map (·.length)).sum+ys.length*z.length<=16777216/\Q (.str (Txt.join z ys)) H):=by
 intro pins s σ H x xs v us Q I rx r h;obtain⟨z,p,ys,rfl,rfl,hS,hk,q⟩:=h;obtain⟨t,rfl⟩:=rx;obtain⟨u,rfl,r2⟩:=ZcI r;cases r2;obtain⟨its,rv,pl,_⟩:=I.list hS;exact join_list pl.isList (by simpa using Zfp rv) hk fun t' k=>⟨.str _,H,I.tok _,⟨_,rfl⟩,q⟩
abbrev TF:=L2.St->Hp->(Str->Hp->Prop)->Prop
def PF1(X:Cx)(e:PySem.Expr)(t:TF):Prop:=
 ∀(pins:List (Addr×Obj)) (s:Shared) (σ:L2.St) (H:Hp) (Q:Str->Hp->Prop),Inv X pins σ H s->t σ H Q->wpAny (model X.prog X.w) X.A (eval e X.env) (fun u s'=>∃y tk H',u=.str y tk/\Inv X pins σ H' s'/\Q y H') X.xe s
def PFs(X:Cx)(es:List PySem.Expr)(t:Str->TF):Prop:=
 ∀(out:Str) (pins:List (Addr×Obj)) (s:Shared) (σ:L2.St) (H:Hp) (Q:Str->Hp->Prop),Inv X pins σ H s->t out σ H Q->wpAny (model X.prog X.w) X.A (joinParts out (evalEach es X.env)) (fun u s'=>∃y tk H',u=.str y tk/\Inv X pins σ H' s'/\Q y H') X.xe s
theorem ZhL{x:Str}{k:Nat}{pos:Pos}:PF1 X (.Constant (.str x) k pos) (fun _ H Q=>Q x H):=fun _ _ _ H _ I h=>Calls.Constant_str ⟨x,_,H,rfl,I.tok _,h⟩
theorem Zmk{e:PySem.Expr}{te:TE}{pos:Pos}(he:PE X e te):PF1 X (.FormattedValue e (-1) none pos) (fun σ H Q=>te σ H fun v H1=>∃y,v=.str y/\y.length<=sizeLine/\Q y H1):=by
 intro pins s σ H Q I h;refine FormattedValue_plain (thn (he pins s σ H _ I h) fun v s1 ⟨x,H1,I1,r1,q1⟩=> ?_);obtain⟨y,rfl,hy,q⟩:=q1;obtain⟨t,rfl⟩:=r1;exact formatField_str (fun t' tk=>⟨y,t',H1,rfl,I1.tok _,q⟩) hy
theorem Zml:PFs X [] (fun out _ H Q=>out.length<=sizeLine/\Q out H):=fun out _ s _ H _ I h=>joinParts_nil ⟨out,_,H,rfl,I.tok _,h.2⟩ h.1
theorem Zcb{e:PySem.Expr}{es:List PySem.Expr}{t1:TF}{t2:Str->TF}(h1:PF1 X e t1)(h2:PFs X es t2):PFs X (e::es) (fun out σ H Q=>t1 σ H fun y H1=>(out++y).length<=sizeLine/\t2 (out++y) σ H1 Q):=by
 intro out pins s σ H Q I h;show wpAny (model X.prog X.w) X.A (joinParts out (eval e X.env::evalEach es X.env)) _ X.xe s;refine joinParts_cons (thn (h1 pins s σ H _ I h) fun v s1 hv=> ?_);obtain⟨y,tk,H1,rfl,I1,hz,q⟩:=hv;exact⟨hz,h2 (out++y) pins s1 σ H1 Q I1 q⟩
theorem ZjX{v1 v2:PySem.Expr}{rest:List PySem.Expr}{pos:Pos}{t:Str->TF}(h:PFs X (v1::v2::rest) t):PE X (.JoinedStr (v1::v2::rest) pos) (fun σ H Q=>t Str.empty σ H fun y H1=>Q (.str y) H1):=by
 intro pins s σ H Q I q;refine JoinedStr_many (thn (h Str.empty pins s σ H _ I q) fun u s1 hu=> ?_);obtain⟨y,tk,H1,rfl,I1,q1⟩:=hu;exact⟨.str y,H1,I1,⟨tk,rfl⟩,q1⟩
end
end L3
namespace M1
open PySem.Builtin PySem.Builtin.Str PySem
def cs(x:Str):List Nat:=x.cps.toList
theorem ext{x y:Str}(h:cs x=cs y):x=y:=Str.ext' (Array.toList_inj.mp h)
theorem ZjY(x y:Str):cs (x++y)=cs x++cs y:=by
 show(x.cps++y.cps).toList=_;rw[Array.toList_append]
 rfl
theorem Zp0(c:Nat):cs ⟨#[c]⟩=[c]:=rfl
theorem Zg9(x:Str):x.length=(cs x).length:=by
 show x.cps.size=x.cps.toList.length;rw[Array.length_toList]
end M1
namespace M2
open PySem M1
end M2
namespace L3
open PySem PySem.Spec PyProof.Rows L2
theorem Zp1{k:Key}{u:Value}(h:Zhw k u=true):Yn (kV k) u:=by
 rcases Xx h with ⟨i,t,rfl,rfl⟩|⟨x,t,rfl,rfl⟩
 ·exact⟨t,rfl⟩
 ·exact⟨t,rfl⟩
theorem Zrk{kvs:List (Key×V)}{vs:List (Key×Value)}(r:KV kvs vs):∀{i:Nat} {p:Key×V},kvs[i]? =some p->∃u,vs[i]? =some (p.1,u)/\Yn p.2 u:=by
 induction r with
 |nil=>intro i p e;simp at e
 |cons h _ ih=>
  intro i p e;cases i with
  |zero=>
   obtain rfl:=Option.some.inj ((List.getElem?_cons_zero ..).symm.trans e);refine⟨_, ?_,h.2⟩;rw[List.getElem?_cons_zero,h.1]
  |succ i=>
   rw[List.getElem?_cons_succ] at e
   obtain⟨u,e1,e2⟩:=ih e;exact⟨u,by rw[List.getElem?_cons_succ];exact e1,e2⟩
section
variable {X:Cx} {pins:List (Addr×Obj)} {σ:L2.St} {H:Hp} {s:Shared} {a n:Addr} {p q:HO}
theorem Zl9(I:L2.Inv X pins σ H s)(h:H a=some p)(h1:∀xs,p≠.tup xs)(h2:∀x,p≠.own x)(h3:∀t,p≠.tbl t)(hf:∀o u,X.H₀ a≠some (.frz o u))(ok:XN X.prog X.w H s.heap a q):L2.Inv X pins σ (upd H a q) s:=by
 have nn:∀b,H b=none->b≠a:=fun b e z=>by subst z;rw[h] at e;cases e
 refine⟨I.ok,I.os,I.bare,⟨I.base.keep,I.base.slot,fun b o e n hx=> ?_,I.base.there,fun b xs e=> ?_,fun b o u e=> ?_,fun b ps e=> ?_⟩,I.loc,I.cell, ?_,fun x c e=> ?_,fun z hz=> ?_,fun b u e=> ?_,I.len⟩
 ·rw[Zv (nn b (I.base.free b o e n hx))];exact I.base.free b o e n hx
 ·have e2:=I.base.tups b xs e;rw[Zv (fun z=>by subst z;rw[h] at e2;exact h1 xs (Option.some.inj e2))]
  exact e2
 ·rw[Zv (fun z=>by subst z;exact hf o u e)]
  exact I.base.frzs b o u e
 ·obtain⟨m,e2⟩:=I.base.tbls b ps e;exact⟨m,by rw[Zv (fun z=>by subst z;rw[h] at e2;exact h3 _ (Option.some.inj e2))];exact e2⟩
 ·rw[Zv (nn _ I.free)];exact I.free
 ·rw[Zv (nn _ (I.freeC x c e))];exact I.freeC x c e
 ·obtain⟨z1,z2,z3⟩:=I.pin z hz;exact⟨z1,by rw[Zv (nn _ z2)];exact z2,z3⟩
 ·have ho:∀c x,H c=some (.own x)->upd H a q c=some (.own x):=fun c x ec=>by
   rw[Zv (fun z=>by subst z;rw[h] at ec;exact h2 x (Option.some.inj ec))]
   exact ec
  have ht:∀c xs,H c=some (.tup xs)->upd H a q c=some (.tup xs):=fun c xs ec=>by
   rw[Zv (fun z=>by subst z;rw[h] at ec;exact h1 xs (Option.some.inj ec))]
   exact ec
  by_cases hb:b=a
  ·subst hb;rw[Zc] at e
   cases e;exact ok.stay (fun _ _ _ z=>z) (fun c z=>ho c _ z) ht
  ·rw[Zv hb] at e
   exact(I.hok b u e).stay (fun _ _ _ z=>z) (fun c z=>ho c _ z) ht
theorem ZhM{kvs:List (Key×V)}(I:L2.Inv X pins σ H s)(h:H a=some (.dK kvs)):∃o,s.heap.get? a=some o/\L2.Inv X pins σ (upd H a (.frz o (.dK kvs))) s:=by
 obtain⟨z1,z2,vs,z3,o,es,ep,z4,z5⟩:=I.hok a _ h;refine⟨o,z4,Zl9 I h (fun _ e=>nomatch e) (fun _ e=>nomatch e) (fun _ e=>nomatch e) (fun o' u e=> ?_) ⟨z4,I.hok a _ h⟩⟩;have:=I.base.frzs a o' u e;rw[h] at this
 cases this
theorem Zp2{o:Obj}{u:HO}(I:L2.Inv X pins σ H s)(h:H a=some (.frz o u))(hf:∀o u,X.H₀ a≠some (.frz o u)):L2.Inv X pins σ (upd H a u) s:=
 Zl9 I h (fun _ e=>nomatch e) (fun _ e=>nomatch e) (fun _ e=>nomatch e) hf (I.hok a _ h).2
theorem ZnO(I:L2.Inv X pins σ H s)(f:ZiK X pins H n)(ok:XN X.prog X.w (upd H n q) s.heap n q):L2.Inv X pins σ (upd H n q) s:=by
 obtain⟨f0,f1,f2,f3,f4,f5⟩:=f;have ns:∀b u,H b=some u->b≠n:=fun b u e z=>by subst z;rw[f0] at e;cases e
 refine⟨I.ok,I.os,I.bare,⟨I.base.keep,I.base.slot,fun b o e m hx=> ?_,I.base.there,fun b xs e=> ?_,fun b o u e=> ?_,fun b ps e=> ?_⟩,I.loc,I.cell, ?_,fun x c e=> ?_,fun z hz=> ?_,fun b u e=> ?_,I.len⟩
 ·refine(Zv ?_).trans (I.base.free b o e m hx);rintro rfl;rcases f3 with z|z
  ·exact hx z
  ·exact absurd (Nat.lt_of_lt_of_le (Heap.lt_size e) z) (Nat.lt_irrefl _)
 ·have e2:=I.base.tups b xs e;rw[Zv (ns b _ e2)];exact e2
 ·have e2:=I.base.frzs b o u e;rw[Zv (ns b _ e2)];exact e2
 ·obtain⟨m,e2⟩:=I.base.tbls b ps e;exact⟨m,by rw[Zv (ns b _ e2)];exact e2⟩
 ·rw[Zv (Ne.symm f1)];exact I.free
 ·rw[Zv (f4 x c e)];exact I.freeC x c e
 ·obtain⟨z1,z2,z3⟩:=I.pin z hz;exact⟨z1,by rw[Zv (f5 z hz)];exact z2,z3⟩
 ·by_cases hb:b=n
  ·subst hb;rw[Zc] at e
   cases e;exact ok
  ·rw[Zv hb] at e
   exact(I.hok b u e).stay (fun _ _ _ z=>z) (fun c z=>by rw[Zv (ns c _ z)];exact z) fun c xs z=>by rw[Zv (ns c _ z)];exact z
end
theorem Zjk{P:Program}{w:World}{H:Hp}{h:Heap}{a:Addr}{o:Obj}{kvs:List (Key×V)}(ok:HOk P w H h)(e:H a=some (.frz o (.dK kvs))){es:Array DictEntry}{ep:Nat}(hd:o.data=.dict es ep):
  (a==sysModules)=false/\∃vs,KV kvs vs/\h.DictAt (Xo P w) a vs ep:=by
 obtain⟨ho,z1,z2,vs,z3,o',es',ep',z4,z5,z6,z7⟩:=ok a _ e;rw[ho] at z4
 cases z4;rw[hd] at z6
 cases z6;exact⟨z2,vs,z3,o,es,ho,z5,hd,z7⟩
def Itk(a:Addr)(o:Obj)(kvs:List (Key×V)):It:=
 ⟨fun i H=>H a=some (.frz o (.dK kvs))/\i<kvs.length,fun i H x H'=>H'=H/\∃kv,kvs[i]? =some kv/\x=kV kv.1,fun i H=>H a=some (.frz o (.dK kvs))/\kvs.length<=i⟩
def Iti(a:Addr)(o:Obj)(kvs:List (Key×V)):It:=
 ⟨fun i H=>H a=some (.frz o (.dK kvs))/\i<kvs.length,fun i H x H'=>∃kv p,kvs[i]? =some kv/\H p=none/\x=.ref p/\H'=upd H p (.tup [kV kv.1,kv.2]),fun i H=>H a=some (.frz o (.dK kvs))/\kvs.length<=i⟩
theorem ZnP{P:Program}{w:World}{K:PySem.W.Frag}{tg:PySem.Expr}(a it:Addr){o:Obj}{kvs:List (Key×V)}{es:Array DictEntry}{ep:Nat}(hd:o.data=.dict es ep)(n:Nat)(hn:n=kvs.length):
  ZnE P w K tg (Itk a o kvs) [it] it (fun i h=>h.IsKeyIter it a i n ep) where
 mem:=by simp
 obj:=fun i h st b hb=>by
  have e:b=it:=by simpa using hb
  subst e;obtain⟨o,e,c,d⟩:=st;exact⟨o,e,fun v z=>by rw[d] at z;cases z⟩
 keep:=fun i h h' st k=>st.at fun o e=>k it (by simp) o e
 item:=by
  intro X hP hw hK hc i pins s σ H E I hf st hg;subst hP hw hK;obtain⟨hz,hlt⟩:=hg;obtain⟨_,vs,rv,hm⟩:=Zjk I.hok hz hd;obtain⟨kv,hx⟩:∃kv,kvs[i]? =some kv:=⟨kvs[i],by simp[hlt]⟩
  obtain⟨u,hu,ru⟩:=Zrk rv hx;obtain⟨f0,f1,f2,f3,f4,f5⟩:=hf it (by simp);have el:n=vs.length:=by rw[hn];exact Paired.length rv
  rw[el] at st
  refine wpAny_pyNext_dict_item st hm hu fun key h' hk st' sb=> ?_;have I1:L2.Inv X pins σ H {s with heap:=h'}:=I.turned (t':=s.toks) (fun b o hb e=>(sb.2 b hb).trans e) f0 f1 f3 f4 f5;obtain⟨ob,e,c,d⟩:=id st';refine⟨key,rfl,Zn1 (s:={s with heap:=h'}) e c d (by decide) ⟨kV kv.1,H,I1,Zp1 hk,⟨rfl,kv,hx,rfl⟩, ?_,fun b hb=>(hf b hb).1⟩⟩;show h'.IsKeyIter it a (i+1) n ep;rw[el];exact st'
 done:=by
  intro X hP hw hK hc i pins s σ H E I hf st hg;subst hP hw hK;obtain⟨hz,hle⟩:=hg;obtain⟨_,vs,rv,hm⟩:=Zjk I.hok hz hd;have el:n=vs.length:=by rw[hn];exact Paired.length rv
  rw[el] at st
  obtain⟨f0,f1,f2,f3,f4,f5⟩:=hf it (by simp);exact wpAny_pyNext_dict_end (I.ok.hd hc) st hm (List.getElem?_eq_none (by omega)) fun h' eb=>⟨rfl,I.turned (t':=s.toks) (fun b o hb e=>eb b o hb e) f0 f1 f3 f4 f5⟩
 self:=fun _ _ _ _ _ st h=>wpAny_pyIter_keyiter st h
theorem Zmm{P:Program}{w:World}{K:PySem.W.Frag}{elts:List PySem.Expr}{x1:Nat}{pos:Pos}(a it:Addr){o:Obj}{kvs:List (Key×V)}{es:Array DictEntry}{ep:Nat}(hd:o.data=.dict es ep)(n:Nat)(hn:n=kvs.length):
  ZnE P w K (.Tuple elts x1 pos) (Iti a o kvs) [it] it (fun i h=>∃ok ov,IsItemIter h it a i n ep ok ov) where
 mem:=by simp
 obj:=fun i h st b hb=>by
  have e:b=it:=by simpa using hb
  subst e;obtain⟨ok,ov,e⟩:=st;exact⟨_,e,fun v z=>by cases z⟩
 keep:=fun i h h' ⟨ok,ov,e⟩ k=>⟨ok,ov,k it (by simp) _ e⟩
 item:=by
  intro X hP hw hK hc i pins s σ H E I hf st hg;subst hP hw hK;obtain⟨hz,hlt⟩:=hg;obtain⟨_,vs,rv,hm⟩:=Zjk I.hok hz hd;obtain⟨kv,hx⟩:∃kv,kvs[i]? =some kv:=⟨kvs[i],by simp[hlt]⟩
  obtain⟨u,hu,ru⟩:=Zrk rv hx;obtain⟨f0,f1,f2,f3,f4,f5⟩:=hf it (by simp);have el:n=vs.length:=by rw[hn];exact Paired.length rv
  rw[el] at st
  obtain⟨ok,ov,st⟩:=st;refine wpAny_pyNext_items_item st hm hu fun key h' hk st' nt sz kp=> ?_;refine⟨_,rfl,wpAny_letOwnedTupleGo_items (s:={s with heap:=h'}) st' fun h2 st2 sb2=> ?_⟩;have nit:s.heap.objs.size≠it:=fun z=>by
   exact absurd (Heap.lt_size st) (by rw[<-z];exact Nat.lt_irrefl _)
  have I1:L2.Inv X pins σ H {s with heap:=h2,toks:=s.toks}:=I.turned (t':=s.toks) (fun b o hb e=>(sb2.2 b hb).trans (kp b o hb e)) f0 f1 f3 f4 f5;have fn:=I.fpOk (H':=H) (Nat.le_refl _) (I.hok.fresh (Nat.le_refl _));have I2:=ZnO (q:=.tup [kV kv.1,kv.2]) I1 fn ⟨by show 2<=sizeLine;rw[sizeLine_eq];decide,[key,u],.cons (Zp1 hk) (.cons ru .nil),{cls:=.type "tuple",data:=.seq #[key,u]},(sb2.2 _ nit).trans nt,rfl,_,rfl⟩
  refine⟨.ref s.heap.objs.size,_,I2,rfl,⟨kv,_,hx,fn.1,rfl,rfl⟩,⟨key,u, ?_⟩,fun b hb=> ?_⟩
  ·show IsItemIter h2 it a (i+1) n ep key u;rw[el];exact st2
  ·have e:b=it:=by simpa using hb
   subst e;rw[Zv (Ne.symm nit)];exact f0
 done:=by
  intro X hP hw hK hc i pins s σ H E I hf st hg;subst hP hw hK;obtain⟨hz,hle⟩:=hg;obtain⟨_,vs,rv,hm⟩:=Zjk I.hok hz hd;have el:n=vs.length:=by rw[hn];exact Paired.length rv
  rw[el] at st
  obtain⟨ok,ov,st⟩:=st;obtain⟨f0,f1,f2,f3,f4,f5⟩:=hf it (by simp);exact wpAny_pyNext_items_end (I.ok.hd hc) st hm (List.getElem?_eq_none (by omega)) fun h' eb=>⟨rfl,I.turned (t':=s.toks) (fun b o hb e=>eb b o hb e) f0 f1 f3 f4 f5⟩
 self:=fun _ _ _ _ _ ⟨_,_,st⟩ h=>PySem.W.kcp_self st h
section
variable {X:Cx} {tg:PySem.Expr}
def ZsV(tl:TE):TI:=fun σ H R=>tl σ H fun x H1=>∃a kvs,x=.ref a/\H1 a=some (.dK kvs)/\∀o,R (Itk a o kvs) (upd H1 a (.frz o (.dK kvs)))
theorem ZqH{l:PySem.Expr}{tl:TE}(hl:PE X l tl):PI X tg l (ZsV tl):=by
 intro pins s σ H R I h;refine thn (hl pins s σ H _ I h) fun v s1 ⟨x,H1,I1,r1,q1⟩=> ?_;obtain⟨a,kvs,e,hq,q⟩:=q1;subst e;cases r1;obtain⟨o,ho,I2⟩:=ZhM I1 hq;obtain⟨z1,z2,vs0,z3,o',es,ep,z4,z5,z6,z7⟩:=I1.hok a _ hq;rw[ho] at z4
 cases z4;obtain⟨hs,vs,rv,hm⟩:=Zjk I2.hok Zc z6;have el:kvs.length=vs.length:=Paired.length rv;refine wpAny_pyIter_dict hs hm ?_;refine⟨s1.heap.objs.size,[s1.heap.objs.size],_,_,_,rfl,I2.kept (t':=s1.toks) fun b o e=>Heap.get?_push_of_some _ e,ZnP a _ z6 vs.length el.symm,⟨_,Heap.get?_push_size _ rfl,rfl,rfl⟩,fun b hb=> ?_,q o⟩;have e:b=s1.heap.objs.size:=by simpa using hb
 subst e;exact I2.fpOk (Nat.le_refl _) (I2.hok.fresh (Nat.le_refl _))
def XS(v a:Addr):HO:=.ext fun h=>h.IsItemsView v a
def ZrM(tl:TE):TE:=fun σ H Q=>tl σ H fun x H1=>∃a kvs,x=.ref a/\H1 a=some (.dK kvs)/\∀v,H1 v=none->Q (.ref v) (upd H1 v (XS v a))
theorem ZhN{o:PySem.Expr}{to:TE}{apos cpos:Pos}(ho:PE X o to)
  (hbase:attributeBase o "items" X.env (eval o X.env)=eval o X.env:=by rfl)(hline:(apos.endLine==cpos.line)=true:=by rfl):PE X (.Call (.Attribute o "items" apos) [] [] cpos) (ZrM to):=by
 intro pins s σ H Q I h;refine wpAny_Call_method0_late hbase hline (thn (ho pins s σ H _ I h) fun v s1 ⟨x,H1,I1,r1,a,kvs,e,ha,q1⟩=> ?_);subst e;cases r1;obtain⟨h1,h2⟩:=Zma (T:="dict") (x:=.ref a) I1 rfl (.inr (.inr (.inl ⟨rfl,.inl ⟨kvs,ha⟩⟩)));obtain⟨z1,z2,vs,z3,z4⟩:=I1.hok a _ ha;refine⟨"dict","dict.items",F.plainAttrs_dict,F.slot_dict_items,F.type_dict_items,h1,h2,Calls.callWith_builtin rfl (PySem.evalArgs_none ?_)⟩
 refine call_meetsIn F.slot_dict_items h1 F.entry_dict_items (F.args_dict_items_1 _) (meets_dict_items (Xo X.prog X.w) a z2) ⟨⟨vs,z4⟩, ?_⟩;refine⟨.ref _,_,I1.laid (a:=s1.heap.objs.size) (o:=XS s1.heap.objs.size a) (t':=s1.toks) (fun b q hq=>Heap.get?_push_of_some _ hq) (Nat.le_refl _) ?_,rfl,q1 _ I1.fresh⟩;refine⟨⟨_,Heap.get?_push_size _ rfl,rfl,rfl⟩,⟨_,Heap.get?_push_size _ rfl⟩,fun g1 g2 z k=> ?_⟩
 obtain⟨ob,e1,e2⟩:=z;exact⟨ob,k _ e1,e2⟩
def ZrN(tl:TE):TI:=fun σ H R=>tl σ H fun x H1=>∃v a kvs,x=.ref v/\H1 v=some (XS v a)/\H1 a=some (.dK kvs)/\∀o,R (Iti a o kvs) (upd H1 a (.frz o (.dK kvs)))
theorem ZhO{l:PySem.Expr}{tl:TE}{elts:List PySem.Expr}{x1:Nat}{pos:Pos}(hl:PE X l tl):PI X (.Tuple elts x1 pos) l (ZrN tl):=by
 intro pins s σ H R I h;refine thn (hl pins s σ H _ I h) fun v s1 ⟨x,H1,I1,r1,q1⟩=> ?_;obtain⟨v,a,kvs,e,hv,hq,q⟩:=q1;subst e;cases r1;have vw:s1.heap.IsItemsView v a:=(I1.hok v _ hv).1;obtain⟨o,ho,I2⟩:=ZhM I1 hq;obtain⟨z1,z2,vs0,z3,o',es,ep,z4,z5,z6,z7⟩:=I1.hok a _ hq;rw[ho] at z4
 cases z4;obtain⟨hs,vs,rv,hm⟩:=Zjk I2.hok Zc z6;have el:kvs.length=vs.length:=Paired.length rv;refine wpAny_pyIter_items vw hm ?_;refine⟨s1.heap.objs.size,[s1.heap.objs.size],_,_,_,rfl,I2.kept (t':=s1.toks) fun b o e=>Heap.get?_push_of_some _ e,Zmm a _ z6 vs.length el.symm,⟨_,_,Heap.get?_push_size _ rfl⟩,fun b hb=> ?_,q o⟩;have e:b=s1.heap.objs.size:=by simpa using hb
 subst e;exact I2.fpOk (Nat.le_refl _) (I2.hok.fresh (Nat.le_refl _))
def ZrO(H₀:Hp)(a:Addr)(H H':Hp):Prop:=(∀o u,H₀ a≠some (.frz o u))/\∃o u,H a=some (.frz o u)/\H'=upd H a u
end
end L3
namespace L3
open PySem PySem.Spec PyProof.Rows L2
theorem Zla{A B:Hp->Prop}{σ:L2.St}{H:Hp}(h:A H):Zl7 σ H (fun b H5=>if b=true then A H5 else B H5):=by
 unfold Zl7;exact Jq h
structure ZsW (n:Nat) (Pv:Nat->List V->Hp->Prop) (D:Addr) (J:It) (own:List Str) (fr:List (Str×Nat)) (g:TG) (tc:TT) (te:TE) (σ:L2.St) (H:Hp) (Q:VK):Prop where
 hn:n<=sizeLine
 h0:Pv 0 [] (upd H D (.lst []))
 hlen:∀i ys H2,Pv i ys H2->ys.length<=i
 st:∀i ys zs H2 H3,H2 D=some (.lst zs)->(∀b u,b≠D->H2 b=some u->H3 b=some u)->Pv i ys H2->Pv i ys H3
 hgo:∀i ys H2,Pv i ys H2->i<n->J.go i H2
 hstop:∀ys H2,Pv n ys H2->H2 D=some (.lst ys)->J.stop n H2/\Q (.ref D) H2
 hstep:∀i x ys H2 H3,Pv i ys H2->H2 D=some (.lst ys)->i<n->J.yld i H2 x H3->∀(RT:V->Hp->Prop) (RF:Hp->Prop),(∀v H6,H6 D=some (.lst ys)->Pv (i+1) (ys++[v]) H6->RT v H6)->(∀H5,H5 D=some (.lst ys)->Pv (i+1) ys H5->RF H5)->
   g x (frY own fr σ) H3 fun σ3 H4=>Ext (frY own fr σ) σ3/\tc σ3 H4 fun b H5=>if b=true then te σ3 H5 RT else RF H5
theorem Zfq{J:It}{own:List Str}{fr:List (Str×Nat)}{g:TG}{tc:TT}{te:TE}{σ:L2.St}{H:Hp}{Q:VK}(h:∀D,H D=none->∃n Pv,ZsW n Pv D J own fr g tc te σ H Q):ZoW J own fr g tc te σ H Q:=by
 intro D hD;obtain⟨n,Pv,hn,h0,hlen,st,hgo,hstop,hstep⟩:=h D hD;refine⟨fun i m ys H2=>m=n-i/\i<=n/\H2 D=some (.lst ys)/\Pv i ys H2,⟨n,by simp,Nat.zero_le _,Zc,h0⟩, ?_⟩;rintro i m ys H2 ⟨rfl,hi,d2,p2⟩;refine⟨d2, ?_⟩
 by_cases hlt:i<n
 ·refine .inr ⟨hgo i ys H2 p2 hlt,fun zs H'=>H' D=some (.lst zs)/\Pv (i+1) zs H',fun zs H' ⟨e1,e2⟩=>⟨n-(i+1),by omega,rfl,hlt,e1,e2⟩,fun x H' y=> ?_⟩;have l2:=hlen i ys H2 p2;exact hstep i x ys H2 H' p2 d2 hlt y _ _ (fun v H6 e6 p6=>⟨e6,by omega,Zc,st _ _ _ _ _ e6 (fun b u nb e=>by rw[Zv nb];exact e) p6⟩) fun H5 e5 p5=>⟨e5,p5⟩
 ·have e:i=n:=by omega
  subst e;exact .inl (hstop ys H2 p2 d2)
theorem Jk{J:It}{own:List Str}{fr:List (Str×Nat)}{g:TG}{tc:TT}{te:TE}{σ:L2.St}{H:Hp}{Q:VK}(n:Nat)(out:Nat->List V)(hn:n<=sizeLine)(ho:∀i,(out i).length<=1)
  (hgo:∀i H2,ZS H H2->i<n->J.go i H2)(hstop:∀H2,ZS H H2->J.stop n H2)
  (hstep:∀i x H2 H3,ZS H H2->i<n->J.yld i H2 x H3->∀(RT:V->Hp->Prop) (RF:Hp->Prop),(∀v H6,out i=[v]->ZS H2 H6->RT v H6)->(∀H5,out i=[]->ZS H2 H5->RF H5)->
   g x (frY own fr σ) H3 fun σ3 H4=>Ext (frY own fr σ) σ3/\tc σ3 H4 fun b H5=>if b=true then te σ3 H5 RT else RF H5)
  (q:∀D H2,H D=none->ZS H H2->H2 D=some (.lst ((List.range n).flatMap out))->Q (.ref D) H2):ZoW J own fr g tc te σ H Q:=by
 have len:∀i,((List.range i).flatMap out).length<=i:=by
  intro i
  induction i with
  |zero=>simp
  |succ i ih=>
   have h1:=ho i;rw[List.range_succ,List.flatMap_append,List.length_append];simp only [List.flatMap_cons,List.flatMap_nil,List.append_nil];omega
 have nxt:∀i,(List.range (i+1)).flatMap out=(List.range i).flatMap out++out i:=fun i=>by
  rw[List.range_succ,List.flatMap_append];simp
 refine Zfq fun D hD=>⟨n,fun i ys H2=>ys=(List.range i).flatMap out/\ZS H H2,hn,⟨rfl,fun b u e=>by rw[Zv (Zn e hD)];exact e⟩,fun i ys H2 p=>by rw[p.1];exact len i,fun i ys zs H2 H3 _ k p=>⟨p.1,fun b u e=>k b u (Zn e hD) (p.2 b u e)⟩,
  fun i ys H2 p lt=>hgo i H2 p.2 lt,fun ys H2 p d=>⟨hstop H2 p.2,q D H2 hD p.2 (by rw[<-p.1];exact d)⟩,fun i x ys H2 H3 p d lt y RT RF rt rf=> ?_⟩
 exact hstep i x H2 H3 p.2 lt y RT RF (fun v H6 e s=>rt v H6 (s _ _ d) ⟨by rw[nxt,e,p.1],p.2.trans s⟩) fun H5 e s=>rf H5 (s _ _ d) ⟨by rw[nxt,e,List.append_nil,p.1],p.2.trans s⟩
theorem JG{α β:Type}(f:α->β):∀l:List α,l.flatMap (fun a=>[f a])=l.map f
 |[]=>rfl
 |a::l=>by rw[List.flatMap_cons,List.map_cons,JG f l];rfl
theorem Zeg{α β:Type}(xs:List α)(f:α->β)(d:β):(List.range xs.length).map (fun i=>((xs[i]?).map f).getD d)=xs.map f:=by
 apply List.ext_getElem
 ·simp
 ·intro i h1 h2;have h3:i<xs.length:=by simpa using h1
  simp[h3]
theorem JH{α β:Type}(f:α->List β):∀xs:List α,(List.range xs.length).flatMap (fun i=>((xs[i]?).map f).getD [])=xs.flatMap f
 |[]=>rfl
 |x::xs=>by
  rw[List.length_cons,List.range_succ_eq_map,List.flatMap_cons,List.flatMap_map,List.flatMap_cons,<-JH f xs]
  rfl
theorem Zp3{J:It}{n:Nat}{g:TG}{tb:TS}{D:Zfg}{σ:L2.St}{H:Hp}(Pv:Nat->L2.St->Hp->Prop)(h0:Pv 0 σ H)(hgo:∀i σ H,i<n->Pv i σ H->J.go i H)(hstop:∀σ H,Pv n σ H->J.stop n H/\D.nx σ H)
  (hs:∀i x σ H H',i<n->Pv i σ H->J.yld i H x H'->g x σ H' fun σ2 H2=>tb {D with nx:=Pv (i+1),ct:=Pv (i+1),bk:=D.nx} σ2 H2):
  ∃W:Nat->Nat->L2.St->Hp->Prop,(∃m,W 0 m σ H)/\∀i m σ H,W i m σ H->
   (J.stop i H/\D.nx σ H)\/(J.go i H/\∃N:L2.St->Hp->Prop,(∀σ' H',N σ' H'->∃m',m'<m/\W (i+1) m' σ' H')/\∀x H',J.yld i H x H'->g x σ H' fun σ2 H2=>tb {D with nx:=N,ct:=N,bk:=D.nx} σ2 H2):=by
 refine⟨fun i m σ H=>m=n-i/\i<=n/\Pv i σ H,⟨n,by simp,Nat.zero_le _,h0⟩, ?_⟩;rintro i m σ H ⟨rfl,hi,p⟩
 by_cases hlt:i<n
 ·exact .inr ⟨hgo i σ H hlt p,Pv (i+1),fun σ' H' p'=>⟨n-(i+1),by omega,rfl,hlt,p'⟩,fun x H' y=>hs i x σ H H' hlt p y⟩
 ·have e:i=n:=by omega
  subst e;exact .inl (hstop σ H p)
theorem Zp4:bootBuiltins "any"=some (.builtin "any"):=by decide+kernel
theorem Zeh:bootBuiltins "sorted"=some (.builtin "sorted"):=by decide+kernel
theorem Zp5:bootBuiltins "tuple"=some (.type "tuple"):=by decide+kernel
section
variable {X:Cx} {pins:List (Addr×Obj)} {σ:L2.St} {H:Hp} {s:Shared}
theorem ZrP{h:Heap}{L:Addr}{m m':Str->Option Value}(a:h.Ns L m)(b:h.Ns L m'):m=m':=by
 obtain⟨o,es,ep,e1,e2,_,e3⟩:=a;obtain⟨o',es',ep',f1,f2,_,f3⟩:=b;rw[e1] at f1
 cases f1;rw[e2] at f2
 cases f2;exact funext fun x=>(e3 x).symm.trans (f3 x)
theorem Zmn{m:Str->Option Value}{g:Heap}{tk:Nat}{more:List (Addr×Obj)}(I:L2.Inv X pins σ H s)(hm:s.heap.Ns X.env.locals m)(F:Fr X.base X.env.locals g m)(N:News X.base X.env.locals g (more++Zhf X.base s.heap X.env.locals)):L2.Inv X pins σ H {s with heap:=g,toks:=tk}:=by
 have kp:∀b o,b≠X.env.locals->s.heap.get? b=some o->g.get? b=some o:=fun b o nb e=>by
  cases hb:X.base.get? b with
  |some o'=>
   have e2:=I.bk b o' hb;rw[e] at e2
   cases e2;exact F.keep b o hb
  |none=>exact(N (b,o) (List.mem_append_right _ (ZgL nb hb e))).1
 have nt:∀b u,H b=some u->b≠X.env.locals:=fun b u e z=>by rw[z,I.free] at e;cases e
 refine I.step (g':=s.gens) (d':=s.drawn) (ch:=[]) (fun _ z=>nomatch z) (fun b o nb _ _ e _=>kp b o nb e) (fun b o nb _ _ e _=>⟨o.slots,kp b o nb e⟩) (fun _ _ _ _ n=>n) (fun b o _ e=> ?_) (fun _ _ e=>e) (fun _ _ _ e=>e) (fun _ ps e=>⟨#[],by rw[e];simp⟩)
  (fun m' hm'=>by rw[ZrP hm' hm];exact F.ns) (fun b u e=>(I.hok b u e).stay (fun c v hc z=>kp c v ?_ z) (fun _ z=>z) fun _ _ z=>z) I.bare
 ·by_cases nb:b=X.env.locals
  ·obtain⟨o',_,_,e',_⟩:=F.ns;exact⟨o',by rw[nb];exact e'⟩
  ·exact⟨o,kp b o nb e⟩
 ·rcases hc with rfl|hc
  ·exact nt _ _ e
  ·exact nt _ _ hc
end
section
variable {X:Cx}
theorem ZhP(hc:X.calm=true):Zbm X (.builtin "any") (fun xs H Q=>∃(p:Addr) (bs:List Bool),xs=[.ref p]/\SqL X.K H p (bs.map V.bl)/\Q (.bl (bs.any id)) H):=by
 intro pins s σ H xs us Q I r h;obtain⟨p,bs,rfl,hq,q⟩:=h;obtain⟨u,rfl,rx⟩:=ZcI r;cases rx;obtain⟨its,r',pl,hz⟩:=I.list hq;have hb:=ZhJ r';have hlt:p<s.heap.objs.size:=pl.lt;refine call_any_walk (wpAny_pyIter_list pl.isList ?_);refine⟨s.heap.objs.size,[s.heap.objs.size,p],[s.heap.objs.size],its.toArray.size,_,_,fun i=>(bs[i]?).getD false,rfl,Walks.list (A:=X.A.in1) (I.ok.hd hc) _ p (Nat.ne_of_lt hlt) its.toArray,
  ⟨⟨_,Heap.get?_push_size _ rfl,rfl,rfl⟩,pl.isList.push _⟩,fun i v s' Q' E' hP hQ=> ?_,fun h' tk hk=> ?_⟩
 ·obtain⟨bit,ebit,rfl⟩:=hb.get i v (by simpa using hP);simp only [ebit,Option.getD_some] at hQ
  exact wpAny_truthy_bool hQ
 ·have e:((List.range its.toArray.size).any fun i=>(bs[i]?).getD false)=bs.any id:=by
   rw[List.size_toArray,hb.length];exact LSm.range_any bs
  rw[e];exact⟨.bl (bs.any id),H,I.kept (LSm.kept_iter hk),rfl,q⟩
theorem ZjZ:Zbm X (.type "dict") (fun xs H Q=>∃a kvs,xs=[.ref a]/\Rd H a (.dK kvs)/\∀p,H p=none->Q (.ref p) (upd H p (.dK kvs))):=by
 intro pins s σ H xs us Q I r h;obtain⟨a,kvs,rfl,hq,q⟩:=h;obtain⟨u,rfl,rx⟩:=ZcI r;cases rx;exact ZoU I hq fun p s' hp I'=>⟨.ref p,_,I',rfl,q p hp⟩
theorem Zk0{prog:Program}{w:World}{A:Around}{E:Value->Shared->Prop}{s:Shared}{a:Addr}{vs:List Value}{ss:List Str}{n:Nat}{Q:Value->Shared->Prop}(ho:s.heap.get? a=some (seqObj "list" vs.toArray n))(hS:StrsAre vs ss)(h64:vs.length<64)
  (h:∀(out:Array Value) (ss':List Str),StrsAre out.toList ss'->ss'.Perm ss->sortedS ss'=true->Q .none {s with heap:=sortedHeap s.heap a vs out}):
  wpAny (model prog w) A (call (.builtin "list.sort") [.ref a]) Q E s:=by
 refine wpAny_call_entry slot_list_sort ⟨_,ho,rfl⟩ entry_list_sort (list_sort_treeK strKind_oneLt ho hS.keysOf (fun v₁ v₂ rest e=>keyKind_strs (by rw[<-e];exact hS)) h64 fun st' hp hs=>⟨_,rfl, ?_⟩) (args_list_sort _)
 obtain⟨to,z⟩:=sorted_out_str hS hp hs;exact h _ to z.1 z.2.1 z.2.2
theorem Zfr:∀{us:List Value} {ys:List Str},StrsAre us ys->Yr (ys.map V.str) us
 |_,_,.nil=> .nil
 |_,_,.cons y t r=> .cons ⟨t,rfl⟩ (Zfr r)
end
def ZhQ(a:Addr)(kvs:List (Key×V))(H H2:Hp):Prop:=(∀b u,b≠a->H b=some u->H2 b=some u)/\∃o,H2 a=some (.frz o (.dK kvs))
theorem ZhQ.of{a:Addr}{kvs:List (Key×V)}{H H2:Hp}{o:Obj}(s:ZS (upd H a (.frz o (.dK kvs))) H2):ZhQ a kvs H H2:=⟨fun b u n e=>s b u (by rw[Zv n];exact e),o,s _ _ Zc⟩
theorem ZhQ.thaw{H₀:Hp}{a:Addr}{kvs:List (Key×V)}{H H2:Hp}(f:ZhQ a kvs H H2)(ha:H a=some (.dK kvs))(hf:∀o u,H₀ a≠some (.frz o u)):ZrO H₀ a H2 (upd H2 a (.dK kvs))/\ZS H (upd H2 a (.dK kvs)):=by
 obtain⟨o,e⟩:=f.2;refine⟨⟨hf,o,_,e,rfl⟩,fun b u h=> ?_⟩
 by_cases hb:b=a
 ·subst hb;rw[ha] at h
  cases h;exact Zc
 ·rw[Zv hb];exact f.1 b u hb h
end L3
namespace L3
open PySem PySem.Spec PyProof.Rows L2
def EqP(P:Program)(w:World)(A:Around)(s:Shared)(y x:Value)(k:Bool):Prop:=∀(E:Value->Shared->Prop) (Q:Bool->Shared->Prop),Q k s->wpAny (model P w) A (eqBool y x) Q E s
def RcP(P:Program)(w:World)(A:Around)(s:Shared)(op:CmpOp)(y x:Value)(k:Bool):Prop:=∀(E:Value->Shared->Prop) (Q:Value->Shared->Prop),Q (.bool k) s->wpAny (model P w) A (richCompare op y x) Q E s
theorem EqP.refs{P:Program}{w:World}{A:Around}{s:Shared}{l b:Addr}{k:Bool}(n:l≠b)(h:RcP P w A s .Eq (.ref l) (.ref b) k):EqP P w A s (.ref l) (.ref b) k:=by
 intro E Q q;unfold eqBool;refine wpAny_holding (wpAny_ite_split (fun z=>absurd (Value.ref.inj (eq_of_beq z)) n) fun _=>wpAny_bind ?_);exact h E _ (wpAny_truthy_bool q)
abbrev Zlb(d:Option Addr)(t:Array Value)(n:Nat)(sl:Array (Option Value)):Obj:={cls:=.type "list",dict:=d,data:=.seq t n,slots:=sl}
abbrev Zlc(d:Option Addr)(t:Array Value)(n:Nat)(sl:Array (Option Value)):Obj:={cls:=.type "tuple",dict:=d,data:=.seq t n,slots:=sl}
section
variable {P:Program} {w:World} (l b:Addr) (xs ys:Array Value) (n m:Nat) (d1 d2:Option Addr) (s1 s2:Array (Option Value)) (e:Nat->Bool)
theorem Zp6(hz:xs.size=ys.size)(c:Int)(hc:c=2\/c=3)(k:Nat):∀i:Nat,xs.size-i=k->MeetsIn P w (Builtin.«list.__eq__.loop» ⟨[.ref l,.ref b,rawInt i,rawInt c],[]⟩)
  (fun A R s=>s.heap.get? l=some (Zlb d1 xs n s1)/\s.heap.get? b=some (Zlb d2 ys m s2)/\(∀j (h1:j<xs.size) (h2:j<ys.size),EqP P w A.in1 s xs[j] ys[j] (e j))/\
   R (.ok (.ret (.bool (if c=2 then((List.range xs.size).drop i).all e else !((List.range xs.size).drop i).all e)))) s):=by
 induction k with
 |zero=>
  intro i hk A R s h;obtain⟨hq,gs,dr,tk,oss⟩:=s;obtain⟨u1,u2,ue,q⟩:=h;have v1:xs[((i:Nat):Int).toNat]? =none:=by simp;omega
  have v2:ys[((i:Nat):Int).toNat]? =none:=by simp;omega
  have v3:(List.range xs.size).drop i=[]:=by simp;omega
  rw[v3] at q
  rcases hc with rfl|rfl
  ·wp_walk using AutoSeq1.wpAny_loadPart' u1,AutoSeq1.wpAny_loadPart' u2
   rw[v1,v2]
   wp_walk using AutoSeq1.wpAny_loadPart' u1,AutoSeq1.wpAny_loadPart' u2
   show R (.ok (.ret (.bool (xs.size==ys.size)))) _;rw[hz,beq_self_eq_true];exact q
  ·wp_walk using AutoSeq1.wpAny_loadPart' u1,AutoSeq1.wpAny_loadPart' u2
   rw[v1,v2]
   wp_walk using AutoSeq1.wpAny_loadPart' u1,AutoSeq1.wpAny_loadPart' u2
   show R (.ok (.ret (.bool (xs.size !=ys.size)))) _;rw[hz,bne_self_eq_false];exact q
 |succ k ih=>
  intro i hk A R s h;obtain⟨hq,gs,dr,tk,oss⟩:=s;obtain⟨u1,u2,ue,q⟩:=h;have t1:i<xs.size:=by omega
  have t2:i<ys.size:=by omega
  have v1:xs[((i:Nat):Int).toNat]? =some xs[i]:=by simp[t1]
  have v2:ys[((i:Nat):Int).toNat]? =some ys[i]:=by simp[t2]
  have v3:(List.range xs.size).drop i=i::(List.range xs.size).drop (i+1):=by simp[List.drop_eq_getElem_cons,t1]
  have v4:((i:Int)+1)=((i+1:Nat):Int):=by push_cast;rfl
  rw[v3,List.all_cons] at q
  rcases hc with rfl|rfl
  ·wp_walk using AutoSeq1.wpAny_loadPart' u1,AutoSeq1.wpAny_loadPart' u2
   rw[v1,v2];refine wpAny_bind (ue i t1 t2 _ _ ?_);cases ei:e i with
   |true=>
    rw[ei,Bool.true_and] at q
    wp_walk
    rw[v4];refine⟨plainId_quiet MeetsSeq3.plain_eq_loop _,codeAny_builtin MeetsSeq3.entry_eq_loop ?_⟩;rw[Around.under_plainId MeetsSeq3.plain_eq_loop _];exact ih (i+1) (by omega) A R _ ⟨u1,u2,ue,q⟩
   |false=>
    rw[ei,Bool.false_and] at q
    wp_walk using AutoSeq1.wpAny_loadPart' u1,AutoSeq1.wpAny_loadPart' u2
    rw[v1,v2]
    wp_walk
    exact q
  ·wp_walk using AutoSeq1.wpAny_loadPart' u1,AutoSeq1.wpAny_loadPart' u2
   rw[v1,v2];refine wpAny_bind (ue i t1 t2 _ _ ?_);cases ei:e i with
   |true=>
    rw[ei,Bool.true_and] at q
    wp_walk
    rw[v4];refine⟨plainId_quiet MeetsSeq3.plain_eq_loop _,codeAny_builtin MeetsSeq3.entry_eq_loop ?_⟩;rw[Around.under_plainId MeetsSeq3.plain_eq_loop _];exact ih (i+1) (by omega) A R _ ⟨u1,u2,ue,q⟩
   |false=>
    rw[ei,Bool.false_and] at q
    wp_walk using AutoSeq1.wpAny_loadPart' u1,AutoSeq1.wpAny_loadPart' u2
    rw[v1,v2]
    wp_walk
    exact q
theorem ZrQ(hz:xs.size=ys.size):MeetsIn P w (Builtin.«list.__eq__» ⟨[.ref l,.ref b],[]⟩) (fun A R s=>s.heap.get? l=some (Zlb d1 xs n s1)/\s.heap.get? b=some (Zlb d2 ys m s2)/\
  (∀j (h1:j<xs.size) (h2:j<ys.size),EqP P w A.in1 s xs[j] ys[j] (e j))/\R (.ok (.ret (.bool ((List.range xs.size).all e)))) s):=by
 intro A R s h;obtain⟨hq,gs,dr,tk,oss⟩:=s;obtain⟨u1,u2,ue,q⟩:=h;have sub:=AutoSeq1.sub_list_list;have v0:¬(xs.size !=ys.size)=true:=by simp[hz]
 wp_walk using AutoSeq1.wpAny_loadPart' u1,AutoSeq1.wpAny_loadPart' u2
 refine⟨plainId_quiet MeetsSeq3.plain_eq_loop _,codeAny_builtin MeetsSeq3.entry_eq_loop ?_⟩;rw[Around.under_plainId MeetsSeq3.plain_eq_loop _];exact Zp6 l b xs ys n m d1 d2 s1 s2 e hz 2 (.inl rfl) _ 0 rfl A R _ ⟨u1,u2,ue,by simpa using q⟩
theorem ZrR(hz:xs.size=ys.size):MeetsIn P w (Builtin.«list.__ne__» ⟨[.ref l,.ref b],[]⟩) (fun A R s=>s.heap.get? l=some (Zlb d1 xs n s1)/\s.heap.get? b=some (Zlb d2 ys m s2)/\
  (∀j (h1:j<xs.size) (h2:j<ys.size),EqP P w A.in1 s xs[j] ys[j] (e j))/\R (.ok (.ret (.bool (!(List.range xs.size).all e)))) s):=by
 intro A R s h;obtain⟨hq,gs,dr,tk,oss⟩:=s;obtain⟨u1,u2,ue,q⟩:=h;have sub:=AutoSeq1.sub_list_list;have v0:¬(xs.size !=ys.size)=true:=by simp[hz]
 wp_walk using AutoSeq1.wpAny_loadPart' u1,AutoSeq1.wpAny_loadPart' u2
 refine⟨plainId_quiet MeetsSeq3.plain_eq_loop _,codeAny_builtin MeetsSeq3.entry_eq_loop ?_⟩;rw[Around.under_plainId MeetsSeq3.plain_eq_loop _];exact Zp6 l b xs ys n m d1 d2 s1 s2 e hz 3 (.inr rfl) _ 0 rfl A R _ ⟨u1,u2,ue,by simpa using q⟩
end
end L3
namespace L3
open PySem PySem.Spec PyProof.Rows L2
section
variable {P:Program} {w:World} (l b:Addr) (xs ys:Array Value) (n m:Nat) (d1 d2:Option Addr) (s1 s2:Array (Option Value)) (e:Nat->Bool)
abbrev JW(xs ys:Array Value)(e:Nat->Bool)(i:Nat):Bool:=((List.range (min xs.size ys.size)).drop i).all e&&xs.size==ys.size
theorem ZsX:MeetsIn P w (Builtin.«tuple.__eq__» ⟨[.ref l,.ref b],[]⟩) (fun A R s=>s.heap.get? l=some (Zlc d1 xs n s1)/\s.heap.get? b=some (Zlc d2 ys m s2)/\
  (∀j (h1:j<xs.size) (h2:j<ys.size),EqP P w A.in1 s xs[j] ys[j] (e j))/\R (.ok (.ret (.bool (JW xs ys e 0)))) s):=
 .of_wp fun A R s h=>by
  obtain⟨hq,gs,dr,tk,oss⟩:=s;obtain⟨u1,u2,ue,q⟩:=h;have sub:=AutoSeq1.sub_tuple_tuple;have zl:(xs.toList.zip ys.toList).length=min xs.size ys.size:=by simp
  wp_walk using AutoSeq1.wpAny_loadPart' u1,AutoSeq1.wpAny_loadPart' u2,wpAny_forIn_list _ (fun rest a s'=>a.1=none/\s'=⟨hq,gs,dr,tk,oss⟩/\∃i,rest=(xs.toList.zip ys.toList).drop i/\
   R (.ok (.ret (.bool (JW xs ys e i)))) ⟨hq,gs,dr,tk,oss⟩) _
  case turn=>
   rintro⟨y,x⟩ rest a s' ⟨ha,rfl,i,zr,zq⟩;have lt:i<(xs.toList.zip ys.toList).length:=Nat.lt_of_not_le fun z=>by rw[List.drop_of_length_le z] at zr;cases zr
   have lm:i<min xs.size ys.size:=zl▸lt;have l1:i<xs.size:=by omega
   have l2:i<ys.size:=by omega
   rw[List.drop_eq_getElem_cons lt] at zr
   injection zr with zyx zrest
   obtain rfl:y=xs[i]:=by simpa using congrArg Prod.fst zyx
   obtain rfl:x=ys[i]:=by simpa using congrArg Prod.snd zyx
   have zd:(List.range (min xs.size ys.size)).drop i=i::(List.range (min xs.size ys.size)).drop (i+1):=by simp[List.drop_eq_getElem_cons,lm]
   unfold JW at zq
   rw[zd,List.all_cons] at zq
   refine wpAny_bind (ue i l1 l2 _ _ ?_);cases ei:e i with
   |true=>
    rw[ei,Bool.true_and] at zq
    wp_walk
    exact⟨rfl,rfl,i+1,zrest,zq⟩
   |false=>
    rw[ei,Bool.false_and,Bool.false_and] at zq
    wp_walk
    exact⟨_,rfl,zq⟩
  case fin=>
   rintro⟨a1,a2⟩ s' ⟨ha,rfl,i,zr,zq⟩;simp only at ha
   subst ha;have ge:min xs.size ys.size<=i:=Nat.le_of_not_lt fun z=>by rw[List.drop_eq_getElem_cons (zl▸z:i<(xs.toList.zip ys.toList).length)] at zr;cases zr
   unfold JW at zq
   rw[List.drop_of_length_le (by simpa using ge)] at zq
   wp_walk
   exact⟨_,rfl,by simpa [Builtin.Tuple.tupleCompareSizes] using zq⟩
  case h=>exact⟨rfl,rfl,0,rfl,q⟩
theorem ZsY:MeetsIn P w (Builtin.«tuple.__ne__» ⟨[.ref l,.ref b],[]⟩) (fun A R s=>s.heap.get? l=some (Zlc d1 xs n s1)/\s.heap.get? b=some (Zlc d2 ys m s2)/\
  (∀j (h1:j<xs.size) (h2:j<ys.size),EqP P w A.in1 s xs[j] ys[j] (e j))/\R (.ok (.ret (.bool (!JW xs ys e 0)))) s):=
 .of_wp fun A R s h=>by
  obtain⟨hq,gs,dr,tk,oss⟩:=s;obtain⟨u1,u2,ue,q⟩:=h;have sub:=AutoSeq1.sub_tuple_tuple;have zl:(xs.toList.zip ys.toList).length=min xs.size ys.size:=by simp
  wp_walk using AutoSeq1.wpAny_loadPart' u1,AutoSeq1.wpAny_loadPart' u2,wpAny_forIn_list _ (fun rest a s'=>a.1=none/\s'=⟨hq,gs,dr,tk,oss⟩/\∃i,rest=(xs.toList.zip ys.toList).drop i/\
   R (.ok (.ret (.bool (!JW xs ys e i)))) ⟨hq,gs,dr,tk,oss⟩) _
  case turn=>
   rintro⟨y,x⟩ rest a s' ⟨ha,rfl,i,zr,zq⟩;have lt:i<(xs.toList.zip ys.toList).length:=Nat.lt_of_not_le fun z=>by rw[List.drop_of_length_le z] at zr;cases zr
   have lm:i<min xs.size ys.size:=zl▸lt;have l1:i<xs.size:=by omega
   have l2:i<ys.size:=by omega
   rw[List.drop_eq_getElem_cons lt] at zr
   injection zr with zyx zrest
   obtain rfl:y=xs[i]:=by simpa using congrArg Prod.fst zyx
   obtain rfl:x=ys[i]:=by simpa using congrArg Prod.snd zyx
   have zd:(List.range (min xs.size ys.size)).drop i=i::(List.range (min xs.size ys.size)).drop (i+1):=by simp[List.drop_eq_getElem_cons,lm]
   unfold JW at zq
   rw[zd,List.all_cons] at zq
   refine wpAny_bind (ue i l1 l2 _ _ ?_);cases ei:e i with
   |true=>
    rw[ei,Bool.true_and] at zq
    wp_walk
    exact⟨rfl,rfl,i+1,zrest,zq⟩
   |false=>
    rw[ei,Bool.false_and,Bool.false_and] at zq
    wp_walk
    exact⟨_,rfl,zq⟩
  case fin=>
   rintro⟨a1,a2⟩ s' ⟨ha,rfl,i,zr,zq⟩;simp only at ha
   subst ha;have ge:min xs.size ys.size<=i:=Nat.le_of_not_lt fun z=>by rw[List.drop_eq_getElem_cons (zl▸z:i<(xs.toList.zip ys.toList).length)] at zr;cases zr
   unfold JW at zq
   rw[List.drop_of_length_le (by simpa using ge)] at zq
   wp_walk
   exact⟨_,rfl,by simpa [Builtin.Tuple.tupleCompareSizes,bne] using zq⟩
  case h=>exact⟨rfl,rfl,0,rfl,q⟩
end
theorem Zbw{c:Bool}{Q E:Value->Shared->Prop}{s:Shared}(q:Q (.bool c) s):wants (fun v s'=>v≠.notImplemented/\Q v s') E (.ok (.ret (.bool c))) s:=⟨(fun z=>nomatch z),q⟩
section
variable {P:Program} {w:World} {A:Around} {s:Shared} {l b:Addr} {xs ys:Array Value} {e:Nat->Bool}
theorem Zp7(hl:s.heap.IsList l xs)(hb:s.heap.IsList b ys)(hz:xs.size=ys.size)(hu:A.units<cLine)(he:∀j (h1:j<xs.size) (h2:j<ys.size),EqP P w A.in1 s xs[j] ys[j] (e j)):RcP P w A s .Eq (.ref l) (.ref b) ((List.range xs.size).all e)/\RcP P w A s .NotEq (.ref l) (.ref b) (!(List.range xs.size).all e):=by
 obtain⟨⟨c1,d1,t1,s1⟩,o1,k1,n,e1⟩:=id hl;obtain⟨⟨c2,d2,t2,s2⟩,o2,k2,m,e2⟩:=id hb;simp only at k1 e1 k2 e2
 subst k1 e1 k2 e2;exact⟨fun E Q q=>wpAny_richCompare_same_room hl.typeIs hb.typeIs F.slot_list_eq (call_meetsIn F.slot_list_eq hl.typeIs F.entry_list_eq (F.args_list_eq_2 _ _) (ZrQ l b xs ys n m d1 d2 s1 s2 e hz) ⟨o1,o2,he,Zbw q⟩) hu,
  fun E Q q=>wpAny_richCompare_same_room hl.typeIs hb.typeIs F.slot_list_ne (call_meetsIn F.slot_list_ne hl.typeIs F.entry_list_ne (F.args_list_ne_2 _ _) (ZrR l b xs ys n m d1 d2 s1 s2 e hz) ⟨o1,o2,he,Zbw q⟩) hu⟩
theorem Zjl(hl:s.heap.IsList l xs)(hb:s.heap.IsList b ys)(hz:xs.size≠ys.size)(hu:A.units<cLine):RcP P w A s .Eq (.ref l) (.ref b) false/\RcP P w A s .NotEq (.ref l) (.ref b) true:=
 ⟨fun E Q q=>SeqAt.RcAt.lists_lengths hl hb (by simpa using hz) hu P w E Q q,fun E Q q=>SeqAt.RcNeAt.lists_lengths hl hb (by simpa using hz) hu P w E Q q⟩
theorem Zp8(hl:s.heap.IsTuple l xs)(hb:s.heap.IsTuple b ys)(hu:A.units<cLine)(he:∀j (h1:j<xs.size) (h2:j<ys.size),EqP P w A.in1 s xs[j] ys[j] (e j)):RcP P w A s .Eq (.ref l) (.ref b) (JW xs ys e 0)/\RcP P w A s .NotEq (.ref l) (.ref b) (!JW xs ys e 0):=by
 obtain⟨⟨c1,d1,t1,s1⟩,o1,k1,n,e1⟩:=id hl;obtain⟨⟨c2,d2,t2,s2⟩,o2,k2,m,e2⟩:=id hb;simp only at k1 e1 k2 e2
 subst k1 e1 k2 e2;exact⟨fun E Q q=>wpAny_richCompare_same_room hl.typeIs hb.typeIs F.slot_tuple_eq (call_meetsIn F.slot_tuple_eq hl.typeIs F.entry_tuple_eq (F.args_tuple_eq_2 _ _) (ZsX l b xs ys n m d1 d2 s1 s2 e) ⟨o1,o2,he,Zbw q⟩) hu,
  fun E Q q=>wpAny_richCompare_same_room hl.typeIs hb.typeIs F.slot_tuple_ne (call_meetsIn F.slot_tuple_ne hl.typeIs F.entry_tuple_ne (F.args_tuple_ne_2 _ _) (ZsY l b xs ys n m d1 d2 s1 s2 e) ⟨o1,o2,he,Zbw q⟩) hu⟩
def dEq(a b:List (Key×V)):Bool:=a.length==b.length&&a.all fun kv=>match YK b kv.1 with|some u=>eqV kv.2 u|none=>false
theorem Zn9{kb:List (Key×V)}{vb:List (Key×Value)}(rb:KV kb vb)(fb:∀kv∈kb,Xy kv.2=true){ka:List (Key×V)}{va:List (Key×Value)}(ra:KV ka va)(fa:∀kv∈ka,Xy kv.2=true):
  PySem.W.KeqHits A s vb va (ka.all fun kv=>match YK kb kv.1 with|some u=>eqV kv.2 u|none=>false):=by
 induction ra with
 |nil=>exact .nil
 | @cons p q ps qs h t ih=>
  obtain⟨k,v⟩:=p;obtain⟨k',u⟩:=q;obtain⟨e1,e2⟩:=h;have e1:k=k':=e1;subst e1;have e2:Yn v u:=e2;have fr:=ih fun kv hm=>fa kv (List.mem_cons_of_mem _ hm);have fv:Xy v=true:=fa (k,v) (List.mem_cons_self ..);have rv:=KV.val rb k;rw[List.all_cons];cases hv:YK kb k with
  |none=>
   rw[hv] at rv
   exact .miss (ZcY.none_of rv)
  |some y=>
   rw[hv] at rv
   cases hw:valueAt vb k with
   |none=>rw[hw] at rv;exact rv.elim
   |some u'=>
    rw[hw] at rv
    have fy:Xy y=true:=by
     unfold YK at hv
     cases hf:kb.find? (fun kv=>decide (kv.1=k)) with
     |none=>rw[hf] at hv;exact nomatch hv
     |some p=>rw[hf] at hv;cases hv;exact fb p (List.mem_of_find?_eq_some hf)
    exact .hit hw (ZhF e2 rv fv fy) fr
theorem ZrS{ka kb:List (Key×V)}{va vb:List (Key×Value)}(ha:(l==sysModules)=false)(hb:(b==sysModules)=false)(da:s.heap.DictOf (Xo P w) l va)(db:s.heap.DictOf (Xo P w) b vb)(ra:KV ka va)(rb:KV kb vb)
  (fa:∀kv∈ka,Xy kv.2=true)(fb:∀kv∈kb,Xy kv.2=true)(hu:A.units<cLine):RcP P w A s .Eq (.ref l) (.ref b) (dEq ka kb)/\RcP P w A s .NotEq (.ref l) (.ref b) (!dEq ka kb):=by
 have e1:ka.length=va.length:=Paired.length ra;have e2:kb.length=vb.length:=Paired.length rb;unfold dEq;rw[e1,e2];exact⟨fun E Q q=>PySem.W.keq_eq ha hb da db hu (fun _=>Zn9 rb fb ra fa) q,fun E Q q=>PySem.W.keq_ne ha hb da db hu (fun _=>Zn9 rb fb ra fa) q⟩
end
end L3
namespace L3
open PySem PySem.Spec PyProof.Rows L2
inductive Dt where
 |v (x:V)|lst (ds:List Dt)|tup (ds:List Dt)|dct (kvs:List (Key×V))
inductive Rep (K:PySem.W.Frag) (H:Hp):Dt->V->Prop where
 |flat {x:V} (f:Xy x=true):Rep K H (.v x) x
 |lst {a:Addr} {ds:List Dt} {xs:List V} (h:SqL K H a xs) (r:Paired (Rep K H) ds xs):Rep K H (.lst ds) (.ref a)
 |tup {a:Addr} {ds:List Dt} {xs:List V} (h:SqT K H a xs) (r:Paired (Rep K H) ds xs):Rep K H (.tup ds) (.ref a)
 |dct {a:Addr} {kvs:List (Key×V)} (h:Rd H a (.dK kvs)) (f:∀kv∈kvs,Xy kv.2=true):Rep K H (.dct kvs) (.ref a)
abbrev Zh3(K:PySem.W.Frag)(H:Hp)(ds:List Dt)(xs:List V):Prop:=Paired (Rep K H) ds xs
def XQ:Nat->Dt->Dt->Bool
 |_,.v x,.v y=>eqV x y
 |n+1,.lst a,.lst b=>a.length==b.length&&(a.zip b).all fun p=>XQ n p.1 p.2
 |n+1,.tup a,.tup b=>(a.zip b).all (fun p=>XQ n p.1 p.2)&&a.length==b.length
 |_+1,.dct a,.dct b=>dEq a b
 |_,_,_=>false
def ZaR:Nat->Dt->Dt->Bool
 |_,.v _,.v _=>true
 |n+1,.lst a,.lst b=>(a.zip b).all fun p=>ZaR n p.1 p.2
 |n+1,.tup a,.tup b=>(a.zip b).all fun p=>ZaR n p.1 p.2
 |_+1,.dct _,.dct _=>true
 |_,_,_=>false
theorem ZaS{x:V}(f:Xy x=true):eqV x x=true:=by
 cases x with
 |non=>rfl
 |bl b=>exact beq_self_eq_true b
 |int i=>exact beq_self_eq_true i
 |str z=>exact beq_self_eq_true z
 |_=>exact absurd (show false=true from f) Bool.false_ne_true
theorem Zp9{kvs:List (Key×V)}(nd:(kvs.map (·.1)).Nodup)(f:∀kv∈kvs,Xy kv.2=true):dEq kvs kvs=true:=by
 unfold dEq;rw[beq_self_eq_true,Bool.true_and,List.all_eq_true];intro kv hm;have e:YK kvs kv.1=some kv.2:=by
  clear f
  induction kvs with
  |nil=>cases hm
  |cons p r ih=>
   rw[List.map_cons,List.nodup_cons] at nd
   rcases List.mem_cons.mp hm with rfl|more
   ·exact YH rfl
   ·rw[YC (fun z=>nd.1 (by rw[z];exact List.mem_map.mpr ⟨kv,more,rfl⟩))]
    exact ih nd.2 more
 rw[e];exact ZaS (f kv hm)
theorem ZrT{H:Hp}{a:Addr}{k1 k2:List (Key×V)}(h1:Rd H a (.dK k1))(h2:Rd H a (.dK k2)):k1=k2:=by
 rcases h1 with h1|⟨o1,h1⟩<;>rcases h2 with h2|⟨o2,h2⟩<;>(rw[h1] at h2;cases h2;try rfl)
section
variable {X:Cx} {pins:List (Addr×Obj)} {σ:L2.St} {H:Hp} {s:Shared}
theorem Zpa{a:Addr}{kvs:List (Key×V)}(I:L2.Inv X pins σ H s)(h:Rd H a (.dK kvs)):(kvs.map (·.1)).Nodup:=by
 obtain⟨_,_,vs,rel,dd⟩:=ZcK I.hok h;rw[KV.keys rel];obtain⟨ep,hat⟩:=dd.dictAt;exact hat.nodup
theorem Zpb(I:L2.Inv X pins σ H s):∀(n:Nat) (d e:Dt) (x:V),Rep X.K H d x->Rep X.K H e x->ZaR n d e=true->XQ n d e=true:=by
 have Jh:∀n,(∀(d e:Dt) (x:V),Rep X.K H d x->Rep X.K H e x->ZaR n d e=true->XQ n d e=true)->∀{ds es:List Dt} {xs:List V},Zh3 X.K H ds xs->Zh3 X.K H es xs->((ds.zip es).all fun p=>ZaR n p.1 p.2)=true->
   ds.length=es.length/\((ds.zip es).all fun p=>XQ n p.1 p.2)=true:=by
  intro n ih ds es xs r1
  induction r1 generalizing es with
  |nil=>intro r2 _;cases r2;exact⟨rfl,rfl⟩
  |cons h1 t1 ih2=>
   intro r2 lk;cases r2 with
   |cons h2 t2=>
    rw[List.zip_cons_cons,List.all_cons,Bool.and_eq_true] at lk
    obtain⟨z1,z2⟩:=ih2 t2 lk.2;refine⟨by simp[z1], ?_⟩;rw[List.zip_cons_cons,List.all_cons,Bool.and_eq_true];exact⟨ih _ _ _ h1 h2 lk.1,z2⟩
 intro n
 induction n with
 |zero=>
  intro d e x h1 h2 lk;cases h1 with
  |flat f=>
   cases h2 with
   |flat f2=>exact ZaS f
   |_=>cases f
  |_=>cases h2<;>cases lk
 |succ n ih=>
  intro d e x h1 h2 lk;cases h1 with
  |flat f=>
   cases h2 with
   |flat f2=>exact ZaS f
   |_=>cases f
  |lst q1 r1=>
   cases h2 with
   |lst q2 r2=>
    cases I.list_inj q1 q2;obtain⟨z1,z2⟩:=Jh n ih r1 r2 lk;show(_==_&&_)=true;rw[z1,beq_self_eq_true,Bool.true_and];exact z2
   |_=>cases lk
  |tup q1 r1=>
   cases h2 with
   |tup q2 r2=>
    cases I.tuple_inj q1 q2;obtain⟨z1,z2⟩:=Jh n ih r1 r2 lk;show(_&&_==_)=true;rw[z1,beq_self_eq_true,Bool.and_true];exact z2
   |_=>cases lk
  |dct q1 f1=>
   cases h2 with
   |dct q2 f2=>
    cases ZrT q1 q2;exact Zp9 (Zpa I q1) f1
   |_=>cases lk
theorem Zhi{n:Nat}{f:Nat->Dt->Dt->Bool}:∀(ds es:List Dt),((ds.zip es).all fun p=>f n p.1 p.2)=(List.range (min ds.length es.length)).all fun j=>f n (ds.getD j (.v .non)) (es.getD j (.v .non))
 |[],es=>by simp
 |_::_,[]=>by simp
 |d::ds,e::es=>by
  rw[List.zip_cons_cons,List.all_cons,Zhi ds es,List.length_cons,List.length_cons,Nat.succ_min_succ,List.range_succ_eq_map,List.all_cons,List.all_map]
  rfl
theorem Zei{K:PySem.W.Frag}:∀{ds:List Dt} {xs:List V} {us:List Value} (_:Zh3 K H ds xs) (_:Yr xs us) (j:Nat) (h:j<us.length),∃x,Rep K H (ds.getD j (.v .non)) x/\Yn x us[j]
 |_,_,_,.nil,.nil,j,h=>absurd h (Nat.not_lt_zero _)
 |_,_,_,.cons r _,.cons v _,0,_=>⟨_,r,v⟩
 |_,_,_,.cons _ t,.cons _ vt,j+1,h=>by
  obtain⟨x,a,b⟩:=Zei t vt j (by simpa using h);exact⟨x,a,b⟩
theorem Zhj(I:L2.Inv X pins σ H s):∀(n:Nat) (d e:Dt) (x y:V) (u v:Value) (A:Around),Rep X.K H d x->Rep X.K H e y->Yn x u->Yn y v->ZaR n d e=true->A.units+n<cLine->
  EqP X.prog X.w A s u v (XQ n d e)/\(Xy x=false->RcP X.prog X.w A s .Eq u v (XQ n d e)/\RcP X.prog X.w A s .NotEq u v (!XQ n d e)):=by
 have flatEq:∀{x y:V} {u v:Value} {A:Around},Xy x=true->Xy y=true->Yn x u->Yn y v->EqP X.prog X.w A s u v (eqV x y):=fun fx fy rx ry E Q q=>ZhF rx ry fx fy X.prog X.w E Q q;have refl:∀{n:Nat} {d e:Dt} {a b:Addr} {A:Around},Rep X.K H d (.ref a)->Rep X.K H e (.ref b)->ZaR n d e=true->(RcP X.prog X.w A s .Eq (.ref a) (.ref b) (XQ n d e)/\RcP X.prog X.w A s .NotEq (.ref a) (.ref b) (!XQ n d e))->
   EqP X.prog X.w A s (.ref a) (.ref b) (XQ n d e)/\(Xy (.ref a)=false->RcP X.prog X.w A s .Eq (.ref a) (.ref b) (XQ n d e)/\RcP X.prog X.w A s .NotEq (.ref a) (.ref b) (!XQ n d e)):=fun{n d e a b A} h1 h2 lk rc=>by
  refine⟨?_,fun _=>rc⟩
  by_cases hab:a=b
  ·subst hab;rw[Zpb I n d e _ h1 h2 lk];exact fun E Q q=>SeqAt.EqAt.same _ X.prog X.w E Q q
  ·exact EqP.refs hab rc.1
 have item:∀n,(∀(d e:Dt) (x y:V) (u v:Value) (A:Around),Rep X.K H d x->Rep X.K H e y->Yn x u->Yn y v->ZaR n d e=true->A.units+n<cLine->
   EqP X.prog X.w A s u v (XQ n d e)/\(Xy x=false->RcP X.prog X.w A s .Eq u v (XQ n d e)/\RcP X.prog X.w A s .NotEq u v (!XQ n d e)))->∀{A:Around} {ds es:List Dt} {xs ys:List V} {us vs:List Value},Zh3 X.K H ds xs->Zh3 X.K H es ys->Yr xs us->Yr ys vs->
   ((ds.zip es).all fun p=>ZaR n p.1 p.2)=true->A.units+(n+1)<cLine->∀j (h1:j<us.toArray.size) (h2:j<vs.toArray.size),EqP X.prog X.w A.in1 s us.toArray[j] vs.toArray[j] (XQ n (ds.getD j (.v .non)) (es.getD j (.v .non))):=by
  intro n ih A ds es xs ys us vs r1 r2 v1 v2 lk hu j h1 h2;have l1:j<us.length:=by simpa using h1
  have l2:j<vs.length:=by simpa using h2
  obtain⟨x,a1,b1⟩:=Zei r1 v1 j l1;obtain⟨y,a2,b2⟩:=Zei r2 v2 j l2;have e1:=Paired.length r1;have e2:=Paired.length r2;have e3:=v1.length;have e4:=v2.length;rw[Zhi (f:=ZaR),List.all_eq_true] at lk
  have lkj:=lk j (List.mem_range.mpr (by omega));have:=(ih _ _ x y us[j] vs[j] A.in1 a1 a2 b1 b2 lkj (by show A.units+1+n<cLine;omega)).1
  simpa using this
 intro n
 induction n with
 |zero=>
  intro d e x y u v A h1 h2 rx ry lk hu;cases h1 with
  |flat f=>
   cases h2 with
   |flat f2=>exact⟨flatEq f f2 rx ry,fun z=>by rw[f] at z;cases z⟩
   |_=>cases lk
  |_=>cases h2<;>cases lk
 |succ n ih=>
  intro d e x y u v A h1 h2 rx ry lk hu;have hu0:A.units<cLine:=by omega
  cases h1 with
  |flat f=>
   cases h2 with
   |flat f2=>exact⟨flatEq f f2 rx ry,fun z=>by rw[f] at z;cases z⟩
   |_=>cases lk
  | @lst a ds xs q1 r1=>
   cases h2 with
   | @lst b es ys q2 r2=>
    cases rx;cases ry;refine refl (.lst q1 r1) (.lst q2 r2) lk ?_;obtain⟨us,v1,p1,_⟩:=I.list q1;obtain⟨vs,v2,p2,_⟩:=I.list q2;have e1:=Paired.length r1;have e2:=Paired.length r2;have e3:=v1.length;have e4:=v2.length
    by_cases hz:us.length=vs.length
    ·have rc:=Zp7 (P:=X.prog) (w:=X.w) (A:=A) (e:=fun j=>XQ n (ds.getD j (.v .non)) (es.getD j (.v .non))) p1.isList p2.isList (by simpa using hz) hu0 (item n ih r1 r2 v1 v2 lk hu);have ee:XQ (n+1) (.lst ds) (.lst es)=(List.range us.toArray.size).all fun j=>XQ n (ds.getD j (.v .non)) (es.getD j (.v .non)):=by
      show(ds.length==es.length&&((ds.zip es).all fun p=>XQ n p.1 p.2))=_;have el:ds.length=es.length:=by omega
      have eu:us.toArray.size=es.length:=by rw[List.size_toArray];omega
      rw[Zhi (f:=XQ),el,beq_self_eq_true,Bool.true_and,Nat.min_self,eu]
     rw[ee];exact rc
    ·have ee:XQ (n+1) (.lst ds) (.lst es)=false:=by
      show(ds.length==es.length&&((ds.zip es).all fun p=>XQ n p.1 p.2))=false;have el:(ds.length==es.length)=false:=beq_eq_false_iff_ne.mpr (by omega);rw[el,Bool.false_and]
     rw[ee];exact Zjl p1.isList p2.isList (by simpa using hz) hu0
   |_=>cases lk
  | @tup a ds xs q1 r1=>
   cases h2 with
   | @tup b es ys q2 r2=>
    cases rx;cases ry;refine refl (.tup q1 r1) (.tup q2 r2) lk ?_;obtain⟨us,v1,p1,_⟩:=I.tuple q1;obtain⟨vs,v2,p2,_⟩:=I.tuple q2;have e1:=Paired.length r1;have e2:=Paired.length r2;have e3:=v1.length;have e4:=v2.length;have rc:=Zp8 (P:=X.prog) (w:=X.w) (A:=A) (e:=fun j=>XQ n (ds.getD j (.v .non)) (es.getD j (.v .non))) (show s.heap.IsTuple a us.toArray from p1) (show s.heap.IsTuple b vs.toArray from p2) hu0 (item n ih r1 r2 v1 v2 lk hu)
    have ee:XQ (n+1) (.tup ds) (.tup es)=JW us.toArray vs.toArray (fun j=>XQ n (ds.getD j (.v .non)) (es.getD j (.v .non))) 0:=by
     show(((ds.zip es).all fun p=>XQ n p.1 p.2)&&ds.length==es.length)=_;unfold JW;rw[Zhi (f:=XQ),List.drop_zero,List.size_toArray,List.size_toArray,show us.length=ds.length by omega,show vs.length=es.length by omega]
    rw[ee];exact rc
   |_=>cases lk
  | @dct a ka q1 f1=>
   cases h2 with
   | @dct b kb q2 f2=>
    cases rx;cases ry;refine refl (.dct q1 f1) (.dct q2 f2) lk ?_;obtain⟨_,z1,va,r1,dd1⟩:=ZcK I.hok q1;obtain⟨_,z2,vb,r2,dd2⟩:=ZcK I.hok q2;exact ZrS z1 z2 dd1 dd2 r1 r2 f1 f2 hu0
   |_=>cases lk
end
section
variable {X:Cx}
def ZtM(K:PySem.W.Frag)(neg:Bool):R2:=fun x y H Q=>∃n d e,n<=30/\Xy x=false/\Rep K H d x/\Rep K H e y/\ZaR n d e=true/\Q (.bl (if neg then !XQ n d e else XQ n d e)) H
theorem ZrU(hu:X.A.units+30<cLine):OpR X (compareOp .Eq) (ZtM X.K false):=by
 intro pins s σ H x y v u Q I rx ry h;obtain⟨n,d,e,hn,fx,r1,r2,lk,q⟩:=h;exact((Zhj I n d e x y v u X.A r1 r2 rx ry lk (by omega)).2 fx).1 _ _ ⟨.bl _,H,I,rfl,q⟩
theorem ZnQ{A:Around}{k:Nat}(hr:Za8 k A):A.units+30<cLine:=Nat.lt_of_le_of_lt (Nat.add_le_add_left (by decide:30<=64) _) hr.units
end
end L3
namespace M3
open PySem PySem.Spec PyProof.Rows L2 L3
abbrev Tb:=List (Str×Int)
def kk(c:Tb):List (Key×V):=c.map fun p=>(Sum.inr p.1,V.int p.2)
def lk(c:Tb)(k:Str):Option Int:=(c.find? fun p=>decide (p.1=k)).map (·.2)
def Zk1(c:Tb)(k:Str)(v:Int):Tb:=if(c.any fun p=>decide (p.1=k))=true then c.map (fun p=>if p.1=k then(p.1,v) else p) else c++[(k,v)]
theorem ZnR(c:Tb):(kk c).length=c.length:=by unfold kk;rw[List.length_map]
theorem ZqI(c:Tb)(k:Str):YK (kk c) (Sum.inr k)=(lk c k).map V.int:=by
 induction c with
 |nil=>rfl
 |cons p r ih=>
  by_cases e:p.1=k
  ·have h1:lk (p::r) k=some p.2:=by simp[lk,List.find?_cons,e]
   rw[h1];exact YH (p:=(Sum.inr p.1,V.int p.2)) (by rw[e])
  ·have h1:lk (p::r) k=lk r k:=by simp[lk,List.find?_cons,e]
   rw[h1,<-ih];exact YC (p:=(Sum.inr p.1,V.int p.2)) (fun h=>e (Sum.inr.inj h))
theorem ZrV(c:Tb)(k:Str):((kk c).any fun kv=>decide (kv.1=Sum.inr k))=c.any fun p=>decide (p.1=k):=by
 unfold kk;rw[List.any_map]
 congr 1
 funext p
 show decide ((Sum.inr p.1:Key)=Sum.inr k)=decide (p.1=k);exact Zoz p.1 k
theorem ZrW(c:Tb)(k:Str)(v:Int):JF (kk c) (Sum.inr k) (.int v)=kk (Zk1 c k v):=by
 unfold JF Zk1;rw[ZrV];cases c.any fun p=>decide (p.1=k) with
 |true=>
  rw[if_pos rfl,if_pos rfl];unfold kk;rw[List.map_map,List.map_map]
  apply List.map_congr_left
  intro p _;show(if(Sum.inr p.1:Key)=Sum.inr k then((Sum.inr p.1:Key),V.int v) else(Sum.inr p.1,V.int p.2))=(Sum.inr (if p.1=k then(p.1,v) else p).1,V.int (if p.1=k then(p.1,v) else p).2)
  by_cases e:p.1=k
  ·rw[if_pos (by rw[e]),if_pos e]
  ·rw[if_neg (fun h=>e (Sum.inr.inj h)),if_neg e]
 |false=>
  rw[if_neg Bool.false_ne_true,if_neg Bool.false_ne_true];unfold kk;rw[List.map_append]
  rfl
theorem ZhR(c:Tb)(k:Str)(v:Int):(Zk1 c k v).length<=c.length+1:=by
 unfold Zk1
 split
 ·rw[List.length_map];omega
 ·rw[List.length_append];exact Nat.le_refl _
theorem Zpc(ps:List Str):M1.cs (Txt.join Str.empty ps)=(ps.map M1.cs).flatten:=by
 have e:Txt.join Str.empty ps=Str.join Str.empty ps:=StrLaws.glued_eq_join _ _;rw[e];clear e
 induction ps with
 |nil=>rfl
 |cons p r ih=>
  cases r with
  |nil=>show M1.cs p=_;simp
  |cons q r=>
   show M1.cs (p++Str.empty++Str.join Str.empty (q::r))=_;rw[M1.ZjY,M1.ZjY,ih];simp[show M1.cs Str.empty=[] from rfl]
end M3
namespace M3
open PySem L2 L3
end M3
namespace L3
open PySem PySem.Spec PyProof.Rows L2
theorem Zk2{X:Cx}{K:PySem.W.Frag}{es:List PySem.Expr}{k:Nat}{t:TGs}{pos:Pos}(n:Nat)(hK:X.K=K)(hc:X.calm=true)(h:PGs X es t)(hn:(assignEach es X.env).length=n)(hst:(assignEach es X.env).findIdx? (·.1)=none):PG X (.Tuple es k pos) (Zsz K n t):=by
 subst hK;exact ZlY hc h hn hst
end L3
namespace L3
open PySem PySem.Spec PyProof.Rows L2
structure Zk3 (P:Program) (w:World) (K:PySem.W.Frag) (mg:Str->Option Value) (base:Heap) (CX:CXT) (k:Nat) (x:Str) (C:Addr) (ps:List Str) (sp:Sp):Prop where
 ex:∃(f:Addr) (fd:FuncData),mg x=some (.ref C)/\Mk K C f/\Zdy K fd ps []/\Yy P w K mg base CX k f fd ps sp
structure ZrX (K:PySem.W.Frag) (mg:Str->Option Value) (x:Str) (C:Addr):Prop where
 at_:mg x=some (.ref C)
 makes:PySem.W.makesIn K C=true
 init:PySem.W.findIn K (.ref C) "__init__"=some (some (.builtin "object.__init__"))
 kp:PySem.W.keepIn K (.ref C)=true
structure Zag (P:Program) (w:World) (K:PySem.W.Frag) (mg:Str->Option Value) (base:Heap) (CX:CXT) (k:Nat) (m:Str) (ps:List Str) (sp:Addr->Sp) (Fam:Addr->Prop):Prop where
 ex:∀C,Fam C->Cls K C/\∃(f:Addr) (fd:FuncData),ZsG K C m f/\Zdy K fd ps []/\Yy P w K mg base CX k f fd ps (sp C)
theorem Zpd{P:Program}{w:World}{H:Hp}{h:Heap}{a:Addr}{o:HO}(x:XN P w H h a o):∃ob,h.get? a=some ob:=by
 cases o with
 |lst xs=>obtain⟨_,_,_,_,e⟩:=x;exact⟨_,e⟩
 |tup xs=>obtain⟨_,_,_,ob,e,_⟩:=x;exact⟨ob,e⟩
 |dK kvs=>obtain⟨_,_,_,_,o,_,_,e,_⟩:=x;exact⟨o,e⟩
 |dT kvs=>obtain⟨_,_,_,_,o,_,_,e,_⟩:=x;exact⟨o,e⟩
 |set S n=>obtain⟨o,_,_,_,e,_⟩:=x;exact⟨o,e⟩
 |ins C dx fs=>obtain⟨_,_,_,e,_⟩:=x;exact⟨_,e⟩
 |own y=>exact x
 |xd fs=>obtain⟨_,⟨o,_,_,e,_⟩,_⟩:=x;exact⟨o,e⟩
 |rng lo hi=>obtain⟨_,_,_,e⟩:=x;exact⟨_,e⟩
 |frz ob u=>exact⟨ob,x.1⟩
 |tbl ps=>exact⟨_,x⟩
 |met f y=>exact⟨_,x⟩
 |ext φ=>exact x.2.1
section
variable {X:Cx} {pins:List (Addr×Obj)} {σ:L2.St} {H:Hp} {s:Shared} {n:Addr} {q:HO}
theorem ZeH{σ₁:L2.St}{H₁:Hp}{s':Shared}(I0:L2.Inv X pins σ₁ H₁ s)(I:L2.Inv X pins σ H s')(f0:H n=none)(hn:s.heap.get? n=none)(ok:XN X.prog X.w (upd H n q) s'.heap n q):L2.Inv X pins σ (upd H n q) s':=by
 have ns:∀b u,H b=some u->b≠n:=fun b u e z=>by subst z;rw[f0] at e;cases e
 have nh:∀b o,s.heap.get? b=some o->b≠n:=fun b o e z=>by subst z;rw[hn] at e;cases e
 have nL:X.env.locals≠n:=by
  obtain⟨m,⟨o,_,_,e,_⟩,_⟩:=I0.loc;exact nh _ o e
 refine⟨I.ok,I.os,I.bare,⟨I.base.keep,I.base.slot,fun b o e m hx=> ?_,I.base.there,fun b xs e=> ?_,fun b o u e=> ?_,fun b ps e=> ?_⟩,I.loc,I.cell, ?_,fun x c e=> ?_,fun z hz=> ?_,fun b u e=> ?_,I.len⟩
 ·refine(Zv ?_).trans (I.base.free b o e m hx);obtain⟨o',z⟩:=I0.base.there b o e hx;exact nh b o' z
 ·rw[Zv (ns b _ (I.base.tups b xs e))];exact I.base.tups b xs e
 ·rw[Zv (ns b _ (I.base.frzs b o u e))];exact I.base.frzs b o u e
 ·obtain⟨m,e2⟩:=I.base.tbls b ps e;exact⟨m,by rw[Zv (ns b _ e2)];exact e2⟩
 ·rw[Zv nL];exact I.free
 ·obtain⟨v,o,z,_⟩:=I0.cell x c e;rw[Zv (nh c o z)];exact I.freeC x c e
 ·obtain⟨z1,z2,z3⟩:=I.pin z hz;exact⟨z1,by rw[Zv (nh z.1 z.2 (I0.pin z hz).1)];exact z2,z3⟩
 ·by_cases hb:b=n
  ·subst hb;rw[Zc] at e
   cases e;exact ok
  ·rw[Zv hb] at e
   exact(I.hok b u e).stay (fun _ _ _ z=>z) (fun c z=>by rw[Zv (ns c _ z)];exact z) fun c xs z=>by rw[Zv (ns c _ z)];exact z
theorem Zmo{s':Shared}(I0:L2.Inv X pins σ H s)(I:L2.Inv X pins σ H s')(hn:s.heap.get? n=none)(ok:XN X.prog X.w (upd H n q) s'.heap n q):L2.Inv X pins σ (upd H n q) s':=by
 refine ZeH I0 I ?_ hn ok;cases e:H n with
 |none=>rfl
 |some u=>
  obtain⟨ob,z⟩:=Zpd (I0.hok n u e);rw[hn] at z
  cases z
end
section
variable {X:Cx} {CX:CXT} {k:Nat} {x m:Str} {C:Addr} {ps:List Str} {sp:Sp} {sf:Addr->Sp} {Fam:Addr->Prop} {E:XK} {e o:PySem.Expr} {es:List PySem.Expr} {ta:TE} {t:TA} {p pos apos:Pos}
theorem Zk4(c:Zk3 X.prog X.w X.K X.mg X.base CX k x C ps sp)(hr:Za8 (k+1) X.A)(hg:Gl X x)(hx:ZaA CX X E)(ha:PA X (e::es) t)(hdb:(x==("__debug__":Str))=false:=by decide)
  (he:starEach (e::es) X.env=(false,eval e X.env)::starEach es X.env:=by rfl)(hpl:(backTo pos (starEach es X.env)).any (·.1)=false:=by rfl):PE X (.Call (.Name x p) (e::es) [] pos) (Zrg C sp [] E t):=by
 obtain⟨f,fd,hm,M,hb,F⟩:=c.ex;exact Zqt M F hr hg hm hb .nil hx ha hdb he hpl
def ZsZ(C:Addr):TE:=fun _ H Q=>∀x dx,H x=none->H dx=none->dx≠x->Q (.ref x) (upd (upd H dx (.own x)) x (.ins C dx []))
theorem ZqJ(c:ZrX X.K X.mg x C)(hg:Gl X x)(hdb:(x==("__debug__":Str))=false:=by decide):PE X (.Call (.Name x p) [] [] pos) (ZsZ C):=by
 intro pins s σ H Q I h;refine wpAny_Call_Name_kw (ZcZ I hg c.at_ ?_ hdb);obtain⟨mm,F⟩:=I.fr;refine PySem.W.callWith_K0 I.kIn c.kp (PySem.W.call_cls0 F I.ok.mod.kin ZoB c.makes c.init fun y dy g F' N' hl hlt=> ?_);have I1:L2.Inv X pins σ H {s with heap:=g,toks:=s.toks}:=Zmn (more:=[(y,PySem.W.instObj C dy),(dy,PySem.W.dictOf [] 0)]) I F.ns F' N';have gy:=N' (y,PySem.W.instObj C dy) (List.mem_cons_self ..)
 have gd:=N' (dy,PySem.W.dictOf [] 0) (List.mem_cons_of_mem _ (List.mem_cons_self ..));have fresh:∀z:Addr,dy<=z->z≠X.env.locals->X.base.get? z=none->s.heap.get? z=none:=fun z hz nl nb=>by
  cases e:s.heap.get? z with
  |none=>rfl
  |some ob=>exact absurd (hl (z,ob) (ZgL nl nb e)) (Nat.not_lt.mpr hz)
 have fd:=fresh dy (Nat.le_refl _) gd.2.1 gd.2.2;have fy:=fresh y (Nat.le_of_lt hlt) gy.2.1 gy.2.2;have I2:=Zmo (q:=.own y) I I1 fd ⟨_,gd.1⟩;have nH:∀z,s.heap.get? z=none->H z=none:=fun z e=>by
  cases q:H z with
  |none=>rfl
  |some u=>obtain⟨ob,w⟩:=Zpd (I.hok z u q);rw[e] at w;cases w
 have ne:dy≠y:=Nat.ne_of_lt hlt;have I3:L2.Inv X pins σ (upd (upd H dy (.own y)) y (.ins C dy [])) {s with heap:=g,toks:=s.toks}:=by
  have e3:g.Ns dy (fun _=>none):=⟨_, #[],_,gd.1,rfl,(fun e he=>absurd he (by simp)),fun _=>rfl⟩
  have f0:upd H dy (.own y) y=none:=(Zv (Ne.symm ne)).trans (nH y fy);have ok:XN X.prog X.w (upd (upd H dy (.own y)) y (.ins C dy [])) g y (.ins C dy []):=⟨by rw[Zv ne,Zc],Nat.zero_le _,ne,gy.1,fun _=>none,Heap.Ns1.of_empty e3,fun _=>True.intro,fun z hz=>absurd rfl hz⟩
  have ns:∀b u,upd H dy (.own y) b=some u->b≠y:=fun b u e z=>by subst z;rw[f0] at e;cases e
  have nh:∀b o,s.heap.get? b=some o->b≠y:=fun b o e z=>by subst z;rw[fy] at e;cases e
  refine⟨I2.ok,I2.os,I2.bare,⟨I2.base.keep,I2.base.slot,fun b o e m hx=> ?_,I2.base.there,fun b xs e=> ?_,fun b o u e=> ?_,fun b ps e=> ?_⟩,I2.loc,I2.cell, ?_,fun x c e=> ?_,fun z hz=> ?_,fun b u e=> ?_,I2.len⟩
  ·refine(Zv ?_).trans (I2.base.free b o e m hx);obtain⟨o',z⟩:=I.base.there b o e hx;exact nh b o' z
  ·rw[Zv (ns b _ (I2.base.tups b xs e))];exact I2.base.tups b xs e
  ·rw[Zv (ns b _ (I2.base.frzs b o u e))];exact I2.base.frzs b o u e
  ·obtain⟨m,e2⟩:=I2.base.tbls b ps e;exact⟨m,by rw[Zv (ns b _ e2)];exact e2⟩
  ·rw[Zv (Ne.symm gy.2.1)];exact I2.free
  ·obtain⟨v,o,z,_⟩:=I.cell x c e;rw[Zv (nh c o z)];exact I2.freeC x c e
  ·obtain⟨z1,z2,z3⟩:=I2.pin z hz;exact⟨z1,by rw[Zv (nh z.1 z.2 (I.pin z hz).1)];exact z2,z3⟩
  ·by_cases hb:b=y
   ·subst hb;rw[Zc] at e
    cases e;exact ok
   ·rw[Zv hb] at e
    exact(I2.hok b u e).stay (fun _ _ _ z=>z) (fun c z=>by rw[Zv (ns c _ z)];exact z) fun c xs z=>by rw[Zv (ns c _ z)];exact z
 exact⟨.ref y,_,I3,rfl,h y dy (nH y fy) (nH dy fd) ne⟩
def Zpe(Fam:Addr->Prop)(m:Str)(sf:Addr->Sp)(E:XK)(ta:TE)(t:TA):TE:=fun σ H Q=>ta σ H fun x H1=>∃a C dx fs,x=.ref a/\H1 a=some (.ins C dx fs)/\Fam C/\fs.lookup m=none/\t σ H1 fun vs H2=>sf C (x::vs) H2 Q E
theorem ZaC{pl:Sem Bool}(he:PE X o ta)(d:Zag X.prog X.w X.K X.mg X.base CX k m ps sf Fam)(hr:Za8 k X.A)(hx:ZaA CX X E)(ha:PA X (e::es) t)
  (hst:starEach (e::es) X.env=(false,eval e X.env)::starEach es X.env:=by rfl)(hpl:(backTo pos (starEach es X.env)).any (·.1)=false:=by rfl)
  (ht:eval (.Call (.Attribute o m apos) (e::es) [] pos) X.env=(do
   let ov<-eval o X.env
   standAt apos.atName
   let (f,first)<-holding [ov] (getMethod ov m pl)
   callWith pos f first (backTo pos (starEach (e::es) X.env)) (backToKw pos (keywordEach [] X.env))):=by rfl):PE X (.Call (.Attribute o m apos) (e::es) [] pos) (Zpe Fam m sf E ta t):=by
 intro pins s σ H Q I h;refine PySem.W.methodCall_KW (pl:=pl) (thn (he pins s σ H _ I h) fun u s1 ⟨x,H1,I1,rx,a,C,dx,fs,ex,ea,fam,l,q⟩=> ?_) ht;subst ex;obtain rfl:u=Value.ref a:=rx;obtain⟨c,f,fd,hm,hb,F⟩:=d.ex C fam;refine ZhD I1 ea c hm l ?_;refine PySem.W.callWith_K (first:=[.ref a]) (h₀:=X.base) I.ok.mod.kin hm.kp (thn (ha pos pins s1 σ H1 _ I1 q) fun us s2 ⟨vs,H2,I2,r,q2⟩=>⟨I2.kIn, ?_⟩) hst hpl
 exact ZjO (us:=.ref a::us) (vs:=.ref a::vs) F hr hb .nil hx I2 (.cons rfl r) (by rw[List.append_nil];exact q2)
theorem Za6{pl:Sem Bool}(he:PE X o ta)(d:Zag X.prog X.w X.K X.mg X.base CX k m ps sf Fam)(hr:Za8 k X.A)(hx:ZaA CX X E)
  (ht:eval (.Call (.Attribute o m apos) [] [] pos) X.env=(do
   let ov<-eval o X.env
   standAt apos.atName
   let (f,first)<-holding [ov] (getMethod ov m pl)
   callWith pos f first (backTo pos (starEach [] X.env)) (backToKw pos (keywordEach [] X.env))):=by rfl):PE X (.Call (.Attribute o m apos) [] [] pos) (Zpe Fam m sf E ta Zm6):=by
 intro pins s σ H Q I h;refine PySem.W.methodCall_KW (pl:=pl) (thn (he pins s σ H _ I h) fun u s1 ⟨x,H1,I1,rx,a,C,dx,fs,ex,ea,fam,l,q⟩=> ?_) ht;subst ex;obtain rfl:u=Value.ref a:=rx;obtain⟨c,f,fd,hm,hb,F⟩:=d.ex C fam;refine ZhD I1 ea c hm l ?_;exact PySem.W.callWith_K0 (first:=[.ref a]) I1.kIn hm.kp (ZjO (us:=[.ref a]) (vs:=[.ref a]) F hr hb .nil hx I1 (.cons rfl .nil) q)
def ZrY(K:PySem.W.Frag):R2:=fun x y H Q=>∃a b xs,x=.ref a/\y=.ref b/\SqL K H a xs/\SqL K H b []/\Q (.bl (decide (xs=[]))) H
theorem Zpf(hu:X.A.units+30<cLine):OpR X (compareOp .Eq) (ZrY X.K):=by
 intro pins s σ H x y v u Q I rx ry h;obtain⟨a,b,xs,rfl,rfl,h1,h2,q⟩:=h;cases rx;cases ry;obtain⟨us,v1,p1,_⟩:=I.list h1;obtain⟨vs,v2,p2,_⟩:=I.list h2;have e1:=v1.length;have e2:=v2.length;have hu0:X.A.units<cLine:=by omega
 cases xs with
 |nil=>
  have el:us.toArray.size=vs.toArray.size:=by rw[List.size_toArray,List.size_toArray,<-e1,<-e2]
  have z:us.toArray.size=0:=by rw[List.size_toArray,<-e1];rfl
  refine(Zp7 (P:=X.prog) (w:=X.w) (e:=fun _=>true) p1.isList p2.isList el hu0 fun j h1 _=>absurd h1 (by omega)).1 _ _ ⟨.bl _,H,I, ?_,q⟩;rw[z]
  rfl
 |cons y r=>exact(Zjl (P:=X.prog) (w:=X.w) p1.isList p2.isList (by rw[List.size_toArray,List.size_toArray,<-e1,<-e2];exact Nat.succ_ne_zero _) hu0).1 _ _ ⟨.bl _,H,I,rfl,q⟩
end
end L3
namespace L3
open PySem PySem.Spec PyProof.Rows L2
theorem Xw{P:Program}{w:World}{K:PySem.W.Frag}{mg:Str->Option Value}{base:Heap}{CX:CXT}{k:Nat}{f:Addr}{fd:FuncData}{ps:List Str}{sp:Sp}(h:∀vs H Q E,¬sp vs H Q E):Yy P w K mg base CX k f fd ps sp:=
 ⟨fun vs H Q E z=>(h vs H Q E z).elim,fun _ _ _ H _ _ vs Q E _ _ _ _ z=>(h vs H Q E z).elim⟩
structure TyC (K:PySem.W.Frag) (C:Addr):Prop where
 cl:Cls K C
 ha:PySem.W.findIn K (.ref C) "__class__"=some (some (.builtin "object.__class__"))
 hn:PySem.W.specialIn K (.builtin "object.__class__") "__get__"=some (some (.builtin "getset_descriptor.__get__"))
 htk:PySem.W.takesIn K (.builtin "object.__class__")=some true
 hm:PySem.W.mroIn K C (.type "object")=some true
theorem Xj{c A B:Prop} [Decidable c](hc:¬c)(h:B):if decide c=true then A else B:=by
 rw[decide_eq_false hc];exact Yw h
theorem ZtN{α:Type}{P:List α->Prop}(h:P []):∀us:List α,us.length=0->P us
 |[],_=>h
theorem Zc7{α:Type}{P:List α->Prop}(h:∀a,P [a]):∀us:List α,us.length=1->P us
 |[a],_=>h a
theorem Jh{α:Type}{P:List α->Prop}(h:∀a b,P [a,b]):∀us:List α,us.length=2->P us
 |[a,b],_=>h a b
theorem ZiO{α:Type}{P:List α->Prop}(h:∀a b c,P [a,b,c]):∀us:List α,us.length=3->P us
 |[a,b,c],_=>h a b c
theorem ZrZ{α:Type}{P:List α->Prop}(h:∀a b c d,P [a,b,c,d]):∀us:List α,us.length=4->P us
 |[a,b,c,d],_=>h a b c d
end L3
namespace L3
open PySem PySem.Spec PyProof.Rows L2
section
variable {prog:Program} {w:World} {A:Around} {E:Value->Shared->Prop} {s:Shared} {it l S:Addr} {items:Array Value}
end
section
variable {X:Cx} {e:PySem.Expr} {te:TE} {p p2 pos pos2:Pos}
end
end L3
namespace L3
open PySem PySem.Spec PyProof.Rows L2 PySem.W PySem.Calls
section
variable {X:Cx}
end
def Kd{α:Type}:Sem α->Prop
 | .pure _=>True
 | .raise _=>True
 | .unsupported _=>True
 | .finish _=>True
 | .rule _ k=>Kd (k ())
 | .at _ k=>Kd (k ())
 | .point _ k=>Kd (k ())
 | .load _ _ k=>∀o,Kd (k o)
 | .loadIfAlive _ k=>∀o,Kd (k o)
 | .update _ _ f k=>(∀o,(f o).dict=o.dict/\(f o).isFreed=o.isFreed)/\Kd (k ())
 | .alloc _ k=>∀a,Kd (k a)
 | .fresh k=>∀t,Kd (k t)
 | .ask k=>∀t,Kd (k t)
 | .stack k=>∀l,Kd (k l)
 |_=>False
def DK(h h':Heap):Prop:=∀b o,h.get? b=some o->∃o',h'.get? b=some o'/\o'.dict=o.dict
theorem DK.trans{h1 h2 h3:Heap}(x:DK h1 h2)(y:DK h2 h3):DK h1 h3:=fun b o e=>
 let ⟨o1,e1,d1⟩:=x b o e
 let ⟨o2,e2,d2⟩:=y b o1 e1
 ⟨o2,e2,d2.trans d1⟩
theorem DK.upd{h:Heap}{a:Addr}{f:Obj->Obj}(hf:∀o,(f o).dict=o.dict/\(f o).isFreed=o.isFreed):DK h (h.update a f):=fun b o e=>by
 by_cases q:a=b
 ·subst q;exact⟨f o,Heap.get?_update_self f e ((hf o).2.trans (Heap.get?_some_iff.mp e).2),(hf o).1⟩
 ·exact⟨o,(Heap.get?_update_other h f q).trans e,rfl⟩
theorem Kd.wp{α:Type}{M:Model}{Γ:PySem.Ctx}{Q:α->Pos->Shared->Prop}{E:Value->Pos->Shared->Prop}{h0:Heap}(t:Sem α):∀(p:Pos) (s:Shared),Kd t->DK h0 s.heap->Sem.wp M Γ t Q E p s->
  Sem.wp M Γ t (fun a p' s'=>Q a p' s'/\DK h0 s'.heap) (fun e p' s'=>E e p' s'/\DK h0 s'.heap) p s:=by
 induction t with
 |pure a=>exact fun p s _ d w=>⟨w,d⟩
 |raise e=>exact fun p s _ d w=>⟨w,d⟩
 |unsupported|finish=>exact fun p s _ _ w=>w
 |rule _ k ih|point _ k ih=>exact fun p s c d w=>ih () p s c d w
 |«at» p' k ih=>exact fun p s c d w=>ih () p' s c d w
 |load a _ k ih=>exact fun p s c d ⟨o,ho,w⟩=>⟨o,ho,ih o p s (c o) d w⟩
 |loadIfAlive a k ih=>exact fun p s c d w=>ih _ p s (c _) d w
 |update a _ f k ih=>exact fun p s c d ⟨ha,w⟩=>⟨ha,ih () p _ c.2 (d.trans (DK.upd c.1)) w⟩
 |alloc o k ih=>exact fun p s c d w=>ih _ p _ (c _) (d.trans fun b o' e=>⟨o',Heap.get?_push_of_some o e,rfl⟩) w
 |fresh k ih=>exact fun p s c d w=>ih _ p _ (c _) d w
 |ask k ih=>exact fun p s c d w=>ih _ p s (c _) d w
 |stack k ih=>exact fun p s c d w=>ih _ p s (c _) d w
 |_=>exact fun p s c=>c.elim
theorem Kd.any{α:Type}{M:Model}{A:Around}{Q:α->Shared->Prop}{E:Value->Shared->Prop}{s:Shared}{t:Sem α}(c:Kd t)(h:wpAny M A t Q E s):wpAny M A t (fun a s'=>Q a s'/\DK s.heap s'.heap) (fun e s'=>E e s'/\DK s.heap s'.heap) s:=
 fun Γ p hΓ=>Kd.wp t p s c (fun _ o e=>⟨o,e,rfl⟩) (h Γ p hΓ)
theorem Kd.bind{α β:Type}{k:α->Sem β}(t:Sem α):Kd t->(∀a,Kd (k a))->Kd (t>>=k):=by
 show Kd t->(∀a,Kd (k a))->Kd (Sem.bind t k)
 induction t with
 |pure a=>exact fun _ z=>z a
 |raise|unsupported|finish=>exact fun _ _=>trivial
 |rule _ k ih|point _ k ih|«at» _ k ih=>exact fun c z=>ih () c z
 |load _ _ k ih|loadIfAlive _ k ih|alloc _ k ih|fresh k ih|ask k ih|stack k ih=>exact fun c z o=>ih o (c o) z
 |update _ _ f k ih=>exact fun c z=>⟨c.1,ih () c.2 z⟩
 |_=>exact fun c=>c.elim
theorem Zk5{α:Type}{a:Addr}{k:Obj->Sem α}(h:∀o,Kd (k o)):Kd (load a>>=k):=Kd.bind _ (fun _=>trivial) h
theorem Zfs(v:Value)(i:Nat):Kd (field v i):=by
 unfold field fieldsOf;refine Kd.bind _ ?_ fun x=>by split<;>exact trivial
 cases v<;>first|exact trivial|(refine Zk5 fun o=> ?_;split<;>exact trivial)
theorem Zs0(f:Array Value->Array Value)(o:Obj):(Obj.mapFields f o).dict=o.dict/\(Obj.mapFields f o).isFreed=o.isFreed:=by
 obtain⟨c,d,x,l⟩:=o;cases x<;>exact⟨rfl,rfl⟩
theorem Zmp(v:Value)(i:Nat)(x:Value):Kd (setField v i x):=by
 unfold setField updateField;cases v<;>first|exact trivial|skip
 refine Zk5 fun o=> ?_
 split
 ·split
  ·exact⟨Zs0 _,trivial⟩
  ·exact trivial
 ·exact trivial
theorem Zga(e:Value)(f:Option Addr):Kd (setFlight e f):=by
 unfold setFlight;refine Kd.bind _ (Zfs _ _) fun tb=> ?_
 split
 ·exact Zmp _ _ _
 ·exact trivial
theorem Zpg(a b c d e:Value)(l:List Value):Kd (EntryCells.newEntry a b c d e l):=by
 unfold EntryCells.newEntry newFields newObj newObjAsIs
 dsimp only
 generalize [a,b,c,d,e]++_=vs
 split
 ·exact trivial
 ·exact fun _=>trivial
theorem ZnS(env:Env)(outer:List Env):Kd (behindIsImport env outer):=by
 unfold behindIsImport
 split
 ·exact trivial
 ·split
  ·exact trivial
  ·exact Kd.bind _ (Zfs _ _) fun _=>trivial
theorem ZqK(env:Env)(b:Bool):∀outer:List Env,Kd (keptBack env b outer)
 |[]=>by
  show Kd (if(env.scope.isGenerator||env.scope.isCoroutine)=true then pure Value.none else _)
  split
  ·exact trivial
  ·exact fun _=>trivial
 |_::_=>trivial
theorem Zld:∀l:List Env,Kd (readyFrames l)
 |[]=>trivial
 |env::outer=>by
  unfold readyFrames
  split
  ·refine Zk5 fun o=> ?_
   split
   ·exact trivial
   ·exact Kd.bind _ (ZnS _ _) fun _=>Kd.bind _ (ZqK _ _ _) fun _=>⟨fun o=>⟨rfl,by obtain⟨c,d,x,l⟩:=o;cases x<;>rfl⟩,Zld outer⟩
  ·exact trivial
theorem Zph(env:Env):Kd (PySem.frameOf env):=by
 unfold PySem.frameOf;refine Kd.bind _ (fun _=>trivial) fun l=> ?_;refine Kd.bind _ ?_ fun x=>by split<;>exact trivial
 cases l.dropWhile (·.frame !=env.frame) with
 |nil=>exact trivial
 |cons a r=>exact Kd.bind _ (Zld _) fun _=>trivial
theorem Zpi(f:Addr)(b:Bool):Kd (entryPlaceOf f b):=by
 unfold entryPlaceOf;refine Kd.bind _ (fun _=>trivial) fun l=> ?_
 split<;>exact trivial
theorem Zna(e:Value)(env:Env):Kd (noteFrame e env):=by
 unfold noteFrame;have rest:∀(f:Addr) (head:Value),Kd (do let a<-PySem.frameOf env;let pl<-entryPlaceOf f (head !=.none);let b<-EntryCells.newEntry head a .none (rawInt f) .none pl;setField e 1 b):=fun f head=>
  Kd.bind _ (Zph _) fun _=>Kd.bind _ (Zpi _ _) fun _=>Kd.bind _ (Zpg _ _ _ _ _ _) fun _=>Zmp _ _ _
 split
 ·refine Kd.bind _ (Zfs _ _) fun head=> ?_
  dsimp only
  split
  ·refine Kd.bind _ (Zfs _ _) fun x=> ?_
   split
   ·exact trivial
   ·exact Kd.bind _ (Zmp _ _ _) fun _=>rest _ _
  ·exact rest _ _
 ·exact trivial
theorem ZhS(env:Env)(e:Value):Kd (leaving env e):=Kd.bind _ (Zna _ _) fun _=>Zga _ _
structure Kp (fs:List Addr) (H H':Hp) (h h' B:Heap):Prop where
 keep:∀b o,h.get? b=some o->H b=none->b∉fs->B.get? b=some o/\H' b=none
 slot:∀b o,h.get? b=some o->H b=none->b∈fs->(∃sl,h'.get? b=some {o with slots:=sl})/\H' b=none
 there:∀b o,h.get? b=some o->b∉fs->∃o',B.get? b=some o'
 tups:∀b xs,H b=some (.tup xs)->H' b=some (.tup xs)
 frzs:∀b o u,H b=some (.frz o u)->H' b=some (.frz o u)
 tbls:∀b ps,H b=some (.tbl ps)->∃more,H' b=some (.tbl (ps++more))
def CXr(P:Program)(w:World):CXT:=fun outer H s E ev s'=>∃(e D:Addr) (a0:Value) (H':Hp) (B:Heap),ev=.ref e/\s'.os=s.os/\AllBare s'.gens/\Heap.FlyingW B outer e (.ref D) a0 s'.heap/\
 Kp (frs outer) H H' s.heap s'.heap B/\HOk P w H' B/\∃d,(∃ob,s'.heap.get? e=some ob/\ob.dict=d)/\E (.ref D) d H'
section
variable {P:Program} {w:World} {K:Frag} {mg:Str->Option Value} {base:Heap} {N:List Str} {qual:Str} {scope:Scope} {f:Addr} {cdv:Value} {A:Around} {outer:List Env} {s₀:Shared} {H₀:Hp} {E:XK}
theorem Zk6{pins:List (Addr×Obj)}{σ:L2.St}{H:Hp}{s:Shared}{h':Heap}{e D:Addr}{us:List Value}(I:L2.Inv (Js (CXr P w) P w K mg base N qual scope f cdv A outer s₀ H₀ E) pins σ H s)
  (hx:Heap.MadeExcOf s.heap h' e (.ref D) us)(q:E (.ref D) none H):(Js (CXr P w) P w K mg base N qual scope f cdv A outer s₀ H₀ E).xe (.ref e) {s with heap:=h'}:=by
 have neL:∀b o,s₀.heap.get? b=some o->b≠s₀.heap.objs.size:=fun b o e=>Nat.ne_of_lt (Heap.lt_size e);have nst:∀b o,s₀.heap.get? b=some o->b∉frs outer->b∉frs (Js (CXr P w) P w K mg base N qual scope f cdv A outer s₀ H₀ E).stack:=fun b o eb nb hb=>by
  rcases List.mem_cons.mp (I.stkSub b hb) with z|z
  ·exact neL b o eb z
  ·exact nb z
 have hin:∀env∈(Js (CXr P w) P w K mg base N qual scope f cdv A outer s₀ H₀ E).stack,∀a,env.frame=some a->a∈frs (Js (CXr P w) P w K mg base N qual scope f cdv A outer s₀ H₀ E).stack:=fun env he a ha=>List.mem_filterMap.mpr ⟨env,he,ha⟩;refine wpAny_mono (Kd.any (ZhS _ _) (wpAny_leaves_madeW (Q:=fun _ s2=>∃h'' t,s2={s with heap:=h''}/\Heap.FlyingW (hideAll s.heap (frs (Js (CXr P w) P w K mg base N qual scope f cdv A outer s₀ H₀ E).stack)) outer e (.ref D) (.ref t) h''/\Heap.UpToSlots h' h'') (base:=hideAll s.heap (frs (Js (CXr P w) P w K mg base N qual scope f cdv A outer s₀ H₀ E).stack)) (h:=s.heap) I.ok.frames rfl (fun b o z=>of_hideAll _ z) (funFrames_hide I.stack hin) hx fun h'' t fl tup tn ups=>⟨h'',t,rfl,fl,ups⟩)) (fun _ s2 z=> ?_) fun _ _ z=>z.1
 obtain⟨⟨h'',t,rfl,fl,ups⟩,dk⟩:=z;have dn:∃ob,h''.get? e=some ob/\ob.dict=none:=by
  obtain⟨t',e1,_⟩:=hx.there;exact dk e _ e1
 refine⟨e,D,_,H,_,rfl,I.os,I.bare,fl,⟨fun b o eb nb hb=>⟨hideAll_get _ (I.base.keep b o eb nb hb (by intro z;cases z)) (nst b o eb hb),I.base.free b o eb nb (by intro z;cases z)⟩,fun b o eb nb hb=> ?_,fun b o eb hb=> ?_,I.base.tups,I.base.frzs,I.base.tbls⟩,
  fun b u eb=>(I.hok b u eb).stay (fun c v hc z=>hideAll_get _ z fun hm=> ?_) (fun _ z=>z) (fun _ _ z=>z),none,dn,q⟩
 ·obtain⟨sl,e1⟩:=I.base.slot b o eb nb hb (by intro z;cases z)
  obtain⟨_,o2,e2,hd⟩:=I.ok.funs.mem hb;have e2:s₀.heap.get? b=some o2:=e2;rw[eb] at e2
  cases e2;obtain⟨sl2,e3⟩:=ups b _ (hx.keeps b _ e1) hd;exact⟨⟨sl2,e3⟩,I.base.free b o eb nb (by intro z;cases z)⟩
 ·obtain⟨o',e1⟩:=I.base.there b o eb (by intro z;cases z)
  exact⟨o',hideAll_get _ e1 (nst b o eb hb)⟩
 ·have nn:=I.stkFree c hm;rcases hc with rfl|hc
  ·rw[nn] at eb;cases eb
  ·rw[nn] at hc;cases hc
theorem ZqL:ZaA (CXr P w) (Js (CXr P w) P w K mg base N qual scope f cdv A outer s₀ H₀ E) E:=by
 intro pins σ H s ev s' I hcx;obtain⟨e,D,a0,H',B,rfl,os,bare,fl,kp,hok,d,⟨ob,eb0,db0⟩,q⟩:=hcx;have neL:∀b o,s₀.heap.get? b=some o->b≠s₀.heap.objs.size:=fun b o e=>Nat.ne_of_lt (Heap.lt_size e);have nst:∀b o,s₀.heap.get? b=some o->b∉frs outer->b∉frs (Js (CXr P w) P w K mg base N qual scope f cdv A outer s₀ H₀ E).stack:=fun b o eb nb hb=>by
  rcases List.mem_cons.mp (I.stkSub b hb) with z|z
  ·exact neL b o eb z
  ·exact nb z
 have nex:∀b,b∉(Js (CXr P w) P w K mg base N qual scope f cdv A outer s₀ H₀ E).ex:=fun b z=>by cases z
 have sub:∀b∈frs outer,b∈frs (Js (CXr P w) P w K mg base N qual scope f cdv A outer s₀ H₀ E).stack:=fun b hb=>List.mem_cons_of_mem _ hb;refine wpAny_mono (Kd.any (ZhS _ _) (wpAny_leaves_onW (Q:=fun _ s2=>∃h'',s2={s' with heap:=h''}/\Heap.FlyingW B outer e (.ref D) a0 h''/\s'.heap.UpToSlots h'') I.ok.frames rfl fl fun h'' fl2 ups=>⟨h'',rfl,fl2,ups⟩)) (fun _ s2 z=> ?_) fun _ _ z=>z.1;obtain⟨⟨h'',rfl,fl2,ups⟩,dk⟩:=z
 obtain⟨ob2,eb2,db2⟩:=dk e ob eb0;refine⟨e,D,a0,H',B,rfl,os.trans I.os,bare,fl2,⟨fun b o eb nb hb=> ?_,fun b o eb nb hb=> ?_,fun b o eb hb=> ?_,fun b xs z=>kp.tups b xs (I.base.tups b xs z),fun b o u z=>kp.frzs b o u (I.base.frzs b o u z),fun b ps z=> ?_⟩,hok,d,⟨ob2,eb2,db2.trans db0⟩,q⟩
 ·exact kp.keep b o (I.base.keep b o eb nb hb (nex b)) (I.base.free b o eb nb (nex b)) (nst b o eb hb)
 ·obtain⟨sl,e1⟩:=I.base.slot b o eb nb hb (nex b);obtain⟨⟨sl2,e2⟩,n2⟩:=kp.slot b _ e1 (I.base.free b o eb nb (nex b)) (sub b hb);obtain⟨_,o2,e3,hd⟩:=I.ok.funs.mem hb;have e3:s₀.heap.get? b=some o2:=e3;rw[eb] at e3
  cases e3;obtain⟨sl3,e4⟩:=ups b _ e2 hd;exact⟨⟨sl3,e4⟩,n2⟩
 ·obtain⟨o',e1⟩:=I.base.there b o eb (nex b);exact kp.there b o' e1 (nst b o eb hb)
 ·obtain⟨m1,e1⟩:=I.base.tbls b ps z;obtain⟨m2,e2⟩:=kp.tbls b _ e1;exact⟨m1++m2,by rw[e2,Array.append_assoc]⟩
end
theorem okX{P:Program}{w:World}{K:Frag}{mg:Str->Option Value}{base:Heap}{x qual:Str}{st:Stmt}{f:Addr}{fd:FuncData}{N ps:List Str}{k:Nat}{sp:Sp}(F:Fun K x qual st f fd)(S:ZX N ps (ZG st))(len:∀vs H Q E,sp vs H Q E->vs.length=ps.length)
  (hbody:∀(cdv:Value) (A:Around) (outer:List Env) (s:Shared) (H:Hp) (vs:List V) (Q:VK) (E:XK),Za8 k (A.deeper (envOfC qual (ZG st) s.heap.objs.size f cdv))->sp vs H Q E->
   ∃t,PSs (Js (CXr P w) P w K mg base N qual (ZG st) f cdv A outer s H E) (Zca st) t/\t {nx:=fun _ H'=>Q .non H',rt:=Q} (Zdz N vs) H):Yy P w K mg base (CXr P w) (k+1) f fd ps sp:=by
 obtain⟨oc,od,kV,doc,pm,an,cdv,ct,osl,rfl,lk,hcd⟩:=F.ex;exact Zrh lk hcd S len fun A outer s H vs Q E hr hsp=>hbody cdv A outer s H vs Q E hr hsp
abbrev Zk7(x:Str)(D:Addr)(mg:Str->Option Value)(base:Heap):Prop:=OwnCls x D [.type "ValueError",.type "Exception",.type "BaseException",.type "object"] "ValueError.__new__" mg base
def Zpj(X:Cx)(E:XK):Prop:=∀(pins:List (Addr×Obj)) (σ:L2.St) (H:Hp) (s:Shared) (h':Heap) (e D:Addr) (us:List Value),L2.Inv X pins σ H s->Heap.MadeExcOf s.heap h' e (.ref D) us->E (.ref D) none H->X.xe (.ref e) {s with heap:=h'}
theorem Zd4{P:Program}{w:World}{K:Frag}{mg:Str->Option Value}{base:Heap}{N:List Str}{qual:Str}{scope:Scope}{f:Addr}{cdv:Value}{A:Around}{outer:List Env}{s₀:Shared}{H₀:Hp}{E:XK}:
  Zpj (Js (CXr P w) P w K mg base N qual scope f cdv A outer s₀ H₀ E) E:=fun _ _ _ _ _ _ _ _ I hx q=>Zk6 I hx q
def Zs1(D:Addr)(E:XK)(t:TA):TS:=fun _ σ H=>t σ H fun vs H1=>vs.length<=sizeLine/\E (.ref D) none H1
theorem Zft{X:Cx}{E:XK}{D:Addr}{x:Str}{np cpos pos:Pos}{e:PySem.Expr}{es:List PySem.Expr}{t:TA}(hr:Zpj X E)(O:Zk7 x D X.mg X.base)(hc:X.calm=true)(hg:Gl X x)(ha:PA X (e::es) t)
  (hdb:(x==("__debug__":Str))=false:=by decide)(hs:starEach (e::es) X.env=(false,eval e X.env)::starEach es X.env:=by rfl)(hpl:(backTo cpos (starEach es X.env)).any (·.1)=false:=by rfl):PS X (.Raise (some (.Call (.Name x np) (e::es) [] cpos)) none pos) (Zs1 D E t):=by
 intro pins s σ H D' I h;obtain⟨bm,_,_,_,_,_,_,_,_,_,_,_,_,_,_,_,_,at_,names,plain,above⟩:=O.obj;have pl:(backTo cpos (starEach (e::es) X.env)).any (·.1)=false:=by rw[hs];exact hpl
 have go:=ha cpos pins s σ H _ I h;rw[hs] at go
 refine' wpAny_Raise_call_subT PySem.F.excBase_ValueError (above.hasType PySem.F.excBase_ValueError.hasBase) (I.ok.hd hc) pl plain (ZcZ I hg O.bound ⟨rfl, ?go⟩ hdb)
 case go=>
  rw[hs];refine Calls.evalArgs_plain (thn go fun us s1 z=> ?_);obtain⟨vs,H1,I1,r1,hz,q1⟩:=z;exact⟨rfl,r1.length▸hz,I1.bk _ _ at_,names.keeps I1.bk,above.keeps I1.bk,fun h' ex mk=>hr pins σ H1 s1 h' ex D us I1 mk q1⟩
end L3
namespace L3
open PySem PySem.Spec PyProof.Rows L2 PySem.W PySem.Calls
section
variable {P:Program} {w:World} {K:Frag} {mg:Str->Option Value} {base:Heap} {N:List Str} {qual:Str} {scope:Scope} {f:Addr} {cdv:Value} {A:Around} {outer:List Env} {s₀:Shared} {H₀:Hp} {E:XK} {CX:CXT}
theorem Zmq{pins:List (Addr×Obj)}{σ:L2.St}{H H':Hp}{s s':Shared}{B h5:Heap}(I:L2.Inv (Js CX P w K mg base N qual scope f cdv A outer s₀ H₀ E) pins σ H s)(os:s'.os=s.os)(bare:AllBare s'.gens)(kp:Kp (frs (Js CX P w K mg base N qual scope f cdv A outer s₀ H₀ E).stack) H H' s.heap s'.heap B)(hok:HOk P w H' B)(st:B.StaysIn h5)(sm:s'.heap.UpToSlots h5){tk:Nat}:
  L2.Inv (Js CX P w K mg base N qual scope f cdv A outer s₀ H₀ E) pins σ H' {s' with heap:=h5,toks:=tk}:=by
 have dat:∀b∈frs (Js CX P w K mg base N qual scope f cdv A outer s₀ H₀ E).stack,∀o,s.heap.get? b=some o->∀vs,o.data≠.fields vs:=fun b hb o eb=>by
  obtain⟨_,o2,e2,hd⟩:=I.stack.mem hb;rw[eb] at e2
  cases e2;exact hd
 have slots:∀b o,s.heap.get? b=some o->H b=none->b∈frs (Js CX P w K mg base N qual scope f cdv A outer s₀ H₀ E).stack->∃sl,h5.get? b=some {o with slots:=sl}:=fun b o eb nb hb=>by
  obtain⟨⟨sl,e1⟩,_⟩:=kp.slot b o eb nb hb;obtain⟨sl2,e2⟩:=sm b _ e1 (dat b hb o eb);exact⟨sl2,e2⟩
 refine I.call' (s':={s' with heap:=h5,toks:=tk}) (ch:=[]) os ⟨fun b o eb nb hb _=>st _ _ (kp.keep b o eb nb hb).1,fun b o eb nb hb _=>slots b o eb nb hb,fun b o eb nb _=> ?_,fun b o eb _=> ?_,kp.tups,kp.frzs,kp.tbls⟩ (hok.kept st) bare fun b hb=>nomatch hb
 ·by_cases hb:b∈frs (Js CX P w K mg base N qual scope f cdv A outer s₀ H₀ E).stack
  ·exact(kp.slot b o eb nb hb).2
  ·exact(kp.keep b o eb nb hb).2
 ·by_cases hb:b∈frs (Js CX P w K mg base N qual scope f cdv A outer s₀ H₀ E).stack
  ·obtain⟨sl,e1⟩:=slots b o eb (I.stkFree b hb) hb;exact⟨_,e1⟩
  ·obtain⟨o',e1⟩:=kp.there b o eb hb;exact⟨o',st _ _ e1⟩
theorem ZtO{pins:List (Addr×Obj)}{σ:L2.St}{H:Hp}{s s':Shared}{ev:Value}{E':XK}{Q:Unit->Shared->Prop}{EE:Value->Shared->Prop}(I:L2.Inv (Js CX P w K mg base N qual scope f cdv A outer s₀ H₀ E) pins σ H s)(hcx:CXr P w (Js CX P w K mg base N qual scope f cdv A outer s₀ H₀ E).stack H s E' ev s')
  (k:∀(e D:Addr) (a0:Value) (H':Hp) (B h':Heap) (d:Option Addr),ev=.ref e->(∀(h5:Heap) (tk:Nat),B.StaysIn h5->h'.UpToSlots h5->L2.Inv (Js CX P w K mg base N qual scope f cdv A outer s₀ H₀ E) pins σ H' {s' with heap:=h5,toks:=tk})->Heap.FlyingW B (Js CX P w K mg base N qual scope f cdv A outer s₀ H₀ E).stack e (.ref D) a0 h'->HOk P w H' B->s.heap.get? e=none->(∃ob,h'.get? e=some ob/\ob.dict=d)->E' (.ref D) d H'->Q () {s' with heap:=h'}):
  wpAny (model P w) (Js CX P w K mg base N qual scope f cdv A outer s₀ H₀ E).A (noteFrame ev (Js CX P w K mg base N qual scope f cdv A outer s₀ H₀ E).env) (fun _ s2=>wpAny (model P w) (Js CX P w K mg base N qual scope f cdv A outer s₀ H₀ E).A (setFlight ev none) Q EE s2) EE s':=by
 obtain⟨e,D,a0,H',B,rfl,os,bare,fl,kp,hok,d,⟨ob,eb,db⟩,q⟩:=hcx;have fresh:s.heap.get? e=none:=by
  cases z:s.heap.get? e with
  |none=>rfl
  |some o=>
   by_cases hb:e∈frs (Js CX P w K mg base N qual scope f cdv A outer s₀ H₀ E).stack
   ·obtain⟨_,o2,e2,hd⟩:=fl.2.2.1.mem hb;obtain⟨oe,vs,e3,_,e4,_⟩:=fl.first;rw[e2] at e3
    cases e3;exact absurd e4 (hd vs)
   ·obtain⟨o',e1⟩:=kp.there e o z hb;have n:=fl.2.1;rw[e1] at n
    cases n
 refine wpAny_mono (Kd.any (Zna _ _) (wpAny_looks_onW (Q:=fun _ s2=>∃h4,s2={s' with heap:=h4}/\Heap.HeldW B (Js CX P w K mg base N qual scope f cdv A outer s₀ H₀ E).stack e (.ref D) a0 _ h4/\s'.heap.UpToSlots h4) I.ok.frames rfl fl fun h4 held sm4=>⟨h4,rfl,held,sm4⟩)) (fun _ s2 z=> ?_) fun _ _ z=>z.1;obtain⟨⟨h4,rfl,held,sm4⟩,dk4⟩:=z;refine wpAny_mono (Kd.any (Zga _ _) (wpAny_landsW (Q:=fun _ s3=>∃h5,s3={s' with heap:=h5}/\Heap.FlyingW B (Js CX P w K mg base N qual scope f cdv A outer s₀ H₀ E).stack e (.ref D) a0 h5/\h4.UpToSlots h5) held fun h5 fl5 sm5=>⟨h5,rfl,fl5,sm5⟩)) (fun _ s3 z=> ?_) fun _ _ z=>z.1
 obtain⟨⟨h5,rfl,fl5,sm5⟩,dk5⟩:=z;obtain⟨ob4,eb4,db4⟩:=dk4 e ob eb;obtain⟨ob5,eb5,db5⟩:=dk5 e ob4 eb4;exact k e D a0 H' B h5 d rfl (fun h6 tk st sm6=>Zmq I os bare kp hok st ((sm4.trans sm5).trans sm6)) fl5 hok fresh ⟨ob5,eb5,(db5.trans db4).trans db⟩ q
end
section
variable {X:Cx} {pins:List (Addr×Obj)} {σ:L2.St} {H:Hp} {s:Shared}
abbrev Zgb(X:Cx)(e:Value)(E:Value->Shared->Prop):Cx:={X with A:=X.A.mark (some e),calm:=false,xe:=E}
theorem ZqM{e:Value}{E:Value->Shared->Prop}(o:X.Ok):(Zgb X e E).Ok:=⟨o.mod,o.kind,o.glob,o.blt,o.above,o.inj,o.has,o.cab,(fun z=>nomatch z),o.frames,o.stk,o.exf,o.bs,o.bsz,o.noex,o.exfs,o.funs,o.frf⟩
theorem Znb{e:Value}{E:Value->Shared->Prop}(I:L2.Inv X pins σ H s):L2.Inv (Zgb X e E) pins σ H s:=⟨ZqM I.ok,I.os,I.bare,I.base,I.loc,I.cell,I.free,I.freeC,I.pin,I.hok,I.len⟩
theorem Zfu{e:Value}{E:Value->Shared->Prop}(o:X.Ok)(I:L2.Inv (Zgb X e E) pins σ H s):L2.Inv X pins σ H s:=⟨o,I.os,I.bare,I.base,I.loc,I.cell,I.free,I.freeC,I.pin,I.hok,I.len⟩
theorem Zs2{M:Model}{h:Heap}{e:Addr}{c:Value}(x:∃ob,h.get? e=some ob/\ob.cls=c):Looks M h (typeOf (.ref e)) c:=by
 obtain⟨ob,e1,rfl⟩:=x;exact(Looks.ld e1).andThen .now
end
theorem Zej{X:Cx}{pins:List (Addr×Obj)}{σ:L2.St}{H:Hp}{s:Shared}{M:Model}{A:Around}{E:Value->Shared->Prop}{i:Nat}{x:Str}{pos:Pos}{Q:Unit->Shared->Prop}(I:L2.Inv X pins σ H s)(hN:X.N.Nodup)(hi:X.N[i]? =some x)(hk:X.env.scope.names.lookup x=some .local)
  (h:∀s',L2.Inv X pins (σ.set i none) H s'->Q () s'):wpAny M A (do bindName X.env x .none;unbindBehindTheSuite X.env x pos) Q E s:=by
 obtain⟨m,hn,hl⟩:=id I.loc;refine wpAny_nameGoes_keeps hk hn (by rw[I.ok.kind];rfl) fun h' v hn' sb=>h _ ?_
 have same:∀b,b≠X.env.locals->h'.get? b=s.heap.get? b:=fun b n=>sb.2 b n;have old:∀b o,X.s₀.heap.get? b=some o->h'.get? b=s.heap.get? b:=fun b o e=>same b (Nat.ne_of_lt (Nat.lt_of_lt_of_le (Heap.lt_size e) I.ok.above));refine⟨I.ok,I.os,I.bare,⟨?k, ?sl,I.base.free, ?th,I.base.tups,I.base.frzs,I.base.tbls⟩,⟨_,hn', ?lc⟩, ?ce,I.free,I.freeC, ?pn, ?ho,by simpa using I.len⟩
 case k=>exact fun b o e n f y=>(old b o e).trans (I.base.keep b o e n f y)
 case sl=>exact fun b o e n f y=>(I.base.slot b o e n f y).elim fun z q=>⟨z,(old b o e).trans q⟩
 case th=>exact fun b o e y=>(I.base.there b o e y).elim fun z q=>⟨z,(old b o e).trans q⟩
 case pn=>exact fun p hp=>let ⟨e,n,ne,r⟩:=I.pin p hp;⟨(same p.1 ne).trans e,n,ne,r⟩
 case ce=>exact fun y c e=>(I.cell y c e).elim fun z q=>⟨z,q.sameBut sb (I.cne y c e)⟩
 case ho=>
  refine fun b o e=>(I.hok b o e).stay (fun c u hc q=>(same c fun z=> ?_).trans q) (fun _ q=>q) fun _ _ q=>q;have fr:=I.free;rcases hc with rfl|hc
  ·rw[z,fr] at e;cases e
  ·rw[z,fr] at hc;cases hc
 case lc=>
  intro j y v' e1 e2 e3;have ji:j≠i:=fun z=>by
   subst z;have lt:j<σ.length:=by rw[I.len];exact(List.getElem?_eq_some_iff.mp hi).1
   rw[List.getElem?_set_self lt] at e2
   cases e2
  rw[List.getElem?_set_ne (Ne.symm ji)] at e2
  obtain⟨u,r,q⟩:=hl j y v' e1 e2 e3;refine⟨u,r,q.imp (fun⟨k1,k2⟩=>⟨k1, ?_⟩) fun⟨k1,c,k2,k3⟩=>⟨k1,c,k2,k3.sameBut sb (I.cne y c k2)⟩⟩;have yx:y≠x:=fun z=>ji (Zhy hN e1 (z▸hi));simp[yx,k2]
def Zpk(D:Zfg)(i:Nat):Zfg:={nx:=fun σ H=>D.nx (σ.set i none) H,bk:=fun σ H=>D.bk (σ.set i none) H,ct:=fun σ H=>D.ct (σ.set i none) H,rt:=D.rt}
def XO(e D:Addr)(d:Option Addr):HO:=.ext fun h=>∃ob,h.get? e=some ob/\ob.cls=.ref D/\ob.dict=d/\notCls ob=true
theorem Zt0{P:Program}{w:World}{H:Hp}{B h:Heap}{l:List Env}{e D:Addr}{a0:Value}{d:Option Addr}(fl:Heap.FlyingW B l e (.ref D) a0 h)(dk:∃ob,h.get? e=some ob/\ob.dict=d):XN P w H h e (XO e D d):=by
 obtain⟨oe,vs,e1,e2,e3,_⟩:=fl.first;obtain⟨ob,e4,e5⟩:=dk;rw[e1] at e4
 cases e4;refine⟨⟨oe,e1,e2,e5, ?_⟩,⟨oe,e1⟩,fun h1 h2 ⟨o,q1,q2⟩ z=>⟨o,z o q1,q2⟩⟩;unfold notCls;rw[e3]
theorem Zpl{X:Cx}{pins:List (Addr×Obj)}{σ σ₁:L2.St}{H H₁:Hp}{s s₁:Shared}{B h:Heap}{l:List Env}{e C D:Addr}{a0:Value}{d:Option Addr}{cn n:Str}{np hpos:Pos}{b0:Stmt}{suite:List Stmt}{rest:List ExceptHandler}{i:Nat}{ts:TS}{D':Zfg}{EE:Value->Shared->Prop}
  (ok:X.Ok)(again:∀(h5:Heap) (tk:Nat),B.StaysIn h5->h.UpToSlots h5->L2.Inv X pins σ H {s with heap:=h5,toks:=tk})(fl:Heap.FlyingW B l e (.ref D) a0 h)(I₁:L2.Inv X pins σ₁ H₁ s₁)(new:s₁.heap.get? e=none)(free:H e=none)(dk:∃ob,h.get? e=some ob/\ob.dict=d)(hg:Gl X cn)(hm:X.mg cn=some (.ref C))(hx:exmOne X.K (.ref D) (.ref C)=some true)
  (hN:X.N.Nodup)(hi:X.N[i]? =some n)(hk:X.env.scope.names.lookup n=some .local)(hs:PSs (Zgb X (.ref e) fun _ _=>False) (b0::suite) ts)(q:ts (Zpk D' i) (σ.set i (some (.ref e))) (upd H e (XO e D d)))(hdb:(cn==("__debug__":Str))=false:=by decide):
  wpAny (model X.prog X.w) X.A (handleBy (.ref e) X.env (.ExceptHandler (some (.Name cn np)) (some n) (b0::suite) hpos::rest)) (SP X pins D') EE {s with heap:=h}:=by
 have I0:=again h s.toks fl.1 (fun _ o z _=>⟨o.slots,z⟩);refine wpAny_handleBy_cons (codeAny_handlers_test (ZcZ (Znb (e:=.ref e) (E:=fun _ _=>False) I0) hg hm ?_ hdb)) (fun z=>nomatch z);refine exm_one I0.kIn (Zs2 fl.there) hx _ _ _ _ (fun _ _ z=>z) ?_;refine codeAny_handlers_suite_as (wpAny_mono (Kd.any (Zga _ _) (lands_againW (Q:=fun _ s2=>∃h6,s2={s with heap:=h6}/\Heap.FlyingW B l e (.ref D) a0 h6/\h.UpToSlots h6) fl fun h6 fl6 sm6=>⟨h6,rfl,fl6,sm6⟩)) (fun _ s2 z=> ?_) fun _ _ z=>z.1)
 obtain⟨⟨h6,rfl,fl6,sm6⟩,dk6⟩:=z;obtain⟨ob,e1,e2⟩:=dk;obtain⟨ob6,e3,e4⟩:=dk6 e ob e1;have I6:=ZeH (q:=XO e D d) I₁ (again h6 s.toks fl6.1 sm6) free new (Zt0 fl6 ⟨ob6,e3,e4.trans e2⟩);refine Zhz I6 hN hi (.inl hk) (v:=.ref e) rfl (fun s2 I2=> ?_) (.inr hk);refine wpAny_mono (hs pins s2 _ _ _ (Znb I2) q) (fun f s3 z=> ?_) fun _ _ z=>z.elim;cases f with
 |next=>obtain⟨σ2,H2,I3,q3⟩:=z;exact Zej (Zfu ok I3) hN hi hk fun s4 I4=>⟨_,H2,I4,q3⟩
 |brk=>obtain⟨σ2,H2,I3,q3⟩:=z;exact Zej (Zfu ok I3) hN hi hk fun s4 I4=>⟨_,H2,I4,q3⟩
 |cont=>obtain⟨σ2,H2,I3,q3⟩:=z;exact Zej (Zfu ok I3) hN hi hk fun s4 I4=>⟨_,H2,I4,q3⟩
 |ret u=>obtain⟨v,σ2,H2,I3,r,q3⟩:=z;exact Zej (Zfu ok I3) hN hi hk fun s4 I4=>⟨v,_,H2,I4,r,q3⟩
theorem ZnT{P:Program}{w:World}{H:Hp}{h:Heap}{a:Addr}:∀{o:HO},XN P w H h a o->∃ob,h.get? a=some ob
 | .lst _,⟨_,_,_,_,e⟩=>⟨_,e⟩
 | .tup _,⟨_,_,_,p⟩=>p.elim fun ob q=>⟨ob,q.1⟩
 | .dK _,⟨_,_,_,_,ob,_,_,e,_⟩=>⟨ob,e⟩
 | .dT _,⟨_,_,_,_,ob,_,_,e,_⟩=>⟨ob,e⟩
 | .set _ _,⟨ob,_,_,_,e,_⟩=>⟨ob,e⟩
 | .ins _ _ _,⟨_,_,_,e,_⟩=>⟨_,e⟩
 | .own _,x=>x
 | .xd _,⟨_,⟨ob,_,_,e,_⟩,_⟩=>⟨ob,e⟩
 | .met _ _,e=>⟨_,e⟩
 | .rng _ _,⟨_,_,_,e⟩=>⟨_,e⟩
 | .frz _ _,⟨e,_⟩=>⟨_,e⟩
 | .tbl _,e=>⟨_,e⟩
 | .ext _,⟨_,e,_⟩=>e
theorem apart{P:Program}{w:World}{H:Hp}{B h:Heap}{l:List Env}{e:Addr}{c a0:Value}(hok:HOk P w H B)(fl:Heap.FlyingW B l e c a0 h):H e=none:=by
 cases q:H e with
 |none=>rfl
 |some o=>
  obtain⟨ob,z⟩:=ZnT (hok e o q);have n:=fl.2.1;rw[z] at n
  cases n
end L3
namespace L3
open PySem PySem.Spec PyProof.Rows L2 PySem.W PySem.Calls
section
variable {P:Program} {w:World} {K:Frag} {mg:Str->Option Value} {base:Heap} {N:List Str} {qual:Str} {scope:Scope} {f:Addr} {cdv:Value} {A:Around} {outer:List Env} {s₀:Shared} {H₀:Hp} {E:XK} {CX:CXT}
end
end L3
namespace L3
open PySem PySem.Spec PyProof.Rows L2 PySem.W PySem.Calls
structure Za9 (K:Frag) (D:Addr):Prop where
 ck:(kitCls K (.ref D) (.ref D)).isSome=true
 ga:findIn K (.ref D) "__getattribute__"=some (some (.builtin "BaseException.__getattribute__"))
 gt:findIn K (.ref D) "__getattr__"=some none
 cs:findIn K (.ref D) "__class__"=some (some (.builtin "object.__class__"))
 gg:specialIn K (.builtin "object.__class__") "__get__"=some (some (.builtin "getset_descriptor.__get__"))
 tk:takesIn K (.builtin "object.__class__")=some true
 mo:mroIn K D (.type "object")=some true
 mb:subIn K (.ref D) (.type "BaseException")=some true
theorem Za9.cl{K:Frag}{D:Addr}(Z:Za9 K D):∃c d cd sl,K.lookup D=some ⟨c,d,.cls cd,sl⟩:=by
 have z:=Z.ck;simp only [kitCls] at z
 split at z
 ·rename_i q
  have q:=(Bool.and_eq_true_iff.mp q).1;unfold clsIn at q
  split at q
  ·rename_i h
   exact⟨_,_,_,_,h⟩
  ·cases q
 ·cases z
theorem Za9.find{K:Frag}{D:Addr}(Z:Za9 K D)(od:Option Obj):findObj K D od "__class__"=some (.bind (.builtin "getset_descriptor.__get__") (.builtin "object.__class__")):=by
 obtain⟨c,d,cd,sl,h⟩:=Z.cl;have hc:clsIn K D=some cd:=by unfold clsIn;rw[h]
 simp[findObj,hc,Z.cs,Z.gg,Z.tk]
section
variable {prog:Program} {w:World} {A:Around} {E:Value->Shared->Prop} {s:Shared} {K:Frag} {x D:Addr} {ox:Obj} {od:Option Obj}
theorem ZnU{tk:Tok}{Q:Fin->Shared->Prop}(Z:Za9 K D)(X:K.In s.heap)(I:InstAt s.heap x ox D od)(hq:Q (.done (.ret (.ref D))) s):wpAny (model prog w) A (Builtin.«object.__getattribute__» ⟨[.ref x,.str "__class__" tk],[]⟩) Q E s:=by
 obtain⟨h,g,d,t,os⟩:=s;refine wpAny_bind (wpAny_pure ?_);refine wpAny_bind (wpAny_pure ?_);refine wpAny_bind (I.type.at ?_);refine wpAny_bind ((looks_find X I (Z.find od)).at ?_);exact wpAny_bind (wpAny_holding (wpAny_call (class_get X I Z.mo (wpAny_pure hq))))
theorem Zpm:builtinKind "BaseException.__getattribute__"=some .slot:=by decide+kernel
theorem ZnV:splitId "BaseException.__getattribute__"=some ("BaseException","__getattribute__"):=by decide+kernel
theorem ZnW{M:Model}{nm:Value}{Q:Unit->Shared->Prop}(Z:Za9 K D)(X:K.In s.heap)(I:InstAt s.heap x ox D od)(hq:Q () s):wpAny M A (checkBuiltinCall "BaseException.__getattribute__" ⟨[.ref x,nm],[]⟩) Q E s:=by
 have l0:Looks M s.heap (typeOf (.ref x)) (.ref D):=I.type;have l1:Looks M s.heap (isSubtype (.ref D) (.type "BaseException")) true:=looks_subIn X Z.mb;have l2:Looks M s.heap (isInstance (.ref x) (.type "BaseException")) true:=l0.andThen l1;exact @check_slot M A E s "BaseException.__getattribute__" "BaseException" "__getattribute__" (.ref x) [nm] [] Q Zpm ZnV l2 (PySem.F.args_bexc_ga _ _) hq
theorem ZqN{tk:Tok}{fill:Bool}{Q:Value->Shared->Prop}(Z:Za9 K D)(X:K.In s.heap)(I:InstAt s.heap x ox D od)(hq:Q (.ref D) s):wpAny (model prog w) A (getAttrByItsOwn (.ref x) (.str "__class__" tk) (.ref D) (.builtin "BaseException.__getattribute__") fill false) Q E s:=by
 obtain⟨h,g,d,t,os⟩:=s;have hook:Looks (model prog w) h (hookBefore (.ref D)) none:=looks_findIn X Z.gt;refine wpAny_bind (hook.at (wpAny_bind (wpAny_attempt (wpAny_holding ?_))));have called:wpAny (model prog w) A (call (.builtin "BaseException.__getattribute__") [.ref x,.str "__class__" tk]) (fun v s'=>wpAny (model prog w) A (handedOut v) Q E s') (fun _ _=>False) ⟨h,g,d,t,os⟩:=
  wpAny_call (codeAny_call_builtin PySem.F.attr_ValueError.ga.plain PySem.F.entry_bexc_ga (ZnW (s:=⟨h,g,d,t,os⟩) Z X I (ZnU (s:=⟨h,g,d,t,os⟩) Z X I (handed_on rfl hq))))
 exact wpAny_bind (wpAny_of_eq (PySem.F.attr_ValueError.ga.bind (.ref x)) (wpAny_mono called (fun _ _ z=>z) fun _ _ z=>z.elim))
theorem ZnX{Q:Option Value->Shared->Prop}(Z:Za9 K D)(X:K.In s.heap)(I:InstAt s.heap x ox D od)(hq:Q (some (.ref D)) {s with toks:=s.toks+1}):wpAny (model prog w) A (getAttr? (.ref x) "__class__") Q E s:=by
 obtain⟨h,g,d,t,os⟩:=s;have its:Looks (model prog w) h (typeLookup (.ref D) "__getattribute__") (some (.builtin "BaseException.__getattribute__")):=looks_findIn X Z.ga;have by_:wpAny (model prog w) A (getAttrBy (.ref x) (.str "__class__" t) false) (fun v s'=>v=.ref D/\s'=⟨h,g,d,t+1,os⟩) (fun _ _=>False) ⟨h,g,d,t+1,os⟩:=
  wpAny_holding (wpAny_bind (I.type.at (wpAny_bind (its.at (ZqN (s:=⟨h,g,d,t+1,os⟩) Z X I ⟨rfl,rfl⟩)))))
 refine wpAny_bind (wpAny_mkText (wpAny_bind (wpAny_attempt (wpAny_mono by_ (fun v s' z=> ?_) fun _ _ z=>z.elim))));obtain⟨rfl,rfl⟩:=z;exact wpAny_pure hq
theorem Zpn(Z:Za9 K D):KitX K (.ref x) (.ref D) (fun h=>∃ox od,InstAt h x ox D od) where
 ty:=fun _ _ _ ⟨_,_,I⟩=>I.type
 it:=fun _ _ X _=>by
  obtain⟨v,e⟩:=Option.isSome_iff_exists.mp Z.ck;exact(kit_cls X e).2.1
 ne:=fun _ _ _ _ _ _ X tup=>by
  obtain⟨c,d,cd,sl,e⟩:=Z.cl;refine beq_eq_false_iff_ne.mpr fun same=> ?_;cases same;cases(X _ _ e).symm.trans tup
 ca:=fun X ⟨_,_,I⟩ k=>ZnX Z X I k
end
section
variable {X:Cx} {pins:List (Addr×Obj)} {σ:L2.St} {H:Hp} {s:Shared}
theorem ZqO{e D:Addr}(I:L2.Inv X pins σ H s)(h:H e=some (XO e D none)):∃ox od,InstAt s.heap e ox D od:=by
 obtain⟨⟨ob,e1,e2,e3,e4⟩,_⟩:=I.hok e _ h;exact⟨ob,none,⟨e1,e2,e4,by rw[e3];trivial⟩⟩
theorem Ye:Zbm X (.builtin "isinstance") (fun xs H Q=>∃e D y c b,xs=[.ref e,y]/\H e=some (XO e D none)/\Za9 X.K D/\ZsT y=some c/\kitOne X.K (.ref D) c=some b/\Q (.bl b) H):=by
 intro pins s σ H xs us Q I r h;obtain⟨e,D,y,c,b,rfl,he,Z,hy,hb,q⟩:=h;obtain⟨u,u2,rfl,rx,ry⟩:=ZoK r;cases rx;have ec:u2=c:=by
  cases y with
  |ty n=>cases hy;exact ry
  |ref a=>cases hy;exact ry
  |_=>cases hy
 subst ec;exact kia_one (Zpn Z) I.kIn (ZqO I he) hb (fun z=>nomatch z) fun tk=>⟨.bl b,H,I.tok _,rfl,q⟩
end
section
variable {X:Cx}
end
def Zek(es:Array DictEntry):Bool:=es.toList.all fun e=>match e.key with
 | .str _ _=>true
 |_=>false
theorem Jl{K:Frag}{N:Addr}{c:Value}{d:Option Addr}{es:Array DictEntry}{ep:Nat}{sl:Array (Option Value)}(h:K.lookup N=some ⟨c,d,.dict es ep,sl⟩)(e:Zek es=true):nsOkIn K N=true:=by
 unfold nsOkIn;rw[h];show es.all _=true;rw[<-Array.all_toList];exact e
theorem ZiP:bootBuiltins "ValueError"=some (.type "ValueError"):=by decide+kernel
end L3
namespace M1
open PySem.Builtin PySem.Builtin.Str PySem
end M1
namespace L3
open PySem PySem.W PyProof.Rows
structure Ord (ans:Nat->Nat->Bool):Prop where
 asym:∀i j,ans i j=true->ans j i=false
 tr:∀i j k,ans j i=false->ans k j=false->ans k i=false
theorem Ord.irr{ans:Nat->Nat->Bool}(o:Ord ans)(i:Nat):ans i i=false:=by
 cases e:ans i i with
 |false=>rfl
 |true=>exact e.symm.trans (o.asym i i e)
def ZqP(n:Nat)(ans:Nat->Nat->Bool)(i j:Nat)(C:Bool->Shared->Prop)(s:Shared):Prop:=i<n/\j<n/\C (ans i j) s
abbrev ZbD(n:Nat)(ans:Nat->Nat->Bool){α:Type}(s:Shared)(t:KasT α)(P:α->Prop):Prop:=t.kasWp (ZqP n ans) (fun a _=>P a) s
def at_(p:Array Nat)(i:Nat):Nat:=p.getD i 0
def ZaD(ans:Nat->Nat->Bool)(p:Array Nat)(k:Nat):Prop:=∀i j,i<=j->j<k->ans (at_ p j) (at_ p i)=false
def ZdC(ans:Nat->Nat->Bool)(p:Array Nat)(k:Nat):Prop:=∀i j,i<=j->j<k->ans (at_ p i) (at_ p j)=false
structure Pl (n:Nat) (p:Array Nat):Prop where
 size:p.size=n
 perm:p.Perm (List.toArray (List.range n))
theorem Pl.lt{n:Nat}{p:Array Nat}(h:Pl n p){i:Nat}(hi:i<n):at_ p i<n:=by
 have hi':i<p.size:=by rw[h.size];exact hi
 have e:at_ p i=p[i]:=by simp[at_,Array.getD,hi']
 have m:p[i]∈List.range n:=by
  have:=(Array.perm_iff_toList_perm.mp h.perm).mem_iff (a:=p[i])
  simpa using this.mp (by simp)
 rw[e];exact List.mem_range.mp m
theorem ZeI(x:Array Nat)(k:Nat):at_ x k=(x[k]?).getD 0:=by
 by_cases hk:k<x.size<;>simp[at_,Array.getD,hk]
theorem ZdD{p:Array Nat}{i j:Nat}(hj:j<=p.size)(k:Nat):at_ (kas_rev p i j) k=if i<=k/\k<j then at_ p (i+j-1-k) else at_ p k:=by
 rw[ZeI,kas_rev,getElem?_mirror_all hj k,ZeI,ZeI]
 split<;>rfl
theorem Zpo{p:Array Nat}{src d:Nat}(hs:src<p.size)(hd:d<=src)(k:Nat):at_ (bubble p src d) k=if k=src-d then at_ p src else if src-d<k/\k<=src then at_ p (k-1) else at_ p k:=by
 rw[ZeI,getElem?_bubble hs d hd k,ZeI,ZeI,ZeI]
 split
 ·rfl
 ·split<;>rfl
theorem Pl.rev{n:Nat}{p:Array Nat}(h:Pl n p)(i j:Nat):Pl n (kas_rev p i j):=⟨(mirror_size _ _ _ _).trans h.size,(mirror_perm _ _ _ _).trans h.perm⟩
theorem Pl.bub{n:Nat}{p:Array Nat}(h:Pl n p)(i j:Nat):Pl n (bubble p i j):=⟨(bubble_size _ _ _).trans h.size,(bubble_perm _ _ _).trans h.perm⟩
section
variable {n:Nat} {ans:Nat->Nat->Bool} {s:Shared}
theorem ZbE{α β:Type}{t:KasT α}{f:α->KasT β}{P:β->Prop}(h:ZbD n ans s t fun a=>ZbD n ans s (f a) P):ZbD n ans s (t.bind f) P:=by
 have st:∀(t:KasT α) (s0:Shared),t.kasWp (ZqP n ans) (fun a _=>ZbD n ans s (f a) P) s0->s0=s->t.kasWp (ZqP n ans) (fun a s'=>(f a).kasWp (ZqP n ans) (fun a _=>P a) s') s0:=by
  intro t
  induction t with
  |ret a=>intro s0 h e;subst e;exact h
  |ask i j k ih=>intro s0 ⟨a,b,h⟩ e;exact⟨a,b,ih _ s0 h e⟩
 show(t.bind f).kasWp _ _ _;rw[KasT.kasWp_bind];exact st t s h rfl
theorem Ji{α:Type}{P P':α->Prop}(hp:∀a,P a->P' a):∀{t:KasT α},ZbD n ans s t P->ZbD n ans s t P'
 | .ret a,h=>hp a h
 | .ask i j k,⟨a,b,h⟩=>⟨a,b,Ji hp (t:=k _) h⟩
theorem Zle{α:Type}{cmp:Nat->Nat->(Bool->Shared->Prop)->Shared->Prop}{P:α->Prop}{Q:α->Shared->Prop}(I:Shared->Prop)(hc:∀i j (C:Bool->Shared->Prop) s,i<n->j<n->I s->(∀s',I s'->C (ans i j) s')->cmp i j C s)(hq:∀a s',P a->I s'->Q a s'):
  ∀(t:KasT α) (s0 s1:Shared),ZbD n ans s0 t P->I s1->t.kasWp cmp Q s1
 | .ret a,s0,s1,h,i1=>hq a s1 h i1
 | .ask i j k,s0,s1,⟨a,b,h⟩,i1=>hc i j _ s1 a b i1 fun s' i'=>Zle I hc hq (k _) s0 s' h i'
theorem ZdE(o:Ord ans){p:Array Nat}(hp:Pl n p){k:Nat}(hk:k<n)(hs:ZaD ans p k):∀(f l r:Nat),l<=r->r<=k->r-l<=f->(∀i,i<l->ans (at_ p k) (at_ p i)=false)->(∀i,r<=i->i<k->ans (at_ p k) (at_ p i)=true)->
  ZbD n ans s (kas_place p k f l r) fun x=>x<=k/\(∀i,i<x->ans (at_ p k) (at_ p i)=false)/\∀i,x<=i->i<k->ans (at_ p k) (at_ p i)=true
 |0,l,r,h1,h2,h3,lo,hi=>by
  have e:l=r:=by omega
  subst e;exact⟨h2,lo,hi⟩
 |f+1,l,r,h1,h2,h3,lo,hi=>by
  unfold kas_place
  by_cases g:l≥r
  ·rw[if_pos g];have e:l=r:=by omega
   subst e;exact⟨h2,lo,hi⟩
  ·rw[if_neg g];refine⟨hp.lt hk,hp.lt (by omega), ?_⟩;cases e:ans (p.getD k 0) (p.getD ((l+r)/2) 0) with
   |true=>
    (dsimp only;rw[if_pos rfl])
    refine ZdE o hp hk hs f l ((l+r)/2) (by omega) (by omega) (by omega) lo fun i a b=> ?_;cases e2:ans (at_ p k) (at_ p i) with
    |true=>rfl
    |false=>
     have:=o.tr (at_ p ((l+r)/2)) (at_ p i) (at_ p k) (hs _ _ a b) e2;rw[show ans (at_ p k) (at_ p ((l+r)/2))=true from e] at this
     exact this.symm
   |false=>
    (dsimp only;rw[if_neg (by simp)])
    exact ZdE o hp hk hs f ((l+r)/2+1) r (by omega) h2 (by omega) (fun i a=>o.tr (at_ p i) (at_ p ((l+r)/2)) (at_ p k) (hs _ _ (by omega) (by omega)) e) hi
theorem Zjm(o:Ord ans):∀(f:Nat) (p:Array Nat) (k:Nat),Pl n p->k+f=n->ZaD ans p k->ZbD n ans s (kas_bin f p k) fun q=>Pl n q/\ZaD ans q n
 |0,p,k,hp,e,hs=>by
  have e:k=n:=by omega
  subst e;exact⟨hp,hs⟩
 |f+1,p,k,hp,e,hs=>by
  have hk:k<n:=by omega
  unfold kas_bin;refine ZbE (Ji (fun l ⟨a,lo,hi⟩=> ?_) (ZdE o hp hk hs k 0 k (by omega) (by omega) (by omega) (fun i z=>by omega) fun i z1 z2=>by omega));refine Zjm o f _ (k+1) (hp.bub _ _) (by omega) fun i j hij hj=> ?_;have hks:k<p.size:=by rw[hp.size];exact hk
  rw[Zpo hks (by omega),Zpo hks (by omega),show k-(k-l)=l by omega]
  repeat' split
  all_goals first
   |(exfalso;omega)
   |exact o.irr _
   |exact lo _ (by omega)
   |exact o.asym _ _ (hi _ (by omega) (by omega))
   |exact hs _ _ (by omega) (by omega)
theorem Zgc(o:Ord ans){p:Array Nat}(hp:Pl n p):∀(f m:Nat),1<=m->m+f<=n->ZaD ans p m->ZbD n ans s (kas_asc p f m) fun x=>m<=x/\x<=m+f/\ZaD ans p x/\(x<m+f->ans (at_ p x) (at_ p (x-1))=true)
 |0,m,h1,h2,hs=>⟨Nat.le_refl _,Nat.le_refl _,hs,fun z=>absurd z (Nat.lt_irrefl _)⟩
 |f+1,m,h1,h2,hs=>by
  unfold kas_asc;refine⟨hp.lt (by omega),hp.lt (by omega), ?_⟩;cases e:ans (p.getD m 0) (p.getD (m-1) 0) with
  |true=>(dsimp only;rw[if_pos rfl]);exact⟨Nat.le_refl _,by omega,hs,fun _=>e⟩
  |false=>
   (dsimp only;rw[if_neg (by simp)])
   refine Ji (fun x ⟨a,b,c,d⟩=>⟨by omega,by omega,c,fun z=>d (by omega)⟩) (Zgc o hp f (m+1) (by omega) (by omega) fun i j hij hj=> ?_)
   by_cases q:j<m
   ·exact hs i j hij q
   ·have ej:j=m:=by omega
    subst ej
    by_cases q2:i=j
    ·subst q2;exact o.irr _
    ·exact o.tr (at_ p i) (at_ p (j-1)) (at_ p j) (hs _ _ (by omega) (by omega)) e
theorem ZhT(o:Ord ans){p q:Array Nat}{m:Nat}(h:ZdC ans p m)(e:∀k,k<m->ans (at_ p k) (at_ q k)=false/\ans (at_ q k) (at_ p k)=false):ZdC ans q m:=fun i j hij hj=>
 o.tr (at_ q j) (at_ p i) (at_ q i) (o.tr (at_ q j) (at_ p j) (at_ p i) (e j hj).1 (h i j hij hj)) (e i (by omega)).2
def ZqQ(ans:Nat->Nat->Bool)(p:Array Nat)(m q:Nat):Prop:=∀k,m-(q+1)<=k->k<m->ans (at_ p k) (at_ p (m-1))=false/\ans (at_ p (m-1)) (at_ p k)=false
theorem Zlf(o:Ord ans){p:Array Nat}{m q:Nat}(hm:m<=p.size)(hq:q+1<=m)(t:ZqQ ans p m q):∀k,k<m->ans (at_ p k) (at_ (kas_rev p (m-(q+1)) m) k)=false/\ans (at_ (kas_rev p (m-(q+1)) m) k) (at_ p k)=false:=fun k hk=>by
 rw[ZdD hm]
 split
 ·rename_i h
  have a:=t k h.1 h.2;have b:=t (m-(q+1)+m-1-k) (by omega) (by omega);exact⟨o.tr _ _ _ b.2 a.1,o.tr _ _ _ a.2 b.1⟩
 ·exact⟨o.irr _,o.irr _⟩
theorem Zd5(o:Ord ans):∀(f:Nat) (p:Array Nat) (m q:Nat),Pl n p->1<=m->m+f<=n->q+1<=m->ZdC ans p m->ZqQ ans p m q->ZbD n ans s (kas_desc f p m q) fun r=>Pl n r.1/\1<=r.2.1/\r.2.1<=m+f/\r.2.2+1<=r.2.1/\ZdC ans r.1 r.2.1/\ZqQ ans r.1 r.2.1 r.2.2
 |0,p,m,q,hp,h1,h2,hq,hf,ht=>⟨hp,h1,Nat.le_refl _,hq,hf,ht⟩
 |f+1,p,m,q,hp,h1,h2,hq,hf,ht=>by
  unfold kas_desc;refine⟨hp.lt (by omega),hp.lt (by omega), ?_⟩;have more:∀(p':Array Nat),ZdC ans p' m->ans (at_ p' (m-1)) (at_ p' m)=false->ZdC ans p' (m+1):=fun p' hf' l i j hij hj=>by
   by_cases z:j<m
   ·exact hf' i j hij z
   ·have ej:j=m:=by omega
    subst ej
    by_cases z2:i=j
    ·subst z2;exact o.irr _
    ·exact o.tr (at_ p' j) (at_ p' (j-1)) (at_ p' i) l (hf' _ _ (by omega) (by omega))
  cases e:ans (p.getD m 0) (p.getD (m-1) 0) with
  |true=>
   (dsimp only;rw[if_pos rfl])
   have one:∀p':Array Nat,ZqQ ans p' (m+1) 0:=fun p' k a b=>by
    have ek:k=m:=by omega
    subst ek;exact⟨o.irr _,o.irr _⟩
   by_cases z:q>0
   ·rw[if_pos z];have al:=Zlf o (by rw[hp.size];omega) hq ht
    have f':=ZhT o hf al;refine Ji (fun r ⟨a,b,c,d⟩=>⟨a,b,by omega,d⟩) (Zd5 o f _ (m+1) 0 (hp.rev _ _) (by omega) (by omega) (by omega) (more _ f' ?_) (one _));have em:at_ (kas_rev p (m-(q+1)) m) m=at_ p m:=by rw[ZdD (by rw[hp.size];omega),if_neg (by omega)]
    rw[em];exact o.tr (at_ p m) (at_ p (m-1)) _ (o.asym _ _ e) (al (m-1) (by omega)).2
   ·rw[if_neg z];exact Ji (fun r ⟨a,b,c,d⟩=>⟨a,b,by omega,d⟩) (Zd5 o f p (m+1) 0 hp (by omega) (by omega) (by omega) (more _ hf (o.asym _ _ e)) (one _))
  |false=>
   (dsimp only;rw[if_neg (by simp)])
   refine⟨hp.lt (by omega),hp.lt (by omega), ?_⟩;cases e2:ans (p.getD (m-1) 0) (p.getD m 0) with
   |true=>(dsimp only;rw[if_pos rfl]);exact⟨hp,h1,(show m<=m+(f+1) by omega),hq,hf,ht⟩
   |false=>
    (dsimp only;rw[if_neg (by simp)])
    refine Ji (fun r ⟨a,b,c,d⟩=>⟨a,b,by omega,d⟩) (Zd5 o f p (m+1) (q+1) hp (by omega) (by omega) (by omega) (more _ hf e2) fun k a b=> ?_);show ans (at_ p k) (at_ p m)=false/\ans (at_ p m) (at_ p k)=false
    by_cases z:k=m
    ·subst z;exact⟨o.irr _,o.irr _⟩
    ·have t:=ht k (by omega) (by omega);exact⟨o.tr (at_ p m) (at_ p (m-1)) (at_ p k) e2 t.1,o.tr (at_ p k) (at_ p (m-1)) (at_ p m) t.2 e⟩
theorem ZgP(o:Ord ans){p:Array Nat}(hp:Pl n p){m:Nat}(h1:1<=m)(h2:m<=n)(hf:ZdC ans p m):ZbD n ans s (kas_tail3 m n p) fun r=>1<=r.1/\r.1<=n/\Pl n r.2/\ZaD ans r.2 r.1:=by
 unfold kas_tail3;refine ZbE (Ji (fun x ⟨a,b,c,d⟩=>⟨by omega,by omega,hp.rev _ _,c⟩) (Zgc o (hp.rev 0 m) (n-m) m h1 (by omega) fun i j hij hj=> ?_));rw[ZdD (by rw[hp.size];exact h2),ZdD (by rw[hp.size];exact h2),if_pos (by omega),if_pos (by omega)]
 exact hf _ _ (by omega) (by omega)
theorem ZdF(o:Ord ans){p:Array Nat}(hp:Pl n p){m:Nat}(h1:1<=m)(h2:m<n)(hf:ZdC ans p m)(hl:ans (at_ p m) (at_ p (m-1))=true):ZbD n ans s (kas_descPart m n p) fun r=>1<=r.1/\r.1<=n/\Pl n r.2/\ZaD ans r.2 r.1:=by
 unfold kas_descPart;refine ZbE (Ji (fun r ⟨a,b,c,d,e,t⟩=> ?g) (Zd5 o (n-(m+1)) p (m+1) 0 hp (by omega) (by omega) (by omega) (fun i j hij hj=> ?f) fun k a b=> ?t))
 case g=>
  split
  ·have al:=Zlf o (by rw[a.size];omega) d t
   exact ZgP o (a.rev _ _) b (by omega) (ZhT o e al)
  ·exact ZgP o a b (by omega) e
 case f=>
  by_cases z:j<m
  ·exact hf i j hij z
  ·have ej:j=m:=by omega
   subst ej
   by_cases z2:i=j
   ·subst z2;exact o.irr _
   ·exact o.tr (at_ p j) (at_ p (j-1)) (at_ p i) (o.asym _ _ hl) (hf _ _ (by omega) (by omega))
 case t=>
  have ek:k=m:=by omega
  subst ek;exact⟨o.irr _,o.irr _⟩
theorem Zlg(o:Ord ans){p:Array Nat}(hp:Pl n p)(h1:1<=n):ZbD n ans s (kas_count n p) fun r=>1<=r.1/\r.1<=n/\Pl n r.2/\ZaD ans r.2 r.1:=by
 unfold kas_count;refine ZbE (Ji (fun x ⟨a,b,c,d⟩=> ?g) (Zgc o hp (n-1) 1 (Nat.le_refl _) (by omega) fun i j hij hj=> ?f))
 case g=>
  by_cases z:x=n
  ·rw[if_pos (by simpa using z)];exact⟨a,by omega,hp,c⟩
  ·rw[if_neg (by simpa using z)];have l:=d (by omega)
   by_cases z2:x>1
   ·rw[if_pos z2];refine⟨hp.lt (by omega),hp.lt (by omega), ?_⟩;cases e:ans (p.getD 0 0) (p.getD (x-1) 0) with
    |true=>(dsimp only;rw[if_pos rfl]);exact⟨a,by omega,hp,c⟩
    |false=>
     (dsimp only;rw[if_neg (by simp)])
     have al:∀i j,i<x->j<x->ans (at_ p i) (at_ p j)=false:=fun i j hi hj=>o.tr (at_ p j) (at_ p 0) (at_ p i) (o.tr (at_ p j) (at_ p (x-1)) (at_ p 0) (c _ _ (by omega) (by omega)) e) (c _ _ (by omega) hi);have hx:x<=p.size:=by rw[hp.size];omega
     refine ZdF o (hp.rev 0 x) a (by omega) (fun i j hij hj=> ?_) ?_
     ·rw[ZdD hx,ZdD hx,if_pos (by omega),if_pos (by omega)];exact al _ _ (by omega) (by omega)
     ·rw[ZdD hx,ZdD hx,if_neg (by omega),if_pos (by omega),show 0+x-1-(x-1)=0 by omega];cases e3:ans (at_ p x) (at_ p 0) with
      |true=>rfl
      |false=>
       have:=o.tr (at_ p (x-1)) (at_ p 0) (at_ p x) e e3;rw[l] at this
       exact this.symm
   ·rw[if_neg z2];have ex:x=1:=by omega
    subst ex;exact ZdF o hp (Nat.le_refl _) (by omega) (fun i j hij hj=>by
     have:i=j:=by omega
     subst this;exact o.irr _) l
 case f=>
  have:i=j:=by omega
  subst this;exact o.irr _
theorem Zmr(o:Ord ans)(h1:1<=n):ZbD n ans s (kas_sort n) fun q=>Pl n q/\ZaD ans q n:=by
 unfold kas_sort;have p0:Pl n (List.toArray (List.range n)):=⟨by simp,Array.Perm.refl _⟩
 refine ZbE (Ji (fun r ⟨a,b,c,d⟩=> ?_) (Zlg o p0 h1))
 split
 ·have e:max r.1 1=r.1:=by omega
  rw[e];exact Zjm o _ _ _ c (by omega) d
 ·have e:r.1=n:=by omega
  rw[e] at d
  exact⟨c,d⟩
end
end L3
namespace L3
open PySem
structure STO {α:Type} (lt:α->α->Bool):Prop where
 irr:∀a,lt a a=false
 tr:∀a b c,lt a b=true->lt b c=true->lt a c=true
 tri:∀a b,lt a b=true\/a=b\/lt b a=true
theorem STO.asym{α:Type}{lt:α->α->Bool}(o:STO lt){a b:α}(h:lt a b=true):lt b a=false:=by
 cases e:lt b a with
 |false=>rfl
 |true=>exact(o.tr a b a h e).symm.trans (o.irr a)
theorem STO.ord{α:Type}{lt:α->α->Bool}(o:STO lt)(f:Nat->α):Ord fun i j=>lt (f i) (f j) where
 asym:=fun i j h=>o.asym h
 tr:=fun i j k h1 h2=>by
  cases e:lt (f k) (f i) with
  |false=>rfl
  |true=>
   rcases o.tri (f i) (f j) with z|z|z
   ·exact(o.tr _ _ _ e z).symm.trans h2
   ·rw[z] at e;exact e.symm.trans h2
   ·exact z.symm.trans h1
def ZbF(a b:Int):Bool:=decide (a<b)
theorem Zel:STO ZbF:=⟨fun a=>decide_eq_false (by omega),fun a b c h1 h2=>decide_eq_true (by have:=of_decide_eq_true h1;have:=of_decide_eq_true h2;omega),fun a b=>by
 rcases Int.lt_trichotomy a b with h|h|h
 ·exact .inl (decide_eq_true h)
 ·exact .inr (.inl h)
 ·exact .inr (.inr (decide_eq_true h))⟩
def ZhU{α:Type} [DecidableEq α](lt:α->α->Bool):List α->List α->Bool
 |[],[]=>false
 |[],_::_=>true
 |_::_,[]=>false
 |a::r,b::t=>if a=b then ZhU lt r t else lt a b
theorem Zpp{α:Type} [DecidableEq α]{lt:α->α->Bool}(o:STO lt):STO (ZhU lt) where
 irr:=fun l=>by
  induction l with
  |nil=>rfl
  |cons a r ih=>unfold ZhU;rw[if_pos rfl];exact ih
 tr:=fun x=>by
  induction x with
  |nil=>intro y z h1 h2;cases y with
   |nil=>exact h2
   |cons b t=>cases z with
    |nil=>exact absurd h2 (by simp[ZhU])
    |cons c u=>rfl
  |cons a r ih=>intro y z h1 h2;cases y with
   |nil=>exact absurd h1 (by simp[ZhU])
   |cons b t=>cases z with
    |nil=>exact absurd h2 (by simp[ZhU])
    |cons c u=>
     unfold ZhU at h1 h2⊢
     by_cases e1:a=b
     ·subst e1;rw[if_pos rfl] at h1
      by_cases e2:a=c
      ·rw[if_pos e2] at h2⊢;exact ih t u h1 h2
      ·rw[if_neg e2] at h2⊢;exact h2
     ·rw[if_neg e1] at h1
      by_cases e2:b=c
      ·subst e2;rw[if_neg e1];exact h1
      ·rw[if_neg e2] at h2
       have h3:=o.tr _ _ _ h1 h2
       by_cases e3:a=c
       ·subst e3;rw[o.irr] at h3;cases h3
       ·rw[if_neg e3];exact h3
 tri:=fun x=>by
  induction x with
  |nil=>intro y;cases y with
   |nil=>exact .inr (.inl rfl)
   |cons b t=>exact .inl rfl
  |cons a r ih=>intro y;cases y with
   |nil=>exact .inr (.inr rfl)
   |cons b t=>
    unfold ZhU
    by_cases e:a=b
    ·subst e;rw[if_pos rfl,if_pos rfl];rcases ih t with h|h|h
     ·exact .inl h
     ·exact .inr (.inl (by rw[h]))
     ·exact .inr (.inr h)
    ·rw[if_neg e,if_neg (Ne.symm e)];rcases o.tri a b with h|h|h
     ·exact .inl h
     ·exact absurd h e
     ·exact .inr (.inr h)
def ZiQ{α β:Type} [DecidableEq α](la:α->α->Bool)(lb:β->β->Bool)(x y:α×β):Bool:=if x.1=y.1 then lb x.2 y.2 else la x.1 y.1
theorem Zfv{α β:Type} [DecidableEq α]{la:α->α->Bool}{lb:β->β->Bool}(oa:STO la)(ob:STO lb):STO (ZiQ la lb) where
 irr:=fun x=>by unfold ZiQ;rw[if_pos rfl];exact ob.irr _
 tr:=fun⟨a,x⟩ ⟨b,y⟩ ⟨c,z⟩ h1 h2=>by
  unfold ZiQ at h1 h2⊢
  dsimp only at h1 h2⊢
  by_cases e1:a=b
  ·subst e1;rw[if_pos rfl] at h1
   by_cases e2:a=c
   ·rw[if_pos e2] at h2⊢;exact ob.tr _ _ _ h1 h2
   ·rw[if_neg e2] at h2⊢;exact h2
  ·rw[if_neg e1] at h1
   by_cases e2:b=c
   ·subst e2;rw[if_neg e1];exact h1
   ·rw[if_neg e2] at h2
    have h3:=oa.tr _ _ _ h1 h2
    by_cases e3:a=c
    ·subst e3;rw[oa.irr] at h3;cases h3
    ·rw[if_neg e3];exact h3
 tri:=fun⟨a,x⟩ ⟨b,y⟩=>by
  unfold ZiQ
  dsimp only
  by_cases e:a=b
  ·subst e;rw[if_pos rfl,if_pos rfl];rcases ob.tri x y with h|h|h
   ·exact .inl h
   ·exact .inr (.inl (by rw[h]))
   ·exact .inr (.inr h)
  ·rw[if_neg e,if_neg (Ne.symm e)];rcases oa.tri a b with h|h|h
   ·exact .inl h
   ·exact absurd h e
   ·exact .inr (.inr h)
def Zms(a b:List Nat):Bool:=decide (a<b)
theorem ZhV:∀a b:List Nat,Zms a b=ZhU (fun x y=>decide (x<y)) a b
 |[],[]=>rfl
 |[],_::_=>rfl
 |_::_,[]=>rfl
 |a::r,b::t=>by
  unfold ZhU;have e:Zms (a::r) (b::t)=(decide (a<b)||(a==b&&Zms r t)):=StrLaws.lt_cons_cons a b r t;rw[e,ZhV r t]
  by_cases q:a=b
  ·subst q;rw[if_pos rfl];simp
  ·rw[if_neg q];simp[q]
def YL(a b:Str):Bool:=decide (a.cps.toList<b.cps.toList)
theorem YM:STO YL:=by
 have o:STO fun x y:Nat=>decide (x<y):=⟨fun a=>decide_eq_false (by omega),fun a b c h1 h2=>decide_eq_true (by have:=of_decide_eq_true h1;have:=of_decide_eq_true h2;omega),fun a b=>by
  rcases Nat.lt_trichotomy a b with h|h|h
  ·exact .inl (decide_eq_true h)
  ·exact .inr (.inl h)
  ·exact .inr (.inr (decide_eq_true h))⟩
 have L:=Zpp o;have e:∀a b:Str,YL a b=ZhU (fun x y=>decide (x<y)) a.cps.toList b.cps.toList:=fun a b=>ZhV _ _;refine⟨fun a=>(e a a).trans (L.irr _),fun a b c h1 h2=> ?_,fun a b=> ?_⟩
 ·rw[e] at h1 h2⊢;exact L.tr _ _ _ h1 h2
 ·rw[e,e];rcases L.tri a.cps.toList b.cps.toList with h|h|h
  ·exact .inl h
  ·refine .inr (.inl ?_);obtain⟨⟨x⟩⟩:=a;obtain⟨⟨y⟩⟩:=b;have h:x=y:=h;rw[h]
  ·exact .inr (.inr h)
abbrev Lf:=Str×Int
def Zk8:Lf->Lf->Bool:=ZiQ YL ZbF
theorem ZhW:STO Zk8:=Zfv YM Zel
end L3
namespace L3
open PySem PySem.Spec PyProof.Rows L2
def Zmt(e c:Nat->Bool)(fin:Bool):List Nat->Bool
 |[]=>fin
 |i::r=>if e i=true then Zmt e c fin r else c i
section
variable {P:Program} {w:World} (l b:Addr) (xs ys:Array Value) (n m:Nat) (d1 d2:Option Addr) (s1 s2:Array (Option Value)) (e c:Nat->Bool)
abbrev ZnY(xs ys:Array Value)(e c:Nat->Bool)(i:Nat):Bool:=Zmt e c (decide (xs.size<ys.size)) ((List.range (min xs.size ys.size)).drop i)
theorem Zt1:MeetsIn P w (Builtin.«tuple.__lt__» ⟨[.ref l,.ref b],[]⟩) (fun A R s=>s.heap.get? l=some (Zlc d1 xs n s1)/\s.heap.get? b=some (Zlc d2 ys m s2)/\
  (∀j (h1:j<xs.size) (h2:j<ys.size),EqP P w A.in1 s xs[j] ys[j] (e j))/\(∀j (h1:j<xs.size) (h2:j<ys.size),e j=false->RcP P w A.in1 s .Lt xs[j] ys[j] (c j))/\R (.ok (.ret (.bool (ZnY xs ys e c 0)))) s):=
 .of_wp fun A R s h=>by
  obtain⟨hq,gs,dr,tk,oss⟩:=s;obtain⟨u1,u2,ue,uc,q⟩:=h;have sub:=AutoSeq1.sub_tuple_tuple;have zl:(xs.toList.zip ys.toList).length=min xs.size ys.size:=by simp
  wp_walk using AutoSeq1.wpAny_loadPart' u1,AutoSeq1.wpAny_loadPart' u2,wpAny_forIn_list _ (fun rest a s'=>a.1=none/\s'=⟨hq,gs,dr,tk,oss⟩/\∃i,rest=(xs.toList.zip ys.toList).drop i/\
   R (.ok (.ret (.bool (ZnY xs ys e c i)))) ⟨hq,gs,dr,tk,oss⟩) _
  case turn=>
   rintro⟨y,x⟩ rest a s' ⟨ha,rfl,i,zr,zq⟩;have lt:i<(xs.toList.zip ys.toList).length:=Nat.lt_of_not_le fun z=>by rw[List.drop_of_length_le z] at zr;cases zr
   have lm:i<min xs.size ys.size:=zl▸lt;have l1:i<xs.size:=by omega
   have l2:i<ys.size:=by omega
   rw[List.drop_eq_getElem_cons lt] at zr
   injection zr with zyx zrest
   obtain rfl:y=xs[i]:=by simpa using congrArg Prod.fst zyx
   obtain rfl:x=ys[i]:=by simpa using congrArg Prod.snd zyx
   have zd:(List.range (min xs.size ys.size)).drop i=i::(List.range (min xs.size ys.size)).drop (i+1):=by simp[List.drop_eq_getElem_cons,lm]
   unfold ZnY at zq
   rw[zd] at zq
   unfold Zmt at zq
   refine wpAny_bind (ue i l1 l2 _ _ ?_);cases ei:e i with
   |true=>
    rw[ei,if_pos rfl] at zq
    wp_walk
    exact⟨rfl,rfl,i+1,zrest,zq⟩
   |false=>
    rw[ei,if_neg (by simp)] at zq
    have rc:=uc i l1 l2 ei;unfold RcP at rc
    generalize richCompare CmpOp.Lt xs[i] ys[i]=m at rc⊢
    wp_walk
    first|refine wpAny_bind (rc _ _ ?_)|refine rc _ _ ?_
    wp_walk
    exact⟨_,rfl,zq⟩
  case fin=>
   rintro⟨a1,a2⟩ s' ⟨ha,rfl,i,zr,zq⟩;simp only at ha
   subst ha;have ge:min xs.size ys.size<=i:=Nat.le_of_not_lt fun z=>by rw[List.drop_eq_getElem_cons (zl▸z:i<(xs.toList.zip ys.toList).length)] at zr;cases zr
   unfold ZnY at zq
   rw[List.drop_of_length_le (by simpa using ge)] at zq
   wp_walk
   exact⟨_,rfl,by simpa [Builtin.Tuple.tupleCompareSizes,Zmt] using zq⟩
  case h=>exact⟨rfl,rfl,0,rfl,q⟩
end
section
variable {P:Program} {w:World} {A:Around} {s:Shared} {l b:Addr} {xs ys:Array Value} {e c:Nat->Bool}
theorem Zs3(hl:s.heap.IsTuple l xs)(hb:s.heap.IsTuple b ys)(hu:A.units<cLine)(he:∀j (h1:j<xs.size) (h2:j<ys.size),EqP P w A.in1 s xs[j] ys[j] (e j))(hc:∀j (h1:j<xs.size) (h2:j<ys.size),e j=false->RcP P w A.in1 s .Lt xs[j] ys[j] (c j)):RcP P w A s .Lt (.ref l) (.ref b) (ZnY xs ys e c 0):=by
 obtain⟨⟨c1,d1,t1,s1⟩,o1,k1,n,e1⟩:=id hl;obtain⟨⟨c2,d2,t2,s2⟩,o2,k2,m,e2⟩:=id hb;simp only at k1 e1 k2 e2
 subst k1 e1 k2 e2;exact fun E Q q=>wpAny_richCompare_same_room hl.typeIs hb.typeIs F.slot_tuple_lt (call_meetsIn F.slot_tuple_lt hl.typeIs F.entry_tuple_lt (F.args_tuple_lt_2 _ _) (Zt1 l b xs ys n m d1 d2 s1 s2 e c) ⟨o1,o2,he,hc,Zbw q⟩) hu
end
end L3
namespace L3
open PySem PySem.Spec PyProof.Rows L2 PySem.W PySem.Calls
section
variable {X:Cx} {pins:List (Addr×Obj)} {σ:L2.St} {H:Hp} {s:Shared} {A:Around}
theorem Zlh(I:L2.Inv X pins σ H s){x:Lf}{p:Addr}(h:SqT X.K H p [.str x.1,.int x.2]):∃t u,s.heap.IsTuple p #[.str x.1 t,.int x.2 u]:=by
 obtain⟨its,r,T,_⟩:=I.tuple h;cases r with
 |cons a r=>
  cases r with
  |cons b r=>
   cases r;obtain⟨t,rfl⟩:=a;obtain⟨u,rfl⟩:=b;exact⟨t,u,T⟩
theorem Zt2(I:L2.Inv X pins σ H s){x y:Lf}{a b:Addr}(ha:SqT X.K H a [.str x.1,.int x.2])(hb:SqT X.K H b [.str y.1,.int y.2])(hu:A.units<cLine):RcP X.prog X.w A s .Lt (.ref a) (.ref b) (Zk8 x y):=by
 obtain⟨t,u,T1⟩:=Zlh I ha;obtain⟨t',u',T2⟩:=Zlh I hb;have go:=Zs3 (P:=X.prog) (w:=X.w) (A:=A) (e:=fun j=>if j=0 then decide (x.1=y.1) else(x.2==y.2)) (c:=fun j=>if j=0 then YL x.1 y.1 else ZbF x.2 y.2) T1 T2 hu (fun j h1 h2=> ?_) (fun j h1 h2 z=> ?_)
 ·have e:ZnY #[Value.str x.1 t,Value.int x.2 u] #[Value.str y.1 t',Value.int y.2 u'] (fun j=>if j=0 then decide (x.1=y.1) else(x.2==y.2)) (fun j=>if j=0 then YL x.1 y.1 else ZbF x.2 y.2) 0=Zk8 x y:=by
   show(if decide (x.1=y.1)=true then(if(x.2==y.2)=true then false else ZbF x.2 y.2) else YL x.1 y.1)=if x.1=y.1 then ZbF x.2 y.2 else YL x.1 y.1
   by_cases z:x.1=y.1
   ·rw[if_pos (decide_eq_true z),if_pos z]
    by_cases z2:x.2=y.2
    ·rw[z2,beq_self_eq_true,if_pos rfl,Zel.irr]
    ·rw[beq_false_of_ne z2,if_neg (by simp)]
   ·rw[if_neg (by rw[decide_eq_false z];simp),if_neg z]
  rw[e] at go
  exact go
 ·match j,h1,h2 with
  |0,_,_=>exact fun E Q q=>wpAny_eqBool_str q
  |1,_,_=>exact fun E Q q=>wpAny_eqBool_int q
 ·match j,h1,h2 with
  |0,_,_=>exact fun E Q q=>PySem.P.lt_str q
  |1,_,_=>exact fun E Q q=>PyProof.Rows.lt_int q
end
end L3
namespace L3
open PySem PySem.Spec PyProof.Rows L2 PySem.W PySem.Calls
section
variable {prog:Program} {w:World} {A:Around} {E:Value->Shared->Prop} {s:Shared} {ks vs:List Value} {ans:Nat->Nat->Bool}
def Zk9(prog:Program)(w:World)(A:Around)(κ:SortKind)(ks:List Value)(n:Nat)(ans:Nat->Nat->Bool)(s:Shared):Prop:=
 ∀i j,i<n->j<n->∀C:Bool->Shared->Prop,C (ans i j) s->wpAny (model prog w) A (keyLt' κ (ks.getD i Value.none) (ks.getD j Value.none)) C (fun _ _=>False) s
structure Zs4 (ks vs:List Value) (ans:Nat->Nat->Bool) (st:SortSt):Prop where
 ex:∃p:Array Nat,Pl vs.length p/\ZaD ans p vs.length/\(arrOf st).map (·.2)=List.toArray (p.toList.map fun i=>vs.getD i Value.none)
 ok:failedOf st=none
theorem ZnZ{Q:SortSt->Shared->Prop}{κ:SortKind}(o:Ord ans)(hl:ks.length=vs.length)(h2:2<=vs.length)(h64:vs.length<64)(hk:Zk9 prog w A κ ks vs.length ans s)(q:∀st,Zs4 ks vs ans st->Q st s):wpAny (model prog w) A ((sortRuns').run (SortSt.mk' κ (ks.toArray.zip vs.toArray) #[] 7 none)) (fun r s'=>Q r.2 s') E s:=by
 refine kat_run (G:=fun p s'=>Pl vs.length p/\ZaD ans p vs.length/\s'=s) hl h2 h64 (fun p st s' _ e f g=> ?_) (Zle (fun s'=>s'=s) (fun i j C s1 hi hj e hC=> ?_) (fun a s' z e=>⟨z.1,z.2,e⟩) _ s s (Zmr o (by omega)) rfl)
 ·obtain⟨a,b,rfl⟩:=g;exact q st ⟨⟨p,a,b,kat_snds hl e⟩,f⟩
 ·subst e;exact hk i j hi hj _ (hC _ rfl)
theorem Zpq(o:Ord ans)(hl:ks.length=vs.length)(h2:vs.length<2)(κ:SortKind):Zs4 ks vs ans (SortSt.mk' κ (ks.toArray.zip vs.toArray) #[] 7 none):=by
 refine⟨⟨List.toArray (List.range vs.length),⟨by simp,Array.Perm.refl _⟩,fun i j hij hj=> ?_, ?_⟩,rfl⟩
 ·have:i=j:=by omega
  subst this;exact o.irr _
 ·apply Array.toList_inj.mp
  show((ks.toArray.zip vs.toArray).map (·.2)).toList=_;rw[Array.toList_map,ksk_zip];show List.map (·.2) (ks.toArray.toList.zip vs)=(List.range vs.length).map fun i=>vs.getD i Value.none;have e:List.map (·.2) (ks.toArray.toList.zip vs)=vs:=List.map_snd_zip (by simp[hl]);rw[e]
  apply List.ext_getElem
  ·simp
  ·intro i h1 h3;simp[h1]
end
section
variable {X:Cx} {pins:List (Addr×Obj)} {σ:L2.St} {H:Hp} {s:Shared}
structure Zh4 (X:Cx) (a:Addr):Prop where
 new:X.s₀.heap.objs.size<=a
 cells:∀x c,X.env.cells.lookup x=some c->c≠a
 pn:∀p∈X.pn,p.1≠a
theorem Zhk(I:L2.Inv X pins σ H s){a:Addr}(h:s.heap.objs.size<=a):Zh4 X a:=by
 refine⟨Nat.le_trans I.sz h,fun x c e z=> ?_,fun p hp z=> ?_⟩
 ·obtain⟨v,o,e1,_⟩:=I.cell x c e;exact absurd (z▸Heap.lt_size e1) (Nat.not_lt.mpr h)
 ·exact absurd (z▸Heap.lt_size (I.pin p (List.mem_append_left _ hp)).1) (Nat.not_lt.mpr h)
theorem Zem{ps:List (Addr×Obj)}{a:Addr}{o o':Obj}{h':Heap}(I:L2.Inv X ((a,o)::ps) σ H s)(l:Zh4 X a)(n:∀p∈ps,p.1≠a)(k:∀b u,b≠a->s.heap.get? b=some u->h'.get? b=some u)(e:h'.get? a=some o')(nc:∀v,o'.data≠.cell v):L2.Inv X ((a,o')::ps) σ H {s with heap:=h'}:=by
 have pa:=I.pin (a,o) (List.mem_append_right _ (.head _));have I1:L2.Inv X ps σ H s:=I.pins_of fun p hp=>I.pin p (List.mem_append_right _ (.tail _ hp));have I2:L2.Inv X ps σ H {s with heap:=h'}:=I1.turned (it:=a) (t':=s.toks) k pa.2.1 pa.2.2.1 (.inr l.new) l.cells fun p hp=>(List.mem_append.mp hp).elim (l.pn p) (n p);refine I2.pins_of fun p hp=> ?_;rcases List.mem_cons.mp hp with rfl|hp
 ·exact⟨e,pa.2.1,pa.2.2.1,pa.2.2.2.1,nc⟩
 ·exact I2.pin p (List.mem_append_right _ hp)
theorem Xh{h:Heap}{a:Addr}{f:Array Value->Array Value}:∀b u,b≠a->h.get? b=some u->(h.update a (Obj.mapSeq f)).get? b=some u:=fun b u n e=>(Heap.get?_update_other _ _ (Ne.symm n)).trans e
theorem Jr{c:String}{xs:Array Value}{n:Nat}:∀v,(seqObj c xs n).data≠.cell v:=fun _ z=>nomatch z
variable {k:Nat} {g:Addr} {fd:FuncData} {p:Str} {sp:Sp}
theorem Zka:∀{xs:List V} {vs:List Value} (_:Yr xs vs) (i:Nat),i<vs.length->Yn (xs.getD i .non) (vs.getD i Value.none)
 |_,_,.nil,i,h=>absurd h (Nat.not_lt_zero _)
 |_,_,.cons v _,0,_=>v
 |_,_,.cons _ t,i+1,h=>Zka t i (by simpa using h)
theorem ZqR{xs:List V}{vs:List Value}(r:Yr xs vs){p:Array Nat}(pl:Pl vs.length p):Yr (p.toList.map fun i=>xs.getD i .non) (p.toList.map fun i=>vs.getD i Value.none):=by
 have mem:∀i∈p.toList,i<vs.length:=fun i hi=>by
  have:=(Array.perm_iff_toList_perm.mp pl.perm).mem_iff (a:=i)
  simpa using this.mp hi
 have go:∀l:List Nat,(∀i∈l,i<vs.length)->Yr (l.map fun i=>xs.getD i .non) (l.map fun i=>vs.getD i Value.none):=by
  intro l
  induction l with
  |nil=>exact fun _=> .nil
  |cons i l ih=>exact fun h=> .cons (Zka r i (h i (.head _))) (ih fun j hj=>h j (.tail _ hj))
 exact go _ mem
theorem ZqS{α β:Type}{xs:List α}{ks:List β}{a:α}{b:β}(hl:xs.length=ks.length){p:Array Nat}(pl:Pl xs.length p):(p.toList.map fun i=>(xs.getD i a,ks.getD i b)).Perm (xs.zip ks):=by
 have e:(List.range xs.length).map (fun i=>(xs.getD i a,ks.getD i b))=xs.zip ks:=by
  apply List.ext_getElem
  ·simp[hl]
  ·intro i h1 h2;have h3:i<xs.length:=by simpa using h1
   have h4:i<ks.length:=by omega
   simp[h3,h4]
 rw[<-e];refine List.Perm.map _ ?_
 simpa using Array.perm_iff_toList_perm.mp pl.perm
theorem ZqT{α β:Type}{lt:β->β->Bool}{f:Nat->α}{kk:Nat->β}{n:Nat}{p:Array Nat}(so:ZaD (fun i j=>lt (kk i) (kk j)) p n)(pl:Pl n p):(p.toList.map fun i=>(f i,kk i)).Pairwise (fun a b=>lt b.2 a.2=false):=by
 rw[List.pairwise_map,List.pairwise_iff_getElem];intro i j hi hj hij;have sz:p.toList.length=n:=by rw[Array.length_toList,pl.size]
 have h:=so i j (Nat.le_of_lt hij) (by omega);have e:∀m (hm:m<p.toList.length),at_ p m=p.toList[m]:=fun m hm=>by
  have hm':m<p.size:=by simpa using hm
  simp[at_,Array.getD,hm']
 rw[e i hi,e j hj] at h
 exact h
end
end L3
namespace L3
open PySem PySem.Spec PyProof.Rows L2 PySem.W PySem.Calls
section
variable {prog:Program} {w:World} {A:Around} {E:Value->Shared->Prop} {s:Shared} {vs:List Value} {ans:Nat->Nat->Bool}
abbrev Zcc(h:Heap)(D:Addr)(vs:List Value):Heap:=((h.update D (Obj.mapSeq fun _=>(#[]:Array Value))).push (seqObj "tuple" vs.toArray 0)).push (seqObj "list" #[] 0)
theorem Zmu{D:Addr}{n:Nat}{P:PySem.Fin->Shared->Prop}(ho:s.heap.get? D=some (seqObj "list" vs.toArray n))(h64:vs.length<64)(o:Ord ans)
  (hk:2<=vs.length->wpAny (model prog w) A (keyKind' vs.toArray) (fun κ s'=>s'={s with heap:=Zcc s.heap D vs}/\Zk9 prog w A κ vs vs.length ans {s with heap:=Zcc s.heap D vs}) (fun _ _=>False) {s with heap:=Zcc s.heap D vs})
  (q:∀p:Array Nat,Pl vs.length p->ZaD ans p vs.length->P (.done (.ret .none)) {s with heap:=sortedHeap s.heap D vs (List.toArray (p.toList.map fun i=>vs.getD i Value.none))}):wpAny (model prog w) A (Builtin.«list.sort» ⟨[.ref D],[]⟩) P E s:=by
 have hz:vs.length<=sizeLine:=by rw[sizeLine_eq];omega
 have za:vs.toArray.size<=sizeLine:=by rw[List.size_toArray];exact hz
 obtain⟨e1,o1⟩:∃e1,(s.heap.update D (Obj.mapSeq fun _=>(#[]:Array Value))).get? D=some (seqObj "list" #[] e1):=⟨_,get?_update_seq ho fun _=> #[]⟩
 have o2:(Zcc s.heap D vs).get? D=some (seqObj "list" #[] e1):=Heap.get?_push_of_some _ (Heap.get?_push_of_some _ o1);rw[list_sort_plain];refine wpAny_bind (listItems_at ho rfl (wpAny_bind (listUpdate_at ho rfl (wpAny_bind (seqEpoch_at o1 rfl (wpAny_bind (wpAny_newTuple (wpAny_bind (wpAny_newList (wpAny_holding ?_) (Nat.zero_le _))) hz)))) za (Nat.zero_le _))));have zp:∀p:Array Nat,Pl vs.length p->(List.toArray (p.toList.map fun i=>vs.getD i Value.none)).size<=sizeLine+1:=fun p pl=>by rw[List.size_toArray,List.length_map,Array.length_toList,pl.size,sizeLine_eq];omega
 dsimp only
 by_cases h2:vs.length<2
 ·have h3:vs.toArray.size<2:=by rw[List.size_toArray];exact h2
  rw[if_pos h3,if_pos h3];refine wpAny_bind (wpAny_pure ?_);refine wpAny_bind (wpAny_pure ?_);obtain⟨⟨p,pl,so,hout⟩,_⟩:=Zpq (ks:=vs) o rfl h2 general'
  try dsimp only
  rw[hout];refine wpAny_bind (seqEpoch_at o2 rfl (wpAny_bind (listUpdate_at o2 rfl ?_ (Nat.zero_le _) (zp p pl))));simp only [reduceIte,bne_self_eq_false,Bool.false_eq_true];exact wpAny_pure (q p pl so)
 ·have h3:¬vs.toArray.size<2:=by rw[List.size_toArray];exact h2
  rw[if_neg h3,if_neg h3];refine wpAny_bind (wpAny_mono (hk (by omega)) (fun κ s0 z=> ?_) fun _ _ x=>x.elim);obtain⟨rfl,ak⟩:=z;refine wpAny_bind (wpAny_mono (ZnZ (Q:=fun st s'=>Zs4 vs vs ans st/\s'={s with heap:=Zcc s.heap D vs}) o rfl (by omega) h64 ak fun st dn=>⟨dn,rfl⟩) (fun r s' z=> ?_) fun _ _ x=>x);obtain⟨⟨⟩,st⟩:=r;obtain⟨⟨⟨p,pl,so,hout⟩,hf⟩,rfl⟩:=z
  try dsimp only
  rw[hout,hf];refine wpAny_bind (seqEpoch_at o2 rfl (wpAny_bind (listUpdate_at o2 rfl ?_ (Nat.zero_le _) (zp p pl))));simp only [reduceIte,bne_self_eq_false,Bool.false_eq_true];exact wpAny_pure (q p pl so)
end
section
variable {X:Cx} {pins:List (Addr×Obj)} {σ:L2.St} {H:Hp} {s:Shared}
theorem Zpr{h:Heap}{D:Addr}{vs:List Value}:∀b u,b≠D->h.get? b=some u->(Zcc h D vs).get? b=some u:=fun b u n e=>Heap.get?_push_of_some _ (Heap.get?_push_of_some _ (Xh b u n e))
end
end L3
namespace L3
open PySem PySem.Spec PyProof.Rows L2 PySem.W PySem.Calls
section
variable {X:Cx}
end
end L3
namespace L3
open PySem PySem.Spec PyProof.Rows L2
section
variable {X:Cx}
def Zs5(H₀:Hp)(t:TE):TE:=fun σ H Q=>t σ H fun v H1=>∃a H2,ZrO H₀ a H1 H2/\Q v H2
theorem Zfw{e:PySem.Expr}{t:TE}(h:PE X e t):PE X e (Zs5 X.H₀ t):=fun pins s σ H Q I q=>
 thn (h pins s σ H _ I q) fun _ _ z=>by
  obtain⟨v,H1,I1,r1,a,H2,⟨hf,o,u,e1,rfl⟩,q1⟩:=z;exact⟨v,_,Zp2 I1 e1 hf,r1,q1⟩
end
end L3
namespace M4
open PySem L3 M3
section
variable {α:Type} {lt:α->α->Bool}
def Asc(lt:α->α->Bool)(l:List α):Prop:=l.Pairwise fun x y=>lt y x=false
theorem Zkb(o:STO lt):∀{a b:List α},a.Perm b->Asc lt a->Asc lt b->a=b
 |[],b,p,_,_=>(List.nil_perm.mp p).symm
 |x::a,[],p,_,_=>absurd (List.perm_nil.mp p) (by simp)
 |x::a,y::b,p,ha,hb=>by
  have ha:=List.pairwise_cons.mp ha;have hb:=List.pairwise_cons.mp hb;have e:x=y:=by
   have m1:x∈y::b:=p.mem_iff.mp (List.mem_cons_self ..);have m2:y∈x::a:=p.mem_iff.mpr (List.mem_cons_self ..);rcases List.mem_cons.mp m1 with z|z
   ·exact z
   ·rcases List.mem_cons.mp m2 with w|w
    ·exact w.symm
    ·rcases o.tri x y with q|q|q
     ·exact absurd q (by rw[hb.1 x z];simp)
     ·exact q
     ·exact absurd q (by rw[ha.1 y w];simp)
  subst e;rw[Zkb o ((List.perm_cons x).mp p) ha.2 hb.2]
end
end M4
namespace L3
open PySem PySem.Spec PyProof.Rows L2 PySem.W PySem.Calls
section
variable {X:Cx} {pins:List (Addr×Obj)} {σ:L2.St} {H:Hp} {s:Shared} {A:Around}
theorem Zps{ps:List (Addr×Obj)}{a:Addr}{o o':Obj}{h':Heap}{t':Nat}(I:L2.Inv X ((a,o)::ps) σ H s)(l:Zh4 X a)(n:∀p∈ps,p.1≠a)(k:∀b u,b≠a->s.heap.get? b=some u->h'.get? b=some u)(e:h'.get? a=some o')(nc:∀v,o'.data≠.cell v):L2.Inv X ((a,o')::ps) σ H {s with heap:=h',toks:=t'}:=by
 have pa:=I.pin (a,o) (List.mem_append_right _ (.head _));have I1:L2.Inv X ps σ H s:=I.pins_of fun p hp=>I.pin p (List.mem_append_right _ (.tail _ hp));have I2:L2.Inv X ps σ H {s with heap:=h',toks:=t'}:=I1.turned (it:=a) (t':=t') k pa.2.1 pa.2.2.1 (.inr l.new) l.cells fun p hp=>(List.mem_append.mp hp).elim (l.pn p) (n p);refine I2.pins_of fun p hp=> ?_;rcases List.mem_cons.mp hp with rfl|hp
 ·exact⟨e,pa.2.1,pa.2.2.1,pa.2.2.2.1,nc⟩
 ·exact I2.pin p (List.mem_append_right _ hp)
theorem ZaT{ps:List (Addr×Obj)}{p q:Addr×Obj}(I:L2.Inv X (p::q::ps) σ H s):L2.Inv X (q::p::ps) σ H s:=
 I.pins_of fun r hr=>I.pin r (List.mem_append_right _ (by
  rcases List.mem_cons.mp hr with rfl|hr
  ·exact .tail _ (.head _)
  ·rcases List.mem_cons.mp hr with rfl|hr
   ·exact .head _
   ·exact .tail _ (.tail _ hr)))
variable {k:Nat} {g:Addr} {fd:FuncData} {p:Str} {sp:Sp}
abbrev Zt3(X:Cx)(pins:List (Addr×Obj))(σ:L2.St)(R:VK)(E:Value->Shared->Prop):Result->Shared->Prop:=fun r s'=>match r with| .ok (.ret v)=>EP X pins σ R v s'| .ok _=>False| .error e=>E e s'
section
variable {prog:Program} {w:World} {B:Around} {R:Result->Shared->Prop} {it S:Addr} {key:Value} {c:Nat} {s:Shared}
theorem ZhX{P:PySem.Fin->Shared->Prop}(hP:∀f s',P f s'->match f with| .done x=>R (.ok x) s'| .again c'=>c'.quiet=true/\codeAny (model prog w) B c' R s')
  (h:wpAny (model prog w) B.in1 (Builtin.«min.loop» ⟨[.ref it,key,.ref S],[]⟩) P (fun e s'=>R (.error e) s') s):codeAny (model prog w) B (.builtin "min.loop" ⟨[.ref it,key,.ref S],[]⟩) R s:=
 codeAny_builtin F.entry_min_loop (by
  have e:=Around.under_plainId (A:=B) F.plain_min_loop ⟨[Value.ref it,key,.ref S],[]⟩;rw[e];exact wpAny_mono h (fun f s' z=>hP f s' z) fun _ _ z=>z)
theorem Zpt:toString "min"++toString ".loop"="min.loop":=rfl
theorem ZqU{Kp:Heap->Prop}{ub uk:Value}(hS:s.heap.get? S=some (seqObj "list" #[ub,uk] c))(hn:∀(Q:Option Value->Shared->Prop) (E:Value->Shared->Prop),(∀h' tk,Kp h'->Q none {s with heap:=h',toks:=tk})->wpAny (model prog w) B.in1 (pyNext (.ref it)) Q E s)
  (kp:∀h',Kp h'->h'.get? S=some (seqObj "list" #[ub,uk] c))(q:∀h' tk,Kp h'->R (.ok (.ret ub)) {s with heap:=h'.update S (Obj.mapSeq fun _=> #[]),toks:=tk}):codeAny (model prog w) B (.builtin "min.loop" ⟨[.ref it,key,.ref S],[]⟩) R s:=by
 refine ZhX (P:=fun f s'=>match f with| .done x=>R (.ok x) s'| .again _=>False) (fun f s' z=>by cases f with|done x=>exact z|again _=>exact z.elim) ?_;show wpAny _ _ (seqItems? (.ref S)>>=_) _ _ s;refine wpAny_bind (wpAny_seqItems hS rfl (show wpAny _ _ (tryCatch (pyNext (.ref it)) _>>=_) _ _ s from ?_));refine wpAny_bind (wpAny_tryCatch (hn _ _ fun h' tk k=> ?_));show wpAny _ _ (updateSeq S (fun _=> #[])>>=_) _ _ _
 exact wpAny_bind (wpAny_updateSeq (kp h' k) rfl (wpAny_bind (wpAny_letGo (wpAny_pure (q h' tk k)))))
end
theorem Zen{l it:Addr}{oI:Obj}{ps:List (Addr×Obj)}{xs:List V}{j:Nat}{x:V}(hh:X.A.handled=none)(nl:l≠it)(lI:Zh4 X it)(n:∀p∈ps,p.1≠it)(hq:SqL X.K H l xs)(hx:xs[j]? =some x)(I:L2.Inv X ((it,oI)::ps) σ H s)(hit:s.heap.IsListIter it l j)(Q:Option Value->Shared->Prop)(E:Value->Shared->Prop)
  (q:∀v h' tk,(Yn x v/\∀tk',∃o,L2.Inv X ((it,o)::ps) σ H {s with heap:=h',toks:=tk'}/\∀h2:Heap,h2.get? it=some o->h2.IsListIter it l (j+1))->Q (some v) {s with heap:=h',toks:=tk}):wpAny (model X.prog X.w) X.A.in1 (pyNext (.ref it)) Q E s:=by
 obtain⟨vs,rx,pl,_⟩:=I.list hq;have lt:j<vs.length:=by rw[<-rx.length];exact(List.getElem?_eq_some_iff.mp hx).1
 refine(Walks.list (prog:=X.prog) (w:=X.w) (A:=X.A.in1) hh it l nl vs.toArray).item j s Q E (by rw[List.size_toArray];exact lt) ⟨hit,pl.isList⟩ fun v h' tk pv st kp=>q v h' tk ⟨?_,fun tk'=> ?_⟩
 ·have e:vs[j]? =some v:=by simpa using pv
  have r:=Zka rx j lt;rw[List.getD_eq_getElem?_getD,List.getD_eq_getElem?_getD,hx,e] at r
  exact r
 ·obtain⟨⟨o,e1,e2,e3⟩,_⟩:=st;exact⟨o,Zps I lI n (fun b u nb e=>kp b u (by simpa using nb) e) e1 (fun v z=>by rw[e3] at z;cases z),fun h2 e=>⟨o,e,e2,e3⟩⟩
end
end L3
namespace L3
open PySem PySem.Spec PyProof.Rows L2
section
variable {P:Program} {w:World} (l:Addr) (xs:Array Value) (n:Nat) (d1:Option Addr) (s1:Array (Option Value)) (y:Value) (e:Nat->Bool)
theorem Zs6(k:Nat):∀i:Nat,xs.size-i=k->MeetsIn P w (Builtin.«list.__contains__.loop» ⟨[.ref l,y,rawInt i],[]⟩)
  (fun A R s=>s.heap.get? l=some (Zlb d1 xs n s1)/\(∀j (h1:j<xs.size),EqP P w A.in1 s xs[j] y (e j))/\R (.ok (.ret (.bool (((List.range xs.size).drop i).any e)))) s):=by
 induction k with
 |zero=>
  intro i hk A R s h;obtain⟨hq,gs,dr,tk,oss⟩:=s;obtain⟨u1,ue,q⟩:=h;have v1:xs[((i:Nat):Int).toNat]? =none:=by simp;omega
  have v3:(List.range xs.size).drop i=[]:=by simp;omega
  rw[v3] at q
  wp_walk using AutoSeq1.wpAny_loadPart' u1
  rw[v1]
  wp_walk
  exact q
 |succ k ih=>
  intro i hk A R s h;obtain⟨hq,gs,dr,tk,oss⟩:=s;obtain⟨u1,ue,q⟩:=h;have t1:i<xs.size:=by omega
  have v1:xs[((i:Nat):Int).toNat]? =some xs[i]:=by simp[t1]
  have v3:(List.range xs.size).drop i=i::(List.range xs.size).drop (i+1):=by simp[List.drop_eq_getElem_cons,t1]
  have v4:((i:Int)+1)=((i+1:Nat):Int):=by push_cast;rfl
  rw[v3,List.any_cons] at q
  wp_walk using AutoSeq1.wpAny_loadPart' u1
  rw[v1];refine wpAny_bind (ue i t1 _ _ ?_);cases ei:e i with
  |true=>
   rw[ei,Bool.true_or] at q
   wp_walk
   exact q
  |false=>
   rw[ei,Bool.false_or] at q
   wp_walk
   rw[v4];refine⟨plainId_quiet MeetsSeq.plain_contains_loop _,codeAny_builtin MeetsSeq.entry_contains_loop ?_⟩;rw[Around.under_plainId MeetsSeq.plain_contains_loop _];exact ih (i+1) (by omega) A R _ ⟨u1,ue,q⟩
theorem Zs7:MeetsIn P w (Builtin.«list.__contains__» ⟨[.ref l,y],[]⟩)
  (fun A R s=>s.heap.get? l=some (Zlb d1 xs n s1)/\(∀j (h1:j<xs.size),EqP P w A.in1 s xs[j] y (e j))/\R (.ok (.ret (.bool ((List.range xs.size).any e)))) s):=by
 intro A R s h;obtain⟨hq,gs,dr,tk,oss⟩:=s;obtain⟨u1,ue,q⟩:=h
 wp_walk using AutoSeq1.wpAny_loadPart' u1
 refine⟨plainId_quiet MeetsSeq.plain_contains_loop _,codeAny_builtin MeetsSeq.entry_contains_loop ?_⟩;rw[Around.under_plainId MeetsSeq.plain_contains_loop _];exact Zs6 l xs n d1 s1 y e _ 0 rfl A R _ ⟨u1,ue,by simpa using q⟩
end
section
variable {X:Cx} {pins:List (Addr×Obj)} {σ:L2.St} {H:Hp} {s:Shared} {A:Around} {E:Value->Shared->Prop}
theorem Zpu{l:Addr}{xs:Array Value}{y:Value}{e:Nat->Bool}{Q:Value->Shared->Prop}(hl:s.heap.IsList l xs)(he:∀j (h1:j<xs.size),EqP X.prog X.w A.in1 s xs[j] y (e j))(q:∀b,b=(List.range xs.size).any e->Q (.bool b) s):
  wpAny (model X.prog X.w) A (call (.builtin "list.__contains__") [.ref l,y]) (fun v s'=>∃b,v=.bool b/\Q (.bool b) s') E s:=by
 obtain⟨⟨c1,d1,t1,s1⟩,o1,k1,n,e1⟩:=id hl;simp only at k1 e1
 subst k1 e1;exact call_meetsIn F.slot_list_contains hl.typeIs F.entry_list_contains (F.args_list_contains_2 _ _) (Zs7 l xs n d1 s1 y e) ⟨o1,he,_,rfl,q _ rfl⟩
theorem Zo0{α:Type}(f:α->Bool)(d:α):∀l:List α,((List.range l.length).any fun j=>f (l.getD j d))=l.any f:=by
 intro l;have e:l=(List.range l.length).map fun j=>l.getD j d:=by
  apply List.ext_getElem
  ·simp
  ·intro i h1 h2;simp[h1]
 conv=>rhs;rw[e]
 rw[List.any_map]
 rfl
def ZtP(K:PySem.W.Frag)(neg:Bool):R2:=fun x y H Q=>∃p n d xs ds,y=.ref p/\n<=20/\SqL K H p xs/\Rep K H d x/\Zh3 K H ds xs/\(∀e∈ds,ZaR n e d=true)/\Q (.bl (if neg then !(ds.any fun e=>XQ n e d) else ds.any fun e=>XQ n e d)) H
theorem ZqV(I:L2.Inv X pins σ H s){p:Addr}{n:Nat}{d:Dt}{x:V}{v:Value}{xs:List V}{ds:List Dt}(hn:n<=20)(hu:X.A.units+30<cLine)(rx:Yn x v)(r1:Rep X.K H d x)(rs:Zh3 X.K H ds xs)(lk:∀e∈ds,ZaR n e d=true){us:List Value}(ru:Yr xs us):
  ∀j (h1:j<us.toArray.size),EqP X.prog X.w X.A.in1 s us.toArray[j] v (XQ n (ds.getD j (.v .non)) d):=fun j h1=>by
 have h2:j<us.length:=by simpa using h1
 obtain⟨y,ry,rv⟩:=Zei rs ru j h2;have hj:j<ds.length:=by rw[Paired.length rs,ru.length];exact h2
 have m:ds.getD j (.v .non)∈ds:=by rw[List.getD_eq_getElem?_getD,List.getElem?_eq_getElem hj];exact List.getElem_mem hj
 rw[List.getElem_toArray];exact(Zhj I n _ d y x _ v X.A.in1 ry r1 rv rx (lk _ m) (by show X.A.units+1+n<cLine;omega)).1
theorem Zs8(hu:X.A.units+30<cLine):OpR X (compareOp .In) (ZtP X.K false):=by
 intro pins s σ H x y v u Q I rx ry h;obtain⟨p,n,d,xs,ds,rfl,hn,hq,r1,rs,lk,q⟩:=h;cases ry;obtain⟨us,ru,pl,_⟩:=I.list hq;show wpAny _ X.A (do return Value.bool (<-contains (.ref p) v)) _ _ s;refine wpAny_bind (wpAny_contains_slot pl.isList.typeIs F.slot_list_contains (wpAny_mono (Zpu (X:=X) (Q:=fun v s'=>(EP X pins σ Q) v s') pl.isList (ZqV (p:=p) I hn hu rx r1 rs lk ru) fun b hb=>⟨.bl b,H,I,rfl, ?_⟩) (fun v s' hv=> ?_) fun _ _ e=>e))
 ·have le:us.toArray.size=ds.length:=by rw[List.size_toArray,<-ru.length,Paired.length rs]
  rw[hb,le,Zo0 (fun e=>XQ n e d)];exact q
 ·obtain⟨b,rfl,told⟩:=hv;exact wpAny_truthy_bool (wpAny_pure told)
end
end L3
namespace L3
open PySem PySem.Spec PyProof.Rows L2 PySem.W PySem.Calls
section
variable {X:Cx}
end
end L3
namespace L3
open PySem PySem.Spec PyProof.Rows L2 PySem.W PySem.Calls
section
variable {X:Cx} {pins:List (Addr×Obj)} {σ:L2.St} {H:Hp} {s:Shared} {a:Addr} {kvs:List (Key×V)} {k:Key} {u:Value} {A:Around} {E:Value->Shared->Prop}
theorem Zpv{v:V}{r:Value}{Q:Value->Shared->Prop}(I:L2.Inv X pins σ H s)(e:H a=some (.dK kvs))(hl:kvs.length<sizeLine)(ry:Yn (kV k) u)(rv:Yn v r)
  (h1:∀w s' x,YK kvs k=some x->L2.Inv X pins σ H s'->Yn x w->Q w s')(h2:∀s',YK kvs k=none->L2.Inv X pins σ (upd H a (.dK (JF kvs k v))) s'->Q r s'):
  wpAny (model X.prog X.w) A (call (.builtin "dict.setdefault") [.ref a,u,r]) Q E s:=by
 obtain⟨z,hd,vs,rel,dd⟩:=Zrj I.hok e;have hz:vs.length<=sizeLine:=by rw[<-rel.length];exact z
 have hv:=rel.val k;refine call_meetsIn PySem.F.slot_dict_setdefault dd.typeIs PySem.F.entry_dict_setdefault (PySem.F.args_dict_setdefault_3 _ _ _) (kt_meets_setdefault (Xo X.prog X.w) a (ZhH ry) hd r) ⟨vs,dd,hz,fun w hw=> ?_,fun hn h' dd' hs=> ?_⟩
 ·rw[hw] at hv
  cases ex:YK kvs k with
  |none=>rw[ex] at hv;exact hv.elim
  |some x=>
   rw[ex] at hv
   exact h1 w _ x ex (I.tok _) hv
 ·have ex:YK kvs k=none:=by
   rw[hn] at hv
   cases ex:YK kvs k with
   |none=>rfl
   |some x=>rw[ex] at hv;exact hv.elim
  have he:∃q,h'.get? a=some q:=let ⟨q,_,_,hq,_⟩:=dd';⟨q,hq⟩;have l2:(JF kvs k v).length<=sizeLine:=by have:=ZaQ kvs k v;omega
  exact h2 _ ex (ZjU I (by rw[e];exact True.intro) hs he (Zmc l2 hd (rel.put k rv) dd'))
end
section
variable {X:Cx} {o e f:PySem.Expr} {apos cpos:Pos} {td ty tx:TE}
def ZqW(td ty tx:TE):TE:=fun σ H Q=>td σ H fun x H1=>∃a,x=.ref a/\IsD H1 a/\ty σ H1 fun y H2=>tx σ H2 fun z H3=>∃kvs k,H3 a=some (.dK kvs)/\kvs.length<sizeLine/\y=kV k/\(∀x,YK kvs k=some x->Q x H3)/\(YK kvs k=none->Q z (upd H3 a (.dK (JF kvs k z))))
theorem Zo1(ho:PE X o td)(he:PE X e ty)(hf:PE X f tx)(m:M2 X o "setdefault" apos e f cpos):PE X (.Call (.Attribute o "setdefault" apos) [e,f] [] cpos) (ZqW td ty tx):=by
 intro pins s σ H Q I h;refine wpAny_Call_method m.base m.few m.line PySem.F.plainAttrs_dict PySem.F.slot_dict_setdefault PySem.F.type_dict_setdefault (thn (ho pins s σ H _ I h) fun u s1 ⟨x,H1,I1,rx,a,ex,d,q1⟩=> ?_);subst ex;obtain rfl:u=Value.ref a:=rx;obtain⟨t1,t2,_⟩:=ZoT I1 d;refine⟨t1,t2, ?_⟩;rw[m.trees];refine Calls.callWith_builtin rfl (Calls.evalArgs_plain (Calls.spliced_cons (thn (he pins s1 σ H1 _ I1 q1) fun iv s2 ⟨y,H2,I2,ry,q2⟩=>
  Calls.spliced_cons (thn (hf pins s2 σ H2 _ I2 q2) fun fv s3 ⟨z,H3,I3,rz,kvs,k,e3,l3,ey,qa,qb⟩=>Calls.spliced_nil ?_))))
 subst ey;exact Zpv I3 e3 l3 ry rz (fun w s' x ex I4 rw'=>⟨x,H3,I4,rw',qa x ex⟩) fun s' ex I4=>⟨z,_,I4,rz,qb ex⟩
end
end L3
namespace L3
open PySem PySem.Spec PyProof.Rows L2
section
variable {X:Cx} {K:PySem.W.Frag}
end
end L3
namespace L3
open PySem PySem.Spec PyProof.Rows L2
section
variable {prog:Program} {w:World} {A:Around} {E:Value->Shared->Prop} {s:Shared}
section
variable {prog:Program} {w:World} {A:Around} {E:Value->Shared->Prop} {s:Shared}
end
end
section
variable {X:Cx} {pins:List (Addr×Obj)} {σ:L2.St} {H:Hp} {s:Shared}
end
end L3
namespace L3
open PySem PySem.Spec PyProof.Rows L2
def Itv(K:PySem.W.Frag)(a:Addr)(ys:List V):It:=
 ⟨fun i H=>SqL K H a ys/\i<ys.length,fun i H x H'=>H'=H/\ys[ys.length-1-i]? =some x,fun i H=>SqL K H a ys/\ys.length=i⟩
theorem Zpw{P:Program}{w:World}{K:PySem.W.Frag}{tg:PySem.Expr}(a it:Addr)(ys:List V):
  ZnE P w K tg (Itv K a ys) [it] it (fun i h=>h.IsRevIter it a ((ys.length:Int)-1-(i:Nat))) where
 mem:=by simp
 obj:=fun i h st b hb=>by
  have e:b=it:=by simpa using hb
  subst e;obtain⟨o,e,c,d⟩:=st;exact⟨o,e,fun v z=>by rw[d] at z;cases z⟩
 keep:=fun i h h' st k=>st.at fun o e=>k it (by simp) o e
 item:=by
  intro X hP hw hK hc i pins s σ H E I hf st hg;subst hP hw hK;obtain⟨hq,lt⟩:=hg;obtain⟨its,rv,p,hz⟩:=I.list hq;have hl:=rv.length;obtain⟨x,hx⟩:∃x,ys[ys.length-1-i]? =some x:=⟨_,List.getElem?_eq_getElem (by omega)⟩
  obtain⟨u,hu,ru⟩:=rv.get hx;obtain⟨f0,f1,f2,f3,f4,f5⟩:=hf it (by simp);have e1:(ys.length:Int)-1-(i:Nat)=((ys.length-1-i:Nat):Int):=by omega
  have st:s.heap.IsRevIter it a ((ys.length:Int)-1-(i:Nat)):=st;rw[e1] at st
  refine wpAny_pyNext_rev_item st p.isList (x:=u) (by simpa using hu) fun h' st' sb=> ?_;have I1:L2.Inv X pins σ H {s with heap:=h'}:=I.turned (t':=s.toks) (fun b o hb z=>(sb.2 b hb).trans z) f0 f1 f3 f4 f5;have e2:(ys.length:Int)-1-((i+1:Nat):Int)=((ys.length-1-i:Nat):Int)-1:=by omega
  obtain⟨o,z1,z2,z3⟩:=id st';exact⟨u,rfl,Zn1 (s:={s with heap:=h'}) z1 z2 z3 (by decide) ⟨x,H,I1,ru,⟨rfl,hx⟩,by rw[e2];exact st',fun b hb=>(hf b hb).1⟩⟩
 done:=by
  intro X hP hw hK hc i pins s σ H E I hf st hg;subst hP hw hK;obtain⟨hq,le⟩:=hg;obtain⟨f0,f1,f2,f3,f4,f5⟩:=hf it (by simp);have st:s.heap.IsRevIter it a ((ys.length:Int)-1-(i:Nat)):=st;rw[show(ys.length:Int)-1-(i:Nat)= -1 by omega] at st
  exact wpAny_pyNext_rev_end (I.ok.hd hc) st fun h' eb=>⟨rfl,I.turned (t':=s.toks) (fun b o hb z=>eb b o hb z) f0 f1 f3 f4 f5⟩
 self:=fun _ _ _ _ _ st h=>wpAny_pyIter_revIter st h
section
variable {X:Cx}
def ZtQ(K:PySem.W.Frag)(te:TE):TI:=fun σ H R=>te σ H fun x H1=>∃a ys,x=.ref a/\SqL K H1 a ys/\R (Itv K a ys) H1
theorem Zpx{K:PySem.W.Frag}{tg e:PySem.Expr}{te:TE}{p pos:Pos}(eK:X.K=K)(hg:Gl X "reversed")(hm:X.mg "reversed"=none)(ha:PE X e te)
  (s1:starEach [e] X.env=(false,eval e X.env)::starEach [] X.env:=by rfl):PI X tg (.Call (.Name "reversed" p) [e] [] pos) (ZtQ K te):=by
 subst eK;intro pins s σ H R I h;refine wpAny_Call_Name_kw (ZhA I hg hm Zl8 (PyProof.Rows.callWith_type1 ?_ s1 rfl));rw[s1];show wpAny _ _ (spliced ((false,eval e X.env)::[])) _ _ s;refine Calls.spliced_cons (thn (ha pins s σ H _ I h) fun u s' ⟨x,H1,I1,r1,a,ys,ex,hq,q⟩=>Calls.spliced_nil ?_);subst ex;cases r1;obtain⟨us,r,pl,hz⟩:=I1.list hq;have hlen:=r.length;refine call_reversed_list pl.isList ?_
 have st:Heap.IsRevIter (s'.heap.push (revObj a ((us.toArray.size:Int)-1))) s'.heap.objs.size a ((us.toArray.size:Int)-1):=⟨_,Heap.get?_push_size _ rfl,rfl,rfl⟩
 refine wpAny_pyIter_revIter (s:={s' with heap:=s'.heap.push (revObj a ((us.toArray.size:Int)-1))}) st ?_;refine⟨s'.heap.objs.size,[s'.heap.objs.size],_,_,_,rfl,I1.kept (t':=s'.toks) fun b o z=>Heap.get?_push_of_some _ z,Zpw a _ ys, ?_,fun b hb=> ?_,q⟩
 ·have e:((ys.length:Int)-1-((0:Nat):Int))=(us.toArray.size:Int)-1:=by rw[List.size_toArray,<-hlen];omega
  show Heap.IsRevIter _ _ _ _;rw[e];exact st
 ·have e:b=s'.heap.objs.size:=by simpa using hb
  subst e;exact I1.fpOk (Nat.le_refl _) (I1.hok.fresh (Nat.le_refl _))
end
end L3
namespace L3
open PySem PySem.Spec PyProof.Rows L2 PySem.W PySem.Calls
section
variable {X:Cx} {K:PySem.W.Frag}
theorem Zmv(eK:X.K=K):OpR X (compareOp .In) (rIn K false):=by
 subst eK;exact ZaB
theorem XJ(eK:X.K=K):IxR X (ZrH K):=by
 subst eK;exact ZZ
end
section
variable {P:Program} {w:World} (l b:Addr) (xs ys:Array Value) (n m:Nat) (d1 d2:Option Addr) (s1 s2:Array (Option Value)) (e c:Nat->Bool)
abbrev Zo2(xs ys:Array Value)(e c:Nat->Bool)(i:Nat):Bool:=Zmt e c (decide (ys.size<xs.size)) ((List.range (min xs.size ys.size)).drop i)
theorem Zt4:MeetsIn P w (Builtin.«tuple.__gt__» ⟨[.ref l,.ref b],[]⟩) (fun A R s=>s.heap.get? l=some (Zlc d1 xs n s1)/\s.heap.get? b=some (Zlc d2 ys m s2)/\
  (∀j (h1:j<xs.size) (h2:j<ys.size),EqP P w A.in1 s xs[j] ys[j] (e j))/\(∀j (h1:j<xs.size) (h2:j<ys.size),e j=false->RcP P w A.in1 s .Gt xs[j] ys[j] (c j))/\R (.ok (.ret (.bool (Zo2 xs ys e c 0)))) s):=
 .of_wp fun A R s h=>by
  obtain⟨hq,gs,dr,tk,oss⟩:=s;obtain⟨u1,u2,ue,uc,q⟩:=h;have sub:=AutoSeq1.sub_tuple_tuple;have zl:(xs.toList.zip ys.toList).length=min xs.size ys.size:=by simp
  wp_walk using AutoSeq1.wpAny_loadPart' u1,AutoSeq1.wpAny_loadPart' u2,wpAny_forIn_list _ (fun rest a s'=>a.1=none/\s'=⟨hq,gs,dr,tk,oss⟩/\∃i,rest=(xs.toList.zip ys.toList).drop i/\
   R (.ok (.ret (.bool (Zo2 xs ys e c i)))) ⟨hq,gs,dr,tk,oss⟩) _
  case turn=>
   rintro⟨y,x⟩ rest a s' ⟨ha,rfl,i,zr,zq⟩;have lt:i<(xs.toList.zip ys.toList).length:=Nat.lt_of_not_le fun z=>by rw[List.drop_of_length_le z] at zr;cases zr
   have lm:i<min xs.size ys.size:=zl▸lt;have l1:i<xs.size:=by omega
   have l2:i<ys.size:=by omega
   rw[List.drop_eq_getElem_cons lt] at zr
   injection zr with zyx zrest
   obtain rfl:y=xs[i]:=by simpa using congrArg Prod.fst zyx
   obtain rfl:x=ys[i]:=by simpa using congrArg Prod.snd zyx
   have zd:(List.range (min xs.size ys.size)).drop i=i::(List.range (min xs.size ys.size)).drop (i+1):=by simp[List.drop_eq_getElem_cons,lm]
   unfold Zo2 at zq
   rw[zd] at zq
   unfold Zmt at zq
   refine wpAny_bind (ue i l1 l2 _ _ ?_);cases ei:e i with
   |true=>
    rw[ei,if_pos rfl] at zq
    wp_walk
    exact⟨rfl,rfl,i+1,zrest,zq⟩
   |false=>
    rw[ei,if_neg (by simp)] at zq
    have rc:=uc i l1 l2 ei;unfold RcP at rc
    generalize richCompare CmpOp.Gt xs[i] ys[i]=m at rc⊢
    wp_walk
    first|refine wpAny_bind (rc _ _ ?_)|refine rc _ _ ?_
    wp_walk
    exact⟨_,rfl,zq⟩
  case fin=>
   rintro⟨a1,a2⟩ s' ⟨ha,rfl,i,zr,zq⟩;simp only at ha
   subst ha;have ge:min xs.size ys.size<=i:=Nat.le_of_not_lt fun z=>by rw[List.drop_eq_getElem_cons (zl▸z:i<(xs.toList.zip ys.toList).length)] at zr;cases zr
   unfold Zo2 at zq
   rw[List.drop_of_length_le (by simpa using ge)] at zq
   wp_walk
   exact⟨_,rfl,by simpa [Builtin.Tuple.tupleCompareSizes,Zmt] using zq⟩
  case h=>exact⟨rfl,rfl,0,rfl,q⟩
end
section
variable {P:Program} {w:World} {A:Around} {s:Shared} {l b:Addr} {xs ys:Array Value} {e c:Nat->Bool}
theorem Zs9(hl:s.heap.IsTuple l xs)(hb:s.heap.IsTuple b ys)(hu:A.units<cLine)(he:∀j (h1:j<xs.size) (h2:j<ys.size),EqP P w A.in1 s xs[j] ys[j] (e j))(hc:∀j (h1:j<xs.size) (h2:j<ys.size),e j=false->RcP P w A.in1 s .Gt xs[j] ys[j] (c j)):RcP P w A s .Gt (.ref l) (.ref b) (Zo2 xs ys e c 0):=by
 obtain⟨⟨c1,d1,t1,s1⟩,o1,k1,n,e1⟩:=id hl;obtain⟨⟨c2,d2,t2,s2⟩,o2,k2,m,e2⟩:=id hb;simp only at k1 e1 k2 e2
 subst k1 e1 k2 e2;exact fun E Q q=>wpAny_richCompare_same_room hl.typeIs hb.typeIs F.slot_tuple_gt (call_meetsIn F.slot_tuple_gt hl.typeIs F.entry_tuple_gt (F.args_tuple_gt_2 _ _) (Zt4 l b xs ys n m d1 d2 s1 s2 e c) ⟨o1,o2,he,hc,Zbw q⟩) hu
end
abbrev ZaU:=Int×Str
def ZiR:ZaU->ZaU->Bool:=ZiQ ZbF YL
theorem ZbG:STO ZiR:=Zfv Zel YM
section
variable {X:Cx} {pins:List (Addr×Obj)} {σ:L2.St} {H:Hp} {s:Shared} {A:Around}
def Zco(K:PySem.W.Frag)(H:Hp)(x:ZaU)(a:V):Prop:=∃p,a=.ref p/\SqT K H p [.int x.1,.str x.2]
theorem Zpy(I:L2.Inv X pins σ H s){x:ZaU}{p:Addr}(h:SqT X.K H p [.int x.1,.str x.2]):∃t t',s.heap.IsTuple p #[.int x.1 t,.str x.2 t']:=by
 obtain⟨its,r,T,_⟩:=I.tuple h;cases r with
 |cons a r=>
  cases r with
  |cons b r=>
   cases r;obtain⟨t,rfl⟩:=a;obtain⟨t',rfl⟩:=b;exact⟨t,t',T⟩
theorem Zt5(I:L2.Inv X pins σ H s){x y:ZaU}{a b:V}{u v:Value}(ra:Zco X.K H x a)(rb:Zco X.K H y b)(ru:Yn a u)(rv:Yn b v)(hu:A.units+10<cLine):RcP X.prog X.w A s .Gt u v (ZiR y x):=by
 obtain⟨p,rfl,hp⟩:=ra;obtain⟨p',rfl,hp'⟩:=rb;cases ru;cases rv;obtain⟨t,t2,T1⟩:=Zpy I hp;obtain⟨t',t2',T2⟩:=Zpy I hp';have go:=Zs9 (P:=X.prog) (w:=X.w) (A:=A) (e:=fun j=>if j=0 then(x.1==y.1) else(x.2==y.2)) (c:=fun j=>if j=0 then ZbF y.1 x.1 else YL y.2 x.2) T1 T2 (by omega) (fun j h1 h2=> ?_) (fun j h1 h2 z=> ?_)
 ·have e:Zo2 #[Value.int x.1 t,Value.str x.2 t2] #[Value.int y.1 t',Value.str y.2 t2'] (fun j=>if j=0 then(x.1==y.1) else(x.2==y.2)) (fun j=>if j=0 then ZbF y.1 x.1 else YL y.2 x.2) 0=ZiR y x:=by
   show(if(x.1==y.1)=true then(if(x.2==y.2)=true then false else YL y.2 x.2) else ZbF y.1 x.1)=if y.1=x.1 then YL y.2 x.2 else ZbF y.1 x.1
   by_cases z:x.1=y.1
   ·rw[if_pos (by rw[z];exact beq_self_eq_true _),if_pos z.symm]
    by_cases z2:x.2=y.2
    ·rw[if_pos (by rw[z2];exact beq_self_eq_true _),z2,YM.irr]
    ·rw[if_neg (by rw[beq_false_of_ne z2];simp)]
   ·rw[if_neg (by rw[beq_false_of_ne z];simp),if_neg (Ne.symm z)]
  rw[e] at go
  exact go
 ·match j,h1,h2 with
  |0,_,_=>exact fun E Q q=>wpAny_eqBool_int q
  |1,_,_=>exact fun E Q q=>ZhF (show Yn (.str x.2) (.str x.2 t2) from⟨t2,rfl⟩) (show Yn (.str y.2) (.str y.2 t2') from⟨t2',rfl⟩) rfl rfl X.prog X.w E Q q
 ·match j,h1,h2 with
  |0,_,_=>exact fun E Q q=>PyProof.Rows.gt_int q
  |1,_,_=>exact fun E Q q=>PySem.P.gt_str q
end
section
variable {prog:Program} {w:World} {B:Around} {R:Result->Shared->Prop} {it S:Addr} {c:Nat} {s:Shared}
abbrev Zdu(it S:Addr):Code:=.builtin "max.loop" ⟨[.ref it,.none,.ref S],[]⟩
theorem Zpz:toString "max"++toString ".loop"="max.loop":=rfl
theorem ZhY{P:PySem.Fin->Shared->Prop}(hP:∀f s',P f s'->match f with| .done x=>R (.ok x) s'| .again c'=>c'.quiet=true/\codeAny (model prog w) B c' R s')
  (h:wpAny (model prog w) B.in1 (Builtin.«max.loop» ⟨[.ref it,.none,.ref S],[]⟩) P (fun e s'=>R (.error e) s') s):codeAny (model prog w) B (Zdu it S) R s:=
 codeAny_builtin F.entry_max_loop (by
  rw[Around.under_plainId (A:=B) F.plain_max_loop ⟨[Value.ref it,.none,.ref S],[]⟩];exact wpAny_mono h (fun f s' z=>hP f s' z) fun _ _ z=>z)
theorem ZqX{Kp:Heap->Prop}{ub uk:Value}(hS:s.heap.get? S=some (seqObj "list" #[ub,uk] c))(hn:∀(Q:Option Value->Shared->Prop) (E:Value->Shared->Prop),(∀h' tk,Kp h'->Q none {s with heap:=h',toks:=tk})->wpAny (model prog w) B.in1 (pyNext (.ref it)) Q E s)
  (kp:∀h',Kp h'->h'.get? S=some (seqObj "list" #[ub,uk] c))(q:∀h' tk,Kp h'->R (.ok (.ret ub)) {s with heap:=h'.update S (Obj.mapSeq fun _=> #[]),toks:=tk}):codeAny (model prog w) B (Zdu it S) R s:=by
 refine ZhY (P:=fun f s'=>match f with| .done x=>R (.ok x) s'| .again _=>False) (fun f s' z=>by cases f with|done x=>exact z|again _=>exact z.elim) ?_;refine wpAny_bind (m:=seqItems? (.ref S)) (wpAny_seqItems hS rfl (wpAny_bind (m:=tryCatch (pyNext (.ref it)) _) (wpAny_tryCatch (hn _ _ fun h' tk k=> ?_))));exact wpAny_bind (m:=updateSeq S fun _=> #[]) (wpAny_updateSeq (kp h' k) rfl (wpAny_bind (wpAny_letGo (wpAny_pure (q h' tk k)))))
theorem ZpA{Kv:Value->Heap->Prop}{ub uk:Value}(hS:s.heap.get? S=some (seqObj "list" #[ub,uk] c))(hn:∀(Q:Option Value->Shared->Prop) (E:Value->Shared->Prop),(∀v h' tk,Kv v h'->Q (some v) {s with heap:=h',toks:=tk})->wpAny (model prog w) B.in1 (pyNext (.ref it)) Q E s)
  (q:∀v h' tk,Kv v h'->∃k,RcP prog w B.in1 {s with heap:=h',toks:=tk} .Gt v uk k/\h'.get? S=some (seqObj "list" #[ub,uk] c)/\
   (k=true->codeAny (model prog w) B (Zdu it S) R {s with heap:=h'.update S (Obj.mapSeq fun _=> #[v,v]),toks:=tk})/\(k=false->codeAny (model prog w) B (Zdu it S) R {s with heap:=h',toks:=tk})):
  codeAny (model prog w) B (Zdu it S) R s:=by
 refine ZhY (P:=fun f s'=>f=.again (Zdu it S)/\codeAny (model prog w) B (Zdu it S) R s') (fun f s' z=>by rw[z.1];exact⟨plainId_quiet F.plain_max_loop _,z.2⟩) ?_
 refine wpAny_bind (m:=seqItems? (.ref S)) (wpAny_seqItems hS rfl (wpAny_bind (m:=tryCatch (pyNext (.ref it)) _) (wpAny_tryCatch (hn _ _ fun v h' tk k=> ?_))));obtain⟨b,rc,gS,yes,no⟩:=q v h' tk k;refine wpAny_bind (m:=pure v) (wpAny_pure ?_);refine wpAny_bind (m:=tryCatch (holding [v,v] (richCompare .Gt v uk>>=_)) _) (wpAny_tryCatch (wpAny_holding (wpAny_bind (rc _ _ (wpAny_bind (wpAny_holding (wpAny_truthy_bool (wpAny_bind (wpAny_letGo (wpAny_pure ?_))))))))))
 cases b with
 |true=>exact wpAny_ite_split (fun _=>wpAny_bind (wpAny_updateSeq gS rfl (wpAny_bind (wpAny_letGo (wpAny_pure ⟨rfl,yes rfl⟩))))) (fun z=>absurd rfl z)
 |false=>exact wpAny_ite_split (fun z=>nomatch z) (fun _=>wpAny_bind (wpAny_letGo (wpAny_pure ⟨rfl,no rfl⟩)))
theorem Zo3{Kv:Value->Heap->Prop}(hS:s.heap.get? S=some (seqObj "list" #[] c))(hn:∀(Q:Option Value->Shared->Prop) (E:Value->Shared->Prop),(∀v h' tk,Kv v h'->Q (some v) {s with heap:=h',toks:=tk})->wpAny (model prog w) B.in1 (pyNext (.ref it)) Q E s)
  (q:∀v h' tk,Kv v h'->h'.get? S=some (seqObj "list" #[] c)/\codeAny (model prog w) B (Zdu it S) R {s with heap:=h'.update S (Obj.mapSeq fun _=> #[v,v]),toks:=tk}):
  codeAny (model prog w) B (Zdu it S) R s:=by
 refine ZhY (P:=fun f s'=>f=.again (Zdu it S)/\codeAny (model prog w) B (Zdu it S) R s') (fun f s' z=>by rw[z.1];exact⟨plainId_quiet F.plain_max_loop _,z.2⟩) ?_
 refine wpAny_bind (m:=seqItems? (.ref S)) (wpAny_seqItems hS rfl (wpAny_bind (m:=tryCatch (pyNext (.ref it)) _) (wpAny_tryCatch (hn _ _ fun v h' tk k=> ?_))));obtain⟨gS,yes⟩:=q v h' tk k;refine wpAny_bind (m:=pure v) (wpAny_pure ?_);exact wpAny_bind (m:=updateSeq S fun _=> #[v,v]) (wpAny_updateSeq gS rfl (wpAny_pure ⟨rfl,yes⟩))
end
section
variable {X:Cx} {pins:List (Addr×Obj)} {σ:L2.St} {H:Hp} {s:Shared}
theorem ZhZ{K:PySem.W.Frag}:∀{ys:List ZaU} {us:List V},Paired (Zco K H) ys us->∀(j:Nat) (x:V),us[j]? =some x->∃y,ys[j]? =some y/\Zco K H y x
 |_,_,.nil,j,x,h=>by simp at h
 |_,_,.cons (a:=y) (b:=v) r t,0,x,h=>by
  have h:v=x:=by simpa using h
  exact⟨y,rfl,h▸r⟩
 |_,_,.cons _ t,j+1,x,h=>by
  obtain⟨y,e,z⟩:=ZhZ t j x (by simpa using h);exact⟨y,by simpa using e,z⟩
theorem Zo4{E:Value->Shared->Prop}{l it S:Addr}{us:List V}{ys:List ZaU}{R:VK}(hh:X.A.handled=none)(hu:X.A.units+20<cLine)(lI:Zh4 X it)(lS:Zh4 X S)(nIS:S≠it)(nl:l≠it)(nI:∀p∈pins,p.1≠it)(nS:∀p∈pins,p.1≠S)
  (hq:SqL X.K H l us)(rp:Paired (Zco X.K H) ys us)(q:∀x y,y∈ys->Zco X.K H y x->(∀z∈ys,ZiR y z=false)->R x H):
  ∀(r:List V) (j:Nat) (s:Shared) (b:V) (yb:ZaU) (ub:Value) (c:Nat) (oI:Obj),us.drop j=r->j<=us.length->L2.Inv X ((it,oI)::(S,seqObj "list" #[ub,ub] c)::pins) σ H s->s.heap.IsListIter it l j->Yn b ub->Zco X.K H yb b->yb∈ys->(∀z∈ys.take j,ZiR yb z=false)->
   codeAny (model X.prog X.w) X.A (Zdu it S) (Zt3 X pins σ R E) s:=by
 have two:∀(o:Obj) (p:Addr×Obj),p∈(S,o)::pins->p.1≠it:=fun o p hp=>by
  obtain rfl|m:=List.mem_cons.mp hp
  ·exact nIS
  ·exact nI p m
 have one:∀(o:Obj) (p:Addr×Obj),p∈(it,o)::pins->p.1≠S:=fun o p hp=>by
  obtain rfl|m:=List.mem_cons.mp hp
  ·exact fun z=>nIS z.symm
  ·exact nS p m
 intro r
 induction r with
 |nil=>
  intro j s b yb ub c oI hj hjl I hit rb sb mem best;obtain⟨vs,rx,pl,_⟩:=I.list hq;have ej:us.length=j:=Nat.le_antisymm (List.drop_eq_nil_iff.mp hj) hjl;have hl:vs.toArray.size=j:=by rw[List.size_toArray,<-rx.length,ej]
  have pI:=I.pin (it,oI) (List.mem_append_right _ (.head _));have pS:=I.pin (S,seqObj "list" #[ub,ub] c) (List.mem_append_right _ (.tail _ (.head _)));have J0:L2.Inv X ((S,seqObj "list" #[ub,ub] c)::pins) σ H s:=I.pins_of fun p hp=>I.pin p (List.mem_append_right _ (.tail _ hp));have J1:∀h' tk',(∀b o,b∉[it]->s.heap.get? b=some o->h'.get? b=some o)->L2.Inv X ((S,seqObj "list" #[ub,ub] c)::pins) σ H {s with heap:=h',toks:=tk'}:=fun h' tk' kp=>J0.turned (it:=it) (t':=tk') (fun b u n e=>kp b u (by simpa using n) e) pI.2.1 pI.2.2.1 (.inr lI.new) lI.cells fun p hp=>(List.mem_append.mp hp).elim (lI.pn p) (two _ p)
  refine ZqX (Kp:=fun h'=>∀b o,b∉[it]->s.heap.get? b=some o->h'.get? b=some o) pS.1 (fun Q E q=>(Walks.list (prog:=X.prog) (w:=X.w) (A:=X.A.in1) hh it l nl vs.toArray).done s Q E ⟨by rw[hl];exact hit,pl.isList⟩ q) (fun h' kp=>kp S _ (by simpa using nIS) pS.1) fun h' tk kp=> ?_
  have J2:=Zem (J1 h' tk kp) lS nS Xh (get?_update_seq (kp S _ (by simpa using nIS) pS.1) fun _=> #[]) Jr;rw[List.take_of_length_le (by rw[Paired.length rp,ej];exact Nat.le_refl _)] at best
  exact⟨b,H,J2.pins_of fun p hp=>J2.pin p (List.mem_append_right _ (.tail _ hp)),rb,q b yb mem sb best⟩
 |cons x r ih=>
  intro j s b yb ub c oI hj hjl I hit rb sb mem best;have hjx:us[j]? =some x:=by
   have e:=congrArg List.head? hj;rw[List.head?_drop] at e
   exact e
  have hjn:us.drop (j+1)=r:=by
   rw[<-List.tail_drop,hj]
   rfl
  have hlx:j+1<=us.length:=(List.getElem?_eq_some_iff.mp hjx).1;obtain⟨yx,ey,sx⟩:=ZhZ rp j x hjx;have tk:ys.take (j+1)=ys.take j++[yx]:=by rw[List.take_add_one,ey];rfl
  have pS:=I.pin (S,seqObj "list" #[ub,ub] c) (List.mem_append_right _ (.tail _ (.head _)));refine ZpA pS.1 (Zen hh nl lI (two _) hq hjx I hit) fun v h' tk' ⟨rv,mv⟩=> ?_;obtain⟨o,J2,hi2⟩:=mv tk';have pS2:=J2.pin (S,seqObj "list" #[ub,ub] c) (List.mem_append_right _ (.tail _ (.head _)));have pI2:=J2.pin (it,o) (List.mem_append_right _ (.head _));refine⟨_,Zt5 J2 sx sb rv rb (show X.A.units+1+10<cLine by omega),pS2.1,fun e=> ?_,fun e=>ih (j+1) _ b yb ub c o hjn hlx J2 (hi2 _ pI2.1) rb sb mem fun z hz=> ?_⟩
  ·have J4:=ZaT (Zem (ZaT J2) lS (one o) Xh (get?_update_seq pS2.1 fun _=> #[v,v]) Jr);refine ih (j+1) _ x yx v _ o hjn hlx J4 (hi2 _ (J4.pin (it,o) (List.mem_append_right _ (.head _))).1) rv sx (List.mem_of_getElem? ey) fun z hz=> ?_;rw[tk] at hz
   rcases List.mem_append.mp hz with old|new
   ·cases lz:ZiR yx z with
    |false=>rfl
    |true=>exact absurd (ZbG.tr _ _ _ e lz) (by rw[best z old];exact Bool.false_ne_true)
   ·have:z=yx:=by simpa using new
    rw[this];exact ZbG.irr _
  ·rw[tk] at hz
   rcases List.mem_append.mp hz with old|new
   ·exact best z old
   ·have:z=yx:=by simpa using new
    rw[this];exact e
theorem Zo5(hc:X.calm=true)(hu:X.A.units+30<cLine):Zbm X (.builtin "max") (fun xs H Q=>∃(l:Addr) (x:V) (us:List V) (ys:List ZaU),xs=[.ref l]/\SqL X.K H l (x::us)/\Paired (Zco X.K H) ys (x::us)/\
  ∀v y,y∈ys->Zco X.K H y v->(∀z∈ys,ZiR y z=false)->Q v H):=by
 intro pins s σ H xs vals Q I r h;obtain⟨l,x,us,ys,rfl,hq,rp,q⟩:=h;obtain⟨u,rfl,rx0⟩:=ZcI r;cases rx0;have hh:=I.ok.hd hc;obtain⟨vs,rx,pl,_⟩:=I.list hq;have nl:l≠s.heap.objs.size:=Nat.ne_of_lt (let ⟨_,e,_⟩:=pl.isList;Heap.lt_size e)
 refine call_function_tree (Q:=EP X pins σ Q) PySem.F.kind_max PySem.F.plain_max PySem.F.entry_max (PySem.F.args_max1 _) ?_;have bp:Builtin.Builtins.bindParams "max" ["key","default"] 0 ⟨[],[]⟩=pure [none,none]:=rfl;refine wpAny_bind (m:=Builtin.Builtins.bindParams "max" ["key","default"] 0 ⟨[],[]⟩) (wpAny_of_eq bp (wpAny_bind (wpAny_pure (wpAny_bind (wpAny_pyIter_list pl.isList (wpAny_bind (wpAny_newList ?_ (Nat.zero_le _))))))))
 rw[Zpz];generalize ho:({cls:=.type "list_iterator",data:=.fields #[.ref l,.int 0 0]}:Obj)=oI;have sz1:(s.heap.push oI).objs.size=s.heap.objs.size+1:=size_push' ..;rw[sz1];have gI:((s.heap.push oI).push (seqObj "list" #[] 0)).get? s.heap.objs.size=some oI:=Heap.get?_push_of_some _ (Heap.get?_push_size _ (by rw[<-ho];rfl))
 have gS:((s.heap.push oI).push (seqObj "list" #[] 0)).get? (s.heap.objs.size+1)=some (seqObj "list" #[] 0):=by rw[<-sz1];exact Heap.get?_push_size _ rfl
 have lI:Zh4 X s.heap.objs.size:=Zhk I (Nat.le_refl _);have lS:Zh4 X (s.heap.objs.size+1):=Zhk I (Nat.le_succ _);have fresh:∀a,s.heap.objs.size<=a->H a=none/\a≠X.env.locals/\a∉X.fs:=fun a ha=>⟨I.hok.fresh ha,fun z=>absurd (z▸ha) (Nat.not_le.mpr I.lt),I.nofs ha⟩
 have old:∀p∈pins,p.1<s.heap.objs.size:=fun p hp=>Heap.lt_size (I.pin p (List.mem_append_right _ hp)).1;have nI:∀p∈pins,p.1≠s.heap.objs.size:=fun p hp=>Nat.ne_of_lt (old p hp);have nS:∀p∈pins,p.1≠s.heap.objs.size+1:=fun p hp=>Nat.ne_of_lt (Nat.lt_succ_of_lt (old p hp));have I0:L2.Inv X pins σ H {s with heap:=(s.heap.push oI).push (seqObj "list" #[] 0)}:=I.kept (t':=s.toks) fun b u e=>Heap.get?_push_of_some _ (Heap.get?_push_of_some _ e)
 have I1:L2.Inv X ((s.heap.objs.size,oI)::(s.heap.objs.size+1,seqObj "list" #[] 0)::pins) σ H {s with heap:=(s.heap.push oI).push (seqObj "list" #[] 0)}:=I0.pins_of fun p hp=>by
  obtain rfl|m:=List.mem_cons.mp hp
  ·exact⟨gI,(fresh _ (Nat.le_refl _)).1,(fresh _ (Nat.le_refl _)).2.1,(fresh _ (Nat.le_refl _)).2.2,fun v z=>by rw[<-ho] at z;cases z⟩
  ·obtain rfl|m:=List.mem_cons.mp m
   ·exact⟨gS,(fresh _ (Nat.le_succ _)).1,(fresh _ (Nat.le_succ _)).2.1,(fresh _ (Nat.le_succ _)).2.2,Jr⟩
   ·exact I0.pin p (List.mem_append_right _ m)
 have nIS:s.heap.objs.size+1≠s.heap.objs.size:=Nat.succ_ne_self _;have hit0:((s.heap.push oI).push (seqObj "list" #[] 0)).IsListIter s.heap.objs.size l 0:=⟨oI,gI,by rw[<-ho],by rw[<-ho];rfl⟩
 refine wpAny_pure (And.intro (plainId_quiet PySem.F.plain_max_loop _) ?_);generalize hs1:({s with heap:=(s.heap.push oI).push (seqObj "list" #[] 0)}:Shared)=s1 at I1
 have hit1:s1.heap.IsListIter s.heap.objs.size l 0:=by rw[<-hs1];exact hit0
 generalize s.heap.objs.size=it at*
 have two:∀p∈(it+1,seqObj "list" #[] 0)::pins,p.1≠it:=fun p hp=>by
  obtain rfl|m:=List.mem_cons.mp hp
  ·exact nIS
  ·exact nI p m
 have pS:=I1.pin (it+1,seqObj "list" #[] 0) (List.mem_append_right _ (.tail _ (.head _)));refine Zo3 pS.1 (Zen hh nl lI two hq (j:=0) (x:=x) rfl I1 hit1) fun v h' tk' ⟨rv,mv⟩=> ?_;obtain⟨o,J2,hi2⟩:=mv tk';have pS2:=J2.pin (it+1,seqObj "list" #[] 0) (List.mem_append_right _ (.tail _ (.head _)));obtain⟨yx,ey,sx⟩:=ZhZ rp 0 x rfl;have J4:=ZaT (Zem (ZaT J2) lS (fun p hp=>by
  obtain rfl|m:=List.mem_cons.mp hp
  ·exact fun z=>nIS z.symm
  ·exact nS p m) Xh (get?_update_seq pS2.1 fun _=> #[v,v]) Jr)
 refine⟨pS2.1,Zo4 hh (by omega) lI lS nIS nl nI nS hq rp q us 1 _ x yx v _ o rfl (Nat.succ_le_succ (Nat.zero_le _)) J4 (hi2 _ (J4.pin (it,o) (List.mem_append_right _ (.head _))).1) rv sx (List.mem_of_getElem? ey) fun z hz=> ?_⟩;cases ys with
 |nil=>cases ey
 |cons y0 ys=>
  obtain rfl:y0=yx:=by simpa using ey
  have:z=y0:=by simpa using hz
  rw[this];exact ZbG.irr _
theorem Zjn:∀{ss:List Str} {vs:List Value},Yr (ss.map V.str) vs->StrsAre vs ss
 |[],_,.nil=> .nil
 |x::ss,_,.cons ⟨t,e⟩ r=>by
  subst e;exact .cons x t (Zjn r)
theorem Zd6:Zbm X (.builtin "sorted") (fun xs H Q=>∃(l:Addr) (ss:List Str),xs=[.ref l]/\SqL X.K H l (ss.map V.str)/\ss.length<64/\∀zs,zs.Perm ss->sortedS zs=true->∀D,H D=none->Q (.ref D) (upd H D (.lst (zs.map V.str)))):=by
 intro pins s σ H xs vals Q I r h;obtain⟨l,ss,rfl,hq,h64,q⟩:=h;obtain⟨u,rfl,rx0⟩:=ZcI r;cases rx0;obtain⟨vs,rx,pl,_⟩:=I.list hq;have lv:vs.length=ss.length:=by rw[<-rx.length,List.length_map]
 have hz:vs.length<=sizeLine:=by rw[sizeLine_eq];omega
 refine call_function_entry kind_sorted plain_sorted entry_sorted (args_sorted1 (.ref l)) ?_;unfold Builtin.«sorted»;refine wpAny_bind (m:=checkCount "sorted" 1 1 _) (wpAny_pure (wpAny_bind (collect_list pl.isList (wpAny_bind (wpAny_newList ?_ hz)) hz)));have sz1:((s.heap.push (seqObj "list" #[] 0)).update s.heap.objs.size (Obj.mapSeq (· ++vs.toArray))).objs.size=s.heap.objs.size+1:=by rw[Heap.size_update,size_push']
 generalize hh1:(s.heap.push (seqObj "list" #[] 0)).update s.heap.objs.size (Obj.mapSeq (· ++vs.toArray))=h1 at sz1
 have k1:∀b u,s.heap.get? b=some u->h1.get? b=some u:=fun b u e=>by
  have hlt:=Heap.lt_size e;rw[<-hh1];exact Xh b u (Nat.ne_of_lt hlt) (Heap.get?_push_of_some _ e)
 have I1:L2.Inv X pins σ H {s with heap:=h1}:=I.kept (t':=s.toks) k1;refine wpAny_bind (wpAny_holding (Zk0 (s:={s with heap:=h1.push (seqObj "list" vs.toArray 0)}) (Heap.get?_push_size (o:=seqObj "list" vs.toArray 0) h1 rfl) (Zjn rx) (by omega) fun out ss' o1 o2 o3=>wpAny_pure ⟨_,rfl, ?_⟩));obtain⟨e,he⟩:=sortedHeap_at (h:=h1.push (seqObj "list" vs.toArray 0)) (out:=out) (Heap.get?_push_size (o:=seqObj "list" vs.toArray 0) h1 rfl)
 have hz2:(ss'.map V.str).length<=sizeLine:=by rw[List.length_map,o2.length_eq,sizeLine_eq];omega
 refine⟨.ref h1.objs.size,_,I1.laid (a:=h1.objs.size) (o:=.lst (ss'.map V.str)) (t':=s.toks) (fun b o e1=> ?_) (Nat.le_refl _) ⟨hz2,out.toList,e,Zfr o1,he⟩,rfl,q ss' o2 o3 _ I1.fresh⟩;have hb:b<h1.objs.size:=Heap.lt_size e1;rw[sortedHeap_old (Nat.ne_of_lt hb) (by rw[size_push'];exact Nat.lt_succ_of_lt hb)]
 exact Heap.get?_push_of_some _ e1
end
end L3
namespace L3
open PySem PySem.Spec PyProof.Rows L2
section
variable {X:Cx} {K:PySem.W.Frag}
theorem ZqY(eK:X.K=K):SlR X (ZsJ K):=by
 subst eK;exact Zg7
end
end L3
namespace L3
open PySem PySem.Spec PyProof.Rows L2 PySem.W PySem.Calls
section
variable {X:Cx} {pins:List (Addr×Obj)} {σ:L2.St} {H:Hp} {s:Shared} {A:Around}
def ZiS(K:PySem.W.Frag)(H:Hp)(x:Lf)(a:V):Prop:=∃p,a=.ref p/\SqT K H p [.str x.1,.int x.2]
theorem Zt6(I:L2.Inv X pins σ H s){x y:Lf}{a b:V}{u v:Value}(ra:ZiS X.K H x a)(rb:ZiS X.K H y b)(ru:Yn a u)(rv:Yn b v)(hu:A.units+10<cLine):RcP X.prog X.w A s .Lt u v (Zk8 x y):=by
 obtain⟨p,rfl,hp⟩:=ra;obtain⟨p',rfl,hp'⟩:=rb;cases ru;cases rv;exact Zt2 I hp hp' (by omega)
end
section
variable {prog:Program} {w:World} {B:Around} {R:Result->Shared->Prop} {it S:Addr} {c:Nat} {s:Shared}
abbrev ZeB(it S:Addr):Code:=.builtin "min.loop" ⟨[.ref it,.none,.ref S],[]⟩
theorem Zo6{Kv:Value->Heap->Prop}{ub uk:Value}(hS:s.heap.get? S=some (seqObj "list" #[ub,uk] c))(hn:∀(Q:Option Value->Shared->Prop) (E:Value->Shared->Prop),(∀v h' tk,Kv v h'->Q (some v) {s with heap:=h',toks:=tk})->wpAny (model prog w) B.in1 (pyNext (.ref it)) Q E s)
  (q:∀v h' tk,Kv v h'->∃k,RcP prog w B.in1 {s with heap:=h',toks:=tk} .Lt v uk k/\h'.get? S=some (seqObj "list" #[ub,uk] c)/\
   (k=true->codeAny (model prog w) B (ZeB it S) R {s with heap:=h'.update S (Obj.mapSeq fun _=> #[v,v]),toks:=tk})/\(k=false->codeAny (model prog w) B (ZeB it S) R {s with heap:=h',toks:=tk})):
  codeAny (model prog w) B (ZeB it S) R s:=by
 refine ZhX (P:=fun f s'=>f=.again (ZeB it S)/\codeAny (model prog w) B (ZeB it S) R s') (fun f s' z=>by rw[z.1];exact⟨plainId_quiet F.plain_min_loop _,z.2⟩) ?_
 refine wpAny_bind (m:=seqItems? (.ref S)) (wpAny_seqItems hS rfl (wpAny_bind (m:=tryCatch (pyNext (.ref it)) _) (wpAny_tryCatch (hn _ _ fun v h' tk k=> ?_))));obtain⟨b,rc,gS,yes,no⟩:=q v h' tk k;refine wpAny_bind (m:=pure v) (wpAny_pure ?_);refine wpAny_bind (m:=tryCatch (holding [v,v] (richCompare .Lt v uk>>=_)) _) (wpAny_tryCatch (wpAny_holding (wpAny_bind (rc _ _ (wpAny_bind (wpAny_holding (wpAny_truthy_bool (wpAny_bind (wpAny_letGo (wpAny_pure ?_))))))))))
 cases b with
 |true=>exact wpAny_ite_split (fun _=>wpAny_bind (wpAny_updateSeq gS rfl (wpAny_bind (wpAny_letGo (wpAny_pure ⟨rfl,yes rfl⟩))))) (fun z=>absurd rfl z)
 |false=>exact wpAny_ite_split (fun z=>nomatch z) (fun _=>wpAny_bind (wpAny_letGo (wpAny_pure ⟨rfl,no rfl⟩)))
theorem Zmw{Kv:Value->Heap->Prop}(hS:s.heap.get? S=some (seqObj "list" #[] c))(hn:∀(Q:Option Value->Shared->Prop) (E:Value->Shared->Prop),(∀v h' tk,Kv v h'->Q (some v) {s with heap:=h',toks:=tk})->wpAny (model prog w) B.in1 (pyNext (.ref it)) Q E s)
  (q:∀v h' tk,Kv v h'->h'.get? S=some (seqObj "list" #[] c)/\codeAny (model prog w) B (ZeB it S) R {s with heap:=h'.update S (Obj.mapSeq fun _=> #[v,v]),toks:=tk}):
  codeAny (model prog w) B (ZeB it S) R s:=by
 refine ZhX (P:=fun f s'=>f=.again (ZeB it S)/\codeAny (model prog w) B (ZeB it S) R s') (fun f s' z=>by rw[z.1];exact⟨plainId_quiet F.plain_min_loop _,z.2⟩) ?_
 refine wpAny_bind (m:=seqItems? (.ref S)) (wpAny_seqItems hS rfl (wpAny_bind (m:=tryCatch (pyNext (.ref it)) _) (wpAny_tryCatch (hn _ _ fun v h' tk k=> ?_))));obtain⟨gS,yes⟩:=q v h' tk k;refine wpAny_bind (m:=pure v) (wpAny_pure ?_);exact wpAny_bind (m:=updateSeq S fun _=> #[v,v]) (wpAny_updateSeq gS rfl (wpAny_pure ⟨rfl,yes⟩))
end
section
variable {X:Cx} {pins:List (Addr×Obj)} {σ:L2.St} {H:Hp} {s:Shared}
theorem Zmx{K:PySem.W.Frag}:∀{ys:List Lf} {us:List V},Paired (ZiS K H) ys us->∀(j:Nat) (x:V),us[j]? =some x->∃y,ys[j]? =some y/\ZiS K H y x
 |_,_,.nil,j,x,h=>by simp at h
 |_,_,.cons (a:=y) (b:=v) r t,0,x,h=>by
  have h:v=x:=by simpa using h
  exact⟨y,rfl,h▸r⟩
 |_,_,.cons _ t,j+1,x,h=>by
  obtain⟨y,e,z⟩:=Zmx t j x (by simpa using h);exact⟨y,by simpa using e,z⟩
theorem Zo7{E:Value->Shared->Prop}{l it S:Addr}{us:List V}{ys:List Lf}{R:VK}(hh:X.A.handled=none)(hu:X.A.units+20<cLine)(lI:Zh4 X it)(lS:Zh4 X S)(nIS:S≠it)(nl:l≠it)(nI:∀p∈pins,p.1≠it)(nS:∀p∈pins,p.1≠S)
  (hq:SqL X.K H l us)(rp:Paired (ZiS X.K H) ys us)(q:∀x y,y∈ys->ZiS X.K H y x->(∀z∈ys,Zk8 z y=false)->R x H):
  ∀(r:List V) (j:Nat) (s:Shared) (b:V) (yb:Lf) (ub:Value) (c:Nat) (oI:Obj),us.drop j=r->j<=us.length->L2.Inv X ((it,oI)::(S,seqObj "list" #[ub,ub] c)::pins) σ H s->s.heap.IsListIter it l j->Yn b ub->ZiS X.K H yb b->yb∈ys->(∀z∈ys.take j,Zk8 z yb=false)->
   codeAny (model X.prog X.w) X.A (ZeB it S) (Zt3 X pins σ R E) s:=by
 have two:∀(o:Obj) (p:Addr×Obj),p∈(S,o)::pins->p.1≠it:=fun o p hp=>by
  obtain rfl|m:=List.mem_cons.mp hp
  ·exact nIS
  ·exact nI p m
 have one:∀(o:Obj) (p:Addr×Obj),p∈(it,o)::pins->p.1≠S:=fun o p hp=>by
  obtain rfl|m:=List.mem_cons.mp hp
  ·exact fun z=>nIS z.symm
  ·exact nS p m
 intro r
 induction r with
 |nil=>
  intro j s b yb ub c oI hj hjl I hit rb sb mem best;obtain⟨vs,rx,pl,_⟩:=I.list hq;have ej:us.length=j:=Nat.le_antisymm (List.drop_eq_nil_iff.mp hj) hjl;have hl:vs.toArray.size=j:=by rw[List.size_toArray,<-rx.length,ej]
  have pI:=I.pin (it,oI) (List.mem_append_right _ (.head _));have pS:=I.pin (S,seqObj "list" #[ub,ub] c) (List.mem_append_right _ (.tail _ (.head _)));have J0:L2.Inv X ((S,seqObj "list" #[ub,ub] c)::pins) σ H s:=I.pins_of fun p hp=>I.pin p (List.mem_append_right _ (.tail _ hp));have J1:∀h' tk',(∀b o,b∉[it]->s.heap.get? b=some o->h'.get? b=some o)->L2.Inv X ((S,seqObj "list" #[ub,ub] c)::pins) σ H {s with heap:=h',toks:=tk'}:=fun h' tk' kp=>J0.turned (it:=it) (t':=tk') (fun b u n e=>kp b u (by simpa using n) e) pI.2.1 pI.2.2.1 (.inr lI.new) lI.cells fun p hp=>(List.mem_append.mp hp).elim (lI.pn p) (two _ p)
  refine ZqU (Kp:=fun h'=>∀b o,b∉[it]->s.heap.get? b=some o->h'.get? b=some o) pS.1 (fun Q E q=>(Walks.list (prog:=X.prog) (w:=X.w) (A:=X.A.in1) hh it l nl vs.toArray).done s Q E ⟨by rw[hl];exact hit,pl.isList⟩ q) (fun h' kp=>kp S _ (by simpa using nIS) pS.1) fun h' tk kp=> ?_
  have J2:=Zem (J1 h' tk kp) lS nS Xh (get?_update_seq (kp S _ (by simpa using nIS) pS.1) fun _=> #[]) Jr;rw[List.take_of_length_le (by rw[Paired.length rp,ej];exact Nat.le_refl _)] at best
  exact⟨b,H,J2.pins_of fun p hp=>J2.pin p (List.mem_append_right _ (.tail _ hp)),rb,q b yb mem sb best⟩
 |cons x r ih=>
  intro j s b yb ub c oI hj hjl I hit rb sb mem best;have hjx:us[j]? =some x:=by
   have e:=congrArg List.head? hj;rw[List.head?_drop] at e
   exact e
  have hjn:us.drop (j+1)=r:=by
   rw[<-List.tail_drop,hj]
   rfl
  have hlx:j+1<=us.length:=(List.getElem?_eq_some_iff.mp hjx).1;obtain⟨yx,ey,sx⟩:=Zmx rp j x hjx;have tk:ys.take (j+1)=ys.take j++[yx]:=by rw[List.take_add_one,ey];rfl
  have pS:=I.pin (S,seqObj "list" #[ub,ub] c) (List.mem_append_right _ (.tail _ (.head _)));refine Zo6 pS.1 (Zen hh nl lI (two _) hq hjx I hit) fun v h' tk' ⟨rv,mv⟩=> ?_;obtain⟨o,J2,hi2⟩:=mv tk';have pS2:=J2.pin (S,seqObj "list" #[ub,ub] c) (List.mem_append_right _ (.tail _ (.head _)));have pI2:=J2.pin (it,o) (List.mem_append_right _ (.head _));refine⟨_,Zt6 J2 sx sb rv rb (show X.A.units+1+10<cLine by omega),pS2.1,fun e=> ?_,fun e=>ih (j+1) _ b yb ub c o hjn hlx J2 (hi2 _ pI2.1) rb sb mem fun z hz=> ?_⟩
  ·have J4:=ZaT (Zem (ZaT J2) lS (one o) Xh (get?_update_seq pS2.1 fun _=> #[v,v]) Jr);refine ih (j+1) _ x yx v _ o hjn hlx J4 (hi2 _ (J4.pin (it,o) (List.mem_append_right _ (.head _))).1) rv sx (List.mem_of_getElem? ey) fun z hz=> ?_;rw[tk] at hz
   rcases List.mem_append.mp hz with old|new
   ·cases lz:Zk8 z yx with
    |false=>rfl
    |true=>exact absurd (ZhW.tr _ _ _ lz e) (by rw[best z old];exact Bool.false_ne_true)
   ·have:z=yx:=by simpa using new
    rw[this];exact ZhW.irr _
  ·rw[tk] at hz
   rcases List.mem_append.mp hz with old|new
   ·exact best z old
   ·have:z=yx:=by simpa using new
    rw[this];exact e
theorem Zo8(hc:X.calm=true)(hu:X.A.units+30<cLine):Zbm X (.builtin "min") (fun xs H Q=>∃(l:Addr) (x:V) (us:List V) (ys:List Lf),xs=[.ref l]/\SqL X.K H l (x::us)/\Paired (ZiS X.K H) ys (x::us)/\
  ∀v y,y∈ys->ZiS X.K H y v->(∀z∈ys,Zk8 z y=false)->Q v H):=by
 intro pins s σ H xs vals Q I r h;obtain⟨l,x,us,ys,rfl,hq,rp,q⟩:=h;obtain⟨u,rfl,rx0⟩:=ZcI r;cases rx0;have hh:=I.ok.hd hc;obtain⟨vs,rx,pl,_⟩:=I.list hq;have nl:l≠s.heap.objs.size:=Nat.ne_of_lt (let ⟨_,e,_⟩:=pl.isList;Heap.lt_size e)
 refine call_function_tree (Q:=EP X pins σ Q) PySem.F.kind_min PySem.F.plain_min PySem.F.entry_min (PySem.F.args_min1 _) ?_;have bp:Builtin.Builtins.bindParams "min" ["key","default"] 0 ⟨[],[]⟩=pure [none,none]:=rfl;refine wpAny_bind (m:=Builtin.Builtins.bindParams "min" ["key","default"] 0 ⟨[],[]⟩) (wpAny_of_eq bp (wpAny_bind (wpAny_pure (wpAny_bind (wpAny_pyIter_list pl.isList (wpAny_bind (wpAny_newList ?_ (Nat.zero_le _))))))))
 rw[Zpt];generalize ho:({cls:=.type "list_iterator",data:=.fields #[.ref l,.int 0 0]}:Obj)=oI;have sz1:(s.heap.push oI).objs.size=s.heap.objs.size+1:=size_push' ..;rw[sz1];have gI:((s.heap.push oI).push (seqObj "list" #[] 0)).get? s.heap.objs.size=some oI:=Heap.get?_push_of_some _ (Heap.get?_push_size _ (by rw[<-ho];rfl))
 have gS:((s.heap.push oI).push (seqObj "list" #[] 0)).get? (s.heap.objs.size+1)=some (seqObj "list" #[] 0):=by rw[<-sz1];exact Heap.get?_push_size _ rfl
 have lI:Zh4 X s.heap.objs.size:=Zhk I (Nat.le_refl _);have lS:Zh4 X (s.heap.objs.size+1):=Zhk I (Nat.le_succ _);have fresh:∀a,s.heap.objs.size<=a->H a=none/\a≠X.env.locals/\a∉X.fs:=fun a ha=>⟨I.hok.fresh ha,fun z=>absurd (z▸ha) (Nat.not_le.mpr I.lt),I.nofs ha⟩
 have old:∀p∈pins,p.1<s.heap.objs.size:=fun p hp=>Heap.lt_size (I.pin p (List.mem_append_right _ hp)).1;have nI:∀p∈pins,p.1≠s.heap.objs.size:=fun p hp=>Nat.ne_of_lt (old p hp);have nS:∀p∈pins,p.1≠s.heap.objs.size+1:=fun p hp=>Nat.ne_of_lt (Nat.lt_succ_of_lt (old p hp));have I0:L2.Inv X pins σ H {s with heap:=(s.heap.push oI).push (seqObj "list" #[] 0)}:=I.kept (t':=s.toks) fun b u e=>Heap.get?_push_of_some _ (Heap.get?_push_of_some _ e)
 have I1:L2.Inv X ((s.heap.objs.size,oI)::(s.heap.objs.size+1,seqObj "list" #[] 0)::pins) σ H {s with heap:=(s.heap.push oI).push (seqObj "list" #[] 0)}:=I0.pins_of fun p hp=>by
  obtain rfl|m:=List.mem_cons.mp hp
  ·exact⟨gI,(fresh _ (Nat.le_refl _)).1,(fresh _ (Nat.le_refl _)).2.1,(fresh _ (Nat.le_refl _)).2.2,fun v z=>by rw[<-ho] at z;cases z⟩
  ·obtain rfl|m:=List.mem_cons.mp m
   ·exact⟨gS,(fresh _ (Nat.le_succ _)).1,(fresh _ (Nat.le_succ _)).2.1,(fresh _ (Nat.le_succ _)).2.2,Jr⟩
   ·exact I0.pin p (List.mem_append_right _ m)
 have nIS:s.heap.objs.size+1≠s.heap.objs.size:=Nat.succ_ne_self _;have hit0:((s.heap.push oI).push (seqObj "list" #[] 0)).IsListIter s.heap.objs.size l 0:=⟨oI,gI,by rw[<-ho],by rw[<-ho];rfl⟩
 refine wpAny_pure (And.intro (plainId_quiet PySem.F.plain_min_loop _) ?_);generalize hs1:({s with heap:=(s.heap.push oI).push (seqObj "list" #[] 0)}:Shared)=s1 at I1
 have hit1:s1.heap.IsListIter s.heap.objs.size l 0:=by rw[<-hs1];exact hit0
 generalize s.heap.objs.size=it at*
 have two:∀p∈(it+1,seqObj "list" #[] 0)::pins,p.1≠it:=fun p hp=>by
  obtain rfl|m:=List.mem_cons.mp hp
  ·exact nIS
  ·exact nI p m
 have pS:=I1.pin (it+1,seqObj "list" #[] 0) (List.mem_append_right _ (.tail _ (.head _)));refine Zmw pS.1 (Zen hh nl lI two hq (j:=0) (x:=x) rfl I1 hit1) fun v h' tk' ⟨rv,mv⟩=> ?_;obtain⟨o,J2,hi2⟩:=mv tk';have pS2:=J2.pin (it+1,seqObj "list" #[] 0) (List.mem_append_right _ (.tail _ (.head _)));obtain⟨yx,ey,sx⟩:=Zmx rp 0 x rfl;have J4:=ZaT (Zem (ZaT J2) lS (fun p hp=>by
  obtain rfl|m:=List.mem_cons.mp hp
  ·exact fun z=>nIS z.symm
  ·exact nS p m) Xh (get?_update_seq pS2.1 fun _=> #[v,v]) Jr)
 refine⟨pS2.1,Zo7 hh (by omega) lI lS nIS nl nI nS hq rp q us 1 _ x yx v _ o rfl (Nat.succ_le_succ (Nat.zero_le _)) J4 (hi2 _ (J4.pin (it,o) (List.mem_append_right _ (.head _))).1) rv sx (List.mem_of_getElem? ey) fun z hz=> ?_⟩;cases ys with
 |nil=>cases ey
 |cons y0 ys=>
  obtain rfl:y0=yx:=by simpa using ey
  have:z=y0:=by simpa using hz
  rw[this];exact ZhW.irr _
end
end L3
namespace L3
open PySem PySem.Spec PyProof.Rows L2
section
variable {X:Cx} {K:PySem.W.Frag}
end
end L3
namespace L3
open PySem PySem.Spec PyProof.Rows L2
section
variable {X:Cx} {pins:List (Addr×Obj)} {σ:L2.St} {H:Hp} {s:Shared} {h':Heap}
end
section
variable {X:Cx} {pins:List (Addr×Obj)} {σ:L2.St} {H:Hp} {s:Shared}
end
end L3
namespace L3
open PySem PySem.Spec PyProof.Rows L2 PySem.W PySem.Calls
structure Zli (X:Cx) {α:Type} (lt:α->α->Bool) (R:Hp->α->V->Prop) (d:α):Prop where
 sto:STO lt
 kind:∀{A:Around} {pins:List (Addr×Obj)} {σ:L2.St} {H:Hp} {s:Shared} {kk:List α} {kx:List V} {ks:List Value},L2.Inv X pins σ H s->Paired (R H) kk kx->Yr kx ks->2<=ks.length->A.units+5<cLine->
  wpAny (model X.prog X.w) A (keyKind' (List.toArray ks)) (fun κ s'=>s'=s/\Zk9 X.prog X.w A κ ks ks.length (fun i j=>lt (kk.getD i d) (kk.getD j d)) s) (fun _ _=>False) s
theorem Zi0{α:Type}{R:α->V->Prop}{d:α}:∀{kk:List α} {kx:List V} {ks:List Value} (_:Paired R kk kx) (_:Yr kx ks) (i:Nat),i<ks.length->∃x,R (kk.getD i d) x/\Yn x (ks.getD i Value.none)
 |_,_,_,.nil,.nil,i,h=>absurd h (Nat.not_lt_zero _)
 |_,_,_,.cons r _,.cons v _,0,_=>⟨_,r,v⟩
 |_,_,_,.cons _ t,.cons _ vt,i+1,h=>by
  obtain⟨x,a,b⟩:=Zi0 t vt i (by simpa using h);exact⟨x,a,b⟩
section
variable {X:Cx} {pins:List (Addr×Obj)} {σ:L2.St} {H:Hp} {s:Shared} {α:Type} {lt:α->α->Bool} {R:Hp->α->V->Prop} {d:α}
theorem Zkc(S:Zli X lt R d)(hr:X.A.units+30<cLine):Zbm X (.builtin "sorted") (fun xs H Q=>∃(l:Addr) (us:List V) (kk:List α),xs=[.ref l]/\SqL X.K H l us/\us.length<64/\Paired (fun y x=>R H y x) kk us/\
  ∀zs:List (V×α),zs.Perm (us.zip kk)->zs.Pairwise (fun a b=>lt b.2 a.2=false)->∀D,H D=none->Q (.ref D) (upd H D (.lst (zs.map (·.1))))):=by
 intro pins s σ H xs vals Q I r h;obtain⟨l,us,kk,rfl,hq,h64,rp,q⟩:=h;obtain⟨u,rfl,rx⟩:=ZcI r;cases rx;obtain⟨vs,rx,pl,_⟩:=I.list hq;have hn:vs.length<64:=by rw[<-rx.length];exact h64
 have hz:vs.length<=sizeLine:=by rw[sizeLine_eq];omega
 have lkk:kk.length=us.length:=Paired.length rp;refine call_function_entry kind_sorted plain_sorted entry_sorted (args_sorted1 (.ref l)) ?_;unfold Builtin.«sorted»;refine wpAny_bind (m:=checkCount "sorted" 1 1 _) (wpAny_pure (wpAny_bind (collect_list pl.isList (wpAny_bind (wpAny_newList ?_ hz)) hz)));have sz1:((s.heap.push (seqObj "list" #[] 0)).update s.heap.objs.size (Obj.mapSeq (· ++vs.toArray))).objs.size=s.heap.objs.size+1:=by rw[Heap.size_update,size_push']
 generalize hh1:(s.heap.push (seqObj "list" #[] 0)).update s.heap.objs.size (Obj.mapSeq (· ++vs.toArray))=h1 at sz1
 have k1:∀b u,s.heap.get? b=some u->h1.get? b=some u:=fun b u e=>by
  have hlt:=Heap.lt_size e;rw[<-hh1];exact Xh b u (Nat.ne_of_lt hlt) (Heap.get?_push_of_some _ e)
 generalize hD:h1.objs.size=D at sz1
 have oD:(h1.push (seqObj "list" vs.toArray 0)).get? D=some (seqObj "list" vs.toArray 0):=by rw[<-hD];exact Heap.get?_push_size _ rfl
 have k2:∀b u,s.heap.get? b=some u->(Zcc (h1.push (seqObj "list" vs.toArray 0)) D vs).get? b=some u:=fun b u e=>
  Zpr b u (Nat.ne_of_lt (Nat.lt_of_lt_of_le (Heap.lt_size e) (by omega))) (Heap.get?_push_of_some _ (k1 b u e))
 have I2:L2.Inv X pins σ H {s with heap:=Zcc (h1.push (seqObj "list" vs.toArray 0)) D vs}:=I.kept (t':=s.toks) k2;refine wpAny_bind (wpAny_holding (wpAny_call_entry slot_list_sort ⟨_,oD,rfl⟩ entry_list_sort ?body (args_list_sort _)));refine Zmu (ans:=fun i j=>lt (kk.getD i d) (kk.getD j d)) oD hn (S.sto.ord _) (fun h2=> ?_) fun p pl2 so=>⟨_,rfl,wpAny_pure ⟨_,rfl, ?_⟩⟩
 ·exact S.kind I2 rp rx h2 (show X.A.units+1+1+5<cLine by omega)
 ·have lout:(p.toList.map fun i=>vs.getD i Value.none).length=vs.length:=by rw[List.length_map,Array.length_toList,pl2.size]
  have rv:=ZqR rx pl2;obtain⟨e,he⟩:=sortedHeap_at (h:=h1.push (seqObj "list" vs.toArray 0)) (out:=List.toArray (p.toList.map fun i=>vs.getD i Value.none)) oD;have I3:L2.Inv X pins σ H {s with heap:=sortedHeap (h1.push (seqObj "list" vs.toArray 0)) D vs (List.toArray (p.toList.map fun i=>vs.getD i Value.none))}:=I.kept (t':=s.toks) fun b u e=>Xh b u (Nat.ne_of_lt (Nat.lt_of_lt_of_le (Heap.lt_size e) (by omega))) (k2 b u e)
  have fD:H D=none:=I.hok.fresh (by omega);have J:=ZeH (n:=D) (q:=.lst (p.toList.map fun i=>us.getD i .non)) I I3 fD (by
   cases z:s.heap.get? D with
   |none=>rfl
   |some o=>exact absurd (Heap.lt_size z) (Nat.not_lt.mpr (by omega))) ⟨by rw[rv.length,lout];exact hz,_,_,rv,he⟩
  refine⟨.ref D,_,J,rfl, ?_⟩;have fin:=q (p.toList.map fun i=>(us.getD i .non,kk.getD i d)) (ZqS lkk.symm (by rw[rx.length];exact pl2)) (ZqT so pl2) D fD
  rw[List.map_map] at fin
  exact fin
end
section
variable {X:Cx} {pins:List (Addr×Obj)} {σ:L2.St} {H:Hp} {s:Shared} {α:Type} {lt:α->α->Bool} {R:Hp->α->V->Prop} {d:α} {k:Nat} {g:Addr} {fd:FuncData} {p:Str} {sp:Sp}
end
end L3
namespace L3
open PySem PySem.Spec PyProof.Rows L2
end L3
namespace L3
open PySem PySem.Spec PyProof.Rows L2
theorem Zkd{X:Cx}{K:PySem.W.Frag}{e:PySem.Expr}{f:Str}{pos:Pos}{ta:TE}(eK:X.K=K)(he:PE X e ta)(hb:attributeBase e f X.env (eval e X.env)=eval e X.env):PE X (.Attribute e f pos) (ZrF K ta f):=by
 subst eK;exact Yp he hb
end L3
namespace L3
open PySem PySem.Spec PyProof.Rows L2 PySem.W PySem.Calls
end L3
namespace L3
open PySem PySem.Spec PyProof.Rows L2 PySem.W PySem.Calls
section
variable {X:Cx} {pins:List (Addr×Obj)} {σ:L2.St} {H:Hp} {s:Shared} {A:Around}
theorem Zgd{K:PySem.W.Frag}:∀{xs:List V},(∀x∈xs,Xy x=true)->Zh3 K H (xs.map Dt.v) xs
 |[],_=> .nil
 |x::xs,h=> .cons (.flat (h x (List.mem_cons_self ..))) (Zgd fun y hy=>h y (List.mem_cons_of_mem _ hy))
theorem ZtR{xs:List V}{j:Nat}(h:j<xs.length):(xs.map Dt.v).getD j (.v .non)=.v xs[j]:=by
 rw[List.getD_eq_getElem?_getD,List.getElem?_map,List.getElem?_eq_getElem h]
 rfl
theorem ZpB(I:L2.Inv X pins σ H s){a b:Addr}{xs:List V}(q1:SqT X.K H a xs)(q2:SqT X.K H b xs)(f:∀x∈xs,Xy x=true)(hu:A.units<cLine):SeqAt.EqAt A s (.ref a) (.ref b) true:=by
 intro P w E Q q
 by_cases hab:a=b
 ·subst hab;exact SeqAt.EqAt.same _ P w E Q q
 ·obtain⟨us,v1,p1,_⟩:=I.tuple q1;obtain⟨vs,v2,p2,_⟩:=I.tuple q2;have e1:=v1.length;have e2:=v2.length;refine EqP.refs hab (P:=P) (w:=w) ?_ E Q q;have rc:=(Zp8 (P:=P) (w:=w) (A:=A) (e:=fun _=>true) (show s.heap.IsTuple a us.toArray from p1) (show s.heap.IsTuple b vs.toArray from p2) hu (fun j h1 h2=> ?_)).1
  ·have ee:JW us.toArray vs.toArray (fun _=>true) 0=true:=by
    unfold JW;rw[List.size_toArray,List.size_toArray,<-e1,<-e2,beq_self_eq_true,Bool.and_true];exact List.all_eq_true.mpr fun _ _=>rfl
   rw[ee] at rc
   exact rc
  ·have l1:j<us.length:=by simpa using h1
   have l2:j<vs.length:=by simpa using h2
   obtain⟨x,a1,b1⟩:=Zei (Zgd (K:=X.K) (H:=H) f) v1 j l1;obtain⟨y,a2,b2⟩:=Zei (Zgd (K:=X.K) (H:=H) f) v2 j l2;rw[ZtR (by omega)] at a1 a2
   cases a1 with
   |flat fx=>
    cases a2 with
    |flat fy=>
     intro E2 Q2 q;have q':=ZhF b1 b2 fx fy P w E2 Q2 (A:=A.in1) (s:=s) (by rw[ZaS fx];exact q)
     simpa using q'
def Znc(K:PySem.W.Frag)(H:Hp)(kb:List (Key×V))(kv:Key×V):Prop:=∃(p q:Addr) (xs:List V),kv.2=.ref p/\YK kb kv.1=some (.ref q)/\SqT K H p xs/\SqT K H q xs/\∀x∈xs,Xy x=true
theorem ZpC(I:L2.Inv X pins σ H s){kb:List (Key×V)}{vb:List (Key×Value)}(rb:KV kb vb)(hu:A.units<cLine){ka:List (Key×V)}{va:List (Key×Value)}(ra:KV ka va)(fa:∀kv∈ka,Znc X.K H kb kv):PySem.W.KeqHits A s vb va true:=by
 induction ra with
 |nil=>exact .nil
 | @cons p q ps qs h t ih=>
  obtain⟨k,v⟩:=p;obtain⟨k',u⟩:=q;obtain⟨e1,e2⟩:=h;have e1:k=k':=e1;subst e1;have e2:Yn v u:=e2;have fr:=ih fun kv hm=>fa kv (List.mem_cons_of_mem _ hm);obtain⟨pa,pb,xs,z1,z2,z3,z4,z5⟩:=fa (k,v) (List.mem_cons_self ..);have z1:v=.ref pa:=z1;subst z1;cases e2;have rv:=KV.val rb k;rw[z2] at rv
  cases hw:valueAt vb k with
  |none=>rw[hw] at rv;exact rv.elim
  |some u'=>
   rw[hw] at rv
   cases rv;exact .hit (e:=true) hw (ZpB I z3 z4 z5 hu) fr
end
end L3
namespace L3
open PySem PySem.Spec PyProof.Rows L2 PySem.W PySem.Calls
abbrev Tri:=Str×Int×Str
def Zjo:Tri->Tri->Bool:=ZiQ YL (ZiQ ZbF YL)
theorem Zjp:STO Zjo:=Zfv YM (Zfv Zel YM)
def ZpD(K:PySem.W.Frag)(H:Hp)(x:Tri)(a:V):Prop:=∃p,a=.ref p/\SqT K H p [.str x.1,.int x.2.1,.str x.2.2]
theorem Zmy{X:Cx}{pins:List (Addr×Obj)}{σ:L2.St}{H:Hp}{s:Shared}(I:L2.Inv X pins σ H s){x:Tri}{p:Addr}(h:SqT X.K H p [.str x.1,.int x.2.1,.str x.2.2]):∃t u v,s.heap.IsTuple p #[.str x.1 t,.int x.2.1 u,.str x.2.2 v]:=by
 obtain⟨its,r,T,_⟩:=I.tuple h;cases r with
 |cons a r=>
  cases r with
  |cons b r=>
   cases r with
   |cons c r=>
    cases r;obtain⟨t,rfl⟩:=a;obtain⟨u,rfl⟩:=b;obtain⟨v,rfl⟩:=c;exact⟨t,u,v,T⟩
theorem ZqZ{X:Cx}{pins:List (Addr×Obj)}{σ:L2.St}{H:Hp}{s:Shared}{A:Around}(I:L2.Inv X pins σ H s){x y:Tri}{a b:Addr}(ha:SqT X.K H a [.str x.1,.int x.2.1,.str x.2.2])(hb:SqT X.K H b [.str y.1,.int y.2.1,.str y.2.2]){C:Bool->Shared->Prop}(h:C (Zjo x y) s):wpAny (model X.prog X.w) A (keyLt' (tuples' true) (.ref a) (.ref b)) C (fun _ _=>False) s:=by
 obtain⟨t,u,v,o,e1,c1,n,e3⟩:=Zmy I ha;obtain⟨t',u',v',o',f1,c2,n',f3⟩:=Zmy I hb;have hk:Zjo x y=if x.1=y.1 then(if x.2.1=y.2.1 then YL x.2.2 y.2.2 else ZbF x.2.1 y.2.1) else YL x.1 y.1:=rfl;refine kat_lt e1 e3 f1 f3 ?_;show KatLex X.prog X.w A true false C [(.str x.1 t,.str y.1 t'),(.int x.2.1 u,.int y.2.1 u'),(.str x.2.2 v,.str y.2.2 v')] 0 s;refine kat_cons (wpAny_eqBool_str ?_)
 by_cases z:x.1=y.1
 ·rw[if_pos z] at hk
  rw[decide_eq_true z];refine kat_yes (kat_cons (wpAny_eqBool_int ?_))
  by_cases z2:x.2.1=y.2.1
  ·rw[if_pos z2] at hk
   rw[z2,beq_self_eq_true];refine kat_yes (kat_cons (wpAny_eqBool_str ?_))
   by_cases z3:x.2.2=y.2.2
   ·rw[decide_eq_true z3];refine kat_yes (kat_nil ?_);rw[hk,z3,YM.irr] at h
    exact h
   ·rw[decide_eq_false z3];refine kat_no ?_;show wpAny (model X.prog X.w) A (oneLt' false (.str x.2.2 v) (.str y.2.2 v')) C (fun _ _=>False) s;refine kat_one _ _ (PyProof.Rows.lt_str ?_);rw[hk] at h
    exact h
  ·rw[if_neg z2] at hk
   rw[beq_false_of_ne z2];refine kat_no ?_;show wpAny (model X.prog X.w) A (oneLt' false (.int x.2.1 u) (.int y.2.1 u')) C (fun _ _=>False) s;refine kat_one _ _ (PyProof.Rows.lt_int ?_);rw[hk] at h
   exact h
 ·rw[if_neg z] at hk
  rw[decide_eq_false z];refine kat_no ?_;show wpAny (model X.prog X.w) A (oneLt' true (.str x.1 t) (.str y.1 t')) C (fun _ _=>False) s;refine oneLt_str ?_;rw[hk] at h
  exact h
theorem Zlj{X:Cx}{pins:List (Addr×Obj)}{σ:L2.St}{H:Hp}{s:Shared}(I:L2.Inv X pins σ H s):∀{kk:List Tri} {kx:List V} {ks:List Value} (_:Paired (ZpD X.K H) kk kx) (_:Yr kx ks),∃fs,KatTups s.heap ks fs/\fs.length=ks.length/\∀v∈fs,∃x t,v=Value.str x t
 |_,_,_,.nil,.nil=>⟨[],.nil,rfl,fun v hv=>nomatch hv⟩
 |_,_,_,.cons (a:=y) r t,.cons v vt=>by
  obtain⟨fs,a,b,c⟩:=Zlj I t vt;obtain⟨p,rfl,hp⟩:=r;obtain⟨tk,u,w,o,e1,e2,n,e3⟩:=Zmy I hp;cases v;refine⟨.str y.1 tk::fs,.cons e1 e2 e3 rfl a,by rw[List.length_cons,List.length_cons,b],fun w hw=> ?_⟩;cases hw with
  |head=>exact⟨_,_,rfl⟩
  |tail _ hw=>exact c w hw
theorem ZpE{X:Cx}:Zli X Zjo (ZpD X.K) (Str.empty,0,Str.empty) where
 sto:=Zjp
 kind:=by
  intro A pins σ H s kk kx ks I rp rk h2 hu;obtain⟨fs,t1,t2,t3⟩:=Zlj I rp rk;refine kat_kind (T:=.type "str") t1 (by omega) (fun v hv=> ?_) rfl ⟨rfl,fun i j hi hj C hC=> ?_⟩
  ·obtain⟨n,t,rfl⟩:=t3 v hv;exact Looks.of_pure rfl
  ·obtain⟨x,r1,r2⟩:=Zi0 (d:=(Str.empty,0,Str.empty)) rp rk i hi;obtain⟨y,r3,r4⟩:=Zi0 (d:=(Str.empty,0,Str.empty)) rp rk j hj;obtain⟨p,rfl,hp⟩:=r1;obtain⟨q,rfl,hq⟩:=r3;cases z1:ks.getD i Value.none with
   |ref p'=>
    rw[z1] at r2
    cases r2;cases z2:ks.getD j Value.none with
    |ref q'=>
     rw[z2] at r4
     cases r4;exact ZqZ I hp hq hC
    |_=>rw[z2] at r4;cases r4
   |_=>rw[z1] at r2;cases r2
end L3
namespace L3
open PySem PySem.Spec PyProof.Rows L2 PySem.W PySem.Calls
section
variable {X:Cx}
end
section
variable {X:Cx} {K:PySem.W.Frag}
end
end L3
namespace L3
open PySem PySem.Spec PyProof.Rows L2 PySem.W PySem.Calls
section
variable {P:Program} {w:World} {K:Frag} {mg:Str->Option Value} {base:Heap} {N:List Str} {qual:Str} {scope:Scope} {f:Addr} {cdv:Value} {A:Around} {outer:List Env} {s₀:Shared} {H₀:Hp} {E:XK} {CX:CXT}
abbrev pinned(X:Cx)(pn:List (Addr×Obj)):Cx:={X with pn:=pn,xe:=fun _ _=>False}
abbrev Zo9(P:Program)(w:World)(X:Cx)(pn:List (Addr×Obj))(E':XK):Cx:={X with pn:=pn,xe:=fun ev s'=>∃(pins:List (Addr×Obj)) (σ:L2.St) (H:Hp) (s:Shared),L2.Inv (pinned X pn) pins σ H s/\CXr P w X.stack H s E' ev s'}
theorem Zsa{X:Cx}{pn:List (Addr×Obj)}{E':XK}(o:X.Ok):(Zo9 P w X pn E').Ok:=⟨o.mod,o.kind,o.glob,o.blt,o.above,o.inj,o.has,o.cab,o.hd,o.frames,o.stk,o.exf,o.bs,o.bsz,o.noex,o.exfs,o.funs,o.frf⟩
theorem Zsb{X:Cx}{pn:List (Addr×Obj)}(o:X.Ok):(pinned X pn).Ok:=⟨o.mod,o.kind,o.glob,o.blt,o.above,o.inj,o.has,o.cab,o.hd,o.frames,o.stk,o.exf,o.bs,o.bsz,o.noex,o.exfs,o.funs,o.frf⟩
theorem Zsc{X:Cx}{pins:List (Addr×Obj)}{E':XK}{σ:L2.St}{H:Hp}{s:Shared}(I:L2.Inv X pins σ H s):L2.Inv (Zo9 P w X (X.pn++pins) E') [] σ H s:=⟨Zsa I.ok,I.os,I.bare,I.base,I.loc,I.cell,I.free,I.freeC,fun p hp=>I.pin p (by rwa [List.append_nil] at hp),I.hok,I.len⟩
theorem Zhl{X:Cx}{pins ps:List (Addr×Obj)}{E':XK}{σ:L2.St}{H:Hp}{s:Shared}(o:X.Ok)(I:L2.Inv (Zo9 P w X (X.pn++pins) E') ps σ H s):L2.Inv X pins σ H s:=⟨o,I.os,I.bare,I.base,I.loc,I.cell,I.free,I.freeC,fun p hp=>I.pin p (List.mem_append_left _ hp),I.hok,I.len⟩
theorem Zr0{X:Cx}{pins ps:List (Addr×Obj)}{σ:L2.St}{H:Hp}{s:Shared}(o:X.Ok)(I:L2.Inv (pinned X (X.pn++pins)) ps σ H s):L2.Inv X pins σ H s:=⟨o,I.os,I.bare,I.base,I.loc,I.cell,I.free,I.freeC,fun p hp=>I.pin p (List.mem_append_left _ hp),I.hok,I.len⟩
theorem Zlk{X:Cx}{pn:List (Addr×Obj)}{E':XK}(o:X.Ok):ZaA (CXr P w) (Zo9 P w X pn E') E':=fun pins σ H s _ _ I h=>⟨pins,σ,H,s,⟨Zsb o,I.os,I.bare,I.base,I.loc,I.cell,I.free,I.freeC,I.pin,I.hok,I.len⟩,h⟩
def Zrl(K:Frag)(C:Addr)(i n:Nat)(tb:XK->TS)(ts:TS):TS:=fun D σ H=>tb (fun c d H2=>∀(σ':L2.St) (e:Addr),σ'.length=n->H2 e=none->∃B,c=.ref B/\exmOne K (.ref B) (.ref C)=some true/\ts (Zpk D i) (σ'.set i (some (.ref e))) (upd H2 e (XO e B d))) D σ H
theorem ZpF{X:Cx}(eX:X=Js CX P w K mg base N qual scope f cdv A outer s₀ H₀ E){C:Addr}{i:Nat}{cn n:Str}{tb:XK->TS}{ts:TS}{np hpos pos:Pos}{body:List Stmt}{b0:Stmt}{suite:List Stmt}{rest:List ExceptHandler}{EE:Value->Shared->Prop}
  (hb:X.Ok->∀pn E',PSs (Zo9 P w X pn E') body (tb E'))(hN:X.N.Nodup)(hgc:Gl X cn)(hm:mg cn=some (.ref C))(hi:X.N[i]? =some n)(hk:X.env.scope.names.lookup n=some .local)
  (hs:∀e,PSs (Zgb X e fun _ _=>False) (b0::suite) ts)(hd2:(cn==("__debug__":Str))=false:=by decide){pins:List (Addr×Obj)}{s:Shared}{σ:L2.St}{H:Hp}{D:Zfg}(I:L2.Inv X pins σ H s)(h:Zrl K C i X.N.length tb ts D σ H):
  wpAny (model X.prog X.w) X.A (exec (.Try body (.ExceptHandler (some (.Name cn np)) (some n) (b0::suite) hpos::rest) [] [] pos) X.env) (SP X pins D) EE s:=by
 subst eX;refine wpAny_Try_except (wpAny_mono (hb I.ok _ _ [] s σ H D (Zsc I) h) (fun fl s1 z=> ?_) fun ev s1 z=> ?_)
 ·cases fl with
  |next=>obtain⟨σ2,H2,I3,q3⟩:=z;exact wpAny_execs_nil ⟨σ2,H2,Zhl I.ok I3,q3⟩
  |brk=>obtain⟨σ2,H2,I3,q3⟩:=z;exact⟨σ2,H2,Zhl I.ok I3,q3⟩
  |cont=>obtain⟨σ2,H2,I3,q3⟩:=z;exact⟨σ2,H2,Zhl I.ok I3,q3⟩
  |ret u=>obtain⟨v,σ2,H2,I3,r,q3⟩:=z;exact⟨v,σ2,H2,Zhl I.ok I3,r,q3⟩
 ·obtain⟨ps,σ1,H1,s2,I2,hcx⟩:=z;have I1:=Zr0 (pins:=pins) I.ok I2;refine ZtO (P:=P) (w:=w) I1 hcx fun e D2 a0 H2 B h2 d ee again fl hok new dk q2=> ?_;subst ee;obtain⟨B2,eb,mt,q3⟩:=q2 σ1 e I1.len (apart hok fl);cases eb;exact Zpl I.ok again fl I1 new (apart hok fl) dk hgc hm mt hN hi hk (hs _) q3 hd2
theorem ZpG{X:Cx}(eX:X=(Js CX P w K mg base N qual scope f cdv A outer s₀ H₀ E).nox){C:Addr}{i:Nat}{cn n:Str}{tb:XK->TS}{ts:TS}{np hpos pos:Pos}{body:List Stmt}{b0:Stmt}{suite:List Stmt}{rest:List ExceptHandler}
  (hb:X.Ok->∀pn E',PSs (Zo9 P w X pn E') body (tb E'))(hN:X.N.Nodup)(hgc:Gl X cn)(hm:mg cn=some (.ref C))(hi:X.N[i]? =some n)(hk:X.env.scope.names.lookup n=some .local)
  (hs:∀e,PSs (Zgb X e fun _ _=>False) (b0::suite) ts)(hd2:(cn==("__debug__":Str))=false:=by decide):
  PS X (.Try body (.ExceptHandler (some (.Name cn np)) (some n) (b0::suite) hpos::rest) [] [] pos) (Zrl K C i X.N.length tb ts):=by
 subst eX;intro pins s σ H D I h;refine wpAny_mono (ZpF (P:=P) (w:=w) (K:=K) (mg:=mg) (base:=base) (N:=N) (qual:=qual) (scope:=scope) (f:=f) (cdv:=cdv) (A:=A) (outer:=outer) (s₀:=s₀) (H₀:=H₀) (E:=E) (CX:=CX) (X:=Js CX P w K mg base N qual scope f cdv A outer s₀ H₀ E) rfl (fun _=>hb I.ok) hN hgc hm hi hk hs hd2 (EE:=fun _ _=>False) I.unwish h) (fun fl s2 z=> ?_) fun _ _ z=>z.elim;cases fl with
 |next=>obtain⟨σ2,H2,I3,q3⟩:=z;exact⟨σ2,H2,I3.wish _,q3⟩
 |brk=>obtain⟨σ2,H2,I3,q3⟩:=z;exact⟨σ2,H2,I3.wish _,q3⟩
 |cont=>obtain⟨σ2,H2,I3,q3⟩:=z;exact⟨σ2,H2,I3.wish _,q3⟩
 |ret u=>obtain⟨v,σ2,H2,I3,r,q3⟩:=z;exact⟨v,σ2,H2,I3.wish _,r,q3⟩
end
section
variable {X:Cx}
def Zoa:Value->Bool
 | .bool b=>b==true
 |_=>false
theorem Zi1:∀{bs:List Bool} {us:List Value},Yr (bs.map V.bl) us->us=bs.map Value.bool
 |[],_,.nil=>rfl
 |_::_,_,.cons r t=>by rw[Zi1 t];cases r;rfl
def Zsd:V->List V->Hp->VK->Prop:=fun x vs H Q=>∃(l:Addr) (bs:List Bool),x=.ref l/\vs=[.bl true]/\H l=some (.lst (bs.map V.bl))/\Q (.int ((bs.count true:Nat):Int)) H
theorem Zob(bs:List Bool):(bs.map Value.bool).countP Zoa=bs.count true:=by
 induction bs with
 |nil=>rfl
 |cons b bs ih=>
  rw[List.map_cons,List.countP_cons,List.count_cons,ih]
  rfl
theorem ZpH{bs:List Bool}{A:Around}{s:Shared}:∀y,y∈(bs.map Value.bool).toArray->SeqAt.EqAt A s y (.bool true) (Zoa y):=fun y hy=>by
 obtain⟨b,_,rfl⟩:=List.mem_map.mp (List.mem_toArray.mp hy);exact SeqAt.EqAt.bool_bool b true
theorem ZpI:MtM X "list.count" Zsd:=by
 intro pins s σ H x vs v us Q I rx rv h;obtain⟨l,bs,rfl,rfl,hH,q⟩:=h;cases rx;obtain⟨u,rfl,ru⟩:=rv.one;cases ru;obtain⟨z,its,n,r,hl,e⟩:=I.lstM hH;obtain rfl:=Zi1 r;refine call_meets F.slot_list_count ⟨_,e,rfl⟩ F.entry_list_count (F.args_list_count_2 _ _) (SeqAt.list_countAt l (bs.map Value.bool).toArray n none #[] (.bool true) Zoa) ⟨e,ZpH, ?_⟩;rw[show(bs.map Value.bool).toArray.toList=bs.map Value.bool from rfl,Zob]
 exact⟨.int _,H,I.kept (t':=s.toks+1) (fun _ _ e=>e),⟨_,rfl⟩,q⟩
def Zse:V->List V->Hp->VK->Prop:=fun x vs H Q=>∃(l:Addr) (bs:List Bool) (j:Nat),x=.ref l/\vs=[.bl true]/\H l=some (.lst (bs.map V.bl))/\bs[j]? =some true/\j<1000/\(∀m,m<j->bs[m]? =some false)/\Q (.int (j:Int)) H
theorem Zll:MtM X "list.index" Zse:=by
 intro pins s σ H x vs v us Q I rx rv h;obtain⟨l,bs,j,rfl,rfl,hH,hj,h9,no,q⟩:=h;cases rx;obtain⟨u,rfl,ru⟩:=rv.one;cases ru;obtain⟨z,its,n,r,hl,e⟩:=I.lstM hH;obtain rfl:=Zi1 r;obtain⟨lt,ej⟩:=List.getElem?_eq_some_iff.mp hj;refine call_meets F.slot_list_index ⟨_,e,rfl⟩ F.entry_list_index (F.args_list_index_2 _ _) (SeqAt.list_indexAt l (bs.map Value.bool).toArray n none #[] (.bool true) Zoa j (by simpa using lt) (by omega) (by simp[Zoa,ej]) (fun m hm hlt=> ?_)) ⟨e,ZpH, ?_⟩
 ·have:=no m hlt;obtain⟨lt2,em⟩:=List.getElem?_eq_some_iff.mp this;simp[Zoa,em]
 exact⟨.int _,H,I.kept (t':=s.toks+1) (fun _ _ e=>e),⟨_,rfl⟩,q⟩
end
end L3
namespace L3
open PySem PySem.Spec PyProof.Rows L2 PySem.W PySem.Calls
section
variable {X:Cx} {pins:List (Addr×Obj)} {σ:L2.St} {H:Hp} {s:Shared} {A:Around}
theorem ZpJ(I:L2.Inv X pins σ H s){a b:Addr}{ka kb:List (Key×V)}(h1:Rd H a (.dK ka))(h2:Rd H b (.dK kb))(el:ka.length=kb.length)(sm:∀kv∈ka,Znc X.K H kb kv)(hu:A.units+2<cLine):EqP X.prog X.w A s (.ref a) (.ref b) true:=by
 by_cases hab:a=b
 ·subst hab;exact fun E Q q=>SeqAt.EqAt.same _ X.prog X.w E Q q
 ·refine EqP.refs hab fun E Q q=> ?_;obtain⟨_,z1,va,r1,dd1⟩:=ZcK I.hok h1;obtain⟨_,z2,vb,r2,dd2⟩:=ZcK I.hok h2;have l1:ka.length=va.length:=Paired.length r1;have l2:kb.length=vb.length:=Paired.length r2;refine PySem.W.keq_eq z1 z2 dd1 dd2 (by omega) (fun _=>ZpC I r2 (by show A.units+1<cLine;omega) r1 sm) ?_
  rw[<-l1,<-l2,el,beq_self_eq_true,Bool.true_and];exact q
def Zt7(K:PySem.W.Frag):R2:=fun x y H Q=>∃(p q a1 a2 b1 b2 c1 c2:Addr) (n m:Nat) (d e:Dt) (ka kb:List (Key×V)),x=.ref p/\y=.ref q/\SqT K H p [.ref a1,.ref b1,.ref c1]/\SqT K H q [.ref a2,.ref b2,.ref c2]/\n<=10/\m<=10/\
 Rep K H d (.ref a1)/\Rep K H d (.ref a2)/\ZaR n d d=true/\XQ n d d=true/\Rd H b1 (.dK ka)/\Rd H b2 (.dK kb)/\ka.length=kb.length/\(∀kv∈ka,Znc K H kb kv)/\Rep K H e (.ref c1)/\Rep K H e (.ref c2)/\ZaR m e e=true/\XQ m e e=true/\Q (.bl false) H
theorem Zsf(hu:X.A.units+30<cLine):OpR X (compareOp .NotEq) (Zt7 X.K):=by
 intro pins s σ H x y v u Q I rx ry h;obtain⟨p,q,a1,a2,b1,b2,c1,c2,n,m,d,e,ka,kb,rfl,rfl,hp,hq,hn,hm,r1,r2,lk1,ev1,h1,h2,el,sm,r3,r4,lk2,ev2,qq⟩:=h;cases rx;cases ry;obtain⟨us,v1,p1,_⟩:=I.tuple hp;obtain⟨vs,v2,p2,_⟩:=I.tuple hq;rcases v1 with _|⟨w1,v1⟩
 rcases v1 with _|⟨w2,v1⟩
 rcases v1 with _|⟨w3,v1⟩
 cases v1;rcases v2 with _|⟨y1,v2⟩
 rcases v2 with _|⟨y2,v2⟩
 rcases v2 with _|⟨y3,v2⟩
 cases v2;cases w1;cases w2;cases w3;cases y1;cases y2;cases y3;have hu1:X.A.in1.units+20<cLine:=by show X.A.units+1+20<cLine;omega
 have rc:=(Zp8 (P:=X.prog) (w:=X.w) (A:=X.A) (e:=fun _=>true) (show s.heap.IsTuple p _ from p1) (show s.heap.IsTuple q _ from p2) (by omega) (fun j g1 g2=> ?_)).2
 ·have ee:JW #[Value.ref a1,.ref b1,.ref c1] #[Value.ref a2,.ref b2,.ref c2] (fun _=>true) 0=true:=rfl;have rc':RcP X.prog X.w X.A s .NotEq (.ref p) (.ref q) (!JW #[Value.ref a1,.ref b1,.ref c1] #[Value.ref a2,.ref b2,.ref c2] (fun _=>true) 0):=rc;rw[ee] at rc'
  exact rc' _ _ ⟨.bl _,H,I,rfl,qq⟩
 ·have g1:j<3:=g1
  match j,g1 with
  |0,_=>
   have:=(Zhj I n d d (.ref a1) (.ref a2) (.ref a1) (.ref a2) X.A.in1 r1 r2 rfl rfl lk1 (by omega)).1;rw[ev1] at this
   exact this
  |1,_=>exact ZpJ I h1 h2 el sm (by omega)
  |2,_=>
   have:=(Zhj I m e e (.ref c1) (.ref c2) (.ref c1) (.ref c2) X.A.in1 r3 r4 rfl rfl lk2 (by omega)).1;rw[ev2] at this
   exact this
end
end L3
namespace K32
open PySem PySem.Spec PyProof.Rows L2 L3 M1 M2 M3
set_option maxHeartbeats 5000000
def top(i:Nat):Stmt:=PySem.Challenge.pw_disposehall_k32_not_taken.main.body.getD i (.Pass ⟨0,0,0,0⟩)
abbrev Zke:Stmt:=top 21
abbrev Zkf:Stmt:=top 22
abbrev Zkg:Stmt:=top 23
abbrev Zge:Stmt:=top 24
abbrev Zgf:Stmt:=top 26
abbrev ZeJ:Stmt:=top 27
abbrev Zgg:Stmt:=top 28
abbrev Zb6:Stmt:=top 29
abbrev Zi2:Stmt:=top 31
abbrev Zi3:Stmt:=top 32
abbrev Zgh:Stmt:=top 33
abbrev Zi4:Stmt:=top 34
abbrev ZdG:Stmt:=top 35
abbrev Zgi:Stmt:=top 36
abbrev ZeK:Stmt:=top 37
abbrev ZeL:Stmt:=top 38
abbrev Zd7:Stmt:=top 39
abbrev ZeM:Stmt:=top 40
abbrev Zgj:Stmt:=top 43
abbrev ZbH:Stmt:=top 44
abbrev Zcp:Stmt:=top 46
abbrev Zcq:Stmt:=top 47
abbrev Zb7:Stmt:=top 48
abbrev Zcr:Stmt:=top 49
abbrev ZeN:Stmt:=top 50
abbrev Zcs:Stmt:=top 51
abbrev ZdH:Stmt:=top 52
abbrev Zb8:Stmt:=top 53
abbrev Zb9:Stmt:=top 54
abbrev Zd8:Stmt:=top 55
abbrev ZdI:Stmt:=top 56
abbrev ZbI:Stmt:=top 57
abbrev ZeO:Stmt:=top 58
abbrev ZeP:Stmt:=top 59
abbrev Zgk:Stmt:=top 60
abbrev Zfx:Stmt:=top 61
abbrev ZdJ:Stmt:=Xr (top 16) 0
abbrev ZbJ:Stmt:=Xr (top 16) 2
abbrev Zd9:Stmt:=Xr (top 17) 0
abbrev ZdK:Stmt:=Xr (top 17) 1
abbrev ZbK:Stmt:=Xr (top 17) 3
abbrev Zcd:Stmt:=Xr (top 18) 0
abbrev ZaN:Stmt:=Xr (top 18) 1
abbrev ZdL:Stmt:=Xr (top 19) 0
abbrev Zct:Stmt:=Xr (top 20) 0
abbrev Zda:Stmt:=Xr (top 42) 0
abbrev Zdb:Stmt:=Xr (top 42) 1
abbrev Zaa:Stmt:=Xr (top 42) 2
abbrev ZaE:Stmt:=Xr (top 42) 3
abbrev Zab:Stmt:=Xr (top 42) 4
abbrev Zal:Stmt:=Xr (top 42) 5
abbrev ZdM:Stmt:=Xr (top 42) 6
abbrev ZbL:Stmt:=Xr (top 42) 7
abbrev Zba:Stmt:=Xr (top 42) 8
abbrev Zdc:Stmt:=Xr (top 42) 9
abbrev Zdd:Stmt:=Xr (top 42) 10
structure Txt (K:PySem.W.Frag) (mg:Str->Option Value) (Zk:Addr) (Zi:Addr) (Zj:Addr) (Zb:Addr) (Zt:Addr) (Zr:Addr) (ZM:Addr) (Zw:Addr) (ZC:Addr) (Zx:Addr) (ZD:Addr) (Ze:Addr) (Zd:Addr) (Zf:Addr) (Zq:Addr) (ZF:Addr) (ZP:Addr):Prop where
 z_ValueError:mg "ValueError"=none
 z_abs:mg "abs"=none
 z_any:mg "any"=none
 z_dict:mg "dict"=none
 z_int:mg "int"=none
 z_isinstance:mg "isinstance"=none
 z_len:mg "len"=none
 z_list:mg "list"=none
 z_max:mg "max"=none
 z_min:mg "min"=none
 z_range:mg "range"=none
 z_reversed:mg "reversed"=none
 z_sorted:mg "sorted"=none
 z_tuple:mg "tuple"=none
 kib:PySem.W.kitOne K (.type "int") (.type "bool")=some false
 kii:PySem.W.kitOne K (.type "int") (.type "int")=some true
 kll:PySem.W.kitOne K (.type "list") (.type "list")=some true
 ktt:PySem.W.kitOne K (.type "tuple") (.type "tuple")=some true
 kss:PySem.W.kitOne K (.type "str") (.type "str")=some true
 cl_Never:Cls K Zk
 ty_Never:TyC K Zk
 cl_After:Cls K Zi
 n_After_kind:YW K Zi "kind"
 n_After_days:YW K Zi "days"
 ty_After:TyC K Zi
 cl_Later:Cls K Zj
 n_Later_one:YW K Zj "one"
 n_Later_other:YW K Zj "other"
 ty_Later:TyC K Zj
 cl_Earlier:Cls K Zb
 n_Earlier_one:YW K Zb "one"
 n_Earlier_other:YW K Zb "other"
 ty_Earlier:TyC K Zb
 cl_House:Cls K Zt
 n_House_book:YW K Zt "book"
 n_House_told:YW K Zt "told"
 n_House_own:YW K Zt "own"
 n_House_holdings:YW K Zt "holdings"
 n_House_run_days:YW K Zt "run_days"
 n_House_taken:YW K Zt "taken"
 n_House_words:YW K Zt "words"
 ty_House:TyC K Zt
 mg_HallError:mg "HallError"=some (.ref Zr)
 mg_NoDay:mg "NoDay"=some (.ref ZM)
 mg_NoLength:mg "NoLength"=some (.ref Zw)
 mg_NoTerm:mg "NoTerm"=some (.ref ZC)
 mg_TooWide:mg "TooWide"=some (.ref Zx)
 mg_NoBook:mg "NoBook"=some (.ref ZD)
 mg_PutTwice:mg "PutTwice"=some (.ref Ze)
 mg_HeldTwice:mg "HeldTwice"=some (.ref Zd)
 mg_NoSeries:mg "NoSeries"=some (.ref Zf)
 mg_RunBack:mg "RunBack"=some (.ref Zq)
 mg_Unlike:mg "Unlike"=some (.ref ZF)
 mg_NoRow:mg "NoRow"=some (.ref ZP)
 xc_PutTwice:Za9 K Ze
 xc_HeldTwice:Za9 K Zd
 xc_NoSeries:Za9 K Zf
 xc_RunBack:Za9 K Zq
 xm_p:PySem.W.exmOne K (.ref Ze) (.ref Zr)=some true
 i_p_ve:PySem.W.kitOne K (.ref Ze) (.type "ValueError")=some true
 i_p_HallError:PySem.W.kitOne K (.ref Ze) (.ref Zr)=some true
 i_p_NoDay:PySem.W.kitOne K (.ref Ze) (.ref ZM)=some false
 i_p_NoLength:PySem.W.kitOne K (.ref Ze) (.ref Zw)=some false
 i_p_NoTerm:PySem.W.kitOne K (.ref Ze) (.ref ZC)=some false
 i_p_TooWide:PySem.W.kitOne K (.ref Ze) (.ref Zx)=some false
 i_p_NoBook:PySem.W.kitOne K (.ref Ze) (.ref ZD)=some false
 i_p_PutTwice:PySem.W.kitOne K (.ref Ze) (.ref Ze)=some true
 i_p_HeldTwice:PySem.W.kitOne K (.ref Ze) (.ref Zd)=some false
 i_p_NoSeries:PySem.W.kitOne K (.ref Ze) (.ref Zf)=some false
 i_p_RunBack:PySem.W.kitOne K (.ref Ze) (.ref Zq)=some false
 i_p_Unlike:PySem.W.kitOne K (.ref Ze) (.ref ZF)=some false
 i_p_NoRow:PySem.W.kitOne K (.ref Ze) (.ref ZP)=some false
 xm_h:PySem.W.exmOne K (.ref Zd) (.ref Zr)=some true
 i_h_ve:PySem.W.kitOne K (.ref Zd) (.type "ValueError")=some true
 i_h_HallError:PySem.W.kitOne K (.ref Zd) (.ref Zr)=some true
 i_h_NoDay:PySem.W.kitOne K (.ref Zd) (.ref ZM)=some false
 i_h_NoLength:PySem.W.kitOne K (.ref Zd) (.ref Zw)=some false
 i_h_NoTerm:PySem.W.kitOne K (.ref Zd) (.ref ZC)=some false
 i_h_TooWide:PySem.W.kitOne K (.ref Zd) (.ref Zx)=some false
 i_h_NoBook:PySem.W.kitOne K (.ref Zd) (.ref ZD)=some false
 i_h_PutTwice:PySem.W.kitOne K (.ref Zd) (.ref Ze)=some false
 i_h_HeldTwice:PySem.W.kitOne K (.ref Zd) (.ref Zd)=some true
 i_h_NoSeries:PySem.W.kitOne K (.ref Zd) (.ref Zf)=some false
 i_h_RunBack:PySem.W.kitOne K (.ref Zd) (.ref Zq)=some false
 i_h_Unlike:PySem.W.kitOne K (.ref Zd) (.ref ZF)=some false
 i_h_NoRow:PySem.W.kitOne K (.ref Zd) (.ref ZP)=some false
 xm_s:PySem.W.exmOne K (.ref Zf) (.ref Zr)=some true
 i_s_ve:PySem.W.kitOne K (.ref Zf) (.type "ValueError")=some true
 i_s_HallError:PySem.W.kitOne K (.ref Zf) (.ref Zr)=some true
 i_s_NoDay:PySem.W.kitOne K (.ref Zf) (.ref ZM)=some false
 i_s_NoLength:PySem.W.kitOne K (.ref Zf) (.ref Zw)=some false
 i_s_NoTerm:PySem.W.kitOne K (.ref Zf) (.ref ZC)=some false
 i_s_TooWide:PySem.W.kitOne K (.ref Zf) (.ref Zx)=some false
 i_s_NoBook:PySem.W.kitOne K (.ref Zf) (.ref ZD)=some false
 i_s_PutTwice:PySem.W.kitOne K (.ref Zf) (.ref Ze)=some false
 i_s_HeldTwice:PySem.W.kitOne K (.ref Zf) (.ref Zd)=some false
 i_s_NoSeries:PySem.W.kitOne K (.ref Zf) (.ref Zf)=some true
 i_s_RunBack:PySem.W.kitOne K (.ref Zf) (.ref Zq)=some false
 i_s_Unlike:PySem.W.kitOne K (.ref Zf) (.ref ZF)=some false
 i_s_NoRow:PySem.W.kitOne K (.ref Zf) (.ref ZP)=some false
 xm_b:PySem.W.exmOne K (.ref Zq) (.ref Zr)=some true
 i_b_ve:PySem.W.kitOne K (.ref Zq) (.type "ValueError")=some true
 i_b_HallError:PySem.W.kitOne K (.ref Zq) (.ref Zr)=some true
 i_b_NoDay:PySem.W.kitOne K (.ref Zq) (.ref ZM)=some false
 i_b_NoLength:PySem.W.kitOne K (.ref Zq) (.ref Zw)=some false
 i_b_NoTerm:PySem.W.kitOne K (.ref Zq) (.ref ZC)=some false
 i_b_TooWide:PySem.W.kitOne K (.ref Zq) (.ref Zx)=some false
 i_b_NoBook:PySem.W.kitOne K (.ref Zq) (.ref ZD)=some false
 i_b_PutTwice:PySem.W.kitOne K (.ref Zq) (.ref Ze)=some false
 i_b_HeldTwice:PySem.W.kitOne K (.ref Zq) (.ref Zd)=some false
 i_b_NoSeries:PySem.W.kitOne K (.ref Zq) (.ref Zf)=some false
 i_b_RunBack:PySem.W.kitOne K (.ref Zq) (.ref Zq)=some true
 i_b_Unlike:PySem.W.kitOne K (.ref Zq) (.ref ZF)=some false
 i_b_NoRow:PySem.W.kitOne K (.ref Zq) (.ref ZP)=some false
 ne_Never_After:Zk≠Zi
 ne_Never_Later:Zk≠Zj
 ne_Never_Earlier:Zk≠Zb
 Z01:Zk≠Zt
 ne_After_Later:Zi≠Zj
 ne_After_Earlier:Zi≠Zb
 Z02:Zi≠Zt
 ne_Later_Earlier:Zj≠Zb
 Z03:Zj≠Zt
 X4:Zb≠Zt
theorem Xd:100000<=sizeLine:=by rw[sizeLine_eq];decide
theorem sl{n:Nat}(h:n<=100000:=by decide):n<=sizeLine:=Nat.le_trans h Xd
theorem Zg{H:Hp}{p:Addr}{o:HO}(h:H p=none):ZS H (upd H p o):=fun b u e=>by rw[Zv (Zn e h)];exact e
theorem Znd(x:Str)(c:Nat):(x++⟨#[c]⟩:Str).length=x.length+1:=strLen_append x ⟨#[c]⟩
theorem Zfy{α:Type}{xs:List α}{i:Int}(h0: -(xs.length:Int)<=i)(h1:i<xs.length):∃v,atI xs i=some v:=by
 unfold atI ixN
 by_cases h:0<=i
 ·rw[if_pos h,if_pos h1];exact⟨_,List.getElem?_eq_getElem (by omega)⟩
 ·rw[if_neg h,if_pos h0];exact⟨_,List.getElem?_eq_getElem (by omega)⟩
theorem Zi5{ns:List Int}{i:Int}(h0: -(ns.length:Int)<=i)(h1:i<ns.length):∃c,c∈ns/\atI (ns.map V.int) i=some (.int c):=by
 obtain⟨v,e⟩:=Zfy (xs:=ns.map V.int) (i:=i) (by rw[List.length_map];exact h0) (by rw[List.length_map];exact h1)
 obtain⟨j,_,hj,_⟩:=Zed e;rw[List.getElem?_map] at hj
 cases q:ns[j]? with
 |none=>rw[q] at hj;cases hj
 |some c=>
  rw[q] at hj
  cases hj;exact⟨c,List.mem_of_getElem? q,e⟩
theorem Zt8{Q:VK}{a b:V}{H:Hp}(q:Q a H)(e:a=b):Q b H:=e▸q
theorem Zam{c A B:Prop} [Decidable c](hc:c)(h:A):if decide c=true then A else B:=by
 rw[decide_eq_true hc];exact Jq h
theorem Zr1(k:Nat):((10:Int)^k)=((10^k:Nat):Int):=by simp
theorem Zsg{k:Int}(h0:0<=k)(h1:k<=1000):ZsE 10 k:=⟨h0,by omega,by decide⟩
theorem pow_pos(k:Nat):(0:Int)<10^k:=by rw[Zr1];exact Int.natCast_pos.mpr (Nat.pow_pos (by decide))
theorem ixT{K:PySem.W.Frag}{i:Nat}{j:Int}{σ:L2.St}{H:Hp}{Q:VK}{a:Addr}{xs:List V}{v:V}(e:σ[i]? =some (some (.ref a)))(h:SqT K H a xs)(m:atI xs j=some v)(k:Q v H):tOp (ZrH K) (ZoC i) (tC (.int j)) σ H Q:=⟨_,e,a,_,_,_,rfl,rfl,h,m,k⟩
theorem vI{C:Int->Int->Prop}{g:Int->Int->V}{i:Nat}{σ:L2.St}{H:Hp}{Q:VK}{a k:Int}(e:σ[i]? =some (some (.int a)))(c:C a k)(q:Q (g a k) H):tOp (rI C g) (ZoC i) (tC (.int k)) σ H Q:=⟨_,e,a,k,rfl,rfl,c,q⟩
theorem vEq{i:Nat}{σ:L2.St}{H:Hp}{k:Bool->Hp->Prop}{x v:V}(e:σ[i]? =some (some x))(f:Zqo x v=true)(q:k (decide (x=v)) H):Zrf (tOp rEq (ZoC i) (tC v)) σ H k:=⟨_,e,f,_,rfl,q⟩
def Nm(z:Str):Prop:=1<=z.length/\z.length<=12/\∀c∈cs z,97<=c/\c<=122
def ZcL(n k at_:Int)(j:Nat):Nat:=97+((n/((j:Int)+3)+(j:Int)*(j:Int)+k*(if(j:Int)=at_ then 1 else 0))%26).toNat
def ZdN(n k:Int)(j:Nat):Nat:=97+(((j:Int)+k)%12+n/432%14).toNat
def Zfz(n k:Int):List Nat:=
 if n/144%3=1 then(List.range 12).map (ZdN n k)
 else if n/144%3=0 then(List.range (1+k%12).toNat).map (ZcL n k 12)
 else(List.range (1+n%12).toNat).map (ZcL n k (n/12%(1+n%12)))
def Zbn(n k:Int):Str:=⟨(Zfz n k).toArray⟩
theorem ZfA(n k:Int):cs (Zbn n k)=Zfz n k:=rfl
def Xz:Sp:=fun vs H Q _=>∃n k:Int,vs=[.int n,.int k]/\∀H',ZS H H'->Q (.str (Zbn n k)) H'
theorem Zt9(n k a:Int)(j:Nat):97<=ZcL n k a j/\ZcL n k a j<=122:=by
 unfold ZcL;have h0:=Int.emod_nonneg (n/((j:Int)+3)+(j:Int)*(j:Int)+k*(if(j:Int)=a then 1 else 0)) (show(26:Int)≠0 by decide);have h1:=Int.emod_lt_of_pos (n/((j:Int)+3)+(j:Int)*(j:Int)+k*(if(j:Int)=a then 1 else 0)) (show(0:Int)<26 by decide);omega
theorem Zta(n k:Int)(j:Nat):97<=ZdN n k j/\ZdN n k j<=122:=by
 unfold ZdN;have h0:=Int.emod_nonneg ((j:Int)+k) (show(12:Int)≠0 by decide);have h1:=Int.emod_lt_of_pos ((j:Int)+k) (show(0:Int)<12 by decide);have h2:=Int.emod_nonneg (n/432) (show(14:Int)≠0 by decide);have h3:=Int.emod_lt_of_pos (n/432) (show(0:Int)<14 by decide);omega
theorem ZbM(n k:Int):Nm (Zbn n k):=by
 have a0:=Int.emod_nonneg n (show(12:Int)≠0 by decide);have a1:=Int.emod_lt_of_pos n (show(0:Int)<12 by decide);have b0:=Int.emod_nonneg k (show(12:Int)≠0 by decide);have b1:=Int.emod_lt_of_pos k (show(0:Int)<12 by decide);have key:∀l:List Nat,cs (Zbn n k)=l->1<=l.length->l.length<=12->(∀c∈l,97<=c/\c<=122)->Nm (Zbn n k):=fun l e h1 h2 h3=>⟨by rw[Zg9,e];exact h1,by rw[Zg9,e];exact h2,by rw[e];exact h3⟩
 refine key (Zfz n k) (ZfA n k) ?_ ?_ ?_<;>unfold Zfz<;>split
 ·rw[List.length_map,List.length_range];decide
 ·split
  ·rw[List.length_map,List.length_range];omega
  ·rw[List.length_map,List.length_range];omega
 ·rw[List.length_map,List.length_range];decide
 ·split
  ·rw[List.length_map,List.length_range];omega
  ·rw[List.length_map,List.length_range];omega
 ·intro c hc;obtain⟨j,_,rfl⟩:=List.mem_map.mp hc;exact Zta n k j
 ·split<;>(intro c hc;obtain⟨j,_,rfl⟩:=List.mem_map.mp hc;exact Zt9 ..)
theorem Zoc{n k k':Int}(h0:0<=k)(h1:k<12)(h0':0<=k')(h1':k'<12)(h:Zbn n k=Zbn n k'):k=k':=by
 have h:Zfz n k=Zfz n k':=by rw[<-ZfA,<-ZfA,h]
 unfold Zfz at h
 by_cases w1:n/144%3=1
 ·rw[if_pos w1,if_pos w1] at h
  have h:ZdN n k 0=ZdN n k' 0:=congrArg (fun l=>l.headD 0) h;unfold ZdN at h
  have h2:=Int.emod_nonneg (n/432) (show(14:Int)≠0 by decide);have e1:((0:Nat):Int)+k=k:=by omega
  have e2:((0:Nat):Int)+k'=k':=by omega
  rw[e1,e2,Int.emod_eq_of_lt h0 h1,Int.emod_eq_of_lt h0' h1'] at h
  omega
 ·rw[if_neg w1,if_neg w1] at h
  by_cases w0:n/144%3=0
  ·rw[if_pos w0,if_pos w0] at h
   have h:=congrArg List.length h;rw[List.length_map,List.length_map,List.length_range,List.length_range,Int.emod_eq_of_lt h0 h1,Int.emod_eq_of_lt h0' h1'] at h
   omega
  ·rw[if_neg w0,if_neg w0] at h
   have a0:=Int.emod_nonneg n (show(12:Int)≠0 by decide);have pos:(0:Int)<1+n%12:=by omega
   have t0:=Int.emod_nonneg (n/12) (Int.ne_of_gt pos);have t1:=Int.emod_lt_of_pos (n/12) pos;obtain⟨a,ea⟩:∃a:Nat,n/12%(1+n%12)=(a:Int):=⟨(n/12%(1+n%12)).toNat,by omega⟩
   rw[ea] at h t0 t1
   have lt:a<(1+n%12).toNat:=by omega
   have h:((List.range (1+n%12).toNat).map (ZcL n k a))[a]? =((List.range (1+n%12).toNat).map (ZcL n k' a))[a]? :=by rw[h]
   rw[List.getElem?_map,List.getElem?_map,List.getElem?_range lt] at h
   have h:ZcL n k a a=ZcL n k' a a:=Option.some.inj h;unfold ZcL at h
   rw[if_pos rfl] at h
   generalize n/((a:Int)+3)+(a:Int)*(a:Int)=b at h
   have x0:=Int.emod_nonneg (b+k*1) (show(26:Int)≠0 by decide);have y0:=Int.emod_nonneg (b+k'*1) (show(26:Int)≠0 by decide);omega
inductive Tr where
 |never|after (k:Str) (d:Int)|later (x y:Tr)|earlier (x y:Tr)
def Tr.deep:Tr->Nat
 | .never=>0
 | .after _ _=>0
 | .later x y=>max x.deep y.deep+1
 | .earlier x y=>max x.deep y.deep+1
def Tr.cnt:Tr->Nat
 | .never=>1
 | .after _ _=>1
 | .later x y=>x.cnt+y.cnt
 | .earlier x y=>x.cnt+y.cnt
def Tr.lvs:Tr->List (Str×Int)
 | .never=>[]
 | .after k d=>[(k,d)]
 | .later x y=>x.lvs++y.lvs
 | .earlier x y=>x.lvs++y.lvs
def ZpK:Option Int->Option Int->Option Int
 |some a,some b=>some (if b>a then b else a)
 |_,_=>none
def Zlm:Option Int->Option Int->Option Int
 |none,o=>o
 |some a,none=>some a
 |some a,some b=>some (if b<a then b else a)
def Tr.due(l:Tb):Tr->Option Int
 | .never=>none
 | .after k d=>(lk l k).map (· +d)
 | .later x y=>ZpK (x.due l) (y.due l)
 | .earlier x y=>Zlm (x.due l) (y.due l)
def oV:Option Int->V
 |some i=> .int i
 |none=> .non
def fA(k:Str)(d:Int):List (Str×V):=Yg "days" (.int d) (Yg "kind" (.str k) [])
def fP(p q:Addr):List (Str×V):=Yg "other" (.ref q) (Yg "one" (.ref p) [])
def Xk(cn ca cl ce:Addr)(H:Hp):Tr->Addr->Prop
 | .never,a=>∃dx,H a=some (.ins cn dx [])
 | .after k d,a=>∃dx,H a=some (.ins ca dx (fA k d))
 | .later x y,a=>∃dx p q,H a=some (.ins cl dx (fP p q))/\Xk cn ca cl ce H x p/\Xk cn ca cl ce H y q
 | .earlier x y,a=>∃dx p q,H a=some (.ins ce dx (fP p q))/\Xk cn ca cl ce H x p/\Xk cn ca cl ce H y q
def ZgQ(cn ca cl ce:Addr):Tr->Addr
 | .never=>cn
 | .after _ _=>ca
 | .later _ _=>cl
 | .earlier _ _=>ce
def Zkh(H:Hp)(p:Addr)(ls:List (Str×Int)):Prop:=∃ys,H p=some (.lst ys)/\Paired (fun(kd:Str×Int) y=>∃q,y=V.ref q/\H q=some (.tup [.str kd.1,.int kd.2])) ls ys
def Zcu(C:Addr):Sp:=fun vs H Q _=>∃(x dx:Addr) (k:Str) (d:Int),vs=[.ref x,.str k,.int d]/\H x=some (.ins C dx [])/\Q .non (upd H x (.ins C dx (fA k d)))
def Zan(C:Addr):Sp:=fun vs H Q _=>∃(x dx p q:Addr),vs=[.ref x,.ref p,.ref q]/\H x=some (.ins C dx [])/\Q .non (upd H x (.ins C dx (fP p q)))
def Zi6(cn ca cl ce:Addr):Sp:=fun vs H Q _=>vs=[]/\∀a H',ZS H H'->H a=none->Xk cn ca cl ce H' .never a->Q (.ref a) H'
def Zi7(cn ca cl ce:Addr):Sp:=fun vs H Q _=>∃(k:Str) (d:Int),vs=[.str k,.int d]/\∀a H',ZS H H'->H a=none->Xk cn ca cl ce H' (.after k d) a->Q (.ref a) H'
def Zi8(cn ca cl ce:Addr):Sp:=fun vs H Q _=>∃(p q:Addr) (x y:Tr),vs=[.ref p,.ref q]/\Xk cn ca cl ce H x p/\Xk cn ca cl ce H y q/\∀a H',ZS H H'->H a=none->Xk cn ca cl ce H' (.later x y) a->Q (.ref a) H'
def ZeQ(cn ca cl ce:Addr):Sp:=fun vs H Q _=>∃(p q:Addr) (x y:Tr),vs=[.ref p,.ref q]/\Xk cn ca cl ce H x p/\Xk cn ca cl ce H y q/\∀a H',ZS H H'->H a=none->Xk cn ca cl ce H' (.earlier x y) a->Q (.ref a) H'
def Zcv(cn ca cl ce:Addr)(n:Nat)(C:Addr):Sp:=fun vs H Q _=>∃(a b:Addr) (t:Tr) (l:Tb),vs=[.ref a,.ref b]/\Xk cn ca cl ce H t a/\t.deep<n/\ZgQ cn ca cl ce t=C/\Rd H b (.dK (kk l))/\∀H',ZS H H'->Q (oV (t.due l)) H'
def Zae(cn ca cl ce:Addr)(n:Nat)(C:Addr):Sp:=fun vs H Q _=>∃(a:Addr) (t:Tr),vs=[.ref a]/\Xk cn ca cl ce H t a/\t.deep<n/\t.cnt<=100/\ZgQ cn ca cl ce t=C/\∀p H',ZS H H'->H p=none->Zkh H' p t.lvs->Q (.ref p) H'
theorem ZfB{cn ca cl ce C:Addr}:∀vs H Q E,¬Zcv cn ca cl ce 0 C vs H Q E:=fun _ _ _ _ ⟨_,_,t,_,_,_,z,_⟩=>Nat.not_lt_zero t.deep z
theorem Zce{cn ca cl ce C:Addr}:∀vs H Q E,¬Zae cn ca cl ce 0 C vs H Q E:=fun _ _ _ _ ⟨_,t,_,_,z,_⟩=>Nat.not_lt_zero t.deep z
def Tr.good:Tr->Prop
 | .never=>True
 | .after k d=>Nm k/\0<=d/\d<10^40
 | .later x y=>x.good/\y.good
 | .earlier x y=>x.good/\y.good
def Ju(H:Hp):Tr->Addr->Prop
 | .never,a=>H a=some (.tup [.str (Str.ofString "never")])
 | .after k d,a=>H a=some (.tup [.str (Str.ofString "after"),.str k,.int d])
 | .later x y,a=>∃p q,H a=some (.tup [.str (Str.ofString "later"),.ref p,.ref q])/\Ju H x p/\Ju H y q
 | .earlier x y,a=>∃p q,H a=some (.tup [.str (Str.ofString "earlier"),.ref p,.ref q])/\Ju H x p/\Ju H y q
def ZaV(cn ca cl ce:Addr)(n:Nat):Sp:=fun vs H Q _=>∃(a:Addr) (t:Tr),vs=[.ref a]/\Ju H t a/\t.deep<n/\∀p H',ZS H H'->Xk cn ca cl ce H' t p->Q (.ref p) H'
theorem ZiT{cn ca cl ce:Addr}:∀vs H Q E,¬ZaV cn ca cl ce 0 vs H Q E:=fun _ _ _ _ ⟨_,t,_,_,z,_⟩=>Nat.not_lt_zero t.deep z
def ZaF:Sp:=fun vs H Q _=>∃c:Int,vs=[.int c]/\∀(d:Int) H',0<=d->d<10^40->ZS H H'->Q (.int d) H'
def ZbN:Sp:=fun vs H Q _=>∃(a:Addr) (ns:List Int) (b:Int) (mo:Nat),vs=[.ref a,.int b,.int (mo:Int)]/\H a=some (.lst (ns.map V.int))/\ns.length<=1000/\1<=mo/\mo<=15/\∀p (t:Tr) H',ZS H H'->Ju H' t p->t.cnt<=mo->t.good->Q (.ref p) H'
structure Sr where
 nm:Str
 el:Option Str
 tm:Option Tr
def oS:Option Str->V
 |some z=> .str z
 |none=> .non
structure Sr.good (r:Sr):Prop where
 nm:Nm r.nm
 el:∀e,r.el=some e->Nm e
 tm:∀t,r.tm=some t->t.good/\t.cnt<=9
 some:r.el=none->r.tm≠none
def Zbb:List Str->List Sr->Prop
 |_,[]=>True
 |ns,r::rs=>r.good/\r.nm∉ns/\(∀e,r.el=some e->e∈ns)/\Zbb (ns++[r.nm]) rs
def Ztb(cn ca cl ce:Addr)(H:Hp):Option Tr->V->Prop
 |some t,v=>∃a,v=.ref a/\Xk cn ca cl ce H t a
 |none,v=>v=.non
def Zdv(cn ca cl ce:Addr)(H:Hp)(d:Addr)(r:Sr):Prop:=∃v,H d=some (.tup [.str r.nm,oS r.el,v])/\Ztb cn ca cl ce H r.tm v
def ZfC(cn ca cl ce:Addr)(H:Hp)(p:Addr)(rs:List Sr):Prop:=∃ds:List Addr,H p=some (.lst (ds.map V.ref))/\Paired (Zdv cn ca cl ce H) ds rs
def ZbO:List Sr->Option Str->List Str
 |[],_=>[]
 |r::rr,w=>if some r.nm=w then r.nm::ZbO rr r.el else ZbO rr w
def ZfD:List Sr->Option Str->Option Sr
 |[],_=>none
 |r::rr,w=>if some r.nm=w then(if r.tm.isSome=true then some r else ZfD rr r.el) else ZfD rr w
def BkR:List Sr->Prop
 |[]=>True
 |r::rr=>r.good/\r.nm∉rr.map Sr.nm/\(∀e,r.el=some e->e∈rr.map Sr.nm)/\BkR rr
def ZeR(cn ca cl ce:Addr):Sp:=fun vs H Q _=>∃(p:Addr) (n:Str) (rs:List Sr),vs=[.ref p,.str n]/\ZfC cn ca cl ce H p rs/\rs.length<=63/\∀L H',H L=none->ZS H H'->H' L=some (.lst ((ZbO rs.reverse (some n)).map V.str))->Q (.ref L) H'
def JR(cn ca cl ce:Addr):Sp:=fun vs H Q _=>∃(p:Addr) (n:Str) (rs:List Sr) (r:Sr),vs=[.ref p,.str n]/\ZfC cn ca cl ce H p rs/\rs.length<=63/\ZfD rs.reverse (some n)=some r/\∀d H',ZS H H'->Zdv cn ca cl ce H' d r->Q (.ref d) H'
def ZdO(cn ca cl ce:Addr):Sp:=fun vs H Q _=>∃(p:Addr) (n:Str) (rs:List Sr) (r:Sr),vs=[.ref p,.str n]/\ZfC cn ca cl ce H p rs/\rs.length<=63/\ZfD rs.reverse (some n)=some r/\∀H',ZS H H'->Q (.str r.nm) H'
def Zde(cn ca cl ce:Addr):Sp:=fun vs H Q _=>∃(p:Addr) (n:Str) (rs:List Sr) (r:Sr) (t:Tr),vs=[.ref p,.str n]/\ZfC cn ca cl ce H p rs/\rs.length<=63/\ZfD rs.reverse (some n)=some r/\r.tm=some t/\∀a H',ZS H H'->Xk cn ca cl ce H' t a->Q (.ref a) H'
inductive Rw where
 |put (r s:Str) (d:Int)|move (r s:Str) (d:Int)|deed (r k:Str) (d:Int)|lift (h:Str) (d:Int)|hold (h:Str) (rec:Bool) (n:Str) (d:Int)
def Rw.day:Rw->Int
 | .put _ _ d=>d
 | .move _ _ d=>d
 | .deed _ _ d=>d
 | .lift _ d=>d
 | .hold _ _ _ d=>d
def Rw.word:Rw->Str
 | .put _ _ _=>"put"
 | .move _ _ _=>"move"
 | .deed _ _ _=>"deed"
 | .lift _ _=>"lift"
 | .hold _ _ _ _=>"hold"
def Rw.one:Rw->Str
 | .put r _ _=>r
 | .move r _ _=>r
 | .deed r _ _=>r
 | .lift h _=>h
 | .hold h _ _ _=>h
def onW(rec:Bool):Str:=if rec=true then "record" else "series"
def Rw.vs:Rw->List V
 | .put r s d=>[.str "put",.str r,.str s,.int d]
 | .move r s d=>[.str "move",.str r,.str s,.int d]
 | .deed r k d=>[.str "deed",.str r,.str k,.int d]
 | .lift h d=>[.str "lift",.str h,.int d]
 | .hold h rec n d=>[.str "hold",.str h,.str (onW rec),.str n,.int d]
def ZbP(H:Hp)(a:Addr)(w:Rw):Prop:=H a=some (.tup w.vs)
def Xb(H:Hp)(p:Addr)(ws:List Rw):Prop:=∃ds:List Addr,H p=some (.lst (ds.map V.ref))/\Paired (ZbP H) ds ws
def Ys(ws:List Rw)(day:Int):List Rw:=ws.filter fun w=>decide (w.day<=day)
def ZcM(r:Str):Rw->Bool
 | .put x _ _=>decide (x=r)
 |_=>false
def Xl(ws:List Rw)(r:Str):Bool:=ws.any (ZcM r)
def ZdP(r:Str):Rw->Option ZaU
 | .put x s d=>if x=r then some (d,s) else none
 | .move x s d=>if x=r then some (d,s) else none
 |_=>none
def YT(ws:List Rw)(r:Str):List ZaU:=ws.filterMap (ZdP r)
def Top(ys:List ZaU)(y:ZaU):Prop:=y∈ys/\∀z∈ys,ZiR y z=false
theorem Top.one{ys:List ZaU}{y z:ZaU}(h:Top ys y)(k:Top ys z):y=z:=by
 rcases ZbG.tri y z with a|a|a
 ·rw[h.2 z k.1] at a;cases a
 ·exact a
 ·rw[k.2 y h.1] at a;cases a
def Jc(r:Str)(l:Tb):Rw->Tb
 | .put x _ d=>if x=r then Zk1 l "put" (max d ((lk l "put").getD d)) else l
 | .deed x k d=>if x=r then Zk1 l k (max d ((lk l k).getD d)) else l
 |_=>l
def XR(ws:List Rw)(r:Str):Tb:=ws.foldl (Jc r) []
def ZbQ:Rw->Option Str
 | .lift h _=>some h
 |_=>none
def XC(ws:List Rw):List Str:=ws.filterMap ZbQ
def Zcw(ls:List Str):Rw->Bool
 | .hold h _ _ _=>decide (h∉ls)
 |_=>false
def YD(ws:List Rw):List Rw:=ws.filter (Zcw (XC ws))
def ZeS(r:Str)(line:List Str):Rw->Bool
 | .hold _ true n _=>decide (n=r)
 | .hold _ false n _=>decide (n∈line)
 |_=>false
def YZ(ws:List Rw)(r:Str)(line:List Str):List Str:=((YD ws).filter (ZeS r line)).map Rw.one
def JS(due:Option Int)(many:Nat)(day:Int):Str:=match due with
 |none=>"kept"
 |some d=>if day<d then "kept" else if 0<many then "held" else "due"
def ZaG:Sp:=fun vs H Q _=>∃(p:Addr) (ws:List Rw) (day:Int),vs=[.ref p,.int day]/\Xb H p ws/\ws.length<=1000/\∀q H',H q=none->ZS H H'->Xb H' q (Ys ws day)->Q (.ref q) H'
def ZcN:Sp:=fun vs H Q _=>∃(p:Addr) (ws:List Rw) (r:Str),vs=[.ref p,.str r]/\Xb H p ws/\ws.length<=1000/\∀H',ZS H H'->Q (.bl (Xl ws r)) H'
def Zbs:Sp:=fun vs H Q _=>∃(p:Addr) (ws:List Rw) (r:Str) (y:ZaU),vs=[.ref p,.str r]/\Xb H p ws/\ws.length<=1000/\Top (YT ws r) y/\∀H',ZS H H'->Q (.str y.2) H'
def Zdf:Sp:=fun vs H Q _=>∃(p:Addr) (ws:List Rw) (r:Str),vs=[.ref p,.str r]/\Xb H p ws/\ws.length<=1000/\∀q H',H q=none->ZS H H'->H' q=some (.dK (kk (XR ws r)))->Q (.ref q) H'
def ZaW:Sp:=fun vs H Q _=>∃(p:Addr) (ws:List Rw),vs=[.ref p]/\Xb H p ws/\ws.length<=1000/\∀q H',H q=none->ZS H H'->Xb H' q (YD ws)->Q (.ref q) H'
def Zcx:Sp:=fun vs H Q _=>∃(a o:Addr) (h n:Str) (rec:Bool) (d:Int) (r:Str) (line:List Str) (kvs:List (Key×V)),vs=[.ref a,.str r,.ref o]/\ZbP H a (.hold h rec n d)/\H o=some (.dK kvs)/\(∀z,Zh1 H o (.str z) (if z∈line then some (V.bl true) else none))/\∀H',ZS H H'->Q (.bl (ZeS r line (.hold h rec n d))) H'
def ZdQ:Sp:=fun vs H Q _=>∃(p l:Addr) (ws:List Rw) (r:Str) (line:List Str),vs=[.ref p,.str r,.ref l]/\Xb H p ws/\ws.length<=1000/\H l=some (.lst (line.map V.str))/\line.length<=63/\(YZ ws r line).length<64/\
 ∀q zs H',H q=none->ZS H H'->zs.Perm (YZ ws r line)->sortedS zs=true->H' q=some (.lst (zs.map V.str))->Q (.ref q) H'
def ZdR:Sp:=fun vs H Q _=>∃(q:Addr) (zs:List Str) (due:Option Int) (day:Int),vs=[oV due,.ref q,.int day]/\H q=some (.lst (zs.map V.str))/\∀H',ZS H H'->Q (.str (JS due zs.length day)) H'
structure Jd where
 word:Str
 ser:Option Str
 own:Option Str
 due:Option Int
 holds:List Str
def Zki:Jd:=⟨"absent",none,none,none,[]⟩
def ZtS(H:Hp)(a:Addr)(j:Jd):Prop:=∃L,H a=some (.tup [.str j.word,oS j.ser,oS j.own,oV j.due,.ref L])/\H L=some (.lst (j.holds.map V.str))
structure IsJ (rs:List Sr) (ws:List Rw) (rec:Str) (day:Int) (j:Jd):Prop where
 no:Xl (Ys ws day) rec=false->j=Zki
 yes:Xl (Ys ws day) rec=true->∃(y:ZaU) (r0:Sr) (t:Tr),Top (YT (Ys ws day) rec) y/\ZfD rs.reverse (some y.2)=some r0/\r0.tm=some t/\j.ser=some y.2/\j.own=some r0.nm/\j.due=t.due (XR (Ys ws day) rec)/\
  j.holds.Perm (YZ (Ys ws day) rec (ZbO rs.reverse (some y.2)))/\sortedS j.holds=true/\j.word=JS j.due j.holds.length day
def JX:Rw->Bool
 | .hold _ _ _ _=>true
 |_=>false
structure Zgl (rs:List Sr) (ws:List Rw):Prop where
 len:ws.length<=1000
 held:(ws.filter JX).length<64
 ser:∀r,∀y∈YT ws r,y.2∈rs.map Sr.nm
def Zeo(cn ca cl ce:Addr):Sp:=fun vs H Q _=>∃(p q:Addr) (rs:List Sr) (ws:List Rw) (rec:Str) (day:Int),vs=[.ref p,.ref q,.str rec,.int day]/\ZfC cn ca cl ce H p rs/\Zbb [] rs/\rs.length<=63/\Xb H q ws/\Zgl rs ws/\
 ∀a j H',H a=none->ZS H H'->ZtS H' a j->(∀L,H' a=some (.tup [.str j.word,oS j.ser,oS j.own,oV j.due,.ref L])->H L=none)->IsJ rs ws rec day j->Q (.ref a) H'
def Ztc(H:Hp):Option Tr->V->Prop
 |some t,v=>∃a,v=.ref a/\Ju H t a
 |none,v=>v=.non
def ZiU(H:Hp)(d:Addr)(r:Sr):Prop:=∃v,H d=some (.tup [.str r.nm,oS r.el,v])/\Ztc H r.tm v
def LBk(H:Hp)(p:Addr)(rs:List Sr):Prop:=∃ds:List Addr,H p=some (.lst (ds.map V.ref))/\Paired (ZiU H) ds rs
def Zao(K:PySem.W.Frag):Sp:=fun vs H Q _=>∃(a:Addr) (ns:List Int) (k:Nat),vs=[.ref a,.int (k:Int)]/\SqL K H a (ns.map V.int)/\∀H',ZS H H'->Q (.int (ns[k]?.getD 0)) H'
def ZbR(K:PySem.W.Frag):Sp:=fun vs H Q _=>∃(a:Addr) (ns:List Int) (b:Int),vs=[.ref a,.int b]/\SqL K H a (ns.map V.int)/\∀p rs H',H p=none->ZS H H'->LBk H' p rs->Zbb [] rs->1<=rs.length->rs.length<=8->Q (.ref p) H'
def Zdg(cn ca cl ce:Addr):Sp:=fun vs H Q _=>∃(p:Addr) (rs:List Sr),vs=[.ref p]/\LBk H p rs/\rs.length<=8/\(∀r∈rs,r.good)/\∀q H',H q=none->ZS H H'->ZfC cn ca cl ce H' q rs->Q (.ref q) H'
def ZaH:Sp:=fun vs H Q _=>∃c b:Int,vs=[.int c,.int b]/\∀(n:Int) H',0<=n->ZS H H'->Q (.int n) H'
def Zap(l:Tb)(D:Int)(kd:Lf):Bool:=decide ((lk l kd.1).map (· +kd.2)=some D)
def Zhm(l:Tb)(D:Int)(ls:List Lf):List Lf:=ls.filter (Zap l D)
structure Zne (rs:List Sr) (ws:List Rw) (rec:Str) (day:Int) (H:Hp) (v:V):Prop where
 no:Xl (Ys ws day) rec=false->v=.non
 yes:Xl (Ys ws day) rec=true->∃(y:ZaU) (r0:Sr) (t:Tr),Top (YT (Ys ws day) rec) y/\ZfD rs.reverse (some y.2)=some r0/\r0.tm=some t/\(t.due (XR (Ys ws day) rec)=none->v=.non)/\
  ∀D,t.due (XR (Ys ws day) rec)=some D->∃(a:Addr) (k:Str) (d n:Int),v=.ref a/\H a=some (.tup [.str k,.int d,.int n])/\lk (XR (Ys ws day) rec) k=some d/\(k,n)∈Zhm (XR (Ys ws day) rec) D t.lvs/\∀z∈Zhm (XR (Ys ws day) rec) D t.lvs,Zk8 z (k,n)=false
def Zgm(cn ca cl ce:Addr):Sp:=fun vs H Q _=>∃(p q:Addr) (rs:List Sr) (ws:List Rw) (rec:Str) (day:Int),vs=[.ref p,.ref q,.str rec,.int day]/\ZfC cn ca cl ce H p rs/\Zbb [] rs/\rs.length<=63/\Xb H q ws/\Zgl rs ws/\
 ∀v H',ZS H H'->Zne rs ws rec day H' v->Q v H'
def Zaz(r:Str):Rw->Bool
 | .put x _ _=>decide (x=r)
 | .move x _ _=>decide (x=r)
 | .deed x _ _=>decide (x=r)
 |_=>false
def YQ(ws:List Rw)(r:Str):List Rw:=ws.filter (Zaz r)
def fH(b t o h r k w:Addr):List (Str×V):=Yg "words" (.ref w) (Yg "taken" (.ref k) (Yg "run_days" (.ref r) (Yg "holdings" (.ref h) (Yg "own" (.ref o) (Yg "told" (.ref t) (Yg "book" (.ref b) []))))))
def Za0:Rw->Bool
 | .hold _ _ _ _=>true
 | .lift _ _=>true
 |_=>false
structure ZpL (H:Hp) (os:List (Str×Addr)) (ws:List Rw):Prop where
 one:(os.map (·.1)).Nodup
 mem:∀r,r∈os.map (·.1)↔YQ ws r≠[]
 at_:∀x∈os,Xb H x.2 (YQ ws x.1)
abbrev Gn:=Str×Int×Int
def okv(os:List (Str×Addr)):List (Key×V):=os.map fun x=>(Sum.inr x.1,V.ref x.2)
def ZfE(H:Hp)(g:Gn)(x:Key×V):Prop:=∃p,x=(Sum.inr g.1,.ref p)/\H p=some (.tup [.int g.2.1,.int g.2.2])
def wkv(wd:List (Str×Str)):List (Key×V):=wd.map fun x=>(Sum.inr x.1,V.str x.2)
structure Hs where
 rs:List Sr
 ws:List Rw
 runs:List Int
 gs:List Gn
 wd:List (Str×Str)
inductive Yh (cn ca cl ce C:Addr) (H:Hp) (a:Addr) (s:Hs) (F:List Addr):Prop
 |mk (dx b t o h r k w:Addr) (os:List (Str×Addr)) (kvs:List (Key×V)) (_:H a=some (.ins C dx (fH b t o h r k w))) (_:ZfC cn ca cl ce H b s.rs) (_:Xb H t s.ws) (_:H o=some (.dK (okv os))) (_:ZpL H os s.ws) (_:Xb H h (s.ws.filter Za0)) (_:H r=some (.lst (s.runs.map V.int))) (_:H k=some (.dK kvs)) (_:Paired (ZfE H) s.gs kvs) (_:H w=some (.dK (wkv s.wd))) (_:F=t::o::h::r::k::w::os.map (·.2)) (_:F.Nodup) (_:b∉F):Yh cn ca cl ce C H a s F
def Zcy(C:Addr):Sp:=fun vs H Q _=>∃(x dx p:Addr) (ds:List V),vs=[.ref x,.ref p]/\H x=some (.ins C dx [])/\H p=some (.lst ds)/\
 ∀b t o h r k w H',[b,t,o,h,r,k,w].Nodup->(∀c∈[b,t,o,h,r,k,w],H c=none)->(∀c u,c≠x->H c=some u->H' c=some u)->H' x=some (.ins C dx (fH b t o h r k w))->
  H' b=some (.lst ds)->H' t=some (.lst [])->H' o=some (.dK [])->H' h=some (.lst [])->H' r=some (.lst [])->H' k=some (.dK [])->H' w=some (.dK [])->Q .non H'
def Zhn(cn ca cl ce:Addr)(n:Nat)(C:Addr):Sp:=fun vs H Q _=>∃(a:Addr) (s:Hs) (F:List Addr),vs=[.ref a]/\0<n/\Yh cn ca cl ce C H a s F/\∀L H',H L=none->ZS H H'->Xb H' L s.ws->Q (.ref L) H'
def Zho(cn ca cl ce:Addr)(n:Nat)(C:Addr):Sp:=fun vs H Q _=>∃(a:Addr) (s:Hs) (F:List Addr),vs=[.ref a]/\0<n/\Yh cn ca cl ce C H a s F/\∀L kvs H',H L=none->ZS H H'->H' L=some (.dK kvs)->Paired (ZfE H') s.gs kvs->Q (.ref L) H'
theorem Zod{cn ca cl ce C:Addr}:∀vs H Q E,¬Zhn cn ca cl ce 0 C vs H Q E:=fun _ _ _ _ ⟨_,_,_,_,z,_⟩=>Nat.lt_irrefl 0 z
theorem Zoe{cn ca cl ce C:Addr}:∀vs H Q E,¬Zho cn ca cl ce 0 C vs H Q E:=fun _ _ _ _ ⟨_,_,_,_,z,_⟩=>Nat.lt_irrefl 0 z
def ZeT(F:List Addr)(H H':Hp):Prop:=∀b u,b∉F->H b=some u->H' b=some u
def Xe(h:Str):Rw->Bool
 | .hold x _ _ _=>decide (x=h)
 |_=>false
def ZeU:Sp:=fun vs H Q _=>∃(p:Addr) (ws:List Rw) (h:Str),vs=[.ref p,.str h]/\Xb H p ws/\ws.length<=1000/\∀H',ZS H H'->Q (.bl (ws.any (Xe h))) H'
def YF:Rw->List Str
 | .put _ s _=>[s]
 | .move _ s _=>[s]
 | .hold _ false n _=>[n]
 |_=>[]
def Zbc:Sp:=fun vs H Q _=>∃(a:Addr) (w:Rw),vs=[.ref a]/\ZbP H a w/\∀L H',H L=none->ZS H H'->H' L=some (.lst ((YF w).map V.str))->Q (.ref L) H'
def ZpM(a b:Rw):Prop:=(b.word=Str.ofString "put"\/b.word=Str.ofString "hold")/\a.word=b.word/\a.one=b.one
structure Zac (rs:List Sr) (i:Nat) (ns:List Str) (ws:List Rw):Prop where
 len:ws.length<=100+i
 held:(ws.filter JX).length<=i
 named:∀w∈ws,∀n∈YF w,n∈rs.map Sr.nm
 one:ws.Pairwise fun a b=>¬ZpM a b
 nl:ns.length<=i
 few:∀w∈ws,Za0 w=false->w.one∈ns
def ZaI:Sp:=fun vs H Q _=>∃n b:Int,vs=[.int n,.int b]/\∀(z:Str) H',z.length<=12->ZS H H'->Q (.str z) H'
def Zcz:Sp:=fun vs H Q _=>∃(c b far:Int) (p:Addr) (rs:List Sr),vs=[.int c,.int b,.int far,.ref p]/\LBk H p rs/\1<=rs.length/\rs.length<=8/\∀(w:Rw) d H',ZS H H'->ZbP H' d w->(∀n∈YF w,n∈rs.map Sr.nm)->w.one.length<=12->(0<=far->0<=w.day)->Q (.ref d) H'
section
variable {P:Program} {w:World} {K:PySem.W.Frag} {mg:Str->Option Value} {base:Heap} {Zk:Addr} {Zi:Addr} {Zj:Addr} {Zb:Addr} {Zt:Addr} {Zr:Addr} {ZM:Addr} {Zw:Addr} {ZC:Addr} {Zx:Addr} {ZD:Addr} {Ze:Addr} {Zd:Addr} {Zf:Addr} {Zq:Addr} {ZF:Addr} {ZP:Addr}
theorem kd:¬(("kind":Str)="days"):=by decide+kernel
theorem oo:¬(("one":Str)="other"):=by decide+kernel
theorem Zkj(k:Str)(d:Int):(fA k d).lookup ("kind":Str)=some (.str k):=by
 unfold fA;rw[Zz,if_neg kd,Zz,if_pos rfl]
theorem Znf(k:Str)(d:Int):(fA k d).lookup ("days":Str)=some (.int d):=by
 unfold fA;rw[Zz,if_pos rfl]
theorem Zkk(p q:Addr):(fP p q).lookup ("one":Str)=some (.ref p):=by
 unfold fP;rw[Zz,if_neg oo,Zz,if_pos rfl]
theorem ZfF(p q:Addr):(fP p q).lookup ("other":Str)=some (.ref q):=by
 unfold fP;rw[Zz,if_pos rfl]
theorem Ztd(k:Str)(d:Int){m:Str}(h1:¬m="days")(h2:¬m="kind"):(fA k d).lookup m=none:=by
 unfold fA;rw[Zz,if_neg h1,Zz,if_neg h2]
 rfl
theorem Zrm(p q:Addr){m:Str}(h1:¬m="other")(h2:¬m="one"):(fP p q).lookup m=none:=by
 unfold fP;rw[Zz,if_neg h1,Zz,if_neg h2]
 rfl
theorem Xk.same{cn ca cl ce:Addr}{H H':Hp}(s:ZS H H'):∀{t:Tr} {a:Addr},Xk cn ca cl ce H t a->Xk cn ca cl ce H' t a
 | .never,a,⟨dx,h⟩=>⟨dx,s _ _ h⟩
 | .after k d,a,⟨dx,h⟩=>⟨dx,s _ _ h⟩
 | .later x y,a,⟨dx,p,q,h,h1,h2⟩=>⟨dx,p,q,s _ _ h,h1.same s,h2.same s⟩
 | .earlier x y,a,⟨dx,p,q,h,h1,h2⟩=>⟨dx,p,q,s _ _ h,h1.same s,h2.same s⟩
theorem Tr.deep_cnt:∀t:Tr,t.deep<t.cnt
 | .never=>Nat.zero_lt_one
 | .after _ _=>Nat.zero_lt_one
 | .later x y=>by
  have h1:=x.deep_cnt;have h2:=y.deep_cnt;simp only [Tr.deep,Tr.cnt];omega
 | .earlier x y=>by
  have h1:=x.deep_cnt;have h2:=y.deep_cnt;simp only [Tr.deep,Tr.cnt];omega
theorem Tr.lvs_cnt:∀t:Tr,t.lvs.length<=t.cnt
 | .never=>Nat.zero_le _
 | .after _ _=>Nat.le_refl _
 | .later x y=>by
  have h1:=x.lvs_cnt;have h2:=y.lvs_cnt;simp only [Tr.lvs,Tr.cnt,List.length_append];omega
 | .earlier x y=>by
  have h1:=x.lvs_cnt;have h2:=y.lvs_cnt;simp only [Tr.lvs,Tr.cnt,List.length_append];omega
theorem ZcO{cn ca cl ce:Addr}{H:Hp}{a:Addr}:∀{t:Tr},Xk cn ca cl ce H t a->∃dx fs,H a=some (.ins (ZgQ cn ca cl ce t) dx fs)/\∀m:Str,¬m="days"->¬m="kind"->¬m="other"->¬m="one"->fs.lookup m=none
 | .never,⟨dx,h⟩=>⟨dx,_,h,fun _ _ _ _ _=>rfl⟩
 | .after k d,⟨dx,h⟩=>⟨dx,_,h,fun _ h1 h2 _ _=>Ztd k d h1 h2⟩
 | .later x y,⟨dx,p,q,h,_⟩=>⟨dx,_,h,fun _ _ _ h1 h2=>Zrm p q h1 h2⟩
 | .earlier x y,⟨dx,p,q,h,_⟩=>⟨dx,_,h,fun _ _ _ h1 h2=>Zrm p q h1 h2⟩
theorem ZeV{cn ca cl ce:Addr}:∀t:Tr,(ZgQ cn ca cl ce t=cn\/ZgQ cn ca cl ce t=ca\/ZgQ cn ca cl ce t=cl\/ZgQ cn ca cl ce t=ce)
 | .never=> .inl rfl
 | .after _ _=> .inr (.inl rfl)
 | .later _ _=> .inr (.inr (.inl rfl))
 | .earlier _ _=> .inr (.inr (.inr rfl))
theorem Zng{H H2:Hp}{b:Addr}{l:Tb}(s:ZS H H2)(h:Rd H b (.dK (kk l))):Rd H2 b (.dK (kk l)):=by
 rcases h with h|⟨o,h⟩
 ·exact .inl (s _ _ h)
 ·exact .inr ⟨o,s _ _ h⟩
theorem Zi9{H:Hp}{b:Addr}{l:Tb}(h:Rd H b (.dK (kk l)))(k:Str):Zh1 H b (.str k) ((lk l k).map V.int):=by
 rw[<-ZqI];exact .inl ⟨_,Sum.inr k,h,rfl,rfl⟩
theorem Zia{o:Option Int}:(o.map V.int).isSome=o.isSome:=by cases o<;>rfl
theorem ZiV:ZX ["self","kind","days"] ["self","kind","days"] (ZG Zd9):=⟨rfl,rfl,rfl,by decide+kernel,rfl,by decide+kernel,by decide+kernel⟩
theorem ZiW{f:Addr}{fd:FuncData}(F:Fun K "__init__" "After.__init__" Zd9 f fd)(T:Txt K mg Zk Zi Zj Zb Zt Zr ZM Zw ZC Zx ZD Ze Zd Zf Zq ZF ZP){C:Addr}(cl:Cls K C)(n_kind:YW K C "kind")(n_days:YW K C "days"):Yy P w K mg base CX0 1 f fd ["self","kind","days"] (Zcu C):=by
 refine F.ok ZiV (fun vs H Q E h=> ?_) (fun cdv A outer s H vs Q E hr h=> ?_)
 ·obtain⟨x,dx,k,d,rfl,_⟩:=h
  rfl
 ·obtain⟨x,dx,k,d,rfl,hx,q⟩:=h;refine⟨_,(Zh (Zbz (pv 0) (pv 1) rfl) (Zu (Zbz (pv 0) (pv 2) rfl))), ?_⟩;refine⟨_,rfl,_,rfl,x,C,dx,_,rfl,hx,cl,n_kind,(by show 0<1000;decide),_,rfl,_,rfl,x,C,dx,_,rfl,Zc,cl,n_days,(by show 1<1000;decide), ?_⟩
  rw[Zff];exact q
theorem Zkl:ZX ["self","one","other"] ["self","one","other"] (ZG Zcd):=⟨rfl,rfl,rfl,by decide+kernel,rfl,by decide+kernel,by decide+kernel⟩
theorem ZfG{f:Addr}{fd:FuncData}(F:Fun K "__init__" "Pair.__init__" Zcd f fd)(T:Txt K mg Zk Zi Zj Zb Zt Zr ZM Zw ZC Zx ZD Ze Zd Zf Zq ZF ZP){C:Addr}(cl:Cls K C)(n_one:YW K C "one")(n_other:YW K C "other"):Yy P w K mg base CX0 1 f fd ["self","one","other"] (Zan C):=by
 refine F.ok Zkl (fun vs H Q E h=> ?_) (fun cdv A outer s H vs Q E hr h=> ?_)
 ·obtain⟨x,dx,p,q,rfl,_⟩:=h
  rfl
 ·obtain⟨x,dx,p,q,rfl,hx,k⟩:=h;refine⟨_,(Zh (Zbz (pv 0) (pv 1) rfl) (Zu (Zbz (pv 0) (pv 2) rfl))), ?_⟩;refine⟨_,rfl,_,rfl,x,C,dx,_,rfl,hx,cl,n_one,(by show 0<1000;decide),_,rfl,_,rfl,x,C,dx,_,rfl,Zc,cl,n_other,(by show 1<1000;decide), ?_⟩
  rw[Zff];exact k
theorem ZaX{H:Hp}{x dx:Addr}{o:HO}(h1:H x=none)(h2:H dx=none):ZS H (upd (upd H dx (.own x)) x o):=fun b u e=>by
 rw[Zv (Zn e h1),Zv (Zn e h2)];exact e
theorem ZpN:ZX [] [] (ZG Zke):=⟨rfl,rfl,rfl,by decide+kernel,rfl,by decide+kernel,by decide+kernel⟩
theorem ZpO{f:Addr}{fd:FuncData}(F:Fun K "never" "never" Zke f fd)(T:Txt K mg Zk Zi Zj Zb Zt Zr ZM Zw ZC Zx ZD Ze Zd Zf Zq ZF ZP)(Zkm:ZrX K mg "Never" Zk):Yy P w K mg base CX0 1 f fd [] (Zi6 Zk Zi Zj Zb):=by
 refine F.ok ZpN (fun vs H Q E h=> ?_) (fun cdv A outer s H vs Q E hr h=> ?_)
 ·obtain⟨rfl,_⟩:=h
  rfl
 ·obtain⟨rfl,q⟩:=h;refine⟨_,(Zu (ZJ (ZqJ Zkm rfl))), ?_⟩;exact fun x dx h1 h2 _=>q x _ (ZaX h1 h2) h1 ⟨dx,Zc⟩
theorem ZpP:ZX ["kind","days"] ["kind","days"] (ZG Zkf):=⟨rfl,rfl,rfl,by decide+kernel,rfl,by decide+kernel,by decide+kernel⟩
theorem ZpQ{f:Addr}{fd:FuncData}(F:Fun K "after" "after" Zkf f fd)(T:Txt K mg Zk Zi Zj Zb Zt Zr ZM Zw ZC Zx ZD Ze Zd Zf Zq ZF ZP)(Zkn:Zk3 P w K mg base CX0 1 "After" Zi ["self","kind","days"] (Zcu Zi)):Yy P w K mg base CX0 3 f fd ["kind","days"] (Zi7 Zk Zi Zj Zb):=by
 refine F.ok ZpP (fun vs H Q E h=> ?_) (fun cdv A outer s H vs Q E hr h=> ?_)
 ·obtain⟨k,d,rfl,_⟩:=h
  rfl
 ·obtain⟨k,d,rfl,q⟩:=h;refine⟨_,(Zu (ZJ (Zk4 Zkn (hr.mono (by omega)) rfl Yc (Za (pv 0) (Za (pv 1) Zm))))), ?_⟩;refine⟨_,rfl,_,rfl,fun x dx h1 h2 _=>⟨x,dx,k,d,rfl,Zc,rfl, ?_⟩⟩;rw[Zff];exact q x _ (ZaX h1 h2) h1 ⟨dx,Zc⟩
theorem ZpR:ZX ["one","other"] ["one","other"] (ZG Zkg):=⟨rfl,rfl,rfl,by decide+kernel,rfl,by decide+kernel,by decide+kernel⟩
theorem ZpS{f:Addr}{fd:FuncData}(F:Fun K "later" "later" Zkg f fd)(T:Txt K mg Zk Zi Zj Zb Zt Zr ZM Zw ZC Zx ZD Ze Zd Zf Zq ZF ZP)(Zko:Zk3 P w K mg base CX0 1 "Later" Zj ["self","one","other"] (Zan Zj)):Yy P w K mg base CX0 3 f fd ["one","other"] (Zi8 Zk Zi Zj Zb):=by
 refine F.ok ZpR (fun vs H Q E h=> ?_) (fun cdv A outer s H vs Q E hr h=> ?_)
 ·obtain⟨p,q,x,y,rfl,_⟩:=h
  rfl
 ·obtain⟨p,q,x,y,rfl,t1,t2,k⟩:=h;refine⟨_,(Zu (ZJ (Zk4 Zko (hr.mono (by omega)) rfl Yc (Za (pv 0) (Za (pv 1) Zm))))), ?_⟩;refine⟨_,rfl,_,rfl,fun a dx h1 h2 _=>⟨a,dx,p,q,rfl,Zc,rfl, ?_⟩⟩;rw[Zff];exact k a _ (ZaX h1 h2) h1 ⟨dx,p,q,Zc,t1.same (ZaX h1 h2),t2.same (ZaX h1 h2)⟩
theorem Zmz:ZX ["one","other"] ["one","other"] (ZG Zge):=⟨rfl,rfl,rfl,by decide+kernel,rfl,by decide+kernel,by decide+kernel⟩
theorem ZmA{f:Addr}{fd:FuncData}(F:Fun K "earlier" "earlier" Zge f fd)(T:Txt K mg Zk Zi Zj Zb Zt Zr ZM Zw ZC Zx ZD Ze Zd Zf Zq ZF ZP)(Zgn:Zk3 P w K mg base CX0 1 "Earlier" Zb ["self","one","other"] (Zan Zb)):Yy P w K mg base CX0 3 f fd ["one","other"] (ZeQ Zk Zi Zj Zb):=by
 refine F.ok Zmz (fun vs H Q E h=> ?_) (fun cdv A outer s H vs Q E hr h=> ?_)
 ·obtain⟨p,q,x,y,rfl,_⟩:=h
  rfl
 ·obtain⟨p,q,x,y,rfl,t1,t2,k⟩:=h;refine⟨_,(Zu (ZJ (Zk4 Zgn (hr.mono (by omega)) rfl Yc (Za (pv 0) (Za (pv 1) Zm))))), ?_⟩;refine⟨_,rfl,_,rfl,fun a dx h1 h2 _=>⟨a,dx,p,q,rfl,Zc,rfl, ?_⟩⟩;rw[Zff];exact k a _ (ZaX h1 h2) h1 ⟨dx,p,q,Zc,t1.same (ZaX h1 h2),t2.same (ZaX h1 h2)⟩
theorem Znh(m:Str)(h:m="due"\/m="leaves"\/m="shown"):¬m="days"/\¬m="kind"/\¬m="other"/\¬m="one":=by
 rcases h with rfl|rfl|rfl<;>decide+kernel
theorem Xk.keep{cn ca cl ce:Addr}{H H':Hp}(s:∀b C dx fs,H b=some (.ins C dx fs)->H' b=some (.ins C dx fs)):∀{t:Tr} {a:Addr},Xk cn ca cl ce H t a->Xk cn ca cl ce H' t a
 | .never,a,⟨dx,h⟩=>⟨dx,s _ _ _ _ h⟩
 | .after k d,a,⟨dx,h⟩=>⟨dx,s _ _ _ _ h⟩
 | .later x y,a,⟨dx,p,q,h,h1,h2⟩=>⟨dx,p,q,s _ _ _ _ h,h1.keep s,h2.keep s⟩
 | .earlier x y,a,⟨dx,p,q,h,h1,h2⟩=>⟨dx,p,q,s _ _ _ _ h,h1.keep s,h2.keep s⟩
theorem YS{α β:Type}{R:α->β->Prop}:∀{as:List α} {bs:List β},Paired R as bs->∀(i:Nat) (a:α),as[i]? =some a->∃b,bs[i]? =some b/\R a b
 |_,_,.nil,i,a,h=>by simp at h
 |_,_,.cons (a:=x) r t,0,a,h=>by
  have h:x=a:=by simpa using h
  subst h;exact⟨_,rfl,r⟩
 |_,_,.cons r t,i+1,a,h=>by
  obtain⟨b,e,z⟩:=YS t i a (by simpa using h);exact⟨b,by simpa using e,z⟩
theorem Jm{ds:List Addr}{i:Nat}{y:V}(h:(ds.map V.ref)[i]? =some y):∃d,y=.ref d/\ds[i]? =some d:=by
 rw[List.getElem?_map] at h
 cases e:ds[i]? with
 |none=>rw[e] at h;cases h
 |some d=>rw[e] at h;exact⟨d,(Option.some.inj h).symm,rfl⟩
theorem Zte{c A B:Prop} [Decidable c](hc:¬c)(h:A):if(!decide c)=true then A else B:=by
 rw[decide_eq_false hc];exact Jq h
theorem Zep:∀{ns:List Str} {rs:List Sr},Zbb ns rs->∀r∈rs,r.good
 |_,[],_,r,h=>nomatch h
 |_,x::rs,⟨g,_,_,k⟩,r,h=>by
  obtain rfl|h:=List.mem_cons.mp h
  ·exact g
  ·exact Zep k r h
theorem Zdv.keep{cn ca cl ce:Addr}{H H':Hp}(s1:∀b xs,H b=some (.tup xs)->H' b=some (.tup xs))(s2:∀b C dx fs,H b=some (.ins C dx fs)->H' b=some (.ins C dx fs)){d:Addr}{r:Sr}:Zdv cn ca cl ce H d r->Zdv cn ca cl ce H' d r
 |⟨v,h,t⟩=>by
  refine⟨v,s1 _ _ h, ?_⟩
  revert t
  cases r.tm with
  |none=>exact fun t=>t
  |some x=>exact fun⟨a,e,t⟩=>⟨a,e,t.keep s2⟩
theorem Zeq{cn ca cl ce:Addr}{H H':Hp}(s1:∀b xs,H b=some (.tup xs)->H' b=some (.tup xs))(s2:∀b C dx fs,H b=some (.ins C dx fs)->H' b=some (.ins C dx fs)):∀{ds:List Addr} {rs:List Sr},Paired (Zdv cn ca cl ce H) ds rs->Paired (Zdv cn ca cl ce H') ds rs
 |_,_,.nil=> .nil
 |_,_,.cons h t=> .cons (h.keep s1 s2) (Zeq s1 s2 t)
theorem Zer{cn ca cl ce:Addr}{H H':Hp}(s:ZS H H'):∀{ds:List Addr} {rs:List Sr},Paired (Zdv cn ca cl ce H) ds rs->Paired (Zdv cn ca cl ce H') ds rs:=Zeq (fun b xs h=>s b _ h) fun b C dx fs h=>s b _ h
theorem Zib:∀(rr:List Sr) (w:Option Str),(ZbO rr w).length<=rr.length
 |[],_=>Nat.le_refl _
 |r::rr,w=>by
  show(if some r.nm=w then _ else _:List Str).length<=_;have h1:=Zib rr r.el;have h2:=Zib rr w
  split
  ·rw[List.length_cons,List.length_cons];omega
  ·rw[List.length_cons];omega
def Zr2(rs:List Sr)(n:Str):Bool:=rs.any fun r=>decide (r.nm=n)&&r.tm.isSome
theorem Zkp(P:Str->Bool):∀(rr:List Sr) (w:Option Str),BkR rr->(∀r∈rr,P r.nm=r.tm.isSome)->(∀n,w=some n->n∈rr.map Sr.nm)->w≠none->∃r∈rr,ZfD rr w=some r/\r.tm.isSome=true/\((ZbO rr w).filter P)[0]? =some r.nm
 |[],some n,_,_,h,_=>nomatch h n rfl
 |[],none,_,_,_,h=>absurd rfl h
 |r::rr,w,⟨g,nn,ne,b⟩,hP,h,hw=>by
  have hP2:∀x∈rr,P x.nm=x.tm.isSome:=fun x hx=>hP x (List.mem_cons_of_mem _ hx);have hr:=hP r (List.mem_cons_self ..);show∃x∈r::rr,(if some r.nm=w then(if r.tm.isSome=true then some r else ZfD rr r.el) else ZfD rr w)=some x/\_/\(List.filter P (if some r.nm=w then r.nm::ZbO rr r.el else ZbO rr w))[0]? =_
  by_cases e:some r.nm=w
  ·rw[if_pos e,if_pos e]
   by_cases t:r.tm.isSome=true
   ·rw[if_pos t,List.filter_cons_of_pos (by rw[hr];exact t)]
    exact⟨r,List.mem_cons_self ..,rfl,t,rfl⟩
   ·rw[if_neg t,List.filter_cons_of_neg (by rw[hr];exact t)]
    have el:r.el≠none:=fun z=>by
     have:=g.some z;cases q:r.tm with
     |none=>exact this q
     |some x=>rw[q] at t;exact t rfl
    obtain⟨x,hx,q⟩:=Zkp P rr r.el b hP2 ne el;exact⟨x,List.mem_cons_of_mem _ hx,q⟩
  ·rw[if_neg e,if_neg e];obtain⟨x,hx,q⟩:=Zkp P rr w b hP2 (fun n hn=>by
    rcases List.mem_cons.mp (h n hn) with z|z
    ·exact absurd (by rw[hn,z]) e
    ·exact z) hw
   exact⟨x,List.mem_cons_of_mem _ hx,q⟩
theorem ZpT:∀(rs acc:List Sr),BkR acc->Zbb (acc.reverse.map Sr.nm) rs->BkR (rs.reverse++acc)
 |[],acc,h,_=>h
 |r::rs,acc,h,⟨g,n,e,k⟩=>by
  rw[List.reverse_cons,List.append_assoc];refine ZpT rs (r::acc) ⟨g,fun z=>n ?_,fun x hx=> ?_,h⟩ (by rw[List.reverse_cons,List.map_append];exact k)
  ·rw[List.map_reverse,List.mem_reverse];exact z
  ·have:=e x hx;rw[List.map_reverse,List.mem_reverse] at this
   exact this
theorem Zkq{rs:List Sr}(h:Zbb [] rs):BkR rs.reverse:=by
 have:=ZpT rs [] trivial h
 rwa [List.append_nil] at this
theorem Zjq:∀{rr:List Sr},BkR rr->(rr.map Sr.nm).Nodup
 |[],_=>List.nodup_nil
 |r::rr,⟨_,n,_,b⟩=>by rw[List.map_cons];exact List.nodup_cons.mpr ⟨n,Zjq b⟩
theorem Zln{rs:List Sr}(h:Zbb [] rs):(rs.map Sr.nm).Nodup:=by
 have:=Zjq (Zkq h);rw[List.map_reverse] at this
 exact(List.reverse_perm _).nodup_iff.mp this
theorem Zni:∀{rs:List Sr} {r s:Sr},(rs.map Sr.nm).Nodup->r∈rs->s∈rs->r.nm=s.nm->r=s
 |x::rs,r,s,nd,hr,hs,e=>by
  rw[List.map_cons] at nd
  obtain⟨off,rest⟩:=List.nodup_cons.mp nd;rcases List.mem_cons.mp hr with h1|h1<;>rcases List.mem_cons.mp hs with h2|h2
  ·rw[h1,h2]
  ·exact absurd (List.mem_map.mpr ⟨s,h2,by rw[<-e,h1]⟩) off
  ·exact absurd (List.mem_map.mpr ⟨r,h1,by rw[e,h2]⟩) off
  ·exact Zni rest h1 h2 e
theorem Znj{rs:List Sr}(nd:(rs.map Sr.nm).Nodup){r:Sr}(hr:r∈rs):Zr2 rs r.nm=r.tm.isSome:=by
 unfold Zr2
 apply Bool.eq_iff_iff.mpr
 rw[List.any_eq_true]
 constructor
 ·rintro⟨x,hx,e⟩;rw[Bool.and_eq_true] at e
  rw[<-Zni nd hx hr (of_decide_eq_true e.1)];exact e.2
 ·exact fun h=>⟨r,hr,by rw[h,decide_eq_true rfl];rfl⟩
theorem ZpU{α:Type}{xs:List α}{i:Nat}{x:α}(h:xs[xs.length-1-i]? =some x)(hi:i<xs.length):xs.reverse.drop i=x::xs.reverse.drop (i+1):=by
 have e:xs.reverse[i]? =some x:=by rw[List.getElem?_reverse hi];exact h
 obtain⟨lt,e⟩:=List.getElem?_eq_some_iff.mp e;rw[List.drop_eq_getElem_cons lt,e]
theorem Zhp(z:Str)(w:Option Str):Zqo (.str z) (oS w)=true:=by cases w<;>rfl
theorem Zjr{z:Str}{w:Option Str}:V.str z=oS w↔some z=w:=by
 cases w with
 |none=>exact⟨(fun h=>nomatch h),(fun h=>nomatch h)⟩
 |some y=>exact⟨fun h=>by injection h with h;rw[h],fun h=>by injection h with h;rw[h];rfl⟩
theorem ZbS:ZX ["book","name","line","wanted","series"] ["book","name"] (ZG Zgf):=⟨rfl,rfl,rfl,by decide+kernel,rfl,by decide+kernel,by decide+kernel⟩
theorem ZmB{f:Addr}{fd:FuncData}(F:Fun K "line_of" "line_of" Zgf f fd)(T:Txt K mg Zk Zi Zj Zb Zt Zr ZM Zw ZC Zx ZD Ze Zd Zf Zq ZF ZP):Yy P w K mg base CX0 1 f fd ["book","name"] (ZeR Zk Zi Zj Zb):=by
 refine F.ok ZbS (fun vs H Q E h=> ?_) (fun cdv A outer s H vs Q E hr h=> ?_)
 ·obtain⟨p,n,rs,rfl,_⟩:=h
  rfl
 ·obtain⟨p,n,rs,rfl,⟨ds,hp,pr⟩,lr,q⟩:=h;have l5:=Xd;have le:=Paired.length pr;refine⟨_,(Zh (ZK (i:=2) ZbS.nd rfl (Or.inl rfl) (Yq Zm)) (Zh (ZK (i:=3) ZbS.nd rfl (Or.inl rfl) (pv 1)) (Zh (JV PassesOwn.never rfl (Zpx (K:=K) rfl (by rfl) T.z_reversed (pv 0)) (Yi (i:=4) ZbS.nd rfl (Or.inl rfl)) (Zu (Yj (Zy Yu (ZV ZZ (pv 4) Zo (fun _ _=>rfl)) (pv 3) (ZL _)) (Zh (Xv (Zaj PySem.F.plainAttrs_list PySem.F.slot_list_append PySem.F.type_list_append Xa (pv 2) (Za (pv 3) Zm))) (Zu (ZK (i:=3) ZbS.nd rfl (Or.inl rfl) (ZV ZZ (pv 4) Zo (fun _ _=>rfl))))) ZW))) (Zu (ZJ (pv 2)))))), ?_⟩
  refine⟨Nat.zero_le _,fun L hL=> ?_⟩;have nLp:p≠L:=Zn hp hL;have s1:ZS H (upd H L (.lst [])):=Zg hL;refine⟨_,rfl,_,rfl,p,_,rfl,SqL.of (s1 _ _ hp),Zp3 (J:=Itv K p (ds.map V.ref)) (n:=ds.length) (fun i σ H'=>∃(v4:Option V) (l:List Str) (w:Option Str),σ=[some (.ref p),some (.str n),some (.ref L),some (oS w),v4]/\H' L=some (.lst (l.map V.str))/\(∀b u,b≠L->H b=some u->H' b=some u)/\l++ZbO (rs.reverse.drop i) w=ZbO rs.reverse (some n)/\l.length<=i) ?_ ?_ ?_ ?_⟩
  ·exact⟨none,[],some n,rfl,Zc,fun b u nb e=>by rw[Zv nb];exact e,rfl,Nat.le_refl _⟩
  ·rintro i σ H1 hi ⟨v4,l,w,rfl,hl,fr,eq,ll⟩;exact⟨SqL.of (fr p _ nLp hp),by rw[List.length_map];exact hi⟩
  ·rintro σ H1 ⟨v4,l,w,rfl,hl,fr,eq,ll⟩;rw[List.drop_of_length_le (by rw[List.length_reverse];omega)] at eq
   have eq:l=ZbO rs.reverse (some n):=by simpa [ZbO] using eq
   refine⟨⟨SqL.of (fr p _ nLp hp),by rw[List.length_map]⟩, ?_⟩;exact⟨_,rfl,q L H1 hL (fun b u e=>fr b u (Zn e hL) e) (by rw[<-eq];exact hl)⟩
  ·rintro i x σ H2 H1 hi ⟨v4,l,w,rfl,hl,fr,eq,ll⟩ ⟨rfl,hx⟩;rw[List.length_map] at hx
   obtain⟨d,rfl,ed⟩:=Jm hx;have s1:ZS H H1:=fun b u e=>fr b u (Zn e hL) e;obtain⟨r,er,⟨v,sd,st⟩⟩:=YS (Zer s1 pr) _ d ed;rw[le] at er
   rw[ZpU er (by omega)] at eq
   have eq2:l++(if some r.nm=w then r.nm::ZbO (rs.reverse.drop (i+1)) r.el else ZbO (rs.reverse.drop (i+1)) w)=_:=eq;clear eq;refine(ixT rfl (SqT.of sd) rfl ⟨_,rfl,Zhp _ _,_,rfl,Xg (fun e=> ?_) (fun e=> ?_)⟩)
   ·have e:=Zjr.mp (of_decide_eq_true e);rw[if_pos e] at eq2
    subst e;have l6:(l.map V.str).length<sizeLine:=by rw[List.length_map];omega
    refine⟨_,rfl,.inl ⟨rfl,_,SqL.of hl⟩,_,rfl,L,_,_,rfl,rfl,hl,l6, ?_⟩;have ndL:d≠L:=Yt sd hl (fun z=>nomatch z);refine(ixT rfl (SqT.of (by rw[Zv ndL];exact sd)) rfl ?_)
    exact⟨_,l++[r.nm],r.el,rfl,by rw[Zc,List.map_append];rfl,fun b u nb z=>by rw[Zv nb];exact fr b u nb z,by rw[List.append_assoc];exact eq2,by rw[List.length_append];exact Nat.add_le_add_right ll 1⟩
   ·have e:¬some r.nm=w:=fun z=>e (decide_eq_true (Zjr.mpr z));rw[if_neg e] at eq2
    exact⟨_,l,w,rfl,hl,fr,eq2,Nat.le_succ_of_le ll⟩
theorem JT:ZX ["book","name","wanted","series"] ["book","name"] (ZG Zb6):=⟨rfl,rfl,rfl,by decide+kernel,rfl,by decide+kernel,by decide+kernel⟩
theorem Zgo{f:Addr}{fd:FuncData}(F:Fun K "owning_series" "owning_series" Zb6 f fd)(T:Txt K mg Zk Zi Zj Zb Zt Zr ZM Zw ZC Zx ZD Ze Zd Zf Zq ZF ZP):Yy P w K mg base CX0 1 f fd ["book","name"] (JR Zk Zi Zj Zb):=by
 refine F.ok JT (fun vs H Q E h=> ?_) (fun cdv A outer s H vs Q E hr h=> ?_)
 ·obtain⟨p,n,rs,r0,rfl,_⟩:=h
  rfl
 ·obtain⟨p,n,rs,r0,rfl,⟨ds,hp,pr⟩,lr,ow,q⟩:=h;have le:=Paired.length pr;refine⟨_,(Zh (ZK (i:=2) JT.nd rfl (Or.inl rfl) (pv 1)) (Zu (JV PassesOwn.never rfl (Zpx (K:=K) rfl (by rfl) T.z_reversed (pv 0)) (Yi (i:=3) JT.nd rfl (Or.inl rfl)) (Zh (Yj (PW.pt (Jx (Zy Yu (ZV ZZ (pv 3) Zo (fun _ _=>rfl)) (pv 2) (ZL _)) (XH (Zy Zhg (ZV ZZ (pv 3) Zo (fun _ _=>rfl)) Yv (ZL _))))) (Zu (ZJ (pv 3))) ZW) (Zu (Yj (Zy Yu (ZV ZZ (pv 3) Zo (fun _ _=>rfl)) (pv 2) (ZL _)) (Zu (ZK (i:=2) JT.nd rfl (Or.inl rfl) (ZV ZZ (pv 3) Zo (fun _ _=>rfl)))) ZW)))))), ?_⟩
  refine⟨_,rfl,_,rfl,p,_,rfl,SqL.of hp,Zp3 (J:=Itv K p (ds.map V.ref)) (n:=ds.length) (fun i σ H'=>∃(v3:Option V) (w:Option Str),σ=[some (.ref p),some (.str n),some (oS w),v3]/\H'=H/\ZfD (rs.reverse.drop i) w=some r0) ?_ ?_ ?_ ?_⟩
  ·exact⟨none,some n,rfl,rfl,ow⟩
  ·rintro i σ H1 hi ⟨v3,w,rfl,rfl,eq⟩;exact⟨SqL.of hp,by rw[List.length_map];exact hi⟩
  ·rintro σ H1 ⟨v3,w,rfl,rfl,eq⟩;rw[List.drop_of_length_le (by rw[List.length_reverse];omega)] at eq
   cases eq
  ·rintro i x σ H1 H2 hi ⟨v3,w,rfl,rfl,eq⟩ ⟨rfl,hx⟩;rw[List.length_map] at hx
   obtain⟨d,rfl,ed⟩:=Jm hx;obtain⟨r,er,ser⟩:=YS pr _ d ed;obtain⟨v,sd,st⟩:=id ser;rw[le] at er
   rw[ZpU er (by omega)] at eq
   have eq:(if some r.nm=w then(if r.tm.isSome=true then some r else ZfD (rs.reverse.drop (i+1)) r.el) else ZfD (rs.reverse.drop (i+1)) w)=some r0:=eq;refine(ixT rfl (SqT.of sd) rfl ⟨_,rfl,Zhp _ _,_,rfl,Xg (fun e=> ?_) (fun e=> ?_)⟩)
   ·have e':=Zjr.mp (of_decide_eq_true e);rw[if_pos e'] at eq
    cases ht:r.tm with
    |none=>
     rw[ht] at eq st
     obtain rfl:v=.non:=st;refine(ixT rfl (SqT.of sd) rfl ⟨rfl,_,rfl,ZsR rfl ?_⟩);exact(ixT rfl (SqT.of sd) rfl ⟨_,rfl,Zhp _ _,_,rfl,Zam (Zjr.mpr e') (ixT rfl (SqT.of sd) rfl ⟨_,r.el,rfl,rfl,eq⟩)⟩)
    |some t=>
     rw[ht,if_pos (show(some t).isSome=true from rfl)] at eq
     rw[ht] at st
     obtain⟨a,rfl,tm⟩:=st;obtain rfl:r=r0:=Option.some.inj eq;exact(ixT rfl (SqT.of sd) rfl ⟨rfl,_,rfl,Zte (fun z=>nomatch z) ⟨_,rfl,q d _ (ZS.refl _) ser⟩⟩)
   ·have e':¬some r.nm=w:=fun z=>e (decide_eq_true (Zjr.mpr z));rw[if_neg e'] at eq
    exact Yw (ixT rfl (SqT.of sd) rfl ⟨_,rfl,Zhp _ _,_,rfl,Xj (fun z=>e' (Zjr.mp z)) ⟨_,w,rfl,rfl,eq⟩⟩)
theorem Zlo:ZX ["book","name"] ["book","name"] (ZG ZeJ):=⟨rfl,rfl,rfl,by decide+kernel,rfl,by decide+kernel,by decide+kernel⟩
theorem Zlp{f:Addr}{fd:FuncData}(F:Fun K "owner_of" "owner_of" ZeJ f fd)(T:Txt K mg Zk Zi Zj Zb Zt Zr ZM Zw ZC Zx ZD Ze Zd Zf Zq ZF ZP)(XX:Cal P w K mg base CX0 1 "owning_series" ["book","name"] (JR Zk Zi Zj Zb)):Yy P w K mg base CX0 2 f fd ["book","name"] (ZdO Zk Zi Zj Zb):=by
 refine F.ok Zlo (fun vs H Q E h=> ?_) (fun cdv A outer s H vs Q E hr h=> ?_)
 ·obtain⟨p,n,rs,r,rfl,_⟩:=h
  rfl
 ·obtain⟨p,n,rs,r,rfl,bat,lr,ow,q⟩:=h;refine⟨_,(Zu (ZJ (ZV ZZ (Ym XX (hr.mono (by omega)) rfl Yc (Za (pv 0) (Za (pv 1) Zm))) Zo (fun _ _=>rfl)))), ?_⟩;exact⟨_,rfl,_,rfl,p,n,rs,r,rfl,bat,lr,ow,fun d H1 s1 ⟨v,sd,st⟩=>⟨d,_,_,_,rfl,rfl,SqT.of sd,rfl,q H1 s1⟩⟩
theorem ZmC:ZX ["book","name"] ["book","name"] (ZG Zgg):=⟨rfl,rfl,rfl,by decide+kernel,rfl,by decide+kernel,by decide+kernel⟩
theorem ZmD{f:Addr}{fd:FuncData}(F:Fun K "term_of" "term_of" Zgg f fd)(T:Txt K mg Zk Zi Zj Zb Zt Zr ZM Zw ZC Zx ZD Ze Zd Zf Zq ZF ZP)(XX:Cal P w K mg base CX0 1 "owning_series" ["book","name"] (JR Zk Zi Zj Zb)):Yy P w K mg base CX0 2 f fd ["book","name"] (Zde Zk Zi Zj Zb):=by
 refine F.ok ZmC (fun vs H Q E h=> ?_) (fun cdv A outer s H vs Q E hr h=> ?_)
 ·obtain⟨p,n,rs,r,t,rfl,_⟩:=h
  rfl
 ·obtain⟨p,n,rs,r,t,rfl,bat,lr,ow,ht,q⟩:=h;refine⟨_,(Zu (ZJ (ZV ZZ (Ym XX (hr.mono (by omega)) rfl Yc (Za (pv 0) (Za (pv 1) Zm))) Zo (fun _ _=>rfl)))), ?_⟩;refine⟨_,rfl,_,rfl,p,n,rs,r,rfl,bat,lr,ow,fun d H1 s1 ⟨v,sd,st⟩=> ?_⟩;rw[ht] at st
  obtain⟨a,rfl,tm⟩:=st;exact⟨d,_,_,_,rfl,rfl,SqT.of sd,rfl,q a H1 s1 tm⟩
theorem Yz{H H':Hp}(s:ZS H H'):∀{ds:List Addr} {ws:List Rw},Paired (ZbP H) ds ws->Paired (ZbP H') ds ws
 |_,_,.nil=> .nil
 |_,_,.cons h t=> .cons (s _ _ h) (Yz s t)
theorem ZeW{H:Hp}(P:Rw->Bool):∀{ds:List Addr} {ws:List Rw},Paired (ZbP H) ds ws->∃es:List Addr,((ds.zip ws).flatMap fun z=>if P z.2=true then[V.ref z.1] else[])=es.map V.ref/\Paired (ZbP H) es (ws.filter P)
 |_,_,.nil=>⟨[],rfl,.nil⟩
 |_,_,.cons (a:=a) (b:=w) h t=>by
  obtain⟨es,e,c⟩:=ZeW P t;cases hp:P w with
  |true=>
   refine⟨a::es, ?_,by rw[List.filter_cons_of_pos hp];exact .cons h c⟩
   rw[List.zip_cons_cons,List.flatMap_cons,e,if_pos hp]
   rfl
  |false=>
   refine⟨es, ?_,by rw[List.filter_cons_of_neg (by rw[hp];exact Bool.false_ne_true)];exact c⟩
   rw[List.zip_cons_cons,List.flatMap_cons,e,if_neg (by rw[hp];exact Bool.false_ne_true)]
   rfl
theorem Znk(w:Rw):atI w.vs (-1)=some (.int w.day):=by cases w<;>rfl
theorem JB(w:Rw):atI w.vs 0=some (.str w.word):=by cases w<;>rfl
theorem Zgp(w:Rw):atI w.vs 1=some (.str w.one):=by cases w<;>rfl
theorem ZpV{ds:List Addr}{ws:List Rw}{j:Nat}{d:Addr}{w:Rw}(h1:ds[j]? =some d)(h2:ws[j]? =some w):(ds.zip ws)[j]? =some (d,w):=List.getElem?_zip_eq_some.mpr ⟨h1,h2⟩
theorem Zlq{P:Rw->Bool}{o:Option (Addr×Rw)}:((o.map fun z=>if P z.2=true then[V.ref z.1] else[]).getD []).length<=1:=by
 cases o with
 |none=>exact Nat.zero_le 1
 |some z=>
  show(if _ then[V.ref z.1] else[]).length<=1
  split
  ·exact Nat.le_refl 1
  ·exact Nat.zero_le 1
theorem ZmE:ZX ["rows","day"] ["rows","day"] (ZG Zgh):=⟨rfl,rfl,rfl,by decide+kernel,rfl,by decide+kernel,by decide+kernel⟩
theorem ZmF{f:Addr}{fd:FuncData}(F:Fun K "counted" "counted" Zgh f fd)(T:Txt K mg Zk Zi Zj Zb Zt Zr ZM Zw ZC Zx ZD Ze Zd Zf Zq ZF ZP):Yy P w K mg base CX0 1 f fd ["rows","day"] ZaG:=by
 refine F.ok ZmE (fun vs H Q E h=> ?_) (fun cdv A outer s H vs Q E hr h=> ?_)
 ·obtain⟨p,ws,day,rfl,_⟩:=h
  rfl
 ·obtain⟨p,ws,day,rfl,⟨ds,hp,pr⟩,lw,q⟩:=h;have l5:=Xd;have le:=Paired.length pr;have lz:(ds.zip ws).length=ds.length:=by rw[List.length_zip];omega
  refine⟨_,(Zu (ZJ (Jz ["row"] [("day",1)] rfl (Xc (pv 0)) (by rfl) (by exact⟨rfl,trivial⟩) (by rfl) (by exact⟨⟨rfl,rfl,rfl⟩,trivial⟩) (fun _ _ _ _=>(Yi (i:=0) (show(nmY ["row"] [("day",1)]).Nodup by decide+kernel) rfl (Or.inl rfl))) (fun _ _ _ _=>(ZaM (Zy ZsF (ZV (XJ (K:=K) rfl) (pv 0) (ZoG Zm0 Zo) (fun _ _=>rfl)) (pv 1) (ZL _)))) (fun _ _ _ _=>(pv 0))))), ?_⟩;refine⟨_,rfl,p,rfl,⟨_,SqL.of hp⟩,Jk (ds.zip ws).length (fun j=>(((ds.zip ws)[j]?).map fun z=>if decide (z.2.day<=day)=true then[V.ref z.1] else[]).getD []) (by omega) (fun j=>Zlq (P:=fun w=>decide (w.day<=day))) (fun j H2 s2 lt=>⟨_,_,SqL.of (s2 _ _ hp),List.getElem?_eq_getElem (by rw[List.length_map];omega)⟩) (fun H2 s2=>⟨_,SqL.of (s2 _ _ hp),by rw[List.length_map];omega⟩) (fun j y H2 H3 s2 lt yl RT RF rt rf=> ?_) fun D H2 hD s2 d2=> ?_⟩
  ·obtain⟨rfl,yl⟩:=yl;obtain⟨d,rfl,ed⟩:=Jm (yl _ (SqL.of (s2 _ _ hp)));obtain⟨w,ew,row⟩:=YS (Yz s2 pr) j d ed;have row:H3 d=some (.tup w.vs):=row;rw[ZpV ed ew] at rt rf
   refine⟨⟨rfl,trivial⟩,_,rfl,_,rfl,d,_,_,.int w.day,rfl,rfl,SqT.of row,Znk w,_,rfl,_,_,rfl,rfl,_,rfl, ?_⟩;exact Xg (fun z=>⟨_,rfl,rt _ _ (if_pos z) (ZS.refl _)⟩) (fun z=>rf _ (if_neg z) (ZS.refl _))
  ·rw[JH (fun z:Addr×Rw=>if decide (z.2.day<=day)=true then[V.ref z.1] else[]) (ds.zip ws)] at d2
   obtain⟨es,e,c⟩:=ZeW (fun w=>decide (w.day<=day)) (Yz s2 pr);rw[e] at d2
   exact q D H2 hD s2 ⟨es,d2,c⟩
theorem vne{a b:Str}(h:¬a=b):¬V.str a=V.str b:=fun z=>h (by injection z)
theorem Ztf:¬Str.ofString "put"=Str.ofString "move":=by decide+kernel
theorem Zrn:¬Str.ofString "put"=Str.ofString "deed":=by decide+kernel
theorem Zlr:¬Str.ofString "put"=Str.ofString "lift":=by decide+kernel
theorem Zjs:¬Str.ofString "put"=Str.ofString "hold":=by decide+kernel
theorem Ztg:¬Str.ofString "move"=Str.ofString "put":=by decide+kernel
theorem Zro:¬Str.ofString "move"=Str.ofString "deed":=by decide+kernel
theorem Znl:¬Str.ofString "move"=Str.ofString "lift":=by decide+kernel
theorem Zls:¬Str.ofString "move"=Str.ofString "hold":=by decide+kernel
theorem Zrp:¬Str.ofString "deed"=Str.ofString "put":=by decide+kernel
theorem Zth:¬Str.ofString "deed"=Str.ofString "move":=by decide+kernel
theorem ZpW:¬Str.ofString "deed"=Str.ofString "lift":=by decide+kernel
theorem Zlt:¬Str.ofString "deed"=Str.ofString "hold":=by decide+kernel
theorem Zrq:¬Str.ofString "lift"=Str.ofString "put":=by decide+kernel
theorem Zti:¬Str.ofString "lift"=Str.ofString "move":=by decide+kernel
theorem Ztj:¬Str.ofString "lift"=Str.ofString "deed":=by decide+kernel
theorem Znm:¬Str.ofString "lift"=Str.ofString "hold":=by decide+kernel
theorem Zrr:¬Str.ofString "hold"=Str.ofString "put":=by decide+kernel
theorem Ztk:¬Str.ofString "hold"=Str.ofString "move":=by decide+kernel
theorem Ztl:¬Str.ofString "hold"=Str.ofString "deed":=by decide+kernel
theorem Ztm:¬Str.ofString "hold"=Str.ofString "lift":=by decide+kernel
theorem Zr3(w:Rw)(r:Str):(decide (V.str w.word=V.str "put")&&decide (V.str w.one=V.str r))=ZcM r w:=by
 cases w with
 |put x s d=>
  show(decide (V.str "put"=V.str "put")&&decide (V.str x=V.str r))=decide (x=r);rw[decide_eq_true rfl,Bool.true_and]
  by_cases h:x=r
  ·rw[h,decide_eq_true rfl,decide_eq_true rfl]
  ·rw[decide_eq_false h,decide_eq_false (vne h)]
 |move x s d=>exact(congrArg (fun b=>b&&_) (decide_eq_false (vne Ztg))).trans (Bool.false_and _)
 |deed x k d=>exact(congrArg (fun b=>b&&_) (decide_eq_false (vne Zrp))).trans (Bool.false_and _)
 |lift h d=>exact(congrArg (fun b=>b&&_) (decide_eq_false (vne Zrq))).trans (Bool.false_and _)
 |hold h c n d=>exact(congrArg (fun b=>b&&_) (decide_eq_false (vne Zrr))).trans (Bool.false_and _)
theorem Zof:ZX ["rows","record"] ["rows","record"] (ZG Zi4):=⟨rfl,rfl,rfl,by decide+kernel,rfl,by decide+kernel,by decide+kernel⟩
theorem Zog{f:Addr}{fd:FuncData}(F:Fun K "is_put" "is_put" Zi4 f fd)(T:Txt K mg Zk Zi Zj Zb Zt Zr ZM Zw ZC Zx ZD Ze Zd Zf Zq ZF ZP):Yy P w K mg base CX0 1 f fd ["rows","record"] ZcN:=by
 refine F.ok Zof (fun vs H Q E h=> ?_) (fun cdv A outer s H vs Q E hr h=> ?_)
 ·obtain⟨p,ws,r,rfl,_⟩:=h
  rfl
 ·obtain⟨p,ws,r,rfl,⟨ds,hp,pr⟩,lw,q⟩:=h;have l5:=Xd;have le:=Paired.length pr;refine⟨_,(Zu (ZJ (Yb (ZhP rfl) (by rfl) T.z_any Zp4 (Za (Jz ["row"] [("record",1)] rfl (Xc (pv 0)) (by rfl) (by exact⟨rfl,trivial⟩) (by rfl) (by exact⟨⟨rfl,rfl,rfl⟩,trivial⟩) (fun _ _ _ _=>(Yi (i:=0) (show(nmY ["row"] [("record",1)]).Nodup by decide+kernel) rfl (Or.inl rfl))) (fun _ _ _ _=>Zd2) (fun _ _ _ _=>(ZjL (Za5 Yu (ZV (XJ (K:=K) rfl) (pv 0) Zo (fun _ _=>rfl)) ZR (ZL _)) (ZlX (Za5 Yu (ZV (XJ (K:=K) rfl) (pv 0) Zo (fun _ _=>rfl)) (pv 1) (ZL _)))))) Zm)))), ?_⟩
  refine⟨_,rfl,p,rfl,⟨_,SqL.of hp⟩,Jk ds.length (fun j=>[((ws[j]?).map fun w=>V.bl (ZcM r w)).getD .non]) (by omega) (fun j=>Nat.le_refl 1) (fun j H4 s4 lt=>⟨_,_,SqL.of (s4 _ _ hp),List.getElem?_eq_getElem (by rw[List.length_map];exact lt)⟩) (fun H4 s4=>⟨_,SqL.of (s4 _ _ hp),by rw[List.length_map];exact Nat.le_refl _⟩) (fun j y H4 H5 s4 lt yl RT RF rt rf=> ?_) fun D4 H4 hD4 s4 d4=> ?_⟩
  ·obtain⟨rfl,yl⟩:=yl;obtain⟨d,rfl,ed⟩:=Jm (yl _ (SqL.of (s4 _ _ hp)));obtain⟨w,ew,row⟩:=YS (Yz s4 pr) j d ed;have row:H5 d=some (.tup w.vs):=row;have out:[((ws[j]?).map fun w=>V.bl (ZcM r w)).getD .non]=[V.bl (ZcM r w)]:=by rw[ew];rfl
   rw[out,<-Zr3] at rt
   refine⟨⟨rfl,trivial⟩, ?_⟩;unfold Zl7;refine Jq (ixT rfl (SqT.of row) (JB w) ⟨rfl,_,rfl,Xg (fun e=> ?_) (fun e=> ?_)⟩)
   ·refine(ixT rfl (SqT.of row) (Zgp w) ⟨_,rfl,rfl,rt _ _ ?_ (ZS.refl _)⟩);rw[e,Bool.true_and]
   ·refine rt _ _ ?_ (ZS.refl _);rw[Bool.eq_false_iff.mpr e,Bool.false_and]
  ·have e6:(List.range ds.length).flatMap (fun j=>[((ws[j]?).map fun w=>V.bl (ZcM r w)).getD .non])=(ws.map (ZcM r)).map V.bl:=by
    rw[JG,le,Zeg ws (fun w=>V.bl (ZcM r w)) .non,List.map_map]
    rfl
   rw[e6] at d4
   refine⟨D4,ws.map (ZcM r),rfl,SqL.of d4, ?_⟩;rw[List.any_map];exact q H4 s4
theorem Zlu:ZX ["due","holds","day"] ["due","holds","day"] (ZG ZeM):=⟨rfl,rfl,rfl,by decide+kernel,rfl,by decide+kernel,by decide+kernel⟩
theorem Zlv{f:Addr}{fd:FuncData}(F:Fun K "word_for" "word_for" ZeM f fd)(T:Txt K mg Zk Zi Zj Zb Zt Zr ZM Zw ZC Zx ZD Ze Zd Zf Zq ZF ZP):Yy P w K mg base CX0 1 f fd ["due","holds","day"] ZdR:=by
 refine F.ok Zlu (fun vs H Q E h=> ?_) (fun cdv A outer s H vs Q E hr h=> ?_)
 ·obtain⟨a,zs,due,day,rfl,_⟩:=h
  rfl
 ·obtain⟨a,zs,due,day,rfl,ha,q⟩:=h;have q:=q H (ZS.refl H);refine⟨_,(Zh (Yj (PW.pt (Zn0 (Zy Zah (pv 0) Yv (ZL _)) (ZjJ (Zy ZgM (pv 0) (pv 2) (ZL _))))) (Zu (ZJ ZR)) ZW) (Zh (Yj (Zy ZgM (Yb Zai (by rfl) T.z_len Zd3 (Za (pv 1) Zm)) Zo (ZL _)) (Zu (ZJ ZR)) ZW) (Zu (ZJ ZR)))), ?_⟩;unfold JS at q
  cases due with
  |none=>exact⟨_,rfl,rfl,_,rfl,Zam rfl q⟩
  |some d=>
   refine⟨_,rfl,rfl,_,rfl,Xj (fun z=>nomatch z) ⟨_,rfl,_,rfl,_,_,rfl,rfl,_,rfl,Xg (fun e=> ?_) (fun e=> ?_)⟩⟩
   ·have e:day<d:=of_decide_eq_true e;have q:Q (.str (if day<d then Str.ofString "kept" else if 0<zs.length then Str.ofString "held" else Str.ofString "due")) H:=q;rw[if_pos e] at q
    exact q
   ·have e:¬day<d:=fun z=>e (decide_eq_true z);have q:Q (.str (if day<d then Str.ofString "kept" else if 0<zs.length then Str.ofString "held" else Str.ofString "due")) H:=q;rw[if_neg e] at q
    refine⟨_,rfl,_,_,rfl,.inl ⟨_,SqL.of ha,rfl⟩,_,_,rfl,rfl,_,rfl,Xg (fun e=> ?_) (fun e=> ?_)⟩
    ·have e:=of_decide_eq_true e;rw[List.length_map] at e
     rw[if_pos (by omega)] at q
     exact q
    ·have e:¬(0:Int)<((zs.map V.str).length:Nat):=fun z=>e (decide_eq_true z);rw[List.length_map] at e
     rw[if_neg (by omega)] at q
     exact q
theorem Xu{H H':Hp}{r:Addr}(s:ZS H H')(h:H' r=none):H r=none:=by
 cases z:H r with
 |none=>rfl
 |some u=>rw[s r u z] at h;cases h
def Zic(H:Hp)(a:Addr)(ns:List Str):Prop:=∃kvs,H a=some (.dK kvs)/\kvs.length<=1000/\∀z:Str,YK kvs (Sum.inr z)=if z∈ns then some (V.bl true) else none
theorem Zic.get{H:Hp}{a:Addr}{ns:List Str}(h:Zic H a ns)(z:Str):Zh1 H a (.str z) (if z∈ns then some (V.bl true) else none):=by
 obtain⟨kvs,e,_,v⟩:=h;exact .inl ⟨kvs,Sum.inr z,.inl e,rfl,(v z).symm⟩
theorem Zlw{kvs:List (Key×V)}{ns:List Str}{y:Str}(h:∀z:Str,YK kvs (Sum.inr z)=if z∈ns then some (V.bl true) else none)(z:Str):YK (JF kvs (Sum.inr y) (V.bl true)) (Sum.inr z)=if z∈ns++[y] then some (V.bl true) else none:=by
 rw[Zfo]
 by_cases e:z=y
 ·rw[if_pos (by rw[e]),if_pos (List.mem_append_right _ (by rw[e];exact List.mem_singleton_self _))]
 ·rw[if_neg (fun w=>e (by injection w)),h z]
  by_cases m:z∈ns
  ·rw[if_pos m,if_pos (List.mem_append_left _ m)]
  ·rw[if_neg m,if_neg fun w=>(List.mem_append.mp w).elim m fun k=>e (by simpa using k)]
theorem Zoh(w:Rw)(ls:List Str):(decide (V.str w.word=V.str "hold")&& !(if w.one∈ls then some (V.bl true) else none).isSome)=Zcw ls w:=by
 cases w with
 |hold h c n d=>
  show(decide (V.str "hold"=V.str "hold")&& !(if h∈ls then some (V.bl true) else none).isSome)=decide (h∉ls);rw[decide_eq_true rfl,Bool.true_and]
  by_cases m:h∈ls
  ·rw[if_pos m,decide_eq_false (fun z=>z m)]
   rfl
  ·rw[if_neg m,decide_eq_true m]
   rfl
 |put x s d=>exact(congrArg (fun b=>b&&_) (decide_eq_false (vne Zjs))).trans (Bool.false_and _)
 |move x s d=>exact(congrArg (fun b=>b&&_) (decide_eq_false (vne Zls))).trans (Bool.false_and _)
 |deed x k d=>exact(congrArg (fun b=>b&&_) (decide_eq_false (vne Zlt))).trans (Bool.false_and _)
 |lift h d=>exact(congrArg (fun b=>b&&_) (decide_eq_false (vne Znm))).trans (Bool.false_and _)
theorem Znn(w:Rw):(V.str w.word=V.str "lift"->ZbQ w=some w.one)/\(¬V.str w.word=V.str "lift"->ZbQ w=none):=by
 cases w with
 |lift h d=>exact⟨fun _=>rfl,fun z=>absurd rfl z⟩
 |put x s d=>exact⟨fun z=>absurd z (vne Zlr),fun _=>rfl⟩
 |move x s d=>exact⟨fun z=>absurd z (vne Znl),fun _=>rfl⟩
 |deed x k d=>exact⟨fun z=>absurd z (vne ZpW),fun _=>rfl⟩
 |hold h c n d=>exact⟨fun z=>absurd z (vne Ztm),fun _=>rfl⟩
theorem ZgR{ws:List Rw}{w:Rw}:XC (ws++[w])=XC ws++(match ZbQ w with|some h=>[h]|none=>[]):=by
 unfold XC;rw[List.filterMap_append,List.filterMap_cons,List.filterMap_nil];cases ZbQ w<;>rfl
theorem Ztn:¬Str.ofString "series"=Str.ofString "record":=by decide+kernel
theorem ZdS:ZX ["rows","lifted","row"] ["rows"] (ZG ZeL):=⟨rfl,rfl,rfl,by decide+kernel,rfl,by decide+kernel,by decide+kernel⟩
theorem Zlx{f:Addr}{fd:FuncData}(F:Fun K "standing" "standing" ZeL f fd)(T:Txt K mg Zk Zi Zj Zb Zt Zr ZM Zw ZC Zx ZD Ze Zd Zf Zq ZF ZP):Yy P w K mg base CX0 1 f fd ["rows"] ZaW:=by
 refine F.ok ZdS (fun vs H Q E h=> ?_) (fun cdv A outer s H vs Q E hr h=> ?_)
 ·obtain⟨p,ws,rfl,_⟩:=h
  rfl
 ·obtain⟨p,ws,rfl,⟨ds,hp,pr⟩,lw,q⟩:=h;have l5:=Xd;have hu:=ZbC hr;have le:=Paired.length pr;have lz:(ds.zip ws).length=ds.length:=by rw[List.length_zip];omega
  refine⟨_,(Zh (ZK (i:=1) ZdS.nd rfl (Or.inr rfl) ZbB) (Zh (JV PassesOwn.never rfl (Xc (pv 0)) (Yi (i:=2) ZdS.nd rfl (Or.inl rfl)) (Zu (Yj (Zy Yu (ZV ZZ (pv 2) Zo (fun _ _=>rfl)) ZR (ZL _)) (Zu (Zd1 hu (pv 1) (ZV ZZ (pv 2) Zo (fun _ _=>rfl)) Zfh rfl)) ZW))) (Zu (ZJ (Jz ["row"] [("lifted",1)] rfl (Xc (pv 0)) (by rfl) (by exact⟨rfl,trivial⟩) (by rfl) (by exact⟨⟨rfl,rfl,rfl⟩,trivial⟩) (fun _ _ _ _=>(Yi (i:=0) (show(nmY ["row"] [("lifted",1)]).Nodup by decide+kernel) rfl (Or.inl rfl))) (fun _ _ _ _=>(ZaM (PW.pt (Jx (Zy Yu (ZV (XJ (K:=K) rfl) (pv 0) Zo (fun _ _=>rfl)) ZR (ZL _)) (XH (Zg4 (Zee hu (ZV (XJ (K:=K) rfl) (pv 0) Zo (fun _ _=>rfl)) (pv 1)))))))) (fun _ _ _ _=>(pv 0))))))), ?_⟩
  intro A hA;have nAp:p≠A:=Zn hp hA;refine⟨_,rfl,p,rfl,⟨_,SqL.of (Zg hA _ _ hp)⟩,JD (xs:=ds.map V.ref) (fun i σ H'=>∃v2:Option V,σ=[some (.ref p),some (.ref A),v2]/\(∃kvs,H' A=some (.dK kvs)/\kvs.length<=i/\∀z:Str,YK kvs (Sum.inr z)=if z∈XC (ws.take i) then some (V.bl true) else none)/\∀b u,b≠A->H b=some u->H' b=some u) ?_ ?_ ?_ ?_⟩
  ·exact⟨none,rfl,⟨[],Zc,Nat.le_refl _,fun z=>rfl⟩,fun b u nb e=>by rw[Zv nb];exact e⟩
  ·rintro i σ H1 _ ⟨v2,rfl,_,fr⟩;exact SqL.of (fr _ _ nAp hp)
  ·rintro i x σ H1 hx ⟨v2,rfl,⟨kvs,hk,lk,vk⟩,fr⟩;obtain⟨d,rfl,ed⟩:=Jm hx;have s1:ZS H H1:=fun b u z=>fr b u (Zn z hA) z;obtain⟨w,ew,row⟩:=YS (Yz s1 pr) i d ed;have row:H1 d=some (.tup w.vs):=row;have tk:ws.take (i+1)=ws.take i++[w]:=by rw[List.take_add_one,ew];rfl
   have hi:i<ws.length:=(List.getElem?_eq_some_iff.mp ew).1;rw[tk,ZgR];refine(ixT rfl (SqT.of row) (JB w) ⟨rfl,_,rfl,Xg (fun e=> ?_) (fun e=> ?_)⟩)
   ·rw[(Znn w).1 (of_decide_eq_true e)];refine⟨_,rfl,ixT rfl (SqT.of row) (Zgp w) ⟨A,_,rfl,.inl ⟨kvs,Sum.inr w.one,hk,rfl,by omega,rfl⟩, ?_⟩⟩;exact⟨_,rfl,⟨_,Zc,Nat.le_trans (ZaQ _ _ _) (by omega),Zlw vk⟩,fun b u nb z=>by rw[Zv nb];exact fr b u nb z⟩
   ·rw[(Znn w).2 (fun z=>e (decide_eq_true z)),List.append_nil];exact⟨_,rfl,⟨kvs,hk,Nat.le_succ_of_le lk,vk⟩,fr⟩
  ·rintro σ H1 ⟨v2,rfl,⟨kvs,hk,lk,vk⟩,fr⟩;rw[List.length_map,le,List.take_of_length_le (Nat.le_refl _)] at vk
   rw[List.length_map] at lk
   have s1:ZS H H1:=fun b u z=>fr b u (Zn z hA) z;have hp1:=s1 _ _ hp;have pr1:=Yz s1 pr;have ov:Zic H1 A (XC ws):=⟨kvs,hk,by omega,vk⟩
   refine⟨_,rfl,p,rfl,⟨_,SqL.of hp1⟩,Jk (ds.zip ws).length (fun j=>(((ds.zip ws)[j]?).map fun z=>if Zcw (XC ws) z.2=true then[V.ref z.1] else[]).getD []) (by omega) (fun j=>Zlq (P:=Zcw (XC ws))) (fun j H2 s2 lt=>⟨_,_,SqL.of (s2 _ _ hp1),List.getElem?_eq_getElem (by rw[List.length_map];omega)⟩) (fun H2 s2=>⟨_,SqL.of (s2 _ _ hp1),by rw[List.length_map];omega⟩) (fun j y H2 H3 s2 lt yl RT RF rt rf=> ?_) fun D H2 hD s2 d2=> ?_⟩
   ·obtain⟨rfl,yl⟩:=yl;obtain⟨d,rfl,ed⟩:=Jm (yl _ (SqL.of (s2 _ _ hp1)));obtain⟨w,ew,row⟩:=YS (Yz s2 pr1) j d ed;have row:H3 d=some (.tup w.vs):=row;have ov3:Zic H3 A (XC ws):=⟨kvs,s2 _ _ hk,by omega,vk⟩
    rw[ZpV ed ew] at rt rf
    have sa:=Zoh w (XC ws);refine⟨⟨rfl,trivial⟩,ixT rfl (SqT.of row) (JB w) ⟨rfl,_,rfl,Xg (fun e=> ?_) (fun e=> ?_)⟩⟩
    ·refine(ixT rfl (SqT.of row) (Zgp w) ⟨_,rfl,A,_,rfl,ov3.get w.one,_,rfl, ?_⟩);rw[e,Bool.true_and] at sa
     rw[sa];exact Xg (fun z=>⟨_,rfl,rt _ _ (if_pos z) (ZS.refl _)⟩) (fun z=>rf _ (if_neg z) (ZS.refl _))
    ·rw[Bool.eq_false_iff.mpr e,Bool.false_and] at sa
     exact Yw (rf _ (if_neg (by rw[<-sa];exact Bool.false_ne_true)) (ZS.refl _))
   ·rw[JH (fun z:Addr×Rw=>if Zcw (XC ws) z.2=true then[V.ref z.1] else[]) (ds.zip ws)] at d2
    obtain⟨es,e,c⟩:=ZeW (Zcw (XC ws)) (Yz s2 pr1);rw[e] at d2
    exact q D H2 (Xu s1 hD) (s1.trans s2) ⟨es,d2,c⟩
theorem ZiX:ZX ["row","record","over"] ["row","record","over"] (ZG Zd7):=⟨rfl,rfl,rfl,by decide+kernel,rfl,by decide+kernel,by decide+kernel⟩
theorem ZiY{f:Addr}{fd:FuncData}(F:Fun K "is_laid_on" "is_laid_on" Zd7 f fd)(T:Txt K mg Zk Zi Zj Zb Zt Zr ZM Zw ZC Zx ZD Ze Zd Zf Zq ZF ZP):Yy P w K mg base CX0 1 f fd ["row","record","over"] Zcx:=by
 refine F.ok ZiX (fun vs H Q E h=> ?_) (fun cdv A outer s H vs Q E hr h=> ?_)
 ·obtain⟨a,o,h,n,rec,d,r,line,kvs,rfl,_⟩:=h
  rfl
 ·obtain⟨a,o,h,n,rec,d,r,line,kvs,rfl,ha,ho,hg,q⟩:=h;have hu:=ZbC hr;have ha:H a=some (.tup [.str "hold",.str h,.str (onW rec),.str n,.int d]):=ha;have q:=q H (ZS.refl H);refine⟨_,(Zh (Yj (Zy Yu (ZV ZZ (pv 0) Zo (fun _ _=>rfl)) ZR (ZL _)) (Zu (ZJ (Za5 Yu (ZV ZZ (pv 0) Zo (fun _ _=>rfl)) (pv 1) (ZL _)))) ZW) (Zu (ZJ (ZrA (Zmd hu (ZV ZZ (pv 0) Zo (fun _ _=>rfl)) (pv 2)))))), ?_⟩;cases rec with
  |true=>
   refine(ixT rfl (SqT.of ha) rfl ⟨rfl,_,rfl,Zam rfl (ixT rfl (SqT.of ha) rfl ⟨_,rfl,rfl,Zt8 q ?_⟩)⟩);show V.bl (decide (n=r))=V.bl (decide (V.str n=V.str r))
   by_cases e:n=r
   ·rw[e,decide_eq_true rfl,decide_eq_true rfl]
   ·rw[decide_eq_false e,decide_eq_false (vne e)]
  |false=>
   refine(ixT rfl (SqT.of ha) rfl ⟨rfl,_,rfl,Xj (vne Ztn) (ixT rfl (SqT.of ha) rfl ⟨_,rfl,o,_,rfl,hg n,Zt8 q ?_⟩)⟩);show V.bl (decide (n∈line))=V.bl (if n∈line then some (V.bl true) else none).isSome
   by_cases e:n∈line
   ·rw[if_pos e,decide_eq_true e];rfl
   ·rw[if_neg e,decide_eq_false e];rfl
theorem Zhq(a b:Str):inV (.str a) [.str a,.str b]=true:=by
 show(eqV (.str a) (.str a)||_)=true;rw[ZaS rfl,Bool.true_or]
theorem ZpX{a b:Str}(h:¬a=b):eqV (.str a) (.str b)=false:=beq_false_of_ne h
theorem ZfH(a b:Str):inV (.str b) [.str a,.str b]=true:=by
 show(eqV (.str a) (.str b)||(eqV (.str b) (.str b)||false))=true;rw[ZaS rfl,Bool.true_or,Bool.or_true]
theorem Zbd{a b c:Str}(h1:¬a=c)(h2:¬b=c):inV (.str c) [.str a,.str b]=false:=by
 show(eqV (.str a) (.str c)||(eqV (.str b) (.str c)||false))=false;rw[ZpX h1,ZpX h2]
 rfl
theorem Zly(r:Str):∀(ws:List Rw) (l:Tb),(ws.foldl (Jc r) l).length<=l.length+ws.length
 |[],l=>Nat.le_refl _
 |w::ws,l=>by
  have h:=Zly r ws (Jc r l w);have k:(Jc r l w).length<=l.length+1:=by
   unfold Jc
   split
   ·split
    ·exact ZhR ..
    ·exact Nat.le_succ _
   ·split
    ·exact ZhR ..
    ·exact Nat.le_succ _
   ·exact Nat.le_succ _
  rw[List.length_cons,List.foldl_cons];omega
theorem Zsh(i j:Int):(if j>i then j else i)=max i j:=by split<;>omega
theorem Zdh:ZX ["rows","record","life","row","kind"] ["rows","record"] (ZG Zgi):=⟨rfl,rfl,rfl,by decide+kernel,rfl,by decide+kernel,by decide+kernel⟩
theorem ZmG{f:Addr}{fd:FuncData}(F:Fun K "life_of" "life_of" Zgi f fd)(T:Txt K mg Zk Zi Zj Zb Zt Zr ZM Zw ZC Zx ZD Ze Zd Zf Zq ZF ZP):Yy P w K mg base CX0 1 f fd ["rows","record"] Zdf:=by
 refine F.ok Zdh (fun vs H Q E h=> ?_) (fun cdv A outer s H vs Q E hr h=> ?_)
 ·obtain⟨p,ws,r,rfl,_⟩:=h
  rfl
 ·obtain⟨p,ws,r,rfl,⟨ds,hp,pr⟩,lw,q⟩:=h;have l5:=Xd;have hu:=ZbC hr;have le:=Paired.length pr;refine⟨_,(Zh (ZK (i:=2) Zdh.nd rfl (Or.inl rfl) ZbB) (Zh (JV PassesOwn.never rfl (Xc (pv 0)) (Yi (i:=3) Zdh.nd rfl (Or.inl rfl)) (Zu (Yj (PW.pt (Jx (Zy ZaB (ZV ZZ (pv 3) Zo (fun _ _=>rfl)) (YX (Za ZR (Za ZR Zm))) rfl) (XH (Zy Yu (ZV ZZ (pv 3) Zo (fun _ _=>rfl)) (pv 1) (ZL _))))) (Zh (ZK (i:=4) Zdh.nd rfl (Or.inl rfl) (Zfi (Zy Yu (ZV ZZ (pv 3) Zo (fun _ _=>rfl)) ZR (ZL _)) ZR (ZV ZZ (pv 3) Zo (fun _ _=>rfl)))) (Zu (Zd1 hu (pv 2) (pv 4) (Yb (Zjb rfl) (by rfl) T.z_max Zmj (Za (ZV ZZ (pv 3) Zo (fun _ _=>rfl)) (Za (Zl6 hu (pv 2) (pv 4) (ZV ZZ (pv 3) Zo (fun _ _=>rfl)) ⟨rfl,rfl,rfl,rfl⟩) Zm))) rfl))) ZW))) (Zu (ZJ (pv 2))))), ?_⟩
  intro L hL;have nLp:p≠L:=Zn hp hL;refine⟨_,rfl,p,rfl,⟨_,SqL.of (Zg hL _ _ hp)⟩,JD (xs:=ds.map V.ref) (fun i σ H'=>∃v3 v4:Option V,σ=[some (.ref p),some (.str r),some (.ref L),v3,v4]/\H' L=some (.dK (kk (XR (ws.take i) r)))/\∀b u,b≠L->H b=some u->H' b=some u) ?_ ?_ ?_ ?_⟩
  ·exact⟨none,none,rfl,Zc,fun b u nb e=>by rw[Zv nb];exact e⟩
  ·rintro i σ H1 _ ⟨v3,v4,rfl,_,fr⟩;exact SqL.of (fr _ _ nLp hp)
  ·rintro i x σ H1 hx ⟨v3,v4,rfl,hl,fr⟩;obtain⟨d,rfl,ed⟩:=Jm hx;have s1:ZS H H1:=fun b u z=>fr b u (Zn z hL) z;obtain⟨w,ew,row⟩:=YS (Yz s1 pr) i d ed;have row:H1 d=some (.tup w.vs):=row;have hi:i<ws.length:=(List.getElem?_eq_some_iff.mp ew).1;have tk:XR (ws.take (i+1)) r=Jc r (XR (ws.take i) r) w:=by
    unfold XR;rw[List.take_add_one,ew,List.foldl_append]
    rfl
   have len:=Zly r (ws.take i) [];have l0:(XR (ws.take i) r).length<=1000:=by
    have:=List.length_take_le i ws;rw[List.length_nil] at len
    exact Nat.le_trans len (by omega)
   rw[tk];generalize XR (ws.take i) r=l at hl l0
   have lk1:(kk l).length<sizeLine:=by rw[ZnR];omega
   refine(ixT rfl (SqT.of row) (JB w) ⟨show 2<=sizeLine from sl,fun t ht=>⟨t,_,rfl,.inr (SqT.of Zc),rfl,rfl,_,rfl, ?_⟩⟩);have s2:=Zg (o:=.tup [.str "put",.str "deed"]) ht;have hl2:=s2 _ _ hl;have row2:=s2 _ _ row;have fr2:∀b u,b≠L->H b=some u->upd H1 t (.tup [.str "put",.str "deed"]) b=some u:=fun b u nb e=>s2 _ _ (fr b u nb e);generalize upd H1 t (.tup [.str "put",.str "deed"])=H2 at hl2 row2 fr2
   have keep:∀{v:Option V},∃v3 v4:Option V,[some (V.ref p),some (.str r),some (.ref L),some (.ref d),v]=[some (.ref p),some (.str r),some (.ref L),v3,v4]/\H2 L=some (.dK (kk l))/\∀b u,b≠L->H b=some u->H2 b=some u:=fun{v}=>⟨_,_,rfl,hl2,fr2⟩
   have done:∀(kind:Str) (dd:Int) {v:Option V},∃v3 v4:Option V,[some (V.ref p),some (.str r),some (.ref L),some (.ref d),v]=[some (.ref p),some (.str r),some (.ref L),v3,v4]/\upd H2 L (.dK (JF (kk l) (Sum.inr kind) (.int (if(lk l kind).getD dd>dd then(lk l kind).getD dd else dd)))) L=some (.dK (kk (Zk1 l kind (max dd ((lk l kind).getD dd)))))/\∀b u,b≠L->H b=some u->upd H2 L (.dK (JF (kk l) (Sum.inr kind) (.int (if(lk l kind).getD dd>dd then(lk l kind).getD dd else dd)))) b=some u:=fun kind dd {v}=>⟨_,_,rfl,by rw[Zc,ZrW,Zsh],fun b u nb e=>by rw[Zv nb];exact fr2 b u nb e⟩
   have ej:∀(kind:Str) (dd:Int),((lk l kind).map V.int).getD (V.int dd)=V.int ((lk l kind).getD dd):=fun kind dd=>by cases lk l kind<;>rfl
   have rd2:Rd H2 L (.dK (kk l)):=.inl hl2;cases w with
   |put x s dd=>
    have row2:H2 d=some (.tup [.str "put",.str x,.str s,.int dd]):=row2;show if inV (.str "put") [.str "put",.str "deed"]=true then _ else _;rw[Zhq];refine Jq (ixT rfl (SqT.of row2) rfl ⟨_,rfl,rfl,_,rfl,Xg (fun e=> ?_) (fun e=> ?_)⟩)
    ·have e:V.str x=V.str r:=of_decide_eq_true e;have e:x=r:=by injection e
     rw[show Jc r l (.put x s dd)=Zk1 l "put" (max dd ((lk l "put").getD dd)) from if_pos e];exact(ixT rfl (SqT.of row2) rfl ⟨rfl,_,rfl,Zam rfl (ixT rfl (SqT.of row2) rfl ⟨_,rfl,L,rfl,.inl ⟨_,rd2⟩,_,rfl,ixT rfl (SqT.of row2) rfl ⟨_,Zi9 rd2 "put",dd,(lk l "put").getD dd,by rw[ej],_,rfl,_,rfl,L,_,rfl,ZiN.k (k:=Sum.inr "put") hl2 lk1,done "put" dd⟩⟩)⟩)
    ·have e:¬x=r:=fun z=>e (decide_eq_true (by rw[z]));rw[show Jc r l (.put x s dd)=l from if_neg e];exact keep
   |deed x k dd=>
    have row2:H2 d=some (.tup [.str "deed",.str x,.str k,.int dd]):=row2;show if inV (.str "deed") [.str "put",.str "deed"]=true then _ else _;rw[ZfH];refine Jq (ixT rfl (SqT.of row2) rfl ⟨_,rfl,rfl,_,rfl,Xg (fun e=> ?_) (fun e=> ?_)⟩)
    ·have e:V.str x=V.str r:=of_decide_eq_true e;have e:x=r:=by injection e
     rw[show Jc r l (.deed x k dd)=Zk1 l k (max dd ((lk l k).getD dd)) from if_pos e];exact(ixT rfl (SqT.of row2) rfl ⟨rfl,_,rfl,Xj (vne Zrp) (ixT rfl (SqT.of row2) rfl (ixT rfl (SqT.of row2) rfl ⟨_,rfl,L,rfl,.inl ⟨_,rd2⟩,_,rfl,ixT rfl (SqT.of row2) rfl ⟨_,Zi9 rd2 k,dd,(lk l k).getD dd,by rw[ej],_,rfl,_,rfl,L,_,rfl,ZiN.k (k:=Sum.inr k) hl2 lk1,done k dd⟩⟩))⟩)
    ·have e:¬x=r:=fun z=>e (decide_eq_true (by rw[z]));rw[show Jc r l (.deed x k dd)=l from if_neg e];exact keep
   |move x s dd=>
    show if inV (.str "move") [.str "put",.str "deed"]=true then _ else _;rw[Zbd Ztf Zth];exact Yw (Yw keep)
   |lift h dd=>
    show if inV (.str "lift") [.str "put",.str "deed"]=true then _ else _;rw[Zbd Zlr ZpW];exact Yw (Yw keep)
   |hold h c n dd=>
    show if inV (.str "hold") [.str "put",.str "deed"]=true then _ else _;rw[Zbd Zjs Zlt];exact Yw (Yw keep)
  ·rintro σ H1 ⟨v3,v4,rfl,hl,fr⟩;rw[List.length_map,le,List.take_of_length_le (Nat.le_refl _)] at hl
   exact⟨_,rfl,q L H1 hL (fun b u z=>fr b u (Zn z hL) z) hl⟩
def Zno(H:Hp)(y:ZaU)(v:V):Prop:=∃p,v=.ref p/\H p=some (.tup [.int y.1,.str y.2])
theorem Zlz{K:PySem.W.Frag}{H:Hp}:∀{ys:List ZaU} {us:List V},Paired (Zno H) ys us->Paired (Zco K H) ys us
 |_,_,.nil=> .nil
 |_,_,.cons ⟨p,e,h⟩ t=> .cons ⟨p,e,SqT.of h⟩ (Zlz t)
theorem Zdi{H H':Hp}(s:∀b xs,H b=some (.tup xs)->H' b=some (.tup xs)):∀{ys:List ZaU} {us:List V},Paired (Zno H) ys us->Paired (Zno H') ys us
 |_,_,.nil=> .nil
 |_,_,.cons ⟨p,e,h⟩ t=> .cons ⟨p,e,s _ _ h⟩ (Zdi s t)
theorem ZmH{ws:List Rw}{w:Rw}{r:Str}:YT (ws++[w]) r=YT ws r++(match ZdP r w with|some y=>[y]|none=>[]):=by
 unfold YT;rw[List.filterMap_append,List.filterMap_cons,List.filterMap_nil];cases ZdP r w<;>rfl
theorem Zoi(ws:List Rw)(r:Str):(YT ws r).length<=ws.length:=List.length_filterMap_le ..
theorem ZfI:ZX ["rows","record","places"] ["rows","record"] (ZG ZdG):=⟨rfl,rfl,rfl,by decide+kernel,rfl,by decide+kernel,by decide+kernel⟩
theorem Zkr{f:Addr}{fd:FuncData}(F:Fun K "series_of" "series_of" ZdG f fd)(T:Txt K mg Zk Zi Zj Zb Zt Zr ZM Zw ZC Zx ZD Ze Zd Zf Zq ZF ZP):Yy P w K mg base CX0 1 f fd ["rows","record"] Zbs:=by
 refine F.ok ZfI (fun vs H Q E h=> ?_) (fun cdv A outer s H vs Q E hr h=> ?_)
 ·obtain⟨p,ws,r,y,rfl,_⟩:=h
  rfl
 ·obtain⟨p,ws,r,y,rfl,⟨ds,hp,pr⟩,lw,top,q⟩:=h;have l5:=Xd;have hu3:=ZnQ hr;have le:=Paired.length pr;refine⟨_,(Zh (ZjW (i:=2) ["row"] [("record",1)] ZfI.nd rfl (Or.inl rfl) rfl (Xc (pv 0)) (by rfl) (by exact⟨rfl,trivial⟩) (by rfl) (by exact⟨⟨rfl,rfl,rfl⟩,trivial⟩) (fun _ _ _ _=>(Yi (i:=0) (show(nmY ["row"] [("record",1)]).Nodup by decide+kernel) rfl (Or.inl rfl))) (fun _ _ _ _=>(ZaM (PW.pt (Jx (Zy (Zmv (K:=K) rfl) (ZV (XJ (K:=K) rfl) (pv 0) Zo (fun _ _=>rfl)) (YX (Za ZR (Za ZR Zm))) rfl) (XH (Zy Yu (ZV (XJ (K:=K) rfl) (pv 0) Zo (fun _ _=>rfl)) (pv 1) (ZL _))))))) (fun _ _ _ _=>(YX (Za (ZV (XJ (K:=K) rfl) (pv 0) Zo (fun _ _=>rfl)) (Za (ZV (XJ (K:=K) rfl) (pv 0) Zo (fun _ _=>rfl)) Zm))))) (Zu (ZJ (ZV ZZ (Yb (Zo5 rfl hu3) (by rfl) T.z_max Zmj (Za (pv 2) Zm)) Zo (fun _ _=>rfl))))), ?_⟩
  refine⟨_,rfl,p,rfl,⟨_,SqL.of hp⟩,Zfq fun D hD=>⟨ds.length,fun i ys H2=>ZS H H2/\Paired (Zno H2) (YT (ws.take i) r) ys,by omega,⟨Zg hD,.nil⟩,fun i ys H2 ⟨_,k⟩=> ?_,fun i ys zs H2 H3 e kp ⟨s2,k⟩=>⟨fun b u z=>kp b u (Zn z hD) (s2 b u z),Zdi (fun b xs z=>kp b _ (Yt z e (fun w=>nomatch w)) z) k⟩,fun i ys H2 ⟨s2,_⟩ lt=>⟨_,_,SqL.of (s2 _ _ hp),List.getElem?_eq_getElem (by rw[List.length_map];exact lt)⟩,fun ys H2 ⟨s2,k⟩ d=>⟨⟨_,SqL.of (s2 _ _ hp),by rw[List.length_map];exact Nat.le_refl _⟩, ?_⟩,fun i x ys H2 H3 ⟨s2,k⟩ d lt yl RT RF rt rf=> ?_⟩⟩
  ·rw[<-Paired.length k];exact Nat.le_trans (Zoi _ _) (List.length_take_le _ _)
  ·rw[le,List.take_of_length_le (Nat.le_refl _)] at k
   obtain⟨v0,us,eus⟩:∃v0 us,ys=v0::us:=by
    cases ys with
    |nil=>
     have z:YT ws r=[]:=List.eq_nil_of_length_eq_zero (Paired.length k);have m:=top.1;rw[z] at m
     cases m
    |cons v0 us=>exact⟨v0,us,rfl⟩
   subst eus;refine⟨_,rfl,D,v0,us,_,rfl,SqL.of d,Zlz k,fun v y' mem sp best=> ?_⟩;obtain rfl:=top.one ⟨mem,best⟩;obtain⟨pv,rfl,hv⟩:=sp;exact⟨pv,_,_,_,rfl,rfl,hv,rfl,q H2 s2⟩
  ·obtain⟨rfl,yl⟩:=yl;obtain⟨d0,rfl,ed⟩:=Jm (yl _ (SqL.of (s2 _ _ hp)));obtain⟨w,ew,row⟩:=YS (Yz s2 pr) i d0 ed;have row:H3 d0=some (.tup w.vs):=row;have tk:ws.take (i+1)=ws.take i++[w]:=by rw[List.take_add_one,ew];rfl
   rw[tk,ZmH] at rt rf
   refine⟨⟨rfl,trivial⟩,ixT rfl (SqT.of row) (JB w) ⟨show 2<=sizeLine from sl,fun t ht=>⟨t,_,rfl,.inr (SqT.of Zc),rfl,rfl,_,rfl, ?_⟩⟩⟩;have s3:=Zg (o:=.tup [.str "put",.str "move"]) ht;have row2:=s3 _ _ row;have d2:=s3 _ _ d;have k2:=Zdi (fun b xs z=>s3 b _ z) k;have s23:=s2.trans s3;generalize upd H3 t (.tup [.str "put",.str "move"])=H4 at row2 d2 k2 s23
   have none_:ZdP r w=none->RF H4:=fun e=>rf _ d2 ⟨s23,by rw[e,List.append_nil];exact k2⟩
   have some_:∀(dd:Int) (sr:Str),ZdP r w=some (dd,sr)->∀t2,H4 t2=none->RT (.ref t2) (upd H4 t2 (.tup [.int dd,.str sr])):=fun dd sr e t2 ht2=>by
    have s5:=Zg (o:=.tup [.int dd,.str sr]) ht2;refine rt _ _ (s5 _ _ d2) ⟨s23.trans s5, ?_⟩;rw[e];exact Paired.snoc (Zdi (fun b xs z=>s5 b _ z) k2) ⟨t2,rfl,Zc⟩
   cases w with
   |put x s dd=>
    have row2:H4 d0=some (.tup [.str "put",.str x,.str s,.int dd]):=row2;show if inV (.str "put") [.str "put",.str "move"]=true then _ else _;rw[Zhq];refine Jq (ixT rfl (SqT.of row2) rfl ⟨_,rfl,rfl,_,rfl,Xg (fun e=> ?_) (fun e=> ?_)⟩)
    ·have e:V.str x=V.str r:=of_decide_eq_true e;have e:x=r:=by injection e
     exact(ixT rfl (SqT.of row2) rfl (ixT rfl (SqT.of row2) rfl ⟨show 2<=sizeLine from sl,fun t2 ht2=>some_ dd s (if_pos e) t2 ht2⟩))
    ·have e:¬x=r:=fun z=>e (decide_eq_true (by rw[z]));exact none_ (if_neg e)
   |move x s dd=>
    have row2:H4 d0=some (.tup [.str "move",.str x,.str s,.int dd]):=row2;show if inV (.str "move") [.str "put",.str "move"]=true then _ else _;rw[ZfH];refine Jq (ixT rfl (SqT.of row2) rfl ⟨_,rfl,rfl,_,rfl,Xg (fun e=> ?_) (fun e=> ?_)⟩)
    ·have e:V.str x=V.str r:=of_decide_eq_true e;have e:x=r:=by injection e
     exact(ixT rfl (SqT.of row2) rfl (ixT rfl (SqT.of row2) rfl ⟨show 2<=sizeLine from sl,fun t2 ht2=>some_ dd s (if_pos e) t2 ht2⟩))
    ·have e:¬x=r:=fun z=>e (decide_eq_true (by rw[z]));exact none_ (if_neg e)
   |deed x k dd=>
    show if inV (.str "deed") [.str "put",.str "move"]=true then _ else _;rw[Zbd Zrn Zro];exact Yw (Yw (none_ rfl))
   |lift h dd=>
    show if inV (.str "lift") [.str "put",.str "move"]=true then _ else _;rw[Zbd Zlr Znl];exact Yw (Yw (none_ rfl))
   |hold h c n dd=>
    show if inV (.str "hold") [.str "put",.str "move"]=true then _ else _;rw[Zbd Zjs Zls];exact Yw (Yw (none_ rfl))
theorem ZbT{ls:List Str}{w:Rw}(h:Zcw ls w=true):∃hh c n d,w=.hold hh c n d:=by
 cases w with
 |hold hh c n d=>exact⟨hh,c,n,d,rfl⟩
 |_=>cases h
theorem ZdT:ZX ["rows","record","line","over","name"] ["rows","record","line"] (ZG ZeK):=⟨rfl,rfl,rfl,by decide+kernel,rfl,by decide+kernel,by decide+kernel⟩
theorem ZlA{f:Addr}{fd:FuncData}(F:Fun K "holds_on" "holds_on" ZeK f fd)(T:Txt K mg Zk Zi Zj Zb Zt Zr ZM Zw ZC Zx ZD Ze Zd Zf Zq ZF ZP)(Zdj:Cal P w K mg base CX0 1 "is_laid_on" ["row","record","over"] Zcx)(Jv:Cal P w K mg base CX0 1 "standing" ["rows"] ZaW):Yy P w K mg base CX0 2 f fd ["rows","record","line"] ZdQ:=by
 refine F.ok ZdT (fun vs H Q E h=> ?_) (fun cdv A outer s H vs Q E hr h=> ?_)
 ·obtain⟨p,l,ws,r,line,rfl,_⟩:=h
  rfl
 ·obtain⟨p,l,ws,r,line,rfl,rw_,lw,hl,ll,lh,q⟩:=h;have l5:=Xd;have hu:=ZbC hr;refine⟨_,(Zh (ZK (i:=3) ZdT.nd rfl (Or.inr rfl) ZbB) (Zh (JV PassesOwn.never rfl (Xc (pv 2)) (Yi (i:=4) ZdT.nd rfl (Or.inl rfl)) (Zu (Zd1 hu (pv 3) (pv 4) Zfh rfl))) (Zu (ZJ (Yb Zd6 (by rfl) T.z_sorted Zeh (Za (Jz ["row"] [("record",1),("over",3)] rfl (Xc (Ym Jv (hr.mono (by omega)) rfl Yc (Za (pv 0) Zm))) (by rfl) (by exact⟨rfl,⟨rfl,trivial⟩⟩) (by rfl) (by exact⟨⟨rfl,rfl,rfl⟩,⟨⟨rfl,rfl,rfl⟩,trivial⟩⟩) (fun _ _ _ _=>(Yi (i:=0) (show(nmY ["row"] [("record",1),("over",3)]).Nodup by decide+kernel) rfl (Or.inl rfl))) (fun _ _ _ _=>(ZaM (ZeD (Ym Zdj (hr.mono (by omega)) rfl Yc (Za (pv 0) (Za (pv 1) (Za (pv 2) Zm))))))) (fun _ _ _ _=>(ZV (XJ (K:=K) rfl) (pv 0) Zo (fun _ _=>rfl)))) Zm)))))), ?_⟩
  intro A hA;have nAl:l≠A:=Zn hl hA;refine⟨_,rfl,l,rfl,⟨_,SqL.of (Zg hA _ _ hl)⟩,JD (xs:=line.map V.str) (fun i σ H'=>∃v4:Option V,σ=[some (.ref p),some (.str r),some (.ref l),some (.ref A),v4]/\(∃kvs,H' A=some (.dK kvs)/\kvs.length<=i/\∀z:Str,YK kvs (Sum.inr z)=if z∈line.take i then some (V.bl true) else none)/\∀b u,b≠A->H b=some u->H' b=some u) ?_ ?_ ?_ ?_⟩
  ·exact⟨none,rfl,⟨[],Zc,Nat.le_refl _,fun z=>rfl⟩,fun b u nb e=>by rw[Zv nb];exact e⟩
  ·rintro i σ H1 _ ⟨v4,rfl,_,fr⟩;exact SqL.of (fr _ _ nAl hl)
  ·rintro i x σ H1 hx ⟨v4,rfl,⟨kvs,hk,lk,vk⟩,fr⟩;have en:line[i]? =some ((line[i]?).getD Str.empty):=by
    rw[List.getElem?_map] at hx
    cases e:line[i]? with
    |none=>rw[e] at hx;cases hx
    |some n=>rfl
   generalize (line[i]?).getD Str.empty=n at en
   obtain rfl:V.str n=x:=by
    rw[List.getElem?_map,en] at hx
    exact Option.some.inj hx
   have hi:i<line.length:=(List.getElem?_eq_some_iff.mp en).1;have tk:line.take (i+1)=line.take i++[n]:=by rw[List.take_add_one,en];rfl
   rw[tk];refine⟨_,rfl,_,rfl,A,_,rfl,.inl ⟨kvs,Sum.inr n,hk,rfl,by omega,rfl⟩, ?_⟩;exact⟨_,rfl,⟨_,Zc,Nat.le_trans (ZaQ _ _ _) (by omega),Zlw vk⟩,fun b u nb z=>by rw[Zv nb];exact fr b u nb z⟩
  ·rintro σ H1 ⟨v4,rfl,⟨kvs,hk,lk,vk⟩,fr⟩;rw[List.length_map] at lk
   rw[List.length_map,List.take_of_length_le (Nat.le_refl _)] at vk
   have s1:ZS H H1:=fun b u z=>fr b u (Zn z hA) z;obtain⟨ds0,hp,pr⟩:=rw_;refine⟨_,rfl,p,ws,rfl,⟨ds0,s1 _ _ hp,Yz s1 pr⟩,lw,fun S H2 hS s2 ⟨es,hs,prs⟩=>⟨S,rfl,⟨_,SqL.of hs⟩, ?_⟩⟩;have le:=Paired.length prs;have lst:(YD ws).length<=1000:=Nat.le_trans (List.length_filter_le _ _) lw;have hk2:=s2 _ _ hk;refine Jk es.length (fun j=>(((YD ws)[j]?).map fun w=>if ZeS r line w=true then[V.str w.one] else[]).getD []) (by omega) (fun j=> ?_) (fun j H4 s4 lt=>⟨_,_,SqL.of (s4 _ _ hs),List.getElem?_eq_getElem (by rw[List.length_map];exact lt)⟩) (fun H4 s4=>⟨_,SqL.of (s4 _ _ hs),by rw[List.length_map];exact Nat.le_refl _⟩) (fun j y H4 H5 s4 lt yl RT RF rt rf=> ?_) fun D H3 hD s3 d3=> ?_
   ·cases(YD ws)[j]? with
    |none=>exact Nat.zero_le 1
    |some w=>
     show(if _ then[V.str w.one] else[]).length<=1
     split
     ·exact Nat.le_refl 1
     ·exact Nat.zero_le 1
   ·obtain⟨rfl,yl⟩:=yl;obtain⟨d,rfl,ed⟩:=Jm (yl _ (SqL.of (s4 _ _ hs)));obtain⟨w,ew,row⟩:=YS (Yz s4 prs) j d ed;obtain⟨hh,c,n,dd,rfl⟩:=ZbT (List.mem_filter.mp (List.mem_of_getElem? ew)).2;have ov:Zic H5 A line:=⟨kvs,s4 _ _ hk2,by omega,vk⟩
    rw[ew] at rt rf
    refine⟨⟨rfl,rfl,trivial⟩,_,rfl,_,rfl,_,rfl,d,A,hh,n,c,dd,r,line,kvs,rfl,row,s4 _ _ hk2,ov.get,fun H6 s6=>⟨_,rfl, ?_⟩⟩;have row6:H6 d=some (.tup [.str "hold",.str hh,.str (onW c),.str n,.int dd]):=s6 _ _ row;exact Xg (fun z=>ixT rfl (SqT.of row6) rfl (rt _ _ (if_pos z) s6)) (fun z=>rf _ (if_neg z) s6)
   ·have e6:(List.range es.length).flatMap (fun j=>(((YD ws)[j]?).map fun w=>if ZeS r line w=true then[V.str w.one] else[]).getD [])=(YZ ws r line).map V.str:=by
     rw[le,JH (fun w=>if ZeS r line w=true then[V.str w.one] else[]) (YD ws)];unfold YZ;generalize YD ws=us
     induction us with
     |nil=>rfl
     |cons w us ih=>
      rw[List.flatMap_cons,ih];cases h:ZeS r line w with
      |true=>rw[if_pos rfl,List.filter_cons_of_pos h];rfl
      |false=>rw[if_neg Bool.false_ne_true,List.filter_cons_of_neg (by rw[h];exact Bool.false_ne_true)];rfl
    rw[e6] at d3
    refine⟨D,YZ ws r line,rfl,SqL.of d3,lh,fun zs pz sz D2 hD2=> ?_⟩;have s13:=s1.trans (s2.trans s3);exact q D2 zs _ (Xu s13 hD2) (s13.trans (Zg hD2)) pz sz Zc
theorem ZmI:∀ys:List ZaU,ys≠[]->∃y,Top ys y
 |[],h=>absurd rfl h
 |[y],_=>⟨y,List.mem_singleton_self _,fun z hz=>by
   have:z=y:=by simpa using hz
   rw[this];exact ZbG.irr _⟩
 |x::x2::ys,_=>by
  obtain⟨y,m,b⟩:=ZmI (x2::ys) (by simp);cases h:ZiR y x with
  |true=>
   refine⟨x,List.mem_cons_self ..,fun z hz=> ?_⟩;obtain rfl|hz:=List.mem_cons.mp hz
   ·exact ZbG.irr _
   ·cases k:ZiR x z with
    |false=>rfl
    |true=>exact absurd (ZbG.tr _ _ _ h k) (by rw[b z hz];exact Bool.false_ne_true)
  |false=>
   refine⟨y,List.mem_cons_of_mem _ m,fun z hz=> ?_⟩;obtain rfl|hz:=List.mem_cons.mp hz
   ·exact h
   ·exact b z hz
theorem ZlB{ws:List Rw}{r:Str}(h:Xl ws r=true):YT ws r≠[]:=fun z=>by
 obtain⟨w,hw,e⟩:=List.any_eq_true.mp h;cases w with
 |put x s d=>
  have e:x=r:=of_decide_eq_true e;have m:((d,s):ZaU)∈YT ws r:=List.mem_filterMap.mpr ⟨_,hw,if_pos e⟩;rw[z] at m
  cases m
 |_=>cases e
theorem Zjt{ws:List Rw}{r:Str}{day:Int}{y:ZaU}(h:y∈YT (Ys ws day) r):y∈YT ws r:=by
 obtain⟨w,hw,e⟩:=List.mem_filterMap.mp h;exact List.mem_filterMap.mpr ⟨w,(List.mem_filter.mp hw).1,e⟩
theorem Zoj{ws:List Rw}{r:Str}{day:Int}{line:List Str}:(YZ (Ys ws day) r line).length<=(ws.filter JX).length:=by
 have sub:((YD (Ys ws day)).filter (ZeS r line)).length<=((Ys ws day).filter JX).length:=by
  refine Nat.le_trans (List.length_filter_le _ _) ?_;unfold YD;generalize XC (Ys ws day)=ls
  induction Ys ws day with
  |nil=>exact Nat.le_refl _
  |cons w us ih=>
   cases hs:Zcw ls w with
   |true=>
    obtain⟨hh,c,n,d,rfl⟩:=ZbT hs;rw[List.filter_cons_of_pos hs,List.filter_cons_of_pos (show JX (.hold hh c n d)=true from rfl),List.length_cons,List.length_cons];omega
   |false=>
    rw[List.filter_cons_of_neg (by rw[hs];exact Bool.false_ne_true)]
    refine Nat.le_trans ih ?_
    by_cases h2:JX w=true
    ·rw[List.filter_cons_of_pos h2,List.length_cons];omega
    ·rw[List.filter_cons_of_neg h2];exact Nat.le_refl _
 unfold YZ;rw[List.length_map];refine Nat.le_trans sub ?_;unfold Ys;rw[List.filter_filter];have:(ws.filter fun a=>JX a&&decide (a.day<=day))=((ws.filter JX).filter fun a=>decide (a.day<=day)):=by rw[List.filter_filter];congr 1;funext a;rw[Bool.and_comm]
 rw[this];exact List.length_filter_le _ _
theorem Znp{cn ca cl ce:Addr}{H:Hp}{m:Addr}{t:Tr}(tm:Xk cn ca cl ce H t m):∃dx fs,H m=some (.ins (ZgQ cn ca cl ce t) dx fs)/\fs.lookup (Str.ofString "due")=none:=by
 obtain⟨dx,fs,ii,lk⟩:=ZcO tm;obtain⟨n1,n2,n3,n4⟩:=Znh "due" (.inl rfl);exact⟨dx,fs,ii,lk _ n1 n2 n3 n4⟩
theorem Zbt{cn ca cl ce:Addr}{H H':Hp}{p:Addr}{rs:List Sr}(s:ZS H H'):ZfC cn ca cl ce H p rs->ZfC cn ca cl ce H' p rs
 |⟨ds,h1,h2⟩=>⟨ds,s _ _ h1,Zer s h2⟩
theorem Yl{H H':Hp}{p:Addr}{ws:List Rw}(s:ZS H H'):Xb H p ws->Xb H' p ws
 |⟨ds,h1,h2⟩=>⟨ds,s _ _ h1,Yz s h2⟩
theorem ZcP:ZX ["book","rows","record","day","counting","series","due","holds"] ["book","rows","record","day"] (ZG Zi2):=⟨rfl,rfl,rfl,by decide+kernel,rfl,by decide+kernel,by decide+kernel⟩
theorem Zok{f:Addr}{fd:FuncData}(F:Fun K "judged" "judged" Zi2 f fd)(T:Txt K mg Zk Zi Zj Zb Zt Zr ZM Zw ZC Zx ZD Ze Zd Zf Zq ZF ZP)(Ja:Cal P w K mg base CX0 1 "counted" ["rows","day"] ZaG)(Zdw:Zag P w K mg base CX0 13 "due" ["self","life"] (Zcv Zk Zi Zj Zb 12) (fun C=>C=Zk\/C=Zi\/C=Zj\/C=Zb))(ZeX:Cal P w K mg base CX0 2 "holds_on" ["rows","record","line"] ZdQ)(Zaq:Cal P w K mg base CX0 1 "is_put" ["rows","record"] ZcN)(Zbx:Cal P w K mg base CX0 1 "life_of" ["rows","record"] Zdf)(Zgq:Cal P w K mg base CX0 1 "line_of" ["book","name"] (ZeR Zk Zi Zj Zb))(ZeY:Cal P w K mg base CX0 2 "owner_of" ["book","name"] (ZdO Zk Zi Zj Zb))(Zaf:Cal P w K mg base CX0 1 "series_of" ["rows","record"] Zbs)(Zby:Cal P w K mg base CX0 2 "term_of" ["book","name"] (Zde Zk Zi Zj Zb))(ZeZ:Cal P w K mg base CX0 1 "word_for" ["due","holds","day"] ZdR):Yy P w K mg base CX0 14 f fd ["book","rows","record","day"] (Zeo Zk Zi Zj Zb):=by
 refine F.ok ZcP (fun vs H Q E h=> ?_) (fun cdv A outer s H vs Q E hr h=> ?_)
 ·obtain⟨p,q',rs,ws,rec,day,rfl,_⟩:=h
  rfl
 ·obtain⟨p,q',rs,ws,rec,day,rfl,bat,bk,lr,rws,ok,q⟩:=h;have l5:=Xd;have nd:=Zln bk;have br:=Zkq bk;refine⟨_,(Zh (ZK (i:=4) ZcP.nd rfl (Or.inl rfl) (Ym Ja (hr.mono (by omega)) rfl Yc (Za (pv 1) (Za (pv 3) Zm)))) (Zh (Yj (ZjK (ZeD (Ym Zaq (hr.mono (by omega)) rfl Yc (Za (pv 4) (Za (pv 2) Zm))))) (Zu (ZJ (YX (Za ZR (Za Yv (Za Yv (Za Yv (Za (Yq Zm) Zm)))))))) ZW) (Zh (ZK (i:=5) ZcP.nd rfl (Or.inl rfl) (Ym Zaf (hr.mono (by omega)) rfl Yc (Za (pv 4) (Za (pv 2) Zm)))) (Zh (ZK (i:=6) ZcP.nd rfl (Or.inl rfl) (ZaC (Ym Zby (hr.mono (by omega)) rfl Yc (Za (pv 0) (Za (pv 5) Zm))) Zdw (hr.mono (by omega)) Yc (Za (Ym Zbx (hr.mono (by omega)) rfl Yc (Za (pv 4) (Za (pv 2) Zm))) Zm))) (Zh (ZK (i:=7) ZcP.nd rfl (Or.inl rfl) (Ym ZeX (hr.mono (by omega)) rfl Yc (Za (pv 4) (Za (pv 2) (Za (Ym Zgq (hr.mono (by omega)) rfl Yc (Za (pv 0) (Za (pv 5) Zm))) Zm))))) (Zu (ZJ (YX (Za (Ym ZeZ (hr.mono (by omega)) rfl Yc (Za (pv 6) (Za (pv 7) (Za (pv 3) Zm)))) (Za (pv 5) (Za (Ym ZeY (hr.mono (by omega)) rfl Yc (Za (pv 0) (Za (pv 5) Zm))) (Za (pv 6) (Za (pv 7) Zm))))))))))))), ?_⟩
  refine⟨_,rfl,_,rfl,q',ws,day,rfl,rws,ok.len,fun C H1 hC s1 rc=> ?_⟩;have lc:(Ys ws day).length<=1000:=Nat.le_trans (List.length_filter_le _ _) ok.len;refine⟨_,rfl,_,rfl,C,_,rec,rfl,rc,lc,fun H2 s2=>⟨_,rfl, ?_⟩⟩;have s02:=s1.trans s2;cases ip:Xl (Ys ws day) rec with
  |false=>
   refine Jq ⟨Nat.zero_le _,fun L hL=>⟨show 5<=sizeLine from sl,fun a ha=> ?_⟩⟩;have s3:=Zg (o:=.lst []) hL;refine q a Zki _ (Xu (s02.trans s3) ha) (s02.trans (s3.trans (Zg ha))) ⟨L,Zc,Zg ha _ _ Zc⟩ (fun L' e=> ?_) ⟨fun _=>rfl,fun z=>by rw[ip] at z;cases z⟩
   rw[Zc] at e
   have e:HO.tup _=HO.tup _:=Option.some.inj e
   injection e with e
   have e:V.ref L=V.ref L':=by simpa [Zki,oS,oV] using e
   injection e with e
   exact e▸Xu s02 hL
  |true=>
   obtain⟨y,top⟩:=ZmI _ (ZlB ip);have hy:=ok.ser rec y (Zjt top.1);have hy':∀m,some y.2=some m->m∈rs.reverse.map Sr.nm:=fun m hm=>by
    injection hm with hm
    rw[<-hm,List.map_reverse,List.mem_reverse];exact hy
   obtain⟨r0,hr0,ow,t0,_⟩:=Zkp (Zr2 rs) rs.reverse (some y.2) br (fun r hr=>Znj nd (List.mem_reverse.mp hr)) hy' (fun z=>nomatch z);obtain⟨t,ht⟩:=Option.isSome_iff_exists.mp t0;have ct:=((Zep bk r0 (List.mem_reverse.mp hr0)).tm t ht).2;have dp:=t.deep_cnt;have ll:=Zib rs.reverse (some y.2);rw[List.length_reverse] at ll
   refine Yw ⟨_,rfl,_,rfl,C,_,rec,y,rfl,Yl s2 rc,lc,top,fun H3 s3=> ?_⟩;have s03:=s02.trans s3;refine⟨_,rfl,_,rfl,p,y.2,rs,r0,t,rfl,Zbt s03 bat,lr,ow,ht,fun m H4 s4 tm=> ?_⟩;obtain⟨dx,fs,ii,lk⟩:=Znp tm;have s04:=s03.trans s4;refine⟨m,_,dx,fs,rfl,ii,ZeV t,lk,_,rfl,_,rfl,C,_,rec,rfl,Yl (s2.trans (s3.trans s4)) rc,lc,fun L H5 hL s5 hl=> ?_⟩;refine⟨m,L,t,_,rfl,tm.same s5,by omega,rfl,.inl hl,fun H6 s6=> ?_⟩
   have s06:=s04.trans (s5.trans s6);have sC6:=s2.trans (s3.trans (s4.trans (s5.trans s6)));refine⟨_,rfl,_,rfl,_,rfl,_,rfl,p,y.2,rs,rfl,Zbt s06 bat,lr,fun L2 H7 hL2 s7 hl2=> ?_⟩;refine⟨C,L2,_,rec,_,rfl,Yl (sC6.trans s7) rc,lc,hl2,by omega,Nat.lt_of_le_of_lt Zoj ok.held,fun Qh zs H8 hQ s8 pz sz hz=> ?_⟩;have s08:=s06.trans (s7.trans s8);refine⟨_,rfl,_,rfl,_,rfl,Qh,zs,_,day,rfl,hz,fun H9 s9=> ?_⟩;have s09:=s08.trans s9
   refine⟨_,rfl,_,rfl,_,rfl,p,y.2,rs,r0,rfl,Zbt s09 bat,lr,ow,fun H10 s10=> ?_⟩;refine⟨_,rfl,_,rfl,show 5<=sizeLine from sl,fun a ha=> ?_⟩;have s010:=s09.trans s10;have hz10:=s10 _ _ (s9 _ _ hz);refine q a ⟨JS (t.due (XR (Ys ws day) rec)) zs.length day,some y.2,some r0.nm,t.due (XR (Ys ws day) rec),zs⟩ _ (Xu s010 ha) (s010.trans (Zg ha)) ⟨Qh,Zc,Zg ha _ _ hz10⟩ (fun L' e=> ?_) ⟨fun z=>(by rw[ip] at z;cases z),fun _=>⟨y,r0,t,top,ow,ht,rfl,rfl,rfl,pz,sz,rfl⟩⟩
   rw[Zc] at e
   have e:HO.tup _=HO.tup _:=Option.some.inj e
   injection e with e
   have e:V.ref Qh=V.ref L':=by simpa [oS,oV] using e
   injection e with e
   exact e▸Xu (s06.trans s7) hQ
theorem lvR{cn ca cl ce m:Addr}{n:Nat}{t:Tr}{σ:L2.St}{H:Hp}{Q:VK}{E:XK}(tm:Xk cn ca cl ce H t m)(o1:t.deep<n)(o2:t.cnt<=100)(k:∀p H',ZS H H'->H p=none->Zkh H' p t.lvs->Q (.ref p) H'):
  ∃a C dx fs,V.ref m=.ref a/\H a=some (.ins C dx fs)/\(C=cn\/C=ca\/C=cl\/C=ce)/\fs.lookup (Str.ofString "leaves")=none/\Zm6 σ H fun vs H2=>Zae cn ca cl ce n C (V.ref m::vs) H2 Q E:=by
 obtain⟨dx,fs,ii,lk⟩:=ZcO tm;obtain⟨n1,n2,n3,n4⟩:=Znh "leaves" (.inr (.inl rfl));exact⟨m,_,dx,fs,rfl,ii,ZeV t,lk _ n1 n2 n3 n4,m,t,rfl,tm,o1,o2,rfl,k⟩
theorem ZfJ{α β:Type}{F:α->β->Prop}:∀{a c:List α} {b d:List β},Paired F a b->Paired F c d->Paired F (a++c) (b++d)
 |_,_,_,_,.nil,s=>s
 |_,_,_,_,.cons r t,s=> .cons r (ZfJ t s)
theorem Zkh.same{H H':Hp}{p:Addr}{ls:List (Str×Int)}(s:ZS H H')(h:Zkh H p ls):Zkh H' p ls:=by
 obtain⟨ys,h1,h2⟩:=h;exact⟨ys,s _ _ h1,Paired.mapP h2 fun kd y ⟨q,e1,e2⟩=>⟨q,e1,s _ _ e2⟩⟩
theorem Zkh.app{H:Hp}{p:Addr}{ls ms:List (Str×Int)}{xs ys:List V}(hp:H p=none)(h1:Paired (fun(kd:Str×Int) y=>∃q,y=V.ref q/\H q=some (.tup [.str kd.1,.int kd.2])) ls xs)
  (h2:Paired (fun(kd:Str×Int) y=>∃q,y=V.ref q/\H q=some (.tup [.str kd.1,.int kd.2])) ms ys):Zkh (upd H p (.lst (xs++ys))) p (ls++ms):=
 ⟨_,Zc,Paired.mapP (ZfJ h1 h2) fun kd y ⟨q,e1,e2⟩=>⟨q,e1,Zg hp _ _ e2⟩⟩
theorem Zh5:ZX ["self"] ["self"] (ZG ZbJ):=⟨rfl,rfl,rfl,by decide+kernel,rfl,by decide+kernel,by decide+kernel⟩
theorem Zh6{f:Addr}{fd:FuncData}(F:Fun K "leaves" "Never.leaves" ZbJ f fd)(T:Txt K mg Zk Zi Zj Zb Zt Zr ZM Zw ZC Zx ZD Ze Zd Zf Zq ZF ZP)(n:Nat):Yy P w K mg base CX0 (0+n+1+1) f fd ["self"] (Zae Zk Zi Zj Zb (n+1) Zk):=by
 refine F.ok Zh5 (fun vs H Q E h=> ?_) (fun cdv A outer s H vs Q E hr h=> ?_)
 ·obtain⟨a,t,rfl,_⟩:=h
  rfl
 ·obtain⟨a,t,rfl,ht,hd,hc,hC,q⟩:=h;refine⟨_,(Zu (ZJ (Yq Zm))), ?_⟩;cases t with
  |never=>exact⟨Nat.zero_le _,fun p hp=>q p _ (Zg hp) hp ⟨[],Zc,.nil⟩⟩
  |after k d=>exact absurd hC.symm T.ne_Never_After
  |later x y=>exact absurd hC.symm T.ne_Never_Later
  |earlier x y=>exact absurd hC.symm T.ne_Never_Earlier
theorem Zh7:ZX ["self"] ["self"] (ZG ZbK):=⟨rfl,rfl,rfl,by decide+kernel,rfl,by decide+kernel,by decide+kernel⟩
theorem Zh8{f:Addr}{fd:FuncData}(F:Fun K "leaves" "After.leaves" ZbK f fd)(T:Txt K mg Zk Zi Zj Zb Zt Zr ZM Zw ZC Zx ZD Ze Zd Zf Zq ZF ZP)(n:Nat):Yy P w K mg base CX0 (0+n+1+1) f fd ["self"] (Zae Zk Zi Zj Zb (n+1) Zi):=by
 refine F.ok Zh7 (fun vs H Q E h=> ?_) (fun cdv A outer s H vs Q E hr h=> ?_)
 ·obtain⟨a,t,rfl,_⟩:=h
  rfl
 ·obtain⟨a,t,rfl,ht,hd,hc,hC,q⟩:=h;have l5:=Xd;cases t with
  |never=>exact absurd hC T.ne_Never_After
  |later x y=>exact absurd hC.symm T.ne_After_Later
  |earlier x y=>exact absurd hC.symm T.ne_After_Earlier
  |after k d=>
   obtain⟨dx,ha⟩:=ht;refine⟨_,(Zu (ZJ (Yq (Za (YX (Za (Yp (pv 0) rfl) (Za (Yp (pv 0) rfl) Zm))) Zm)))), ?_⟩;refine⟨_,rfl,a,_,dx,_,_,rfl,ha,T.cl_After,T.n_After_kind,Zkj k d,_,rfl,a,_,dx,_,_,rfl,ha,T.cl_After,T.n_After_days,Znf k d,(show 2<=sizeLine from sl),fun t ht=>⟨show 1<=sizeLine from sl,fun p hp=> ?_⟩⟩;have hp0:H p=none:=(Zg ht).free hp;exact q p _ ((Zg ht).trans (Zg hp)) hp0 ⟨_,Zc,.cons ⟨t,rfl,Zg hp _ _ Zc⟩ .nil⟩
theorem Zid:ZX ["self"] ["self"] (ZG ZaN):=⟨rfl,rfl,rfl,by decide+kernel,rfl,by decide+kernel,by decide+kernel⟩
theorem ZdU{f:Addr}{fd:FuncData}(F:Fun K "leaves" "Pair.leaves" ZaN f fd)(T:Txt K mg Zk Zi Zj Zb Zt Zr ZM Zw ZC Zx ZD Ze Zd Zf Zq ZF ZP)(n:Nat){C:Addr}(hC:C=Zj\/C=Zb)(ZaY:Zag P w K mg base CX0 (0+n+1) "leaves" ["self"] (Zae Zk Zi Zj Zb n) (fun C=>C=Zk\/C=Zi\/C=Zj\/C=Zb)):Yy P w K mg base CX0 (0+n+1+1) f fd ["self"] (Zae Zk Zi Zj Zb (n+1) C):=by
 refine F.ok Zid (fun vs H Q E h=> ?_) (fun cdv A outer s H vs Q E hr h=> ?_)
 ·obtain⟨a,t,rfl,_⟩:=h
  rfl
 ·obtain⟨a,t,rfl,ht,hd,hc,hcls,q⟩:=h;have l5:=Xd;cases t with
  |never=>
   rcases hC with h|h
   ·exact absurd (hcls.trans h) T.ne_Never_Later
   ·exact absurd (hcls.trans h) T.ne_Never_Earlier
  |after k d=>
   rcases hC with h|h
   ·exact absurd (hcls.trans h) T.ne_After_Later
   ·exact absurd (hcls.trans h) T.ne_After_Earlier
  |later x y=>
   obtain⟨dx,p1,p2,ha,t1,t2⟩:=ht;have hdeep:max x.deep y.deep+1<n+1:=hd;have hcnt:x.cnt+y.cnt<=100:=hc;have lx:=x.lvs_cnt;have ly:=y.lvs_cnt;refine⟨_,(Zu (ZJ (ZQ Zbr (Za6 (Yp (pv 0) rfl) ZaY (hr.mono (by omega)) Yc) (Za6 (Yp (pv 0) rfl) ZaY (hr.mono (by omega)) Yc)))), ?_⟩;refine⟨_,rfl,a,_,dx,_,_,rfl,ha,T.cl_Later,T.n_Later_one,Zkk p1 p2,lvR t1 (by omega) (by omega) fun L1 H1 s1 hL1 lv1=> ?_⟩;refine⟨_,rfl,a,_,dx,_,_,rfl,s1 _ _ ha,T.cl_Later,T.n_Later_other,ZfF p1 p2,lvR (t2.same s1) (by omega) (by omega) fun L2 H2 s2 hL2 lv2=> ?_⟩
   obtain⟨xs,e1,e2⟩:=lv1.same s2;obtain⟨ys,g1,g2⟩:=lv2;have z1:=Paired.length e2;have z2:=Paired.length g2;refine⟨L1,L2,xs,ys,rfl,rfl,SqL.of e1,SqL.of g1,by omega,fun p hp=> ?_⟩;exact q p _ (s1.trans (s2.trans (Zg hp))) ((s1.trans s2).free hp) (Zkh.app hp e2 g2)
  |earlier x y=>
   obtain⟨dx,p1,p2,ha,t1,t2⟩:=ht;have hdeep:max x.deep y.deep+1<n+1:=hd;have hcnt:x.cnt+y.cnt<=100:=hc;have lx:=x.lvs_cnt;have ly:=y.lvs_cnt;refine⟨_,(Zu (ZJ (ZQ Zbr (Za6 (Yp (pv 0) rfl) ZaY (hr.mono (by omega)) Yc) (Za6 (Yp (pv 0) rfl) ZaY (hr.mono (by omega)) Yc)))), ?_⟩;refine⟨_,rfl,a,_,dx,_,_,rfl,ha,T.cl_Earlier,T.n_Earlier_one,Zkk p1 p2,lvR t1 (by omega) (by omega) fun L1 H1 s1 hL1 lv1=> ?_⟩;refine⟨_,rfl,a,_,dx,_,_,rfl,s1 _ _ ha,T.cl_Earlier,T.n_Earlier_other,ZfF p1 p2,lvR (t2.same s1) (by omega) (by omega) fun L2 H2 s2 hL2 lv2=> ?_⟩
   obtain⟨xs,e1,e2⟩:=lv1.same s2;obtain⟨ys,g1,g2⟩:=lv2;have z1:=Paired.length e2;have z2:=Paired.length g2;refine⟨L1,L2,xs,ys,rfl,rfl,SqL.of e1,SqL.of g1,by omega,fun p hp=> ?_⟩;exact q p _ (s1.trans (s2.trans (Zg hp))) ((s1.trans s2).free hp) (Zkh.app hp e2 g2)
theorem ZbU{l:Tb}:∀{t:Tr} {D:Int},t.due l=some D->∃kd∈t.lvs,(lk l kd.1).map (· +kd.2)=some D
 | .never,_,h=>nomatch h
 | .after k d,_,h=>⟨(k,d),List.mem_singleton_self _,h⟩
 | .later x y,D,h=>by
  have h:ZpK (x.due l) (y.due l)=some D:=h;cases ex:x.due l with
  |none=>rw[ex] at h;cases h
  |some a=>
   cases ey:y.due l with
   |none=>rw[ex,ey] at h;cases h
   |some b=>
    rw[ex,ey] at h
    have h:(if b>a then b else a)=D:=Option.some.inj h
    split at h
    ·obtain⟨kd,m,e⟩:=ZbU ey;exact⟨kd,List.mem_append_right _ m,h▸e⟩
    ·obtain⟨kd,m,e⟩:=ZbU ex;exact⟨kd,List.mem_append_left _ m,h▸e⟩
 | .earlier x y,D,h=>by
  have h:Zlm (x.due l) (y.due l)=some D:=h;cases ex:x.due l with
  |none=>
   rw[ex] at h
   obtain⟨kd,m,e⟩:=ZbU (show y.due l=some D from h);exact⟨kd,List.mem_append_right _ m,e⟩
  |some a=>
   cases ey:y.due l with
   |none=>
    rw[ex,ey] at h
    obtain⟨kd,m,e⟩:=ZbU ex;exact⟨kd,List.mem_append_left _ m,e.trans h⟩
   |some b=>
    rw[ex,ey] at h
    have h:(if b<a then b else a)=D:=Option.some.inj h
    split at h
    ·obtain⟨kd,m,e⟩:=ZbU ey;exact⟨kd,List.mem_append_right _ m,h▸e⟩
    ·obtain⟨kd,m,e⟩:=ZbU ex;exact⟨kd,List.mem_append_left _ m,h▸e⟩
theorem Zks{l:Tb}{t:Tr}{D:Int}(h:t.due l=some D):Zhm l D t.lvs≠[]:=fun z=>by
 obtain⟨kd,m,e⟩:=ZbU h;have:kd∈Zhm l D t.lvs:=List.mem_filter.mpr ⟨m,decide_eq_true e⟩;rw[z] at this
 cases this
def LfH(H:Hp)(kd:Lf)(y:V):Prop:=∃q,y=V.ref q/\H q=some (.tup [.str kd.1,.int kd.2])
theorem Zie{H H':Hp}(s:ZS H H'):∀{ls:List Lf} {ys:List V},Paired (LfH H) ls ys->Paired (LfH H') ls ys
 |_,_,.nil=> .nil
 |_,_,.cons ⟨q,e,h⟩ t=> .cons ⟨q,e,s _ _ h⟩ (Zie s t)
theorem ZpY{K:PySem.W.Frag}{H:Hp}:∀{ls:List Lf} {ys:List V},Paired (LfH H) ls ys->Paired (ZiS K H) ls ys
 |_,_,.nil=> .nil
 |_,_,.cons ⟨q,e,h⟩ t=> .cons ⟨q,e,SqT.of h⟩ (ZpY t)
theorem Zju{H:Hp}(P:Lf->Bool):∀{ls:List Lf} {ys:List V},Paired (LfH H) ls ys->Paired (LfH H) (ls.filter P) ((ls.zip ys).flatMap fun z=>if P z.1=true then[z.2] else[])
 |_,_,.nil=> .nil
 |_,_,.cons (a:=a) (b:=w) h t=>by
  have c:=Zju P t;rw[List.zip_cons_cons,List.flatMap_cons]
  by_cases hp:P a=true
  ·rw[List.filter_cons_of_pos hp,if_pos hp];exact .cons h c
  ·rw[List.filter_cons_of_neg hp,if_neg hp];exact c
theorem Zsi{P:Lf->Bool}{o:Option (Lf×V)}:((o.map fun z=>if P z.1=true then[z.2] else[]).getD []).length<=1:=by
 cases o with
 |none=>exact Nat.zero_le 1
 |some z=>
  show(if _ then[z.2] else[]).length<=1
  by_cases h:P z.1=true
  ·rw[if_pos h];exact Nat.le_refl 1
  ·rw[if_neg h];exact Nat.zero_le 1
theorem Zlh{H:Hp}:∀{ls:List Lf} {ys:List V},Paired (LfH H) ls ys->∀(j:Nat) (y:V),ys[j]? =some y->∃kd q,(ls.zip ys)[j]? =some (kd,y)/\y=.ref q/\H q=some (.tup [.str kd.1,.int kd.2])
 |_,_,.nil,j,y,h=>by simp at h
 |_,_,.cons (a:=kd) (b:=v) ⟨q,e,r⟩ t,0,y,h=>by
  have h:v=y:=by simpa using h
  subst h;exact⟨kd,q,rfl,e,r⟩
 |_,_,.cons _ t,j+1,y,h=>by
  obtain⟨kd,q,e,z⟩:=Zlh t j y (by simpa using h);exact⟨kd,q,by simpa using e,z⟩
theorem ZlC{l:Tb}{D d:Int}{kd:Lf}(h:lk l kd.1=some d):Zap l D kd=decide (V.int (d+kd.2)=V.int D):=by
 unfold Zap;rw[h];refine decide_eq_decide.mpr ⟨fun z=>congrArg V.int (Option.some.inj z),fun z=> ?_⟩
 injection z with z
 exact congrArg some z
theorem ZpZ{l:Tb}{D:Int}{kd:Lf}(h:lk l kd.1=none):Zap l D kd=false:=by
 unfold Zap;rw[h]
 rfl
theorem ZaJ:ZX ["book","rows","record","day","counting","life","term","due","reached","first"] ["book","rows","record","day"] (ZG Zi3):=⟨rfl,rfl,rfl,by decide+kernel,rfl,by decide+kernel,by decide+kernel⟩
theorem Zol{f:Addr}{fd:FuncData}(F:Fun K "reason" "reason" Zi3 f fd)(T:Txt K mg Zk Zi Zj Zb Zt Zr ZM Zw ZC Zx ZD Ze Zd Zf Zq ZF ZP)(Ja:Cal P w K mg base CX0 1 "counted" ["rows","day"] ZaG)(Zdw:Zag P w K mg base CX0 13 "due" ["self","life"] (Zcv Zk Zi Zj Zb 12) (fun C=>C=Zk\/C=Zi\/C=Zj\/C=Zb))(ZaY:Zag P w K mg base CX0 13 "leaves" ["self"] (Zae Zk Zi Zj Zb 12) (fun C=>C=Zk\/C=Zi\/C=Zj\/C=Zb))(Zaq:Cal P w K mg base CX0 1 "is_put" ["rows","record"] ZcN)(Zbx:Cal P w K mg base CX0 1 "life_of" ["rows","record"] Zdf)(Zaf:Cal P w K mg base CX0 1 "series_of" ["rows","record"] Zbs)(Zby:Cal P w K mg base CX0 2 "term_of" ["book","name"] (Zde Zk Zi Zj Zb)):Yy P w K mg base CX0 14 f fd ["book","rows","record","day"] (Zgm Zk Zi Zj Zb):=by
 refine F.ok ZaJ (fun vs H Q E h=> ?_) (fun cdv A outer s H vs Q E hr h=> ?_)
 ·obtain⟨p,q',rs,ws,rec,day,rfl,_⟩:=h
  rfl
 ·obtain⟨p,q',rs,ws,rec,day,rfl,bat,bk,lr,rws,ok,q⟩:=h;have l5:=Xd;have hu:=ZbC hr;have hu3:=ZnQ hr;have nd:=Zln bk;have br:=Zkq bk;refine⟨_,(Zh (ZK (i:=4) ZaJ.nd rfl (Or.inl rfl) (Ym Ja (hr.mono (by omega)) rfl Yc (Za (pv 1) (Za (pv 3) Zm)))) (Zh (Yj (ZjK (ZeD (Ym Zaq (hr.mono (by omega)) rfl Yc (Za (pv 4) (Za (pv 2) Zm))))) (Zu (ZJ Yv)) ZW) (Zh (ZK (i:=5) ZaJ.nd rfl (Or.inr rfl) (Ym Zbx (hr.mono (by omega)) rfl Yc (Za (pv 4) (Za (pv 2) Zm)))) (Zh (ZK (i:=6) ZaJ.nd rfl (Or.inl rfl) (Ym Zby (hr.mono (by omega)) rfl Yc (Za (pv 0) (Za (Ym Zaf (hr.mono (by omega)) rfl Yc (Za (pv 4) (Za (pv 2) Zm))) Zm)))) (Zh (ZK (i:=7) ZaJ.nd rfl (Or.inr rfl) (ZaC (pv 6) Zdw (hr.mono (by omega)) Yc (Za (pv 5) Zm))) (Zh (Yj (Zy Zah (pv 7) Yv (ZL _)) (Zu (ZJ Yv)) ZW) (Zh (ZjW (i:=8) ["leaf"] [("life",5),("due",7)] ZaJ.nd rfl (Or.inl rfl) rfl (Xc (Za6 (pv 6) ZaY (hr.mono (by omega)) Yc)) (by rfl) (by exact⟨rfl,⟨rfl,trivial⟩⟩) (by rfl) (by exact⟨⟨rfl,rfl,rfl⟩,⟨⟨rfl,rfl,rfl⟩,trivial⟩⟩) (fun _ _ _ _=>(Yi (i:=0) (show(nmY ["leaf"] [("life",5),("due",7)]).Nodup by decide+kernel) rfl (Or.inl rfl))) (fun _ _ _ _=>(ZaM (PW.pt (Jx (Zg4 (Zmd hu (ZV (XJ (K:=K) rfl) (pv 0) Zo (fun _ _=>rfl)) (pv 1))) (XH (Zy Yu (ZQ Jy (Zbp hu (pv 1) (ZV (XJ (K:=K) rfl) (pv 0) Zo (fun _ _=>rfl)) (fun _ _=>rfl)) (ZV (XJ (K:=K) rfl) (pv 0) Zo (fun _ _=>rfl))) (pv 2) (ZL _))))))) (fun _ _ _ _=>(pv 0))) (Zh (ZK (i:=9) ZaJ.nd rfl (Or.inl rfl) (Yb (Zo8 rfl hu3) (by rfl) T.z_min ZoY (Za (pv 8) Zm))) (Zu (ZJ (YX (Za (ZV ZZ (pv 9) Zo (fun _ _=>rfl)) (Za (Zbp hu (pv 5) (ZV ZZ (pv 9) Zo (fun _ _=>rfl)) (fun _ _=>rfl)) (Za (ZV ZZ (pv 9) Zo (fun _ _=>rfl)) Zm)))))))))))))), ?_⟩
  refine⟨_,rfl,_,rfl,q',ws,day,rfl,rws,ok.len,fun C H1 hC s1 rc=> ?_⟩;have lc:(Ys ws day).length<=1000:=Nat.le_trans (List.length_filter_le _ _) ok.len;refine⟨_,rfl,_,rfl,C,_,rec,rfl,rc,lc,fun H2 s2=>⟨_,rfl, ?_⟩⟩;have s02:=s1.trans s2;cases ip:Xl (Ys ws day) rec with
  |false=>exact Jq (q _ _ s02 ⟨fun _=>rfl,fun z=>by rw[ip] at z;cases z⟩)
  |true=>
   obtain⟨y,top⟩:=ZmI _ (ZlB ip);have hy:=ok.ser rec y (Zjt top.1);have hy':∀m,some y.2=some m->m∈rs.reverse.map Sr.nm:=fun m hm=>by
    injection hm with hm
    rw[<-hm,List.map_reverse,List.mem_reverse];exact hy
   obtain⟨r0,hr0,ow,t0,_⟩:=Zkp (Zr2 rs) rs.reverse (some y.2) br (fun r hr=>Znj nd (List.mem_reverse.mp hr)) hy' (fun z=>nomatch z);obtain⟨t,ht⟩:=Option.isSome_iff_exists.mp t0;have ct:=((Zep bk r0 (List.mem_reverse.mp hr0)).tm t ht).2;have dp:=t.deep_cnt;refine Yw ⟨_,rfl,_,rfl,C,_,rec,rfl,Yl s2 rc,lc,fun L H3 hL s3 hl=> ?_⟩;refine⟨_,rfl,_,rfl,_,rfl,C,_,rec,y,rfl,Yl (s2.trans s3) rc,lc,top,fun H4 s4=> ?_⟩
   have s04:=s02.trans (s3.trans s4);refine⟨p,y.2,rs,r0,t,rfl,Zbt s04 bat,lr,ow,ht,fun m H5 s5 tm=> ?_⟩;obtain⟨dx,fs,ii,lk0⟩:=Znp tm;have hl5:=s5 _ _ (s4 _ _ hl);refine⟨_,rfl,m,_,dx,fs,rfl,ii,ZeV t,lk0,_,rfl,m,L,t,_,rfl,tm,by omega,rfl,.inl hl5,fun H6 s6=> ?_⟩;have s06:=s04.trans (s5.trans s6);have hl6:=s6 _ _ hl5;generalize hlf:XR (Ys ws day) rec=l at hl6⊢
   cases hd:t.due l with
   |none=>
    refine⟨_,rfl,rfl,_,rfl,Zam rfl (q _ _ s06 ⟨fun _=>rfl,fun _=>⟨y,r0,t,top,ow,ht,fun _=>rfl,fun D e=> ?_⟩⟩)⟩;rw[hlf,hd] at e
    cases e
   |some D=>
    refine⟨_,rfl,rfl,_,rfl,Xj (fun z=>nomatch z) ?_⟩;refine⟨_,rfl,lvR (tm.same s6) (by omega) (by omega) fun Lv H7 s7 hLv lv=> ?_⟩;obtain⟨ys,hv,pv⟩:=lv;have pv:Paired (LfH H7) t.lvs ys:=pv;have lvc:=t.lvs_cnt;have le:=Paired.length pv;have lz:(t.lvs.zip ys).length=ys.length:=by rw[List.length_zip];omega
    refine⟨Lv,rfl,⟨_,SqL.of hv⟩,Jk (t.lvs.zip ys).length (fun j=>(((t.lvs.zip ys)[j]?).map fun z=>if Zap l D z.1=true then[z.2] else[]).getD []) (by omega) (fun j=>Zsi) (fun j H2 s2 lt=>⟨_,_,SqL.of (s2 _ _ hv),List.getElem?_eq_getElem (by omega)⟩) (fun H2 s2=>⟨_,SqL.of (s2 _ _ hv),by omega⟩) (fun j x H8 H9 s8 lt yl RT RF rt rf=> ?_) fun B H8 hB s8 d8=> ?_⟩
    ·obtain⟨rfl,yl⟩:=yl;obtain⟨kd,qa,ez,rfl,row⟩:=Zlh (Zie s8 pv) j x (yl _ (SqL.of (s8 _ _ hv)));rw[ez] at rt rf
     have rt:∀v H6,(if Zap l D kd=true then[V.ref qa] else[])=[v]->_:=rt;have rf:∀H5,(if Zap l D kd=true then[V.ref qa] else[])=[]->_:=rf;have hl9:=s8 _ _ (s7 _ _ hl6);have dg:=Zi9 (.inl hl9) kd.1;refine⟨⟨rfl,rfl,trivial⟩,ixT rfl (SqT.of row) rfl ⟨_,rfl,L,_,rfl,dg,_,rfl, ?_⟩⟩;rw[Zia];cases ev:lk l kd.1 with
     |none=>exact Yw (rf _ (if_neg (by rw[ZpZ ev];exact Bool.false_ne_true)) (ZS.refl _))
     |some d=>
      rw[ev] at dg
      refine Jq ⟨_,rfl,ixT rfl (SqT.of row) rfl ⟨L,_,rfl,dg,ixT rfl (SqT.of row) rfl ⟨_,_,rfl,rfl,_,rfl,rfl,_,rfl, ?_⟩⟩⟩;refine Xg (fun z=>⟨_,rfl,rt _ _ (if_pos (by rw[ZlC ev];exact z)) (ZS.refl _)⟩) (fun z=>rf _ (if_neg (by rw[ZlC ev];exact z)) (ZS.refl _))
    ·rw[JH (fun z:Lf×V=>if Zap l D z.1=true then[z.2] else[]) (t.lvs.zip ys)] at d8
     have pf:=Zju (Zap l D) (Zie s8 pv);generalize hzs:((t.lvs.zip ys).flatMap fun z=>if Zap l D z.1=true then[z.2] else[])=zs at d8 pf
     obtain⟨v0,zs',rfl⟩:∃v0 zs',zs=v0::zs':=by
      cases zs with
      |nil=>exact absurd (List.eq_nil_of_length_eq_zero (Paired.length pf)) (Zks hd)
      |cons v0 us=>exact⟨v0,us,rfl⟩
     refine⟨_,rfl,B,v0,zs',_,rfl,SqL.of d8,ZpY pf,fun v kd mem sp best=> ?_⟩;obtain⟨pv2,rfl,hv2⟩:=sp;have hl8:=s8 _ _ (s7 _ _ hl6);have cm:=of_decide_eq_true (List.mem_filter.mp mem).2;obtain⟨d,ev⟩:∃d,lk l kd.1=some d:=by
      cases e:lk l kd.1 with
      |none=>rw[e] at cm;cases cm
      |some d=>exact⟨d,rfl⟩
     have dg:=Zi9 (.inl hl8) kd.1;rw[ev] at dg
     refine(ixT rfl hv2 rfl ⟨_,rfl,ixT rfl hv2 rfl ⟨L,_,rfl,dg,ixT rfl hv2 rfl ⟨show 3<=sizeLine from sl,fun a ha=> ?_⟩⟩⟩);refine q _ _ (s06.trans (s7.trans (s8.trans (Zg ha)))) ⟨fun z=>(by rw[ip] at z;cases z),fun _=>⟨y,r0,t,top,ow,ht,fun e=> ?_,fun D' e=> ?_⟩⟩
     ·rw[hlf,hd] at e
      cases e
     ·rw[hlf] at e⊢
      obtain rfl:D=D':=by rw[hd] at e;injection e
      exact⟨a,kd.1,d,kd.2,rfl,Zc,ev,mem,best⟩
theorem ZfK(b t o h r k w:Addr):(fH b t o h r k w).lookup ("book":Str)=some (.ref b):=by
 unfold fH;rw[Zz,if_neg (by decide+kernel),Zz,if_neg (by decide+kernel),Zz,if_neg (by decide+kernel),Zz,if_neg (by decide+kernel),Zz,if_neg (by decide+kernel),Zz,if_neg (by decide+kernel),Zz,if_pos rfl]
theorem Znq(b t o h r k w:Addr):(fH b t o h r k w).lookup ("told":Str)=some (.ref t):=by
 unfold fH;rw[Zz,if_neg (by decide+kernel),Zz,if_neg (by decide+kernel),Zz,if_neg (by decide+kernel),Zz,if_neg (by decide+kernel),Zz,if_neg (by decide+kernel),Zz,if_pos rfl]
theorem Zif(b t o h r k w:Addr):(fH b t o h r k w).lookup ("own":Str)=some (.ref o):=by
 unfold fH;rw[Zz,if_neg (by decide+kernel),Zz,if_neg (by decide+kernel),Zz,if_neg (by decide+kernel),Zz,if_neg (by decide+kernel),Zz,if_pos rfl]
theorem Zcf(b t o h r k w:Addr):(fH b t o h r k w).lookup ("holdings":Str)=some (.ref h):=by
 unfold fH;rw[Zz,if_neg (by decide+kernel),Zz,if_neg (by decide+kernel),Zz,if_neg (by decide+kernel),Zz,if_pos rfl]
theorem Zcg(b t o h r k w:Addr):(fH b t o h r k w).lookup ("run_days":Str)=some (.ref r):=by
 unfold fH;rw[Zz,if_neg (by decide+kernel),Zz,if_neg (by decide+kernel),Zz,if_pos rfl]
theorem ZdV(b t o h r k w:Addr):(fH b t o h r k w).lookup ("taken":Str)=some (.ref k):=by
 unfold fH;rw[Zz,if_neg (by decide+kernel),Zz,if_pos rfl]
theorem Zar(b t o h r k w:Addr):(fH b t o h r k w).lookup ("words":Str)=some (.ref w):=by
 unfold fH;rw[Zz,if_pos rfl]
theorem Je{H H':Hp}(s:∀b xs,H b=some (.tup xs)->H' b=some (.tup xs)):∀{gs:List Gn} {kvs:List (Key×V)},Paired (ZfE H) gs kvs->Paired (ZfE H') gs kvs
 |_,_,.nil=> .nil
 |_,_,.cons ⟨p,e,h⟩ t=> .cons ⟨p,e,s _ _ h⟩ (Je s t)
theorem ZbV{H:Hp}{x y:Addr}{o u:HO}(hx:∃z,H x=some z)(hy:H y=none):x≠y/\upd (upd H y o) x u y=some o/\(∀c v,c≠x->H c=some v->upd (upd H y o) x u c=some v):=by
 obtain⟨z,hx⟩:=hx;have ne:x≠y:=Zn hx hy;refine⟨ne,by rw[Zv (Ne.symm ne),Zc],fun c v nc e=> ?_⟩;rw[Zv nc,Zv (Zn e hy)];exact e
theorem ZiZ:ZX ["self","book"] ["self","book"] (ZG Zda):=⟨rfl,rfl,rfl,by decide+kernel,rfl,by decide+kernel,by decide+kernel⟩
theorem Zj0{f:Addr}{fd:FuncData}(F:Fun K "__init__" "House.__init__" Zda f fd)(T:Txt K mg Zk Zi Zj Zb Zt Zr ZM Zw ZC Zx ZD Ze Zd Zf Zq ZF ZP){C:Addr}(cl:Cls K C)(n_book:YW K C "book")(n_told:YW K C "told")(n_own:YW K C "own")(n_holdings:YW K C "holdings")(n_run_days:YW K C "run_days")(n_taken:YW K C "taken")(n_words:YW K C "words"):Yy P w K mg base CX0 1 f fd ["self","book"] (Zcy C):=by
 refine F.ok ZiZ (fun vs H Q E h=> ?_) (fun cdv A outer s H vs Q E hr h=> ?_)
 ·obtain⟨x,dx,p,ds,rfl,_⟩:=h
  rfl
 ·obtain⟨x,dx,p,ds,rfl,hx,hp,q⟩:=h;refine⟨_,(Zh (Zbz (pv 0) (JQ Zfn (by rfl) T.z_list Zn8 (Za (pv 1) Zm)) rfl) (Zh (Zbz (pv 0) (Yq Zm) rfl) (Zh (Zbz (pv 0) ZbB rfl) (Zh (Zbz (pv 0) (Yq Zm) rfl) (Zh (Zbz (pv 0) (Yq Zm) rfl) (Zh (Zbz (pv 0) ZbB rfl) (Zu (Zbz (pv 0) ZbB rfl)))))))), ?_⟩;refine⟨_,rfl,p,_,rfl,.inl (SqL.of hp),fun b hb=> ?_⟩;have nb:=Zn hx hb;refine⟨_,rfl,x,C,dx,_,rfl,by rw[Zv nb];exact hx,cl,n_book,(by show 0<1000;decide), ?_⟩
  obtain⟨_,kb,f1⟩:=ZbV (o:=.lst ds) (u:=.ins C dx (Yg "book" (.ref b) [])) ⟨_,hx⟩ hb;have x1:upd (upd H b (.lst ds)) x (.ins C dx (Yg "book" (.ref b) [])) x=some (.ins C dx (Yg "book" (.ref b) [])):=Zc;generalize upd (upd H b (.lst ds)) x (.ins C dx (Yg "book" (.ref b) []))=H1 at kb f1 x1
  refine⟨Nat.zero_le _,fun t ht=>⟨_,rfl,x,C,dx,_,rfl,by rw[Zv (Zn x1 ht)];exact x1,cl,n_told,(by show 1<1000;decide), ?_⟩⟩
  obtain⟨nt,kt,f2⟩:=ZbV (o:=.lst []) (u:=.ins C dx (Yg "told" (.ref t) (Yg "book" (.ref b) []))) ⟨_,x1⟩ ht;have x2:upd (upd H1 t (.lst [])) x (.ins C dx (Yg "told" (.ref t) (Yg "book" (.ref b) []))) x=some (.ins C dx (Yg "told" (.ref t) (Yg "book" (.ref b) []))):=Zc;generalize upd (upd H1 t (.lst [])) x (.ins C dx (Yg "told" (.ref t) (Yg "book" (.ref b) [])))=H2 at kt f2 x2
  refine(fun o ho=>⟨_,rfl,x,C,dx,_,rfl,by rw[Zv (Zn x2 ho)];exact x2,cl,n_own,(by show 2<1000;decide), ?_⟩)
  obtain⟨no,ko,f3⟩:=ZbV (o:=.dK []) (u:=.ins C dx (Yg "own" (.ref o) (Yg "told" (.ref t) (Yg "book" (.ref b) [])))) ⟨_,x2⟩ ho;have x3:upd (upd H2 o (.dK [])) x (.ins C dx (Yg "own" (.ref o) (Yg "told" (.ref t) (Yg "book" (.ref b) [])))) x=some (.ins C dx (Yg "own" (.ref o) (Yg "told" (.ref t) (Yg "book" (.ref b) [])))):=Zc;generalize upd (upd H2 o (.dK [])) x (.ins C dx (Yg "own" (.ref o) (Yg "told" (.ref t) (Yg "book" (.ref b) []))))=H3 at ko f3 x3
  refine⟨Nat.zero_le _,fun h hh=>⟨_,rfl,x,C,dx,_,rfl,by rw[Zv (Zn x3 hh)];exact x3,cl,n_holdings,(by show 3<1000;decide), ?_⟩⟩
  obtain⟨nh,kh,f4⟩:=ZbV (o:=.lst []) (u:=.ins C dx (Yg "holdings" (.ref h) (Yg "own" (.ref o) (Yg "told" (.ref t) (Yg "book" (.ref b) []))))) ⟨_,x3⟩ hh;have x4:upd (upd H3 h (.lst [])) x (.ins C dx (Yg "holdings" (.ref h) (Yg "own" (.ref o) (Yg "told" (.ref t) (Yg "book" (.ref b) []))))) x=some (.ins C dx (Yg "holdings" (.ref h) (Yg "own" (.ref o) (Yg "told" (.ref t) (Yg "book" (.ref b) []))))):=Zc
  generalize upd (upd H3 h (.lst [])) x (.ins C dx (Yg "holdings" (.ref h) (Yg "own" (.ref o) (Yg "told" (.ref t) (Yg "book" (.ref b) [])))))=H4 at kh f4 x4
  refine⟨Nat.zero_le _,fun r hr2=>⟨_,rfl,x,C,dx,_,rfl,by rw[Zv (Zn x4 hr2)];exact x4,cl,n_run_days,(by show 4<1000;decide), ?_⟩⟩
  obtain⟨nr,kr,f5⟩:=ZbV (o:=.lst []) (u:=.ins C dx (Yg "run_days" (.ref r) (Yg "holdings" (.ref h) (Yg "own" (.ref o) (Yg "told" (.ref t) (Yg "book" (.ref b) [])))))) ⟨_,x4⟩ hr2;have x5:upd (upd H4 r (.lst [])) x (.ins C dx (Yg "run_days" (.ref r) (Yg "holdings" (.ref h) (Yg "own" (.ref o) (Yg "told" (.ref t) (Yg "book" (.ref b) [])))))) x=some (.ins C dx (Yg "run_days" (.ref r) (Yg "holdings" (.ref h) (Yg "own" (.ref o) (Yg "told" (.ref t) (Yg "book" (.ref b) [])))))):=Zc
  generalize upd (upd H4 r (.lst [])) x (.ins C dx (Yg "run_days" (.ref r) (Yg "holdings" (.ref h) (Yg "own" (.ref o) (Yg "told" (.ref t) (Yg "book" (.ref b) []))))))=H5 at kr f5 x5
  refine(fun k hk=>⟨_,rfl,x,C,dx,_,rfl,by rw[Zv (Zn x5 hk)];exact x5,cl,n_taken,(by show 5<1000;decide), ?_⟩)
  obtain⟨nk,kk_,f6⟩:=ZbV (o:=.dK []) (u:=.ins C dx (Yg "taken" (.ref k) (Yg "run_days" (.ref r) (Yg "holdings" (.ref h) (Yg "own" (.ref o) (Yg "told" (.ref t) (Yg "book" (.ref b) []))))))) ⟨_,x5⟩ hk;have x6:upd (upd H5 k (.dK [])) x (.ins C dx (Yg "taken" (.ref k) (Yg "run_days" (.ref r) (Yg "holdings" (.ref h) (Yg "own" (.ref o) (Yg "told" (.ref t) (Yg "book" (.ref b) []))))))) x=some (.ins C dx (Yg "taken" (.ref k) (Yg "run_days" (.ref r) (Yg "holdings" (.ref h) (Yg "own" (.ref o) (Yg "told" (.ref t) (Yg "book" (.ref b) []))))))):=Zc
  generalize upd (upd H5 k (.dK [])) x (.ins C dx (Yg "taken" (.ref k) (Yg "run_days" (.ref r) (Yg "holdings" (.ref h) (Yg "own" (.ref o) (Yg "told" (.ref t) (Yg "book" (.ref b) [])))))))=H6 at kk_ f6 x6
  refine(fun w hw=>⟨_,rfl,x,C,dx,_,rfl,by rw[Zv (Zn x6 hw)];exact x6,cl,n_words,(by show 6<1000;decide), ?_⟩)
  obtain⟨nw,kw,f7⟩:=ZbV (o:=.dK []) (u:=.ins C dx (fH b t o h r k w)) ⟨_,x6⟩ hw;have up:∀{c:Addr} {v:HO},c≠x->H c=some v->H1 c=some v:=fun n e=>f1 _ _ n e;have b2:=f2 _ _ (Ne.symm nb) kb;have b3:=f3 _ _ (Ne.symm nb) b2;have b4:=f4 _ _ (Ne.symm nb) b3;have b5:=f5 _ _ (Ne.symm nb) b4;have b6:=f6 _ _ (Ne.symm nb) b5;have t3:=f3 _ _ (Ne.symm nt) kt;have t4:=f4 _ _ (Ne.symm nt) t3;have t5:=f5 _ _ (Ne.symm nt) t4
  have t6:=f6 _ _ (Ne.symm nt) t5;have o4:=f4 _ _ (Ne.symm no) ko;have o5:=f5 _ _ (Ne.symm no) o4;have o6:=f6 _ _ (Ne.symm no) o5;have h5:=f5 _ _ (Ne.symm nh) kh;have h6:=f6 _ _ (Ne.symm nh) h5;have r6:=f6 _ _ (Ne.symm nr) kr;have g1:∀{c:Addr},H1 c=none->H c=none:=fun{c} z=>by
   cases e:H c with
   |none=>rfl
   |some v=>
    by_cases cx:c=x
    ·rw[cx,x1] at z;cases z
    ·rw[f1 c v cx e] at z;cases z
  have g2:∀{c:Addr},H2 c=none->H c=none:=fun{c} z=>g1 (by
   cases e:H1 c with
   |none=>rfl
   |some v=>
    by_cases cx:c=x
    ·rw[cx,x2] at z;cases z
    ·rw[f2 c v cx e] at z;cases z)
  have g3:∀{c:Addr},H3 c=none->H c=none:=fun{c} z=>g2 (by
   cases e:H2 c with
   |none=>rfl
   |some v=>
    by_cases cx:c=x
    ·rw[cx,x3] at z;cases z
    ·rw[f3 c v cx e] at z;cases z)
  have g4:∀{c:Addr},H4 c=none->H c=none:=fun{c} z=>g3 (by
   cases e:H3 c with
   |none=>rfl
   |some v=>
    by_cases cx:c=x
    ·rw[cx,x4] at z;cases z
    ·rw[f4 c v cx e] at z;cases z)
  have g5:∀{c:Addr},H5 c=none->H c=none:=fun{c} z=>g4 (by
   cases e:H4 c with
   |none=>rfl
   |some v=>
    by_cases cx:c=x
    ·rw[cx,x5] at z;cases z
    ·rw[f5 c v cx e] at z;cases z)
  have g6:∀{c:Addr},H6 c=none->H c=none:=fun{c} z=>g5 (by
   cases e:H5 c with
   |none=>rfl
   |some v=>
    by_cases cx:c=x
    ·rw[cx,x6] at z;cases z
    ·rw[f6 c v cx e] at z;cases z)
  refine q b t o h r k w _ ?_ ?_ (fun c u nc e=>f7 _ _ nc (f6 _ _ nc (f5 _ _ nc (f4 _ _ nc (f3 _ _ nc (f2 _ _ nc (f1 _ _ nc e))))))) Zc (f7 _ _ (Ne.symm nb) b6) (f7 _ _ (Ne.symm nt) t6) (f7 _ _ (Ne.symm no) o6) (f7 _ _ (Ne.symm nh) h6) (f7 _ _ (Ne.symm nr) r6) (f7 _ _ (Ne.symm nk) kk_) kw
  ·have d1:=Zn kb ht;have d2:=Zn b2 ho;have d3:=Zn b3 hh;have d4:=Zn b4 hr2;have d5:=Zn b5 hk;have d6:=Zn b6 hw;have d7:=Zn kt ho;have d8:=Zn t3 hh;have d9:=Zn t4 hr2;have da:=Zn t5 hk;have db:=Zn t6 hw;have dc:=Zn ko hh;have dd:=Zn o4 hr2;have de:=Zn o5 hk;have df:=Zn o6 hw;have dg:=Zn kh hr2;have dh:=Zn h5 hk;have di:=Zn h6 hw;have dj:=Zn kr hk;have dk:=Zn r6 hw;have dl:=Zn kk_ hw;simp only [List.nodup_cons,List.mem_cons,List.mem_nil_iff,or_false,not_or,List.nodup_nil,not_false_eq_true,and_true]
   exact⟨⟨d1,d2,d3,d4,d5,d6⟩,⟨d7,d8,d9,da,db⟩,⟨dc,dd,de,df⟩,⟨dg,dh,di⟩,⟨dj,dk⟩,dl⟩
  ·intro c hc;simp only [List.mem_cons,List.mem_nil_iff,or_false] at hc
   rcases hc with rfl|rfl|rfl|rfl|rfl|rfl|rfl
   ·exact hb
   ·exact g1 ht
   ·exact g2 ho
   ·exact g3 hh
   ·exact g4 hr2
   ·exact g5 hk
   ·exact g6 hw
theorem Zj1:ZX ["self"] ["self"] (ZG Zdc):=⟨rfl,rfl,rfl,by decide+kernel,rfl,by decide+kernel,by decide+kernel⟩
theorem Zj2{f:Addr}{fd:FuncData}(F:Fun K "rows" "House.rows" Zdc f fd)(T:Txt K mg Zk Zi Zj Zb Zt Zr ZM Zw ZC Zx ZD Ze Zd Zf Zq ZF ZP)(n:Nat):Yy P w K mg base CX0 (0+n+1+1) f fd ["self"] (Zhn Zk Zi Zj Zb (n+1) Zt):=by
 refine F.ok Zj1 (fun vs H Q E h=> ?_) (fun cdv A outer s H vs Q E hr h=> ?_)
 ·obtain⟨a,s,F,rfl,_⟩:=h
  rfl
 ·obtain⟨a,s,F,rfl,_,⟨dx,b,t,o,h,r,k,w,os,kvs,ha,hb,⟨ts,ht,pt⟩,_⟩,q⟩:=h;refine⟨_,(Zu (ZJ (JQ Zfn (by rfl) T.z_list Zn8 (Za (Yp (pv 0) rfl) Zm)))), ?_⟩;refine⟨_,rfl,a,_,dx,_,_,rfl,ha,T.cl_House,T.n_House_told,Znq ..,t,_,rfl,.inl (SqL.of ht),fun L hL=>q L _ hL (Zg hL) ⟨ts,Zc,Yz (Zg hL) pt⟩⟩
theorem Zj3:ZX ["self"] ["self"] (ZG Zdd):=⟨rfl,rfl,rfl,by decide+kernel,rfl,by decide+kernel,by decide+kernel⟩
theorem Zj4{f:Addr}{fd:FuncData}(F:Fun K "gone" "House.gone" Zdd f fd)(T:Txt K mg Zk Zi Zj Zb Zt Zr ZM Zw ZC Zx ZD Ze Zd Zf Zq ZF ZP)(n:Nat):Yy P w K mg base CX0 (0+n+1+1) f fd ["self"] (Zho Zk Zi Zj Zb (n+1) Zt):=by
 refine F.ok Zj3 (fun vs H Q E h=> ?_) (fun cdv A outer s H vs Q E hr h=> ?_)
 ·obtain⟨a,s,F,rfl,_⟩:=h
  rfl
 ·obtain⟨a,s,F,rfl,_,⟨dx,b,t,o,h,r,k,w,os,kvs,ha,_,_,_,_,_,_,hk,pk,_⟩,q⟩:=h;refine⟨_,(Zu (ZJ (JQ ZjZ (by rfl) T.z_dict ZqF (Za (Yp (pv 0) rfl) Zm)))), ?_⟩;exact⟨_,rfl,a,_,dx,_,_,rfl,ha,T.cl_House,T.n_House_taken,ZdV ..,k,_,rfl,.inl hk,fun L hL=>q L _ _ hL (Zg hL) Zc (Je (fun b xs e=>Zg hL _ _ e) pk)⟩
theorem Zq0(w:Rw)(r:Str):(decide (V.str w.word=V.str "hold")&&decide (V.str w.one=V.str r))=Xe r w:=by
 cases w with
 |hold x c n d=>
  show(decide (V.str "hold"=V.str "hold")&&decide (V.str x=V.str r))=decide (x=r);rw[decide_eq_true rfl,Bool.true_and]
  by_cases h:x=r
  ·rw[h,decide_eq_true rfl,decide_eq_true rfl]
  ·rw[decide_eq_false h,decide_eq_false (vne h)]
 |put x s d=>exact(congrArg (fun b=>b&&_) (decide_eq_false (vne Zjs))).trans (Bool.false_and _)
 |move x s d=>exact(congrArg (fun b=>b&&_) (decide_eq_false (vne Zls))).trans (Bool.false_and _)
 |deed x k d=>exact(congrArg (fun b=>b&&_) (decide_eq_false (vne Zlt))).trans (Bool.false_and _)
 |lift h d=>exact(congrArg (fun b=>b&&_) (decide_eq_false (vne Znm))).trans (Bool.false_and _)
theorem ZmJ:ZX ["rows","hold"] ["rows","hold"] (ZG Zgj):=⟨rfl,rfl,rfl,by decide+kernel,rfl,by decide+kernel,by decide+kernel⟩
theorem ZmK{f:Addr}{fd:FuncData}(F:Fun K "is_laid" "is_laid" Zgj f fd)(T:Txt K mg Zk Zi Zj Zb Zt Zr ZM Zw ZC Zx ZD Ze Zd Zf Zq ZF ZP):Yy P w K mg base CX0 1 f fd ["rows","hold"] ZeU:=by
 refine F.ok ZmJ (fun vs H Q E h=> ?_) (fun cdv A outer s H vs Q E hr h=> ?_)
 ·obtain⟨p,ws,r,rfl,_⟩:=h
  rfl
 ·obtain⟨p,ws,r,rfl,⟨ds,hp,pr⟩,lw,q⟩:=h;have l5:=Xd;have le:=Paired.length pr;refine⟨_,(Zu (ZJ (Yb (ZhP rfl) (by rfl) T.z_any Zp4 (Za (Jz ["row"] [("hold",1)] rfl (Xc (pv 0)) (by rfl) (by exact⟨rfl,trivial⟩) (by rfl) (by exact⟨⟨rfl,rfl,rfl⟩,trivial⟩) (fun _ _ _ _=>(Yi (i:=0) (show(nmY ["row"] [("hold",1)]).Nodup by decide+kernel) rfl (Or.inl rfl))) (fun _ _ _ _=>Zd2) (fun _ _ _ _=>(ZjL (Za5 Yu (ZV (XJ (K:=K) rfl) (pv 0) Zo (fun _ _=>rfl)) ZR (ZL _)) (ZlX (Za5 Yu (ZV (XJ (K:=K) rfl) (pv 0) Zo (fun _ _=>rfl)) (pv 1) (ZL _)))))) Zm)))), ?_⟩
  refine⟨_,rfl,p,rfl,⟨_,SqL.of hp⟩,Jk ds.length (fun j=>[((ws[j]?).map fun w=>V.bl (Xe r w)).getD .non]) (by omega) (fun j=>Nat.le_refl 1) (fun j H4 s4 lt=>⟨_,_,SqL.of (s4 _ _ hp),List.getElem?_eq_getElem (by rw[List.length_map];exact lt)⟩) (fun H4 s4=>⟨_,SqL.of (s4 _ _ hp),by rw[List.length_map];exact Nat.le_refl _⟩) (fun j y H4 H5 s4 lt yl RT RF rt rf=> ?_) fun D4 H4 hD4 s4 d4=> ?_⟩
  ·obtain⟨rfl,yl⟩:=yl;obtain⟨d,rfl,ed⟩:=Jm (yl _ (SqL.of (s4 _ _ hp)));obtain⟨w,ew,row⟩:=YS (Yz s4 pr) j d ed;have row:H5 d=some (.tup w.vs):=row;have out:[((ws[j]?).map fun w=>V.bl (Xe r w)).getD .non]=[V.bl (Xe r w)]:=by rw[ew];rfl
   rw[out,<-Zq0] at rt
   refine⟨⟨rfl,trivial⟩, ?_⟩;unfold Zl7;refine Jq (ixT rfl (SqT.of row) (JB w) ⟨rfl,_,rfl,Xg (fun e=> ?_) (fun e=> ?_)⟩)
   ·refine(ixT rfl (SqT.of row) (Zgp w) ⟨_,rfl,rfl,rt _ _ ?_ (ZS.refl _)⟩);rw[e,Bool.true_and]
   ·refine rt _ _ ?_ (ZS.refl _);rw[Bool.eq_false_iff.mpr e,Bool.false_and]
  ·have e6:(List.range ds.length).flatMap (fun j=>[((ws[j]?).map fun w=>V.bl (Xe r w)).getD .non])=(ws.map (Xe r)).map V.bl:=by
    rw[JG,le,Zeg ws (fun w=>V.bl (Xe r w)) .non,List.map_map]
    rfl
   rw[e6] at d4
   refine⟨D4,ws.map (Xe r),rfl,SqL.of d4, ?_⟩;rw[List.any_map];exact q H4 s4
theorem Zh9:ZX ["row"] ["row"] (ZG ZbH):=⟨rfl,rfl,rfl,by decide+kernel,rfl,by decide+kernel,by decide+kernel⟩
theorem Zha{f:Addr}{fd:FuncData}(F:Fun K "series_named" "series_named" ZbH f fd)(T:Txt K mg Zk Zi Zj Zb Zt Zr ZM Zw ZC Zx ZD Ze Zd Zf Zq ZF ZP):Yy P w K mg base CX0 1 f fd ["row"] Zbc:=by
 refine F.ok Zh9 (fun vs H Q E h=> ?_) (fun cdv A outer s H vs Q E hr h=> ?_)
 ·obtain⟨a,w,rfl,_⟩:=h
  rfl
 ·obtain⟨a,w,rfl,ha,q⟩:=h;refine⟨_,(Zh (Yj (Zy ZaB (ZV ZZ (pv 0) Zo (fun _ _=>rfl)) (YX (Za ZR (Za ZR Zm))) rfl) (Zu (ZJ (Yq (Za (ZV ZZ (pv 0) Zo (fun _ _=>rfl)) Zm)))) ZW) (Zh (Yj (PW.pt (Jx (Zy Yu (ZV ZZ (pv 0) Zo (fun _ _=>rfl)) ZR (ZL _)) (XH (Zy Yu (ZV ZZ (pv 0) Zo (fun _ _=>rfl)) ZR (ZL _))))) (Zu (ZJ (Yq (Za (ZV ZZ (pv 0) Zo (fun _ _=>rfl)) Zm)))) ZW) (Zu (ZJ (Yq Zm))))), ?_⟩;have ha:H a=some (.tup w.vs):=ha
  refine(ixT rfl (SqT.of ha) (JB w) ⟨show 2<=sizeLine from sl,fun t ht=>⟨t,_,rfl,.inr (SqT.of Zc),rfl,rfl,_,rfl, ?_⟩⟩);have st:=Zg ht (o:=.tup [.str "put",.str "move"]);have ha1:=st _ _ ha;generalize upd H t (.tup [.str "put",.str "move"])=H1 at st ha1
  have one:∀z:Str,∀L,H1 L=none->YF w=[z]->Q (.ref L) (upd H1 L (.lst [.str z])):=fun z L hL e=>q L _ (Xu st hL) (st.trans (Zg hL)) (by rw[Zc,e];rfl)
  have zero:∀L,H1 L=none->YF w=[]->Q (.ref L) (upd H1 L (.lst [])):=fun L hL e=>q L _ (Xu st hL) (st.trans (Zg hL)) (by rw[Zc,e];rfl)
  cases w with
  |put x s d=>
   have ha1:H1 a=some (.tup [.str "put",.str x,.str s,.int d]):=ha1;show if inV (.str "put") [.str "put",.str "move"]=true then _ else _;rw[Zhq];exact Jq (ixT rfl (SqT.of ha1) rfl ⟨show 1<=sizeLine from sl,fun L hL=>one s L hL rfl⟩)
  |move x s d=>
   have ha1:H1 a=some (.tup [.str "move",.str x,.str s,.int d]):=ha1;show if inV (.str "move") [.str "put",.str "move"]=true then _ else _;rw[ZfH];exact Jq (ixT rfl (SqT.of ha1) rfl ⟨show 1<=sizeLine from sl,fun L hL=>one s L hL rfl⟩)
  |deed x k d=>
   have ha1:H1 a=some (.tup [.str "deed",.str x,.str k,.int d]):=ha1;show if inV (.str "deed") [.str "put",.str "move"]=true then _ else _;rw[Zbd Zrn Zro];exact Yw (ixT rfl (SqT.of ha1) rfl ⟨rfl,_,rfl,Xj (vne Zlt) (Yw ⟨Nat.zero_le _,fun L hL=>zero L hL rfl⟩)⟩)
  |lift h d=>
   have ha1:H1 a=some (.tup [.str "lift",.str h,.int d]):=ha1;show if inV (.str "lift") [.str "put",.str "move"]=true then _ else _;rw[Zbd Zlr Znl];exact Yw (ixT rfl (SqT.of ha1) rfl ⟨rfl,_,rfl,Xj (vne Znm) (Yw ⟨Nat.zero_le _,fun L hL=>zero L hL rfl⟩)⟩)
  |hold h c n d=>
   have ha1:H1 a=some (.tup [.str "hold",.str h,.str (onW c),.str n,.int d]):=ha1;show if inV (.str "hold") [.str "put",.str "move"]=true then _ else _;rw[Zbd Zjs Zls];cases c with
   |true=>exact Yw (ixT rfl (SqT.of ha1) rfl ⟨rfl,_,rfl,Zam rfl (ixT rfl (SqT.of ha1) rfl ⟨rfl,_,rfl,Xj (vne (show¬Str.ofString "record"=Str.ofString "series" by decide+kernel)) ⟨Nat.zero_le _,fun L hL=>zero L hL rfl⟩⟩)⟩)
   |false=>exact Yw (ixT rfl (SqT.of ha1) rfl ⟨rfl,_,rfl,Zam rfl (ixT rfl (SqT.of ha1) rfl ⟨rfl,_,rfl,Zam rfl (ixT rfl (SqT.of ha1) rfl ⟨show 1<=sizeLine from sl,fun L hL=>one n L hL rfl⟩)⟩)⟩)
def Zch(cn ca cl ce:Addr)(n:Nat)(C:Addr):Sp:=fun vs H Q _=>∃(a d:Addr) (w:Rw) (s:Hs) (F:List Addr),vs=[.ref a,.ref d]/\0<n/\Yh cn ca cl ce C H a s F/\ZbP H d w/\s.ws.length<=900/\
 ∀H' F',ZeT F H H'->(∀b∈F',b∈F\/H b=none)->(∀b∈F,b∈F')->Yh cn ca cl ce C H' a {s with ws:=s.ws++[w]} F'->Q .non H'
theorem Zj5{cn ca cl ce C:Addr}:∀vs H Q E,¬Zch cn ca cl ce 0 C vs H Q E:=fun _ _ _ _ ⟨_,_,_,_,_,_,z,_⟩=>Nat.lt_irrefl 0 z
theorem Zgr:∀{os:List (Str×Addr)},(os.map (·.1)).Nodup->∀x∈os,YK (okv os) (Sum.inr x.1)=some (.ref x.2)
 |[],_,x,h=>nomatch h
 |y::os,nd,x,h=>by
  rw[List.map_cons] at nd
  obtain⟨off,rest⟩:=List.nodup_cons.mp nd;cases h with
  |head=>exact YH rfl
  |tail _ m=>
   have ne:¬(Sum.inr y.1:Key)=Sum.inr x.1:=fun z=>off (List.mem_map.mpr ⟨x,m,by injection z with z;exact z.symm⟩)
   exact(YC (p:=(Sum.inr y.1,V.ref y.2)) ne).trans (Zgr rest x m)
theorem Zhr:∀{os:List (Str×Addr)} {r:Str},r∉os.map (·.1)->YK (okv os) (Sum.inr r)=none
 |[],_,_=>rfl
 |y::os,r,h=>by
  rw[List.map_cons,List.mem_cons] at h
  have ne:¬(Sum.inr y.1:Key)=Sum.inr r:=fun z=>h (.inl (by injection z with z;exact z.symm))
  exact(YC (p:=(Sum.inr y.1,V.ref y.2)) ne).trans (Zhr fun z=>h (.inr z))
theorem Zr4{os:List (Str×Addr)}{r:Str}{l:Addr}(h:r∉os.map (·.1)):JF (okv os) (Sum.inr r) (.ref l)=okv (os++[(r,l)]):=by
 unfold JF;rw[Zak,Zhr h,if_neg (by exact Bool.false_ne_true)];unfold okv;rw[List.map_append]
 rfl
theorem ZaZ{ws:List Rw}{w:Rw}{r:Str}:YQ (ws++[w]) r=YQ ws r++(if Zaz r w=true then[w] else[]):=by
 unfold YQ;rw[List.filter_append]
 congr 1
 by_cases h:Zaz r w=true
 ·rw[if_pos h,List.filter_cons_of_pos h]
  rfl
 ·rw[if_neg h,List.filter_cons_of_neg h]
  rfl
theorem Znr{ws:List Rw}{w:Rw}:(ws++[w]).filter Za0=ws.filter Za0++(if Za0 w=true then[w] else[]):=by
 rw[List.filter_append]
 congr 1
 by_cases h:Za0 w=true
 ·rw[if_pos h,List.filter_cons_of_pos h]
  rfl
 ·rw[if_neg h,List.filter_cons_of_neg h]
  rfl
theorem Zkt(w:Rw):(Za0 w=true/\∀r,Zaz r w=false)\/(Za0 w=false/\∀r,Zaz r w=decide (w.one=r)):=by
 cases w with
 |put x s d=>exact .inr ⟨rfl,fun r=>rfl⟩
 |move x s d=>exact .inr ⟨rfl,fun r=>rfl⟩
 |deed x s d=>exact .inr ⟨rfl,fun r=>rfl⟩
 |lift x d=>exact .inl ⟨rfl,fun r=>rfl⟩
 |hold x c n d=>exact .inl ⟨rfl,fun r=>rfl⟩
def Zjv(H:Hp)(F:List Addr):Prop:=∀c∈F,(∃xs,H c=some (.lst xs))\/∃kv,H c=some (.dK kv)
theorem Zjv.tup{H H':Hp}{F:List Addr}(h:Zjv H F)(kp:ZeT F H H')(c:Addr)(xs:List V)(e:H c=some (.tup xs)):H' c=some (.tup xs):=kp c _ (fun m=>by
 rcases h c m with ⟨_,z⟩|⟨_,z⟩<;>rw[z] at e<;>cases e) e
theorem Zjv.ins{H H':Hp}{F:List Addr}(h:Zjv H F)(kp:ZeT F H H')(c C dx:Addr)(fs:List (Str×V))(e:H c=some (.ins C dx fs)):H' c=some (.ins C dx fs):=kp c _ (fun m=>by
 rcases h c m with ⟨_,z⟩|⟨_,z⟩<;>rw[z] at e<;>cases e) e
theorem Xm{H H':Hp}(s:∀b xs,H b=some (.tup xs)->H' b=some (.tup xs)):∀{ds:List Addr} {ws:List Rw},Paired (ZbP H) ds ws->Paired (ZbP H') ds ws
 |_,_,.nil=> .nil
 |_,_,.cons h t=> .cons (s _ _ h) (Xm s t)
theorem ZgS{H:Hp}{t o h r k w:Addr}{os:List (Str×Addr)}{ws hs:List Rw}{rn:List V}{ko kk_ kw:List (Key×V)}(ht:Xb H t ws)(ho:H o=some (.dK ko))(oa:∀x∈os,∃us,Xb H x.2 us)(hh:Xb H h hs)(hr:H r=some (.lst rn))(hk:H k=some (.dK kk_))(hw:H w=some (.dK kw)):Zjv H (t::o::h::r::k::w::os.map (·.2)):=fun c hc=>by
 simp only [List.mem_cons] at hc
 rcases hc with rfl|rfl|rfl|rfl|rfl|rfl|m
 ·obtain⟨ds,e,_⟩:=ht;exact .inl ⟨_,e⟩
 ·exact .inr ⟨_,ho⟩
 ·obtain⟨ds,e,_⟩:=hh;exact .inl ⟨_,e⟩
 ·exact .inl ⟨_,hr⟩
 ·exact .inr ⟨_,hk⟩
 ·exact .inr ⟨_,hw⟩
 ·obtain⟨x,hx,rfl⟩:=List.mem_map.mp m;obtain⟨us,ds,e,_⟩:=oa x hx;exact .inl ⟨_,e⟩
theorem Zes{cn ca cl ce:Addr}{H H':Hp}{p:Addr}{rs:List Sr}(s1:∀b xs,H b=some (.tup xs)->H' b=some (.tup xs))(s2:∀b C dx fs,H b=some (.ins C dx fs)->H' b=some (.ins C dx fs))(s3:∀u,H p=some u->H' p=some u):ZfC cn ca cl ce H p rs->ZfC cn ca cl ce H' p rs
 |⟨ds,h,t⟩=>⟨ds,s3 _ h,Zeq s1 s2 t⟩
theorem Zet{α β:Type}:∀{os:List (α×β)} {x y:α×β},(os.map (·.1)).Nodup->x∈os->y∈os->x.1=y.1->x=y
 |z::os,x,y,nd,hx,hy,e=>by
  rw[List.map_cons] at nd
  obtain⟨off,rest⟩:=List.nodup_cons.mp nd;cases hx with
  |head=>
   cases hy with
   |head=>rfl
   |tail _ my=>exact absurd (List.mem_map.mpr ⟨y,my,e.symm⟩) off
  |tail _ mx=>
   cases hy with
   |head=>exact absurd (List.mem_map.mpr ⟨x,mx,e⟩) off
   |tail _ my=>exact Zet rest mx my e
theorem Zjw{α β:Type}:∀{os:List (α×β)} {x y:α×β},(os.map (·.2)).Nodup->x∈os->y∈os->x.2=y.2->x=y
 |z::os,x,y,nd,hx,hy,e=>by
  rw[List.map_cons] at nd
  obtain⟨off,rest⟩:=List.nodup_cons.mp nd;cases hx with
  |head=>
   cases hy with
   |head=>rfl
   |tail _ my=>exact absurd (List.mem_map.mpr ⟨y,my,e.symm⟩) off
  |tail _ mx=>
   cases hy with
   |head=>exact absurd (List.mem_map.mpr ⟨x,mx,e⟩) off
   |tail _ my=>exact Zjw rest mx my e
theorem Zr5{H:Hp}{os:List (Str×Addr)}{ws:List Rw}(oa:ZpL H os ws):os.length<=ws.length:=by
 have sub:∀r∈os.map (·.1),r∈ws.map Rw.one:=fun r hr=>by
  obtain⟨w,hw⟩:=List.exists_mem_of_ne_nil _ ((oa.mem r).mp hr);obtain⟨h1,h2⟩:=List.mem_filter.mp hw;refine List.mem_map.mpr ⟨w,h1, ?_⟩;rcases Zkt w with ⟨_,no⟩|⟨_,yes⟩
  ·rw[no r] at h2;cases h2
  ·rw[yes r] at h2;exact of_decide_eq_true h2
 have:=oa.one.length_le_of_subset sub
 rwa [List.length_map,List.length_map] at this
theorem ZfL:ZX ["self","row"] ["self","row"] (ZG ZaE):=⟨rfl,rfl,rfl,by decide+kernel,rfl,by decide+kernel,by decide+kernel⟩
theorem ZfM{f:Addr}{fd:FuncData}(F:Fun K "keep_row" "House.keep_row" ZaE f fd)(T:Txt K mg Zk Zi Zj Zb Zt Zr ZM Zw ZC Zx ZD Ze Zd Zf Zq ZF ZP)(n:Nat):Yy P w K mg base CX0 (0+n+1+1) f fd ["self","row"] (Zch Zk Zi Zj Zb (n+1) Zt):=by
 refine F.ok ZfL (fun vs H Q E h=> ?_) (fun cdv A outer s H vs Q E hr h=> ?_)
 ·obtain⟨a,d,w,s,F,rfl,_⟩:=h
  rfl
 ·obtain⟨a,d,w,s,F,rfl,_,⟨dx,b,t,o,h,r,k,wd,os,kvs,ha,hb,⟨ts,ht,pt⟩,ho,oa,⟨hs,hh,ph⟩,hr',hk,pk,hw,rfl,nd,nb⟩,hd,ls,q⟩:=h;have l5:=Xd;have hd:H d=some (.tup w.vs):=hd;have ki:=ZgS ⟨ts,ht,pt⟩ ho (fun x hx=>⟨_,oa.at_ x hx⟩) ⟨hs,hh,ph⟩ hr' hk hw;have lt:=Paired.length pt;refine⟨_,(Zh (Xv (Zaj PySem.F.plainAttrs_list PySem.F.slot_list_append PySem.F.type_list_append Xa (Yp (pv 0) rfl) (Za (pv 1) Zm))) (Zu (Yj (Zy ZaB (ZV ZZ (pv 1) Zo (fun _ _=>rfl)) (YX (Za ZR (Za ZR Zm))) rfl) (Zu (Xv (Zaj PySem.F.plainAttrs_list PySem.F.slot_list_append PySem.F.type_list_append Xa (Yp (pv 0) rfl) (Za (pv 1) Zm)))) (Zu (Xv (Zaj PySem.F.plainAttrs_list PySem.F.slot_list_append PySem.F.type_list_append Xa (Zo1 (Yp (pv 0) rfl) (ZV ZZ (pv 1) Zo (fun _ _=>rfl)) (Yq Zm) ⟨rfl,rfl,rfl,rfl⟩) (Za (pv 1) Zm))))))), ?_⟩
  refine⟨_,rfl,a,_,dx,_,_,rfl,ha,T.cl_House,T.n_House_told,Znq ..,.inl ⟨rfl,_,SqL.of ht⟩,_,rfl,t,_,V.ref d,rfl,rfl,ht,by rw[List.length_map];omega, ?_⟩
  have k1:∀c u,c≠t->H c=some u->upd H t (.lst (ts.map V.ref++[.ref d])) c=some u:=fun c u n e=>by rw[Zv n];exact e
  have t1:upd H t (.lst (ts.map V.ref++[.ref d])) t=some (.lst ((ts++[d]).map V.ref)):=by rw[Zc,List.map_append];rfl
  generalize upd H t (.lst (ts.map V.ref++[.ref d]))=H1 at k1 t1
  have kn:∀c u,(∀xs,u≠.lst xs)->H c=some u->H1 c=some u:=fun c u n e=>k1 c u (fun z=>by rw[z,ht] at e;exact n _ (Option.some.inj e).symm) e
  have hd1:=kn d (.tup w.vs) (fun _ z=>nomatch z) hd;have ha1:=kn a (.ins Zt dx (fH b t o h r k wd)) (fun _ z=>nomatch z) ha;refine(ixT rfl (SqT.of hd1) (JB w) ⟨show 2<=sizeLine from sl,fun tt htt=>⟨tt,_,rfl,.inr (SqT.of Zc),rfl,rfl,_,rfl, ?_⟩⟩);have st:=Zg htt (o:=.tup [.str "hold",.str "lift"]);have k2:∀c u,c≠t->H c=some u->upd H1 tt (.tup [.str "hold",.str "lift"]) c=some u:=fun c u n e=>st _ _ (k1 c u n e)
  have t2:=st _ _ t1;have n2:∀{c:Addr},upd H1 tt (.tup [.str "hold",.str "lift"]) c=none->H c=none:=fun{c} z=>by
   cases e:H c with
   |none=>rfl
   |some u=>
    by_cases ct:c=t
    ·rw[ct,t2] at z;cases z
    ·rw[k2 c u ct e] at z;cases z
  have hd2:=st _ _ hd1;have ha2:=st _ _ ha1;generalize upd H1 tt (.tup [.str "hold",.str "lift"])=H2 at k2 t2 n2 hd2 ha2
  simp only [List.nodup_cons,List.mem_cons,not_or] at nd
  obtain⟨⟨nto,nth,ntr,ntk,ntw,nts⟩,⟨noh,nor,nok,now_,nos⟩,⟨nhr,nhk,nhw,nhs⟩,⟨nrk,nrw,nrs⟩,⟨nkw,nks⟩,nws,ndo⟩:=nd;simp only [List.mem_cons,not_or] at nb
  obtain⟨nbt,nbo,nbh,nbr,nbk,nbw,nbs⟩:=nb;have ho2:=k2 _ _ (Ne.symm nto) ho;have hh2:=k2 _ _ (Ne.symm nth) hh;have hr2:=k2 _ _ (Ne.symm ntr) hr';have hk2:=k2 _ _ (Ne.symm ntk) hk;have hw2:=k2 _ _ (Ne.symm ntw) hw;have lh:=Paired.length ph;have lh2:(s.ws.filter Za0).length<=s.ws.length:=List.length_filter_le _ _;rcases Zkt w with ⟨hl,no⟩|⟨hl,ow⟩
  ·have inn:inV (.str w.word) [.str "hold",.str "lift"]=true:=by
    cases w with
    |hold x c n d=>exact Zhq _ _
    |lift x d=>exact ZfH _ _
    |_=>cases hl
   refine(show(if inV (.str w.word) [.str "hold",.str "lift"]=true then _ else _) from ?_);rw[inn];refine Jq ⟨_,rfl,a,_,dx,_,_,rfl,ha2,T.cl_House,T.n_House_holdings,Zcf ..,.inl ⟨rfl,_,SqL.of hh2⟩,_,rfl,h,_,V.ref d,rfl,rfl,hh2,by rw[List.length_map];omega, ?_⟩
   have k3:∀c u,c≠t->c≠h->H c=some u->upd H2 h (.lst (hs.map V.ref++[.ref d])) c=some u:=fun c u n1 n2 e=>by rw[Zv n2];exact k2 c u n1 e
   have h3:upd H2 h (.lst (hs.map V.ref++[.ref d])) h=some (.lst ((hs++[d]).map V.ref)):=by rw[Zc,List.map_append];rfl
   have t3:upd H2 h (.lst (hs.map V.ref++[.ref d])) t=some (.lst ((ts++[d]).map V.ref)):=by rw[Zv nth];exact t2
   have hd3:upd H2 h (.lst (hs.map V.ref++[.ref d])) d=some (.tup w.vs):=by rw[Zv (Yt hd2 hh2 (fun z=>nomatch z))];exact hd2
   generalize upd H2 h (.lst (hs.map V.ref++[.ref d]))=H3 at k3 h3 t3 hd3
   have kp:ZeT (t::o::h::r::k::wd::os.map (·.2)) H H3:=fun c u m e=>k3 c u (fun z=>m (by rw[z];exact List.mem_cons_self ..)) (fun z=>m (by rw[z];simp)) e
   have kt:=ki.tup kp;refine q H3 _ kp (fun b hb=> .inl hb) (fun b hb=>hb) ⟨dx,b,t,o,h,r,k,wd,os,kvs,ki.ins kp _ _ _ _ ha,Zes kt (fun b C dx fs e=>ki.ins kp _ _ _ _ e) (fun u e=>k3 _ _ nbt nbh e) hb,⟨ts++[d],t3,Paired.snoc (Xm kt pt) hd3⟩,k3 _ _ (Ne.symm nto) noh ho,⟨oa.one,fun r=> ?_,fun x hx=> ?_⟩,⟨hs++[d],h3, ?_⟩,k3 _ _ (Ne.symm ntr) (Ne.symm nhr) hr',k3 _ _ (Ne.symm ntk) (Ne.symm nhk) hk,Je kt pk,k3 _ _ (Ne.symm ntw) (Ne.symm nhw) hw,rfl, ?_, ?_⟩
   ·rw[ZaZ,no r,if_neg Bool.false_ne_true,List.append_nil];exact oa.mem r
   ·obtain⟨us,e,pu⟩:=oa.at_ x hx;rw[ZaZ,no x.1,if_neg Bool.false_ne_true,List.append_nil];exact⟨us,k3 _ _ (fun z=>nts (by rw[<-z];exact List.mem_map_of_mem hx)) (fun z=>nhs (by rw[<-z];exact List.mem_map_of_mem hx)) e,Xm kt pu⟩
   ·rw[Znr,if_pos hl];exact Paired.snoc (Xm kt ph) hd3
   ·simp only [List.nodup_cons,List.mem_cons,not_or];exact⟨⟨nto,nth,ntr,ntk,ntw,nts⟩,⟨noh,nor,nok,now_,nos⟩,⟨nhr,nhk,nhw,nhs⟩,⟨nrk,nrw,nrs⟩,⟨nkw,nks⟩,nws,ndo⟩
   ·simp only [List.mem_cons,not_or];exact⟨nbt,nbo,nbh,nbr,nbk,nbw,nbs⟩
  ·have out:inV (.str w.word) [.str "hold",.str "lift"]=false:=by
    cases w with
    |put x s d=>exact Zbd Zrr Zrq
    |move x s d=>exact Zbd Ztk Zti
    |deed x s d=>exact Zbd Ztl Ztj
    |_=>cases hl
   refine(show(if inV (.str w.word) [.str "hold",.str "lift"]=true then _ else _) from ?_);rw[out];have hl2:∀{ws:List Rw},(ws++[w]).filter Za0=ws.filter Za0:=fun{ws}=>by rw[Znr,if_neg (by rw[hl];exact Bool.false_ne_true),List.append_nil]
   have los:os.length<=s.ws.length:=Zr5 oa;refine Yw ⟨_,rfl,a,_,dx,_,_,rfl,ha2,T.cl_House,T.n_House_own,Zif ..,o,rfl,.inl ⟨_,.inl ho2⟩,ixT rfl (SqT.of hd2) (Zgp w) ⟨Nat.zero_le _,fun l hl0=> ?_⟩⟩;have sl0:=Zg hl0 (o:=.lst []);have k3:∀c u,c≠t->H c=some u->upd H2 l (.lst []) c=some u:=fun c u n e=>sl0 _ _ (k2 c u n e);have t3:=sl0 _ _ t2;have hd3:=sl0 _ _ hd2;have l3:upd H2 l (.lst []) l=some (.lst []):=Zc
   have nl:H l=none:=n2 hl0;generalize upd H2 l (.lst [])=H3 at k3 t3 hd3 l3
   have ho3:=k3 _ _ (Ne.symm nto) ho;refine⟨okv os,Sum.inr w.one,ho3,by unfold okv;rw[List.length_map];omega,rfl,fun v ev=> ?_,fun ev=> ?_⟩
   ·obtain⟨x,hx,x1⟩:∃x∈os,x.1=w.one:=by
     by_cases m:w.one∈os.map (·.1)
     ·obtain⟨x,hx,e⟩:=List.mem_map.mp m;exact⟨x,hx,e⟩
     ·rw[Zhr m] at ev
      cases ev
    rw[<-x1,Zgr oa.one x hx] at ev
    obtain rfl:=Option.some.inj ev;obtain⟨us,hu,pu⟩:=oa.at_ x hx;have xt:x.2≠t:=fun z=>nts (by rw[<-z];exact List.mem_map_of_mem hx)
    have hu3:=k3 _ _ xt hu;have lu:=Paired.length pu;have lu2:(YQ s.ws x.1).length<=s.ws.length:=List.length_filter_le _ _;refine⟨.inl ⟨rfl,_,SqL.of hu3⟩,_,rfl,x.2,_,V.ref d,rfl,rfl,hu3,by rw[List.length_map];omega, ?_⟩
    have k4:∀c u,c≠t->c≠x.2->H c=some u->upd H3 x.2 (.lst (us.map V.ref++[.ref d])) c=some u:=fun c u n1 n2 e=>by rw[Zv n2];exact k3 c u n1 e
    have u4:upd H3 x.2 (.lst (us.map V.ref++[.ref d])) x.2=some (.lst ((us++[d]).map V.ref)):=by rw[Zc,List.map_append];rfl
    have t4:upd H3 x.2 (.lst (us.map V.ref++[.ref d])) t=some (.lst ((ts++[d]).map V.ref)):=by rw[Zv (Ne.symm xt)];exact t3
    have hd4:upd H3 x.2 (.lst (us.map V.ref++[.ref d])) d=some (.tup w.vs):=by rw[Zv (Yt hd3 hu3 (fun z=>nomatch z))];exact hd3
    generalize upd H3 x.2 (.lst (us.map V.ref++[.ref d]))=H4 at k4 u4 t4 hd4
    have mx:x.2∈os.map (·.2):=List.mem_map_of_mem hx;have kp:ZeT (t::o::h::r::k::wd::os.map (·.2)) H H4:=fun c u m e=>k4 c u (fun z=>m (by rw[z];exact List.mem_cons_self ..)) (fun z=>m (by rw[z];simp only [List.mem_cons];exact .inr (.inr (.inr (.inr (.inr (.inr mx))))))) e
    have kt:=ki.tup kp;have ne:∀{c:Addr},c∉os.map (·.2)->c≠x.2:=fun m z=>m (by rw[z];exact mx)
    refine q H4 _ kp (fun b hb=> .inl hb) (fun b hb=>hb) ⟨dx,b,t,o,h,r,k,wd,os,kvs,ki.ins kp _ _ _ _ ha,Zes kt (fun b C dx fs e=>ki.ins kp _ _ _ _ e) (fun u e=>k4 _ _ nbt (ne nbs) e) hb,⟨ts++[d],t4,Paired.snoc (Xm kt pt) hd4⟩,k4 _ _ (Ne.symm nto) (ne nos) ho,⟨oa.one,fun r=> ?_,fun y hy=> ?_⟩,⟨hs,k4 _ _ (Ne.symm nth) (ne nhs) hh,by rw[hl2];exact Xm kt ph⟩,k4 _ _ (Ne.symm ntr) (ne nrs) hr',k4 _ _ (Ne.symm ntk) (ne nks) hk,Je kt pk,k4 _ _ (Ne.symm ntw) (ne nws) hw,rfl, ?_, ?_⟩
    ·rw[ZaZ,ow r]
     by_cases z:w.one=r
     ·rw[if_pos (decide_eq_true z),<-z,<-x1];exact⟨fun _ y=>(List.append_ne_nil_of_right_ne_nil _ (List.cons_ne_nil _ _)) y,fun _=>List.mem_map_of_mem hx⟩
     ·rw[if_neg (by rw[decide_eq_false z];exact Bool.false_ne_true),List.append_nil]
      exact oa.mem r
    ·obtain⟨vs,ev2,pv⟩:=oa.at_ y hy;rw[ZaZ,ow y.1]
     by_cases z:w.one=y.1
     ·obtain rfl:x=y:=Zet oa.one hx hy (x1.trans z);rw[if_pos (decide_eq_true z)];exact⟨us++[d],u4,Paired.snoc (Xm kt pu) hd4⟩
     ·rw[if_neg (by rw[decide_eq_false z];exact Bool.false_ne_true),List.append_nil]
      exact⟨vs,k4 _ _ (fun q=>nts (by rw[<-q];exact List.mem_map_of_mem hy)) (fun q=>z (by rw[<-x1,Zjw ndo hx hy q.symm])) ev2,Xm kt pv⟩
    ·simp only [List.nodup_cons,List.mem_cons,not_or];exact⟨⟨nto,nth,ntr,ntk,ntw,nts⟩,⟨noh,nor,nok,now_,nos⟩,⟨nhr,nhk,nhw,nhs⟩,⟨nrk,nrw,nrs⟩,⟨nkw,nks⟩,nws,ndo⟩
    ·simp only [List.mem_cons,not_or];exact⟨nbt,nbo,nbh,nbr,nbk,nbw,nbs⟩
   ·have m:w.one∉os.map (·.1):=fun z=>by
     obtain⟨x,hx,e⟩:=List.mem_map.mp z;rw[<-e,Zgr oa.one x hx] at ev
     cases ev
    rw[Zr4 m];have lo:l≠o:=Ne.symm (Zn ho nl);have lt_:l≠t:=Ne.symm (Zn ht nl);have l4:upd H3 o (.dK (okv (os++[(w.one,l)]))) l=some (.lst []):=by rw[Zv lo];exact l3
    refine⟨.inl ⟨rfl,_,SqL.of l4⟩,_,rfl,l,[],V.ref d,rfl,rfl,l4,by show 0<sizeLine;omega, ?_⟩
    have k4:∀c u,c≠t->c≠o->H c=some u->upd (upd H3 o (.dK (okv (os++[(w.one,l)])))) l (.lst [.ref d]) c=some u:=fun c u n1 n2 e=>by rw[Zv (Zn e nl),Zv n2];exact k3 c u n1 e
    have l5':upd (upd H3 o (.dK (okv (os++[(w.one,l)])))) l (.lst [.ref d]) l=some (.lst ([d].map V.ref)):=Zc;have o5:upd (upd H3 o (.dK (okv (os++[(w.one,l)])))) l (.lst [.ref d]) o=some (.dK (okv (os++[(w.one,l)]))):=by rw[Zv (Ne.symm lo),Zc]
    have t5:upd (upd H3 o (.dK (okv (os++[(w.one,l)])))) l (.lst [.ref d]) t=some (.lst ((ts++[d]).map V.ref)):=by rw[Zv (Ne.symm lt_),Zv nto];exact t3
    have hd5:upd (upd H3 o (.dK (okv (os++[(w.one,l)])))) l (.lst [.ref d]) d=some (.tup w.vs):=by rw[Zv (Zn hd nl),Zv (Yt hd3 ho3 (fun z=>nomatch z))];exact hd3
    show Q .non (upd (upd H3 o (.dK (okv (os++[(w.one,l)])))) l (.lst [.ref d]));generalize upd (upd H3 o (.dK (okv (os++[(w.one,l)])))) l (.lst [.ref d])=H5 at k4 l5' o5 t5 hd5
    have kp:ZeT (t::o::h::r::k::wd::os.map (·.2)) H H5:=fun c u m e=>k4 c u (fun z=>m (by rw[z];exact List.mem_cons_self ..)) (fun z=>m (by rw[z];simp)) e
    have kt:=ki.tup kp;have fre:∀{c:Addr} {u:HO},H c=some u->c≠l:=fun e=>Zn e nl;refine q H5 (t::o::h::r::k::wd::(os++[(w.one,l)]).map (·.2)) kp (fun c hc=> ?_) (fun c hc=>by simp only [List.map_append,List.mem_cons,List.mem_append] at hc⊢;rcases hc with z|z|z|z|z|z|z<;>simp[z]) ⟨dx,b,t,o,h,r,k,wd,os++[(w.one,l)],kvs,ki.ins kp _ _ _ _ ha,Zes kt (fun b C dx fs e=>ki.ins kp _ _ _ _ e) (fun u e=>k4 _ _ nbt nbo e) hb,⟨ts++[d],t5,Paired.snoc (Xm kt pt) hd5⟩,o5,⟨?_,fun r=> ?_,fun y hy=> ?_⟩,⟨hs,k4 _ _ (Ne.symm nth) (Ne.symm noh) hh,by rw[hl2];exact Xm kt ph⟩,k4 _ _ (Ne.symm ntr) (Ne.symm nor) hr',k4 _ _ (Ne.symm ntk) (Ne.symm nok) hk,Je kt pk,k4 _ _ (Ne.symm ntw) (Ne.symm now_) hw,rfl, ?_, ?_⟩
    ·simp only [List.map_append,List.map_cons,List.map_nil,List.mem_cons,List.mem_append,List.mem_nil_iff,or_false] at hc⊢
     rcases hc with z|z|z|z|z|z|z|z
     ·exact .inl (.inl z)
     ·exact .inl (.inr (.inl z))
     ·exact .inl (.inr (.inr (.inl z)))
     ·exact .inl (.inr (.inr (.inr (.inl z))))
     ·exact .inl (.inr (.inr (.inr (.inr (.inl z)))))
     ·exact .inl (.inr (.inr (.inr (.inr (.inr (.inl z))))))
     ·exact .inl (.inr (.inr (.inr (.inr (.inr (.inr z))))))
     ·exact .inr (by rw[z];exact nl)
    ·rw[List.map_append];exact List.nodup_append.mpr ⟨oa.one,by simp,fun x hx y hy z=>m (by have e:y=w.one:=List.mem_singleton.mp hy;rw[<-e,<-z];exact hx)⟩
    ·rw[ZaZ,ow r,List.map_append,List.mem_append,List.map_singleton,List.mem_singleton]
     by_cases z:w.one=r
     ·rw[if_pos (decide_eq_true z)];exact⟨fun _ y=>(List.append_ne_nil_of_right_ne_nil _ (List.cons_ne_nil _ _)) y,fun _=> .inr z.symm⟩
     ·rw[if_neg (by rw[decide_eq_false z];exact Bool.false_ne_true),List.append_nil]
      exact⟨fun y=>y.elim (oa.mem r).mp fun e=>absurd e.symm z,fun y=> .inl ((oa.mem r).mpr y)⟩
    ·rw[ZaZ,ow y.1];rcases List.mem_append.mp hy with old|new
     ·have z:¬w.one=y.1:=fun z=>m (by rw[z];exact List.mem_map_of_mem old)
      obtain⟨vs,ev2,pv⟩:=oa.at_ y old;rw[if_neg (by rw[decide_eq_false z];exact Bool.false_ne_true),List.append_nil]
      exact⟨vs,k4 _ _ (fun q=>nts (by rw[<-q];exact List.mem_map_of_mem old)) (fun q=>nos (by rw[<-q];exact List.mem_map_of_mem old)) ev2,Xm kt pv⟩
     ·rw[List.mem_singleton.mp new];have em:YQ s.ws w.one=[]:=Classical.not_not.mp fun z=>m ((oa.mem w.one).mpr z);show Xb H5 l (YQ s.ws w.one++if decide (w.one=w.one)=true then[w] else[]);rw[em,if_pos (decide_eq_true rfl)];exact⟨[d],l5',.cons hd5 .nil⟩
    ·have hl':h≠l:=fre hh;have rl:r≠l:=fre hr';have kl:k≠l:=fre hk;have wl:wd≠l:=fre hw;have sl':l∉os.map (·.2):=fun z=>by
      obtain⟨x,hx,e⟩:=List.mem_map.mp z;obtain⟨us,e2,_⟩:=oa.at_ x hx;rw[e] at e2
      exact fre e2 rfl
     simp only [List.map_append,List.map_cons,List.map_nil,List.nodup_cons,List.mem_cons,List.mem_append,List.mem_nil_iff,or_false,not_or];exact⟨⟨nto,nth,ntr,ntk,ntw,nts,Ne.symm lt_⟩,⟨noh,nor,nok,now_,nos,Ne.symm lo⟩,⟨nhr,nhk,nhw,nhs,hl'⟩,⟨nrk,nrw,nrs,rl⟩,⟨nkw,nks,kl⟩,⟨nws,wl⟩,List.nodup_append.mpr ⟨ndo,by simp,fun x hx y hy z=>sl' (by rw[<-List.mem_singleton.mp hy,<-z];exact hx)⟩⟩
    ·obtain⟨bds,hbl,_⟩:=hb;simp only [List.map_append,List.map_cons,List.map_nil,List.mem_cons,List.mem_append,List.mem_nil_iff,or_false,not_or];exact⟨nbt,nbo,nbh,nbr,nbk,nbw,nbs,fre hbl⟩
theorem ZcQ:∀ws:List Str,(ws.map V.str).all Xy=true
 |[]=>rfl
 |w::ws=>by rw[List.map_cons,List.all_cons,ZcQ ws];rfl
theorem Zeu(z:Str)(ws:List Str):inV (.str z) (ws.map V.str)=decide (z∈ws):=by
 unfold inV
 apply Bool.eq_iff_iff.mpr
 rw[List.any_eq_true,decide_eq_true_iff]
 constructor
 ·rintro⟨y,hy,e⟩;obtain⟨w,hw,rfl⟩:=List.mem_map.mp hy;have e:(w==z)=true:=e;exact eq_of_beq e▸hw
 ·exact fun h=>⟨.str z,List.mem_map.mpr ⟨z,h,rfl⟩,ZaS rfl⟩
theorem Zsj(ws:List Rw)(r:Str)(x:Int):Ys (YQ ws r) x=(Ys ws x).filter (Zaz r):=by
 unfold Ys YQ;rw[List.filter_filter,List.filter_filter]
 congr 1
 funext w
 exact Bool.and_comm ..
theorem Zku{r:Str}:∀{w:Rw},Zaz r w=false->ZcM r w=false/\ZdP r w=none/\∀l,Jc r l w=l
 | .put x s d,h=>by
  have h:¬x=r:=of_decide_eq_false h;exact⟨decide_eq_false h,if_neg h,fun l=>if_neg h⟩
 | .move x s d,h=>by
  have h:¬x=r:=of_decide_eq_false h;exact⟨rfl,if_neg h,fun l=>rfl⟩
 | .deed x s d,h=>by
  have h:¬x=r:=of_decide_eq_false h;exact⟨rfl,rfl,fun l=>if_neg h⟩
 | .lift _ _,_=>⟨rfl,rfl,fun _=>rfl⟩
 | .hold _ _ _ _,_=>⟨rfl,rfl,fun _=>rfl⟩
theorem Zhs(r:Str):∀us:List Rw,Xl (us.filter (Zaz r)) r=Xl us r
 |[]=>rfl
 |w::us=>by
  have ih:=Zhs r us;cases e:Zaz r w with
  |true=>
   rw[List.filter_cons_of_pos e];show(ZcM r w||Xl (us.filter (Zaz r)) r)=(ZcM r w||Xl us r);rw[ih]
  |false=>
   rw[List.filter_cons_of_neg (by rw[e];exact Bool.false_ne_true),ih]
   show Xl us r=(ZcM r w||Xl us r);rw[(Zku e).1,Bool.false_or]
theorem Zjx(r:Str):∀us:List Rw,YT (us.filter (Zaz r)) r=YT us r
 |[]=>rfl
 |w::us=>by
  have ih:=Zjx r us;unfold YT at ih⊢
  cases e:Zaz r w with
  |true=>
   rw[List.filter_cons_of_pos e];cases f:ZdP r w with
   |none=>rw[List.filterMap_cons_none f,List.filterMap_cons_none f,ih]
   |some y=>rw[List.filterMap_cons_some f,List.filterMap_cons_some f,ih]
  |false=>rw[List.filter_cons_of_neg (by rw[e];exact Bool.false_ne_true),ih,List.filterMap_cons_none (Zku e).2.1]
theorem Zig(r:Str):∀(us:List Rw) (l:Tb),(us.filter (Zaz r)).foldl (Jc r) l=us.foldl (Jc r) l
 |[],_=>rfl
 |w::us,l=>by
  cases e:Zaz r w with
  |true=>
   rw[List.filter_cons_of_pos e,List.foldl_cons,List.foldl_cons];exact Zig r us _
  |false=>
   rw[List.filter_cons_of_neg (by rw[e];exact Bool.false_ne_true),List.foldl_cons,(Zku e).2.2 l]
   exact Zig r us l
theorem Zht{ws:List Rw}{r:Str}{s x:Int}(e:Ys (YQ ws r) x=Ys (YQ ws r) s):Xl (Ys ws x) r=Xl (Ys (YQ ws r) s) r/\YT (Ys ws x) r=YT (Ys (YQ ws r) s) r/\XR (Ys ws x) r=XR (Ys (YQ ws r) s) r:=by
 rw[<-e,Zsj];exact⟨(Zhs r _).symm,(Zjx r _).symm,(Zig r _ []).symm⟩
structure Zto (s:Hs) (w:Rw):Prop where
 put:w.word="put"->Xl s.ws w.one=false
 held:w.word="hold"->s.ws.any (Xe w.one)=false
 ser:∀n∈YF w,n∈s.rs.map Sr.nm
theorem Zjy(a b:Str):(a++b).length=a.length+b.length:=by rw[Zg9,Zg9,Zg9,ZjY,List.length_append]
theorem Zkv:Str.empty.length=0:=rfl
theorem ZmL{a:Str}(h:a.length<=1000):(Str.empty++a).length<=sizeLine:=by
 have l5:=Xd;rw[Zjy,Zkv];omega
theorem Zkw{a b:Str}(g:b.length<=1000)(h:a.length<=1000):(Str.empty++a++b).length<=sizeLine:=by
 have l5:=Xd;rw[Zjy,Zjy,Zkv];omega
theorem ZfN{a b c:Str}(g:b.length<=1000)(h:a.length+c.length<=1000):(Str.empty++a++b++c).length<=sizeLine:=by
 have l5:=Xd;rw[Zjy,Zjy,Zjy,Zkv];omega
inductive Rf where
 |put|held|ser
def ZbW(ws:List Rw)(w:Rw):Bool:=ws.any fun a=>decide (a.word=w.word)&&decide (a.one=w.one)
def Zc8(ws:List Rw)(ns:List Str)(w:Rw):Option Rf:=if ZbW ws w=true/\w.word=Str.ofString "put" then some .put else if ZbW ws w=true/\w.word=Str.ofString "hold" then some .held else if(YF w).all (fun n=>decide (n∈ns))=true then none else some .ser
def xcO(cp ch cs:Addr):Rf->Addr
 | .put=>cp
 | .held=>ch
 | .ser=>cs
theorem Zgs{ws:List Rw}{w:Rw}(e:w.word=Str.ofString "put"):Xl ws w.one=ZbW ws w:=by
 unfold Xl ZbW
 congr 1
 funext a
 rw[e];cases a with
 |put x s d=>show decide (x=w.one)=(decide (Str.ofString "put"=Str.ofString "put")&&decide (x=w.one));rw[decide_eq_true rfl,Bool.true_and]
 |move x s d=>show false=(decide (Str.ofString "move"=Str.ofString "put")&&_);rw[decide_eq_false (by decide+kernel),Bool.false_and]
 |deed x s d=>show false=(decide (Str.ofString "deed"=Str.ofString "put")&&_);rw[decide_eq_false (by decide+kernel),Bool.false_and]
 |lift x d=>show false=(decide (Str.ofString "lift"=Str.ofString "put")&&_);rw[decide_eq_false (by decide+kernel),Bool.false_and]
 |hold x s d f=>show false=(decide (Str.ofString "hold"=Str.ofString "put")&&_);rw[decide_eq_false (by decide+kernel),Bool.false_and]
theorem Zf0{ws:List Rw}{w:Rw}(e:w.word=Str.ofString "hold"):ws.any (Xe w.one)=ZbW ws w:=by
 unfold ZbW
 congr 1
 funext a
 rw[e];cases a with
 |hold x s d f=>show decide (x=w.one)=(decide (Str.ofString "hold"=Str.ofString "hold")&&decide (x=w.one));rw[decide_eq_true rfl,Bool.true_and]
 |move x s d=>show false=(decide (Str.ofString "move"=Str.ofString "hold")&&_);rw[decide_eq_false (by decide+kernel),Bool.false_and]
 |deed x s d=>show false=(decide (Str.ofString "deed"=Str.ofString "hold")&&_);rw[decide_eq_false (by decide+kernel),Bool.false_and]
 |lift x d=>show false=(decide (Str.ofString "lift"=Str.ofString "hold")&&_);rw[decide_eq_false (by decide+kernel),Bool.false_and]
 |put x s d=>show false=(decide (Str.ofString "put"=Str.ofString "hold")&&_);rw[decide_eq_false (by decide+kernel),Bool.false_and]
theorem Zr6{ws:List Rw}{ns:List Str}{w:Rw}(e:w.word=Str.ofString "put")(c:Xl ws w.one=true):Zc8 ws ns w=some .put:=by
 rw[Zgs e] at c
 unfold Zc8;rw[if_pos ⟨c,e⟩]
theorem Zq1{ws:List Rw}{ns:List Str}{w:Rw}(e:w.word=Str.ofString "hold")(c:ws.any (Xe w.one)=true):Zc8 ws ns w=some .held:=by
 rw[Zf0 e] at c
 unfold Zc8;rw[if_neg (fun z=>absurd (e.symm.trans z.2) (by decide+kernel)),if_pos ⟨c,e⟩]
theorem ZlD{ws:List Rw}{ns:List Str}{w:Rw}(p:w.word=Str.ofString "put"->Xl ws w.one=false)(h:w.word=Str.ofString "hold"->ws.any (Xe w.one)=false):Zc8 ws ns w=if(YF w).all (fun n=>decide (n∈ns))=true then none else some .ser:=by
 unfold Zc8;rw[if_neg (fun z=>by have:=p z.2;rw[Zgs z.2,z.1] at this;cases this),if_neg (fun z=>by have:=h z.2;rw[Zf0 z.2,z.1] at this;cases this)]
theorem Zom{s:Hs}{w:Rw}(e:Zc8 s.ws (s.rs.map Sr.nm) w=none):Zto s w:=by
 unfold Zc8 at e
 split at e
 ·cases e
 ·rename_i h1
  split at e
  ·cases e
  ·rename_i h2
   split at e
   ·rename_i h3
    refine⟨fun z=> ?_,fun z=> ?_,fun n hn=>of_decide_eq_true (List.all_eq_true.mp h3 n hn)⟩
    ·cases c:Xl s.ws w.one with
     |false=>rfl
     |true=>rw[Zgs z] at c;exact absurd ⟨c,z⟩ h1
    ·cases c:s.ws.any (Xe w.one) with
     |false=>rfl
     |true=>rw[Zf0 z] at c;exact absurd ⟨c,z⟩ h2
   ·cases e
def ZaO(cn ca cl ce cp ch cs:Addr)(n:Nat)(C:Addr):Sp:=fun vs H Q E=>∃(a d:Addr) (w:Rw) (s:Hs) (F:List Addr),vs=[.ref a,.ref d]/\0<n/\Yh cn ca cl ce C H a s F/\ZbP H d w/\s.ws.length<=900/\s.rs.length<=63/\w.one.length<=1000/\(∀n∈YF w,n.length<=1000)/\
 (Zc8 s.ws (s.rs.map Sr.nm) w=none->∀H',ZS H H'->Q .non H')/\∀f,Zc8 s.ws (s.rs.map Sr.nm) w=some f->∀H',ZS H H'->E (.ref (xcO cp ch cs f)) none H'
theorem Zhb{cn ca cl ce cp ch cs C:Addr}:∀vs H Q E,¬ZaO cn ca cl ce cp ch cs 0 C vs H Q E:=fun _ _ _ _ ⟨_,_,_,_,_,_,z,_⟩=>Nat.lt_irrefl 0 z
theorem Zns(h:Str):∀ws:List Rw,(ws.filter Za0).any (Xe h)=ws.any (Xe h)
 |[]=>rfl
 |w::ws=>by
  have ih:=Zns h ws;cases e:Za0 w with
  |true=>rw[List.filter_cons_of_pos e,List.any_cons,List.any_cons,ih]
  |false=>
   rw[List.filter_cons_of_neg (by rw[e];exact Bool.false_ne_true),List.any_cons,ih]
   cases w with
   |hold _ _ _ _=>cases e
   |_=>rfl
theorem Zq2{cn ca cl ce:Addr}{H:Hp}{ds:List Addr}{rs:List Sr}(pr:Paired (Zdv cn ca cl ce H) ds rs)(j:Nat)(d:Addr)(e:ds[j]? =some d):∃r v,rs[j]? =some r/\H d=some (.tup [.str r.nm,oS r.el,v]):=by
 obtain⟨r,er,v,row,_⟩:=YS pr j d e;exact⟨r,v,er,row⟩
theorem JZ:ZX ["self","row","name","series"] ["self","row"] (ZG Zaa):=⟨rfl,rfl,rfl,by decide+kernel,rfl,by decide+kernel,by decide+kernel⟩
theorem Zey{f:Addr}{fd:FuncData}(F:Fun K "refuse_row" "House.refuse_row" Zaa f fd)(T:Txt K mg Zk Zi Zj Zb Zt Zr ZM Zw ZC Zx ZD Ze Zd Zf Zq ZF ZP)(n:Nat)(o_PutTwice:Zk7 "PutTwice" Ze mg base)(o_HeldTwice:Zk7 "HeldTwice" Zd mg base)(o_NoSeries:Zk7 "NoSeries" Zf mg base)(Zgt:Cal P w K mg base CX0 1 "is_laid" ["rows","hold"] ZeU)(Zaq:Cal P w K mg base CX0 1 "is_put" ["rows","record"] ZcN)(ZbX:Cal P w K mg base CX0 1 "series_named" ["row"] Zbc):Yy P w K mg base (CXr P w) (1+n+1+1) f fd ["self","row"] (ZaO Zk Zi Zj Zb Ze Zd Zf (n+1) Zt):=by
 refine okX F JZ (fun vs H Q E h=> ?_) (fun cdv A outer s H vs Q E hr h=> ?_)
 ·obtain⟨a,d,w,s,F,rfl,_⟩:=h
  rfl
 ·obtain⟨a,d,w,s,F,rfl,_,⟨dx,b,t,o,h,r,k,wd,os,kvs,ha,⟨bs,hb,pb⟩,⟨ts,ht,pt⟩,ho,oa,⟨hs,hh,ph⟩,hr',hk,pk,hw,_⟩,hd,ls,lr,lo1,ln1,q,qx⟩:=h;have l5:=Xd;have hu:=ZbC hr;have hd:H d=some (.tup w.vs):=hd;have lbs:=Paired.length pb;refine⟨_,(Zh (ZK (i:=2) JZ.nd rfl (Or.inl rfl) (ZV ZZ (pv 1) Zo (fun _ _=>rfl))) (Zh (Yj (PW.pt (Jx (Zy Yu (ZV ZZ (pv 1) Zo (fun _ _=>rfl)) ZR (ZL _)) (XH (ZeD (Ym Zaq (hr.mono (by omega)) rfl Yc (Za (Zl6 hu (Yp (pv 0) rfl) (pv 2) (Yq Zm) ⟨rfl,rfl,rfl,rfl⟩) (Za (pv 2) Zm))))))) (Zu (Zft Zd4 o_PutTwice rfl rfl (Za (ZjX (Zcb ZhL (Zcb (Zmk (pv 2)) (Zcb ZhL Zml)))) Zm))) ZW) (Zh (Yj (PW.pt (Jx (Zy Yu (ZV ZZ (pv 1) Zo (fun _ _=>rfl)) ZR (ZL _)) (XH (ZeD (Ym Zgt (hr.mono (by omega)) rfl Yc (Za (Yp (pv 0) rfl) (Za (pv 2) Zm))))))) (Zu (Zft Zd4 o_HeldTwice rfl rfl (Za (ZjX (Zcb ZhL (Zcb (Zmk (pv 2)) (Zcb ZhL Zml)))) Zm))) ZW) (Zu (JV PassesOwn.leaving rfl (Xc (Ym ZbX (hr.mono (by omega)) rfl Yc (Za (pv 1) Zm))) (Yi (i:=3) JZ.nd rfl (Or.inl rfl)) (Zu (Yj (Zy ZjR (pv 3) (Jz ["known"] [] rfl (Xc (Yp (pv 0) rfl)) (by rfl) (by exact trivial) (by rfl) (by exact trivial) (fun _ _ _ _=>(Yi (i:=0) (show(nmY ["known"] []).Nodup by decide+kernel) rfl (Or.inl rfl))) (fun _ _ _ _=>Zd2) (fun _ _ _ _=>(ZV (XJ (K:=K) rfl) (pv 0) Zo (fun _ _=>rfl)))) rfl) (Zu (Zft Zd4 o_NoSeries rfl rfl (Za (ZjX (Zcb ZhL (Zcb (Zmk (pv 3)) Zml))) Zm))) ZW))))))), ?_⟩
  refine(ixT rfl (SqT.of hd) (Zgp w) ?_);refine(fun(rest:∀(σ':L2.St) (H1:Hp),σ'=[some (.ref a),some (.ref d),some (.str w.one),none]->ZS H H1->(w.word=Str.ofString "put"->Xl s.ws w.one=false)->(_:L2.St->Hp->Prop) σ' H1)=>
   ixT rfl (SqT.of hd) (JB w) ⟨rfl,_,rfl,Xg (fun e=> ?yes) (fun e=>Yw (rest _ H rfl (ZS.refl _) (fun z=>absurd (decide_eq_true (congrArg V.str z)) e)))⟩) ?rest
  case yes=>
   have e:w.word="put":=by injection of_decide_eq_true e
   refine⟨_,rfl,a,_,dx,_,_,rfl,ha,T.cl_House,T.n_House_own,Zif ..,o,rfl,.inl ⟨_,.inl ho⟩,_,rfl,Nat.zero_le _,fun l hl=> ?_⟩;have sl0:=Zg hl (o:=.lst []);have ho1:=sl0 _ _ ho;refine⟨YK (okv os) (Sum.inr w.one),.inl ⟨okv os,Sum.inr w.one,.inl ho1,rfl,rfl⟩, ?_⟩
   by_cases m:w.one∈os.map (·.1)
   ·obtain⟨x,hx,e2⟩:=List.mem_map.mp m;have ev:=Zgr oa.one x hx;rw[e2] at ev
    rw[ev];have at2:=Yl sl0 (oa.at_ x hx);have lu2:(YQ s.ws x.1).length<=s.ws.length:=List.length_filter_le _ _;refine⟨_,rfl,x.2,YQ s.ws x.1,w.one,rfl,at2,by omega,fun H2 s2=>⟨_,rfl, ?_⟩⟩;have nu:Xl (YQ s.ws x.1) w.one=Xl s.ws w.one:=by rw[e2];exact Zhs w.one s.ws
    rw[nu];cases c:Xl s.ws w.one with
    |false=>exact Yw (rest _ H2 rfl (sl0.trans s2) (fun _=>c))
    |true=>
     exact Jq ⟨ZmL (by decide+kernel),_,rfl,_,rfl,by omega,Zkw lo1 (by decide+kernel),ZfN lo1 (by decide+kernel),ZfN lo1 (by decide+kernel),show 1<=sizeLine from sl,qx .put (Zr6 e c) _ (sl0.trans s2)⟩
   ·rw[Zhr m];refine⟨_,rfl,l,[],w.one,rfl,⟨[],Zc,.nil⟩,Nat.zero_le _,fun H2 s2=>⟨_,rfl,Yw (rest _ H2 rfl (sl0.trans s2) (fun _=> ?_))⟩⟩;cases c:Xl s.ws w.one with
    |false=>rfl
    |true=>
     have e0:YQ s.ws w.one=[]:=Classical.byContradiction fun z=>m ((oa.mem w.one).mpr z);have:=Zhs w.one s.ws;rw[show List.filter (Zaz w.one) s.ws=[] from e0,c] at this
     cases this
  case rest=>
   rintro σ' H1 rfl s1 np;have hd1:=s1 _ _ hd;have ha1:=s1 _ _ ha;refine(fun(rest2:∀(σ':L2.St) (H2:Hp),σ'=[some (.ref a),some (.ref d),some (.str w.one),none]->ZS H H2->(w.word=Str.ofString "hold"->s.ws.any (Xe w.one)=false)->(_:L2.St->Hp->Prop) σ' H2)=>
    ixT rfl (SqT.of hd1) (JB w) ⟨rfl,_,rfl,Xg (fun e=> ?yes2) (fun e=>Yw (rest2 _ H1 rfl s1 (fun z=>absurd (decide_eq_true (congrArg V.str z)) e)))⟩) ?rest2
   case yes2=>
    have e:w.word="hold":=by injection of_decide_eq_true e
    have lh2:(s.ws.filter Za0).length<=s.ws.length:=List.length_filter_le _ _;refine⟨_,rfl,a,_,dx,_,_,rfl,ha1,T.cl_House,T.n_House_holdings,Zcf ..,_,rfl,h,_,w.one,rfl,Yl s1 ⟨hs,hh,ph⟩,by omega,fun H2 s2=>⟨_,rfl, ?_⟩⟩;rw[Zns];cases c:s.ws.any (Xe w.one) with
    |false=>exact Yw (rest2 _ H2 rfl (s1.trans s2) (fun _=>c))
    |true=>
     exact Jq ⟨ZmL (by decide+kernel),_,rfl,_,rfl,by omega,Zkw lo1 (by decide+kernel),ZfN lo1 (by decide+kernel),ZfN lo1 (by decide+kernel),show 1<=sizeLine from sl,qx .held (Zq1 e c) _ (s1.trans s2)⟩
   case rest2=>
    rintro σ' H2 rfl s2 nh;have hd2:=s2 _ _ hd;refine⟨_,rfl,d,w,rfl,hd2,fun L H3 hL s3 hL3=> ?_⟩;have s23:=s2.trans s3;refine⟨L,rfl,⟨_,SqL.of hL3⟩,JD (xs:=(YF w).map V.str) (fun i σ H'=>∃v3:Option V,σ=[some (.ref a),some (.ref d),some (.str w.one),v3]/\ZS H3 H'/\∀n∈(YF w).take i,n∈s.rs.map Sr.nm) ?_ ?_ ?_ ?_⟩
    ·exact⟨none,rfl,ZS.refl _,fun n z=>nomatch z⟩
    ·rintro i σ H4 _ ⟨v3,rfl,s4,_⟩;exact SqL.of (s4 _ _ hL3)
    ·rintro i x σ H4 hx ⟨v3,rfl,s4,al⟩;obtain⟨n,rfl,en0⟩:∃n,x=V.str n/\(YF w)[i]? =some n:=by
      rw[List.getElem?_map] at hx
      cases e:(YF w)[i]? with
      |none=>rw[e] at hx;cases hx
      |some y=>rw[e] at hx;exact⟨y,(Option.some.inj hx).symm,rfl⟩
     have en:=List.mem_of_getElem? en0;have tkn:(YF w).take (i+1)=(YF w).take i++[n]:=by rw[List.take_add_one,en0];rfl
     have s24:=s23.trans s4;have ha4:=s24 _ _ ha;have hb4:=s24 _ _ hb;refine⟨_,rfl,_,rfl,a,_,dx,_,_,rfl,ha4,T.cl_House,T.n_House_book,ZfK ..,b,rfl,⟨_,SqL.of hb4⟩,Jk bs.length (fun j=>[((s.rs[j]?).map fun r=>V.str r.nm).getD .non]) (by omega) (fun j=>Nat.le_refl 1) (fun j H5 s5 lt=>⟨_,_,SqL.of (s5 _ _ hb4),List.getElem?_eq_getElem (by rw[List.length_map];exact lt)⟩) (fun H5 s5=>⟨_,SqL.of (s5 _ _ hb4),by rw[List.length_map];exact Nat.le_refl _⟩) (fun j y H5 H6 s5 lt yl RT RF rt rf=> ?_) fun D H5 hD s5 d5=> ?_⟩
     ·obtain⟨rfl,yl⟩:=yl;obtain⟨dd,rfl,ed⟩:=Jm (yl _ (SqL.of (s5 _ _ hb4)));obtain⟨r1,v,er,row⟩:=Zq2 (Zer (s24.trans s5) pb) j dd ed;rw[er] at rt
      exact⟨trivial,Zla (ixT rfl (SqT.of row) rfl (rt _ _ rfl (ZS.refl _)))⟩
     have e6:(List.range bs.length).flatMap (fun j=>[((s.rs[j]?).map fun r=>V.str r.nm).getD .non])=(s.rs.map Sr.nm).map V.str:=by
      rw[JG,lbs,Zeg s.rs (fun r=>V.str r.nm) .non,List.map_map]
      rfl
     rw[e6] at d5
     refine⟨D,_,rfl,.inl (SqL.of d5),rfl,ZcQ _,_,rfl, ?_⟩;show if(!inV (.str n) ((s.rs.map Sr.nm).map V.str))=true then _ else _;rw[Zeu]
     by_cases m:n∈s.rs.map Sr.nm
     ·rw[decide_eq_true m];refine Yw ⟨_,rfl,s4.trans s5,fun z hz=> ?_⟩;rw[tkn] at hz
      exact(List.mem_append.mp hz).elim (al z) fun y=>by rw[List.mem_singleton.mp y];exact m
     ·rw[decide_eq_false m];have l1:=ln1 n en;refine Jq ⟨ZmL (by decide+kernel),_,rfl,_,rfl,by omega,Zkw l1 (by decide+kernel),Zkw l1 (by decide+kernel),show 1<=sizeLine from sl,qx .ser ?_ _ (s24.trans s5)⟩;rw[ZlD np nh,if_neg];exact fun z=>m (of_decide_eq_true (List.all_eq_true.mp z n en))
    ·rintro σ H4 ⟨v3,rfl,s4,al⟩;rw[List.length_map,List.take_length] at al
     refine q ?_ H4 (s23.trans s4);rw[ZlD np nh,if_pos (List.all_eq_true.mpr fun n hn=>decide_eq_true (al n hn))]
def Zbu(z:Str)(wd:List (Str×Str)):List Str:=(wd.filter fun x=>decide (x.2=z)).map (·.1)
def Zci(s:Hs)(w:Rw):List Str:=match w with
 | .hold _ _ _ _=>Zbu "due" s.wd
 | .lift _ _=>Zbu "held" s.wd
 | .put x _ _=>if x∈s.wd.map (·.1) then[x] else[]
 | .move x _ _=>if x∈s.wd.map (·.1) then[x] else[]
 | .deed x _ _=>if x∈s.wd.map (·.1) then[x] else[]
def ZaP(cn ca cl ce:Addr)(n:Nat)(C:Addr):Sp:=fun vs H Q _=>∃(a d:Addr) (w:Rw) (s:Hs) (F:List Addr),vs=[.ref a,.ref d]/\0<n/\Yh cn ca cl ce C H a s F/\ZbP H d w/\s.wd.length<=900/\∀L H',H L=none->ZS H H'->H' L=some (.lst ((Zci s w).map V.str))->Q (.ref L) H'
theorem Zhc{cn ca cl ce C:Addr}:∀vs H Q E,¬ZaP cn ca cl ce 0 C vs H Q E:=fun _ _ _ _ ⟨_,_,_,_,_,_,z,_⟩=>Nat.lt_irrefl 0 z
def Zbo(z:Str)(kv:Key×V):List V:=if kv.2=V.str z then[kV kv.1] else[]
theorem Zf1(z:Str):∀wd:List (Str×Str),(wkv wd).flatMap (Zbo z)=(Zbu z wd).map V.str
 |[]=>rfl
 |x::wd=>by
  show Zbo z (Sum.inr x.1,V.str x.2)++(wkv wd).flatMap (Zbo z)=_;rw[Zf1 z wd];unfold Zbo Zbu
  by_cases e:x.2=z
  ·rw[if_pos (by rw[e]),List.filter_cons_of_pos (by exact decide_eq_true e)]
   rfl
  ·rw[if_neg (by exact vne e),List.filter_cons_of_neg (by exact fun y=>e (of_decide_eq_true y))]
   rfl
theorem Zev:∀{wd:List (Str×Str)} {r:Str},(YK (wkv wd) (Sum.inr r)).isSome=decide (r∈wd.map (·.1))
 |[],_=>rfl
 |x::wd,r=>by
  show(YK ((Sum.inr x.1,V.str x.2)::wkv wd) (Sum.inr r)).isSome=_
  by_cases e:x.1=r
  ·rw[YH (by rw[e])];exact(decide_eq_true (by rw[List.map_cons,e];exact List.mem_cons_self ..)).symm
  ·rw[YC (by exact fun z=>e (by injection z)),Zev];refine decide_eq_decide.mpr ⟨fun m=> ?_,fun m=> ?_⟩
   ·rw[List.map_cons];exact List.mem_cons_of_mem _ m
   ·rw[List.map_cons] at m
    cases m with
    |head=>exact absurd rfl e
    |tail _ m=>exact m
theorem Zez:ZX ["self","row"] ["self","row"] (ZG Zab):=⟨rfl,rfl,rfl,by decide+kernel,rfl,by decide+kernel,by decide+kernel⟩
theorem ZeA{f:Addr}{fd:FuncData}(F:Fun K "touched_by" "House.touched_by" Zab f fd)(T:Txt K mg Zk Zi Zj Zb Zt Zr ZM Zw ZC Zx ZD Ze Zd Zf Zq ZF ZP)(n:Nat):Yy P w K mg base CX0 (0+n+1+1) f fd ["self","row"] (ZaP Zk Zi Zj Zb (n+1) Zt):=by
 refine F.ok Zez (fun vs H Q E h=> ?_) (fun cdv A outer s H vs Q E hr h=> ?_)
 ·obtain⟨a,d,w,s,F,rfl,_⟩:=h
  rfl
 ·obtain⟨a,d,w,s,F,rfl,_,⟨dx,b,t,o,h,r,k,wd,os,kvs,ha,_,_,_,_,_,_,_,_,hw,_⟩,hd,lw,q⟩:=h;have l5:=Xd;have hu:=ZbC hr;have hd:H d=some (.tup w.vs):=hd;have lk1:(wkv s.wd).length<=sizeLine:=by
   unfold wkv;rw[List.length_map];omega
  have nf:∀o u,H wd≠some (.frz o u):=fun o u z=>by rw[hw] at z;cases z
  have fin:∀(z:Str) (D v:Addr) (o:Obj) (H2:Hp),H v=none->ZS (upd (upd H v (XS v wd)) wd (.frz o (.dK (wkv s.wd)))) H2->upd (upd H v (XS v wd)) wd (.frz o (.dK (wkv s.wd))) D=none->H2 D=some (.lst ((Zbu z s.wd).map V.str))->Zci s w=Zbu z s.wd->∃c H3,ZrO H c H2 H3/\Q (.ref D) H3:=fun z D v o H2 hv0 s2 hD d2 e=>by
   have hva:v≠wd:=fun y=>by rw[y,hw] at hv0;cases hv0
   have hDa:D≠wd:=fun y=>by rw[y,Zc] at hD;cases hD
   have hDv:D≠v:=fun y=>by rw[y,Zv hva,Zc] at hD;cases hD
   have fs:ZhQ wd (wkv s.wd) H H2:=⟨fun b u n y=>s2 b u (by rw[Zv n,Zv (Zn y hv0)];exact y),o,s2 _ _ Zc⟩
   obtain⟨t1,t2⟩:=fs.thaw hw nf;exact⟨wd,_,t1,q D _ (by rw[Zv hDa,Zv hDv] at hD;exact hD) t2 (by rw[Zv hDa,d2,e])⟩
  refine⟨_,(Zh (Yj (Zy Yu (ZV ZZ (pv 1) Zo (fun _ _=>rfl)) ZR (ZL _)) (Zu (ZJ (Zfw (Jz ["record","word"] [] rfl (ZhO (ZhN (Yp (pv 0) rfl))) (by rfl) (by exact trivial) (by rfl) (by exact trivial) (fun _ _ _ _=>(Zk2 (K:=K) 2 rfl rfl (JC (Yi (i:=0) (show(nmY ["record","word"] []).Nodup by decide+kernel) rfl (Or.inl rfl) (Or.inr rfl)) (JC (Yi (i:=1) (show(nmY ["record","word"] []).Nodup by decide+kernel) rfl (Or.inl rfl) (Or.inr rfl)) Zfj)) rfl rfl)) (fun _ _ _ _=>(ZaM (Zy Yu (pv 1) ZR (ZL _)))) (fun _ _ _ _=>(pv 0)))))) ZW) (Zh (Yj (Zy Yu (ZV ZZ (pv 1) Zo (fun _ _=>rfl)) ZR (ZL _)) (Zu (ZJ (Zfw (Jz ["record","word"] [] rfl (ZhO (ZhN (Yp (pv 0) rfl))) (by rfl) (by exact trivial) (by rfl) (by exact trivial) (fun _ _ _ _=>(Zk2 (K:=K) 2 rfl rfl (JC (Yi (i:=0) (show(nmY ["record","word"] []).Nodup by decide+kernel) rfl (Or.inl rfl) (Or.inr rfl)) (JC (Yi (i:=1) (show(nmY ["record","word"] []).Nodup by decide+kernel) rfl (Or.inl rfl) (Or.inr rfl)) Zfj)) rfl rfl)) (fun _ _ _ _=>(ZaM (Zy Yu (pv 1) ZR (ZL _)))) (fun _ _ _ _=>(pv 0)))))) ZW) (Zu (ZJ (Jz ["record"] [("self",0)] rfl (Xc (Yq (Za (ZV ZZ (pv 1) Zo (fun _ _=>rfl)) Zm))) (by rfl) (by exact⟨rfl,trivial⟩) (by rfl) (by exact⟨⟨rfl,rfl,rfl⟩,trivial⟩) (fun _ _ _ _=>(Yi (i:=0) (show(nmY ["record"] [("self",0)]).Nodup by decide+kernel) rfl (Or.inl rfl))) (fun _ _ _ _=>(ZaM (Zg4 (Zmd hu (pv 0) (Zkd (K:=K) rfl (pv 1) rfl))))) (fun _ _ _ _=>(pv 0))))))), ?_⟩
  cases w with
  |hold x c n y=>
   refine(ixT rfl (SqT.of hd) rfl ⟨rfl,_,rfl,Zam rfl ?_⟩);refine⟨_,rfl,a,_,dx,_,_,rfl,ha,T.cl_House,T.n_House_words,Zar ..,wd,_,rfl,hw,fun v hv0=>⟨v,wd,_,rfl,Zc,by rw[Zv (Zn hw hv0)];exact hw,fun ob=> ?_⟩⟩
   refine Jk (wkv s.wd).length (fun i=>(((wkv s.wd)[i]?).map (Zbo "due")).getD []) lk1 (fun i=> ?_) (fun i H2 s lt=>⟨s _ _ Zc,lt⟩) (fun H2 s=>⟨s _ _ Zc,Nat.le_refl _⟩) (fun i x H2 H3 s2 lt y RT RF rt rf=> ?_) fun D H2 hD s2 d2=> ?_
   ·cases(wkv s.wd)[i]? with
    |none=>exact Nat.zero_le _
    |some kv=>
     show(Zbo "due" kv).length<=1;unfold Zbo
     split
     ·exact Nat.le_refl _
     ·exact Nat.zero_le _
   ·obtain⟨kv,p,e2,hp,e3,e4⟩:=y;subst e3 e4;rw[e2] at rt rf
    have rt:∀v H6,Zbo "due" kv=[v]->_:=rt;have rf:∀H5,Zbo "due" kv=[]->_:=rf;obtain⟨x0,_,rfl⟩:=List.mem_map.mp (List.mem_of_getElem? e2);have s3:ZS H2 (upd H2 p (.tup [kV (Sum.inr x0.1),V.str x0.2])):=Zg hp;exact⟨p,_,rfl,SqT.of Zc,rfl,_,_,rfl,_,_,rfl,rfl,trivial,_,rfl,rfl,_,rfl,Xg (fun e=>⟨_,rfl,rt _ _ (if_pos (of_decide_eq_true e)) s3⟩) (fun e=>rf _ (if_neg fun y=>e (decide_eq_true y)) s3)⟩
   ·rw[JH (Zbo "due") (wkv s.wd),Zf1] at d2
    exact fin "due" D v ob H2 hv0 s2 hD d2 rfl
  |lift x y=>
   refine(ixT rfl (SqT.of hd) rfl ⟨rfl,_,rfl,Xj (vne Znm) (ixT rfl (SqT.of hd) rfl ⟨rfl,_,rfl,Zam rfl ?_⟩)⟩);refine⟨_,rfl,a,_,dx,_,_,rfl,ha,T.cl_House,T.n_House_words,Zar ..,wd,_,rfl,hw,fun v hv0=>⟨v,wd,_,rfl,Zc,by rw[Zv (Zn hw hv0)];exact hw,fun ob=> ?_⟩⟩
   refine Jk (wkv s.wd).length (fun i=>(((wkv s.wd)[i]?).map (Zbo "held")).getD []) lk1 (fun i=> ?_) (fun i H2 s lt=>⟨s _ _ Zc,lt⟩) (fun H2 s=>⟨s _ _ Zc,Nat.le_refl _⟩) (fun i x H2 H3 s2 lt y RT RF rt rf=> ?_) fun D H2 hD s2 d2=> ?_
   ·cases(wkv s.wd)[i]? with
    |none=>exact Nat.zero_le _
    |some kv=>
     show(Zbo "held" kv).length<=1;unfold Zbo
     split
     ·exact Nat.le_refl _
     ·exact Nat.zero_le _
   ·obtain⟨kv,p,e2,hp,e3,e4⟩:=y;subst e3 e4;rw[e2] at rt rf
    have rt:∀v H6,Zbo "held" kv=[v]->_:=rt;have rf:∀H5,Zbo "held" kv=[]->_:=rf;obtain⟨x0,_,rfl⟩:=List.mem_map.mp (List.mem_of_getElem? e2);have s3:ZS H2 (upd H2 p (.tup [kV (Sum.inr x0.1),V.str x0.2])):=Zg hp;exact⟨p,_,rfl,SqT.of Zc,rfl,_,_,rfl,_,_,rfl,rfl,trivial,_,rfl,rfl,_,rfl,Xg (fun e=>⟨_,rfl,rt _ _ (if_pos (of_decide_eq_true e)) s3⟩) (fun e=>rf _ (if_neg fun y=>e (decide_eq_true y)) s3)⟩
   ·rw[JH (Zbo "held") (wkv s.wd),Zf1] at d2
    exact fin "held" D v ob H2 hv0 s2 hD d2 rfl
  |put x sr y=>
   refine(ixT rfl (SqT.of hd) rfl ⟨rfl,_,rfl,Xj (vne Zjs) (ixT rfl (SqT.of hd) rfl ⟨rfl,_,rfl,Xj (vne Zlr) ?_⟩)⟩);refine(ixT rfl (SqT.of hd) rfl ⟨show 1<=sizeLine from sl,fun t1 ht1=> ?_⟩);have s1:=Zg ht1 (o:=.lst [.str x]);have g1:upd H t1 (.lst [.str x]) t1=some (.lst [.str x]):=Zc;generalize upd H t1 (.lst [.str x])=H1 at s1 g1
   refine⟨t1,rfl,⟨_,SqL.of g1⟩,Jk 1 (fun _=>if x∈s.wd.map (·.1) then[V.str x] else[]) (show 1<=sizeLine from sl) (fun _=>by split<;>simp) (fun i H2 s2 lt=>⟨_,_,SqL.of (s2 _ _ g1),List.getElem?_eq_getElem lt⟩) (fun H2 s2=>⟨_,SqL.of (s2 _ _ g1),Nat.le_refl _⟩) (fun i z H2 H3 s2 lt yl RT RF rt rf=> ?_) fun D H2 hD s2 d2=> ?_⟩
   ·obtain⟨rfl,yl⟩:=yl;have zx:=yl _ (SqL.of (s2 _ _ g1));obtain rfl:i=0:=Nat.lt_one_iff.mp lt;obtain rfl:=Option.some.inj zx;have s13:=s1.trans s2;have w3:=s13 _ _ hw;refine⟨⟨rfl,trivial⟩,_,rfl,_,rfl,a,_,dx,_,_,rfl,s13 _ _ ha,T.cl_House,T.n_House_words,Zar ..,wd,_,rfl,.inl ⟨wkv s.wd,Sum.inr x,.inl w3,rfl,rfl⟩,_,rfl, ?_⟩;rw[Zev];exact Xg (fun e=>⟨_,rfl,rt _ _ (if_pos (of_decide_eq_true e)) (ZS.refl _)⟩) (fun e=>rf _ (if_neg fun y=>e (decide_eq_true y)) (ZS.refl _))
   ·refine q D H2 (Xu s1 hD) (s1.trans s2) ?_;rw[d2];show some (HO.lst ((if x∈s.wd.map (·.1) then[V.str x] else[])++[]))=some (HO.lst ((if x∈s.wd.map (·.1) then[x] else[]).map V.str));rw[List.append_nil]
    split<;>rfl
  |move x sr y=>
   refine(ixT rfl (SqT.of hd) rfl ⟨rfl,_,rfl,Xj (vne Zls) (ixT rfl (SqT.of hd) rfl ⟨rfl,_,rfl,Xj (vne Znl) ?_⟩)⟩);refine(ixT rfl (SqT.of hd) rfl ⟨show 1<=sizeLine from sl,fun t1 ht1=> ?_⟩);have s1:=Zg ht1 (o:=.lst [.str x]);have g1:upd H t1 (.lst [.str x]) t1=some (.lst [.str x]):=Zc;generalize upd H t1 (.lst [.str x])=H1 at s1 g1
   refine⟨t1,rfl,⟨_,SqL.of g1⟩,Jk 1 (fun _=>if x∈s.wd.map (·.1) then[V.str x] else[]) (show 1<=sizeLine from sl) (fun _=>by split<;>simp) (fun i H2 s2 lt=>⟨_,_,SqL.of (s2 _ _ g1),List.getElem?_eq_getElem lt⟩) (fun H2 s2=>⟨_,SqL.of (s2 _ _ g1),Nat.le_refl _⟩) (fun i z H2 H3 s2 lt yl RT RF rt rf=> ?_) fun D H2 hD s2 d2=> ?_⟩
   ·obtain⟨rfl,yl⟩:=yl;have zx:=yl _ (SqL.of (s2 _ _ g1));obtain rfl:i=0:=Nat.lt_one_iff.mp lt;obtain rfl:=Option.some.inj zx;have s13:=s1.trans s2;have w3:=s13 _ _ hw;refine⟨⟨rfl,trivial⟩,_,rfl,_,rfl,a,_,dx,_,_,rfl,s13 _ _ ha,T.cl_House,T.n_House_words,Zar ..,wd,_,rfl,.inl ⟨wkv s.wd,Sum.inr x,.inl w3,rfl,rfl⟩,_,rfl, ?_⟩;rw[Zev];exact Xg (fun e=>⟨_,rfl,rt _ _ (if_pos (of_decide_eq_true e)) (ZS.refl _)⟩) (fun e=>rf _ (if_neg fun y=>e (decide_eq_true y)) (ZS.refl _))
   ·refine q D H2 (Xu s1 hD) (s1.trans s2) ?_;rw[d2];show some (HO.lst ((if x∈s.wd.map (·.1) then[V.str x] else[])++[]))=some (HO.lst ((if x∈s.wd.map (·.1) then[x] else[]).map V.str));rw[List.append_nil]
    split<;>rfl
  |deed x c y=>
   refine(ixT rfl (SqT.of hd) rfl ⟨rfl,_,rfl,Xj (vne Zlt) (ixT rfl (SqT.of hd) rfl ⟨rfl,_,rfl,Xj (vne ZpW) ?_⟩)⟩);refine(ixT rfl (SqT.of hd) rfl ⟨show 1<=sizeLine from sl,fun t1 ht1=> ?_⟩);have s1:=Zg ht1 (o:=.lst [.str x]);have g1:upd H t1 (.lst [.str x]) t1=some (.lst [.str x]):=Zc;generalize upd H t1 (.lst [.str x])=H1 at s1 g1
   refine⟨t1,rfl,⟨_,SqL.of g1⟩,Jk 1 (fun _=>if x∈s.wd.map (·.1) then[V.str x] else[]) (show 1<=sizeLine from sl) (fun _=>by split<;>simp) (fun i H2 s2 lt=>⟨_,_,SqL.of (s2 _ _ g1),List.getElem?_eq_getElem lt⟩) (fun H2 s2=>⟨_,SqL.of (s2 _ _ g1),Nat.le_refl _⟩) (fun i z H2 H3 s2 lt yl RT RF rt rf=> ?_) fun D H2 hD s2 d2=> ?_⟩
   ·obtain⟨rfl,yl⟩:=yl;have zx:=yl _ (SqL.of (s2 _ _ g1));obtain rfl:i=0:=Nat.lt_one_iff.mp lt;obtain rfl:=Option.some.inj zx;have s13:=s1.trans s2;have w3:=s13 _ _ hw;refine⟨⟨rfl,trivial⟩,_,rfl,_,rfl,a,_,dx,_,_,rfl,s13 _ _ ha,T.cl_House,T.n_House_words,Zar ..,wd,_,rfl,.inl ⟨wkv s.wd,Sum.inr x,.inl w3,rfl,rfl⟩,_,rfl, ?_⟩;rw[Zev];exact Xg (fun e=>⟨_,rfl,rt _ _ (if_pos (of_decide_eq_true e)) (ZS.refl _)⟩) (fun e=>rf _ (if_neg fun y=>e (decide_eq_true y)) (ZS.refl _))
   ·refine q D H2 (Xu s1 hD) (s1.trans s2) ?_;rw[d2];show some (HO.lst ((if x∈s.wd.map (·.1) then[V.str x] else[])++[]))=some (HO.lst ((if x∈s.wd.map (·.1) then[x] else[]).map V.str));rw[List.append_nil]
    split<;>rfl
def Jf(ws:List Rw)(day:Int):List Rw:=YD (Ys (ws.filter Za0) day)
theorem Ztp(ws:List Rw)(day:Int):Ys (ws.filter Za0) day=(Ys ws day).filter Za0:=by
 unfold Ys;rw[List.filter_filter,List.filter_filter]
 congr 1
 funext w
 exact Bool.and_comm ..
theorem Zjz:∀us:List Rw,XC (us.filter Za0)=XC us
 |[]=>rfl
 |w::us=>by
  have ih:=Zjz us;unfold XC at ih⊢
  cases e:Za0 w with
  |true=>
   rw[List.filter_cons_of_pos e];cases f:ZbQ w with
   |none=>rw[List.filterMap_cons_none f,List.filterMap_cons_none f,ih]
   |some z=>rw[List.filterMap_cons_some f,List.filterMap_cons_some f,ih]
  |false=>
   rw[List.filter_cons_of_neg (by rw[e];exact Bool.false_ne_true),ih]
   cases w with
   |lift _ _=>cases e
   |_=>rfl
theorem ZlE(us:List Rw):YD (us.filter Za0)=YD us:=by
 unfold YD;rw[Zjz,List.filter_filter];refine List.filter_congr fun w _=> ?_;cases w with
 |hold a b c d=>exact Bool.and_true _
 |_=>rfl
theorem Zih(ws:List Rw)(day:Int):Jf ws day=YD (Ys ws day):=by
 unfold Jf;rw[Ztp,ZlE]
theorem Zdk{ws:List Rw}{day:Int}{w:Rw}(h:w∈Jf ws day):(∃hh c n d,w=.hold hh c n d)/\w.day<=day/\w∈ws:=by
 rw[Zih] at h
 obtain⟨h1,h2⟩:=List.mem_filter.mp h;obtain⟨h3,h4⟩:=List.mem_filter.mp h1;exact⟨ZbT h2,of_decide_eq_true h4,h3⟩
theorem ZfO{ws:List Rw}{r:Str}{w:Rw}(h:w∈YQ ws r):Za0 w=false:=by
 have:=(List.mem_filter.mp h).2;cases w with
 |hold _ _ _ _=>cases this
 |lift _ _=>cases this
 |_=>rfl
def XM(ws:List Rw)(r:Str)(day:Int):List Rw:=YQ ws r++Jf ws day
theorem ZmM(ws:List Rw)(r:Str)(day:Int):Ys (XM ws r day) day=Ys (YQ ws r) day++Jf ws day:=by
 unfold XM;show(YQ ws r++Jf ws day).filter _=(YQ ws r).filter _++Jf ws day;rw[List.filter_append]
 congr 1
 exact List.filter_eq_self.mpr fun w hw=>decide_eq_true (Zdk hw).2.1
theorem Zj6{us:List Rw}{r:Str}(h:∀w∈us,∃hh c n d,w=Rw.hold hh c n d):Xl us r=false/\YT us r=[]/\(∀l,us.foldl (Jc r) l=l)/\XC us=[]:=by
 induction us with
 |nil=>exact⟨rfl,rfl,fun _=>rfl,rfl⟩
 |cons w us ih=>
  obtain⟨hh,c,n,d,rfl⟩:=h w (List.mem_cons_self ..);obtain⟨a1,a2,a3,a4⟩:=ih fun x hx=>h x (List.mem_cons_of_mem _ hx);exact⟨a1,a2,a3,a4⟩
theorem ZfP(ws:List Rw)(r:Str)(day:Int):Xl (Ys (XM ws r day) day) r=Xl (Ys ws day) r/\YT (Ys (XM ws r day) day) r=YT (Ys ws day) r/\XR (Ys (XM ws r day) day) r=XR (Ys ws day) r/\∀line,YZ (Ys (XM ws r day) day) r line=YZ (Ys ws day) r line:=by
 obtain⟨a1,a2,a3,a4⟩:=Zj6 (r:=r) fun w hw=>(Zdk (ws:=ws) (day:=day) hw).1;obtain⟨b1,b2,b3⟩:=Zht (ws:=ws) (r:=r) (x:=day) (s:=day) rfl;rw[ZmM];refine⟨?_, ?_, ?_,fun line=> ?_⟩
 ·rw[b1];unfold Xl at a1⊢
  rw[List.any_append,a1,Bool.or_false]
 ·rw[b2];unfold YT at a2⊢
  rw[List.filterMap_append,a2,List.append_nil]
 ·rw[b3];unfold XR;rw[List.foldl_append,a3]
 ·have own0:∀w∈Ys (YQ ws r) day,Za0 w=false:=fun w hw=>ZfO (List.mem_filter.mp hw).1;have l0:XC (Ys (YQ ws r) day)=[]:=List.filterMap_eq_nil_iff.mpr fun w hw=>by
   have:=own0 w hw;cases w with
   |lift _ _=>cases this
   |_=>rfl
  have l1:XC (Ys (YQ ws r) day++Jf ws day)=[]:=by
   unfold XC at l0 a4⊢
   rw[List.filterMap_append,l0,a4]
   rfl
  have st:YD (Ys (YQ ws r) day++Jf ws day)=Jf ws day:=by
   unfold YD;rw[l1,List.filter_append,List.filter_eq_nil_iff.mpr fun w hw=>by
    have:=own0 w hw;cases w with
    |hold _ _ _ _=>cases this
    |_=>exact Bool.false_ne_true,List.nil_append]
   refine List.filter_eq_self.mpr fun w hw=> ?_;obtain⟨⟨hh,c,n,d,rfl⟩,_⟩:=Zdk hw;show decide (hh∉([]:List Str))=true;exact decide_eq_true List.not_mem_nil
  unfold YZ;rw[st,Zih]
theorem ZjA{rs:List Sr}{ws:List Rw}{r:Str}{day:Int}{j:Jd}(is:IsJ rs (XM ws r day) r day j):IsJ rs ws r day j:=by
 obtain⟨e1,e2,e3,e4⟩:=ZfP ws r day;refine⟨fun z=>is.no (e1.trans z),fun z=> ?_⟩;obtain⟨y,r0,t,top,ow,ht,c4,c5,c6,c7,c8,c9⟩:=is.yes (e1.trans z);rw[e2] at top
 rw[e3] at c6
 rw[e4] at c7
 exact⟨y,r0,t,top,ow,ht,c4,c5,c6,c7,c8,c9⟩
theorem ZlF{rs:List Sr}{ws:List Rw}{r:Str}{day:Int}{H:Hp}{v:V}(is:Zne rs (XM ws r day) r day H v):Zne rs ws r day H v:=by
 obtain⟨e1,e2,e3,e4⟩:=ZfP ws r day;refine⟨fun z=>is.no (e1.trans z),fun z=> ?_⟩;obtain⟨y,r0,t,top,ow,ht,no,yes⟩:=is.yes (e1.trans z);rw[e2] at top
 rw[e3] at no yes
 exact⟨y,r0,t,top,ow,ht,no,yes⟩
theorem Zii{rs:List Sr}{ws:List Rw}{r:Str}{day:Int}(ro:Zgl rs ws)(l:ws.length<=500):Zgl rs (XM ws r day):=by
 have l1:(YQ ws r).length<=ws.length:=List.length_filter_le _ _;have l2:(Jf ws day).length<=(ws.filter JX).length:=by
  rw[Zih];have:(YD (Ys ws day)).length<=((Ys ws day).filter JX).length:=by
   unfold YD;rw[<-List.countP_eq_length_filter,<-List.countP_eq_length_filter];refine List.countP_mono_left fun w _ h=> ?_;obtain⟨a,b,c,d,rfl⟩:=ZbT h
   rfl
  refine Nat.le_trans this ?_;unfold Ys;rw[List.filter_filter,<-List.countP_eq_length_filter,<-List.countP_eq_length_filter];exact List.countP_mono_left fun w _ h=>(Bool.and_eq_true_iff.mp h).1
 have l3:=ro.held;have l4:(ws.filter JX).length<=ws.length:=List.length_filter_le _ _;refine⟨?_, ?_,fun q y hy=> ?_⟩
 ·unfold XM;rw[List.length_append];omega
 ·unfold XM;rw[List.filter_append,List.length_append,List.filter_eq_nil_iff.mpr fun w hw=>by
   have:=ZfO hw;cases w with
   |hold _ _ _ _=>cases this
   |_=>exact Bool.false_ne_true]
  have:=List.length_filter_le JX (Jf ws day);rw[List.length_nil];omega
 ·obtain⟨w,hw,e⟩:=List.mem_filterMap.mp hy;refine ro.ser q y (List.mem_filterMap.mpr ⟨w, ?_,e⟩);rcases List.mem_append.mp hw with z|z
  ·exact(List.mem_filter.mp z).1
  ·exact(Zdk z).2.2
structure Zgu (rs:List Sr) (ws:List Rw) (r:Str) (day:Int) (z:Str):Prop where
 no:Xl (Ys ws day) r=false->z="absent"
 yes:Xl (Ys ws day) r=true->∃(y:ZaU) (r0:Sr) (t:Tr),Top (YT (Ys ws day) r) y/\ZfD rs.reverse (some y.2)=some r0/\r0.tm=some t/\z=JS (t.due (XR (Ys ws day) r)) (YZ (Ys ws day) r (ZbO rs.reverse (some y.2))).length day
theorem IsJ.word{rs:List Sr}{ws:List Rw}{r:Str}{day:Int}{j:Jd}(is:IsJ rs ws r day j):Zgu rs ws r day j.word:=by
 refine⟨fun z=>by rw[is.no z];rfl,fun z=> ?_⟩
 obtain⟨y,r0,t,top,ow,ht,c4,c5,c6,c7,c8,c9⟩:=is.yes z;exact⟨y,r0,t,top,ow,ht,by rw[c9,c6,c7.length_eq]⟩
def Zkx(s:Hs)(f:Str×Str):Prop:=∃n day,(f.1,n,day)∈s.gs/\Zgu s.rs s.ws f.1 day f.2
def Zon(H:Hp)(f:Str×Str)(v:V):Prop:=∃p,v=.ref p/\H p=some (.tup [.str f.1,.str f.2])
structure ZdW (s:Hs):Prop where
 bk:Zbb [] s.rs
 lr:s.rs.length<=63
 rows:Zgl s.rs s.ws
 few:s.ws.length<=400
 one:(s.gs.map (·.1)).Nodup
 own:∀g∈s.gs,YQ s.ws g.1≠[]
def Zbv(cn ca cl ce:Addr)(n:Nat)(C:Addr):Sp:=fun vs H Q _=>∃(a l:Addr) (recs:List Str) (s:Hs) (F:List Addr),vs=[.ref a,.ref l]/\0<n/\Yh cn ca cl ce C H a s F/\ZdW s/\H l=some (.lst (recs.map V.str))/\recs.length<=900/\(∀r∈recs,r∈s.gs.map (·.1))/\
 ∀L us fs H',H L=none->ZS H H'->H' L=some (.lst us)->Paired (Zon H') fs us->fs.map (·.1)=recs->(∀f∈fs,Zkx s f)->Q (.ref L) H'
theorem Zij{cn ca cl ce C:Addr}:∀vs H Q E,¬Zbv cn ca cl ce 0 C vs H Q E:=fun _ _ _ _ ⟨_,_,_,_,_,_,z,_⟩=>Nat.lt_irrefl 0 z
theorem Zky{H:Hp}:∀{gs:List Gn} {kvs:List (Key×V)},Paired (ZfE H) gs kvs->(gs.map (·.1)).Nodup->∀g∈gs,∃p,YK kvs (Sum.inr g.1)=some (.ref p)/\H p=some (.tup [.int g.2.1,.int g.2.2])
 |_,_,.nil,_,g,h=>nomatch h
 |_,_,.cons (a:=y) ⟨p,e,hp⟩ t,nd,g,h=>by
  rw[List.map_cons] at nd
  obtain⟨off,rest⟩:=List.nodup_cons.mp nd;subst e;cases h with
  |head=>exact⟨p,YH rfl,hp⟩
  |tail _ m=>
   obtain⟨p',e',h'⟩:=Zky t rest g m;have ne:¬(Sum.inr y.1:Key)=Sum.inr g.1:=fun z=>off (List.mem_map.mpr ⟨g,m,by injection z with z;exact z.symm⟩)
   exact⟨p',(YC (p:=(Sum.inr y.1,V.ref p)) ne).trans e',h'⟩
theorem Zkz{H H':Hp}(s:∀b xs,H b=some (.tup xs)->H' b=some (.tup xs)):∀{fs:List (Str×Str)} {us:List V},Paired (Zon H) fs us->Paired (Zon H') fs us
 |_,_,.nil=> .nil
 |_,_,.cons ⟨p,e,h⟩ t=> .cons ⟨p,e,s _ _ h⟩ (Zkz s t)
def Zr7(H:Hp)(S D:Addr)(ws:List Rw)(n:Nat):Prop:=∃kvs:List (Key×V),H S=some (.dK kvs)/\kvs.length<=n/\∀day v,YK kvs (Sum.inl day)=some v->∃l,v=.ref l/\l≠D/\Xb H l (Jf ws day)
theorem Zfo{kvs:List (Key×V)}{k j:Key}{y:V}:YK (JF kvs k y) j=if j=k then some y else YK kvs j:=by
 unfold JF;cases e:(kvs.any fun kv=>decide (kv.1=k)) with
 |true=>
  rw[if_pos rfl,ZhG]
  by_cases z:j=k
  ·subst z;rw[Zak] at e
   obtain⟨v,ev⟩:=Option.isSome_iff_exists.mp e;rw[if_pos rfl,ev];exact congrArg some (if_pos rfl)
  ·rw[if_neg z];cases YK kvs j with
   |none=>rfl
   |some v=>exact congrArg some (if_neg z)
 |false=>
  rw[if_neg Bool.false_ne_true];have no:YK kvs k=none:=by
   rw[Zak] at e
   cases q:YK kvs k with
   |none=>rfl
   |some v=>rw[q] at e;cases e
  have app:∀l:List (Key×V),YK (l++[(k,y)]) j=match YK l j with|some v=>some v|none=>if j=k then some y else none:=fun l=>by
   induction l with
   |nil=>
    by_cases z:k=j
    ·show YK [(k,y)] j=_;rw[YH z,if_pos z.symm]
     rfl
    ·show YK [(k,y)] j=_;rw[YC z,if_neg (Ne.symm z)]
     rfl
   |cons p l ih=>
    by_cases z:p.1=j
    ·rw[List.cons_append,YH z,YH z]
    ·rw[List.cons_append,YC z,YC z,ih]
  rw[app]
  by_cases z:j=k
  ·rw[z,no,if_pos rfl]
  ·rw[if_neg z,if_neg z];cases YK kvs j<;>rfl
theorem Zq3(kvs:List (Key×V))(k:Key)(v:V):(JF kvs k v).length<=kvs.length+1:=by
 unfold JF
 split
 ·rw[List.length_map];exact Nat.le_succ _
 ·rw[List.length_append];exact Nat.le_refl _
theorem Xf:ZX ["self","records","found","stays","record","day","rows"] ["self","records"] (ZG Zal):=⟨rfl,rfl,rfl,by decide+kernel,rfl,by decide+kernel,by decide+kernel⟩
theorem Zf2{f:Addr}{fd:FuncData}(F:Fun K "words_now" "House.words_now" Zal f fd)(T:Txt K mg Zk Zi Zj Zb Zt Zr ZM Zw ZC Zx ZD Ze Zd Zf Zq ZF ZP)(n:Nat)(Ja:Cal P w K mg base CX0 1 "counted" ["rows","day"] ZaG)(ZcR:Cal P w K mg base CX0 14 "judged" ["book","rows","record","day"] (Zeo Zk Zi Zj Zb))(Jv:Cal P w K mg base CX0 1 "standing" ["rows"] ZaW):Yy P w K mg base CX0 (14+n+1+1) f fd ["self","records"] (Zbv Zk Zi Zj Zb (n+1) Zt):=by
 refine F.ok Xf (fun vs H Q E h=> ?_) (fun cdv A outer s H vs Q E hr h=> ?_)
 ·obtain⟨a,l,recs,s,F,rfl,_⟩:=h
  rfl
 ·obtain⟨a,l,recs,s,F,rfl,_,⟨dx,b,t,o,h,r,k,wd,os,kvs,ha,hb,⟨ts,ht,pt⟩,ho,oa,hh,hr',hk,pk,hw,_⟩,ok,hl,lrc,sub,q⟩:=h;have l5:=Xd;have hu:=ZbC hr;have few:=ok.few;refine⟨_,(Zh (ZK (i:=2) Xf.nd rfl (Or.inl rfl) (Yq Zm)) (Zh (ZK (i:=3) Xf.nd rfl (Or.inl rfl) ZbB) (Zh (JV PassesOwn.never rfl (Xc (pv 1)) (Yi (i:=4) Xf.nd rfl (Or.inl rfl)) (Zh (ZK (i:=5) Xf.nd rfl (Or.inl rfl) (ZV ZZ (Zbp hu (Yp (pv 0) rfl) (pv 4) (fun _ _=>rfl)) Zo (fun _ _=>rfl))) (Zh (Yj (Zg4 (Zee hu (pv 5) (pv 3))) (Zu (Zd1 hu (pv 3) (pv 5) (Ym Jv (hr.mono (by omega)) rfl Yc (Za (Ym Ja (hr.mono (by omega)) rfl Yc (Za (Yp (pv 0) rfl) (Za (pv 5) Zm))) Zm)) rfl)) ZW) (Zh (ZK (i:=6) Xf.nd rfl (Or.inl rfl) (ZQ Zbr (Zbp hu (Yp (pv 0) rfl) (pv 4) (fun _ _=>rfl)) (Zbp hu (pv 3) (pv 5) (fun _ _=>rfl)))) (Zu (Xv (Zaj PySem.F.plainAttrs_list PySem.F.slot_list_append PySem.F.type_list_append Xa (pv 2) (Za (YX (Za (pv 4) (Za (ZV ZZ (Ym ZcR (hr.mono (by omega)) rfl Yc (Za (Yp (pv 0) rfl) (Za (pv 6) (Za (pv 4) (Za (pv 5) Zm))))) Zo (fun _ _=>rfl)) Zm))) Zm)))))))) (Zu (ZJ (pv 2)))))), ?_⟩
  refine⟨Nat.zero_le _,fun Fd hFd=> ?_⟩;have sF:=Zg hFd (o:=.lst []);refine(fun S hS=> ?_);have sS:=Zg hS (o:=.dK []);have nFS:Fd≠S:=Zn (show upd H Fd (.lst []) Fd=some (.lst []) from Zc) hS;have nS:H S=none:=Xu sF hS;refine⟨_,rfl,l,rfl,⟨_,SqL.of ((sF.trans sS) _ _ hl)⟩,JD (xs:=recs.map V.str) (fun i σ H'=>∃(v4 v5 v6:Option V) (us:List V) (fs:List (Str×Str)),σ=[some (.ref a),some (.ref l),some (.ref Fd),some (.ref S),v4,v5,v6]/\H' Fd=some (.lst us)/\Paired (Zon H') fs us/\fs.map (·.1)=recs.take i/\(∀f∈fs,Zkx s f)/\Zr7 H' S Fd s.ws i/\ZS H H') ?_ ?_ ?_ ?_⟩
  ·exact⟨none,none,none,[],[],rfl,by rw[Zv nFS];exact Zc,.nil,rfl,(fun f hf=>nomatch hf),⟨[],Zc,Nat.le_refl _,fun d v z=>nomatch z⟩,sF.trans sS⟩
  ·rintro i σ H1 _ ⟨v4,v5,v6,us,fs,rfl,_,_,_,_,_,s1⟩;exact SqL.of (s1 _ _ hl)
  ·rintro i x σ H1 hx ⟨v4,v5,v6,us,fs,rfl,hF1,pf,ef,wf,⟨ks,hS1,lks,st⟩,s1⟩;have hi:i<recs.length:=by
    have:=(List.getElem?_eq_some_iff.mp hx).1
    rwa [List.length_map] at this
   obtain⟨rc,rfl,erc⟩:∃rc,x=V.str rc/\recs[i]? =some rc:=by
    rw[List.getElem?_map] at hx
    cases e:recs[i]? with
    |none=>rw[e] at hx;cases hx
    |some y=>rw[e] at hx;exact⟨y,(Option.some.inj hx).symm,rfl⟩
   obtain⟨⟨g1,n,day⟩,hg,e1⟩:=List.mem_map.mp (sub rc (List.mem_of_getElem? erc));have e1:g1=rc:=e1;subst e1;obtain⟨pg,vg,hpg⟩:=Zky (Je (fun b xs e=>s1 _ _ e) pk) ok.one _ hg;have hk1:=s1 _ _ hk;have ha1:=s1 _ _ ha;have lfs:us.length<=900:=by
    have h1:=Paired.length pf;have h2:=congrArg List.length ef;rw[List.length_map,List.length_take] at h2
    omega
   refine⟨_,rfl,a,_,dx,_,_,rfl,ha1,T.cl_House,T.n_House_taken,ZdV ..,_,rfl,k,_,rfl,.inl ⟨kvs,Sum.inr g1,.inl hk1,rfl,vg.symm⟩,pg,_,_,_,rfl,rfl,SqT.of hpg,rfl, ?_⟩;refine(fun(rest:∀(σ':L2.St) (H2:Hp),σ'=[some (.ref a),some (.ref l),some (.ref Fd),some (.ref S),some (.str g1),some (.int day),v6]->H2 Fd=some (.lst us)->Paired (Zon H2) fs us->(∃ks:List (Key×V),H2 S=some (.dK ks)/\ks.length<=i+1/\(∀day v,YK ks (Sum.inl day)=some v->∃l,v=.ref l/\l≠Fd/\Xb H2 l (Jf s.ws day))/\YK ks (Sum.inl day)≠none)->ZS H H2->(_:L2.St->Hp->Prop) σ' H2)=>
    ⟨_,rfl,_,rfl,S,_,rfl,.inl ⟨ks,Sum.inl day,.inl hS1,rfl,rfl⟩,_,rfl,Xg (fun e=> ?yes) (fun e=>rest _ H1 rfl hF1 pf ⟨ks,hS1,by omega,st,fun z=>e (by rw[z];rfl)⟩ s1)⟩) ?rest
   case yes=>
    have lh:(s.ws.filter Za0).length<=s.ws.length:=List.length_filter_le _ _;refine⟨_,rfl,a,_,dx,_,_,rfl,ha1,T.cl_House,T.n_House_holdings,Zcf ..,_,rfl,h,s.ws.filter Za0,day,rfl,Yl s1 hh,by omega,fun C H2 hC s2 rc=> ?_⟩;have lu:(Ys (s.ws.filter Za0) day).length<=(s.ws.filter Za0).length:=List.length_filter_le _ _;refine⟨C,_,rfl,rc,by omega,fun L H3 hL s3 rl=> ?_⟩;have s23:=s2.trans s3;have hS3:=s23 _ _ hS1
    have hF3:=s23 _ _ hF1;have nLF:L≠Fd:=fun z=>by rw[z,s2 _ _ hF1] at hL;cases hL
    have kp:∀c u,c≠S->H3 c=some u->upd H3 S (.dK (JF ks (Sum.inl day) (.ref L))) c=some u:=fun c u n e=>by rw[Zv n];exact e
    have kt:∀c xs,H3 c=some (.tup xs)->upd H3 S (.dK (JF ks (Sum.inl day) (.ref L))) c=some (.tup xs):=fun c xs e=>kp c _ (Yt e hS3 (fun z=>nomatch z)) e;have krw:∀{p:Addr} {us:List Rw},Xb H3 p us->Xb (upd H3 S (.dK (JF ks (Sum.inl day) (.ref L)))) p us:=fun{p us} ⟨ds,e,pp⟩=>⟨ds,kp _ _ (Yt e hS3 (fun z=>nomatch z)) e,Xm kt pp⟩
    refine⟨_,rfl,_,rfl,S,_,rfl,ZiN.k (k:=Sum.inl day) hS3 (by omega),rest _ _ rfl (kp _ _ nFS hF3) (Zkz (fun b xs e=>kt _ _ (s23 _ _ e)) pf) ⟨JF ks (Sum.inl day) (.ref L),Zc,Nat.le_trans (Zq3 ks _ _) (by omega),fun d v ev=> ?_, ?_⟩ fun c u e=>kp c u (Zn e nS) (s23 _ _ (s1 _ _ e))⟩
    ·rw[Zfo] at ev
     by_cases z:(Sum.inl d:Key)=Sum.inl day
     ·rw[if_pos z] at ev
      obtain rfl:=Option.some.inj ev;obtain rfl:d=day:=by injection z
      exact⟨L,rfl,nLF,krw rl⟩
     ·rw[if_neg z] at ev
      obtain⟨l',e,nl,at_⟩:=st d v ev;exact⟨l',e,nl,krw (Yl s23 at_)⟩
    ·rw[Zfo,if_pos rfl];exact fun z=>nomatch z
   case rest=>
    rintro σ' H2 rfl hF2 pf2 ⟨ks2,hS2,lk2,st2,has⟩ s2;obtain⟨v,ev⟩:=Option.ne_none_iff_exists'.mp has;obtain⟨ly,rfl,nly,at_⟩:=st2 day v ev;obtain⟨ys,hy,py⟩:=at_;have m:g1∈os.map (·.1):=(oa.mem g1).mpr (ok.own _ hg);obtain⟨⟨xo,xl⟩,hxo,e2⟩:=List.mem_map.mp m;have e2:xo=g1:=e2;subst e2;obtain⟨zs,hz,pz⟩:=Yl s2 (oa.at_ _ hxo);have vo:=Zgr oa.one _ hxo;have lz:zs.length=(YQ s.ws xo).length:=Paired.length pz
    have lz2:(YQ s.ws xo).length<=s.ws.length:=List.length_filter_le _ _;have ly1:=Paired.length py;have rof:=Zii (r:=xo) (day:=day) ok.rows (by omega);have lyr:=rof.len;have elen:(XM s.ws xo day).length=(YQ s.ws xo).length+(Jf s.ws day).length:=List.length_append;have ha2:=s2 _ _ ha;refine⟨_,rfl,a,_,dx,_,_,rfl,ha2,T.cl_House,T.n_House_own,Zif ..,_,rfl,o,_,rfl,.inl ⟨okv os,Sum.inr xo,.inl (s2 _ _ ho),rfl,vo.symm⟩,_,rfl,_,rfl,S,_,rfl,.inl ⟨ks2,Sum.inl day,.inl hS2,rfl,ev.symm⟩,xl,ly,_,_,rfl,rfl,SqL.of hz,SqL.of hy,by rw[List.length_map,List.length_map];omega,fun R hR=> ?_⟩
    have s3:=Zg hR (o:=.lst (zs.map V.ref++ys.map V.ref));have hR3:Xb (upd H2 R (.lst (zs.map V.ref++ys.map V.ref))) R (XM s.ws xo day):=⟨zs++ys,by rw[Zc,List.map_append],ZfJ (Yz s3 pz) (Yz s3 py)⟩
    have hF3:=s3 _ _ hF2;generalize upd H2 R (.lst (zs.map V.ref++ys.map V.ref))=H3 at s3 hR3 hF3
    have s23:=s2.trans s3;refine⟨_,rfl,.inl ⟨rfl,_,SqL.of hF3⟩,_,rfl,_,rfl,a,_,dx,_,_,rfl,s23 _ _ ha,T.cl_House,T.n_House_book,ZfK ..,_,rfl,_,rfl,_,rfl,b,R,s.rs,XM s.ws xo day,xo,day,rfl,Zbt s23 hb,ok.bk,ok.lr,hR3,rof,fun ja j H4 hja0 s4 ⟨Lh,hja,_⟩ _ is=>⟨ja,_,_,_,rfl,rfl,SqT.of hja,rfl,show 2<=sizeLine from sl,fun tt htt=> ?_⟩⟩;have hF4:=s4 _ _ hF3;have s5:=Zg htt (o:=.tup [.str xo,.str j.word]);refine⟨Fd,_,V.ref tt,rfl,rfl,s5 _ _ hF4,by omega, ?_⟩
    have nF:Fd≠tt:=Zn hF4 htt;have kp:∀c u,c≠Fd->H4 c=some u->upd (upd H4 tt (.tup [.str xo,.str j.word])) Fd (.lst (us++[.ref tt])) c=some u:=fun c u n e=>by rw[Zv n,Zv (Zn e htt)];exact e
    have kt:∀c xs,H4 c=some (.tup xs)->upd (upd H4 tt (.tup [.str xo,.str j.word])) Fd (.lst (us++[.ref tt])) c=some (.tup xs):=fun c xs e=>kp c _ (Yt e hF4 (fun z=>nomatch z)) e;have s34:=s3.trans s4;refine⟨_,_,_,us++[.ref tt],fs++[(xo,j.word)],rfl,Zc,Paired.snoc (Zkz (fun b xs e=>kt _ _ (s34 _ _ e)) pf2) ⟨tt,rfl,by rw[Zv (Ne.symm nF),Zc]⟩,by rw[List.map_append,ef,List.take_add_one,erc];rfl,fun f hf=> ?_,⟨ks2,kp _ _ (Ne.symm nFS) (s34 _ _ hS2),lk2,fun d v ev2=> ?_⟩,fun c u e=>kp c u (Zn e hFd) (s34 _ _ (s2 _ _ e))⟩
    ·rcases List.mem_append.mp hf with old|new
     ·exact wf f old
     ·rw[List.mem_singleton.mp new];exact⟨n,day,hg,(ZjA is).word⟩
    ·obtain⟨l',e,nl,ds,hd',pd⟩:=st2 d v ev2;exact⟨l',e,nl,ds,kp _ _ nl (s34 _ _ hd'),Xm (fun c xs e=>kt _ _ (s34 _ _ e)) pd⟩
  ·rintro σ H1 ⟨v4,v5,v6,us,fs,rfl,hF1,pf,ef,wf,_,s1⟩;rw[List.length_map,List.take_length] at ef
   exact⟨_,rfl,q Fd us fs H1 hFd s1 hF1 pf ef wf⟩
theorem ZlG{o:Option Int}{m n:Nat}{x:Int}:(JS o m x≠"due"->m<=n->JS o n x=JS o m x)/\(JS o m x≠"held"->n<=m->JS o n x=JS o m x):=by
 cases o with
 |none=>exact⟨fun _ _=>rfl,fun _ _=>rfl⟩
 |some D=>
  show((if x<D then Str.ofString "kept" else if 0<m then Str.ofString "held" else Str.ofString "due")≠Str.ofString "due"->m<=n->(if x<D then Str.ofString "kept" else if 0<n then Str.ofString "held" else Str.ofString "due")=(if x<D then Str.ofString "kept" else if 0<m then Str.ofString "held" else Str.ofString "due"))/\((if x<D then Str.ofString "kept" else if 0<m then Str.ofString "held" else Str.ofString "due")≠Str.ofString "held"->n<=m->(if x<D then Str.ofString "kept" else if 0<n then Str.ofString "held" else Str.ofString "due")=(if x<D then Str.ofString "kept" else if 0<m then Str.ofString "held" else Str.ofString "due"))
  by_cases h:x<D
  ·simp only [if_pos h];exact⟨fun _ _=>trivial,fun _ _=>trivial⟩
  ·simp only [if_neg h]
   constructor
   ·intro a b
    by_cases g:0<m
    ·rw[if_pos g,if_pos (by omega)]
    ·rw[if_neg g] at a
     exact absurd rfl a
   ·intro a b
    by_cases g:0<m
    ·rw[if_pos g] at a
     exact absurd rfl a
    ·rw[if_neg g,if_neg (by omega)]
theorem Zoo{rs:List Sr}{ws:List Rw}{w:Rw}{r:Str}{day:Int}{z:Str}(no:Zaz r w=false)(h:Zgu rs ws r day z)
  (f:∀(o:Option Int) (line:List Str),z=JS o (YZ (Ys ws day) r line).length day->JS o (YZ (Ys (ws++[w]) day) r line).length day=z):Zgu rs (ws++[w]) r day z:=by
 have e:Ys (YQ (ws++[w]) r) day=Ys (YQ ws r) day:=by rw[ZaZ,no,if_neg Bool.false_ne_true,List.append_nil]
 obtain⟨a1,a2,a3⟩:=Zht (ws:=ws) (r:=r) (x:=day) (s:=day) rfl;obtain⟨b1,b2,b3⟩:=Zht (ws:=ws++[w]) (r:=r) (x:=day) (s:=day) rfl;rw[e] at b1 b2 b3
 rw[<-a1] at b1
 rw[<-a2] at b2
 rw[<-a3] at b3
 refine⟨fun y=>h.no (b1.symm.trans y),fun y=> ?_⟩;obtain⟨y0,r0,t,top,ow,ht,ez⟩:=h.yes (b1.symm.trans y);refine⟨y0,r0,t,by rw[b2];exact top,ow,ht, ?_⟩
 rw[b3];exact(f _ _ ez).symm
theorem Zr8(ws:List Rw)(w:Rw)(day:Int):Ys (ws++[w]) day=if w.day<=day then Ys ws day++[w] else Ys ws day:=by
 unfold Ys;rw[List.filter_append]
 by_cases h:w.day<=day
 ·simp[h]
 ·simp[h]
theorem Zop{us:List Rw}{w:Rw}{r:Str}{line:List Str}:(Za0 w=false->YZ (us++[w]) r line=YZ us r line)/\(ZbQ w=none->(YZ us r line).length<=(YZ (us++[w]) r line).length)/\(JX w=false->(YZ (us++[w]) r line).length<=(YZ us r line).length):=by
 have lf:XC (us++[w])=XC us++(match ZbQ w with|some h=>[h]|none=>[]):=ZgR;refine⟨fun h=> ?_,fun h=> ?_,fun h=> ?_⟩
 ·have l0:ZbQ w=none:=by cases w<;>first|rfl|cases h
  have s0:∀ls,Zcw ls w=false:=fun ls=>by cases w<;>first|rfl|cases h
  unfold YZ YD;rw[lf,l0,List.append_nil,List.filter_append,List.filter_cons_of_neg (by rw[s0];exact Bool.false_ne_true),List.filter_nil,List.append_nil]
 ·unfold YZ YD;rw[lf,h,List.append_nil,List.filter_append,List.filter_append,List.map_append,List.length_append];exact Nat.le_add_right _ _
 ·have s0:∀ls,Zcw ls w=false:=fun ls=>by cases w<;>first|rfl|cases h
  unfold YZ YD;rw[List.length_map,List.length_map,List.filter_append,List.filter_cons_of_neg (by rw[s0];exact Bool.false_ne_true),List.filter_nil,List.append_nil,lf,List.filter_filter,List.filter_filter,<-List.countP_eq_length_filter,<-List.countP_eq_length_filter]
  refine List.countP_mono_left fun x _ hx=> ?_;obtain⟨h1,h2⟩:=Bool.and_eq_true_iff.mp hx;refine Bool.and_eq_true_iff.mpr ⟨h1, ?_⟩;obtain⟨a,b,c,d,rfl⟩:=ZbT h2;have h2:a∉XC us++_:=of_decide_eq_true h2;exact decide_eq_true fun y=>h2 (List.mem_append_left _ y)
theorem ZmN{rs:List Sr}{ws:List Rw}{w:Rw}{r:Str}{day:Int}{z:Str}(no:Zaz r w=false)(h1:JX w=true->z≠"due")(h2:(ZbQ w).isSome=true->z≠"held")(h:Zgu rs ws r day z):Zgu rs (ws++[w]) r day z:=by
 refine Zoo no h fun o line ez=> ?_;rw[Zr8]
 by_cases le:w.day<=day
 ·rw[if_pos le];obtain⟨a1,a2,a3⟩:=Zop (us:=Ys ws day) (w:=w) (r:=r) (line:=line);cases w with
  |hold a b c d=>rw[(ZlG (n:=_)).1 (by rw[<-ez];exact h1 rfl) (a2 rfl),ez]
  |lift a d=>rw[(ZlG (n:=_)).2 (by rw[<-ez];exact h2 rfl) (a3 rfl),ez]
  |put a b c=>rw[a1 rfl,ez]
  |move a b c=>rw[a1 rfl,ez]
  |deed a b c=>rw[a1 rfl,ez]
 ·rw[if_neg le,ez]
theorem Zcj{b t o h r k w:Addr}{m:Str}(c:¬m="words"/\¬m="taken"/\¬m="run_days"/\¬m="holdings"/\¬m="own"/\¬m="told"/\¬m="book"):(fH b t o h r k w).lookup m=none:=by
 unfold fH;rw[Zz,if_neg c.1,Zz,if_neg c.2.1,Zz,if_neg c.2.2.1,Zz,if_neg c.2.2.2.1,Zz,if_neg c.2.2.2.2.1,Zz,if_neg c.2.2.2.2.2.1,Zz,if_neg c.2.2.2.2.2.2]
 rfl
theorem Yh.kinds{cn ca cl ce C a:Addr}{H:Hp}{s:Hs}{F:List Addr}:Yh cn ca cl ce C H a s F->Zjv H F
 |⟨dx,b,t,o,h,r,k,w,os,kvs,ha,hb,ht,ho,oa,hh,hr,hk,pk,hw,e,_,_⟩=>by
  subst e;exact ZgS ht ho (fun x hx=>⟨_,oa.at_ x hx⟩) hh hr hk hw
theorem Yh.same{cn ca cl ce C a:Addr}{H H':Hp}{s:Hs}{F:List Addr}(sm:ZS H H'):Yh cn ca cl ce C H a s F->Yh cn ca cl ce C H' a s F
 |⟨dx,b,t,o,h,r,k,w,os,kvs,ha,hb,ht,ho,oa,hh,hr,hk,pk,hw,e,nd,nb⟩=>
  ⟨dx,b,t,o,h,r,k,w,os,kvs,sm _ _ ha,Zbt sm hb,Yl sm ht,sm _ _ ho,⟨oa.one,oa.mem,fun x hx=>Yl sm (oa.at_ x hx)⟩,Yl sm hh,sm _ _ hr,sm _ _ hk,Je (fun b xs e=>sm _ _ e) pk,sm _ _ hw,e,nd,nb⟩
theorem Yh.ins{cn ca cl ce C a:Addr}{H:Hp}{s:Hs}{F:List Addr}:Yh cn ca cl ce C H a s F->∃dx b t o h r k w,H a=some (.ins C dx (fH b t o h r k w))/\H w=some (.dK (wkv s.wd))/\w∈F
 |⟨dx,b,t,o,h,r,k,w,os,kvs,ha,hb,ht,ho,oa,hh,hr,hk,pk,hw,e,nd,nb⟩=>⟨dx,b,t,o,h,r,k,w,ha,hw,by rw[e];simp⟩
structure ZcS (s:Hs):Prop where
 keys:s.wd.map (·.1)=s.gs.map (·.1)
 ok:∀f∈s.wd,Zkx s f
def Zj7(wd:List (Str×Str))(f:Str×Str):List (Str×Str):=wd.map fun x=>if x.1=f.1 then(x.1,f.2) else x
theorem Zoq(wd:List (Str×Str))(f:Str×Str):(Zj7 wd f).map (·.1)=wd.map (·.1):=by
 unfold Zj7;rw[List.map_map];refine List.map_congr_left fun x _=> ?_;show(if x.1=f.1 then(x.1,f.2) else x).1=x.1
 split<;>rfl
theorem Zq4{wd:List (Str×Str)}{f:Str×Str}(m:f.1∈wd.map (·.1)):JF (wkv wd) (Sum.inr f.1) (.str f.2)=wkv (Zj7 wd f):=by
 unfold JF;rw[Zak,Zev,if_pos (decide_eq_true m)];unfold wkv Zj7;rw[List.map_map,List.map_map];refine List.map_congr_left fun x _=> ?_;show(if(Sum.inr x.1:Key)=Sum.inr f.1 then((Sum.inr x.1:Key),V.str f.2) else(Sum.inr x.1,V.str x.2))=(Sum.inr (if x.1=f.1 then(x.1,f.2) else x).1,V.str (if x.1=f.1 then(x.1,f.2) else x).2)
 by_cases e:x.1=f.1
 ·rw[if_pos (by rw[e]),if_pos e]
 ·rw[if_neg (by exact fun z=>e (by injection z)),if_neg e]
theorem Znt:∀{wd:List (Str×Str)},(wd.map (·.1)).Nodup->∀x∈wd,YK (wkv wd) (Sum.inr x.1)=some (.str x.2)
 |[],_,x,h=>nomatch h
 |y::wd,nd,x,h=>by
  rw[List.map_cons] at nd
  obtain⟨off,rest⟩:=List.nodup_cons.mp nd;cases h with
  |head=>exact YH rfl
  |tail _ m=>
   have ne:¬(Sum.inr y.1:Key)=Sum.inr x.1:=fun z=>off (List.mem_map.mpr ⟨x,m,by injection z with z;exact z.symm⟩)
   exact(YC (p:=(Sum.inr y.1,V.str y.2)) ne).trans (Znt rest x m)
def ZaK(wd fs:List (Str×Str)):List (Str×Str):=fs.foldl Zj7 wd
theorem Zb0:∀(fs wd:List (Str×Str)),(ZaK wd fs).map (·.1)=wd.map (·.1)
 |[],_=>rfl
 |f::fs,wd=>(Zb0 fs (Zj7 wd f)).trans (Zoq wd f)
theorem Zq5{wd:List (Str×Str)}{f x:Str×Str}(h:x∈Zj7 wd f):(x.1=f.1/\x.2=f.2)\/(x∈wd/\¬x.1=f.1):=by
 obtain⟨y,hy,e⟩:=List.mem_map.mp h
 by_cases z:y.1=f.1
 ·rw[if_pos z] at e
  exact .inl ⟨by rw[<-e];exact z,by rw[<-e]⟩
 ·rw[if_neg z] at e
  exact .inr ⟨e▸hy,e▸z⟩
theorem Zik:∀{fs wd:List (Str×Str)} {x:Str×Str},x∈ZaK wd fs->x∈fs\/(x∈wd/\x.1∉fs.map (·.1))
 |[],wd,x,h=> .inr ⟨h,fun z=>nomatch z⟩
 |f::fs,wd,x,h=>by
  rcases Zik (fs:=fs) (wd:=Zj7 wd f) h with a|⟨a,b⟩
  ·exact .inl (List.mem_cons_of_mem _ a)
  ·rcases Zq5 a with ⟨c,d⟩|⟨c,d⟩
   ·exact .inl (by rw[show x=f from Prod.ext c d];exact List.mem_cons_self ..)
   ·exact .inr ⟨c,fun z=>by
     rw[List.map_cons] at z
     exact(List.mem_cons.mp z).elim d b⟩
def Zas(wd:List (Str×Str))(f:Str×Str):Bool:=decide ((f.1,Str.ofString "due")∈wd)&& !decide (f.2=Str.ofString "due")
def Zat(wd fs:List (Str×Str)):List Str:=(fs.filter (Zas wd)).map (·.1)
theorem ZkA:(Str.ofString "abcdefghijklmnopqrstuvwxyz").length=26:=by decide+kernel
theorem ZlH{c:Bool}{A B:Prop}(hb:¬c=true->B)(ha:c=true->A):if c=true then A else B:=Xg ha hb
theorem Zr9:∀k<26,(Str.ofString "abcdefghijklmnopqrstuvwxyz").cps.toList[k]? =some (97+k):=by decide+kernel
theorem Zq6{i:Int}(h0:0<=i)(h1:i<26):atI (Str.ofString "abcdefghijklmnopqrstuvwxyz").cps.toList i=some (97+i.toNat):=by
 have l:(Str.ofString "abcdefghijklmnopqrstuvwxyz").cps.toList.length=26:=by rw[Array.length_toList];exact ZkA
 unfold atI ixN;rw[if_pos h0,l,if_pos (by omega)];exact Zr9 i.toNat (by omega)
theorem ZjB(f:Nat->Nat):∀l:List Nat,((l.map fun j=>(⟨#[f j]⟩:Str)).map cs).flatten=l.map f
 |[]=>rfl
 |j::l=>by
  rw[List.map_cons,List.map_cons,List.flatten_cons,ZjB f l,Zp0]
  rfl
theorem ZlI(f:Nat->Nat):∀l:List Nat,((l.map fun j=>(⟨#[f j]⟩:Str)).map (·.length)).sum=l.length
 |[]=>rfl
 |j::l=>by
  rw[List.map_cons,List.map_cons,List.sum_cons,ZlI f l,List.length_cons];show 1+_=_;omega
theorem YB:ZX ["_law_cell","_law_k","_law_letters","_law_size","_law_at","_law_way","_law_name","_law_j","_law_place"] ["_law_cell","_law_k"] (ZG Zcq):=⟨rfl,rfl,rfl,by decide+kernel,rfl,by decide+kernel,by decide+kernel⟩
theorem Zil{f:Addr}{fd:FuncData}(F:Fun K "_law_name_by" "_law_name_by" Zcq f fd)(T:Txt K mg Zk Zi Zj Zb Zt Zr ZM Zw ZC Zx ZD Ze Zd Zf Zq ZF ZP):Yy P w K mg base CX0 1 f fd ["_law_cell","_law_k"] Xz:=by
 refine F.ok YB (fun vs H Q E h=> ?_) (fun cdv A outer s H vs Q E hr h=> ?_)
 ·obtain⟨n,k,rfl,_⟩:=h
  rfl
 ·obtain⟨n,k,rfl,q⟩:=h;have l5:=Xd;have m1:=Int.emod_nonneg n (show(12:Int)≠0 by decide);have m2:=Int.emod_lt_of_pos n (show(0:Int)<12 by decide);have m3:=Int.emod_nonneg k (show(12:Int)≠0 by decide);have m4:=Int.emod_lt_of_pos k (show(0:Int)<12 by decide);have q:∀z:Str,cs z=Zfz n k->∀H',ZS H H'->Q (.str z) H':=fun z e H' s=>by
   have e:z=Zbn n k:=ext (e.trans (ZfA n k).symm);rw[e];exact q H' s
  unfold Zfz at q
  refine⟨_,(Zh (ZK (i:=2) YB.nd rfl (Or.inr rfl) ZR) (Zh (ZK (i:=3) YB.nd rfl (Or.inl rfl) (ZQ Jy Zo (ZQ Yo (pv 0) Zo))) (Zh (ZK (i:=4) YB.nd rfl (Or.inl rfl) (ZQ Yo (ZQ Yx (pv 0) Zo) (pv 3))) (Zh (ZK (i:=5) YB.nd rfl (Or.inl rfl) (ZQ Yo (ZQ Yx (pv 0) Zo) Zo)) (Zh (Yj (Zy Yu (pv 5) Zo (ZL _)) (Zh (ZK (i:=3) YB.nd rfl (Or.inl rfl) (ZQ Jy Zo (ZQ Yo (pv 1) Zo))) (Zu (ZK (i:=4) YB.nd rfl (Or.inl rfl) Zo))) ZW) (Zh (Yj (Zy Yu (pv 5) Zo (ZL _)) (Zu (ZJ (Zaj PySem.F.plainAttrs_str PySem.F.slot_str_join PySem.F.type_str_join ZnN ZR (Za (Jz ["_law_j"] [("_law_letters",2),("_law_k",1),("_law_cell",0)] rfl (ZcH rfl T.z_range (Za Zo Zm)) (by rfl) (by exact⟨rfl,⟨rfl,⟨rfl,trivial⟩⟩⟩) (by rfl) (by exact⟨⟨rfl,rfl,rfl⟩,⟨⟨rfl,rfl,rfl⟩,⟨⟨rfl,rfl,rfl⟩,trivial⟩⟩⟩) (fun _ _ _ _=>(Yi (i:=0) (show(nmY ["_law_j"] [("_law_letters",2),("_law_k",1),("_law_cell",0)]).Nodup by decide+kernel) rfl (Or.inl rfl))) (fun _ _ _ _=>Zd2) (fun _ _ _ _=>(ZV ZjP (pv 1) (ZQ Jy (ZQ Yo (ZQ Jy (pv 0) (pv 2)) Zo) (ZQ Yo (ZQ Yx (pv 3) Zo) Zo)) (fun _ _=>rfl)))) Zm)))) ZW) (Zh (ZK (i:=6) YB.nd rfl (Or.inl rfl) ZR) (Zh (JV PassesOwn.never rfl (ZcH rfl T.z_range (Za (pv 3) Zm)) (Yi (i:=7) YB.nd rfl (Or.inl rfl)) (Zh (ZK (i:=8) YB.nd rfl (Or.inl rfl) (ZQ Jy (ZQ Jy (ZQ Yx (pv 0) (ZQ Jy (pv 7) Zo)) (ZQ Zbq (pv 7) (pv 7))) (ZQ Zbq (pv 1) (JQ ZcJ (by rfl) T.z_int ZhK (Za (Za5 Yu (pv 7) (pv 4) (ZL _)) Zm))))) (Zu (ZK (i:=6) YB.nd rfl (Or.inl rfl) (ZQ ZeE (pv 6) (ZV ZjP (pv 2) (ZQ Yo (pv 8) Zo) (fun _ _=>rfl))))))) (Zu (ZJ (pv 6))))))))))), ?_⟩
  refine(vI rfl (by show(0:Int)<12;decide) ⟨_,_,rfl,rfl, ?_⟩)
  refine(vI rfl ⟨by decide,by decide⟩ ⟨_,rfl,_,_,rfl,rfl,(by show 0<1+n%12;omega), ?_⟩)
  refine(vI rfl ⟨by decide,by decide⟩ ⟨_,_,rfl,rfl,(by show(0:Int)<3;decide), ?_⟩)
  refine(fun(rest:∀σ':L2.St,(∃sz at_:Int,1<=sz/\sz<=12/\(n/144%3=0->sz=1+k%12/\at_=12)/\(¬n/144%3=0->sz=1+n%12/\at_=n/12%(1+n%12))/\σ'=[some (.int n),some (.int k),some (.str (Str.ofString "abcdefghijklmnopqrstuvwxyz")),some (.int sz),some (.int at_),some (.int (n/144%3)),none,none,none])->(_:L2.St->Hp->Prop) σ' H)=>
   ⟨_,rfl,rfl,_,rfl,ZlH (fun e=>rest _ ⟨1+n%12,_,by omega,by omega,fun z=>absurd (decide_eq_true (congrArg V.int z)) e,fun _=>⟨rfl,rfl⟩,rfl⟩) (fun e=>(vI rfl (by show(0:Int)<12;decide) ⟨_,_,rfl,rfl,rest _ ⟨1+k%12,12,by omega,by omega,fun _=>⟨rfl,rfl⟩,fun z=>absurd (by injection of_decide_eq_true e) z,rfl⟩⟩))⟩) ?rest
  case rest=>
   rintro σ' ⟨sz,at_,p1,p2,ez,enz,rfl⟩;refine⟨_,rfl,rfl,_,rfl,Xg (fun e=> ?_) (fun e=> ?_)⟩
   ·have e:n/144%3=1:=by injection of_decide_eq_true e
    rw[if_pos e] at q
    refine⟨rfl,12,rfl,by decide,by decide,Jk 12 (fun j=>[V.str ⟨#[ZdN n k j]⟩]) (by omega) (fun j=>Nat.le_refl 1) (fun j H2 s2 lt=>lt) (fun H2 s2=>Nat.le_refl _) (fun j y H2 H3 s2 lt yl RT RF rt rf=> ?_) fun D H2 hD s2 d2=> ?_⟩
    ·obtain⟨rfl,rfl⟩:=yl;have a1:=Int.emod_nonneg (0+(j:Int)+k) (show(12:Int)≠0 by decide);have a2:=Int.emod_lt_of_pos (0+(j:Int)+k) (show(0:Int)<12 by decide);have a3:=Int.emod_nonneg (n/432) (show(14:Int)≠0 by decide);have a4:=Int.emod_lt_of_pos (n/432) (show(0:Int)<14 by decide);have ec:=Zq6 (i:=(0+(j:Int)+k)%12+n/432%14) (by omega) (by omega);refine⟨⟨rfl,rfl,rfl,trivial⟩,Zla ?_⟩;refine⟨_,rfl,_,rfl,_,rfl,_,_,rfl,rfl,_,_,rfl,rfl,(by show(0:Int)<12;decide),vI rfl ⟨by decide,by decide⟩ ⟨_,_,rfl,rfl,(by show(0:Int)<14;decide),_,_,rfl,rfl,_,_,_,rfl,rfl, ?_,ec,rt _ _ ?_ (ZS.refl _)⟩⟩
     ·rw[ZkA];omega
     ·unfold ZdN;rw[show(0:Int)+(j:Int)=(j:Int) by omega]
    ·rw[JG] at d2
     have d3:H2 D=some (.lst (((List.range 12).map fun j=>(⟨#[ZdN n k j]⟩:Str)).map V.str)):=by rw[d2,List.map_map];rfl
     refine⟨Str.empty,D,(List.range 12).map fun j=>(⟨#[ZdN n k j]⟩:Str),rfl,rfl,SqL.of d3, ?_,q _ ?_ H2 s2⟩
     ·rw[ZlI,List.length_map,List.length_range]
      decide
     ·rw[Zpc,ZjB]
   ·have e:¬n/144%3=1:=fun z=>e (decide_eq_true (congrArg V.int z));rw[if_neg e] at q
    refine⟨_,rfl,_,rfl,by omega,by omega,Zeb (fun i σ H'=>∃(x:Str) (s3 s5 v v8:Option V),σ=[some (.int n),some (.int k),some (.str (Str.ofString "abcdefghijklmnopqrstuvwxyz")),s3,some (.int at_),s5,some (.str x),v,v8]/\cs x=(List.range i).map (ZcL n k at_)/\H'=H) ?_ ?_ ?_⟩
    ·exact⟨Str.empty,_,_,none,none,rfl,rfl,rfl⟩
    ·rintro i σ H1 hi ⟨x,s3,s5,v,v8,rfl,hc,rfl⟩;have hi':(i:Int)<12:=by omega
     have lx:x.length=i:=by rw[Zg9,hc,List.length_map,List.length_range]
     have ib:Builtin.Int.intBits (0+(i:Int))<=64:=intBits_le_64 (by omega) (by omega);refine⟨_,rfl,_,rfl,_,_,rfl,rfl,_,_,rfl,rfl,⟨by omega,by omega⟩,_,rfl,_,rfl,_,_,rfl,rfl,IntMulOk.of_left ib,_,_,rfl,rfl,_,rfl,_,rfl,_,rfl,rfl,.inr ⟨_,rfl,_,_,rfl,rfl,IntMulOk.of_right (intBits_le_64 (by split<;>decide) (by split<;>decide)),_,_,rfl,rfl, ?_⟩⟩
     have ec:=Zq6 (i:=(n/(0+(i:Int)+3)+(0+(i:Int))*(0+(i:Int))+k*if decide (V.int (0+(i:Int))=V.int at_)=true then 1 else 0)%26) (Int.emod_nonneg _ (by decide)) (Int.emod_lt_of_pos _ (by decide));refine⟨_,rfl,_,rfl,vI rfl (by show(0:Int)<26;decide) ⟨_,_,_,rfl,rfl, ?_,ec,_,_,rfl,rfl, ?_, ?_⟩⟩
     ·rw[ZkA];omega
     ·show x.length+1<=sizeLine;omega
     ·refine⟨_,_,_,_,_,rfl, ?_,rfl⟩;rw[ZjY,Zp0,hc,List.range_succ,List.map_append]
      congr 1
      show[97+_]=[ZcL n k at_ i];unfold ZcL;rw[show(0:Int)+(i:Int)=(i:Int) by omega]
      by_cases z:(i:Int)=at_
      ·rw[if_pos z,if_pos (decide_eq_true (congrArg V.int z))]
      ·rw[if_neg z,if_neg (fun w=>z (by injection of_decide_eq_true w))]
    ·rintro σ H1 ⟨x,s3,s5,v,v8,rfl,hc,rfl⟩;refine⟨_,rfl,q x ?_ _ (ZS.refl _)⟩
     by_cases z:n/144%3=0
     ·obtain⟨rfl,rfl⟩:=ez z;rw[if_pos z];exact hc
     ·obtain⟨rfl,rfl⟩:=enz z;rw[if_neg z];exact hc
theorem Ju.same{H H':Hp}(s:ZS H H'):∀{t:Tr} {a:Addr},Ju H t a->Ju H' t a
 | .never,a,h=>s _ _ h
 | .after k d,a,h=>s _ _ h
 | .later x y,a,⟨p,q,h,h1,h2⟩=>⟨p,q,s _ _ h,h1.same s,h2.same s⟩
 | .earlier x y,a,⟨p,q,h,h1,h2⟩=>⟨p,q,s _ _ h,h1.same s,h2.same s⟩
theorem w1:¬V.str (Str.ofString "after")=V.str (Str.ofString "never"):=by decide+kernel
theorem w2:¬V.str (Str.ofString "later")=V.str (Str.ofString "never"):=by decide+kernel
theorem w3:¬V.str (Str.ofString "earlier")=V.str (Str.ofString "never"):=by decide+kernel
theorem w4:¬V.str (Str.ofString "later")=V.str (Str.ofString "after"):=by decide+kernel
theorem w5:¬V.str (Str.ofString "earlier")=V.str (Str.ofString "after"):=by decide+kernel
theorem w6:¬V.str (Str.ofString "earlier")=V.str (Str.ofString "later"):=by decide+kernel
theorem ZlJ:ZX ["_law_tree"] ["_law_tree"] (ZG ZeN):=⟨rfl,rfl,rfl,by decide+kernel,rfl,by decide+kernel,by decide+kernel⟩
theorem ZlK{f:Addr}{fd:FuncData}(F:Fun K "_law_made" "_law_made" ZeN f fd)(T:Txt K mg Zk Zi Zj Zb Zt Zr ZM Zw ZC Zx ZD Ze Zd Zf Zq ZF ZP)(n:Nat)(JK:Cal P w K mg base CX0 (3+n+1) "_law_made" ["_law_tree"] (ZaV Zk Zi Zj Zb n))(ZkB:Cal P w K mg base CX0 3 "after" ["kind","days"] (Zi7 Zk Zi Zj Zb))(Zgv:Cal P w K mg base CX0 3 "earlier" ["one","other"] (ZeQ Zk Zi Zj Zb))(ZkC:Cal P w K mg base CX0 3 "later" ["one","other"] (Zi8 Zk Zi Zj Zb))(ZkD:Cal P w K mg base CX0 1 "never" [] (Zi6 Zk Zi Zj Zb)):Yy P w K mg base CX0 (3+n+1+1) f fd ["_law_tree"] (ZaV Zk Zi Zj Zb (n+1)):=by
 refine F.ok ZlJ (fun vs H Q E h=> ?_) (fun cdv A outer s H vs Q E hr h=> ?_)
 ·obtain⟨a,t,rfl,_⟩:=h
  rfl
 ·obtain⟨a,t,rfl,ht,hd,q⟩:=h;refine⟨_,(Zh (Yj (Zy Yu (ZV ZZ (pv 0) Zo (fun _ _=>rfl)) ZR (ZL _)) (Zu (ZJ (ZrL ZkD (hr.mono (by omega)) rfl Yc))) ZW) (Zh (Yj (Zy Yu (ZV ZZ (pv 0) Zo (fun _ _=>rfl)) ZR (ZL _)) (Zu (ZJ (Ym ZkB (hr.mono (by omega)) rfl Yc (Za (ZV ZZ (pv 0) Zo (fun _ _=>rfl)) (Za (ZV ZZ (pv 0) Zo (fun _ _=>rfl)) Zm))))) ZW) (Zh (Yj (Zy Yu (ZV ZZ (pv 0) Zo (fun _ _=>rfl)) ZR (ZL _)) (Zu (ZJ (Ym ZkC (hr.mono (by omega)) rfl Yc (Za (Ym JK (hr.mono (by omega)) rfl Yc (Za (ZV ZZ (pv 0) Zo (fun _ _=>rfl)) Zm)) (Za (Ym JK (hr.mono (by omega)) rfl Yc (Za (ZV ZZ (pv 0) Zo (fun _ _=>rfl)) Zm)) Zm))))) ZW) (Zu (ZJ (Ym Zgv (hr.mono (by omega)) rfl Yc (Za (Ym JK (hr.mono (by omega)) rfl Yc (Za (ZV ZZ (pv 0) Zo (fun _ _=>rfl)) Zm)) (Za (Ym JK (hr.mono (by omega)) rfl Yc (Za (ZV ZZ (pv 0) Zo (fun _ _=>rfl)) Zm)) Zm)))))))), ?_⟩
  cases t with
  |never=>
   have ha:H a=some _:=ht;exact(ixT rfl (SqT.of ha) rfl ⟨rfl,_,rfl,Zam rfl ⟨rfl,fun p H' s _ t=>q p H' s t⟩⟩)
  |after k d=>
   have ha:H a=some _:=ht;refine(ixT rfl (SqT.of ha) rfl ⟨rfl,_,rfl,Xj w1 (ixT rfl (SqT.of ha) rfl ⟨rfl,_,rfl,Zam rfl ?_⟩)⟩);exact(ixT rfl (SqT.of ha) rfl (ixT rfl (SqT.of ha) rfl ⟨k,d,rfl,fun p H' s _ t=>q p H' s t⟩))
  |later x y=>
   obtain⟨p1,p2,ha,t1,t2⟩:=ht;have hdeep:max x.deep y.deep+1<n+1:=hd;refine(ixT rfl (SqT.of ha) rfl ⟨rfl,_,rfl,Xj w2 (ixT rfl (SqT.of ha) rfl ⟨rfl,_,rfl,Xj w4 (ixT rfl (SqT.of ha) rfl ⟨rfl,_,rfl,Zam rfl ?_⟩)⟩)⟩);refine(ixT rfl (SqT.of ha) rfl ⟨p1,x,rfl,t1,by omega,fun m1 H1 s1 tm1=> ?_⟩);refine(ixT rfl (SqT.of (s1 _ _ ha)) rfl ⟨p2,y,rfl,t2.same s1,by omega,fun m2 H2 s2 tm2=> ?_⟩);exact⟨m1,m2,x,y,rfl,tm1.same s2,tm2,fun p H3 s3 _ t3=>q p H3 (s1.trans (s2.trans s3)) t3⟩
  |earlier x y=>
   obtain⟨p1,p2,ha,t1,t2⟩:=ht;have hdeep:max x.deep y.deep+1<n+1:=hd;refine(ixT rfl (SqT.of ha) rfl ⟨rfl,_,rfl,Xj w3 (ixT rfl (SqT.of ha) rfl ⟨rfl,_,rfl,Xj w5 (ixT rfl (SqT.of ha) rfl ⟨rfl,_,rfl,Xj w6 ?_⟩)⟩)⟩);refine(ixT rfl (SqT.of ha) rfl ⟨p1,x,rfl,t1,by omega,fun m1 H1 s1 tm1=> ?_⟩);refine(ixT rfl (SqT.of (s1 _ _ ha)) rfl ⟨p2,y,rfl,t2.same s1,by omega,fun m2 H2 s2 tm2=> ?_⟩);exact⟨m1,m2,x,y,rfl,tm1.same s2,tm2,fun p H3 s3 _ t3=>q p H3 (s1.trans (s2.trans s3)) t3⟩
theorem Zsk(k:Int)(h0:0<=k)(h1:k<3):∃m u:Int,atI [V.int 40,.int 12,.int 9] k=some (.int m)/\atI [V.int 1,.int 30,.int 360] k=some (.int u)/\0<m/\m<=40/\0<=u/\u<=360:=by
 have e:k=0\/k=1\/k=2:=by omega
 rcases e with rfl|rfl|rfl
 ·exact⟨40,1,rfl,rfl,by decide,by decide,by decide,by decide⟩
 ·exact⟨12,30,rfl,rfl,by decide,by decide,by decide,by decide⟩
 ·exact⟨9,360,rfl,rfl,by decide,by decide,by decide,by decide⟩
theorem ZcT:ZX ["_law_cell","_law_way"] ["_law_cell"] (ZG Zb7):=⟨rfl,rfl,rfl,by decide+kernel,rfl,by decide+kernel,by decide+kernel⟩
theorem Zgw{f:Addr}{fd:FuncData}(F:Fun K "_law_length_by" "_law_length_by" Zb7 f fd)(T:Txt K mg Zk Zi Zj Zb Zt Zr ZM Zw ZC Zx ZD Ze Zd Zf Zq ZF ZP):Yy P w K mg base CX0 1 f fd ["_law_cell"] ZaF:=by
 refine F.ok ZcT (fun vs H Q E h=> ?_) (fun cdv A outer s H vs Q E hr h=> ?_)
 ·obtain⟨c,rfl,_⟩:=h
  rfl
 ·obtain⟨c,rfl,q⟩:=h;have l5:=Xd;have m0:=Int.emod_nonneg c (show(4:Int)≠0 by decide);have m1:=Int.emod_lt_of_pos c (show(0:Int)<4 by decide);refine⟨_,(Zh (ZK (i:=1) ZcT.nd rfl (Or.inl rfl) (ZQ Yo (pv 0) Zo)) (Zh (Yj (Zy Yu (pv 1) Zo (ZL _)) (Zu (ZJ (ZQ Yo (ZQ Zbq (ZQ Yx (pv 0) Zo) Zo) (ZQ ZrE Zo Zo)))) ZW) (Zu (ZJ (ZQ Zbq (ZQ Yo (ZQ Yx (pv 0) Zo) (ZV Xq (Yq (Za Zo (Za Zo (Za Zo Zm)))) (pv 1) (fun _ _=>rfl))) (ZV Xq (Yq (Za Zo (Za Zo (Za Zo Zm)))) (pv 1) (fun _ _=>rfl))))))), ?_⟩
  refine(vI rfl (by show(0:Int)<4;decide) (vEq rfl rfl (Xg (fun e=> ?_) (fun e=> ?_))))
  ·refine(vI rfl ⟨by decide,by decide⟩ ⟨_,_,rfl,rfl,IntMulOk.of_right (intBits_le_64 (by decide) (by decide)),_,_,rfl,rfl,Zsg (by decide) (by decide),_,_,rfl,rfl,pow_pos _, ?_⟩);have p40:(0:Int)<10^(40:Int).toNat:=pow_pos _;exact q _ H (Int.emod_nonneg _ (Int.ne_of_gt p40)) (Int.emod_lt_of_pos _ p40) (ZS.refl H)
  ·have e:¬c%4=3:=fun z=>e (decide_eq_true (by show V.int (c%4)=V.int 3;rw[z]))
   obtain⟨m,u,e1,e2,b1,b2,b3,b4⟩:=Zsk (c%4) m0 (by omega);refine(vI rfl ⟨by decide,by decide⟩ ⟨(show 3<=sizeLine from sl),fun p1 hp1=>⟨_,rfl,p1,_,_,_,rfl,rfl,SqL.of Zc,e1,_,_,rfl,rfl,b1,(show 3<=sizeLine from sl),fun p2 hp2=>⟨_,rfl,p2,_,_,_,rfl,rfl,SqL.of Zc,e2,_,_,rfl,rfl,IntMulOk.of_right (intBits_le_64 (by omega) (by omega)), ?_⟩⟩⟩);have d0:=Int.emod_nonneg (c/4) (Int.ne_of_gt b1);have d1:=Int.emod_lt_of_pos (c/4) b1
   have p:(14400:Int)<10^40:=by decide+kernel
   have z1:0<=c/4%m*u:=Int.mul_nonneg d0 b3;have z2:c/4%m*u<=40*360:=Int.mul_le_mul (by omega) b4 b3 (by decide);exact q _ _ z1 (by omega) ((Zg hp1).trans (Zg hp2))
theorem Ju.keep{H H':Hp}(s:∀b xs,H b=some (.tup xs)->H' b=some (.tup xs)):∀{t:Tr} {a:Addr},Ju H t a->Ju H' t a
 | .never,a,h=>s _ _ h
 | .after k d,a,h=>s _ _ h
 | .later x y,a,⟨p,q,h,h1,h2⟩=>⟨p,q,s _ _ h,h1.keep s,h2.keep s⟩
 | .earlier x y,a,⟨p,q,h,h1,h2⟩=>⟨p,q,s _ _ h,h1.keep s,h2.keep s⟩
structure Stk (H:Hp) (S:Addr) (ts:List (Tr×Addr)):Prop where
 at_:H S=some (.lst (ts.map fun t=>V.ref t.2))
 all:∀t∈ts,Ju H t.1 t.2
 gd:∀t∈ts,t.1.good
def Zgx(ts:List (Tr×Addr)):Nat:=(ts.map fun t=>t.1.cnt).sum
theorem Stk.same{H H':Hp}{S:Addr}{ts:List (Tr×Addr)}(h:Stk H S ts)(s:ZS H H'):Stk H' S ts:=⟨s _ _ h.at_,fun t ht=>(h.all t ht).same s,h.gd⟩
theorem two_last{α:Type}(l:List α)(h:1<l.length):∃us x y,l=us++[x,y]:=by
 have hr:l.reverse.length=l.length:=List.length_reverse;cases e:l.reverse with
 |nil=>rw[e] at hr;simp at hr;omega
 |cons y r=>
  cases r with
  |nil=>rw[e] at hr;simp at hr;omega
  |cons x r=>
   refine⟨r.reverse,x,y, ?_⟩;have:=congrArg List.reverse e
   simpa using this
theorem Zra{α:Type}(us:List α)(y:α):(us++[y])[(us++[y]).length-1]? =some y:=by
 rw[List.length_append];simp
theorem Zor{α:Type}(us:List α)(y:α):(us++[y]).dropLast=us:=by simp
theorem ZdX(us ts:List (Tr×Addr)):Zgx (us++ts)=Zgx us+Zgx ts:=by
 unfold Zgx;rw[List.map_append,List.sum_append]
theorem Stk.push{H H':Hp}{S t:Addr}{us:List (Tr×Addr)}{z:Tr}(hu:∀u∈us,Ju H u.1 u.2)(kp:∀b xs,H b=some (.tup xs)->H' b=some (.tup xs))(hS:H' S=some (.lst (us.map (fun t=>V.ref t.2)++[.ref t])))(hz:Ju H' z t)(hg:∀u∈us,u.1.good)(gz:z.good):Stk H' S (us++[(z,t)]):=by
 refine⟨by rw[hS,List.map_append];rfl,fun u hm=> ?_,fun u hm=>(List.mem_append.mp hm).elim (hg u) fun m=>by rw[show u=(z,t) by simpa using m];exact gz⟩
 rcases List.mem_append.mp hm with m|m
 ·exact(hu u m).keep kp
 ·have e:u=(z,t):=by simpa using m
  rw[e];exact hz
theorem two_tree{H':Hp}{t:Addr}{x y:Tr×Addr}{w:Str}{z:Tr}(hx:Ju H' x.1 x.2)(hy:Ju H' y.1 y.2)(ht:H' t=some (.tup [.str w,.ref x.2,.ref y.2]))(hz:(w=Str.ofString "later"/\z=.later x.1 y.1)\/(w=Str.ofString "earlier"/\z=.earlier x.1 y.1)):
  Ju H' z t/\z.cnt=x.1.cnt+y.1.cnt/\(x.1.good->y.1.good->z.good):=by
 rcases hz with ⟨rfl,rfl⟩|⟨rfl,rfl⟩
 ·exact⟨⟨x.2,y.2,ht,hx,hy⟩,rfl,fun a b=>⟨a,b⟩⟩
 ·exact⟨⟨x.2,y.2,ht,hx,hy⟩,rfl,fun a b=>⟨a,b⟩⟩
theorem ZjC{H1:Hp}{S p t:Addr}{o1 o2 o3 o4 o5:HO}(hp:upd H1 S o1 p=none)(ht:upd (upd (upd H1 S o1) p o2) S o3 t=none):∀b u,b≠S->H1 b=some u->upd (upd (upd (upd (upd H1 S o1) p o2) S o3) t o4) S o5 b=some u:=fun b u n e=>by
 have e1:upd H1 S o1 b=some u:=by rw[Zv n];exact e
 have e2:upd (upd H1 S o1) p o2 b=some u:=by rw[Zv (Zn e1 hp)];exact e1
 have e3:upd (upd (upd H1 S o1) p o2) S o3 b=some u:=by rw[Zv n];exact e2
 rw[Zv n,Zv (Zn e3 ht)];exact e3
theorem Zq7{H1:Hp}{S t:Addr}{o3 o4 o5:HO}(ht:upd H1 S o3 t=none):upd (upd (upd H1 S o3) t o4) S o5 t=some o4:=by
 rw[Zv (Ne.symm (Zn Zc ht)),Zc]
theorem Zq8(k:Int)(h0:0<=k)(h1:k<2)(x y:Tr):∃(w:Str) (z:Tr),atI [V.str (Str.ofString "later"),.str (Str.ofString "earlier")] k=some (.str w)/\((w=Str.ofString "later"/\z=.later x y)\/(w=Str.ofString "earlier"/\z=.earlier x y)):=by
 have e:k=0\/k=1:=by omega
 rcases e with rfl|rfl
 ·exact⟨_,_,rfl,.inl ⟨rfl,rfl⟩⟩
 ·exact⟨_,_,rfl,.inr ⟨rfl,rfl⟩⟩
theorem Zsl:Nm (Str.ofString "put"):=by
 exact⟨by decide+kernel,by decide+kernel,by decide+kernel⟩
theorem Zsm(z:Str)(b:Bool)(hz:Nm z):∃w:Str,Nm w/\atI [V.str z,.str (Str.ofString "put")] (if b=true then 1 else 0)=some (.str w):=by
 cases b
 ·exact⟨z,hz,rfl⟩
 ·exact⟨_,Zsl,rfl⟩
theorem Zim:∀l:List (Tr×Addr),l.length<=Zgx l
 |[]=>Nat.zero_le _
 |t::r=>by
  have:=t.1.deep_cnt;have:=Zim r;show r.length+1<=t.1.cnt+Zgx r;omega
theorem Zrb{S:Addr}{H:Hp}{Q:VK}{us:List V}{y:V}(h:H S=some (.lst (us++[y])))(q:Q y (upd H S (.lst us))):ZsL (.ref S) [] H Q:=⟨S,_,y,rfl,rfl,h,Zra us y,by rw[Zor];exact q⟩
theorem Xn:ZX ["_law_cells","_law_names_by","_law_most","_law_some","_law_many","_law_cell","_law_other","_law_kind"] ["_law_cells","_law_names_by","_law_most"] (ZG Zcr):=⟨rfl,rfl,rfl,by decide+kernel,rfl,by decide+kernel,by decide+kernel⟩
theorem Zin{f:Addr}{fd:FuncData}(F:Fun K "_law_tree_by" "_law_tree_by" Zcr f fd)(T:Txt K mg Zk Zi Zj Zb Zt Zr ZM Zw ZC Zx ZD Ze Zd Zf Zq ZF ZP)(Zbe:Cal P w K mg base CX0 1 "_law_length_by" ["_law_cell"] ZaF)(Yk:Cal P w K mg base CX0 1 "_law_name_by" ["_law_cell","_law_k"] Xz):Yy P w K mg base CX0 2 f fd ["_law_cells","_law_names_by","_law_most"] ZbN:=by
 refine F.ok Xn (fun vs H Q E h=> ?_) (fun cdv A outer s H vs Q E hr h=> ?_)
 ·obtain⟨a,ns,b,mo,rfl,_⟩:=h
  rfl
 ·obtain⟨a,ns,b,mo,rfl,ha,hn,lo,hi_,q⟩:=h;have l5:=Xd;have hu3:=ZnQ hr;refine⟨_,(Zh (ZK (i:=3) Xn.nd rfl (Or.inl rfl) (Yq Zm)) (Zh (ZK (i:=4) Xn.nd rfl (Or.inl rfl) Zo) (Zh (JV PassesOwn.never rfl (Xc (pv 0)) (Yi (i:=5) Xn.nd rfl (Or.inl rfl)) (Zu (Yj (PW.pt (Jx (Zy Zfk (ZQ Yo (pv 5) Zo) Zo (ZL _)) (XH (Zy ZgM (Yb Zai (by rfl) T.z_len Zd3 (Za (pv 3) Zm)) Zo (ZL _))))) (Zh (ZK (i:=6) Xn.nd rfl (Or.inl rfl) (ZjS PySem.F.plainAttrs_list PySem.F.slot_list_pop PySem.F.type_list_pop ZjT (pv 3))) (Zu (Xv (Zaj PySem.F.plainAttrs_list PySem.F.slot_list_append PySem.F.type_list_append Xa (pv 3) (Za (YX (Za (ZV Xq (Yq (Za ZR (Za ZR Zm))) (ZQ Yo (pv 5) Zo) (fun _ _=>rfl)) (Za (ZjS PySem.F.plainAttrs_list PySem.F.slot_list_pop PySem.F.type_list_pop ZjT (pv 3)) (Za (pv 6) Zm)))) Zm))))) (Zu (Yj (Zy Zfk (pv 4) (pv 2) (ZL _)) (Zh (ZK (i:=4) Xn.nd rfl (Or.inl rfl) (ZQ Jy (pv 4) Zo)) (Zu (Yj (Zy Yu (ZQ Yo (ZQ Yx (pv 5) Zo) Zo) Zo (ZL _)) (Zu (Xv (Zaj PySem.F.plainAttrs_list PySem.F.slot_list_append PySem.F.type_list_append Xa (pv 3) (Za (YX (Za ZR Zm)) Zm)))) (Zh (ZK (i:=7) Xn.nd rfl (Or.inl rfl) (Ym Yk (hr.mono (by omega)) rfl Yc (Za (pv 1) (Za (ZQ Yo (ZQ Yx (pv 5) Zo) Zo) Zm)))) (Zu (Xv (Zaj PySem.F.plainAttrs_list PySem.F.slot_list_append PySem.F.type_list_append Xa (pv 3) (Za (YX (Za ZR (Za (ZV Xq (Yq (Za (pv 7) (Za ZR Zm))) (JQ ZcJ (by rfl) T.z_int ZhK (Za (Za5 Yu (ZQ Yo (ZQ Yx (pv 5) Zo) Zo) Zo (ZL _)) Zm)) (fun _ _=>rfl)) (Za (Ym Zbe (hr.mono (by omega)) rfl Yc (Za (ZQ Yx (pv 5) Zo) Zm)) Zm)))) Zm)))))))) ZW))))) (Zh (Yj (Zy (Zpf hu3) (pv 3) (Yq Zm) (ZL _)) (Zu (ZJ (YX (Za ZR Zm)))) ZW) (Zh (ZoE PassesOwn.never (Zy ZgM (Yb Zai (by rfl) T.z_len Zd3 (Za (pv 3) Zm)) Zo (ZL _)) (Zh (ZK (i:=6) Xn.nd rfl (Or.inl rfl) (ZjS PySem.F.plainAttrs_list PySem.F.slot_list_pop PySem.F.type_list_pop ZjT (pv 3))) (Zu (Xv (Zaj PySem.F.plainAttrs_list PySem.F.slot_list_append PySem.F.type_list_append Xa (pv 3) (Za (YX (Za (ZV Xq (Yq (Za ZR (Za ZR Zm))) (ZQ Yo (Yb Zai (by rfl) T.z_len Zd3 (Za (pv 3) Zm)) Zo) (fun _ _=>rfl)) (Za (ZjS PySem.F.plainAttrs_list PySem.F.slot_list_pop PySem.F.type_list_pop ZjT (pv 3)) (Za (pv 6) Zm)))) Zm)))))) (Zu (ZJ (ZV Xq (pv 3) Zo (fun _ _=>rfl))))))))), ?_⟩
  refine⟨Nat.zero_le _,fun S hS=>⟨_,rfl,a,rfl,⟨_,SqL.of (Zg hS _ _ ha)⟩,JD (xs:=ns.map V.int) (fun i σ H'=>∃(ts:List (Tr×Addr)) (m:Nat) (v5 v6 v7:Option V),σ=[some (.ref a),some (.int b),some (.int (mo:Int)),some (.ref S),some (.int (m:Int)),v5,v6,v7]/\Stk H' S ts/\Zgx ts=m/\m<=mo/\ZS H H') ?_ ?_ ?_ ?_⟩⟩
  ·exact⟨[],0,none,none,none,rfl,⟨Zc,(fun t ht=>nomatch ht),fun t ht=>nomatch ht⟩,rfl,Nat.zero_le _,Zg hS⟩
  ·rintro i σ H1 _ ⟨ts,m,v5,v6,v7,rfl,st,hc,hm,s1⟩;exact SqL.of (s1 _ _ ha)
  ·rintro i x σ H1 hx ⟨ts,m,v5,v6,v7,rfl,st,hc,hm,s1⟩;obtain⟨c,rfl⟩:∃c,x=V.int c:=by
    rw[List.getElem?_map] at hx
    cases q:ns[i]? with
    |none=>rw[q] at hx;cases hx
    |some c=>rw[q] at hx;cases hx;exact⟨c,rfl⟩
   have lts:ts.length<=mo:=by
    have:=Zim ts;omega
   have c0:=Int.emod_nonneg c (show(5:Int)≠0 by decide);refine(vI rfl (by show(0:Int)<5;decide) ⟨_,_,rfl,rfl,_,rfl, ?_⟩)
   refine(fun both=>Xg (fun e1=>⟨_,rfl,_,_,rfl,.inl ⟨_,SqL.of st.at_,rfl⟩,_,_,rfl,rfl,_,rfl,Xg (fun e2=> ?b1) (fun e2=>both)⟩) (fun e1=>Yw both)) ?b2
   case b1=>
    have e1:c%5<2:=of_decide_eq_true e1;have e2:(1:Int)<(((ts.map fun t=>V.ref t.2).length:Nat):Int):=of_decide_eq_true e2;rw[List.length_map] at e2
    obtain⟨us,x,y,rfl⟩:=two_last ts (by omega);obtain⟨w,z,ew,hz⟩:=Zq8 (c%5) c0 e1 x.1 y.1;have A1:H1 S=some (.lst ((us++[x]).map (fun t=>V.ref t.2)++[V.ref y.2])):=by rw[st.at_];simp
    refine⟨_,rfl,.inl ⟨rfl,_,SqL.of A1⟩,Zrb A1 ?_⟩;refine⟨_,rfl,.inl ⟨rfl,_,SqL.of Zc⟩,(show 2<=sizeLine from sl),fun p hp=> ?_⟩;have nSp:S≠p:=Zn Zc hp;have A2:upd (upd H1 S (.lst ((us++[x]).map fun t=>V.ref t.2))) p (.lst [.str (Str.ofString "later"),.str (Str.ofString "earlier")]) S=some (.lst (us.map (fun t=>V.ref t.2)++[V.ref x.2])):=by rw[Zv nSp,Zc];simp
    refine(vI rfl (by show(0:Int)<5;decide) ⟨p,_,_,_,rfl,rfl,SqL.of Zc,ew,_,rfl,.inl ⟨rfl,_,SqL.of A2⟩,Zrb A2 ?_⟩)
    refine⟨_,rfl,(show 3<=sizeLine from sl),fun t ht=> ?_⟩;have nSt:S≠t:=Zn Zc ht;refine⟨S,_,V.ref t,rfl,rfl,by rw[Zv nSt];exact Zc, ?_, ?_⟩
    ·rw[List.length_map];have:(us++[x,y]).length=us.length+2:=by simp
     omega
    ·have kp:=ZjC (o1:=.lst ((us++[x]).map fun t=>V.ref t.2)) (o2:=.lst [.str (Str.ofString "later"),.str (Str.ofString "earlier")]) (o3:=.lst (us.map fun t=>V.ref t.2)) (o4:=.tup [.str w,.ref x.2,.ref y.2]) (o5:=.lst (us.map (fun t=>V.ref t.2)++[.ref t])) hp ht;have kt:∀b xs,H1 b=some (.tup xs)->_:=fun b xs e=>kp b _ (Yt e st.at_ (fun z=>nomatch z)) e;obtain⟨tz,cz,gz⟩:=two_tree ((st.all x (by simp)).keep kt) ((st.all y (by simp)).keep kt) (Zq7 ht) hz
     refine⟨us++[(z,t)],m,_,_,_,rfl,Stk.push (fun u hu=>st.all u (List.mem_append_left _ hu)) kt Zc tz (fun u hu=>st.gd u (List.mem_append_left _ hu)) (gz (st.gd x (by simp)) (st.gd y (by simp))), ?_,hm,fun b u e=>kp b u (Zn e hS) (s1 b u e)⟩;rw[<-hc,ZdX,ZdX];show Zgx us+(z.cnt+0)=Zgx us+(x.1.cnt+(y.1.cnt+0));omega
   case b2=>
    refine⟨_,rfl,_,rfl,_,_,rfl,rfl,_,rfl,Xg (fun e3=> ?_) (fun e3=>⟨ts,m,_,_,_,rfl,st,hc,hm,s1⟩)⟩;have e3:(m:Int)<(mo:Int):=of_decide_eq_true e3;refine⟨_,rfl,_,_,rfl,rfl,vI rfl ⟨by decide,by decide⟩ ⟨_,_,rfl,rfl,(by show(0:Int)<11;decide),rfl,_,rfl,Xg (fun _=> ?_) (fun _=> ?_)⟩⟩
    ·refine⟨_,rfl,.inl ⟨rfl,_,SqL.of st.at_⟩,(show 1<=sizeLine from sl),fun t ht=> ?_⟩;have nSt:S≠t:=Zn st.at_ ht;refine⟨S,_,V.ref t,rfl,rfl,by rw[Zv nSt];exact st.at_,(by rw[List.length_map];omega), ?_⟩
     have kp:∀b u,b≠S->H1 b=some u->upd (upd H1 t (.tup [.str (Str.ofString "never")])) S (.lst (ts.map (fun t=>V.ref t.2)++[.ref t])) b=some u:=fun b u n e=>by
      rw[Zv n,Zv (Zn e ht)];exact e
     refine⟨ts++[(.never,t)],m+1,_,_,_,rfl,Stk.push st.all (fun b xs e=>kp b _ (Yt e st.at_ (fun z=>nomatch z)) e) Zc ?_ st.gd trivial, ?_,by omega,fun b u e=>kp b u (Zn e hS) (s1 b u e)⟩
     ·show upd _ S _ t=_;rw[Zv (Ne.symm nSt),Zc]
     ·rw[ZdX,hc]
      rfl
    ·refine⟨_,rfl,vI rfl ⟨by decide,by decide⟩ ⟨_,_,rfl,rfl,(by show(0:Int)<6;decide),_,_,rfl,fun H2 s2=> ?_⟩⟩
     have nz:=ZbM b (c/5%6);have st2:=st.same s2;refine⟨_,rfl,.inl ⟨rfl,_,SqL.of st2.at_⟩,_,rfl,(show 2<=sizeLine from sl),fun p hp=> ?_⟩;obtain⟨w,nw,ew⟩:=Zsm (Zbn b (c/5%6)) (decide (V.int (c/5%9)=V.int 4)) nz;refine(vI rfl ⟨by decide,by decide⟩ ⟨_,_,rfl,rfl,(by show(0:Int)<9;decide),rfl,.inr ⟨_,rfl,p,_,_,_,rfl,rfl,SqL.of Zc,ew, ?_⟩⟩)
     refine(vI rfl ⟨by decide,by decide⟩ ⟨_,rfl,fun d H4 d0 d1 s4=>⟨show 3<=sizeLine from sl,fun t ht=> ?_⟩⟩);have s24:=s2.trans ((Zg hp).trans s4);have st4:=st.same s24;have nSt:S≠t:=Zn st4.at_ ht;refine⟨S,_,V.ref t,rfl,rfl,by rw[Zv nSt];exact st4.at_,(by rw[List.length_map];omega), ?_⟩
     have kp:∀b u,b≠S->H4 b=some u->upd (upd H4 t (.tup [.str (Str.ofString "after"),.str w,.int d])) S (.lst (ts.map (fun t=>V.ref t.2)++[.ref t])) b=some u:=fun b u n e=>by
      rw[Zv n,Zv (Zn e ht)];exact e
     refine⟨ts++[(.after w d,t)],m+1,_,_,_,rfl,Stk.push st4.all (fun b xs e=>kp b _ (Yt e st4.at_ (fun z=>nomatch z)) e) Zc ?_ st4.gd ⟨nw,d0,d1⟩, ?_,by omega,fun b u e=>kp b u (Zn e hS) (s24 _ _ (s1 b u e))⟩
     ·show upd _ S _ t=_;rw[Zv (Ne.symm nSt),Zc]
     ·rw[ZdX,hc]
      rfl
  ·rintro σ H1 ⟨ts,m,v5,v6,v7,rfl,st,hc,hm,s1⟩;refine⟨_,rfl,Nat.zero_le _,fun D hD=>⟨S,D,_,rfl,rfl,SqL.of (Zg hD _ _ st.at_),SqL.of Zc,_,rfl,Xg (fun e=> ?_) (fun e=> ?_)⟩⟩
   ·exact⟨show 1<=sizeLine from sl,fun p hp=>q p .never _ (s1.trans ((Zg hD).trans (Zg hp))) Zc lo trivial⟩
   ·have ne:ts≠[]:=fun z=>e (decide_eq_true (by rw[z];rfl))
    refine⟨fun k σ H'=>∃(us:List (Tr×Addr)) (v5 v6 v7:Option V),σ=[some (.ref a),some (.int b),some (.int (mo:Int)),some (.ref S),some (.int (m:Int)),v5,v6,v7]/\Stk H' S us/\us≠[]/\Zgx us<=mo/\k=us.length/\ZS H H',⟨ts.length,ts,v5,v6,v7,rfl,st.same (Zg hD),ne,by omega,rfl,s1.trans (Zg hD)⟩, ?_⟩;rintro k σ H2 ⟨us,v5,v6,v7,rfl,st2,ne2,hc2,rfl,s2⟩;refine⟨_,rfl,_,_,rfl,.inl ⟨_,SqL.of st2.at_,rfl⟩,_,_,rfl,rfl,_,rfl,Xg (fun e=> ?_) (fun e=> ?_)⟩
    ·have e:(1:Int)<(((us.map fun t=>V.ref t.2).length:Nat):Int):=of_decide_eq_true e;rw[List.length_map] at e
     refine⟨fun σ' H'=>∃(us':List (Tr×Addr)) (v5 v6 v7:Option V),σ'=[some (.ref a),some (.int b),some (.int (mo:Int)),some (.ref S),some (.int (m:Int)),v5,v6,v7]/\Stk H' S us'/\us'≠[]/\Zgx us'<=mo/\us'.length<us.length/\ZS H H',
      fun σ' H' ⟨us',w5,w6,w7,e',st',ne',hc',hl',s'⟩=>⟨us'.length,hl',us',w5,w6,w7,e',st',ne',hc',rfl,s'⟩, ?_⟩
     obtain⟨vs,x,y,rfl⟩:=two_last us (by omega);have lv:(vs++[x,y]).length=vs.length+2:=by simp
     have lv2:vs.length<=1000:=by
      have:=Zim (vs++[x,y]);omega
     obtain⟨w,z,ew,hz⟩:=Zq8 ((((((vs++[x]).map fun t=>V.ref t.2).length:Nat):Int))%2) (Int.emod_nonneg _ (by decide)) (Int.emod_lt_of_pos _ (by decide)) x.1 y.1;have A1:H2 S=some (.lst ((vs++[x]).map (fun t=>V.ref t.2)++[V.ref y.2])):=by rw[st2.at_];simp
     refine⟨_,rfl,.inl ⟨rfl,_,SqL.of A1⟩,Zrb A1 ?_⟩;refine⟨_,rfl,.inl ⟨rfl,_,SqL.of Zc⟩,(show 2<=sizeLine from sl),fun p hp=> ?_⟩;have nSp:S≠p:=Zn Zc hp;have A2:upd (upd H2 S (.lst ((vs++[x]).map fun t=>V.ref t.2))) p (.lst [.str (Str.ofString "later"),.str (Str.ofString "earlier")]) S=some (.lst ((vs++[x]).map (fun t=>V.ref t.2))):=by rw[Zv nSp,Zc]
     have A3:upd (upd H2 S (.lst ((vs++[x]).map fun t=>V.ref t.2))) p (.lst [.str (Str.ofString "later"),.str (Str.ofString "earlier")]) S=some (.lst (vs.map (fun t=>V.ref t.2)++[V.ref x.2])):=by rw[A2];simp
     refine⟨_,rfl,_,_,rfl,.inl ⟨_,SqL.of A2,rfl⟩,_,_,rfl,rfl,(by show(0:Int)<2;decide),p,_,_,_,rfl,rfl,SqL.of Zc,ew,_,rfl,.inl ⟨rfl,_,SqL.of A3⟩,Zrb A3 ?_⟩
     refine⟨_,rfl,(show 3<=sizeLine from sl),fun t ht=> ?_⟩;have nSt:S≠t:=Zn Zc ht;refine⟨S,_,V.ref t,rfl,rfl,by rw[Zv nSt];exact Zc,(by rw[List.length_map];omega), ?_⟩
     have kp:=ZjC (o1:=.lst ((vs++[x]).map fun t=>V.ref t.2)) (o2:=.lst [.str (Str.ofString "later"),.str (Str.ofString "earlier")]) (o3:=.lst (vs.map fun t=>V.ref t.2)) (o4:=.tup [.str w,.ref x.2,.ref y.2]) (o5:=.lst (vs.map (fun t=>V.ref t.2)++[.ref t])) hp ht;have kt:∀b xs,H2 b=some (.tup xs)->_:=fun b xs e=>kp b _ (Yt e st2.at_ (fun z=>nomatch z)) e;obtain⟨tz,cz,gz⟩:=two_tree ((st2.all x (by simp)).keep kt) ((st2.all y (by simp)).keep kt) (Zq7 ht) hz
     refine⟨vs++[(z,t)],_,_,_,rfl,Stk.push (fun u hu=>st2.all u (List.mem_append_left _ hu)) kt Zc tz (fun u hu=>st2.gd u (List.mem_append_left _ hu)) (gz (st2.gd x (by simp)) (st2.gd y (by simp))),by simp, ?_,by rw[lv,List.length_append];show vs.length+1<_;omega,fun b u e=>kp b u (Zn e hS) (s2 b u e)⟩
     rw[ZdX] at hc2⊢
     have h2:Zgx vs+(x.1.cnt+(y.1.cnt+0))<=mo:=hc2;show Zgx vs+(z.cnt+0)<=mo;omega
    ·have e:¬(1:Int)<(((us.map fun t=>V.ref t.2).length:Nat):Int):=fun z=>e (decide_eq_true z);rw[List.length_map] at e
     obtain⟨t,rfl⟩:∃t,us=[t]:=by
      cases us with
      |nil=>exact absurd rfl ne2
      |cons t r=>
       cases r with
       |nil=>exact⟨t,rfl⟩
       |cons u r=>simp only [List.length_cons] at e;omega
     refine⟨_,rfl,S,_,_,V.ref t.2,rfl,rfl,SqL.of st2.at_,rfl,q t.2 t.1 H2 s2 (st2.all t (by simp)) ?_ (st2.gd t (by simp))⟩;have h2:t.1.cnt+0<=mo:=hc2;omega
theorem ZkE:ZX ["self","life"] ["self","life"] (ZG ZdJ):=⟨rfl,rfl,rfl,by decide+kernel,rfl,by decide+kernel,by decide+kernel⟩
theorem ZkF{f:Addr}{fd:FuncData}(F:Fun K "due" "Never.due" ZdJ f fd)(T:Txt K mg Zk Zi Zj Zb Zt Zr ZM Zw ZC Zx ZD Ze Zd Zf Zq ZF ZP)(n:Nat):Yy P w K mg base CX0 (0+n+1+1) f fd ["self","life"] (Zcv Zk Zi Zj Zb (n+1) Zk):=by
 refine F.ok ZkE (fun vs H Q E h=> ?_) (fun cdv A outer s H vs Q E hr h=> ?_)
 ·obtain⟨a,b,t,l,rfl,_⟩:=h
  rfl
 ·obtain⟨a,b,t,l,rfl,ht,hd,hC,hb,q⟩:=h;refine⟨_,(Zu (ZJ Yv)), ?_⟩;cases t with
  |never=>exact q H (ZS.refl H)
  |after k d=>exact absurd hC.symm T.ne_Never_After
  |later x y=>exact absurd hC.symm T.ne_Never_Later
  |earlier x y=>exact absurd hC.symm T.ne_Never_Earlier
theorem ZkG:ZX ["self","life"] ["self","life"] (ZG ZdK):=⟨rfl,rfl,rfl,by decide+kernel,rfl,by decide+kernel,by decide+kernel⟩
theorem ZkH{f:Addr}{fd:FuncData}(F:Fun K "due" "After.due" ZdK f fd)(T:Txt K mg Zk Zi Zj Zb Zt Zr ZM Zw ZC Zx ZD Ze Zd Zf Zq ZF ZP)(n:Nat):Yy P w K mg base CX0 (0+n+1+1) f fd ["self","life"] (Zcv Zk Zi Zj Zb (n+1) Zi):=by
 refine F.ok ZkG (fun vs H Q E h=> ?_) (fun cdv A outer s H vs Q E hr h=> ?_)
 ·obtain⟨a,b,t,l,rfl,_⟩:=h
  rfl
 ·obtain⟨a,b,t,l,rfl,ht,hd,hC,hb,q⟩:=h;have hu:=ZbC hr;cases t with
  |never=>exact absurd hC T.ne_Never_After
  |later x y=>exact absurd hC.symm T.ne_After_Later
  |earlier x y=>exact absurd hC.symm T.ne_After_Earlier
  |after k d=>
   obtain⟨dx,ha⟩:=ht;have hg:=Zi9 hb k;refine⟨_,(Zh (Yj (Zg4 (Zee hu (Yp (pv 0) rfl) (pv 1))) (Zu (ZJ Yv)) ZW) (Zu (ZJ (ZQ Jy (Zbp hu (pv 1) (Yp (pv 0) rfl) (fun _ _=>rfl)) (Yp (pv 0) rfl))))), ?_⟩;refine⟨_,rfl,a,_,dx,_,_,rfl,ha,T.cl_After,T.n_After_kind,Zkj k d,_,rfl,b,_,rfl,hg,_,rfl, ?_⟩;rw[Zia];have q1:=q H (ZS.refl H);unfold Tr.due at q1
   cases ev:lk l k with
   |none=>
    rw[ev] at q1
    exact Jq q1
   |some u=>
    rw[ev] at q1 hg
    exact Yw ⟨_,rfl,_,rfl,a,_,dx,_,_,rfl,ha,T.cl_After,T.n_After_kind,Zkj k d,b,_,rfl,hg,_,rfl,a,_,dx,_,_,rfl,ha,T.cl_After,T.n_After_days,Znf k d,_,_,rfl,rfl,q1⟩
theorem Zdl:ZX ["self","life","one_day","other_day"] ["self","life"] (ZG ZdL):=⟨rfl,rfl,rfl,by decide+kernel,rfl,by decide+kernel,by decide+kernel⟩
theorem ZkI{f:Addr}{fd:FuncData}(F:Fun K "due" "Later.due" ZdL f fd)(T:Txt K mg Zk Zi Zj Zb Zt Zr ZM Zw ZC Zx ZD Ze Zd Zf Zq ZF ZP)(n:Nat)(Zdw:Zag P w K mg base CX0 (0+n+1) "due" ["self","life"] (Zcv Zk Zi Zj Zb n) (fun C=>C=Zk\/C=Zi\/C=Zj\/C=Zb)):Yy P w K mg base CX0 (0+n+1+1) f fd ["self","life"] (Zcv Zk Zi Zj Zb (n+1) Zj):=by
 refine F.ok Zdl (fun vs H Q E h=> ?_) (fun cdv A outer s H vs Q E hr h=> ?_)
 ·obtain⟨a,b,t,l,rfl,_⟩:=h
  rfl
 ·obtain⟨a,b,t,l,rfl,ht,hd,hC,hb,q⟩:=h;cases t with
  |never=>exact absurd hC T.ne_Never_Later
  |after k d=>exact absurd hC T.ne_After_Later
  |earlier x y=>exact absurd hC.symm T.ne_Later_Earlier
  |later x y=>
   obtain⟨dx,p1,p2,ha,t1,t2⟩:=ht;obtain⟨dx1,f1,i1,l1⟩:=ZcO t1;obtain⟨n1,n2,n3,n4⟩:=Znh "due" (.inl rfl);have hdeep:max x.deep y.deep+1<n+1:=hd;refine⟨_,(Zh (ZK (i:=2) Zdl.nd rfl (Or.inl rfl) (ZaC (Yp (pv 0) rfl) Zdw (hr.mono (by omega)) Yc (Za (pv 1) Zm))) (Zh (ZK (i:=3) Zdl.nd rfl (Or.inl rfl) (ZaC (Yp (pv 0) rfl) Zdw (hr.mono (by omega)) Yc (Za (pv 1) Zm))) (Zh (Yj (PW.pt (Zn0 (Zy Zah (pv 2) Yv (ZL _)) (ZjJ (Zy Zah (pv 3) Yv (ZL _))))) (Zu (ZJ Yv)) ZW) (Zu (ZJ (Yb (Zjb rfl) (by rfl) T.z_max Zmj (Za (pv 2) (Za (pv 3) Zm)))))))), ?_⟩
   refine⟨_,rfl,a,_,dx,_,_,rfl,ha,T.cl_Later,T.n_Later_one,Zkk p1 p2,p1,_,dx1,f1,rfl,i1,ZeV x,l1 _ n1 n2 n3 n4,_,rfl,p1,b,x,l,rfl,t1,by omega,rfl,hb,fun H2 s2=> ?_⟩;obtain⟨dx2,f2,i2,l2⟩:=ZcO (t2.same s2);refine⟨_,rfl,a,_,dx,_,_,rfl,s2 _ _ ha,T.cl_Later,T.n_Later_other,ZfF p1 p2,p2,_,dx2,f2,rfl,i2,ZeV y,l2 _ n1 n2 n3 n4,_,rfl,p2,b,y,l,rfl,t2.same s2,by omega,rfl,Zng s2 hb,fun H3 s3=> ?_⟩;have q1:=q H3 (s2.trans s3)
   unfold Tr.due at q1
   cases e1:x.due l with
   |none=>
    rw[e1] at q1
    exact⟨_,rfl,rfl,_,rfl,Jq (Jq q1)⟩
   |some i=>
    cases e2:y.due l with
    |none=>
     rw[e1,e2] at q1
     exact⟨_,rfl,rfl,_,rfl,Yw ⟨_,rfl,rfl,_,rfl,Jq q1⟩⟩
    |some j=>
     rw[e1,e2] at q1
     exact⟨_,rfl,rfl,_,rfl,Yw ⟨_,rfl,rfl,_,rfl,Yw ⟨_,rfl,_,rfl,i,j,rfl,q1⟩⟩⟩
theorem ZbY:ZX ["self","life","one_day","other_day"] ["self","life"] (ZG Zct):=⟨rfl,rfl,rfl,by decide+kernel,rfl,by decide+kernel,by decide+kernel⟩
theorem Zio{f:Addr}{fd:FuncData}(F:Fun K "due" "Earlier.due" Zct f fd)(T:Txt K mg Zk Zi Zj Zb Zt Zr ZM Zw ZC Zx ZD Ze Zd Zf Zq ZF ZP)(n:Nat)(Zdw:Zag P w K mg base CX0 (0+n+1) "due" ["self","life"] (Zcv Zk Zi Zj Zb n) (fun C=>C=Zk\/C=Zi\/C=Zj\/C=Zb)):Yy P w K mg base CX0 (0+n+1+1) f fd ["self","life"] (Zcv Zk Zi Zj Zb (n+1) Zb):=by
 refine F.ok ZbY (fun vs H Q E h=> ?_) (fun cdv A outer s H vs Q E hr h=> ?_)
 ·obtain⟨a,b,t,l,rfl,_⟩:=h
  rfl
 ·obtain⟨a,b,t,l,rfl,ht,hd,hC,hb,q⟩:=h;cases t with
  |never=>exact absurd hC T.ne_Never_Earlier
  |after k d=>exact absurd hC T.ne_After_Earlier
  |later x y=>exact absurd hC T.ne_Later_Earlier
  |earlier x y=>
   obtain⟨dx,p1,p2,ha,t1,t2⟩:=ht;obtain⟨dx1,f1,i1,l1⟩:=ZcO t1;obtain⟨n1,n2,n3,n4⟩:=Znh "due" (.inl rfl);have hdeep:max x.deep y.deep+1<n+1:=hd;refine⟨_,(Zh (ZK (i:=2) ZbY.nd rfl (Or.inl rfl) (ZaC (Yp (pv 0) rfl) Zdw (hr.mono (by omega)) Yc (Za (pv 1) Zm))) (Zh (ZK (i:=3) ZbY.nd rfl (Or.inl rfl) (ZaC (Yp (pv 0) rfl) Zdw (hr.mono (by omega)) Yc (Za (pv 1) Zm))) (Zh (Yj (Zy Zah (pv 2) Yv (ZL _)) (Zu (ZJ (pv 3))) ZW) (Zh (Yj (Zy Zah (pv 3) Yv (ZL _)) (Zu (ZJ (pv 2))) ZW) (Zu (ZJ (Yb (ZnH rfl) (by rfl) T.z_min ZoY (Za (pv 2) (Za (pv 3) Zm))))))))), ?_⟩
   refine⟨_,rfl,a,_,dx,_,_,rfl,ha,T.cl_Earlier,T.n_Earlier_one,Zkk p1 p2,p1,_,dx1,f1,rfl,i1,ZeV x,l1 _ n1 n2 n3 n4,_,rfl,p1,b,x,l,rfl,t1,by omega,rfl,hb,fun H2 s2=> ?_⟩;obtain⟨dx2,f2,i2,l2⟩:=ZcO (t2.same s2);refine⟨_,rfl,a,_,dx,_,_,rfl,s2 _ _ ha,T.cl_Earlier,T.n_Earlier_other,ZfF p1 p2,p2,_,dx2,f2,rfl,i2,ZeV y,l2 _ n1 n2 n3 n4,_,rfl,p2,b,y,l,rfl,t2.same s2,by omega,rfl,Zng s2 hb,fun H3 s3=> ?_⟩;have q1:=q H3 (s2.trans s3)
   unfold Tr.due at q1
   cases e1:x.due l with
   |none=>
    rw[e1] at q1
    exact⟨_,rfl,rfl,_,rfl,Jq ⟨_,rfl,q1⟩⟩
   |some i=>
    cases e2:y.due l with
    |none=>
     rw[e1,e2] at q1
     exact⟨_,rfl,rfl,_,rfl,Yw ⟨_,rfl,rfl,_,rfl,Jq ⟨_,rfl,q1⟩⟩⟩
    |some j=>
     rw[e1,e2] at q1
     exact⟨_,rfl,rfl,_,rfl,Yw ⟨_,rfl,rfl,_,rfl,Yw ⟨_,rfl,_,rfl,i,j,rfl,q1⟩⟩⟩
theorem Zip:ZX ["_law_script","_law_k"] ["_law_script","_law_k"] (ZG Zcp):=⟨rfl,rfl,rfl,by decide+kernel,rfl,by decide+kernel,by decide+kernel⟩
theorem Ziq{f:Addr}{fd:FuncData}(F:Fun K "_law_cell_at" "_law_cell_at" Zcp f fd)(T:Txt K mg Zk Zi Zj Zb Zt Zr ZM Zw ZC Zx ZD Ze Zd Zf Zq ZF ZP):Yy P w K mg base CX0 1 f fd ["_law_script","_law_k"] (Zao K):=by
 refine F.ok Zip (fun vs H Q E h=> ?_) (fun cdv A outer s H vs Q E hr h=> ?_)
 ·obtain⟨a,ns,k,rfl,_⟩:=h
  rfl
 ·obtain⟨a,ns,k,rfl,hS,q⟩:=h;refine⟨_,(Zh (Yj (Zy Zfk (pv 1) (Yb Zai (by rfl) T.z_len Zd3 (Za (pv 0) Zm)) (ZL _)) (Zu (ZJ (ZV Xq (pv 0) (pv 1) (fun _ _=>rfl)))) ZW) (Zu (ZJ Zo))), ?_⟩;have q1:=q H (ZS.refl H);refine⟨_,rfl,_,rfl,_,_,rfl,.inl ⟨_,hS,rfl⟩,_,_,rfl,rfl,_,rfl,Xg (fun e=> ?_) (fun e=> ?_)⟩
  ·have e:(k:Int)<((ns.map V.int).length:Int):=of_decide_eq_true e;rw[List.length_map] at e
   have lt:k<ns.length:=by omega
   have ec:atI (ns.map V.int) (k:Int)=some (.int (ns[k]?.getD 0)):=by
    unfold atI ixN;rw[if_pos (by omega),List.length_map,if_pos e,Int.toNat_natCast];show(ns.map V.int)[k]? =_;rw[List.getElem?_map,List.getElem?_eq_getElem lt]
    rfl
   exact⟨_,rfl,_,rfl,a,_,_,_,rfl,rfl,hS,ec,q1⟩
  ·have e:¬(k:Int)<((ns.map V.int).length:Int):=fun z=>e (decide_eq_true z);rw[List.length_map] at e
   rw[List.getElem?_eq_none (by omega)] at q1
   exact q1
theorem ZcU:ZX ["_law_cell","_law_names_by","_law_number"] ["_law_cell","_law_names_by"] (ZG Zb9):=⟨rfl,rfl,rfl,by decide+kernel,rfl,by decide+kernel,by decide+kernel⟩
theorem Zgy{f:Addr}{fd:FuncData}(F:Fun K "_law_number_by" "_law_number_by" Zb9 f fd)(T:Txt K mg Zk Zi Zj Zb Zt Zr ZM Zw ZC Zx ZD Ze Zd Zf Zq ZF ZP):Yy P w K mg base CX0 1 f fd ["_law_cell","_law_names_by"] ZaH:=by
 refine F.ok ZcU (fun vs H Q E h=> ?_) (fun cdv A outer s H vs Q E hr h=> ?_)
 ·obtain⟨c,b,rfl,_⟩:=h
  rfl
 ·obtain⟨c,b,rfl,q⟩:=h;refine⟨_,(Zh (Yj (Zy Yu (ZQ Yo (ZQ Yx (pv 1) Zo) Zo) Zo (ZL _)) (Zu (ZJ (Yb ZhC (by rfl) T.z_abs Zmi (Za (pv 0) Zm)))) ZW) (Zh (ZK (i:=2) ZcU.nd rfl (Or.inl rfl) (ZQ Yo (ZQ Jy (ZQ Zbq (pv 0) Zo) Zo) Zo)) (Zu (ZJ (ZQ Yo (ZQ Zbq (pv 2) Zo) Zo))))), ?_⟩;refine(vI rfl ⟨by decide,by decide⟩ ⟨_,_,rfl,rfl,(by show(0:Int)<2;decide),rfl,_,rfl,Xg (fun e=> ?_) (fun e=> ?_)⟩)
  ·exact⟨_,rfl,_,rfl,q _ H (by split<;>omega) (ZS.refl H)⟩
  ·refine(vI rfl (IntMulOk.of_right (intBits_le_64 (by decide) (by decide))) ⟨_,_,rfl,rfl,_,_,rfl,rfl,(by show(0:Int)<2305843009213693951;decide), ?_⟩)
   refine(vI rfl (IntMulOk.of_right (intBits_le_64 (by decide) (by decide))) ⟨_,_,rfl,rfl,(by show(0:Int)<2305843009213693951;decide), ?_⟩)
   exact q _ H (Int.emod_nonneg _ (by decide)) (ZS.refl H)
theorem Znu:(Str.ofString "abcdefghijklmnopqrst").length=20:=by decide+kernel
theorem Zq9:(Str.ofString "xy").length=2:=by decide+kernel
theorem Zqa{z:Str}{i:Int}(h0:0<=i)(h1:i<z.length):∃c,atI z.cps.toList i=some c:=Zfy (xs:=z.cps.toList) (by omega) (by rw[Array.length_toList];exact h1)
theorem Zgz:ZX ["_law_number","_law_names_by"] ["_law_number","_law_names_by"] (ZG Zb8):=⟨rfl,rfl,rfl,by decide+kernel,rfl,by decide+kernel,by decide+kernel⟩
theorem ZgA{f:Addr}{fd:FuncData}(F:Fun K "_law_record_by" "_law_record_by" Zb8 f fd)(T:Txt K mg Zk Zi Zj Zb Zt Zr ZM Zw ZC Zx ZD Ze Zd Zf Zq ZF ZP)(Yk:Cal P w K mg base CX0 1 "_law_name_by" ["_law_cell","_law_k"] Xz):Yy P w K mg base CX0 2 f fd ["_law_number","_law_names_by"] ZaI:=by
 refine F.ok Zgz (fun vs H Q E h=> ?_) (fun cdv A outer s H vs Q E hr h=> ?_)
 ·obtain⟨n,b,rfl,_⟩:=h
  rfl
 ·obtain⟨n,b,rfl,q⟩:=h;have l5:=Xd;refine⟨_,(Zh (Yj (Zy Yu (ZQ Yo (pv 1) Zo) Zo (ZL _)) (Zu (ZJ (ZQ ZeE (ZQ ZeE ZR (ZV ZjP ZR (ZQ Yo (pv 0) Zo) (fun _ _=>rfl))) (ZV ZjP ZR (ZQ Yo (ZQ Yx (pv 0) Zo) Zo) (fun _ _=>rfl))))) ZW) (Zu (ZJ (Ym Yk (hr.mono (by omega)) rfl Yc (Za (pv 1) (Za (ZQ Yo (pv 0) Zo) Zm)))))), ?_⟩;refine(vI rfl (by show(0:Int)<4;decide) ⟨rfl,_,rfl,Xg (fun e=> ?_) (fun e=> ?_)⟩)
  ·obtain⟨c1,e1⟩:=Zqa (z:=Str.ofString "abcdefghijklmnopqrst") (i:=n%20) (Int.emod_nonneg _ (by decide)) (by rw[Znu];exact Int.emod_lt_of_pos _ (by decide))
   obtain⟨c2,e2⟩:=Zqa (z:=Str.ofString "xy") (i:=n/20%2) (Int.emod_nonneg _ (by decide)) (by rw[Zq9];exact Int.emod_lt_of_pos _ (by decide))
   refine(vI rfl (by show(0:Int)<20;decide) ⟨_,_,_,rfl,rfl, ?_,e1,_,_,rfl,rfl, ?_, ?_⟩)
   ·rw[Znu];omega
   ·show 1+1<=sizeLine;omega
   refine(vI rfl ⟨by decide,by decide⟩ ⟨_,_,rfl,rfl,(by show(0:Int)<2;decide),_,_,_,rfl,rfl, ?_,e2,_,_,rfl,rfl, ?_,q _ H ?_ (ZS.refl H)⟩)
   ·rw[Zq9];omega
   ·show _<=sizeLine;rw[Znd];show 1+1+1<=sizeLine;omega
   ·show _<=12;rw[Znd];show 1+1+1<=12
    decide
  ·exact⟨_,rfl,vI rfl (by show(0:Int)<5;decide) ⟨_,_,rfl,fun H' s=>q _ H' (ZbM _ _).2.1 s⟩⟩
theorem ZlL{H H':Hp}{a:Addr}{xs:List V}(s:ZS H H')(h:SqL K H a xs):SqL K H' a xs:=h.imp (fun r=>r.imp (fun e=>s _ _ e) fun⟨o,e⟩=>⟨o,s _ _ e⟩) id
theorem Znv:∀{rs:List Sr} {ns:List Str} {r:Sr},Zbb ns rs->r.good->r.nm∉ns++rs.map Sr.nm->(∀e,r.el=some e->e∈ns++rs.map Sr.nm)->Zbb ns (rs++[r])
 |[],ns,r,_,g,n,e=>by
  rw[List.map_nil,List.append_nil] at n e
  exact⟨g,n,e,trivial⟩
 |x::rs,ns,r,⟨h1,h2,h3,h4⟩,g,n,e=>by
  rw[List.map_cons,List.append_cons] at n e
  exact⟨h1,h2,h3,Znv h4 g n e⟩
theorem ZiU.keep{H H':Hp}(s:∀b xs,H b=some (.tup xs)->H' b=some (.tup xs)){d:Addr}{r:Sr}:ZiU H d r->ZiU H' d r
 |⟨v,h,t⟩=>by
  refine⟨v,s _ _ h, ?_⟩
  revert t
  cases r.tm with
  |none=>exact fun t=>t
  |some x=>exact fun⟨a,e,t⟩=>⟨a,e,t.keep s⟩
theorem ZaL{H H':Hp}(s:∀b xs,H b=some (.tup xs)->H' b=some (.tup xs)):∀{ds:List Addr} {rs:List Sr},Paired (ZiU H) ds rs->Paired (ZiU H') ds rs
 |_,_,.nil=> .nil
 |_,_,.cons h t=> .cons (h.keep s) (ZaL s t)
theorem ZcV{α β:Type}{R:α->β->Prop}:∀{as:List α} {bs:List β} {a:α} {b:β},Paired R as bs->R a b->Paired R (as++[a]) (bs++[b])
 |_,_,_,_,.nil,r=> .cons r .nil
 |_,_,_,_,.cons h t,r=> .cons h (ZcV t r)
theorem Zrs(xs:List Int)(k:Int)(h:xs.length=3)(h0:0<=k)(h1:k<3):∃c∈xs,atI (xs.map V.int) k=some (.int c):=by
 obtain⟨c,m,e⟩:=Zi5 (ns:=xs) (i:=k) (by omega) (by omega);exact⟨c,m,e⟩
theorem YJ:ZX ["_law_script","_law_names_by","_law_book","_law_shift","_law_most","_law_k","_law_cells","_law_tree","_law_elder"] ["_law_script","_law_names_by"] (ZG Zcs):=⟨rfl,rfl,rfl,by decide+kernel,rfl,by decide+kernel,by decide+kernel⟩
theorem Zir{f:Addr}{fd:FuncData}(F:Fun K "_law_book_by" "_law_book_by" Zcs f fd)(T:Txt K mg Zk Zi Zj Zb Zt Zr ZM Zw ZC Zx ZD Ze Zd Zf Zq ZF ZP)(Jj:Cal P w K mg base CX0 1 "_law_cell_at" ["_law_script","_law_k"] (Zao K))(Yk:Cal P w K mg base CX0 1 "_law_name_by" ["_law_cell","_law_k"] Xz)(ZcA:Cal P w K mg base CX0 2 "_law_tree_by" ["_law_cells","_law_names_by","_law_most"] ZbN):Yy P w K mg base CX0 3 f fd ["_law_script","_law_names_by"] (ZbR K):=by
 refine F.ok YJ (fun vs H Q E h=> ?_) (fun cdv A outer s H vs Q E hr h=> ?_)
 ·obtain⟨a,ns,b,rfl,_⟩:=h
  rfl
 ·obtain⟨a,ns,b,rfl,hS,q⟩:=h;have l5:=Xd;have ha:=hS;refine⟨_,(Zh (ZK (i:=2) YJ.nd rfl (Or.inl rfl) (Yq Zm)) (Zh (ZK (i:=3) YJ.nd rfl (Or.inl rfl) (ZV Xq (Yq (Za Zo (Za Zo (Za Zo Zm)))) (ZQ Yo (ZQ Yx (pv 1) Zo) Zo) (fun _ _=>rfl))) (Zh (ZK (i:=4) YJ.nd rfl (Or.inl rfl) (ZV Xq (Yq (Za Zo (Za Zo (Za Zo Zm)))) (ZQ Yo (ZQ Yx (pv 1) Zo) Zo) (fun _ _=>rfl))) (Zh (JV PassesOwn.never rfl (ZcH rfl T.z_range (Za (ZQ Jy Zo (ZQ Yo (Ym Jj (hr.mono (by omega)) rfl Yc (Za (pv 0) (Za Zo Zm))) Zo)) Zm)) (Yi (i:=5) YJ.nd rfl (Or.inr rfl)) (Zh (ZjW (i:=6) ["_law_j"] [("_law_script",0),("_law_k",5)] YJ.nd rfl (Or.inl rfl) rfl (ZcH rfl T.z_range (Za (ZQ Zbq Zo (pv 4)) Zm)) (by rfl) (by exact⟨rfl,⟨rfl,trivial⟩⟩) (by rfl) (by exact⟨⟨rfl,rfl,rfl⟩,⟨⟨rfl,rfl,rfl⟩,trivial⟩⟩) (fun _ _ _ _=>(Yi (i:=0) (show(nmY ["_law_j"] [("_law_script",0),("_law_k",5)]).Nodup by decide+kernel) rfl (Or.inl rfl))) (fun _ _ _ _=>Zd2) (fun _ _ _ _=>(ZQ Yx (Ym Jj (hr.mono (by omega)) rfl Yc (Za (pv 1) (Za (ZQ Jy (ZQ Jy Zo (pv 2)) (ZQ Zbq Zo (pv 0))) Zm))) (ZQ Jy Zo (pv 0))))) (Zh (ZK (i:=7) YJ.nd rfl (Or.inl rfl) (Ym ZcA (hr.mono (by omega)) rfl Yc (Za (pv 6) (Za (pv 1) (Za (pv 4) Zm))))) (Zh (ZK (i:=8) YJ.nd rfl (Or.inl rfl) Yv) (Zh (Yj (PW.pt (Jx (Zy ZgM (pv 5) Zo (ZL _)) (XH (Zy ZgM (ZQ Yo (ZQ Yx (ZV Xq (pv 6) Zo (fun _ _=>rfl)) Zo) Zo) Zo (ZL _))))) (Zu (ZK (i:=8) YJ.nd rfl (Or.inl rfl) (ZV ZZ (ZV Xq (pv 2) (ZQ ZoH (ZQ ZoH (pv 5) Zo) (ZQ Zbq (ZQ Yo (ZQ Yx (ZV Xq (pv 6) Zo (fun _ _=>rfl)) Zo) (pv 5)) (JQ ZcJ (by rfl) T.z_int ZhK (Za (Za5 Yu (ZQ Yo (ZV Xq (pv 6) Zo (fun _ _=>rfl)) Zo) Zo (ZL _)) Zm)))) (fun _ _=>rfl)) Zo (fun _ _=>rfl)))) ZW) (Zh (Yj (PW.pt (Jx (Zy Zhg (pv 8) Yv (ZL _)) (XH (Zy Yu (ZQ Yo (ZQ Yx (ZV Xq (pv 6) Zo (fun _ _=>rfl)) Zo) Zo) Zo (ZL _))))) (Zu (ZK (i:=7) YJ.nd rfl (Or.inl rfl) Yv)) ZW) (Zu (Xv (Zaj PySem.F.plainAttrs_list PySem.F.slot_list_append PySem.F.type_list_append Xa (pv 2) (Za (YX (Za (Ym Yk (hr.mono (by omega)) rfl Yc (Za (pv 1) (Za (ZQ Jy (pv 3) (pv 5)) Zm))) (Za (pv 8) (Za (pv 7) Zm)))) Zm)))))))))) (Zu (ZJ (pv 2))))))), ?_⟩
  obtain⟨sh,msh,esh⟩:=Zrs [0,3,4] (b/7%3) rfl (Int.emod_nonneg _ (by decide)) (Int.emod_lt_of_pos _ (by decide));obtain⟨mo,mmo,emo⟩:=Zrs [3,3,9] (b/21%3) rfl (Int.emod_nonneg _ (by decide)) (Int.emod_lt_of_pos _ (by decide));refine⟨Nat.zero_le _,fun L hL=> ?_⟩;obtain⟨mo,rfl,lo,hi⟩:∃m:Nat,mo=(m:Int)/\3<=m/\m<=9:=by
   simp only [List.mem_cons,List.mem_nil_iff,or_false] at mmo
   rcases mmo with rfl|rfl|rfl
   ·exact⟨3,rfl,by decide,by decide⟩
   ·exact⟨3,rfl,by decide,by decide⟩
   ·exact⟨9,rfl,by decide,by decide⟩
  have hsh:0<=sh/\sh<=4:=by
   simp only [List.mem_cons,List.mem_nil_iff,or_false] at msh
   rcases msh with rfl|rfl|rfl<;>decide
  refine⟨(show 3<=sizeLine from sl),fun p1 hp1=>vI rfl ⟨by decide,by decide⟩ ⟨_,_,rfl,rfl,(by show(0:Int)<3;decide),p1,_,_,_,rfl,rfl,SqL.of Zc,esh, ?_⟩⟩
  refine⟨(show 3<=sizeLine from sl),fun p2 hp2=>vI rfl ⟨by decide,by decide⟩ ⟨_,_,rfl,rfl,(by show(0:Int)<3;decide),p2,_,_,_,rfl,rfl,SqL.of Zc,emo, ?_⟩⟩
  have s0:=(Zg hL (o:=.lst [])).trans ((Zg hp1 (o:=.lst [.int 0,.int 3,.int 4])).trans (Zg hp2 (o:=.lst [.int 3,.int 3,.int 9])));refine⟨_,rfl,a,ns,1,rfl,ZlL s0 hS,fun H1 s1=>⟨_,_,rfl,rfl,(by show(0:Int)<8;decide),_,_,rfl,rfl, ?_⟩⟩
  have c0:=Int.emod_nonneg (ns[1]?.getD 0) (show(8:Int)≠0 by decide);have c1:=Int.emod_lt_of_pos (ns[1]?.getD 0) (show(0:Int)<8 by decide);have hL1:=s1 _ _ ((Zg hp2 (o:=.lst [.int 3,.int 3,.int 9])) _ _ ((Zg hp1 (o:=.lst [.int 0,.int 3,.int 4])) _ _ (Zc (H:=H) (a:=L) (o:=.lst []))));refine⟨_,rfl,by omega,by omega,Zeb (fun i σ H'=>∃(ds:List Addr) (rs:List Sr) (v5 v6 v7 v8:Option V),σ=[some (.ref a),some (.int b),some (.ref L),some (.int sh),some (.int (mo:Int)),v5,v6,v7,v8]/\H' L=some (.lst (ds.map V.ref))/\Paired (ZiU H') ds rs/\rs.length=i/\Zbb [] rs/\(∀(j:Nat) r,rs[j]? =some r->r.nm=Zbn b (sh+(j:Int)))/\ZS H H') ?_ ?_ ?_⟩
  ·exact⟨[],[],none,none,none,none,rfl,hL1,.nil,rfl,trivial,(fun j r hj=>by simp at hj),s0.trans s1⟩
  ·rintro i σ H2 hi2 ⟨ds,rs,v5,v6,v7,v8,rfl,hl2,pr,lr,bk,nms,s2⟩;have hi3:i<8:=by omega
   have le:=Paired.length pr;refine⟨_,rfl,_,_,rfl,rfl,IntMulOk.of_right (intBits_le_64 (by omega) (by omega)),_,rfl,by omega,by omega,Jk (2*mo) (fun j=>[V.int (ns[2+i+5*j]?.getD 0/(1+(j:Int)))]) (by omega) (fun j=>Nat.le_refl 1) (fun j H3 s3 lt=> ?_) (fun H3 s3=> ?_) (fun j y H3 H4 s3 lt yl RT RF rt rf=> ?_) fun D H3 hD s3 d3=> ?_⟩
   ·show j<(2*(mo:Int)).toNat;omega
   ·show(2*(mo:Int)).toNat<=2*mo;omega
   ·obtain⟨rfl,rfl⟩:=yl;refine⟨⟨rfl,rfl,trivial⟩,Zla ?_⟩;refine⟨_,rfl,_,rfl,_,_,rfl,rfl,_,rfl,_,_,rfl,rfl,IntMulOk.of_right (intBits_le_64 (by omega) (by omega)),_,_,rfl,rfl,a,ns,2+i+5*j, ?_,ZlL (s2.trans s3) hS,fun H5 s5=>⟨_,rfl,_,_,rfl,rfl,_,_,rfl,rfl,⟨by omega,by omega⟩,rt _ _ ?_ s5⟩⟩
    ·have z:2+(0+(i:Int))+5*(0+(j:Int))=((2+i+5*j:Nat):Int):=by omega
     show[V.ref a,V.int (2+(0+(i:Int))+5*(0+(j:Int)))]=_;rw[z]
    ·rw[show 0+(j:Int)=(j:Int) by omega]
   ·rw[JG] at d3
    have d4:H3 D=some (.lst (((List.range (2*mo)).map fun j=>ns[2+i+5*j]?.getD 0/(1+(j:Int))).map V.int)):=by rw[d3,List.map_map];rfl
    generalize ecs:((List.range (2*mo)).map fun j=>ns[2+i+5*j]?.getD 0/(1+(j:Int)))=cells at d4
    have lcs:cells.length=2*mo:=by rw[<-ecs,List.length_map,List.length_range]
    refine⟨_,rfl,_,rfl,_,rfl,D,cells,b,mo,rfl,d4,by omega,by omega,by omega,fun tp t H4 s4 ht hc hg=> ?_⟩;have hl4:=s4 _ _ (s3 _ _ hl2);have d5:=s4 _ _ d4;have pr4:Paired (ZiU H4) ds rs:=ZaL (fun b xs e=>s4 _ _ (s3 _ _ e)) pr;obtain⟨x0,_,e0⟩:=Zi5 (ns:=cells) (i:=0) (by omega) (by omega);obtain⟨x1,_,e1⟩:=Zi5 (ns:=cells) (i:=1) (by omega) (by omega);refine(fun(rest:∀σ':L2.St,(∃o:Option Str,(∀e,o=some e->e∈rs.map Sr.nm)/\σ'=[some (.ref a),some (.int b),some (.ref L),some (.int sh),some (.int (mo:Int)),some (.int (0+(i:Int))),some (.ref D),some (.ref tp),some (oS o)])->(_:L2.St->Hp->Prop) σ' H4)=>
     (⟨_,rfl,_,_,rfl,rfl,_,rfl,ZlH (fun e=>Yw (rest _ ⟨none,(fun _ z=>nomatch z),rfl⟩)) (fun e=> ?_)⟩)) ?rest
    case rest=>
     rintro σ' ⟨o,ho,rfl⟩;refine(fun(rest:∀σ':L2.St,(∃(tm:Option Tr) (v:V),Ztc H4 tm v/\(o=none->tm≠none)/\(∀t,tm=some t->t.good/\t.cnt<=9)/\σ'=[some (.ref a),some (.int b),some (.ref L),some (.int sh),some (.int (mo:Int)),some (.int (0+(i:Int))),some (.ref D),some v,some (oS o)])->(_:L2.St->Hp->Prop) σ' H4)=>
      (⟨_,rfl,rfl,_,rfl,ZlH (fun e=>Yw (rest _ ⟨some t,.ref tp,⟨tp,rfl,ht⟩,(fun _ z=>nomatch z),(fun t' z=>by cases z;exact⟨hg,by omega⟩),rfl⟩)) (fun e=> ?_)⟩)) ?rest
     case rest=>
      rintro σ' ⟨tm,v,hv,hn,hgd,rfl⟩;refine⟨_,rfl,.inl ⟨rfl,_,SqL.of hl4⟩,_,rfl,_,rfl,_,rfl,_,_,rfl,rfl,b,sh+(0+(i:Int)),rfl,fun H5 s5=>⟨_,rfl,_,rfl,(show 3<=sizeLine from sl),fun d hd=> ?_⟩⟩;have hl5:=s5 _ _ hl4;have nLd:L≠d:=Zn hl5 hd;refine⟨L,_,V.ref d,rfl,rfl,by rw[Zv nLd];exact hl5,(by rw[List.length_map];omega), ?_⟩
      have kp:∀c u,c≠L->H4 c=some u->upd (upd H5 d (.tup [.str (Zbn b (sh+(0+(i:Int)))),oS o,v])) L (.lst (ds.map V.ref++[.ref d])) c=some u:=fun c u n e=>by
       rw[Zv n,Zv (Zn (s5 _ _ e) hd)];exact s5 _ _ e
      have kt:∀c xs,H4 c=some (.tup xs)->upd (upd H5 d (.tup [.str (Zbn b (sh+(0+(i:Int)))),oS o,v])) L (.lst (ds.map V.ref++[.ref d])) c=some (.tup xs):=fun c xs e=>kp c _ (Yt e hl4 (fun z=>nomatch z)) e;have nmE:Zbn b (sh+(0+(i:Int)))=Zbn b (sh+(i:Int)):=by rw[show(0:Int)+(i:Int)=(i:Int) by omega]
      refine⟨ds++[d],rs++[⟨Zbn b (sh+(i:Int)),o,tm⟩],_,_,_,_,rfl,by rw[Zc,List.map_append];rfl,ZcV (ZaL kt pr4) ⟨v, ?_, ?_⟩, ?_,Znv bk ⟨ZbM _ _, ?_,hgd,hn⟩ ?_ ?_, ?_, ?_⟩
      ·rw[Zv (Ne.symm nLd),Zc,nmE]
      ·revert hv
       cases tm with
       |none=>exact fun z=>z
       |some x=>exact fun⟨a,e,z⟩=>⟨a,e,z.keep kt⟩
      ·rw[List.length_append,lr];rfl
      ·intro e he;obtain⟨r,hr,rfl⟩:=List.mem_map.mp (ho e he);exact(Zep bk r hr).nm
      ·rw[List.nil_append];intro z;obtain⟨r,hr,er⟩:=List.mem_map.mp z;obtain⟨j,hj⟩:=List.getElem?_of_mem hr;have lj:j<rs.length:=(List.getElem?_eq_some_iff.mp hj).1;have:=nms j r hj;have:=Zoc (n:=b) (by omega) (by omega) (by omega) (by omega) (er.symm.trans this);omega
      ·rw[List.nil_append];exact ho
      ·intro j r hj
       by_cases lj:j<rs.length
       ·rw[List.getElem?_append_left lj] at hj
        exact nms j r hj
       ·rw[List.getElem?_append_right (by omega)] at hj
        have z:j-rs.length=0:=by
         have:=(List.getElem?_eq_some_iff.mp hj).1;rw[List.length_singleton] at this
         omega
        rw[z] at hj
        cases hj;rw[show j=i by omega]
      ·exact fun c u e=>kp c u (Zn e hL) (s4 _ _ (s3 _ _ (s2 _ _ e)))
     ·refine⟨_,rfl,D,_,_,_,rfl,rfl,SqL.of d5,e1,_,_,rfl,rfl,⟨by decide,by decide⟩,_,_,rfl,rfl,(by show(0:Int)<2;decide),rfl,_,rfl,ZlH (fun e=>rest _ ⟨some t,.ref tp,⟨tp,rfl,ht⟩,(fun _ z=>nomatch z),(fun t' z=>by cases z;exact⟨hg,by omega⟩),rfl⟩) (fun _=> ?_)⟩
      refine rest _ ⟨none,.non,rfl, ?_,(fun _ z=>nomatch z),rfl⟩;rintro rfl;cases e
    ·have ei:(0:Int)<0+(i:Int):=of_decide_eq_true e;refine⟨_,rfl,D,_,_,_,rfl,rfl,SqL.of d5,e0,_,_,rfl,rfl,⟨by decide,by decide⟩,_,_,rfl,rfl,(by show(0:Int)<4;decide),_,_,rfl,rfl,_,rfl,ZlH (fun e=>rest _ ⟨none,(fun _ z=>nomatch z),rfl⟩) (fun e=> ?_)⟩
     have m0:=Int.emod_nonneg (x0/12) (show(0+(i:Int))≠0 by omega);have m1:=Int.emod_lt_of_pos (x0/12) ei;have b0:0<=x0/12%(0+(i:Int))*(if decide (V.int (x1%3)=V.int 0)=true then 1 else 0):=by split<;>omega
     have b1:x0/12%(0+(i:Int))*(if decide (V.int (x1%3)=V.int 0)=true then 1 else 0)<(i:Int):=by split<;>omega
     obtain⟨v,ev⟩:=Zfy (xs:=ds.map V.ref) (i:=0+(i:Int)-1-x0/12%(0+(i:Int))*(if decide (V.int (x1%3)=V.int 0)=true then 1 else 0)) (by rw[List.length_map];omega) (by rw[List.length_map];omega)
     obtain⟨j,_,hj,_⟩:=Zed ev;obtain⟨dd,rfl,hdd⟩:=Jm hj;obtain⟨r,er,u,row,_⟩:=YS pr4 j dd hdd;exact⟨_,rfl,_,rfl,_,_,rfl,rfl,_,rfl,D,_,_,_,rfl,rfl,SqL.of d5,e0,_,_,rfl,rfl,⟨by decide,by decide⟩,_,rfl,_,_,rfl,rfl,ei,_,rfl,D,_,_,_,rfl,rfl,SqL.of d5,e1,_,_,rfl,rfl,(by show(0:Int)<3;decide),rfl,.inr ⟨_,rfl,_,_,rfl,rfl,IntMulOk.of_right (intBits_le_64 (by split<;>decide) (by split<;>decide)),_,_,rfl,rfl,L,_,_,_,rfl,rfl,SqL.of hl4,ev,dd,_,_,_,rfl,rfl,SqT.of row,rfl,rest _ ⟨some r.nm,(fun z hz=>by cases hz;exact List.mem_map_of_mem (List.mem_of_getElem? er)),rfl⟩⟩⟩
  ·rintro σ H2 ⟨ds,rs,v5,v6,v7,v8,rfl,hl2,pr,lr,bk,nms,s2⟩;exact⟨_,rfl,q L rs H2 hL s2 ⟨ds,hl2,pr⟩ bk (by omega) (by omega)⟩
theorem Zau:ZX ["_law_book","_law_some","_law_name","_law_elder","_law_tree"] ["_law_book"] (ZG ZdH):=⟨rfl,rfl,rfl,by decide+kernel,rfl,by decide+kernel,by decide+kernel⟩
theorem ZkJ{f:Addr}{fd:FuncData}(F:Fun K "_law_terms" "_law_terms" ZdH f fd)(T:Txt K mg Zk Zi Zj Zb Zt Zr ZM Zw ZC Zx ZD Ze Zd Zf Zq ZF ZP)(JK:Cal P w K mg base CX0 16 "_law_made" ["_law_tree"] (ZaV Zk Zi Zj Zb 12)):Yy P w K mg base CX0 17 f fd ["_law_book"] (Zdg Zk Zi Zj Zb):=by
 refine F.ok Zau (fun vs H Q E h=> ?_) (fun cdv A outer s H vs Q E hr h=> ?_)
 ·obtain⟨p,rs,rfl,_⟩:=h
  rfl
 ·obtain⟨p,rs,rfl,⟨ds,hp,pr⟩,lr,gd,q⟩:=h;have l5:=Xd;have le:=Paired.length pr;refine⟨_,(Zh (ZK (i:=1) Zau.nd rfl (Or.inl rfl) (Yq Zm)) (Zh (JV PassesOwn.never rfl (Xc (pv 0)) (ZlY rfl (JC (Yi (i:=2) Zau.nd rfl (Or.inl rfl)) (JC (Yi (i:=3) Zau.nd rfl (Or.inl rfl)) (JC (Yi (i:=4) Zau.nd rfl (Or.inl rfl)) Zfj)))) (Zu (Xv (Zaj PySem.F.plainAttrs_list PySem.F.slot_list_append PySem.F.type_list_append Xa (pv 1) (Za (YX (Za (pv 2) (Za (pv 3) (Za (Zfi (Zy Zah (pv 4) Yv (ZL _)) Yv (Ym JK (hr.mono (by omega)) rfl Yc (Za (pv 4) Zm))) Zm)))) Zm))))) (Zu (ZJ (pv 1))))), ?_⟩
  refine⟨Nat.zero_le _,fun S hS=>⟨_,rfl,p,rfl,⟨_,SqL.of (Zg hS _ _ hp)⟩,JD (xs:=ds.map V.ref) (fun i σ H'=>∃(es:List Addr) (v2 v3 v4:Option V),σ=[some (.ref p),some (.ref S),v2,v3,v4]/\H' S=some (.lst (es.map V.ref))/\Paired (Zdv Zk Zi Zj Zb H') es (rs.take i)/\ZS H H') ?_ ?_ ?_ ?_⟩⟩
  ·exact⟨[],none,none,none,rfl,Zc,.nil,Zg hS⟩
  ·rintro i σ H1 _ ⟨es,v2,v3,v4,rfl,_,_,s1⟩;exact SqL.of (s1 _ _ hp)
  ·rintro i x σ H1 hx ⟨es,v2,v3,v4,rfl,hs,ps,s1⟩;obtain⟨d,rfl,ed⟩:=Jm hx;obtain⟨r,er,v,row,tr⟩:=YS (ZaL (fun b xs e=>s1 _ _ e) pr) i d ed;have hi:i<rs.length:=(List.getElem?_eq_some_iff.mp er).1;have tk:rs.take (i+1)=rs.take i++[r]:=by rw[List.take_add_one,er];rfl
   have lt:=List.length_take_le i rs;have les:=Paired.length ps;rw[tk];have fin:∀v H2 dd,ZS H1 H2->Ztb Zk Zi Zj Zb H2 r.tm v->H2 dd=none->∃H3,H3=upd (upd H2 dd (.tup [.str r.nm,oS r.el,v])) S (.lst (es.map V.ref++[.ref dd]))/\H3 S=some (.lst ((es++[dd]).map V.ref))/\Paired (Zdv Zk Zi Zj Zb H3) (es++[dd]) (rs.take i++[r])/\ZS H H3:=fun v H2 dd s2 tv hd=>by
    have nS:S≠dd:=Zn (s2 _ _ hs) hd;have kp:∀c u,c≠S->H2 c=some u->upd (upd H2 dd (.tup [.str r.nm,oS r.el,v])) S (.lst (es.map V.ref++[.ref dd])) c=some u:=fun c u n e=>by
     rw[Zv n,Zv (Zn e hd)];exact e
    refine⟨_,rfl,by rw[Zc,List.map_append];rfl,ZcV (Zeq (fun c xs e=>kp c _ (Yt e hs (fun z=>nomatch z)) (s2 _ _ e)) (fun c C dx fs e=>kp c _ (Yt e hs (fun z=>nomatch z)) (s2 _ _ e)) ps) ⟨v,by rw[Zv (Ne.symm nS),Zc], ?_⟩,fun c u e=>kp c u (Zn e hS) (s2 _ _ (s1 _ _ e))⟩
    revert tv
    cases r.tm with
    |none=>exact fun z=>z
    |some x=>exact fun⟨a,e,z⟩=>⟨a,e,z.keep fun c C dx fs e=>kp c _ (Yt e (s2 _ _ hs) (fun z=>nomatch z)) e⟩
   refine⟨d,_,rfl,SqT.of row,rfl,_,_,rfl,_,_,rfl,_,_,rfl,rfl, ?_⟩;have lse:(es.map V.ref).length<sizeLine:=by rw[List.length_map];omega
   refine⟨_,rfl,.inl ⟨rfl,_,SqL.of hs⟩,_,rfl,_,rfl, ?_⟩;cases et:r.tm with
   |none=>
    rw[et] at tr
    have tr:v=.non:=tr;subst tr;refine⟨_,rfl,rfl,_,rfl,Zam rfl ⟨(show 3<=sizeLine from sl),fun dd hd=> ?_⟩⟩;obtain⟨H3,e3,f1,f2,f3⟩:=fin .non H1 dd (ZS.refl _) (by rw[et];rfl) hd
    refine⟨S,_,V.ref dd,rfl,rfl,by rw[Zv (Zn hs hd)];exact hs,lse, ?_⟩
    rw[<-e3];exact⟨es++[dd],_,_,_,rfl,f1,f2,f3⟩
   |some t=>
    rw[et] at tr
    obtain⟨a,rfl,ta⟩:=tr;have g:=((gd r (List.mem_of_getElem? er)).tm t et)
    have dc:=Tr.deep_cnt t;refine⟨_,rfl,rfl,_,rfl,Xj (fun z=>nomatch z) ⟨_,rfl,a,t,rfl,ta,by omega,fun p2 H2 s2 ht=>⟨(show 3<=sizeLine from sl),fun dd hd=> ?_⟩⟩⟩;obtain⟨H3,e3,f1,f2,f3⟩:=fin (.ref p2) H2 dd s2 (by rw[et];exact⟨p2,rfl,ht⟩) hd
    refine⟨S,_,V.ref dd,rfl,rfl,by rw[Zv (Zn (s2 _ _ hs) hd)];exact s2 _ _ hs,lse, ?_⟩
    rw[<-e3];exact⟨es++[dd],_,_,_,rfl,f1,f2,f3⟩
  ·rintro σ H1 ⟨es,v2,v3,v4,rfl,hs,ps,s1⟩;rw[List.length_map,le,List.take_length] at ps
   exact⟨_,rfl,q S H1 hS s1 ⟨es,hs,ps⟩⟩
theorem ZbZ{H H':Hp}(s:ZS H H'){ds:List Addr}{rs:List Sr}:Paired (ZiU H) ds rs->Paired (ZiU H') ds rs:=ZaL fun b xs e=>s _ _ e
theorem two_ints{x y:Int}{k:Int}(hx:0<=x)(hy:0<=y)(h0:0<=k)(h1:k<2):∃c,atI [V.int x,V.int y] k=some (.int c)/\0<=c:=by
 have e:k=0\/k=1:=by omega
 rcases e with rfl|rfl
 ·exact⟨x,rfl,hx⟩
 ·exact⟨y,rfl,hy⟩
theorem two_strs(x y:Str)(b:Bool):∃c,atI [V.str x,V.str y] (if b=true then 1 else 0)=some (.str c):=by
 cases b
 ·exact⟨x,rfl⟩
 ·exact⟨y,rfl⟩
theorem ZmO{s:Str}{ns:List Str}(h:s∈ns):∀n∈[s],n∈ns:=fun n m=>by rw[List.mem_singleton.mp m];exact h
theorem Xi:ZX ["_law_cell","_law_names_by","_law_far","_law_book","_law_number","_law_way","_law_record","_law_series","_law_kind","_law_hold","_law_day"] ["_law_cell","_law_names_by","_law_far","_law_book"] (ZG Zd8):=⟨rfl,rfl,rfl,by decide+kernel,rfl,by decide+kernel,by decide+kernel⟩
theorem Zj8{f:Addr}{fd:FuncData}(F:Fun K "_law_row_by" "_law_row_by" Zd8 f fd)(T:Txt K mg Zk Zi Zj Zb Zt Zr ZM Zw ZC Zx ZD Ze Zd Zf Zq ZF ZP)(Yk:Cal P w K mg base CX0 1 "_law_name_by" ["_law_cell","_law_k"] Xz)(Zbf:Cal P w K mg base CX0 1 "_law_number_by" ["_law_cell","_law_names_by"] ZaH)(Zbg:Cal P w K mg base CX0 2 "_law_record_by" ["_law_number","_law_names_by"] ZaI):Yy P w K mg base CX0 3 f fd ["_law_cell","_law_names_by","_law_far","_law_book"] Zcz:=by
 refine F.ok Xi (fun vs H Q E h=> ?_) (fun cdv A outer s H vs Q E hr h=> ?_)
 ·obtain⟨c,b,far,p,rs,rfl,_⟩:=h
  rfl
 ·obtain⟨c,b,far,p,rs,rfl,⟨ds,hp,pr⟩,lo,hi,q⟩:=h;have l5:=Xd;have le:=Paired.length pr;refine⟨_,(Zh (ZK (i:=4) Xi.nd rfl (Or.inl rfl) (Ym Zbf (hr.mono (by omega)) rfl Yc (Za (pv 0) (Za (pv 1) Zm)))) (Zh (ZK (i:=5) Xi.nd rfl (Or.inl rfl) (ZQ Yo (pv 4) Zo)) (Zh (ZK (i:=6) Xi.nd rfl (Or.inl rfl) (Ym Zbg (hr.mono (by omega)) rfl Yc (Za (ZQ Yo (ZQ Yx (pv 4) Zo) Zo) (Za (pv 1) Zm)))) (Zh (ZK (i:=7) Xi.nd rfl (Or.inl rfl) (ZV ZZ (ZV Xq (pv 3) (ZQ Yo (ZQ Yx (pv 4) Zo) (Yb Zai (by rfl) T.z_len Zd3 (Za (pv 3) Zm))) (fun _ _=>rfl)) Zo (fun _ _=>rfl))) (Zh (ZK (i:=4) Xi.nd rfl (Or.inl rfl) (ZQ Yx (ZQ Yx (pv 4) Zo) (Yb Zai (by rfl) T.z_len Zd3 (Za (pv 3) Zm)))) (Zh (ZK (i:=8) Xi.nd rfl (Or.inl rfl) (Ym Yk (hr.mono (by omega)) rfl Yc (Za (pv 1) (Za (ZQ Yo (pv 4) Zo) Zm)))) (Zh (ZK (i:=9) Xi.nd rfl (Or.inl rfl) (Ym Yk (hr.mono (by omega)) rfl Yc (Za (pv 1) (Za (ZQ Yo (ZQ Yx (pv 4) Zo) Zo) Zm)))) (Zh (ZK (i:=10) Xi.nd rfl (Or.inl rfl) (ZQ Jy (pv 2) (ZV Xq (Yq (Za (ZQ Yo (ZQ Yx (pv 4) Zo) Zo) (Za (ZQ Yo (ZQ Yx (pv 4) Zo) Zo) Zm))) (ZQ Yo (ZQ Yx (pv 4) Zo) Zo) (fun _ _=>rfl)))) (Zh (Yj (PW.pt (Zn0 (Zy Zfk (pv 5) Zo (ZL _)) (ZjJ (PW.pt (Jx (Zy Yu (ZQ Yo (pv 1) Zo) Zo (ZL _)) (XH (Zy Zfk (pv 5) Zo (ZL _)))))))) (Zu (ZJ (YX (Za ZR (Za (pv 6) (Za (pv 7) (Za (pv 10) Zm))))))) ZW) (Zh (Yj (Zy Zfk (pv 5) Zo (ZL _)) (Zu (ZJ (YX (Za ZR (Za (pv 6) (Za (pv 7) (Za (pv 10) Zm))))))) ZW) (Zh (Yj (Zy Zfk (pv 5) Zo (ZL _)) (Zu (ZJ (YX (Za ZR (Za (pv 6) (Za (ZV Xq (Yq (Za (pv 8) (Za ZR Zm))) (JQ ZcJ (by rfl) T.z_int ZhK (Za (Za5 Yu (ZQ Yo (ZQ Yx (pv 4) Zo) Zo) Zo (ZL _)) Zm)) (fun _ _=>rfl)) (Za (pv 10) Zm))))))) ZW) (Zh (Yj (Zy Yu (pv 5) Zo (ZL _)) (Zu (ZJ (YX (Za ZR (Za (pv 9) (Za (pv 10) Zm)))))) ZW) (Zh (Yj (Zy Yu (pv 5) Zo (ZL _)) (Zu (ZJ (YX (Za ZR (Za (pv 9) (Za ZR (Za (pv 6) (Za (pv 10) Zm)))))))) ZW) (Zu (ZJ (YX (Za ZR (Za (pv 9) (Za ZR (Za (pv 7) (Za (pv 10) Zm))))))))))))))))))))), ?_⟩
  refine⟨_,rfl,_,rfl,c,b,rfl,fun n H1 n0 s1=> ?_⟩;refine(vI rfl (by show(0:Int)<11;decide) ?_)
  refine(vI rfl ⟨by decide,by decide⟩ ⟨_,_,rfl,rfl,(by show(0:Int)<40;decide),_,rfl,_,_,rfl,fun z H2 lz s2=> ?_⟩)
  have hp2:=s2 _ _ (s1 _ _ hp);have pl:(0:Int)<(((ds.map V.ref).length:Nat):Int):=by rw[List.length_map];omega
  have i0:=Int.emod_nonneg (n/440) (Int.ne_of_gt pl);have i1:=Int.emod_lt_of_pos (n/440) pl;obtain⟨v,ev⟩:=Zfy (xs:=ds.map V.ref) (i:=n/440%(((ds.map V.ref).length:Nat):Int)) (by omega) i1;obtain⟨j,_,hj,_⟩:=Zed ev;obtain⟨dd,rfl,hdd⟩:=Jm hj;obtain⟨r,er,u,row,_⟩:=YS (ZbZ (s1.trans s2) pr) j dd hdd;have rin:r.nm∈rs.map Sr.nm:=List.mem_map_of_mem (List.mem_of_getElem? er);refine⟨_,rfl,vI rfl ⟨by decide,by decide⟩ ⟨_,rfl,_,_,rfl,.inl ⟨_,SqL.of hp2,rfl⟩,_,_,rfl,rfl,pl,p,_,_,_,rfl,rfl,SqL.of hp2,ev,dd,_,_,_,rfl,rfl,SqT.of row,rfl, ?_⟩⟩
  refine(vI rfl ⟨by decide,by decide⟩ ⟨_,rfl,_,_,rfl,.inl ⟨_,SqL.of hp2,rfl⟩,_,_,rfl,rfl,⟨pl,by rw[List.length_map];omega⟩, ?_⟩)
  refine⟨_,rfl,vI rfl (by show(0:Int)<9;decide) ⟨_,_,rfl,fun H3 s3=> ?_⟩⟩
  refine⟨_,rfl,vI rfl ⟨by decide,by decide⟩ ⟨_,_,rfl,rfl,(by show(0:Int)<5;decide),_,_,rfl,fun H4 s4=> ?_⟩⟩
  obtain⟨e,ee,e0⟩:=two_ints (Int.emod_nonneg ((n/440/(((ds.map V.ref).length:Nat):Int))/90) (show(900:Int)≠0 by decide)) (Int.emod_nonneg ((n/440/(((ds.map V.ref).length:Nat):Int))/90) (show(4000:Int)≠0 by decide)) (Int.emod_nonneg ((n/440/(((ds.map V.ref).length:Nat):Int))/45) (show(2:Int)≠0 by decide)) (Int.emod_lt_of_pos ((n/440/(((ds.map V.ref).length:Nat):Int))/45) (by decide));have dy:0<=far->0<=far+e:=fun z=>by omega
  refine⟨_,rfl,vI rfl ⟨by decide,by decide⟩ ⟨_,_,rfl,rfl,(by show(0:Int)<900;decide),vI rfl ⟨by decide,by decide⟩ ⟨_,_,rfl,rfl,(by show(0:Int)<4000;decide),(show 2<=sizeLine from sl),fun t0 ht0=>vI rfl ⟨by decide,by decide⟩ ⟨_,_,rfl,rfl,(by show(0:Int)<2;decide),t0,_,_,_,rfl,rfl,SqL.of Zc,ee,_,_,rfl,rfl, ?_⟩⟩⟩⟩
  have s5:=s1.trans (s2.trans (s3.trans (s4.trans (Zg ht0 (o:=.lst [.int ((n/440/(((ds.map V.ref).length:Nat):Int))/90%900),.int ((n/440/(((ds.map V.ref).length:Nat):Int))/90%4000)])))));refine(fun put rest=>⟨_,rfl,_,_,rfl,rfl,_,rfl,Xg (fun _=>Jq put) (fun _=>vI rfl (by show(0:Int)<4;decide) ⟨rfl,_,rfl,Xg (fun _=>⟨_,rfl,_,_,rfl,rfl,_,rfl,Xg (fun _=>put) (fun _=>rest)⟩) (fun _=>Yw rest)⟩)⟩) ?put ?rest
  case put=>exact⟨_,rfl,_,rfl,_,rfl,(show 4<=sizeLine from sl),fun d hd=>q (.put z r.nm (far+e)) d _ (s5.trans (Zg hd)) Zc (ZmO rin) lz dy⟩
  case rest=>
   refine⟨_,rfl,_,_,rfl,rfl,_,rfl,Xg (fun _=> ?_) (fun _=> ?_)⟩
   ·exact⟨_,rfl,_,rfl,_,rfl,(show 4<=sizeLine from sl),fun d hd=>q (.move z r.nm (far+e)) d _ (s5.trans (Zg hd)) Zc (ZmO rin) lz dy⟩
   refine⟨_,rfl,_,_,rfl,rfl,_,rfl,Xg (fun _=> ?_) (fun _=> ?_)⟩
   ·obtain⟨kd,ek⟩:=two_strs (Zbn b ((n/440/(((ds.map V.ref).length:Nat):Int))%9)) (Str.ofString "put") (decide (V.int ((n/440/(((ds.map V.ref).length:Nat):Int))/360000%9)=V.int 7));refine⟨_,rfl,_,rfl,(show 2<=sizeLine from sl),fun t1 ht1=>vI rfl ⟨by decide,by decide⟩ ⟨_,_,rfl,rfl,(by show(0:Int)<9;decide),rfl,.inr ⟨_,rfl,t1,_,_,_,rfl,rfl,SqL.of Zc,ek,_,rfl,(show 4<=sizeLine from sl),fun d hd=>q (.deed z kd (far+e)) d _ (s5.trans ((Zg ht1).trans (Zg hd))) Zc (fun _ z=>nomatch z) lz dy⟩⟩⟩
   refine⟨_,rfl,rfl,_,rfl,Xg (fun _=> ?_) (fun _=> ?_)⟩
   ·exact⟨_,rfl,_,rfl,(show 3<=sizeLine from sl),fun d hd=>q (.lift _ (far+e)) d _ (s5.trans (Zg hd)) Zc (fun _ z=>nomatch z) (ZbM _ _).2.1 dy⟩
   refine⟨_,rfl,rfl,_,rfl,Xg (fun _=> ?_) (fun _=> ?_)⟩
   ·exact⟨_,rfl,_,rfl,_,rfl,(show 5<=sizeLine from sl),fun d hd=>q (.hold _ true z (far+e)) d _ (s5.trans (Zg hd)) Zc (fun _ z=>nomatch z) (ZbM _ _).2.1 dy⟩
   ·exact⟨_,rfl,_,rfl,_,rfl,(show 5<=sizeLine from sl),fun d hd=>q (.hold _ false r.nm (far+e)) d _ (s5.trans (Zg hd)) Zc (ZmO rin) (ZbM _ _).2.1 dy⟩
def Zhu(cn ca cl ce cp ch cs:Addr)(n:Nat)(C:Addr):Sp:=fun vs H Q E=>∃(a d:Addr) (w:Rw) (s:Hs) (F:List Addr),vs=[.ref a,.ref d]/\0<n/\Yh cn ca cl ce C H a s F/\ZbP H d w/\s.ws.length<=900/\s.rs.length<=63/\w.one.length<=1000/\(∀n∈YF w,n.length<=1000)/\(∀f,Zc8 s.ws (s.rs.map Sr.nm) w=some f->∀H',ZS H H'->E (.ref (xcO cp ch cs f)) none H')/\
 (Zc8 s.ws (s.rs.map Sr.nm) w=none->ZdW {s with ws:=s.ws++[w]}/\ZcS s/\s.gs.length<64/\
 ∀L zs wd H' F',ZeT F H H'->(∀b∈F',b∈F\/H b=none)->(∀b∈F,b∈F')->Yh cn ca cl ce C H' a {s with ws:=s.ws++[w],wd:=wd} F'->ZcS {s with ws:=s.ws++[w],wd:=wd}->H L=none->L∉F'->H' L=some (.lst (zs.map V.str))->sortedS zs=true->(∃fs,(fs.map (·.1)).Nodup/\(∀f∈fs,f.1∈s.wd.map (·.1))/\zs.Perm (Zat s.wd fs)/\wd=ZaK s.wd fs)->Q (.ref L) H')
theorem Zos{cn ca cl ce cp ch cs C:Addr}:∀vs H Q E,¬Zhu cn ca cl ce cp ch cs 0 C vs H Q E:=fun _ _ _ _ ⟨_,_,_,_,_,_,z,_⟩=>Nat.lt_irrefl 0 z
theorem ZdY{s:Hs}{w:Rw}:∀r∈Zci s w,r∈s.wd.map (·.1):=by
 have go:∀z,∀r∈Zbu z s.wd,r∈s.wd.map (·.1):=fun z r hr=>by
  obtain⟨x,hx,e⟩:=List.mem_map.mp hr;exact List.mem_map.mpr ⟨x,(List.mem_filter.mp hx).1,e⟩
 have one:∀x,∀r∈(if x∈s.wd.map (·.1) then[x] else[]),r∈s.wd.map (·.1):=fun x r hr=>by
  by_cases m:x∈s.wd.map (·.1)
  ·rw[if_pos m] at hr
   rw[List.mem_singleton.mp hr];exact m
  ·rw[if_neg m] at hr
   cases hr
 cases w with
 |hold a b c d=>exact go "due"
 |lift a d=>exact go "held"
 |put x b c=>exact one x
 |move x b c=>exact one x
 |deed x b c=>exact one x
theorem Zj9{s:Hs}{w:Rw}(nd:(s.wd.map (·.1)).Nodup):(Zci s w).Nodup:=by
 have go:∀z,(Zbu z s.wd).Nodup:=fun z=>List.Nodup.sublist (List.Sublist.map _ List.filter_sublist) nd;have one:∀x,(if x∈s.wd.map (·.1) then[x] else[]:List Str).Nodup:=fun x=>by split<;>simp
 cases w with
 |hold a b c d=>exact go "due"
 |lift a d=>exact go "held"
 |put x b c=>exact one x
 |move x b c=>exact one x
 |deed x b c=>exact one x
theorem Zot{s:Hs}{w:Rw}{f:Str×Str}(h:f∈s.wd)(no:f.1∉Zci s w):Zaz f.1 w=false/\(JX w=true->f.2≠"due")/\((ZbQ w).isSome=true->f.2≠"held"):=by
 have k:f.1∈s.wd.map (·.1):=List.mem_map_of_mem h;have one:∀x,f.1∉(if x∈s.wd.map (·.1) then[x] else[]:List Str)->decide (x=f.1)=false:=fun x n=>decide_eq_false fun z=>n (by rw[z,if_pos k];exact List.mem_singleton_self _)
 have are:∀z:Str,f.1∉Zbu z s.wd->f.2≠z:=fun z n e=>n (List.mem_map.mpr ⟨f,List.mem_filter.mpr ⟨h,decide_eq_true e⟩,rfl⟩);cases w with
 |hold a b c d=>exact⟨rfl,fun _=>are _ no,(fun z=>nomatch z)⟩
 |lift a d=>exact⟨rfl,(fun z=>nomatch z),fun _=>are _ no⟩
 |put x b c=>exact⟨one x no,(fun z=>nomatch z),(fun z=>nomatch z)⟩
 |move x b c=>exact⟨one x no,(fun z=>nomatch z),(fun z=>nomatch z)⟩
 |deed x b c=>exact⟨one x no,(fun z=>nomatch z),(fun z=>nomatch z)⟩
theorem ZmP{s:Hs}{w:Rw}{fs:List (Str×Str)}(wo:ZcS s)(ef:fs.map (·.1)=Zci s w)(wf:∀f∈fs,Zkx {s with ws:=s.ws++[w]} f):ZcS {s with ws:=s.ws++[w],wd:=ZaK s.wd fs}:=by
 refine⟨(Zb0 fs s.wd).trans wo.keys,fun f hf=> ?_⟩;rcases Zik hf with a|⟨a,b⟩
 ·exact wf f a
 ·rw[ef] at b
  obtain⟨n,day,hg,wi⟩:=wo.ok f a;obtain⟨c1,c2,c3⟩:=Zot a b;exact⟨n,day,hg,ZmN c1 c2 c3 wi⟩
theorem Zou{wd:List (Str×Str)}{f x:Str×Str}(h:x∈wd)(n:¬x.1=f.1):x∈Zj7 wd f:=List.mem_map.mpr ⟨x,h,if_neg n⟩
theorem ZgT:∀{fs wd:List (Str×Str)} {x:Str×Str},x∈wd->x.1∉fs.map (·.1)->x∈ZaK wd fs
 |[],_,_,h,_=>h
 |f::fs,wd,x,h,n=>by
  rw[List.map_cons,List.mem_cons,not_or] at n
  exact ZgT (fs:=fs) (Zou h n.1) n.2
theorem ZlM(wd fs:List (Str×Str))(f:Str×Str):ZaK wd (fs++[f])=Zj7 (ZaK wd fs) f:=by
 unfold ZaK;rw[List.foldl_append]
 rfl
theorem ZmQ(wd fs:List (Str×Str))(f:Str×Str):Zat wd (fs++[f])=Zat wd fs++(if Zas wd f=true then[f.1] else[]):=by
 unfold Zat;rw[List.filter_append,List.map_append]
 congr 1
 by_cases h:Zas wd f=true
 ·rw[if_pos h,List.filter_cons_of_pos h]
  rfl
 ·rw[if_neg h,List.filter_cons_of_neg h]
  rfl
theorem Zrt{H:Hp}:∀{fs:List (Str×Str)} {us:List V},Paired (Zon H) fs us->∀(i:Nat) (u:V),us[i]? =some u->∃f p,fs[i]? =some f/\u=.ref p/\H p=some (.tup [.str f.1,.str f.2])
 |_,_,.nil,i,u,h=>by simp at h
 |_,_,.cons (a:=f) (b:=v) ⟨p,e,r⟩ t,0,u,h=>by
  have h:v=u:=by simpa using h
  subst h;exact⟨f,p,rfl,e,r⟩
 |_,_,.cons _ t,i+1,u,h=>by
  obtain⟨f,p,e,z⟩:=Zrt t i u (by simpa using h);exact⟨f,p,by simpa using e,z⟩
theorem Za1:ZX ["self","row","found","fresh","record","word"] ["self","row"] (ZG Zdb):=⟨rfl,rfl,rfl,by decide+kernel,rfl,by decide+kernel,by decide+kernel⟩
theorem Zja{f:Addr}{fd:FuncData}(F:Fun K "tell" "House.tell" Zdb f fd)(T:Txt K mg Zk Zi Zj Zb Zt Zr ZM Zw ZC Zx ZD Ze Zd Zf Zq ZF ZP)(n:Nat)(Zf3:Zag P w K mg base CX0 13 "keep_row" ["self","row"] (Zch Zk Zi Zj Zb 12) (fun C=>C=Zt))(Zdm:Zag P w K mg base (CXr P w) 14 "refuse_row" ["self","row"] (ZaO Zk Zi Zj Zb Ze Zd Zf 12) (fun C=>C=Zt))(Zdn:Zag P w K mg base CX0 13 "touched_by" ["self","row"] (ZaP Zk Zi Zj Zb 12) (fun C=>C=Zt))(ZdZ:Zag P w K mg base CX0 27 "words_now" ["self","records"] (Zbv Zk Zi Zj Zb 12) (fun C=>C=Zt)):Yy P w K mg base (CXr P w) (27+n+1+1) f fd ["self","row"] (Zhu Zk Zi Zj Zb Ze Zd Zf (n+1) Zt):=by
 refine okX F Za1 (fun vs H Q E h=> ?_) (fun cdv A outer s H vs Q E hr h=> ?_)
 ·obtain⟨a,d,w,s,F,rfl,_⟩:=h
  rfl
 ·obtain⟨a,d,w,s,F,rfl,_,hA,hd,lws,lrs,lo1,ln1,qx,qn⟩:=h;have l5:=Xd;have hu:=ZbC hr;have hd:H d=some (.tup w.vs):=hd;refine⟨_,(Zh (Xv (ZaC (pv 0) Zdm (hr.mono (by omega)) ZqL (Za (pv 1) Zm))) (Zh (Xv (ZaC (pv 0) Zf3 (hr.mono (by omega)) Yc (Za (JQ ZiM (by rfl) T.z_tuple Zp5 (Za (pv 1) Zm)) Zm))) (Zh (ZK (i:=2) Za1.nd rfl (Or.inl rfl) (ZaC (pv 0) ZdZ (hr.mono (by omega)) Yc (Za (ZaC (pv 0) Zdn (hr.mono (by omega)) Yc (Za (pv 1) Zm)) Zm))) (Zh (ZK (i:=3) Za1.nd rfl (Or.inl rfl) (Yq Zm)) (Zh (JV PassesOwn.leaving rfl (Xc (pv 2)) (ZlY rfl (JC (Yi (i:=4) Za1.nd rfl (Or.inl rfl)) (JC (Yi (i:=5) Za1.nd rfl (Or.inl rfl)) Zfj))) (Zh (Yj (PW.pt (Jx (Zy Yu (Zbp hu (Yp (pv 0) rfl) (pv 4) (fun _ _=>rfl)) ZR (ZL _)) (XH (Zy ZoJ (pv 5) ZR (ZL _))))) (Zu (Xv (Zaj PySem.F.plainAttrs_list PySem.F.slot_list_append PySem.F.type_list_append Xa (pv 3) (Za (pv 4) Zm)))) ZW) (Zu (Zd1 hu (Yp (pv 0) rfl) (pv 4) (pv 5) rfl)))) (Zu (ZJ (Yb Zd6 (by rfl) T.z_sorted Zeh (Za (pv 3) Zm))))))))), ?_⟩
  obtain⟨dx,b,t,o,h,r,k,wa,ha,_⟩:=hA.ins;refine⟨_,rfl,a,_,dx,_,rfl,ha,rfl,Zcj (by decide+kernel),_,rfl,a,d,w,s,F,rfl,by decide,hA,hd,lws,lrs,lo1,ln1,fun rn H1 s1=> ?_,fun f rf H1 s1=>qx f rf H1 s1⟩;obtain⟨ok,wo,lg,q⟩:=qn rn;have few:(s.ws++[w]).length<=400:=ok.few;rw[List.length_append,List.length_singleton] at few
  have kw:s.wd.length=s.gs.length:=by
   have:=congrArg List.length wo.keys
   rwa [List.length_map,List.length_map] at this
  have ndw:(s.wd.map (·.1)).Nodup:=by rw[wo.keys];exact ok.one
  have hA1:=hA.same s1;have hd1:=s1 _ _ hd;refine⟨_,rfl,a,_,dx,_,rfl,s1 _ _ ha,rfl,Zcj (by decide+kernel),_,rfl,d,_,rfl,.inr ⟨SqT.of hd1,a,d,w,s,F,rfl,by decide,hA1,hd1,by omega,fun H2 F2 kp2 sub2 sup2 hA2=> ?_⟩⟩;have hd2:=hA1.kinds.tup kp2 _ _ hd1;obtain⟨dx2,b2,t2,o2,h2,r2,k2,wa2,os2,kvs2,ha2,hb2,ht2,ho2,oa2,hh2,hr2,hk2,pk2,hw2,eF2,nd2,nb2⟩:=id hA2;have tsub:∀r∈Zci {s with ws:=s.ws++[w]} w,r∈s.gs.map (·.1):=fun r hr=>by
   rw[<-wo.keys];exact ZdY (s:={s with ws:=s.ws++[w]}) r hr
  have tnd:=Zj9 (s:={s with ws:=s.ws++[w]}) (w:=w) ndw;have tlen:(Zci {s with ws:=s.ws++[w]} w).length<=s.gs.length:=by
   have:=tnd.length_le_of_subset tsub
   rwa [List.length_map] at this
  refine⟨_,rfl,a,_,dx2,_,rfl,ha2,rfl,Zcj (by decide+kernel),_,rfl,a,_,dx2,_,rfl,ha2,rfl,Zcj (by decide+kernel),_,rfl,a,d,w,{s with ws:=s.ws++[w]},F2,rfl,by decide,hA2,hd2,by show s.wd.length<=900;omega,fun L3 H3 hL3 s3 hl3=> ?_⟩
  have hA3:=hA2.same s3;refine⟨a,L3,_,{s with ws:=s.ws++[w]},F2,rfl,by decide,hA3,ok,hl3,by omega,tsub,fun L4 us fs H4 hL4 s4 hl4 pf ef wf=> ?_⟩;have s24:=s3.trans s4;have lfs:fs.length<64:=by
   have:=congrArg List.length ef;rw[List.length_map] at this
   omega
  have lus:=Paired.length pf;refine⟨Nat.zero_le _,fun Fr hFr=> ?_⟩;have sFr:=Zg hFr (o:=.lst []);have hw4:=s24 _ _ hw2;have nWF:wa2≠Fr:=Zn hw4 hFr;have nfs:(fs.map (·.1)).Nodup:=by rw[ef];exact tnd
  refine⟨_,rfl,L4,rfl,⟨_,SqL.of (sFr _ _ hl4)⟩,JD (xs:=us) (fun i σ H'=>∃v4 v5:Option V,σ=[some (.ref a),some (.ref d),some (.ref L4),some (.ref Fr),v4,v5]/\H' Fr=some (.lst ((Zat s.wd (fs.take i)).map V.str))/\H' wa2=some (.dK (wkv (ZaK s.wd (fs.take i))))/\∀c u,c≠Fr->c≠wa2->H4 c=some u->H' c=some u) ?_ ?_ ?_ ?_⟩
  ·exact⟨none,none,rfl,Zc,by rw[Zv nWF];exact hw4,fun c u n1 n2 e=>by rw[Zv n1];exact e⟩
  ·rintro i σ H5 _ ⟨v4,v5,rfl,_,_,fr⟩;exact SqL.of (fr _ _ (Zn hl4 hFr) (Yt hl4 hw4 (fun z=>nomatch z)) hl4)
  ·rintro i x σ H5 hx ⟨v4,v5,rfl,hf5,hw5,fr⟩;obtain⟨f,p,ei,rfl,row4⟩:=Zrt pf i x hx;have row:H5 p=some (.tup [.str f.1,.str f.2]):=fr _ _ (Zn row4 hFr) (Yt row4 hw4 (fun z=>nomatch z)) row4;have ha5:=fr _ _ (Zn (s24 _ _ ha2) hFr) (Yt (s24 _ _ ha2) hw4 (fun z=>nomatch z)) (s24 _ _ ha2);have tkf:fs.take (i+1)=fs.take i++[f]:=by rw[List.take_add_one,ei];rfl
   have fin:f.1∈s.wd.map (·.1):=ZdY (s:={s with ws:=s.ws++[w]}) (w:=w) f.1 (by rw[<-ef];exact List.mem_map_of_mem (List.mem_of_getElem? ei))
   obtain⟨x0,hx0,ex0⟩:=List.mem_map.mp fin;have nin:x0.1∉(fs.take i).map (·.1):=fun z=>by
    rw[ex0] at z
    have hi:i<fs.length:=(List.getElem?_eq_some_iff.mp ei).1;have ei2:fs[i]=f:=(List.getElem?_eq_some_iff.mp ei).2;obtain⟨y,hy,ey⟩:=List.mem_map.mp z;obtain⟨m,hm,em⟩:=List.getElem_of_mem hy;have hm2:m<i:=by rw[List.length_take] at hm;omega
    rw[List.getElem_take] at em
    have:=(List.pairwise_iff_getElem.mp (List.nodup_iff_pairwise_ne.mp nfs)) m i (by rw[List.length_map];omega) (by rw[List.length_map];exact hi) hm2
    rw[List.getElem_map,List.getElem_map,em,ei2] at this
    exact this ey
   have xin:x0∈ZaK s.wd (fs.take i):=ZgT hx0 nin;have ndk:((ZaK s.wd (fs.take i)).map (·.1)).Nodup:=by rw[Zb0];exact ndw
   have val:=Znt ndk x0 xin;rw[ex0] at val
   have due_in:decide ((f.1,Str.ofString "due")∈s.wd)=decide (x0.2=Str.ofString "due"):=decide_eq_decide.mpr ⟨fun m=>by rw[Zet ndw hx0 m ex0],fun e=>by rw[<-ex0,<-e];exact hx0⟩
   have lwd:(wkv (ZaK s.wd (fs.take i))).length<sizeLine:=by
    have:=congrArg List.length (Zb0 (fs.take i) s.wd);rw[List.length_map,List.length_map] at this
    unfold wkv;rw[List.length_map];omega
   rw[tkf];simp only [ZlM,ZmQ];rw[<-Zq4 (by rw[Zb0];exact fin)]
   have lfr:(Zat s.wd (fs.take i)).length<=64:=by
    unfold Zat;rw[List.length_map];have h1:=List.length_filter_le (Zas s.wd) (fs.take i);have h2:=List.length_take_le' i fs;omega
   refine⟨p,_,rfl,SqT.of row,rfl,_,_,rfl,_,_,rfl,rfl, ?_⟩;refine(fun(rest:∀(σ':L2.St) (H6:Hp),σ'=[some (.ref a),some (.ref d),some (.ref L4),some (.ref Fr),some (.str f.1),some (.str f.2)]->H6 Fr=some (.lst ((Zat s.wd (fs.take i)++(if Zas s.wd f=true then[f.1] else[])).map V.str))->(∀c u,c≠Fr->H5 c=some u->H6 c=some u)->(_:L2.St->Hp->Prop) σ' H6)=>
    ⟨_,rfl,a,_,dx2,_,_,rfl,ha5,T.cl_House,T.n_House_words,Zar ..,_,rfl,wa2,_,rfl,.inl ⟨_,Sum.inr f.1,.inl hw5,rfl,val.symm⟩,rfl,_,rfl,Xg (fun e=> ?yes) (fun e=>Yw (rest _ H5 rfl (by unfold Zas;rw[due_in,Bool.eq_false_iff.mpr (show¬decide (x0.2=Str.ofString "due")=true from fun y=>e (decide_eq_true (congrArg V.str (of_decide_eq_true y)))),Bool.false_and,if_neg Bool.false_ne_true,List.append_nil];exact hf5) (fun c u _ y=>y)))⟩) ?rest
   case yes=>
    have e:x0.2=Str.ofString "due":=by injection of_decide_eq_true e
    refine⟨_,rfl,rfl,_,rfl,Xg (fun e2=> ?_) (fun e2=>rest _ H5 rfl ?_ (fun c u _ y=>y))⟩
    ·have gd:Zas s.wd f=true:=by
      unfold Zas;rw[due_in,decide_eq_true e,Bool.true_and];cases q2:decide (f.2=Str.ofString "due") with
      |false=>rfl
      |true=>
       rw[decide_eq_true (congrArg V.str (of_decide_eq_true q2))] at e2
       cases e2
     refine⟨_,rfl,.inl ⟨rfl,_,SqL.of hf5⟩,_,rfl,Fr,_,V.str f.1,rfl,rfl,hf5,by rw[List.length_map];omega,rest _ _ rfl (by rw[Zc,if_pos gd,List.map_append];rfl) fun c u n y=>by rw[Zv n];exact y⟩
    ·have gd:Zas s.wd f=false:=by
      unfold Zas;cases q2:decide (f.2=Str.ofString "due") with
      |true=>exact Bool.and_false _
      |false=>
       refine absurd ?_ e2;rw[decide_eq_false (vne (of_decide_eq_false q2))]
       rfl
     rw[gd,if_neg Bool.false_ne_true,List.append_nil];exact hf5
   case rest=>
    rintro σ' H6 rfl hf6 k6;have hw6:=k6 _ _ nWF hw5;refine⟨_,rfl,_,rfl,a,_,dx2,_,_,rfl,k6 _ _ (Yt ha5 hf5 (fun z=>nomatch z)) ha5,T.cl_House,T.n_House_words,Zar ..,_,rfl,wa2,_,rfl,ZiN.k (k:=Sum.inr f.1) hw6 lwd,_,_,rfl,by rw[Zv (Ne.symm nWF)];exact hf6,Zc,fun c u n1 n2 y=>by rw[Zv n2];exact k6 _ _ n1 (fr c u n1 n2 y)⟩
  ·rintro σ H5 ⟨v4,v5,rfl,hf5,hw5,fr⟩;rw[<-lus,List.take_length] at hf5 hw5
   have lfr:(Zat s.wd fs).length<64:=by
    unfold Zat;rw[List.length_map];have h1:=List.length_filter_le (Zas s.wd) fs;omega
   refine⟨_,rfl,Fr,Zat s.wd fs,rfl,SqL.of hf5,lfr,fun zs pz sz D hD=> ?_⟩;have s6:=Zg hD (o:=.lst (zs.map V.str));have fr6:∀c u,c≠Fr->c≠wa2->H4 c=some u->upd H5 D (.lst (zs.map V.str)) c=some u:=fun c u n1 n2 e=>s6 _ _ (fr c u n1 n2 e);have hw6:=s6 _ _ hw5;have d6:upd H5 D (.lst (zs.map V.str)) D=some (.lst (zs.map V.str)):=Zc;have n4:∀{c:Addr},H5 c=none->H4 c=none:=fun{c} z=>by
    cases e:H4 c with
    |none=>rfl
    |some u=>
     by_cases c1:c=Fr
     ·rw[c1,hf5] at z;cases z
     ·by_cases c2:c=wa2
      ·rw[c2,hw5] at z;cases z
      ·rw[fr c u c1 c2 e] at z;cases z
   have nD4:=n4 hD;generalize upd H5 D (.lst (zs.map V.str))=H6 at fr6 hw6 d6
   have hA4:=hA2.same s24;have ki4:=hA4.kinds;have inF:∀{c:Addr},c∈F2->c≠Fr:=fun m z=>by
    rcases ki4 _ m with ⟨_,y⟩|⟨_,y⟩<;>rw[z,hFr] at y<;>cases y
   have kp46:ZeT F2 H4 H6:=fun c u m e=>fr6 c u (Zn e hFr) (fun z=>m (by rw[z,eF2];simp)) e
   have t6:=ki4.tup kp46;have i6:=ki4.ins kp46;have none2:∀{c:Addr},H4 c=none->H1 c=none\/c∈F:=fun{c} z=>by
    have z2:=Xu s24 z;cases e:H1 c with
    |none=>exact .inl rfl
    |some u=>
     by_cases m:c∈F
     ·exact .inr m
     ·rw[kp2 c u m e] at z2;cases z2
   have kinds1:=hA1.kinds;have noneH:∀{c:Addr},H4 c=none->H c=none:=fun{c} z=>by
    rcases none2 z with e|m
    ·exact Xu s1 e
    ·rcases ki4 c (sup2 c m) with ⟨_,y⟩|⟨_,y⟩<;>rw[y] at z<;>cases z
   have k5:∀{c:Addr},c∈F2->c≠wa2->∀u,H4 c=some u->H6 c=some u:=fun m n u e=>fr6 _ _ (inF m) n e;have nd:=nd2;rw[eF2] at nd
   simp only [List.nodup_cons,List.mem_cons,not_or] at nd
   obtain⟨⟨nto,nth,ntr,ntk,ntw,nts⟩,⟨noh,nor,nok,now_,nos⟩,⟨nhr,nhk,nhw,nhs⟩,⟨nrk,nrw,nrs⟩,⟨nkw,nks⟩,nws,ndo⟩:=nd;have mt:t2∈F2:=by rw[eF2];simp
   have mo:o2∈F2:=by rw[eF2];simp
   have mh:h2∈F2:=by rw[eF2];simp
   have mr:r2∈F2:=by rw[eF2];simp
   have mk:k2∈F2:=by rw[eF2];simp
   have mx:∀x∈os2,x.2∈F2:=fun x hx=>by
    rw[eF2];simp only [List.mem_cons];exact .inr (.inr (.inr (.inr (.inr (.inr (List.mem_map_of_mem hx))))))
   have rw6:∀{c:Addr} {rows:List Rw},c∈F2->c≠wa2->Xb H2 c rows->Xb H6 c rows:=fun m n ⟨ds,e,pp⟩=>⟨ds,k5 m n _ (s24 _ _ e),Xm t6 (Yz s24 pp)⟩
   refine q D zs (ZaK s.wd fs) H6 F2 (fun c u m e=> ?_) (fun c m=> ?_) sup2 ⟨dx2,b2,t2,o2,h2,r2,k2,wa2,os2,kvs2,i6 _ _ _ _ (s24 _ _ ha2),Zes t6 (fun c C dx fs e=>i6 _ _ _ _ e) (fun u e=>fr6 _ _ (Zn e hFr) (fun z=>nb2 (by rw[z,eF2];simp)) e) (Zbt s24 hb2),rw6 mt ntw ht2,k5 mo now_ _ (s24 _ _ ho2),⟨oa2.one,oa2.mem,fun x hx=>rw6 (mx x hx) (fun z=>nws (by rw[<-z];exact List.mem_map_of_mem hx)) (oa2.at_ x hx)⟩,rw6 mh nhw hh2,k5 mr nrw _ (s24 _ _ hr2),k5 mk nkw _ (s24 _ _ hk2),Je t6 (Je (fun c xs e=>s24 _ _ e) pk2),hw6,eF2,nd2,nb2⟩ (ZmP wo ef wf) (noneH nD4) (fun m=> ?_) d6 sz ⟨fs,nfs,(fun f hf=>ZdY (s:={s with ws:=s.ws++[w]}) (w:=w) f.1 (by rw[<-ef];exact List.mem_map_of_mem hf)),pz,rfl⟩
   ·have c2:c∉F2:=fun y=>by
     rcases sub2 c y with z|z
     ·exact m z
     ·rw[s1 _ _ e] at z;cases z
    exact kp46 c u c2 (s24 _ _ (kp2 c u m (s1 _ _ e)))
   ·rcases sub2 c m with z|z
    ·exact .inl z
    ·exact .inr (Xu s1 z)
   ·rcases ki4 _ m with ⟨_,y⟩|⟨_,y⟩<;>rw[nD4] at y<;>cases y
theorem Zis:∀(xs:List Str) (p:Str),risingS p xs=true->(∀x∈xs,YL x p=false)/\M4.Asc YL xs
 |[],_,_=>⟨(fun _ h=>nomatch h),.nil⟩
 |x::r,p,h=>by
  have h:(!ltCps x.cps.toList p.cps.toList&&risingS x r)=true:=h;rw[ltCps_eq] at h
  have h:(!YL x p&&risingS x r)=true:=h;rw[Bool.and_eq_true] at h
  have hx:YL x p=false:=by simpa using h.1
  obtain⟨k1,k2⟩:=Zis r x h.2;refine⟨fun y hy=> ?_,List.pairwise_cons.mpr ⟨fun y hy=>k1 y hy,k2⟩⟩;obtain rfl|hr:=List.mem_cons.mp hy
  ·exact hx
  ·cases e:YL y p with
   |false=>rfl
   |true=>
    rcases YM.tri x y with a|a|a
    ·rw[YM.tr _ _ _ a e] at hx;cases hx
    ·subst a;rw[e] at hx;cases hx
    ·rw[k1 y hr] at a;cases a
theorem Zf4{zs:List Str}(h:sortedS zs=true):M4.Asc YL zs:=by
 cases zs with
 |nil=>exact .nil
 |cons x r=>
  obtain⟨k1,k2⟩:=Zis r x h;exact List.pairwise_cons.mpr ⟨k1,k2⟩
theorem ZmR{a b c:List Str}(pa:a.Perm c)(pb:b.Perm c)(ha:sortedS a=true)(hb:sortedS b=true):a=b:=M4.Zkb YM (pa.trans pb.symm) (Zf4 ha) (Zf4 hb)
theorem IsJ.one{rs:List Sr}{ws:List Rw}{rec:Str}{day:Int}{j k:Jd}(h:IsJ rs ws rec day j)(h':IsJ rs ws rec day k):j=k:=by
 cases e:Xl (Ys ws day) rec with
 |false=>rw[h.no e,h'.no e]
 |true=>
  obtain⟨y,r0,t,a1,a2,a3,a4,a5,a6,a7,a8,a9⟩:=h.yes e;obtain⟨y',r0',t',b1,b2,b3,b4,b5,b6,b7,b8,b9⟩:=h'.yes e;obtain rfl:=a1.one b1;rw[a2] at b2
  cases b2;rw[a3] at b3
  cases b3;have eh:=ZmR a7 b7 a8 b8;obtain⟨jw,js,jo,jd,jh⟩:=j;obtain⟨kw,ks,ko,kd,kh⟩:=k;simp only at a4 a5 a6 a9 b4 b5 b6 b9 eh
  subst a4 a5 a6 b4 b5 b6 eh;rw[a9,b9]
def ZcB(s:Hs)(day:Int)(r:Str):Prop:=∃j,IsJ s.rs s.ws r day j/\j.word="due"
def ZfQ(s:Hs)(day:Int)(H:Hp)(r:Str)(v:V):Prop:=∃p j v5,v=.ref p/\H p=some (.tup [.str r,oS j.ser,oS j.own,oV j.due,v5])/\IsJ s.rs s.ws r day j/\j.word="due"/\Zne s.rs s.ws r day H v5
def ZkK(ws:List Rw):Prop:=∃ns:List Str,ns.length<64/\∀r,YQ ws r≠[]->r∈ns
def Zew(cn ca cl ce:Addr)(n:Nat)(C:Addr):Sp:=fun vs H Q _=>∃(a:Addr) (day:Int) (s:Hs) (F:List Addr),vs=[.ref a,.int day]/\0<n/\Yh cn ca cl ce C H a s F/\ZdW s/\ZkK s.ws/\
 ∀L us zs H',H L=none->ZS H H'->H' L=some (.lst us)->Paired (ZfQ s day H') zs us->zs.Pairwise (fun a b=>YL a b=true)->(∀r,r∈zs↔r∉s.gs.map (·.1)/\ZcB s day r)->Q (.ref L) H'
theorem ZlN{cn ca cl ce C:Addr}:∀vs H Q E,¬Zew cn ca cl ce 0 C vs H Q E:=fun _ _ _ _ ⟨_,_,_,_,_,z,_⟩=>Nat.lt_irrefl 0 z
def ZfR(gs:List Gn)(kv:Key×V):List V:=match kv.1 with
 | .inr r=>if r∈gs.map (·.1) then[] else[V.str r]
 | .inl _=>[]
theorem Zit(gs:List Gn):∀os:List (Str×Addr),(okv os).flatMap (ZfR gs)=((os.map (·.1)).filter fun r=> !decide (r∈gs.map (·.1))).map V.str
 |[]=>rfl
 |x::os=>by
  show ZfR gs (Sum.inr x.1,V.ref x.2)++(okv os).flatMap (ZfR gs)=_;rw[Zit gs os,List.map_cons];show(if x.1∈gs.map (·.1) then[] else[V.str x.1])++_=_
  by_cases h:x.1∈gs.map (·.1)
  ·rw[if_pos h,List.filter_cons_of_neg (by rw[decide_eq_true h];exact Bool.false_ne_true)]
   rfl
  ·rw[if_neg h,List.filter_cons_of_pos (by rw[decide_eq_false h];rfl)]
   rfl
theorem ZmS{H:Hp}:∀{gs:List Gn} {kvs:List (Key×V)},Paired (ZfE H) gs kvs->∀r,(YK kvs (Sum.inr r)).isSome=decide (r∈gs.map (·.1))
 |_,_,.nil,r=>rfl
 |_,_,.cons (a:=g) ⟨p,e,hp⟩ t,r=>by
  subst e
  by_cases z:g.1=r
  ·rw[YH (by rw[z])];exact(decide_eq_true (by rw[List.map_cons,z];exact List.mem_cons_self ..)).symm
  ·rw[YC (by exact fun y=>z (by injection y)),ZmS t r];refine decide_eq_decide.mpr ⟨fun m=> ?_,fun m=> ?_⟩
   ·rw[List.map_cons];exact List.mem_cons_of_mem _ m
   ·rw[List.map_cons] at m
    exact(List.mem_cons.mp m).elim (fun y=>absurd y.symm z) id
theorem ZfS{s:Hs}{day:Int}{H H':Hp}(sm:∀b xs,H b=some (.tup xs)->H' b=some (.tup xs)):∀{zs:List Str} {us:List V},Paired (ZfQ s day H) zs us->Paired (ZfQ s day H') zs us
 |_,_,.nil=> .nil
 |_,_,.cons ⟨p,j,v5,e,h,is,wd,wy⟩ t=> .cons ⟨p,j,v5,e,sm _ _ h,is,wd,⟨wy.no,fun z=>by
   obtain⟨y,r0,t,top,ow,ht,no,yes⟩:=wy.yes z;refine⟨y,r0,t,top,ow,ht,no,fun D e=> ?_⟩;obtain⟨a,k,d,n,e1,ha,r⟩:=yes D e;exact⟨a,k,d,n,e1,sm _ _ ha,r⟩⟩⟩ (ZfS sm t)
theorem ZkL{s:Hs}{day:Int}{r:Str}(h:ZcB s day r):YQ s.ws r≠[]:=fun z=>by
 obtain⟨j,is,e⟩:=h;have np:Xl (Ys s.ws day) r=false:=by
  obtain⟨a1,_⟩:=Zht (ws:=s.ws) (r:=r) (x:=day) (s:=day) rfl;rw[a1,z]
  rfl
 rw[is.no np] at e
 exact absurd e (by decide+kernel:¬Str.ofString "absent"=Str.ofString "due")
theorem ZlO{zs xs:List Str}(p:zs.Perm xs)(nd:xs.Nodup)(h:M4.Asc YL zs):zs.Pairwise fun a b=>YL a b=true:=by
 have nz:zs.Pairwise (· ≠ ·):=List.nodup_iff_pairwise_ne.mp (p.nodup_iff.mpr nd);have h:zs.Pairwise fun a b=>YL b a=false:=h;refine(h.and nz).imp fun{a b} ⟨h1,h2⟩=> ?_;rcases YM.tri a b with q|q|q
 ·exact q
 ·exact absurd q h2
 ·rw[h1] at q;cases q
theorem Zf5{α:Type}{zs:List α}{i:Nat}{x:α}(nd:zs.Nodup)(e:zs[i]? =some x):x∉zs.take i:=fun m=>by
 obtain⟨hi,ei⟩:=List.getElem?_eq_some_iff.mp e;obtain⟨k,hk,ek⟩:=List.getElem_of_mem m;have hk2:k<i:=by rw[List.length_take] at hk;omega
 rw[List.getElem_take] at ek
 have:=(List.pairwise_iff_getElem.mp (List.nodup_iff_pairwise_ne.mp nd)) k i (by omega) hi hk2;rw[ek,ei] at this
 exact this rfl
theorem Jb:ZX ["self","day","found","stays","record","rows","told"] ["self","day"] (ZG ZbL):=⟨rfl,rfl,rfl,by decide+kernel,rfl,by decide+kernel,by decide+kernel⟩
theorem Zhd{f:Addr}{fd:FuncData}(F:Fun K "due_on" "House.due_on" ZbL f fd)(T:Txt K mg Zk Zi Zj Zb Zt Zr ZM Zw ZC Zx ZD Ze Zd Zf Zq ZF ZP)(n:Nat)(Ja:Cal P w K mg base CX0 1 "counted" ["rows","day"] ZaG)(ZcR:Cal P w K mg base CX0 14 "judged" ["book","rows","record","day"] (Zeo Zk Zi Zj Zb))(Ziu:Cal P w K mg base CX0 14 "reason" ["book","rows","record","day"] (Zgm Zk Zi Zj Zb))(Jv:Cal P w K mg base CX0 1 "standing" ["rows"] ZaW):Yy P w K mg base CX0 (14+n+1+1) f fd ["self","day"] (Zew Zk Zi Zj Zb (n+1) Zt):=by
 refine F.ok Jb (fun vs H Q E h=> ?_) (fun cdv A outer s H vs Q E hr h=> ?_)
 ·obtain⟨a,day,s,F,rfl,_⟩:=h
  rfl
 ·obtain⟨a,day,s,F,rfl,_,⟨dx,b,t,o,h,r,k,wd,os,kvs,ha,hb,ht,ho,oa,hh,hr',hk,pk,hw,eF,nd,nb⟩,ok,l64,q⟩:=h;have l5:=Xd;have hu:=ZbC hr;have few:=ok.few;refine⟨_,(Zh (ZK (i:=2) Jb.nd rfl (Or.inl rfl) (Yq Zm)) (Zh (ZK (i:=3) Jb.nd rfl (Or.inl rfl) (Ym Jv (hr.mono (by omega)) rfl Yc (Za (Ym Ja (hr.mono (by omega)) rfl Yc (Za (Yp (pv 0) rfl) (Za (pv 1) Zm))) Zm))) (Zh (JV PassesOwn.never rfl (Xc (Yb Zd6 (by rfl) T.z_sorted Zeh (Za (Zfw (Jz ["name"] [("self",0)] rfl (ZqH (Yp (pv 0) rfl)) (by rfl) (by exact⟨rfl,trivial⟩) (by rfl) (by exact⟨⟨rfl,rfl,rfl⟩,trivial⟩) (fun _ _ _ _=>(Yi (i:=0) (show(nmY ["name"] [("self",0)]).Nodup by decide+kernel) rfl (Or.inl rfl))) (fun _ _ _ _=>(ZaM (Zg4 (Zee hu (pv 0) (Zkd (K:=K) rfl (pv 1) rfl))))) (fun _ _ _ _=>(pv 0)))) Zm))) (Yi (i:=4) Jb.nd rfl (Or.inl rfl)) (Zh (ZK (i:=5) Jb.nd rfl (Or.inl rfl) (ZQ Zbr (Zbp hu (Yp (pv 0) rfl) (pv 4) (fun _ _=>rfl)) (pv 3))) (Zh (ZK (i:=6) Jb.nd rfl (Or.inl rfl) (Ym ZcR (hr.mono (by omega)) rfl Yc (Za (Yp (pv 0) rfl) (Za (pv 5) (Za (pv 4) (Za (pv 1) Zm)))))) (Zu (Yj (Zy Yu (ZV ZZ (pv 6) Zo (fun _ _=>rfl)) ZR (ZL _)) (Zu (Xv (Zaj PySem.F.plainAttrs_list PySem.F.slot_list_append PySem.F.type_list_append Xa (pv 2) (Za (YX (Za (pv 4) (Za (ZV ZZ (pv 6) Zo (fun _ _=>rfl)) (Za (ZV ZZ (pv 6) Zo (fun _ _=>rfl)) (Za (ZV ZZ (pv 6) Zo (fun _ _=>rfl)) (Za (Ym Ziu (hr.mono (by omega)) rfl Yc (Za (Yp (pv 0) rfl) (Za (pv 5) (Za (pv 4) (Za (pv 1) Zm))))) Zm)))))) Zm)))) ZW))))) (Zu (ZJ (pv 2)))))), ?_⟩
  refine⟨Nat.zero_le _,fun Fd hFd=> ?_⟩;have sF:=Zg hFd (o:=.lst []);have hF1:upd H Fd (.lst []) Fd=some (.lst []):=Zc;generalize upd H Fd (.lst [])=H1 at sF hF1
  have lh:(s.ws.filter Za0).length<=s.ws.length:=List.length_filter_le _ _;refine⟨_,rfl,a,_,dx,_,_,rfl,sF _ _ ha,T.cl_House,T.n_House_holdings,Zcf ..,_,rfl,h,s.ws.filter Za0,day,rfl,Yl sF hh,by omega,fun C H2 hC s2 rc=> ?_⟩;have lu:(Ys (s.ws.filter Za0) day).length<=(s.ws.filter Za0).length:=List.length_filter_le _ _;refine⟨C,_,rfl,rc,by omega,fun St H3 hSt s3 rl=> ?_⟩;have s03:=sF.trans (s2.trans s3)
  have hF3:=s3 _ _ (s2 _ _ hF1);have ho3:=s03 _ _ ho;have los:os.length<64:=by
   obtain⟨ns,l,sub⟩:=l64;have:=oa.one.length_le_of_subset fun r hr=>sub r ((oa.mem r).mp hr);rw[List.length_map] at this
   omega
  have nSF:St≠Fd:=fun z=>by rw[z,s2 _ _ hF1] at hSt;cases hSt
  have lok:(okv os).length=os.length:=List.length_map ..;refine⟨_,rfl,a,_,dx,_,_,rfl,s03 _ _ ha,T.cl_House,T.n_House_own,Zif ..,o,okv os,rfl,ho3,fun ob=> ?_⟩;refine Jk (okv os).length (fun i=>(((okv os)[i]?).map (ZfR s.gs)).getD []) (by omega) (fun i=> ?_) (fun i H2 s lt=>⟨s _ _ Zc,lt⟩) (fun H2 s=>⟨s _ _ Zc,Nat.le_refl _⟩) (fun i x H4 H5 s4 lt y RT RF rt rf=> ?_) fun D H4 hD s4 d4=> ?_
  ·cases(okv os)[i]? with
   |none=>exact Nat.zero_le _
   |some kv=>
    show(ZfR s.gs kv).length<=1;unfold ZfR;cases kv.1 with
    |inl _=>exact Nat.zero_le _
    |inr z=>
     show(if z∈s.gs.map (·.1) then[] else[V.str z]).length<=1
     split
     ·exact Nat.zero_le _
     ·exact Nat.le_refl _
  ·obtain⟨rfl,kv,e2,rfl⟩:=y;rw[e2] at rt rf
   have rt:∀v H6,ZfR s.gs kv=[v]->_:=rt;have rf:∀H5,ZfR s.gs kv=[]->_:=rf;obtain⟨x0,_,rfl⟩:=List.mem_map.mp (List.mem_of_getElem? e2);have nko:k≠o:=by
    rw[eF] at nd
    simp only [List.nodup_cons,List.mem_cons,not_or] at nd
    exact Ne.symm nd.2.1.2.2.1
   have hk5:=s4 _ _ (show upd H3 o (.frz ob (.dK (okv os))) k=some (.dK kvs) by rw[Zv nko];exact s03 _ _ hk)
   have ha5:=s4 _ _ (show upd H3 o (.frz ob (.dK (okv os))) a=some (.ins Zt dx (fH b t o h r k wd)) by rw[Zv (Yt ha ho (fun z=>nomatch z))];exact s03 _ _ ha)
   refine⟨⟨rfl,trivial⟩,_,rfl,_,rfl,a,_,dx,_,_,rfl,ha5,T.cl_House,T.n_House_taken,ZdV ..,k,_,rfl,.inl ⟨kvs,Sum.inr x0.1,.inl hk5,rfl,rfl⟩,_,rfl, ?_⟩;rw[ZmS pk]
   by_cases z:x0.1∈s.gs.map (·.1)
   ·rw[decide_eq_true z];exact Yw (rf _ (if_pos z) (ZS.refl _))
   ·rw[decide_eq_false z];exact Jq ⟨_,rfl,rt _ _ (if_neg z) (ZS.refl _)⟩
  ·rw[JH (ZfR s.gs) (okv os),Zit] at d4
   have hDo:D≠o:=fun e=>by rw[e,Zc] at hD;cases hD
   obtain⟨t1,t2⟩:=(ZhQ.of s4).thaw (H₀:=H) ho3 (fun ob u z=>by rw[ho] at z;cases z)
   have hD3:H3 D=none:=by rw[Zv hDo] at hD;exact hD
   have dD:upd H4 o (.dK (okv os)) D=some (.lst (((os.map (·.1)).filter fun r=> !decide (r∈s.gs.map (·.1))).map V.str)):=by rw[Zv hDo];exact d4
   refine⟨o,_,t1, ?_⟩;generalize upd H4 o (.dK (okv os))=H5 at t1 t2 dD
   have ln:((os.map (·.1)).filter fun r=> !decide (r∈s.gs.map (·.1))).length<=(os.map (·.1)).length:=List.length_filter_le _ _;rw[List.length_map] at ln
   refine⟨D,_,rfl,SqL.of dD,by omega,fun zs pz sz D2 hD2=> ?_⟩;have s05:=s03.trans (t2.trans (Zg hD2 (o:=.lst (zs.map V.str))));have hF6:=(t2.trans (Zg hD2 (o:=.lst (zs.map V.str)))) _ _ hF3;have rl6:=Yl (t2.trans (Zg hD2 (o:=.lst (zs.map V.str)))) rl;have z6:upd H5 D2 (.lst (zs.map V.str)) D2=some (.lst (zs.map V.str)):=Zc;have nD2F:D2≠Fd:=fun y=>by rw[y,t2 _ _ hF3] at hD2;cases hD2
   generalize upd H5 D2 (.lst (zs.map V.str))=H6 at s05 hF6 rl6 z6
   have nds:((os.map (·.1)).filter fun r=> !decide (r∈s.gs.map (·.1))).Nodup:=oa.one.filter _;have strict:=ZlO pz nds (Zf4 sz);have lzs:zs.length<=64:=by rw[pz.length_eq];omega
   have mz:∀rc,rc∈zs↔rc∈os.map (·.1)/\rc∉s.gs.map (·.1):=fun rc=>by
    rw[pz.mem_iff,List.mem_filter];exact⟨fun⟨x,y⟩=>⟨x,fun z=>by rw[decide_eq_true z] at y;cases y⟩,fun⟨x,y⟩=>⟨x,by rw[decide_eq_false y];rfl⟩⟩
   refine⟨D2,rfl,⟨_,SqL.of z6⟩,JD (xs:=zs.map V.str) (fun i σ H'=>∃(v4 v5 v6:Option V) (us:List V) (ys:List Str),σ=[some (.ref a),some (.int day),some (.ref Fd),some (.ref St),v4,v5,v6]/\H' Fd=some (.lst us)/\Paired (ZfQ s day H') ys us/\ys.Sublist (zs.take i)/\(∀rc∈zs.take i,rc∈ys↔ZcB s day rc)/\∀c u,c≠Fd->H6 c=some u->H' c=some u) ?_ ?_ ?_ ?_⟩
   ·exact⟨none,none,none,[],[],rfl,hF6,.nil,List.Sublist.refl _,(fun rc hrc=>nomatch hrc),fun c u _ e=>e⟩
   ·rintro i σ H7 _ ⟨v4,v5,v6,us,ys,rfl,_,_,_,_,fr⟩;exact SqL.of (fr _ _ nD2F z6)
   ·rintro i x σ H7 hx ⟨v4,v5,v6,us,ys,rfl,hF7,po,sl1,iff,fr⟩;obtain⟨rc,rfl,erc⟩:∃rc,x=V.str rc/\zs[i]? =some rc:=by
     rw[List.getElem?_map] at hx
     cases e:zs[i]? with
     |none=>rw[e] at hx;cases hx
     |some y=>rw[e] at hx;exact⟨y,(Option.some.inj hx).symm,rfl⟩
    have hrc:=(mz rc).mp (List.mem_of_getElem? erc);obtain⟨⟨xo,xl⟩,hxo,e2⟩:=List.mem_map.mp hrc.1;have e2:xo=rc:=e2;subst e2;have tkz:zs.take (i+1)=zs.take i++[xo]:=by rw[List.take_add_one,erc];rfl
    have s07:ZS H H7:=fun c u e=>fr c u (Zn e hFd) (s05 _ _ e);obtain⟨ps,hz,pz2⟩:=Yl s07 (oa.at_ _ hxo);obtain⟨yy,hy,py⟩:=rl6;have hy7:=fr _ _ nSF hy;have py7:Paired (ZbP H7) yy (Jf s.ws day):=Xm (fun c xs e=>fr _ _ (fun z=>by rw[z,hF6] at e;cases e) e) py
    have vo:=Zgr oa.one _ hxo;have lz2:(YQ s.ws xo).length<=s.ws.length:=List.length_filter_le _ _;have lps:ps.length=(YQ s.ws xo).length:=Paired.length pz2;have lyy:=Paired.length py7;have rof:=Zii (r:=xo) (day:=day) ok.rows (by omega);have lyr:=rof.len;have elen:(XM s.ws xo day).length=(YQ s.ws xo).length+(Jf s.ws day).length:=List.length_append;refine⟨_,rfl,a,_,dx,_,_,rfl,s07 _ _ ha,T.cl_House,T.n_House_own,Zif ..,_,rfl,o,_,rfl,.inl ⟨okv os,Sum.inr xo,.inl (s07 _ _ ho),rfl,vo.symm⟩,_,rfl,xl,St,_,_,rfl,rfl,SqL.of hz,SqL.of hy7,by rw[List.length_map,List.length_map];omega,fun R hR=> ?_⟩
    have s8:=Zg hR (o:=.lst (ps.map V.ref++yy.map V.ref));have hR8:Xb (upd H7 R (.lst (ps.map V.ref++yy.map V.ref))) R (XM s.ws xo day):=⟨ps++yy,by rw[Zc,List.map_append],ZfJ (Yz s8 pz2) (Yz s8 py7)⟩
    generalize upd H7 R (.lst (ps.map V.ref++yy.map V.ref))=H8 at s8 hR8
    have s08:=s07.trans s8;refine⟨_,rfl,a,_,dx,_,_,rfl,s08 _ _ ha,T.cl_House,T.n_House_book,ZfK ..,_,rfl,_,rfl,_,rfl,b,R,s.rs,XM s.ws xo day,xo,day,rfl,Zbt s08 hb,ok.bk,ok.lr,hR8,rof,fun ja j H9 hja0 s9 ⟨Lh,hja,_⟩ _ is=> ?_⟩;have isj:=ZjA is;have s89:=s8.trans s9;have next:(ZcB s day xo->False)->∃(v4 v5 v6:Option V) (us:List V) (ys:List Str),[some (V.ref a),some (.int day),some (.ref Fd),some (.ref St),some (.str xo),some (.ref R),some (.ref ja)]=[some (V.ref a),some (.int day),some (.ref Fd),some (.ref St),v4,v5,v6]/\H9 Fd=some (.lst us)/\Paired (ZfQ s day H9) ys us/\ys.Sublist (zs.take (i+1))/\(∀rc∈zs.take (i+1),rc∈ys↔ZcB s day rc)/\∀c u,c≠Fd->H6 c=some u->H9 c=some u:=fun no=>by
     refine⟨_,_,_,us,ys,rfl,s89 _ _ hF7,ZfS (fun c xs e=>s89 _ _ e) po,by rw[tkz];exact sl1.trans (List.sublist_append_left _ _),fun rc m=> ?_,fun c u n e=>s89 _ _ (fr c u n e)⟩
     rw[tkz] at m
     rcases List.mem_append.mp m with old|new
     ·exact iff rc old
     ·rw[List.mem_singleton.mp new];exact⟨fun y=>absurd (sl1.subset y) (Zf5 (pz.nodup_iff.mpr nds) erc),fun y=>(no y).elim⟩
    refine(ixT rfl (SqT.of hja) rfl ⟨rfl,_,rfl,Xg (fun e=> ?_) (fun e=>next fun⟨j',is',e'⟩=>e (decide_eq_true (by rw[isj.one is',e'])))⟩);have e:j.word="due":=by injection of_decide_eq_true e
    have s09:=s08.trans s9;have hF9:=s89 _ _ hF7;have lus:us.length<=64:=by
     have h1:=Paired.length po;have h2:=sl1.length_le;have h3:=List.length_take_le' i zs;omega
    refine⟨_,rfl,.inl ⟨rfl,_,SqL.of hF9⟩,_,rfl,ixT rfl (SqT.of hja) rfl (ixT rfl (SqT.of hja) rfl (ixT rfl (SqT.of hja) rfl ⟨_,rfl,a,_,dx,_,_,rfl,s09 _ _ ha,T.cl_House,T.n_House_book,ZfK ..,_,rfl,_,rfl,_,rfl,b,R,s.rs,XM s.ws xo day,xo,day,rfl,Zbt s09 hb,ok.bk,ok.lr,Yl s9 hR8,rof,fun v5 H10 s10 why=>⟨show 5<=sizeLine from sl,fun tt htt=> ?_⟩⟩))⟩;have hF10:=s10 _ _ hF9;have s810:=s89.trans s10;refine⟨Fd,_,V.ref tt,rfl,rfl,Zg htt _ _ hF10,by omega, ?_⟩
    have nF:Fd≠tt:=Zn hF10 htt;have kp:∀c u,c≠Fd->H10 c=some u->upd (upd H10 tt (.tup [.str xo,oS j.ser,oS j.own,oV j.due,v5])) Fd (.lst (us++[.ref tt])) c=some u:=fun c u n e=>by rw[Zv n,Zv (Zn e htt)];exact e
    have kt:∀c xs,H10 c=some (.tup xs)->upd (upd H10 tt (.tup [.str xo,oS j.ser,oS j.own,oV j.due,v5])) Fd (.lst (us++[.ref tt])) c=some (.tup xs):=fun c xs e=>kp c _ (Yt e hF10 (fun z=>nomatch z)) e;have why2:=ZlF why;refine⟨_,_,_,us++[.ref tt],ys++[xo],rfl,Zc,Paired.snoc (ZfS (fun c xs e=>kt _ _ (s810 _ _ e)) po) ⟨tt,j,v5,rfl,by rw[Zv (Ne.symm nF),Zc],isj,e,⟨why2.no,fun z=> ?_⟩⟩,by rw[tkz];exact List.Sublist.append sl1 (List.Sublist.refl _),fun rc m=> ?_,fun c u n y=>kp c u n (s810 _ _ (fr c u n y))⟩
    ·obtain⟨y,r0,t,top,ow,ht,no,yes⟩:=why2.yes z;refine⟨y,r0,t,top,ow,ht,no,fun D e=> ?_⟩;obtain⟨a,k,d,n,e1,ha,r⟩:=yes D e;exact⟨a,k,d,n,e1,kt _ _ ha,r⟩
    ·rw[tkz] at m
     rcases List.mem_append.mp m with old|new
     ·have ne:rc≠xo:=fun z=>Zf5 (pz.nodup_iff.mpr nds) erc (z▸old);rw[List.mem_append,iff rc old];exact⟨fun y=>y.elim id fun z=>absurd (List.mem_singleton.mp z) ne,fun y=> .inl y⟩
     ·rw[List.mem_singleton.mp new];exact⟨fun _=>⟨j,isj,e⟩,fun _=>List.mem_append_right _ (List.mem_singleton_self _)⟩
   ·rintro σ H7 ⟨v4,v5,v6,us,ys,rfl,hF7,po,sl1,iff,fr⟩;rw[List.length_map,List.take_length] at sl1 iff
    refine⟨_,rfl,q Fd us ys H7 hFd (fun c u e=>fr c u (Zn e hFd) (s05 _ _ e)) hF7 po (strict.sublist sl1) fun rc=> ?_⟩
    constructor
    ·intro m;have mzs:=sl1.subset m;exact⟨((mz rc).mp mzs).2,(iff rc mzs).mp m⟩
    ·rintro⟨n1,dn⟩;exact(iff rc ((mz rc).mpr ⟨(oa.mem rc).mpr (ZkL dn),n1⟩)).mpr dn
def Ziv(s:Hs)(day:Int)(zs:List Str):Hs:={s with runs:=s.runs++[day],gs:=s.gs++zs.map fun r=>(r,((s.runs.length+1:Nat):Int),day),wd:=s.wd++zs.map fun r=>(r,Str.ofString "due")}
def ZkM(cn ca cl ce cb:Addr)(n:Nat)(C:Addr):Sp:=fun vs H Q E=>∃(a:Addr) (day:Int) (s:Hs) (F:List Addr),vs=[.ref a,.int day]/\0<n/\Yh cn ca cl ce C H a s F/\ZdW s/\ZkK s.ws/\s.wd.map (·.1)=s.gs.map (·.1)/\s.runs.length<=900/\s.gs.length<=900/\
 ((∃d,s.runs.getLast? =some d/\day<d)->∀H',ZS H H'->E (.ref cb) none H')/\
 ((∀d,s.runs.getLast? =some d->d<=day)->∀L us zs H',ZeT F H H'->Yh cn ca cl ce C H' a (Ziv s day zs) F->H L=none->L∉F->H' L=some (.lst us)->Paired (ZfQ s day H') zs us->zs.Pairwise (fun a b=>YL a b=true)->(∀r,r∈zs↔r∉s.gs.map (·.1)/\ZcB s day r)->Q (.ref L) H')
theorem Zqb{cn ca cl ce cb C:Addr}:∀vs H Q E,¬ZkM cn ca cl ce cb 0 C vs H Q E:=fun _ _ _ _ ⟨_,_,_,_,_,z,_⟩=>Nat.lt_irrefl 0 z
theorem ZlP{kvs:List (Key×V)}{k:Key}{v:V}(h:(YK kvs k).isSome=false):JF kvs k v=kvs++[(k,v)]:=by
 unfold JF;rw[Zak,h,if_neg Bool.false_ne_true]
theorem Zrc{xs:List Int}{x:Int}(h:xs.getLast? =some x):atI (xs.map V.int) (-1)=some (.int x):=by
 obtain⟨ys,rfl⟩:=List.getLast?_eq_some_iff.mp h;rw[List.map_append];exact ZoQ _ _
theorem ZjD{cn ca cl ce C a dx b t o h r k w:Addr}{H H':Hp}{s:Hs}{F:List Addr}{os:List (Str×Addr)}{kvs kvs':List (Key×V)}{rn':List Int}{gs':List Gn}{wd':List (Str×Str)}
  (ha:H a=some (.ins C dx (fH b t o h r k w)))(hb:ZfC cn ca cl ce H b s.rs)(ht:Xb H t s.ws)(ho:H o=some (.dK (okv os)))(oa:ZpL H os s.ws)(hh:Xb H h (s.ws.filter Za0))(hr:H r=some (.lst (s.runs.map V.int)))(hk:H k=some (.dK kvs))(hw:H w=some (.dK (wkv s.wd)))
  (eF:F=t::o::h::r::k::w::os.map (·.2))(nd:F.Nodup)(nb:b∉F)(mv:∀c u,c≠r->c≠k->c≠w->H c=some u->H' c=some u)(hr':H' r=some (.lst (rn'.map V.int)))(hk':H' k=some (.dK kvs'))(pk':Paired (ZfE H') gs' kvs')(hw':H' w=some (.dK (wkv wd'))):
  Yh cn ca cl ce C H' a {s with runs:=rn',gs:=gs',wd:=wd'} F:=by
 subst eF;have n:=nd;simp only [List.nodup_cons,List.mem_cons,not_or] at n
 obtain⟨⟨_,_,ntr,ntk,ntw,nts⟩,⟨_,nor,nok,now_,nos⟩,⟨nhr,nhk,nhw,nhs⟩,⟨nrk,nrw,nrs⟩,⟨nkw,nks⟩,nws,ndo⟩:=n;have n2:=nb;simp only [List.mem_cons,not_or] at n2
 obtain⟨_,_,_,nbr,nbk,nbw,_⟩:=n2;have kt:∀c xs,H c=some (.tup xs)->H' c=some (.tup xs):=fun c xs e=>mv c _ (Yt e hr (fun z=>nomatch z)) (Yt e hk (fun z=>nomatch z)) (Yt e hw (fun z=>nomatch z)) e;have ki:∀c C dx fs,H c=some (.ins C dx fs)->H' c=some (.ins C dx fs):=fun c C dx fs e=>mv c _ (Yt e hr (fun z=>nomatch z)) (Yt e hk (fun z=>nomatch z)) (Yt e hw (fun z=>nomatch z)) e;have rw_:∀{p:Addr} {us:List Rw},p≠r->p≠k->p≠w->Xb H p us->Xb H' p us:=fun n1 n2 n3 ⟨ds,e,pp⟩=>⟨ds,mv _ _ n1 n2 n3 e,Xm kt pp⟩
 exact⟨dx,b,t,o,h,r,k,w,os,kvs',ki _ _ _ _ ha,Zes kt ki (fun u e=>mv _ _ nbr nbk nbw e) hb,rw_ ntr ntk ntw ht,mv _ _ nor nok now_ ho,⟨oa.one,oa.mem,fun x hx=>rw_ (fun z=>nrs (z▸List.mem_map_of_mem hx)) (fun z=>nks (z▸List.mem_map_of_mem hx)) (fun z=>nws (z▸List.mem_map_of_mem hx)) (oa.at_ x hx)⟩,rw_ nhr nhk nhw hh,hr',hk',pk',hw',rfl,nd,nb⟩
theorem Zqc{s:Hs}{day:Int}{H:Hp}:∀{zs:List Str} {us:List V},Paired (ZfQ s day H) zs us->∀(i:Nat) (u:V),us[i]? =some u->∃r,zs[i]? =some r/\ZfQ s day H r u
 |_,_,.nil,i,u,h=>by simp at h
 |_,_,.cons (a:=r) (b:=v) x t,0,u,h=>by
  have h:v=u:=by simpa using h
  subst h;exact⟨r,rfl,x⟩
 |_,_,.cons _ t,i+1,u,h=>by
  obtain⟨r,e,z⟩:=Zqc t i u (by simpa using h);exact⟨r,by simpa using e,z⟩
theorem Zdo:ZX ["self","day","leaving","told"] ["self","day"] (ZG ZdM):=⟨rfl,rfl,rfl,by decide+kernel,rfl,by decide+kernel,by decide+kernel⟩
theorem ZkN{f:Addr}{fd:FuncData}(F:Fun K "run" "House.run" ZdM f fd)(T:Txt K mg Zk Zi Zj Zb Zt Zr ZM Zw ZC Zx ZD Ze Zd Zf Zq ZF ZP)(n:Nat)(o_RunBack:Zk7 "RunBack" Zq mg base)(Ziw:Zag P w K mg base CX0 27 "due_on" ["self","day"] (Zew Zk Zi Zj Zb 12) (fun C=>C=Zt)):Yy P w K mg base (CXr P w) (27+n+1+1) f fd ["self","day"] (ZkM Zk Zi Zj Zb Zq (n+1) Zt):=by
 refine okX F Zdo (fun vs H Q E h=> ?_) (fun cdv A outer s H vs Q E hr h=> ?_)
 ·obtain⟨a,day,s,F,rfl,_⟩:=h
  rfl
 ·obtain⟨a,day,s,F,rfl,_,hA,ok,l64,ek,lru,lgs,qx,qn⟩:=h;have l5:=Xd;have hu:=ZbC hr;obtain⟨dx,b,t,o,h,r,k,wd,os,kvs,ha,hb,ht,ho,oa,hh,hr',hk,pk,hw,eF,nd,nb⟩:=id hA;have ki:=hA.kinds;refine⟨_,(Zh (Yj (PW.pt (Jx (Zy ZgM (Yb Zai (by rfl) T.z_len Zd3 (Za (Yp (pv 0) rfl) Zm)) Zo (ZL _)) (XH (Zy Zfk (pv 1) (ZV Xq (Yp (pv 0) rfl) (ZoG Zm0 Zo) (fun _ _=>rfl)) (ZL _))))) (Zu (Zft Zd4 o_RunBack rfl rfl (Za ZR Zm))) ZW) (Zh (Xv (Zaj PySem.F.plainAttrs_list PySem.F.slot_list_append PySem.F.type_list_append Xa (Yp (pv 0) rfl) (Za (pv 1) Zm))) (Zh (ZK (i:=2) Zdo.nd rfl (Or.inl rfl) (ZaC (pv 0) Ziw (hr.mono (by omega)) Yc (Za (pv 1) Zm))) (Zh (JV PassesOwn.leaving rfl (Xc (pv 2)) (Yi (i:=3) Zdo.nd rfl (Or.inl rfl)) (Zh (Zd1 hu (Yp (pv 0) rfl) (ZV ZZ (pv 3) Zo (fun _ _=>rfl)) (YX (Za (Yb Zai (by rfl) T.z_len Zd3 (Za (Yp (pv 0) rfl) Zm)) (Za (pv 1) Zm))) rfl) (Zu (Zd1 hu (Yp (pv 0) rfl) (ZV ZZ (pv 3) Zo (fun _ _=>rfl)) ZR rfl)))) (Zu (ZJ (pv 2))))))), ?_⟩
  refine(fun(rest:∀σ':L2.St,σ'=[some (.ref a),some (.int day),none,none]->(∀d,s.runs.getLast? =some d->d<=day)->(_:L2.St->Hp->Prop) σ' H)=>
   ⟨_,rfl,a,_,dx,_,_,rfl,ha,T.cl_House,T.n_House_run_days,Zcg ..,_,_,rfl,.inl ⟨_,SqL.of hr',rfl⟩,_,_,rfl,rfl,_,rfl,Xg (fun e=> ?yes) (fun e=>Yw (rest _ rfl (fun d z=>by
    cases hs:s.runs with
    |nil=>rw[hs] at z;cases z
    |cons x xs=>exact absurd (decide_eq_true (by rw[hs,List.length_map,List.length_cons];omega)) e)))⟩) ?rest
  case yes=>
   have ne:s.runs≠[]:=fun z=>by rw[z] at e;cases e
   obtain⟨d,ed⟩:∃d,s.runs.getLast? =some d:=⟨_,List.getLast?_eq_some_getLast ne⟩
   refine⟨_,rfl,_,rfl,a,_,dx,_,_,rfl,ha,T.cl_House,T.n_House_run_days,Zcg ..,_,rfl,r,_,_,_,rfl,rfl,SqL.of hr',Zrc ed,_,_,rfl,rfl,_,rfl, ?_⟩
   by_cases c:day<d
   ·rw[decide_eq_true c];exact Jq ⟨show 1<=sizeLine from sl,qx ⟨d,ed,c⟩ _ (ZS.refl _)⟩
   ·rw[decide_eq_false c];exact Yw (rest _ rfl fun d' z=>by rw[ed] at z;injection z with z;omega)
  case rest=>
   rintro σ' rfl lst_;have q:=qn lst_;refine⟨_,rfl,a,_,dx,_,_,rfl,ha,T.cl_House,T.n_House_run_days,Zcg ..,.inl ⟨rfl,_,SqL.of hr'⟩,_,rfl,r,_,V.int day,rfl,rfl,hr',by rw[List.length_map];omega, ?_⟩
   have n:=nd;rw[eF] at n
   simp only [List.nodup_cons,List.mem_cons,not_or] at n
   obtain⟨⟨_,_,ntr,ntk,ntw,nts⟩,⟨_,nor,nok,now_,nos⟩,⟨nhr,nhk,nhw,nhs⟩,⟨nrk,nrw,nrs⟩,⟨nkw,nks⟩,nws,ndo⟩:=n;have e1:s.runs.map V.int++[V.int day]=(s.runs++[day]).map V.int:=by rw[List.map_append];rfl
   rw[e1];have fr1:∀c u,c≠r->H c=some u->upd H r (.lst ((s.runs++[day]).map V.int)) c=some u:=fun c u n e=>by rw[Zv n];exact e
   have hr1:upd H r (.lst ((s.runs++[day]).map V.int)) r=some (.lst ((s.runs++[day]).map V.int)):=Zc;have bk1:∀{c:Addr},upd H r (.lst ((s.runs++[day]).map V.int)) c=none->H c=none:=fun{c} z=>by
    by_cases y:c=r
    ·rw[y,hr1] at z;cases z
    ·rwa [Zv y] at z
   show ZnD _ _ _ _ (upd H r (.lst ((s.runs++[day]).map V.int)));generalize upd H r (.lst ((s.runs++[day]).map V.int))=H1 at fr1 hr1 bk1
   have k1:=fr1 _ _ (Ne.symm nrk) hk;have w1:=fr1 _ _ (Ne.symm nrw) hw;have kt1:∀c xs,H c=some (.tup xs)->H1 c=some (.tup xs):=fun c xs e=>fr1 c _ (Yt e hr' (fun z=>nomatch z)) e;have hA1:Yh Zk Zi Zj Zb Zt H1 a {s with runs:=s.runs++[day]} F:=ZjD ha hb ht ho oa hh hr' hk hw eF nd nb (fun c u n _ _ e=>fr1 c u n e) hr1 k1 (Je kt1 pk) w1;have ha1:=fr1 _ _ (Yt ha hr' (fun z=>nomatch z)) ha;refine⟨_,rfl,a,_,dx,_,rfl,ha1,rfl,Zcj (by decide+kernel),_,rfl,a,day,{s with runs:=s.runs++[day]},F,rfl,by decide,hA1,⟨ok.bk,ok.lr,ok.rows,ok.few,ok.one,ok.own⟩,l64,fun L us zs H2 hL s2 hl2 po st iff=> ?_⟩
   have po:Paired (ZfQ s day H2) zs us:=po;have ndz:zs.Nodup:=List.nodup_iff_pairwise_ne.mpr (st.imp fun{x y} h z=>by rw[z,YM.irr] at h;cases h)
   have h2:∀c u,c≠r->H c=some u->H2 c=some u:=fun c u n e=>s2 _ _ (fr1 c u n e);have hk2:=s2 _ _ k1;have hw2:=s2 _ _ w1;have hr2:=s2 _ _ hr1;have ha2:=s2 _ _ ha1;have lz:=Paired.length po;have lzs:zs.length<=64:=by
    obtain⟨ns,l,sub⟩:=l64;have:=ndz.length_le_of_subset fun x hx=>sub x (ZkL ((iff x).mp hx).2);omega
   have lwd:s.wd.length=s.gs.length:=by
    have:=congrArg List.length ek
    rwa [List.length_map,List.length_map] at this
   have lkv:=Paired.length pk;have nL:H L=none:=bk1 hL;have nLF:L∉F:=fun m=>by
    rcases ki L m with ⟨_,y⟩|⟨_,y⟩<;>rw[nL] at y<;>cases y
   refine⟨_,rfl,L,rfl,⟨_,SqL.of hl2⟩,JD (xs:=us) (fun i σ H'=>∃(v3:Option V) (kv:List (Key×V)),σ=[some (.ref a),some (.int day),some (.ref L),v3]/\H' k=some (.dK kv)/\Paired (ZfE H') (s.gs++(zs.take i).map fun r=>(r,((s.runs.length+1:Nat):Int),day)) kv/\H' wd=some (.dK (wkv (s.wd++(zs.take i).map fun r=>(r,Str.ofString "due"))))/\∀c u,c≠k->c≠wd->H2 c=some u->H' c=some u) ?_ ?_ ?_ ?_⟩
   ·exact⟨none,kvs,rfl,hk2,by rw[List.take_zero,List.map_nil,List.append_nil];exact Je (fun b xs e=>s2 _ _ (kt1 _ _ e)) pk,by rw[List.take_zero,List.map_nil,List.append_nil];exact hw2,fun c u _ _ e=>e⟩
   ·rintro i σ H3 _ ⟨v3,kv,rfl,_,_,_,fr⟩;exact SqL.of (fr _ _ (Yt hl2 hk2 (fun z=>nomatch z)) (Yt hl2 hw2 (fun z=>nomatch z)) hl2)
   ·rintro i x σ H3 hx ⟨v3,kv,rfl,hk3,pk3,hw3,fr⟩;obtain⟨rc,erc,p,j,v5,rfl,hp,_⟩:=Zqc po i x hx;have hi:i<zs.length:=(List.getElem?_eq_some_iff.mp erc).1;have tkz:zs.take (i+1)=zs.take i++[rc]:=by rw[List.take_add_one,erc];rfl
    have nin:rc∉zs.take i:=Zf5 ndz erc;have ngs:rc∉s.gs.map (·.1):=((iff rc).mp (List.mem_of_getElem? erc)).1;have ha3:=fr _ _ (Yt ha2 hk2 (fun z=>nomatch z)) (Yt ha2 hw2 (fun z=>nomatch z)) ha2;have hr3:=fr _ _ nrk nrw hr2;have hp3:=fr _ _ (Yt hp hk2 (fun z=>nomatch z)) (Yt hp hw2 (fun z=>nomatch z)) hp;have l3:=Paired.length pk3;have ltk:=List.length_take_le' i zs;rw[List.length_append,List.length_map] at l3
    have nk:(YK kv (Sum.inr rc)).isSome=false:=by
     rw[ZmS pk3];refine decide_eq_false fun m=> ?_;rw[List.map_append,List.map_map] at m
     rcases List.mem_append.mp m with m|m
     ·exact ngs m
     ·obtain⟨y,hy,e⟩:=List.mem_map.mp m;exact nin (e▸hy)
    have nw:(YK (wkv (s.wd++(zs.take i).map fun r=>(r,Str.ofString "due"))) (Sum.inr rc)).isSome=false:=by
     rw[Zev];refine decide_eq_false fun m=> ?_;rw[List.map_append,List.map_map] at m
     rcases List.mem_append.mp m with m|m
     ·exact ngs (ek▸m)
     ·obtain⟨y,hy,e⟩:=List.mem_map.mp m;exact nin (e▸hy)
    refine⟨_,rfl,a,_,dx,_,_,rfl,ha3,T.cl_House,T.n_House_run_days,Zcg ..,_,_,rfl,.inl ⟨_,SqL.of hr3,rfl⟩,_,rfl,show 2<=sizeLine by omega,fun tt htt=> ?_⟩;have s4:=Zg htt (o:=.tup [.int ((s.runs++[day]).map V.int).length,.int day]);have ht4:upd H3 tt (.tup [.int ((s.runs++[day]).map V.int).length,.int day]) tt=some (.tup [.int ((s.runs++[day]).map V.int).length,.int day]):=Zc;show ZrF _ _ _ _ (upd H3 tt (.tup [.int ((s.runs++[day]).map V.int).length,.int day])) _
    generalize upd H3 tt (.tup [.int ((s.runs++[day]).map V.int).length,.int day])=H4 at s4 ht4
    have hk4:=s4 _ _ hk3;have ha4:=s4 _ _ ha3;refine⟨_,rfl,a,_,dx,_,_,rfl,ha4,T.cl_House,T.n_House_taken,ZdV ..,ixT rfl (SqT.of (s4 _ _ hp3)) rfl ⟨k,_,rfl,ZiN.k (k:=Sum.inr rc) hk4 (by omega), ?_⟩⟩;rw[ZlP nk];have fr5:∀c u,c≠k->H4 c=some u->upd H4 k (.dK (kv++[(Sum.inr rc,V.ref tt)])) c=some u:=fun c u n e=>by rw[Zv n];exact e
    have hk5:upd H4 k (.dK (kv++[(Sum.inr rc,V.ref tt)])) k=some (.dK (kv++[(Sum.inr rc,V.ref tt)])):=Zc;generalize upd H4 k (.dK (kv++[(Sum.inr rc,V.ref tt)]))=H5 at fr5 hk5
    have kt5:∀c xs,H4 c=some (.tup xs)->H5 c=some (.tup xs):=fun c xs e=>fr5 c _ (Yt e hk4 (fun z=>nomatch z)) e;have hw5:=fr5 _ _ (Ne.symm nkw) (s4 _ _ hw3);refine⟨_,rfl,a,_,dx,_,_,rfl,fr5 _ _ (Yt ha4 hk4 (fun z=>nomatch z)) ha4,T.cl_House,T.n_House_words,Zar ..,ixT rfl (SqT.of (kt5 _ _ (s4 _ _ hp3))) rfl ⟨wd,_,rfl,ZiN.k (k:=Sum.inr rc) hw5 (by unfold wkv;rw[List.length_map,List.length_append,List.length_map];omega), ?_⟩⟩
    rw[ZlP nw];have kt6:∀c xs,H5 c=some (.tup xs)->upd H5 wd (.dK (wkv (s.wd++(zs.take i).map fun r=>(r,Str.ofString "due"))++[(Sum.inr rc,V.str (Str.ofString "due"))])) c=some (.tup xs):=fun c xs e=>by rw[Zv (Yt e hw5 (fun z=>nomatch z))];exact e
    refine⟨_,_,rfl,by rw[Zv nkw];exact hk5, ?_, ?_,fun c u n1 n2 e=>by rw[Zv n2];exact fr5 _ _ n1 (s4 _ _ (fr c u n1 n2 e))⟩
    ·rw[tkz,List.map_append,<-List.append_assoc];refine Paired.snoc (Je (fun b xs e=>kt6 _ _ (kt5 _ _ (s4 _ _ e))) pk3) ⟨tt,rfl, ?_⟩;rw[kt6 _ _ (kt5 _ _ ht4),List.length_map,List.length_append]
     rfl
    ·rw[tkz,Zc,List.map_append,<-List.append_assoc];unfold wkv;rw[List.map_append (l₁:=s.wd++_)]
     rfl
   ·rintro σ H3 ⟨v3,kv,rfl,hk3,pk3,hw3,fr⟩;rw[<-lz,List.take_length] at pk3 hw3
    refine⟨_,rfl,q L us zs H3 (fun c u m e=> ?_) ?_ nL nLF (fr _ _ (Yt hl2 hk2 (fun z=>nomatch z)) (Yt hl2 hw2 (fun z=>nomatch z)) hl2) ?_ st iff⟩
    ·rw[eF] at m
     simp only [List.mem_cons,not_or] at m
     exact fr c u m.2.2.2.2.1 m.2.2.2.2.2.1 (h2 c u m.2.2.2.1 e)
    ·exact ZjD ha hb ht ho oa hh hr' hk hw eF nd nb (fun c u n1 n2 n3 e=>fr c u n2 n3 (h2 c u n1 e)) (fr _ _ nrk nrw hr2) hk3 pk3 hw3
    ·exact ZfS (fun b xs e=>fr _ _ (Yt e hk2 (fun z=>nomatch z)) (Yt e hw2 (fun z=>nomatch z)) e) po
theorem Zqd:∀w:Rw,ZeF w.vs none (some 2)=[.str w.word,.str w.one]
 | .put _ _ _=>rfl
 | .move _ _ _=>rfl
 | .deed _ _ _=>rfl
 | .lift _ _=>rfl
 | .hold _ _ _ _=>rfl
theorem ZjE:∀w:Rw,¬(HT.sIx w.vs.length 0 none=0/\HT.sIx w.vs.length w.vs.length (some 2)=w.vs.length)
 | .put _ _ _=>by show¬(HT.sIx 4 0 none=0/\HT.sIx 4 4 (some 2)=4);decide
 | .move _ _ _=>by show¬(HT.sIx 4 0 none=0/\HT.sIx 4 4 (some 2)=4);decide
 | .deed _ _ _=>by show¬(HT.sIx 4 0 none=0/\HT.sIx 4 4 (some 2)=4);decide
 | .lift _ _=>by show¬(HT.sIx 3 0 none=0/\HT.sIx 3 3 (some 2)=3);decide
 | .hold _ _ _ _=>by show¬(HT.sIx 5 0 none=0/\HT.sIx 5 5 (some 2)=5);decide
def Ze0(H:Hp)(a:Addr)(w:Rw):Prop:=H a=some (.tup [.str w.word,.str w.one])
theorem Zix{H H':Hp}(s:ZS H H'):∀{ds:List Addr} {ws:List Rw},Paired (Ze0 H) ds ws->Paired (Ze0 H') ds ws
 |_,_,.nil=> .nil
 |_,_,.cons h t=> .cons (s _ _ h) (Zix s t)
def hdD(w:Rw):Dt:=.tup [.v (.str w.word),.v (.str w.one)]
theorem Zqe{H:Hp}{a:Addr}{w:Rw}(h:Ze0 H a w):Rep K H (hdD w) (.ref a):=.tup (SqT.of h) (.cons (.flat rfl) (.cons (.flat rfl) .nil))
theorem Znw{H:Hp}:∀{ds:List Addr} {ws:List Rw},Paired (Ze0 H) ds ws->Zh3 K H (ws.map hdD) (ds.map V.ref)
 |_,_,.nil=> .nil
 |_,_,.cons h t=> .cons (Zqe h) (Znw t)
theorem Ziy{H H':Hp}(s:∀b xs,H b=some (.tup xs)->H' b=some (.tup xs)):∀{ds:List Addr} {ws:List Rw},Paired (ZbP H) ds ws->Paired (ZbP H') ds ws
 |_,_,.nil=> .nil
 |_,_,.cons h t=> .cons (s _ _ h) (Ziy s t)
theorem Ziz{H H':Hp}(s:∀b xs,H b=some (.tup xs)->H' b=some (.tup xs)):∀{ds:List Addr} {ws:List Rw},Paired (Ze0 H) ds ws->Paired (Ze0 H') ds ws
 |_,_,.nil=> .nil
 |_,_,.cons h t=> .cons (s _ _ h) (Ziz s t)
theorem Zac.more{rs:List Sr}{i:Nat}{ns:List Str}{ws:List Rw}{w:Rw}(h:Zac rs i ns ws)(nm:∀n∈YF w,n∈rs.map Sr.nm)(nc:∀a∈ws,¬ZpM a w):Zac rs (i+1) (ns++[w.one]) (ws++[w]):=by
 refine⟨?_, ?_,fun x hx=> ?_,List.pairwise_append.mpr ⟨h.one,List.pairwise_singleton ..,fun a ha b hb=> ?_⟩, ?_,fun x hx e=> ?_⟩
 ·have:=h.len;rw[List.length_append,List.length_singleton];omega
 ·have:=h.held;have l:=List.length_filter_le JX [w];rw[List.filter_append,List.length_append];rw[List.length_singleton] at l
  omega
 ·rcases List.mem_append.mp hx with hx|hx
  ·exact h.named x hx
  ·rw[List.mem_singleton.mp hx];exact nm
 ·rw[List.mem_singleton.mp hb];exact nc a ha
 ·have:=h.nl;rw[List.length_append,List.length_singleton];omega
 ·rcases List.mem_append.mp hx with hx|hx
  ·exact List.mem_append_left _ (h.few x hx e)
  ·rw[List.mem_singleton.mp hx];exact List.mem_append_right _ (List.mem_singleton_self _)
theorem Zac.stay{rs:List Sr}{i:Nat}{ns:List Str}{ws:List Rw}(x:Str)(h:Zac rs i ns ws):Zac rs (i+1) (ns++[x]) ws:=
 ⟨Nat.le_succ_of_le h.len,Nat.le_succ_of_le h.held,h.named,h.one,by have:=h.nl;rw[List.length_append,List.length_singleton];omega,fun w hw e=>List.mem_append_left _ (h.few w hw e)⟩
def Za2(F0:List Addr)(H0:Hp)(F:List Addr)(H:Hp):Prop:=ZeT F0 H0 H/\(∀b∈F,b∈F0\/H0 b=none)/\∀b∈F0,b∈F
theorem Za2.refl(F:List Addr)(H:Hp):Za2 F H F H:=⟨fun _ _ _ e=>e,fun _ h=> .inl h,fun _ h=>h⟩
theorem Za2.trans{F0 F F':List Addr}{H0 H H':Hp}(x:Za2 F0 H0 F H)(y:Za2 F H F' H'):Za2 F0 H0 F' H':=by
 obtain⟨k1,s1,p1⟩:=x;obtain⟨k2,s2,p2⟩:=y;refine⟨fun c u m e=>k2 c u (fun z=> ?_) (k1 c u m e),fun b h=> ?_,fun b h=>p2 b (p1 b h)⟩
 ·rcases s1 c z with a|a
  ·exact m a
  ·rw[e] at a;cases a
 ·rcases s2 b h with a|a
  ·exact s1 b a
  ·by_cases m:b∈F0
   ·exact .inl m
   ·refine .inr ?_;cases e:H0 b with
    |none=>rfl
    |some u=>rw[k1 b u m e] at a;cases a
theorem Za2.same{F:List Addr}{H H':Hp}(s:ZS H H'):Za2 F H F H':=⟨fun c u _ e=>s c u e,fun _ h=> .inl h,fun _ h=>h⟩
theorem Za2.at{F0 F:List Addr}{H0 H:Hp}(x:Za2 F0 H0 F H){c:Addr}{u:HO}(m:c∉F0)(e:H0 c=some u):H c=some u:=x.1 c u m e
theorem Za2.off{F0 F:List Addr}{H0 H:Hp}(x:Za2 F0 H0 F H){c:Addr}{u:HO}(m:c∉F0)(e:H0 c=some u):c∉F:=fun z=>by
 rcases x.2.1 c z with a|a
 ·exact m a
 ·rw[e] at a;cases a
theorem Yh.off{cn ca cl ce C a:Addr}{H:Hp}{s:Hs}{F:List Addr}(h:Yh cn ca cl ce C H a s F){c:Addr}(e:H c=none):c∉F:=fun m=>by
 rcases h.kinds c m with ⟨_,z⟩|⟨_,z⟩<;>rw[e] at z<;>cases z
theorem Yh.tup{cn ca cl ce C a:Addr}{H:Hp}{s:Hs}{F:List Addr}(h:Yh cn ca cl ce C H a s F){c:Addr}{xs:List V}(e:H c=some (.tup xs)):c∉F:=fun m=>by
 rcases h.kinds c m with ⟨_,z⟩|⟨_,z⟩<;>rw[e] at z<;>cases z
theorem Yh.write{cn ca cl ce C a:Addr}{H0 H H':Hp}{s0 s:Hs}{F0 F:List Addr}{L:Addr}{v:HO}(h0:Yh cn ca cl ce C H0 a s0 F0)(h:Yh cn ca cl ce C H a s F)(kp:ZeT F0 H0 H)(n0:H0 L=none)(nF:L∉F)(e:H L=some v)(fr:∀c u,c≠L->H c=some u->H' c=some u)(nt:∀xs,v≠.tup xs:=by exact fun _ z=>nomatch z)(ni:∀C dx fs,v≠.ins C dx fs:=by exact fun _ _ _ z=>nomatch z):Yh cn ca cl ce C H' a s F:=by
 obtain⟨dx0,b0,t0,o0,h_0,r0,k0,w0,os0,kvs0,ha0,⟨bs0,hb0,_⟩,_⟩:=id h0;have ha1:=h0.kinds.ins kp _ _ _ _ ha0;obtain⟨dx,b,t,oo,hh,r,k,w,os,kvs,ha,hb,ht,ho,oa,hhh,hr,hk,pk,hw,eF,nd,nb⟩:=h;have eb:b0=b:=by
  rw[ha] at ha1
  injection ha1 with z
  injection z with _ _ z
  have:=congrArg (fun f=>f.lookup ("book":Str)) z;simp only [ZfK] at this
  injection this with this
  injection this with this
  exact this.symm
 have nbL:b≠L:=fun z=>by rw[<-eb] at z;rw[z,n0] at hb0;cases hb0
 have kt:∀c xs,H c=some (.tup xs)->H' c=some (.tup xs):=fun c xs z=>fr c _ (fun y=>by rw[y,e] at z;injection z with z;exact nt xs z) z
 have ki:∀c C dx fs,H c=some (.ins C dx fs)->H' c=some (.ins C dx fs):=fun c C dx fs z=>fr c _ (fun y=>by rw[y,e] at z;injection z with z;exact ni C dx fs z) z
 have m:∀{c:Addr},c∈F->∀u,H c=some u->H' c=some u:=fun hc u z=>fr _ _ (fun y=>nF (y▸hc)) z;have rw_:∀{p:Addr} {us:List Rw},p∈F->Xb H p us->Xb H' p us:=fun hp ⟨ds,e,pp⟩=>⟨ds,m hp _ e,Xm kt pp⟩
 have mt:t∈F:=by rw[eF];simp
 have mo:oo∈F:=by rw[eF];simp
 have mh:hh∈F:=by rw[eF];simp
 have mr:r∈F:=by rw[eF];simp
 have mk:k∈F:=by rw[eF];simp
 have mw:w∈F:=by rw[eF];simp
 have mx:∀x∈os,x.2∈F:=fun x hx=>by
  rw[eF];simp only [List.mem_cons];exact .inr (.inr (.inr (.inr (.inr (.inr (List.mem_map_of_mem hx))))))
 exact⟨dx,b,t,oo,hh,r,k,w,os,kvs,ki _ _ _ _ ha,Zes kt ki (fun u z=>fr _ _ nbL z) hb,rw_ mt ht,m mo _ ho,⟨oa.one,oa.mem,fun x hx=>rw_ (mx x hx) (oa.at_ x hx)⟩,rw_ mh hhh,m mr _ hr,m mk _ hk,Je kt pk,m mw _ hw,eF,nd,nb⟩
theorem Zov{cn ca cl ce C x dx b t o h r k w:Addr}{H:Hp}{rs:List Sr}(nd:[b,t,o,h,r,k,w].Nodup)(hx:H x=some (.ins C dx (fH b t o h r k w)))(hb:ZfC cn ca cl ce H b rs)(ht:H t=some (.lst []))(ho:H o=some (.dK []))(hh:H h=some (.lst []))(hr:H r=some (.lst []))(hk:H k=some (.dK []))(hw:H w=some (.dK [])):Yh cn ca cl ce C H x ⟨rs,[],[],[],[]⟩ [t,o,h,r,k,w]:=
 ⟨dx,b,t,o,h,r,k,w,[],[],hx,hb,⟨[],ht,.nil⟩,ho,⟨.nil,(fun r=>⟨(fun z=>nomatch z),fun z=>absurd rfl z⟩),(fun x hx=>nomatch hx)⟩,⟨[],hh,.nil⟩,hr,hk,.nil,hw,rfl,(List.nodup_cons.mp nd).2,(List.nodup_cons.mp nd).1⟩
theorem ZmT{r:Str}{w:Rw}{y:ZaU}(h:ZdP r w=some y):y.2∈YF w:=by
 cases w with
 |put x s d=>
  have h:(if x=r then some (d,s) else none)=some y:=h
  split at h
  ·injection h with h;rw[<-h];exact List.mem_singleton_self _
  ·cases h
 |move x s d=>
  have h:(if x=r then some (d,s) else none)=some y:=h
  split at h
  ·injection h with h;rw[<-h];exact List.mem_singleton_self _
  ·cases h
 |deed x k d=>cases h
 |lift a d=>cases h
 |hold a b c d=>cases h
theorem Zac.of{rs:List Sr}{i:Nat}{xs:List Str}{ws:List Rw}(h:Zac rs i xs ws)(hi:i<=63):Zgl rs ws:=⟨by have:=h.len;omega,by have:=h.held;omega,fun r y hy=>by
 obtain⟨w,hw,e⟩:=List.mem_filterMap.mp hy;exact h.named w hw _ (ZmT e)⟩
theorem Zac.recs{rs:List Sr}{i:Nat}{xs:List Str}{ws:List Rw}(h:Zac rs i xs ws)(hi:i<64):ZkK ws:=⟨xs,by have:=h.nl;omega,fun r hr=>by
 obtain⟨w,hw⟩:=List.exists_mem_of_ne_nil _ hr;obtain⟨h1,h2⟩:=List.mem_filter.mp hw;rcases Zkt w with ⟨_,no⟩|⟨y,yes⟩
 ·rw[no r] at h2;cases h2
 ·rw[yes r] at h2
  rw[<-of_decide_eq_true h2];exact h.few w h1 y⟩
theorem ZkO{zs:List Str}(h:zs.Pairwise fun a b=>YL a b=true):zs.Nodup:=List.nodup_iff_pairwise_ne.mpr (h.imp fun{x y} h z=>by rw[z,YM.irr] at h;cases h)
theorem Zsn{H:Hp}{gs:List Gn}{ka kb:List (Key×V)}(nd:(gs.map (·.1)).Nodup)(pa:Paired (ZfE H) gs ka)(pb:Paired (ZfE H) gs kb):ka.length=kb.length/\∀kv∈ka,Znc K H kb kv:=by
 refine⟨(Paired.length pa).symm.trans (Paired.length pb),fun kv hkv=> ?_⟩;have go:∀{gs':List Gn} {ka:List (Key×V)},Paired (ZfE H) gs' ka->∀kv∈ka,∃g∈gs',ZfE H g kv:=fun{gs' ka} p=>by
  induction p with
  |nil=>exact fun kv h=>nomatch h
  |cons h t ih=>
   intro kv hm;rcases List.mem_cons.mp hm with rfl|hm
   ·exact⟨_,List.mem_cons_self ..,h⟩
   ·obtain⟨g,hg,z⟩:=ih kv hm;exact⟨g,List.mem_cons_of_mem _ hg,z⟩
 obtain⟨g,hg,p,e,hp⟩:=go pa kv hkv;obtain⟨q,ev,hq⟩:=Zky pb nd g hg;subst e;refine⟨p,q,_,rfl,ev,SqT.of hp,SqT.of hq,fun x hx=> ?_⟩;simp only [List.mem_cons,List.mem_nil_iff,or_false] at hx
 rcases hx with rfl|rfl<;>rfl
def ZiA(H:Hp)(x:Tri)(v:V):Prop:=∃p,v=.ref p/\H p=some (.tup [.str x.1,.int x.2.1,.str x.2.2])
theorem Za3{H H':Hp}(s:∀b xs,H b=some (.tup xs)->H' b=some (.tup xs)):∀{zs:List Tri} {us:List V},Paired (ZiA H) zs us->Paired (ZiA H') zs us
 |_,_,.nil=> .nil
 |_,_,.cons ⟨p,e,h⟩ t=> .cons ⟨p,e,s _ _ h⟩ (Za3 s t)
theorem Zqf{H:Hp}:∀{zs:List Tri} {us:List V},Paired (ZiA H) zs us->Paired (fun y x=>ZpD K H y x) zs us
 |_,_,.nil=> .nil
 |_,_,.cons ⟨p,e,h⟩ t=> .cons ⟨p,e,SqT.of h⟩ (Zqf t)
def Zru(s:Hs)(x:Tri):Prop:=(∃day,(x.1,x.2.1,day)∈s.gs)/\(x.1,x.2.2)∈s.wd/\x.2.2≠Str.ofString "due"
def Zc0(f:Str×Str):Bool:= !decide (f.2=Str.ofString "due")
def Zdp(cn ca cl ce:Addr)(n:Nat)(C:Addr):Sp:=fun vs H Q _=>∃(a:Addr) (s:Hs) (F:List Addr),vs=[.ref a]/\0<n/\Yh cn ca cl ce C H a s F/\s.wd.map (·.1)=s.gs.map (·.1)/\(s.gs.map (·.1)).Nodup/\s.wd.length<64/\
 ∀L us zs H',H L=none->ZS H H'->H' L=some (.lst us)->Paired (ZiA H') zs us->zs.Pairwise (fun a b=>YL a.1 b.1=true)->(∀x,x∈zs↔Zru s x)->Q (.ref L) H'
theorem ZkP{cn ca cl ce C:Addr}:∀vs H Q E,¬Zdp cn ca cl ce 0 C vs H Q E:=fun _ _ _ _ ⟨_,_,_,_,z,_⟩=>Nat.lt_irrefl 0 z
theorem Znx{H:Hp}:∀{zs:List (V×Tri)},(∀z∈zs,ZiA H z.2 z.1)->Paired (ZiA H) (zs.map (·.2)) (zs.map (·.1))
 |[],_=> .nil
 |z::zs,h=> .cons (h z (List.mem_cons_self ..)) (Znx fun y hy=>h y (List.mem_cons_of_mem _ hy))
theorem Zqg{H:Hp}:∀{ks:List Tri} {us:List V},Paired (ZiA H) ks us->(∀z∈us.zip ks,ZiA H z.2 z.1)/\(us.zip ks).map (·.2)=ks
 |_,_,.nil=>⟨(fun _ h=>nomatch h),rfl⟩
 |_,_,.cons r t=>by
  obtain⟨a,b⟩:=Zqg t;refine⟨fun z h=> ?_,congrArg (_:: ·) b⟩;rcases List.mem_cons.mp h with rfl|h
  ·exact r
  ·exact a z h
theorem ZmU{zs:List Tri}(nd:(zs.map (·.1)).Nodup)(h:zs.Pairwise fun a b=>Zjo b a=false):zs.Pairwise fun a b=>YL a.1 b.1=true:=by
 have n:zs.Pairwise fun a b=>a.1≠b.1:=List.pairwise_map.mp (List.nodup_iff_pairwise_ne.mp nd);refine(h.and n).imp fun{a b} ⟨h1,h2⟩=> ?_;have h1:(if b.1=a.1 then ZiQ ZbF YL b.2 a.2 else YL b.1 a.1)=false:=h1;rw[if_neg (Ne.symm h2)] at h1
 rcases YM.tri a.1 b.1 with q|q|q
 ·exact q
 ·exact absurd q h2
 ·rw[h1] at q;cases q
theorem ZgB:ZX ["self"] ["self"] (ZG Zba):=⟨rfl,rfl,rfl,by decide+kernel,rfl,by decide+kernel,by decide+kernel⟩
theorem ZgC{f:Addr}{fd:FuncData}(F:Fun K "regrets" "House.regrets" Zba f fd)(T:Txt K mg Zk Zi Zj Zb Zt Zr ZM Zw ZC Zx ZD Ze Zd Zf Zq ZF ZP)(n:Nat):Yy P w K mg base CX0 (0+n+1+1) f fd ["self"] (Zdp Zk Zi Zj Zb (n+1) Zt):=by
 refine F.ok ZgB (fun vs H Q E h=> ?_) (fun cdv A outer s H vs Q E hr h=> ?_)
 ·obtain⟨a,s,F,rfl,_⟩:=h
  rfl
 ·obtain⟨a,s,F,rfl,_,⟨dx,b,t,o,h,r,k,wd,os,kvs,ha,hb,ht,ho,oa,hh,hr',hk,pk,hw,eF,nd,nb⟩,ek,ndg,lw,q⟩:=h;have l5:=Xd;have hu:=ZbC hr;have hu3:=ZnQ hr;have lk1:(wkv s.wd).length<=sizeLine:=by
   unfold wkv;rw[List.length_map];omega
  have nkw:k≠wd:=by
   rw[eF] at nd
   simp only [List.nodup_cons,List.mem_cons,not_or] at nd
   exact nd.2.2.2.2.1.1
  have nf:∀o u,H wd≠some (.frz o u):=fun o u z=>by rw[hw] at z;cases z
  refine⟨_,(Zu (ZJ (Yb (Zkc ZpE hu3) (by rfl) T.z_sorted Zeh (Za (Zfw (Jz ["record","word"] [("self",0)] rfl (ZhO (ZhN (Yp (pv 0) rfl))) (by rfl) (by exact⟨rfl,trivial⟩) (by rfl) (by exact⟨⟨rfl,rfl,rfl⟩,trivial⟩) (fun _ _ _ _=>(Zk2 (K:=K) 2 rfl rfl (JC (Yi (i:=0) (show(nmY ["record","word"] [("self",0)]).Nodup by decide+kernel) rfl (Or.inl rfl) (Or.inr rfl)) (JC (Yi (i:=1) (show(nmY ["record","word"] [("self",0)]).Nodup by decide+kernel) rfl (Or.inl rfl) (Or.inr rfl)) Zfj)) rfl rfl)) (fun _ _ _ _=>(ZaM (Zy ZoJ (pv 1) ZR (ZL _)))) (fun _ _ _ _=>(YX (Za (pv 0) (Za (ZV (XJ (K:=K) rfl) (Zbp hu (Zkd (K:=K) rfl (pv 2) rfl) (pv 0) (fun _ _=>rfl)) Zo (fun _ _=>rfl)) (Za (pv 1) Zm))))))) Zm)))), ?_⟩
  refine⟨_,rfl,a,_,dx,_,_,rfl,ha,T.cl_House,T.n_House_words,Zar ..,wd,_,rfl,hw,fun v hv0=>⟨v,wd,_,rfl,Zc,by rw[Zv (Zn hw hv0)];exact hw,fun ob=> ?_⟩⟩
  have fz:upd (upd H v (XS v wd)) wd (.frz ob (.dK (wkv s.wd))) wd=some (.frz ob (.dK (wkv s.wd))):=Zc;have fr0:∀c u,c≠wd->H c=some u->upd (upd H v (XS v wd)) wd (.frz ob (.dK (wkv s.wd))) c=some u:=fun c u n e=>by rw[Zv n,Zv (Zn e hv0)];exact e
  have hva:v≠wd:=fun y=>by rw[y,hw] at hv0;cases hv0
  have fv:upd (upd H v (XS v wd)) wd (.frz ob (.dK (wkv s.wd))) v≠none:=by rw[Zv hva,Zc];exact fun z=>nomatch z
  have no0:∀c,upd (upd H v (XS v wd)) wd (.frz ob (.dK (wkv s.wd))) c=none->H c=none:=fun c z=>by
   cases e:H c with
   |none=>rfl
   |some u=>
    by_cases y:c=wd
    ·rw[y,fz] at z;cases z
    ·rw[fr0 c u y e] at z;cases z
  have hv1:upd (upd H v (XS v wd)) wd (.frz ob (.dK (wkv s.wd))) v=some (XS v wd):=by rw[Zv hva,Zc]
  generalize upd (upd H v (XS v wd)) wd (.frz ob (.dK (wkv s.wd)))=H1 at fz fr0 fv no0 hv1
  refine Zfq fun D hD=>⟨(wkv s.wd).length,fun j ys H4=>∃zs:List Tri,Paired (ZiA H4) zs ys/\zs.map (fun x=>(x.1,x.2.2))=(s.wd.take j).filter Zc0/\(∀x∈zs,∃day,(x.1,x.2.1,day)∈s.gs)/\ZS H1 H4,lk1,⟨[],.nil,rfl,(fun x hx=>nomatch hx),Zg hD⟩, ?_, ?_, ?_, ?_, ?_⟩
  ·rintro j ys H4 ⟨zs,pz,ez,_,_⟩;have h1:=Paired.length pz;have h2:=congrArg List.length ez;rw[List.length_map] at h2
   have h3:=List.length_filter_le Zc0 (s.wd.take j);have h4:=List.length_take_le j s.wd;omega
  ·rintro j ys us H4 H5 eD kp ⟨zs,pz,ez,ng,s4⟩;exact⟨zs,Za3 (fun c xs e=>kp c _ (Yt e eD (fun z=>nomatch z)) e) pz,ez,ng,fun c u e=>kp c u (Zn e hD) (s4 _ _ e)⟩
  ·rintro j ys H4 ⟨_,_,_,_,s4⟩ lt;exact⟨s4 _ _ fz,lt⟩
  ·rintro ys H4 ⟨zs,pz,ez,ng,s4⟩ hD4;refine⟨⟨s4 _ _ fz,Nat.le_refl _⟩, ?_⟩;have lwk:(wkv s.wd).length=s.wd.length:=by unfold wkv;rw[List.length_map]
   rw[lwk,List.take_length] at ez
   have hDa:D≠wd:=fun y=>by rw[y,fz] at hD;cases hD
   have fs:ZhQ wd (wkv s.wd) H H4:=⟨fun b u n y=>s4 b u (fr0 b u n y),ob,s4 _ _ fz⟩
   obtain⟨t1,t2⟩:=fs.thaw hw nf;have kt:∀c xs,H4 c=some (.tup xs)->upd H4 wd (.dK (wkv s.wd)) c=some (.tup xs):=fun c xs e=>by rw[Zv (Yt e (s4 _ _ fz) (fun z=>nomatch z))];exact e
   have lz:=Paired.length pz;have le:=congrArg List.length ez;rw[List.length_map] at le
   have l2:=List.length_filter_le Zc0 s.wd;refine⟨wd,_,t1,D,ys,zs,rfl,SqL.of (by rw[Zv hDa];exact hD4),by omega,Zqf (Za3 kt pz),fun ps pp ps_ D2 hD2=> ?_⟩
   have pz2:=Za3 kt pz;obtain⟨i1,i2⟩:=Zqg pz2;have s5:=Zg hD2 (o:=.lst (ps.map (·.1)));have perm:(ps.map (·.2)).Perm zs:=by
    have:=pp.map (·.2)
    rwa [i2] at this
   have keysw:(zs.map (·.1)).Nodup:=by
    have e1:zs.map (·.1)=(zs.map fun x=>(x.1,x.2.2)).map (·.1):=by rw[List.map_map];rfl
    rw[e1,ez];exact List.Nodup.sublist (List.Sublist.map _ List.filter_sublist) (by rw[ek];exact ndg)
   refine q D2 (ps.map (·.1)) (ps.map (·.2)) _ (Xu t2 hD2) (t2.trans s5) Zc (Za3 (fun c xs e=>s5 _ _ e) (Znx fun z hz=>i1 z (pp.subset hz))) (ZmU ((perm.map (·.1)).nodup_iff.mpr keysw) (List.pairwise_map.mpr ps_)) fun x=> ?_;rw[perm.mem_iff]
   constructor
   ·intro hx;have m:(x.1,x.2.2)∈s.wd.filter Zc0:=by rw[<-ez];exact List.mem_map.mpr ⟨x,hx,rfl⟩
    obtain⟨m1,m2⟩:=List.mem_filter.mp m;exact⟨ng x hx,m1,fun z=>by
     unfold Zc0 at m2
     rw[decide_eq_true z] at m2
     cases m2⟩
   ·rintro⟨⟨day,hg⟩,m1,m2⟩;have m:(x.1,x.2.2)∈s.wd.filter Zc0:=List.mem_filter.mpr ⟨m1,by unfold Zc0;rw[decide_eq_false m2];rfl⟩
    rw[<-ez] at m
    obtain⟨y,hy,e⟩:=List.mem_map.mp m
    injection e with e1 e2
    obtain⟨day',hg'⟩:=ng y hy;have:=Zet ndg hg' hg (by exact e1)
    injection this with _ e3
    injection e3 with e3 _
    have:y=x:=Prod.ext e1 (Prod.ext e3 e2);rw[<-this];exact hy
  ·rintro j x ys H4 H5 ⟨zs,pz,ez,ng,s4⟩ hD4 lt ⟨kv,p,e2,hp,rfl,rfl⟩ RT RF rt rf;obtain⟨⟨r0,w0⟩,hx0,rfl⟩:=List.mem_map.mp (List.mem_of_getElem? e2);have ew:s.wd[j]? =some (r0,w0):=by
    unfold wkv at e2
    rw[List.getElem?_map] at e2
    cases z:s.wd[j]? with
    |none=>rw[z] at e2;cases e2
    |some y=>
     rw[z] at e2
     have e2:=Option.some.inj e2
     injection e2 with a1 a2
     injection a1 with a1
     injection a2 with a2
     exact congrArg some (Prod.ext a1 a2)
   have tk:s.wd.take (j+1)=s.wd.take j++[(r0,w0)]:=by rw[List.take_add_one,ew];rfl
   obtain⟨g,hg,eg⟩:∃g∈s.gs,g.1=r0:=by
    have:r0∈s.gs.map (·.1):=by rw[<-ek];exact List.mem_map_of_mem hx0
    obtain⟨g,a1,a2⟩:=List.mem_map.mp this;exact⟨g,a1,a2⟩
   obtain⟨g0,gn,gd⟩:=g;obtain rfl:g0=r0:=eg;have s3:ZS H4 (upd H4 p (.tup [kV (Sum.inr g0),V.str w0])):=Zg hp;have s14:=s4.trans s3;have hpt:upd H4 p (.tup [kV (Sum.inr g0),V.str w0]) p=some (.tup [kV (Sum.inr g0),V.str w0]):=Zc;have hD5:=s3 _ _ hD4;generalize upd H4 p (.tup [kV (Sum.inr g0),V.str w0])=H5 at s3 s14 hpt hD5
   refine⟨p,_,rfl,SqT.of hpt,rfl,_,_,rfl,_,_,rfl,rfl,⟨rfl,trivial⟩,_,rfl,rfl,_,rfl, ?_⟩;refine Xg (fun e=> ?_) (fun e=> ?_)
   ·have e:(!decide (V.str w0=V.str (Str.ofString "due")))=true:=e;have nd0:Zc0 (g0,w0)=true:=by
     unfold Zc0;cases z:decide (w0=Str.ofString "due") with
     |false=>rfl
     |true=>rw[of_decide_eq_true z,decide_eq_true rfl] at e;cases e
    have ka:H1 k=some (.dK kvs):=fr0 _ _ nkw hk;have pk1:Paired (ZfE H1) s.gs kvs:=Je (fun b xs e=>fr0 _ _ (Yt e hw (fun z=>nomatch z)) e) pk;obtain⟨pg,vg,hpg⟩:=Zky pk1 ndg _ hg;have ha1:=fr0 _ _ (Yt ha hw (fun z=>nomatch z)) ha;refine⟨_,rfl,_,rfl,a,_,dx,_,_,rfl,s14 _ _ ha1,T.cl_House,T.n_House_taken,ZdV ..,_,rfl,k,_,rfl,.inl ⟨kvs,Sum.inr g0,.inl (s14 _ _ ka),rfl,vg.symm⟩,pg,_,_,_,rfl,rfl,SqT.of (s14 _ _ hpg),rfl,_,rfl,show 3<=sizeLine from sl,fun tt htt=> ?_⟩
    have s6:=Zg htt (o:=.tup [.str g0,.int gn,.str w0]);refine rt _ _ (s6 _ _ hD5) ⟨zs++[(g0,gn,w0)],Paired.snoc (Za3 (fun c xs e=>s6 _ _ (s3 _ _ e)) pz) ⟨tt,rfl,Zc⟩, ?_,fun x hx=> ?_,s14.trans s6⟩
    ·rw[tk,List.map_append,ez,List.filter_append,List.filter_cons_of_pos nd0]
     rfl
    ·rcases List.mem_append.mp hx with hx|hx
     ·exact ng x hx
     ·rw[List.mem_singleton.mp hx];exact⟨gd,hg⟩
   ·have nd0:Zc0 (g0,w0)=false:=by
     unfold Zc0;cases z:decide (w0=Str.ofString "due") with
     |true=>rfl
     |false=>exact absurd (show(!decide (V.str w0=V.str (Str.ofString "due")))=true by rw[decide_eq_false (vne (of_decide_eq_false z))];rfl) e
    refine rf _ hD5 ⟨zs,Za3 (fun c xs e=>s3 _ _ e) pz, ?_,ng,s14⟩;rw[tk,ez,List.filter_append,List.filter_cons_of_neg (by rw[nd0];exact Bool.false_ne_true)]
    exact(List.append_nil _).symm
def Ztq(cp ch cs cb B:Addr)(z:Str):Prop:=(B=cp/\z=Str.ofString "put")\/(B=ch/\z=Str.ofString "held")\/(B=cs/\z=Str.ofString "series")\/(B=cb/\z=Str.ofString "back")
def Zdq(cp ch cs cb:Addr):Sp:=fun vs H Q _=>∃(e B:Addr) (z:Str),vs=[.ref e]/\H e=some (XO e B none)/\Ztq cp ch cs cb B z/\∀H',ZS H H'->Q (.bl true) H'
def Ze1(cp ch cs cb:Addr):Sp:=fun vs H Q _=>(vs=[.non]/\∀H',ZS H H'->Q .non H')\/∃(e B:Addr) (z:Str),vs=[.ref e]/\H e=some (XO e B none)/\Ztq cp ch cs cb B z/\∀H',ZS H H'->Q (.str z) H'
theorem Zav:ZX ["_law_kept","_law_some"] ["_law_kept"] (ZG ZdI):=⟨rfl,rfl,rfl,by decide+kernel,rfl,by decide+kernel,by decide+kernel⟩
theorem ZkQ{f:Addr}{fd:FuncData}(F:Fun K "_law_alone" "_law_alone" ZdI f fd)(T:Txt K mg Zk Zi Zj Zb Zt Zr ZM Zw ZC Zx ZD Ze Zd Zf Zq ZF ZP):Yy P w K mg base CX0 1 f fd ["_law_kept"] (Zdq Ze Zd Zf Zq):=by
 refine F.ok Zav (fun vs H Q E h=> ?_) (fun cdv A outer s H vs Q E hr h=> ?_)
 ·obtain⟨e,B,z,rfl,_⟩:=h
  rfl
 ·obtain⟨e,B,z,rfl,he,xc,q⟩:=h;have l5:=Xd;refine⟨_,(Zh (ZK (i:=1) Zav.nd rfl (Or.inl rfl) (Yq (Za (Yb Ye (by rfl) T.z_isinstance Yd (Za (pv 0) (Za (Xp (v:=.ref ZM) rfl T.mg_NoDay rfl) Zm))) (Za (Yb Ye (by rfl) T.z_isinstance Yd (Za (pv 0) (Za (Xp (v:=.ref Zw) rfl T.mg_NoLength rfl) Zm))) (Za (Yb Ye (by rfl) T.z_isinstance Yd (Za (pv 0) (Za (Xp (v:=.ref ZC) rfl T.mg_NoTerm rfl) Zm))) (Za (Yb Ye (by rfl) T.z_isinstance Yd (Za (pv 0) (Za (Xp (v:=.ref Zx) rfl T.mg_TooWide rfl) Zm))) Zm)))))) (Zh (ZK (i:=1) Zav.nd rfl (Or.inl rfl) (ZQ Zbr (pv 1) (Yq (Za (Yb Ye (by rfl) T.z_isinstance Yd (Za (pv 0) (Za (Xp (v:=.ref ZD) rfl T.mg_NoBook rfl) Zm))) (Za (Yb Ye (by rfl) T.z_isinstance Yd (Za (pv 0) (Za (Xp (v:=.ref Ze) rfl T.mg_PutTwice rfl) Zm))) (Za (Yb Ye (by rfl) T.z_isinstance Yd (Za (pv 0) (Za (Xp (v:=.ref Zd) rfl T.mg_HeldTwice rfl) Zm))) Zm)))))) (Zh (ZK (i:=1) Zav.nd rfl (Or.inl rfl) (ZQ Zbr (pv 1) (Yq (Za (Yb Ye (by rfl) T.z_isinstance Yd (Za (pv 0) (Za (Xp (v:=.ref Zf) rfl T.mg_NoSeries rfl) Zm))) (Za (Yb Ye (by rfl) T.z_isinstance Yd (Za (pv 0) (Za (Xp (v:=.ref Zq) rfl T.mg_RunBack rfl) Zm))) (Za (Yb Ye (by rfl) T.z_isinstance Yd (Za (pv 0) (Za (Xp (v:=.ref ZF) rfl T.mg_Unlike rfl) Zm))) Zm)))))) (Zh (ZK (i:=1) Zav.nd rfl (Or.inl rfl) (ZQ Zbr (pv 1) (Yq (Za (Yb Ye (by rfl) T.z_isinstance Yd (Za (pv 0) (Za (Xp (v:=.ref ZP) rfl T.mg_NoRow rfl) Zm))) Zm)))) (Zu (ZJ (ZjL (Za5 Yu (Zaj PySem.F.plainAttrs_list PySem.F.slot_list_count PySem.F.type_list_count ZpI (pv 1) (Za Zfh Zm)) Zo (ZL _)) (ZjL (Yb Ye (by rfl) T.z_isinstance Yd (Za (pv 0) (Za (Xp (v:=.ref Zr) rfl T.mg_HallError rfl) Zm))) (ZlX (Yb Ye (by rfl) T.z_isinstance Yd (Za (pv 0) (Za (Zqn (v:=.ty "ValueError") rfl T.z_ValueError ZiP rfl) Zm)))))))))))), ?_⟩
  obtain⟨b0,b1,b2,b3,b4,b5,b6,b7,b8,b9,b10,Z,i0,i1,i2,i3,i4,i5,i6,i7,i8,i9,i10,cn,iH,iV⟩:∃b0 b1 b2 b3 b4 b5 b6 b7 b8 b9 b10:Bool,Za9 K B/\PySem.W.kitOne K (.ref B) (.ref ZM)=some b0/\PySem.W.kitOne K (.ref B) (.ref Zw)=some b1/\PySem.W.kitOne K (.ref B) (.ref ZC)=some b2/\PySem.W.kitOne K (.ref B) (.ref Zx)=some b3/\PySem.W.kitOne K (.ref B) (.ref ZD)=some b4/\PySem.W.kitOne K (.ref B) (.ref Ze)=some b5/\PySem.W.kitOne K (.ref B) (.ref Zd)=some b6/\PySem.W.kitOne K (.ref B) (.ref Zf)=some b7/\PySem.W.kitOne K (.ref B) (.ref Zq)=some b8/\PySem.W.kitOne K (.ref B) (.ref ZF)=some b9/\PySem.W.kitOne K (.ref B) (.ref ZP)=some b10/\[b0,b1,b2,b3,b4,b5,b6,b7,b8,b9,b10].count true=1/\PySem.W.kitOne K (.ref B) (.ref Zr)=some true/\PySem.W.kitOne K (.ref B) (.type "ValueError")=some true:=by
   rcases xc with ⟨rfl,_⟩|⟨rfl,_⟩|⟨rfl,_⟩|⟨rfl,_⟩
   ·exact⟨_,_,_,_,_,_,_,_,_,_,_,T.xc_PutTwice,T.i_p_NoDay,T.i_p_NoLength,T.i_p_NoTerm,T.i_p_TooWide,T.i_p_NoBook,T.i_p_PutTwice,T.i_p_HeldTwice,T.i_p_NoSeries,T.i_p_RunBack,T.i_p_Unlike,T.i_p_NoRow,rfl,T.i_p_HallError,T.i_p_ve⟩
   ·exact⟨_,_,_,_,_,_,_,_,_,_,_,T.xc_HeldTwice,T.i_h_NoDay,T.i_h_NoLength,T.i_h_NoTerm,T.i_h_TooWide,T.i_h_NoBook,T.i_h_PutTwice,T.i_h_HeldTwice,T.i_h_NoSeries,T.i_h_RunBack,T.i_h_Unlike,T.i_h_NoRow,rfl,T.i_h_HallError,T.i_h_ve⟩
   ·exact⟨_,_,_,_,_,_,_,_,_,_,_,T.xc_NoSeries,T.i_s_NoDay,T.i_s_NoLength,T.i_s_NoTerm,T.i_s_TooWide,T.i_s_NoBook,T.i_s_PutTwice,T.i_s_HeldTwice,T.i_s_NoSeries,T.i_s_RunBack,T.i_s_Unlike,T.i_s_NoRow,rfl,T.i_s_HallError,T.i_s_ve⟩
   ·exact⟨_,_,_,_,_,_,_,_,_,_,_,T.xc_RunBack,T.i_b_NoDay,T.i_b_NoLength,T.i_b_NoTerm,T.i_b_TooWide,T.i_b_NoBook,T.i_b_PutTwice,T.i_b_HeldTwice,T.i_b_NoSeries,T.i_b_RunBack,T.i_b_Unlike,T.i_b_NoRow,rfl,T.i_b_HallError,T.i_b_ve⟩
  refine⟨_,rfl,e,_,_,_,_,rfl,he,Z,rfl,i0,_,rfl,e,_,_,_,_,rfl,he,Z,rfl,i1,_,rfl,e,_,_,_,_,rfl,he,Z,rfl,i2,_,rfl,e,_,_,_,_,rfl,he,Z,rfl,i3,show 4<=sizeLine from sl,fun p1 h1=> ?_⟩;have s1:=Zg h1 (o:=.lst [.bl b0,.bl b1,.bl b2,.bl b3]);have e1:upd H p1 (.lst [.bl b0,.bl b1,.bl b2,.bl b3]) p1=some (.lst [.bl b0,.bl b1,.bl b2,.bl b3]):=Zc;generalize upd H p1 (.lst [.bl b0,.bl b1,.bl b2,.bl b3])=H1 at s1 e1⊢
  have he0:=s1 _ _ he;refine⟨_,rfl,_,rfl,e,_,_,_,_,rfl,he0,Z,rfl,i4,_,rfl,e,_,_,_,_,rfl,he0,Z,rfl,i5,_,rfl,e,_,_,_,_,rfl,he0,Z,rfl,i6,show 3<=sizeLine from sl,fun t0 ht0=>⟨p1,t0,_,_,rfl,rfl,SqL.of (Zg ht0 _ _ e1),SqL.of Zc,(by show 7<=sizeLine;omega),fun p2 h2=> ?_⟩⟩
  have s2:=s1.trans ((Zg ht0 (o:=.lst [.bl b4,.bl b5,.bl b6])).trans (Zg h2 (o:=.lst ([.bl b0,.bl b1,.bl b2,.bl b3]++[.bl b4,.bl b5,.bl b6]))));have e2:upd (upd H1 t0 (.lst [.bl b4,.bl b5,.bl b6])) p2 (.lst ([.bl b0,.bl b1,.bl b2,.bl b3]++[.bl b4,.bl b5,.bl b6])) p2=some (.lst [.bl b0,.bl b1,.bl b2,.bl b3,.bl b4,.bl b5,.bl b6]):=Zc;generalize upd (upd H1 t0 (.lst [.bl b4,.bl b5,.bl b6])) p2 (.lst ([.bl b0,.bl b1,.bl b2,.bl b3]++[.bl b4,.bl b5,.bl b6]))=H2 at s2 e2⊢
  have he1:=s2 _ _ he;refine⟨_,rfl,_,rfl,e,_,_,_,_,rfl,he1,Z,rfl,i7,_,rfl,e,_,_,_,_,rfl,he1,Z,rfl,i8,_,rfl,e,_,_,_,_,rfl,he1,Z,rfl,i9,show 3<=sizeLine from sl,fun t1 ht1=>⟨p2,t1,_,_,rfl,rfl,SqL.of (Zg ht1 _ _ e2),SqL.of Zc,(by show 10<=sizeLine;omega),fun p3 h3=> ?_⟩⟩
  have s3:=s2.trans ((Zg ht1 (o:=.lst [.bl b7,.bl b8,.bl b9])).trans (Zg h3 (o:=.lst ([.bl b0,.bl b1,.bl b2,.bl b3,.bl b4,.bl b5,.bl b6]++[.bl b7,.bl b8,.bl b9]))));have e3:upd (upd H2 t1 (.lst [.bl b7,.bl b8,.bl b9])) p3 (.lst ([.bl b0,.bl b1,.bl b2,.bl b3,.bl b4,.bl b5,.bl b6]++[.bl b7,.bl b8,.bl b9])) p3=some (.lst [.bl b0,.bl b1,.bl b2,.bl b3,.bl b4,.bl b5,.bl b6,.bl b7,.bl b8,.bl b9]):=Zc;generalize upd (upd H2 t1 (.lst [.bl b7,.bl b8,.bl b9])) p3 (.lst ([.bl b0,.bl b1,.bl b2,.bl b3,.bl b4,.bl b5,.bl b6]++[.bl b7,.bl b8,.bl b9]))=H3 at s3 e3⊢
  have he2:=s3 _ _ he;refine⟨_,rfl,_,rfl,e,_,_,_,_,rfl,he2,Z,rfl,i10,show 1<=sizeLine from sl,fun t2 ht2=>⟨p3,t2,_,_,rfl,rfl,SqL.of (Zg ht2 _ _ e3),SqL.of Zc,(by show 11<=sizeLine;omega),fun p4 h4=> ?_⟩⟩
  have s4:=s3.trans ((Zg ht2 (o:=.lst [.bl b10])).trans (Zg h4 (o:=.lst ([.bl b0,.bl b1,.bl b2,.bl b3,.bl b4,.bl b5,.bl b6,.bl b7,.bl b8,.bl b9]++[.bl b10]))));have e4:upd (upd H3 t2 (.lst [.bl b10])) p4 (.lst ([.bl b0,.bl b1,.bl b2,.bl b3,.bl b4,.bl b5,.bl b6,.bl b7,.bl b8,.bl b9]++[.bl b10])) p4=some (.lst [.bl b0,.bl b1,.bl b2,.bl b3,.bl b4,.bl b5,.bl b6,.bl b7,.bl b8,.bl b9,.bl b10]):=Zc;generalize upd (upd H3 t2 (.lst [.bl b10])) p4 (.lst ([.bl b0,.bl b1,.bl b2,.bl b3,.bl b4,.bl b5,.bl b6,.bl b7,.bl b8,.bl b9]++[.bl b10]))=H4 at s4 e4⊢
  have he9:=s4 _ _ he;refine⟨_,rfl,.inl ⟨rfl,_,SqL.of e4⟩,p4,[b0,b1,b2,b3,b4,b5,b6,b7,b8,b9,b10],rfl,rfl,e4,rfl, ?_⟩;exact⟨true,congrArg V.bl (decide_eq_true (by rw[cn];rfl)),Jq ⟨_,rfl,e,_,_,_,true,rfl,he9,Z,rfl,iH,true,rfl,Jq ⟨_,rfl,e,_,_,_,true,rfl,he9,Z,rfl,iV,q _ s4⟩⟩⟩
theorem Zb1:ZX ["_law_kept","_law_some"] ["_law_kept"] (ZG ZeO):=⟨rfl,rfl,rfl,by decide+kernel,rfl,by decide+kernel,by decide+kernel⟩
theorem ZlQ{f:Addr}{fd:FuncData}(F:Fun K "_law_sort" "_law_sort" ZeO f fd)(T:Txt K mg Zk Zi Zj Zb Zt Zr ZM Zw ZC Zx ZD Ze Zd Zf Zq ZF ZP)(Zck:Cal P w K mg base CX0 1 "_law_alone" ["_law_kept"] (Zdq Ze Zd Zf Zq)):Yy P w K mg base CX0 2 f fd ["_law_kept"] (Ze1 Ze Zd Zf Zq):=by
 refine F.ok Zb1 (fun vs H Q E h=> ?_) (fun cdv A outer s H vs Q E hr h=> ?_)
 ·obtain⟨rfl,_⟩|⟨e,B,z,rfl,_⟩:=h<;>rfl
 ·have l5:=Xd;rcases h with ⟨rfl,q⟩|⟨e,B,z,rfl,he,xc,q⟩
  ·refine⟨_,(Zh (Yj (Zy Zah (pv 0) Yv (ZL _)) (Zu (ZJ Yv)) ZW) (Zh (Yj (ZjK (ZeD (Ym Zck (hr.mono (by omega)) rfl Yc (Za (pv 0) Zm)))) (Zu (ZJ ZR)) ZW) (Zh (ZK (i:=1) Zb1.nd rfl (Or.inl rfl) (Yq (Za (Yb Ye (by rfl) T.z_isinstance Yd (Za (pv 0) (Za (Xp (v:=.ref Ze) rfl T.mg_PutTwice rfl) Zm))) (Za (Yb Ye (by rfl) T.z_isinstance Yd (Za (pv 0) (Za (Xp (v:=.ref Zd) rfl T.mg_HeldTwice rfl) Zm))) (Za (Yb Ye (by rfl) T.z_isinstance Yd (Za (pv 0) (Za (Xp (v:=.ref Zf) rfl T.mg_NoSeries rfl) Zm))) Zm))))) (Zh (ZK (i:=1) Zb1.nd rfl (Or.inl rfl) (ZQ Zbr (pv 1) (Yq (Za (Yb Ye (by rfl) T.z_isinstance Yd (Za (pv 0) (Za (Xp (v:=.ref Zq) rfl T.mg_RunBack rfl) Zm))) (Za Zfh Zm))))) (Zu (ZJ (ZV Xq (Yq (Za ZR (Za ZR (Za ZR (Za ZR (Za ZR Zm)))))) (Zaj PySem.F.plainAttrs_list PySem.F.slot_list_index PySem.F.type_list_index Zll (pv 1) (Za Zfh Zm)) (fun _ _=>rfl)))))))), ?_⟩
   exact⟨_,rfl,rfl,_,rfl,Zam rfl (q H (ZS.refl _))⟩
  ·refine⟨_,(Zh (Yj (Zy Zah (pv 0) Yv (ZL _)) (Zu (ZJ Yv)) ZW) (Zh (Yj (ZjK (ZeD (Ym Zck (hr.mono (by omega)) rfl Yc (Za (pv 0) Zm)))) (Zu (ZJ ZR)) ZW) (Zh (ZK (i:=1) Zb1.nd rfl (Or.inl rfl) (Yq (Za (Yb Ye (by rfl) T.z_isinstance Yd (Za (pv 0) (Za (Xp (v:=.ref Ze) rfl T.mg_PutTwice rfl) Zm))) (Za (Yb Ye (by rfl) T.z_isinstance Yd (Za (pv 0) (Za (Xp (v:=.ref Zd) rfl T.mg_HeldTwice rfl) Zm))) (Za (Yb Ye (by rfl) T.z_isinstance Yd (Za (pv 0) (Za (Xp (v:=.ref Zf) rfl T.mg_NoSeries rfl) Zm))) Zm))))) (Zh (ZK (i:=1) Zb1.nd rfl (Or.inl rfl) (ZQ Zbr (pv 1) (Yq (Za (Yb Ye (by rfl) T.z_isinstance Yd (Za (pv 0) (Za (Xp (v:=.ref Zq) rfl T.mg_RunBack rfl) Zm))) (Za Zfh Zm))))) (Zu (ZJ (ZV Xq (Yq (Za ZR (Za ZR (Za ZR (Za ZR (Za ZR Zm)))))) (Zaj PySem.F.plainAttrs_list PySem.F.slot_list_index PySem.F.type_list_index Zll (pv 1) (Za Zfh Zm)) (fun _ _=>rfl)))))))), ?_⟩
   refine⟨_,rfl,rfl,_,rfl,Xj (fun z=>nomatch z) ?_⟩;refine⟨_,rfl,e,B,z,rfl,he,xc,fun H0 s0=>⟨true,rfl,Yw ?_⟩⟩;have he0:=s0 _ _ he;rcases xc with ⟨rfl,rfl⟩|⟨rfl,rfl⟩|⟨rfl,rfl⟩|⟨rfl,rfl⟩
   ·refine⟨_,rfl,e,_,_,_,true,rfl,he0,T.xc_PutTwice,rfl,T.i_p_PutTwice,_,rfl,e,_,_,_,false,rfl,he0,T.xc_PutTwice,rfl,T.i_p_HeldTwice,_,rfl,e,_,_,_,false,rfl,he0,T.xc_PutTwice,rfl,T.i_p_NoSeries,show 3<=sizeLine from sl,fun p1 h1=> ?_⟩;have s1:=s0.trans (Zg h1 (o:=.lst [.bl true,.bl false,.bl false]));have e1:upd H0 p1 (.lst [.bl true,.bl false,.bl false]) p1=some (.lst [.bl true,.bl false,.bl false]):=Zc
    generalize upd H0 p1 (.lst [.bl true,.bl false,.bl false])=H1 at s1 e1⊢
    have he1:=s1 _ _ he;refine⟨_,rfl,_,rfl,e,_,_,_,false,rfl,he1,T.xc_PutTwice,rfl,T.i_p_RunBack,show 2<=sizeLine from sl,fun t0 ht0=>⟨p1,t0,_,_,rfl,rfl,SqL.of (Zg ht0 _ _ e1),SqL.of Zc,(by show 5<=sizeLine;omega),fun p2 h2=> ?_⟩⟩
    have s2:=s1.trans ((Zg ht0 (o:=.lst [.bl false,.bl true])).trans (Zg h2 (o:=.lst ([.bl true,.bl false,.bl false]++[.bl false,.bl true]))));have e2:upd (upd H1 t0 (.lst [.bl false,.bl true])) p2 (.lst ([.bl true,.bl false,.bl false]++[.bl false,.bl true])) p2=some (.lst [.bl true,.bl false,.bl false,.bl false,.bl true]):=Zc;generalize upd (upd H1 t0 (.lst [.bl false,.bl true])) p2 (.lst ([.bl true,.bl false,.bl false]++[.bl false,.bl true]))=H2 at s2 e2⊢
    refine⟨show 5<=sizeLine from sl,fun p3 h3=>⟨_,rfl,.inl ⟨rfl,_,SqL.of (Zg h3 _ _ e2)⟩,p2,[true,false,false,false,true],0,rfl,rfl,Zg h3 _ _ e2,rfl,by decide,(by decide),p3,_,_,_,rfl,rfl,SqL.of Zc,rfl,q _ (s2.trans (Zg h3))⟩⟩
   ·refine⟨_,rfl,e,_,_,_,false,rfl,he0,T.xc_HeldTwice,rfl,T.i_h_PutTwice,_,rfl,e,_,_,_,true,rfl,he0,T.xc_HeldTwice,rfl,T.i_h_HeldTwice,_,rfl,e,_,_,_,false,rfl,he0,T.xc_HeldTwice,rfl,T.i_h_NoSeries,show 3<=sizeLine from sl,fun p1 h1=> ?_⟩;have s1:=s0.trans (Zg h1 (o:=.lst [.bl false,.bl true,.bl false]));have e1:upd H0 p1 (.lst [.bl false,.bl true,.bl false]) p1=some (.lst [.bl false,.bl true,.bl false]):=Zc
    generalize upd H0 p1 (.lst [.bl false,.bl true,.bl false])=H1 at s1 e1⊢
    have he1:=s1 _ _ he;refine⟨_,rfl,_,rfl,e,_,_,_,false,rfl,he1,T.xc_HeldTwice,rfl,T.i_h_RunBack,show 2<=sizeLine from sl,fun t0 ht0=>⟨p1,t0,_,_,rfl,rfl,SqL.of (Zg ht0 _ _ e1),SqL.of Zc,(by show 5<=sizeLine;omega),fun p2 h2=> ?_⟩⟩
    have s2:=s1.trans ((Zg ht0 (o:=.lst [.bl false,.bl true])).trans (Zg h2 (o:=.lst ([.bl false,.bl true,.bl false]++[.bl false,.bl true]))));have e2:upd (upd H1 t0 (.lst [.bl false,.bl true])) p2 (.lst ([.bl false,.bl true,.bl false]++[.bl false,.bl true])) p2=some (.lst [.bl false,.bl true,.bl false,.bl false,.bl true]):=Zc;generalize upd (upd H1 t0 (.lst [.bl false,.bl true])) p2 (.lst ([.bl false,.bl true,.bl false]++[.bl false,.bl true]))=H2 at s2 e2⊢
    refine⟨show 5<=sizeLine from sl,fun p3 h3=>⟨_,rfl,.inl ⟨rfl,_,SqL.of (Zg h3 _ _ e2)⟩,p2,[false,true,false,false,true],1,rfl,rfl,Zg h3 _ _ e2,rfl,by decide,(by decide),p3,_,_,_,rfl,rfl,SqL.of Zc,rfl,q _ (s2.trans (Zg h3))⟩⟩
   ·refine⟨_,rfl,e,_,_,_,false,rfl,he0,T.xc_NoSeries,rfl,T.i_s_PutTwice,_,rfl,e,_,_,_,false,rfl,he0,T.xc_NoSeries,rfl,T.i_s_HeldTwice,_,rfl,e,_,_,_,true,rfl,he0,T.xc_NoSeries,rfl,T.i_s_NoSeries,show 3<=sizeLine from sl,fun p1 h1=> ?_⟩;have s1:=s0.trans (Zg h1 (o:=.lst [.bl false,.bl false,.bl true]));have e1:upd H0 p1 (.lst [.bl false,.bl false,.bl true]) p1=some (.lst [.bl false,.bl false,.bl true]):=Zc
    generalize upd H0 p1 (.lst [.bl false,.bl false,.bl true])=H1 at s1 e1⊢
    have he1:=s1 _ _ he;refine⟨_,rfl,_,rfl,e,_,_,_,false,rfl,he1,T.xc_NoSeries,rfl,T.i_s_RunBack,show 2<=sizeLine from sl,fun t0 ht0=>⟨p1,t0,_,_,rfl,rfl,SqL.of (Zg ht0 _ _ e1),SqL.of Zc,(by show 5<=sizeLine;omega),fun p2 h2=> ?_⟩⟩
    have s2:=s1.trans ((Zg ht0 (o:=.lst [.bl false,.bl true])).trans (Zg h2 (o:=.lst ([.bl false,.bl false,.bl true]++[.bl false,.bl true]))));have e2:upd (upd H1 t0 (.lst [.bl false,.bl true])) p2 (.lst ([.bl false,.bl false,.bl true]++[.bl false,.bl true])) p2=some (.lst [.bl false,.bl false,.bl true,.bl false,.bl true]):=Zc;generalize upd (upd H1 t0 (.lst [.bl false,.bl true])) p2 (.lst ([.bl false,.bl false,.bl true]++[.bl false,.bl true]))=H2 at s2 e2⊢
    refine⟨show 5<=sizeLine from sl,fun p3 h3=>⟨_,rfl,.inl ⟨rfl,_,SqL.of (Zg h3 _ _ e2)⟩,p2,[false,false,true,false,true],2,rfl,rfl,Zg h3 _ _ e2,rfl,by decide,(by decide),p3,_,_,_,rfl,rfl,SqL.of Zc,rfl,q _ (s2.trans (Zg h3))⟩⟩
   ·refine⟨_,rfl,e,_,_,_,false,rfl,he0,T.xc_RunBack,rfl,T.i_b_PutTwice,_,rfl,e,_,_,_,false,rfl,he0,T.xc_RunBack,rfl,T.i_b_HeldTwice,_,rfl,e,_,_,_,false,rfl,he0,T.xc_RunBack,rfl,T.i_b_NoSeries,show 3<=sizeLine from sl,fun p1 h1=> ?_⟩;have s1:=s0.trans (Zg h1 (o:=.lst [.bl false,.bl false,.bl false]));have e1:upd H0 p1 (.lst [.bl false,.bl false,.bl false]) p1=some (.lst [.bl false,.bl false,.bl false]):=Zc
    generalize upd H0 p1 (.lst [.bl false,.bl false,.bl false])=H1 at s1 e1⊢
    have he1:=s1 _ _ he;refine⟨_,rfl,_,rfl,e,_,_,_,true,rfl,he1,T.xc_RunBack,rfl,T.i_b_RunBack,show 2<=sizeLine from sl,fun t0 ht0=>⟨p1,t0,_,_,rfl,rfl,SqL.of (Zg ht0 _ _ e1),SqL.of Zc,(by show 5<=sizeLine;omega),fun p2 h2=> ?_⟩⟩
    have s2:=s1.trans ((Zg ht0 (o:=.lst [.bl true,.bl true])).trans (Zg h2 (o:=.lst ([.bl false,.bl false,.bl false]++[.bl true,.bl true]))));have e2:upd (upd H1 t0 (.lst [.bl true,.bl true])) p2 (.lst ([.bl false,.bl false,.bl false]++[.bl true,.bl true])) p2=some (.lst [.bl false,.bl false,.bl false,.bl true,.bl true]):=Zc;generalize upd (upd H1 t0 (.lst [.bl true,.bl true])) p2 (.lst ([.bl false,.bl false,.bl false]++[.bl true,.bl true]))=H2 at s2 e2⊢
    refine⟨show 5<=sizeLine from sl,fun p3 h3=>⟨_,rfl,.inl ⟨rfl,_,SqL.of (Zg h3 _ _ e2)⟩,p2,[false,false,false,true,true],3,rfl,rfl,Zg h3 _ _ e2,rfl,by decide,(by decide),p3,_,_,_,rfl,rfl,SqL.of Zc,rfl,q _ (s2.trans (Zg h3))⟩⟩
def rfW:Rf->Str
 | .put=>Str.ofString "put"
 | .held=>Str.ofString "held"
 | .ser=>Str.ofString "series"
def Zcl(cn ca cl ce C:Addr):Sp:=fun vs H Q _=>∃(a:Addr) (v:V) (day:Int) (s:Hs) (F:List Addr),vs=[.ref a,v,.int day]/\Yh cn ca cl ce C H a s F/\ZdW s/\ZcS s/\ZkK s.ws/\s.runs.length<=900/\s.gs.length<64/\s.ws.length<=900/\
 ((v=.non/\((∃d,s.runs.getLast? =some d/\day<d)->∀H',ZS H H'->Q (.str (Str.ofString "back")) H')/\
  ((∀d,s.runs.getLast? =some d->d<=day)->∀zs H',ZeT F H H'->Yh cn ca cl ce C H' a (Ziv s day zs) F->zs.Pairwise (fun a b=>YL a b=true)->(∀r,r∈zs↔r∉s.gs.map (·.1)/\ZcB s day r)->Q .non H'))\/
 ∃(d:Addr) (w:Rw),v=.ref d/\ZbP H d w/\w.one.length<=1000/\(∀n∈YF w,n.length<=1000)/\(∀f,Zc8 s.ws (s.rs.map Sr.nm) w=some f->∀H',ZS H H'->Q (.str (rfW f)) H')/\
  (Zc8 s.ws (s.rs.map Sr.nm) w=none->ZdW {s with ws:=s.ws++[w]}/\∀wd H' F',ZeT F H H'->(∀b∈F',b∈F\/H b=none)->(∀b∈F,b∈F')->Yh cn ca cl ce C H' a {s with ws:=s.ws++[w],wd:=wd} F'->ZcS {s with ws:=s.ws++[w],wd:=wd}->Q .non H'))
theorem ZiB{a b:TS}{D:Zfg}{σ:L2.St}{H:Hp}(h:∀B:TS,(∀σ' H',b D σ' H'->B D σ' H')->ZnD a B D σ H):ZnD a b D σ H:=h b fun _ _ x=>x
theorem ZkR{σ:L2.St}{v:Option V}{i n:Nat}(h:σ.length=n)(lt:i<n):(σ.set i v)[i]? =some v:=List.getElem?_set_self (by omega)
theorem Zhv{σ:L2.St}{u v:Option V}(h:σ.length=5):(((σ.set 4 u).set 3 v).set 4 none)[3]? =some v:=by
 rw[List.getElem?_set_ne (by decide),List.getElem?_set_self (by rw[List.length_set,h];decide)]
theorem Zcm:ZX ["_law_house","_law_row","_law_day","_law_kept","refusal"] ["_law_house","_law_row","_law_day"] (ZG ZeP):=⟨rfl,rfl,rfl,by decide+kernel,rfl,by decide+kernel,by decide+kernel⟩
theorem ZlR{f:Addr}{fd:FuncData}(F:Fun K "_law_told" "_law_told" ZeP f fd)(T:Txt K mg Zk Zi Zj Zb Zt Zr ZM Zw ZC Zx ZD Ze Zd Zf Zq ZF ZP)(Zf6:Cal P w K mg base CX0 2 "_law_sort" ["_law_kept"] (Ze1 Ze Zd Zf Zq))(Zqh:Zag P w K mg base (CXr P w) 40 "run" ["self","day"] (ZkM Zk Zi Zj Zb Zq 12) (fun C=>C=Zt))(ZmV:Zag P w K mg base (CXr P w) 40 "tell" ["self","row"] (Zhu Zk Zi Zj Zb Ze Zd Zf 12) (fun C=>C=Zt)):Yy P w K mg base CX0 41 f fd ["_law_house","_law_row","_law_day"] (Zcl Zk Zi Zj Zb Zt):=by
 refine F.ok Zcm (fun vs H Q E h=> ?_) (fun cdv A outer s H vs Q E hr h=> ?_)
 ·obtain⟨a,v,day,s,F,rfl,_⟩:=h
  rfl
 ·obtain⟨a,v,day,s,F,rfl,ho,ok,wo,few,lr,lg,lw,hq⟩:=h;have l5:=Xd;have hu:=ZbC hr;refine⟨_,(Zh (ZK (i:=3) Zcm.nd rfl (Or.inl rfl) Yv) (Zh (ZpG (CX:=CX0) (i:=4) (by rfl) (fun o_k _ _=>(Zu (Yj (Zy Zah (pv 1) Yv (ZL _)) (Zu (Xv (ZaC (pv 0) Zqh (hr.mono (by omega)) (Zlk o_k) (Za (pv 2) Zm)))) (Zu (Xv (ZaC (pv 0) ZmV (hr.mono (by omega)) (Zlk o_k) (Za (pv 1) Zm))))))) Zcm.nd (by rfl) T.mg_HallError (by rfl) (by rfl) (fun _=>(Zu (ZK (i:=3) Zcm.nd rfl (Or.inl rfl) (pv 4))))) (Zu (ZJ (Ym Zf6 (hr.mono (by omega)) rfl Yc (Za (pv 3) Zm)))))), ?_⟩
  refine ZiB fun B_ hB=> ?_;refine hB _ _ ?_;obtain⟨dx,b,t,o,hh,r,k,w0,ha,_⟩:=ho.ins;refine ZiB fun B_ hB=> ?_;rcases hq with ⟨rfl,qx,qn⟩|⟨d,w,rfl,hd,lo1,ln1,qx,qn⟩
  ·refine⟨_,rfl,rfl,_,rfl,Zam rfl ?_⟩;refine⟨_,rfl,a,_,dx,_,rfl,ha,rfl,Zcj (by decide+kernel),_,rfl,a,day,s,F,rfl,by decide,ho,ok,few,wo.keys,lr,by omega,fun late H1 s1 σ' e hl he=> ?_,fun okd L us zs H1 kp hA1 hL nL hl po st iff=> ?_⟩
   ·exact⟨Zq,rfl,T.xm_b,_,ZkR hl (by show 4<5;decide),hB _ _ ⟨_,Zhv hl,.inr ⟨e,_,_,rfl,Zc,.inr (.inr (.inr ⟨rfl,rfl⟩)),fun H' s'=>qx late H' (s1.trans ((Zg he).trans s'))⟩⟩⟩
   ·refine hB _ _ ⟨_,rfl,.inl ⟨rfl,fun H' s'=>qn okd zs H' (fun c u m z=>s' _ _ (kp c u m z)) (hA1.same s') st iff⟩⟩
  ·refine⟨_,rfl,rfl,_,rfl,Xj (fun z=>nomatch z) ?_⟩;refine⟨_,rfl,a,_,dx,_,rfl,ha,rfl,Zcj (by decide+kernel),_,rfl,a,d,w,s,F,rfl,by decide,ho,hd,lw,ok.lr,lo1,ln1,fun f rf H1 s1 σ' e hl he=> ?_,fun rn=> ?_⟩
   ·cases f with
    |put=>exact⟨Ze,rfl,T.xm_p,_,ZkR hl (by show 4<5;decide),hB _ _ ⟨_,Zhv hl,.inr ⟨e,_,_,rfl,Zc,.inl ⟨rfl,rfl⟩,fun H' s'=>qx _ rf H' (s1.trans ((Zg he).trans s'))⟩⟩⟩
    |held=>exact⟨Zd,rfl,T.xm_h,_,ZkR hl (by show 4<5;decide),hB _ _ ⟨_,Zhv hl,.inr ⟨e,_,_,rfl,Zc,.inr (.inl ⟨rfl,rfl⟩),fun H' s'=>qx _ rf H' (s1.trans ((Zg he).trans s'))⟩⟩⟩
    |ser=>exact⟨Zf,rfl,T.xm_s,_,ZkR hl (by show 4<5;decide),hB _ _ ⟨_,Zhv hl,.inr ⟨e,_,_,rfl,Zc,.inr (.inr (.inl ⟨rfl,rfl⟩)),fun H' s'=>qx _ rf H' (s1.trans ((Zg he).trans s'))⟩⟩⟩
   ·obtain⟨ok2,q2⟩:=qn rn;refine⟨ok2,wo,lg,fun L zs wd H1 F' kp sub sup hA1 wo1 hL nL hl sz _=> ?_⟩;exact hB _ _ ⟨_,rfl,.inl ⟨rfl,fun H' s'=>q2 wd H' F' (fun c u m z=>s' _ _ (kp c u m z)) sub sup (hA1.same s') wo1⟩⟩
def Zf7:Sp:=fun vs H Q _=>∃(d:Addr) (w:Rw) (c:Int) (nm:Str),vs=[.ref d,.int c,.str nm]/\ZbP H d w/\∀(w':Rw) d' H',ZS H H'->ZbP H' d' w'->w'.one=w.one->w'.day=w.day->(∀n∈YF w',n∈YF w\/n=nm)->Q (.ref d') H'
theorem Zso(z:Str):inV (.str z) [.str "put",.str "move"]=decide (z∈[Str.ofString "put",Str.ofString "move"]):=Zeu z [Str.ofString "put",Str.ofString "move"]
theorem ZmW:ZX ["_law_row","_law_cell","_law_name"] ["_law_row","_law_cell","_law_name"] (ZG Zgk):=⟨rfl,rfl,rfl,by decide+kernel,rfl,by decide+kernel,by decide+kernel⟩
theorem ZmX{f:Addr}{fd:FuncData}(F:Fun K "_law_odd" "_law_odd" Zgk f fd)(T:Txt K mg Zk Zi Zj Zb Zt Zr ZM Zw ZC Zx ZD Ze Zd Zf Zq ZF ZP):Yy P w K mg base CX0 1 f fd ["_law_row","_law_cell","_law_name"] Zf7:=by
 refine F.ok ZmW (fun vs H Q E h=> ?_) (fun cdv A outer s H vs Q E hr h=> ?_)
 ·obtain⟨d,w,c,nm,rfl,_⟩:=h
  rfl
 ·obtain⟨d,w,c,nm,rfl,hd,q⟩:=h;have l5:=Xd;have hd0:H d=some (.tup w.vs):=hd;have same:Q (.ref d) H:=q w d H (ZS.refl _) hd rfl rfl fun n hn=> .inl hn;refine⟨_,(Zh (Yj (Zy ZgM (ZQ Yo (ZQ Yx (pv 1) Zo) Zo) Zo (ZL _)) (Zu (ZJ (pv 0))) ZW) (Zh (Yj (Zy ZaB (ZV ZZ (pv 0) Zo (fun _ _=>rfl)) (Yq (Za ZR (Za ZR Zm))) rfl) (Zu (ZJ (ZQ Zhh (ZQ Zhh (ZbA Zg7 (pv 0) Zec (Zc9 Zo)) (YX (Za (pv 2) Zm))) (ZbA Zg7 (pv 0) (Zc9 Zo) Zec)))) ZW) (Zh (Yj (PW.pt (Jx (Zy Yu (ZV ZZ (pv 0) Zo (fun _ _=>rfl)) ZR (ZL _)) (XH (Zy Yu (ZV ZZ (pv 0) Zo (fun _ _=>rfl)) ZR (ZL _))))) (Zu (ZJ (ZQ Zhh (ZQ Zhh (ZbA Zg7 (pv 0) Zec (Zc9 Zo)) (YX (Za (pv 2) Zm))) (ZbA Zg7 (pv 0) (Zc9 Zo) Zec)))) ZW) (Zu (ZJ (pv 0)))))), ?_⟩
  refine(vI rfl ⟨by decide,by decide⟩ ⟨_,_,rfl,rfl,(by show(0:Int)<4;decide),_,_,rfl,rfl,_,rfl,Xg (fun _=>⟨_,rfl,same⟩) (fun _=> ?_)⟩)
  refine(ixT rfl (SqT.of hd0) (JB w) ⟨show 2<=sizeLine from sl,fun t1 ht1=>⟨t1,_,rfl,.inl (SqL.of Zc),rfl,rfl,_,rfl, ?_⟩⟩);have s0:=Zg ht1 (o:=.lst [.str "put",.str "move"]);have h0:=s0 _ _ hd0;generalize upd H t1 (.lst [.str "put",.str "move"])=H0 at s0 h0⊢
  have same0:Q (.ref d) H0:=q w d H0 s0 h0 rfl rfl fun n hn=> .inl hn;show if inV (.str w.word) [.str "put",.str "move"]=true then _ else _;rw[Zso];cases w with
  |put r s1 d1=>
   rw[show decide ((Rw.put r s1 d1).word∈[Str.ofString "put",Str.ofString "move"])=true from decide_eq_true (show Str.ofString "put"∈[Str.ofString "put",Str.ofString "move"] from List.mem_cons_self ..)];exact Jq ⟨_,rfl,_,rfl,d,_,rfl,SqT.of h0,(by show¬(HT.sIx 4 0 none=0/\HT.sIx 4 4 (some 2)=4);decide),fun p1 h1=>⟨_,rfl,show 1<=sizeLine from sl,fun p2 h2=>⟨p1,p2,_,_,rfl,rfl,SqT.of (Zg h2 _ _ Zc),SqT.of Zc,(fun z=>nomatch z),(show 3<=sizeLine from sl),(fun z=>nomatch z),fun _ p3 h3=>⟨_,rfl,_,rfl,d,_,rfl,SqT.of (Zg h3 _ _ (Zg h2 _ _ (Zg h1 _ _ h0))),(by show¬(HT.sIx 4 0 (some 3)=0/\HT.sIx 4 4 none=4);decide),fun p4 h4=>⟨p3,p4,_,_,rfl,rfl,SqT.of (Zg h4 _ _ Zc),SqT.of Zc,(fun z=>nomatch z),(show 4<=sizeLine from sl),(fun z=>nomatch z),fun _ p5 h5=>q (Rw.put r nm d1) p5 _ (s0.trans ((Zg h1).trans ((Zg h2).trans ((Zg h3).trans ((Zg h4).trans (Zg h5)))))) Zc rfl rfl (fun n hn=> .inr (List.mem_singleton.mp hn))⟩⟩⟩⟩⟩
  |move r s1 d1=>
   rw[show decide ((Rw.move r s1 d1).word∈[Str.ofString "put",Str.ofString "move"])=true from decide_eq_true (show Str.ofString "move"∈[Str.ofString "put",Str.ofString "move"] from List.mem_cons_of_mem _ (List.mem_singleton_self _))];exact Jq ⟨_,rfl,_,rfl,d,_,rfl,SqT.of h0,(by show¬(HT.sIx 4 0 none=0/\HT.sIx 4 4 (some 2)=4);decide),fun p1 h1=>⟨_,rfl,show 1<=sizeLine from sl,fun p2 h2=>⟨p1,p2,_,_,rfl,rfl,SqT.of (Zg h2 _ _ Zc),SqT.of Zc,(fun z=>nomatch z),(show 3<=sizeLine from sl),(fun z=>nomatch z),fun _ p3 h3=>⟨_,rfl,_,rfl,d,_,rfl,SqT.of (Zg h3 _ _ (Zg h2 _ _ (Zg h1 _ _ h0))),(by show¬(HT.sIx 4 0 (some 3)=0/\HT.sIx 4 4 none=4);decide),fun p4 h4=>⟨p3,p4,_,_,rfl,rfl,SqT.of (Zg h4 _ _ Zc),SqT.of Zc,(fun z=>nomatch z),(show 4<=sizeLine from sl),(fun z=>nomatch z),fun _ p5 h5=>q (Rw.move r nm d1) p5 _ (s0.trans ((Zg h1).trans ((Zg h2).trans ((Zg h3).trans ((Zg h4).trans (Zg h5)))))) Zc rfl rfl (fun n hn=> .inr (List.mem_singleton.mp hn))⟩⟩⟩⟩⟩
  |deed r s1 d1=>
   rw[show decide ((Rw.deed r s1 d1).word∈[Str.ofString "put",Str.ofString "move"])=false from decide_eq_false (show¬Str.ofString "deed"∈[Str.ofString "put",Str.ofString "move"] by decide+kernel)];exact Yw (ixT rfl (SqT.of h0) rfl ⟨rfl,_,rfl,Xj (vne (by decide+kernel)) (Yw ⟨_,rfl,same0⟩)⟩)
  |lift r d1=>
   rw[show decide ((Rw.lift r d1).word∈[Str.ofString "put",Str.ofString "move"])=false from decide_eq_false (show¬Str.ofString "lift"∈[Str.ofString "put",Str.ofString "move"] by decide+kernel)];exact Yw (ixT rfl (SqT.of h0) rfl ⟨rfl,_,rfl,Xj (vne (by decide+kernel)) (Yw ⟨_,rfl,same0⟩)⟩)
  |hold r c1 s1 d1=>
   rw[show decide ((Rw.hold r c1 s1 d1).word∈[Str.ofString "put",Str.ofString "move"])=false from decide_eq_false (show¬Str.ofString "hold"∈[Str.ofString "put",Str.ofString "move"] by decide+kernel)];cases c1 with
   |true=>exact Yw (ixT rfl (SqT.of h0) rfl ⟨rfl,_,rfl,Zam rfl (ixT rfl (SqT.of h0) rfl ⟨rfl,_,rfl,Xj (vne (by decide+kernel)) ⟨_,rfl,same0⟩⟩)⟩)
   |false=>
    refine Yw (ixT rfl (SqT.of h0) rfl ⟨rfl,_,rfl,Zam rfl (ixT rfl (SqT.of h0) rfl ⟨rfl,_,rfl, ?_⟩)⟩);exact Zam rfl ⟨_,rfl,_,rfl,d,_,rfl,SqT.of h0,(by show¬(HT.sIx 5 0 none=0/\HT.sIx 5 5 (some 3)=5);decide),fun p1 h1=>⟨_,rfl,show 1<=sizeLine from sl,fun p2 h2=>⟨p1,p2,_,_,rfl,rfl,SqT.of (Zg h2 _ _ Zc),SqT.of Zc,(fun z=>nomatch z),(show 4<=sizeLine from sl),(fun z=>nomatch z),fun _ p3 h3=>⟨_,rfl,_,rfl,d,_,rfl,SqT.of (Zg h3 _ _ (Zg h2 _ _ (Zg h1 _ _ h0))),(by show¬(HT.sIx 5 0 (some 4)=0/\HT.sIx 5 5 none=5);decide),fun p4 h4=>⟨p3,p4,_,_,rfl,rfl,SqT.of (Zg h4 _ _ Zc),SqT.of Zc,(fun z=>nomatch z),(show 5<=sizeLine from sl),(fun z=>nomatch z),fun _ p5 h5=>q (Rw.hold r false nm d1) p5 _ (s0.trans ((Zg h1).trans ((Zg h2).trans ((Zg h3).trans ((Zg h4).trans (Zg h5)))))) Zc rfl rfl (fun n hn=> .inr (List.mem_singleton.mp hn))⟩⟩⟩⟩⟩
def Zbh:Sp:=fun vs H Q _=>∃(d R N:Addr) (w:Rw) (ws:List Rw) (ns:List Str),vs=[.ref d,.ref R,.ref N]/\ZbP H d w/\Xb H R ws/\ws.length<=1000/\H N=some (.lst (ns.map V.str))/\∀H',ZS H H'->Q (oS ((Zc8 ws ns w).map rfW)) H'
theorem Zsp(a b:Rw):XQ 2 (hdD a) (hdD b)=(decide (a.word=b.word)&&decide (a.one=b.one)):=by
 show((eqV (V.str a.word) (V.str b.word)&&(eqV (V.str a.one) (V.str b.one)&&true))&&(2==2))=_;rw[show eqV (V.str a.word) (V.str b.word)=decide (a.word=b.word) from rfl,show eqV (V.str a.one) (V.str b.one)=decide (a.one=b.one) from rfl,Bool.and_true];exact Bool.and_true _
theorem Za7:ZX ["_law_row","_law_rows","_law_names","_law_name"] ["_law_row","_law_rows","_law_names"] (ZG ZbI):=⟨rfl,rfl,rfl,by decide+kernel,rfl,by decide+kernel,by decide+kernel⟩
theorem Zhe{f:Addr}{fd:FuncData}(F:Fun K "_law_sort_due" "_law_sort_due" ZbI f fd)(T:Txt K mg Zk Zi Zj Zb Zt Zr ZM Zw ZC Zx ZD Ze Zd Zf Zq ZF ZP):Yy P w K mg base CX0 1 f fd ["_law_row","_law_rows","_law_names"] Zbh:=by
 refine F.ok Za7 (fun vs H Q E h=> ?_) (fun cdv A outer s H vs Q E hr h=> ?_)
 ·obtain⟨d,R,N,w,ws,ns,rfl,_⟩:=h
  rfl
 ·obtain⟨d,R,N,w,ws,ns,rfl,hd,⟨es,hR,pw⟩,lw,hN,q⟩:=h;have l5:=Xd;have hu3:=ZnQ hr;have hd:H d=some (.tup w.vs):=hd;have le:=Paired.length pw;refine⟨_,(Zh (Yj (Zy (Zs8 hu3) (ZbA Zg7 (pv 0) Zec (Zc9 Zo)) (Jz ["_law_other"] [] rfl (Xc (pv 1)) (by rfl) (by exact trivial) (by rfl) (by exact trivial) (fun _ _ _ _=>(Yi (i:=0) (show(nmY ["_law_other"] []).Nodup by decide+kernel) rfl (Or.inl rfl))) (fun _ _ _ _=>Zd2) (fun _ _ _ _=>(ZbA (ZqY (K:=K) rfl) (pv 0) Zec (Zc9 Zo)))) rfl) (Zh (Yj (Zy Yu (ZV ZZ (pv 0) Zo (fun _ _=>rfl)) ZR (ZL _)) (Zu (ZJ ZR)) ZW) (Zu (Yj (Zy Yu (ZV ZZ (pv 0) Zo (fun _ _=>rfl)) ZR (ZL _)) (Zu (ZJ ZR)) ZW))) ZW) (Zh (ZK (i:=3) Za7.nd rfl (Or.inl rfl) Yv) (Zh (Yj (Zy ZaB (ZV ZZ (pv 0) Zo (fun _ _=>rfl)) (Yq (Za ZR (Za ZR Zm))) rfl) (Zu (ZK (i:=3) Za7.nd rfl (Or.inl rfl) (ZV ZZ (pv 0) Zo (fun _ _=>rfl)))) ZW) (Zh (Yj (PW.pt (Jx (Zy Yu (ZV ZZ (pv 0) Zo (fun _ _=>rfl)) ZR (ZL _)) (XH (Zy Yu (ZV ZZ (pv 0) Zo (fun _ _=>rfl)) ZR (ZL _))))) (Zu (ZK (i:=3) Za7.nd rfl (Or.inl rfl) (ZV ZZ (pv 0) Zo (fun _ _=>rfl)))) ZW) (Zu (ZJ (Zfi (PW.pt (Zn0 (Zy Zah (pv 3) Yv (ZL _)) (ZjJ (Zy ZaB (pv 3) (pv 2) rfl)))) Yv ZR))))))), ?_⟩
  refine⟨_,rfl,_,rfl,d,_,rfl,SqT.of hd,ZjE w,fun p1 hp1=> ?_⟩;have sa:=Zg hp1 (o:=.tup (ZeF w.vs none (some 2)));have hp1':Ze0 (upd H p1 (.tup (ZeF w.vs none (some 2)))) p1 w:=by
   show upd _ p1 _ p1=_;rw[Zc,Zqd]
  generalize upd H p1 (.tup (ZeF w.vs none (some 2)))=H1 at sa hp1'⊢
  have hR3:=sa _ _ hR;have pw3:=Yz sa pw;refine⟨_,rfl,R,rfl,⟨_,SqL.of hR3⟩,Zfq fun D hD=>⟨es.length,fun j ys H4=>∃es4:List Addr,ys=es4.map V.ref/\Paired (Ze0 H4) es4 (ws.take j)/\ZS H1 H4,by omega,⟨[],rfl,.nil,Zg hD⟩, ?_, ?_, ?_, ?_, ?_⟩⟩
  ·rintro j ys H4 ⟨es4,rfl,p4,_⟩;have:=Paired.length p4;have l4:=List.length_take_le j ws;rw[List.length_map];omega
  ·rintro j ys zs H4 H5 eD kp ⟨es4,rfl,p4,s4⟩;exact⟨es4,rfl,Ziz (fun c xs e=>kp c _ (Yt e eD (fun z=>nomatch z)) e) p4,fun c u e=>kp c u (Zn e hD) (s4 _ _ e)⟩
  ·rintro j ys H4 ⟨_,_,_,s4⟩ lt;exact⟨_,_,SqL.of (s4 _ _ hR3),List.getElem?_eq_getElem (by rw[List.length_map];exact lt)⟩
  ·rintro ys H4 ⟨es4,rfl,p4,s4⟩ hD4;refine⟨⟨_,SqL.of (s4 _ _ hR3),by rw[List.length_map];exact Nat.le_refl _⟩, ?_⟩
   refine⟨D,2,hdD w,_,_,rfl,by decide,SqL.of hD4,Zqe (s4 _ _ hp1'),Znw p4, ?_,_,rfl, ?_⟩
   ·intro e he;obtain⟨w',_,rfl⟩:=List.mem_map.mp he
    rfl
   rw[List.take_of_length_le (by omega)];have sA:=sa.trans s4;have hd4:=sA _ _ hd;have hN4:=sA _ _ hN;have cl:((ws.map hdD).any fun e=>XQ 2 e (hdD w))=ZbW ws w:=by
    unfold ZbW;rw[List.any_map]
    congr 1
    funext x
    exact Zsp x w
   show if((ws.map hdD).any fun e=>XQ 2 e (hdD w))=true then _ else _;rw[cl];refine(fun(rest:∀σ':L2.St,σ'=[some (.ref d),some (.ref R),some (.ref N),none]->¬(ZbW ws w=true/\w.word=Str.ofString "put")->¬(ZbW ws w=true/\w.word=Str.ofString "hold")->(_:L2.St->Hp->Prop) σ' H4)=>Xg (fun c=>ixT rfl (SqT.of hd4) (JB w) ⟨rfl,_,rfl,Xg (fun e=> ?put) (fun e=>ixT rfl (SqT.of hd4) (JB w) ⟨rfl,_,rfl,Xg (fun e2=> ?held) (fun e2=>rest _ rfl (fun z=>e (decide_eq_true (congrArg V.str z.2))) (fun z=>e2 (decide_eq_true (congrArg V.str z.2))))⟩)⟩) (fun c=>rest _ rfl (fun z=>c z.1) (fun z=>c z.1))) ?rest
   case put=>
    have e:w.word=Str.ofString "put":=by injection of_decide_eq_true e
    have z:=q H4 sA;unfold Zc8 at z
    rw[if_pos ⟨c,e⟩] at z
    exact z
   case held=>
    have e2:w.word=Str.ofString "hold":=by injection of_decide_eq_true e2
    have z:=q H4 sA;unfold Zc8 at z
    rw[if_neg (fun y=>absurd (e2.symm.trans y.2) (by decide+kernel)),if_pos ⟨c,e2⟩] at z
    exact z
   case rest=>
    rintro σ' rfl n1 n2;have rf:Zc8 ws ns w=if(YF w).all (fun n=>decide (n∈ns))=true then none else some .ser:=by
     unfold Zc8;rw[if_neg n1,if_neg n2]
    have one:∀{n:Str} {H5:Hp},YF w=[n]->ZS H H5->(n∈ns->Q .non H5)/\(n∉ns->Q (.str (Str.ofString "series")) H5):=fun{n H5} e s5=>by
     have z:=q H5 s5;rw[rf,e] at z
     refine⟨fun m=> ?_,fun m=> ?_⟩
     ·rw[if_pos (by rw[List.all_cons,decide_eq_true m];rfl)] at z
      exact z
     ·rw[if_neg (by rw[List.all_cons,decide_eq_false m];exact Bool.false_ne_true)] at z
      exact z
    have zero:∀{H5:Hp},YF w=[]->ZS H H5->Q .non H5:=fun{H5} e s5=>by
     have z:=q H5 s5;rw[rf,e] at z
     exact z
    refine(ixT rfl (SqT.of hd4) (JB w) ⟨show 2<=sizeLine from sl,fun t1 ht1=>⟨t1,_,rfl,.inl (SqL.of Zc),rfl,rfl,_,rfl, ?_⟩⟩);have s5:=sA.trans (Zg ht1 (o:=.lst [.str "put",.str "move"]));have h5:=Zg ht1 (o:=.lst [.str "put",.str "move"]) _ _ hd4;have hN5:=Zg ht1 (o:=.lst [.str "put",.str "move"]) _ _ hN4;generalize upd H4 t1 (.lst [.str "put",.str "move"])=H5 at s5 h5 hN5⊢
    show if inV (.str w.word) [.str "put",.str "move"]=true then _ else _;rw[show inV (.str w.word) [.str "put",.str "move"]=decide (w.word∈[Str.ofString "put",Str.ofString "move"]) from Zeu w.word [Str.ofString "put",Str.ofString "move"]];cases w with
    |put r s1 d1=>
     rw[show decide ((Rw.put r s1 d1).word∈[Str.ofString "put",Str.ofString "move"])=true from decide_eq_true (show Str.ofString "put"∈[Str.ofString "put",Str.ofString "move"] from List.mem_cons_self ..)];obtain⟨o1,o2⟩:=one rfl s5;refine Jq (ixT rfl (SqT.of h5) rfl (ixT rfl (SqT.of h5) rfl ⟨rfl,_,rfl,Xj (vne (by decide+kernel)) (Yw ⟨_,rfl,rfl,_,rfl,Xj (fun z=>nomatch z) ⟨_,rfl,_,rfl,N,_,rfl,.inl (SqL.of hN5),rfl,ZcQ _,_,rfl, ?_⟩⟩)⟩))
     show if inV (V.str s1) (ns.map V.str)=true then _ else _;rw[Zeu]
     by_cases m:s1∈ns
     ·rw[decide_eq_true m];exact Jq (o1 m)
     ·rw[decide_eq_false m];exact Yw (o2 m)
    |move r s1 d1=>
     rw[show decide ((Rw.move r s1 d1).word∈[Str.ofString "put",Str.ofString "move"])=true from decide_eq_true (show Str.ofString "move"∈[Str.ofString "put",Str.ofString "move"] from List.mem_cons_of_mem _ (List.mem_singleton_self _))];obtain⟨o1,o2⟩:=one rfl s5;refine Jq (ixT rfl (SqT.of h5) rfl (ixT rfl (SqT.of h5) rfl ⟨rfl,_,rfl,Xj (vne (by decide+kernel)) (Yw ⟨_,rfl,rfl,_,rfl,Xj (fun z=>nomatch z) ⟨_,rfl,_,rfl,N,_,rfl,.inl (SqL.of hN5),rfl,ZcQ _,_,rfl, ?_⟩⟩)⟩))
     show if inV (V.str s1) (ns.map V.str)=true then _ else _;rw[Zeu]
     by_cases m:s1∈ns
     ·rw[decide_eq_true m];exact Jq (o1 m)
     ·rw[decide_eq_false m];exact Yw (o2 m)
    |deed r s1 d1=>
     rw[show decide ((Rw.deed r s1 d1).word∈[Str.ofString "put",Str.ofString "move"])=false from decide_eq_false (show¬Str.ofString "deed"∈[Str.ofString "put",Str.ofString "move"] by decide+kernel)];exact Yw (ixT rfl (SqT.of h5) rfl ⟨rfl,_,rfl,Xj (vne (by decide+kernel)) (Yw ⟨_,rfl,rfl,_,rfl,Zam rfl (Jq (zero rfl s5))⟩)⟩)
    |lift r d1=>
     rw[show decide ((Rw.lift r d1).word∈[Str.ofString "put",Str.ofString "move"])=false from decide_eq_false (show¬Str.ofString "lift"∈[Str.ofString "put",Str.ofString "move"] by decide+kernel)];exact Yw (ixT rfl (SqT.of h5) rfl ⟨rfl,_,rfl,Xj (vne (by decide+kernel)) (Yw ⟨_,rfl,rfl,_,rfl,Zam rfl (Jq (zero rfl s5))⟩)⟩)
    |hold r c1 s1 d1=>
     rw[show decide ((Rw.hold r c1 s1 d1).word∈[Str.ofString "put",Str.ofString "move"])=false from decide_eq_false (show¬Str.ofString "hold"∈[Str.ofString "put",Str.ofString "move"] by decide+kernel)];cases c1 with
     |true=>exact Yw (ixT rfl (SqT.of h5) rfl ⟨rfl,_,rfl,Zam rfl (ixT rfl (SqT.of h5) rfl ⟨rfl,_,rfl,Xj (vne (by decide+kernel)) ⟨_,rfl,rfl,_,rfl,Zam rfl (Jq (zero rfl s5))⟩⟩)⟩)
     |false=>
     obtain⟨o1,o2⟩:=one rfl s5;refine Yw (ixT rfl (SqT.of h5) rfl ⟨rfl,_,rfl,Zam rfl (ixT rfl (SqT.of h5) rfl ⟨rfl,_,rfl,Zam rfl (ixT rfl (SqT.of h5) rfl ⟨_,rfl,rfl,_,rfl,Xj (fun z=>nomatch z) ⟨_,rfl,_,rfl,N,_,rfl,.inl (SqL.of hN5),rfl,ZcQ _,_,rfl, ?_⟩⟩)⟩)⟩);show if inV (V.str s1) (ns.map V.str)=true then _ else _;rw[Zeu]
     by_cases m:s1∈ns
     ·rw[decide_eq_true m];exact Jq (o1 m)
     ·rw[decide_eq_false m];exact Yw (o2 m)
  ·rintro j x ys H4 H5 ⟨es4,rfl,p4,s4⟩ hD4 lt ⟨rfl,yl⟩ RT RF rt rf;obtain⟨d1,rfl,ed⟩:=Jm (yl _ (SqL.of (s4 _ _ hR3)));obtain⟨w1,ew,row⟩:=YS (Yz s4 pw3) j d1 ed;have row:H5 d1=some (.tup w1.vs):=row;refine⟨trivial,Zla ⟨_,rfl,_,rfl,d1,_,rfl,SqT.of row,ZjE w1,fun p2 hp2=> ?_⟩⟩;refine rt _ _ (Zg hp2 _ _ hD4) ⟨es4++[p2],by rw[List.map_append];rfl, ?_,s4.trans (Zg hp2)⟩
   rw[List.take_add_one,ew];refine ZcV (Zix (Zg hp2) p4) ?_;show upd _ p2 _ p2=_;rw[Zc,Zqd]
theorem ZiC{α:Type}{p:α×α}:∀{l:List α},p∈l.zip l->p.1=p.2/\p.1∈l
 |x::l,h=>by
  obtain rfl|h2:=List.mem_cons.mp h
  ·exact And.intro rfl (List.mem_cons_self ..)
  ·obtain⟨a,b⟩:=ZiC h2;exact⟨a,List.mem_cons_of_mem _ b⟩
def ZgU(n:Nat)(d:Dt):Prop:=XQ n d d=true/\ZaR n d d=true
theorem Zqi{n:Nat}{x:V}(h:Xy x=true):ZgU n (.v x):=by
 cases n<;>exact⟨ZaS h,rfl⟩
theorem ZfT{n:Nat}{ds:List Dt}(h:∀d∈ds,ZgU n d):(ds.zip ds).all (fun p=>XQ n p.1 p.2)=true/\(ds.zip ds).all (fun p=>ZaR n p.1 p.2)=true:=
 ⟨List.all_eq_true.mpr fun p hp=>by obtain⟨a,b⟩:=ZiC hp;rw[<-a];exact(h _ b).1,List.all_eq_true.mpr fun p hp=>by obtain⟨a,b⟩:=ZiC hp;rw[<-a];exact(h _ b).2⟩
theorem ZlS{n:Nat}{ds:List Dt}(h:∀d∈ds,ZgU n d):ZgU (n+1) (.tup ds):=⟨by
 show((ds.zip ds).all (fun p=>XQ n p.1 p.2)&&ds.length==ds.length)=true;rw[(ZfT h).1,beq_self_eq_true]
 rfl,(ZfT h).2⟩
theorem ZlT{n:Nat}{ds:List Dt}(h:∀d∈ds,ZgU n d):ZgU (n+1) (.lst ds):=⟨by
 show(ds.length==ds.length&&(ds.zip ds).all (fun p=>XQ n p.1 p.2))=true;rw[(ZfT h).1,beq_self_eq_true]
 rfl,(ZfT h).2⟩
theorem Zrv{c A B:Prop} [Decidable c](hc:c)(h:B):if(!decide c)=true then A else B:=by
 rw[decide_eq_true hc];exact Yw h
def rwD(w:Rw):Dt:=.tup (w.vs.map Dt.v)
theorem Zny(w:Rw):∀x∈w.vs,Xy x=true:=by
 have:w.vs.all Xy=true:=by cases w<;>rfl
 exact List.all_eq_true.mp this
theorem Zqj{H:Hp}:∀xs:List V,(∀x∈xs,Xy x=true)->Zh3 K H (xs.map Dt.v) xs
 |[],_=> .nil
 |x::xs,h=> .cons (.flat (h x (List.mem_cons_self ..))) (Zqj xs fun y hy=>h y (List.mem_cons_of_mem _ hy))
theorem ZfU{H:Hp}:∀{ds:List Addr} {ws:List Rw},Paired (ZbP H) ds ws->Zh3 K H (ws.map rwD) (ds.map V.ref)
 |_,_,.nil=> .nil
 |_,_,.cons (b:=w) h t=> .cons (.tup (SqT.of h) (Zqj _ (Zny w))) (ZfU t)
theorem ZfV(ws:List Rw):ZgU 2 (.lst (ws.map rwD)):=ZlT fun d hd=>by
 obtain⟨w,_,rfl⟩:=List.mem_map.mp hd;refine ZlS fun d hd=> ?_;obtain⟨x,hx,rfl⟩:=List.mem_map.mp hd;exact Zqi (Zny w x hx)
def Zsq(x:Tri):Dt:=.tup [.v (.str x.1),.v (.int x.2.1),.v (.str x.2.2)]
theorem ZiD{H:Hp}:∀{zs:List Tri} {us:List V},Paired (ZiA H) zs us->Zh3 K H (zs.map Zsq) us
 |_,_,.nil=> .nil
 |_,_,.cons ⟨p,e,h⟩ t=> .cons (by rw[e];exact .tup (SqT.of h) (.cons (.flat rfl) (.cons (.flat rfl) (.cons (.flat rfl) .nil)))) (ZiD t)
theorem ZjF(zs:List Tri):ZgU 2 (.lst (zs.map Zsq)):=ZlT fun d hd=>by
 obtain⟨y,_,rfl⟩:=List.mem_map.mp hd;refine ZlS fun d hd=> ?_;simp only [List.mem_cons,List.mem_nil_iff,or_false] at hd
 rcases hd with rfl|rfl|rfl<;>exact Zqi rfl
theorem Zrd{zs ys:List Tri}(h:zs.Pairwise fun a b=>YL a.1 b.1=true)(k:ys.Pairwise fun a b=>YL a.1 b.1=true)(m:∀x,x∈zs↔x∈ys):zs=ys:=by
 have go:∀{l:List Tri},(l.Pairwise fun a b=>YL a.1 b.1=true)->M4.Asc Zjo l/\l.Nodup:=fun{l} h=>⟨h.imp (fun{a b} x=>by
  have ne:¬b.1=a.1:=fun z=>by rw[z,YM.irr] at x;cases x
  show(if b.1=a.1 then ZiQ ZbF YL b.2 a.2 else YL b.1 a.1)=false;rw[if_neg ne];cases e:YL b.1 a.1 with
  |false=>rfl
  |true=>have:=YM.tr _ _ _ x e;rw[YM.irr] at this;cases this),List.nodup_iff_pairwise_ne.mpr (h.imp fun{a b} x z=>by rw[z,YM.irr] at x;cases x)⟩
 exact M4.Zkb Zjp ((List.perm_ext_iff_of_nodup (go h).2 (go k).2).mpr m) (go h).1 (go k).1
theorem Za2.own{F:List Addr}{H H':Hp}(m:∀c u,c∉F->H c=some u->H' c=some u):Za2 F H F H':=⟨m,fun _ h=> .inl h,fun _ h=>h⟩
theorem Zqk{s:Hs}{rs:List Sr}{i:Nat}{xs:List Str}(ok:ZdW s)(ri:Zac rs i xs s.ws):s.gs.length<=i:=by
 have sub:∀r∈s.gs.map (·.1),r∈xs:=fun r hr=>by
  obtain⟨g,hg,rfl⟩:=List.mem_map.mp hr;obtain⟨w,hw⟩:=List.exists_mem_of_ne_nil _ (ok.own g hg);obtain⟨h1,h2⟩:=List.mem_filter.mp hw;rcases Zkt w with ⟨_,no⟩|⟨y,yes⟩
  ·rw[no] at h2;cases h2
  ·rw[yes] at h2
   rw[<-of_decide_eq_true h2];exact ri.few w h1 y
 have:=ok.one.length_le_of_subset sub;rw[List.length_map] at this
 exact Nat.le_trans this ri.nl
theorem Zre{s:Hs}{w:Rw}{i:Nat}{xs:List Str}(ok:ZdW s)(ri:Zac s.rs i xs (s.ws++[w]))(hi:i<=63):ZdW {s with ws:=s.ws++[w]}:=⟨ok.bk,ok.lr,ri.of hi,by have:=ri.len;show(s.ws++[w]).length<=400;omega,ok.one,fun g hg z=>by
 have z:YQ (s.ws++[w]) g.1=[]:=z;rw[ZaZ] at z
 exact ok.own g hg (List.append_eq_nil_iff.mp z).1⟩
theorem ZlU(s:Hs)(day:Int)(zs:List Str):(Ziv s day zs).gs.map (·.1)=s.gs.map (·.1)++zs:=by
 show(s.gs++zs.map fun r=>(r,((s.runs.length+1:Nat):Int),day)).map (·.1)=_;rw[List.map_append,List.map_map]
 congr 1
 exact(List.map_congr_left fun _ _=>rfl).trans (List.map_id _)
theorem Zow(s:Hs)(day:Int)(zs:List Str):(Ziv s day zs).wd.map (·.1)=s.wd.map (·.1)++zs:=by
 show(s.wd++zs.map fun r=>(r,Str.ofString "due")).map (·.1)=_;rw[List.map_append,List.map_map]
 congr 1
 exact(List.map_congr_left fun _ _=>rfl).trans (List.map_id _)
theorem Zsr{s:Hs}{day:Int}{zs:List Str}(ok:ZdW s)(nd:zs.Nodup)(iff:∀r,r∈zs↔r∉s.gs.map (·.1)/\ZcB s day r):ZdW (Ziv s day zs):=by
 refine⟨ok.bk,ok.lr,ok.rows,ok.few, ?_,fun g hg=> ?_⟩
 ·rw[ZlU];exact List.nodup_append.mpr ⟨ok.one,nd,fun a ha b hb e=>((iff b).mp hb).1 (e▸ha)⟩
 ·rcases List.mem_append.mp (show g∈s.gs++zs.map fun r=>(r,((s.runs.length+1:Nat):Int),day) from hg) with h|h
  ·exact ok.own g h
  ·obtain⟨r,hr,rfl⟩:=List.mem_map.mp h;exact ZkL ((iff r).mp hr).2
theorem Zox{s:Hs}{day:Int}{zs:List Str}(wo:ZcS s)(iff:∀r,r∈zs↔r∉s.gs.map (·.1)/\ZcB s day r):ZcS (Ziv s day zs):=by
 refine⟨by rw[ZlU,Zow,wo.keys],fun f hf=> ?_⟩;rcases List.mem_append.mp (show f∈s.wd++zs.map fun r=>(r,Str.ofString "due") from hf) with h|h
 ·obtain⟨n,d,hg,wi⟩:=wo.ok f h;exact⟨n,d,List.mem_append_left _ hg,wi⟩
 ·obtain⟨r,hr,rfl⟩:=List.mem_map.mp h;obtain⟨j,is,e⟩:=((iff r).mp hr).2;exact⟨_,day,List.mem_append_right _ (List.mem_map.mpr ⟨r,hr,rfl⟩),e▸is.word⟩
theorem Zql{s:Hs}{rs:List Sr}{i:Nat}{xs:List Str}(ok:ZdW s)(wo:ZcS s)(ri:Zac rs i xs s.ws):s.wd.length<=i:=by
 have:=congrArg List.length wo.keys;rw[List.length_map,List.length_map] at this
 rw[this];exact Zqk ok ri
theorem Zss(ns:List Int):∃ms:List Int,ZeF (ns.map V.int) (some 2) (some 34)=ms.map V.int/\ms.length<=32:=by
 refine⟨(ns.drop (HT.sIx ns.length 0 (some 2))).take (HT.sIx ns.length ns.length (some 34)-HT.sIx ns.length 0 (some 2)), ?_, ?_⟩
 ·unfold ZeF;rw[List.length_map,List.map_take,List.map_drop]
 ·rw[List.length_take,show(34:Int)=((34:Nat):Int) from rfl,show(2:Int)=((2:Nat):Int) from rfl,HT.Zn6,HT.Zn6];omega
structure Lq (cn ca cl ce C x R:Addr) (s:Hs) (F:List Addr) (xs:List Str) (i:Nat) (last:Int) (H:Hp):Prop where
 ho:Yh cn ca cl ce C H x s F
 rw_:Xb H R s.ws
 ok:ZdW s
 wo:ZcS s
 ri:Zac s.rs i xs s.ws
 dy:∀d,s.runs.getLast? =some d↔(s.runs≠[]/\d=last)
 z0:s.runs=[]->last=0
 rl:s.runs.length<=i
 oR:R∉F
theorem Lq.same{cn ca cl ce C x R:Addr}{s:Hs}{F:List Addr}{xs:List Str}{i:Nat}{last:Int}{H H':Hp}(h:Lq cn ca cl ce C x R s F xs i last H)(sm:ZS H H'):Lq cn ca cl ce C x R s F xs i last H':=⟨h.ho.same sm,Yl sm h.rw_,h.ok,h.wo,h.ri,h.dy,h.z0,h.rl,h.oR⟩
theorem Zoy{ws:List Rw}{ns:List Str}{w:Rw}(e:Zc8 ws ns w=none):∀a∈ws,¬ZpM a w:=fun a ha ⟨h,h1,h2⟩=>by
 have c:ZbW ws w=true:=List.any_eq_true.mpr ⟨a,ha,by rw[decide_eq_true h1,decide_eq_true h2];rfl⟩
 unfold Zc8 at e
 rcases h with h|h
 ·rw[if_pos ⟨c,h⟩] at e
  cases e
 ·rw[if_neg (fun z=>absurd (h.symm.trans z.2) (by decide+kernel)),if_pos ⟨c,h⟩] at e
  cases e
inductive Cd (s:Hs) (w:Rw) (d:Addr) (last:Int):V->Option Str->Prop
 |back:w.day<last->Cd s w d last .non (some (Str.ofString "back"))
 |ran:last<=w.day->Cd s w d last .non none
 |told:Cd s w d last (.ref d) ((Zc8 s.ws (s.rs.map Sr.nm) w).map rfW)
inductive Af (s s':Hs) (xs:List Str) (i:Nat) (w:Rw) (d:Addr):V->Prop
 |ran:s'.rs=s.rs->s'.ws=s.ws->s'.runs=s.runs++[w.day]->Af s s' xs i w d .non
 |told:s'.rs=s.rs->s'.ws=s.ws++[w]->s'.runs=s.runs->Zac s.rs (i+1) (xs++[w.one]) (s.ws++[w])->Af s s' xs i w d (.ref d)
theorem ZjG{cn ca cl ce C x R:Addr}{s:Hs}{F:List Addr}{xs:List Str}{i:Nat}{last:Int}{H:Hp}{w:Rw}{d:Addr}{v:V}{o:Option Str}{Q:VK}{E:XK}(lq:Lq cn ca cl ce C x R s F xs i last H)(hi:i<40)(hd:H d=some (.tup w.vs))(l1:w.one.length<=12)(l2:∀n∈YF w,n.length<=12)(d0:0<=w.day)(cd:Cd s w d last v o)
  (q1:∀f,o=some f->∀H',ZS H H'->Q (.str f) H')(q2:o=none->∀H' s' F',Za2 F H F' H'->Yh cn ca cl ce C H' x s' F'->ZdW s'->ZcS s'->Af s s' xs i w d v->Q .non H'):Zcl cn ca cl ce C [.ref x,v,.int w.day] H Q E:=by
 have lg:=Zqk lq.ok lq.ri;have ll:=lq.ri.len;have lr:=lq.rl;refine⟨x,v,w.day,s,F,rfl,lq.ho,lq.ok,lq.wo,lq.ri.recs (by omega),by omega,by omega,by omega, ?_⟩;have run:(w.day<last->∀H',ZS H H'->Q (.str (Str.ofString "back")) H')->(last<=w.day->∀H' s' F',Za2 F H F' H'->Yh cn ca cl ce C H' x s' F'->ZdW s'->ZcS s'->Af s s' xs i w d .non->Q .non H')->((∃d,s.runs.getLast? =some d/\w.day<d)->∀H',ZS H H'->Q (.str (Str.ofString "back")) H')/\
  ((∀d,s.runs.getLast? =some d->d<=w.day)->∀zs H',ZeT F H H'->Yh cn ca cl ce C H' x (Ziv s w.day zs) F->zs.Pairwise (fun a b=>YL a b=true)->(∀r,r∈zs↔r∉s.gs.map (·.1)/\ZcB s w.day r)->Q .non H'):=fun a b=>by
  refine⟨fun⟨e,h1,h2⟩=>a (by rw[<-((lq.dy e).mp h1).2];exact h2),fun h zs H' kp hA st iff=>b ?_ H' _ F (Za2.own kp) hA (Zsr lq.ok (ZkO st) iff) (Zox lq.wo iff) (.ran rfl rfl rfl)⟩
  by_cases z:s.runs=[]
  ·rw[lq.z0 z];exact d0
  ·exact h last ((lq.dy last).mpr ⟨z,rfl⟩)
 cases cd with
 |back lt=>exact .inl ⟨rfl,run (fun _=>q1 _ rfl) (fun le=>by omega)⟩
 |ran le=>exact .inl ⟨rfl,run (fun lt=>by omega) (fun _=>q2 rfl)⟩
 |told=>
  refine .inr ⟨d,w,rfl,hd,by omega,(fun n hn=>by have:=l2 n hn;omega),(fun f e H' sm=>q1 _ (by rw[e];rfl) H' sm),fun e=> ?_⟩
  have ri2:=lq.ri.more (Zom e).ser (Zoy e);have z:=Zre lq.ok ri2 (by omega);exact⟨z,fun wd H' F' kp sub sup hA wo=>q2 (by rw[e];rfl) H' _ F' ⟨kp,sub,sup⟩ hA ⟨z.bk,z.lr,z.rows,z.few,z.one,z.own⟩ wo (.told rfl rfl rfl ri2)⟩
theorem Za2.one{F F':List Addr}{H H':Hp}(R:Addr)(x:Za2 F H F' H'):Za2 (R::F) H (R::F') H':=by
 refine⟨fun c u m e=>x.1 c u (fun z=>m (List.mem_cons_of_mem _ z)) e,fun b hb=> ?_,fun b hb=> ?_⟩
 ·rcases List.mem_cons.mp hb with rfl|hb
  ·exact .inl (List.mem_cons_self ..)
  ·exact(x.2.1 b hb).imp (fun z=>List.mem_cons_of_mem _ z) id
 ·rcases List.mem_cons.mp hb with rfl|hb
  ·exact List.mem_cons_self ..
  ·exact List.mem_cons_of_mem _ (x.2.2 b hb)
theorem ZjH{a b:TS}{D:Zfg}{σ:L2.St}{H:Hp}(h:∀B:L2.St->Hp->Prop,(∀σ' H',b D σ' H'->B σ' H')->ZnD a (fun _=>B) D σ H):ZnD a b D σ H:=h (b D) fun _ _ x=>x
def ZmY(H:Hp)(T:Addr)(s:Hs):Prop:=∃(L1 L2 L3:Addr) (kg:List (Key×V)) (us:List V) (zs:List Tri),H T=some (.tup [.ref L1,.ref L2,.ref L3])/\Xb H L1 s.ws/\H L2=some (.dK kg)/\Paired (ZfE H) s.gs kg/\H L3=some (.lst us)/\Paired (ZiA H) zs us/\zs.Pairwise (fun a b=>YL a.1 b.1=true)/\∀x,x∈zs↔Zru s x
theorem ZmY.same{H H':Hp}{T:Addr}{s:Hs}(sm:ZS H H'):ZmY H T s->ZmY H' T s
 |⟨L1,L2,L3,kg,us,zs,h,h1,h2,p2,h3,p3,st,m⟩=>⟨L1,L2,L3,kg,us,zs,sm _ _ h,Yl sm h1,sm _ _ h2,Je (fun b xs e=>sm _ _ e) p2,sm _ _ h3,Za3 (fun b xs e=>sm _ _ e) p3,st,m⟩
theorem Zst{H:Hp}{T U:Addr}{s:Hs}{Q:VK}(ok:ZdW s)(h:ZmY H T s)(k:ZmY H U s)(q:Q (.bl false) H):Zt7 K (.ref T) (.ref U) H Q:=by
 obtain⟨L1,L2,L3,kg,us,zs,h,⟨e1,h1,q1⟩,h2,p2,h3,p3,st,m⟩:=h;obtain⟨M1,M2,M3,kg',us',zs',k,⟨f1,k1,r1⟩,k2,s2,k3,s3,st',m'⟩:=k;obtain rfl:zs=zs':=Zrd st st' fun x=>(m x).trans (m' x).symm;have g2:=Zsn (K:=K) ok.one p2 s2;exact⟨T,U,L1,M1,L2,M2,L3,M3,2,2,.lst (s.ws.map rwD),.lst (zs.map Zsq),kg,kg',rfl,rfl,SqT.of h,SqT.of k,by decide,by decide,.lst (SqL.of h1) (ZfU q1),.lst (SqL.of k1) (ZfU r1),(ZfV s.ws).2,(ZfV s.ws).1,.inl h2,.inl k2,g2.1,g2.2,.lst (SqL.of h3) (ZiD p3),.lst (SqL.of k3) (ZiD s3),(ZjF zs).2,(ZjF zs).1,q⟩
theorem Zad:ZX ["_law_script","_law_names_by","_law_book","_law_house","_law_rows","_law_last","_law_cell","_law_row","_law_day","_law_due","_law_state","_law_k"] ["_law_script"] (ZG Zfx):=⟨rfl,rfl,rfl,by decide+kernel,rfl,by decide+kernel,by decide+kernel⟩
theorem Zsu{f:Addr}{fd:FuncData}(F:Fun K "law" "law" Zfx f fd)(T:Txt K mg Zk Zi Zj Zb Zt Zr ZM Zw ZC Zx ZD Ze Zd Zf Zq ZF ZP)(ZkS:Zk3 P w K mg base CX0 1 "House" Zt ["self","book"] (Zcy Zt))(ZcC:Cal P w K mg base CX0 3 "_law_book_by" ["_law_script","_law_names_by"] (ZbR K))(Jj:Cal P w K mg base CX0 1 "_law_cell_at" ["_law_script","_law_k"] (Zao K))(Yk:Cal P w K mg base CX0 1 "_law_name_by" ["_law_cell","_law_k"] Xz)(ZgD:Cal P w K mg base CX0 1 "_law_odd" ["_law_row","_law_cell","_law_name"] Zf7)(Zdr:Cal P w K mg base CX0 3 "_law_row_by" ["_law_cell","_law_names_by","_law_far","_law_book"] Zcz)(Zc1:Cal P w K mg base CX0 1 "_law_sort_due" ["_law_row","_law_rows","_law_names"] Zbh)(Ze2:Cal P w K mg base CX0 17 "_law_terms" ["_law_book"] (Zdg Zk Zi Zj Zb))(Zf8:Cal P w K mg base CX0 41 "_law_told" ["_law_house","_law_row","_law_day"] (Zcl Zk Zi Zj Zb Zt))(ZkT:Zag P w K mg base CX0 13 "gone" ["self"] (Zho Zk Zi Zj Zb 12) (fun C=>C=Zt))(Zex:Zag P w K mg base CX0 13 "regrets" ["self"] (Zdp Zk Zi Zj Zb 12) (fun C=>C=Zt))(ZiE:Zag P w K mg base CX0 13 "rows" ["self"] (Zhn Zk Zi Zj Zb 12) (fun C=>C=Zt)):Yy P w K mg base CX0 42 f fd ["_law_script"] (ZoZ K):=by
 refine F.ok Zad (fun vs H Q E h=> ?_) (fun cdv A outer s H vs Q E hr h=> ?_)
 ·obtain⟨a,ns,rfl,_⟩:=h
  rfl
 ·obtain⟨a,ns,rfl,hS,hlen,_,fin⟩:=h;have l5:=Xd;have hu:=ZbC hr;have hu3:=ZnQ hr;refine⟨_,(Zh (ZK (i:=1) Zad.nd rfl (Or.inl rfl) (Ym Jj (hr.mono (by omega)) rfl Yc (Za (pv 0) (Za Zo Zm)))) (Zh (ZK (i:=2) Zad.nd rfl (Or.inl rfl) (Ym ZcC (hr.mono (by omega)) rfl Yc (Za (pv 0) (Za (pv 1) Zm)))) (Zh (ZK (i:=3) Zad.nd rfl (Or.inl rfl) (Zk4 ZkS (hr.mono (by omega)) rfl Yc (Za (Ym Ze2 (hr.mono (by omega)) rfl Yc (Za (pv 2) Zm)) Zm))) (Zh (ZK (i:=4) Zad.nd rfl (Or.inl rfl) (Yq Zm)) (Zh (ZK (i:=5) Zad.nd rfl (Or.inl rfl) Zo) (Zh (JV PassesOwn.never rfl (Xc (ZbA Zqy (pv 0) (Zc9 Zo) (Zc9 Zo))) (Yi (i:=6) Zad.nd rfl (Or.inl rfl)) (Zh (ZK (i:=7) Zad.nd rfl (Or.inl rfl) (Ym ZgD (hr.mono (by omega)) rfl Yc (Za (Ym Zdr (hr.mono (by omega)) rfl Yc (Za (pv 6) (Za (pv 1) (Za Zo (Za (pv 2) Zm))))) (Za (Yb ZhC (by rfl) T.z_abs Zmi (Za (pv 6) Zm)) (Za (Ym Yk (hr.mono (by omega)) rfl Yc (Za (pv 1) (Za Zo Zm))) Zm))))) (Zh (ZK (i:=8) Zad.nd rfl (Or.inl rfl) (ZV ZZ (pv 7) (ZoG Zm0 Zo) (fun _ _=>rfl))) (Zh (ZK (i:=9) Zad.nd rfl (Or.inl rfl) (Ym Zc1 (hr.mono (by omega)) rfl Yc (Za (pv 7) (Za (pv 4) (Za (Jz ["_law_one"] [] rfl (Xc (pv 2)) (by rfl) (by exact trivial) (by rfl) (by exact trivial) (fun _ _ _ _=>(Yi (i:=0) (show(nmY ["_law_one"] []).Nodup by decide+kernel) rfl (Or.inl rfl))) (fun _ _ _ _=>Zd2) (fun _ _ _ _=>(ZV (XJ (K:=K) rfl) (pv 0) Zo (fun _ _=>rfl)))) Zm))))) (Zh (Yj (Zy Yu (ZQ Yo (Yb ZhC (by rfl) T.z_abs Zmi (Za (pv 6) Zm)) Zo) Zo (ZL _)) (Zh (ZK (i:=9) Zad.nd rfl (Or.inl rfl) (Zfi (Zy Zfk (pv 8) (pv 5) (ZL _)) ZR Yv)) (Zu (ZK (i:=7) Zad.nd rfl (Or.inl rfl) Yv))) ZW) (Zh (ZK (i:=10) Zad.nd rfl (Or.inl rfl) (YX (Za (Za6 (pv 3) ZiE (hr.mono (by omega)) Yc) (Za (Za6 (pv 3) ZkT (hr.mono (by omega)) Yc) (Za (Za6 (pv 3) Zex (hr.mono (by omega)) Yc) Zm))))) (Zh (JV PassesOwn.never rfl (ZcH rfl T.z_range (Za (ZQ Jy Zo (JQ ZcJ (by rfl) T.z_int ZhK (Za (Za5 Zhg (pv 9) Yv (ZL _)) Zm))) Zm)) (Yi (i:=11) Zad.nd rfl (Or.inl rfl)) (Zh (Yj (Zy ZoJ (Ym Zf8 (hr.mono (by omega)) rfl Yc (Za (pv 3) (Za (pv 7) (Za (pv 8) Zm)))) (pv 9) (ZL _)) (Zu (ZJ Zfh)) ZW) (Zu (Yj (PW.pt (Jx (Zy Zhg (pv 9) Yv (ZL _)) (XH (Zy (Zsf hu3) (YX (Za (Za6 (pv 3) ZiE (hr.mono (by omega)) Yc) (Za (Za6 (pv 3) ZkT (hr.mono (by omega)) Yc) (Za (Za6 (pv 3) Zex (hr.mono (by omega)) Yc) Zm)))) (pv 10) (ZL _))))) (Zu (ZJ Zfh)) ZW)))) (Zu (Yj (PW.pt (Jx (Zy Zah (pv 9) Yv (ZL _)) (XH (Zy Zah (pv 7) Yv (ZL _))))) (Zu (ZK (i:=5) Zad.nd rfl (Or.inl rfl) (pv 8))) (Zu (Yj (Zy Zah (pv 9) Yv (ZL _)) (Zu (Xv (Zaj PySem.F.plainAttrs_list PySem.F.slot_list_append PySem.F.type_list_append Xa (pv 4) (Za (pv 7) Zm)))) ZW))))))))))) (Zu (ZJ (Za5 (ZrU hu3) (Za6 (pv 3) ZiE (hr.mono (by omega)) Yc) (pv 4) (ZL _)))))))))), ?_⟩
  obtain⟨ms,em,lm⟩:=Zss ns;refine ZiB fun B_ hB=> ?_;refine⟨_,rfl,a,ns,0,rfl,hS,fun H0 s0=> ?_⟩;refine hB _ _ ?_;generalize ns[0]?.getD 0=n0;refine ZiB fun B_ hB=> ?_;refine⟨_,rfl,_,rfl,a,ns,n0,rfl,s0.seq hS,fun p rs H2 hp2 s2 ⟨bs,hb,pb⟩ bk lo hi=> ?_⟩;refine hB _ _ ?_;refine ZiB fun B_ hB=> ?_;refine⟨_,rfl,p,rs,rfl,⟨bs,hb,pb⟩,hi,Zep bk,fun S H6 hS6 s6 ⟨cs,hc,pc⟩=> ?_⟩;have hb6:=s6 _ _ hb;have pb6:=ZbZ s6 pb
  have hS6':=((s0.trans s2).trans s6).seq hS;refine(fun x dx hx hdx _=> ?_);have hcS:upd (upd H6 dx (.own x)) x (.ins Zt dx []) S=some (.lst (cs.map V.ref)):=by rw[Zv (Zn hc hx),Zv (Zn hc hdx)];exact hc
  refine⟨x,dx,S,_,rfl,Zc,hcS,fun b t o h r k w HC nd fr kp hxA hbA htA hoA hhA hrA hkA hwA=>⟨rfl, ?_⟩⟩;have sA:ZS H6 HC:=fun c u e=>kp c u (Zn e hx) (by rw[Zv (Zn e hx),Zv (Zn e hdx)];exact e)
  have hA0:Yh Zk Zi Zj Zb Zt HC x ⟨rs,[],[],[],[]⟩ [t,o,h,r,k,w]:=Zov (b:=b) (dx:=dx) nd hxA ⟨cs,hbA,Zer sA pc⟩ htA hoA hhA hrA hkA hwA;have off0:∀c u,H6 c=some u->c∉[t,o,h,r,k,w]:=fun c u e m=>by
   have:=fr c (List.mem_cons_of_mem _ m);rw[Zv (Zn e hx),Zv (Zn e hdx),e] at this
   cases this
  refine hB _ _ ?_;generalize [t,o,h,r,k,w]=F0 at hA0 off0
  have op_:=off0 _ _ hb6;have hpC:=sA _ _ hb6;have pbC:=ZbZ sA pb6;have hSC:=sA.seq hS6';clear kp fr hxA hbA htA hoA hhA hrA hkA hwA hcS nd off0 sA hS6' hb6 pb6 hc pc hx hdx;refine ZiB fun B_ hB=> ?_;refine⟨Nat.zero_le _,fun R hR=> ?_⟩;have sR:=Zg hR (o:=.lst []);have hR1:upd HC R (.lst []) R=some (.lst []):=Zc;refine hB _ _ ?_;generalize upd HC R (.lst [])=HD at sR hR1
  refine ZiB fun B_ hB=> ?_;refine hB _ _ ?_;refine ZiB fun B_ hB=> ?_;refine⟨_,rfl,_,rfl,_,rfl,a,_,rfl,sR.seq hSC,fun Pc hP=> ?_⟩;have s4:=Zg hP (o:=.lst (ZeF (ns.map V.int) (some 2) (some 34)));have hPc:upd HD Pc (.lst (ZeF (ns.map V.int) (some 2) (some 34))) Pc=some (.lst (ms.map V.int)):=by rw[Zc,em]
  generalize upd HD Pc (.lst (ZeF (ns.map V.int) (some 2) (some 34)))=HL at s4 hPc
  have sCL:=sR.trans s4;have hRL:=s4 _ _ hR1;have hAL0:=hA0.same sCL;have oRF:R∉F0:=hA0.off hR;have oP:Pc∉R::F0:=fun z=>by
   rcases List.mem_cons.mp z with z|z
   ·exact(Zn hR1 hP) z.symm
   ·exact(hA0.same sR).off hP z
  have opL:p∉R::F0:=fun z=>by
   rcases List.mem_cons.mp z with z|z
   ·exact Zn hpC hR z
   ·exact op_ z
  have hpL:=sCL _ _ hpC;have pbL:=ZbZ sCL pbC;have lbk:∀{F:List Addr} {H:Hp},Za2 (R::F0) HL (R::F) H->LBk H p rs:=fun{F H} g=>⟨bs,g.at opL hpL,ZaL (fun c ys e=>g.at (fun z=>by
   rcases List.mem_cons.mp z with z|z
   ·exact Yt e hRL (fun z=>nomatch z) z
   ·exact hAL0.tup e z) e) pbL⟩
  have kpC:∀{F:List Addr} {H:Hp},Za2 (R::F0) HL (R::F) H->ZeT F0 HC H:=fun g c u m e=>g.1 c u (fun z=>by
   rcases List.mem_cons.mp z with z|z
   ·exact Zn e hR z
   ·exact m z) (sCL _ _ e)
  have lq0:Lq Zk Zi Zj Zb Zt x R ⟨rs,[],[],[],[]⟩ F0 [] 0 0 HL:=⟨hAL0,⟨[],hRL,.nil⟩,⟨bk,by show rs.length<=63;omega,⟨Nat.zero_le _,(by show 0<64;decide),(fun r y z=>nomatch z)⟩,Nat.zero_le _,.nil,(fun g hg=>nomatch hg)⟩,⟨rfl,(fun f hf=>nomatch hf)⟩,⟨Nat.zero_le _,Nat.zero_le _,(fun w hw=>nomatch hw),.nil,Nat.zero_le _,(fun w hw=>nomatch hw)⟩,(fun d=>⟨(fun z=>nomatch z),fun z=>absurd rfl z.1⟩),(fun _=>rfl),Nat.le_refl _,oRF⟩
  refine⟨Pc,rfl,⟨_,SqL.of hPc⟩,JD (xs:=ms.map V.int) (fun i σ H'=>∃(s:Hs) (F:List Addr) (xs:List Str) (last:Int) (v6 v7 v8 v9 v10 v11:Option V),σ=[some (.ref a),some (.int n0),some (.ref p),some (.ref x),some (.ref R),some (.int last),v6,v7,v8,v9,v10,v11]/\s.rs=rs/\Lq Zk Zi Zj Zb Zt x R s F xs i last H'/\Za2 (R::F0) HL (R::F) H') ?_ ?_ ?_ ?_⟩
  ·exact⟨_,F0,[],0,none,none,none,none,none,none,rfl,rfl,lq0,Za2.refl _ _⟩
  ·rintro i σ H4 _ ⟨s,F,xs,last,v6,v7,v8,v9,v10,v11,rfl,_,_,gr⟩;exact SqL.of (gr.at oP hPc)
  ·rintro i y σ H4 hy ⟨s,F,xs,last,v6,v7,v8,v9,v10,v11,rfl,ers,lq,gr⟩;obtain⟨c,rfl⟩:∃c,y=V.int c:=by
    rw[List.getElem?_map] at hy
    cases q:ms[i]? with
    |none=>rw[q] at hy;cases hy
    |some c=>rw[q] at hy;cases hy;exact⟨c,rfl⟩
   refine ZiB fun B_ hB=> ?_;refine⟨_,rfl,_,rfl,_,rfl,c,n0,0,p,rs,rfl,lbk gr,lo,hi,fun w0 d0 H5 s5 hd0 spw lw0 wd0=> ?_⟩;refine⟨_,rfl,_,rfl,_,rfl,n0,11,rfl,fun H6 s6=> ?_⟩;refine⟨d0,w0,_,_,rfl,s6 _ _ hd0,fun w d H7 s7 hd e1 ed nmd=> ?_⟩;refine hB _ _ ?_;have s57:=s5.trans (s6.trans s7);have hd:H7 d=some (.tup w.vs):=hd;have lq7:=lq.same s57;have gr7:=gr.trans (Za2.same s57);refine ZiB fun B_ hB=> ?_
   refine⟨_,rfl,_,rfl,d,_,_,.int w.day,rfl,rfl,SqT.of hd,Znk w,hB _ _ ?_⟩;obtain⟨bs7,hp7,pb7⟩:=lbk gr7;have lbs:=Paired.length pb7;have lri:=lq7.ri.len;refine ZiB fun B_ hB=> ?_;refine⟨_,rfl,_,rfl,_,rfl,p,rfl,⟨_,SqL.of hp7⟩,Jk bs7.length (fun j=>[((rs[j]?).map fun r=>V.str r.nm).getD .non]) (by omega) (fun j=>Nat.le_refl 1) (fun j H8 s8 lt=>⟨_,_,SqL.of (s8 _ _ hp7),List.getElem?_eq_getElem (by rw[List.length_map];exact lt)⟩) (fun H8 s8=>⟨_,SqL.of (s8 _ _ hp7),by rw[List.length_map];exact Nat.le_refl _⟩) (fun j y H8 H9 s8 lt yl RT RF rt rf=> ?_) fun N H8 hN s8 d8=> ?_⟩
   ·obtain⟨rfl,yl⟩:=yl;obtain⟨dd,rfl,ed⟩:=Jm (yl _ (SqL.of (s8 _ _ hp7)));obtain⟨r1,er,v,row,_⟩:=YS (ZbZ s8 pb7) j dd ed;rw[er] at rt
    exact⟨trivial,Zla (ixT rfl (SqT.of row) rfl (rt _ _ rfl (ZS.refl _)))⟩
   have e8:(List.range bs7.length).flatMap (fun j=>[((rs[j]?).map fun r=>V.str r.nm).getD .non])=(rs.map Sr.nm).map V.str:=by
    rw[JG,lbs,Zeg rs (fun r=>V.str r.nm) .non,List.map_map]
    rfl
   rw[e8] at d8
   have hi2:i<ms.length:=by
    have:=(List.getElem?_eq_some_iff.mp hy).1
    rwa [List.length_map] at this
   refine⟨d,R,N,w,s.ws,rs.map Sr.nm,rfl,s8 _ _ hd,Yl s8 lq7.rw_,by omega,d8,fun H9 s9=> ?_⟩;refine hB _ _ ?_;have s79:=s8.trans s9;have hd9:=s79 _ _ hd;replace lq:=lq7.same s79;replace gr:=gr7.trans (Za2.same s79);clear lq7 gr7 d8 hp7 pb7 s57 s79 s8 s9;have l1:w.one.length<=12:=by rw[e1];exact lw0
   have l2:∀n∈YF w,n.length<=12:=fun n hn=>by
    rcases nmd n hn with h|h
    ·obtain⟨r,hr,e⟩:=List.mem_map.mp (spw n h);rw[<-e];exact(Zep bk r hr).nm.2.1
    ·rw[h];exact(ZbM _ _).2.1
   have d0':0<=w.day:=by rw[ed];exact wd0 (Int.le_refl 0)
   have hi40:i<40:=by omega
   subst ers;refine ZjH fun B_ hB=> ?_;have rest:∀(v:V) (o:Option Str),Cd s w d last v o->B_ [some (.ref a),some (.int n0),some (.ref p),some (.ref x),some (.ref R),some (.int last),some (.int c),some v,some (.int w.day),some (oS o),v10,v11] H9:=by
    intro v o cd;refine hB _ _ ?_;refine ZjH fun B_ hB=> ?_;obtain⟨dx',b',t',o',h',r',k',w',ha,_⟩:=lq.ho.ins;have lw64:=Zql lq.ok lq.wo lq.ri;refine⟨_,rfl,x,_,dx',_,rfl,ha,rfl,Zcj (by decide+kernel),x,s,F,rfl,by decide,lq.ho,fun L1 Ha hL1 sa rw1=> ?_⟩;have lqa:=lq.same sa;refine⟨_,rfl,x,_,dx',_,rfl,sa _ _ ha,rfl,Zcj (by decide+kernel),x,s,F,rfl,by decide,lqa.ho,fun L2 kg Hb hL2 sb hg pg=> ?_⟩;have lqb:=lqa.same sb
    refine⟨_,rfl,x,_,dx',_,rfl,sb _ _ (sa _ _ ha),rfl,Zcj (by decide+kernel),x,s,F,rfl,by decide,lqb.ho,lqb.wo.keys,lqb.ok.one,by omega,fun L3 us zs Hc hL3 sc hl3 pz st iffz=> ?_⟩;refine⟨show 3<=sizeLine from sl,fun T hT=> ?_⟩;have sd:=Zg hT (o:=.tup [.ref L1,.ref L2,.ref L3]);have stT:ZmY (upd Hc T (.tup [.ref L1,.ref L2,.ref L3])) T s:=⟨L1,L2,L3,kg,us,zs,Zc,Yl (sb.trans (sc.trans sd)) rw1,sd _ _ (sc _ _ hg),Je (fun b xs e=>sd _ _ (sc _ _ e)) pg,sd _ _ hl3,Za3 (fun b xs e=>sd _ _ e) pz,st,iffz⟩
    refine hB _ _ ?_;have s9d:=sa.trans (sb.trans (sc.trans sd));generalize upd Hc T (.tup [.ref L1,.ref L2,.ref L3])=Hd at stT s9d
    have lqd:=lq.same s9d;have grd:=gr.trans (Za2.same s9d);have hdd:=s9d _ _ hd9;clear sa sb sc sd lqa lqb rw1 hg pg hl3 pz st iffz hL1 hL2 hL3 hT;have rR:∃es,Hd R=some (.lst (es.map V.ref))/\Paired (ZbP Hd) es s.ws:=lqd.rw_;obtain⟨es,hRd,pwd⟩:=rR;have le:=Paired.length pwd;have lri2:=lqd.ri.len;cases o with
    |some f=>
     refine ZjH fun B_ hB=> ?_;refine⟨_,rfl,rfl,.inr ⟨_,rfl,_,_,rfl,rfl,2,rfl,by decide,by decide,Zeb (fun k σ H'=>∃v11:Option V,σ=[some (.ref a),some (.int n0),some (.ref p),some (.ref x),some (.ref R),some (.int last),some (.int c),some v,some (.int w.day),some (.str f),some (.ref T),v11]/\ZS Hd H') ⟨_,rfl,ZS.refl _⟩ ?_ ?_⟩⟩
     ·rintro k σ H5 _ ⟨v11,rfl,s5⟩;have lq5:=lqd.same s5;refine ZjH fun B_ hB=> ?_;refine⟨_,rfl,_,rfl,_,rfl, ?_⟩;unfold Zm6;refine ZjG lq5 hi40 (s5 _ _ hdd) l1 l2 d0' cd (fun f' ef H6 s6=> ?_) (fun z=>nomatch z);cases ef;refine⟨_,rfl,rfl,_,rfl,Zrv rfl ?_⟩;refine hB _ _ ?_;have lq6:=lq5.same s6;have ha6:=s6 _ _ (s5 _ _ (s9d _ _ ha));refine⟨_,rfl,rfl,_,rfl,Jq ?_⟩;refine⟨_,rfl,x,_,dx',_,rfl,ha6,rfl,Zcj (by decide+kernel),x,s,F,rfl,by decide,lq6.ho,fun L1 Ha hL1 sa rw1=> ?_⟩
      have lqa:=lq6.same sa;refine⟨_,rfl,x,_,dx',_,rfl,sa _ _ ha6,rfl,Zcj (by decide+kernel),x,s,F,rfl,by decide,lqa.ho,fun L2 kg Hb hL2 sb hg pg=> ?_⟩;have lqb:=lqa.same sb;refine⟨_,rfl,x,_,dx',_,rfl,sb _ _ (sa _ _ ha6),rfl,Zcj (by decide+kernel),x,s,F,rfl,by decide,lqb.ho,lqb.wo.keys,lqb.ok.one,by omega,fun L3 us zs Hc hL3 sc hl3 pz st iffz=> ?_⟩;refine⟨show 3<=sizeLine from sl,fun U hU=> ?_⟩;have sd:=Zg hU (o:=.tup [.ref L1,.ref L2,.ref L3])
      have stU:ZmY (upd Hc U (.tup [.ref L1,.ref L2,.ref L3])) U s:=⟨L1,L2,L3,kg,us,zs,Zc,Yl (sb.trans (sc.trans sd)) rw1,sd _ _ (sc _ _ hg),Je (fun b xs e=>sd _ _ (sc _ _ e)) pg,sd _ _ hl3,Za3 (fun b xs e=>sd _ _ e) pz,st,iffz⟩
      have s6d:=sa.trans (sb.trans (sc.trans sd));exact⟨_,rfl,Zst lq.ok stU (stT.same (s5.trans (s6.trans s6d))) ⟨_,rfl,Yw ⟨_,rfl,s5.trans (s6.trans s6d)⟩⟩⟩
     ·rintro σ H5 ⟨v11,rfl,s5⟩;refine hB _ _ ?_;refine⟨_,rfl,rfl,_,rfl,Yw ?_⟩;refine⟨_,rfl,rfl,_,rfl,Yw ?_⟩;have lq5:=lqd.same s5;exact⟨s,F,xs++[w.one],last,_,_,_,_,_,_,rfl,rfl,⟨lq5.ho,lq5.rw_,lq5.ok,lq5.wo,lq5.ri.stay w.one,lq5.dy,lq5.z0,Nat.le_succ_of_le lq5.rl,lq5.oR⟩,grd.trans (Za2.same s5)⟩
    |none=>
     refine ZjH fun B_ hB=> ?_;refine⟨_,rfl,rfl,.inr ⟨_,rfl,_,_,rfl,rfl,1,rfl,by decide,by decide,Zeb (fun k σ H'=>∃v11:Option V,σ=[some (.ref a),some (.int n0),some (.ref p),some (.ref x),some (.ref R),some (.int last),some (.int c),some v,some (.int w.day),some .non,some (.ref T),v11]/\((k=0/\H'=Hd)\/(k=1/\∃s' F',Za2 F Hd F' H'/\Yh Zk Zi Zj Zb Zt H' x s' F'/\ZdW s'/\ZcS s'/\Af s s' xs i w d v))) ⟨_,rfl,.inl ⟨rfl,rfl⟩⟩ ?_ ?_⟩⟩
     ·rintro k σ H5 lt ⟨v11,rfl,⟨rfl,rfl⟩|⟨rfl,_⟩⟩
      ·refine ZjH fun B_ hB=> ?_;refine⟨_,rfl,_,rfl,_,rfl, ?_⟩;unfold Zm6;refine ZjG lqd hi40 hdd l1 l2 d0' cd (fun f' ef=>nomatch ef) (fun _ H6 s' F' g6 hA6 ok6 wo6 af=> ?_);refine⟨_,rfl,rfl,_,rfl,Zrv rfl ?_⟩;refine hB _ _ ?_;exact⟨_,rfl,rfl,_,rfl,Yw (Yw ⟨_,rfl,.inr ⟨rfl,s',F',g6,hA6,ok6,wo6,af⟩⟩)⟩
      ·exact absurd lt (by decide)
     ·rintro σ H6 ⟨v11,rfl,⟨z,_⟩|⟨_,s',F',g6,hA6,ok6,wo6,af⟩⟩
      ·exact absurd z (by decide)
      refine hB _ _ ?_;have hR6:=g6.1 _ _ lqd.oR hRd;have oR6:R∉F':=g6.off lqd.oR hRd;have kt6:=lqd.ho.kinds.tup g6.1;have gr6:=grd.trans (Za2.one R g6);have pw6:=Ziy kt6 pwd;have hd6:=kt6 _ _ hdd;cases af with
      |ran e1 e2 e3=>
       refine⟨_,rfl,rfl,_,rfl,Zam rfl ?_⟩;refine⟨_,rfl,rfl,_,rfl,Zam rfl ?_⟩;refine⟨_,rfl, ?_⟩;refine⟨s',F',xs++[w.one],w.day,_,_,_,_,_,_,rfl,e1,⟨hA6,⟨es,hR6,by rw[e2];exact pw6⟩,ok6,wo6,by rw[e1,e2];exact lqd.ri.stay w.one, ?_, ?_, ?_,oR6⟩,gr6⟩
       ·intro q;rw[e3,List.getLast?_append];exact⟨fun z=>⟨(fun y=>by simp at y),(Option.some.inj (show some w.day=some q from z)).symm⟩,fun z=>by rw[z.2];rfl⟩
       ·intro z;rw[e3] at z
        simp at z
       ·have:=lqd.rl;rw[e3,List.length_append,List.length_singleton];omega
      |told e1 e2 e3 ri2=>
       refine⟨_,rfl,rfl,_,rfl,Zam rfl ?_⟩;refine⟨_,rfl,rfl,_,rfl,Yw ?_⟩;refine⟨_,rfl,rfl,_,rfl,Zam rfl ?_⟩;have lse:(es.map V.ref).length<sizeLine:=by rw[List.length_map];omega
       refine⟨_,rfl,.inl ⟨rfl,_,SqL.of hR6⟩,_,rfl,R,_,V.ref d,rfl,rfl,hR6,lse, ?_⟩;have fr8:∀c u,c≠R->H6 c=some u->upd H6 R (.lst (es.map V.ref++[.ref d])) c=some u:=fun c u n e=>by rw[Zv n];exact e
       have kt8:∀c ys,H6 c=some (.tup ys)->upd H6 R (.lst (es.map V.ref++[.ref d])) c=some (.tup ys):=fun c ys e=>fr8 c _ (Yt e hR6 (fun z=>nomatch z)) e;have gr8:Za2 (R::F0) HL (R::F') (upd H6 R (.lst (es.map V.ref++[.ref d]))):=gr6.trans (Za2.own fun c u m e=>fr8 c u (fun z=>m (by rw[z];exact List.mem_cons_self ..)) e)
       exact⟨s',F',xs++[w.one],last,_,_,_,_,_,_,rfl,e1,⟨Yh.write hA0 hA6 (kpC gr6) hR oR6 hR6 fr8,⟨es++[d],by rw[Zc,List.map_append];rfl,by rw[e2];exact ZcV (Ziy kt8 pw6) (kt8 _ _ hd6)⟩,ok6,wo6,by rw[e1,e2];exact ri2,by rw[e3];exact lqd.dy,by rw[e3];exact lqd.z0,by rw[e3];exact Nat.le_succ_of_le lqd.rl,oR6⟩,gr8⟩
   refine⟨_,rfl,c,rfl,_,_,rfl,rfl,(by show(0:Int)<7;decide),rfl,_,rfl,Xg (fun _=> ?_) (fun _=>rest _ _ .told)⟩
   refine⟨_,rfl,_,rfl,_,_,rfl,rfl,_,rfl,Xg (fun e=> ?_) (fun e=> ?_)⟩
   ·exact rest _ _ (.back (of_decide_eq_true e))
   ·exact rest _ _ (.ran (Int.not_lt.mp fun z=>e (decide_eq_true z)))
  ·rintro σ H4 ⟨s,F,xs,last,v6,v7,v8,v9,v10,v11,rfl,rfl,lq,gr⟩;refine hB _ _ ?_;obtain⟨dx',b',t',o',h',r',k',w',ha,_⟩:=lq.ho.ins;obtain⟨es,hRd,pwd⟩:=lq.rw_;refine⟨_,rfl,x,_,dx',_,rfl,ha,rfl,Zcj (by decide+kernel),x,s,F,rfl,by decide,lq.ho,fun L HF hL sF ⟨ts,hl,pt⟩=> ?_⟩;refine⟨_,rfl,2,.lst (s.ws.map rwD),.lst (s.ws.map rwD),by decide,rfl,.lst (SqL.of hl) (ZfU pt),.lst (SqL.of (sF _ _ hRd)) (ZfU (Yz sF pwd)),(ZfV s.ws).2, ?_⟩
   show Q (.bl (XQ 2 (.lst (s.ws.map rwD)) (.lst (s.ws.map rwD)))) HF;rw[(ZfV s.ws).1];exact fin _
end
def Gd(K:PySem.W.Frag)(x:Str)(st:Stmt):Prop:=∃A fd,PySem.W.nsIn K mainGlobals x=some (some (.ref A))/\Fun K x x st A fd
def Md(K:PySem.W.Frag)(C:Addr)(x q:Str)(st:Stmt):Prop:=∃A fd,PySem.W.findIn K (.ref C) x=some (some (.ref A))/\PySem.W.isFn K (.ref A)=true/\Fun K x q st A fd
theorem all_mk{l:PySem.W.OpenLaw}{w:World}{K:PySem.W.Frag}{h:Heap}{mg:Str->Option Value}{fa:Addr}{A_law:Addr}{oc_law kV_law dc_law pm_law cd_law ct_law:Value}{od_law an_law:Option Addr}{sl_law:Array (Option Value)}{Zk:Addr}{Zi:Addr}{Zj:Addr}{Zb:Addr}{Zt:Addr}{Zr:Addr}{ZM:Addr}{Zw:Addr}{ZC:Addr}{Zx:Addr}{ZD:Addr}{Ze:Addr}{Zd:Addr}{Zf:Addr}{Zq:Addr}{ZF:Addr}{ZP:Addr}{N_PutTwice:Addr}{nm_PutTwice qn_PutTwice:Str}{bs_PutTwice sb_PutTwice:List Value}{ZlV ab_PutTwice:Bool}{sn_PutTwice:List Str}{co_PutTwice:Option Bool}{dd_PutTwice:Option Addr}{k0_PutTwice k1_PutTwice k2_PutTwice k3_PutTwice k5_PutTwice:Option Value}{nc_PutTwice:Value}{nd_PutTwice:Option Addr}{ZgV:Array DictEntry}{np_PutTwice:Nat}{nl_PutTwice:Array (Option Value)}{N_HeldTwice:Addr}{nm_HeldTwice qn_HeldTwice:Str}{bs_HeldTwice sb_HeldTwice:List Value}{ZkU ab_HeldTwice:Bool}{sn_HeldTwice:List Str}{co_HeldTwice:Option Bool}{dd_HeldTwice:Option Addr}{k0_HeldTwice k1_HeldTwice k2_HeldTwice k3_HeldTwice k5_HeldTwice:Option Value}{nc_HeldTwice:Value}{nd_HeldTwice:Option Addr}{ZfW:Array DictEntry}{np_HeldTwice:Nat}{nl_HeldTwice:Array (Option Value)}{N_NoSeries:Addr}{nm_NoSeries qn_NoSeries:Str}{bs_NoSeries sb_NoSeries:List Value}{ZlW ab_NoSeries:Bool}{sn_NoSeries:List Str}{co_NoSeries:Option Bool}{dd_NoSeries:Option Addr}{k0_NoSeries k1_NoSeries k2_NoSeries k3_NoSeries k5_NoSeries:Option Value}{nc_NoSeries:Value}{nd_NoSeries:Option Addr}{ZgW:Array DictEntry}{np_NoSeries:Nat}{nl_NoSeries:Array (Option Value)}{N_RunBack:Addr}{nm_RunBack qn_RunBack:Str}{bs_RunBack sb_RunBack:List Value}{ZmZ ab_RunBack:Bool}{sn_RunBack:List Str}{co_RunBack:Option Bool}{dd_RunBack:Option Addr}{k0_RunBack k1_RunBack k2_RunBack k3_RunBack k5_RunBack:Option Value}{nc_RunBack:Value}{nd_RunBack:Option Addr}{ZiF:Array DictEntry}{np_RunBack:Nat}{nl_RunBack:Array (Option Value)}{N_HallError:Addr}{nm_HallError qn_HallError:Str}{bs_HallError sb_HallError:List Value}{ZkV ab_HallError:Bool}{sn_HallError:List Str}{co_HallError:Option Bool}{dd_HallError:Option Addr}{k0_HallError k1_HallError k2_HallError k3_HallError k5_HallError:Option Value}{nc_HallError:Value}{nd_HallError:Option Addr}{ZfX:Array DictEntry}{np_HallError:Nat}{nl_HallError:Array (Option Value)}
  (X:K.In h)(G:h.Ns mainGlobals mg)(hfa:mg "law"=some (.ref fa))
  (Z0W:Gd K "never" Zke)
  (Z0X:Gd K "after" Zkf)
  (Z0Y:Gd K "later" Zkg)
  (Z0x:Gd K "earlier" Zge)
  (Z0y:Gd K "line_of" Zgf)
  (Z0h:Gd K "owner_of" ZeJ)
  (Z0z:Gd K "term_of" Zgg)
  (Y0:Gd K "owning_series" Zb6)
  (Z0M:Gd K "judged" Zi2)
  (Z0N:Gd K "reason" Zi3)
  (Z0A:Gd K "counted" Zgh)
  (Z0O:Gd K "is_put" Zi4)
  (Z0d:Gd K "series_of" ZdG)
  (Z0B:Gd K "life_of" Zgi)
  (Z0i:Gd K "holds_on" ZeK)
  (Z0j:Gd K "standing" ZeL)
  (Z04:Gd K "is_laid_on" Zd7)
  (Z0k:Gd K "word_for" ZeM)
  (Z0C:Gd K "is_laid" Zgj)
  (Y8:Gd K "series_named" ZbH)
  (X8:Gd K "_law_cell_at" Zcp)
  (J3:Gd K "_law_name_by" Zcq)
  (Y4:Gd K "_law_length_by" Zb7)
  (J5:Gd K "_law_tree_by" Zcr)
  (Z0b:Gd K "_law_made" ZeN)
  (J6:Gd K "_law_book_by" Zcs)
  (Z0e:Gd K "_law_terms" ZdH)
  (Y5:Gd K "_law_record_by" Zb8)
  (Y6:Gd K "_law_number_by" Zb9)
  (Z05:Gd K "_law_row_by" Zd8)
  (Z0f:Gd K "_law_alone" ZdI)
  (Y9:Gd K "_law_sort_due" ZbI)
  (Z0l:Gd K "_law_sort" ZeO)
  (Z0m:Gd K "_law_told" ZeP)
  (Z0D:Gd K "_law_odd" Zgk)
  (Z1E:PySem.W.nsIn K mainGlobals "law"=some (some (.ref A_law)))
  (l_law:K.lookup A_law=some ⟨oc_law,od_law,.func (PySem.W.fnOf "law" "law" (Zef Zfx) (Zca Zfx) (ZG Zfx) .none kV_law dc_law pm_law an_law cd_law ct_law),sl_law⟩)
  (cd_law':PySem.W.codeIn K cd_law "law"=true)
  (k_law:PySem.W.keepIn K (.ref A_law)=true)
  (Z1i:PySem.W.nsIn K mainGlobals "Never"=some (some (.ref Zk)))
  (Z1j:PySem.W.nsIn K mainGlobals "After"=some (some (.ref Zi)))
  (Z1k:PySem.W.nsIn K mainGlobals "Later"=some (some (.ref Zj)))
  (Z0Q:PySem.W.nsIn K mainGlobals "Earlier"=some (some (.ref Zb)))
  (Z1l:PySem.W.nsIn K mainGlobals "House"=some (some (.ref Zt)))
  (Z0E:PySem.W.nsIn K mainGlobals "HallError"=some (some (.ref Zr)))
  (Z1m:PySem.W.nsIn K mainGlobals "NoDay"=some (some (.ref ZM)))
  (Z0P:PySem.W.nsIn K mainGlobals "NoLength"=some (some (.ref Zw)))
  (Z1f:PySem.W.nsIn K mainGlobals "NoTerm"=some (some (.ref ZC)))
  (Z0R:PySem.W.nsIn K mainGlobals "TooWide"=some (some (.ref Zx)))
  (Z1g:PySem.W.nsIn K mainGlobals "NoBook"=some (some (.ref ZD)))
  (Z0r:PySem.W.nsIn K mainGlobals "PutTwice"=some (some (.ref Ze)))
  (Z0g:PySem.W.nsIn K mainGlobals "HeldTwice"=some (some (.ref Zd)))
  (Z0s:PySem.W.nsIn K mainGlobals "NoSeries"=some (some (.ref Zf)))
  (Z0F:PySem.W.nsIn K mainGlobals "RunBack"=some (some (.ref Zq)))
  (Z1h:PySem.W.nsIn K mainGlobals "Unlike"=some (some (.ref ZF)))
  (Z1n:PySem.W.nsIn K mainGlobals "NoRow"=some (some (.ref ZP)))
  (Z0Z:PySem.W.plainGet K Zk Str.empty=true)
  (Z10:PySem.W.hasDictIn K Zk=true)
  (Z11:PySem.W.plainOver K Zk=true)
  (Z12:PySem.W.findIn K (.ref Zk) "__setattr__"=some (some (.builtin "object.__setattr__")))
  (Z1o:PySem.W.makesIn K Zk=true)
  (Z1p:PySem.W.keepIn K (.ref Zk)=true)
  (in_Never:PySem.W.findIn K (.ref Zk) "__init__"=some (some (.builtin "object.__init__")))
  (Z1q:PySem.W.findIn K (.ref Zk) "__class__"=some (some (.builtin "object.__class__")))
  (Z1r:PySem.W.mroIn K Zk (.type "object")=some true)
  (Z13:PySem.W.plainGet K Zi Str.empty=true)
  (Z14:PySem.W.hasDictIn K Zi=true)
  (Z15:PySem.W.plainOver K Zi=true)
  (Z16:PySem.W.findIn K (.ref Zi) "__setattr__"=some (some (.builtin "object.__setattr__")))
  (Z1s:PySem.W.makesIn K Zi=true)
  (Z1t:PySem.W.keepIn K (.ref Zi)=true)
  (Z06:Md K Zi "__init__" "After.__init__" Zd9)
  (Z0t:PySem.W.findIn K (.ref Zi) "kind"=some none)
  (Z0u:PySem.W.findIn K (.ref Zi) "days"=some none)
  (Z1u:PySem.W.findIn K (.ref Zi) "__class__"=some (some (.builtin "object.__class__")))
  (Z1v:PySem.W.mroIn K Zi (.type "object")=some true)
  (Z17:PySem.W.plainGet K Zj Str.empty=true)
  (Z18:PySem.W.hasDictIn K Zj=true)
  (Z19:PySem.W.plainOver K Zj=true)
  (Z1a:PySem.W.findIn K (.ref Zj) "__setattr__"=some (some (.builtin "object.__setattr__")))
  (Z1w:PySem.W.makesIn K Zj=true)
  (Z1x:PySem.W.keepIn K (.ref Zj)=true)
  (Z07:Md K Zj "__init__" "Pair.__init__" Zcd)
  (Z0G:PySem.W.findIn K (.ref Zj) "one"=some none)
  (Z0n:PySem.W.findIn K (.ref Zj) "other"=some none)
  (Z1y:PySem.W.findIn K (.ref Zj) "__class__"=some (some (.builtin "object.__class__")))
  (Z1z:PySem.W.mroIn K Zj (.type "object")=some true)
  (Z0H:PySem.W.plainGet K Zb Str.empty=true)
  (Z0I:PySem.W.hasDictIn K Zb=true)
  (Z0J:PySem.W.plainOver K Zb=true)
  (Z0K:PySem.W.findIn K (.ref Zb) "__setattr__"=some (some (.builtin "object.__setattr__")))
  (Z0S:PySem.W.makesIn K Zb=true)
  (Z0T:PySem.W.keepIn K (.ref Zb)=true)
  (X3:Md K Zb "__init__" "Pair.__init__" Zcd)
  (Z0o:PySem.W.findIn K (.ref Zb) "one"=some none)
  (Z0c:PySem.W.findIn K (.ref Zb) "other"=some none)
  (Z0U:PySem.W.findIn K (.ref Zb) "__class__"=some (some (.builtin "object.__class__")))
  (Z0V:PySem.W.mroIn K Zb (.type "object")=some true)
  (Z1b:PySem.W.plainGet K Zt Str.empty=true)
  (Z1c:PySem.W.hasDictIn K Zt=true)
  (Z1d:PySem.W.plainOver K Zt=true)
  (Z1e:PySem.W.findIn K (.ref Zt) "__setattr__"=some (some (.builtin "object.__setattr__")))
  (Z1A:PySem.W.makesIn K Zt=true)
  (Z1B:PySem.W.keepIn K (.ref Zt)=true)
  (Z08:Md K Zt "__init__" "House.__init__" Zda)
  (Z0v:PySem.W.findIn K (.ref Zt) "book"=some none)
  (Z0w:PySem.W.findIn K (.ref Zt) "told"=some none)
  (Z0L:PySem.W.findIn K (.ref Zt) "own"=some none)
  (Z09:PySem.W.findIn K (.ref Zt) "holdings"=some none)
  (Z0a:PySem.W.findIn K (.ref Zt) "run_days"=some none)
  (Z0p:PySem.W.findIn K (.ref Zt) "taken"=some none)
  (Z0q:PySem.W.findIn K (.ref Zt) "words"=some none)
  (Z1C:PySem.W.findIn K (.ref Zt) "__class__"=some (some (.builtin "object.__class__")))
  (Z1D:PySem.W.mroIn K Zt (.type "object")=some true)
  (hn:PySem.W.specialIn K (.builtin "object.__class__") "__get__"=some (some (.builtin "getset_descriptor.__get__")))
  (htk:PySem.W.takesIn K (.builtin "object.__class__")=some true)
  (J7:Md K Zk "due" "Never.due" ZdJ)
  (J8:Md K Zi "due" "After.due" ZdK)
  (J9:Md K Zj "due" "Later.due" ZdL)
  (Y7:Md K Zb "due" "Earlier.due" Zct)
  (Z6:Md K Zk "leaves" "Never.leaves" ZbJ)
  (Z7:Md K Zi "leaves" "After.leaves" ZbK)
  (Z8:Md K Zj "leaves" "Pair.leaves" ZaN)
  (Z3:Md K Zb "leaves" "Pair.leaves" ZaN)
  (X5:Md K Zt "tell" "House.tell" Zdb)
  (Z0:Md K Zt "refuse_row" "House.refuse_row" Zaa)
  (Z4:Md K Zt "keep_row" "House.keep_row" ZaE)
  (Z1:Md K Zt "touched_by" "House.touched_by" Zab)
  (Z2:Md K Zt "words_now" "House.words_now" Zal)
  (Z00:Md K Zt "run" "House.run" ZdM)
  (Z9:Md K Zt "due_on" "House.due_on" ZbL)
  (Z5:Md K Zt "regrets" "House.regrets" Zba)
  (X6:Md K Zt "gone" "House.gone" Zdd)
  (X7:Md K Zt "rows" "House.rows" Zdc)
  (xl_PutTwice:K.lookup Ze=some (excClassObj nm_PutTwice qn_PutTwice Ze N_PutTwice bs_PutTwice [.ref Zr,.type "ValueError",.type "Exception",.type "BaseException",.type "object"] ZlV sn_PutTwice sb_PutTwice ab_PutTwice co_PutTwice dd_PutTwice k0_PutTwice k1_PutTwice k2_PutTwice k3_PutTwice k5_PutTwice "ValueError.__new__"))
  (xN_PutTwice:K.lookup N_PutTwice=some ⟨nc_PutTwice,nd_PutTwice,.dict ZgV np_PutTwice,nl_PutTwice⟩)
  (xe_PutTwice:Zek ZgV=true)
  (xi_PutTwice:PySem.W.nsIn K N_PutTwice "__init__"=some none)
  (xl_HeldTwice:K.lookup Zd=some (excClassObj nm_HeldTwice qn_HeldTwice Zd N_HeldTwice bs_HeldTwice [.ref Zr,.type "ValueError",.type "Exception",.type "BaseException",.type "object"] ZkU sn_HeldTwice sb_HeldTwice ab_HeldTwice co_HeldTwice dd_HeldTwice k0_HeldTwice k1_HeldTwice k2_HeldTwice k3_HeldTwice k5_HeldTwice "ValueError.__new__"))
  (xN_HeldTwice:K.lookup N_HeldTwice=some ⟨nc_HeldTwice,nd_HeldTwice,.dict ZfW np_HeldTwice,nl_HeldTwice⟩)
  (xe_HeldTwice:Zek ZfW=true)
  (xi_HeldTwice:PySem.W.nsIn K N_HeldTwice "__init__"=some none)
  (xl_NoSeries:K.lookup Zf=some (excClassObj nm_NoSeries qn_NoSeries Zf N_NoSeries bs_NoSeries [.ref Zr,.type "ValueError",.type "Exception",.type "BaseException",.type "object"] ZlW sn_NoSeries sb_NoSeries ab_NoSeries co_NoSeries dd_NoSeries k0_NoSeries k1_NoSeries k2_NoSeries k3_NoSeries k5_NoSeries "ValueError.__new__"))
  (xN_NoSeries:K.lookup N_NoSeries=some ⟨nc_NoSeries,nd_NoSeries,.dict ZgW np_NoSeries,nl_NoSeries⟩)
  (xe_NoSeries:Zek ZgW=true)
  (xi_NoSeries:PySem.W.nsIn K N_NoSeries "__init__"=some none)
  (xl_RunBack:K.lookup Zq=some (excClassObj nm_RunBack qn_RunBack Zq N_RunBack bs_RunBack [.ref Zr,.type "ValueError",.type "Exception",.type "BaseException",.type "object"] ZmZ sn_RunBack sb_RunBack ab_RunBack co_RunBack dd_RunBack k0_RunBack k1_RunBack k2_RunBack k3_RunBack k5_RunBack "ValueError.__new__"))
  (xN_RunBack:K.lookup N_RunBack=some ⟨nc_RunBack,nd_RunBack,.dict ZiF np_RunBack,nl_RunBack⟩)
  (xe_RunBack:Zek ZiF=true)
  (xi_RunBack:PySem.W.nsIn K N_RunBack "__init__"=some none)
  (xl_HallError:K.lookup Zr=some (excClassObj nm_HallError qn_HallError Zr N_HallError bs_HallError [.type "ValueError",.type "Exception",.type "BaseException",.type "object"] ZkV sn_HallError sb_HallError ab_HallError co_HallError dd_HallError k0_HallError k1_HallError k2_HallError k3_HallError k5_HallError "ValueError.__new__"))
  (xN_HallError:K.lookup N_HallError=some ⟨nc_HallError,nd_HallError,.dict ZfX np_HallError,nl_HallError⟩)
  (xe_HallError:Zek ZfX=true)
  (xi_HallError:PySem.W.nsIn K N_HallError "__init__"=some none)
  (xk_PutTwice:(PySem.W.kitCls K (.ref Ze) (.ref Ze)).isSome=true)
  (xg_PutTwice:PySem.W.findIn K (.ref Ze) "__getattribute__"=some (some (.builtin "BaseException.__getattribute__")))
  (xh_PutTwice:PySem.W.findIn K (.ref Ze) "__getattr__"=some none)
  (xs_PutTwice:PySem.W.findIn K (.ref Ze) "__class__"=some (some (.builtin "object.__class__")))
  (xo_PutTwice:PySem.W.mroIn K Ze (.type "object")=some true)
  (xb_PutTwice:PySem.W.subIn K (.ref Ze) (.type "BaseException")=some true)
  (xk_HeldTwice:(PySem.W.kitCls K (.ref Zd) (.ref Zd)).isSome=true)
  (xg_HeldTwice:PySem.W.findIn K (.ref Zd) "__getattribute__"=some (some (.builtin "BaseException.__getattribute__")))
  (xh_HeldTwice:PySem.W.findIn K (.ref Zd) "__getattr__"=some none)
  (xs_HeldTwice:PySem.W.findIn K (.ref Zd) "__class__"=some (some (.builtin "object.__class__")))
  (xo_HeldTwice:PySem.W.mroIn K Zd (.type "object")=some true)
  (xb_HeldTwice:PySem.W.subIn K (.ref Zd) (.type "BaseException")=some true)
  (xk_NoSeries:(PySem.W.kitCls K (.ref Zf) (.ref Zf)).isSome=true)
  (xg_NoSeries:PySem.W.findIn K (.ref Zf) "__getattribute__"=some (some (.builtin "BaseException.__getattribute__")))
  (xh_NoSeries:PySem.W.findIn K (.ref Zf) "__getattr__"=some none)
  (xs_NoSeries:PySem.W.findIn K (.ref Zf) "__class__"=some (some (.builtin "object.__class__")))
  (xo_NoSeries:PySem.W.mroIn K Zf (.type "object")=some true)
  (xb_NoSeries:PySem.W.subIn K (.ref Zf) (.type "BaseException")=some true)
  (xk_RunBack:(PySem.W.kitCls K (.ref Zq) (.ref Zq)).isSome=true)
  (xg_RunBack:PySem.W.findIn K (.ref Zq) "__getattribute__"=some (some (.builtin "BaseException.__getattribute__")))
  (xh_RunBack:PySem.W.findIn K (.ref Zq) "__getattr__"=some none)
  (xs_RunBack:PySem.W.findIn K (.ref Zq) "__class__"=some (some (.builtin "object.__class__")))
  (xo_RunBack:PySem.W.mroIn K Zq (.type "object")=some true)
  (xb_RunBack:PySem.W.subIn K (.ref Zq) (.type "BaseException")=some true)
  (f_xm_p:PySem.W.exmOne K (.ref Ze) (.ref Zr)=some true)
  (f_i_p_ve:PySem.W.kitOne K (.ref Ze) (.type "ValueError")=some true)
  (f_i_p_HallError:PySem.W.kitOne K (.ref Ze) (.ref Zr)=some true)
  (f_i_p_NoDay:PySem.W.kitOne K (.ref Ze) (.ref ZM)=some false)
  (f_i_p_NoLength:PySem.W.kitOne K (.ref Ze) (.ref Zw)=some false)
  (f_i_p_NoTerm:PySem.W.kitOne K (.ref Ze) (.ref ZC)=some false)
  (f_i_p_TooWide:PySem.W.kitOne K (.ref Ze) (.ref Zx)=some false)
  (f_i_p_NoBook:PySem.W.kitOne K (.ref Ze) (.ref ZD)=some false)
  (f_i_p_PutTwice:PySem.W.kitOne K (.ref Ze) (.ref Ze)=some true)
  (f_i_p_HeldTwice:PySem.W.kitOne K (.ref Ze) (.ref Zd)=some false)
  (f_i_p_NoSeries:PySem.W.kitOne K (.ref Ze) (.ref Zf)=some false)
  (f_i_p_RunBack:PySem.W.kitOne K (.ref Ze) (.ref Zq)=some false)
  (f_i_p_Unlike:PySem.W.kitOne K (.ref Ze) (.ref ZF)=some false)
  (f_i_p_NoRow:PySem.W.kitOne K (.ref Ze) (.ref ZP)=some false)
  (f_xm_h:PySem.W.exmOne K (.ref Zd) (.ref Zr)=some true)
  (f_i_h_ve:PySem.W.kitOne K (.ref Zd) (.type "ValueError")=some true)
  (f_i_h_HallError:PySem.W.kitOne K (.ref Zd) (.ref Zr)=some true)
  (f_i_h_NoDay:PySem.W.kitOne K (.ref Zd) (.ref ZM)=some false)
  (f_i_h_NoLength:PySem.W.kitOne K (.ref Zd) (.ref Zw)=some false)
  (f_i_h_NoTerm:PySem.W.kitOne K (.ref Zd) (.ref ZC)=some false)
  (f_i_h_TooWide:PySem.W.kitOne K (.ref Zd) (.ref Zx)=some false)
  (f_i_h_NoBook:PySem.W.kitOne K (.ref Zd) (.ref ZD)=some false)
  (f_i_h_PutTwice:PySem.W.kitOne K (.ref Zd) (.ref Ze)=some false)
  (f_i_h_HeldTwice:PySem.W.kitOne K (.ref Zd) (.ref Zd)=some true)
  (f_i_h_NoSeries:PySem.W.kitOne K (.ref Zd) (.ref Zf)=some false)
  (f_i_h_RunBack:PySem.W.kitOne K (.ref Zd) (.ref Zq)=some false)
  (f_i_h_Unlike:PySem.W.kitOne K (.ref Zd) (.ref ZF)=some false)
  (f_i_h_NoRow:PySem.W.kitOne K (.ref Zd) (.ref ZP)=some false)
  (f_xm_s:PySem.W.exmOne K (.ref Zf) (.ref Zr)=some true)
  (f_i_s_ve:PySem.W.kitOne K (.ref Zf) (.type "ValueError")=some true)
  (f_i_s_HallError:PySem.W.kitOne K (.ref Zf) (.ref Zr)=some true)
  (f_i_s_NoDay:PySem.W.kitOne K (.ref Zf) (.ref ZM)=some false)
  (f_i_s_NoLength:PySem.W.kitOne K (.ref Zf) (.ref Zw)=some false)
  (f_i_s_NoTerm:PySem.W.kitOne K (.ref Zf) (.ref ZC)=some false)
  (f_i_s_TooWide:PySem.W.kitOne K (.ref Zf) (.ref Zx)=some false)
  (f_i_s_NoBook:PySem.W.kitOne K (.ref Zf) (.ref ZD)=some false)
  (f_i_s_PutTwice:PySem.W.kitOne K (.ref Zf) (.ref Ze)=some false)
  (f_i_s_HeldTwice:PySem.W.kitOne K (.ref Zf) (.ref Zd)=some false)
  (f_i_s_NoSeries:PySem.W.kitOne K (.ref Zf) (.ref Zf)=some true)
  (f_i_s_RunBack:PySem.W.kitOne K (.ref Zf) (.ref Zq)=some false)
  (f_i_s_Unlike:PySem.W.kitOne K (.ref Zf) (.ref ZF)=some false)
  (f_i_s_NoRow:PySem.W.kitOne K (.ref Zf) (.ref ZP)=some false)
  (f_xm_b:PySem.W.exmOne K (.ref Zq) (.ref Zr)=some true)
  (f_i_b_ve:PySem.W.kitOne K (.ref Zq) (.type "ValueError")=some true)
  (f_i_b_HallError:PySem.W.kitOne K (.ref Zq) (.ref Zr)=some true)
  (f_i_b_NoDay:PySem.W.kitOne K (.ref Zq) (.ref ZM)=some false)
  (f_i_b_NoLength:PySem.W.kitOne K (.ref Zq) (.ref Zw)=some false)
  (f_i_b_NoTerm:PySem.W.kitOne K (.ref Zq) (.ref ZC)=some false)
  (f_i_b_TooWide:PySem.W.kitOne K (.ref Zq) (.ref Zx)=some false)
  (f_i_b_NoBook:PySem.W.kitOne K (.ref Zq) (.ref ZD)=some false)
  (f_i_b_PutTwice:PySem.W.kitOne K (.ref Zq) (.ref Ze)=some false)
  (f_i_b_HeldTwice:PySem.W.kitOne K (.ref Zq) (.ref Zd)=some false)
  (f_i_b_NoSeries:PySem.W.kitOne K (.ref Zq) (.ref Zf)=some false)
  (f_i_b_RunBack:PySem.W.kitOne K (.ref Zq) (.ref Zq)=some true)
  (f_i_b_Unlike:PySem.W.kitOne K (.ref Zq) (.ref ZF)=some false)
  (f_i_b_NoRow:PySem.W.kitOne K (.ref Zq) (.ref ZP)=some false)
  (z_ValueError:PySem.W.nsIn K mainGlobals "ValueError"=some none)
  (z_abs:PySem.W.nsIn K mainGlobals "abs"=some none)
  (z_any:PySem.W.nsIn K mainGlobals "any"=some none)
  (z_dict:PySem.W.nsIn K mainGlobals "dict"=some none)
  (z_int:PySem.W.nsIn K mainGlobals "int"=some none)
  (z_isinstance:PySem.W.nsIn K mainGlobals "isinstance"=some none)
  (z_len:PySem.W.nsIn K mainGlobals "len"=some none)
  (z_list:PySem.W.nsIn K mainGlobals "list"=some none)
  (z_max:PySem.W.nsIn K mainGlobals "max"=some none)
  (z_min:PySem.W.nsIn K mainGlobals "min"=some none)
  (z_range:PySem.W.nsIn K mainGlobals "range"=some none)
  (z_reversed:PySem.W.nsIn K mainGlobals "reversed"=some none)
  (z_sorted:PySem.W.nsIn K mainGlobals "sorted"=some none)
  (z_tuple:PySem.W.nsIn K mainGlobals "tuple"=some none)
  (kib:PySem.W.kitOne K (.type "int") (.type "bool")=some false)
  (kii:PySem.W.kitOne K (.type "int") (.type "int")=some true)
  (kll:PySem.W.kitOne K (.type "list") (.type "list")=some true)
  (ktt:PySem.W.kitOne K (.type "tuple") (.type "tuple")=some true)
  (kss:PySem.W.kitOne K (.type "str") (.type "str")=some true)
  (ne_Never_After:Zk≠Zi)
  (ne_Never_Later:Zk≠Zj)
  (ne_Never_Earlier:Zk≠Zb)
  (Z01:Zk≠Zt)
  (ne_After_Later:Zi≠Zj)
  (ne_After_Earlier:Zi≠Zb)
  (Z02:Zi≠Zt)
  (ne_Later_Earlier:Zj≠Zb)
  (Z03:Zj≠Zt)
  (X4:Zb≠Zt)
  :∃fd:FuncData,(∀(s:Shared) (v:Value),BindsTo s fd ⟨[v],[]⟩ [("_law_script",v)])/\∀base:Heap,K.In base->base.Ns mainGlobals mg->Yy l.prog w K mg base CX0 42 fa fd ["_law_script"] (ZoZ K):=by
 have e:=hfa.symm.trans (PySem.W.mg_of X G Z1E);cases e;have T:Txt K mg Zk Zi Zj Zb Zt Zr ZM Zw ZC Zx ZD Ze Zd Zf Zq ZF ZP:=⟨PySem.W.mg_none_of X G z_ValueError,PySem.W.mg_none_of X G z_abs,PySem.W.mg_none_of X G z_any,PySem.W.mg_none_of X G z_dict,PySem.W.mg_none_of X G z_int,PySem.W.mg_none_of X G z_isinstance,PySem.W.mg_none_of X G z_len,PySem.W.mg_none_of X G z_list,PySem.W.mg_none_of X G z_max,PySem.W.mg_none_of X G z_min,PySem.W.mg_none_of X G z_range,PySem.W.mg_none_of X G z_reversed,PySem.W.mg_none_of X G z_sorted,PySem.W.mg_none_of X G z_tuple,kib,kii,kll,ktt,kss,⟨Z0Z,Z10,Z11,Z12⟩,⟨⟨Z0Z,Z10,Z11,Z12⟩,Z1q,hn,htk,Z1r⟩,⟨Z13,Z14,Z15,Z16⟩,Z0t,Z0u,⟨⟨Z13,Z14,Z15,Z16⟩,Z1u,hn,htk,Z1v⟩,⟨Z17,Z18,Z19,Z1a⟩,Z0G,Z0n,⟨⟨Z17,Z18,Z19,Z1a⟩,Z1y,hn,htk,Z1z⟩,⟨Z0H,Z0I,Z0J,Z0K⟩,Z0o,Z0c,⟨⟨Z0H,Z0I,Z0J,Z0K⟩,Z0U,hn,htk,Z0V⟩,⟨Z1b,Z1c,Z1d,Z1e⟩,Z0v,Z0w,Z0L,Z09,Z0a,Z0p,Z0q,⟨⟨Z1b,Z1c,Z1d,Z1e⟩,Z1C,hn,htk,Z1D⟩,PySem.W.mg_of X G Z0E,PySem.W.mg_of X G Z1m,PySem.W.mg_of X G Z0P,PySem.W.mg_of X G Z1f,PySem.W.mg_of X G Z0R,PySem.W.mg_of X G Z1g,PySem.W.mg_of X G Z0r,PySem.W.mg_of X G Z0g,PySem.W.mg_of X G Z0s,PySem.W.mg_of X G Z0F,PySem.W.mg_of X G Z1h,PySem.W.mg_of X G Z1n,⟨xk_PutTwice,xg_PutTwice,xh_PutTwice,xs_PutTwice,hn,htk,xo_PutTwice,xb_PutTwice⟩,⟨xk_HeldTwice,xg_HeldTwice,xh_HeldTwice,xs_HeldTwice,hn,htk,xo_HeldTwice,xb_HeldTwice⟩,⟨xk_NoSeries,xg_NoSeries,xh_NoSeries,xs_NoSeries,hn,htk,xo_NoSeries,xb_NoSeries⟩,⟨xk_RunBack,xg_RunBack,xh_RunBack,xs_RunBack,hn,htk,xo_RunBack,xb_RunBack⟩,f_xm_p,f_i_p_ve,f_i_p_HallError,f_i_p_NoDay,f_i_p_NoLength,f_i_p_NoTerm,f_i_p_TooWide,f_i_p_NoBook,f_i_p_PutTwice,f_i_p_HeldTwice,f_i_p_NoSeries,f_i_p_RunBack,f_i_p_Unlike,f_i_p_NoRow,f_xm_h,f_i_h_ve,f_i_h_HallError,f_i_h_NoDay,f_i_h_NoLength,f_i_h_NoTerm,f_i_h_TooWide,f_i_h_NoBook,f_i_h_PutTwice,f_i_h_HeldTwice,f_i_h_NoSeries,f_i_h_RunBack,f_i_h_Unlike,f_i_h_NoRow,f_xm_s,f_i_s_ve,f_i_s_HallError,f_i_s_NoDay,f_i_s_NoLength,f_i_s_NoTerm,f_i_s_TooWide,f_i_s_NoBook,f_i_s_PutTwice,f_i_s_HeldTwice,f_i_s_NoSeries,f_i_s_RunBack,f_i_s_Unlike,f_i_s_NoRow,f_xm_b,f_i_b_ve,f_i_b_HallError,f_i_b_NoDay,f_i_b_NoLength,f_i_b_NoTerm,f_i_b_TooWide,f_i_b_NoBook,f_i_b_PutTwice,f_i_b_HeldTwice,f_i_b_NoSeries,f_i_b_RunBack,f_i_b_Unlike,f_i_b_NoRow,ne_Never_After,ne_Never_Later,ne_Never_Earlier,Z01,ne_After_Later,ne_After_Earlier,Z02,ne_Later_Earlier,Z03,X4⟩
 have Ztr:=Zme (st:=Zfx) l_law cd_law' k_law;obtain⟨_,_,Z0W,ZkW⟩:=Z0W;obtain⟨_,_,Z0X,ZkX⟩:=Z0X;obtain⟨_,_,Z0Y,ZkY⟩:=Z0Y;obtain⟨_,_,Z0x,ZgE⟩:=Z0x;obtain⟨_,_,Z0y,ZgF⟩:=Z0y;obtain⟨_,_,Z0h,Zf9⟩:=Z0h;obtain⟨_,_,Z0z,ZgG⟩:=Z0z;obtain⟨_,_,Y0,Zbi⟩:=Y0;obtain⟨_,_,Z0M,ZiG⟩:=Z0M;obtain⟨_,_,Z0N,ZiH⟩:=Z0N;obtain⟨_,_,Z0A,ZgH⟩:=Z0A;obtain⟨_,_,Z0O,ZiI⟩:=Z0O;obtain⟨_,_,Z0d,Ze3⟩:=Z0d;obtain⟨_,_,Z0B,ZgI⟩:=Z0B;obtain⟨_,_,Z0i,Zfa⟩:=Z0i
 obtain⟨_,_,Z0j,Zfb⟩:=Z0j;obtain⟨_,_,Z04,Zds⟩:=Z04;obtain⟨_,_,Z0k,Zfc⟩:=Z0k;obtain⟨_,_,Z0C,ZgJ⟩:=Z0C;obtain⟨_,_,Y8,Zc2⟩:=Y8;obtain⟨_,_,X8,ZcD⟩:=X8;obtain⟨_,_,J3,ZcE⟩:=J3;obtain⟨_,_,Y4,Zbj⟩:=Y4;obtain⟨_,_,J5,ZcF⟩:=J5;obtain⟨_,_,Z0b,Zc3⟩:=Z0b;obtain⟨_,_,J6,ZcG⟩:=J6;obtain⟨_,_,Z0e,Ze4⟩:=Z0e;obtain⟨_,_,Y5,Zbk⟩:=Y5;obtain⟨_,_,Y6,Zbl⟩:=Y6;obtain⟨_,_,Z05,Zdt⟩:=Z05;obtain⟨_,_,Z0f,Ze5⟩:=Z0f;obtain⟨_,_,Y9,Zc4⟩:=Y9
 obtain⟨_,_,Z0l,Zfd⟩:=Z0l;obtain⟨_,_,Z0m,Zfe⟩:=Z0m;obtain⟨_,_,Z0D,ZgK⟩:=Z0D;obtain⟨_,_,Z06,ZkZ,ZfY⟩:=Z06;obtain⟨_,_,Z07,Zl0,ZfZ⟩:=Z07;obtain⟨_,_,X3,ZiJ,Ze6⟩:=X3;obtain⟨_,_,Z08,Zl1,Zg0⟩:=Z08;obtain⟨_,_,J7,ZgX,Zb2⟩:=J7;obtain⟨_,_,J8,ZgY,Zb3⟩:=J8;obtain⟨_,_,J9,ZgZ,Zb4⟩:=J9;obtain⟨_,_,Y7,ZeC,Za4⟩:=Y7;obtain⟨_,_,Z6,Ze7,JL⟩:=Z6;obtain⟨_,_,Z7,Ze8,JM⟩:=Z7;obtain⟨_,_,Z8,Ze9,JN⟩:=Z8;obtain⟨_,_,Z3,ZcW,Jo⟩:=Z3
 obtain⟨_,_,X5,Zg1,Zaw⟩:=X5;obtain⟨_,_,Z0,Zc5,XD⟩:=Z0;obtain⟨_,_,Z4,ZcX,Jp⟩:=Z4;obtain⟨_,_,Z1,Zc6,XF⟩:=Z1;obtain⟨_,_,Z2,Zcn,Jg⟩:=Z2;obtain⟨_,_,Z00,Zh0,Zb5⟩:=Z00;obtain⟨_,_,Z9,Zea,JP⟩:=Z9;obtain⟨_,_,Z5,Zdx,Jw⟩:=Z5;obtain⟨_,_,X6,Zg2,Zax⟩:=X6;obtain⟨_,_,X7,Zg3,Zay⟩:=X7;refine⟨PySem.W.fnOf "law" "law" (Zef Zfx) (Zca Zfx) (ZG Zfx) .none kV_law dc_law pm_law an_law cd_law ct_law,fun s v=> .of_eq rfl,fun base Kb _=> ?_⟩
 have o_PutTwice:Zk7 "PutTwice" Ze mg base:=⟨PySem.W.mg_of X G Z0r,_,_,_,_,_,_,_,_,_,_,_,_,_,_,_,_,_,Kb _ _ xl_PutTwice,.of_isNs (PySem.W.isNs_of_in Kb (Jl xN_PutTwice xe_PutTwice)),PySem.W.nsMap_none_of_in Kb (Jl xN_PutTwice xe_PutTwice) xi_PutTwice,.own (Kb _ _ xl_HallError) (.of_isNs (PySem.W.isNs_of_in Kb (Jl xN_HallError xe_HallError))) (PySem.W.nsMap_none_of_in Kb (Jl xN_HallError xe_HallError) xi_HallError) .base⟩
 have o_HeldTwice:Zk7 "HeldTwice" Zd mg base:=⟨PySem.W.mg_of X G Z0g,_,_,_,_,_,_,_,_,_,_,_,_,_,_,_,_,_,Kb _ _ xl_HeldTwice,.of_isNs (PySem.W.isNs_of_in Kb (Jl xN_HeldTwice xe_HeldTwice)),PySem.W.nsMap_none_of_in Kb (Jl xN_HeldTwice xe_HeldTwice) xi_HeldTwice,.own (Kb _ _ xl_HallError) (.of_isNs (PySem.W.isNs_of_in Kb (Jl xN_HallError xe_HallError))) (PySem.W.nsMap_none_of_in Kb (Jl xN_HallError xe_HallError) xi_HallError) .base⟩
 have o_NoSeries:Zk7 "NoSeries" Zf mg base:=⟨PySem.W.mg_of X G Z0s,_,_,_,_,_,_,_,_,_,_,_,_,_,_,_,_,_,Kb _ _ xl_NoSeries,.of_isNs (PySem.W.isNs_of_in Kb (Jl xN_NoSeries xe_NoSeries)),PySem.W.nsMap_none_of_in Kb (Jl xN_NoSeries xe_NoSeries) xi_NoSeries,.own (Kb _ _ xl_HallError) (.of_isNs (PySem.W.isNs_of_in Kb (Jl xN_HallError xe_HallError))) (PySem.W.nsMap_none_of_in Kb (Jl xN_HallError xe_HallError) xi_HallError) .base⟩
 have o_RunBack:Zk7 "RunBack" Zq mg base:=⟨PySem.W.mg_of X G Z0F,_,_,_,_,_,_,_,_,_,_,_,_,_,_,_,_,_,Kb _ _ xl_RunBack,.of_isNs (PySem.W.isNs_of_in Kb (Jl xN_RunBack xe_RunBack)),PySem.W.nsMap_none_of_in Kb (Jl xN_RunBack xe_RunBack) xi_RunBack,.own (Kb _ _ xl_HallError) (.of_isNs (PySem.W.isNs_of_in Kb (Jl xN_HallError xe_HallError))) (PySem.W.nsMap_none_of_in Kb (Jl xN_HallError xe_HallError) xi_HallError) .base⟩
 have Zkm:ZrX K mg "Never" Zk:=⟨PySem.W.mg_of X G Z1i,Z1o,in_Never,Z1p⟩
 have ZkD:Cal l.prog w K mg base CX0 1 "never" [] (Zi6 Zk Zi Zj Zb):=⟨_,_,PySem.W.mg_of X G Z0W,ZkW.kp,ZkW.binds (fun _ _ _ _ _ _=>ZtN rfl),ZpO ZkW T Zkm⟩
 have Zkn:Zk3 l.prog w K mg base CX0 1 "After" Zi ["self","kind","days"] (Zcu Zi):=⟨_,_,PySem.W.mg_of X G Z1j,⟨Z1s,Z06,ZkZ,Z1t⟩,ZfY.binds (fun _ _ _ _ _ _=>ZiO fun _ _ _=>rfl),ZiW ZfY T T.cl_After T.n_After_kind T.n_After_days⟩
 have ZkB:Cal l.prog w K mg base CX0 3 "after" ["kind","days"] (Zi7 Zk Zi Zj Zb):=⟨_,_,PySem.W.mg_of X G Z0X,ZkX.kp,ZkX.binds (fun _ _ _ _ _ _=>Jh fun _ _=>rfl),ZpQ ZkX T Zkn⟩
 have Zko:Zk3 l.prog w K mg base CX0 1 "Later" Zj ["self","one","other"] (Zan Zj):=⟨_,_,PySem.W.mg_of X G Z1k,⟨Z1w,Z07,Zl0,Z1x⟩,ZfZ.binds (fun _ _ _ _ _ _=>ZiO fun _ _ _=>rfl),ZfG ZfZ T T.cl_Later T.n_Later_one T.n_Later_other⟩
 have ZkC:Cal l.prog w K mg base CX0 3 "later" ["one","other"] (Zi8 Zk Zi Zj Zb):=⟨_,_,PySem.W.mg_of X G Z0Y,ZkY.kp,ZkY.binds (fun _ _ _ _ _ _=>Jh fun _ _=>rfl),ZpS ZkY T Zko⟩
 have Zgn:Zk3 l.prog w K mg base CX0 1 "Earlier" Zb ["self","one","other"] (Zan Zb):=⟨_,_,PySem.W.mg_of X G Z0Q,⟨Z0S,X3,ZiJ,Z0T⟩,Ze6.binds (fun _ _ _ _ _ _=>ZiO fun _ _ _=>rfl),ZfG Ze6 T T.cl_Earlier T.n_Earlier_one T.n_Earlier_other⟩
 have Zgv:Cal l.prog w K mg base CX0 3 "earlier" ["one","other"] (ZeQ Zk Zi Zj Zb):=⟨_,_,PySem.W.mg_of X G Z0x,ZgE.kp,ZgE.binds (fun _ _ _ _ _ _=>Jh fun _ _=>rfl),ZmA ZgE T Zgn⟩
 have Zgq:Cal l.prog w K mg base CX0 1 "line_of" ["book","name"] (ZeR Zk Zi Zj Zb):=⟨_,_,PySem.W.mg_of X G Z0y,ZgF.kp,ZgF.binds (fun _ _ _ _ _ _=>Jh fun _ _=>rfl),ZmB ZgF T⟩
 have XX:Cal l.prog w K mg base CX0 1 "owning_series" ["book","name"] (JR Zk Zi Zj Zb):=⟨_,_,PySem.W.mg_of X G Y0,Zbi.kp,Zbi.binds (fun _ _ _ _ _ _=>Jh fun _ _=>rfl),Zgo Zbi T⟩
 have ZeY:Cal l.prog w K mg base CX0 2 "owner_of" ["book","name"] (ZdO Zk Zi Zj Zb):=⟨_,_,PySem.W.mg_of X G Z0h,Zf9.kp,Zf9.binds (fun _ _ _ _ _ _=>Jh fun _ _=>rfl),Zlp Zf9 T XX⟩
 have Zby:Cal l.prog w K mg base CX0 2 "term_of" ["book","name"] (Zde Zk Zi Zj Zb):=⟨_,_,PySem.W.mg_of X G Z0z,ZgG.kp,ZgG.binds (fun _ _ _ _ _ _=>Jh fun _ _=>rfl),ZmD ZgG T XX⟩
 have Ja:Cal l.prog w K mg base CX0 1 "counted" ["rows","day"] ZaG:=⟨_,_,PySem.W.mg_of X G Z0A,ZgH.kp,ZgH.binds (fun _ _ _ _ _ _=>Jh fun _ _=>rfl),ZmF ZgH T⟩
 have Zdw:∀n,Zag l.prog w K mg base CX0 (0+n+1) "due" ["self","life"] (Zcv Zk Zi Zj Zb n) (fun C=>C=Zk\/C=Zi\/C=Zj\/C=Zb):=fun n=>by
  induction n with
  |zero=>
   refine⟨fun C hC=> ?_⟩;rcases hC with hC|hC|hC|hC
   ·cases hC.symm;exact⟨T.cl_Never,_,_,⟨J7,ZgX,Zb2.kp⟩,Zb2.binds (fun _ _ _ _ _ _=>Jh fun _ _=>rfl),Xw ZfB⟩
   ·cases hC.symm;exact⟨T.cl_After,_,_,⟨J8,ZgY,Zb3.kp⟩,Zb3.binds (fun _ _ _ _ _ _=>Jh fun _ _=>rfl),Xw ZfB⟩
   ·cases hC.symm;exact⟨T.cl_Later,_,_,⟨J9,ZgZ,Zb4.kp⟩,Zb4.binds (fun _ _ _ _ _ _=>Jh fun _ _=>rfl),Xw ZfB⟩
   ·cases hC.symm;exact⟨T.cl_Earlier,_,_,⟨Y7,ZeC,Za4.kp⟩,Za4.binds (fun _ _ _ _ _ _=>Jh fun _ _=>rfl),Xw ZfB⟩
  |succ n ih=>
   refine⟨fun C hC=> ?_⟩;rcases hC with hC|hC|hC|hC
   ·cases hC.symm;exact⟨T.cl_Never,_,_,⟨J7,ZgX,Zb2.kp⟩,Zb2.binds (fun _ _ _ _ _ _=>Jh fun _ _=>rfl),ZkF Zb2 T n⟩
   ·cases hC.symm;exact⟨T.cl_After,_,_,⟨J8,ZgY,Zb3.kp⟩,Zb3.binds (fun _ _ _ _ _ _=>Jh fun _ _=>rfl),ZkH Zb3 T n⟩
   ·cases hC.symm;exact⟨T.cl_Later,_,_,⟨J9,ZgZ,Zb4.kp⟩,Zb4.binds (fun _ _ _ _ _ _=>Jh fun _ _=>rfl),ZkI Zb4 T n ih⟩
   ·cases hC.symm;exact⟨T.cl_Earlier,_,_,⟨Y7,ZeC,Za4.kp⟩,Za4.binds (fun _ _ _ _ _ _=>Jh fun _ _=>rfl),Zio Za4 T n ih⟩
 have Zdj:Cal l.prog w K mg base CX0 1 "is_laid_on" ["row","record","over"] Zcx:=⟨_,_,PySem.W.mg_of X G Z04,Zds.kp,Zds.binds (fun _ _ _ _ _ _=>ZiO fun _ _ _=>rfl),ZiY Zds T⟩
 have Jv:Cal l.prog w K mg base CX0 1 "standing" ["rows"] ZaW:=⟨_,_,PySem.W.mg_of X G Z0j,Zfb.kp,Zfb.binds (fun _ _ _ _ _ _=>Zc7 fun _=>rfl),Zlx Zfb T⟩
 have ZeX:Cal l.prog w K mg base CX0 2 "holds_on" ["rows","record","line"] ZdQ:=⟨_,_,PySem.W.mg_of X G Z0i,Zfa.kp,Zfa.binds (fun _ _ _ _ _ _=>ZiO fun _ _ _=>rfl),ZlA Zfa T Zdj Jv⟩
 have Zaq:Cal l.prog w K mg base CX0 1 "is_put" ["rows","record"] ZcN:=⟨_,_,PySem.W.mg_of X G Z0O,ZiI.kp,ZiI.binds (fun _ _ _ _ _ _=>Jh fun _ _=>rfl),Zog ZiI T⟩
 have Zbx:Cal l.prog w K mg base CX0 1 "life_of" ["rows","record"] Zdf:=⟨_,_,PySem.W.mg_of X G Z0B,ZgI.kp,ZgI.binds (fun _ _ _ _ _ _=>Jh fun _ _=>rfl),ZmG ZgI T⟩
 have Zaf:Cal l.prog w K mg base CX0 1 "series_of" ["rows","record"] Zbs:=⟨_,_,PySem.W.mg_of X G Z0d,Ze3.kp,Ze3.binds (fun _ _ _ _ _ _=>Jh fun _ _=>rfl),Zkr Ze3 T⟩
 have ZeZ:Cal l.prog w K mg base CX0 1 "word_for" ["due","holds","day"] ZdR:=⟨_,_,PySem.W.mg_of X G Z0k,Zfc.kp,Zfc.binds (fun _ _ _ _ _ _=>ZiO fun _ _ _=>rfl),Zlv Zfc T⟩
 have ZcR:Cal l.prog w K mg base CX0 14 "judged" ["book","rows","record","day"] (Zeo Zk Zi Zj Zb):=⟨_,_,PySem.W.mg_of X G Z0M,ZiG.kp,ZiG.binds (fun _ _ _ _ _ _=>ZrZ fun _ _ _ _=>rfl),Zok ZiG T Ja (Zdw 12) ZeX Zaq Zbx Zgq ZeY Zaf Zby ZeZ⟩
 have ZaY:∀n,Zag l.prog w K mg base CX0 (0+n+1) "leaves" ["self"] (Zae Zk Zi Zj Zb n) (fun C=>C=Zk\/C=Zi\/C=Zj\/C=Zb):=fun n=>by
  induction n with
  |zero=>
   refine⟨fun C hC=> ?_⟩;rcases hC with hC|hC|hC|hC
   ·cases hC.symm;exact⟨T.cl_Never,_,_,⟨Z6,Ze7,JL.kp⟩,JL.binds (fun _ _ _ _ _ _=>Zc7 fun _=>rfl),Xw Zce⟩
   ·cases hC.symm;exact⟨T.cl_After,_,_,⟨Z7,Ze8,JM.kp⟩,JM.binds (fun _ _ _ _ _ _=>Zc7 fun _=>rfl),Xw Zce⟩
   ·cases hC.symm;exact⟨T.cl_Later,_,_,⟨Z8,Ze9,JN.kp⟩,JN.binds (fun _ _ _ _ _ _=>Zc7 fun _=>rfl),Xw Zce⟩
   ·cases hC.symm;exact⟨T.cl_Earlier,_,_,⟨Z3,ZcW,Jo.kp⟩,Jo.binds (fun _ _ _ _ _ _=>Zc7 fun _=>rfl),Xw Zce⟩
  |succ n ih=>
   refine⟨fun C hC=> ?_⟩;rcases hC with hC|hC|hC|hC
   ·cases hC.symm;exact⟨T.cl_Never,_,_,⟨Z6,Ze7,JL.kp⟩,JL.binds (fun _ _ _ _ _ _=>Zc7 fun _=>rfl),Zh6 JL T n⟩
   ·cases hC.symm;exact⟨T.cl_After,_,_,⟨Z7,Ze8,JM.kp⟩,JM.binds (fun _ _ _ _ _ _=>Zc7 fun _=>rfl),Zh8 JM T n⟩
   ·cases hC.symm;exact⟨T.cl_Later,_,_,⟨Z8,Ze9,JN.kp⟩,JN.binds (fun _ _ _ _ _ _=>Zc7 fun _=>rfl),ZdU JN T n (.inl rfl) ih⟩
   ·cases hC.symm;exact⟨T.cl_Earlier,_,_,⟨Z3,ZcW,Jo.kp⟩,Jo.binds (fun _ _ _ _ _ _=>Zc7 fun _=>rfl),ZdU Jo T n (.inr (rfl)) ih⟩
 have Ziu:Cal l.prog w K mg base CX0 14 "reason" ["book","rows","record","day"] (Zgm Zk Zi Zj Zb):=⟨_,_,PySem.W.mg_of X G Z0N,ZiH.kp,ZiH.binds (fun _ _ _ _ _ _=>ZrZ fun _ _ _ _=>rfl),Zol ZiH T Ja (Zdw 12) (ZaY 12) Zaq Zbx Zaf Zby⟩
 have Zgt:Cal l.prog w K mg base CX0 1 "is_laid" ["rows","hold"] ZeU:=⟨_,_,PySem.W.mg_of X G Z0C,ZgJ.kp,ZgJ.binds (fun _ _ _ _ _ _=>Jh fun _ _=>rfl),ZmK ZgJ T⟩
 have ZbX:Cal l.prog w K mg base CX0 1 "series_named" ["row"] Zbc:=⟨_,_,PySem.W.mg_of X G Y8,Zc2.kp,Zc2.binds (fun _ _ _ _ _ _=>Zc7 fun _=>rfl),Zha Zc2 T⟩
 have Jj:Cal l.prog w K mg base CX0 1 "_law_cell_at" ["_law_script","_law_k"] (Zao K):=⟨_,_,PySem.W.mg_of X G X8,ZcD.kp,ZcD.binds (fun _ _ _ _ _ _=>Jh fun _ _=>rfl),Ziq ZcD T⟩
 have Yk:Cal l.prog w K mg base CX0 1 "_law_name_by" ["_law_cell","_law_k"] Xz:=⟨_,_,PySem.W.mg_of X G J3,ZcE.kp,ZcE.binds (fun _ _ _ _ _ _=>Jh fun _ _=>rfl),Zil ZcE T⟩
 have Zbe:Cal l.prog w K mg base CX0 1 "_law_length_by" ["_law_cell"] ZaF:=⟨_,_,PySem.W.mg_of X G Y4,Zbj.kp,Zbj.binds (fun _ _ _ _ _ _=>Zc7 fun _=>rfl),Zgw Zbj T⟩
 have ZcA:Cal l.prog w K mg base CX0 2 "_law_tree_by" ["_law_cells","_law_names_by","_law_most"] ZbN:=⟨_,_,PySem.W.mg_of X G J5,ZcF.kp,ZcF.binds (fun _ _ _ _ _ _=>ZiO fun _ _ _=>rfl),Zin ZcF T Zbe Yk⟩
 have JK:∀n,Cal l.prog w K mg base CX0 (3+n+1) "_law_made" ["_law_tree"] (ZaV Zk Zi Zj Zb n):=fun n=>by
  induction n with
  |zero=>exact⟨_,_,PySem.W.mg_of X G Z0b,Zc3.kp,Zc3.binds (fun _ _ _ _ _ _=>Zc7 fun _=>rfl),Xw ZiT⟩
  |succ n ih=>exact⟨_,_,PySem.W.mg_of X G Z0b,Zc3.kp,Zc3.binds (fun _ _ _ _ _ _=>Zc7 fun _=>rfl),ZlK Zc3 T n ih ZkB Zgv ZkC ZkD⟩
 have ZcC:Cal l.prog w K mg base CX0 3 "_law_book_by" ["_law_script","_law_names_by"] (ZbR K):=⟨_,_,PySem.W.mg_of X G J6,ZcG.kp,ZcG.binds (fun _ _ _ _ _ _=>Jh fun _ _=>rfl),Zir ZcG T Jj Yk ZcA⟩
 have Ze2:Cal l.prog w K mg base CX0 17 "_law_terms" ["_law_book"] (Zdg Zk Zi Zj Zb):=⟨_,_,PySem.W.mg_of X G Z0e,Ze4.kp,Ze4.binds (fun _ _ _ _ _ _=>Zc7 fun _=>rfl),ZkJ Ze4 T (JK 12)⟩
 have Zbg:Cal l.prog w K mg base CX0 2 "_law_record_by" ["_law_number","_law_names_by"] ZaI:=⟨_,_,PySem.W.mg_of X G Y5,Zbk.kp,Zbk.binds (fun _ _ _ _ _ _=>Jh fun _ _=>rfl),ZgA Zbk T Yk⟩
 have Zbf:Cal l.prog w K mg base CX0 1 "_law_number_by" ["_law_cell","_law_names_by"] ZaH:=⟨_,_,PySem.W.mg_of X G Y6,Zbl.kp,Zbl.binds (fun _ _ _ _ _ _=>Jh fun _ _=>rfl),Zgy Zbl T⟩
 have Zdr:Cal l.prog w K mg base CX0 3 "_law_row_by" ["_law_cell","_law_names_by","_law_far","_law_book"] Zcz:=⟨_,_,PySem.W.mg_of X G Z05,Zdt.kp,Zdt.binds (fun _ _ _ _ _ _=>ZrZ fun _ _ _ _=>rfl),Zj8 Zdt T Yk Zbf Zbg⟩
 have Zck:Cal l.prog w K mg base CX0 1 "_law_alone" ["_law_kept"] (Zdq Ze Zd Zf Zq):=⟨_,_,PySem.W.mg_of X G Z0f,Ze5.kp,Ze5.binds (fun _ _ _ _ _ _=>Zc7 fun _=>rfl),ZkQ Ze5 T⟩
 have Zc1:Cal l.prog w K mg base CX0 1 "_law_sort_due" ["_law_row","_law_rows","_law_names"] Zbh:=⟨_,_,PySem.W.mg_of X G Y9,Zc4.kp,Zc4.binds (fun _ _ _ _ _ _=>ZiO fun _ _ _=>rfl),Zhe Zc4 T⟩
 have Zf6:Cal l.prog w K mg base CX0 2 "_law_sort" ["_law_kept"] (Ze1 Ze Zd Zf Zq):=⟨_,_,PySem.W.mg_of X G Z0l,Zfd.kp,Zfd.binds (fun _ _ _ _ _ _=>Zc7 fun _=>rfl),ZlQ Zfd T Zck⟩
 have Ziw:∀n,Zag l.prog w K mg base CX0 (14+n+1) "due_on" ["self","day"] (Zew Zk Zi Zj Zb n) (fun C=>C=Zt):=fun n=>by
  induction n with
  |zero=>
   refine⟨fun C hC=> ?_⟩;rcases hC with hC
   ·cases hC.symm;exact⟨T.cl_House,_,_,⟨Z9,Zea,JP.kp⟩,JP.binds (fun _ _ _ _ _ _=>Jh fun _ _=>rfl),Xw ZlN⟩
  |succ n ih=>
   refine⟨fun C hC=> ?_⟩;rcases hC with hC
   ·cases hC.symm;exact⟨T.cl_House,_,_,⟨Z9,Zea,JP.kp⟩,JP.binds (fun _ _ _ _ _ _=>Jh fun _ _=>rfl),Zhd JP T n Ja ZcR Ziu Jv⟩
 have Zqh:∀n,Zag l.prog w K mg base (CXr l.prog w) (27+n+1) "run" ["self","day"] (ZkM Zk Zi Zj Zb Zq n) (fun C=>C=Zt):=fun n=>by
  induction n with
  |zero=>
   refine⟨fun C hC=> ?_⟩;rcases hC with hC
   ·cases hC.symm;exact⟨T.cl_House,_,_,⟨Z00,Zh0,Zb5.kp⟩,Zb5.binds (fun _ _ _ _ _ _=>Jh fun _ _=>rfl),Xw Zqb⟩
  |succ n ih=>
   refine⟨fun C hC=> ?_⟩;rcases hC with hC
   ·cases hC.symm;exact⟨T.cl_House,_,_,⟨Z00,Zh0,Zb5.kp⟩,Zb5.binds (fun _ _ _ _ _ _=>Jh fun _ _=>rfl),ZkN Zb5 T n o_RunBack (Ziw 12)⟩
 have Zf3:∀n,Zag l.prog w K mg base CX0 (0+n+1) "keep_row" ["self","row"] (Zch Zk Zi Zj Zb n) (fun C=>C=Zt):=fun n=>by
  induction n with
  |zero=>
   refine⟨fun C hC=> ?_⟩;rcases hC with hC
   ·cases hC.symm;exact⟨T.cl_House,_,_,⟨Z4,ZcX,Jp.kp⟩,Jp.binds (fun _ _ _ _ _ _=>Jh fun _ _=>rfl),Xw Zj5⟩
  |succ n ih=>
   refine⟨fun C hC=> ?_⟩;rcases hC with hC
   ·cases hC.symm;exact⟨T.cl_House,_,_,⟨Z4,ZcX,Jp.kp⟩,Jp.binds (fun _ _ _ _ _ _=>Jh fun _ _=>rfl),ZfM Jp T n⟩
 have Zdm:∀n,Zag l.prog w K mg base (CXr l.prog w) (1+n+1) "refuse_row" ["self","row"] (ZaO Zk Zi Zj Zb Ze Zd Zf n) (fun C=>C=Zt):=fun n=>by
  induction n with
  |zero=>
   refine⟨fun C hC=> ?_⟩;rcases hC with hC
   ·cases hC.symm;exact⟨T.cl_House,_,_,⟨Z0,Zc5,XD.kp⟩,XD.binds (fun _ _ _ _ _ _=>Jh fun _ _=>rfl),Xw Zhb⟩
  |succ n ih=>
   refine⟨fun C hC=> ?_⟩;rcases hC with hC
   ·cases hC.symm;exact⟨T.cl_House,_,_,⟨Z0,Zc5,XD.kp⟩,XD.binds (fun _ _ _ _ _ _=>Jh fun _ _=>rfl),Zey XD T n o_PutTwice o_HeldTwice o_NoSeries Zgt Zaq ZbX⟩
 have Zdn:∀n,Zag l.prog w K mg base CX0 (0+n+1) "touched_by" ["self","row"] (ZaP Zk Zi Zj Zb n) (fun C=>C=Zt):=fun n=>by
  induction n with
  |zero=>
   refine⟨fun C hC=> ?_⟩;rcases hC with hC
   ·cases hC.symm;exact⟨T.cl_House,_,_,⟨Z1,Zc6,XF.kp⟩,XF.binds (fun _ _ _ _ _ _=>Jh fun _ _=>rfl),Xw Zhc⟩
  |succ n ih=>
   refine⟨fun C hC=> ?_⟩;rcases hC with hC
   ·cases hC.symm;exact⟨T.cl_House,_,_,⟨Z1,Zc6,XF.kp⟩,XF.binds (fun _ _ _ _ _ _=>Jh fun _ _=>rfl),ZeA XF T n⟩
 have ZdZ:∀n,Zag l.prog w K mg base CX0 (14+n+1) "words_now" ["self","records"] (Zbv Zk Zi Zj Zb n) (fun C=>C=Zt):=fun n=>by
  induction n with
  |zero=>
   refine⟨fun C hC=> ?_⟩;rcases hC with hC
   ·cases hC.symm;exact⟨T.cl_House,_,_,⟨Z2,Zcn,Jg.kp⟩,Jg.binds (fun _ _ _ _ _ _=>Jh fun _ _=>rfl),Xw Zij⟩
  |succ n ih=>
   refine⟨fun C hC=> ?_⟩;rcases hC with hC
   ·cases hC.symm;exact⟨T.cl_House,_,_,⟨Z2,Zcn,Jg.kp⟩,Jg.binds (fun _ _ _ _ _ _=>Jh fun _ _=>rfl),Zf2 Jg T n Ja ZcR Jv⟩
 have ZmV:∀n,Zag l.prog w K mg base (CXr l.prog w) (27+n+1) "tell" ["self","row"] (Zhu Zk Zi Zj Zb Ze Zd Zf n) (fun C=>C=Zt):=fun n=>by
  induction n with
  |zero=>
   refine⟨fun C hC=> ?_⟩;rcases hC with hC
   ·cases hC.symm;exact⟨T.cl_House,_,_,⟨X5,Zg1,Zaw.kp⟩,Zaw.binds (fun _ _ _ _ _ _=>Jh fun _ _=>rfl),Xw Zos⟩
  |succ n ih=>
   refine⟨fun C hC=> ?_⟩;rcases hC with hC
   ·cases hC.symm;exact⟨T.cl_House,_,_,⟨X5,Zg1,Zaw.kp⟩,Zaw.binds (fun _ _ _ _ _ _=>Jh fun _ _=>rfl),Zja Zaw T n (Zf3 12) (Zdm 12) (Zdn 12) (ZdZ 12)⟩
 have Zf8:Cal l.prog w K mg base CX0 41 "_law_told" ["_law_house","_law_row","_law_day"] (Zcl Zk Zi Zj Zb Zt):=⟨_,_,PySem.W.mg_of X G Z0m,Zfe.kp,Zfe.binds (fun _ _ _ _ _ _=>ZiO fun _ _ _=>rfl),ZlR Zfe T Zf6 (Zqh 12) (ZmV 12)⟩
 have ZgD:Cal l.prog w K mg base CX0 1 "_law_odd" ["_law_row","_law_cell","_law_name"] Zf7:=⟨_,_,PySem.W.mg_of X G Z0D,ZgK.kp,ZgK.binds (fun _ _ _ _ _ _=>ZiO fun _ _ _=>rfl),ZmX ZgK T⟩
 have ZkS:Zk3 l.prog w K mg base CX0 1 "House" Zt ["self","book"] (Zcy Zt):=⟨_,_,PySem.W.mg_of X G Z1l,⟨Z1A,Z08,Zl1,Z1B⟩,Zg0.binds (fun _ _ _ _ _ _=>Jh fun _ _=>rfl),Zj0 Zg0 T T.cl_House T.n_House_book T.n_House_told T.n_House_own T.n_House_holdings T.n_House_run_days T.n_House_taken T.n_House_words⟩
 have ZkT:∀n,Zag l.prog w K mg base CX0 (0+n+1) "gone" ["self"] (Zho Zk Zi Zj Zb n) (fun C=>C=Zt):=fun n=>by
  induction n with
  |zero=>
   refine⟨fun C hC=> ?_⟩;rcases hC with hC
   ·cases hC.symm;exact⟨T.cl_House,_,_,⟨X6,Zg2,Zax.kp⟩,Zax.binds (fun _ _ _ _ _ _=>Zc7 fun _=>rfl),Xw Zoe⟩
  |succ n ih=>
   refine⟨fun C hC=> ?_⟩;rcases hC with hC
   ·cases hC.symm;exact⟨T.cl_House,_,_,⟨X6,Zg2,Zax.kp⟩,Zax.binds (fun _ _ _ _ _ _=>Zc7 fun _=>rfl),Zj4 Zax T n⟩
 have Zex:∀n,Zag l.prog w K mg base CX0 (0+n+1) "regrets" ["self"] (Zdp Zk Zi Zj Zb n) (fun C=>C=Zt):=fun n=>by
  induction n with
  |zero=>
   refine⟨fun C hC=> ?_⟩;rcases hC with hC
   ·cases hC.symm;exact⟨T.cl_House,_,_,⟨Z5,Zdx,Jw.kp⟩,Jw.binds (fun _ _ _ _ _ _=>Zc7 fun _=>rfl),Xw ZkP⟩
  |succ n ih=>
   refine⟨fun C hC=> ?_⟩;rcases hC with hC
   ·cases hC.symm;exact⟨T.cl_House,_,_,⟨Z5,Zdx,Jw.kp⟩,Jw.binds (fun _ _ _ _ _ _=>Zc7 fun _=>rfl),ZgC Jw T n⟩
 have ZiE:∀n,Zag l.prog w K mg base CX0 (0+n+1) "rows" ["self"] (Zhn Zk Zi Zj Zb n) (fun C=>C=Zt):=fun n=>by
  induction n with
  |zero=>
   refine⟨fun C hC=> ?_⟩;rcases hC with hC
   ·cases hC.symm;exact⟨T.cl_House,_,_,⟨X7,Zg3,Zay.kp⟩,Zay.binds (fun _ _ _ _ _ _=>Zc7 fun _=>rfl),Xw Zod⟩
  |succ n ih=>
   refine⟨fun C hC=> ?_⟩;rcases hC with hC
   ·cases hC.symm;exact⟨T.cl_House,_,_,⟨X7,Zg3,Zay.kp⟩,Zay.binds (fun _ _ _ _ _ _=>Zc7 fun _=>rfl),Zj2 Zay T n⟩
 exact Zsu Ztr T ZkS ZcC Jj Yk ZgD Zdr Zc1 Ze2 Zf8 (ZkT 12) (Zex 12) (ZiE 12)
end K32
namespace PySem.W.Fast
theorem tw2375527427363593216:0=0:=rfl
theorem tw6629941326669817856:0=0:=rfl
theorem tw17892457533397700640:0=0:=rfl
theorem tw11047214581938680928:0=0:=rfl
theorem tw18386652798897474656:0=0:=rfl
theorem tw9096396059051404512:0=0:=rfl
theorem tw11622741149504132352:0=0:=rfl
theorem tw17374448188779478304:0=0:=rfl
theorem tw997805788078199104:0=0:=rfl
theorem tw15262894332708148544:0=0:=rfl
theorem tw14118692872363142496:0=0:=rfl
theorem tw14097385459936247168:0=0:=rfl
theorem tw18318306739522095488:0=0:=rfl
theorem tw1275532082274038144:0=0:=rfl
theorem tw11662221127263139328:0=0:=rfl
theorem tw14051324443922923008:0=0:=rfl
theorem tw17485505077746500128:0=0:=rfl
theorem tw5125331637059378720:0=0:=rfl
theorem tw8687510523811917344:0=0:=rfl
theorem tw17628411276283517504:0=0:=rfl
theorem tw4467908013185942144:0=0:=rfl
theorem tw15681559665304192672:0=0:=rfl
theorem tw9621554984955100864:0=0:=rfl
theorem tw7704130739406526272:0=0:=rfl
theorem tw13269829608490658752:0=0:=rfl
theorem tw3136738114393788417:0=0:=rfl
theorem tw401116681872156705:0=0:=rfl
theorem tw14607542724332901441:0=0:=rfl
theorem tw6471157431856926913:0=0:=rfl
theorem tw2059418095557864737:0=0:=rfl
theorem tw15156683540191356225:0=0:=rfl
theorem tw16902041460237047265:0=0:=rfl
theorem tw13898361392535239169:0=0:=rfl
theorem tw14746060840882856513:0=0:=rfl
theorem tw1834862047687545441:0=0:=rfl
theorem tw3665120990145325729:0=0:=rfl
theorem tw7336731447231980289:0=0:=rfl
theorem tw7980039772224964385:0=0:=rfl
theorem tw8620514875800630049:0=0:=rfl
theorem tw8255444290657909665:0=0:=rfl
theorem tw6174269044297856993:0=0:=rfl
theorem tw7850697916028942305:0=0:=rfl
theorem tw15163200809859521538:0=0:=rfl
theorem tw4742099998498120770:0=0:=rfl
theorem tw925528366005555394:0=0:=rfl
theorem tw7591613466151632066:0=0:=rfl
theorem tw11438035394242920674:0=0:=rfl
theorem tw9020191187490468066:0=0:=rfl
theorem tw18056606142751856962:0=0:=rfl
theorem tw14365891262120183106:0=0:=rfl
theorem tw6779001519543274850:0=0:=rfl
theorem tw8323554769375154626:0=0:=rfl
theorem tw4375827532937648578:0=0:=rfl
theorem tw9121579427744967170:0=0:=rfl
theorem tw7097521701389092386:0=0:=rfl
theorem tw11061963352119341634:0=0:=rfl
theorem tw1839117434780576386:0=0:=rfl
theorem tw10845055817448443714:0=0:=rfl
theorem tw1756992839187430242:0=0:=rfl
theorem tw12994235588958786498:0=0:=rfl
theorem tw4753835445438411714:0=0:=rfl
theorem tw17853722374483268578:0=0:=rfl
theorem tw11540980428487022562:0=0:=rfl
theorem tw10479299486525852675:0=0:=rfl
theorem tw14375165027112327171:0=0:=rfl
theorem tw8669685544958559267:0=0:=rfl
theorem tw4957912314391199811:0=0:=rfl
theorem tw7631717950455545955:0=0:=rfl
theorem tw6797281587367454883:0=0:=rfl
theorem tw8700946970359531683:0=0:=rfl
theorem tw5710237628178399459:0=0:=rfl
theorem tw10640808985847426275:0=0:=rfl
theorem tw802607397496684835:0=0:=rfl
theorem tw4574020111611929891:0=0:=rfl
theorem tw18143175482672040227:0=0:=rfl
theorem tw8805548013145618723:0=0:=rfl
theorem tw15273723546544961923:0=0:=rfl
theorem tw14243693750717038019:0=0:=rfl
theorem tw3111155649220846083:0=0:=rfl
theorem tw14244623515647466051:0=0:=rfl
theorem tw8605015036756690595:0=0:=rfl
theorem tw13411811450301332131:0=0:=rfl
theorem tw13403902060150026915:0=0:=rfl
theorem tw12978074959270050499:0=0:=rfl
theorem tw15257527115583217347:0=0:=rfl
theorem tw14438076155477198563:0=0:=rfl
theorem tw18230186077742000963:0=0:=rfl
theorem tw16123008122288512867:0=0:=rfl
theorem tw12257406036864722787:0=0:=rfl
theorem tw3017675137909334947:0=0:=rfl
theorem tw14188309637427048387:0=0:=rfl
theorem tw7715708044684220420:0=0:=rfl
theorem tw5081036996805693444:0=0:=rfl
theorem tw5217578477500626980:0=0:=rfl
theorem tw5460757028694624388:0=0:=rfl
theorem tw17177124178493037764:0=0:=rfl
theorem tw11258685989727726820:0=0:=rfl
theorem tw660692736470700292:0=0:=rfl
theorem tw7387645786176776484:0=0:=rfl
theorem tw4010323416145284388:0=0:=rfl
theorem tw16963085873209727332:0=0:=rfl
theorem tw10209797831248049572:0=0:=rfl
theorem tw13652416738763878020:0=0:=rfl
theorem tw13144064311159456484:0=0:=rfl
theorem tw4259046649487199972:0=0:=rfl
theorem tw6122219924673699556:0=0:=rfl
theorem tw2586733471844732676:0=0:=rfl
theorem tw3186153854926769988:0=0:=rfl
theorem tw2551597702091408228:0=0:=rfl
theorem tw5706505904595815268:0=0:=rfl
theorem tw13596929348786667396:0=0:=rfl
theorem tw17067502927277453220:0=0:=rfl
theorem tw5861867132603249604:0=0:=rfl
theorem tw8756206534068017124:0=0:=rfl
theorem tw168977650320263173:0=0:=rfl
theorem tw18446435675645148165:0=0:=rfl
theorem tw7641994467841155109:0=0:=rfl
theorem tw2459467001687075941:0=0:=rfl
theorem tw1303583788594575461:0=0:=rfl
theorem tw16643576855908633797:0=0:=rfl
theorem tw9502794161827269861:0=0:=rfl
theorem tw17631086578386983173:0=0:=rfl
theorem tw8354903651838717221:0=0:=rfl
theorem tw7437754031067187589:0=0:=rfl
theorem tw2700447951994167685:0=0:=rfl
theorem tw16592957804164345285:0=0:=rfl
theorem tw6802098822713078213:0=0:=rfl
theorem tw3369059436441724389:0=0:=rfl
theorem tw13868182648479938085:0=0:=rfl
theorem tw5244573423653650053:0=0:=rfl
theorem tw18149256664069771941:0=0:=rfl
theorem tw2489946624459766597:0=0:=rfl
theorem tw2981691685646490501:0=0:=rfl
theorem tw10838190080627765125:0=0:=rfl
theorem tw9571026113832587237:0=0:=rfl
theorem tw11330373254298168390:0=0:=rfl
theorem tw16678611911930675302:0=0:=rfl
theorem tw10255740701609466982:0=0:=rfl
theorem tw9050056343673276582:0=0:=rfl
theorem tw5323061308193119398:0=0:=rfl
theorem tw18406537714635417798:0=0:=rfl
theorem tw12571700889468218598:0=0:=rfl
theorem tw11861436305137622310:0=0:=rfl
theorem tw9064093221487121734:0=0:=rfl
theorem tw1876662524327674182:0=0:=rfl
theorem tw3728594434514509126:0=0:=rfl
theorem tw6133105186022220102:0=0:=rfl
theorem tw8871618707235642758:0=0:=rfl
theorem tw5506899566095440326:0=0:=rfl
theorem tw14574487760020722118:0=0:=rfl
theorem tw2636711471657075174:0=0:=rfl
theorem tw17508670846367892998:0=0:=rfl
theorem tw2613289345884167718:0=0:=rfl
theorem tw610553867668563654:0=0:=rfl
theorem tw7355228491225049926:0=0:=rfl
theorem tw18034494725817262918:0=0:=rfl
theorem tw1799586142052034470:0=0:=rfl
theorem tw13908142073220855718:0=0:=rfl
theorem tw11461057684747570118:0=0:=rfl
theorem tw7354390870940841991:0=0:=rfl
theorem tw11293871565312151623:0=0:=rfl
theorem tw6572905659038466119:0=0:=rfl
theorem tw496743207496012999:0=0:=rfl
theorem tw8529033874724317415:0=0:=rfl
theorem tw17964156461359622375:0=0:=rfl
theorem tw17574948364321561927:0=0:=rfl
theorem tw17365435561242179943:0=0:=rfl
theorem tw6643990288442747239:0=0:=rfl
theorem tw5821000121807109511:0=0:=rfl
theorem tw14999019183381393831:0=0:=rfl
theorem tw2936168160355004839:0=0:=rfl
theorem tw9766927951992341991:0=0:=rfl
theorem tw12090111310716700135:0=0:=rfl
theorem tw5998619644605535751:0=0:=rfl
theorem tw17102842945195683399:0=0:=rfl
theorem tw11046520367413064295:0=0:=rfl
theorem tw12869552244524366439:0=0:=rfl
theorem tw11086048207228106407:0=0:=rfl
theorem tw9193878215677824679:0=0:=rfl
theorem tw14715118969617161927:0=0:=rfl
theorem tw2850423463317489351:0=0:=rfl
theorem tw5121704332312567495:0=0:=rfl
theorem tw2399801148857777927:0=0:=rfl
theorem tw1842139037089800999:0=0:=rfl
theorem tw13870312781856359271:0=0:=rfl
theorem tw12640314399350720359:0=0:=rfl
theorem tw11423152280099900295:0=0:=rfl
theorem tw498015033914165223:0=0:=rfl
theorem tw2057471006985962504:0=0:=rfl
theorem tw13286476741362760744:0=0:=rfl
theorem tw13387856471772209224:0=0:=rfl
theorem tw5526753335232844872:0=0:=rfl
theorem tw9165209587979783272:0=0:=rfl
theorem tw6906804032178620552:0=0:=rfl
theorem tw13504002454366579912:0=0:=rfl
theorem tw12743447937059200232:0=0:=rfl
theorem tw15959851322142640360:0=0:=rfl
theorem tw7685262886310931688:0=0:=rfl
theorem tw5231146772327880968:0=0:=rfl
theorem tw5290770893145099528:0=0:=rfl
theorem tw18156793387887607272:0=0:=rfl
theorem tw9497576428169539080:0=0:=rfl
theorem tw17299697264192763464:0=0:=rfl
theorem tw17320183818355097160:0=0:=rfl
theorem tw18211909736787399240:0=0:=rfl
theorem tw13223964637316972232:0=0:=rfl
theorem tw16253895034022216456:0=0:=rfl
theorem tw14491239851124449032:0=0:=rfl
theorem tw7898159861600097096:0=0:=rfl
theorem tw5499609899667047240:0=0:=rfl
theorem tw10403242808756638568:0=0:=rfl
theorem tw16426840619665615816:0=0:=rfl
theorem tw14878440425104286729:0=0:=rfl
theorem tw3740281204658843689:0=0:=rfl
theorem tw14195610659971989609:0=0:=rfl
theorem tw6975556201505660073:0=0:=rfl
theorem tw69420776565711017:0=0:=rfl
theorem tw3332607982864721065:0=0:=rfl
theorem tw3945769845030478025:0=0:=rfl
theorem tw11673408600279690473:0=0:=rfl
theorem tw834027725534725417:0=0:=rfl
theorem tw8047083833280501033:0=0:=rfl
theorem tw18193746316323952041:0=0:=rfl
theorem tw7112097679903793641:0=0:=rfl
theorem tw204044141604644329:0=0:=rfl
theorem tw14049309317254256201:0=0:=rfl
theorem tw9929294093111536201:0=0:=rfl
theorem tw13210078638915269225:0=0:=rfl
theorem tw4876345922246131369:0=0:=rfl
theorem tw4191224106809712361:0=0:=rfl
theorem tw10589741293630460649:0=0:=rfl
theorem tw14712932475449127721:0=0:=rfl
theorem tw1414366274118072137:0=0:=rfl
theorem tw2693573693897738057:0=0:=rfl
theorem tw5928766379865473897:0=0:=rfl
theorem tw13143759524060425129:0=0:=rfl
theorem tw5210253202195369929:0=0:=rfl
theorem tw13914168945735711786:0=0:=rfl
theorem tw1257998209060726826:0=0:=rfl
theorem tw15159011108813054026:0=0:=rfl
theorem tw2022304325062376554:0=0:=rfl
theorem tw3177197178084391018:0=0:=rfl
theorem tw4727230791946612874:0=0:=rfl
theorem tw10129819823801566378:0=0:=rfl
theorem tw15853523380414105770:0=0:=rfl
theorem tw3430995036329110698:0=0:=rfl
theorem tw16294011073395947690:0=0:=rfl
theorem tw4145460528216739018:0=0:=rfl
theorem tw4731793403019384010:0=0:=rfl
theorem tw16400971125976765834:0=0:=rfl
theorem tw1822236810845685194:0=0:=rfl
theorem tw18191966270717765098:0=0:=rfl
theorem tw4102956935593952778:0=0:=rfl
theorem tw11525877830241147402:0=0:=rfl
theorem tw13600422900158323210:0=0:=rfl
theorem tw4190097830615301674:0=0:=rfl
theorem tw3405155634901526090:0=0:=rfl
theorem tw8244424537656701514:0=0:=rfl
theorem tw9772820158344943178:0=0:=rfl
theorem tw15883482045332838986:0=0:=rfl
theorem tw15956088984262088490:0=0:=rfl
theorem tw712718885001435978:0=0:=rfl
theorem tw972480519372208970:0=0:=rfl
theorem tw2913820053033287498:0=0:=rfl
theorem tw3473151623176212330:0=0:=rfl
theorem tw5854579905468904362:0=0:=rfl
theorem tw18417606262694554570:0=0:=rfl
theorem tw15042344786086578187:0=0:=rfl
theorem tw18393632930419873835:0=0:=rfl
theorem tw10116031356566474859:0=0:=rfl
theorem tw9186613929352543435:0=0:=rfl
theorem tw9912395367676750091:0=0:=rfl
theorem tw11074692889354529035:0=0:=rfl
theorem tw4995158946042919243:0=0:=rfl
theorem tw2842530661434245515:0=0:=rfl
theorem tw7406552094140824971:0=0:=rfl
theorem tw16258781008685961707:0=0:=rfl
theorem tw15174417485813186059:0=0:=rfl
theorem tw11266693404967897643:0=0:=rfl
theorem tw1941945652236787243:0=0:=rfl
theorem tw9139884992713664139:0=0:=rfl
theorem tw3232443108097583755:0=0:=rfl
theorem tw10281901539510041419:0=0:=rfl
theorem tw7286190128835319723:0=0:=rfl
theorem tw2688987319765104716:0=0:=rfl
theorem tw9471694289417306252:0=0:=rfl
theorem tw6187087975289401484:0=0:=rfl
theorem tw15376691632569636044:0=0:=rfl
theorem tw11450480734459477260:0=0:=rfl
theorem tw12657886627375916332:0=0:=rfl
theorem tw16009980924786947404:0=0:=rfl
theorem tw15885972251893651852:0=0:=rfl
theorem tw15120175282684313004:0=0:=rfl
theorem tw15407580324911619660:0=0:=rfl
theorem tw8520306277113772620:0=0:=rfl
theorem tw17707861199064223564:0=0:=rfl
theorem tw18153149586752616300:0=0:=rfl
theorem tw4017152143334136684:0=0:=rfl
theorem tw17942476205616932812:0=0:=rfl
theorem tw15892728639325547500:0=0:=rfl
theorem tw6258255758377510892:0=0:=rfl
theorem tw9122499634124772365:0=0:=rfl
theorem tw11253334044298681453:0=0:=rfl
theorem tw16692334016821175501:0=0:=rfl
theorem tw15542542606467990765:0=0:=rfl
theorem tw13726289006148710669:0=0:=rfl
theorem tw5530994900198480269:0=0:=rfl
theorem tw14238388897476192685:0=0:=rfl
theorem tw2196627772665472461:0=0:=rfl
theorem tw13447179523315813869:0=0:=rfl
theorem tw16943298150251254253:0=0:=rfl
theorem tw2923794893984643565:0=0:=rfl
theorem tw10360346450663835149:0=0:=rfl
theorem tw2396791522749978125:0=0:=rfl
theorem tw10525217203794129517:0=0:=rfl
theorem tw6432606283680603757:0=0:=rfl
theorem tw2629457610206118541:0=0:=rfl
theorem tw2433698325853606541:0=0:=rfl
theorem tw18001067283599433357:0=0:=rfl
theorem tw14861085698328947501:0=0:=rfl
theorem tw14904866788633619502:0=0:=rfl
theorem tw158204617562569774:0=0:=rfl
theorem tw7172125272146274382:0=0:=rfl
theorem tw9498565258496504974:0=0:=rfl
theorem tw4744894841648281806:0=0:=rfl
theorem tw5092669891488387310:0=0:=rfl
theorem tw14143808481972401422:0=0:=rfl
theorem tw11497889486853057838:0=0:=rfl
theorem tw12931696657339495726:0=0:=rfl
theorem tw3220465137299165550:0=0:=rfl
theorem tw15113010821532392942:0=0:=rfl
theorem tw15354762197679876590:0=0:=rfl
theorem tw8305726155276441134:0=0:=rfl
theorem tw13701048472912602702:0=0:=rfl
theorem tw16478681330136884878:0=0:=rfl
theorem tw11154125027232889518:0=0:=rfl
theorem tw12525071942367122126:0=0:=rfl
theorem tw12699522612003452622:0=0:=rfl
theorem tw5077507361167423278:0=0:=rfl
theorem tw13071432584278693678:0=0:=rfl
theorem tw17610928288798857006:0=0:=rfl
theorem tw9897879486370470702:0=0:=rfl
theorem tw7627646425590581070:0=0:=rfl
theorem tw1869195119846351694:0=0:=rfl
theorem tw2864223067971124142:0=0:=rfl
theorem tw5420139727998877678:0=0:=rfl
theorem tw11937790767261694031:0=0:=rfl
theorem tw17922804127176663183:0=0:=rfl
theorem tw10641693594194559151:0=0:=rfl
theorem tw2443305891241926831:0=0:=rfl
theorem tw6713952466493738191:0=0:=rfl
theorem tw6105915354196222159:0=0:=rfl
theorem tw13356012438661818575:0=0:=rfl
theorem tw6440438209465969871:0=0:=rfl
theorem tw17327168848346281199:0=0:=rfl
theorem tw4249920097593919759:0=0:=rfl
theorem tw5253221715962142991:0=0:=rfl
theorem tw7553996002129127695:0=0:=rfl
theorem tw1778857153136864527:0=0:=rfl
theorem tw5271073494370355503:0=0:=rfl
theorem tw10952529376373648687:0=0:=rfl
theorem tw5608598335618131343:0=0:=rfl
theorem tw6041276067036655023:0=0:=rfl
theorem tw17411767472716195247:0=0:=rfl
theorem tw8641363908237494767:0=0:=rfl
theorem tw10923942303542708719:0=0:=rfl
theorem tw1269701988800871919:0=0:=rfl
theorem tw16446071004424229359:0=0:=rfl
theorem tw1112286718241184271:0=0:=rfl
theorem tw2556506510255022607:0=0:=rfl
theorem tw14929068532082370063:0=0:=rfl
theorem tw11358655117359310447:0=0:=rfl
theorem tw10906990505392351887:0=0:=rfl
theorem tw8175962997051468431:0=0:=rfl
theorem tw657760488567094927:0=0:=rfl
theorem tw3182222172474933999:0=0:=rfl
theorem tw9418123056099030799:0=0:=rfl
theorem tw16678945259083573039:0=0:=rfl
theorem tw5361883897327627055:0=0:=rfl
theorem tw18284679623501394767:0=0:=rfl
theorem tw12382218904134332303:0=0:=rfl
theorem tw464927887913745295:0=0:=rfl
theorem tw14144709628770973679:0=0:=rfl
theorem tw5529865745260355600:0=0:=rfl
theorem tw12168068106399815792:0=0:=rfl
theorem tw5784799614928708720:0=0:=rfl
theorem tw1575578043748429072:0=0:=rfl
theorem tw3607979632044844400:0=0:=rfl
theorem tw16462978971394596240:0=0:=rfl
theorem tw2642357522868679088:0=0:=rfl
theorem tw4909866742047706640:0=0:=rfl
theorem tw17246072045850611312:0=0:=rfl
theorem tw3142551290078431856:0=0:=rfl
theorem tw8271139010163122832:0=0:=rfl
theorem tw6120807951024698000:0=0:=rfl
theorem tw4390329412392462160:0=0:=rfl
theorem tw7980270722726502224:0=0:=rfl
theorem tw15369860802929707121:0=0:=rfl
theorem tw5645599579594867857:0=0:=rfl
theorem tw9226847765038575793:0=0:=rfl
theorem tw2663589761645746449:0=0:=rfl
theorem tw4556279709105176849:0=0:=rfl
theorem tw15566230386164241745:0=0:=rfl
theorem tw18304562280781128017:0=0:=rfl
theorem tw14884274874115087793:0=0:=rfl
theorem tw3595709617556868561:0=0:=rfl
theorem tw18274067376829589969:0=0:=rfl
theorem tw6740411322893583921:0=0:=rfl
theorem tw15805313241530039857:0=0:=rfl
theorem tw9000965636947227249:0=0:=rfl
theorem tw13266626440624450193:0=0:=rfl
theorem tw11428581047664016017:0=0:=rfl
theorem tw11616825611620147953:0=0:=rfl
theorem tw7923858780546488081:0=0:=rfl
theorem tw7180573800714358545:0=0:=rfl
theorem tw13686054713412649777:0=0:=rfl
theorem tw18358674825860665265:0=0:=rfl
theorem tw8502158489539885009:0=0:=rfl
theorem tw13651525909221428177:0=0:=rfl
theorem tw10199647297268030546:0=0:=rfl
theorem tw3911766888764829842:0=0:=rfl
theorem tw11303115562004620530:0=0:=rfl
theorem tw13281002876682930418:0=0:=rfl
theorem tw10808853460660676882:0=0:=rfl
theorem tw9570152854666146130:0=0:=rfl
theorem tw7800564616576025970:0=0:=rfl
theorem tw13759726028037752210:0=0:=rfl
theorem tw4120057128172541362:0=0:=rfl
theorem tw1697235891005883986:0=0:=rfl
theorem tw7237946343233451666:0=0:=rfl
theorem tw5298854713782872754:0=0:=rfl
theorem tw14182715844538977106:0=0:=rfl
theorem tw11610540525865934738:0=0:=rfl
theorem tw16843278558181024658:0=0:=rfl
theorem tw1988859415389853618:0=0:=rfl
theorem tw3992355376059993074:0=0:=rfl
theorem tw3642054651838485490:0=0:=rfl
theorem tw11149548017635103763:0=0:=rfl
theorem tw10945772689898561715:0=0:=rfl
theorem tw13114957077717241043:0=0:=rfl
theorem tw8734571001518961939:0=0:=rfl
theorem tw14211494731492307219:0=0:=rfl
theorem tw5000256167635249459:0=0:=rfl
theorem tw6133119491110997331:0=0:=rfl
theorem tw12711480577373660563:0=0:=rfl
theorem tw18171511782529243571:0=0:=rfl
theorem tw3039985420655742419:0=0:=rfl
theorem tw1203114237365389075:0=0:=rfl
theorem tw5970040213695790867:0=0:=rfl
theorem tw16491744428835515251:0=0:=rfl
theorem tw15404240797368224659:0=0:=rfl
theorem tw15581996748006854547:0=0:=rfl
theorem tw8925856694892709779:0=0:=rfl
theorem tw2983986548051017780:0=0:=rfl
theorem tw12001417110067788916:0=0:=rfl
theorem tw12751914742444014708:0=0:=rfl
theorem tw10049601846681170068:0=0:=rfl
theorem tw4307363546963796116:0=0:=rfl
theorem tw16909647165365334196:0=0:=rfl
theorem tw9350064126726684884:0=0:=rfl
theorem tw5454259999966092532:0=0:=rfl
theorem tw12078601448027563284:0=0:=rfl
theorem tw9711791899062886740:0=0:=rfl
theorem tw17920238930262738324:0=0:=rfl
theorem tw17138643988808710548:0=0:=rfl
theorem tw1259783891695240628:0=0:=rfl
theorem tw17248283633006395828:0=0:=rfl
theorem tw17601317161018095028:0=0:=rfl
theorem tw9715069000849309140:0=0:=rfl
theorem tw17703995048684112404:0=0:=rfl
theorem tw6894840870291226228:0=0:=rfl
theorem tw3271083571619371668:0=0:=rfl
theorem tw6751810584142091956:0=0:=rfl
theorem tw8378041896931310356:0=0:=rfl
theorem tw14705407971457027956:0=0:=rfl
theorem tw13657820144668598164:0=0:=rfl
theorem tw17331805612795786164:0=0:=rfl
theorem tw6718952126025886676:0=0:=rfl
theorem tw8497602093088291893:0=0:=rfl
theorem tw17131717090096315477:0=0:=rfl
theorem tw14332400621727968341:0=0:=rfl
theorem tw7245938620392186997:0=0:=rfl
theorem tw6698049643980859541:0=0:=rfl
theorem tw5856482484628471989:0=0:=rfl
theorem tw17173958309125509301:0=0:=rfl
theorem tw11455766056418588917:0=0:=rfl
theorem tw17848170036766123285:0=0:=rfl
theorem tw6960305064139832757:0=0:=rfl
theorem tw4703588543872361973:0=0:=rfl
theorem tw7446003103251354165:0=0:=rfl
theorem tw6975187663196130901:0=0:=rfl
theorem tw16452612592688577173:0=0:=rfl
theorem tw15387463071017086837:0=0:=rfl
theorem tw12402508667437856725:0=0:=rfl
theorem tw4578692521095886870:0=0:=rfl
theorem tw13240169303864761398:0=0:=rfl
theorem tw6143921651160009846:0=0:=rfl
theorem tw11906147434127840470:0=0:=rfl
theorem tw3267787799371654454:0=0:=rfl
theorem tw18401581784816906646:0=0:=rfl
theorem tw4232569318115710454:0=0:=rfl
theorem tw5148583242936169974:0=0:=rfl
theorem tw2820742588710884886:0=0:=rfl
theorem tw15823724741416669750:0=0:=rfl
theorem tw2716955979079518806:0=0:=rfl
theorem tw3470355083182325398:0=0:=rfl
theorem tw10901513789451826838:0=0:=rfl
theorem tw14730711736236723894:0=0:=rfl
theorem tw5088233849610734326:0=0:=rfl
theorem tw12370185434488580886:0=0:=rfl
theorem tw1536721357539794742:0=0:=rfl
theorem tw6692251247262442358:0=0:=rfl
theorem tw19629038582720374:0=0:=rfl
theorem tw525581535939053462:0=0:=rfl
theorem tw2390747439436396470:0=0:=rfl
theorem tw2614707060418986966:0=0:=rfl
theorem tw4357403515764047862:0=0:=rfl
theorem tw10081854488639448054:0=0:=rfl
theorem tw2834545373513045015:0=0:=rfl
theorem tw7283326752733041719:0=0:=rfl
theorem tw12533525919786324023:0=0:=rfl
theorem tw11695352399790200919:0=0:=rfl
theorem tw12717217028348952695:0=0:=rfl
theorem tw9708811624240375959:0=0:=rfl
theorem tw17871863171393675479:0=0:=rfl
theorem tw9780205961182084343:0=0:=rfl
theorem tw3268200966399284503:0=0:=rfl
theorem tw15956945931326752119:0=0:=rfl
theorem tw9916251546888871319:0=0:=rfl
theorem tw17335079015629832599:0=0:=rfl
theorem tw728088203412083127:0=0:=rfl
theorem tw11888917576793002519:0=0:=rfl
theorem tw6349208831802757847:0=0:=rfl
theorem tw5699814788862524151:0=0:=rfl
theorem tw11515061373760625431:0=0:=rfl
theorem tw6776558531833263927:0=0:=rfl
theorem tw2948016569633166167:0=0:=rfl
theorem tw8852244995599392599:0=0:=rfl
theorem tw8712553034898516855:0=0:=rfl
theorem tw17457241067670600567:0=0:=rfl
theorem tw16189558000788069271:0=0:=rfl
theorem tw8467662612523706392:0=0:=rfl
theorem tw4238973738386593848:0=0:=rfl
theorem tw3701161880655903800:0=0:=rfl
theorem tw1766083234391387320:0=0:=rfl
theorem tw12346700962235398360:0=0:=rfl
theorem tw732907814847726808:0=0:=rfl
theorem tw15571231361493952728:0=0:=rfl
theorem tw5923518754846351640:0=0:=rfl
theorem tw2002585886607867224:0=0:=rfl
theorem tw13583382781284607320:0=0:=rfl
theorem tw3773021868351165848:0=0:=rfl
theorem tw7329588823958903256:0=0:=rfl
theorem tw9641942584566889016:0=0:=rfl
theorem tw7218598641451550264:0=0:=rfl
theorem tw15607055130321058360:0=0:=rfl
theorem tw2394303434581955160:0=0:=rfl
theorem tw10911486375278378776:0=0:=rfl
theorem tw5978056774886744888:0=0:=rfl
theorem tw3707314773204378456:0=0:=rfl
theorem tw12746986270035079000:0=0:=rfl
theorem tw5665086753889023832:0=0:=rfl
theorem tw12430077917640761304:0=0:=rfl
theorem tw13348132512942350296:0=0:=rfl
theorem tw5064188417732279256:0=0:=rfl
theorem tw7599037718245742584:0=0:=rfl
theorem tw10245067433203421176:0=0:=rfl
theorem tw13921502277614594105:0=0:=rfl
theorem tw12514168755509459001:0=0:=rfl
theorem tw12057591081872589913:0=0:=rfl
theorem tw12296501469698308281:0=0:=rfl
theorem tw778018819962354873:0=0:=rfl
theorem tw14400564234950546649:0=0:=rfl
theorem tw8825054942694822105:0=0:=rfl
theorem tw10407870516792331513:0=0:=rfl
theorem tw2853519511288357113:0=0:=rfl
theorem tw17345225833995844889:0=0:=rfl
theorem tw1557706379355417945:0=0:=rfl
theorem tw15351758340797858169:0=0:=rfl
theorem tw11723284689875087737:0=0:=rfl
theorem tw5974131290508449177:0=0:=rfl
theorem tw8773106949460853177:0=0:=rfl
theorem tw7437269518870020537:0=0:=rfl
theorem tw4353230262191041049:0=0:=rfl
theorem tw13410972995359721145:0=0:=rfl
theorem tw1463339091375145657:0=0:=rfl
theorem tw14136564032474973977:0=0:=rfl
theorem tw1819016464385331001:0=0:=rfl
theorem tw1300168326186069881:0=0:=rfl
theorem tw16682318142761714585:0=0:=rfl
theorem tw16206796474583060441:0=0:=rfl
theorem tw9498042603732796442:0=0:=rfl
theorem tw12602429431332687962:0=0:=rfl
theorem tw6928265673996370010:0=0:=rfl
theorem tw8665727698748387450:0=0:=rfl
theorem tw15181821450559364218:0=0:=rfl
theorem tw12440646283050470618:0=0:=rfl
theorem tw12179230188012519674:0=0:=rfl
theorem tw16307813430409814266:0=0:=rfl
theorem tw6696841257530846458:0=0:=rfl
theorem tw8009674558183139610:0=0:=rfl
theorem tw12117573012077085978:0=0:=rfl
theorem tw1697587409770379706:0=0:=rfl
theorem tw16821006436729240026:0=0:=rfl
theorem tw3923119169833325018:0=0:=rfl
theorem tw4623917633402524154:0=0:=rfl
theorem tw14054469454488419898:0=0:=rfl
theorem tw3191981106995489370:0=0:=rfl
theorem tw10948483219732495962:0=0:=rfl
theorem tw11052496461250334330:0=0:=rfl
theorem tw8255345922233577082:0=0:=rfl
theorem tw1257258718625134266:0=0:=rfl
theorem tw16150920840807898874:0=0:=rfl
theorem tw9403282623002283802:0=0:=rfl
theorem tw375220917812978458:0=0:=rfl
theorem tw14879341998828951354:0=0:=rfl
theorem tw15409470276969726874:0=0:=rfl
theorem tw6888382570429682586:0=0:=rfl
theorem tw7981656871164848026:0=0:=rfl
theorem tw3918773556746740634:0=0:=rfl
theorem tw8640161560340369370:0=0:=rfl
theorem tw7592489148569457658:0=0:=rfl
theorem tw18281765027323887675:0=0:=rfl
theorem tw15255416915815090235:0=0:=rfl
theorem tw17583489726857635899:0=0:=rfl
theorem tw3276326899273545883:0=0:=rfl
theorem tw692801090172986555:0=0:=rfl
theorem tw2147462407713917179:0=0:=rfl
theorem tw15923322553942003963:0=0:=rfl
theorem tw8672654704473720091:0=0:=rfl
theorem tw4751574151282443547:0=0:=rfl
theorem tw17708334951131865403:0=0:=rfl
theorem tw9629324543062755675:0=0:=rfl
theorem tw17215247308095751547:0=0:=rfl
theorem tw10470770809430531451:0=0:=rfl
theorem tw16228138831255099803:0=0:=rfl
theorem tw8520536489339817403:0=0:=rfl
theorem tw16721650013326774715:0=0:=rfl
theorem tw15227183000766569915:0=0:=rfl
theorem tw17601604732650064347:0=0:=rfl
theorem tw10609366373987475963:0=0:=rfl
theorem tw6435192046372976155:0=0:=rfl
theorem tw7139112187756782555:0=0:=rfl
theorem tw9653341217243012091:0=0:=rfl
theorem tw3694750258215019548:0=0:=rfl
theorem tw6468011898645391420:0=0:=rfl
theorem tw18103231837465373820:0=0:=rfl
theorem tw405406977830474908:0=0:=rfl
theorem tw17603784311528701180:0=0:=rfl
theorem tw3683797213750126844:0=0:=rfl
theorem tw15335339642344330556:0=0:=rfl
theorem tw1140381919863301468:0=0:=rfl
theorem tw15113414137086114172:0=0:=rfl
theorem tw5912242880227073436:0=0:=rfl
theorem tw11787504612286818716:0=0:=rfl
theorem tw5409344051160291836:0=0:=rfl
theorem tw2018729782971892316:0=0:=rfl
theorem tw11468374159200990812:0=0:=rfl
theorem tw15121771061952487036:0=0:=rfl
theorem tw13735165599725235900:0=0:=rfl
theorem tw7628650136868096796:0=0:=rfl
theorem tw13029718427630613308:0=0:=rfl
theorem tw775087556848927548:0=0:=rfl
theorem tw8915491960222808892:0=0:=rfl
theorem tw16338896409472058268:0=0:=rfl
theorem tw7679517160907713468:0=0:=rfl
theorem tw13957202506115298268:0=0:=rfl
theorem tw10599423153716252701:0=0:=rfl
theorem tw5973062558905763901:0=0:=rfl
theorem tw13648622742713897053:0=0:=rfl
theorem tw13711376581275200701:0=0:=rfl
theorem tw641230483261169885:0=0:=rfl
theorem tw7807116001396988221:0=0:=rfl
theorem tw14439471444963857757:0=0:=rfl
theorem tw6946592143936438621:0=0:=rfl
theorem tw16287780182245437853:0=0:=rfl
theorem tw2279941427256811997:0=0:=rfl
theorem tw17399554478653385181:0=0:=rfl
theorem tw5869623595281410557:0=0:=rfl
theorem tw16583179237713169949:0=0:=rfl
theorem tw2547258094490887805:0=0:=rfl
theorem tw10756625296536499837:0=0:=rfl
theorem tw17438074651239606941:0=0:=rfl
theorem tw10199755978853582557:0=0:=rfl
theorem tw8449335733823876861:0=0:=rfl
theorem tw18245403530036103965:0=0:=rfl
theorem tw10582273732062771005:0=0:=rfl
theorem tw18415134079604149117:0=0:=rfl
theorem tw4986126956674698109:0=0:=rfl
theorem tw9940834167252214685:0=0:=rfl
theorem tw8853171246621185949:0=0:=rfl
theorem tw18210296362123182013:0=0:=rfl
theorem tw2979279064475307005:0=0:=rfl
theorem tw15179694460171075614:0=0:=rfl
theorem tw455067214338093118:0=0:=rfl
theorem tw1223628936627169438:0=0:=rfl
theorem tw12432973835846323390:0=0:=rfl
theorem tw4095160013508397310:0=0:=rfl
theorem tw12585376635734892926:0=0:=rfl
theorem tw6869681952984779134:0=0:=rfl
theorem tw12061494061684175294:0=0:=rfl
theorem tw16580354196068640222:0=0:=rfl
theorem tw3844730736407722590:0=0:=rfl
theorem tw17899085239833610878:0=0:=rfl
theorem tw3402597900095835806:0=0:=rfl
theorem tw14735539771065338590:0=0:=rfl
theorem tw3629562349829799678:0=0:=rfl
theorem tw322316243321123646:0=0:=rfl
theorem tw3682951446745525054:0=0:=rfl
theorem tw1183183592756665182:0=0:=rfl
theorem tw6046851459159049118:0=0:=rfl
theorem tw6898900890307907518:0=0:=rfl
theorem tw17878747766603099102:0=0:=rfl
theorem tw18414678275864458206:0=0:=rfl
theorem tw10957340974674537470:0=0:=rfl
theorem tw17942105699181715454:0=0:=rfl
theorem tw884941032925098079:0=0:=rfl
theorem tw2422692029697051743:0=0:=rfl
theorem tw17816726721335315551:0=0:=rfl
theorem tw3636687022679364735:0=0:=rfl
theorem tw10241301364575774911:0=0:=rfl
theorem tw15136308856211826975:0=0:=rfl
theorem tw18212801818529859903:0=0:=rfl
theorem tw17957051032194587007:0=0:=rfl
theorem tw7082573001379457407:0=0:=rfl
theorem tw3082428552731561407:0=0:=rfl
theorem tw15123673000020202015:0=0:=rfl
theorem tw9465175423077337631:0=0:=rfl
theorem tw1267787355808678495:0=0:=rfl
theorem tw1682369714852508287:0=0:=rfl
theorem tw15930170872922153599:0=0:=rfl
theorem tw10969598461230417599:0=0:=rfl
theorem tw13713649219192098495:0=0:=rfl
theorem tw10239541550036054751:0=0:=rfl
theorem tw5431360143129900767:0=0:=rfl
theorem tw8124941661021037407:0=0:=rfl
theorem tw9906122980105917279:0=0:=rfl
theorem tw9854846403630857087:0=0:=rfl
theorem tw1268108871881790496:0=0:=rfl
end PySem.W.Fast
open PySem PySem.W PyProof.Rows
set_option maxRecDepth 100000 in
set_option maxHeartbeats 0 in
theorem PySem.Challenge.cw_disposehall_k32_not_taken_holds : PySem.Challenge.rw_disposehall_k32_not_taken.Holds := by
 w_on;o_law;k_head;(case hw=>w_witness2)
 k_fill
 refine L3.ZsU (l:=PySem.Challenge.rw_disposehall_k32_not_taken) (k:=42) (x:="_law_script") rfl rfl ⟨rfl,by decide,by decide⟩ (fun w h Y=>PySem.W.kIn_of Y) ?F
 case F=>
  intro w mg fa h KX G hmg;refine' K32.all_mk KX G hmg ?Z0W ?Z0X ?Z0Y ?Z0x ?Z0y ?Z0h ?Z0z ?Y0 ?Z0M ?Z0N ?Z0A ?Z0O ?Z0d ?Z0B ?Z0i ?Z0j ?Z04 ?Z0k ?Z0C ?Y8 ?X8 ?J3 ?Y4 ?J5 ?Z0b ?J6 ?Z0e ?Y5 ?Y6 ?Z05 ?Z0f ?Y9 ?Z0l ?Z0m ?Z0D ?Z1E ?l_law ?cd_law2 ?k_law ?Z1i ?Z1j ?Z1k ?Z0Q ?Z1l ?Z0E ?Z1m ?Z0P ?Z1f ?Z0R ?Z1g ?Z0r ?Z0g ?Z0s ?Z0F ?Z1h ?Z1n ?Z0Z ?Z10 ?Z11 ?Z12 ?Z1o ?Z1p ?in_Never ?Z1q ?Z1r ?Z13 ?Z14 ?Z15 ?Z16 ?Z1s ?Z1t ?Z06 ?Z0t ?Z0u ?Z1u ?Z1v ?Z17 ?Z18 ?Z19 ?Z1a ?Z1w ?Z1x ?Z07 ?Z0G ?Z0n ?Z1y ?Z1z ?Z0H ?Z0I ?Z0J ?Z0K ?Z0S ?Z0T ?X3 ?Z0o ?Z0c ?Z0U ?Z0V ?Z1b ?Z1c ?Z1d ?Z1e ?Z1A ?Z1B ?Z08 ?Z0v ?Z0w ?Z0L ?Z09 ?Z0a ?Z0p ?Z0q ?Z1C ?Z1D ?hn ?htk ?J7 ?J8 ?J9 ?Y7 ?Z6 ?Z7 ?Z8 ?Z3 ?X5 ?Z0 ?Z4 ?Z1 ?Z2 ?Z00 ?Z9 ?Z5 ?X6 ?X7 ?xl_PutTwice ?xN_PutTwice ?xe_PutTwice ?xi_PutTwice ?xl_HeldTwice ?xN_HeldTwice ?xe_HeldTwice ?xi_HeldTwice ?xl_NoSeries ?xN_NoSeries ?xe_NoSeries ?xi_NoSeries ?xl_RunBack ?xN_RunBack ?xe_RunBack ?xi_RunBack ?xl_HallError ?xN_HallError ?xe_HallError ?xi_HallError ?xk_PutTwice ?xg_PutTwice ?xh_PutTwice ?xs_PutTwice ?xo_PutTwice ?xb_PutTwice ?xk_HeldTwice ?xg_HeldTwice ?xh_HeldTwice ?xs_HeldTwice ?xo_HeldTwice ?xb_HeldTwice ?xk_NoSeries ?xg_NoSeries ?xh_NoSeries ?xs_NoSeries ?xo_NoSeries ?xb_NoSeries ?xk_RunBack ?xg_RunBack ?xh_RunBack ?xs_RunBack ?xo_RunBack ?xb_RunBack ?f_xm_p ?f_i_p_ve ?f_i_p_HallError ?f_i_p_NoDay ?f_i_p_NoLength ?f_i_p_NoTerm ?f_i_p_TooWide ?f_i_p_NoBook ?f_i_p_PutTwice ?f_i_p_HeldTwice ?f_i_p_NoSeries ?f_i_p_RunBack ?f_i_p_Unlike ?f_i_p_NoRow ?f_xm_h ?f_i_h_ve ?f_i_h_HallError ?f_i_h_NoDay ?f_i_h_NoLength ?f_i_h_NoTerm ?f_i_h_TooWide ?f_i_h_NoBook ?f_i_h_PutTwice ?f_i_h_HeldTwice ?f_i_h_NoSeries ?f_i_h_RunBack ?f_i_h_Unlike ?f_i_h_NoRow ?f_xm_s ?f_i_s_ve ?f_i_s_HallError ?f_i_s_NoDay ?f_i_s_NoLength ?f_i_s_NoTerm ?f_i_s_TooWide ?f_i_s_NoBook ?f_i_s_PutTwice ?f_i_s_HeldTwice ?f_i_s_NoSeries ?f_i_s_RunBack ?f_i_s_Unlike ?f_i_s_NoRow ?f_xm_b ?f_i_b_ve ?f_i_b_HallError ?f_i_b_NoDay ?f_i_b_NoLength ?f_i_b_NoTerm ?f_i_b_TooWide ?f_i_b_NoBook ?f_i_b_PutTwice ?f_i_b_HeldTwice ?f_i_b_NoSeries ?f_i_b_RunBack ?f_i_b_Unlike ?f_i_b_NoRow ?z_ValueError ?z_abs ?z_any ?z_dict ?z_int ?z_isinstance ?z_len ?z_list ?z_max ?z_min ?z_range ?z_reversed ?z_sorted ?z_tuple ?kib ?kii ?kll ?ktt ?kss ?ne_Never_After ?ne_Never_Later ?ne_Never_Earlier ?Z01 ?ne_After_Later ?ne_After_Earlier ?Z02 ?ne_Later_Earlier ?Z03 ?X4
  (case Z1E|Z1i|Z1j|Z1k|Z0Q|Z1l|Z0E|Z1m|Z0P|Z1f|Z0R|Z1g|Z0r|Z0g|Z0s|Z0F|Z1h|Z1n=>k_is)
  (case xl_PutTwice|xl_HeldTwice|xl_NoSeries|xl_RunBack|xl_HallError=>k_is)
  (case xN_PutTwice|xN_HeldTwice|xN_NoSeries|xN_RunBack|xN_HallError=>k_is)
  (case Z0W|Z0X|Z0Y|Z0x|Z0y|Z0h|Z0z|Y0|Z0M|Z0N|Z0A|Z0O|Z0d|Z0B|Z0i|Z0j|Z04|Z0k|Z0C|Y8|X8|J3|Y4|J5|Z0b|J6|Z0e|Y5|Y6|Z05|Z0f|Y9|Z0l|Z0m|Z0D=>exact⟨_,_,by k_is,L2.Zme (by k_is) (by k_is) (by k_is)⟩)
  (case l_law|cd_law2|k_law|Z0Z|Z10|Z11|Z12|Z1o|Z1p|in_Never|Z1q|Z1r|Z13|Z14|Z15|Z16|Z1s|Z1t|Z0t|Z0u|Z1u|Z1v|Z17|Z18|Z19|Z1a|Z1w|Z1x|Z0G|Z0n|Z1y|Z1z|Z0H|Z0I|Z0J|Z0K|Z0S|Z0T|Z0o|Z0c|Z0U|Z0V|Z1b|Z1c|Z1d|Z1e|Z1A|Z1B|Z0v|Z0w|Z0L|Z09|Z0a|Z0p|Z0q|Z1C|Z1D|hn|htk|xi_PutTwice|xi_HeldTwice|xi_NoSeries|xi_RunBack|xi_HallError|xg_PutTwice|xh_PutTwice|xs_PutTwice|xo_PutTwice|xb_PutTwice|xg_HeldTwice|xh_HeldTwice|xs_HeldTwice|xo_HeldTwice|xb_HeldTwice|xg_NoSeries|xh_NoSeries|xs_NoSeries|xo_NoSeries|xb_NoSeries|xg_RunBack|xh_RunBack|xs_RunBack|xo_RunBack|xb_RunBack|z_ValueError|z_abs|z_any|z_dict|z_int|z_isinstance|z_len|z_list|z_max|z_min|z_range|z_reversed|z_sorted|z_tuple=>k_is)
  (case Z06|Z07|X3|Z08|J7|J8|J9|Y7|Z6|Z7|Z8|Z3|X5|Z0|Z4|Z1|Z2|Z00|Z9|Z5|X6|X7=>exact⟨_,_,by k_is,by k_is,L2.Zme (by k_is) (by k_is) (by k_is)⟩)
  (case xe_PutTwice|xe_HeldTwice|xe_NoSeries|xe_RunBack|xe_HallError|xk_PutTwice|xk_HeldTwice|xk_NoSeries|xk_RunBack|f_xm_p|f_i_p_ve|f_i_p_HallError|f_i_p_NoDay|f_i_p_NoLength|f_i_p_NoTerm|f_i_p_TooWide|f_i_p_NoBook|f_i_p_PutTwice|f_i_p_HeldTwice|f_i_p_NoSeries|f_i_p_RunBack|f_i_p_Unlike|f_i_p_NoRow|f_xm_h|f_i_h_ve|f_i_h_HallError|f_i_h_NoDay|f_i_h_NoLength|f_i_h_NoTerm|f_i_h_TooWide|f_i_h_NoBook|f_i_h_PutTwice|f_i_h_HeldTwice|f_i_h_NoSeries|f_i_h_RunBack|f_i_h_Unlike|f_i_h_NoRow|f_xm_s|f_i_s_ve|f_i_s_HallError|f_i_s_NoDay|f_i_s_NoLength|f_i_s_NoTerm|f_i_s_TooWide|f_i_s_NoBook|f_i_s_PutTwice|f_i_s_HeldTwice|f_i_s_NoSeries|f_i_s_RunBack|f_i_s_Unlike|f_i_s_NoRow|f_xm_b|f_i_b_ve|f_i_b_HallError|f_i_b_NoDay|f_i_b_NoLength|f_i_b_NoTerm|f_i_b_TooWide|f_i_b_NoBook|f_i_b_PutTwice|f_i_b_HeldTwice|f_i_b_NoSeries|f_i_b_RunBack|f_i_b_Unlike|f_i_b_NoRow|kib|kii|kll|ktt|kss=>first|rfl|decide+kernel|k_is)
  (case ne_Never_After|ne_Never_Later|ne_Never_Earlier|Z01|ne_After_Later|ne_After_Earlier|Z02|ne_Later_Earlier|Z03|X4=>decide)
