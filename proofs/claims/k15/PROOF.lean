import PyProof.Rows.All
import Wide.All
import OpenK.AllK
import Wide.FinOn
import Lean
import PyProof.EqAt
import PyProof.EqKinds
import PyProof.TupleCall
import PySem.Challenge.RW_disposehall_k15_lives_that_part
set_option Elab.async false
set_option linter.all false
set_option maxRecDepth 100000
namespace L2
open PySem PySem.Spec PyProof.Rows
abbrev Key:=Sum Int Str
def ZdB:Key->Value->Bool
 | .inl k,v=>Value.isInt k v
 | .inr x,v=>Value.isStrOf x v
def ZmM(w:World):Key->Int
 | .inl k=>hashInt k
 | .inr x=>hashStr w x
theorem Yr:∀{k:Key} {v:Value},ZdB k v=true->(∃i t,k=Sum.inl i/\v=Value.int i t)\/(∃x t,k=Sum.inr x/\v=Value.str x t)
 | .inl i,v,h=>by
  obtain⟨t,e⟩:=Value.isInt_shape (k:=i) (v:=v) h;exact .inl ⟨i,t,rfl,e⟩
 | .inr x,v,h=>by
  obtain⟨t,e⟩:=Value.isStrOf_shape (x:=x) (v:=v) h;exact .inr ⟨x,t,rfl,e⟩
theorem ZhZ(i:Int)(t:Tok):ZdB (.inl i) (.int i t)=true:=by simp[ZdB,Value.isInt]
theorem Zi0(x:Str)(t:Tok):ZdB (.inr x) (.str x t)=true:=by simp[ZdB,Value.isStrOf]
theorem Zli(a b:Int):decide ((Sum.inl a:Key)=Sum.inl b)=(a==b):=by
 by_cases e:a=b
 ·subst e;simp
 ·have h:¬(Sum.inl a:Key)=Sum.inl b:=fun q=>e (Sum.inl.inj q);rw[decide_eq_false h];exact(beq_eq_false_iff_ne.mpr e).symm
theorem ZiI(a b:Str):decide ((Sum.inr a:Key)=Sum.inr b)=decide (a=b):=by
 by_cases e:a=b
 ·subst e;simp
 ·have h:¬(Sum.inr a:Key)=Sum.inr b:=fun q=>e (Sum.inr.inj q);rw[decide_eq_false h,decide_eq_false e]
theorem Zlj(a:Int)(b:Str):decide ((Sum.inl a:Key)=Sum.inr b)=false:=decide_eq_false (fun q=>nomatch q)
theorem Zlk(a:Str)(b:Int):decide ((Sum.inr a:Key)=Sum.inl b)=false:=decide_eq_false (fun q=>nomatch q)
def Yc(prog:Program)(w:World):PySem.KeyKind prog w Key where
 is:=ZdB
 hash:=ZmM w
 inj:=fun v a b ha hb=>by
  rcases Yr ha with ⟨i,t,rfl,rfl⟩|⟨x,t,rfl,rfl⟩
  ·rcases Yr hb with ⟨j,u,rfl,e⟩|⟨y,u,rfl,e⟩
   ·injection e with e1 _;rw[e1]
   ·exact nomatch e
  ·rcases Yr hb with ⟨j,u,rfl,e⟩|⟨y,u,rfl,e⟩
   ·exact nomatch e
   ·injection e with e1 _;rw[e1]
 byValue:=fun k v h=>by
  rcases Yr h with ⟨i,t,rfl,rfl⟩|⟨x,t,rfl,rfl⟩<;>rfl
 pyHash:=fun hv h=>by
  rcases Yr hv with ⟨i,t,rfl,rfl⟩|⟨x,t,rfl,rfl⟩
  ·exact wpAny_pyHash_int h
  ·exact wpAny_pyHash_str h
 eqBool:=fun hu hv h=>by
  rcases Yr hu with ⟨i,t,rfl,rfl⟩|⟨x,t,rfl,rfl⟩
  ·rcases Yr hv with ⟨j,u,rfl,rfl⟩|⟨y,u,rfl,rfl⟩
   ·rw[Zli] at h;exact wpAny_eqBool_int h
   ·rw[Zlj] at h;exact SeqAt.EqAt.int_str i t y u _ _ _ _ h
  ·rcases Yr hv with ⟨j,u,rfl,rfl⟩|⟨y,u,rfl,rfl⟩
   ·rw[Zlk] at h;exact SeqAt.EqAt.str_int x t j u _ _ _ _ h
   ·rw[ZiI] at h;exact wpAny_eqBool_str h
 «strs»:=fun k x t v h=>by
  rcases Yr h with ⟨i,u,rfl,e⟩|⟨y,u,rfl,e⟩
  ·exact nomatch e
  ·injection e with e1 _
   subst e1;cases v<;>rfl
theorem ZfS(prog:Program)(w:World)(i:Int)(t:Tok):(Yc prog w).is (.inl i) (.int i t)=true:=ZhZ i t
theorem ZfT(prog:Program)(w:World)(x:Str)(t:Tok):(Yc prog w).is (.inr x) (.str x t)=true:=Zi0 x t
end L2
namespace L2
open PySem PySem.Spec PyProof.Rows
inductive V where
 |non|bl (b:Bool)|int (i:Int)|str (x:Str)|byt (b:Array UInt8)|flt (b:UInt64)|ref (a:Addr)|ty (n:String)
 deriving DecidableEq
def ZC:V->Value->Prop
 | .non,u=>u=Value.none
 | .bl b,u=>u=Value.bool b
 | .int i,u=>∃t,u=Value.int i t
 | .str x,u=>∃t,u=Value.str x t
 | .byt b,u=>∃t,u=Value.bytes b t
 | .flt b,u=>∃t,u=Value.float b t
 | .ref a,u=>u=Value.ref a
 | .ty n,u=>u=Value.type n
abbrev ZJ:List V->List Value->Prop:=Paired ZC
theorem ZJ.length{xs:List V}{us:List Value}(r:ZJ xs us):xs.length=us.length:=Paired.length r
theorem ZJ.get:∀{xs:List V} {us:List Value} {i:Nat} {x:V},ZJ xs us->xs[i]? =some x->∃u,us[i]? =some u/\ZC x u
 |_,_,_,_,.nil,e=>by simp at e
 |_,_,0,_,.cons r _,e=>by simp at e;subst e;exact⟨_,rfl,r⟩
 |_,_,i+1,x,.cons _ t,e=>by
  obtain⟨u,h1,h2⟩:=ZJ.get (i:=i) (x:=x) t (by simpa using e);exact⟨u,by simpa using h1,h2⟩
theorem ZJ.append:∀{xs ys:List V} {us ws:List Value},ZJ xs us->ZJ ys ws->ZJ (xs++ys) (us++ws)
 |_,_,_,_,.nil,s=>s
 |_,_,_,_,.cons r t,s=> .cons r (ZJ.append t s)
theorem ZJ.take:∀{xs:List V} {us:List Value} (n:Nat),ZJ xs us->ZJ (xs.take n) (us.take n)
 |_,_,0,_=> .nil
 |_,_,_+1,.nil=> .nil
 |_,_,n+1,.cons r t=> .cons r (ZJ.take n t)
theorem ZJ.drop:∀{xs:List V} {us:List Value} (n:Nat),ZJ xs us->ZJ (xs.drop n) (us.drop n)
 |_,_,0,r=>r
 |_,_,_+1,.nil=> .nil
 |_,_,n+1,.cons _ t=>ZJ.drop n t
def Zau:Option V->Option Value->Prop
 |some v,some u=>ZC v u
 |none,none=>True
 |_,_=>False
def KV{κ:Type}:List (κ×V)->List (κ×Value)->Prop:=Paired fun(p:κ×V) (q:κ×Value)=>p.1=q.1/\ZC p.2 q.2
def kV:Key->V
 | .inl i=> .int i
 | .inr x=> .str x
inductive HO where
 |lst (xs:List V)
 |tup (xs:List V)
 |dK (kvs:List (Key×V))|dT (kvs:List (List Key×V))
 |set (S:Int->Bool) (n:Nat)
 |ins (C dx:Addr) (fs:List (Str×V))
 |own (x:Addr)
 |xd (fs:List (Str×V))
 |met (f x:Addr)
 |rng (lo hi:Int)
 |frz (o:Obj) (u:HO)
 |tbl (ps:Array Value)
 |ext (φ:Heap->Prop)
abbrev Hp:=Addr->Option HO
def upd(H:Hp)(a:Addr)(o:HO):Hp:=fun b=>if b=a then some o else H b
theorem Zc{H:Hp}{a:Addr}{o:HO}:upd H a o a=some o:=by unfold upd;rw[if_pos rfl]
theorem Zf{H:Hp}{a b:Addr}{o:HO}(h:b≠a):upd H a o b=H b:=by unfold upd;rw[if_neg h]
theorem Zc7{H:Hp}{a:Addr}{o u:HO}:upd (upd H a o) a u=upd H a u:=by
 funext b;unfold upd;split<;>rfl
theorem ZfU{H:Hp}{a b:Addr}{o u:HO}(h:H a=some o)(h':H b=some u)(d:o≠u):a≠b:=by
 intro e;subst e;rw[h] at h';exact d (Option.some.inj h')
theorem Zn{H:Hp}{a b:Addr}{o:HO}(h:H a=some o)(h':H b=none):a≠b:=by
 intro e;subst e;rw[h] at h';cases h'
section
variable (P:Program) (w:World)
def Yo(H:Hp)(h:Heap)(a:Addr):HO->Prop
 | .lst xs=>xs.length<=sizeLine/\∃(its:List Value) (n:Nat),ZJ xs its/\h.get? a=some {cls:=.type "list",data:=.seq its.toArray n}
 | .tup xs=>xs.length<=sizeLine/\∃its:List Value,ZJ xs its/\IsTup h a its.toArray
 | .dK kvs=>kvs.length<=sizeLine/\(a==sysModules)=false/\∃vs,KV kvs vs/\h.DictOf (Yc P w) a vs
 | .dT kvs=>kvs.length<=sizeLine/\(a==sysModules)=false/\∃xs:List (List Key×Addr×Value),
   Paired (fun(p:List Key×V) (q:List Key×Addr×Value)=>p.1=q.1/\H q.2.1=some (.tup (p.1.map kV))/\ZC p.2 q.2.2) kvs xs/\
   ∃o es ep,h.get? a=some o/\o.ExactDict/\o.data=.dict es ep/\es.toList=xs.map (entryOfKey (tupleKind (Yc P w)))/\(xs.map (·.1)).Nodup
 | .set S n=>h.SetOf (intKind P w) a S n
 | .ins C dx fs=>H dx=some (.own a)/\fs.length<=1000/\dx≠a/\h.get? a=some (PySem.W.instObj C dx)/\
   ∃mA,h.Ns1 dx mA/\(∀f,Zau (fs.lookup f) (mA f))/\PySem.Within mA (fs.map (·.1))
 | .own _=>∃o,h.get? a=some o
 | .xd fs=>∃mA,h.Ns1 a mA/\∀f,Zau (fs.lookup f) (mA f)
 | .rng lo hi=>∃t u v,h.get? a=some {cls:=.type "range",data:=.fields #[.int lo t,.int hi u,.int 1 v]}
 | .frz o u=>h.get? a=some o/\Yo H h a u
 | .tbl ps=>h.get? a=some {cls:=.none,data:=.fields ps}
 | .met f x=>h.get? a=some (PySem.W.methodObj (.ref f) (.ref x))
 | .ext φ=>φ h/\(∃o,h.get? a=some o)/\∀h1 h2:Heap,φ h1->(∀o,h1.get? a=some o->h2.get? a=some o)->φ h2
def HOk(H:Hp)(h:Heap):Prop:=∀a o,H a=some o->Yo P w H h a o
end
section
variable {P:Program} {w:World} {H H':Hp} {h h':Heap} {a:Addr} {o:HO}
theorem Yo.lt(x:Yo P w H h a o):a<h.objs.size:=by
 cases o with
 |lst xs=>obtain⟨_,_,_,_,e⟩:=x;exact Heap.lt_size e
 |tup xs=>obtain⟨_,_,_,p⟩:=x;exact p.lt
 |dK kvs=>obtain⟨_,_,_,_,o,_,_,e,_⟩:=x;exact Heap.lt_size e
 |dT kvs=>obtain⟨_,_,_,_,o,_,_,e,_⟩:=x;exact Heap.lt_size e
 |set S n=>obtain⟨o,_,_,_,e,_⟩:=x;exact Heap.lt_size e
 |ins C dx fs=>obtain⟨_,_,_,e,_⟩:=x;exact Heap.lt_size e
 |own y=>obtain⟨_,e⟩:=x;exact Heap.lt_size e
 |xd fs=>obtain⟨_,⟨_,_,_,e,_⟩,_⟩:=x;exact Heap.lt_size e
 |rng lo hi=>obtain⟨_,_,_,e⟩:=x;exact Heap.lt_size e
 |frz ob u=>obtain⟨e,_⟩:=x;exact Heap.lt_size e
 |tbl ps=>exact Heap.lt_size (show h.get? a=some _ from x)
 |met f y=>exact Heap.lt_size (show h.get? a=some _ from x)
 |ext φ=>obtain⟨_,⟨_,e⟩,_⟩:=x;exact Heap.lt_size e
theorem Paired.mapP{α β:Type}{F G:α->β->Prop}:∀{l₁:List α} {l₂:List β},Paired F l₁ l₂->(∀a b,F a b->G a b)->Paired G l₁ l₂
 |_,_,.nil,_=> .nil
 |_,_,.cons r t,f=> .cons (f _ _ r) (Paired.mapP t f)
theorem Yo.stay(x:Yo P w H h a o)(k:∀b u,(b=a\/H b=some (.own a))->h.get? b=some u->h'.get? b=some u)
  (ho:∀b,H b=some (.own a)->H' b=some (.own a))(ht:∀b xs,H b=some (.tup xs)->H' b=some (.tup xs)):Yo P w H' h' a o:=by
 induction o with
 |lst xs=>obtain⟨z,its,n,r,e⟩:=x;exact⟨z,its,n,r,k _ _ (.inl rfl) e⟩
 |tup xs=>obtain⟨z,its,r,ob,e,c⟩:=x;exact⟨z,its,r,ob,k _ _ (.inl rfl) e,c⟩
 |dK kvs=>obtain⟨z,y,vs,r,ob,es,ep,e,c⟩:=x;exact⟨z,y,vs,r,ob,es,ep,k _ _ (.inl rfl) e,c⟩
 |dT kvs=>
  obtain⟨z,y,xs,r,ob,es,ep,e,c⟩:=x;exact⟨z,y,xs,Paired.mapP r fun p q z=>⟨z.1,ht _ _ z.2.1,z.2.2⟩,ob,es,ep,k _ _ (.inl rfl) e,c⟩
 |set S n=>obtain⟨ob,es,ep,t,e,c⟩:=x;exact⟨ob,es,ep,t,k _ _ (.inl rfl) e,c⟩
 |ins C dx fs=>
  obtain⟨d,z,ne,e,mA,⟨od,es,ep,e2,c⟩,r⟩:=x;exact⟨ho _ d,z,ne,k _ _ (.inl rfl) e,mA,⟨od,es,ep,k _ _ (.inr d) e2,c⟩,r⟩
 |own y=>obtain⟨ob,e⟩:=x;exact⟨ob,k _ _ (.inl rfl) e⟩
 |xd fs=>obtain⟨mA,⟨od,es,ep,e,c⟩,r⟩:=x;exact⟨mA,⟨od,es,ep,k _ _ (.inl rfl) e,c⟩,r⟩
 |rng lo hi=>obtain⟨t,u,v,e⟩:=x;exact⟨t,u,v,k _ _ (.inl rfl) e⟩
 |frz ob u ih=>obtain⟨e,q⟩:=x;exact⟨k _ _ (.inl rfl) e,ih q⟩
 |tbl ps=>
  have e:h.get? a=some {cls:=.none,data:=.fields ps}:=x;show h'.get? a=some {cls:=.none,data:=.fields ps};exact k a _ (.inl rfl) e
 |met f y=>
  have e:h.get? a=some (PySem.W.methodObj (.ref f) (.ref y)):=x;show h'.get? a=some (PySem.W.methodObj (.ref f) (.ref y));exact k a _ (.inl rfl) e
 |ext φ=>obtain⟨p,⟨o,e⟩,st⟩:=x;exact⟨st _ _ p fun o q=>k _ _ (.inl rfl) q,⟨o,k _ _ (.inl rfl) e⟩,st⟩
theorem HOk.lt(x:HOk P w H h)(e:H a=some o):a<h.objs.size:=(x a o e).lt
theorem HOk.fresh(x:HOk P w H h)(e:h.objs.size<=a):H a=none:=by
 cases q:H a with
 |none=>rfl
 |some u=>exact absurd (Nat.lt_of_lt_of_le (x.lt q) e) (Nat.lt_irrefl _)
theorem HOk.kept(x:HOk P w H h)(k:∀b u,h.get? b=some u->h'.get? b=some u):HOk P w H h':=fun a o e=>
 (x a o e).stay (fun b u _ q=>k b u q) (fun _ q=>q) fun _ _ q=>q
theorem HOk.laid(x:HOk P w H h)(k:∀b u,h.get? b=some u->h'.get? b=some u)(hp:h.objs.size<=a)(new:Yo P w (upd H a o) h' a o):HOk P w (upd H a o) h':=fun b u e=>by
 have hn:=x.fresh hp
 by_cases hb:b=a
 ·subst hb;rw[Zc] at e;cases e;exact new
 ·rw[Zf hb] at e
  exact(x b u e).stay (fun c v _ q=>k c v q) (fun c q=>by rw[Zf (Zn q hn)];exact q) fun c xs q=>by rw[Zf (Zn q hn)];exact q
end
def Rd(H:Hp)(a:Addr)(u:HO):Prop:=H a=some u\/∃o,H a=some (.frz o u)
theorem Rd.ok{P:Program}{w:World}{H:Hp}{h:Heap}{a:Addr}{u:HO}(r:Rd H a u)(x:HOk P w H h):Yo P w H h a u:=by
 rcases r with r|⟨o,r⟩
 ·exact x a u r
 ·obtain⟨_,q⟩:=x a _ r;exact q
def Mut:Option HO->Prop
 |some (.lst _)=>True
 |some (.dK _)=>True
 |some (.dT _)=>True
 |some (.set _ _)=>True
 |some (.ins _ _ _)=>True
 |some (.ext _)=>True
 |_=>False
section
variable {P:Program} {w:World} {H:Hp} {h h':Heap} {x e:Addr} {o':HO}
theorem HOk.write(ok:HOk P w H h)(mu:Mut (H x))(he:e=x\/H e=some (.own x))(k:∀b u,b≠e->h.get? b=some u->h'.get? b=some u)(heo:∃u,h'.get? e=some u)
  (new:Yo P w (upd H x o') h' x o'):HOk P w (upd H x o') h':=fun b u q=>by
 have nown:∀c y,H c=some (.own y)->c≠x:=fun c y r z=>by subst z;rw[r] at mu;exact mu
 have ntup:∀c xs,H c=some (.tup xs)->c≠x:=fun c xs r z=>by subst z;rw[r] at mu;exact mu
 by_cases hb:b=x
 ·subst hb;rw[Zc] at q;cases q;exact new
 ·rw[Zf hb] at q
  by_cases hbe:b=e
  ·have q':H b=some (.own x):=by
    rcases he with z|z
    ·exact absurd (hbe.trans z) hb
    ·rw[hbe];exact z
   rw[q] at q';cases q'
   obtain⟨v,hv⟩:=heo;exact⟨v,by rw[hbe];exact hv⟩
  ·refine(ok b u q).stay (fun c v hc r=>k c v ?_ r) (fun c r=>by rw[Zf (nown c b r)];exact r) fun c xs r=>by rw[Zf (ntup c xs r)];exact r
   rcases hc with rfl|hc
   ·exact hbe
   ·rintro rfl;rcases he with z|z
    ·exact nown c b hc z
    ·rw[hc] at z;cases z;exact hb rfl
end
structure Un (fs ex:List Addr) (H H':Hp) (h h':Heap):Prop where
 keep:∀b o,h.get? b=some o->H b=none->b∉fs->b∉ex->h'.get? b=some o
 slot:∀b o,h.get? b=some o->H b=none->b∈fs->b∉ex->∃sl,h'.get? b=some {o with slots:=sl}
 free:∀b o,h.get? b=some o->H b=none->b∉ex->H' b=none
 there:∀b o,h.get? b=some o->b∉ex->∃o',h'.get? b=some o'
 tups:∀b xs,H b=some (.tup xs)->H' b=some (.tup xs)
 frzs:∀b o u,H b=some (.frz o u)->H' b=some (.frz o u)
 tbls:∀b ps,H b=some (.tbl ps)->∃more,H' b=some (.tbl (ps++more))
section
variable {fs fs' ex ex':List Addr} {H H1 H2:Hp} {h h1 h2 h':Heap} {a x e:Addr} {o:HO}
theorem Un.any(u:Un fs ex H H1 h h1){b:Addr}{ob:Obj}(q:h.get? b=some ob)(n:H b=none)(hx:b∉ex):∃sl,h1.get? b=some {ob with slots:=sl}:=by
 by_cases hb:b∈fs
 ·exact u.slot b ob q n hb hx
 ·exact⟨ob.slots,u.keep b ob q n hb hx⟩
theorem Un.kept(k:∀b u,h.get? b=some u->h'.get? b=some u):Un fs ex H H h h':=
 ⟨fun b ob q _ _ _=>k b ob q,fun b ob q _ _ _=>⟨ob.slots,k b ob q⟩,fun _ _ _ n _=>n,fun b ob q _=>⟨ob,k b ob q⟩,fun _ _ q=>q,fun _ _ _ q=>q,fun _ ps q=>⟨#[],by rw[q];simp⟩⟩
theorem Un.refl:Un fs ex H H h h:=Un.kept fun _ _ q=>q
theorem Un.laid(k:∀b u,h.get? b=some u->h'.get? b=some u)(hp:h.objs.size<=a)(hn:H a=none):Un fs ex H (upd H a o) h h' where
 keep:=fun b u q _ _ _=>k b u q
 slot:=fun b u q _ _ _=>⟨u.slots,k b u q⟩
 free:=fun b u q n _=>by rw[Zf (Nat.ne_of_lt (Nat.lt_of_lt_of_le (Heap.lt_size q) hp))];exact n
 there:=fun b u q _=>⟨u,k b u q⟩
 tups:=fun b xs q=>by rw[Zf (Zn q hn)];exact q
 frzs:=fun b u xs q=>by rw[Zf (Zn q hn)];exact q
 tbls:=fun b ps q=>⟨#[],by rw[Zf (Zn q hn),q];simp⟩
theorem Un.write(mu:Mut (H x))(he:e=x\/H e=some (.own x))(k:∀b u,b≠e->h.get? b=some u->h'.get? b=some u)(heo:∃u,h'.get? e=some u):Un fs ex H (upd H x o) h h':=by
 have hx:∀b,H b=none->b≠x:=fun b n z=>by subst z;rw[n] at mu;exact mu
 have hb:∀b,H b=none->b≠e:=fun b n z=>by
  subst z;rcases he with r|r
  ·exact hx b n r
  ·rw[n] at r;cases r
 have hm:∀b u,H b=some u->¬Mut (some u)->b≠x:=fun b u q nm z=>by subst z;rw[q] at mu;exact nm mu
 refine⟨fun b u q n _ _=>k b u (hb b n) q,fun b u q n _ _=>⟨u.slots,k b u (hb b n) q⟩,fun b u q n _=>by rw[Zf (hx b n)];exact n,fun b u q _=> ?_,
  fun b xs q=>by rw[Zf (hm b _ q fun z=>z)];exact q,fun b u xs q=>by rw[Zf (hm b _ q fun z=>z)];exact q,fun b ps q=>⟨#[],by rw[Zf (hm b _ q fun z=>z),q];simp⟩⟩
 by_cases hbe:b=e
 ·subst hbe;exact heo
 ·exact⟨u,k b u hbe q⟩
end
def trk(h:Heap)(H:Hp):List Addr:=(List.range h.objs.size).filter fun a=>(H a).isSome
def ZeX(h:Heap)(H:Hp):Heap:=PySem.W.hideAll h (trk h H)
theorem Zi1(h:Heap)(H:Hp):(ZeX h H).objs.size=h.objs.size:=PySem.W.hideAll_size _ _
theorem ZiJ{h:Heap}{H:Hp}{b:Addr}{o:Obj}(e:h.get? b=some o)(n:H b=none):(ZeX h H).get? b=some o:=
 PySem.W.hideAll_get _ e fun hm=>by
  have q:(H b).isSome=true:=(List.mem_filter.mp hm).2;rw[n] at q;simp at q
theorem Zkf{h:Heap}{H:Hp}{b:Addr}{o:Obj}(e:(ZeX h H).get? b=some o):h.get? b=some o/\H b=none:=by
 have e':h.get? b=some o:=PySem.W.of_hideAll (trk h H) e;refine⟨e', ?_⟩;cases q:H b with
 |none=>rfl
 |some x=>
  have hm:b∈trk h H:=List.mem_filter.mpr ⟨List.mem_range.mpr (Heap.lt_size e'),by simp[q]⟩;have z:(ZeX h H).get? b=none:=PySem.W.hideAll_none (trk h H) hm;rw[z] at e;cases e
def Zdl(g h:Heap)(L:Addr):List (Addr×Obj):=(List.range h.objs.size).filterMap fun a=>if a=L\/(g.get? a).isSome=true then none else(h.get? a).map fun o=>(a,o)
theorem Zdb{g h:Heap}{L a:Addr}{o:Obj}(h1:a≠L)(h2:g.get? a=none)(h3:h.get? a=some o):(a,o)∈Zdl g h L:=
 List.mem_filterMap.mpr ⟨a,List.mem_range.mpr (Heap.lt_size h3),by simp[h1,h2,h3]⟩
theorem ZdC{g h:Heap}{L:Addr}{p:Addr×Obj}(hp:p∈Zdl g h L):p.1≠L/\g.get? p.1=none/\h.get? p.1=some p.2:=by
 obtain⟨b,_,e⟩:=List.mem_filterMap.mp hp
 split at e
 ·cases e
 ·rename_i hn
  cases q:h.get? b with
  |none=>rw[q] at e;simp at e
  |some u=>
   rw[q] at e
   simp only [Option.map_some,Option.some.injEq] at e
   subst e;refine⟨fun z=>hn (.inl z), ?_,q⟩;show g.get? b=none;cases r:g.get? b with
   |none=>rfl
   |some v=>exact(hn (.inr (by simp[r]))).elim
theorem ZiK{g h:Heap}{L:Addr}:News g L h (Zdl g h L):=fun p hp=>let ⟨a,b,c⟩:=ZdC hp;⟨c,a,b⟩
end L2
namespace L2
open PySem PySem.Spec PyProof.Rows
structure Mod (K:PySem.W.Frag) (mg:Str->Option Value) (base:Heap):Prop where
 kin:K.In base
 glob:base.Ns mainGlobals mg
 blt:∃mb,base.Ns builtinsNs mb/\∀x:Str,x≠"__name__"->mb x=bootBuiltins x
 nolimit:base.NoLimit
structure Cx where
 prog:Program
 w:World
 K:PySem.W.Frag
 mg:Str->Option Value
 base:Heap
 A:Around
 N:List Str
 s₀:Shared
 H₀:Hp
 env:Env
 outer:List Env
 stack:List Env
 ex:List Addr
 fn:Str->Bool
 calm:Bool
 pn:List (Addr×Obj)
 xe:Value->Shared->Prop
def frs(l:List Env):List Addr:=l.filterMap (·.frame)
abbrev Cx.fs(X:Cx):List Addr:=frs X.outer
def Vis(sc:Scope)(x:Str):Prop:=sc.names.lookup x=some .local\/sc.names.lookup x=some .cell\/sc.names.lookup x=some .free
def Loc(sc:Scope)(x:Str):Prop:=sc.names.lookup x=some .local\/sc.names.lookup x=some .cell
def ZmN(env:Env)(h:Heap)(m:Str->Option Value)(x:Str)(u:Value):Prop:=
 (env.kindOf x=some .local/\m x=some u)\/((env.kindOf x=some .cell\/env.kindOf x=some .free)/\∃c,env.cells.lookup x=some c/\h.IsCell c (some u))
structure Cx.Ok (X:Cx):Prop where
 mod:Mod X.K X.mg X.base
 kind:X.env.scope.kind=.function
 glob:X.env.globals=mainGlobals
 blt:X.env.builtins=builtinsNs
 above:X.s₀.heap.objs.size<=X.env.locals
 inj:∀x y c,X.env.cells.lookup x=some c->X.env.cells.lookup y=some c->x=y
 has:∀x,(X.env.kindOf x=some .cell\/X.env.kindOf x=some .free)->∃c,X.env.cells.lookup x=some c
 cab:∀x c,X.fn x=true->X.env.cells.lookup x=some c->X.s₀.heap.objs.size<=c
 hd:X.calm=true->X.A.handled=none
 frames:X.A.frames=some X.stack
 stk:X.stack=X.outer\/(X.stack=X.env::X.outer/\X.env.frame=some X.env.locals)
 exf:∀b∈X.ex,b≠X.env.locals/\∀x c,X.env.cells.lookup x=some c->c≠b
 bs:∀b o,X.base.get? b=some o->X.s₀.heap.get? b=some o/\X.H₀ b=none
 bsz:X.base.objs.size<=X.s₀.heap.objs.size
 noex:∀b o,X.base.get? b=some o->b∉X.ex
 exfs:∀b∈X.ex,b∉X.fs
 funs:X.s₀.heap.FunFrames X.base X.outer
 frf:∀b∈X.fs,X.H₀ b=none
structure Inv (X:Cx) (pins:List (Addr×Obj)) (σ:List (Option V)) (H:Hp) (s:Shared):Prop where
 ok:X.Ok
 os:s.os=X.s₀.os
 bare:AllBare s.gens
 base:Un X.fs X.ex X.H₀ H X.s₀.heap s.heap
 loc:∃m,s.heap.Ns X.env.locals m/\∀(i:Nat) (x:Str) (v:V),X.N[i]? =some x->σ[i]? =some (some v)->Vis X.env.scope x->∃u,ZC v u/\ZmN X.env s.heap m x u
 cell:∀x c,X.env.cells.lookup x=some c->∃v,s.heap.IsCell c v
 free:H X.env.locals=none
 freeC:∀x c,X.env.cells.lookup x=some c->H c=none
 pin:∀p∈X.pn++pins,s.heap.get? p.1=some p.2/\H p.1=none/\p.1≠X.env.locals/\p.1∉X.fs/\∀v,p.2.data≠.cell v
 hok:HOk X.prog X.w H s.heap
 len:σ.length=X.N.length
section
variable {X:Cx} {pins:List (Addr×Obj)} {σ:List (Option V)} {H H':Hp} {s:Shared} {h':Heap}
theorem Cx.Ok.nofr(ok:X.Ok){b:Addr}{o:Obj}(e:X.base.get? b=some o):b∉X.fs:=fun hb=>by
 have:=(ok.funs.mem hb).1;rw[e] at this;cases this
theorem Inv.bs(I:Inv X pins σ H s):∀b o,X.base.get? b=some o->s.heap.get? b=some o/\H b=none:=fun b o e=>
 ⟨I.base.keep b o (I.ok.bs b o e).1 (I.ok.bs b o e).2 (I.ok.nofr e) (I.ok.noex b o e),I.base.free b o (I.ok.bs b o e).1 (I.ok.bs b o e).2 (I.ok.noex b o e)⟩
theorem Inv.bk(I:Inv X pins σ H s):∀b o,X.base.get? b=some o->s.heap.get? b=some o:=fun b o e=>(I.bs b o e).1
theorem Inv.mod(I:Inv X pins σ H s):Mod X.K X.mg X.base:=I.ok.mod
theorem Inv.kIn(I:Inv X pins σ H s):X.K.In s.heap:=I.ok.mod.kin.keeps I.bk
theorem Inv.fr(I:Inv X pins σ H s):∃m,Fr X.base X.env.locals s.heap m:=
 let ⟨m,hn,_⟩:=I.loc
 ⟨m,hn,I.bk,Nat.le_trans I.ok.bsz I.ok.above⟩
theorem Inv.lt(I:Inv X pins σ H s):X.env.locals<s.heap.objs.size:=let ⟨_,hn,_⟩:=I.loc;hn.lt
theorem Inv.sz(I:Inv X pins σ H s):X.s₀.heap.objs.size<=s.heap.objs.size:=Nat.le_trans I.ok.above (Nat.le_of_lt I.lt)
theorem Inv.nofs(I:Inv X pins σ H s){a:Addr}(h:s.heap.objs.size<=a):a∉X.fs:=fun hb=>by
 obtain⟨_,o,ho,_⟩:=I.ok.funs.mem hb;exact absurd (Nat.lt_of_lt_of_le (Heap.lt_size ho) (Nat.le_trans I.sz h)) (Nat.lt_irrefl _)
theorem Inv.cne(I:Inv X pins σ H s):∀x c,X.env.cells.lookup x=some c->c≠X.env.locals:=fun x c e z=>by
 obtain⟨v,o,ho,hd⟩:=I.cell x c e;obtain⟨m,⟨o',es,ep,ho',hd',_⟩,_⟩:=I.loc;rw[z,ho'] at ho;cases ho;rw[hd'] at hd;cases hd
theorem Inv.funs(I:Inv X pins σ H s):s.heap.FunFrames X.base X.outer:=by
 have all:∀(l:List Env),(∀b∈frs l,b∈X.fs)->X.s₀.heap.FunFrames X.base l->s.heap.FunFrames X.base l:=by
  intro l
  induction l with
  |nil=>intro _ _;trivial
  |cons env r ih=>
   intro hs hl;obtain⟨hk,⟨L,o,hf,hn,ho,hd⟩,hr⟩:=hl;have hL:L∈X.fs:=hs L (by unfold frs;rw[List.filterMap_cons,hf];exact List.mem_cons_self)
   obtain⟨sl,e⟩:=I.base.slot L o ho (I.ok.frf L hL) hL fun z=>I.ok.exfs L z hL;exact⟨hk,⟨L,_,hf,hn,e,hd⟩,ih (fun b hb=>hs b (by unfold frs;rw[List.filterMap_cons,hf];exact List.mem_cons_of_mem _ hb)) hr⟩
 exact all X.outer (fun _ hb=>hb) I.ok.funs
theorem Inv.stack(I:Inv X pins σ H s):s.heap.FunFrames X.base X.stack:=by
 rcases I.ok.stk with e|⟨e,hf⟩
 ·rw[e];exact I.funs
 ·rw[e];obtain⟨m,hn,_⟩:=I.loc;refine .cons (by rw[I.ok.kind];decide) hf hn ?_ I.funs
  exact Heap.get?_none_of_le (Nat.le_trans I.ok.bsz I.ok.above)
theorem Inv.stkSub(I:Inv X pins σ H s):∀b∈frs X.stack,b∈X.env.locals::X.fs:=fun b hb=>by
 rcases I.ok.stk with e|⟨e,hf⟩
 ·rw[e] at hb;exact List.mem_cons_of_mem _ hb
 ·rw[e] at hb
  unfold frs at hb
  rw[List.filterMap_cons,hf] at hb
  exact hb
theorem Inv.stkFree(I:Inv X pins σ H s):∀b∈frs X.stack,H b=none:=fun b hb=>by
 rcases List.mem_cons.mp (I.stkSub b hb) with e|hb
 ·rw[e];exact I.free
 ·obtain⟨_,o,ho,_⟩:=I.ok.funs.mem hb;exact I.base.free b o ho (I.ok.frf b hb) fun z=>I.ok.exfs b z hb
theorem Inv.step{g':Array GenState}{t':Nat}{d':Drawn}{ch:List Addr}(I:Inv X pins σ H s)
  (hch:∀b∈ch,(b∈X.ex\/X.s₀.heap.objs.size<=b)/\b≠X.env.locals/\(∀x c,X.env.cells.lookup x=some c->c≠b)/\∀p∈X.pn++pins,p.1≠b)
  (keep:∀b o,b≠X.env.locals->b∉X.fs->b∉ch->s.heap.get? b=some o->H b=none->h'.get? b=some o)
  (slot:∀b o,b≠X.env.locals->b∈X.fs->b∉ch->s.heap.get? b=some o->H b=none->∃sl,h'.get? b=some {o with slots:=sl})(free:∀b o,b∉ch->s.heap.get? b=some o->H b=none->H' b=none)
  (there:∀b o,b∉ch->s.heap.get? b=some o->∃o',h'.get? b=some o')
  (tups:∀b xs,H b=some (.tup xs)->H' b=some (.tup xs))(frzs:∀b o u,H b=some (.frz o u)->H' b=some (.frz o u))(tbls:∀b ps,H b=some (.tbl ps)->∃more,H' b=some (.tbl (ps++more)))
  (ns:∀m,s.heap.Ns X.env.locals m->h'.Ns X.env.locals m)(hok:HOk X.prog X.w H' h')(hg:AllBare g'):
  Inv X pins σ H' {s with heap:=h',gens:=g',drawn:=d',toks:=t'}:=by
 have neL:∀b o,X.s₀.heap.get? b=some o->b≠X.env.locals:=fun b o e=>Nat.ne_of_lt (Nat.lt_of_lt_of_le (Heap.lt_size e) I.ok.above);have neC:∀b o,X.s₀.heap.get? b=some o->b∉X.ex->b∉ch:=fun b o e hx hb=>by
  rcases(hch b hb).1 with z|z
  ·exact hx z
  ·exact absurd (Nat.lt_of_lt_of_le (Heap.lt_size e) z) (Nat.lt_irrefl _)
 have cellK:∀x c,X.env.cells.lookup x=some c->∀v,s.heap.IsCell c v->h'.IsCell c v:=fun x c e v ⟨o,ho,hd⟩=>by
  have nch:c∉ch:=fun z=>(hch c z).2.2.1 x c e rfl
  by_cases hc:c∈X.fs
  ·obtain⟨sl,q⟩:=slot c o (I.cne x c e) hc nch ho (I.freeC x c e);exact⟨_,q,hd⟩
  ·exact⟨o,keep c o (I.cne x c e) hc nch ho (I.freeC x c e),hd⟩
 refine⟨I.ok,I.os,hg,⟨fun b o e n hb hx=> ?_,fun b o e n hb hx=> ?_,fun b o e n hx=> ?_,fun b o e hx=> ?_,fun b xs e=>tups b xs (I.base.tups b xs e),fun b o xs e=>frzs b o xs (I.base.frzs b o xs e),fun b ps e=> ?_⟩, ?_,fun x c e=> ?_, ?_,fun x c e=> ?_,fun p hp=> ?_,hok,I.len⟩
 ·exact keep b o (neL b o e) hb (neC b o e hx) (I.base.keep b o e n hb hx) (I.base.free b o e n hx)
 ·obtain⟨sl,e1⟩:=I.base.slot b o e n hb hx;obtain⟨sl',e2⟩:=slot b _ (neL b o e) hb (neC b o e hx) e1 (I.base.free b o e n hx);exact⟨sl',e2⟩
 ·obtain⟨o',e1⟩:=I.base.there b o e hx;exact free b o' (neC b o e hx) e1 (I.base.free b o e n hx)
 ·obtain⟨o',e1⟩:=I.base.there b o e hx;exact there b o' (neC b o e hx) e1
 ·obtain⟨m1,e1⟩:=I.base.tbls b ps e;obtain⟨m2,e2⟩:=tbls b _ e1;exact⟨m1++m2,by rw[e2,Array.append_assoc]⟩
 ·obtain⟨m,hn,hl⟩:=I.loc;refine⟨m,ns m hn,fun i x v e1 e2 e3=> ?_⟩;obtain⟨u,r,l⟩:=hl i x v e1 e2 e3;refine⟨u,r, ?_⟩;rcases l with l|⟨k,c,e,z⟩
  ·exact .inl l
  ·exact .inr ⟨k,c,e,cellK x c e _ z⟩
 ·obtain⟨v,z⟩:=I.cell x c e;exact⟨v,cellK x c e v z⟩
 ·obtain⟨m,⟨o,_,_,ho,_⟩,_⟩:=I.loc;exact free _ o (fun z=>(hch _ z).2.1 rfl) ho I.free
 ·obtain⟨v,o,ho,hd⟩:=I.cell x c e;exact free c o (fun z=>(hch c z).2.2.1 x c e rfl) ho (I.freeC x c e)
 ·obtain⟨e,n,ne,nf,d⟩:=I.pin p hp;have nch:p.1∉ch:=fun z=>(hch p.1 z).2.2.2 p hp rfl;exact⟨keep p.1 p.2 ne nf nch e n,free p.1 p.2 nch e n,ne,nf,d⟩
theorem Inv.un{t':Nat}(I:Inv X pins σ H s)(u:Un X.fs [] H H' s.heap h')(hok:HOk X.prog X.w H' h'):Inv X pins σ H' {s with heap:=h',toks:=t'}:=by
 obtain⟨m,⟨o,es,ep,ho,r⟩,_⟩:=id I.loc;obtain⟨sl,hL⟩:=u.any ho I.free (by simp);exact I.step (g':=s.gens) (d':=s.drawn) (ch:=[]) (fun _ z=>nomatch z) (fun b o _ hb _ e n=>u.keep b o e n hb (by simp)) (fun b o _ hb _ e n=>u.slot b o e n hb (by simp)) (fun b o _ e n=>u.free b o e n (by simp)) (fun b o _ e=>u.there b o e (by simp)) u.tups u.frzs u.tbls (fun m' hm=>by
  obtain⟨o',es',ep',ho',r'⟩:=hm;rw[ho] at ho';cases ho'
  exact⟨_,es',ep',hL,r'⟩) hok I.bare
theorem Inv.call{g':Array GenState}{t':Nat}{d':Drawn}{ch:List Addr}(I:Inv X pins σ H s)(u:Un (frs X.stack) ch H H' s.heap h')(hok:HOk X.prog X.w H' h')(hg:AllBare g')
  (hch:∀b∈ch,(b∈X.ex\/X.s₀.heap.objs.size<=b)/\b≠X.env.locals/\(∀x c,X.env.cells.lookup x=some c->c≠b)/\∀p∈X.pn++pins,p.1≠b):
  Inv X pins σ H' {s with heap:=h',gens:=g',drawn:=d',toks:=t'}:=by
 obtain⟨m,⟨o,es,ep,ho,r⟩,_⟩:=id I.loc;obtain⟨sl,hL⟩:=u.any ho I.free fun z=>(hch _ z).2.1 rfl;exact I.step (ch:=ch) hch (fun b o hL hb hc e n=>u.keep b o e n (fun z=>(List.mem_cons.mp (I.stkSub b z)).elim hL hb) hc) (fun b o _ _ hc e n=>u.any e n hc) (fun b o hc e n=>u.free b o e n hc) (fun b o hc e=>u.there b o e hc) u.tups u.frzs u.tbls (fun m' hm=>by
  obtain⟨o',es',ep',ho',r'⟩:=hm;rw[ho] at ho';cases ho'
  exact⟨_,es',ep',hL,r'⟩) hok hg
theorem Inv.turned{t':Nat}{it:Addr}(I:Inv X pins σ H s)(k:∀b o,b≠it->s.heap.get? b=some o->h'.get? b=some o)(hn:H it=none)(hL:it≠X.env.locals)
  (h1:it∈X.ex\/X.s₀.heap.objs.size<=it)(h2:∀x c,X.env.cells.lookup x=some c->c≠it)(h3:∀p∈X.pn++pins,p.1≠it):Inv X pins σ H {s with heap:=h',toks:=t'}:=by
 have nit:∀b u,H b=some u->b≠it:=fun b u e z=>by rw[z,hn] at e;cases e
 refine I.step (g':=s.gens) (d':=s.drawn) (ch:=[it]) (fun b hb=> ?_) (fun b o _ _ hc e _=>k b o (fun z=>hc (by simp[z])) e) (fun b o _ _ hc e _=>⟨o.slots,k b o (fun z=>hc (by simp[z])) e⟩) (fun _ _ _ _ n=>n)
  (fun b o hc e=>⟨o,k b o (fun z=>hc (by simp[z])) e⟩) (fun _ _ e=>e) (fun _ _ _ e=>e) (fun b ps e=>⟨#[],by rw[e];simp⟩) (fun m hm=> ?_) (fun b u e=> ?_) I.bare
 ·have e:b=it:=by simpa using hb
  subst e;exact⟨h1,hL,h2,h3⟩
 ·obtain⟨o,es,ep,ho,r⟩:=hm;exact⟨o,es,ep,k _ o (Ne.symm hL) ho,r⟩
 ·refine(I.hok b u e).stay (fun c v hc q=>k c v ?_ q) (fun _ q=>q) fun _ _ q=>q;rcases hc with z|z
  ·rw[z];exact nit b u e
  ·exact nit c _ z
theorem Inv.tok(I:Inv X pins σ H s)(t:Nat):Inv X pins σ H {s with toks:=t}:=I.un (h':=s.heap) (t':=t) Un.refl I.hok
theorem Inv.kept{t':Nat}(I:Inv X pins σ H s)(k:∀b u,s.heap.get? b=some u->h'.get? b=some u):Inv X pins σ H {s with heap:=h',toks:=t'}:=I.un (Un.kept k) (I.hok.kept k)
theorem Inv.laid{a:Addr}{o:HO}{t':Nat}(I:Inv X pins σ H s)(k:∀b u,s.heap.get? b=some u->h'.get? b=some u)(hp:s.heap.objs.size<=a)(new:Yo X.prog X.w (upd H a o) h' a o):
  Inv X pins σ (upd H a o) {s with heap:=h',toks:=t'}:=I.un (Un.laid k hp (I.hok.fresh hp)) (I.hok.laid k hp new)
theorem Inv.write{x e:Addr}{o:HO}{t':Nat}(I:Inv X pins σ H s)(mu:Mut (H x))(he:e=x\/H e=some (.own x))(k:∀b u,b≠e->s.heap.get? b=some u->h'.get? b=some u)(heo:∃u,h'.get? e=some u)
  (new:Yo X.prog X.w (upd H x o) h' x o):Inv X pins σ (upd H x o) {s with heap:=h',toks:=t'}:=I.un (Un.write mu he k heo) (I.hok.write mu he k heo new)
theorem Inv.weak{σ':List (Option V)}(I:Inv X pins σ H s)(hl:σ'.length=σ.length)(w:∀(i:Nat) v,σ'[i]? =some (some v)->σ[i]? =some (some v)):Inv X pins σ' H s:=
 ⟨I.ok,I.os,I.bare,I.base,let ⟨m,hn,hl'⟩:=I.loc;⟨m,hn,fun i x v e1 e2 e3=>hl' i x v e1 (w i v e2) e3⟩,I.cell,I.free,I.freeC,I.pin,I.hok,hl.trans I.len⟩
theorem Inv.pins_of{pins':List (Addr×Obj)}(I:Inv X pins σ H s)(h:∀p∈pins',s.heap.get? p.1=some p.2/\H p.1=none/\p.1≠X.env.locals/\p.1∉X.fs/\∀v,p.2.data≠.cell v):Inv X pins' σ H s:=
 ⟨I.ok,I.os,I.bare,I.base,I.loc,I.cell,I.free,I.freeC,fun p hp=>(List.mem_append.mp hp).elim (fun z=>I.pin p (List.mem_append_left _ z)) (h p),I.hok,I.len⟩
theorem ZfV{N:List Str}(hN:N.Nodup){i j:Nat}{x:Str}(a:N[i]? =some x)(b:N[j]? =some x):i=j:=by
 obtain⟨h1,e1⟩:=List.getElem?_eq_some_iff.mp a;obtain⟨h2,e2⟩:=List.getElem?_eq_some_iff.mp b;exact(List.getElem_inj hN).mp (e1.trans e2.symm)
theorem Zi2{M:Model}{A:Around}{E:Value->Shared->Prop}{i:Nat}{x:Str}{v:V}{u:Value}{Q:Unit->Shared->Prop}(I:Inv X pins σ H s)(hN:X.N.Nodup)(hi:X.N[i]? =some x)(hx:Loc X.env.scope x)(r:ZC v u)
  (h:∀s',Inv X pins (σ.set i (some v)) H s'->(∃a,Heap.SameBut a s.heap s'.heap/\(a=X.env.locals\/X.env.cells.lookup x=some a))->Q () s')(hf:X.fn x=true\/X.env.scope.names.lookup x=some .local:=by first|exact .inl rfl|exact .inr rfl|assumption):wpAny M A (storeName X.env x u) Q E s:=by
 obtain⟨m,hn,hl⟩:=id I.loc;have hcls:(X.env.scope.kind==.class||(X.env.scope.kind==.module&&X.env.locals !=X.env.globals))=false:=by rw[I.ok.kind];rfl
 have hiσ:i<σ.length:=by rw[I.len];exact(List.getElem?_eq_some_iff.mp hi).1
 have cne:=I.cne;have tracked:∀{a:Addr} {h':Heap},(∃o,s.heap.get? a=some o/\H a=none)->Heap.SameBut a s.heap h'->HOk X.prog X.w H h':=fun{a h'} ha hs b ob e=>by
  obtain⟨_,_,hfree⟩:=ha;refine(I.hok b ob e).stay (fun c w' hc q=>(hs.2 c ?_).trans q) (fun _ q=>q) fun _ _ q=>q;rintro rfl;rcases hc with rfl|hc
  ·rw[hfree] at e;cases e
  ·rw[hfree] at hc;cases hc
 rcases hx with hk|hk
 ·refine wpAny_storeName_local hk hn (fun h' hn' hs=> ?_) hcls;obtain⟨oL,_,_,hoL,_⟩:=id hn;refine h _ ⟨I.ok,I.os,I.bare,⟨fun b o e n hb hx=> ?_,fun b o e n hb hx=> ?_,I.base.free,fun b o e hx=> ?_,I.base.tups,I.base.frzs,I.base.tbls⟩,⟨_,hn',fun j y v' e1 e2 e3=> ?_⟩,fun y c e=> ?_,I.free,I.freeC,fun p hp=> ?_,tracked ⟨oL,hoL,I.free⟩ hs,by simpa using I.len⟩ ⟨_,hs,.inl rfl⟩
  ·exact(hs.2 b (Nat.ne_of_lt (Nat.lt_of_lt_of_le (Heap.lt_size e) I.ok.above))).trans (I.base.keep b o e n hb hx)
  ·obtain⟨sl,e1⟩:=I.base.slot b o e n hb hx;exact⟨sl,(hs.2 b (Nat.ne_of_lt (Nat.lt_of_lt_of_le (Heap.lt_size e) I.ok.above))).trans e1⟩
  ·obtain⟨o',e1⟩:=I.base.there b o e hx;exact⟨o',(hs.2 b (Nat.ne_of_lt (Nat.lt_of_lt_of_le (Heap.lt_size e) I.ok.above))).trans e1⟩
  ·by_cases hj:j=i
   ·subst hj;rw[hi] at e1;cases e1
    rw[List.getElem?_set_self hiσ] at e2
    cases e2;exact⟨u,r,.inl ⟨hk,by simp⟩⟩
   ·rw[List.getElem?_set_ne (Ne.symm hj)] at e2
    obtain⟨u',r',q⟩:=hl j y v' e1 e2 e3;refine⟨u',r', ?_⟩;rcases q with ⟨k,e⟩|⟨k,c,e,z⟩
    ·refine .inl ⟨k, ?_⟩;have:y≠x:=fun e=>hj (ZfV hN e1 (e▸hi));simp[this,e]
    ·exact .inr ⟨k,c,e,z.sameBut hs (cne y c e)⟩
  ·obtain⟨w',z⟩:=I.cell y c e;exact⟨w',z.sameBut hs (cne y c e)⟩
  ·obtain⟨e,n,ne,nf,d⟩:=I.pin p hp;exact⟨(hs.2 p.1 ne).trans e,n,ne,nf,d⟩
 ·have hfn:X.fn x=true:=by
   rcases hf with z|z
   ·exact z
   ·rw[z] at hk;cases hk
  obtain⟨c,hc⟩:=I.ok.has x (.inl hk);obtain⟨w',z⟩:=I.cell x c hc;refine wpAny_storeName_cell I.ok.kind hk hc z (fun h' hc' hs=> ?_);obtain⟨oc,hoc,hocd⟩:=id z;refine h {s with heap:=h'} ⟨I.ok,I.os,I.bare,⟨fun b o e n hb hx=> ?_,fun b o e n hb hx=> ?_,I.base.free,fun b o e hx=> ?_,I.base.tups,I.base.frzs,I.base.tbls⟩,⟨m,hn.sameBut hs (Ne.symm (cne x c hc)),fun j y v' e1 e2 e3=> ?_⟩,fun y c' e=> ?_,I.free,I.freeC,fun p hp=> ?_,tracked ⟨oc,hoc,I.freeC x c hc⟩ hs,by simpa using I.len⟩ ⟨c,hs,.inr hc⟩
  ·exact(hs.2 b (Nat.ne_of_lt (Nat.lt_of_lt_of_le (Heap.lt_size e) (I.ok.cab x c hfn hc)))).trans (I.base.keep b o e n hb hx)
  ·obtain⟨sl,e1⟩:=I.base.slot b o e n hb hx;exact⟨sl,(hs.2 b (Nat.ne_of_lt (Nat.lt_of_lt_of_le (Heap.lt_size e) (I.ok.cab x c hfn hc)))).trans e1⟩
  ·obtain⟨o',e1⟩:=I.base.there b o e hx;exact⟨o',(hs.2 b (Nat.ne_of_lt (Nat.lt_of_lt_of_le (Heap.lt_size e) (I.ok.cab x c hfn hc)))).trans e1⟩
  ·by_cases hj:j=i
   ·subst hj;rw[hi] at e1;cases e1
    rw[List.getElem?_set_self hiσ] at e2
    cases e2;exact⟨u,r,.inr ⟨.inl hk,c,hc,hc'⟩⟩
   ·rw[List.getElem?_set_ne (Ne.symm hj)] at e2
    obtain⟨u',r',q⟩:=hl j y v' e1 e2 e3;refine⟨u',r', ?_⟩;rcases q with q|⟨k,c',e,z'⟩
    ·exact .inl q
    ·refine .inr ⟨k,c',e,z'.sameBut hs ?_⟩;rintro rfl;exact hj (ZfV hN e1 (I.ok.inj _ _ _ e hc▸hi))
  ·by_cases hcc:c'=c
   ·subst hcc;exact⟨_,hc'⟩
   ·obtain⟨w2,z2⟩:=I.cell y c' e;exact⟨w2,z2.sameBut hs hcc⟩
  ·obtain⟨e,n,ne,nf,d⟩:=I.pin p hp;refine⟨(hs.2 p.1 ?_).trans e,n,ne,nf,d⟩;intro q;rw[q,hoc] at e
   have q':oc=p.2:=Option.some.inj e;exact d w' (by rw[<-q'];exact hocd)
theorem ZfW{M:Model}{A:Around}{E:Value->Shared->Prop}{i:Nat}{x:Str}{v:V}{u:Value}{Q:Unit->Shared->Prop}(I:Inv X pins σ H s)(hN:X.N.Nodup)(hi:X.N[i]? =some x)(hx:Loc X.env.scope x)(r:ZC v u)
  (h:∀s',Inv X pins (σ.set i (some v)) H s'->Q () s')(hf:X.fn x=true\/X.env.scope.names.lookup x=some .local:=by first|exact .inl rfl|exact .inr rfl|assumption):wpAny M A (storeName X.env x u) Q E s:=
 Zi2 I hN hi hx r (fun s' I' _=>h s' I') hf
theorem Inv.call'{s':Shared}{ch:List Addr}(I:Inv X pins σ H s)(ho:s'.os=s.os)(u:Un (frs X.stack) ch H H' s.heap s'.heap)(hok:HOk X.prog X.w H' s'.heap)(hg:AllBare s'.gens)
  (hch:∀b∈ch,(b∈X.ex\/X.s₀.heap.objs.size<=b)/\b≠X.env.locals/\(∀x c,X.env.cells.lookup x=some c->c≠b)/\∀p∈X.pn++pins,p.1≠b):Inv X pins σ H' s':=by
 obtain⟨h',g',d',t',o'⟩:=s';have e:o'=s.os:=ho;subst e;exact I.call (g':=g') (t':=t') (d':=d') u hok hg hch
end
abbrev XK:=Value->Option Addr->Hp->Prop
abbrev St:=List (Option V)
abbrev VK:=V->Hp->Prop
abbrev TE:=St->Hp->VK->Prop
abbrev TT:=St->Hp->(Bool->Hp->Prop)->Prop
abbrev TA:=St->Hp->(List V->Hp->Prop)->Prop
structure ZfX where
 nx:St->Hp->Prop
 rt:VK
 bk:St->Hp->Prop:=fun _ _=>False
 ct:St->Hp->Prop:=fun _ _=>False
abbrev TS:=ZfX->St->Hp->Prop
def EP(X:Cx)(pins:List (Addr×Obj))(σ:St)(Q:VK)(u:Value)(s':Shared):Prop:=∃v H',Inv X pins σ H' s'/\ZC v u/\Q v H'
def TP(X:Cx)(pins:List (Addr×Obj))(σ:St)(Q:Bool->Hp->Prop)(b:Bool)(s':Shared):Prop:=∃H',Inv X pins σ H' s'/\Q b H'
def AP(X:Cx)(pins:List (Addr×Obj))(σ:St)(Q:List V->Hp->Prop)(us:List Value)(s':Shared):Prop:=∃vs H',Inv X pins σ H' s'/\ZJ vs us/\Q vs H'
def SP(X:Cx)(pins:List (Addr×Obj))(D:ZfX)(f:Flow)(s':Shared):Prop:=
 match f with
 | .next=>∃σ' H',Inv X pins σ' H' s'/\D.nx σ' H'
 | .brk=>∃σ' H',Inv X pins σ' H' s'/\D.bk σ' H'
 | .cont=>∃σ' H',Inv X pins σ' H' s'/\D.ct σ' H'
 | .ret u=>∃v σ' H',Inv X pins σ' H' s'/\ZC v u/\D.rt v H'
def PE(X:Cx)(e:Expr)(t:TE):Prop:=
 ∀(pins:List (Addr×Obj)) (s:Shared) (σ:St) (H:Hp) (Q:VK),Inv X pins σ H s->t σ H Q->wpAny (model X.prog X.w) X.A (eval e X.env) (EP X pins σ Q) X.xe s
def PT(X:Cx)(e:Expr)(t:TT):Prop:=
 ∀(pins:List (Addr×Obj)) (s:Shared) (σ:St) (H:Hp) (Q:Bool->Hp->Prop),Inv X pins σ H s->t σ H Q->wpAny (model X.prog X.w) X.A (isTrue e X.env (eval e X.env)) (TP X pins σ Q) X.xe s
def PW(X:Cx)(e:Expr)(t:TT):Prop:=
 ∀(whole:Sem Value) (pins:List (Addr×Obj)) (s:Shared) (σ:St) (H:Hp) (Q:Bool->Hp->Prop),Inv X pins σ H s->t σ H Q->wpAny (model X.prog X.w) X.A (isTrue e X.env whole) (TP X pins σ Q) X.xe s
theorem PW.pt{X:Cx}{e:Expr}{t:TT}(h:PW X e t):PT X e t:=h _
def PA(X:Cx)(es:List Expr)(t:TA):Prop:=
 ∀(pos:Pos) (pins:List (Addr×Obj)) (s:Shared) (σ:St) (H:Hp) (Q:List V->Hp->Prop),Inv X pins σ H s->t σ H Q->wpAny (model X.prog X.w) X.A (spliced (backTo pos (starEach es X.env))) (AP X pins σ Q) X.xe s
def PS(X:Cx)(st:Stmt)(t:TS):Prop:=
 ∀(pins:List (Addr×Obj)) (s:Shared) (σ:St) (H:Hp) (D:ZfX),Inv X pins σ H s->t D σ H->wpAny (model X.prog X.w) X.A (exec st X.env) (SP X pins D) X.xe s
def PSs(X:Cx)(st:List Stmt)(t:TS):Prop:=
 ∀(pins:List (Addr×Obj)) (s:Shared) (σ:St) (H:Hp) (D:ZfX),Inv X pins σ H s->t D σ H->wpAny (model X.prog X.w) X.A (execs st X.env) (SP X pins D) X.xe s
theorem thn{α:Type}{t:Sem α}{Q Q':α->Shared->Prop}{M:Model}{A:Around}{E:Value->Shared->Prop}{s:Shared}(h:wpAny M A t Q E s)(hQ:∀a s,Q a s->Q' a s):wpAny M A t Q' E s:=wpAny_mono h hQ fun _ _ x=>x
end L2
namespace L2
open PySem PySem.Spec PyProof.Rows
section
variable {X:Cx}
def Zi3(i:Nat):TE:=fun σ H Q=>∃v,σ[i]? =some (some v)/\Q v H
def tC(v:V):TE:=fun _ H Q=>Q v H
theorem Zll{i:Nat}{x:Str}{pos:Pos}(hN:X.N[i]? =some x)(hv:Vis X.env.scope x)(hd:(x==("__debug__":Str))=false:=by decide)(hcd:(x==("__classdict__":Str))=false:=by decide):PE X (.Name x pos) (Zi3 i):=by
 intro pins s σ H Q I h;obtain⟨v,e,h⟩:=h;obtain⟨m,hn,hl⟩:=I.loc;obtain⟨u,r,l⟩:=hl i x v hN e hv;have fin:EP X pins σ Q u s:=⟨v,H,I,r,h⟩
 rcases l with ⟨hk,hm⟩|⟨hk,c,hc,hcell⟩
 ·exact wpAny_Name (wpAny_loadName_local I.ok.kind hk hn hm fin) hd
 ·rcases hk with hk|hk
  ·exact wpAny_Name (wpAny_loadName_cell I.ok.kind hk hc hcell fin) hd
  ·exact wpAny_Name (wpAny_loadName_free I.ok.kind hk hc hcell fin hcd) hd
theorem Zh{i j pos}:PE X (.Constant (.int i) j pos) (tC (.int i)):=fun _ _ _ H _ I h=>wpAny_Constant_int ⟨.int i,H,I.tok _,⟨_,rfl⟩,h⟩
theorem ZhA{b j pos}:PE X (.Constant (.bool b) j pos) (tC (.bl b)):=fun _ _ _ H _ I h=>Constant_bool ⟨.bl b,H,I,rfl,h⟩
theorem Xc{j pos}:PE X (.Constant .none j pos) (tC .non):=fun _ _ _ H _ I h=>Constant_none ⟨.non,H,I,rfl,h⟩
theorem Yu{x j pos}:PE X (.Constant (.str x) j pos) (tC (.str x)):=fun _ _ _ H _ I h=>Calls.Constant_str ⟨.str x,H,I.tok _,⟨_,rfl⟩,h⟩
def Gl(X:Cx)(x:Str):Prop:=X.env.kindOf x=some .globalImplicit
theorem Zav{E:Value->Shared->Prop}{pins:List (Addr×Obj)}{s:Shared}{σ:St}{H:Hp}{x:Str}{u:Value}{pos:Pos}{Q:Value->Shared->Prop}(I:Inv X pins σ H s)(hg:Gl X x)(hm:X.mg x=some u)(h:Q u s)
  (hd:(x==("__debug__":Str))=false:=by decide):wpAny (model X.prog X.w) X.A (eval (.Name x pos) X.env) Q E s:=
 Calls.Name_function_global I.ok.kind hg (Calls.loadGlobal_global (by rw[I.ok.glob];exact I.mod.glob.keeps I.bk) hm h) hd
theorem ZcE{E:Value->Shared->Prop}{pins:List (Addr×Obj)}{s:Shared}{σ:St}{H:Hp}{x:Str}{u:Value}{pos:Pos}{Q:Value->Shared->Prop}(I:Inv X pins σ H s)(hg:Gl X x)(hm:X.mg x=none)(hv:bootBuiltins x=some u)(h:Q u s)
  (hn:x≠"__name__":=by decide)(hd:(x==("__debug__":Str))=false:=by decide):wpAny (model X.prog X.w) X.A (eval (.Name x pos) X.env) Q E s:=by
 obtain⟨mb,h1,h2⟩:=I.mod.blt;exact Calls.Name_function_global I.ok.kind hg (Calls.loadGlobal_builtin (by rw[I.ok.glob];exact I.mod.glob.keeps I.bk) hm (by rw[I.ok.blt];exact h1.keeps I.bk) ((h2 x hn).trans hv) h) hd
theorem Zdm{x:Str}{v:V}{u:Value}{pos:Pos}(hg:Gl X x)(hm:X.mg x=some u)(r:ZC v u)(hd:(x==("__debug__":Str))=false:=by decide):PE X (.Name x pos) (tC v):=
 fun _ _ _ H _ I h=>Zav I hg hm ⟨v,H,I,r,h⟩ hd
theorem Zdn{x:Str}{v:V}{u:Value}{pos:Pos}(hg:Gl X x)(hm:X.mg x=none)(hv:bootBuiltins x=some u)(r:ZC v u)(hn:x≠"__name__":=by decide)(hd:(x==("__debug__":Str))=false:=by decide):PE X (.Name x pos) (tC v):=
 fun _ _ _ H _ I h=>ZcE I hg hm hv ⟨v,H,I,r,h⟩ hn hd
variable {a b:Expr} {ta tb:TE} {pos:Pos}
def PC(X:Cx)(op:CmpOp)(a b:Expr)(t:TE):Prop:=
 ∀(pins:List (Addr×Obj)) (s:Shared) (σ:St) (H:Hp) (Q:VK),Inv X pins σ H s->t σ H Q->
  wpAny (model X.prog X.w) X.A (eval a X.env) (fun v s₁=>wpAny (model X.prog X.w) X.A (eval b X.env) (fun u s₂=>wpAny (model X.prog X.w) X.A (compareOp op v u) (EP X pins σ Q) X.xe s₂) X.xe s₁) X.xe s
def tB(t:TE):TT:=fun σ H Q=>t σ H fun x H1=>∃c,x=.bl c/\Q c H1
theorem Zlm{op:CmpOp}{t:TE}(h:PC X op a b t)(h1:behindInMarks op b=false:=by first|exact nobehind _ (by decide) (by decide)|rfl):PE X (.Compare a [op] [b] pos) t:=fun pins s σ H Q I hw=>wpAny_Compare1 (h pins s σ H Q I hw) h1
theorem ZiL{op:CmpOp}{t:TE}(h:PC X op a b t)(h1:behindInMarks op b=false:=by first|exact nobehind _ (by decide) (by decide)|rfl):PT X (.Compare a [op] [b] pos) (tB t):=by
 intro pins s σ H Q I hw;refine wpAny_isTrue_Compare1 (thn (h pins s σ H _ I hw) fun v s1 h1=>thn h1 fun u s2 h2=>thn h2 fun c s3 ⟨x,H1,I1,r1,q1⟩=> ?_) h1;obtain⟨d,rfl,q⟩:=q1;cases r1;exact wpAny_truthy_bool ⟨H1,I1,q⟩
theorem ZbM{e:Expr}{t:TE}(h:PE X e t)(he:∀whole,isTrue e X.env whole=(do let v<-whole;standAt e.pos;holding [v] (truthy v)):=by intro _;rfl):PT X e (tB t):=by
 intro pins s σ H Q I hw;refine isTrue_plain (thn (h pins s σ H _ I hw) fun v s1 ⟨x,H1,I1,r1,q1⟩=> ?_) (he _);obtain⟨d,rfl,q⟩:=q1;cases r1;exact wpAny_truthy_bool ⟨H1,I1,q⟩
variable {tA tB':TT} {rest:List Expr}
def ZmO(t u:TT):TT:=fun σ H Q=>t σ H fun c H1=>if c=true then u σ H1 Q else Q false H1
def tOr(t u:TT):TT:=fun σ H Q=>t σ H fun c H1=>if c=true then Q true H1 else u σ H1 Q
def ZmP(t:TT):TT:=fun σ H Q=>t σ H fun c H1=>Q (!c) H1
theorem Zkg(ha:PT X a tA):PW X (.BoolOp .And [a] pos) tA:=by
 intro wh pins s σ H Q I h;refine isTrue_and (thn (ha pins s σ H Q I h) fun c s1 e=> ?_);cases c with
 |true=>exact isTrue_and_nil e
 |false=>exact e
theorem ZcF(ha:PT X a tA):PW X (.BoolOp .Or [a] pos) tA:=by
 intro wh pins s σ H Q I h;refine isTrue_or (thn (ha pins s σ H Q I h) fun c s1 e=> ?_);cases c with
 |false=>exact isTrue_or_nil e
 |true=>exact e
theorem Zln(ha:PT X a tA)(hb:PW X (.BoolOp .And (b::rest) pos) tB'):PW X (.BoolOp .And (a::b::rest) pos) (ZmO tA tB'):=by
 intro wh pins s σ H Q I h;refine isTrue_and (thn (ha pins s σ H _ I h) fun c s1 ⟨H1,I1,q1⟩=> ?_);cases c with
 |true=>exact hb wh pins s1 σ H1 Q I1 q1
 |false=>exact⟨H1,I1,q1⟩
theorem ZdD(ha:PT X a tA)(hb:PW X (.BoolOp .Or (b::rest) pos) tB'):PW X (.BoolOp .Or (a::b::rest) pos) (tOr tA tB'):=by
 intro wh pins s σ H Q I h;refine isTrue_or (thn (ha pins s σ H _ I h) fun c s1 ⟨H1,I1,q1⟩=> ?_);cases c with
 |true=>exact⟨H1,I1,q1⟩
 |false=>exact hb wh pins s1 σ H1 Q I1 q1
theorem ZeY(ha:PT X a tA):PT X (.UnaryOp .Not a pos) (ZmP tA):=by
 intro pins s σ H Q I h;exact isTrue_not (ha pins s σ H (fun c H1=>Q (!c) H1) I h)
def Zm4(ta tb:TE):TE:=fun σ H Q=>ta σ H fun x H1=>∃c,x=.bl c/\if c=true then tb σ H1 Q else Q (.bl false) H1
def Zm5(ta:TE):TE:=fun σ H Q=>ta σ H fun x H1=>∃c,x=.bl c/\Q (.bl (!c)) H1
theorem ZiM{op}{t:TE}(h:PE X a t):PE X (.BoolOp op [a] pos) t:=fun pins s σ H Q I hw=>BoolOp_one (h pins s σ H Q I hw)
theorem ZiN(ha:PE X a ta)(hb:PE X (.BoolOp .And (b::rest) pos) tb):PE X (.BoolOp .And (a::b::rest) pos) (Zm4 ta tb):=by
 intro pins s σ H Q I h;refine BoolOp_and (thn (ha pins s σ H _ I h) fun v s1 ⟨x,H1,I1,r1,q1⟩=> ?_);obtain⟨c,rfl,q1⟩:=q1;cases r1;refine wpAny_truthy_bool ?_;cases c with
 |true=>exact hb pins s1 σ H1 Q I1 q1
 |false=>exact⟨.bl false,H1,I1,rfl,q1⟩
theorem Zlo(ha:PE X a ta):PE X (.UnaryOp .Not a pos) (Zm5 ta):=by
 intro pins s σ H Q I h;refine UnaryOp_ (thn (ha pins s σ H _ I h) fun v s1 ⟨x,H1,I1,r1,q1⟩=> ?_);obtain⟨c,rfl,q1⟩:=q1;cases r1;exact not_of (wpAny_truthy_bool ⟨.bl (!c),H1,I1,rfl,q1⟩)
def tIf(t:TT)(ta tb:TE):TE:=fun σ H Q=>t σ H fun c H1=>if c=true then ta σ H1 Q else tb σ H1 Q
theorem Zc8{c:Expr}(hc:PT X c tA)(ha:PE X a ta)(hb:PE X b tb):PE X (.IfExp c a b pos) (tIf tA ta tb):=by
 intro pins s σ H Q I h;refine wpAny_IfExp (thn (hc pins s σ H _ I h) fun d s1 ⟨H1,I1,q1⟩=> ?_);cases d with
 |true=>exact ha pins s1 σ H1 Q I1 q1
 |false=>exact hb pins s1 σ H1 Q I1 q1
end
end L2
namespace L2
open PySem PySem.Spec PyProof.Rows
def SqL(K:PySem.W.Frag)(H:Hp)(a:Addr)(xs:List V):Prop:=
 Rd H a (.lst xs)\/
  ∃(o:Obj) (its:Array Value) (n:Nat),K.lookup a=some o/\o.cls=.type "list"/\o.dict=none/\o.data=.seq its n/\its.size<=sizeLine/\ZJ xs its.toList
def SqT(K:PySem.W.Frag)(H:Hp)(a:Addr)(xs:List V):Prop:=
 Rd H a (.tup xs)\/
  ∃(o:Obj) (its:Array Value) (n:Nat),K.lookup a=some o/\o.cls=.type "tuple"/\o.data=.seq its n/\its.size<=sizeLine/\ZJ xs its.toList
def ZmQ:Value->Option V
 | .none=>some .non
 | .bool b=>some (.bl b)
 | .int i _=>some (.int i)
 | .str x _=>some (.str x)
 | .bytes b _=>some (.byt b)
 | .float b _=>some (.flt b)
 | .ref a=>some (.ref a)
 | .type n=>some (.ty n)
 |_=>none
theorem ZC.abs{x:V}{u:Value}(r:ZC x u):ZmQ u=some x:=by
 cases x with
 |non=>cases r;rfl
 |bl _=>cases r;rfl
 |int _=>obtain⟨t,rfl⟩:=r;rfl
 |str _=>obtain⟨t,rfl⟩:=r;rfl
 |byt _=>obtain⟨t,rfl⟩:=r;rfl
 |flt _=>obtain⟨t,rfl⟩:=r;rfl
 |ref _=>cases r;rfl
 |ty _=>cases r;rfl
theorem ZC.inj{x y:V}{u:Value}(r:ZC x u)(q:ZC y u):x=y:=Option.some.inj (r.abs.symm.trans q.abs)
theorem ZJ.inj:∀{xs ys:List V} {us:List Value},ZJ xs us->ZJ ys us->xs=ys
 |_,_,_,.nil,.nil=>rfl
 |_,_,_,.cons r t,.cons r' t'=>by rw[r.inj r',ZJ.inj t t']
section
variable {X:Cx} {pins:List (Addr×Obj)} {σ:St} {H:Hp} {s:Shared} {a:Addr} {xs ys:List V}
theorem SqL.of{K:PySem.W.Frag}(h:H a=some (.lst xs)):SqL K H a xs:=.inl (.inl h)
theorem SqT.of{K:PySem.W.Frag}(h:H a=some (.tup xs)):SqT K H a xs:=.inl (.inl h)
theorem Inv.list(I:Inv X pins σ H s)(h:SqL X.K H a xs):∃its:List Value,ZJ xs its/\PlainL s.heap a its.toArray/\xs.length<=sizeLine:=by
 rcases h with h|⟨o,its,n,hk,hc,hd,hs,hz,r⟩
 ·obtain⟨z,its,n,r,e⟩:=h.ok I.hok;exact⟨its,r,⟨_,n,e,rfl,rfl,rfl⟩,z⟩
 ·refine⟨its.toList,r,⟨o,n,I.kIn a o hk,hc,hd,by simpa using hs⟩, ?_⟩;have e:=r.length;simp only [Array.length_toList] at e
  omega
theorem Inv.tuple(I:Inv X pins σ H s)(h:SqT X.K H a xs):∃its:List Value,ZJ xs its/\IsTup s.heap a its.toArray/\xs.length<=sizeLine:=by
 rcases h with h|⟨o,its,n,hk,hc,hs,hz,r⟩
 ·obtain⟨z,its,r,p⟩:=h.ok I.hok;exact⟨its,r,p,z⟩
 ·refine⟨its.toList,r,⟨o,I.kIn a o hk,hc,n,by simpa using hs⟩, ?_⟩;have e:=r.length;simp only [Array.length_toList] at e
  omega
theorem Inv.list_inj(I:Inv X pins σ H s)(h:SqL X.K H a xs)(h':SqL X.K H a ys):xs=ys:=by
 obtain⟨its,r,⟨o,n,e,_,_,d⟩,_⟩:=I.list h;obtain⟨its',r',⟨o',n',e',_,_,d'⟩,_⟩:=I.list h';rw[e] at e';cases e'
 rw[d] at d'
 injection d' with d1 _
 have:its=its':=by simpa using congrArg Array.toList d1
 subst this;exact r.inj r'
theorem Inv.tuple_inj(I:Inv X pins σ H s)(h:SqT X.K H a xs)(h':SqT X.K H a ys):xs=ys:=by
 obtain⟨its,r,⟨o,e,_,n,d⟩,_⟩:=I.tuple h;obtain⟨its',r',⟨o',e',_,n',d'⟩,_⟩:=I.tuple h';rw[e] at e';cases e'
 rw[d] at d'
 injection d' with d1 _
 have:its=its':=by simpa using congrArg Array.toList d1
 subst this;exact r.inj r'
end
abbrev Cx.wish(X:Cx)(E:Value->Shared->Prop):Cx:={X with xe:=E}
abbrev Cx.nox(X:Cx):Cx:=X.wish fun _ _=>False
theorem Cx.Ok.wish{X:Cx}(ok:X.Ok)(E:Value->Shared->Prop):(X.wish E).Ok:=
 ⟨ok.mod,ok.kind,ok.glob,ok.blt,ok.above,ok.inj,ok.has,ok.cab,ok.hd,ok.frames,ok.stk,ok.exf,ok.bs,ok.bsz,ok.noex,ok.exfs,ok.funs,ok.frf⟩
theorem Cx.Ok.unwish{X:Cx}{E:Value->Shared->Prop}(ok:(X.wish E).Ok):X.Ok:=
 ⟨ok.mod,ok.kind,ok.glob,ok.blt,ok.above,ok.inj,ok.has,ok.cab,ok.hd,ok.frames,ok.stk,ok.exf,ok.bs,ok.bsz,ok.noex,ok.exfs,ok.funs,ok.frf⟩
section
variable {X:Cx} {pins:List (Addr×Obj)} {σ:St} {H:Hp} {s:Shared} {E:Value->Shared->Prop}
theorem Inv.wish(I:Inv X pins σ H s)(E:Value->Shared->Prop):Inv (X.wish E) pins σ H s:=⟨I.ok.wish E,I.os,I.bare,I.base,I.loc,I.cell,I.free,I.freeC,I.pin,I.hok,I.len⟩
theorem Inv.unwish(I:Inv (X.wish E) pins σ H s):Inv X pins σ H s:=⟨I.ok.unwish,I.os,I.bare,I.base,I.loc,I.cell,I.free,I.freeC,I.pin,I.hok,I.len⟩
theorem SP.unwish{D:ZfX}{f:Flow}{s':Shared}(h:SP (X.wish E) pins D f s'):SP X pins D f s':=by
 cases f with
 |next=>obtain⟨σ',H',I,q⟩:=h;exact⟨σ',H',I.unwish,q⟩
 |brk=>obtain⟨σ',H',I,q⟩:=h;exact⟨σ',H',I.unwish,q⟩
 |cont=>obtain⟨σ',H',I,q⟩:=h;exact⟨σ',H',I.unwish,q⟩
 |ret u=>obtain⟨v,σ',H',I,r,q⟩:=h;exact⟨v,σ',H',I.unwish,r,q⟩
theorem PSs.nox{st:List Stmt}{t:TS}(h:PSs X.nox st t):PSs X st t:=fun pins s σ H D I hw=>
 wpAny_mono (h pins s σ H D (I.wish _) hw) (fun _ _ q=>q.unwish) fun _ _ z=>False.elim z
end
section
variable {X:Cx} {st:Stmt} {rest:List Stmt} {t u:TS} {e:Expr} {te:TE} {pos:Pos}
def Zm6:TS:=fun D σ H=>D.nx σ H
def ZmR(t u:TS):TS:=fun D σ H=>t {D with nx:=u D} σ H
theorem Zz:PSs X [] Zm6:=fun _ _ σ H _ I h=>wpAny_execs_nil ⟨σ,H,I,h⟩
theorem Zi(h1:PS X st t)(h2:PSs X rest u):PSs X (st::rest) (ZmR t u):=by
 intro pins s σ H D I h;refine wpAny_execs_cons (thn (h1 pins s σ H {D with nx:=u D} I h) fun f s1 q=> ?_);cases f with
 |next=>
  obtain⟨σ',H',I',q⟩:=q;exact h2 pins s1 σ' H' D I' q
 |ret v=>exact q
 |brk=>exact q
 |cont=>exact q
theorem Zq(h1:PS X st t):PSs X [st] t:=by
 intro pins s σ H D I h;refine wpAny_execs_cons (thn (h1 pins s σ H D I h) fun f s1 q=> ?_);cases f with
 |next=>exact wpAny_execs_nil q
 |ret v=>exact q
 |brk=>exact q
 |cont=>exact q
theorem Inv.quiet{pins:List (Addr×Obj)}{σ:St}{H:Hp}{s:Shared}(I:Inv X pins σ H s):interactive X.env=false:=by simp[interactive,I.ok.kind]
def Zm7(te:TE):TS:=fun D σ H=>te σ H fun _ H1=>D.nx σ H1
theorem Zbp(he:PE X e te)(hs:swapsWith e none pos.line X.env=pure false:=by rfl):PS X (.Expr e pos) (Zm7 te):=by
 intro pins s σ H D I h;exact wpAny_Expr_any (thn (he pins s σ H _ I h) fun v s1 ⟨x,H1,I1,r1,q1⟩=>⟨σ,H1,I1,q1⟩) I.quiet hs
def ZmS(te:TE):TS:=fun D σ H=>te σ H D.rt
theorem Zt(he:PE X e te):PS X (.Return (some e) pos) (ZmS te):=by
 intro pins s σ H D I h;exact wpAny_Return_some (thn (he pins s σ H _ I h) fun v s1 ⟨x,H1,I1,r1,q1⟩=>⟨x,σ,H1,I1,r1,q1⟩)
def ZmT(c:TT)(t u:TS):TS:=fun D σ H=>c σ H fun b H1=>if b=true then t D σ H1 else u D σ H1
theorem Ye{c:Expr}{a b:List Stmt}{tc:TT}(hc:PT X c tc)(ha:PSs X a t)(hb:PSs X b u):PS X (.If c a b pos) (ZmT tc t u):=by
 intro pins s σ H D I h;refine wpAny_If (thn (hc pins s σ H _ I h) fun d s1 ⟨H1,I1,q1⟩=> ?_);cases d with
 |true=>exact ha pins s1 σ H1 D I1 q1
 |false=>exact hb pins s1 σ H1 D I1 q1
def Zlp:TS:=fun _ _ _=>False
theorem ZiO:PS X st Zlp:=fun _ _ _ _ _ _ h=>h.elim
end
abbrev TG:=V->St->Hp->(St->Hp->Prop)->Prop
abbrev TGs:=List V->St->Hp->(St->Hp->Prop)->Prop
def PG(X:Cx)(target:Expr)(t:TG):Prop:=
 ∀(pins:List (Addr×Obj)) (s:Shared) (σ:St) (H:Hp) (v:V) (u:Value) (Q:St->Hp->Prop),Inv X pins σ H s->ZC v u->t v σ H Q->
  wpAny (model X.prog X.w) X.A (assign target X.env u) (fun _ s'=>∃σ' H',Inv X pins σ' H' s'/\Q σ' H') X.xe s
def PGs(X:Cx)(ts:List Expr)(t:TGs):Prop:=
 ∀(pins:List (Addr×Obj)) (s:Shared) (σ:St) (H:Hp) (vs:List V) (us:List Value) (Q:St->Hp->Prop),Inv X pins σ H s->ZJ vs us->t vs σ H Q->
  wpAny (model X.prog X.w) X.A (assignInOrder ((assignEach ts X.env).map (·.2)) us) (fun _ s'=>∃σ' H',Inv X pins σ' H' s'/\Q σ' H') X.xe s
section
variable {X:Cx} {pos:Pos}
def ZhB(i:Nat):TG:=fun v σ H Q=>Q (σ.set i (some v)) H
theorem Yw{i:Nat}{x:Str}(hN:X.N.Nodup)(hi:X.N[i]? =some x)(hx:Loc X.env.scope x)(hf:X.fn x=true\/X.env.scope.names.lookup x=some .local:=by first|exact .inl rfl|exact .inr rfl|assumption):PG X (.Name x pos) (ZhB i):=by
 intro pins s σ H v u Q I r h;exact wpAny_assign_Name (ZfW I hN hi hx r (fun s' I'=>⟨_,H,I',h⟩) hf)
def Zm8:TGs:=fun vs σ H Q=>vs=[]/\Q σ H
def ZiP(t:TG)(u:TGs):TGs:=fun vs σ H Q=>∃v r,vs=v::r/\t v σ H fun σ' H'=>u r σ' H' Q
theorem ZeZ:PGs X [] Zm8:=by
 intro pins s σ H vs us Q I r h;obtain⟨e,h⟩:=h;subst e;cases r;exact assignInOrder_nil ⟨σ,H,I,h⟩
theorem Zai{e:Expr}{es:List Expr}{t:TG}{u:TGs}(h1:PG X e t)(h2:PGs X es u)
  (hs:(assignEach (e::es) X.env).map (·.2)=assign e X.env::(assignEach es X.env).map (·.2):=by rfl):PGs X (e::es) (ZiP t u):=by
 intro pins s σ H vs us Q I r h;obtain⟨v,vr,e1,h⟩:=h;subst e1;cases r with
 |cons r rr=>
  rw[hs];refine assignInOrder_cons (thn (h1 pins s σ H _ _ _ I r h) fun _ s1 ⟨σ1,H1,I1,q1⟩=> ?_);exact h2 pins s1 σ1 H1 _ _ Q I1 rr q1
def Zlq(K:PySem.W.Frag)(n:Nat)(t:TGs):TG:=fun v σ H Q=>∃a xs,v=.ref a/\SqT K H a xs/\xs.length=n/\t xs σ H Q
theorem ZgG{es:List Expr}{k:Nat}{t:TGs}{n:Nat}(hc:X.calm=true)(h:PGs X es t)
  (hn:(assignEach es X.env).length=n:=by rfl)(hst:(assignEach es X.env).findIdx? (·.1)=none:=by rfl):PG X (.Tuple es k pos) (Zlq X.K n t):=by
 intro pins s σ H v u Q I r hw;obtain⟨a,xs,e1,hq,hl,hw⟩:=hw;subst e1;cases r;obtain⟨its,rv,ht,hz⟩:=I.tuple hq;refine assign_Tuple_tuple (I.ok.hd hc) ht (by simp[hn,<-hl,rv.length]) hst fun h' hx=> ?_;have I1:Inv X pins σ H {s with heap:=h'}:=I.kept (t':=s.toks) fun b o e=>hx b o (Nat.ne_of_lt (Heap.lt_size e)) e;exact h pins _ σ H xs _ Q I1 (by simpa using rv) hw
def ZmU(te:TE)(g:TG):TS:=fun D σ H=>te σ H fun x H1=>g x σ H1 D.nx
theorem ZD{i:Nat}{x:Str}{e:Expr}{te:TE}{pos':Pos}(hN:X.N.Nodup)(hi:X.N[i]? =some x)(hx:Loc X.env.scope x)(he:PE X e te)(hs:swapsWith e (some (.Name x pos')) pos.line X.env=pure false:=by rfl)(hf:X.fn x=true\/X.env.scope.names.lookup x=some .local:=by first|exact .inl rfl|exact .inr rfl|assumption):
  PS X (.Assign [.Name x pos'] e pos) (ZmU te (ZhB i)):=by
 intro pins s σ H D I h;refine wpAny_Assign_Name (thn (he pins s σ H _ I h) fun v s1 ⟨y,H1,I1,r1,q1⟩=> ?_) hs;exact ZfW I1 hN hi hx r1 (fun s2 I2=>⟨_,H1,I2,q1⟩) hf
end
section
variable {X:Cx} {pos:Pos}
def Zlr(c:TT)(tb:TS):TS:=fun D σ H=>∃W:Nat->St->Hp->Prop,(∃m,W m σ H)/\∀m σ H,W m σ H->
 c σ H fun b H1=>if b=true then∃N:St->Hp->Prop,(∀σ' H',N σ' H'->∃m',m'<m/\W m' σ' H')/\tb {D with nx:=N,ct:=N,bk:=D.nx} σ H1 else D.nx σ H1
theorem ZiQ{c:Expr}{body:List Stmt}{tc:TT}{tb:TS}(hp:PassesOwn (model X.prog X.w) X.A X.env X.xe)(hc:PT X c tc)(hb:PSs X body tb):PS X (.While c body [] pos) (Zlr tc tb):=by
 intro pins s σ H D I h;obtain⟨W,⟨m0,w0⟩,turn⟩:=h;refine wpAny_While (codeAny_whileLoop (fun n s'=>∃σ' H',Inv X pins σ' H' s'/\W n σ' H') ?_ m0 ⟨σ,H,I,w0⟩);rintro n s1 ⟨σ1,H1,I1,w1⟩;refine wpAny_passesOwn hp (thn (hc pins s1 σ1 H1 _ I1 (turn n σ1 H1 w1)) fun b s2 ⟨H2,I2,q2⟩=> ?_);cases b with
 |true=>
  obtain⟨N,hN,q2⟩:=q2;rw[if_pos rfl];refine wpAny_passesOwn hp (thn (hb pins s2 σ1 H2 _ I2 q2) fun f s3 q3=> ?_);cases f with
  |next=>
   obtain⟨σ3,H3,I3,n3⟩:=q3;obtain⟨m',hm,w3⟩:=hN σ3 H3 n3;exact⟨m',hm,σ3,H3,I3,w3⟩
  |cont=>
   obtain⟨σ3,H3,I3,n3⟩:=q3;obtain⟨m',hm,w3⟩:=hN σ3 H3 n3;exact⟨m',hm,σ3,H3,I3,w3⟩
  |brk=>exact q3
  |ret v=>exact q3
 |false=>
  rw[if_neg Bool.false_ne_true];exact wpAny_execs_nil ⟨σ1,H2,I2,q2⟩
end
structure It where
 go:Nat->Hp->Prop
 yld:Nat->Hp->V->Hp->Prop
 stop:Nat->Hp->Prop
def Zec(X:Cx)(pins:List (Addr×Obj))(H:Hp)(b:Addr):Prop:=
 H b=none/\b≠X.env.locals/\b∉X.fs/\(b∈X.ex\/X.s₀.heap.objs.size<=b)/\(∀x c,X.env.cells.lookup x=some c->c≠b)/\∀p∈X.pn++pins,p.1≠b
theorem Inv.fpOk{X:Cx}{pins:List (Addr×Obj)}{σ:St}{H H':Hp}{s:Shared}{b:Addr}(I:Inv X pins σ H s)(hb:s.heap.objs.size<=b)(hn:H' b=none):Zec X pins H' b:=by
 refine⟨hn,Nat.ne_of_gt (Nat.lt_of_lt_of_le I.lt hb),I.nofs hb,.inr (Nat.le_trans I.sz hb),fun x c e z=> ?_,fun p hp z=> ?_⟩
 ·obtain⟨v,q⟩:=I.cell x c e;exact absurd (Nat.lt_of_lt_of_le q.lt (by rw[z];exact hb)) (Nat.lt_irrefl _)
 ·exact absurd (Nat.lt_of_lt_of_le (Heap.lt_size (I.pin p hp).1) (by rw[z];exact hb)) (Nat.lt_irrefl _)
structure ZiR (P:Program) (w:World) (K:PySem.W.Frag) (tg:Expr) (J:It) (fp:List Addr) (it:Addr) (tn:Nat->Heap->Prop):Prop where
 mem:it∈fp
 obj:∀i h,tn i h->∀b∈fp,∃o,h.get? b=some o/\∀v,o.data≠.cell v
 keep:∀i h h',tn i h->(∀b∈fp,∀o,h.get? b=some o->h'.get? b=some o)->tn i h'
 item:∀(X:Cx),X.prog=P->X.w=w->X.K=K->X.calm=true->∀(i:Nat) (pins:List (Addr×Obj)) (s:Shared) (σ:St) (H:Hp) (E:Value->Shared->Prop),Inv X pins σ H s->(∀b∈fp,Zec X pins H b)->tn i s.heap->J.go i H->
  wpAny (model P w) X.A (pyNext (.ref it)) (fun r s1=>∃u,r=some u/\
   wpAny (model P w) X.A (letOwnedTupleGo tg (.ref it) u) (fun _ s2=>∃x H',Inv X pins σ H' s2/\ZC x u/\J.yld i H x H'/\tn (i+1) s2.heap/\∀b∈fp,H' b=none) E s1) E s
 done:∀(X:Cx),X.prog=P->X.w=w->X.K=K->X.calm=true->∀(i:Nat) (pins:List (Addr×Obj)) (s:Shared) (σ:St) (H:Hp) (E:Value->Shared->Prop),Inv X pins σ H s->(∀b∈fp,Zec X pins H b)->tn i s.heap->J.stop i H->
  wpAny (model P w) X.A (pyNext (.ref it)) (fun r s1=>r=none/\Inv X pins σ H s1) E s
 self:∀(A:Around) (i:Nat) (s:Shared) (Q:Value->Shared->Prop) (E:Value->Shared->Prop),tn i s.heap->Q (.ref it) s->wpAny (model P w) A (pyIter (.ref it)) Q E s
abbrev TI:=St->Hp->(It->Hp->Prop)->Prop
def PIE(X:Cx)(pins:List (Addr×Obj))(σ:St)(tg:Expr)(R:It->Hp->Prop)(itv:Value)(s2:Shared):Prop:=
 ∃(it:Addr) (fp:List Addr) (tn:Nat->Heap->Prop) (J:It) (H':Hp),itv=.ref it/\Inv X pins σ H' s2/\ZiR X.prog X.w X.K tg J fp it tn/\tn 0 s2.heap/\(∀b∈fp,Zec X pins H' b)/\R J H'
def PI(X:Cx)(tg iter:Expr)(wi:TI):Prop:=
 ∀(pins:List (Addr×Obj)) (s:Shared) (σ:St) (H:Hp) (R:It->Hp->Prop),Inv X pins σ H s->wi σ H R->
  wpAny (model X.prog X.w) X.A (eval iter X.env) (fun v s1=>wpAny (model X.prog X.w) X.A (pyIter v) (PIE X pins σ tg R) X.xe s1) X.xe s
theorem ZiS{M:Model}{A:Around}{E:Value->Shared->Prop}{s:Shared}{tg:Expr}{it:Addr}{u:Value}{o:Obj}{n:String}{vs:Array Value}{Q:Unit->Shared->Prop}(ho:s.heap.get? it=some o)(hc:o.cls=.type n)(hd:o.data=.fields vs)
  (hn:["enumerate","zip","dict_itemiterator","dict_reverseitemiterator","odict_iterator","itertools.zip_longest","itertools.pairwise"].contains n=false)(hQ:Q () s):wpAny M A (letOwnedTupleGo tg (.ref it) u) Q E s:=by
 unfold letOwnedTupleGo;cases tg<;>first
  |exact wpAny_pure hQ
  |(cases u<;>first
    |exact wpAny_pure hQ
    |(refine wpAny_bind (wpAny_load ho ?_)
      rw[hc,hd];show wpAny M A (if(["enumerate","zip","dict_itemiterator","dict_reverseitemiterator","odict_iterator","itertools.zip_longest","itertools.pairwise"].contains n&&vs[0]? ==some (rawInt _))=true then _ else _) Q E s;rw[if_neg (by intro h;rw[hn,Bool.false_and] at h;cases h)]
      exact wpAny_pure hQ))
def Itl(K:PySem.W.Frag)(a:Addr):It:=
 ⟨fun i H=>∃xs x,SqL K H a xs/\xs[i]? =some x,fun i H x H'=>H'=H/\∀xs,SqL K H a xs->xs[i]? =some x,fun i H=>∃xs,SqL K H a xs/\xs.length<=i⟩
def Itr(lo:Int)(n:Nat):It:=⟨fun i _=>i<n,fun i H x H'=>H'=H/\x=.int (lo+i),fun i _=>n<=i⟩
theorem Zi4{P:Program}{w:World}{K:PySem.W.Frag}{tg:Expr}(a it:Addr):ZiR P w K tg (Itl K a) [it] it (fun i h=>h.IsListIter it a i) where
 mem:=by simp
 obj:=fun i h st b hb=>by
  have e:b=it:=by simpa using hb
  subst e;obtain⟨o,e,c,d⟩:=st;exact⟨o,e,fun v z=>by rw[d] at z;cases z⟩
 keep:=fun i h h' st k=>st.at fun o e=>k it (by simp) o e
 item:=by
  intro X hP hw hK hc i pins s σ H E I hf st hg;subst hP hw hK;obtain⟨xs,x,hq,hx⟩:=hg;obtain⟨its,rv,p,hz⟩:=I.list hq;obtain⟨u,hu,ru⟩:=rv.get hx;obtain⟨f0,f1,f2,f3,f4,f5⟩:=hf it (by simp);refine wpAny_pyNext_list_item st p.isList (x:=u) (by simpa using hu) fun h' st' sb=> ?_;have I1:Inv X pins σ H {s with heap:=h'}:=I.turned (t':=s.toks) (fun b o hb e=>(sb.2 b hb).trans e) f0 f1 f3 f4 f5;obtain⟨o,e,c,d⟩:=id st'
  exact⟨u,rfl,ZiS (s:={s with heap:=h'}) e c d (by decide) ⟨x,H,I1,ru,⟨rfl,fun ys hy=>by rw[I.list_inj hy hq];exact hx⟩,st',fun b hb=>(hf b hb).1⟩⟩
 done:=by
  intro X hP hw hK hc i pins s σ H E I hf st hg;subst hP hw hK;obtain⟨xs,hq,hx⟩:=hg;obtain⟨its,rv,p,hz⟩:=I.list hq;obtain⟨f0,f1,f2,f3,f4,f5⟩:=hf it (by simp);have hl:=rv.length;exact wpAny_pyNext_list_end (I.ok.hd hc) st p.isList (by simp;omega) fun h' eb=>⟨rfl,I.turned (t':=s.toks) (fun b o hb e=>eb b o hb e) f0 f1 f3 f4 f5⟩
 self:=fun _ _ _ _ _ st h=>wpAny_pyIter_listiter st h
theorem ZgH{P:Program}{w:World}{K:PySem.W.Frag}{tg:Expr}(it:Addr)(lo:Int)(n:Nat):ZiR P w K tg (Itr lo n) [it] it (fun i h=>IsRangeIter h it (lo+(i:Nat)*1) ((n:Int)-(i:Nat)) 1) where
 mem:=by simp
 obj:=fun i h st b hb=>by
  have e:b=it:=by simpa using hb
  subst e;exact⟨_,st,fun v z=>by
   have z':Data.fields _=Data.cell v:=z;cases z'⟩
 keep:=fun i h h' st k=>k it (by simp) _ st
 item:=by
  intro X hP hw hK hc i pins s σ H E I hf st hg;subst hP hw hK;obtain⟨f0,f1,f2,f3,f4,f5⟩:=hf it (by simp);have W:=Walks.range (prog:=X.prog) (w:=X.w) (I.ok.hd hc) it lo 1 n;refine W.item i s _ _ hg st fun v h' tk hv st' kk=> ?_;obtain⟨t,rfl⟩:=hv;have I1:Inv X pins σ H {s with heap:=h',toks:=tk}:=I.turned (fun b o hb e=>kk b o (by simpa using hb) e) f0 f1 f3 f4 f5;refine⟨_,rfl,ZiS (s:={s with heap:=h',toks:=tk}) (n:="range_iterator") st' rfl rfl (by decide) ⟨.int (lo+i),H,I1,⟨t, ?_⟩,⟨rfl,rfl⟩,st',fun b hb=>(hf b hb).1⟩⟩
  rw[Int.mul_one]
 done:=by
  intro X hP hw hK hc i pins s σ H E I hf st hg;subst hP hw hK;obtain⟨f0,f1,f2,f3,f4,f5⟩:=hf it (by simp);exact wpAny_pyNext_range_end (I.ok.hd hc) st (by have:n<=i:=hg;omega) fun h' eb=>⟨rfl,I.turned (t':=s.toks) (fun b o hb e=>eb b o hb e) f0 f1 f3 f4 f5⟩
 self:=fun _ _ _ _ _ st h=>wpAny_pyIter_rangeiter st h
end L2
namespace L2
open PySem PySem.Spec PyProof.Rows
section
variable {X:Cx} {tg:Expr}
def Zm9(K:PySem.W.Frag)(tl:TE):TI:=fun σ H R=>tl σ H fun x H1=>∃a,x=.ref a/\(∃xs,SqL K H1 a xs)/\R (Itl K a) H1
theorem Zaw{l:Expr}{tl:TE}(hl:PE X l tl):PI X tg l (Zm9 X.K tl):=by
 intro pins s σ H R I h;refine thn (hl pins s σ H _ I h) fun v s1 ⟨x,H1,I1,r1,q1⟩=> ?_;obtain⟨a,e,⟨xs,hq⟩,q⟩:=q1;subst e;cases r1;obtain⟨its,rv,p,hz⟩:=I1.list hq;refine wpAny_pyIter_list p.isList ?_;refine⟨s1.heap.objs.size,[s1.heap.objs.size],_,_,H1,rfl,I1.kept (t':=s1.toks) fun b o e=>Heap.get?_push_of_some _ e,Zi4 a _,⟨_,Heap.get?_push_size _ rfl,rfl,rfl⟩,fun b hb=> ?_,q⟩;have e:b=s1.heap.objs.size:=by simpa using hb
 subst e;exact I1.fpOk (Nat.le_refl _) (I1.hok.fresh (Nat.le_refl _))
theorem ZiT{pins:List (Addr×Obj)}{σ:St}{H:Hp}{s:Shared}{R:It->Hp->Prop}{E:Value->Shared->Prop}{lo hi:Int}{t u v:Tok}{tk:Nat}(I:Inv X pins σ H s)(h1: -(2^62)<=lo)(h2:lo<2^62)(h3: -(2^62)<=hi)(h4:hi<2^62)
  (q:R (Itr lo (hi-lo).toNat) H):wpAny (model X.prog X.w) X.A (pyIter (.ref s.heap.objs.size)) (PIE X pins σ tg R) E {s with heap:=s.heap.push {cls:=.type "range",data:=.fields #[.int lo t,.int hi u,.int 1 v]},toks:=tk}:=by
 refine wpAny_pyIter_range (IsRange.new ..) (small_one h1 h2 h3 h4) ?_;have I1:Inv X pins σ H {s with heap:=s.heap.push {cls:=.type "range",data:=.fields #[.int lo t,.int hi u,.int 1 v]},toks:=tk}:=I.kept fun b o e=>Heap.get?_push_of_some _ e;refine⟨(s.heap.push {cls:=.type "range",data:=.fields #[.int lo t,.int hi u,.int 1 v]}).objs.size,[(s.heap.push {cls:=.type "range",data:=.fields #[.int lo t,.int hi u,.int 1 v]}).objs.size],_,_,H,rfl,
  I1.kept (t':=tk) fun b o e=>Heap.get?_push_of_some _ e,ZgH _ lo (hi-lo).toNat, ?_,fun b hb=> ?_,q⟩
 ·have e1:lo+((0:Nat):Int)*1=lo:=by simp
  have e2:(((hi-lo).toNat:Nat):Int)-((0:Nat):Int)=Builtin.Range.rangeSize lo hi 1:=by rw[rangeSize_one];split<;>omega
  show IsRangeIter _ _ (lo+((0:Nat):Int)*1) ((((hi-lo).toNat:Nat):Int)-((0:Nat):Int)) 1;rw[e1,e2];exact Heap.get?_push_size _ rfl
 ·have e:b=(s.heap.push {cls:=.type "range",data:=.fields #[.int lo t,.int hi u,.int 1 v]}).objs.size:=by simpa using hb
  subst e;exact I1.fpOk (Nat.le_refl _) (I1.hok.fresh (Nat.le_refl _))
def Zma(ta:TA):TI:=fun σ H R=>ta σ H fun vs H1=>∃j:Int,vs=[.int j]/\-(2^62)<=j/\j<2^62/\R (Itr 0 j.toNat) H1
theorem ZcG{a:Expr}{ta:TA}{p pos:Pos}(hg:Gl X "range")(hm:X.mg "range"=none)(ha:PA X [a] ta)(hs:starEach [a] X.env=[(false,eval a X.env)]:=by rfl):PI X tg (.Call (.Name "range" p) [a] [] pos) (Zma ta):=by
 intro pins s σ H R I h;refine Call_ (ZcE I hg hm boot_range (PyProof.Rows.callWith_type1 (thn (ha pos pins s σ H _ I h) fun us s1 ⟨vs,H1,I1,r1,q1⟩=> ?_) hs rfl));obtain⟨j,e,q1,q2,q⟩:=q1;subst e;cases r1 with
 |cons r rr=>
  cases rr;obtain⟨t,rfl⟩:=r;exact call_range_1 (ZiT I1 (by omega) (by omega) q1 q2 (by simpa using q))
def ZmV(wi:TI)(g:TG)(tb:TS):TS:=fun D σ H=>wi σ H fun J H1=>∃W:Nat->Nat->St->Hp->Prop,(∃m,W 0 m σ H1)/\∀i m σ H,W i m σ H->
 (J.stop i H/\D.nx σ H)\/(J.go i H/\∃N:St->Hp->Prop,(∀σ' H',N σ' H'->∃m',m'<m/\W (i+1) m' σ' H')/\∀x H',J.yld i H x H'->g x σ H' fun σ2 H2=>tb {D with nx:=N,ct:=N,bk:=D.nx} σ2 H2)
def ZdE(fp:List Addr)(h:Heap):List (Addr×Obj):=fp.filterMap fun b=>(h.get? b).map fun o=>(b,o)
theorem Zax{fp:List Addr}{h:Heap}{b:Addr}{o:Obj}(hb:b∈fp)(e:h.get? b=some o):(b,o)∈ZdE fp h:=List.mem_filterMap.mpr ⟨b,hb,by rw[e];rfl⟩
theorem Zi5{fp:List Addr}{h:Heap}{p:Addr×Obj}(hp:p∈ZdE fp h):p.1∈fp/\h.get? p.1=some p.2:=by
 obtain⟨b,hb,e⟩:=List.mem_filterMap.mp hp;cases q:h.get? b with
 |none=>rw[q] at e;cases e
 |some o=>
  rw[q] at e
  have e':(b,o)=p:=Option.some.inj e;subst e';exact⟨hb,q⟩
theorem Inv.pinned{pins:List (Addr×Obj)}{σ:St}{H:Hp}{s:Shared}{fp:List Addr}(I:Inv X pins σ H s)(hf:∀b∈fp,Zec X pins H b)(ho:∀b∈fp,∃o,s.heap.get? b=some o/\∀v,o.data≠.cell v):Inv X (pins++ZdE fp s.heap) σ H s:=
 I.pins_of fun p hp=>(List.mem_append.mp hp).elim (fun z=>I.pin p (List.mem_append_right _ z)) fun z=>by
  obtain⟨hb,e⟩:=Zi5 z;obtain⟨f0,f1,f2,_⟩:=hf p.1 hb;obtain⟨o,e',d⟩:=ho p.1 hb;rw[e] at e';cases e'
  exact⟨e,f0,f1,f2,d⟩
theorem Inv.unpinned{pins pl:List (Addr×Obj)}{σ:St}{H:Hp}{s:Shared}(I:Inv X (pins++pl) σ H s):Inv X pins σ H s:=I.pins_of fun p hp=>I.pin p (List.mem_append_right _ (List.mem_append_left _ hp))
theorem Zay{iter:Expr}{body:List Stmt}{wi:TI}{g:TG}{tb:TS}{pos:Pos}(hp:PassesOwn (model X.prog X.w) X.A X.env X.xe)(hc:X.calm=true)(hi:PI X tg iter wi)(hg:PG X tg g)(hb:PSs X body tb)
  (hs:∀x,foldedSetIterable iter X.env x=pure x:=by intro _;rfl):PS X (.For tg iter body [] pos) (ZmV wi g tb):=by
 intro pins s σ H D I h;refine wpAny_For (thn (hi pins s σ H _ I h) fun v s1 h1=>thn h1 fun itv s2 h2=> ?_) hs;obtain⟨it,fp,tn,J,H2,e,I2,T,st2,f2,W,⟨m0,w0⟩,turn⟩:=h2;subst e;have stat:∀{H':Hp},(∀b∈fp,H' b=none)->∀b∈fp,Zec X pins H' b:=fun hn b hb=>⟨hn b hb,(f2 b hb).2⟩
 refine codeAny_forLoop_any (fun n s'=>∃i σ' H',Inv X pins σ' H' s'/\tn i s'.heap/\(∀b∈fp,H' b=none)/\W i n σ' H') ?_ m0 ⟨0,σ,H2,I2,st2,fun b hb=>(f2 b hb).1,w0⟩;rintro n s3 ⟨i,σ3,H3,I3,st3,fr3,w3⟩;rcases turn i n σ3 H3 w3 with ⟨stop,qn⟩|⟨go,N,hN,step⟩
 ·refine wpAny_passesOwn hp (thn (T.done X rfl rfl rfl hc i pins s3 σ3 H3 X.xe I3 (stat fr3) st3 stop) fun r s4 ⟨hr,I4⟩=> ?_);subst hr;exact wpAny_execs_nil ⟨σ3,H3,I4,qn⟩
 ·refine wpAny_passesOwn hp (thn (T.item X rfl rfl rfl hc i pins s3 σ3 H3 X.xe I3 (stat fr3) st3 go) fun r s4 ⟨u,hr,h4⟩=> ?_);subst hr;refine wpAny_passesOwn hp (thn h4 fun _ s5 ⟨x,H5,I5,r5,y5,st5,fr5⟩=> ?_);have I5':=I5.pinned (stat fr5) (T.obj _ _ st5);refine wpAny_passesOwn hp (thn (hg _ s5 σ3 H5 x u _ I5' r5 (step x H5 y5)) fun _ s6 ⟨σ6,H6,I6,q6⟩=> ?_);refine wpAny_passesOwn hp (thn (hb _ s6 σ6 H6 _ I6 q6) fun f s7 q7=> ?_)
  have again:∀{σ7:St} {H7:Hp},Inv X (pins++ZdE fp s5.heap) σ7 H7 s7->N σ7 H7->∃m,m<n/\∃i σ' H',Inv X pins σ' H' s7/\tn i s7.heap/\(∀b∈fp,H' b=none)/\W i m σ' H':=fun{σ7 H7} I7 n7=>by
   obtain⟨m',hm,w7⟩:=hN σ7 H7 n7;refine⟨m',hm,i+1,σ7,H7,I7.unpinned,T.keep _ _ _ st5 fun b hb o e=>(I7.pin (b,o) (List.mem_append_right _ (List.mem_append_right _ (Zax hb e)))).1,fun b hb=> ?_,w7⟩;obtain⟨o,e,d⟩:=T.obj _ _ st5 b hb;exact(I7.pin (b,o) (List.mem_append_right _ (List.mem_append_right _ (Zax hb e)))).2.1
  cases f with
  |next=>obtain⟨σ7,H7,I7,n7⟩:=q7;exact again I7 n7
  |cont=>obtain⟨σ7,H7,I7,n7⟩:=q7;exact again I7 n7
  |brk=>obtain⟨σ7,H7,I7,q7⟩:=q7;exact⟨σ7,H7,I7.unpinned,q7⟩
  |ret v=>obtain⟨x7,σ7,H7,I7,r7,q7⟩:=q7;exact⟨x7,σ7,H7,I7.unpinned,r7,q7⟩
end
theorem Zc9{K:PySem.W.Frag}{a:Addr}{xs:List V}{g:TG}{tb:TS}{D:ZfX}{σ:St}{H:Hp}(Pv:Nat->St->Hp->Prop)(h0:Pv 0 σ H)(hl:∀i σ H,i<=xs.length->Pv i σ H->SqL K H a xs)
  (hs:∀i x σ H,xs[i]? =some x->Pv i σ H->g x σ H fun σ2 H2=>tb {D with nx:=Pv (i+1),ct:=Pv (i+1),bk:=D.nx} σ2 H2)(hd:∀σ H,Pv xs.length σ H->D.nx σ H):
  ∃W:Nat->Nat->St->Hp->Prop,(∃m,W 0 m σ H)/\∀i m σ H,W i m σ H->
   ((Itl K a).stop i H/\D.nx σ H)\/((Itl K a).go i H/\∃N:St->Hp->Prop,(∀σ' H',N σ' H'->∃m',m'<m/\W (i+1) m' σ' H')/\∀x H',(Itl K a).yld i H x H'->g x σ H' fun σ2 H2=>tb {D with nx:=N,ct:=N,bk:=D.nx} σ2 H2):=by
 refine⟨fun i m σ H=>m=xs.length-i/\i<=xs.length/\Pv i σ H,⟨xs.length,by simp,Nat.zero_le _,h0⟩, ?_⟩;rintro i m σ H ⟨rfl,hi,p⟩;have q:=hl i σ H hi p
 by_cases hlt:i<xs.length
 ·refine .inr ⟨⟨xs,xs[i],q,by simp[hlt]⟩,Pv (i+1),fun σ' H' p'=>⟨xs.length-(i+1),by omega,rfl,hlt,p'⟩,fun x H' y=> ?_⟩;obtain⟨e,y⟩:=y;subst e;exact hs i x σ _ (y xs q) p
 ·have e:i=xs.length:=by omega
  subst e;exact .inl ⟨⟨xs,q,Nat.le_refl _⟩,hd σ H p⟩
theorem Zeo{lo:Int}{n:Nat}{g:TG}{tb:TS}{D:ZfX}{σ:St}{H:Hp}(Pv:Nat->St->Hp->Prop)(h0:Pv 0 σ H)
  (hs:∀i σ H,i<n->Pv i σ H->g (.int (lo+i)) σ H fun σ2 H2=>tb {D with nx:=Pv (i+1),ct:=Pv (i+1),bk:=D.nx} σ2 H2)(hd:∀σ H,Pv n σ H->D.nx σ H):
  ∃W:Nat->Nat->St->Hp->Prop,(∃m,W 0 m σ H)/\∀i m σ H,W i m σ H->
   ((Itr lo n).stop i H/\D.nx σ H)\/((Itr lo n).go i H/\∃N:St->Hp->Prop,(∀σ' H',N σ' H'->∃m',m'<m/\W (i+1) m' σ' H')/\∀x H',(Itr lo n).yld i H x H'->g x σ H' fun σ2 H2=>tb {D with nx:=N,ct:=N,bk:=D.nx} σ2 H2):=by
 refine⟨fun i m σ H=>m=n-i/\i<=n/\Pv i σ H,⟨n,by simp,Nat.zero_le _,h0⟩, ?_⟩;rintro i m σ H ⟨rfl,hi,p⟩
 by_cases hlt:i<n
 ·refine .inr ⟨hlt,Pv (i+1),fun σ' H' p'=>⟨n-(i+1),by omega,rfl,hlt,p'⟩,fun x H' y=> ?_⟩;obtain⟨e,y⟩:=y;subst e y;exact hs i σ _ hlt p
 ·have e:i=n:=by omega
  subst e;exact .inl ⟨Nat.le_refl _,hd σ H p⟩
end L2
namespace L2
open PySem PySem.Spec PyProof.Rows
abbrev R2:=V->V->Hp->VK->Prop
def OpR(X:Cx)(f:Value->Value->Sem Value)(r:R2):Prop:=
 ∀(pins:List (Addr×Obj)) (s:Shared) (σ:St) (H:Hp) (x y:V) (v u:Value) (Q:VK),Inv X pins σ H s->ZC x v->ZC y u->r x y H Q->
  wpAny (model X.prog X.w) X.A (f v u) (EP X pins σ Q) X.xe s
def JF(X:Cx)(f:Value)(r:List V->Hp->VK->Prop):Prop:=
 ∀(pins:List (Addr×Obj)) (s:Shared) (σ:St) (H:Hp) (xs:List V) (us:List Value) (Q:VK),Inv X pins σ H s->ZJ xs us->r xs H Q->
  wpAny (model X.prog X.w) X.A (call f us) (EP X pins σ Q) X.xe s
def tOp(r:R2)(ta tb:TE):TE:=fun σ H Q=>ta σ H fun x H1=>tb σ H1 fun y H2=>r x y H2 Q
def rI(C:Int->Int->Prop)(g:Int->Int->V):R2:=fun x y H Q=>∃i j,x=.int i/\y=.int j/\C i j/\Q (g i j) H
def rI0(g:Int->Int->V):R2:=fun x y H Q=>∃i j,x=.int i/\y=.int j/\Q (g i j) H
section
variable {X:Cx} {a b c:Expr} {ta tb tc:TE} {pos:Pos}
theorem Zls(ha:PE X a ta)(hb:PE X b tb){pins:List (Addr×Obj)}{s:Shared}{σ:St}{H:Hp}{R:V->V->Hp->Prop}(I:Inv X pins σ H s)
  (h:ta σ H fun x H1=>tb σ H1 fun y H2=>R x y H2){Q:Value->Shared->Prop}{f:Value->Value->Sem Value}
  (hf:∀v u s2 x y H2,Inv X pins σ H2 s2->ZC x v->ZC y u->R x y H2->wpAny (model X.prog X.w) X.A (f v u) Q X.xe s2):
  wpAny (model X.prog X.w) X.A (eval a X.env) (fun v s₁=>wpAny (model X.prog X.w) X.A (eval b X.env) (fun u s₂=>wpAny (model X.prog X.w) X.A (f v u) Q X.xe s₂) X.xe s₁) X.xe s:=by
 refine thn (ha pins s σ H _ I h) fun v s1 ⟨x,H1,I1,r1,q1⟩=> ?_;refine thn (hb pins s1 σ H1 _ I1 q1) fun u s2 ⟨y,H2,I2,r2,q2⟩=> ?_;exact hf v u s2 x y H2 I2 r1 r2 q2
theorem Zw{op:Operator}{r:R2}(ho:OpR X (binaryOp op) r)(ha:PE X a ta)(hb:PE X b tb):PE X (.BinOp a op b pos) (tOp r ta tb):=by
 intro pins s σ H Q I h;exact wpAny_BinOp (Zls ha hb I h fun v u s2 x y H2 I2 rx ry q=>ho pins s2 σ H2 x y v u Q I2 rx ry q)
theorem opI{f:Value->Value->Sem Value}{C:Int->Int->Prop}{g:Int->Int->Int}
  (rule:∀(i j:Int) (t u:Tok) (s:Shared) (Q:Value->Shared->Prop) (E:Value->Shared->Prop),C i j->Q (.int (g i j) s.toks) {s with toks:=s.toks+1}->wpAny (model X.prog X.w) X.A (f (.int i t) (.int j u)) Q E s):
  OpR X f (rI C fun i j=> .int (g i j)):=by
 intro pins s σ H x y v u Q I rx ry h;obtain⟨i,j,rfl,rfl,hc,q⟩:=h;obtain⟨t,rfl⟩:=rx;obtain⟨t',rfl⟩:=ry;exact rule i j t t' s _ _ hc ⟨.int (g i j),H,I.tok _,⟨_,rfl⟩,q⟩
theorem Zmb{f:Value->Value->Sem Value}{g:Int->Int->Int}
  (rule:∀(i j:Int) (t u:Tok) (s:Shared) (Q:Value->Shared->Prop) (E:Value->Shared->Prop),Q (.int (g i j) s.toks) {s with toks:=s.toks+1}->wpAny (model X.prog X.w) X.A (f (.int i t) (.int j u)) Q E s):
  OpR X f (rI0 fun i j=> .int (g i j)):=by
 intro pins s σ H x y v u Q I rx ry h;obtain⟨i,j,rfl,rfl,q⟩:=h;obtain⟨t,rfl⟩:=rx;obtain⟨t',rfl⟩:=ry;exact rule i j t t' s _ _ ⟨.int (g i j),H,I.tok _,⟨_,rfl⟩,q⟩
theorem Zlt{f:Value->Value->Sem Value}{g:Int->Int->Bool}
  (rule:∀(i j:Int) (t u:Tok) (s:Shared) (Q:Value->Shared->Prop) (E:Value->Shared->Prop),Q (.bool (g i j)) s->wpAny (model X.prog X.w) X.A (f (.int i t) (.int j u)) Q E s):
  OpR X f (rI0 fun i j=> .bl (g i j)):=by
 intro pins s σ H x y v u Q I rx ry h;obtain⟨i,j,rfl,rfl,q⟩:=h;obtain⟨t,rfl⟩:=rx;obtain⟨t',rfl⟩:=ry;exact rule i j t t' s _ _ ⟨.bl (g i j),H,I,rfl,q⟩
def ZmW(i j:Int):Prop:=0<j/\j<1073741824
def Zmc(i j:Int):Prop:=0<=j/\j<=1000000/\i.natAbs<2^64
theorem Xo:OpR X (binaryOp .Add) (rI0 fun i j=> .int (i+j)):=Zmb fun _ _ _ _ _ _ _ q=>add_int q
theorem Zlu:OpR X (binaryOp .Sub) (rI0 fun i j=> .int (i-j)):=Zmb fun _ _ _ _ _ _ _ q=>sub_int q
theorem Yx:OpR X (binaryOp .FloorDiv) (rI ZmW fun i j=> .int (i/j)):=opI fun i j _ _ _ _ _ hc q=>by
 have h1:(0:Int)<j:=hc.1;have h2:j<1073741824:=hc.2;exact floordiv_int (by omega) (by rw[Int.fdiv_eq_ediv_of_nonneg i (by omega)];exact q) (.inl (PyProof.noPylong_small (by omega)))
theorem Yj:OpR X (binaryOp .Mod) (rI (fun _ j=>0<j) fun i j=> .int (i%j)):=opI fun i j _ _ _ _ _ hc q=>by
 have h1:(0:Int)<j:=hc;exact mod_int' (by omega) (by rw[Int.fmod_eq_emod_of_nonneg i (by omega)];exact q)
theorem ZiU:OpR X (binaryOp .Pow) (rI Zmc fun i j=> .int (i^j.toNat)):=opI fun _ _ _ _ _ _ _ hc q=>pow_int_small hc.1 hc.2.1 hc.2.2 q
end
def Zkh:V->V->Bool
 | .non,.non=>true| .non,.int _=>true| .int _,.non=>true| .non,.bl _=>true| .bl _,.non=>true| .non,.str _=>true| .str _,.non=>true
 | .int _,.int _=>true| .bl _,.bl _=>true| .str _,.str _=>true| .byt _,.byt _=>true
 | .int _,.str _=>true| .str _,.int _=>true| .bl _,.str _=>true| .str _,.bl _=>true
 |_,_=>false
def rEq:R2:=fun x y H Q=>Zkh x y=true/\Q (.bl (decide (x=y))) H
def rNe:R2:=fun x y H Q=>Zkh x y=true/\Q (.bl (!decide (x=y))) H
theorem ZhC{i j:Int}:decide (V.int i=V.int j)=(i==j):=by
 rw[Bool.eq_iff_iff];simp
theorem ZiV{i j:Bool}:decide (V.bl i=V.bl j)=(i==j):=by
 rw[Bool.eq_iff_iff];simp
theorem ZhD{i j:Str}:decide (V.str i=V.str j)=(i==j):=by
 rw[Bool.eq_iff_iff];simp
theorem ZhE{i j:Array UInt8}:decide (V.byt i=V.byt j)=(i.toList==j.toList):=by
 rw[Bool.eq_iff_iff];cases i;cases j;simp
section
variable {X:Cx} {a b c:Expr} {ta tb tc:TE} {pos:Pos}
theorem ZX{pins:List (Addr×Obj)}{σ:St}{H:Hp}{s:Shared}{Q:VK}{k k':Bool}(I:Inv X pins σ H s)(q:Q (.bl k) H)(e:k=k'):EP X pins σ Q (.bool k') s:=by
 subst e;exact⟨.bl k,H,I,rfl,q⟩
theorem YT:OpR X (compareOp .Eq) rEq:=by
 intro pins s σ H x y v u Q I rx ry h;obtain⟨hs,q⟩:=h;cases x with
 |non=>
  cases rx;cases y with
  |non=>cases ry;exact PySem.EqNone.eq_none_none (ZX I q (by simp))
  |bl j=>cases ry;exact PySem.EqNone.eq_none_bool (ZX I q (by simp))
  |int j=>obtain⟨t',rfl⟩:=ry;exact PySem.EqNone.eq_none_int (ZX I q (by simp))
  |str j=>obtain⟨t',rfl⟩:=ry;exact PySem.EqNone.eq_none_str (ZX I q (by simp))
  |_=>exact absurd (show false=true from hs) Bool.false_ne_true
 |bl i=>
  cases rx;cases y with
  |non=>cases ry;exact PySem.EqNone.eq_bool_none (ZX I q (by simp))
  |bl j=>cases ry;exact eq_bool (ZX I q ZiV)
  |str j=>obtain⟨t',rfl⟩:=ry;exact PySem.EqMixed.eq_bool_str (ZX I q (by simp))
  |_=>exact absurd (show false=true from hs) Bool.false_ne_true
 |int i=>
  obtain⟨t,rfl⟩:=rx;cases y with
  |non=>cases ry;exact PySem.EqNone.eq_int_none (ZX I q (by simp))
  |int j=>obtain⟨t',rfl⟩:=ry;exact eq_int (ZX I q ZhC)
  |str j=>obtain⟨t',rfl⟩:=ry;exact PySem.EqMixed.eq_int_str (ZX I q (by simp))
  |_=>exact absurd (show false=true from hs) Bool.false_ne_true
 |str i=>
  obtain⟨t,rfl⟩:=rx;cases y with
  |non=>cases ry;exact PySem.EqNone.eq_str_none (ZX I q (by simp))
  |bl j=>cases ry;exact PySem.EqMixed.eq_str_bool (ZX I q (by simp))
  |int j=>obtain⟨t',rfl⟩:=ry;exact PySem.EqMixed.eq_str_int (ZX I q (by simp))
  |str j=>obtain⟨t',rfl⟩:=ry;exact eq_str (ZX I q ZhD)
  |_=>exact absurd (show false=true from hs) Bool.false_ne_true
 |byt i=>
  obtain⟨t,rfl⟩:=rx;cases y with
  |byt j=>obtain⟨t',rfl⟩:=ry;exact PySem.W.eq_bytes (ZX I q ZhE)
  |_=>exact absurd (show false=true from hs) Bool.false_ne_true
 |_=>cases y<;>exact absurd (show false=true from hs) Bool.false_ne_true
theorem Zl5:OpR X (compareOp .NotEq) rNe:=by
 intro pins s σ H x y v u Q I rx ry h;obtain⟨hs,q⟩:=h;cases x with
 |non=>
  cases rx;cases y with
  |non=>cases ry;exact PySem.EqNone.ne_none_none (ZX I q (by simp))
  |bl j=>cases ry;exact PySem.EqNone.ne_none_bool (ZX I q (by simp))
  |int j=>obtain⟨t',rfl⟩:=ry;exact PySem.EqNone.ne_none_int (ZX I q (by simp))
  |str j=>obtain⟨t',rfl⟩:=ry;exact PySem.EqNone.ne_none_str (ZX I q (by simp))
  |_=>exact absurd (show false=true from hs) Bool.false_ne_true
 |bl i=>
  cases rx;cases y with
  |non=>cases ry;exact PySem.EqNone.ne_bool_none (ZX I q (by simp))
  |bl j=>cases ry;exact ne_bool (ZX I q (congrArg not ZiV))
  |str j=>obtain⟨t',rfl⟩:=ry;exact PySem.EqMixed.ne_bool_str (ZX I q (by simp))
  |_=>exact absurd (show false=true from hs) Bool.false_ne_true
 |int i=>
  obtain⟨t,rfl⟩:=rx;cases y with
  |non=>cases ry;exact PySem.EqNone.ne_int_none (ZX I q (by simp))
  |int j=>obtain⟨t',rfl⟩:=ry;exact ne_int (ZX I q (congrArg not ZhC))
  |str j=>obtain⟨t',rfl⟩:=ry;exact PySem.EqMixed.ne_int_str (ZX I q (by simp))
  |_=>exact absurd (show false=true from hs) Bool.false_ne_true
 |str i=>
  obtain⟨t,rfl⟩:=rx;cases y with
  |non=>cases ry;exact PySem.EqNone.ne_str_none (ZX I q (by simp))
  |bl j=>cases ry;exact PySem.EqMixed.ne_str_bool (ZX I q (by simp))
  |int j=>obtain⟨t',rfl⟩:=ry;exact PySem.EqMixed.ne_str_int (ZX I q (by simp))
  |str j=>obtain⟨t',rfl⟩:=ry;exact ne_str (ZX I q (congrArg not ZhD))
  |_=>exact absurd (show false=true from hs) Bool.false_ne_true
 |byt i=>
  obtain⟨t,rfl⟩:=rx;cases y with
  |byt j=>obtain⟨t',rfl⟩:=ry;exact PySem.W.ne_bytes (ZX I q (congrArg not ZhE))
  |_=>exact absurd (show false=true from hs) Bool.false_ne_true
 |_=>cases y<;>exact absurd (show false=true from hs) Bool.false_ne_true
theorem Zep:OpR X (compareOp .Lt) (rI0 fun i j=> .bl (decide (i<j))):=Zlt fun _ _ _ _ _ _ _ q=>lt_int q
theorem Zmd:OpR X (compareOp .LtE) (rI0 fun i j=> .bl (decide (i<=j))):=Zlt fun _ _ _ _ _ _ _ q=>le_int q
theorem ZhF:OpR X (compareOp .Gt) (rI0 fun i j=> .bl (decide (j<i))):=Zlt fun _ _ _ _ _ _ _ q=>gt_int q
theorem Zaz:OpR X (compareOp .Is) (fun x y H Q=>y=.non/\Q (.bl (decide (x=.non))) H):=by
 intro pins s σ H x y v u Q I rx ry h;obtain⟨rfl,q⟩:=h;cases ry;refine is_none_gen (ZX I q ?_);cases x<;>first
  |(cases rx;rfl)
  |(obtain⟨t,rfl⟩:=rx;rfl)
theorem Zy(b:Expr){op:CmpOp}(h:op≠.In:=by decide)(h2:op≠.NotIn:=by decide):behindInMarks op b=false:=by
 have e1:(op==CmpOp.In)=false:=by cases op<;>first|rfl|exact absurd rfl h
 have e2:(op==CmpOp.NotIn)=false:=by cases op<;>first|rfl|exact absurd rfl h2
 cases b<;>simp[behindInMarks,e1,e2]
theorem Zca{op:CmpOp}{r:R2}(ho:OpR X (compareOp op) r)(ha:PE X a ta)(hb:PE X b tb)(hm:behindInMarks op b=false):PE X (.Compare a [op] [b] pos) (tOp r ta tb):=by
 intro pins s σ H Q I h;exact wpAny_Compare1 (Zls ha hb I h fun v u s2 x y H2 I2 rx ry q=>ho pins s2 σ H2 x y v u Q I2 rx ry q) hm
def Zl6(t:TE):TT:=fun σ H Q=>t σ H fun x H'=>∃k,x=.bl k/\Q k H'
theorem Zv{op:CmpOp}{r:R2}(ho:OpR X (compareOp op) r)(ha:PE X a ta)(hb:PE X b tb)(hm:behindInMarks op b=false):PT X (.Compare a [op] [b] pos) (Zl6 (tOp r ta tb)):=by
 intro pins s σ H Q I h;refine wpAny_isTrue_Compare1 (thn (ha pins s σ H _ I h) fun v s1 ⟨x,H1,I1,r1,q1⟩=>thn (hb pins s1 σ H1 _ I1 q1) fun u s2 ⟨y,H2,I2,r2,q2⟩=>
  thn (ho pins s2 σ H2 x y v u _ I2 r1 r2 q2) fun c s3 ⟨z,H3,I3,r3,k,e,q3⟩=> ?_) hm
 subst e;cases r3;exact wpAny_truthy_bool ⟨H3,I3,q3⟩
theorem Zf0:(sizeLine:Nat)<2^63:=by rw[sizeLine_eq];decide
theorem ZgI:OpR X (binaryOp .Add) (fun x y H Q=>∃i j,x=.str i/\y=.str j/\i.length+j.length<=sizeLine/\Q (.str (i++j)) H):=by
 intro pins s σ H x y v u Q I rx ry h;obtain⟨i,j,rfl,rfl,hz,q⟩:=h;obtain⟨t,rfl⟩:=rx;obtain⟨t',rfl⟩:=ry;exact add_str (fun t' tk=>⟨.str (i++j),H,I.tok _,⟨_,rfl⟩,q⟩) hz
theorem Zaj{x:V}{us:List Value}(r:ZJ [x] us):∃u,us=[u]/\ZC x u:=by
 cases r with
 |cons r1 r2=>cases r2;exact⟨_,rfl,r1⟩
theorem ZiW{x y:V}{us:List Value}(r:ZJ [x,y] us):∃u w',us=[u,w']/\ZC x u/\ZC y w':=by
 cases r with
 |cons r1 r2=>
  cases r2 with
  |cons r3 r4=>cases r4;exact⟨_,_,rfl,r1,r3⟩
theorem ZiX:JF X (.builtin "abs") (fun xs H Q=>∃i,xs=[.int i]/\Q (.int (if i<0 then-i else i)) H):=by
 intro pins s σ H xs us Q I r h;obtain⟨i,rfl,q⟩:=h;obtain⟨u,rfl,t,rfl⟩:=Zaj r;exact call_abs_int fun u tk=>⟨.int (if i<0 then-i else i),H,I.tok _,⟨_,rfl⟩,q⟩
theorem Zeq(hc:X.calm=true):JF X (.builtin "max") (fun xs H Q=>∃i j,xs=[.int i,.int j]/\Q (.int (if j>i then j else i)) H):=by
 intro pins s σ H xs us Q I r h;obtain⟨i,j,rfl,q⟩:=h;obtain⟨u,w',rfl,⟨t,rfl⟩,⟨t',rfl⟩⟩:=ZiW r;refine max_two_ints (I.ok.hd hc) fun h' tk k=>⟨_,H,I.kept k, ?_,q⟩
 by_cases hj:j>i
 ·rw[if_pos hj,if_pos hj];exact⟨_,rfl⟩
 ·rw[if_neg hj,if_neg hj];exact⟨_,rfl⟩
theorem Zi6(hc:X.calm=true):JF X (.builtin "min") (fun xs H Q=>∃i j,xs=[.int i,.int j]/\Q (.int (if j<i then j else i)) H):=by
 intro pins s σ H xs us Q I r h;obtain⟨i,j,rfl,q⟩:=h;obtain⟨u,w',rfl,⟨t,rfl⟩,⟨t',rfl⟩⟩:=ZiW r;refine min_two_ints (I.ok.hd hc) fun h' tk k=>⟨_,H,I.kept k, ?_,q⟩
 by_cases hj:j<i
 ·rw[if_pos hj,if_pos hj];exact⟨_,rfl⟩
 ·rw[if_neg hj,if_neg hj];exact⟨_,rfl⟩
theorem Zer:JF X (.type "int") (fun xs H Q=>(∃i,xs=[.int i]/\Q (.int i) H)\/∃k,xs=[.bl k]/\Q (.int (if k then 1 else 0)) H):=by
 intro pins s σ H xs us Q I r h;rcases h with ⟨i,rfl,q⟩|⟨k,rfl,q⟩
 ·obtain⟨u,rfl,t,rfl⟩:=Zaj r;exact call_int_int ⟨.int i,H,I,⟨_,rfl⟩,q⟩
 ·obtain⟨u,rfl,r1⟩:=Zaj r;cases r1;exact call_int_bool ⟨.int (if k then 1 else 0),H,I.tok _,⟨_,rfl⟩,q⟩
def ZmX(K:PySem.W.Frag)(x:V)(H:Hp)(n:Nat):Prop:=
 match x with
 | .str y=>y.length<=sizeLine/\n=y.length
 | .byt y=>y.size<=sizeLine/\n=y.size
 | .ref p=>(∃xs,SqL K H p xs/\n=xs.length)\/∃xs,SqT K H p xs/\n=xs.length
 |_=>False
theorem Zak:JF X (.builtin "len") (fun xs H Q=>∃x n,xs=[x]/\ZmX X.K x H n/\Q (.int n) H):=by
 intro pins s σ H xs us Q I r h;obtain⟨x,n,rfl,e,q⟩:=h;obtain⟨u,rfl,rx⟩:=Zaj r;have hl:=Zf0;have hs:sizeLine=16777216:=sizeLine_eq;cases x with
 |str y=>
  obtain⟨t,rfl⟩:=rx;obtain⟨hy,e'⟩:y.length<=sizeLine/\n=y.length:=e;subst e';exact len_str (by omega) ⟨.int _,H,I.tok _,⟨_,rfl⟩,q⟩
 |byt y=>
  obtain⟨t,rfl⟩:=rx;obtain⟨hy,e'⟩:y.size<=sizeLine/\n=y.size:=e;subst e';exact PySem.W.len_bytes (by omega) ⟨.int _,H,I.tok _,⟨_,rfl⟩,q⟩
 |ref p=>
  cases rx;have e':(∃xs,SqL X.K H p xs/\n=xs.length)\/∃xs,SqT X.K H p xs/\n=xs.length:=e;rcases e' with ⟨xs,hx,e'⟩|⟨xs,hx,e'⟩
  ·subst e';obtain⟨its,r',pl,hz⟩:=I.list hx;have hlen:=r'.length;exact Calls.call_len_list pl.isList (by simp only [List.size_toArray];omega) ⟨.int xs.length,H,I.tok _,⟨_,by simp only [List.size_toArray];rw[hlen]⟩,q⟩
  ·subst e';obtain⟨its,r',pl,hz⟩:=I.tuple hx;have hlen:=r'.length;exact len_tuple pl (by simp only [List.size_toArray];omega) ⟨.int xs.length,H,I.tok _,⟨_,by simp only [List.size_toArray];rw[hlen]⟩,q⟩
 |_=>exact(show False from e).elim
end
end L2
namespace L2
open PySem PySem.Spec PyProof.Rows
structure ZgJ (h:Heap) (x dx C:Addr) (mA:Str->Option Value):Prop where
 obj:h.get? x=some (PySem.W.instObj C dx)
 ns:h.Ns1 dx mA
 ne:dx≠x
theorem Zi7{h:Heap}{dx:Addr}{mA:Str->Option Value}(n:h.Ns1 dx mA):∃od,h.get? dx=some od/\∀name,PySem.W.lookIn name od=some (mA name):=by
 obtain⟨o,es,ep,ho,hd,hk,_,hm⟩:=n;refine⟨o,ho,fun name=> ?_⟩;have e:=hm name;unfold nsFind findBy at e
 rw[<-Array.find?_toList] at e
 unfold PySem.W.lookIn;rw[hd]
 dsimp only
 split
 ·rename_i y q
  rw[q] at e
  exact congrArg some e
 ·rename_i q
  rw[q] at e
  have a:es.toList.any (·.refKey)=false:=by
   rw[List.any_eq_false];intro y hy;obtain⟨z,t,hkey⟩:=hk y (Array.mem_toList_iff.mp hy);simp[DictEntry.refKey,hkey]
  have a':¬es.toList.any (·.refKey)=true:=by rw[a];exact Bool.false_ne_true
  rw[if_neg a'];exact congrArg some e
theorem ZgJ.look{h:Heap}{x dx C:Addr}{mA:Str->Option Value}(I:ZgJ h x dx C mA):∃od,PySem.W.InstAt h x (PySem.W.instObj C dx) C (some od)/\∀name,PySem.W.lookIn name od=some (mA name):=
 let ⟨od,ho,hl⟩:=Zi7 I.ns
 ⟨od,⟨I.obj,rfl,rfl,ho⟩,hl⟩
section
variable {prog:Program} {w:World} {A:Around} {E:Value->Shared->Prop} {s:Shared} {K:PySem.W.Frag} {x dx C f:Addr} {mA:Str->Option Value} {name:Str} {v:Value}
theorem Zki{expr:Bool}{Q:Value->Shared->Prop}(X:K.In s.heap)(I:ZgJ s.heap x dx C mA)(hg:PySem.W.plainGet K C name=true)(hh:PySem.W.hasDictIn K C=true)
  (ha:PySem.W.findIn K (.ref C) name=some none)(hv:mA name=some v)(hv':PySem.W.handedIn v=true)(h:Q v {s with toks:=s.toks+1}):
  wpAny (model prog w) A (getAttr (.ref x) name expr) Q E s:=by
 obtain⟨od,J,hl⟩:=I.look;exact PySem.W.get_value X J (PySem.W.plainGet_of hg).1 (PySem.W.findObj_own hh ha rfl (by rw[hl,hv])) hv' h
theorem ZiY{pl:Sem Bool}{Q:Value×List Value->Shared->Prop}(X:K.In s.heap)(I:ZgJ s.heap x dx C mA)(hg:PySem.W.plainGet K C name=true)
  (hf:PySem.W.findIn K (.ref C) name=some (some (.ref f)))(ht:PySem.W.isFn K (.ref f)=true)(hv:mA name=none)(h:Q (.ref f,[.ref x]) s):
  wpAny (model prog w) A (getMethod (.ref x) name pl) Q E s:=by
 obtain⟨od,J,hl⟩:=I.look;exact PySem.W.method_fn X J (PySem.W.plainGet_of hg).1 (PySem.W.plainGet_of hg).2 hf (beq_iff_eq.mp ht) (by show(PySem.W.lookIn name od).map (·.isSome)=some false;rw[hl,hv];rfl) h
theorem Zkj{ns:List Str}{Q:Unit->Shared->Prop}(X:K.In s.heap)(I:ZgJ s.heap x dx C mA)
  (hs:PySem.W.findIn K (.ref C) "__setattr__"=some (some (.builtin "object.__setattr__")))(hp:PySem.W.plainOver K C=true)(ht:PySem.W.takerIn K C name=some none)(hh:PySem.W.hasDictIn K C=true)
  (hw:PySem.Within mA ns)(hsz:ns.length<=sizeLine)
  (h:∀h',ZgJ h' x dx C (fun y=>if y=name then some v else mA y)->Heap.SameBut dx s.heap h'->Q () {s with heap:=h',toks:=s.toks+2}):
  wpAny (model prog w) A (setAttr (.ref x) name v) Q E s:=by
 obtain⟨od,J,hl⟩:=I.look;refine PySem.W.set_plain X J hs (PySem.W.osa_open (s:={s with toks:=s.toks+1}) (r:=none) X J hp ht fun b=> ?_);obtain⟨cd,hc,hd'⟩:=PySem.W.any_some hh;have hx:s.heap.get? x=some ⟨.ref C,some dx,.plain, #[]⟩:=I.obj;refine wpAny_bind (wpAny_pure (wpAny_bind (wpAny_bind (wpAny_loadPart hx (wpAny_bind (PySem.W.Looks.here (s:={s with toks:=s.toks+1}) (PySem.W.looks_clsIn X hc) ?_))))))
 rw[hd'];refine wpAny_pure (a:=some dx) (wpAny_bind (wpAny_pure (wpAny_bind ?_)));refine wpAny_nsSet1 (s:={s with toks:=s.toks+1}) I.ns fun h' hn2 hs2=> ?_;obtain⟨oD,esD,epD,hoD,hdD,hcD⟩:=hn2.count (PySem.Within.cons name v hw);refine wpAny_bind (wpAny_lookBehind hoD (by rw[hdD];exact pastItsLine_dict (Nat.le_trans hcD (by rw[List.length_cons];omega))) ?_)
 exact wpAny_pure (h _ ⟨(hs2.2 _ (Ne.symm I.ne)).trans I.obj,hn2,I.ne⟩ hs2)
theorem ZiZ{R:Result->Shared->Prop}{vs:List Value}{kw:List (Str×Value)}(X:K.In s.heap)(hm:PySem.W.makesIn K C=true)
  (hi:PySem.W.findIn K (.ref C) "__init__"=some (some (.ref f)))(hf:PySem.W.typeIn K (.ref f)=some (.type "function"))
  (h:codeAny (model prog w) (A.under (.builtin "type.__call__" ⟨.ref C::vs,kw⟩)) (.call (.ref f) ⟨.ref (s.heap.objs.size+1)::vs,kw⟩) (PySem.W.InitBack (s.heap.objs.size+1) R)
   {s with heap:=(s.heap.push PySem.W.emptyDict).push (PySem.W.instObj C s.heap.objs.size)}):
  codeAny (model prog w) A (.call (.ref C) ⟨vs,kw⟩) R s:=by
 obtain⟨hh,g,d,t,os⟩:=s;exact PySem.W.make_core (PySem.W.makes_of X hm) (PySem.W.looks_findIn X hi) (fun self=>PySem.W.bind_fn X self hf) (.inl rfl) h
end
def Zal(f:Str)(v:V):List (Str×V)->List (Str×V)
 |[]=>[(f,v)]
 |(g,x)::r=>if g=f then(g,v)::r else(g,x)::Zal f v r
theorem Yi(f g:Str)(v:V):∀fs:List (Str×V),(Zal f v fs).lookup g=if g=f then some v else fs.lookup g
 |[]=>by
  show List.lookup g [(f,v)]=_
  by_cases h:g=f
  ·have hb:(g==f)=true:=beq_iff_eq.mpr h;simp only [List.lookup,hb,if_pos h]
  ·have hb:(g==f)=false:=beq_eq_false_iff_ne.mpr h;simp only [List.lookup,hb,if_neg h]
 |(k,x)::r=>by
  have ih:=Yi f g v r;rw[show Zal f v ((k,x)::r)=(if k=f then(k,v)::r else(k,x)::Zal f v r) from rfl]
  by_cases hk:k=f
  ·rw[if_pos hk]
   by_cases h:g=k
   ·have hb:(g==k)=true:=beq_iff_eq.mpr h;simp only [List.lookup,hb,if_pos (h.trans hk)]
   ·have hb:(g==k)=false:=beq_eq_false_iff_ne.mpr h;simp only [List.lookup,hb,if_neg (fun e:g=f=>h (e.trans hk.symm))]
  ·rw[if_neg hk]
   by_cases h:g=k
   ·have hb:(g==k)=true:=beq_iff_eq.mpr h;simp only [List.lookup,hb,if_neg (fun e:g=f=>hk (h.symm.trans e))]
   ·have hb:(g==k)=false:=beq_eq_false_iff_ne.mpr h;simp only [List.lookup,hb];exact ih
theorem ZcH(f:Str)(v:V):∀fs:List (Str×V),f∈(Zal f v fs).map (·.1)/\∀g,g∈fs.map (·.1)->g∈(Zal f v fs).map (·.1)
 |[]=>⟨by simp[Zal],fun g h=>by simp at h⟩
 |(k,x)::r=>by
  obtain⟨i1,i2⟩:=ZcH f v r;rw[show Zal f v ((k,x)::r)=(if k=f then(k,v)::r else(k,x)::Zal f v r) from rfl]
  by_cases hk:k=f
  ·rw[if_pos hk];subst hk;exact⟨by simp,fun g h=>by simpa using h⟩
  ·rw[if_neg hk];refine⟨?_,fun g h=> ?_⟩
   ·rw[List.map_cons];exact List.mem_cons_of_mem _ i1
   ·rw[List.map_cons] at h⊢
    rcases List.mem_cons.mp h with e|e
    ·exact List.mem_cons.mpr (.inl e)
    ·exact List.mem_cons_of_mem _ (i2 g e)
theorem Zdc(f:Str)(v:V):∀fs:List (Str×V),(Zal f v fs).length<=fs.length+1
 |[]=>by simp[Zal]
 |(k,x)::r=>by
  have ih:=Zdc f v r;rw[show Zal f v ((k,x)::r)=(if k=f then(k,v)::r else(k,x)::Zal f v r) from rfl]
  by_cases hk:k=f
  ·rw[if_pos hk,List.length_cons,List.length_cons];omega
  ·rw[if_neg hk,List.length_cons,List.length_cons];omega
theorem Zau.some_of{v:V}{o:Option Value}(r:Zau (some v) o):∃u,o=some u/\ZC v u:=by
 cases o with
 |none=>exact(show False from r).elim
 |some u=>exact⟨u,rfl,r⟩
theorem Zau.none_of{o:Option Value}(r:Zau none o):o=none:=by
 cases o with
 |none=>rfl
 |some u=>exact(show False from r).elim
theorem Zi8{v:V}{u:Value}(r:ZC v u):PySem.W.handedIn u=true:=by
 cases v with
 |non=>cases(show u=Value.none from r);rfl
 |bl b=>cases(show u=Value.bool b from r);rfl
 |int i=>obtain⟨t,e⟩:=(show∃t,u=Value.int i t from r);cases e;rfl
 |str x=>obtain⟨t,e⟩:=(show∃t,u=Value.str x t from r);cases e;rfl
 |byt b=>obtain⟨t,e⟩:=(show∃t,u=Value.bytes b t from r);cases e;rfl
 |flt b=>obtain⟨t,e⟩:=(show∃t,u=Value.float b t from r);cases e;rfl
 |ref a=>cases(show u=Value.ref a from r);rfl
 |ty n=>cases(show u=Value.type n from r);rfl
section
variable {P:Program} {w:World} {H H':Hp} {h h':Heap} {a C dx:Addr} {fs fs':List (Str×V)}
theorem Zdo(hok:HOk P w H h)(e:H a=some (.ins C dx fs)):∃mA,ZgJ h a dx C mA/\(∀f,Zau (fs.lookup f) (mA f))/\PySem.Within mA (fs.map (·.1))/\fs.length<=1000/\H dx=some (.own a):=by
 obtain⟨d,z,ne,ob,mA,n,r,q⟩:=(show Yo P w H h a (.ins C dx fs) from hok a _ e)
 exact⟨mA,⟨ob,n,ne⟩,r,q,z,d⟩
end
structure Cls (K:PySem.W.Frag) (C:Addr):Prop where
 pg:PySem.W.plainGet K C Str.empty=true
 hd:PySem.W.hasDictIn K C=true
 po:PySem.W.plainOver K C=true
 sa:PySem.W.findIn K (.ref C) "__setattr__"=some (some (.builtin "object.__setattr__"))
theorem Cls.get{K:PySem.W.Frag}{C:Addr}(c:Cls K C)(f:Str):PySem.W.plainGet K C f=true:=c.pg
def Xd(K:PySem.W.Frag)(C:Addr)(f:Str):Prop:=PySem.W.findIn K (.ref C) f=some none
theorem Xd.taker{K:PySem.W.Frag}{C:Addr}{f:Str}(n:Xd K C f):PySem.W.takerIn K C f=some none:=by
 unfold PySem.W.takerIn;rw[show PySem.W.findIn K (.ref C) f=some none from n]
 rfl
structure Zme (K:PySem.W.Frag) (C:Addr) (m:Str) (f:Addr):Prop where
 at_:PySem.W.findIn K (.ref C) m=some (some (.ref f))
 fn:PySem.W.isFn K (.ref f)=true
 kp:PySem.W.keepIn K (.ref f)=true
section
variable {X:Cx} {pins:List (Addr×Obj)} {σ:St} {H:Hp} {s:Shared} {a C dx:Addr} {fs:List (Str×V)} {f:Str} {v:V} {A:Around} {E:Value->Shared->Prop}
theorem ZgK{b:Bool}{Q:Value->Shared->Prop}(I:Inv X pins σ H s)(e:H a=some (.ins C dx fs))(c:Cls X.K C)(n:Xd X.K C f)(l:fs.lookup f=some v)
  (h:∀u s',Inv X pins σ H s'->ZC v u->Q u s'):wpAny (model X.prog X.w) A (getAttr (.ref a) f b) Q E s:=by
 obtain⟨mA,O,r,_,_,_⟩:=Zdo I.hok e;obtain⟨u,hu,ru⟩:=Zau.some_of (v:=v) (o:=mA f) (by rw[<-l];exact r f)
 exact Zki I.kIn O (c.get f) c.hd n hu (Zi8 ru) (h u _ (I.tok _) ru)
theorem ZgL{m:Str}{g:Addr}{pl:Sem Bool}{Q:Value×List Value->Shared->Prop}(I:Inv X pins σ H s)(e:H a=some (.ins C dx fs))(c:Cls X.K C)(k:Zme X.K C m g)(l:fs.lookup m=none)
  (h:Q (.ref g,[.ref a]) s):wpAny (model X.prog X.w) A (getMethod (.ref a) m pl) Q E s:=by
 obtain⟨mA,O,r,_,_,_⟩:=Zdo I.hok e;have hn:mA m=none:=Zau.none_of (by rw[<-l];exact r m)
 exact ZiY I.kIn O (c.get m) k.at_ k.fn hn h
theorem ZgM{y:V}{u:Value}{Q:Unit->Shared->Prop}(I:Inv X pins σ H s)(e:H a=some (.ins C dx fs))(c:Cls X.K C)(n:Xd X.K C f)(hl:fs.length<1000)(ry:ZC y u)
  (h:∀s',Inv X pins σ (upd H a (.ins C dx (Zal f y fs))) s'->Q () s'):wpAny (model X.prog X.w) A (setAttr (.ref a) f u) Q E s:=by
 obtain⟨mA,O,r,wi,_,ho⟩:=Zdo I.hok e;have hz:(fs.map (·.1)).length<=sizeLine:=by rw[List.length_map,sizeLine_eq];omega
 refine Zkj I.kIn O c.sa c.po n.taker c.hd wi hz fun h' O' sb=>h _ ?_;have hd:∃o,h'.get? dx=some o:=let ⟨o,_,_,e',_⟩:=O'.ns;⟨o,e'⟩;refine I.write (x:=a) (e:=dx) (by rw[e];exact True.intro) (.inr ho) (fun b q hb z=>(sb.2 b hb).trans z) hd ?_
 refine⟨by rw[Zf O.ne];exact ho, ?_,O.ne,O'.obj,_,O'.ns,fun g=> ?_,fun g hg=> ?_⟩
 ·have:=Zdc f y fs;omega
 ·show Zau ((Zal f y fs).lookup g) (if g=f then some u else mA g);rw[Yi]
  by_cases q:g=f
  ·rw[if_pos q,if_pos q];exact ry
  ·rw[if_neg q,if_neg q];exact r g
 ·by_cases q:g=f
  ·rw[q];exact(ZcH f y fs).1
  ·refine(ZcH f y fs).2 g (wi g fun z=>hg ?_);show(if g=f then some u else mA g)=none;rw[if_neg q];exact z
theorem Inv.made(I:Inv X pins σ H s):Inv X pins σ (upd (upd H s.heap.objs.size (.own (s.heap.objs.size+1))) (s.heap.objs.size+1) (.ins C s.heap.objs.size []))
  {s with heap:=(s.heap.push PySem.W.emptyDict).push (PySem.W.instObj C s.heap.objs.size)}:=by
 have e1:(s.heap.push PySem.W.emptyDict).get? s.heap.objs.size=some PySem.W.emptyDict:=Heap.get?_push_size s.heap rfl;have e2:((s.heap.push PySem.W.emptyDict).push (PySem.W.instObj C s.heap.objs.size)).get? (s.heap.objs.size+1)=some (PySem.W.instObj C s.heap.objs.size):=by
  have:=Heap.get?_push_size (s.heap.push PySem.W.emptyDict) (o:=PySem.W.instObj C s.heap.objs.size) rfl
  rwa [Heap.size_push] at this
 have e3:(s.heap.push PySem.W.emptyDict).Ns s.heap.objs.size (fun _=>none):=⟨PySem.W.emptyDict, #[],_,e1,rfl,(fun e he=>absurd he (by simp)),fun _=>rfl⟩
 have I1:=I.laid (a:=s.heap.objs.size) (o:=.own (s.heap.objs.size+1)) (h':=s.heap.push PySem.W.emptyDict) (t':=s.toks) (fun b u q=>Heap.get?_push_of_some _ q) (Nat.le_refl _) ⟨_,e1⟩;refine I1.laid (a:=s.heap.objs.size+1) (o:=.ins C s.heap.objs.size []) (t':=s.toks) (fun b u q=>Heap.get?_push_of_some _ q) (Nat.le_of_eq (Heap.size_push _ _)) ?_;have ne:s.heap.objs.size≠s.heap.objs.size+1:=Nat.ne_of_lt (Nat.lt_succ_self _)
 refine⟨by rw[Zf ne,Zc],Nat.zero_le _,ne,e2,fun _=>none,(Heap.Ns1.of_empty e3).at fun o q=>Heap.get?_push_of_some _ q,fun _=>True.intro,fun y hy=>absurd rfl hy⟩
theorem Zkk{prog:Program}{w:World}{env:Env}{e:Expr}{f:Str}{pos:Pos}{s:Shared}{Q:Value->Shared->Prop}(hb:attributeBase e f env (eval e env)=eval e env)
  (h:wpAny (model prog w) A (eval e env) (fun o s₁=>wpAny (model prog w) A (getAttr o f true) Q E s₁) E s):wpAny (model prog w) A (eval (.Attribute e f pos) env) Q E s:=
 Attribute_any_ h (by rw[arm_eval_Attribute,hb])
end
def ZmY(K:PySem.W.Frag)(ta:TE)(f:Str):TE:=fun σ H Q=>ta σ H fun x H1=>∃a C dx fs v,x=.ref a/\H1 a=some (.ins C dx fs)/\Cls K C/\Xd K C f/\fs.lookup f=some v/\Q v H1
def ZmZ(K:PySem.W.Frag)(ta tv:TE)(f:Str):TS:=fun D σ H=>tv σ H fun y H1=>ta σ H1 fun x H2=>∃a C dx fs,x=.ref a/\H2 a=some (.ins C dx fs)/\Cls K C/\Xd K C f/\fs.length<1000/\
 D.nx σ (upd H2 a (.ins C dx (Zal f y fs)))
section
variable {X:Cx} {o e value:Expr} {f:Str} {pos pos' tpos:Pos} {ta tv:TE}
theorem Xy(he:PE X e ta)(hb:attributeBase e f X.env (eval e X.env)=eval e X.env):PE X (.Attribute e f pos) (ZmY X.K ta f):=by
 intro pins s σ H Q I h;refine Zkk hb (thn (he pins s σ H _ I h) fun u s1 ⟨x,H1,I1,rx,a,C,dx,fs,v,ex,ea,c,n,l,q⟩=> ?_);subst ex;obtain rfl:u=Value.ref a:=rx;exact ZgK I1 ea c n l fun u' s2 I2 ru=>⟨v,H1,I2,ru,q⟩
theorem Zf1(ha:PE X o ta)(hv:PE X value tv)(hs:swapsWith value (some (.Attribute o f pos')) pos.line X.env=pure false):PS X (.Assign [.Attribute o f pos'] value pos) (ZmZ X.K ta tv f):=by
 intro pins s σ H D I h;refine plainObj_wpAny_Assign_Attribute (thn (hv pins s σ H _ I h) fun u s1 ⟨y,H1,I1,ry,q⟩=>thn (ha pins s1 σ H1 _ I1 q) fun ov s2 ⟨x,H2,I2,rx,a,C,dx,fs,ex,ea,c,n,l,q2⟩=> ?_) hs;subst ex;obtain rfl:ov=Value.ref a:=rx;exact ZgM I2 ea c n l ry fun s3 I3=>⟨σ,_,I3,q2⟩
end
section
variable {X:Cx} {pins:List (Addr×Obj)} {σ:St} {H:Hp} {s:Shared} {A:Around} {E:Value->Shared->Prop} {Q:Value->Shared->Prop} {c:Value} {b:Bool}
inductive ZaV (K:PySem.W.Frag) (H:Hp):V->Value->Prop where
 |non:ZaV K H .non (.type "NoneType")
 |bl (x:Bool):ZaV K H (.bl x) (.type "bool")
 |int (i:Int):ZaV K H (.int i) (.type "int")
 |str (x:Str):ZaV K H (.str x) (.type "str")
 |flt (x:UInt64):ZaV K H (.flt x) (.type "float")
 |lst {a:Addr} {xs:List V} (e:H a=some (.lst xs)):ZaV K H (.ref a) (.type "list")
 |frz {a:Addr} {o:Obj} {xs:List V} (e:H a=some (.frz o (.lst xs))):ZaV K H (.ref a) (.type "list")
 |tup {a:Addr} {xs:List V} (e:H a=some (.tup xs)):ZaV K H (.ref a) (.type "tuple")
 |dK {a:Addr} {kvs:List (Key×V)} (e:H a=some (.dK kvs)):ZaV K H (.ref a) (.type "dict")
 |dT {a:Addr} {kvs:List (List Key×V)} (e:H a=some (.dT kvs)):ZaV K H (.ref a) (.type "dict")
 |ins {a C dx:Addr} {fs:List (Str×V)} (e:H a=some (.ins C dx fs)) (cl:Cls K C) (ha:PySem.W.findIn K (.ref C) "__class__"=some (some (.builtin "object.__class__")))
   (hn:PySem.W.specialIn K (.builtin "object.__class__") "__get__"=some (some (.builtin "getset_descriptor.__get__"))) (htk:PySem.W.takesIn K (.builtin "object.__class__")=some true)
   (hm:PySem.W.mroIn K C (.type "object")=some true):ZaV K H (.ref a) (.ref C)
theorem Zi9{x:V}{u t:Value}(I:Inv X pins σ H s)(rx:ZC x u)(ty:ZaV X.K H x t)(e:PySem.W.kitOne X.K t c=some b)(h:∀tk,Q (.bool b) {s with toks:=tk}):
  wpAny (model X.prog X.w) A (call (.builtin "isinstance") [u,c]) Q E s:=by
 cases ty with
 |non=>cases(show u=Value.none from rx);exact PySem.W.kia_one PySem.W.kitx_none I.kIn True.intro e (fun z=>nomatch z) h
 |bl y=>cases(show u=Value.bool y from rx);exact PySem.W.kia_one PySem.W.kitx_bool I.kIn True.intro e (fun z=>nomatch z) h
 |int i=>obtain⟨t,q⟩:=(show∃t,u=Value.int i t from rx);cases q;exact PySem.W.kia_one PySem.W.kitx_int I.kIn True.intro e (fun z=>nomatch z) h
 |str y=>obtain⟨t,q⟩:=(show∃t,u=Value.str y t from rx);cases q;exact PySem.W.kia_one PySem.W.kitx_str I.kIn True.intro e (fun z=>nomatch z) h
 |flt y=>obtain⟨t,q⟩:=(show∃t,u=Value.float y t from rx);cases q;exact PySem.W.kia_one PySem.W.kitx_float I.kIn True.intro e (fun z=>nomatch z) h
 | @lst a xs ea=>
  cases(show u=Value.ref a from rx);obtain⟨_,_,n,_,h1⟩:=(show Yo X.prog X.w H s.heap a (.lst xs) from I.hok a _ ea)
  exact PySem.W.kia_one PySem.W.kitx_list I.kIn ⟨_,h1,rfl⟩ e (fun z=>nomatch z) h
 | @frz a ob xs ea=>
  cases(show u=Value.ref a from rx);obtain⟨_,_,_,n,_,h1⟩:=(show Yo X.prog X.w H s.heap a (.frz ob (.lst xs)) from I.hok a _ ea)
  exact PySem.W.kia_one PySem.W.kitx_list I.kIn ⟨_,h1,rfl⟩ e (fun z=>nomatch z) h
 | @tup a xs ea=>
  cases(show u=Value.ref a from rx);obtain⟨_,_,_,p⟩:=(show Yo X.prog X.w H s.heap a (.tup xs) from I.hok a _ ea)
  obtain⟨o,h1,h2,_⟩:=p;exact PySem.W.kia_one PySem.W.kitx_tuple I.kIn ⟨o,h1,h2⟩ e (fun z=>nomatch z) h
 | @dK a kvs ea=>
  cases(show u=Value.ref a from rx);obtain⟨_,_,vs,_,p⟩:=(show Yo X.prog X.w H s.heap a (.dK kvs) from I.hok a _ ea)
  obtain⟨o,es,ep,h1,h2,_⟩:=p;exact PySem.W.kia_one PySem.W.kitx_dict I.kIn ⟨o,h1,h2.1⟩ e (fun z=>nomatch z) h
 | @dT a kvs ea=>
  cases(show u=Value.ref a from rx);obtain⟨_,_,xs,_,o,es,ep,h1,h2,_⟩:=(show Yo X.prog X.w H s.heap a (.dT kvs) from I.hok a _ ea)
  exact PySem.W.kia_one PySem.W.kitx_dict I.kIn ⟨o,h1,h2.1⟩ e (fun z=>nomatch z) h
 | @ins a C dx fs ea cl ha hn htk hm=>
  cases(show u=Value.ref a from rx);obtain⟨mA,O,_⟩:=Zdo I.hok ea;obtain⟨od,J,_⟩:=O.look;exact PySem.W.kia_one (PySem.W.kitx_own (cl.get _) cl.hd ha hn htk hm) I.kIn J e (fun z=>nomatch z) h
end
end L2
namespace L2
open PySem PySem.Spec PyProof.Rows
structure YK (k:Nat) (A:Around):Prop where
 hd:A.handled=none
 dp:A.depth+3*k+5<recursionLimit
 un:A.units+16*k+200<cLine
theorem YK.mono{j k:Nat}{A:Around}(r:YK k A)(h:j<=k):YK j A:=⟨r.hd,by have:=r.dp;omega,by have:=r.un;omega⟩
theorem YK.deeper{k:Nat}{A:Around}(r:YK (k+1) A)(env:Env):YK k (A.deeper env):=
 ⟨r.hd,by have:=r.dp;show A.depth+1+3*k+5<_;omega,by have:=r.un;show A.units+3+16*k+200<_;omega⟩
theorem YK.in1{k:Nat}{A:Around}(r:YK (k+1) A):YK k A.in1:=
 ⟨r.hd,by have:=r.dp;show A.depth+3*k+5<_;omega,by have:=r.un;show A.units+1+16*k+200<_;omega⟩
theorem ZgN{A:Around}{C:Addr}{us:List Value}{kw:List (Str×Value)}:(A.under (.builtin "type.__call__" ⟨.ref C::us,kw⟩)).depth=A.depth+1:=by
 first|rfl|simp[Around.under,Code.weight,Code.isCreation,Code.isGuard,Code.isCaller,Code.frames,Code.isFrame,guardIds]
theorem ZgO{A:Around}{C:Addr}{us:List Value}{kw:List (Str×Value)}:(A.under (.builtin "type.__call__" ⟨.ref C::us,kw⟩)).units=A.units+1:=by
 first|rfl|simp[Around.under,Code.cUnits,Code.frames,Code.isFrame]
theorem YK.make{k:Nat}{A:Around}(r:YK (k+1) A)(C:Addr)(us:List Value)(kw:List (Str×Value)):YK k (A.under (.builtin "type.__call__" ⟨.ref C::us,kw⟩)):=
 ⟨r.hd,by have:=r.dp;rw[ZgN];omega,by have:=r.un;rw[ZgO];omega⟩
theorem YK.depth{k:Nat}{A:Around}(r:YK k A):A.depth<recursionLimit:=by have:=r.dp;omega
theorem YK.units{k:Nat}{A:Around}(r:YK k A):A.units+64<cLine:=by have:=r.un;omega
def Zlv:TA:=fun _ H Q=>Q [] H
def Zmf(ta:TE)(tr:TA):TA:=fun σ H Q=>ta σ H fun x H1=>tr σ H1 fun xs H2=>Q (x::xs) H2
section
variable {X:Cx} {e:Expr} {es:List Expr} {te:TE} {t:TA} {pos:Pos}
theorem Zm:PA X [] Zlv:=fun _ _ _ _ H Q I h=>Calls.spliced_nil ⟨[],H,I,.nil,h⟩
theorem Za(ha:PE X e te)(hr:PA X es t)(hs:starEach (e::es) X.env=(false,eval e X.env)::starEach es X.env:=by rfl):PA X (e::es) (Zmf te t):=by
 intro pos pins s σ H Q I h;rw[hs];show wpAny _ _ (spliced ((false,eval e X.env)::backTo pos (starEach es X.env))) _ _ s;refine Calls.spliced_cons (thn (ha pins s σ H _ I h) fun u s1 ⟨x,H1,I1,r1,q1⟩=> ?_);exact thn (hr pos pins s1 σ H1 _ I1 q1) fun us s2 ⟨xs,H2,I2,r2,q2⟩=>⟨x::xs,H2,I2,.cons r1 r2,q2⟩
def Zn0(t:TA):TE:=fun σ H Q=>t σ H fun xs H1=>xs.length<=sizeLine/\∀p,H1 p=none->Q (.ref p) (upd H1 p (.tup xs))
def Zn1(t:TA):TE:=fun σ H Q=>t σ H fun xs H1=>xs.length<=sizeLine/\∀p,H1 p=none->Q (.ref p) (upd H1 p (.lst xs))
theorem Jm{x1}(h:PA X es t):PE X (.Tuple es x1 pos) (Zn0 t):=by
 intro pins s σ H Q I hq;refine wpAny_Tuple_spliced (thn (h pos pins s σ H _ I hq) fun us s1 ⟨xs,H1,I1,r,z,q⟩=>⟨by rw[<-r.length];exact z, ?_⟩)
 have hf:H1 s1.heap.objs.size=none:=I1.hok.fresh (Nat.le_refl _);refine⟨.ref s1.heap.objs.size,upd H1 s1.heap.objs.size (.tup xs),I1.laid (t':=s1.toks) (fun b u e=>Heap.get?_push_of_some _ e) (Nat.le_refl _) ?_,rfl,q _ hf⟩;exact⟨z,us,r,⟨_,Heap.get?_push_size _ rfl,rfl,_,rfl⟩⟩
theorem Xz(h:PA X es t):PE X (.List es pos) (Zn1 t):=by
 intro pins s σ H Q I hq;refine wpAny_List_spliced (thn (h pos pins s σ H _ I hq) fun us s1 ⟨xs,H1,I1,r,z,q⟩=>⟨by rw[<-r.length];exact z, ?_⟩)
 have hf:H1 s1.heap.objs.size=none:=I1.hok.fresh (Nat.le_refl _);refine⟨.ref s1.heap.objs.size,upd H1 s1.heap.objs.size (.lst xs),I1.laid (t':=s1.toks) (fun b u e=>Heap.get?_push_of_some _ e) (Nat.le_refl _) ?_,rfl,q _ hf⟩;exact⟨z,us,0,r,Heap.get?_push_size _ rfl⟩
end
abbrev Sp:=List V->Hp->VK->XK->Prop
abbrev CXT:=List Env->Hp->Shared->XK->Value->Shared->Prop
structure Zed (P:Program) (w:World) (K:PySem.W.Frag) (mg:Str->Option Value) (base:Heap) (A:Around) (outer:List Env) (s:Shared) (H:Hp):Prop where
 frames:A.frames=some outer
 mod:Mod K mg base
 bs:∀b o,base.get? b=some o->s.heap.get? b=some o/\H b=none
 bsz:base.objs.size<=s.heap.objs.size
 funs:s.heap.FunFrames base outer
 frf:∀b∈frs outer,H b=none
 hok:HOk P w H s.heap
 bare:AllBare s.gens
def CE(outer:List Env)(P:Program)(w:World)(H:Hp)(s:Shared)(Q:VK)(u:Value)(s':Shared):Prop:=
 ∃v H',s'.os=s.os/\AllBare s'.gens/\Un (frs outer) [] H H' s.heap s'.heap/\HOk P w H' s'.heap/\ZC v u/\Q v H'
def CR(CX:CXT)(outer:List Env)(P:Program)(w:World)(H:Hp)(s:Shared)(Q:VK)(E:XK)(r:Result)(s':Shared):Prop:=
 match r with
 | .ok (.ret u)=>CE outer P w H s Q u s'
 | .ok _=>False
 | .error e=>CX outer H s E e s'
structure Yq (P:Program) (w:World) (K:PySem.W.Frag) (mg:Str->Option Value) (base:Heap) (CX:CXT) (k:Nat) (f:Addr) (fd:FuncData) (ps:List Str) (sp:Sp):Prop where
 len:∀vs H Q E,sp vs H Q E->vs.length=ps.length
 run:∀(A:Around) (outer:List Env) (s:Shared) (H:Hp) (args:Args) (us:List Value) (vs:List V) (Q:VK) (E:XK),YK k A->Zed P w K mg base A outer s H->BindsTo s fd args (ps.zip us)->ZJ vs us->sp vs H Q E->
  codeAny (model P w) A (.call (.ref f) args) (CR CX outer P w H s Q E) s
theorem Zed.make{P:Program}{w:World}{K:PySem.W.Frag}{mg:Str->Option Value}{base:Heap}{A:Around}{outer:List Env}{s:Shared}{H:Hp}(e:Zed P w K mg base A outer s H)(C:Addr)(us:List Value)(kw:List (Str×Value)):
  Zed P w K mg base (A.under (.builtin "type.__call__" ⟨.ref C::us,kw⟩)) outer s H:=⟨by first|exact e.frames|(simpa [Around.under,Code.envs,Code.isFrame,pushEnvs] using e.frames),e.mod,e.bs,e.bsz,e.funs,e.frf,e.hok,e.bare⟩
theorem Zed.in1{P:Program}{w:World}{K:PySem.W.Frag}{mg:Str->Option Value}{base:Heap}{A:Around}{outer:List Env}{s:Shared}{H:Hp}(e:Zed P w K mg base A outer s H):
  Zed P w K mg base A.in1 outer s H:=⟨e.frames,e.mod,e.bs,e.bsz,e.funs,e.frf,e.hok,e.bare⟩
section
variable {X:Cx} {pins:List (Addr×Obj)} {σ:St} {H:Hp} {s s':Shared}
theorem Inv.env0(I:Inv X pins σ H s):Zed X.prog X.w X.K X.mg X.base X.A X.stack s H:=
 ⟨I.ok.frames,I.ok.mod,I.bs,Nat.le_trans I.ok.bsz I.sz,I.stack,I.stkFree,I.hok,I.bare⟩
theorem Inv.after{Q:VK}{u:Value}(I:Inv X pins σ H s)(h:CE X.stack X.prog X.w H s Q u s'):EP X pins σ Q u s':=by
 obtain⟨v,H',os,bare,un,hok,r,q⟩:=h;obtain⟨hh,g,d,t,os'⟩:=s';obtain rfl:os'=s.os:=os;exact⟨v,H',I.call (h':=hh) (g':=g) (d':=d) (t':=t) (ch:=[]) un hok bare (fun b z=>absurd z (by simp)),r,q⟩
end
def ZhG(sp:Sp)(dvs:List V)(E:XK)(t:TA):TE:=fun σ H Q=>t σ H fun vs H1=>sp (vs++dvs) H1 Q E
def Zl7(C:Addr)(sp:Sp)(dvs:List V)(E:XK)(t:TA):TE:=fun σ H Q=>t σ H fun vs H1=>∀x dx,H1 x=none->H1 dx=none->dx≠x->
 sp (.ref x::(vs++dvs)) (upd (upd H1 dx (.own x)) x (.ins C dx [])) (fun v H2=>v=.non/\Q (.ref x) H2) E
def Ja(K:PySem.W.Frag)(fd:FuncData)(ps:List Str)(ds:List Value):Prop:=
 ∀(s:Shared) (us:List Value),K.In s.heap->(us++ds).length=ps.length->BindsTo s fd ⟨us,[]⟩ (ps.zip (us++ds))
theorem Ja.all{K:PySem.W.Frag}{fd:FuncData}{ps:List Str}(h:∀us:List Value,us.length=ps.length->bindArgs fd ⟨us,[]⟩=pure (ps.zip us)):Ja K fd ps []:=fun s us _ hl=>by
 rw[List.append_nil] at hl⊢
 exact .of_eq (h us hl)
def Za3(CX:CXT)(X:Cx)(E:XK):Prop:=∀(pins:List (Addr×Obj)) (σ:St) (H:Hp) (s:Shared) (e:Value) (s':Shared),Inv X pins σ H s->CX X.stack H s E e s'->X.xe e s'
section
variable {X:Cx} {CX:CXT} {k:Nat} {f C:Addr} {fd:FuncData} {ps:List Str} {sp:Sp} {dvs:List V} {ds:List Value} {E:XK} {x m:Str} {p pos apos:Pos} {e o:Expr} {es:List Expr} {ta:TE} {t:TA}
theorem ZgP{pins:List (Addr×Obj)}{σ:St}{H:Hp}{s:Shared}{Q:VK}{us:List Value}{vs:List V}(F:Yq X.prog X.w X.K X.mg X.base CX k f fd ps sp)(hr:YK k X.A)(hb:Ja X.K fd ps ds)(hd:ZJ dvs ds)(hx:Za3 CX X E)
  (I:Inv X pins σ H s)(r:ZJ vs us)(h:sp (vs++dvs) H Q E):wpAny (model X.prog X.w) X.A (call (.ref f) us) (EP X pins σ Q) X.xe s:=by
 have r2:ZJ (vs++dvs) (us++ds):=r.append hd;have hl:(us++ds).length=ps.length:=by rw[<-r2.length];exact F.len _ _ _ _ h
 refine wpAny_call (codeAny_mono (F.run X.A X.stack s H ⟨us,[]⟩ (us++ds) (vs++dvs) Q E hr I.env0 (hb s us I.kIn hl) r2 h) fun r s' hq=> ?_);cases r with
 |error e=>exact hx pins σ H s e s' I hq
 |ok fl=>
  cases fl with
  |ret u=>exact I.after hq
  |next=>exact False.elim hq
  |brk=>exact False.elim hq
  |cont=>exact False.elim hq
theorem Zkl(F:Yq X.prog X.w X.K X.mg X.base CX k f fd ps sp)(hr:YK k X.A)(hg:Gl X x)(hm:X.mg x=some (.ref f))(hk:PySem.W.keepIn X.K (.ref f)=true)(hb:Ja X.K fd ps ds)(hd:ZJ dvs ds)(hx:Za3 CX X E)
  (ha:PA X (e::es) t)(hdb:(x==("__debug__":Str))=false:=by decide)(he:starEach (e::es) X.env=(false,eval e X.env)::starEach es X.env:=by rfl)(hpl:(backTo pos (starEach es X.env)).any (·.1)=false:=by rfl):
  PE X (.Call (.Name x p) (e::es) [] pos) (ZhG sp dvs E t):=by
 intro pins s σ H Q I h;refine wpAny_Call_Name_kw (Zav I hg hm ?_ hdb);refine PySem.W.callWith_K (h₀:=X.base) I.ok.mod.kin hk (thn (ha pos pins s σ H _ I h) fun us s1 ⟨vs,H1,I1,r,q⟩=>⟨I1.kIn, ?_⟩) he hpl;exact ZgP F hr hb hd hx I1 r q
theorem Zj0(F:Yq X.prog X.w X.K X.mg X.base CX k f fd ps sp)(hr:YK k X.A)(hg:Gl X x)(hm:X.mg x=some (.ref f))(hk:PySem.W.keepIn X.K (.ref f)=true)(hb:Ja X.K fd ps ds)(hd:ZJ dvs ds)(hx:Za3 CX X E)
  (hdb:(x==("__debug__":Str))=false:=by decide):PE X (.Call (.Name x p) [] [] pos) (ZhG sp dvs E Zlv):=by
 intro pins s σ H Q I h;refine wpAny_Call_Name_kw (Zav I hg hm ?_ hdb);exact PySem.W.callWith_K0 I.kIn hk (ZgP (us:=[]) F hr hb hd hx I .nil h)
structure Mk (K:PySem.W.Frag) (C f:Addr):Prop where
 makes:PySem.W.makesIn K C=true
 init:PySem.W.findIn K (.ref C) "__init__"=some (some (.ref f))
 fn:PySem.W.isFn K (.ref f)=true
 kp:PySem.W.keepIn K (.ref C)=true
theorem Zj1{pins:List (Addr×Obj)}{σ:St}{H:Hp}{s:Shared}{Q:VK}{us:List Value}{vs:List V}(M:Mk X.K C f)(F:Yq X.prog X.w X.K X.mg X.base CX k f fd ps sp)(hr:YK (k+1) X.A)(hb:Ja X.K fd ps ds)(hd:ZJ dvs ds)
  (hx:Za3 CX X E)(I:Inv X pins σ H s)(r:ZJ vs us)
  (h:∀x dx,H x=none->H dx=none->dx≠x->sp (.ref x::(vs++dvs)) (upd (upd H dx (.own x)) x (.ins C dx [])) (fun v H2=>v=.non/\Q (.ref x) H2) E):
  wpAny (model X.prog X.w) X.A (call (.ref C) us) (EP X pins σ Q) X.xe s:=by
 have hq:=h (s.heap.objs.size+1) s.heap.objs.size (I.hok.fresh (Nat.le_succ _)) (I.hok.fresh (Nat.le_refl _)) (Nat.ne_of_lt (Nat.lt_succ_self _));have I2:=Inv.made (C:=C) I;have r2:ZJ (V.ref (s.heap.objs.size+1)::(vs++dvs)) (Value.ref (s.heap.objs.size+1)::(us++ds)):=.cons rfl (r.append hd);have hl:(Value.ref (s.heap.objs.size+1)::us++ds).length=ps.length:=by
  have e:=r2.length;rw[F.len _ _ _ _ hq] at e
  exact e.symm
 refine wpAny_call (ZiZ (f:=f) I.kIn M.makes M.init (beq_iff_eq.mp M.fn) (codeAny_mono (F.run _ X.stack _ _ ⟨Value.ref (s.heap.objs.size+1)::us,[]⟩ (Value.ref (s.heap.objs.size+1)::(us++ds)) _ _ E (hr.make C us [])
  (I2.env0.make C us []) (hb _ (Value.ref (s.heap.objs.size+1)::us) I2.kIn hl) r2 hq) fun r s' hq'=> ?_))
 cases r with
 |error e=>exact hx pins σ _ _ e s' I2 hq'
 |ok fl=>
  cases fl with
  |ret u=>
   obtain⟨v,H',I3,rv,ev,q3⟩:=I2.after hq';subst ev;exact⟨rv,⟨V.ref (s.heap.objs.size+1),H',I3,rfl,q3⟩⟩
  |next=>exact False.elim hq'
  |brk=>exact False.elim hq'
  |cont=>exact False.elim hq'
theorem Zkm(M:Mk X.K C f)(F:Yq X.prog X.w X.K X.mg X.base CX k f fd ps sp)(hr:YK (k+1) X.A)(hg:Gl X x)(hm:X.mg x=some (.ref C))(hb:Ja X.K fd ps ds)(hd:ZJ dvs ds)(hx:Za3 CX X E)
  (ha:PA X (e::es) t)(hdb:(x==("__debug__":Str))=false:=by decide)(he:starEach (e::es) X.env=(false,eval e X.env)::starEach es X.env:=by rfl)(hpl:(backTo pos (starEach es X.env)).any (·.1)=false:=by rfl):
  PE X (.Call (.Name x p) (e::es) [] pos) (Zl7 C sp dvs E t):=by
 intro pins s σ H Q I h;refine wpAny_Call_Name_kw (Zav I hg hm ?_ hdb);refine PySem.W.callWith_K (h₀:=X.base) I.ok.mod.kin M.kp (thn (ha pos pins s σ H _ I h) fun us s1 ⟨vs,H1,I1,r,q⟩=>⟨I1.kIn, ?_⟩) he hpl;exact Zj1 M F hr hb hd hx I1 r q
end
section
variable {X:Cx} {CX:CXT} {k:Nat} {f C:Addr} {fd:FuncData} {ps ks:List Str} {sp:Sp} {E:XK} {x m:Str} {p pos apos kpos:Pos} {e o:Expr} {es:List Expr} {kws:List Keyword} {te ta:TE} {t tk:TA} {nm:Option Str}
variable {g:List Value->List Value->List Value} {gV:List V->List V->List V}
end
structure ZG (N P:List Str) (sc:Scope):Prop where
 kind:sc.kind=.function
 co:sc.isCoroutine=false
 gen:sc.isGenerator=false
 nd:N.Nodup
 pre:N.take P.length=P
 par:∀x∈P,sc.names.lookup x=some .local\/sc.names.lookup x=some .cell
 nofree:∀y∈sc.names,y.2≠.free
theorem Zes{kindOf:Str->Option NameKind}{x:Str}:∀{binds:List (Str×Value)} {m:Str->Option Value},(∀v,(x,v)∉binds)->bindL kindOf binds m x=m x
 |[],_,_=>rfl
 |(n,v)::r,m,h=>by
  unfold bindL;rw[Zes fun w hw=>h w (List.mem_cons_of_mem _ hw)]
  split
  ·have:x≠n:=by rintro rfl;exact h v List.mem_cons_self
   simp[this]
  ·rfl
theorem Zet{kindOf:Str->Option NameKind}{x:Str}:∀{binds:List (Str×Value)} {m:Str->Option Value},(∀v,(x,v)∉binds)->bindC kindOf binds m x=m x
 |[],_,_=>rfl
 |(n,v)::r,m,h=>by
  unfold bindC;rw[Zet fun w hw=>h w (List.mem_cons_of_mem _ hw)]
  split
  ·rfl
  ·have:x≠n:=by rintro rfl;exact h v List.mem_cons_self
   simp[this]
theorem Zeu{kindOf:Str->Option NameKind}{x:Str}{v:Value}:∀{P:List Str} {vs:List Value} {i:Nat} {m:Str->Option Value},P.Nodup->P[i]? =some x->vs[i]? =some v->kindOf x=some .local->
  bindL kindOf (P.zip vs) m x=some v
 |[],_,_,_,_,h,_,_=>by simp at h
 |_::_,[],_,_,_,_,h,_=>by simp at h
 |p::P,w::vs,0,m,nd,h1,h2,hk=>by
  simp at h1 h2;subst h1;subst h2
  show bindL kindOf ((p,w)::P.zip vs) m p=_;unfold bindL;rw[Zes fun v hv=>(List.nodup_cons.mp nd).1 (List.of_mem_zip hv).1,if_pos hk];simp
 |p::P,w::vs,i+1,m,nd,h1,h2,hk=>by
  show bindL kindOf ((p,w)::P.zip vs) m x=_;unfold bindL;exact Zeu (i:=i) (List.nodup_cons.mp nd).2 (by simpa using h1) (by simpa using h2) hk
theorem Zev{kindOf:Str->Option NameKind}{x:Str}{v:Value}:∀{P:List Str} {vs:List Value} {i:Nat} {m:Str->Option Value},P.Nodup->P[i]? =some x->vs[i]? =some v->kindOf x≠some .local->
  bindC kindOf (P.zip vs) m x=some v
 |[],_,_,_,_,h,_,_=>by simp at h
 |_::_,[],_,_,_,_,h,_=>by simp at h
 |p::P,w::vs,0,m,nd,h1,h2,hk=>by
  simp at h1 h2;subst h1;subst h2
  show bindC kindOf ((p,w)::P.zip vs) m p=_;unfold bindC;rw[Zet fun v hv=>(List.nodup_cons.mp nd).1 (List.of_mem_zip hv).1,if_neg hk];simp
 |p::P,w::vs,i+1,m,nd,h1,h2,hk=>by
  show bindC kindOf ((p,w)::P.zip vs) m x=_;unfold bindC;exact Zev (i:=i) (List.nodup_cons.mp nd).2 (by simpa using h1) (by simpa using h2) hk
def ZbG(N:List Str)(vs:List V):St:=vs.map some++List.replicate (N.length-vs.length) none
def Zia(CX:CXT)(P:Program)(w:World)(K:PySem.W.Frag)(mg:Str->Option Value)(base:Heap)(N:List Str)(qual:Str)(scope:Scope)(f:Addr)(cd:Value)(A:Around)(outer:List Env)(s:Shared)(H:Hp)(E:XK):Cx where
 prog:=P
 w:=w
 K:=K
 mg:=mg
 base:=base
 A:=A.deeper (envOfC qual scope s.heap.objs.size f cd)
 N:=N
 s₀:=s
 H₀:=H
 env:=envOfC qual scope s.heap.objs.size f cd
 outer:=outer
 stack:=envOfC qual scope s.heap.objs.size f cd::outer
 ex:=[]
 calm:=true
 fn:=fun _=>true
 pn:=[]
 xe:=fun e s'=>wpAny (model P w) (A.deeper (envOfC qual scope s.heap.objs.size f cd)) (leaving (envOfC qual scope s.heap.objs.size f cd) e) (fun _ s''=>CX outer H s E e s'') (fun e' s''=>CX outer H s E e' s'') s'
theorem ZfY{sc:Scope}{n:Nat}{x:Str}(h:sc.names.lookup x=some .cell):∃c,(cellsFrom n sc.names []).lookup x=some c:=by
 have q:=PySem.W.cellsFrom_some sc.names n [] (.inl h);exact Option.isSome_iff_exists.mp q
theorem Zib{CX:CXT}{P:Program}{w:World}{K:PySem.W.Frag}{mg:Str->Option Value}{base:Heap}{N ps:List Str}{qual:Str}{scope:Scope}{f:Addr}{cd:Value}{A:Around}{outer:List Env}{s s1:Shared}{H:Hp}{E:XK}{us:List Value}{vs:List V}
  (S:ZG N ps scope)(hd:A.handled=none)(e0:Zed P w K mg base A outer s H)(hl:vs.length=ps.length)(r:ZJ vs us)
  (x:InCallC s s.heap.objs.size (bindL (envOfC qual scope s.heap.objs.size f cd).kindOf (ps.zip us) fun _=>none) (cellsFrom (s.heap.objs.size+1) scope.names []) (bindC (envOfC qual scope s.heap.objs.size f cd).kindOf (ps.zip us) fun _=>none) s1):
  Inv (Zia CX P w K mg base N qual scope f cd A outer s H E) [] (ZbG N vs) H s1:=by
 have hpl:ps.length<=N.length:=by have:=congrArg List.length S.pre;rw[List.length_take] at this;omega
 obtain⟨h1,tk,rfl,hk⟩:=x.done;have noA:∀b:Addr,b∉(Zia CX P w K mg base N qual scope f cd A outer s H E).ex:=fun b z=>absurd (show b∈([]:List Addr) from z) (by simp);refine⟨⟨e0.mod,S.kind,rfl,rfl,Nat.le_refl _,fun y z c h1 h2=> ?_,fun y hy=> ?_,fun y c _ h=> ?_,fun _=>hd,Around.frames_deeper e0.frames,.inr ⟨rfl,rfl⟩,fun b z=>absurd z (noA b),e0.bs,e0.bsz,fun b _ _=>noA b,fun b z=>absurd z (noA b),e0.funs,e0.frf⟩,
  rfl,e0.bare,Un.kept hk,⟨_,x.toInCall.ns,fun i y v h1 h2 h3=> ?_⟩,fun y c h=>⟨_,x.cell y c h⟩,e0.hok.fresh (Nat.le_refl _),fun y c h=> ?_,fun p hp=>absurd (show p∈([]:List (Addr×Obj)) from hp) (by simp),e0.hok.kept hk, ?_⟩
 ·exact name_of_addr x.apart (PySem.mem_of_lookup h1) (PySem.mem_of_lookup h2)
 ·have hy:scope.names.lookup y=some .cell\/scope.names.lookup y=some .free:=hy;rcases hy with hy|hy
  ·exact ZfY hy
  ·exact absurd rfl (S.nofree _ (PySem.mem_of_lookup hy))
 ·exact Nat.le_of_lt (x.above y c (PySem.mem_of_lookup h))
 ·have hi:i<vs.length:=by
   unfold ZbG at h2
   by_cases hi:i<vs.length
   ·exact hi
   ·rw[List.getElem?_append_right (by simpa using hi)] at h2
    rw[List.getElem?_replicate] at h2
    split at h2<;>cases h2
  have ha:vs[i]? =some v:=by
   unfold ZbG at h2
   rw[List.getElem?_append_left (by simpa using hi),List.getElem?_map] at h2
   cases e:vs[i]? with
   |none=>rw[e] at h2;cases h2
   |some a=>rw[e] at h2;cases h2;rfl
  obtain⟨u,hu,rv⟩:=r.get ha;have hp:ps[i]? =some y:=by
   rw[<-S.pre,List.getElem?_take_of_lt (by omega)];exact h1
  have ndP:ps.Nodup:=by rw[<-S.pre];exact S.nd.sublist (List.take_sublist _ _)
  refine⟨u,rv, ?_⟩;rcases S.par y (List.mem_of_getElem? hp) with k|k
  ·exact .inl ⟨k,Zeu ndP hp hu k⟩
  ·obtain⟨c,e⟩:=ZfY (n:=s.heap.objs.size+1) k;refine .inr ⟨.inl k,c,e, ?_⟩;have q:=x.cell y c e;rw[Zev ndP hp hu (by show scope.names.lookup y≠_;rw[k];decide)] at q
   exact q
 ·exact e0.hok.fresh (Nat.le_of_lt (x.above y c (PySem.mem_of_lookup h)))
 ·unfold ZbG;show _=N.length;rw[List.length_append,List.length_map,List.length_replicate];omega
theorem Zmg{CX:CXT}{P:Program}{w:World}{K:PySem.W.Frag}{mg:Str->Option Value}{base:Heap}{k:Nat}{f:Addr}{name qual:Str}{params:Arguments}{body:List Stmt}{scope:Scope}{dV kV doc pm cdv ct oc:Value}{an od:Option Addr}
  {osl:Array (Option Value)}{N ps:List Str}{sp:Sp}(lk:K.lookup f=some ⟨oc,od,.func (PySem.W.fnOf name qual params body scope dV kV doc pm an cdv ct),osl⟩)(hcd:PySem.W.codeIn K cdv qual=true)(S:ZG N ps scope)
  (len:∀vs H Q E,sp vs H Q E->vs.length=ps.length)
  (hbody:∀(A:Around) (outer:List Env) (s:Shared) (H:Hp) (vs:List V) (Q:VK) (E:XK),YK k (A.deeper (envOfC qual scope s.heap.objs.size f cdv))->sp vs H Q E->
   ∃t,PSs (Zia CX P w K mg base N qual scope f cdv A outer s H E) body t/\t {nx:=fun _ H'=>Q .non H',rt:=Q} (ZbG N vs) H):
  Yq P w K mg base CX (k+1) f (PySem.W.fnOf name qual params body scope dV kV doc pm an cdv ct) ps sp:=by
 refine⟨len,fun A outer s H args us vs Q E hr e0 hb r hsp=> ?_⟩;have hl:=len _ _ _ _ hsp;have KX:K.In s.heap:=e0.mod.kin.keeps fun b o e=>(e0.bs b o e).1;have lim:s.heap.NoLimit:=e0.mod.nolimit.keeps fun b o e=>(e0.bs b o e).1;have hkind:∀y∈ps.zip us,scope.names.lookup y.1=some .local\/(scope.names.lookup y.1=some .cell/\((cellsFrom (s.heap.objs.size+1) scope.names []).lookup y.1).isSome=true):=fun⟨n,v⟩ hy=>by
  rcases S.par n (List.of_mem_zip hy).1 with q|q
  ·exact .inl q
  ·exact .inr ⟨q,PySem.W.cellsFrom_some _ _ _ (.inl q)⟩
 refine codeAny_call_function hr.depth (KX _ _ lk) rfl S.co S.gen rfl (PySem.W.codeRec_of KX hcd) (hb _ _ _ _ ?_);refine wpAny_newFunctionEnv_cells S.kind hkind fun env he s1 x=> ?_;subst he;refine⟨lim.keeps x.toInCall.keep,codeAny_func ?_⟩;obtain⟨t,ht,hq⟩:=hbody A outer s H vs Q E (hr.deeper _) hsp;have I:Inv (Zia CX P w K mg base N qual scope f cdv A outer s H E) [] (ZbG N vs) H s1:=Zib S hr.hd e0 hl r x
 refine wpAny_mono (ht [] s1 (ZbG N vs) H _ I hq) (fun fl s' hs=> ?_) fun e s' hs=>hs;have fin:∀{σ':St} {H':Hp} {v:V} {u:Value},Inv (Zia CX P w K mg base N qual scope f cdv A outer s H E) [] σ' H' s'->ZC v u->Q v H'->CE outer P w H s Q u s':=
  fun{σ' H' v u} J rv q=>⟨v,H',J.os,J.bare,J.base,J.hok,rv,q⟩
 cases fl with
 |ret u=>
  obtain⟨v,σ',H',J,rv,q⟩:=hs;exact fin J rv q
 |next=>
  obtain⟨σ',H',J,q⟩:=hs;exact fin (v:=V.non) (u:=Value.none) J rfl q
 |brk=>
  obtain⟨_,_,_,q⟩:=hs;exact False.elim q
 |cont=>
  obtain⟨_,_,_,q⟩:=hs;exact False.elim q
end L2
namespace L2
open PySem PySem.Spec PyProof.Rows
section
variable {X:Cx} {x:Str} {p pos:Pos} {e:Expr} {es:List Expr} {t:TA} {id T:String} {r:List V->Hp->VK->Prop}
def tCB(r:List V->Hp->VK->Prop)(t:TA):TE:=fun σ H Q=>t σ H fun vs H1=>r vs H1 Q
theorem ZV(hc:JF X (.builtin id) r)(hg:Gl X x)(hm:X.mg x=none)(hv:bootBuiltins x=some (.builtin id))(ha:PA X (e::es) t)(hn:x≠"__name__":=by decide)(hdb:(x==("__debug__":Str))=false:=by decide)
  (he:starEach (e::es) X.env=(false,eval e X.env)::starEach es X.env:=by rfl)(hpl:(backTo pos (starEach es X.env)).any (·.1)=false:=by rfl):PE X (.Call (.Name x p) (e::es) [] pos) (tCB r t):=by
 intro pins s σ H Q I h;refine wpAny_Call_Name_kw (ZcE I hg hm hv ?_ hn hdb);exact PyProof.Rows.callWith_builtin1 (thn (ha pos pins s σ H _ I h) fun us s1 ⟨vs,H1,I1,r1,q1⟩=>hc pins s1 σ H1 vs us Q I1 r1 q1) he hpl
theorem Zbq(hc:JF X (.type T) r)(hg:Gl X x)(hm:X.mg x=none)(hv:bootBuiltins x=some (.type T))(ha:PA X (e::es) t)(hn:x≠"__name__":=by decide)(hdb:(x==("__debug__":Str))=false:=by decide)
  (he:starEach (e::es) X.env=(false,eval e X.env)::starEach es X.env:=by rfl)(hpl:(backTo pos (starEach es X.env)).any (·.1)=false:=by rfl):PE X (.Call (.Name x p) (e::es) [] pos) (tCB r t):=by
 intro pins s σ H Q I h;refine wpAny_Call_Name_kw (ZcE I hg hm hv ?_ hn hdb);exact PyProof.Rows.callWith_type1 (thn (ha pos pins s σ H _ I h) fun us s1 ⟨vs,H1,I1,r1,q1⟩=>hc pins s1 σ H1 vs us Q I1 r1 q1) he hpl
end
end L2
namespace HT
open PySem PyProof.Rows
section
open PySem.SeqAt
open PySem.AutoSeq1 (wpAny_loadPart')
open PySem.MeetsSeq PySem.MeetsSeq2 PySem.MeetsSeq3
end
section
variable {prog:Program} {w:World} {A:Around} {E:Value->Shared->Prop} {s:Shared}
def sIx(n d:Nat):Option Int->Nat
 |none=>d
 |some v=>if v<0 then(v+(n:Int)).toNat else min v.toNat n
end
end HT
namespace L2
open PySem PySem.Spec PyProof.Rows
abbrev TO:=St->Hp->(Option Int->Hp->Prop)->Prop
def PO(X:Cx)(e:Option Expr)(t:TO):Prop:=
 ∀(pins:List (Addr×Obj)) (s:Shared) (σ:St) (H:Hp) (Q:Option Int->Hp->Prop),Inv X pins σ H s->t σ H Q->
  wpAny (model X.prog X.w) X.A (evalPart e X.env) (fun u s'=>∃o H',Inv X pins σ H' s'/\IsPart u o/\Q o H') X.xe s
def Zmh(t:TE):TO:=fun σ H Q=>t σ H fun x H1=>∃i,x=.int i/\Q (some i) H1
section
variable {X:Cx} {e:Expr} {te:TE} {lo hi:Option Expr} {tl th:TO} {pos p2:Pos}
theorem Zbr(h:PE X e te):PO X (some e) (Zmh te):=by
 intro pins s σ H Q I hw;rw[evalPart_some];refine thn (h pins s σ H _ I hw) fun u s1 ⟨x,H1,I1,r1,q1⟩=> ?_;obtain⟨i,rfl,q⟩:=q1;obtain⟨t,rfl⟩:=r1;exact⟨some i,H1,I1,.int i t,q⟩
def SlR(X:Cx)(r:V->Option Int->Option Int->Hp->VK->Prop):Prop:=
 ∀(pins:List (Addr×Obj)) (s:Shared) (σ:St) (H:Hp) (x:V) (v vl vu:Value) (lo hi:Option Int) (sl:Addr) (Q:VK),Inv X pins σ H s->ZC x v->s.heap.IsSliceOf sl vl vu .none->IsPart vl lo->IsPart vu hi->r x lo hi H Q->
  ∃T id,typeLookup (.type T) "__getitem__"=pure (some (.builtin id))/\s.TypeIs v T/\wpAny (model X.prog X.w) X.A (getItem v (.ref sl)) (EP X pins σ Q) X.xe s
def tSl(r:V->Option Int->Option Int->Hp->VK->Prop)(te:TE)(tl th:TO):TE:=fun σ H Q=>te σ H fun x H1=>tl σ H1 fun l H2=>th σ H2 fun u H3=>r x l u H3 Q
theorem ZdF{r:V->Option Int->Option Int->Hp->VK->Prop}(hr:SlR X r)(he:PE X e te)(hl:PO X lo tl)(hu:PO X hi th):PE X (.Subscript e (.Slice lo hi none p2) pos) (tSl r te tl th):=by
 intro pins s σ H Q I h;refine Subscript_ (thn (he pins s σ H _ I h) fun v s1 ⟨x,H1,I1,r1,q1⟩=> ?_);refine wpAny_Slice (thn (hl pins s1 σ H1 _ I1 q1) fun vl s2 ⟨l,H2,I2,pl,q2⟩=>thn (hu pins s2 σ H2 _ I2 q2) fun vu s3 ⟨u,H3,I3,pu,q3⟩=> ?_);rw[evalPart_none];refine wpAny_pure ?_;have I4:Inv X pins σ H3 {s3 with heap:=s3.heap.push {cls:=.type "slice",data:=.fields #[vl,vu,.none]}}:=I3.kept (t':=s3.toks) fun b ob q=>Heap.get?_push_of_some _ q
 obtain⟨T,id,hT,ht,hg⟩:=hr pins {s3 with heap:=s3.heap.push {cls:=.type "slice",data:=.fields #[vl,vu,.none]}} σ H3 x v vl vu l u s3.heap.objs.size Q I4 r1 (Heap.IsSliceOf.new ..) pl pu q3;show wpAny (model X.prog X.w) X.A (subscriptTail e (.Slice lo hi none p2) v (.ref s3.heap.objs.size)) (EP X pins σ Q) X.xe {s3 with heap:=s3.heap.push {cls:=.type "slice",data:=.fields #[vl,vu,.none]}};exact tail_any (ops:=[.ref s3.heap.objs.size,v]) ht hT hg (by with_unfolding_all rfl)
def ZfZ(xs:List V)(lo hi:Option Int):List V:=(xs.drop (HT.sIx xs.length 0 lo)).take (HT.sIx xs.length xs.length hi-HT.sIx xs.length 0 lo)
theorem Zg0(xs:List V)(lo hi:Option Int):(ZfZ xs lo hi).length<=xs.length:=by
 unfold ZfZ;rw[List.length_take,List.length_drop];omega
end
end L2
namespace L2
open PySem PySem.Spec PyProof.Rows
def ixN(n:Nat)(i:Int):Option Nat:=if 0<=i then(if i<n then some i.toNat else none) else if-(n:Int)<=i then some (i+n).toNat else none
def atI{α:Type}(xs:List α)(i:Int):Option α:=(ixN xs.length i).bind fun j=>xs[j]?
theorem Zkn{n:Nat}{i:Int}{j:Nat}(h:ixN n i=some j):seqIndex? i n=some j/\j<n/\-(n:Int)<=i/\i<n:=by
 unfold ixN at h
 by_cases h0:0<=i
 ·rw[if_pos h0] at h
  by_cases h1:i<n
  ·rw[if_pos h1] at h
   have e:i.toNat=j:=Option.some.inj h;exact⟨by rw[seqIndex_of h0 h1,e],by omega,by omega,h1⟩
  ·rw[if_neg h1] at h;cases h
 ·rw[if_neg h0] at h
  by_cases h1: -(n:Int)<=i
  ·rw[if_pos h1] at h
   have e:(i+n).toNat=j:=Option.some.inj h;exact⟨by rw[seqIndex_neg (by omega) h1,e],by omega,h1,by omega⟩
  ·rw[if_neg h1] at h;cases h
theorem Zcb{α:Type}{xs:List α}{i:Int}{v:α}(h:atI xs i=some v):∃j,seqIndex? i xs.length=some j/\xs[j]? =some v/\j<xs.length/\-(xs.length:Int)<=i/\i<xs.length:=by
 unfold atI at h
 cases e:ixN xs.length i with
 |none=>rw[e] at h;cases h
 |some j=>
  rw[e] at h
  obtain⟨h1,h2,h3,h4⟩:=Zkn e;exact⟨j,h1,h,h2,h3,h4⟩
def Zko(b:Expr):Prop:=∀o i,subscripted b false o i=operate [o,i] (getItem o i)
def IxR(X:Cx)(r:R2):Prop:=
 ∀(value slice:Expr) (pins:List (Addr×Obj)) (s:Shared) (σ:St) (H:Hp) (x y:V) (v u:Value) (Q:VK),Inv X pins σ H s->ZC x v->ZC y u->r x y H Q->
  subscripted slice false v u=operate [v,u] (getItem v u)->wpAny (model X.prog X.w) X.A (subscriptTail value slice v u) (EP X pins σ Q) X.xe s
def MtR(X:Cx)(id:String)(r:V->List V->Hp->VK->Prop):Prop:=
 ∀(pins:List (Addr×Obj)) (s:Shared) (σ:St) (H:Hp) (x:V) (xs:List V) (v:Value) (us:List Value) (Q:VK),Inv X pins σ H s->ZC x v->ZJ xs us->r x xs H Q->
  wpAny (model X.prog X.w) X.A (call (.builtin id) (v::us)) (EP X pins σ Q) X.xe s
section
variable {X:Cx} {a b:Expr} {ta tb:TE} {pos:Pos}
theorem ZQ{r:R2}(hr:IxR X r)(ha:PE X a ta)(hb:PE X b tb)(hs:Zko b):PE X (.Subscript a b pos) (tOp r ta tb):=by
 intro pins s σ H Q I h;exact Subscript_ (Zls ha hb I h fun v u s2 x y H2 I2 rx ry q=>hr a b pins s2 σ H2 x y v u Q I2 rx ry q (hs _ _))
def Zn2(K:PySem.W.Frag):R2:=fun x y H Q=>∃p xs i v,x=.ref p/\y=.int i/\SqL K H p xs/\atI xs i=some v/\Q v H
def Zmi(K:PySem.W.Frag):R2:=fun x y H Q=>∃p xs i v,x=.ref p/\y=.int i/\SqT K H p xs/\atI xs i=some v/\Q v H
def Zn3:R2:=fun x y H Q=>∃z i c,x=.str z/\y=.int i/\z.length<=sizeLine/\atI z.cps.toList i=some c/\Q (.str ⟨#[c]⟩) H
theorem JX:IxR X (Zn2 X.K):=by
 intro value slice pins s σ H x y v u Q I rx ry h hs;obtain⟨p,xs,i,z,rfl,rfl,hq,he,q⟩:=h;cases rx;obtain⟨t,rfl⟩:=ry;obtain⟨its,r,pl,hz⟩:=I.list hq;obtain⟨j,h1,h2,h3,h4,h5⟩:=Zcb he;obtain⟨w,ew,rw'⟩:=r.get h2;have hl:=r.length;have hn:=Zf0;have fin:EP X pins σ Q w s:=⟨z,H,I,rw',q⟩
 by_cases h0:0<=i
 ·have hj:i.toNat=j:=by
   rw[seqIndex_of h0 h5] at h1
   exact Option.some.inj h1
  exact item_listR pl.isList h0 (by omega) (by rw[hj];simpa using ew) fin hs
 ·have hj:(i+(its.toArray.size:Int)).toNat=j:=by
   rw[seqIndex_neg (by omega) h4] at h1
   rw[List.size_toArray,<-hl];exact Option.some.inj h1
  exact subscriptTail_builtinR (x:=w) pl.isList.typeIs slot_list_getitem.lookup
   (wpAny_getItem_list_neg (Q:=fun r s'=>r=w/\EP X pins σ Q r s') pl.isList (by omega) (by rw[List.size_toArray]<;>omega) (by omega) (by rw[hj];simpa using ew) ⟨rfl,fin⟩) hs
theorem ZL:IxR X (Zmi X.K):=by
 intro value slice pins s σ H x y v u Q I rx ry h hs;obtain⟨p,xs,i,z,rfl,rfl,hq,he,q⟩:=h;cases rx;obtain⟨t,rfl⟩:=ry;obtain⟨its,r,pl,hz⟩:=I.tuple hq;obtain⟨j,h1,h2,h3,h4,h5⟩:=Zcb he;obtain⟨w,ew,rw'⟩:=r.get h2;have hl:=r.length;have hn:=Zf0;have fin:EP X pins σ Q w s:=⟨z,H,I,rw',q⟩
 exact subscriptTail_builtinR (x:=w) pl.typeIs slot_tuple_getitem.lookup
  (getItem_tuple (j:=j) (Q:=fun r s'=>r=w/\EP X pins σ Q r s') pl (by omega) (by omega) (by rw[List.size_toArray,<-hl];exact h1) (by simpa using ew) ⟨rfl,fin⟩) hs
theorem Zj2:IxR X Zn3:=by
 intro value slice pins s σ H x y v u Q I rx ry h hs;obtain⟨z,i,c,rfl,rfl,hz,he,q⟩:=h;obtain⟨t,rfl⟩:=rx;obtain⟨t',rfl⟩:=ry;obtain⟨j,h1,h2,h3,h4,h5⟩:=Zcb he;have hl:z.cps.toList.length=z.length:=by simp[Str.length]
 rw[hl] at h1 h4 h5
 have hn:=Zf0;exact tail_any (typeIs_str s z t) slot_str_getitem.lookup (getItem_str (c:=c) (by
  have e1:decide (i< -(2^63:Int))=false:=decide_eq_false (by omega);have e2:decide (i≥2^63)=false:=decide_eq_false (by omega);rw[e1,e2,Bool.or_false]) (by rw[h1];simpa using h2) ⟨.str ⟨#[c]⟩,H,I.tok _,⟨_,rfl⟩,q⟩) hs
theorem Zf2(lo hi:Option Int)(n:Nat):(sliceBounds lo hi none n).1=((HT.sIx n 0 lo:Nat):Int)/\(sliceBounds lo hi none n).2.1=((HT.sIx n n hi:Nat):Int)/\(sliceBounds lo hi none n).2.2=1:=by
 refine⟨?_, ?_,rfl⟩
 ·cases lo with
  |none=>simp[sliceBounds,HT.sIx]
  |some i=>
   simp only [sliceBounds,HT.sIx,Option.getD_none,show(1:Int)>0 by decide,if_true]
   by_cases h:i<0
   ·simp only [h,if_true]<;>omega
   ·simp only [h,if_false]<;>omega
 ·cases hi with
  |none=>simp[sliceBounds,HT.sIx]
  |some i=>
   simp only [sliceBounds,HT.sIx,Option.getD_none,show(1:Int)>0 by decide,if_true]
   by_cases h:i<0
   ·simp only [h,if_true]<;>omega
   ·simp only [h,if_false]<;>omega
theorem Zee(its:List Value)(lo hi:Option Int):slicePick its.toArray lo hi none=((its.drop (HT.sIx its.length 0 lo)).take (HT.sIx its.length its.length hi-HT.sIx its.length 0 lo)).toArray:=by
 obtain⟨h1,h2,h3⟩:=Zf2 lo hi its.toArray.size;unfold slicePick;rw[h1,h2,h3];simp only [sliceRange_one,pick_run,List.size_toArray]<;>rfl
def Zn4(K:PySem.W.Frag):V->Option Int->Option Int->Hp->VK->Prop:=fun x lo hi H Q=>∃a xs,x=.ref a/\SqL K H a xs/\∀p,H p=none->Q (.ref p) (upd H p (.lst (ZfZ xs lo hi)))
theorem Zf3:SlR X (Zn4 X.K):=by
 intro pins s σ H x v vl vu lo hi sl Q I rx hs pl pu h;obtain⟨a,xs,rfl,hx,q⟩:=h;cases rx;obtain⟨its,r,ht,hz⟩:=I.list hx;have hlen:=r.length;refine⟨"list",_,slot_list_getitem.lookup,ht.isList.typeIs, ?_⟩;refine wpAny_getItem_list_slice ht.isList hs pl pu .none (by simp) ?_ (by rw[List.size_toArray]<;>omega)
 rw[Zee,<-hlen];refine⟨.ref s.heap.objs.size,_,I.laid (t':=s.toks) (o:=.lst (ZfZ xs lo hi)) (fun b ob q=>Heap.get?_push_of_some _ q) (Nat.le_refl _) ?_,rfl,q _ (I.hok.fresh (Nat.le_refl _))⟩;exact⟨Nat.le_trans (Zg0 xs lo hi) hz,_,0,(r.drop (HT.sIx xs.length 0 lo)).take (HT.sIx xs.length xs.length hi-HT.sIx xs.length 0 lo),Heap.get?_push_size _ rfl⟩
def Xp:V->Bool
 | .non=>true
 | .bl _=>true
 | .int _=>true
 | .str _=>true
 |_=>false
def eqV:V->V->Bool
 | .non,.non=>true
 | .bl a,.bl b=>a==b
 | .bl a,.int b=>(if a then 1 else 0)==b
 | .int a,.bl b=>a==(if b then 1 else 0)
 | .int a,.int b=>a==b
 | .str a,.str b=>a==b
 |_,_=>false
theorem Zj3{A:Around}{s:Shared}{y x:V}{u v:Value}(ry:ZC y u)(rx:ZC x v)(fy:Xp y=true)(fx:Xp x=true):SeqAt.EqAt A s u v (eqV y x):=by
 cases y with
 |non=>
  cases ry;cases x with
  |non=>cases rx;exact SeqAt.EqAt.same _
  |bl b=>cases rx;exact SeqAt.EqAt.none_bool b
  |int b=>obtain⟨t,rfl⟩:=rx;exact SeqAt.EqAt.none_int b t
  |str b=>obtain⟨t,rfl⟩:=rx;exact SeqAt.EqAt.none_str b t
  |_=>exact absurd (show false=true from fx) Bool.false_ne_true
 |bl a=>
  cases ry;cases x with
  |non=>cases rx;exact SeqAt.EqAt.bool_none a
  |bl b=>cases rx;exact SeqAt.EqAt.bool_bool a b
  |int b=>obtain⟨t,rfl⟩:=rx;exact SeqAt.EqAt.bool_int a b t
  |str b=>obtain⟨t,rfl⟩:=rx;exact SeqAt.EqAt.bool_str a b t
  |_=>exact absurd (show false=true from fx) Bool.false_ne_true
 |int a=>
  obtain⟨t',rfl⟩:=ry;cases x with
  |non=>cases rx;exact SeqAt.EqAt.int_none a t'
  |bl b=>cases rx;exact SeqAt.EqAt.int_bool a t' b
  |int b=>obtain⟨t,rfl⟩:=rx;exact SeqAt.EqAt.int_int a t' b t
  |str b=>obtain⟨t,rfl⟩:=rx;exact SeqAt.EqAt.int_str a t' b t
  |_=>exact absurd (show false=true from fx) Bool.false_ne_true
 |str a=>
  obtain⟨t',rfl⟩:=ry;cases x with
  |non=>cases rx;exact SeqAt.EqAt.str_none a t'
  |bl b=>cases rx;exact SeqAt.EqAt.str_bool a t' b
  |int b=>obtain⟨t,rfl⟩:=rx;exact SeqAt.EqAt.str_int a t' b t
  |str b=>obtain⟨t,rfl⟩:=rx;exact SeqAt.EqAt.str_str a t' b t
  |_=>exact absurd (show false=true from fx) Bool.false_ne_true
 |_=>exact absurd (show false=true from fy) Bool.false_ne_true
def tyV(K:PySem.W.Frag)(T:String)(x:V)(H:Hp):Prop:=match x with
 | .str _=>T="str"
 | .int _=>T="int"
 | .ref p=>(T="list"/\∃xs,SqL K H p xs)\/(T="tuple"/\∃o,K.lookup p=some o/\o.cls=.type "tuple"/\o.dict=none)\/
   (T="dict"/\((∃kvs,H p=some (.dK kvs))\/∃kvs,H p=some (.dT kvs)))\/(T="set"/\∃S n,H p=some (.set S n))
 |_=>False
theorem ZgQ{pins:List (Addr×Obj)}{σ:St}{H:Hp}{s:Shared}{T:String}{x:V}{v:Value}(I:Inv X pins σ H s)(r:ZC x v)(ty:tyV X.K T x H):
  s.TypeIs v T/\∀a,v=.ref a->∃ob,s.heap.get? a=some ob/\ob.dict=none:=by
 cases x with
 |str z=>
  obtain⟨t,rfl⟩:=r;cases(show T="str" from ty);exact⟨typeIs_str s z t,fun _ e=>nomatch e⟩
 |int i=>
  obtain⟨t,rfl⟩:=r;cases(show T="int" from ty);exact⟨typeIs_int s i t,fun _ e=>nomatch e⟩
 |ref p=>
  cases r;rcases ty with ⟨rfl,xs,hq⟩|⟨rfl,o,hk,hc,hd⟩|⟨rfl,hk⟩|⟨rfl,S,n,hk⟩
  ·obtain⟨its,_,pl,_⟩:=I.list hq;refine⟨pl.isList.typeIs,fun a e=> ?_⟩;cases e;obtain⟨o,n,e,c,hd,_⟩:=pl;exact⟨o,e,hd⟩
  ·refine⟨⟨o,I.kIn p o hk,hc⟩,fun a e=> ?_⟩;cases e;exact⟨o,I.kIn _ o hk,hd⟩
  ·have z:∃o,s.heap.get? p=some o/\o.ExactDict:=by
    rcases hk with ⟨kvs,hk⟩|⟨kvs,hk⟩
    ·obtain⟨_,_,_,_,o,_,_,e,ex,_⟩:=I.hok p _ hk;exact⟨o,e,ex⟩
    ·obtain⟨_,_,_,_,o,_,_,e,ex,_⟩:=I.hok p _ hk;exact⟨o,e,ex⟩
   obtain⟨o,e,ex⟩:=z;refine⟨⟨o,e,ex.1⟩,fun a e2=> ?_⟩;cases e2;exact⟨o,e,ex.2.1⟩
  ·obtain⟨o,_,_,_,e,ex,_⟩:=I.hok p _ hk;refine⟨⟨o,e,ex.1⟩,fun a e2=> ?_⟩;cases e2;exact⟨o,e,ex.2.1⟩
 |_=>exact False.elim ty
def Zn5(K:PySem.W.Frag)(T:String)(r:V->List V->Hp->VK->Prop)(to:TE):TE:=fun σ H Q=>to σ H fun x H1=>tyV K T x H1/\r x [] H1 Q
def tBM(K:PySem.W.Frag)(T:String)(r:V->List V->Hp->VK->Prop)(to:TE)(t:TA):TE:=fun σ H Q=>to σ H fun x H1=>tyV K T x H1/\t σ H1 fun xs H2=>r x xs H2 Q
variable {o e:Expr} {es:List Expr} {to:TE} {t:TA} {name:Str} {apos cpos:Pos} {T id:String} {r:V->List V->Hp->VK->Prop}
theorem Zf4(pa:PlainAttrs T)(slot:Slot T name id)(hty:typeOf (.builtin id)=pure (.type "method_descriptor"))(hm:MtR X id r)(ho:PE X o to)
  (hbase:attributeBase o name X.env (eval o X.env)=eval o X.env:=by rfl)(hline:(apos.endLine==cpos.line)=true:=by rfl):PE X (.Call (.Attribute o name apos) [] [] cpos) (Zn5 X.K T r to):=by
 intro pins s σ H Q I h;refine wpAny_Call_method0_late hbase hline (thn (ho pins s σ H _ I h) fun v s1 ⟨x,H1,I1,r1,ty,q1⟩=> ?_);obtain⟨h1,h2⟩:=ZgQ I1 r1 ty;exact⟨T,id,pa,slot,hty,h1,h2,Calls.callWith_builtin rfl (PySem.evalArgs_none (hm pins s1 σ H1 x [] v [] Q I1 r1 .nil q1))⟩
theorem ZdG(pa:PlainAttrs T)(slot:Slot T name id)(hty:typeOf (.builtin id)=pure (.type "method_descriptor"))(hm:MtR X id r)(ho:PE X o to)(ha:PA X (e::es) t)
  (hbase:attributeBase o name X.env (eval o X.env)=eval o X.env:=by rfl)
  (hfew:((backTo cpos (starEach (e::es) X.env)).all (fun x=> !x.1)&&(backToKw cpos (keywordEach [] X.env)).all (fun x=>x.1.isSome)
   &&decide ((e::es).length+([]:List Keyword).length+(if([]:List Keyword).isEmpty then 0 else 1)<30))=true:=by rfl)
  (hline:(apos.endLine==cpos.line)=true:=by rfl)(hs:starEach (e::es) X.env=(false,eval e X.env)::starEach es X.env:=by rfl)(hplain:(backTo cpos (starEach es X.env)).any (·.1)=false:=by rfl):
  PE X (.Call (.Attribute o name apos) (e::es) [] cpos) (tBM X.K T r to t):=by
 intro pins s σ H Q I h;refine wpAny_Call_method_late hbase hfew hline rfl (thn (ho pins s σ H _ I h) fun v s1 ⟨x,H1,I1,r1,ty,q1⟩=> ?_);obtain⟨h1,h2⟩:=ZgQ I1 r1 ty;refine⟨T,id,pa,slot,hty,h1,h2, ?_⟩;have hA:=ha cpos pins s1 σ H1 _ I1 q1;rw[hs] at hA⊢
 refine Calls.callWith_builtin (by show(false||(backTo cpos (starEach es X.env)).any (·.1))=false;rw[hplain]<;>rfl) (Calls.evalArgs_plain ?_)
 exact thn hA fun us s2 ⟨vs,H2,I2,r2,q2⟩=>hm pins s2 σ H2 x vs v us Q I2 r1 r2 q2
end
end L2
namespace L2
open PySem PySem.Spec PyProof.Rows
def MtM(X:Cx)(id:String)(r:V->List V->Hp->VK->Prop):Prop:=
 ∀(pins:List (Addr×Obj)) (s:Shared) (σ:St) (H:Hp) (x:V) (xs:List V) (v:Value) (us:List Value) (Q:VK),Inv X pins σ H s->ZC x v->ZJ xs us->r x xs H Q->
  wpAny (model X.prog X.w) X.A (call (.builtin id) (v::us)) (EP X pins σ Q) X.xe s
theorem ZJ.one:∀{x:V} {us:List Value},ZJ [x] us->∃u,us=[u]/\ZC x u
 |_,_,.cons r .nil=>⟨_,rfl,r⟩
theorem ZJ.zero:∀{us:List Value},ZJ [] us->us=[]
 |_,.nil=>rfl
theorem ZJ.dropLast{xs:List V}{us:List Value}(h:ZJ xs us):ZJ xs.dropLast us.dropLast:=by
 induction h with
 |nil=>exact .nil
 |cons r t ih=>
  cases t with
  |nil=>exact .nil
  |cons q t'=>exact .cons r ih
theorem ZgR{α:Type}(l:List α):l.eraseIdx (l.length-1)=l.dropLast:=by
 induction l with
 |nil=>rfl
 |cons a r ih=>
  cases r with
  |nil=>rfl
  |cons b r=>
   have e:(a::b::r).length-1=((b::r).length-1)+1:=by
    have h1:(a::b::r).length=r.length+2:=rfl;have h2:(b::r).length=r.length+1:=rfl;omega
   rw[e,List.eraseIdx_cons_succ,ih]
   all_goals rfl
section
variable {X:Cx} {pins:List (Addr×Obj)} {σ:St} {H:Hp} {s:Shared} {l b:Addr} {xs ys zs:List V}
theorem Inv.lset{its its':List Value}{n:Nat}{f:Array Value->Array Value}{t':Nat}(I:Inv X pins σ H s)(hH:H l=some (.lst xs))
  (e:s.heap.get? l=some {cls:=.type "list",data:=.seq its.toArray n})(hf:f its.toArray=its'.toArray)(hv:ZJ ys its')(hz:ys.length<=sizeLine):
  Inv X pins σ (upd H l (.lst ys)) {s with heap:=s.heap.update l (Obj.mapSeq f),toks:=t'}:=by
 have q:=PySem.IsL.update e f;rw[hf] at q
 refine I.write (x:=l) (e:=l) (by rw[hH];exact trivial) (.inl rfl) (fun b' u hb hu=>(Heap.get?_update_other s.heap (Obj.mapSeq f) (Ne.symm hb)).trans hu) ⟨_,q⟩ ?_
 exact⟨hz,its',_,hv,q⟩
theorem Inv.lnew{its:List Value}{t':Nat}(I:Inv X pins σ H s)(hv:ZJ ys its)(hz:ys.length<=sizeLine):
  Inv X pins σ (upd H s.heap.objs.size (.lst ys)) {s with heap:=s.heap.push {cls:=.type "list",data:=.seq its.toArray},toks:=t'}:=
 I.laid (fun _ _ q=>Heap.get?_push_of_some _ q) (Nat.le_refl _) ⟨hz,its,0,hv,Heap.get?_push_size _ rfl⟩
theorem Inv.fresh(I:Inv X pins σ H s):H s.heap.objs.size=none:=I.hok.fresh (Nat.le_refl _)
theorem Inv.lstM(I:Inv X pins σ H s)(hH:H l=some (.lst xs)):xs.length<=sizeLine/\∃(its:List Value) (n:Nat),ZJ xs its/\xs.length=its.length/\s.heap.get? l=some {cls:=.type "list",data:=.seq its.toArray n}:=by
 obtain⟨z,its,n,r,e⟩:=I.hok l _ hH;exact⟨z,its,n,r,r.length,e⟩
theorem Zj4{n:Nat}(h:n<=sizeLine):Builtin.List.listTooLong n=false:=by
 unfold Builtin.List.listTooLong;exact decide_eq_false (by omega)
end
section
variable {X:Cx}
def Zkp:V->List V->Hp->VK->Prop:=fun x vs H Q=>∃l xs y,x=.ref l/\vs=[y]/\H l=some (.lst xs)/\xs.length<sizeLine/\Q .non (upd H l (.lst (xs++[y])))
theorem Jz:MtM X "list.append" Zkp:=by
 intro pins s σ H x vs v us Q I rx rv h;obtain⟨l,xs,y,rfl,rfl,hH,hz,q⟩:=h;cases rx;obtain⟨u,rfl,ru⟩:=rv.one;obtain⟨z,its,n,r,hl,e⟩:=I.lstM hH;refine call_meets F.slot_list_append ⟨_,e,rfl⟩ F.entry_list_append (F.args_list_append_2 _ _) (PySem.list_append l its.toArray n u (by rw[List.size_toArray];omega)) ⟨e, ?_⟩
 refine⟨.non,_,I.lset (its':=its++[u]) hH e (by simp) (r.append (.cons ru .nil)) ?_,rfl,q⟩;rw[List.length_append,List.length_singleton];omega
def Zkq:V->List V->Hp->VK->Prop:=fun x vs H Q=>∃l b xs zs,x=.ref l/\vs=[.ref b]/\H l=some (.lst xs)/\H b=some (.lst zs)/\xs.length+zs.length<=sizeLine/\Q .non (upd H l (.lst (xs++zs)))
theorem Zic:MtM X "list.extend" Zkq:=by
 intro pins s σ H x vs v us Q I rx rv h;obtain⟨l,b,xs,zs,rfl,rfl,hH,hB,hz,q⟩:=h;cases rx;obtain⟨u,rfl,ru⟩:=rv.one;cases ru;obtain⟨z,its,n,r,hl,e⟩:=I.lstM hH;obtain⟨z2,its2,n2,r2,hl2,e2⟩:=I.lstM hB;have hsz:its.toArray.size+its2.toArray.size<=sizeLine:=by rw[List.size_toArray,List.size_toArray];omega
 have hlong:¬(!its.toArray.isEmpty&&Builtin.List.listTooLong (its.toArray.size+its2.toArray.size))=true:=by
  rw[Zj4 hsz,Bool.and_false];exact Bool.false_ne_true
 refine call_meets F.slot_list_extend ⟨_,e,rfl⟩ F.entry_list_extend (F.args_list_extend_2 _ _)
  (AutoSeq1.list_extend_list_list_0 l its.toArray n b its2.toArray n2 hlong (by rw[List.size_toArray];omega) (by omega)) ⟨e,e2, ?_⟩
 refine⟨.non,_,I.lset (its':=its++its2) hH e (by simp) (r.append r2) ?_,rfl,q⟩;rw[List.length_append];omega
def Zmj:V->List V->Hp->VK->Prop:=fun x vs H Q=>∃l xs y,x=.ref l/\vs=[]/\H l=some (.lst xs)/\xs[xs.length-1]? =some y/\Q y (upd H l (.lst xs.dropLast))
theorem Zf5:MtM X "list.pop" Zmj:=by
 intro pins s σ H x vs v us Q I rx rv h;obtain⟨l,xs,y,rfl,rfl,hH,hy,q⟩:=h;cases rx;have hus:=rv.zero;subst hus;obtain⟨z,its,n,r,hl,e⟩:=I.lstM hH;obtain⟨u,hu,ru⟩:=r.get hy;have hy':its.toArray[its.toArray.size-1]? =some u:=by
  show its.toArray[its.length-1]? =some u;rw[<-Array.getElem?_toList,<-hl];exact hu
 refine call_meets F.slot_list_pop ⟨_,e,rfl⟩ F.entry_list_pop (F.args_list_pop_1 _) (MeetsSeq.list_pop_last l its.toArray n u hy' (by rw[List.size_toArray];omega)) ⟨e, ?_⟩
 refine⟨y,_,I.lset (its':=its.dropLast) hH e ?_ r.dropLast ?_,ru,q⟩
 ·show its.toArray.eraseIdxIfInBounds (its.toArray.size-1)=its.dropLast.toArray;rw[List.size_toArray,List.eraseIdxIfInBounds_toArray,ZgR]
 ·rw[List.length_dropLast];omega
end
section
variable {prog:Program} {w:World} {A:Around} {E:Value->Shared->Prop} {s:Shared}
end
section
variable {X:Cx}
end
end L2
namespace L2
open PySem PySem.Spec PyProof.Rows
section
variable {κ:Type} [DecidableEq κ]
def ZaA(kvs:List (κ×V))(k:κ):Option V:=(kvs.find? fun kv=>decide (kv.1=k)).map (·.2)
def ZaW(kvs:List (κ×V))(k:κ)(v:V):List (κ×V):=
 if(kvs.any fun kv=>decide (kv.1=k))=true then kvs.map (fun kv=>if kv.1=k then(kv.1,v) else kv) else kvs++[(k,v)]
theorem ZaX{p:κ×V}{r:List (κ×V)}{k:κ}(e:p.1=k):ZaA (p::r) k=some p.2:=by simp[ZaA,List.find?_cons,e]
theorem ZaY{p:κ×V}{r:List (κ×V)}{k:κ}(e:¬p.1=k):ZaA (p::r) k=ZaA r k:=by simp[ZaA,List.find?_cons,e]
theorem Zg1(k:κ):∀kvs:List (κ×V),(kvs.any fun kv=>decide (kv.1=k))=(ZaA kvs k).isSome
 |[]=>rfl
 |p::r=>by
  rw[List.any_cons]
  by_cases e:p.1=k
  ·simp only [ZaX e,decide_eq_true e,Bool.true_or,Option.isSome_some]
  ·rw[ZaY e,decide_eq_false e,Bool.false_or];exact Zg1 k r
theorem ZaZ(kvs:List (κ×V))(k:κ)(v:V):(ZaW kvs k v).length<=kvs.length+1:=by
 unfold ZaW
 split
 ·rw[List.length_map];omega
 ·rw[List.length_append,List.length_cons,List.length_nil];omega
theorem Zau.isSome_eq{o:Option V}{u:Option Value}(r:Zau o u):o.isSome=u.isSome:=by
 cases o with
 |none=>cases u with
  |none=>rfl
  |some _=>exact(show False from r).elim
 |some _=>cases u with
  |none=>exact(show False from r).elim
  |some _=>rfl
theorem Zau.getD{o:Option V}{u:Option Value}{d:V}{d':Value}(r:Zau o u)(rd:ZC d d'):ZC (o.getD d) (u.getD d'):=by
 cases o with
 |none=>cases u with
  |none=>exact rd
  |some _=>exact(show False from r).elim
 |some _=>cases u with
  |none=>exact(show False from r).elim
  |some _=>exact r
theorem KV.val{kvs:List (κ×V)}{vs:List (κ×Value)}(r:KV kvs vs)(k:κ):Zau (ZaA kvs k) (valueAt vs k):=by
 unfold KV at r
 induction r with
 |nil=>exact True.intro
 | @cons p q ps qs h t ih=>
  obtain⟨h1,h2⟩:=h
  by_cases e:p.1=k
  ·have e':q.1=k:=h1.symm.trans e;have b:valueAt (q::qs) k=some q.2:=by simp[valueAt,List.find?_cons,e']
   rw[ZaX e,b];exact h2
  ·have e':¬q.1=k:=fun z=>e (h1.trans z);have b:valueAt (q::qs) k=valueAt qs k:=by simp[valueAt,List.find?_cons,e']
   rw[ZaY e,b];exact ih
theorem KV.any{kvs:List (κ×V)}{vs:List (κ×Value)}(r:KV kvs vs)(k:κ):(kvs.any fun kv=>decide (kv.1=k))=vs.any fun kv=>decide (kv.1=k):=by
 unfold KV at r
 induction r with
 |nil=>rfl
 |cons h t ih=>rw[List.any_cons,List.any_cons,ih,h.1]
theorem KV.repl{kvs:List (κ×V)}{vs:List (κ×Value)}(r:KV kvs vs)(k:κ){y:V}{u:Value}(ry:ZC y u):
  KV (kvs.map fun kv=>if kv.1=k then(kv.1,y) else kv) (vs.map fun kv=>if kv.1=k then(kv.1,u) else kv):=by
 unfold KV at r⊢
 induction r with
 |nil=>exact .nil
 | @cons p q ps qs h t ih=>
  rw[List.map_cons,List.map_cons];refine .cons ?_ ih;obtain⟨h1,h2⟩:=h
  by_cases e:p.1=k
  ·rw[if_pos e,if_pos (h1.symm.trans e)];exact⟨h1,ry⟩
  ·rw[if_neg e,if_neg (fun z=>e (h1.trans z))];exact⟨h1,h2⟩
theorem KV.put{kvs:List (κ×V)}{vs:List (κ×Value)}(r:KV kvs vs)(k:κ){y:V}{u:Value}(ry:ZC y u):KV (ZaW kvs k y) (stored vs k u):=by
 unfold ZaW stored;rw[r.any k]
 by_cases e:(vs.any fun kv=>decide (kv.1=k))=true
 ·rw[if_pos e,if_pos e];exact r.repl k ry
 ·rw[if_neg e,if_neg e];exact Paired.snoc r ⟨rfl,ry⟩
theorem KV.keys{kvs:List (κ×V)}{vs:List (κ×Value)}(r:KV kvs vs):kvs.map (·.1)=vs.map (·.1):=by
 unfold KV at r
 induction r with
 |nil=>rfl
 |cons h t ih=>rw[List.map_cons,List.map_cons,ih,h.1]
theorem KV.length{kvs:List (κ×V)}{vs:List (κ×Value)}(r:KV kvs vs):kvs.length=vs.length:=Paired.length r
end
theorem ZdH{P:Program}{w:World}{k:Key}{u:Value}(r:ZC (kV k) u):(Yc P w).is k u=true:=by
 cases k with
 |inl i=>obtain⟨t,e⟩:=(show∃t,u=Value.int i t from r);subst e;exact ZfS P w i t
 |inr x=>obtain⟨t,e⟩:=(show∃t,u=Value.str x t from r);subst e;exact ZfT P w x t
theorem Zew{P:Program}{w:World}:∀{ks:List Key} {us:List Value},ZJ (ks.map kV) us->ItemsAre (Yc P w) ks us
 |[],_,r=>by rw[List.map_nil] at r;cases r;exact .nil
 |k::ks,_,r=>by
  rw[List.map_cons] at r
  cases r with
  |cons h t=>exact .cons (ZdH h) (Zew t)
abbrev KT(H:Hp):List (List Key×V)->List (List Key×Addr×Value)->Prop:=Paired fun p q=>p.1=q.1/\H q.2.1=some (.tup (p.1.map kV))/\ZC p.2 q.2.2
theorem KT.val{H:Hp}{kvs:List (List Key×V)}{xs:List (List Key×Addr×Value)}(r:KT H kvs xs)(k:List Key):Zau (ZaA kvs k) ((atKey xs k).map (·.2)):=by
 induction r with
 |nil=>exact True.intro
 | @cons p q ps qs h t ih=>
  obtain⟨h1,_,h2⟩:=h
  by_cases e:p.1=k
  ·have e':q.1=k:=h1.symm.trans e;have b:atKey (q::qs) k=some q.2:=by simp[atKey,List.find?_cons,e']
   rw[ZaX e,b];exact h2
  ·have e':¬q.1=k:=fun z=>e (h1.trans z);have b:atKey (q::qs) k=atKey qs k:=by simp[atKey,List.find?_cons,e']
   rw[ZaY e,b];exact ih
theorem KT.repl{H:Hp}{kvs:List (List Key×V)}{xs:List (List Key×Addr×Value)}(r:KT H kvs xs)(k:List Key){y:V}{u:Value}(ry:ZC y u):
  KT H (kvs.map fun kv=>if kv.1=k then(kv.1,y) else kv) (xs.map (putAt k u)):=by
 induction r with
 |nil=>exact .nil
 | @cons p q ps qs h t ih=>
  rw[List.map_cons,List.map_cons];refine .cons ?_ ih;obtain⟨h1,h2,h3⟩:=h;unfold putAt
  by_cases e:p.1=k
  ·rw[if_pos e,if_pos (h1.symm.trans e)];exact⟨h1,h2,ry⟩
  ·rw[if_neg e,if_neg (fun z=>e (h1.trans z))];exact⟨h1,h2,h3⟩
theorem KT.put{H:Hp}{kvs:List (List Key×V)}{xs:List (List Key×Addr×Value)}(r:KT H kvs xs)(k:List Key){b:Addr}{y:V}{u:Value}(hb:H b=some (.tup (k.map kV)))(ry:ZC y u):
  KT H (ZaW kvs k y) (storedH xs k b u):=by
 have e:(kvs.any fun kv=>decide (kv.1=k))=(atKey xs k).isSome:=by
  rw[Zg1,(r.val k).isSome_eq,Option.isSome_map]
 unfold ZaW storedH;rw[e]
 by_cases q:(atKey xs k).isSome=true
 ·rw[if_pos q,if_pos q];exact r.repl k ry
 ·rw[if_neg q,if_neg q];exact Paired.snoc r ⟨rfl,hb,ry⟩
theorem KT.keeps{H H':Hp}{kvs:List (List Key×V)}{xs:List (List Key×Addr×Value)}(r:KT H kvs xs)(ht:∀b ys,H b=some (.tup ys)->H' b=some (.tup ys)):KT H' kvs xs:=
 Paired.mapP r fun _ _ z=>⟨z.1,ht _ _ z.2.1,z.2.2⟩
section
variable {P:Program} {w:World} {H:Hp} {h:Heap} {a:Addr}
theorem Zl8{u:HO}(ok:HOk P w H h)(e:Rd H a u):Yo P w H h a u:=e.ok ok
theorem ZaT{kvs:List (Key×V)}(ok:HOk P w H h)(e:Rd H a (.dK kvs)):kvs.length<=sizeLine/\(a==sysModules)=false/\∃vs,KV kvs vs/\h.DictOf (Yc P w) a vs:=
 show Yo P w H h a (.dK kvs) from Zl8 ok e
theorem Zl9{kvs:List (Key×V)}(ok:HOk P w H h)(e:H a=some (.dK kvs)):kvs.length<=sizeLine/\(a==sysModules)=false/\∃vs,KV kvs vs/\h.DictOf (Yc P w) a vs:=ZaT ok (.inl e)
theorem ZcI{ks:List Key}(ok:HOk P w H h)(e:H a=some (.tup (ks.map kV))):(tupleKind (Yc P w)).is h ks a:=by
 obtain⟨_,its,r,o,h1,h2,n,h3⟩:=(show Yo P w H h a (.tup (ks.map kV)) from ok a _ e)
 exact⟨o,its.toArray,n,h1,h2,h3,by simpa using Zew r⟩
theorem ZdI{kvs:List (List Key×V)}(ok:HOk P w H h)(e:Rd H a (.dT kvs)):kvs.length<=sizeLine/\(a==sysModules)=false/\
  ∃xs,KT H kvs xs/\h.DictOfH (tupleKind (Yc P w)) a xs:=by
 obtain⟨z,y,xs,r,o,es,ep,h1,h2,h3,h4,h5⟩:=(show Yo P w H h a (.dT kvs) from Zl8 ok e)
 refine⟨z,y,xs,r,o,es,ep,h1,h2,h3,h4,fun x hx=> ?_,h5⟩;have all:∀{l:List (List Key×V)} {m:List (List Key×Addr×Value)},KT H l m->∀x∈m,(tupleKind (Yc P w)).is h x.1 x.2.1:=by
  intro l m q
  induction q with
  |nil=>intro x hx;exact nomatch hx
  | @cons p q ps qs hq t ih=>
   intro x hx;rcases List.mem_cons.mp hx with e|hx
   ·subst e;exact ZcI ok (by rw[<-hq.1];exact hq.2.1)
   ·exact ih x hx
 exact all r x hx
theorem Zmk{kvs:List (List Key×V)}(ok:HOk P w H h)(e:H a=some (.dT kvs)):kvs.length<=sizeLine/\(a==sysModules)=false/\
  ∃xs,KT H kvs xs/\h.DictOfH (tupleKind (Yc P w)) a xs:=ZdI ok (.inl e)
end
def Zef(H:Hp)(a:Addr)(y:V)(r:Option V):Prop:=
 (∃kvs k,Rd H a (.dK kvs)/\y=kV k/\r=ZaA kvs k)\/∃kvs k b,Rd H a (.dT kvs)/\y=.ref b/\H b=some (.tup (k.map kV))/\r=ZaA kvs k
def Zg2(H:Hp)(a:Addr)(y v:V)(H':Hp):Prop:=
 (∃kvs k,H a=some (.dK kvs)/\y=kV k/\kvs.length<sizeLine/\H'=upd H a (.dK (ZaW kvs k v)))\/
 ∃kvs k b,H a=some (.dT kvs)/\y=.ref b/\H b=some (.tup (k.map kV))/\kvs.length<sizeLine/\H'=upd H a (.dT (ZaW kvs k v))
theorem Zg2.k{H:Hp}{a:Addr}{kvs:List (Key×V)}{k:Key}{v:V}(e:H a=some (.dK kvs))(hl:kvs.length<sizeLine):Zg2 H a (kV k) v (upd H a (.dK (ZaW kvs k v))):=.inl ⟨kvs,k,e,rfl,hl,rfl⟩
section
variable {X:Cx} {pins:List (Addr×Obj)} {σ:St} {H:Hp} {s:Shared} {a:Addr} {y v:V} {u r:Value} {o:Option V} {A:Around} {E:Value->Shared->Prop}
theorem Inv.big(I:Inv X pins σ H s):sysModules<s.heap.objs.size:=by
 have h:mainGlobals<s.heap.objs.size:=(I.mod.glob.keeps I.bk).lt;exact Nat.lt_trans (by decide) h
theorem Zid{Q:Value->Shared->Prop}(hu:A.units+1<cLine)(I:Inv X pins σ H s)(g:Zef H a y (some v))(ry:ZC y u)(h:∀w' s',Inv X pins σ H s'->ZC v w'->Q w' s'):
  wpAny (model X.prog X.w) A (getItem (.ref a) u) Q E s:=by
 rcases g with ⟨kvs,k,e,ey,l⟩|⟨kvs,k,b,e,ey,eb,l⟩
 ·subst ey;obtain⟨z,hd,vs,rel,dd⟩:=ZaT I.hok e;obtain⟨w',hw,rw'⟩:=Zau.some_of (v:=v) (o:=valueAt vs k) (by rw[l];exact rel.val k)
  exact wpAny_getItem_of (ZdH ry) dd.mapOf hw (h w' _ (I.tok _) rw')
 ·subst ey;cases(show u=Value.ref b from ry);obtain⟨z,hd,xs,rel,dd⟩:=ZdI I.hok e;obtain⟨w',hw,rw'⟩:=Zau.some_of (v:=v) (o:=(atKey xs k).map (·.2)) (by rw[l];exact rel.val k)
  obtain⟨p,hp,hp2⟩:=Option.map_eq_some_iff.mp hw;refine wpAny_getItem_heap (tupleKind_room_in1 hu) (ZcI I.hok eb) dd hp ?_;rw[hp2];exact h w' _ (I.tok _) rw'
theorem Zn6{Q:Value->Shared->Prop}(hu:A.units+1<cLine)(I:Inv X pins σ H s)(g:Zef H a y o)(ry:ZC y u)(h:∀s',Inv X pins σ H s'->Q (.bool o.isSome) s'):
  wpAny (model X.prog X.w) A (compareOp .In u (.ref a)) Q E s:=by
 rcases g with ⟨kvs,k,e,ey,l⟩|⟨kvs,k,b,e,ey,eb,l⟩
 ·subst ey;obtain⟨z,hd,vs,rel,dd⟩:=ZaT I.hok e;refine wpAny_in_of (ZdH ry) hd dd.mapOf ?_;rw[<-(rel.val k).isSome_eq,<-l];exact h _ (I.tok _)
 ·subst ey;cases(show u=Value.ref b from ry);obtain⟨z,hd,xs,rel,dd⟩:=ZdI I.hok e;refine wpAny_in_heap (tupleKind_room_in1 hu) (ZcI I.hok eb) hd dd ?_;have q:=(rel.val k).isSome_eq;rw[Option.isSome_map] at q
  rw[<-q,<-l];exact h _ (I.tok _)
theorem Zkr{Q:Value->Shared->Prop}(hu:A.units+1<cLine)(I:Inv X pins σ H s)(g:Zef H a y o)(ry:ZC y u)(h:∀s',Inv X pins σ H s'->Q (.bool (!o.isSome)) s'):
  wpAny (model X.prog X.w) A (compareOp .NotIn u (.ref a)) Q E s:=by
 rcases g with ⟨kvs,k,e,ey,l⟩|⟨kvs,k,b,e,ey,eb,l⟩
 ·subst ey;obtain⟨z,hd,vs,rel,dd⟩:=ZaT I.hok e;refine wpAny_notIn_of (ZdH ry) hd dd.mapOf ?_;rw[<-(rel.val k).isSome_eq,<-l];exact h _ (I.tok _)
 ·subst ey;cases(show u=Value.ref b from ry);obtain⟨z,hd,xs,rel,dd⟩:=ZdI I.hok e;refine wpAny_notIn_heap (tupleKind_room_in1 hu) (ZcI I.hok eb) hd dd ?_;have q:=(rel.val k).isSome_eq;rw[Option.isSome_map] at q
  rw[<-q,<-l];exact h _ (I.tok _)
theorem Zf6{h':Heap}{t':Nat}{ob:HO}(I:Inv X pins σ H s)(mu:Mut (H a))(hs:Heap.SameBut a s.heap h')(he:∃q,h'.get? a=some q)(new:Yo X.prog X.w (upd H a ob) h' a ob):
  Inv X pins σ (upd H a ob) {s with heap:=h',toks:=t'}:=
 I.write (x:=a) (e:=a) mu (.inl rfl) (fun b q hb z=>(hs.2 b hb).trans z) he new
theorem ZgS{P:Program}{w:World}{H':Hp}{h':Heap}{kvs:List (Key×V)}{vs:List (Key×Value)}(z:kvs.length<=sizeLine)(hd:(a==sysModules)=false)(rel:KV kvs vs)(dd:h'.DictOf (Yc P w) a vs):
  Yo P w H' h' a (.dK kvs):=⟨z,hd,vs,rel,dd⟩
theorem Zie{H':Hp}{Q:Unit->Shared->Prop}(hu:A.units+1<cLine)(I:Inv X pins σ H s)(g:Zg2 H a y v H')(ry:ZC y u)(rv:ZC v r)(h:∀s',Inv X pins σ H' s'->Q () s'):
  wpAny (model X.prog X.w) A (setItem (.ref a) u r) Q E s:=by
 rcases g with ⟨kvs,k,e,ey,l,eH⟩|⟨kvs,k,b,e,ey,eb,l,eH⟩
 ·subst ey eH;obtain⟨z,hd,vs,rel,dd⟩:=Zl9 I.hok e;have hz:vs.length<=sizeLine:=by rw[<-rel.length];exact z
  have hl:(ZaW kvs k v).length<=sizeLine:=by have:=ZaZ kvs k v;omega
  refine wpAny_setItem_pairs (hsz:=hz) (ZdH ry) dd fun h' dd' hs=>h _ ?_;have he:∃q,h'.get? a=some q:=let ⟨q,_,_,hq,_⟩:=dd';⟨q,hq⟩;exact Zf6 I (by rw[e];exact True.intro) hs he (ZgS hl hd (rel.put k rv) dd')
 ·subst ey eH;cases(show u=Value.ref b from ry);obtain⟨z,hd,xs,rel,dd⟩:=Zmk I.hok e;have hz:xs.length<=sizeLine:=by rw[<-Paired.length rel];exact z
  have hl:(ZaW kvs k v).length<=sizeLine:=by have:=ZaZ kvs k v;omega
  refine wpAny_setItem_heap (hsz:=hz) (tupleKind_room_in1 hu) (ZcI I.hok eb) dd fun h' dd' hs=>h _ ?_;obtain⟨q,es,ep,hq,h2,h3,h4,_,h5⟩:=dd';refine Zf6 I (by rw[e];exact True.intro) hs ⟨q,hq⟩ ⟨hl,hd,_,(rel.put k eb rv).keeps fun c ys ec=> ?_,q,es,ep,hq,h2,h3,h4,h5⟩
  rw[Zf (ZfU ec e (fun z=>nomatch z))];exact ec
end
section
variable {X:Cx} {pins:List (Addr×Obj)} {σ:St} {H:Hp} {s:Shared} {a:Addr} {kvs:List (Key×V)} {k:Key} {u:Value} {A:Around} {E:Value->Shared->Prop}
theorem Zml{Q:Value->Shared->Prop}(I:Inv X pins σ H s)(e:Rd H a (.dK kvs))(h:∀t s',Inv X pins σ H s'->Q (.int kvs.length t) s'):wpAny (model X.prog X.w) A (call (.builtin "len") [.ref a]) Q E s:=by
 obtain⟨z,hd,vs,rel,dd⟩:=ZaT I.hok e;refine call_len_dict hd dd (by rw[<-rel.length];rw[sizeLine_eq] at z;omega) ?_
 rw[<-rel.length];exact h _ _ (I.tok _)
end
def Zmm(i:Expr):Prop:=∀ov iv,subscripted i false ov iv=operate [ov,iv] (getItem ov iv)
theorem Zks{prog:Program}{w:World}{A:Around}{E:Value->Shared->Prop}{s:Shared}{env:Env}{value slice:Expr}{pos:Pos}{T id:String}{Q:Value->Shared->Prop}
  (hl:typeLookup (.type T) "__getitem__"=pure (some (.builtin id)))(hs:Zmm slice)
  (h:wpAny (model prog w) A (eval value env) (fun o s₁=>wpAny (model prog w) A (eval slice env) (fun i s₂=>s₂.TypeIs o T/\wpAny (model prog w) A (getItem o i) Q E s₂) E s₁) E s):
  wpAny (model prog w) A (eval (.Subscript value slice pos) env) Q E s:=by
 refine Subscript_ (wpAny_mono h (fun o s₁ h₁=>wpAny_mono h₁ (fun i s₂ h₂=> ?_) fun _ _ x=>x) fun _ _ x=>x);obtain⟨hT,h₂⟩:=h₂;unfold subscriptTail;refine wpAny_bind ?_;rw[getitemInPython_of_ne hT.not_modules];refine wpAny_bind (wpAny_specialOf hT hl ?_);have fin:wpAny (model prog w) A (subscripted slice false o i) (fun r s₃=>wpAny (model prog w) A (letTemporaryGo value o r>>=fun _=>pure r) Q E s₃) E s₂:=by
  rw[hs o i];exact wpAny_operating (wpAny_mono h₂ (fun r s₃ h₃=>wpAny_bind (wpAny_letTemporaryGo (wpAny_pure h₃))) fun _ _ x=>x)
 first
  |exact wpAny_pure (wpAny_bind fin)
  |exact wpAny_bind (wpAny_pure (wpAny_bind fin))
  |exact wpAny_bind fin
theorem Zg3{X:Cx}{pins:List (Addr×Obj)}{σ:St}{H:Hp}{s:Shared}{a:Addr}{y:V}{o:Option V}(I:Inv X pins σ H s)(g:Zef H a y o):s.TypeIs (.ref a) "dict":=by
 rcases g with ⟨kvs,k,e,_,_⟩|⟨kvs,k,b,e,_,_,_⟩
 ·obtain⟨_,_,vs,_,dd⟩:=ZaT I.hok e;exact dd.typeIs
 ·obtain⟨_,_,xs,_,dd⟩:=ZdI I.hok e;exact dd.typeIs
def Zmn(td ty:TE):TE:=fun σ H Q=>td σ H fun x H1=>ty σ H1 fun y H2=>∃a v,x=.ref a/\Zef H2 a y (some v)/\Q v H2
def Zn7(ty td:TE):TE:=fun σ H Q=>ty σ H fun y H1=>td σ H1 fun x H2=>∃a o,x=.ref a/\Zef H2 a y o/\Q (.bl o.isSome) H2
def Zkt(ty td:TE):TE:=fun σ H Q=>ty σ H fun y H1=>td σ H1 fun x H2=>∃a o,x=.ref a/\Zef H2 a y o/\Q (.bl (!o.isSome)) H2
def Zmo(td ty tv:TE):TS:=fun D σ H=>tv σ H fun v H1=>td σ H1 fun x H2=>ty σ H2 fun y H3=>∃a H4,x=.ref a/\Zg2 H3 a y v H4/\D.nx σ H4
section
variable {X:Cx} {o i e value:Expr} {pos pos' tpos:Pos} {td ty tv:TE}
theorem Zcc(hu:X.A.units+1<cLine)(ho:PE X o td)(hi:PE X i ty)(hs:Zmm i):PE X (.Subscript o i pos) (Zmn td ty):=by
 intro pins s σ H Q I h;refine Zks PySem.F.slot_dict_getitem.lookup hs (thn (ho pins s σ H _ I h) fun u s1 ⟨x,H1,I1,rx,q1⟩=>thn (hi pins s1 σ H1 _ I1 q1) fun iv s2 ⟨y,H2,I2,ry,a,v,ex,g,q2⟩=> ?_);subst ex;obtain rfl:u=Value.ref a:=rx;exact⟨Zg3 I2 g,Zid hu I2 g ry fun w' s3 I3 rw'=>⟨v,H2,I3,rw',q2⟩⟩
theorem Zj5(hu:X.A.units+1<cLine)(hi:PE X i ty)(ho:PE X o td):PC X .In i o (Zn7 ty td):=by
 intro pins s σ H Q I h;refine thn (hi pins s σ H _ I h) fun iv s1 ⟨y,H1,I1,ry,q1⟩=>thn (ho pins s1 σ H1 _ I1 q1) fun u s2 ⟨x,H2,I2,rx,a,ov,ex,g,q2⟩=> ?_;subst ex;obtain rfl:u=Value.ref a:=rx;exact Zn6 hu I2 g ry fun s3 I3=>⟨.bl ov.isSome,H2,I3,rfl,q2⟩
theorem Zif(hu:X.A.units+1<cLine)(hi:PE X i ty)(ho:PE X o td):PC X .NotIn i o (Zkt ty td):=by
 intro pins s σ H Q I h;refine thn (hi pins s σ H _ I h) fun iv s1 ⟨y,H1,I1,ry,q1⟩=>thn (ho pins s1 σ H1 _ I1 q1) fun u s2 ⟨x,H2,I2,rx,a,ov,ex,g,q2⟩=> ?_;subst ex;obtain rfl:u=Value.ref a:=rx;exact Zkr hu I2 g ry fun s3 I3=>⟨.bl (!ov.isSome),H2,I3,rfl,q2⟩
theorem Zdp(hu:X.A.units+1<cLine)(ho:PE X o td)(hi:PE X i ty)(hv:PE X value tv)(hs:swapsWith value (some (.Subscript o i pos')) pos.line X.env=pure false):
  PS X (.Assign [.Subscript o i pos'] value pos) (Zmo td ty tv):=by
 intro pins s σ H D I h;refine wpAny_Assign_Subscript (thn (hv pins s σ H _ I h) fun r s1 ⟨v,H1,I1,rv,q1⟩=>thn (ho pins s1 σ H1 _ I1 q1) fun u s2 ⟨x,H2,I2,rx,q2⟩=>thn (hi pins s2 σ H2 _ I2 q2) fun iv s3 ⟨y,H3,I3,ry,a,H4,ex,g,q3⟩=> ?_) hs;subst ex;obtain rfl:u=Value.ref a:=rx;exact Zie hu I3 g ry rv fun s4 I4=>⟨σ,H4,I4,q3⟩
end
theorem Zg4{P:Program}{w:World}{H:Hp}(h:Heap)(hb:sysModules<h.objs.size):Yo P w H (h.push {cls:=.type "dict",data:=.dict #[]}) h.objs.size (.dK []):=
 ⟨Nat.zero_le _,beq_eq_false_iff_ne.mpr (Ne.symm (Nat.ne_of_lt hb)),[],.nil,Heap.DictOf.new h⟩
def Zlw:TE:=fun _ H Q=>∀p,H p=none->Q (.ref p) (upd H p (.dK []))
section
variable {X:Cx} {pos:Pos}
theorem ZdJ:PE X (.Dict [] [] pos) Zlw:=fun pins s σ H Q I h=>
 wpAny_Dict_empty ⟨.ref s.heap.objs.size,_,I.laid (a:=s.heap.objs.size) (o:=.dK []) (t':=s.toks) (fun _ _ q=>Heap.get?_push_of_some _ q) (Nat.le_refl _) (Zg4 s.heap I.big),rfl,h _ (I.hok.fresh (Nat.le_refl _))⟩
end
def ZgT:List (TE×TE)->St->Hp->(List (V×V)->Hp->Prop)->Prop
 |[],_,H,Q=>Q [] H
 |(tk,tv)::r,σ,H,Q=>tk σ H fun x H1=>tv σ H1 fun y H2=>ZgT r σ H2 fun ps H3=>Q ((x,y)::ps) H3
abbrev VV:List (V×V)->List (Value×Value)->Prop:=Paired fun p q=>ZC p.1 q.1/\ZC p.2 q.2
def PPs(X:Cx)(pos:Pos)(keys:List (Option Expr))(values:List Expr)(trs:List (TE×TE)):Prop:=
 ∀(pins:List (Addr×Obj)) (s:Shared) (σ:St) (H:Hp) (Q:List (V×V)->Hp->Prop),Inv X pins σ H s->ZgT trs σ H Q->
  wpAny (model X.prog X.w) X.A (evalPairs (pairTrees keys values X.env pos)) (fun vs s'=>∃ps H',Inv X pins σ H' s'/\VV ps vs/\Q ps H') X.xe s
theorem Zku{X:Cx}{pos:Pos}:PPs X pos [] [] []:=fun pins s σ H Q I h=>pairTrees_nil_walk ⟨[],H,I,.nil,h⟩
theorem Zj6{X:Cx}{pos:Pos}{k v:Expr}{ks:List (Option Expr)}{vs:List Expr}{tk tv:TE}{trs:List (TE×TE)}(hk:PE X k tk)(hv:PE X v tv)(hr:PPs X pos ks vs trs):
  PPs X pos (some k::ks) (v::vs) ((tk,tv)::trs):=fun pins s σ H Q I h=>
 pairTrees_cons_walk (thn (hk pins s σ H _ I h) fun u s1 ⟨x,H1,I1,rx,q1⟩=>thn (hv pins s1 σ H1 _ I1 q1) fun w2 s2 ⟨y,H2,I2,ry,q2⟩=>
  thn (hr pins s2 σ H2 _ I2 q2) fun ws s3 ⟨ps,H3,I3,rel,q3⟩=>⟨(x,y)::ps,H3,I3,.cons ⟨rx,ry⟩ rel,q3⟩)
def Zb0(kvs more:List (Key×V)):List (Key×V):=more.foldl (fun acc kv=>ZaW acc kv.1 kv.2) kvs
theorem KV.merge:∀{more:List (Key×V)} {rs:List (Key×Value)} {kvs:List (Key×V)} {vs:List (Key×Value)},KV more rs->KV kvs vs->KV (Zb0 kvs more) (merged vs rs):=by
 intro more rs kvs vs r;unfold KV at r
 induction r generalizing kvs vs with
 |nil=>intro q;exact q
 | @cons p q ps qs h t ih=>
  intro r0;have e:KV (ZaW kvs p.1 p.2) (stored vs q.1 q.2):=by
   have:=r0.put p.1 h.2;rw[<-h.1];exact this
  exact ih e
theorem ZbH:∀(more kvs:List (Key×V)),(Zb0 kvs more).length<=kvs.length+more.length
 |[],kvs=>by show kvs.length<=kvs.length+0;omega
 |p::r,kvs=>by
  have h1:=ZbH r (ZaW kvs p.1 p.2);have h2:=ZaZ kvs p.1 p.2;show(Zb0 (ZaW kvs p.1 p.2) r).length<=_;rw[List.length_cons];omega
theorem ZdK{P:Program}{w:World}:∀{kvs:List (Key×V)} {ws:List (Value×Value)},VV (kvs.map fun kv=>(kV kv.1,kv.2)) ws->∃rs,Carries (Yc P w) ws rs/\KV kvs rs
 |[],_,r=>by rw[List.map_nil] at r;cases r;exact⟨[],True.intro,.nil⟩
 |p::kvs,_,r=>by
  rw[List.map_cons] at r
  cases r with
  | @cons a b as bs h t=>
   obtain⟨rs,c,q⟩:=ZdK (P:=P) (w:=w) t;obtain⟨b1,b2⟩:=b;exact⟨(p.1,b2)::rs,⟨ZdH h.1,rfl,c⟩,.cons ⟨rfl,h.2⟩ q⟩
def Zmp(trs:List (TE×TE)):TE:=fun σ H Q=>∀p,H p=none->ZgT trs σ (upd H p (.dK [])) fun ps H2=>H2 p=some (.dK [])/\∃kvs:List (Key×V),ps=kvs.map (fun kv=>(kV kv.1,kv.2))/\kvs.length<=15/\Q (.ref p) (upd H2 p (.dK (Zb0 [] kvs)))
theorem Zkv{X:Cx}{pos:Pos}{keys:List (Option Expr)}{values:List Expr}{trs:List (TE×TE)}(h:PPs X pos keys values trs)(hall:keys.all (·.isSome)=true)(hl:keys.length=values.length)(h0:keys≠[])
  (h15:keys.length<=15):PE X (.Dict keys values pos) (Zmp trs):=by
 intro pins s σ H Q I q;have hn:=I.hok.fresh (Nat.le_refl s.heap.objs.size);have I1:=I.laid (a:=s.heap.objs.size) (o:=.dK []) (h':=s.heap.push {cls:=.type "dict",data:=.dict #[]}) (t':=s.toks) (fun _ _ q=>Heap.get?_push_of_some _ q) (Nat.le_refl _) (Zg4 s.heap I.big);refine wpAny_Dict_walk (knd:=Yc X.prog X.w) hall hl h0 h15 (thn (h pins _ σ _ _ I1 (q _ hn)) fun ws s2 ⟨ps,H2,I2,rel,e,kvs,ep,lk,q2⟩=> ?_)
 subst ep;obtain⟨rs,c,rk⟩:=ZdK (P:=X.prog) (w:=X.w) rel;obtain⟨z,hd,vs0,r0,dd⟩:=Zl9 I2.hok e;cases r0;refine⟨rs,c,dd,fun h' dd' hs=>⟨.ref s.heap.objs.size,_, ?_,rfl,q2⟩⟩;have hz:(Zb0 [] kvs).length<=sizeLine:=by
  have h1:=ZbH kvs [];rw[List.length_nil] at h1
  rw[sizeLine_eq];omega
 have he:∃q,h'.get? s.heap.objs.size=some q:=let ⟨q,_,_,hq,_⟩:=dd';⟨q,hq⟩;exact Zf6 I2 (by rw[e];exact True.intro) hs he (ZgS hz hd (rk.merge .nil) dd')
structure M2 (X:Cx) (o:Expr) (m:Str) (apos:Pos) (e f:Expr) (cpos:Pos):Prop where
 base:attributeBase o m X.env (eval o X.env)=eval o X.env
 few:((backTo cpos (starEach [e,f] X.env)).all (fun x=> !x.1)&&(backToKw cpos (keywordEach [] X.env)).all (fun x=>x.1.isSome)
  &&decide (([e,f]:List Expr).length+([]:List Keyword).length+(if([]:List Keyword).isEmpty then 0 else 1)<30))=true
 line:(apos.endLine==cpos.line)=true
 trees:backTo cpos (starEach [e,f] X.env)=[(false,eval e X.env),(false,eval f X.env)]
def IsD(H:Hp)(a:Addr):Prop:=(∃kvs,Rd H a (.dK kvs))\/∃kvs,Rd H a (.dT kvs)
theorem Zj7{X:Cx}{pins:List (Addr×Obj)}{σ:St}{H:Hp}{s:Shared}{a:Addr}(I:Inv X pins σ H s)(d:IsD H a):
  s.TypeIs (.ref a) "dict"/\(∀b,Value.ref a=.ref b->∃ob,s.heap.get? b=some ob/\ob.dict=none)/\(a==sysModules)=false:=by
 rcases d with ⟨kvs,e⟩|⟨kvs,e⟩
 ·obtain⟨_,hd,vs,_,dd⟩:=ZaT I.hok e;refine⟨dd.typeIs,fun b q=> ?_,hd⟩;cases q;obtain⟨ob,_,_,h1,h2,_⟩:=dd;exact⟨ob,h1,h2.2.1⟩
 ·obtain⟨_,hd,xs,_,dd⟩:=ZdI I.hok e;refine⟨dd.typeIs,fun b q=> ?_,hd⟩;cases q;obtain⟨ob,_,_,h1,h2,_⟩:=dd;exact⟨ob,h1,h2.2.1⟩
section
variable {X:Cx} {pins:List (Addr×Obj)} {σ:St} {H:Hp} {s:Shared} {a:Addr} {y d:V} {u r:Value} {o:Option V} {A:Around} {E:Value->Shared->Prop}
theorem Zlx{Q:Value->Shared->Prop}(hu:A.units+1<cLine)(I:Inv X pins σ H s)(g:Zef H a y o)(ry:ZC y u)(rd:ZC d r)(h:∀w' s',Inv X pins σ H s'->ZC (o.getD d) w'->Q w' s'):
  wpAny (model X.prog X.w) A (call (.builtin "dict.get") [.ref a,u,r]) Q E s:=by
 rcases g with ⟨kvs,k,e,ey,l⟩|⟨kvs,k,b,e,ey,eb,l⟩
 ·subst ey;obtain⟨z,hd,vs,rel,dd⟩:=ZaT I.hok e;refine call_meetsIn PySem.F.slot_dict_get dd.typeIs PySem.F.entry_dict_get (PySem.F.args_dict_get_3 _ _ _) (meets_dict_get_default (Yc X.prog X.w) a (ZdH ry) hd r) ⟨_,dd.mapOf,h _ _ (I.tok _) ?_⟩;rw[l];exact(rel.val k).getD rd
 ·subst ey;cases(show u=Value.ref b from ry);obtain⟨z,hd,xs,rel,dd⟩:=ZdI I.hok e;refine call_meetsIn PySem.F.slot_dict_get dd.typeIs PySem.F.entry_dict_get (PySem.F.args_dict_get_3 _ _ _) (meetsH_dict_get_default (tupleKind (Yc X.prog X.w)) a b hd r) ⟨tupleKind_room_in1 hu,k,xs,ZcI I.hok eb,dd,h _ _ (I.tok _) ?_⟩;rw[l];exact(rel.val k).getD rd
end
def Zly(td ty tx:TE):TE:=fun σ H Q=>td σ H fun x H1=>∃a,x=.ref a/\IsD H1 a/\ty σ H1 fun y H2=>tx σ H2 fun z H3=>∃o,Zef H3 a y o/\Q (o.getD z) H3
section
variable {X:Cx} {o e f:Expr} {apos cpos:Pos} {td ty tx:TE}
theorem Zj8(hu:X.A.units+1<cLine)(ho:PE X o td)(he:PE X e ty)(hf:PE X f tx)(m:M2 X o "get" apos e f cpos):PE X (.Call (.Attribute o "get" apos) [e,f] [] cpos) (Zly td ty tx):=by
 intro pins s σ H Q I h;refine wpAny_Call_method m.base m.few m.line PySem.F.plainAttrs_dict PySem.F.slot_dict_get PySem.F.type_dict_get (thn (ho pins s σ H _ I h) fun u s1 ⟨x,H1,I1,rx,a,ex,d,q1⟩=> ?_);subst ex;obtain rfl:u=Value.ref a:=rx;obtain⟨t1,t2,_⟩:=Zj7 I1 d;refine⟨t1,t2, ?_⟩;rw[m.trees];refine Calls.callWith_builtin rfl (Calls.evalArgs_plain (Calls.spliced_cons (thn (he pins s1 σ H1 _ I1 q1) fun iv s2 ⟨y,H2,I2,ry,q2⟩=>
  Calls.spliced_cons (thn (hf pins s2 σ H2 _ I2 q2) fun fv s3 ⟨z,H3,I3,rz,ov,g,q3⟩=>Calls.spliced_nil ?_))))
 exact Zlx hu I3 g ry rz fun w' s4 I4 rw'=>⟨_,H3,I4,rw',q3⟩
end
section
variable {X:Cx} {pins:List (Addr×Obj)} {σ:St} {H:Hp} {s:Shared} {a:Addr} {kvs:List (Key×V)} {A:Around} {E:Value->Shared->Prop}
theorem Zj9{Q:Value->Shared->Prop}(I:Inv X pins σ H s)(e:Rd H a (.dK kvs))(h:∀p s',H p=none->Inv X pins σ (upd H p (.dK kvs)) s'->Q (.ref p) s'):wpAny (model X.prog X.w) A (call (.type "dict") [.ref a]) Q E s:=by
 obtain⟨z,hd,vs,rel,dd⟩:=ZaT I.hok e;refine kt_call_dict hd dd (by rw[<-rel.length];exact z) fun h' dd' hs=> ?_
 refine h _ _ (I.hok.fresh (Nat.le_refl _)) (I.laid (a:=s.heap.objs.size) (o:=.dK kvs) (t':=s.toks) (fun b q hq=> ?_) (Nat.le_refl _) (ZgS z (beq_eq_false_iff_ne.mpr (Ne.symm (Nat.ne_of_lt I.big))) rel dd'));exact(hs.2 b (Nat.ne_of_lt (Heap.lt_size hq))).trans (Heap.get?_push_of_some _ hq)
end
section
variable {X:Cx} {pins:List (Addr×Obj)} {σ:St} {H:Hp} {s:Shared} {a:Addr} {y:V} {u:Value} {A:Around} {E:Value->Shared->Prop}
end
end L2
namespace Att
open PySem PySem.W PySem.Calls PyProof.Rows
theorem Zdg{P:Params}{h:Heap}:∀(ns:List Int) (vs:List Value),WellAll P h vs (ns.map WData.int)->IntsAre vs ns:=by
 intro ns
 induction ns with
 |nil=>
  intro vs w;rw[List.map_nil] at w
  cases w;exact .nil
 |cons n ns ih=>
  intro vs w;rw[List.map_cons] at w
  cases w with
  |cons a b=>
   cases a;exact .cons _ _ (ih _ b)
theorem script_of{l:OpenLaw}{n:Nat}(hn:l.most=some n){P:Params}{h:Heap}{args:List WData}{vals:List Value}
  (hpre:l.row.toRowW.claim.pre args=true)(hwl:WellAll P h vals args):
  ∃a vs ns,vals=[Value.ref a]/\args=[WData.list (ns.map WData.int)]/\h.get? a=some {cls:=.type "list",data:=.seq vs.toArray}/\IntsAre vs ns/\ns.length<=n:=by
 have hsh:WShape.hasAll [] args [.list .int]=true:=(pre_splitW hpre).1;have hc:l.pre.holds [] {args:=args}=true:=(pre_splitW hpre).2;obtain⟨d,r,rfl,h1,h2⟩:=hasAllW_cons hsh;obtain rfl:=hasAllW_nil h2;obtain⟨xs,rfl,h3⟩:=hasW_list h1;obtain⟨ns,rfl⟩:=items_int h3;have hlen:ns.length<=n:=by
  unfold OpenLaw.pre at hc
  have h4:(WTm.not (.lt (.lit (.int (n:Int))) (.len (.arg 0)))).holds [] {args:=[.list (ns.map .int)]}=true:=by
   have h4:=(holds_andW hc).1;rw[hn] at h4
   exact h4
  have h5:=condW_of h4 (w_not (w_lt w_lit (w_len_list (w_arg rfl))));rw[List.length_map] at h5
  refine Nat.le_of_not_lt fun q=> ?_;have q':(n:Int)<((ns.length:Nat):Int):=by omega
  first
   |(rw[decide_eq_true q'] at h5;exact absurd h5 (by decide))
   |(simp at h5;omega)
 cases hwl with
 |cons w1 w2=>
  cases w2;cases w1 with
  |list ho hall=>exact⟨_,_,ns,rfl,rfl,ho,Zdg ns _ hall,hlen⟩
theorem post_true(l:OpenLaw)(args:List WData):l.row.toRowW.claim.post args (.bool true) args=true:=
 postW_of (r:=l.row.toRowW) (X:=(true==true))
  (show WShape.has [] (.bool true) .bool=true by first|rfl|decide|simp[WShape.has,WShape.arms,WShape.armsAll])
  (show(WTm.eq .res (.lit (.bool true))).value [] {args:=args,res:=some (.bool true),after:=args}=some (.bool (true==true)) from w_eq_bool (w_res rfl) w_lit) rfl
section
variable {prog:Program} {w:World} {A:Around} {E:Value->Shared->Prop} {s:Shared} {K:Frag}
end
end Att
namespace L2
open PySem PySem.Spec PyProof.Rows
theorem Zex:∀{vs:List Value} {ns:List Int},IntsAre vs ns->ZJ (ns.map V.int) vs
 |_,_,.nil=> .nil
 |_,_,.cons n t h=> .cons ⟨t,rfl⟩ (Zex h)
def Zmq(H:Hp):Prop:=∀b,H b=none\/∃o xs,H b=some (.frz o (.lst xs))
theorem Zja{P:Program}{w:World}{K:PySem.W.Frag}{mg mb:Str->Option Value}{CX:CXT}{k:Nat}{fa a:Addr}{fd:FuncData}{x:Str}{sp:Sp}{s₁:Shared}{vs:List Value}{ns:List Int}
  (KX:K.In s₁.heap)(hns:s₁.heap.Ns mainGlobals mg)(hb:s₁.heap.Ns builtinsNs mb)(hbb:∀x:Str,x≠"__name__"->mb x=bootBuiltins x)(hlim:s₁.heap.NoLimit)(hg:s₁.gens= #[])
  (ha:s₁.heap.get? a=some {cls:=.type "list",data:=.seq vs.toArray})(hi:IntsAre vs ns)(hl:ns.length<=sizeLine)(hr:YK k callerA)
  (F:∀base:Heap,K.In base->base.Ns mainGlobals mg->Yq P w K mg base CX k fa fd [x] sp)(hbind:∀(s:Shared) (u:Value),BindsTo s fd ⟨[u],[]⟩ [(x,u)])
  (hsp:∀H:Hp,Zmq H->SqL K H a (ns.map V.int)->sp [.ref a] H (fun v _=>v=.bl true) fun _ _ _=>False)
  (hCX:∀H e s',CX [] H s₁ (fun _ _ _=>False) e s'->False):
  codeAny (model P w) callerA (.call (.ref fa) ⟨[.ref a],[]⟩) (fun r s'=>r=.ok (.ret (.bool true))/\OldK s₁.heap s'.heap/\s'.os=s₁.os/\AllBare s'.gens) s₁:=by
 have rv:=Zex hi;have lenV:=hi.length;have core:∀H:Hp,Zmq H->SqL K H a (ns.map V.int)->HOk P w H s₁.heap->(∀b,H b≠none->b=a)->(H a≠none->K.lookup a=none)->
   codeAny (model P w) callerA (.call (.ref fa) ⟨[.ref a],[]⟩) (fun r s'=>r=.ok (.ret (.bool true))/\OldK s₁.heap s'.heap/\s'.os=s₁.os/\AllBare s'.gens) s₁:=by
  intro H hO hS hok hA hK;have base_of:∀{b:Addr} {o:Obj},s₁.heap.get? b=some o->H b=none->(ZeX s₁.heap H).get? b=some o:=fun e n=>ZiJ e n;have noA:∀{b:Addr} {o:Obj} {es:Array DictEntry} {ep:Nat},s₁.heap.get? b=some o->o.data=.dict es ep->H b=none:=fun{b o es ep} e d=>by
   cases q:H b with
   |none=>rfl
   |some u=>
    have e':b=a:=hA b (by rw[q];simp)
    subst e';rw[ha] at e;cases e
    have d':Data.seq vs.toArray _=Data.dict es ep:=d;cases d'
  have nsK:∀{b:Addr} {m:Str->Option Value},s₁.heap.Ns b m->(ZeX s₁.heap H).Ns b m:=fun{b m} ⟨o,es,ep,e,d,r⟩=>⟨o,es,ep,base_of e (noA e d),d,r⟩
  have hKb:K.In (ZeX s₁.heap H):=fun b o e=>base_of (KX b o e) (by
   cases q:H b with
   |none=>rfl
   |some u=>
    have e':b=a:=hA b (by rw[q];simp)
    subst e';rw[hK (by rw[q];simp)] at e;cases e)
  have hM:Mod K mg (ZeX s₁.heap H):=⟨hKb,nsK hns,⟨mb,nsK hb,hbb⟩,let ⟨mc,h1,h2⟩:=hlim;⟨mc,nsK h1,h2⟩⟩
  have e0:Zed P w K mg (ZeX s₁.heap H) callerA [] s₁ H:=⟨rfl,hM,fun b o e=>Zkf e,Nat.le_of_eq (Zi1 _ _),trivial,fun b hb=>absurd (show b∈([]:List Addr) from hb) (by simp),hok,.of_eq hg⟩
  refine codeAny_mono ((F _ hKb (nsK hns)).run callerA [] s₁ H ⟨[.ref a],[]⟩ [.ref a] [.ref a] _ _ hr e0 (hbind s₁ (.ref a)) (.cons rfl .nil) (hsp H hO hS)) fun r s' h=> ?_;cases r with
  |error e=>exact(hCX H e s' h).elim
  |ok fl=>
   cases fl with
   |next=>exact False.elim h
   |brk=>exact False.elim h
   |cont=>exact False.elim h
   |ret u=>
    obtain⟨v,H',os,bare,un,hok',r',q⟩:=h;have q':v=.bl true:=q;subst q';obtain rfl:u=Value.bool true:=r';refine⟨rfl,OldK.of_keep fun b o e=> ?_,os,bare⟩;cases q:H b with
    |none=>exact un.keep b o e q (by intro z;exact absurd (show b∈([]:List Addr) from z) (by simp)) (by simp)
    |some u=>
     rcases hO b with z|⟨ob,xs,z⟩
     ·rw[q] at z;cases z
     ·have z2:=un.frzs b ob _ z;obtain⟨e1,_⟩:=hok b _ z;obtain⟨e2,_⟩:=hok' b _ z2;rw[e] at e1;cases e1
      exact e2
 cases hk:K.lookup a with
 |some o=>
  have e:=KX a o hk;rw[ha] at e
  cases e;refine core (fun _=>none) (fun _=> .inl rfl) (.inr ⟨_,vs.toArray,_,hk,rfl,rfl,rfl,by rw[List.size_toArray,lenV];exact hl,by simpa using rv⟩) (fun b u z=>by have z':(none:Option HO)=some u:=z;cases z') (fun b z=>absurd rfl z) fun z=>absurd rfl z
 |none=>
  refine core (fun b=>if b=a then some (.frz {cls:=.type "list",data:=.seq vs.toArray} (.lst (ns.map V.int))) else none) (fun b=> ?_) (.inl (.inr ⟨{cls:=.type "list",data:=.seq vs.toArray},if_pos rfl⟩)) (fun b u z=> ?_) (fun b z=> ?_) fun _=>hk
  ·by_cases hb:b=a
   ·exact .inr ⟨_,_,if_pos hb⟩
   ·exact .inl (if_neg hb)
  ·by_cases hb:b=a
   ·have z':=(if_pos hb).symm.trans z;cases z';subst hb;exact⟨ha,by rw[List.length_map];exact hl,vs,_,rv,ha⟩
   ·have z':=(if_neg hb).symm.trans z;cases z'
  ·by_cases hb:b=a
   ·exact hb
   ·exact absurd (if_neg hb) z
end L2
namespace L2
open PySem PySem.Spec PyProof.Rows
end L2
namespace L2
open PySem PySem.Spec PyProof.Rows
def Zbs(s:Stmt)(j:Nat):Stmt:=match s with
 | .ClassDef _ _ _ body _ _ _ _ _ _ _=>body.getD j (.Pass ⟨0,0,0,0⟩)
 |_=> .Pass ⟨0,0,0,0⟩
def Zbt(s:Stmt):Arguments:=match s with
 | .FunctionDef _ a _ _ _ _ _ _ _ _=>a
 |_=>{posonlyargs:=[],args:=[],vararg:=none,kwonlyargs:=[],kw_defaults:=[],kwarg:=none,defaults:=[]}
def ZaB(s:Stmt):List Stmt:=match s with
 | .FunctionDef _ _ b _ _ _ _ _ _ _=>b
 |_=>[]
def Zu(s:Stmt):Scope:=match s with
 | .FunctionDef _ _ _ _ _ _ sc _ _ _=>sc
 |_=>{kind:=.function,names:=[],isGenerator:=false,isCoroutine:=false}
abbrev CX0:CXT:=fun _ _ _ _ _ _=>False
abbrev E0:XK:=fun _ _ _=>False
theorem ZF{X:Cx}:Za3 CX0 X E0:=fun _ _ _ _ _ _ _ h=>h.elim
structure Fun (K:PySem.W.Frag) (x qual:Str) (st:Stmt) (f:Addr) (fd:FuncData):Prop where
 ex:∃(oc:Value) (od:Option Addr) (kV doc pm:Value) (an:Option Addr) (cdv ct:Value) (osl:Array (Option Value)),
  fd=PySem.W.fnOf x qual (Zbt st) (ZaB st) (Zu st) .none kV doc pm an cdv ct/\K.lookup f=some ⟨oc,od,.func fd,osl⟩/\PySem.W.codeIn K cdv qual=true
 kp:PySem.W.keepIn K (.ref f)=true
section
variable {P:Program} {w:World} {K:PySem.W.Frag} {mg:Str->Option Value} {base:Heap}
theorem Fun.ok{x qual:Str}{st:Stmt}{f:Addr}{fd:FuncData}{N ps:List Str}{k:Nat}{sp:Sp}(F:Fun K x qual st f fd)(S:ZG N ps (Zu st))(len:∀vs H Q E,sp vs H Q E->vs.length=ps.length)
  (hbody:∀(cdv:Value) (A:Around) (outer:List Env) (s:Shared) (H:Hp) (vs:List V) (Q:VK) (E:XK),YK k (A.deeper (envOfC qual (Zu st) s.heap.objs.size f cdv))->sp vs H Q E->
   ∃t,PSs (Zia CX0 P w K mg base N qual (Zu st) f cdv A outer s H E).nox (ZaB st) t/\t {nx:=fun _ H'=>Q .non H',rt:=Q} (ZbG N vs) H):Yq P w K mg base CX0 (k+1) f fd ps sp:=by
 obtain⟨oc,od,kV,doc,pm,an,cdv,ct,osl,rfl,lk,hcd⟩:=F.ex;refine Zmg lk hcd S len fun A outer s H vs Q E hr hsp=> ?_;obtain⟨t,h,q⟩:=hbody cdv A outer s H vs Q E hr hsp;exact⟨t,h.nox,q⟩
theorem Fun.binds{x qual:Str}{st:Stmt}{f:Addr}{fd:FuncData}{ps:List Str}(F:Fun K x qual st f fd)
  (h:∀(kV doc pm:Value) (an:Option Addr) (cdv ct:Value) (us:List Value),us.length=ps.length->bindArgs (PySem.W.fnOf x qual (Zbt st) (ZaB st) (Zu st) .none kV doc pm an cdv ct) ⟨us,[]⟩=pure (ps.zip us)):Ja K fd ps []:=by
 obtain⟨oc,od,kV,doc,pm,an,cdv,ct,osl,rfl,lk,hcd⟩:=F.ex;exact .all (h kV doc pm an cdv ct)
theorem ZgU{x qual:Str}{st:Stmt}{f:Addr}{oc:Value}{od an:Option Addr}{osl:Array (Option Value)}{kV doc pm cdv ct:Value}(l:K.lookup f=some ⟨oc,od,.func (PySem.W.fnOf x qual (Zbt st) (ZaB st) (Zu st) .none kV doc pm an cdv ct),osl⟩)
  (c:PySem.W.codeIn K cdv qual=true)(k:PySem.W.keepIn K (.ref f)=true):Fun K x qual st f (PySem.W.fnOf x qual (Zbt st) (ZaB st) (Zu st) .none kV doc pm an cdv ct):=⟨⟨oc,od,kV,doc,pm,an,cdv,ct,osl,rfl,l,c⟩,k⟩
end
theorem ZdL{A:Around}{k:Nat}(hr:YK k A):A.units+1<cLine:=Nat.lt_of_le_of_lt (Nat.add_le_add_left (by decide:1<=64) _) hr.units
section
variable {X:Cx}
theorem pv(i:Nat){x:Str}{pos:Pos}(hN:X.N[i]? =some x:=by rfl)(hv:Vis X.env.scope x:=by first|exact Or.inl rfl|exact Or.inr (Or.inl rfl)|exact Or.inr (Or.inr rfl)) (hd:(x==("__debug__":Str))=false:=by decide)
  (hcd:(x==("__classdict__":Str))=false:=by decide):PE X (.Name x pos) (Zi3 i):=Zll hN hv hd hcd
theorem Zig:JF X (.builtin "len") (fun xs H Q=>∃a kvs,xs=[V.ref a]/\H a=some (.dK kvs)/\Q (.int kvs.length) H):=by
 intro pins s σ H xs us Q I r h;obtain⟨a,kvs,rfl,ha,q⟩:=h;obtain⟨u,rfl,ru⟩:=Zaj r;cases ru;exact Zml I (.inl ha) fun t s' I'=>⟨.int kvs.length,H,I',⟨t,rfl⟩,q⟩
end
theorem Xl{A B:Prop}(h:B):if false=true then A else B:=by
 rw[if_neg Bool.false_ne_true];exact h
theorem Jo{A B:Prop}(h:A):if true=true then A else B:=by
 rw[if_pos rfl];exact h
theorem Jp{c A B:Prop} [Decidable c](h1:c->A)(h2:¬c->B):if c then A else B:=by
 by_cases h:c
 ·rw[if_pos h];exact h1 h
 ·rw[if_neg h];exact h2 h
theorem Zla{c A B:Prop} [Decidable c](hc:c)(h:B):if(!decide c)=true then A else B:=by
 rw[decide_eq_true hc];exact Xl h
def Zx(H H':Hp):Prop:=∀b o,H b=some o->H' b=some o
theorem Zx.refl(H:Hp):Zx H H:=fun _ _ h=>h
theorem Zx.trans{H H1 H2:Hp}(a:Zx H H1)(b:Zx H1 H2):Zx H H2:=fun c o h=>b c o (a c o h)
theorem Zx.seq{K:PySem.W.Frag}{H H':Hp}{a:Addr}{xs:List V}(e:Zx H H')(h:SqL K H a xs):SqL K H' a xs:=by
 rcases h with (h|⟨o,h⟩)|h
 ·exact .inl (.inl (e _ _ h))
 ·exact .inl (.inr ⟨o,e _ _ h⟩)
 ·exact .inr h
section
variable {κ:Type} [DecidableEq κ]
theorem ZhH:∀{l:List κ} {k:κ},l.Nodup->¬k∈l->(l++[k]).Nodup
 |[],k,_,_=>by simp
 |a::r,k,h,hk=>by
  obtain⟨h1,h2⟩:=List.nodup_cons.mp h;show(a::(r++[k])).Nodup;refine List.nodup_cons.mpr ⟨fun m=> ?_,ZhH h2 fun m=>hk (List.mem_cons.mpr (Or.inr m))⟩;rcases List.mem_append.mp m with q|q
  ·exact h1 q
  ·exact hk (List.mem_cons.mpr (Or.inl (List.mem_singleton.mp q).symm))
end
end L2
namespace L3
open PySem PySem.Spec PyProof.Rows L2
theorem up{α:Type}{M:Model}{A:Around}{t:Sem α}{Q:α->Shared->Prop}{E:Value->Shared->Prop}{s:Shared}(h:wpAny M A t Q (fun _ _=>False) s):wpAny M A t Q E s:=wpAny_mono h (fun _ _ z=>z) fun _ _ z=>z.elim
theorem Zkw{prog:Program}{w:World}{A:Around}{E:Value->Shared->Prop}{s:Shared}{l b:Addr}{vs ws:List Value}{Q:Value->Shared->Prop}(hl:s.heap.IsList l vs.toArray)(hb:s.heap.IsList b ws.toArray)
  (h:Q (.ref s.heap.objs.size) {s with heap:=s.heap.push {cls:=.type "list",data:=.seq (vs++ws).toArray}})(hz:vs.length+ws.length<=sizeLine):wpAny (model prog w) A (binaryOp .Add (.ref l) (.ref b)) Q E s:=by
 obtain⟨⟨c1,d1,t1,l1⟩,o1,k1,n1,e1⟩:=id hl;obtain⟨⟨c2,d2,t2,l2⟩,o2,k2,n2,e2⟩:=id hb;simp only at k1 e1 k2 e2
 subst k1 e1 k2 e2;refine concat_meets ⟨_,o1,rfl⟩ ⟨_,o2,rfl⟩ noFill_list_add seq_list_add PySem.F.slot_list_add PySem.F.entry_list_add (PySem.F.args_list_add_2 _ _) (list_addW l b vs.toArray ws.toArray n1 n2 d1 d2 l1 l2 (by simpa using hz)) ⟨o1,o2, ?_⟩;have ea:vs.toArray++ws.toArray=(vs++ws).toArray:=by simp
 rw[ea];exact h
section
variable {X:Cx}
theorem ZaC:OpR X (binaryOp .Mult) (rI IntMulOk fun i j=> .int (i*j)):=opI fun _ _ _ _ _ _ _ hc q=>mul_int q hc
def Zmr(K:PySem.W.Frag):R2:=fun x y H Q=>∃l b xs zs,x=.ref l/\y=.ref b/\SqL K H l xs/\SqL K H b zs/\xs.length+zs.length<=sizeLine/\∀p,H p=none->Q (.ref p) (upd H p (.lst (xs++zs)))
theorem Zf7:OpR X (binaryOp .Add) (Zmr X.K):=by
 intro pins s σ H x y v u Q I rx ry h;obtain⟨l,b,xs,zs,rfl,rfl,h1,h2,hz,q⟩:=h;cases rx;cases ry;obtain⟨its,r,pl,_⟩:=I.list h1;obtain⟨its2,r2,pl2,_⟩:=I.list h2;obtain⟨m,F⟩:=I.fr;have e1:=r.length;have e2:=r2.length;refine Zkw pl.isList pl2.isList ?_ (by omega);exact⟨.ref _,_,I.lnew (t':=s.toks) (r.append r2) (by rw[List.length_append];omega),rfl,q _ I.fresh⟩
theorem ZbN:∀{bs:List Bool} {us:List Value},ZJ (bs.map V.bl) us->LSm.BoolsAre us bs
 |[],us,r=>by
  rw[List.map_nil] at r
  cases r;exact .nil
 |b::bs,us,r=>by
  rw[List.map_cons] at r
  cases r with
  |cons r1 r2=>
   cases(show _=Value.bool b from r1);exact .cons b (ZbN r2)
theorem ZgV(hc:X.calm=true):JF X (.builtin "all") (fun xs H Q=>∃(p:Addr) (bs:List Bool),xs=[.ref p]/\SqL X.K H p (bs.map V.bl)/\Q (.bl (bs.all id)) H):=by
 intro pins s σ H xs us Q I r h;obtain⟨p,bs,rfl,hq,q⟩:=h;obtain⟨u,rfl,rx⟩:=Zaj r;cases rx;obtain⟨its,r',pl,hz⟩:=I.list hq;have hb:=ZbN r';have hlt:p<s.heap.objs.size:=pl.lt;refine call_all_walk (wpAny_pyIter_list pl.isList ?_);refine⟨s.heap.objs.size,[s.heap.objs.size,p],[s.heap.objs.size],its.toArray.size,_,_,fun i=>(bs[i]?).getD true,rfl,Walks.list (A:=X.A.in1) (I.ok.hd hc) _ p (Nat.ne_of_lt hlt) its.toArray,
  ⟨⟨_,Heap.get?_push_size _ rfl,rfl,rfl⟩,pl.isList.push _⟩,fun i v s' Q' E' hP hQ=> ?_,fun h' tk hk=> ?_⟩
 ·obtain⟨bit,ebit,rfl⟩:=hb.get i v (by simpa using hP);simp only [ebit,Option.getD_some] at hQ
  exact wpAny_truthy_bool hQ
 ·have e:((List.range its.toArray.size).all fun i=>(bs[i]?).getD true)=bs.all id:=by
   rw[List.size_toArray,hb.length];exact LSm.range_all bs
  rw[e];exact⟨.bl (bs.all id),H,I.kept (LSm.kept_iter hk),rfl,q⟩
def Zms:V->Option Value
 | .ty n=>some (.type n)
 | .ref a=>some (.ref a)
 |_=>none
theorem YW:JF X (.builtin "isinstance") (fun xs H Q=>∃x y t c b,xs=[x,y]/\Zms y=some c/\ZaV X.K H x t/\PySem.W.kitOne X.K t c=some b/\Q (.bl b) H):=by
 intro pins s σ H xs us Q I r h;obtain⟨x,y,t,c,b,rfl,hy,ty,e,q⟩:=h;obtain⟨u,u2,rfl,rx,ry⟩:=ZiW r;have ec:u2=c:=by
  cases y with
  |ty n=>cases hy;exact ry
  |ref a=>cases hy;exact ry
  |_=>cases hy
 subst ec;exact Zi9 I rx ty e fun tk=>⟨.bl b,H,I.tok _,rfl,q⟩
end
def Ext:L2.St->L2.St->Prop
 |[],[]=>True
 |none::a,_::b=>Ext a b
 |some v::a,w::b=>w=some v/\Ext a b
 |_,_=>False
theorem Ext.len:∀{a b:L2.St},Ext a b->a.length=b.length
 |[],[],_=>rfl
 |none::a,_::b,h=>by
  have h:Ext a b:=h;simp[h.len]
 |some v::a,w::b,h=>by
  have h:w=some v/\Ext a b:=h;simp[h.2.len]
 |[],_::_,h=>h.elim
 |none::_,[],h=>h.elim
 |some _::_,[],h=>h.elim
theorem Ext.get:∀{a b:L2.St},Ext a b->∀(i:Nat) (v:V),a[i]? =some (some v)->b[i]? =some (some v)
 |[],[],_,i,v,e=>by simp at e
 |none::a,_::b,h,i,v,e=>by
  have h:Ext a b:=h;cases i with
  |zero=>simp at e
  |succ i=>simpa using h.get i v (by simpa using e)
 |some z::a,w::b,h,i,v,e=>by
  have h:w=some z/\Ext a b:=h;cases i with
  |zero=>
   have e':z=v:=by simpa using e
   subst e';rw[h.1]
   rfl
  |succ i=>simpa using h.2.get i v (by simpa using e)
 |[],_::_,h,_,_,_=>h.elim
 |none::_,[],h,_,_,_=>h.elim
 |some _::_,[],h,_,_,_=>h.elim
def frY(own:List Str)(fr:List (Str×Nat))(σ:L2.St):L2.St:=own.map (fun _=>none)++fr.map fun p=>σ.getD p.2 none
def nmY(own:List Str)(fr:List (Str×Nat)):List Str:=own++fr.map (·.1)
def Xe(X:Cx)(N:List Str)(scope:Scope)(cl:List (Str×Addr))(C:Addr)(s:Shared)(H:Hp)(fp:List Addr):Cx:=
 {X with N:=N,s₀:=s,H₀:=H,env:=compEnvC scope cl C X.env,outer:=X.stack,stack:=X.stack,ex:=fp,fn:=fun _=>false,pn:=[],xe:=fun _ _=>False}
def ZgW:Option NameKind->Bool
 |some .cell=>true
 |some .free=>true
 |_=>false
theorem Zf8{o:Option NameKind}(h:ZgW o=true):o=some .cell\/o=some .free:=by
 cases o with
 |none=>cases h
 |some k=>cases k<;>first|exact .inl rfl|exact .inr rfl|cases h
def Zih(X:Cx)(scope:Scope):List (Str×Nat)->Prop
 |[]=>True
 |p::r=>(X.N[p.2]? =some p.1/\ZgW (X.env.scope.names.lookup p.1)=true/\ZgW ((relabel scope X.env).names.lookup p.1)=true)/\Zih X scope r
theorem Zih.mem{X:Cx}{scope:Scope}:∀{fr:List (Str×Nat)},Zih X scope fr->∀p∈fr,X.N[p.2]? =some p.1/\ZgW (X.env.scope.names.lookup p.1)=true/\ZgW ((relabel scope X.env).names.lookup p.1)=true
 |[],_,p,hp=>by simp at hp
 |q::r,h,p,hp=>by
  have h:_/\Zih X scope r:=h;rcases List.mem_cons.mp hp with rfl|hmore
  ·exact h.1
  ·exact h.2.mem p hmore
def Zii(X:Cx):List (Str×Addr)->Prop
 |[]=>True
 |p::r=>X.env.cells.lookup p.1=some p.2/\Zii X r
theorem Zii.get{X:Cx}:∀{cl:List (Str×Addr)},Zii X cl->∀x c,cl.lookup x=some c->X.env.cells.lookup x=some c
 |[],_,x,c,e=>by simp at e
 |(n,a)::r,h,x,c,e=>by
  have h:X.env.cells.lookup n=some a/\Zii X r:=h
  by_cases hx:x=n
  ·subst hx;simp only [List.lookup_cons,beq_self_eq_true] at e
   cases e;exact h.1
  ·have hb:(x==n)=false:=by simpa using hx
   simp only [List.lookup_cons,hb] at e
   exact h.2.get x c e
def ZcJ(scope:Scope)(env:Env)(cl:List (Str×Addr)):Bool:=
 scope.kind==.function&&scope.names.all (fun y=>y.2 !=.cell)&&scope.names.all (fun y=>y.2 !=.local||scope.names.lookup y.1==some .local)&&
 (relabel scope env).names.all (fun y=> !ZgW (some y.2)||(cl.lookup y.1).isSome)
def ZdM:TT:=fun _ H Q=>Q true H
def PTs(X:Cx)(ifs:List Expr)(t:TT):Prop:=
 ∀(pins:List (Addr×Obj)) (s:Shared) (σ:L2.St) (H:Hp) (Q:Bool->Hp->Prop),Inv X pins σ H s->t σ H Q->
  wpAny (model X.prog X.w) X.A (forIn ifs true fun c r=>if r=true then do let ok<-isTrue c X.env (eval c X.env);pure (ForInStep.yield ok) else pure (ForInStep.yield r)) (TP X pins σ Q) X.xe s
theorem Zdq{X:Cx}:PTs X [] ZdM:=fun _ _ _ H _ I h=>wpAny_tests_nil ⟨H,I,h⟩
theorem Zkx{X:Cx}{c:Expr}{t:TT}(h:PT X c t):PTs X [c] t:=fun pins s σ H Q I q=>wpAny_tests_one (h pins s σ H Q I q)
theorem Zky{prog:Program}{w:World}{A:Around}{R:Result->Shared->Prop}{s:Shared}{elt tg iter:Expr}{ifs:List Expr}{scope:Scope}{pos:Pos}{it acc:Value}{env:Env}(J:Nat->Shared->Prop)
  (turn:∀n s,J n s->∀E:Value->Shared->Prop,wpAny (model prog w) A (pyNext it) (fun r s₁=>(r=none/\R (.ok .next) s₁)\/∃v,r=some v/\
    wpAny (model prog w) A (letOwnedTupleGo tg it v) (fun _ s₂=>wpAny (model prog w) A (assign tg env v) (fun _ s₃=>
     wpAny (model prog w) A (forIn ifs true fun c r=>if r=true then do let ok<-isTrue c env (eval c env);pure (ForInStep.yield ok) else pure (ForInStep.yield r)) (fun ok s₄=>
      (ok=true/\wpAny (model prog w) A (eval elt env) (fun x s₅=>wpAny (model prog w) A (call (.builtin "list.append") [acc,x]) (fun _ s₆=>∃m,m<n/\J m s₆) E s₅) E s₄)\/
      (ok=false/\∃m,m<n/\J m s₄)) E s₃) E s₂) E s₁) E s)
  (n:Nat)(h:J n s):codeAny (model prog w) A (.compLoop (.ListComp elt [⟨tg,iter,ifs,0⟩] scope pos) 0 it acc env) R s:=by
 refine codeAny_loop rfl J (fun n s hJ=> ?_) n h;show wpAny _ A ((compTurn (.ListComp elt [⟨tg,iter,ifs,0⟩] scope pos) 0 it acc env).onRaise (fun x=>do noteFrame x env;theTreesLotGoes x)) _ _ s
 refine wpAny_noted ?_;rw[compTurn_list];refine wpAny_bind (wpAny_standAt (wpAny_bind (thn (turn n s hJ _) fun r s₁ h₁=> ?_)));rcases h₁ with ⟨rfl,h₁⟩|⟨v,rfl,h₁⟩
 ·exact wpAny_pure h₁
 ·refine wpAny_bind (thn h₁ fun _ s₂ h₂=>wpAny_bind (thn h₂ fun _ s₃ h₃=>wpAny_bind (thn h₃ fun ok s₄ h₄=> ?_)));rcases h₄ with ⟨rfl,h₄⟩|⟨rfl,h₄⟩
  ·exact wpAny_bind (wpAny_bind (thn h₄ fun x s₅ h₅=>wpAny_bind (thn h₅ fun _ s₆ h₆=>wpAny_pure (wpAny_pure ⟨rfl,h₆⟩))))
  ·exact wpAny_pure ⟨rfl,h₄⟩
def Zjb(J:It)(own:List Str)(fr:List (Str×Nat))(g:TG)(tc:TT)(te:TE)(σ:L2.St)(H1:Hp)(Q:VK):Prop:=∀D,H1 D=none->∃W:Nat->Nat->List V->Hp->Prop,(∃m,W 0 m [] (upd H1 D (.lst [])))/\
 ∀i m ys H2,W i m ys H2->H2 D=some (.lst ys)/\((J.stop i H2/\Q (.ref D) H2)\/(J.go i H2/\∃N:List V->Hp->Prop,(∀zs H',N zs H'->∃m',m'<m/\W (i+1) m' zs H')/\
  ∀x H',J.yld i H2 x H'->g x (frY own fr σ) H' fun σ3 H3=>Ext (frY own fr σ) σ3/\tc σ3 H3 fun b H4=>if b=true then te σ3 H4 fun v H5=>H5 D=some (.lst ys)/\ys.length<sizeLine/\N (ys++[v]) (upd H5 D (.lst (ys++[v]))) else N ys H4))
def Zjc(wi:TI)(own:List Str)(fr:List (Str×Nat))(g:TG)(tc:TT)(te:TE):TE:=fun σ H Q=>wi σ H fun J H1=>Zjb J own fr g tc te σ H1 Q
theorem Zij{X:Cx}{elt tg iter:Expr}{ifs:List Expr}{scope:Scope}{pos ipos:Pos}{wi:TI}{g:TG}{tc:TT}{te:TE}{cl:List (Str×Addr)}(own:List Str)(fr:List (Str×Nat))(hc:X.calm=true)(hi:PI X tg iter wi)
  (hclos:closureFor scope X.env=pure cl)(hcl:Zii X cl)(hok:ZcJ scope X.env cl=true)(hfr:Zih X scope fr)
  (hg:∀C s H fp,PG (Xe X (nmY own fr) scope cl C s H fp) tg g)(ht:∀C s H fp,PTs (Xe X (nmY own fr) scope cl C s H fp) ifs tc)(he:∀C s H fp,PE (Xe X (nmY own fr) scope cl C s H fp) elt te)
  (hs:∀x,foldedSetIterable iter X.env x=pure x){pins:List (Addr×Obj)}{s:Shared}{σ:L2.St}{H:Hp}{Q:VK}{use:Option (Value->Sem Unit)}{PQ:Value->Shared->Prop}(I:Inv X pins σ H s)(h:Zjc wi own fr g tc te σ H Q)
  (hend:∀(s6:Shared) (H5:Hp) (C D:Addr) (m:Str->Option Value),Inv X pins σ H5 s6->s6.heap.Ns C m->Zec X pins H5 C->Q (.ref D) H5->compPost (model X.prog X.w) X.A X.xe use PQ (.ref D) C (.ok .next) s6):
  wpAny (model X.prog X.w) X.A (comprehension (.ListComp elt [⟨tg,iter,ifs,0⟩] scope pos) scope X.env ipos (newList []) false (eval iter X.env) use) PQ X.xe s:=by
 have ok1:scope.kind=.function:=by
  unfold ZcJ at hok
  simp only [Bool.and_eq_true,beq_iff_eq] at hok
  exact hok.1.1.1
 have ok2:∀y∈scope.names,y.2≠.cell:=by
  unfold ZcJ at hok
  simp only [Bool.and_eq_true,List.all_eq_true] at hok
  intro y hy
  simpa using hok.1.1.2 y hy
 have ok3:∀y∈scope.names,y.2=.local->scope.names.lookup y.1=some .local:=by
  unfold ZcJ at hok
  simp only [Bool.and_eq_true,List.all_eq_true] at hok
  intro y hy e;have:=hok.1.2 y hy
  simpa [e] using this
 have ok4:∀x,(relabel scope X.env).names.lookup x=some .cell\/(relabel scope X.env).names.lookup x=some .free->∃c,cl.lookup x=some c:=by
  unfold ZcJ at hok
  simp only [Bool.and_eq_true,List.all_eq_true] at hok
  intro x hx;have key:∀k,(relabel scope X.env).names.lookup x=some k->ZgW (some k)=true->∃c,cl.lookup x=some c:=fun k e hk=>by
   have:=hok.2 (x,k) (PySem.mem_of_lookup e);simp only [hk,Bool.not_true,Bool.false_or] at this
   exact Option.isSome_iff_exists.mp this
  rcases hx with e|e
  ·exact key _ e rfl
  ·exact key _ e rfl
 refine wpAny_comprehension_free (use:=use) rfl hs hclos ok1 ok3 ?_;refine thn (hi pins s σ H _ I h) fun v s1 h1=>thn h1 fun itv s2 h2=> ?_;obtain⟨it,fp,tn,J,H2,e,I2,T,st2,f2,hD⟩:=h2;subst e;have lt2:∀b∈fp,b<s2.heap.objs.size:=fun b hb=>by
  obtain⟨o,e,_⟩:=T.obj _ _ st2 b hb;exact Heap.lt_size e
 refine wpAny_newObj_type (wpAny_newFunctionEnv ok2 (by intro y hy;simp at hy) (fun h₁ hns₁ hsb₁=> ?_) ok1)
 obtain⟨W,⟨m0,w0⟩,turn⟩:=hD s2.heap.objs.size I2.fresh;have I3:Inv X pins σ (upd H2 s2.heap.objs.size (.lst [])) {s2 with heap:=s2.heap.push {cls:=.type "list",data:=.seq ([]:List Value).toArray}}:=I2.lnew (t':=s2.toks) .nil (Nat.zero_le _);have st3:=T.keep 0 _ (s2.heap.push {cls:=.type "list",data:=.seq ([]:List Value).toArray}) st2 fun b hb o e=>Heap.get?_push_of_some _ e;have f3:∀b∈fp,Zec X pins (upd H2 s2.heap.objs.size (.lst [])) b:=fun b hb=>⟨by rw[Zf (Nat.ne_of_lt (lt2 b hb))];exact(f2 b hb).1,(f2 b hb).2⟩
 generalize hs3:({s2 with heap:=s2.heap.push {cls:=.type "list",data:=.seq ([]:List Value).toArray}}:Shared)=s3 at I3
 have es3:s3.heap=s2.heap.push {cls:=.type "list",data:=.seq ([]:List Value).toArray}:=by rw[<-hs3]
 have eg3:s3.gens=s2.gens:=by rw[<-hs3]
 have lt3:∀b∈fp,b<s3.heap.objs.size:=fun b hb=>by rw[es3,Heap.size_push];exact Nat.lt_succ_of_lt (lt2 b hb)
 rw[<-es3] at st3
 have hns:h₁.Ns s3.heap.objs.size (fun x=>([]:List (Str×Value)).reverse.lookup x):=by rw[es3];exact hns₁
 have k34:∀b o,s3.heap.get? b=some o->h₁.get? b=some o:=fun b o e=>by
  have hsb:=hsb₁.extBut b o;rw[es3] at e
  exact hsb (Nat.ne_of_lt (Heap.lt_size e)) (Heap.get?_push_of_some _ e)
 generalize hs4:({s3 with heap:=h₁,toks:=s3.toks+([]:List (Str×Value)).length}:Shared)=s4;have es4:s4.heap=h₁:=by rw[<-hs4]
 have st4:tn 0 s4.heap:=T.keep 0 _ _ st3 fun b hb o e=>by rw[es4];exact k34 b o e
 have IY:Inv (Xe X (nmY own fr) scope cl s3.heap.objs.size s3 (upd H2 s2.heap.objs.size (.lst [])) fp) [] (frY own fr σ) (upd H2 s2.heap.objs.size (.lst [])) s4:=by
  refine⟨⟨I3.ok.mod,ok1,I3.ok.glob,I3.ok.blt,Nat.le_refl _,fun x y c e1 e2=>I3.ok.inj x y c (hcl.get x c e1) (hcl.get y c e2),fun x hx=>ok4 x hx,(fun x c z=>nomatch z),I3.ok.hd,I3.ok.frames,.inl rfl,
   fun b hb=>⟨Nat.ne_of_lt (lt3 b hb),fun x c e=>(f3 b hb).2.2.2.2.1 x c (hcl.get x c e)⟩,I3.bs,Nat.le_trans I3.ok.bsz I3.sz,fun b o e hb=> ?_,fun b hb z=> ?_,I3.stack,I3.stkFree⟩,
   by rw[<-hs4];rfl,by rw[<-hs4];exact I3.bare,Un.kept (by rw[es4];exact k34),⟨_,by rw[es4];exact hns,fun i x v e1 e2 e3=> ?_⟩,fun x c e=> ?_,I3.hok.fresh (Nat.le_refl _),fun x c e=>I3.freeC x c (hcl.get x c e),fun p hp=>absurd hp (by simp[Xe]),by rw[es4];exact I3.hok.kept k34, ?_⟩
  ·rcases(f3 b hb).2.2.2.1 with z|z
   ·exact I3.ok.noex b o e z
   ·exact absurd (Nat.lt_of_lt_of_le (Heap.lt_size (I3.ok.bs b o e).1) z) (Nat.lt_irrefl _)
  ·rcases List.mem_cons.mp (I3.stkSub b z) with q|q
   ·exact(f3 b hb).2.1 q
   ·exact(f3 b hb).2.2.1 q
  ·have e1:(own++fr.map (·.1))[i]? =some x:=e1;have e2:(own.map (fun _=>(none:Option V))++fr.map fun p=>σ.getD p.2 none)[i]? =some (some v):=e2;have hi:own.length<=i:=by
    refine Nat.le_of_not_lt fun hlt=> ?_;rw[List.getElem?_append_left (by simpa using hlt),List.getElem?_map] at e2
    cases q:own[i]? with
    |none=>rw[q] at e2;cases e2
    |some a=>rw[q] at e2;cases e2
   rw[List.getElem?_append_right hi,List.getElem?_map] at e1
   rw[List.getElem?_append_right (by simpa using hi),List.getElem?_map,List.length_map] at e2
   cases q:fr[i-own.length]? with
   |none=>rw[q] at e1;cases e1
   |some p=>
    rw[q] at e1 e2
    obtain rfl:p.1=x:=Option.some.inj e1;have e2:σ.getD p.2 none=some v:=Option.some.inj e2;have e4:σ[p.2]? =some (some v):=by
     rw[List.getD_eq_getElem?_getD] at e2
     cases z:σ[p.2]? with
     |none=>rw[z] at e2;cases e2
     |some a=>
      rw[z] at e2
      have e2:a=some v:=e2;rw[e2]
    obtain⟨n1,n2,n3⟩:=hfr.mem p (List.mem_of_getElem? q);obtain⟨m,hn,hl⟩:=I3.loc;have vis:Vis X.env.scope p.1:=.inr (Zf8 n2);obtain⟨u,r,l⟩:=hl p.2 p.1 v n1 e4 vis;refine⟨u,r, ?_⟩;rcases l with ⟨k,_⟩|⟨_,c,e,z⟩
    ·have k:X.env.scope.names.lookup p.1=some .local:=k;rw[k] at n2;cases n2
    ·obtain⟨c',e'⟩:=ok4 p.1 (Zf8 n3);have e'':=hcl.get _ _ e';rw[e] at e''
     cases e'';obtain⟨o,ho,hd⟩:=z;exact .inr ⟨Zf8 n3,c,e',o,by rw[es4];exact k34 c o ho,hd⟩
  ·obtain⟨v,o,ho,hd⟩:=I3.cell x c (hcl.get x c e);exact⟨v,o,by rw[es4];exact k34 c o ho,hd⟩
  ·simp[frY,nmY,Xe]
 have fY:∀{H':Hp} {s':Shared},(∀b∈fp,H' b=none)->∀b∈fp,Zec (Xe X (nmY own fr) scope cl s3.heap.objs.size s3 (upd H2 s2.heap.objs.size (.lst [])) fp) [] H' b:=fun{H' _} hn b hb=>
  ⟨hn b hb,Nat.ne_of_lt (lt3 b hb),fun z=>by
   rcases List.mem_cons.mp (I3.stkSub b z) with q|q
   ·exact(f3 b hb).2.1 q
   ·exact(f3 b hb).2.2.1 q,.inl hb,fun x c e=>(f3 b hb).2.2.2.2.1 x c (hcl.get x c e),fun p hp=>absurd hp (by simp[Xe])⟩
 have loop:codeAny (model X.prog X.w) X.A (.compLoop (.ListComp elt [⟨tg,iter,ifs,0⟩] scope pos) 0 (.ref it) (.ref s2.heap.objs.size) (compEnvC scope cl s3.heap.objs.size X.env))
   (compPost (model X.prog X.w) X.A X.xe use PQ (.ref s2.heap.objs.size) s3.heap.objs.size) s4:=by
  refine Zky (fun n s'=>∃i ys H',Inv (Xe X (nmY own fr) scope cl s3.heap.objs.size s3 (upd H2 s2.heap.objs.size (.lst [])) fp) [] (frY own fr σ) H' s'/\tn i s'.heap/\(∀b∈fp,H' b=none)/\W i n ys H') ?_ m0
   ⟨0,[],_,IY,st4,fun b hb=>(f3 b hb).1,w0⟩
  rintro n s5 ⟨i,ys,H5,I5,st5,fr5,w5⟩ E;obtain⟨d5,way⟩:=turn i n ys H5 w5;rcases way with ⟨stop,q⟩|⟨go,N,hN,step⟩
  ·refine thn (T.done (Xe X (nmY own fr) scope cl s3.heap.objs.size s3 (upd H2 s2.heap.objs.size (.lst [])) fp) rfl rfl rfl hc i [] s5 _ H5 E I5 (fY (s':=s5) fr5) st5 stop) fun r s6 ⟨hr,I6⟩=> .inl ⟨hr, ?_⟩;obtain⟨m,hn,_⟩:=I6.loc;have I7:Inv X pins σ H5 s6:=I3.call' (s':=s6) (ch:=fp) I6.os I6.base I6.hok I6.bare (fun b hb=>⟨(f3 b hb).2.2.2.1,(f3 b hb).2.1,(f3 b hb).2.2.2.2.1,(f3 b hb).2.2.2.2.2⟩);exact hend s6 H5 _ _ m I7 hn (I3.fpOk (Nat.le_refl _) I6.free) q
  ·refine thn (T.item (Xe X (nmY own fr) scope cl s3.heap.objs.size s3 (upd H2 s2.heap.objs.size (.lst [])) fp) rfl rfl rfl hc i [] s5 _ H5 E I5 (fY (s':=s5) fr5) st5 go) fun r s6 ⟨u,hr,h6⟩=> .inr ⟨u,hr, ?_⟩;refine thn h6 fun _ s7 ⟨x,H7,I7,r7,y7,st7,fr7⟩=> ?_;have I7':=I7.pinned (fY (s':=s7) fr7) (T.obj _ _ st7);refine up (thn (hg _ _ _ _ _ s7 _ H7 x u _ I7' r7 (step x H7 y7)) fun _ s8 ⟨σ8,H8,I8,x8,q8⟩=> ?_)
   refine up (thn (ht _ _ _ _ _ s8 σ8 H8 _ I8 q8) fun ok s9 ⟨H9,I9,q9⟩=> ?_);have again:∀{σ':L2.St} {H':Hp} {s':Shared} {zs:List V},Inv (Xe X (nmY own fr) scope cl s3.heap.objs.size s3 (upd H2 s2.heap.objs.size (.lst [])) fp) ([]++ZdE fp s7.heap) σ' H' s'->Ext (frY own fr σ) σ'->N zs H'->
     ∃m,m<n/\∃i ys H',Inv (Xe X (nmY own fr) scope cl s3.heap.objs.size s3 (upd H2 s2.heap.objs.size (.lst [])) fp) [] (frY own fr σ) H' s'/\tn i s'.heap/\(∀b∈fp,H' b=none)/\W i m ys H':=fun{σ' H' s' zs} I' x' n'=>by
    obtain⟨m',hm,w'⟩:=hN zs H' n';refine⟨m',hm,i+1,zs,H',I'.unpinned.weak x'.len fun j v e=>x'.get j v e,T.keep _ _ _ st7 fun b hb o e=>(I'.pin (b,o) (List.mem_append_right _ (List.mem_append_right _ (Zax hb e)))).1,fun b hb=> ?_,w'⟩;obtain⟨o,e,_⟩:=T.obj _ _ st7 b hb;exact(I'.pin (b,o) (List.mem_append_right _ (List.mem_append_right _ (Zax hb e)))).2.1
   cases ok with
   |false=>
    rw[if_neg Bool.false_ne_true] at q9
    exact .inr ⟨rfl,again I9 x8 q9⟩
   |true=>
    rw[if_pos rfl] at q9
    refine .inl ⟨rfl,up (thn (he _ _ _ _ _ s9 σ8 H9 _ I9 q9) fun y s10 ⟨v10,H10,I10,r10,d10,z10,n10⟩=> ?_)⟩;refine up (thn (Jz _ s10 σ8 H10 (.ref s2.heap.objs.size) [v10] _ [y] (fun _ H'=>N (ys++[v10]) H') I10 rfl (.cons r10 .nil) ⟨s2.heap.objs.size,ys,v10,rfl,rfl,d10,z10,n10⟩) fun _ s11 ⟨v11,H11,I11,_,n11⟩=> ?_);exact again I11 x8 n11
 have ZbG:codeAny (model X.prog X.w) X.A (.compStart (.ListComp elt [⟨tg,iter,ifs,0⟩] scope pos) 0 (.ref it) (.ref s2.heap.objs.size) (compEnvC scope cl s3.heap.objs.size X.env))
   (compPost (model X.prog X.w) X.A X.xe use PQ (.ref s2.heap.objs.size) s3.heap.objs.size) s4:=codeAny_compStart_list loop (T.self _ _ _ _ _ st4 loop)
 exact ZbG
theorem Zcd{X:Cx}{elt tg iter:Expr}{ifs:List Expr}{scope:Scope}{pos:Pos}{wi:TI}{g:TG}{tc:TT}{te:TE}{cl:List (Str×Addr)}(own:List Str)(fr:List (Str×Nat))(hc:X.calm=true)(hi:PI X tg iter wi)
  (hclos:closureFor scope X.env=pure cl)(hcl:Zii X cl)(hok:ZcJ scope X.env cl=true)(hfr:Zih X scope fr)
  (hg:∀C s H fp,PG (Xe X (nmY own fr) scope cl C s H fp) tg g)(ht:∀C s H fp,PTs (Xe X (nmY own fr) scope cl C s H fp) ifs tc)(he:∀C s H fp,PE (Xe X (nmY own fr) scope cl C s H fp) elt te)
  (hs:∀x,foldedSetIterable iter X.env x=pure x:=by intro _;rfl):PE X (.ListComp elt [⟨tg,iter,ifs,0⟩] scope pos) (Zjc wi own fr g tc te):=by
 intro pins s σ H Q I h;rw[eval_ListComp];refine Zij (use:=none) own fr hc hi hclos hcl hok hfr hg ht he hs I h fun s6 H5 C D m I6 hn f q=>⟨m,hn,fun h' hs'=> ?_⟩
 exact⟨.ref D,H5,I6.turned (t':=s6.toks) (fun b o hb e=>(hs'.2 b hb).trans e) f.1 f.2.1 f.2.2.2.1 f.2.2.2.2.1 f.2.2.2.2.2,rfl,q⟩
end L3
namespace L3
open PySem PySem.Spec PyProof.Rows L2
theorem ZbO:bootBuiltins "len"=some (.builtin "len"):=by decide+kernel
theorem Zlz:bootBuiltins "abs"=some (.builtin "abs"):=by decide+kernel
theorem ZgX:bootBuiltins "max"=some (.builtin "max"):=by decide+kernel
theorem Zjd:bootBuiltins "min"=some (.builtin "min"):=by decide+kernel
theorem ZlA:bootBuiltins "all"=some (.builtin "all"):=by decide+kernel
theorem YC:bootBuiltins "isinstance"=some (.builtin "isinstance"):=by decide+kernel
theorem ZgY:bootBuiltins "int"=some (.type "int"):=by decide+kernel
theorem ZlB:bootBuiltins "str"=some (.type "str"):=by decide+kernel
theorem Zkz:bootBuiltins "bool"=some (.type "bool"):=by decide+kernel
theorem Zf9:bootBuiltins "dict"=some (.type "dict"):=by decide+kernel
structure Cal (P:Program) (w:World) (K:PySem.W.Frag) (mg:Str->Option Value) (base:Heap) (CX:CXT) (k:Nat) (x:Str) (ps:List Str) (sp:Sp):Prop where
 ex:∃(f:Addr) (fd:FuncData),mg x=some (.ref f)/\PySem.W.keepIn K (.ref f)=true/\Ja K fd ps []/\Yq P w K mg base CX k f fd ps sp
section
variable {X:Cx} {CX:CXT} {k:Nat} {x:Str} {ps:List Str} {sp:Sp} {E:XK} {e:PySem.Expr} {es:List PySem.Expr} {t:TA} {p pos:Pos}
theorem ZW(c:Cal X.prog X.w X.K X.mg X.base CX k x ps sp)(hr:YK k X.A)(hg:Gl X x)(hx:Za3 CX X E)(ha:PA X (e::es) t)(hdb:(x==("__debug__":Str))=false:=by decide)
  (he:starEach (e::es) X.env=(false,eval e X.env)::starEach es X.env:=by rfl)(hpl:(backTo pos (starEach es X.env)).any (·.1)=false:=by rfl):PE X (.Call (.Name x p) (e::es) [] pos) (ZhG sp [] E t):=by
 obtain⟨f,fd,hm,hk,hb,F⟩:=c.ex;exact Zkl F hr hg hm hk hb .nil hx ha hdb he hpl
theorem ZlC(c:Cal X.prog X.w X.K X.mg X.base CX k x ps sp)(hr:YK k X.A)(hg:Gl X x)(hx:Za3 CX X E)(hdb:(x==("__debug__":Str))=false:=by decide):PE X (.Call (.Name x p) [] [] pos) (ZhG sp [] E Zlv):=by
 obtain⟨f,fd,hm,hk,hb,F⟩:=c.ex;exact Zj0 F hr hg hm hk hb .nil hx hdb
end
theorem Zb1:∀{ns:List Int} {B:Nat},PySem.W.WData.weightAll (ns.map PySem.W.WData.int)<=B->∀i∈ns,Builtin.Int.intBits i<=B
 |[],_,_,i,hi=>by simp at hi
 |n::ns,B,h,i,hi=>by
  have h:PySem.W.WData.weight (.int n)+1+PySem.W.WData.weightAll (ns.map PySem.W.WData.int)<=B:=h;have e:PySem.W.WData.weight (.int n)=Builtin.Int.intBits n:=rfl;rw[e] at h
  rcases List.mem_cons.mp hi with rfl|hi
  ·omega
  ·exact Zb1 (by omega) i hi
theorem ZkA{l:PySem.W.OpenLaw}{n:Nat}{q:Program}{loose:List Str}{XP:(Str->Option Value)->Heap->Prop}{YP:World->Heap->Prop}{d:DefRec}
  (hn:l.most=some n)(hdf:d.params.defaults=[])
  (call:∀(w:World) (s₀ s₁:Shared) (mg mb:Str->Option Value) (fa:Addr) (a:Addr) (vs:List Value) (ns:List Int),
   PySem.W.Ground q loose [] XP w s₀ mg mb s₁.heap->YP w s₁.heap->mg d.name=some (.ref fa)->
   s₁.heap.get? a=some {cls:=.type "list",data:=.seq vs.toArray}->IntsAre vs ns->ns.length<=n->(∀i∈ns,Builtin.Int.intBits i<=1048576)->s₁.gens= #[]->
   codeAny (model l.prog w) callerA (.call (.ref fa) ⟨[.ref a],[]⟩) (fun r s'=>r=.ok (.ret (.bool true))/\OldK s₁.heap s'.heap/\s'.os=s₁.os/\AllBare s'.gens) s₁):
  PySem.W.WalkO q loose XP YP l.row.toRowW d [] (fun f vs=>PySem.call f vs):=by
 intro w s₀ s₁ mg mb G Y fa o pm cd doc dV kV ho hdata hcode hD hmg hg args vals as hpre hlay hread hwl hlow;obtain rfl:dV=.none:=PySem.W.Dflts.none hD hdf;obtain rfl:kV=.none:=PySem.W.Dflts.noKw hD;obtain⟨a,vs,ns,rfl,rfl,hobj,hints,hlen⟩:=Att.script_of hn hpre hwl;have hb:∀i∈ns,Builtin.Int.intBits i<=1048576:=by
  have h1:PySem.W.WData.layableAll [PySem.W.WData.list (ns.map PySem.W.WData.int)]=true:=hlay;have h2:PySem.W.WData.layable (PySem.W.WData.list (ns.map PySem.W.WData.int))=true:=by simpa [PySem.W.WData.layableAll] using h1
  have h3:PySem.W.WData.weight (PySem.W.WData.list (ns.map PySem.W.WData.int))<=2^20:=by
   unfold PySem.W.WData.layable at h2
   rw[Bool.and_eq_true] at h2
   exact of_decide_eq_true h2.2
  exact Zb1 (show PySem.W.WData.weightAll (ns.map PySem.W.WData.int)<=1048576 from h3)
 refine PySem.W.enter_call (codeAny_mono (call w s₀ s₁ mg mb fa a vs ns G Y hmg hobj hints hlen hb hg) fun r s' hq=> ?_);obtain⟨rfl,h2,h3,h4⟩:=hq;exact⟨.inl ⟨.bool true,.bool true,[],rfl,fun _=>rfl,.bool true,Att.post_true l _,fun _=>⟨List.Pairwise.nil,fun _ hm=>(nomatch hm)⟩⟩,h2,h3,h4⟩
def Zje(K:PySem.W.Frag):Sp:=fun vs H Q _=>∃(a:Addr) (ns:List Int),vs=[.ref a]/\SqL K H a (ns.map V.int)/\ns.length<=63/\(∀i∈ns,Builtin.Int.intBits i<=1048576)/\∀H',Q (.bl true) H'
theorem Zmt{l:PySem.W.OpenLaw}{k:Nat}{q:Program}{loose:List Str}{XP:(Str->Option Value)->Heap->Prop}{YP:World->Heap->Prop}{d:DefRec}{K:Params->PySem.W.Frag}{x:Str}
  (hn:l.most=some 63)(hdf:d.params.defaults=[])(hr:YK k callerA)(hY:∀(w:World) (h:Heap),YP w h->(K w.params).In h)
  (F:∀(w:World) (mg:Str->Option Value) (fa:Addr) (h:Heap),(K w.params).In h->h.Ns mainGlobals mg->mg d.name=some (.ref fa)->
   ∃fd:FuncData,(∀(s:Shared) (u:Value),BindsTo s fd ⟨[u],[]⟩ [(x,u)])/\∀base:Heap,(K w.params).In base->base.Ns mainGlobals mg->Yq l.prog w (K w.params) mg base CX0 k fa fd [x] (Zje (K w.params))):
  PySem.W.WalkO q loose XP YP l.row.toRowW d [] (fun f vs=>PySem.call f vs):=by
 refine ZkA hn hdf fun w s₀ s₁ mg mb fa a vs ns G Y hmg hobj hints hlen hb hg=> ?_;have KX:=hY w _ Y;obtain⟨fd,hbd,hF⟩:=F w mg fa _ KX G.T.g hmg;exact Zja KX G.T.g G.T.b G.T.builtins G.T.nolimit hg hobj hints (Nat.le_trans hlen (by decide)) hr hF hbd (fun H hO hS=>⟨a,ns,rfl,hS,hlen,hb,fun _=>rfl⟩) fun H e s' z=>z
end L3
namespace L3
open PySem PySem.Spec PyProof.Rows L2 PySem.Builtin PySem.Builtin.Str
section
variable {X:Cx}
theorem Zce:∀{ys:List Str} {us:List Value},ZJ (ys.map V.str) us->StrsAre us ys
 |[],us,r=>by
  rw[List.map_nil] at r
  cases r;exact .nil
 |y::ys,us,r=>by
  rw[List.map_cons] at r
  cases r with
  |cons r1 r2=>
   obtain⟨t,e⟩:=r1;subst e;exact .cons y t (Zce r2)
theorem Zik:MtR X "str.join" (fun x vs H Q=>∃z p ys,x=.str z/\vs=[.ref p]/\SqL X.K H p (ys.map V.str)/\(ys.map (·.length)).sum+ys.length*z.length<=16777216/\Q (.str (Txt.join z ys)) H):=by
 intro pins s σ H x xs v us Q I rx r h;obtain⟨z,p,ys,rfl,rfl,hS,hk,q⟩:=h;obtain⟨t,rfl⟩:=rx;obtain⟨u,rfl,r2⟩:=Zaj r;cases r2;obtain⟨its,rv,pl,_⟩:=I.list hS;exact join_list pl.isList (by simpa using Zce rv) hk fun t' k=>⟨.str _,H,I.tok _,⟨_,rfl⟩,q⟩
end
end L3
namespace M1
open PySem.Builtin PySem.Builtin.Str PySem
def cs(x:Str):List Nat:=x.cps.toList
theorem ZgZ(x y:Str):cs (x++y)=cs x++cs y:=by
 show(x.cps++y.cps).toList=_;rw[Array.toList_append]
 rfl
theorem Zjf(c:Nat):cs ⟨#[c]⟩=[c]:=rfl
theorem Zjg(x:Str):x.length=(cs x).length:=by
 show x.cps.size=x.cps.toList.length;rw[Array.length_toList]
end M1
namespace M2
open PySem M1
end M2
namespace L3
open PySem PySem.Spec PyProof.Rows L2
theorem Zh0{k:Key}{u:Value}(h:ZdB k u=true):ZC (kV k) u:=by
 rcases Yr h with ⟨i,t,rfl,rfl⟩|⟨x,t,rfl,rfl⟩
 ·exact⟨t,rfl⟩
 ·exact⟨t,rfl⟩
theorem ZhI{kvs:List (Key×V)}{vs:List (Key×Value)}(r:KV kvs vs):∀{i:Nat} {p:Key×V},kvs[i]? =some p->∃u,vs[i]? =some (p.1,u)/\ZC p.2 u:=by
 induction r with
 |nil=>intro i p e;simp at e
 |cons h _ ih=>
  intro i p e;cases i with
  |zero=>
   obtain rfl:=Option.some.inj ((List.getElem?_cons_zero ..).symm.trans e);refine⟨_, ?_,h.2⟩;rw[List.getElem?_cons_zero,h.1]
  |succ i=>
   rw[List.getElem?_cons_succ] at e
   obtain⟨u,e1,e2⟩:=ih e;exact⟨u,by rw[List.getElem?_cons_succ];exact e1,e2⟩
section
variable {X:Cx} {pins:List (Addr×Obj)} {σ:L2.St} {H:Hp} {s:Shared} {a n:Addr} {p q:HO}
theorem Zg5(I:L2.Inv X pins σ H s)(h:H a=some p)(h1:∀xs,p≠.tup xs)(h2:∀x,p≠.own x)(h3:∀t,p≠.tbl t)(hf:∀o u,X.H₀ a≠some (.frz o u))(ok:Yo X.prog X.w H s.heap a q):L2.Inv X pins σ (upd H a q) s:=by
 have nn:∀b,H b=none->b≠a:=fun b e z=>by subst z;rw[h] at e;cases e
 refine⟨I.ok,I.os,I.bare,⟨I.base.keep,I.base.slot,fun b o e n hx=> ?_,I.base.there,fun b xs e=> ?_,fun b o u e=> ?_,fun b ps e=> ?_⟩,I.loc,I.cell, ?_,fun x c e=> ?_,fun z hz=> ?_,fun b u e=> ?_,I.len⟩
 ·rw[Zf (nn b (I.base.free b o e n hx))];exact I.base.free b o e n hx
 ·have e2:=I.base.tups b xs e;rw[Zf (fun z=>by subst z;rw[h] at e2;exact h1 xs (Option.some.inj e2))]
  exact e2
 ·rw[Zf (fun z=>by subst z;exact hf o u e)]
  exact I.base.frzs b o u e
 ·obtain⟨m,e2⟩:=I.base.tbls b ps e;exact⟨m,by rw[Zf (fun z=>by subst z;rw[h] at e2;exact h3 _ (Option.some.inj e2))];exact e2⟩
 ·rw[Zf (nn _ I.free)];exact I.free
 ·rw[Zf (nn _ (I.freeC x c e))];exact I.freeC x c e
 ·obtain⟨z1,z2,z3⟩:=I.pin z hz;exact⟨z1,by rw[Zf (nn _ z2)];exact z2,z3⟩
 ·have ho:∀c x,H c=some (.own x)->upd H a q c=some (.own x):=fun c x ec=>by
   rw[Zf (fun z=>by subst z;rw[h] at ec;exact h2 x (Option.some.inj ec))]
   exact ec
  have ht:∀c xs,H c=some (.tup xs)->upd H a q c=some (.tup xs):=fun c xs ec=>by
   rw[Zf (fun z=>by subst z;rw[h] at ec;exact h1 xs (Option.some.inj ec))]
   exact ec
  by_cases hb:b=a
  ·subst hb;rw[Zc] at e
   cases e;exact ok.stay (fun _ _ _ z=>z) (fun c z=>ho c _ z) ht
  ·rw[Zf hb] at e
   exact(I.hok b u e).stay (fun _ _ _ z=>z) (fun c z=>ho c _ z) ht
theorem ZdN{kvs:List (Key×V)}(I:L2.Inv X pins σ H s)(h:H a=some (.dK kvs)):∃o,s.heap.get? a=some o/\L2.Inv X pins σ (upd H a (.frz o (.dK kvs))) s:=by
 obtain⟨z1,z2,vs,z3,o,es,ep,z4,z5⟩:=I.hok a _ h;refine⟨o,z4,Zg5 I h (fun _ e=>nomatch e) (fun _ e=>nomatch e) (fun _ e=>nomatch e) (fun o' u e=> ?_) ⟨z4,I.hok a _ h⟩⟩;have:=I.base.frzs a o' u e;rw[h] at this
 cases this
theorem Xq{o:Obj}{u:HO}(I:L2.Inv X pins σ H s)(h:H a=some (.frz o u))(hf:∀o u,X.H₀ a≠some (.frz o u)):L2.Inv X pins σ (upd H a u) s:=
 Zg5 I h (fun _ e=>nomatch e) (fun _ e=>nomatch e) (fun _ e=>nomatch e) hf (I.hok a _ h).2
theorem Zil(I:L2.Inv X pins σ H s)(f:Zec X pins H n)(ok:Yo X.prog X.w (upd H n q) s.heap n q):L2.Inv X pins σ (upd H n q) s:=by
 obtain⟨f0,f1,f2,f3,f4,f5⟩:=f;have ns:∀b u,H b=some u->b≠n:=fun b u e z=>by subst z;rw[f0] at e;cases e
 refine⟨I.ok,I.os,I.bare,⟨I.base.keep,I.base.slot,fun b o e m hx=> ?_,I.base.there,fun b xs e=> ?_,fun b o u e=> ?_,fun b ps e=> ?_⟩,I.loc,I.cell, ?_,fun x c e=> ?_,fun z hz=> ?_,fun b u e=> ?_,I.len⟩
 ·refine(Zf ?_).trans (I.base.free b o e m hx);rintro rfl;rcases f3 with z|z
  ·exact hx z
  ·exact absurd (Nat.lt_of_lt_of_le (Heap.lt_size e) z) (Nat.lt_irrefl _)
 ·have e2:=I.base.tups b xs e;rw[Zf (ns b _ e2)];exact e2
 ·have e2:=I.base.frzs b o u e;rw[Zf (ns b _ e2)];exact e2
 ·obtain⟨m,e2⟩:=I.base.tbls b ps e;exact⟨m,by rw[Zf (ns b _ e2)];exact e2⟩
 ·rw[Zf (Ne.symm f1)];exact I.free
 ·rw[Zf (f4 x c e)];exact I.freeC x c e
 ·obtain⟨z1,z2,z3⟩:=I.pin z hz;exact⟨z1,by rw[Zf (f5 z hz)];exact z2,z3⟩
 ·by_cases hb:b=n
  ·subst hb;rw[Zc] at e
   cases e;exact ok
  ·rw[Zf hb] at e
   exact(I.hok b u e).stay (fun _ _ _ z=>z) (fun c z=>by rw[Zf (ns c _ z)];exact z) fun c xs z=>by rw[Zf (ns c _ z)];exact z
end
theorem Zey{P:Program}{w:World}{H:Hp}{h:Heap}{a:Addr}{o:Obj}{kvs:List (Key×V)}(ok:HOk P w H h)(e:H a=some (.frz o (.dK kvs))){es:Array DictEntry}{ep:Nat}(hd:o.data=.dict es ep):
  (a==sysModules)=false/\∃vs,KV kvs vs/\h.DictAt (Yc P w) a vs ep:=by
 obtain⟨ho,z1,z2,vs,z3,o',es',ep',z4,z5,z6,z7⟩:=ok a _ e;rw[ho] at z4
 cases z4;rw[hd] at z6
 cases z6;exact⟨z2,vs,z3,o,es,ho,z5,hd,z7⟩
def Itk(a:Addr)(o:Obj)(kvs:List (Key×V)):It:=
 ⟨fun i H=>H a=some (.frz o (.dK kvs))/\i<kvs.length,fun i H x H'=>H'=H/\∃kv,kvs[i]? =some kv/\x=kV kv.1,fun i H=>H a=some (.frz o (.dK kvs))/\kvs.length<=i⟩
def Iti(a:Addr)(o:Obj)(kvs:List (Key×V)):It:=
 ⟨fun i H=>H a=some (.frz o (.dK kvs))/\i<kvs.length,fun i H x H'=>∃kv p,kvs[i]? =some kv/\H p=none/\x=.ref p/\H'=upd H p (.tup [kV kv.1,kv.2]),fun i H=>H a=some (.frz o (.dK kvs))/\kvs.length<=i⟩
theorem Zim{P:Program}{w:World}{K:PySem.W.Frag}{tg:PySem.Expr}(a it:Addr){o:Obj}{kvs:List (Key×V)}{es:Array DictEntry}{ep:Nat}(hd:o.data=.dict es ep)(n:Nat)(hn:n=kvs.length):
  ZiR P w K tg (Itk a o kvs) [it] it (fun i h=>h.IsKeyIter it a i n ep) where
 mem:=by simp
 obj:=fun i h st b hb=>by
  have e:b=it:=by simpa using hb
  subst e;obtain⟨o,e,c,d⟩:=st;exact⟨o,e,fun v z=>by rw[d] at z;cases z⟩
 keep:=fun i h h' st k=>st.at fun o e=>k it (by simp) o e
 item:=by
  intro X hP hw hK hc i pins s σ H E I hf st hg;subst hP hw hK;obtain⟨hz,hlt⟩:=hg;obtain⟨_,vs,rv,hm⟩:=Zey I.hok hz hd;obtain⟨kv,hx⟩:∃kv,kvs[i]? =some kv:=⟨kvs[i],by simp[hlt]⟩
  obtain⟨u,hu,ru⟩:=ZhI rv hx;obtain⟨f0,f1,f2,f3,f4,f5⟩:=hf it (by simp);have el:n=vs.length:=by rw[hn];exact Paired.length rv
  rw[el] at st
  refine wpAny_pyNext_dict_item st hm hu fun key h' hk st' sb=> ?_;have I1:L2.Inv X pins σ H {s with heap:=h'}:=I.turned (t':=s.toks) (fun b o hb e=>(sb.2 b hb).trans e) f0 f1 f3 f4 f5;obtain⟨ob,e,c,d⟩:=id st';refine⟨key,rfl,ZiS (s:={s with heap:=h'}) e c d (by decide) ⟨kV kv.1,H,I1,Zh0 hk,⟨rfl,kv,hx,rfl⟩, ?_,fun b hb=>(hf b hb).1⟩⟩;show h'.IsKeyIter it a (i+1) n ep;rw[el];exact st'
 done:=by
  intro X hP hw hK hc i pins s σ H E I hf st hg;subst hP hw hK;obtain⟨hz,hle⟩:=hg;obtain⟨_,vs,rv,hm⟩:=Zey I.hok hz hd;have el:n=vs.length:=by rw[hn];exact Paired.length rv
  rw[el] at st
  obtain⟨f0,f1,f2,f3,f4,f5⟩:=hf it (by simp);exact wpAny_pyNext_dict_end (I.ok.hd hc) st hm (List.getElem?_eq_none (by omega)) fun h' eb=>⟨rfl,I.turned (t':=s.toks) (fun b o hb e=>eb b o hb e) f0 f1 f3 f4 f5⟩
 self:=fun _ _ _ _ _ st h=>wpAny_pyIter_keyiter st h
theorem Zh1{P:Program}{w:World}{K:PySem.W.Frag}{elts:List PySem.Expr}{x1:Nat}{pos:Pos}(a it:Addr){o:Obj}{kvs:List (Key×V)}{es:Array DictEntry}{ep:Nat}(hd:o.data=.dict es ep)(n:Nat)(hn:n=kvs.length):
  ZiR P w K (.Tuple elts x1 pos) (Iti a o kvs) [it] it (fun i h=>∃ok ov,IsItemIter h it a i n ep ok ov) where
 mem:=by simp
 obj:=fun i h st b hb=>by
  have e:b=it:=by simpa using hb
  subst e;obtain⟨ok,ov,e⟩:=st;exact⟨_,e,fun v z=>by cases z⟩
 keep:=fun i h h' ⟨ok,ov,e⟩ k=>⟨ok,ov,k it (by simp) _ e⟩
 item:=by
  intro X hP hw hK hc i pins s σ H E I hf st hg;subst hP hw hK;obtain⟨hz,hlt⟩:=hg;obtain⟨_,vs,rv,hm⟩:=Zey I.hok hz hd;obtain⟨kv,hx⟩:∃kv,kvs[i]? =some kv:=⟨kvs[i],by simp[hlt]⟩
  obtain⟨u,hu,ru⟩:=ZhI rv hx;obtain⟨f0,f1,f2,f3,f4,f5⟩:=hf it (by simp);have el:n=vs.length:=by rw[hn];exact Paired.length rv
  rw[el] at st
  obtain⟨ok,ov,st⟩:=st;refine wpAny_pyNext_items_item st hm hu fun key h' hk st' nt sz kp=> ?_;refine⟨_,rfl,wpAny_letOwnedTupleGo_items (s:={s with heap:=h'}) st' fun h2 st2 sb2=> ?_⟩;have nit:s.heap.objs.size≠it:=fun z=>by
   exact absurd (Heap.lt_size st) (by rw[<-z];exact Nat.lt_irrefl _)
  have I1:L2.Inv X pins σ H {s with heap:=h2,toks:=s.toks}:=I.turned (t':=s.toks) (fun b o hb e=>(sb2.2 b hb).trans (kp b o hb e)) f0 f1 f3 f4 f5;have fn:=I.fpOk (H':=H) (Nat.le_refl _) (I.hok.fresh (Nat.le_refl _));have I2:=Zil (q:=.tup [kV kv.1,kv.2]) I1 fn ⟨by show 2<=sizeLine;rw[sizeLine_eq];decide,[key,u],.cons (Zh0 hk) (.cons ru .nil),{cls:=.type "tuple",data:=.seq #[key,u]},(sb2.2 _ nit).trans nt,rfl,_,rfl⟩
  refine⟨.ref s.heap.objs.size,_,I2,rfl,⟨kv,_,hx,fn.1,rfl,rfl⟩,⟨key,u, ?_⟩,fun b hb=> ?_⟩
  ·show IsItemIter h2 it a (i+1) n ep key u;rw[el];exact st2
  ·have e:b=it:=by simpa using hb
   subst e;rw[Zf (Ne.symm nit)];exact f0
 done:=by
  intro X hP hw hK hc i pins s σ H E I hf st hg;subst hP hw hK;obtain⟨hz,hle⟩:=hg;obtain⟨_,vs,rv,hm⟩:=Zey I.hok hz hd;have el:n=vs.length:=by rw[hn];exact Paired.length rv
  rw[el] at st
  obtain⟨ok,ov,st⟩:=st;obtain⟨f0,f1,f2,f3,f4,f5⟩:=hf it (by simp);exact wpAny_pyNext_items_end (I.ok.hd hc) st hm (List.getElem?_eq_none (by omega)) fun h' eb=>⟨rfl,I.turned (t':=s.toks) (fun b o hb e=>eb b o hb e) f0 f1 f3 f4 f5⟩
 self:=fun _ _ _ _ _ ⟨_,_,st⟩ h=>PySem.W.kcp_self st h
section
variable {X:Cx} {tg:PySem.Expr}
def Zmu(tl:TE):TI:=fun σ H R=>tl σ H fun x H1=>∃a kvs,x=.ref a/\H1 a=some (.dK kvs)/\∀o,R (Itk a o kvs) (upd H1 a (.frz o (.dK kvs)))
theorem ZkB{l:PySem.Expr}{tl:TE}(hl:PE X l tl):PI X tg l (Zmu tl):=by
 intro pins s σ H R I h;refine thn (hl pins s σ H _ I h) fun v s1 ⟨x,H1,I1,r1,q1⟩=> ?_;obtain⟨a,kvs,e,hq,q⟩:=q1;subst e;cases r1;obtain⟨o,ho,I2⟩:=ZdN I1 hq;obtain⟨z1,z2,vs0,z3,o',es,ep,z4,z5,z6,z7⟩:=I1.hok a _ hq;rw[ho] at z4
 cases z4;obtain⟨hs,vs,rv,hm⟩:=Zey I2.hok Zc z6;have el:kvs.length=vs.length:=Paired.length rv;refine wpAny_pyIter_dict hs hm ?_;refine⟨s1.heap.objs.size,[s1.heap.objs.size],_,_,_,rfl,I2.kept (t':=s1.toks) fun b o e=>Heap.get?_push_of_some _ e,Zim a _ z6 vs.length el.symm,⟨_,Heap.get?_push_size _ rfl,rfl,rfl⟩,fun b hb=> ?_,q o⟩;have e:b=s1.heap.objs.size:=by simpa using hb
 subst e;exact I2.fpOk (Nat.le_refl _) (I2.hok.fresh (Nat.le_refl _))
def XC(v a:Addr):HO:=.ext fun h=>h.IsItemsView v a
def Zjh(tl:TE):TE:=fun σ H Q=>tl σ H fun x H1=>∃a kvs,x=.ref a/\H1 a=some (.dK kvs)/\∀v,H1 v=none->Q (.ref v) (upd H1 v (XC v a))
theorem Zcf{o:PySem.Expr}{to:TE}{apos cpos:Pos}(ho:PE X o to)
  (hbase:attributeBase o "items" X.env (eval o X.env)=eval o X.env:=by rfl)(hline:(apos.endLine==cpos.line)=true:=by rfl):PE X (.Call (.Attribute o "items" apos) [] [] cpos) (Zjh to):=by
 intro pins s σ H Q I h;refine wpAny_Call_method0_late hbase hline (thn (ho pins s σ H _ I h) fun v s1 ⟨x,H1,I1,r1,a,kvs,e,ha,q1⟩=> ?_);subst e;cases r1;obtain⟨h1,h2⟩:=ZgQ (T:="dict") (x:=.ref a) I1 rfl (.inr (.inr (.inl ⟨rfl,.inl ⟨kvs,ha⟩⟩)));obtain⟨z1,z2,vs,z3,z4⟩:=I1.hok a _ ha;refine⟨"dict","dict.items",F.plainAttrs_dict,F.slot_dict_items,F.type_dict_items,h1,h2,Calls.callWith_builtin rfl (PySem.evalArgs_none ?_)⟩
 refine call_meetsIn F.slot_dict_items h1 F.entry_dict_items (F.args_dict_items_1 _) (meets_dict_items (Yc X.prog X.w) a z2) ⟨⟨vs,z4⟩, ?_⟩;refine⟨.ref _,_,I1.laid (a:=s1.heap.objs.size) (o:=XC s1.heap.objs.size a) (t':=s1.toks) (fun b q hq=>Heap.get?_push_of_some _ hq) (Nat.le_refl _) ?_,rfl,q1 _ I1.fresh⟩;refine⟨⟨_,Heap.get?_push_size _ rfl,rfl,rfl⟩,⟨_,Heap.get?_push_size _ rfl⟩,fun g1 g2 z k=> ?_⟩
 obtain⟨ob,e1,e2⟩:=z;exact⟨ob,k _ e1,e2⟩
def Zji(tl:TE):TI:=fun σ H R=>tl σ H fun x H1=>∃v a kvs,x=.ref v/\H1 v=some (XC v a)/\H1 a=some (.dK kvs)/\∀o,R (Iti a o kvs) (upd H1 a (.frz o (.dK kvs)))
theorem ZdO{l:PySem.Expr}{tl:TE}{elts:List PySem.Expr}{x1:Nat}{pos:Pos}(hl:PE X l tl):PI X (.Tuple elts x1 pos) l (Zji tl):=by
 intro pins s σ H R I h;refine thn (hl pins s σ H _ I h) fun v s1 ⟨x,H1,I1,r1,q1⟩=> ?_;obtain⟨v,a,kvs,e,hv,hq,q⟩:=q1;subst e;cases r1;have vw:s1.heap.IsItemsView v a:=(I1.hok v _ hv).1;obtain⟨o,ho,I2⟩:=ZdN I1 hq;obtain⟨z1,z2,vs0,z3,o',es,ep,z4,z5,z6,z7⟩:=I1.hok a _ hq;rw[ho] at z4
 cases z4;obtain⟨hs,vs,rv,hm⟩:=Zey I2.hok Zc z6;have el:kvs.length=vs.length:=Paired.length rv;refine wpAny_pyIter_items vw hm ?_;refine⟨s1.heap.objs.size,[s1.heap.objs.size],_,_,_,rfl,I2.kept (t':=s1.toks) fun b o e=>Heap.get?_push_of_some _ e,Zh1 a _ z6 vs.length el.symm,⟨_,_,Heap.get?_push_size _ rfl⟩,fun b hb=> ?_,q o⟩;have e:b=s1.heap.objs.size:=by simpa using hb
 subst e;exact I2.fpOk (Nat.le_refl _) (I2.hok.fresh (Nat.le_refl _))
def Zeg(H₀:Hp)(a:Addr)(H H':Hp):Prop:=(∀o u,H₀ a≠some (.frz o u))/\∃o u,H a=some (.frz o u)/\H'=upd H a u
def Zlb(H₀:Hp)(a:Addr)(t:TE):TE:=fun σ H Q=>t σ H fun v H1=>∃H2,Zeg H₀ a H1 H2/\Q v H2
theorem ZkC{e:PySem.Expr}{t:TE}(a:Addr)(h:PE X e t):PE X e (Zlb X.H₀ a t):=fun pins s σ H Q I q=>
 thn (h pins s σ H _ I q) fun _ _ ⟨v,_,I1,r1,H2,⟨hf,o,u,e1,e2⟩,q1⟩=>⟨v,H2,by rw[e2];exact Xq I1 e1 hf,r1,q1⟩
def Zmv(H₀:Hp)(a:Addr)(t:TS):TS:=fun D σ H=>t {nx:=fun σ' H1=>∃H2,Zeg H₀ a H1 H2/\D.nx σ' H2,rt:=fun v H1=>∃H2,Zeg H₀ a H1 H2/\D.rt v H2,bk:=fun σ' H1=>∃H2,Zeg H₀ a H1 H2/\D.bk σ' H2,ct:=fun σ' H1=>∃H2,Zeg H₀ a H1 H2/\D.ct σ' H2} σ H
theorem ZhJ{st:Stmt}{t:TS}(a:Addr)(h:PS X st t):PS X st (Zmv X.H₀ a t):=fun pins s σ H D I q=>
 thn (h pins s σ H _ I q) fun f _ q1=>by
  cases f with
  |next=>obtain⟨σ7,H7,I7,H2,⟨hf,o,u,e1,e2⟩,q7⟩:=q1;exact⟨σ7,H2,by rw[e2];exact Xq I7 e1 hf,q7⟩
  |cont=>obtain⟨σ7,H7,I7,H2,⟨hf,o,u,e1,e2⟩,q7⟩:=q1;exact⟨σ7,H2,by rw[e2];exact Xq I7 e1 hf,q7⟩
  |brk=>obtain⟨σ7,H7,I7,H2,⟨hf,o,u,e1,e2⟩,q7⟩:=q1;exact⟨σ7,H2,by rw[e2];exact Xq I7 e1 hf,q7⟩
  |ret v=>obtain⟨x7,σ7,H7,I7,r7,H2,⟨hf,o,u,e1,e2⟩,q7⟩:=q1;exact⟨x7,σ7,H2,by rw[e2];exact Xq I7 e1 hf,r7,q7⟩
end
end L3
namespace L3
open PySem PySem.Spec PyProof.Rows L2
theorem Zmw{A B:Hp->Prop}{σ:L2.St}{H:Hp}(h:A H):ZdM σ H (fun b H5=>if b=true then A H5 else B H5):=by
 unfold ZdM;exact Jo h
structure Zmx (n:Nat) (Pv:Nat->List V->Hp->Prop) (D:Addr) (J:It) (own:List Str) (fr:List (Str×Nat)) (g:TG) (tc:TT) (te:TE) (σ:L2.St) (H:Hp) (Q:VK):Prop where
 hn:n<=sizeLine
 h0:Pv 0 [] (upd H D (.lst []))
 hlen:∀i ys H2,Pv i ys H2->ys.length<=i
 st:∀i ys zs H2 H3,H2 D=some (.lst zs)->(∀b u,b≠D->H2 b=some u->H3 b=some u)->Pv i ys H2->Pv i ys H3
 hgo:∀i ys H2,Pv i ys H2->i<n->J.go i H2
 hstop:∀ys H2,Pv n ys H2->H2 D=some (.lst ys)->J.stop n H2/\Q (.ref D) H2
 hstep:∀i x ys H2 H3,Pv i ys H2->H2 D=some (.lst ys)->i<n->J.yld i H2 x H3->∀(RT:V->Hp->Prop) (RF:Hp->Prop),(∀v H6,H6 D=some (.lst ys)->Pv (i+1) (ys++[v]) H6->RT v H6)->(∀H5,H5 D=some (.lst ys)->Pv (i+1) ys H5->RF H5)->
   g x (frY own fr σ) H3 fun σ3 H4=>Ext (frY own fr σ) σ3/\tc σ3 H4 fun b H5=>if b=true then te σ3 H5 RT else RF H5
theorem ZdP{J:It}{own:List Str}{fr:List (Str×Nat)}{g:TG}{tc:TT}{te:TE}{σ:L2.St}{H:Hp}{Q:VK}(h:∀D,H D=none->∃n Pv,Zmx n Pv D J own fr g tc te σ H Q):Zjb J own fr g tc te σ H Q:=by
 intro D hD;obtain⟨n,Pv,hn,h0,hlen,st,hgo,hstop,hstep⟩:=h D hD;refine⟨fun i m ys H2=>m=n-i/\i<=n/\H2 D=some (.lst ys)/\Pv i ys H2,⟨n,by simp,Nat.zero_le _,Zc,h0⟩, ?_⟩;rintro i m ys H2 ⟨rfl,hi,d2,p2⟩;refine⟨d2, ?_⟩
 by_cases hlt:i<n
 ·refine .inr ⟨hgo i ys H2 p2 hlt,fun zs H'=>H' D=some (.lst zs)/\Pv (i+1) zs H',fun zs H' ⟨e1,e2⟩=>⟨n-(i+1),by omega,rfl,hlt,e1,e2⟩,fun x H' y=> ?_⟩;have l2:=hlen i ys H2 p2;exact hstep i x ys H2 H' p2 d2 hlt y _ _ (fun v H6 e6 p6=>⟨e6,by omega,Zc,st _ _ _ _ _ e6 (fun b u nb e=>by rw[Zf nb];exact e) p6⟩) fun H5 e5 p5=>⟨e5,p5⟩
 ·have e:i=n:=by omega
  subst e;exact .inl (hstop ys H2 p2 d2)
theorem Zfa{J:It}{own:List Str}{fr:List (Str×Nat)}{g:TG}{tc:TT}{te:TE}{σ:L2.St}{H:Hp}{Q:VK}(n:Nat)(out:Nat->List V)(hn:n<=sizeLine)(ho:∀i,(out i).length<=1)
  (hgo:∀i H2,Zx H H2->i<n->J.go i H2)(hstop:∀H2,Zx H H2->J.stop n H2)
  (hstep:∀i x H2 H3,Zx H H2->i<n->J.yld i H2 x H3->∀(RT:V->Hp->Prop) (RF:Hp->Prop),(∀v H6,out i=[v]->Zx H2 H6->RT v H6)->(∀H5,out i=[]->Zx H2 H5->RF H5)->
   g x (frY own fr σ) H3 fun σ3 H4=>Ext (frY own fr σ) σ3/\tc σ3 H4 fun b H5=>if b=true then te σ3 H5 RT else RF H5)
  (q:∀D H2,H D=none->Zx H H2->H2 D=some (.lst ((List.range n).flatMap out))->Q (.ref D) H2):Zjb J own fr g tc te σ H Q:=by
 have len:∀i,((List.range i).flatMap out).length<=i:=by
  intro i
  induction i with
  |zero=>simp
  |succ i ih=>
   have h1:=ho i;rw[List.range_succ,List.flatMap_append,List.length_append];simp only [List.flatMap_cons,List.flatMap_nil,List.append_nil];omega
 have nxt:∀i,(List.range (i+1)).flatMap out=(List.range i).flatMap out++out i:=fun i=>by
  rw[List.range_succ,List.flatMap_append];simp
 refine ZdP fun D hD=>⟨n,fun i ys H2=>ys=(List.range i).flatMap out/\Zx H H2,hn,⟨rfl,fun b u e=>by rw[Zf (Zn e hD)];exact e⟩,fun i ys H2 p=>by rw[p.1];exact len i,fun i ys zs H2 H3 _ k p=>⟨p.1,fun b u e=>k b u (Zn e hD) (p.2 b u e)⟩,
  fun i ys H2 p lt=>hgo i H2 p.2 lt,fun ys H2 p d=>⟨hstop H2 p.2,q D H2 hD p.2 (by rw[<-p.1];exact d)⟩,fun i x ys H2 H3 p d lt y RT RF rt rf=> ?_⟩
 exact hstep i x H2 H3 p.2 lt y RT RF (fun v H6 e s=>rt v H6 (s _ _ d) ⟨by rw[nxt,e,p.1],p.2.trans s⟩) fun H5 e s=>rf H5 (s _ _ d) ⟨by rw[nxt,e,List.append_nil,p.1],p.2.trans s⟩
theorem Zb2{α β:Type}(f:α->β):∀l:List α,l.flatMap (fun a=>[f a])=l.map f
 |[]=>rfl
 |a::l=>by rw[List.flatMap_cons,List.map_cons,Zb2 f l];rfl
theorem Zin{α β:Type}(xs:List α)(f:α->β)(d:β):(List.range xs.length).map (fun i=>((xs[i]?).map f).getD d)=xs.map f:=by
 apply List.ext_getElem
 ·simp
 ·intro i h1 h2;have h3:i<xs.length:=by simpa using h1
  simp[h3]
theorem ZbP{α β:Type}(f:α->List β):∀xs:List α,(List.range xs.length).flatMap (fun i=>((xs[i]?).map f).getD [])=xs.flatMap f
 |[]=>rfl
 |x::xs=>by
  rw[List.length_cons,List.range_succ_eq_map,List.flatMap_cons,List.flatMap_map,List.flatMap_cons,<-ZbP f xs]
  rfl
theorem Zh2{J:It}{n:Nat}{g:TG}{tb:TS}{D:ZfX}{σ:L2.St}{H:Hp}(Pv:Nat->L2.St->Hp->Prop)(h0:Pv 0 σ H)(hgo:∀i σ H,i<n->Pv i σ H->J.go i H)(hstop:∀σ H,Pv n σ H->J.stop n H/\D.nx σ H)
  (hs:∀i x σ H H',i<n->Pv i σ H->J.yld i H x H'->g x σ H' fun σ2 H2=>tb {D with nx:=Pv (i+1),ct:=Pv (i+1),bk:=D.nx} σ2 H2):
  ∃W:Nat->Nat->L2.St->Hp->Prop,(∃m,W 0 m σ H)/\∀i m σ H,W i m σ H->
   (J.stop i H/\D.nx σ H)\/(J.go i H/\∃N:L2.St->Hp->Prop,(∀σ' H',N σ' H'->∃m',m'<m/\W (i+1) m' σ' H')/\∀x H',J.yld i H x H'->g x σ H' fun σ2 H2=>tb {D with nx:=N,ct:=N,bk:=D.nx} σ2 H2):=by
 refine⟨fun i m σ H=>m=n-i/\i<=n/\Pv i σ H,⟨n,by simp,Nat.zero_le _,h0⟩, ?_⟩;rintro i m σ H ⟨rfl,hi,p⟩
 by_cases hlt:i<n
 ·exact .inr ⟨hgo i σ H hlt p,Pv (i+1),fun σ' H' p'=>⟨n-(i+1),by omega,rfl,hlt,p'⟩,fun x H' y=>hs i x σ H H' hlt p y⟩
 ·have e:i=n:=by omega
  subst e;exact .inl (hstop σ H p)
theorem ZlD:bootBuiltins "any"=some (.builtin "any"):=by decide+kernel
theorem Zez:bootBuiltins "sorted"=some (.builtin "sorted"):=by decide+kernel
section
variable {X:Cx} {pins:List (Addr×Obj)} {σ:L2.St} {H:Hp} {s:Shared}
theorem ZlE{h:Heap}{L:Addr}{m m':Str->Option Value}(a:h.Ns L m)(b:h.Ns L m'):m=m':=by
 obtain⟨o,es,ep,e1,e2,_,e3⟩:=a;obtain⟨o',es',ep',f1,f2,_,f3⟩:=b;rw[e1] at f1
 cases f1;rw[e2] at f2
 cases f2;exact funext fun x=>(e3 x).symm.trans (f3 x)
theorem Zh3{m:Str->Option Value}{g:Heap}{tk:Nat}{more:List (Addr×Obj)}(I:L2.Inv X pins σ H s)(hm:s.heap.Ns X.env.locals m)(F:Fr X.base X.env.locals g m)(N:News X.base X.env.locals g (more++Zdl X.base s.heap X.env.locals)):L2.Inv X pins σ H {s with heap:=g,toks:=tk}:=by
 have kp:∀b o,b≠X.env.locals->s.heap.get? b=some o->g.get? b=some o:=fun b o nb e=>by
  cases hb:X.base.get? b with
  |some o'=>
   have e2:=I.bk b o' hb;rw[e] at e2
   cases e2;exact F.keep b o hb
  |none=>exact(N (b,o) (List.mem_append_right _ (Zdb nb hb e))).1
 have nt:∀b u,H b=some u->b≠X.env.locals:=fun b u e z=>by rw[z,I.free] at e;cases e
 refine I.step (g':=s.gens) (d':=s.drawn) (ch:=[]) (fun _ z=>nomatch z) (fun b o nb _ _ e _=>kp b o nb e) (fun b o nb _ _ e _=>⟨o.slots,kp b o nb e⟩) (fun _ _ _ _ n=>n) (fun b o _ e=> ?_) (fun _ _ e=>e) (fun _ _ _ e=>e) (fun _ ps e=>⟨#[],by rw[e];simp⟩)
  (fun m' hm'=>by rw[ZlE hm' hm];exact F.ns) (fun b u e=>(I.hok b u e).stay (fun c v hc z=>kp c v ?_ z) (fun _ z=>z) fun _ _ z=>z) I.bare
 ·by_cases nb:b=X.env.locals
  ·obtain⟨o',_,_,e',_⟩:=F.ns;exact⟨o',by rw[nb];exact e'⟩
  ·exact⟨o,kp b o nb e⟩
 ·rcases hc with rfl|hc
  ·exact nt _ _ e
  ·exact nt _ _ hc
end
section
variable {X:Cx}
theorem Zh4(hc:X.calm=true):JF X (.builtin "any") (fun xs H Q=>∃(p:Addr) (bs:List Bool),xs=[.ref p]/\SqL X.K H p (bs.map V.bl)/\Q (.bl (bs.any id)) H):=by
 intro pins s σ H xs us Q I r h;obtain⟨p,bs,rfl,hq,q⟩:=h;obtain⟨u,rfl,rx⟩:=Zaj r;cases rx;obtain⟨its,r',pl,hz⟩:=I.list hq;have hb:=ZbN r';have hlt:p<s.heap.objs.size:=pl.lt;refine call_any_walk (wpAny_pyIter_list pl.isList ?_);refine⟨s.heap.objs.size,[s.heap.objs.size,p],[s.heap.objs.size],its.toArray.size,_,_,fun i=>(bs[i]?).getD false,rfl,Walks.list (A:=X.A.in1) (I.ok.hd hc) _ p (Nat.ne_of_lt hlt) its.toArray,
  ⟨⟨_,Heap.get?_push_size _ rfl,rfl,rfl⟩,pl.isList.push _⟩,fun i v s' Q' E' hP hQ=> ?_,fun h' tk hk=> ?_⟩
 ·obtain⟨bit,ebit,rfl⟩:=hb.get i v (by simpa using hP);simp only [ebit,Option.getD_some] at hQ
  exact wpAny_truthy_bool hQ
 ·have e:((List.range its.toArray.size).any fun i=>(bs[i]?).getD false)=bs.any id:=by
   rw[List.size_toArray,hb.length];exact LSm.range_any bs
  rw[e];exact⟨.bl (bs.any id),H,I.kept (LSm.kept_iter hk),rfl,q⟩
def Zb3(ns:List Int)(M:Int):Prop:=M∈ns/\∀a∈ns,a<=M
theorem Zcg:JF X (.type "dict") (fun xs H Q=>∃a kvs,xs=[.ref a]/\Rd H a (.dK kvs)/\∀p,H p=none->Q (.ref p) (upd H p (.dK kvs))):=by
 intro pins s σ H xs us Q I r h;obtain⟨a,kvs,rfl,hq,q⟩:=h;obtain⟨u,rfl,rx⟩:=Zaj r;cases rx;exact Zj9 I hq fun p s' hp I'=>⟨.ref p,_,I',rfl,q p hp⟩
end
def ZbI(a:Addr)(kvs:List (Key×V))(H H2:Hp):Prop:=(∀b u,b≠a->H b=some u->H2 b=some u)/\∃o,H2 a=some (.frz o (.dK kvs))
theorem ZbI.rd{a:Addr}{kvs:List (Key×V)}{H H2:Hp}(f:ZbI a kvs H H2):Rd H2 a (.dK kvs):=f.2.elim fun o e=> .inr ⟨o,e⟩
theorem ZbI.rd2{a b:Addr}{kvs ks:List (Key×V)}{H H2:Hp}(f:ZbI a kvs H H2)(ha:H a=some (.dK kvs))(hb:Rd H b (.dK ks)):Rd H2 b (.dK ks):=by
 by_cases e:b=a
 ·subst e;rcases hb with hb|⟨o,hb⟩
  ·rw[ha] at hb;cases hb;exact f.rd
  ·rw[ha] at hb;cases hb
 ·rcases hb with hb|⟨o,hb⟩
  ·exact .inl (f.1 b _ e hb)
  ·exact .inr ⟨o,f.1 b _ e hb⟩
theorem ZbI.thaw{H₀:Hp}{a:Addr}{kvs:List (Key×V)}{H H2:Hp}(f:ZbI a kvs H H2)(ha:H a=some (.dK kvs))(hf:∀o u,H₀ a≠some (.frz o u)):Zeg H₀ a H2 (upd H2 a (.dK kvs))/\Zx H (upd H2 a (.dK kvs)):=by
 obtain⟨o,e⟩:=f.2;refine⟨⟨hf,o,_,e,rfl⟩,fun b u h=> ?_⟩
 by_cases hb:b=a
 ·subst hb;rw[ha] at h
  cases h;exact Zc
 ·rw[Zf hb];exact f.1 b u hb h
theorem Zh5{K:PySem.W.Frag}{H₀:Hp}{own:List Str}{fr:List (Str×Nat)}{te:TE}{σ:L2.St}{H:Hp}{Q:VK}{i0 i1 j:Nat}{a:Addr}{kvs:List (Key×V)}(f:Key×V->V)(hv:σ[j]? =some (some (.ref a)))(ha:H a=some (.dK kvs))(hz:kvs.length<=sizeLine)(hf:∀o u,H₀ a≠some (.frz o u))
  (hx:∀v u,Ext (frY own fr σ) (((frY own fr σ).set i0 (some v)).set i1 (some u)))(he:∀kv∈kvs,∀H2 (Q2:VK),ZbI a kvs H H2->(∀H3,Zx H2 H3->Q2 (f kv) H3)->te (((frY own fr σ).set i0 (some (kV kv.1))).set i1 (some kv.2)) H2 Q2)
  (q:∀D H2,Zx H H2->H D=none->H2 D=some (.lst (kvs.map f))->Q (.ref D) H2):Zlb H₀ a (Zjc (Zji (Zjh (Zi3 j))) own fr (Zlq K 2 (ZiP (ZhB i0) (ZiP (ZhB i1) Zm8))) ZdM te) σ H Q:=by
 refine⟨_,hv,a,kvs,rfl,ha,fun v hv0=>⟨v,a,kvs,rfl,Zc, ?_,fun o=> ?_⟩⟩
 ·rw[Zf (Zn ha hv0)];exact ha
 have hva:v≠a:=fun e=>by rw[e,ha] at hv0;cases hv0
 have fs:∀{H2:Hp},Zx (upd (upd H v (XC v a)) a (.frz o (.dK kvs))) H2->ZbI a kvs H H2:=fun s=>⟨fun b u n e=>s b u (by rw[Zf n,Zf (Zn e hv0)];exact e),o,s _ _ Zc⟩
 refine Zfa kvs.length (fun i=>((kvs[i]?).map fun kv=>[f kv]).getD []) hz (fun i=>by cases kvs[i]? <;>simp) (fun i H2 s lt=>⟨s _ _ Zc,lt⟩) (fun H2 s=>⟨s _ _ Zc,Nat.le_refl _⟩) (fun i x H2 H3 s lt y RT RF rt rf=> ?_) fun D H2 hD s d=> ?_
 ·obtain⟨kv,p,e2,hp,e3,e4⟩:=y;subst e3 e4;have s3:Zx H2 (upd H2 p (.tup [kV kv.1,kv.2])):=fun b u e=>by rw[Zf (Zn e hp)];exact e
  refine⟨p,_,rfl,SqT.of Zc,rfl,_,_,rfl,_,_,rfl,rfl,hx _ _, ?_⟩;unfold ZdM;refine Jo ?_;exact he kv (List.mem_of_getElem? e2) _ RT (fs (s.trans s3)) fun H4 s4=>rt _ H4 (by rw[e2];rfl) (s3.trans s4)
 ·have hDa:D≠a:=fun e=>by rw[e,Zc] at hD;cases hD
  have hDv:D≠v:=fun e=>by rw[e,Zf hva,Zc] at hD;cases hD
  obtain⟨t1,t2⟩:=(fs s).thaw ha hf;refine⟨_,t1,q D _ t2 (by rw[Zf hDa,Zf hDv] at hD;exact hD) ?_⟩
  rw[Zf hDa,d,ZbP (fun kv:Key×V=>[f kv]) kvs,Zb2]
end L3
namespace L3
open PySem PySem.Spec PyProof.Rows L2
def EqP(P:Program)(w:World)(A:Around)(s:Shared)(y x:Value)(k:Bool):Prop:=∀(E:Value->Shared->Prop) (Q:Bool->Shared->Prop),Q k s->wpAny (model P w) A (eqBool y x) Q E s
def RcP(P:Program)(w:World)(A:Around)(s:Shared)(op:CmpOp)(y x:Value)(k:Bool):Prop:=∀(E:Value->Shared->Prop) (Q:Value->Shared->Prop),Q (.bool k) s->wpAny (model P w) A (richCompare op y x) Q E s
theorem EqP.refs{P:Program}{w:World}{A:Around}{s:Shared}{l b:Addr}{k:Bool}(n:l≠b)(h:RcP P w A s .Eq (.ref l) (.ref b) k):EqP P w A s (.ref l) (.ref b) k:=by
 intro E Q q;unfold eqBool;refine wpAny_holding (wpAny_ite_split (fun z=>absurd (Value.ref.inj (eq_of_beq z)) n) fun _=>wpAny_bind ?_);exact h E _ (wpAny_truthy_bool q)
abbrev Zdh(d:Option Addr)(t:Array Value)(n:Nat)(sl:Array (Option Value)):Obj:={cls:=.type "list",dict:=d,data:=.seq t n,slots:=sl}
abbrev Zio(d:Option Addr)(t:Array Value)(n:Nat)(sl:Array (Option Value)):Obj:={cls:=.type "tuple",dict:=d,data:=.seq t n,slots:=sl}
section
variable {P:Program} {w:World} (l b:Addr) (xs ys:Array Value) (n m:Nat) (d1 d2:Option Addr) (s1 s2:Array (Option Value)) (e:Nat->Bool)
theorem Zjj(hz:xs.size=ys.size)(c:Int)(hc:c=2\/c=3)(k:Nat):∀i:Nat,xs.size-i=k->MeetsIn P w (Builtin.«list.__eq__.loop» ⟨[.ref l,.ref b,rawInt i,rawInt c],[]⟩)
  (fun A R s=>s.heap.get? l=some (Zdh d1 xs n s1)/\s.heap.get? b=some (Zdh d2 ys m s2)/\(∀j (h1:j<xs.size) (h2:j<ys.size),EqP P w A.in1 s xs[j] ys[j] (e j))/\
   R (.ok (.ret (.bool (if c=2 then((List.range xs.size).drop i).all e else !((List.range xs.size).drop i).all e)))) s):=by
 induction k with
 |zero=>
  intro i hk A R s h;obtain⟨hq,gs,dr,tk,oss⟩:=s;obtain⟨u1,u2,ue,q⟩:=h;have v1:xs[((i:Nat):Int).toNat]? =none:=by simp;omega
  have v2:ys[((i:Nat):Int).toNat]? =none:=by simp;omega
  have v3:(List.range xs.size).drop i=[]:=by simp;omega
  rw[v3] at q
  rcases hc with rfl|rfl
  ·wp_walk using AutoSeq1.wpAny_loadPart' u1,AutoSeq1.wpAny_loadPart' u2
   rw[v1,v2]
   wp_walk using AutoSeq1.wpAny_loadPart' u1,AutoSeq1.wpAny_loadPart' u2
   show R (.ok (.ret (.bool (xs.size==ys.size)))) _;rw[hz,beq_self_eq_true];exact q
  ·wp_walk using AutoSeq1.wpAny_loadPart' u1,AutoSeq1.wpAny_loadPart' u2
   rw[v1,v2]
   wp_walk using AutoSeq1.wpAny_loadPart' u1,AutoSeq1.wpAny_loadPart' u2
   show R (.ok (.ret (.bool (xs.size !=ys.size)))) _;rw[hz,bne_self_eq_false];exact q
 |succ k ih=>
  intro i hk A R s h;obtain⟨hq,gs,dr,tk,oss⟩:=s;obtain⟨u1,u2,ue,q⟩:=h;have t1:i<xs.size:=by omega
  have t2:i<ys.size:=by omega
  have v1:xs[((i:Nat):Int).toNat]? =some xs[i]:=by simp[t1]
  have v2:ys[((i:Nat):Int).toNat]? =some ys[i]:=by simp[t2]
  have v3:(List.range xs.size).drop i=i::(List.range xs.size).drop (i+1):=by simp[List.drop_eq_getElem_cons,t1]
  have v4:((i:Int)+1)=((i+1:Nat):Int):=by push_cast;rfl
  rw[v3,List.all_cons] at q
  rcases hc with rfl|rfl
  ·wp_walk using AutoSeq1.wpAny_loadPart' u1,AutoSeq1.wpAny_loadPart' u2
   rw[v1,v2];refine wpAny_bind (ue i t1 t2 _ _ ?_);cases ei:e i with
   |true=>
    rw[ei,Bool.true_and] at q
    wp_walk
    rw[v4];refine⟨plainId_quiet MeetsSeq3.plain_eq_loop _,codeAny_builtin MeetsSeq3.entry_eq_loop ?_⟩;rw[Around.under_plainId MeetsSeq3.plain_eq_loop _];exact ih (i+1) (by omega) A R _ ⟨u1,u2,ue,q⟩
   |false=>
    rw[ei,Bool.false_and] at q
    wp_walk using AutoSeq1.wpAny_loadPart' u1,AutoSeq1.wpAny_loadPart' u2
    rw[v1,v2]
    wp_walk
    exact q
  ·wp_walk using AutoSeq1.wpAny_loadPart' u1,AutoSeq1.wpAny_loadPart' u2
   rw[v1,v2];refine wpAny_bind (ue i t1 t2 _ _ ?_);cases ei:e i with
   |true=>
    rw[ei,Bool.true_and] at q
    wp_walk
    rw[v4];refine⟨plainId_quiet MeetsSeq3.plain_eq_loop _,codeAny_builtin MeetsSeq3.entry_eq_loop ?_⟩;rw[Around.under_plainId MeetsSeq3.plain_eq_loop _];exact ih (i+1) (by omega) A R _ ⟨u1,u2,ue,q⟩
   |false=>
    rw[ei,Bool.false_and] at q
    wp_walk using AutoSeq1.wpAny_loadPart' u1,AutoSeq1.wpAny_loadPart' u2
    rw[v1,v2]
    wp_walk
    exact q
theorem ZlF(hz:xs.size=ys.size):MeetsIn P w (Builtin.«list.__eq__» ⟨[.ref l,.ref b],[]⟩) (fun A R s=>s.heap.get? l=some (Zdh d1 xs n s1)/\s.heap.get? b=some (Zdh d2 ys m s2)/\
  (∀j (h1:j<xs.size) (h2:j<ys.size),EqP P w A.in1 s xs[j] ys[j] (e j))/\R (.ok (.ret (.bool ((List.range xs.size).all e)))) s):=by
 intro A R s h;obtain⟨hq,gs,dr,tk,oss⟩:=s;obtain⟨u1,u2,ue,q⟩:=h;have sub:=AutoSeq1.sub_list_list;have v0:¬(xs.size !=ys.size)=true:=by simp[hz]
 wp_walk using AutoSeq1.wpAny_loadPart' u1,AutoSeq1.wpAny_loadPart' u2
 refine⟨plainId_quiet MeetsSeq3.plain_eq_loop _,codeAny_builtin MeetsSeq3.entry_eq_loop ?_⟩;rw[Around.under_plainId MeetsSeq3.plain_eq_loop _];exact Zjj l b xs ys n m d1 d2 s1 s2 e hz 2 (.inl rfl) _ 0 rfl A R _ ⟨u1,u2,ue,by simpa using q⟩
theorem ZlG(hz:xs.size=ys.size):MeetsIn P w (Builtin.«list.__ne__» ⟨[.ref l,.ref b],[]⟩) (fun A R s=>s.heap.get? l=some (Zdh d1 xs n s1)/\s.heap.get? b=some (Zdh d2 ys m s2)/\
  (∀j (h1:j<xs.size) (h2:j<ys.size),EqP P w A.in1 s xs[j] ys[j] (e j))/\R (.ok (.ret (.bool (!(List.range xs.size).all e)))) s):=by
 intro A R s h;obtain⟨hq,gs,dr,tk,oss⟩:=s;obtain⟨u1,u2,ue,q⟩:=h;have sub:=AutoSeq1.sub_list_list;have v0:¬(xs.size !=ys.size)=true:=by simp[hz]
 wp_walk using AutoSeq1.wpAny_loadPart' u1,AutoSeq1.wpAny_loadPart' u2
 refine⟨plainId_quiet MeetsSeq3.plain_eq_loop _,codeAny_builtin MeetsSeq3.entry_eq_loop ?_⟩;rw[Around.under_plainId MeetsSeq3.plain_eq_loop _];exact Zjj l b xs ys n m d1 d2 s1 s2 e hz 3 (.inr rfl) _ 0 rfl A R _ ⟨u1,u2,ue,by simpa using q⟩
end
end L3
namespace L3
open PySem PySem.Spec PyProof.Rows L2
section
variable {P:Program} {w:World} (l b:Addr) (xs ys:Array Value) (n m:Nat) (d1 d2:Option Addr) (s1 s2:Array (Option Value)) (e:Nat->Bool)
abbrev Jq(xs ys:Array Value)(e:Nat->Bool)(i:Nat):Bool:=((List.range (min xs.size ys.size)).drop i).all e&&xs.size==ys.size
theorem Zmy:MeetsIn P w (Builtin.«tuple.__eq__» ⟨[.ref l,.ref b],[]⟩) (fun A R s=>s.heap.get? l=some (Zio d1 xs n s1)/\s.heap.get? b=some (Zio d2 ys m s2)/\
  (∀j (h1:j<xs.size) (h2:j<ys.size),EqP P w A.in1 s xs[j] ys[j] (e j))/\R (.ok (.ret (.bool (Jq xs ys e 0)))) s):=
 .of_wp fun A R s h=>by
  obtain⟨hq,gs,dr,tk,oss⟩:=s;obtain⟨u1,u2,ue,q⟩:=h;have sub:=AutoSeq1.sub_tuple_tuple;have zl:(xs.toList.zip ys.toList).length=min xs.size ys.size:=by simp
  wp_walk using AutoSeq1.wpAny_loadPart' u1,AutoSeq1.wpAny_loadPart' u2,wpAny_forIn_list _ (fun rest a s'=>a.1=none/\s'=⟨hq,gs,dr,tk,oss⟩/\∃i,rest=(xs.toList.zip ys.toList).drop i/\
   R (.ok (.ret (.bool (Jq xs ys e i)))) ⟨hq,gs,dr,tk,oss⟩) _
  case turn=>
   rintro⟨y,x⟩ rest a s' ⟨ha,rfl,i,zr,zq⟩;have lt:i<(xs.toList.zip ys.toList).length:=Nat.lt_of_not_le fun z=>by rw[List.drop_of_length_le z] at zr;cases zr
   have lm:i<min xs.size ys.size:=zl▸lt;have l1:i<xs.size:=by omega
   have l2:i<ys.size:=by omega
   rw[List.drop_eq_getElem_cons lt] at zr
   injection zr with zyx zrest
   obtain rfl:y=xs[i]:=by simpa using congrArg Prod.fst zyx
   obtain rfl:x=ys[i]:=by simpa using congrArg Prod.snd zyx
   have zd:(List.range (min xs.size ys.size)).drop i=i::(List.range (min xs.size ys.size)).drop (i+1):=by simp[List.drop_eq_getElem_cons,lm]
   unfold Jq at zq
   rw[zd,List.all_cons] at zq
   refine wpAny_bind (ue i l1 l2 _ _ ?_);cases ei:e i with
   |true=>
    rw[ei,Bool.true_and] at zq
    wp_walk
    exact⟨rfl,rfl,i+1,zrest,zq⟩
   |false=>
    rw[ei,Bool.false_and,Bool.false_and] at zq
    wp_walk
    exact⟨_,rfl,zq⟩
  case fin=>
   rintro⟨a1,a2⟩ s' ⟨ha,rfl,i,zr,zq⟩;simp only at ha
   subst ha;have ge:min xs.size ys.size<=i:=Nat.le_of_not_lt fun z=>by rw[List.drop_eq_getElem_cons (zl▸z:i<(xs.toList.zip ys.toList).length)] at zr;cases zr
   unfold Jq at zq
   rw[List.drop_of_length_le (by simpa using ge)] at zq
   wp_walk
   exact⟨_,rfl,by simpa [Builtin.Tuple.tupleCompareSizes] using zq⟩
  case h=>exact⟨rfl,rfl,0,rfl,q⟩
theorem Zmz:MeetsIn P w (Builtin.«tuple.__ne__» ⟨[.ref l,.ref b],[]⟩) (fun A R s=>s.heap.get? l=some (Zio d1 xs n s1)/\s.heap.get? b=some (Zio d2 ys m s2)/\
  (∀j (h1:j<xs.size) (h2:j<ys.size),EqP P w A.in1 s xs[j] ys[j] (e j))/\R (.ok (.ret (.bool (!Jq xs ys e 0)))) s):=
 .of_wp fun A R s h=>by
  obtain⟨hq,gs,dr,tk,oss⟩:=s;obtain⟨u1,u2,ue,q⟩:=h;have sub:=AutoSeq1.sub_tuple_tuple;have zl:(xs.toList.zip ys.toList).length=min xs.size ys.size:=by simp
  wp_walk using AutoSeq1.wpAny_loadPart' u1,AutoSeq1.wpAny_loadPart' u2,wpAny_forIn_list _ (fun rest a s'=>a.1=none/\s'=⟨hq,gs,dr,tk,oss⟩/\∃i,rest=(xs.toList.zip ys.toList).drop i/\
   R (.ok (.ret (.bool (!Jq xs ys e i)))) ⟨hq,gs,dr,tk,oss⟩) _
  case turn=>
   rintro⟨y,x⟩ rest a s' ⟨ha,rfl,i,zr,zq⟩;have lt:i<(xs.toList.zip ys.toList).length:=Nat.lt_of_not_le fun z=>by rw[List.drop_of_length_le z] at zr;cases zr
   have lm:i<min xs.size ys.size:=zl▸lt;have l1:i<xs.size:=by omega
   have l2:i<ys.size:=by omega
   rw[List.drop_eq_getElem_cons lt] at zr
   injection zr with zyx zrest
   obtain rfl:y=xs[i]:=by simpa using congrArg Prod.fst zyx
   obtain rfl:x=ys[i]:=by simpa using congrArg Prod.snd zyx
   have zd:(List.range (min xs.size ys.size)).drop i=i::(List.range (min xs.size ys.size)).drop (i+1):=by simp[List.drop_eq_getElem_cons,lm]
   unfold Jq at zq
   rw[zd,List.all_cons] at zq
   refine wpAny_bind (ue i l1 l2 _ _ ?_);cases ei:e i with
   |true=>
    rw[ei,Bool.true_and] at zq
    wp_walk
    exact⟨rfl,rfl,i+1,zrest,zq⟩
   |false=>
    rw[ei,Bool.false_and,Bool.false_and] at zq
    wp_walk
    exact⟨_,rfl,zq⟩
  case fin=>
   rintro⟨a1,a2⟩ s' ⟨ha,rfl,i,zr,zq⟩;simp only at ha
   subst ha;have ge:min xs.size ys.size<=i:=Nat.le_of_not_lt fun z=>by rw[List.drop_eq_getElem_cons (zl▸z:i<(xs.toList.zip ys.toList).length)] at zr;cases zr
   unfold Jq at zq
   rw[List.drop_of_length_le (by simpa using ge)] at zq
   wp_walk
   exact⟨_,rfl,by simpa [Builtin.Tuple.tupleCompareSizes,bne] using zq⟩
  case h=>exact⟨rfl,rfl,0,rfl,q⟩
end
theorem JB{c:Bool}{Q E:Value->Shared->Prop}{s:Shared}(q:Q (.bool c) s):wants (fun v s'=>v≠.notImplemented/\Q v s') E (.ok (.ret (.bool c))) s:=⟨(fun z=>nomatch z),q⟩
section
variable {P:Program} {w:World} {A:Around} {s:Shared} {l b:Addr} {xs ys:Array Value} {e:Nat->Bool}
theorem Zjk(hl:s.heap.IsList l xs)(hb:s.heap.IsList b ys)(hz:xs.size=ys.size)(hu:A.units<cLine)(he:∀j (h1:j<xs.size) (h2:j<ys.size),EqP P w A.in1 s xs[j] ys[j] (e j)):RcP P w A s .Eq (.ref l) (.ref b) ((List.range xs.size).all e)/\RcP P w A s .NotEq (.ref l) (.ref b) (!(List.range xs.size).all e):=by
 obtain⟨⟨c1,d1,t1,s1⟩,o1,k1,n,e1⟩:=id hl;obtain⟨⟨c2,d2,t2,s2⟩,o2,k2,m,e2⟩:=id hb;simp only at k1 e1 k2 e2
 subst k1 e1 k2 e2;exact⟨fun E Q q=>wpAny_richCompare_same_room hl.typeIs hb.typeIs F.slot_list_eq (call_meetsIn F.slot_list_eq hl.typeIs F.entry_list_eq (F.args_list_eq_2 _ _) (ZlF l b xs ys n m d1 d2 s1 s2 e hz) ⟨o1,o2,he,JB q⟩) hu,
  fun E Q q=>wpAny_richCompare_same_room hl.typeIs hb.typeIs F.slot_list_ne (call_meetsIn F.slot_list_ne hl.typeIs F.entry_list_ne (F.args_list_ne_2 _ _) (ZlG l b xs ys n m d1 d2 s1 s2 e hz) ⟨o1,o2,he,JB q⟩) hu⟩
theorem ZeA(hl:s.heap.IsList l xs)(hb:s.heap.IsList b ys)(hz:xs.size≠ys.size)(hu:A.units<cLine):RcP P w A s .Eq (.ref l) (.ref b) false/\RcP P w A s .NotEq (.ref l) (.ref b) true:=
 ⟨fun E Q q=>SeqAt.RcAt.lists_lengths hl hb (by simpa using hz) hu P w E Q q,fun E Q q=>SeqAt.RcNeAt.lists_lengths hl hb (by simpa using hz) hu P w E Q q⟩
theorem ZmA(hl:s.heap.IsTuple l xs)(hb:s.heap.IsTuple b ys)(hu:A.units<cLine)(he:∀j (h1:j<xs.size) (h2:j<ys.size),EqP P w A.in1 s xs[j] ys[j] (e j)):RcP P w A s .Eq (.ref l) (.ref b) (Jq xs ys e 0)/\RcP P w A s .NotEq (.ref l) (.ref b) (!Jq xs ys e 0):=by
 obtain⟨⟨c1,d1,t1,s1⟩,o1,k1,n,e1⟩:=id hl;obtain⟨⟨c2,d2,t2,s2⟩,o2,k2,m,e2⟩:=id hb;simp only at k1 e1 k2 e2
 subst k1 e1 k2 e2;exact⟨fun E Q q=>wpAny_richCompare_same_room hl.typeIs hb.typeIs F.slot_tuple_eq (call_meetsIn F.slot_tuple_eq hl.typeIs F.entry_tuple_eq (F.args_tuple_eq_2 _ _) (Zmy l b xs ys n m d1 d2 s1 s2 e) ⟨o1,o2,he,JB q⟩) hu,
  fun E Q q=>wpAny_richCompare_same_room hl.typeIs hb.typeIs F.slot_tuple_ne (call_meetsIn F.slot_tuple_ne hl.typeIs F.entry_tuple_ne (F.args_tuple_ne_2 _ _) (Zmz l b xs ys n m d1 d2 s1 s2 e) ⟨o1,o2,he,JB q⟩) hu⟩
def dEq(a b:List (Key×V)):Bool:=a.length==b.length&&a.all fun kv=>match ZaA b kv.1 with|some u=>eqV kv.2 u|none=>false
theorem ZhK{kb:List (Key×V)}{vb:List (Key×Value)}(rb:KV kb vb)(fb:∀kv∈kb,Xp kv.2=true){ka:List (Key×V)}{va:List (Key×Value)}(ra:KV ka va)(fa:∀kv∈ka,Xp kv.2=true):
  PySem.W.KeqHits A s vb va (ka.all fun kv=>match ZaA kb kv.1 with|some u=>eqV kv.2 u|none=>false):=by
 induction ra with
 |nil=>exact .nil
 | @cons p q ps qs h t ih=>
  obtain⟨k,v⟩:=p;obtain⟨k',u⟩:=q;obtain⟨e1,e2⟩:=h;have e1:k=k':=e1;subst e1;have e2:ZC v u:=e2;have fr:=ih fun kv hm=>fa kv (List.mem_cons_of_mem _ hm);have fv:Xp v=true:=fa (k,v) (List.mem_cons_self ..);have rv:=KV.val rb k;rw[List.all_cons];cases hv:ZaA kb k with
  |none=>
   rw[hv] at rv
   exact .miss (Zau.none_of rv)
  |some y=>
   rw[hv] at rv
   cases hw:valueAt vb k with
   |none=>rw[hw] at rv;exact rv.elim
   |some u'=>
    rw[hw] at rv
    have fy:Xp y=true:=by
     unfold ZaA at hv
     cases hf:kb.find? (fun kv=>decide (kv.1=k)) with
     |none=>rw[hf] at hv;exact nomatch hv
     |some p=>rw[hf] at hv;cases hv;exact fb p (List.mem_of_find?_eq_some hf)
    exact .hit hw (Zj3 e2 rv fv fy) fr
theorem ZlH{ka kb:List (Key×V)}{va vb:List (Key×Value)}(ha:(l==sysModules)=false)(hb:(b==sysModules)=false)(da:s.heap.DictOf (Yc P w) l va)(db:s.heap.DictOf (Yc P w) b vb)(ra:KV ka va)(rb:KV kb vb)
  (fa:∀kv∈ka,Xp kv.2=true)(fb:∀kv∈kb,Xp kv.2=true)(hu:A.units<cLine):RcP P w A s .Eq (.ref l) (.ref b) (dEq ka kb)/\RcP P w A s .NotEq (.ref l) (.ref b) (!dEq ka kb):=by
 have e1:ka.length=va.length:=Paired.length ra;have e2:kb.length=vb.length:=Paired.length rb;unfold dEq;rw[e1,e2];exact⟨fun E Q q=>PySem.W.keq_eq ha hb da db hu (fun _=>ZhK rb fb ra fa) q,fun E Q q=>PySem.W.keq_ne ha hb da db hu (fun _=>ZhK rb fb ra fa) q⟩
end
end L3
namespace L3
open PySem PySem.Spec PyProof.Rows L2
inductive Dt where
 |v (x:V)|lst (ds:List Dt)|tup (ds:List Dt)|dct (kvs:List (Key×V))
inductive Rep (K:PySem.W.Frag) (H:Hp):Dt->V->Prop where
 |flat {x:V} (f:Xp x=true):Rep K H (.v x) x
 |lst {a:Addr} {ds:List Dt} {xs:List V} (h:SqL K H a xs) (r:Paired (Rep K H) ds xs):Rep K H (.lst ds) (.ref a)
 |tup {a:Addr} {ds:List Dt} {xs:List V} (h:SqT K H a xs) (r:Paired (Rep K H) ds xs):Rep K H (.tup ds) (.ref a)
 |dct {a:Addr} {kvs:List (Key×V)} (h:Rd H a (.dK kvs)) (f:∀kv∈kvs,Xp kv.2=true):Rep K H (.dct kvs) (.ref a)
abbrev Zg6(K:PySem.W.Frag)(H:Hp)(ds:List Dt)(xs:List V):Prop:=Paired (Rep K H) ds xs
def Yy:Nat->Dt->Dt->Bool
 |_,.v x,.v y=>eqV x y
 |n+1,.lst a,.lst b=>a.length==b.length&&(a.zip b).all fun p=>Yy n p.1 p.2
 |n+1,.tup a,.tup b=>(a.zip b).all (fun p=>Yy n p.1 p.2)&&a.length==b.length
 |_+1,.dct a,.dct b=>dEq a b
 |_,_,_=>false
def Jb:Nat->Dt->Dt->Bool
 |_,.v _,.v _=>true
 |n+1,.lst a,.lst b=>(a.zip b).all fun p=>Jb n p.1 p.2
 |n+1,.tup a,.tup b=>(a.zip b).all fun p=>Jb n p.1 p.2
 |_+1,.dct _,.dct _=>true
 |_,_,_=>false
theorem Zch{x:V}(f:Xp x=true):eqV x x=true:=by
 cases x with
 |non=>rfl
 |bl b=>exact beq_self_eq_true b
 |int i=>exact beq_self_eq_true i
 |str z=>exact beq_self_eq_true z
 |_=>exact absurd (show false=true from f) Bool.false_ne_true
theorem Zjl{kvs:List (Key×V)}(nd:(kvs.map (·.1)).Nodup)(f:∀kv∈kvs,Xp kv.2=true):dEq kvs kvs=true:=by
 unfold dEq;rw[beq_self_eq_true,Bool.true_and,List.all_eq_true];intro kv hm;have e:ZaA kvs kv.1=some kv.2:=by
  clear f
  induction kvs with
  |nil=>cases hm
  |cons p r ih=>
   rw[List.map_cons,List.nodup_cons] at nd
   rcases List.mem_cons.mp hm with rfl|more
   ·exact ZaX rfl
   ·rw[ZaY (fun z=>nd.1 (by rw[z];exact List.mem_map.mpr ⟨kv,more,rfl⟩))]
    exact ih nd.2 more
 rw[e];exact Zch (f kv hm)
theorem ZlI{H:Hp}{a:Addr}{k1 k2:List (Key×V)}(h1:Rd H a (.dK k1))(h2:Rd H a (.dK k2)):k1=k2:=by
 rcases h1 with h1|⟨o1,h1⟩<;>rcases h2 with h2|⟨o2,h2⟩<;>(rw[h1] at h2;cases h2;try rfl)
section
variable {X:Cx} {pins:List (Addr×Obj)} {σ:L2.St} {H:Hp} {s:Shared}
theorem Zjm{a:Addr}{kvs:List (Key×V)}(I:L2.Inv X pins σ H s)(h:Rd H a (.dK kvs)):(kvs.map (·.1)).Nodup:=by
 obtain⟨_,_,vs,rel,dd⟩:=ZaT I.hok h;rw[KV.keys rel];obtain⟨ep,hat⟩:=dd.dictAt;exact hat.nodup
theorem Zjn(I:L2.Inv X pins σ H s):∀(n:Nat) (d e:Dt) (x:V),Rep X.K H d x->Rep X.K H e x->Jb n d e=true->Yy n d e=true:=by
 have Jc:∀n,(∀(d e:Dt) (x:V),Rep X.K H d x->Rep X.K H e x->Jb n d e=true->Yy n d e=true)->∀{ds es:List Dt} {xs:List V},Zg6 X.K H ds xs->Zg6 X.K H es xs->((ds.zip es).all fun p=>Jb n p.1 p.2)=true->
   ds.length=es.length/\((ds.zip es).all fun p=>Yy n p.1 p.2)=true:=by
  intro n ih ds es xs r1
  induction r1 generalizing es with
  |nil=>intro r2 _;cases r2;exact⟨rfl,rfl⟩
  |cons h1 t1 ih2=>
   intro r2 lk;cases r2 with
   |cons h2 t2=>
    rw[List.zip_cons_cons,List.all_cons,Bool.and_eq_true] at lk
    obtain⟨z1,z2⟩:=ih2 t2 lk.2;refine⟨by simp[z1], ?_⟩;rw[List.zip_cons_cons,List.all_cons,Bool.and_eq_true];exact⟨ih _ _ _ h1 h2 lk.1,z2⟩
 intro n
 induction n with
 |zero=>
  intro d e x h1 h2 lk;cases h1 with
  |flat f=>
   cases h2 with
   |flat f2=>exact Zch f
   |_=>cases f
  |_=>cases h2<;>cases lk
 |succ n ih=>
  intro d e x h1 h2 lk;cases h1 with
  |flat f=>
   cases h2 with
   |flat f2=>exact Zch f
   |_=>cases f
  |lst q1 r1=>
   cases h2 with
   |lst q2 r2=>
    cases I.list_inj q1 q2;obtain⟨z1,z2⟩:=Jc n ih r1 r2 lk;show(_==_&&_)=true;rw[z1,beq_self_eq_true,Bool.true_and];exact z2
   |_=>cases lk
  |tup q1 r1=>
   cases h2 with
   |tup q2 r2=>
    cases I.tuple_inj q1 q2;obtain⟨z1,z2⟩:=Jc n ih r1 r2 lk;show(_&&_==_)=true;rw[z1,beq_self_eq_true,Bool.and_true];exact z2
   |_=>cases lk
  |dct q1 f1=>
   cases h2 with
   |dct q2 f2=>
    cases ZlI q1 q2;exact Zjl (Zjm I q1) f1
   |_=>cases lk
theorem Zdr{n:Nat}{f:Nat->Dt->Dt->Bool}:∀(ds es:List Dt),((ds.zip es).all fun p=>f n p.1 p.2)=(List.range (min ds.length es.length)).all fun j=>f n (ds.getD j (.v .non)) (es.getD j (.v .non))
 |[],es=>by simp
 |_::_,[]=>by simp
 |d::ds,e::es=>by
  rw[List.zip_cons_cons,List.all_cons,Zdr ds es,List.length_cons,List.length_cons,Nat.succ_min_succ,List.range_succ_eq_map,List.all_cons,List.all_map]
  rfl
theorem Zds{K:PySem.W.Frag}:∀{ds:List Dt} {xs:List V} {us:List Value} (_:Zg6 K H ds xs) (_:ZJ xs us) (j:Nat) (h:j<us.length),∃x,Rep K H (ds.getD j (.v .non)) x/\ZC x us[j]
 |_,_,_,.nil,.nil,j,h=>absurd h (Nat.not_lt_zero _)
 |_,_,_,.cons r _,.cons v _,0,_=>⟨_,r,v⟩
 |_,_,_,.cons _ t,.cons _ vt,j+1,h=>by
  obtain⟨x,a,b⟩:=Zds t vt j (by simpa using h);exact⟨x,a,b⟩
theorem Zci(I:L2.Inv X pins σ H s):∀(n:Nat) (d e:Dt) (x y:V) (u v:Value) (A:Around),Rep X.K H d x->Rep X.K H e y->ZC x u->ZC y v->Jb n d e=true->A.units+n<cLine->
  EqP X.prog X.w A s u v (Yy n d e)/\(Xp x=false->RcP X.prog X.w A s .Eq u v (Yy n d e)/\RcP X.prog X.w A s .NotEq u v (!Yy n d e)):=by
 have flatEq:∀{x y:V} {u v:Value} {A:Around},Xp x=true->Xp y=true->ZC x u->ZC y v->EqP X.prog X.w A s u v (eqV x y):=fun fx fy rx ry E Q q=>Zj3 rx ry fx fy X.prog X.w E Q q;have refl:∀{n:Nat} {d e:Dt} {a b:Addr} {A:Around},Rep X.K H d (.ref a)->Rep X.K H e (.ref b)->Jb n d e=true->(RcP X.prog X.w A s .Eq (.ref a) (.ref b) (Yy n d e)/\RcP X.prog X.w A s .NotEq (.ref a) (.ref b) (!Yy n d e))->
   EqP X.prog X.w A s (.ref a) (.ref b) (Yy n d e)/\(Xp (.ref a)=false->RcP X.prog X.w A s .Eq (.ref a) (.ref b) (Yy n d e)/\RcP X.prog X.w A s .NotEq (.ref a) (.ref b) (!Yy n d e)):=fun{n d e a b A} h1 h2 lk rc=>by
  refine⟨?_,fun _=>rc⟩
  by_cases hab:a=b
  ·subst hab;rw[Zjn I n d e _ h1 h2 lk];exact fun E Q q=>SeqAt.EqAt.same _ X.prog X.w E Q q
  ·exact EqP.refs hab rc.1
 have item:∀n,(∀(d e:Dt) (x y:V) (u v:Value) (A:Around),Rep X.K H d x->Rep X.K H e y->ZC x u->ZC y v->Jb n d e=true->A.units+n<cLine->
   EqP X.prog X.w A s u v (Yy n d e)/\(Xp x=false->RcP X.prog X.w A s .Eq u v (Yy n d e)/\RcP X.prog X.w A s .NotEq u v (!Yy n d e)))->∀{A:Around} {ds es:List Dt} {xs ys:List V} {us vs:List Value},Zg6 X.K H ds xs->Zg6 X.K H es ys->ZJ xs us->ZJ ys vs->
   ((ds.zip es).all fun p=>Jb n p.1 p.2)=true->A.units+(n+1)<cLine->∀j (h1:j<us.toArray.size) (h2:j<vs.toArray.size),EqP X.prog X.w A.in1 s us.toArray[j] vs.toArray[j] (Yy n (ds.getD j (.v .non)) (es.getD j (.v .non))):=by
  intro n ih A ds es xs ys us vs r1 r2 v1 v2 lk hu j h1 h2;have l1:j<us.length:=by simpa using h1
  have l2:j<vs.length:=by simpa using h2
  obtain⟨x,a1,b1⟩:=Zds r1 v1 j l1;obtain⟨y,a2,b2⟩:=Zds r2 v2 j l2;have e1:=Paired.length r1;have e2:=Paired.length r2;have e3:=v1.length;have e4:=v2.length;rw[Zdr (f:=Jb),List.all_eq_true] at lk
  have lkj:=lk j (List.mem_range.mpr (by omega));have:=(ih _ _ x y us[j] vs[j] A.in1 a1 a2 b1 b2 lkj (by show A.units+1+n<cLine;omega)).1
  simpa using this
 intro n
 induction n with
 |zero=>
  intro d e x y u v A h1 h2 rx ry lk hu;cases h1 with
  |flat f=>
   cases h2 with
   |flat f2=>exact⟨flatEq f f2 rx ry,fun z=>by rw[f] at z;cases z⟩
   |_=>cases lk
  |_=>cases h2<;>cases lk
 |succ n ih=>
  intro d e x y u v A h1 h2 rx ry lk hu;have hu0:A.units<cLine:=by omega
  cases h1 with
  |flat f=>
   cases h2 with
   |flat f2=>exact⟨flatEq f f2 rx ry,fun z=>by rw[f] at z;cases z⟩
   |_=>cases lk
  | @lst a ds xs q1 r1=>
   cases h2 with
   | @lst b es ys q2 r2=>
    cases rx;cases ry;refine refl (.lst q1 r1) (.lst q2 r2) lk ?_;obtain⟨us,v1,p1,_⟩:=I.list q1;obtain⟨vs,v2,p2,_⟩:=I.list q2;have e1:=Paired.length r1;have e2:=Paired.length r2;have e3:=v1.length;have e4:=v2.length
    by_cases hz:us.length=vs.length
    ·have rc:=Zjk (P:=X.prog) (w:=X.w) (A:=A) (e:=fun j=>Yy n (ds.getD j (.v .non)) (es.getD j (.v .non))) p1.isList p2.isList (by simpa using hz) hu0 (item n ih r1 r2 v1 v2 lk hu);have ee:Yy (n+1) (.lst ds) (.lst es)=(List.range us.toArray.size).all fun j=>Yy n (ds.getD j (.v .non)) (es.getD j (.v .non)):=by
      show(ds.length==es.length&&((ds.zip es).all fun p=>Yy n p.1 p.2))=_;have el:ds.length=es.length:=by omega
      have eu:us.toArray.size=es.length:=by rw[List.size_toArray];omega
      rw[Zdr (f:=Yy),el,beq_self_eq_true,Bool.true_and,Nat.min_self,eu]
     rw[ee];exact rc
    ·have ee:Yy (n+1) (.lst ds) (.lst es)=false:=by
      show(ds.length==es.length&&((ds.zip es).all fun p=>Yy n p.1 p.2))=false;have el:(ds.length==es.length)=false:=beq_eq_false_iff_ne.mpr (by omega);rw[el,Bool.false_and]
     rw[ee];exact ZeA p1.isList p2.isList (by simpa using hz) hu0
   |_=>cases lk
  | @tup a ds xs q1 r1=>
   cases h2 with
   | @tup b es ys q2 r2=>
    cases rx;cases ry;refine refl (.tup q1 r1) (.tup q2 r2) lk ?_;obtain⟨us,v1,p1,_⟩:=I.tuple q1;obtain⟨vs,v2,p2,_⟩:=I.tuple q2;have e1:=Paired.length r1;have e2:=Paired.length r2;have e3:=v1.length;have e4:=v2.length;have rc:=ZmA (P:=X.prog) (w:=X.w) (A:=A) (e:=fun j=>Yy n (ds.getD j (.v .non)) (es.getD j (.v .non))) (show s.heap.IsTuple a us.toArray from p1) (show s.heap.IsTuple b vs.toArray from p2) hu0 (item n ih r1 r2 v1 v2 lk hu)
    have ee:Yy (n+1) (.tup ds) (.tup es)=Jq us.toArray vs.toArray (fun j=>Yy n (ds.getD j (.v .non)) (es.getD j (.v .non))) 0:=by
     show(((ds.zip es).all fun p=>Yy n p.1 p.2)&&ds.length==es.length)=_;unfold Jq;rw[Zdr (f:=Yy),List.drop_zero,List.size_toArray,List.size_toArray,show us.length=ds.length by omega,show vs.length=es.length by omega]
    rw[ee];exact rc
   |_=>cases lk
  | @dct a ka q1 f1=>
   cases h2 with
   | @dct b kb q2 f2=>
    cases rx;cases ry;refine refl (.dct q1 f1) (.dct q2 f2) lk ?_;obtain⟨_,z1,va,r1,dd1⟩:=ZaT I.hok q1;obtain⟨_,z2,vb,r2,dd2⟩:=ZaT I.hok q2;exact ZlH z1 z2 dd1 dd2 r1 r2 f1 f2 hu0
   |_=>cases lk
end
section
variable {X:Cx}
def Zn8(K:PySem.W.Frag)(neg:Bool):R2:=fun x y H Q=>∃n d e,n<=30/\Xp x=false/\Rep K H d x/\Rep K H e y/\Jb n d e=true/\Q (.bl (if neg then !Yy n d e else Yy n d e)) H
theorem Zjo(hu:X.A.units+30<cLine):OpR X (compareOp .Eq) (Zn8 X.K false):=by
 intro pins s σ H x y v u Q I rx ry h;obtain⟨n,d,e,hn,fx,r1,r2,lk,q⟩:=h;exact((Zci I n d e x y v u X.A r1 r2 rx ry lk (by omega)).2 fx).1 _ _ ⟨.bl _,H,I,rfl,q⟩
theorem ZkD{A:Around}{k:Nat}(hr:YK k A):A.units+30<cLine:=Nat.lt_of_le_of_lt (Nat.add_le_add_left (by decide:30<=64) _) hr.units
end
end L3
namespace M3
open PySem PySem.Spec PyProof.Rows L2 L3
abbrev Tb:=List (Str×Int)
def kk(c:Tb):List (Key×V):=c.map fun p=>(Sum.inr p.1,V.int p.2)
def lk(c:Tb)(k:Str):Option Int:=(c.find? fun p=>decide (p.1=k)).map (·.2)
def Zb4(c:Tb)(k:Str)(v:Int):Tb:=if(c.any fun p=>decide (p.1=k))=true then c.map (fun p=>if p.1=k then(p.1,v) else p) else c++[(k,v)]
theorem Yb(c:Tb):(kk c).length=c.length:=by unfold kk;rw[List.length_map]
theorem Zfb(c:Tb)(k:Str):ZaA (kk c) (Sum.inr k)=(lk c k).map V.int:=by
 induction c with
 |nil=>rfl
 |cons p r ih=>
  by_cases e:p.1=k
  ·have h1:lk (p::r) k=some p.2:=by simp[lk,List.find?_cons,e]
   rw[h1];exact ZaX (p:=(Sum.inr p.1,V.int p.2)) (by rw[e])
  ·have h1:lk (p::r) k=lk r k:=by simp[lk,List.find?_cons,e]
   rw[h1,<-ih];exact ZaY (p:=(Sum.inr p.1,V.int p.2)) (fun h=>e (Sum.inr.inj h))
theorem ZlJ(c:Tb)(k:Str):((kk c).any fun kv=>decide (kv.1=Sum.inr k))=c.any fun p=>decide (p.1=k):=by
 unfold kk;rw[List.any_map]
 congr 1
 funext p
 show decide ((Sum.inr p.1:Key)=Sum.inr k)=decide (p.1=k);exact ZiI p.1 k
theorem Zh6(c:Tb)(k:Str)(v:Int):ZaW (kk c) (Sum.inr k) (.int v)=kk (Zb4 c k v):=by
 unfold ZaW Zb4;rw[ZlJ];cases c.any fun p=>decide (p.1=k) with
 |true=>
  rw[if_pos rfl,if_pos rfl];unfold kk;rw[List.map_map,List.map_map]
  apply List.map_congr_left
  intro p _;show(if(Sum.inr p.1:Key)=Sum.inr k then((Sum.inr p.1:Key),V.int v) else(Sum.inr p.1,V.int p.2))=(Sum.inr (if p.1=k then(p.1,v) else p).1,V.int (if p.1=k then(p.1,v) else p).2)
  by_cases e:p.1=k
  ·rw[if_pos (by rw[e]),if_pos e]
  ·rw[if_neg (fun h=>e (Sum.inr.inj h)),if_neg e]
 |false=>
  rw[if_neg Bool.false_ne_true,if_neg Bool.false_ne_true];unfold kk;rw[List.map_append]
  rfl
theorem Zcj(c:Tb):∀kv∈kk c,Xp kv.2=true:=by
 intro kv h;unfold kk at h
 obtain⟨p,_,rfl⟩:=List.mem_map.mp h
 rfl
theorem ZdQ(c:Tb)(k:Str)(v:Int):(Zb4 c k v).length<=c.length+1:=by
 unfold Zb4
 split
 ·rw[List.length_map];omega
 ·rw[List.length_append];exact Nat.le_refl _
theorem XR{c:Tb}(nd:(c.map (·.1)).Nodup){p:Str×Int}(h:p∈c):lk c p.1=some p.2:=by
 induction c with
 |nil=>cases h
 |cons q r ih=>
  rw[List.map_cons,List.nodup_cons] at nd
  rcases List.mem_cons.mp h with rfl|more
  ·simp[lk,List.find?_cons]
  ·have e:¬q.1=p.1:=fun z=>nd.1 (by rw[z];exact List.mem_map.mpr ⟨p,more,rfl⟩)
   have h1:lk (q::r) p.1=lk r p.1:=by simp[lk,List.find?_cons,e]
   rw[h1];exact ih nd.2 more
def Yp(a b:Tb):Bool:=a.all fun p=>match lk b p.1 with|some u=>decide (p.2<=u)|none=>false
theorem Zjp(ps:List Str):M1.cs (Txt.join Str.empty ps)=(ps.map M1.cs).flatten:=by
 have e:Txt.join Str.empty ps=Str.join Str.empty ps:=StrLaws.glued_eq_join _ _;rw[e];clear e
 induction ps with
 |nil=>rfl
 |cons p r ih=>
  cases r with
  |nil=>show M1.cs p=_;simp
  |cons q r=>
   show M1.cs (p++Str.empty++Str.join Str.empty (q::r))=_;rw[M1.ZgZ,M1.ZgZ,ih];simp[show M1.cs Str.empty=[] from rfl]
end M3
namespace M3
open PySem L2 L3
theorem ZeB{c:Tb}{k:Str}{v:Int}(nd:(c.map (·.1)).Nodup):((Zb4 c k v).map (·.1)).Nodup:=by
 unfold Zb4
 split
 ·rw[List.map_map];have e:((fun p:Str×Int=>p.1)∘fun p=>if p.1=k then(p.1,v) else p)=fun p=>p.1:=by
   funext p
   show(if p.1=k then(p.1,v) else p).1=p.1
   split<;>rfl
  rw[e];exact nd
 ·rename_i h
  rw[List.map_append];refine ZhH nd fun m=>h ?_;obtain⟨p,hp,e⟩:=List.mem_map.mp m;exact List.any_eq_true.mpr ⟨p,hp,decide_eq_true e⟩
end M3
namespace L3
open PySem PySem.Spec PyProof.Rows L2
theorem ZkE{X:Cx}{K:PySem.W.Frag}{es:List PySem.Expr}{k:Nat}{t:TGs}{pos:Pos}(n:Nat)(hK:X.K=K)(hc:X.calm=true)(h:PGs X es t)(hn:(assignEach es X.env).length=n)(hst:(assignEach es X.env).findIdx? (·.1)=none):PG X (.Tuple es k pos) (Zlq K n t):=by
 subst hK;exact ZgG hc h hn hst
end L3
namespace L3
open PySem PySem.Spec PyProof.Rows L2
structure Zh7 (P:Program) (w:World) (K:PySem.W.Frag) (mg:Str->Option Value) (base:Heap) (CX:CXT) (k:Nat) (x:Str) (C:Addr) (ps:List Str) (sp:Sp):Prop where
 ex:∃(f:Addr) (fd:FuncData),mg x=some (.ref C)/\Mk K C f/\Ja K fd ps []/\Yq P w K mg base CX k f fd ps sp
structure ZlK (K:PySem.W.Frag) (mg:Str->Option Value) (x:Str) (C:Addr):Prop where
 at_:mg x=some (.ref C)
 makes:PySem.W.makesIn K C=true
 init:PySem.W.findIn K (.ref C) "__init__"=some (some (.builtin "object.__init__"))
 kp:PySem.W.keepIn K (.ref C)=true
structure Zjq (P:Program) (w:World) (K:PySem.W.Frag) (mg:Str->Option Value) (base:Heap) (CX:CXT) (k:Nat) (m:Str) (ps:List Str) (sp:Addr->Sp) (Fam:Addr->Prop):Prop where
 ex:∀C,Fam C->Cls K C/\∃(f:Addr) (fd:FuncData),Zme K C m f/\Ja K fd ps []/\Yq P w K mg base CX k f fd ps (sp C)
theorem Zjr{P:Program}{w:World}{H:Hp}{h:Heap}{a:Addr}{o:HO}(x:Yo P w H h a o):∃ob,h.get? a=some ob:=by
 cases o with
 |lst xs=>obtain⟨_,_,_,_,e⟩:=x;exact⟨_,e⟩
 |tup xs=>obtain⟨_,_,_,ob,e,_⟩:=x;exact⟨ob,e⟩
 |dK kvs=>obtain⟨_,_,_,_,o,_,_,e,_⟩:=x;exact⟨o,e⟩
 |dT kvs=>obtain⟨_,_,_,_,o,_,_,e,_⟩:=x;exact⟨o,e⟩
 |set S n=>obtain⟨o,_,_,_,e,_⟩:=x;exact⟨o,e⟩
 |ins C dx fs=>obtain⟨_,_,_,e,_⟩:=x;exact⟨_,e⟩
 |own y=>exact x
 |xd fs=>obtain⟨_,⟨o,_,_,e,_⟩,_⟩:=x;exact⟨o,e⟩
 |rng lo hi=>obtain⟨_,_,_,e⟩:=x;exact⟨_,e⟩
 |frz ob u=>exact⟨ob,x.1⟩
 |tbl ps=>exact⟨_,x⟩
 |met f y=>exact⟨_,x⟩
 |ext φ=>exact x.2.1
section
variable {X:Cx} {pins:List (Addr×Obj)} {σ:L2.St} {H:Hp} {s:Shared} {n:Addr} {q:HO}
theorem ZaD{σ₁:L2.St}{H₁:Hp}{s':Shared}(I0:L2.Inv X pins σ₁ H₁ s)(I:L2.Inv X pins σ H s')(f0:H n=none)(hn:s.heap.get? n=none)(ok:Yo X.prog X.w (upd H n q) s'.heap n q):L2.Inv X pins σ (upd H n q) s':=by
 have ns:∀b u,H b=some u->b≠n:=fun b u e z=>by subst z;rw[f0] at e;cases e
 have nh:∀b o,s.heap.get? b=some o->b≠n:=fun b o e z=>by subst z;rw[hn] at e;cases e
 have nL:X.env.locals≠n:=by
  obtain⟨m,⟨o,_,_,e,_⟩,_⟩:=I0.loc;exact nh _ o e
 refine⟨I.ok,I.os,I.bare,⟨I.base.keep,I.base.slot,fun b o e m hx=> ?_,I.base.there,fun b xs e=> ?_,fun b o u e=> ?_,fun b ps e=> ?_⟩,I.loc,I.cell, ?_,fun x c e=> ?_,fun z hz=> ?_,fun b u e=> ?_,I.len⟩
 ·refine(Zf ?_).trans (I.base.free b o e m hx);obtain⟨o',z⟩:=I0.base.there b o e hx;exact nh b o' z
 ·rw[Zf (ns b _ (I.base.tups b xs e))];exact I.base.tups b xs e
 ·rw[Zf (ns b _ (I.base.frzs b o u e))];exact I.base.frzs b o u e
 ·obtain⟨m,e2⟩:=I.base.tbls b ps e;exact⟨m,by rw[Zf (ns b _ e2)];exact e2⟩
 ·rw[Zf nL];exact I.free
 ·obtain⟨v,o,z,_⟩:=I0.cell x c e;rw[Zf (nh c o z)];exact I.freeC x c e
 ·obtain⟨z1,z2,z3⟩:=I.pin z hz;exact⟨z1,by rw[Zf (nh z.1 z.2 (I0.pin z hz).1)];exact z2,z3⟩
 ·by_cases hb:b=n
  ·subst hb;rw[Zc] at e
   cases e;exact ok
  ·rw[Zf hb] at e
   exact(I.hok b u e).stay (fun _ _ _ z=>z) (fun c z=>by rw[Zf (ns c _ z)];exact z) fun c xs z=>by rw[Zf (ns c _ z)];exact z
theorem Zh8{s':Shared}(I0:L2.Inv X pins σ H s)(I:L2.Inv X pins σ H s')(hn:s.heap.get? n=none)(ok:Yo X.prog X.w (upd H n q) s'.heap n q):L2.Inv X pins σ (upd H n q) s':=by
 refine ZaD I0 I ?_ hn ok;cases e:H n with
 |none=>rfl
 |some u=>
  obtain⟨ob,z⟩:=Zjr (I0.hok n u e);rw[hn] at z
  cases z
end
section
variable {X:Cx} {CX:CXT} {k:Nat} {x m:Str} {C:Addr} {ps:List Str} {sp:Sp} {sf:Addr->Sp} {Fam:Addr->Prop} {E:XK} {e o:PySem.Expr} {es:List PySem.Expr} {ta:TE} {t:TA} {p pos apos:Pos}
theorem Zh9(c:Zh7 X.prog X.w X.K X.mg X.base CX k x C ps sp)(hr:YK (k+1) X.A)(hg:Gl X x)(hx:Za3 CX X E)(ha:PA X (e::es) t)(hdb:(x==("__debug__":Str))=false:=by decide)
  (he:starEach (e::es) X.env=(false,eval e X.env)::starEach es X.env:=by rfl)(hpl:(backTo pos (starEach es X.env)).any (·.1)=false:=by rfl):PE X (.Call (.Name x p) (e::es) [] pos) (Zl7 C sp [] E t):=by
 obtain⟨f,fd,hm,M,hb,F⟩:=c.ex;exact Zkm M F hr hg hm hb .nil hx ha hdb he hpl
def ZmB(C:Addr):TE:=fun _ H Q=>∀x dx,H x=none->H dx=none->dx≠x->Q (.ref x) (upd (upd H dx (.own x)) x (.ins C dx []))
theorem ZkF(c:ZlK X.K X.mg x C)(hg:Gl X x)(hdb:(x==("__debug__":Str))=false:=by decide):PE X (.Call (.Name x p) [] [] pos) (ZmB C):=by
 intro pins s σ H Q I h;refine wpAny_Call_Name_kw (Zav I hg c.at_ ?_ hdb);obtain⟨mm,F⟩:=I.fr;refine PySem.W.callWith_K0 I.kIn c.kp (PySem.W.call_cls0 F I.ok.mod.kin ZiK c.makes c.init fun y dy g F' N' hl hlt=> ?_);have I1:L2.Inv X pins σ H {s with heap:=g,toks:=s.toks}:=Zh3 (more:=[(y,PySem.W.instObj C dy),(dy,PySem.W.dictOf [] 0)]) I F.ns F' N';have gy:=N' (y,PySem.W.instObj C dy) (List.mem_cons_self ..)
 have gd:=N' (dy,PySem.W.dictOf [] 0) (List.mem_cons_of_mem _ (List.mem_cons_self ..));have fresh:∀z:Addr,dy<=z->z≠X.env.locals->X.base.get? z=none->s.heap.get? z=none:=fun z hz nl nb=>by
  cases e:s.heap.get? z with
  |none=>rfl
  |some ob=>exact absurd (hl (z,ob) (Zdb nl nb e)) (Nat.not_lt.mpr hz)
 have fd:=fresh dy (Nat.le_refl _) gd.2.1 gd.2.2;have fy:=fresh y (Nat.le_of_lt hlt) gy.2.1 gy.2.2;have I2:=Zh8 (q:=.own y) I I1 fd ⟨_,gd.1⟩;have nH:∀z,s.heap.get? z=none->H z=none:=fun z e=>by
  cases q:H z with
  |none=>rfl
  |some u=>obtain⟨ob,w⟩:=Zjr (I.hok z u q);rw[e] at w;cases w
 have ne:dy≠y:=Nat.ne_of_lt hlt;have I3:L2.Inv X pins σ (upd (upd H dy (.own y)) y (.ins C dy [])) {s with heap:=g,toks:=s.toks}:=by
  have e3:g.Ns dy (fun _=>none):=⟨_, #[],_,gd.1,rfl,(fun e he=>absurd he (by simp)),fun _=>rfl⟩
  have f0:upd H dy (.own y) y=none:=(Zf (Ne.symm ne)).trans (nH y fy);have ok:Yo X.prog X.w (upd (upd H dy (.own y)) y (.ins C dy [])) g y (.ins C dy []):=⟨by rw[Zf ne,Zc],Nat.zero_le _,ne,gy.1,fun _=>none,Heap.Ns1.of_empty e3,fun _=>True.intro,fun z hz=>absurd rfl hz⟩
  have ns:∀b u,upd H dy (.own y) b=some u->b≠y:=fun b u e z=>by subst z;rw[f0] at e;cases e
  have nh:∀b o,s.heap.get? b=some o->b≠y:=fun b o e z=>by subst z;rw[fy] at e;cases e
  refine⟨I2.ok,I2.os,I2.bare,⟨I2.base.keep,I2.base.slot,fun b o e m hx=> ?_,I2.base.there,fun b xs e=> ?_,fun b o u e=> ?_,fun b ps e=> ?_⟩,I2.loc,I2.cell, ?_,fun x c e=> ?_,fun z hz=> ?_,fun b u e=> ?_,I2.len⟩
  ·refine(Zf ?_).trans (I2.base.free b o e m hx);obtain⟨o',z⟩:=I.base.there b o e hx;exact nh b o' z
  ·rw[Zf (ns b _ (I2.base.tups b xs e))];exact I2.base.tups b xs e
  ·rw[Zf (ns b _ (I2.base.frzs b o u e))];exact I2.base.frzs b o u e
  ·obtain⟨m,e2⟩:=I2.base.tbls b ps e;exact⟨m,by rw[Zf (ns b _ e2)];exact e2⟩
  ·rw[Zf (Ne.symm gy.2.1)];exact I2.free
  ·obtain⟨v,o,z,_⟩:=I.cell x c e;rw[Zf (nh c o z)];exact I2.freeC x c e
  ·obtain⟨z1,z2,z3⟩:=I2.pin z hz;exact⟨z1,by rw[Zf (nh z.1 z.2 (I.pin z hz).1)];exact z2,z3⟩
  ·by_cases hb:b=y
   ·subst hb;rw[Zc] at e
    cases e;exact ok
   ·rw[Zf hb] at e
    exact(I2.hok b u e).stay (fun _ _ _ z=>z) (fun c z=>by rw[Zf (ns c _ z)];exact z) fun c xs z=>by rw[Zf (ns c _ z)];exact z
 exact⟨.ref y,_,I3,rfl,h y dy (nH y fy) (nH dy fd) ne⟩
def ZlL(Fam:Addr->Prop)(m:Str)(sf:Addr->Sp)(E:XK)(ta:TE)(t:TA):TE:=fun σ H Q=>ta σ H fun x H1=>∃a C dx fs,x=.ref a/\H1 a=some (.ins C dx fs)/\Fam C/\fs.lookup m=none/\t σ H1 fun vs H2=>sf C (x::vs) H2 Q E
theorem Zb5{pl:Sem Bool}(he:PE X o ta)(d:Zjq X.prog X.w X.K X.mg X.base CX k m ps sf Fam)(hr:YK k X.A)(hx:Za3 CX X E)(ha:PA X (e::es) t)
  (hst:starEach (e::es) X.env=(false,eval e X.env)::starEach es X.env:=by rfl)(hpl:(backTo pos (starEach es X.env)).any (·.1)=false:=by rfl)
  (ht:eval (.Call (.Attribute o m apos) (e::es) [] pos) X.env=(do
   let ov<-eval o X.env
   standAt apos.atName
   let (f,first)<-holding [ov] (getMethod ov m pl)
   callWith pos f first (backTo pos (starEach (e::es) X.env)) (backToKw pos (keywordEach [] X.env))):=by rfl):PE X (.Call (.Attribute o m apos) (e::es) [] pos) (ZlL Fam m sf E ta t):=by
 intro pins s σ H Q I h;refine PySem.W.methodCall_KW (pl:=pl) (thn (he pins s σ H _ I h) fun u s1 ⟨x,H1,I1,rx,a,C,dx,fs,ex,ea,fam,l,q⟩=> ?_) ht;subst ex;obtain rfl:u=Value.ref a:=rx;obtain⟨c,f,fd,hm,hb,F⟩:=d.ex C fam;refine ZgL I1 ea c hm l ?_;refine PySem.W.callWith_K (first:=[.ref a]) (h₀:=X.base) I.ok.mod.kin hm.kp (thn (ha pos pins s1 σ H1 _ I1 q) fun us s2 ⟨vs,H2,I2,r,q2⟩=>⟨I2.kIn, ?_⟩) hst hpl
 exact ZgP (us:=.ref a::us) (vs:=.ref a::vs) F hr hb .nil hx I2 (.cons rfl r) (by rw[List.append_nil];exact q2)
def ZlM(K:PySem.W.Frag):R2:=fun x y H Q=>∃a b xs,x=.ref a/\y=.ref b/\SqL K H a xs/\SqL K H b []/\Q (.bl (decide (xs=[]))) H
theorem Zjs(hu:X.A.units+30<cLine):OpR X (compareOp .Eq) (ZlM X.K):=by
 intro pins s σ H x y v u Q I rx ry h;obtain⟨a,b,xs,rfl,rfl,h1,h2,q⟩:=h;cases rx;cases ry;obtain⟨us,v1,p1,_⟩:=I.list h1;obtain⟨vs,v2,p2,_⟩:=I.list h2;have e1:=v1.length;have e2:=v2.length;have hu0:X.A.units<cLine:=by omega
 cases xs with
 |nil=>
  have el:us.toArray.size=vs.toArray.size:=by rw[List.size_toArray,List.size_toArray,<-e1,<-e2]
  have z:us.toArray.size=0:=by rw[List.size_toArray,<-e1];rfl
  refine(Zjk (P:=X.prog) (w:=X.w) (e:=fun _=>true) p1.isList p2.isList el hu0 fun j h1 _=>absurd h1 (by omega)).1 _ _ ⟨.bl _,H,I, ?_,q⟩;rw[z]
  rfl
 |cons y r=>exact(ZeA (P:=X.prog) (w:=X.w) p1.isList p2.isList (by rw[List.size_toArray,List.size_toArray,<-e1,<-e2];exact Nat.succ_ne_zero _) hu0).1 _ _ ⟨.bl _,H,I,rfl,q⟩
end
end L3
namespace L3
open PySem PySem.Spec PyProof.Rows L2
theorem JZ{P:Program}{w:World}{K:PySem.W.Frag}{mg:Str->Option Value}{base:Heap}{CX:CXT}{k:Nat}{f:Addr}{fd:FuncData}{ps:List Str}{sp:Sp}(h:∀vs H Q E,¬sp vs H Q E):Yq P w K mg base CX k f fd ps sp:=
 ⟨fun vs H Q E z=>(h vs H Q E z).elim,fun _ _ _ H _ _ vs Q E _ _ _ _ z=>(h vs H Q E z).elim⟩
structure TyC (K:PySem.W.Frag) (C:Addr):Prop where
 cl:Cls K C
 ha:PySem.W.findIn K (.ref C) "__class__"=some (some (.builtin "object.__class__"))
 hn:PySem.W.specialIn K (.builtin "object.__class__") "__get__"=some (some (.builtin "getset_descriptor.__get__"))
 htk:PySem.W.takesIn K (.builtin "object.__class__")=some true
 hm:PySem.W.mroIn K C (.type "object")=some true
theorem TyC.of{K:PySem.W.Frag}{C a dx:Addr}{H:Hp}{fs:List (Str×V)}(t:TyC K C)(e:H a=some (.ins C dx fs)):ZaV K H (.ref a) (.ref C):=.ins e t.cl t.ha t.hn t.htk t.hm
theorem YX{c A B:Prop} [Decidable c](hc:¬c)(h:B):if decide c=true then A else B:=by
 rw[decide_eq_false hc];exact Xl h
theorem Zn9{α:Type}{P:List α->Prop}(h:P []):∀us:List α,us.length=0->P us
 |[],_=>h
theorem Zfc{α:Type}{P:List α->Prop}(h:∀a,P [a]):∀us:List α,us.length=1->P us
 |[a],_=>h a
theorem Jc{α:Type}{P:List α->Prop}(h:∀a b,P [a,b]):∀us:List α,us.length=2->P us
 |[a,b],_=>h a b
theorem ZkG{α:Type}{P:List α->Prop}(h:∀a b c,P [a,b,c]):∀us:List α,us.length=3->P us
 |[a,b,c],_=>h a b c
end L3
namespace L3
open PySem PySem.Spec PyProof.Rows L2
section
variable {prog:Program} {w:World} {A:Around} {E:Value->Shared->Prop} {s:Shared} {it l S:Addr} {items:Array Value}
end
section
variable {X:Cx} {e:PySem.Expr} {te:TE} {p p2 pos pos2:Pos}
end
end L3
namespace L3
open PySem PySem.Spec PyProof.Rows L2 PySem.W PySem.Calls
section
variable {X:Cx}
end
section
variable {P:Program} {w:World} {K:Frag} {mg:Str->Option Value} {base:Heap} {N:List Str} {qual:Str} {scope:Scope} {f:Addr} {cdv:Value} {A:Around} {outer:List Env} {s₀:Shared} {H₀:Hp} {E:XK}
end
end L3
namespace L3
open PySem PySem.Spec PyProof.Rows L2 PySem.W PySem.Calls
section
variable {P:Program} {w:World} {K:Frag} {mg:Str->Option Value} {base:Heap} {N:List Str} {qual:Str} {scope:Scope} {f:Addr} {cdv:Value} {A:Around} {outer:List Env} {s₀:Shared} {H₀:Hp} {E:XK} {CX:CXT}
end
section
variable {X:Cx} {pins:List (Addr×Obj)} {σ:L2.St} {H:Hp} {s:Shared}
end
theorem Zip{P:Program}{w:World}{H:Hp}{h:Heap}{a:Addr}:∀{o:HO},Yo P w H h a o->∃ob,h.get? a=some ob
 | .lst _,⟨_,_,_,_,e⟩=>⟨_,e⟩
 | .tup _,⟨_,_,_,p⟩=>p.elim fun ob q=>⟨ob,q.1⟩
 | .dK _,⟨_,_,_,_,ob,_,_,e,_⟩=>⟨ob,e⟩
 | .dT _,⟨_,_,_,_,ob,_,_,e,_⟩=>⟨ob,e⟩
 | .set _ _,⟨ob,_,_,_,e,_⟩=>⟨ob,e⟩
 | .ins _ _ _,⟨_,_,_,e,_⟩=>⟨_,e⟩
 | .own _,x=>x
 | .xd _,⟨_,⟨ob,_,_,e,_⟩,_⟩=>⟨ob,e⟩
 | .met _ _,e=>⟨_,e⟩
 | .rng _ _,⟨_,_,_,e⟩=>⟨_,e⟩
 | .frz _ _,⟨e,_⟩=>⟨_,e⟩
 | .tbl _,e=>⟨_,e⟩
 | .ext _,⟨_,e,_⟩=>e
end L3
namespace L3
open PySem PySem.W PyProof.Rows
structure Ord (ans:Nat->Nat->Bool):Prop where
 asym:∀i j,ans i j=true->ans j i=false
 tr:∀i j k,ans j i=false->ans k j=false->ans k i=false
theorem Ord.irr{ans:Nat->Nat->Bool}(o:Ord ans)(i:Nat):ans i i=false:=by
 cases e:ans i i with
 |false=>rfl
 |true=>exact e.symm.trans (o.asym i i e)
def at_(p:Array Nat)(i:Nat):Nat:=p.getD i 0
def Zha(ans:Nat->Nat->Bool)(p:Array Nat)(k:Nat):Prop:=∀i j,i<=j->j<k->ans (at_ p j) (at_ p i)=false
structure Pl (n:Nat) (p:Array Nat):Prop where
 size:p.size=n
 perm:p.Perm (List.toArray (List.range n))
theorem Pl.lt{n:Nat}{p:Array Nat}(h:Pl n p){i:Nat}(hi:i<n):at_ p i<n:=by
 have hi':i<p.size:=by rw[h.size];exact hi
 have e:at_ p i=p[i]:=by simp[at_,Array.getD,hi']
 have m:p[i]∈List.range n:=by
  have:=(Array.perm_iff_toList_perm.mp h.perm).mem_iff (a:=p[i])
  simpa using this.mp (by simp)
 rw[e];exact List.mem_range.mp m
theorem ZaE(x:Array Nat)(k:Nat):at_ x k=(x[k]?).getD 0:=by
 by_cases hk:k<x.size<;>simp[at_,Array.getD,hk]
theorem Zfd{p:Array Nat}{i j:Nat}(hj:j<=p.size)(k:Nat):at_ (kas_rev p i j) k=if i<=k/\k<j then at_ p (i+j-1-k) else at_ p k:=by
 rw[ZaE,kas_rev,getElem?_mirror_all hj k,ZaE,ZaE]
 split<;>rfl
theorem Zhb{p:Array Nat}{src d:Nat}(hs:src<p.size)(hd:d<=src)(k:Nat):at_ (bubble p src d) k=if k=src-d then at_ p src else if src-d<k/\k<=src then at_ p (k-1) else at_ p k:=by
 rw[ZaE,getElem?_bubble hs d hd k,ZaE,ZaE,ZaE]
 split
 ·rfl
 ·split<;>rfl
theorem Pl.rev{n:Nat}{p:Array Nat}(h:Pl n p)(i j:Nat):Pl n (kas_rev p i j):=⟨(mirror_size _ _ _ _).trans h.size,(mirror_perm _ _ _ _).trans h.perm⟩
theorem Pl.bub{n:Nat}{p:Array Nat}(h:Pl n p)(i j:Nat):Pl n (bubble p i j):=⟨(bubble_size _ _ _).trans h.size,(bubble_perm _ _ _).trans h.perm⟩
section
variable {n:Nat} {ans:Nat->Nat->Bool} {s:Shared}
end
end L3
namespace L3
open PySem
structure STO {α:Type} (lt:α->α->Bool):Prop where
 irr:∀a,lt a a=false
 tr:∀a b c,lt a b=true->lt b c=true->lt a c=true
 tri:∀a b,lt a b=true\/a=b\/lt b a=true
theorem STO.asym{α:Type}{lt:α->α->Bool}(o:STO lt){a b:α}(h:lt a b=true):lt b a=false:=by
 cases e:lt b a with
 |false=>rfl
 |true=>exact(o.tr a b a h e).symm.trans (o.irr a)
theorem STO.ord{α:Type}{lt:α->α->Bool}(o:STO lt)(f:Nat->α):Ord fun i j=>lt (f i) (f j) where
 asym:=fun i j h=>o.asym h
 tr:=fun i j k h1 h2=>by
  cases e:lt (f k) (f i) with
  |false=>rfl
  |true=>
   rcases o.tri (f i) (f j) with z|z|z
   ·exact(o.tr _ _ _ e z).symm.trans h2
   ·rw[z] at e;exact e.symm.trans h2
   ·exact z.symm.trans h1
def JG(a b:Int):Bool:=decide (a<b)
theorem Zbu:STO JG:=⟨fun a=>decide_eq_false (by omega),fun a b c h1 h2=>decide_eq_true (by have:=of_decide_eq_true h1;have:=of_decide_eq_true h2;omega),fun a b=>by
 rcases Int.lt_trichotomy a b with h|h|h
 ·exact .inl (decide_eq_true h)
 ·exact .inr (.inl h)
 ·exact .inr (.inr (decide_eq_true h))⟩
def Zb6{α:Type} [DecidableEq α](lt:α->α->Bool):List α->List α->Bool
 |[],[]=>false
 |[],_::_=>true
 |_::_,[]=>false
 |a::r,b::t=>if a=b then Zb6 lt r t else lt a b
theorem Zg7{α:Type} [DecidableEq α]{lt:α->α->Bool}(o:STO lt):STO (Zb6 lt) where
 irr:=fun l=>by
  induction l with
  |nil=>rfl
  |cons a r ih=>unfold Zb6;rw[if_pos rfl];exact ih
 tr:=fun x=>by
  induction x with
  |nil=>intro y z h1 h2;cases y with
   |nil=>exact h2
   |cons b t=>cases z with
    |nil=>exact absurd h2 (by simp[Zb6])
    |cons c u=>rfl
  |cons a r ih=>intro y z h1 h2;cases y with
   |nil=>exact absurd h1 (by simp[Zb6])
   |cons b t=>cases z with
    |nil=>exact absurd h2 (by simp[Zb6])
    |cons c u=>
     unfold Zb6 at h1 h2⊢
     by_cases e1:a=b
     ·subst e1;rw[if_pos rfl] at h1
      by_cases e2:a=c
      ·rw[if_pos e2] at h2⊢;exact ih t u h1 h2
      ·rw[if_neg e2] at h2⊢;exact h2
     ·rw[if_neg e1] at h1
      by_cases e2:b=c
      ·subst e2;rw[if_neg e1];exact h1
      ·rw[if_neg e2] at h2
       have h3:=o.tr _ _ _ h1 h2
       by_cases e3:a=c
       ·subst e3;rw[o.irr] at h3;cases h3
       ·rw[if_neg e3];exact h3
 tri:=fun x=>by
  induction x with
  |nil=>intro y;cases y with
   |nil=>exact .inr (.inl rfl)
   |cons b t=>exact .inl rfl
  |cons a r ih=>intro y;cases y with
   |nil=>exact .inr (.inr rfl)
   |cons b t=>
    unfold Zb6
    by_cases e:a=b
    ·subst e;rw[if_pos rfl,if_pos rfl];rcases ih t with h|h|h
     ·exact .inl h
     ·exact .inr (.inl (by rw[h]))
     ·exact .inr (.inr h)
    ·rw[if_neg e,if_neg (Ne.symm e)];rcases o.tri a b with h|h|h
     ·exact .inl h
     ·exact absurd h e
     ·exact .inr (.inr h)
def Ziq{α β:Type} [DecidableEq α](la:α->α->Bool)(lb:β->β->Bool)(x y:α×β):Bool:=if x.1=y.1 then lb x.2 y.2 else la x.1 y.1
theorem Zg8{α β:Type} [DecidableEq α]{la:α->α->Bool}{lb:β->β->Bool}(oa:STO la)(ob:STO lb):STO (Ziq la lb) where
 irr:=fun x=>by unfold Ziq;rw[if_pos rfl];exact ob.irr _
 tr:=fun⟨a,x⟩ ⟨b,y⟩ ⟨c,z⟩ h1 h2=>by
  unfold Ziq at h1 h2⊢
  dsimp only at h1 h2⊢
  by_cases e1:a=b
  ·subst e1;rw[if_pos rfl] at h1
   by_cases e2:a=c
   ·rw[if_pos e2] at h2⊢;exact ob.tr _ _ _ h1 h2
   ·rw[if_neg e2] at h2⊢;exact h2
  ·rw[if_neg e1] at h1
   by_cases e2:b=c
   ·subst e2;rw[if_neg e1];exact h1
   ·rw[if_neg e2] at h2
    have h3:=oa.tr _ _ _ h1 h2
    by_cases e3:a=c
    ·subst e3;rw[oa.irr] at h3;cases h3
    ·rw[if_neg e3];exact h3
 tri:=fun⟨a,x⟩ ⟨b,y⟩=>by
  unfold Ziq
  dsimp only
  by_cases e:a=b
  ·subst e;rw[if_pos rfl,if_pos rfl];rcases ob.tri x y with h|h|h
   ·exact .inl h
   ·exact .inr (.inl (by rw[h]))
   ·exact .inr (.inr h)
  ·rw[if_neg e,if_neg (Ne.symm e)];rcases oa.tri a b with h|h|h
   ·exact .inl h
   ·exact absurd h e
   ·exact .inr (.inr h)
def Zhc(a b:List Nat):Bool:=decide (a<b)
theorem ZdR:∀a b:List Nat,Zhc a b=Zb6 (fun x y=>decide (x<y)) a b
 |[],[]=>rfl
 |[],_::_=>rfl
 |_::_,[]=>rfl
 |a::r,b::t=>by
  unfold Zb6;have e:Zhc (a::r) (b::t)=(decide (a<b)||(a==b&&Zhc r t)):=StrLaws.lt_cons_cons a b r t;rw[e,ZdR r t]
  by_cases q:a=b
  ·subst q;rw[if_pos rfl];simp
  ·rw[if_neg q];simp[q]
def Zb7(a b:Str):Bool:=decide (a.cps.toList<b.cps.toList)
theorem ZeC:STO Zb7:=by
 have o:STO fun x y:Nat=>decide (x<y):=⟨fun a=>decide_eq_false (by omega),fun a b c h1 h2=>decide_eq_true (by have:=of_decide_eq_true h1;have:=of_decide_eq_true h2;omega),fun a b=>by
  rcases Nat.lt_trichotomy a b with h|h|h
  ·exact .inl (decide_eq_true h)
  ·exact .inr (.inl h)
  ·exact .inr (.inr (decide_eq_true h))⟩
 have L:=Zg7 o;have e:∀a b:Str,Zb7 a b=Zb6 (fun x y=>decide (x<y)) a.cps.toList b.cps.toList:=fun a b=>ZdR _ _;refine⟨fun a=>(e a a).trans (L.irr _),fun a b c h1 h2=> ?_,fun a b=> ?_⟩
 ·rw[e] at h1 h2⊢;exact L.tr _ _ _ h1 h2
 ·rw[e,e];rcases L.tri a.cps.toList b.cps.toList with h|h|h
  ·exact .inl h
  ·refine .inr (.inl ?_);obtain⟨⟨x⟩⟩:=a;obtain⟨⟨y⟩⟩:=b;have h:x=y:=h;rw[h]
  ·exact .inr (.inr h)
abbrev Lf:=Str×Int
def Zb8:Lf->Lf->Bool:=Ziq Zb7 JG
def ZbJ:List Lf->List Lf->Bool:=Zb6 Zb8
abbrev Ky:=Int×List Lf
def Zck:Ky->Ky->Bool:=Ziq JG ZbJ
theorem Xr:STO Zb8:=Zg8 ZeC Zbu
theorem ZcK:STO ZbJ:=Zg7 Xr
theorem Zcl:STO Zck:=Zg8 Zbu ZcK
end L3
set_option maxHeartbeats 5000000
namespace L3
open PySem PySem.W PyProof.Rows
def Zcm:Bool->Keyed->Array Keyed->Nat->Nat->Nat->StateT SortSt Sem (Option Nat):=sortPriv%PySem.Builtin.gallop
def Zg9:Array Keyed->Array Keyed->StateT SortSt Sem (Array Keyed):=sortPriv%PySem.Builtin.mergeLo
def Zga:Array Keyed->Array Keyed->StateT SortSt Sem (Array Keyed):=sortPriv%PySem.Builtin.mergeHi
def ZkH:Nat->StateT SortSt Sem Unit:=sortPriv%PySem.Builtin.setMinGallop
def Rn(M:Model)(A:Around)(I:Shared->Prop){α:Type}(m:StateT SortSt Sem α)(st:SortSt)(P:α->SortSt->Prop):Prop:=
 ∀(E:Value->Shared->Prop) (Q:α->SortSt->Shared->Prop) (s:Shared),I s->(∀a st' s',P a st'->I s'->Q a st' s')->kasC M A E m Q st s
section
variable {M:Model} {A:Around} {I:Shared->Prop} {α β:Type} {st:SortSt}
theorem Zo{a:α}{P:α->SortSt->Prop}(h:P a st):Rn M A I (pure a) st P:=fun E Q s i q=>kasC_pure (q _ _ _ h i)
theorem Zg{m:StateT SortSt Sem α}{f:α->StateT SortSt Sem β}{P:β->SortSt->Prop}(h:Rn M A I m st fun a st'=>Rn M A I (f a) st' P):Rn M A I (m>>=f) st P:=fun E Q s i q=>kasC_bind (h E _ s i fun a st' s' z i'=>z E Q s' i' q)
theorem Yg{m:StateT SortSt Sem α}{P P':α->SortSt->Prop}(h:Rn M A I m st P)(k:∀a st',P a st'->P' a st'):Rn M A I m st P':=fun E Q s i q=>h E Q s i fun a st' s' z i'=>q a st' s' (k a st' z) i'
theorem XD{P:SortSt->SortSt->Prop}(h:P st st):Rn M A I get st P:=fun E Q s i q=>kasC_get (q _ _ _ h i)
theorem JH{f:SortSt->SortSt}{P:PUnit->SortSt->Prop}(h:P ⟨⟩ (f st)):Rn M A I (modify f) st P:=fun E Q s i q=>kasC_modify (q _ _ _ h i)
theorem ZaF{r:String}{P:Unit->SortSt->Prop}(h:P () st):Rn M A I (liftM (rule r:Sem Unit)) st P:=fun E Q s i q=>kasC_lift (wpAny_rule (q _ _ _ h i))
theorem Yh{arr:Array Keyed}{i:Nat}{x:Keyed}{P:Keyed->SortSt->Prop}(e:arr[i]? =some x)(h:P x st):Rn M A I (elem' arr i) st P:=by
 rw[elem'_eq,e];exact Zo h
theorem ZhL{f:Nat->β->StateT SortSt Sem (ForInStep β)}{P:β->SortSt->Prop}{b:Nat}(J:Nat->β->SortSt->Prop)
  (step:∀k x c st,x+(k+1)=b->J (k+1) c st->Rn M A I (f x c) st fun r st'=>match r with| .done c'=>P c' st'| .yield c'=>J k c' st') (fin:∀c st,J 0 c st->P c st):
  ∀(k a:Nat) (c:β) (st:SortSt),a+k=b->J k c st->Rn M A I (forIn (List.range' a k) c f) st P
 |0,a,c,st,e,h=>fun E Q s i q=>kasC_nil (q _ _ _ (fin _ _ h) i)
 |k+1,a,c,st,e,h=>fun E Q s i q=>by
  show kasC M A E (forIn (a::List.range' (a+1) k) c f) Q st s;refine kasC_cons (step k a c st e h E _ s i fun r st' s' z i'=> ?_);cases r with
  |done c'=>exact q _ _ _ z i'
  |yield c'=>exact ZhL J step fin k (a+1) c' st' (by omega) z E Q s' i' q
theorem Ys{f:Nat->β->StateT SortSt Sem (ForInStep β)}{P:β->SortSt->Prop}{a b:Nat}{c:β}(J:Nat->β->SortSt->Prop)(h0:J (b-a) c st)(ab:a<=b)
  (step:∀k x c st,x+(k+1)=b->J (k+1) c st->Rn M A I (f x c) st fun r st'=>match r with| .done c'=>P c' st'| .yield c'=>J k c' st') (fin:∀c st,J 0 c st->P c st):
  Rn M A I (forIn [a:b] c f) st P:=fun E Q s i q=>kasC_range (ZhL J step fin (b-a) a c st (by omega) h0 E Q s i q)
end
section
variable {prog:Program} {w:World} {A:Around} {I:Shared->Prop} {κ:SortKind} {it:Array Keyed} {n:Nat} {ans:Nat->Nat->Bool}
def ZcL(prog:Program)(w:World)(A:Around)(I:Shared->Prop)(κ:SortKind)(it:Array Keyed)(n:Nat)(ans:Nat->Nat->Bool):Prop:=
 ∀i j (C:Bool->Shared->Prop) s,i<n->j<n->I s->(∀s',I s'->C (ans i j) s')->kas_cmp prog w A κ it i j C s
theorem Zgb(k:ZcL prog w A I κ it n ans){st:SortSt}(hk:kindOf st=κ){i j:Nat}(hi:i<n)(hj:j<n){P:Option Bool->SortSt->Prop}(h:P (some (ans i j)) st):Rn (model prog w) A I (lt' (kas_item it i) (kas_item it j)) st P:=fun E Q s is q=>by
 rw[lt'_eq];refine kasC_bind (kasC_get ?_);rw[hk];refine kasC_bind (kasC_lift (wpAny_attempt (wpAny_mono (k i j _ s hi hj is fun s' i'=> ?_) (fun c s' z=>z) fun _ _ z=>z.elim)));exact kasC_pure (q _ _ _ h i')
theorem Zfe{q:Array Nat}{i:Nat}(h:i<q.size):(q.map (kas_item it))[i]? =some (kas_item it (at_ q i)):=by
 rw[ZaE];simp[h]
theorem gal(k:ZcL prog w A I κ it n ans){st:SortSt}(hk:kindOf st=κ){left:Bool}{q:Array Nat}{x base m hint:Nat}{bey:Nat->Bool}(hb:∀i,i<m->base+i<q.size/\at_ q (base+i)<n/\bey i=if left=true then ans (at_ q (base+i)) x else !(ans x (at_ q (base+i))))(hx:x<n)
  (mo:∀i j,i<=j->j<m->bey j=true->bey i=true)(hh:hint<m){P:Option Nat->SortSt->Prop}(q1:∀y,y<=m->(∀i,i<y->bey i=true)->(∀i,y<=i->i<m->bey i=false)->P (some y) st):
  Rn (model prog w) A I (Zcm left (kas_item it x) (q.map (kas_item it)) base m hint) st P:=by
 have B:∀i,i<m->∀{R:Option Bool->SortSt->Prop},R (some (bey i)) st->Rn (model prog w) A I (do
   let y<-elem' (q.map (kas_item it)) (base+i)
   if left=true then lt' y (kas_item it x) else do
    let r<-lt' (kas_item it x) y
    pure (r.map (!·))) st R:=fun i hi R r=>by
  obtain⟨b1,b2,b3⟩:=hb i hi;refine Zg (Yh (Zfe b1) ?_);rw[b3] at r
  cases left with
  |true=>exact Zgb k hk b2 hx r
  |false=>exact Zg (Zgb k hk hx b2 (Zo r))
 have mf:∀i j,i<=j->j<m->bey i=false->bey j=false:=fun i j ij hj e=>by
  cases z:bey j with
  |false=>rfl
  |true=>rw[mo i j ij hj z] at e;cases e
 let J2:Nat->Option (Option Nat)×Nat×Nat->SortSt->Prop:=fun u c s2=>s2=st/\c.1=none/\c.2.1<=c.2.2/\c.2.2<=m/\c.2.2-c.2.1<=u/\(∀i,i<c.2.1->bey i=true)/\∀i,c.2.2<=i->i<m->bey i=false
 refine Zg (B hint hh ?_);cases bh:bey hint with
 |true=>
  refine Zg (Yg (Ys (P:=fun c s2=>s2=st/\c.1=none/\c.2.1<c.2.2/\c.2.1<m-hint/\bey (hint+c.2.1)=true/\(m-hint<=c.2.2\/bey (hint+c.2.2)=false)) (fun u c s2=>s2=st/\c.1=none/\c.2.1<c.2.2/\c.2.1<m-hint/\m+1<=c.2.2+u/\bey (hint+c.2.1)=true) ⟨rfl,rfl,by show 0<1;omega,by show 0<m-hint;omega,by show m+1<=1+(m-0);omega,bh⟩ (Nat.zero_le _) ?_ ?_) ?_)
  ·rintro u y ⟨c1,c2,c3⟩ s2 _ ⟨e1,e2,e3,e4,e5,e6⟩
   dsimp only at e2 e3 e4 e5 e6⊢
   subst e1 e2
   by_cases g:c3≥m-hint
   ·rw[if_pos g];exact Zo ⟨rfl,rfl,e3,e4,e6,.inl g⟩
   ·rw[if_neg g];refine Zg (B _ (by omega) ?_);cases z:bey (hint+c3) with
    |true=>exact Zo ⟨rfl,rfl,by show c3<2*c3+1;omega,by show c3<m-hint;omega,by show m+1<=2*c3+1+u;omega,z⟩
    |false=>exact Zo ⟨rfl,rfl,e3,e4,e6,.inr z⟩
  ·rintro⟨c1,c2,c3⟩ s2 ⟨e1,e2,e3,e4,e5,e6⟩
   dsimp only at e5
   exact⟨e1,e2,e3,e4,e6,.inl (by show m-hint<=c3;omega)⟩
  ·rintro⟨c1,c2,c3⟩ s2 ⟨e1,e2,e3,e4,e6,e7⟩
   dsimp only at e2 e3 e4 e6 e7⊢
   subst e1 e2;refine Zg (Yg (Ys (P:=J2 0) J2 ⟨rfl,rfl,by show hint+c2+1<=hint+min c3 (m-hint);omega,by show hint+min c3 (m-hint)<=m;omega,by show hint+min c3 (m-hint)-(hint+c2+1)<=m-0;omega,fun i hi=> ?_,fun i hi hm=> ?_⟩ (Nat.zero_le _) ?_ ?_) ?_)
   ·exact mo i _ (by dsimp only at hi;omega) (by omega) e6
   ·rcases e7 with e7|e7
    ·dsimp only at hi;omega
    ·by_cases g:c3<m-hint
     ·exact mf (hint+c3) i (by dsimp only at hi;omega) hm e7
     ·dsimp only at hi;omega
   ·rintro u y ⟨c1,lo,hi⟩ s2 _ ⟨e1,e2,e3,e4,e5,e6,e7⟩
    dsimp only at e2 e3 e4 e5 e6 e7⊢
    subst e1 e2
    by_cases g:lo≥hi
    ·rw[if_pos g];exact Zo ⟨rfl,rfl,e3,e4,by show hi-lo<=0;omega,e6,e7⟩
    ·rw[if_neg g];refine Zg (B _ (by omega) ?_);cases z:bey (lo+(hi-lo)/2) with
     |true=>exact Zo ⟨rfl,rfl,by show lo+(hi-lo)/2+1<=hi;omega,e4,by show hi-(lo+(hi-lo)/2+1)<=u;omega,fun i hi2=>mo i _ (by dsimp only at hi2;omega) (by omega) z,e7⟩
     |false=>exact Zo ⟨rfl,rfl,by show lo<=lo+(hi-lo)/2;omega,by show lo+(hi-lo)/2<=m;omega,by show lo+(hi-lo)/2-lo<=u;omega,e6,fun i a b=>mf _ i a b z⟩
   ·exact fun c s2 z=>z
   ·rintro⟨c1,lo,hi⟩ s2 ⟨e1,e2,e3,e4,e5,e6,e7⟩
    dsimp only at e2 e3 e4 e5 e6 e7⊢
    subst e1 e2;exact Zo (q1 _ e4 (fun i hi=>e6 i (by omega)) e7)
 |false=>
  refine Zg (Yg (Ys (P:=fun c s2=>s2=st/\c.1=none/\c.2.1<c.2.2/\c.2.1<hint+1/\bey (hint-c.2.1)=false/\(hint+1<=c.2.2\/bey (hint-c.2.2)=true)) (fun u c s2=>s2=st/\c.1=none/\c.2.1<c.2.2/\c.2.1<hint+1/\m+1<=c.2.2+u/\bey (hint-c.2.1)=false) ⟨rfl,rfl,by show 0<1;omega,by show 0<hint+1;omega,by show m+1<=1+(m-0);omega,bh⟩ (Nat.zero_le _) ?_ ?_) ?_)
  ·rintro u y ⟨c1,c2,c3⟩ s2 _ ⟨e1,e2,e3,e4,e5,e6⟩
   dsimp only at e2 e3 e4 e5 e6⊢
   subst e1 e2
   by_cases g:c3≥hint+1
   ·rw[if_pos g];exact Zo ⟨rfl,rfl,e3,e4,e6,.inl g⟩
   ·rw[if_neg g];refine Zg (B _ (by omega) ?_);cases z:bey (hint-c3) with
    |false=>exact Zo ⟨rfl,rfl,by show c3<2*c3+1;omega,by show c3<hint+1;omega,by show m+1<=2*c3+1+u;omega,z⟩
    |true=>exact Zo ⟨rfl,rfl,e3,e4,e6,.inr z⟩
  ·rintro⟨c1,c2,c3⟩ s2 ⟨e1,e2,e3,e4,e5,e6⟩
   dsimp only at e5
   exact⟨e1,e2,e3,e4,e6,.inl (by show hint+1<=c3;omega)⟩
  ·rintro⟨c1,c2,c3⟩ s2 ⟨e1,e2,e3,e4,e6,e7⟩
   dsimp only at e2 e3 e4 e6 e7⊢
   subst e1 e2;refine Zg (Yg (Ys (P:=J2 0) J2 ⟨rfl,rfl,by show hint+1-min c3 (hint+1)<=hint-c2;omega,by show hint-c2<=m;omega,by show hint-c2-(hint+1-min c3 (hint+1))<=m-0;omega,fun i hi=> ?_,fun i hi hm=> ?_⟩ (Nat.zero_le _) ?_ ?_) ?_)
   ·rcases e7 with e7|e7
    ·dsimp only at hi;omega
    ·by_cases g:c3<hint+1
     ·exact mo i (hint-c3) (by dsimp only at hi;omega) (by omega) e7
     ·dsimp only at hi;omega
   ·exact mf _ i hi hm e6
   ·rintro u y ⟨c1,lo,hi⟩ s2 _ ⟨e1,e2,e3,e4,e5,e6,e7⟩
    dsimp only at e2 e3 e4 e5 e6 e7⊢
    subst e1 e2
    by_cases g:lo≥hi
    ·rw[if_pos g];exact Zo ⟨rfl,rfl,e3,e4,by show hi-lo<=0;omega,e6,e7⟩
    ·rw[if_neg g];refine Zg (B _ (by omega) ?_);cases z:bey (lo+(hi-lo)/2) with
     |true=>exact Zo ⟨rfl,rfl,by show lo+(hi-lo)/2+1<=hi;omega,e4,by show hi-(lo+(hi-lo)/2+1)<=u;omega,fun i hi2=>mo i _ (by dsimp only at hi2;omega) (by omega) z,e7⟩
     |false=>exact Zo ⟨rfl,rfl,by show lo<=lo+(hi-lo)/2;omega,by show lo+(hi-lo)/2<=m;omega,by show lo+(hi-lo)/2-lo<=u;omega,e6,fun i a b=>mf _ i a b z⟩
   ·exact fun c s2 z=>z
   ·rintro⟨c1,lo,hi⟩ s2 ⟨e1,e2,e3,e4,e5,e6,e7⟩
    dsimp only at e2 e3 e4 e5 e6 e7⊢
    subst e1 e2;exact Zo (q1 _ e4 (fun i hi=>e6 i (by omega)) e7)
end
section
variable {ans:Nat->Nat->Bool} {la lb r:List Nat} {ia ib:Nat} {it:Array Keyed}
def Le(ans:Nat->Nat->Bool)(x y:Nat):Prop:=ans y x=false
theorem Le.trans(o:Ord ans){x y z:Nat}(a:Le ans x y)(b:Le ans y z):Le ans x z:=o.tr x y z a b
theorem Ord.le(o:Ord ans){x y:Nat}(h:ans x y=true):Le ans x y:=o.asym x y h
theorem Ord.lt(o:Ord ans){x y z:Nat}(a:Le ans x y)(h:ans y z=true):ans x z=true:=by
 cases e:ans x z with
 |true=>rfl
 |false=>
  have c:Le ans z y:=Le.trans o (show Le ans z x from e) a;rw[show ans y z=false from c] at h
  cases h
def ar(it:Array Keyed)(l:List Nat):Array Keyed:=l.toArray.map (kas_item it)
theorem Za4(x y:List Nat):ar it x++ar it y=ar it (x++y):=by simp[ar]
theorem Jw(x:List Nat)(y:Nat):(ar it x).push (kas_item it y)=ar it (x++[y]):=by simp[ar]
theorem ZS(x:List Nat):(ar it x).size=x.length:=by simp[ar]
theorem Jr(x:List Nat)(i j:Nat):(ar it x).extract i j=ar it ((x.take j).drop i):=by
 apply Array.ext'
 simp[ar,List.extract,List.map_take,List.map_drop,List.take_drop]
 by_cases h:i<=j
 ·rw[show i+(j-i)=j by omega]
 ·rw[List.drop_eq_nil_of_le (by simp;omega),List.drop_eq_nil_of_le (by simp;omega)]
theorem Zhd(x:List Nat):(ar it x).reverse=ar it x.reverse:=by simp[ar]
theorem Xj(x:List Nat)(i:Nat):at_ x.toArray i=x.getD i 0:=by rw[ZaE];simp
theorem Zcn{x:List Nat}{k i:Nat}(h:k<=i)(hi:i<x.length):at_ x.toArray i∈x.drop k:=by
 rw[Xj,List.mem_drop_iff_getElem];exact⟨i-k,by omega,by simp[show k+(i-k)=i by omega,hi]⟩
theorem Zbv{x:List Nat}{k y:Nat}(h:y∈x.drop k):∃i,k<=i/\i<x.length/\y=at_ x.toArray i:=by
 obtain⟨i,hi,e⟩:=List.mem_drop_iff_getElem.mp h;exact⟨k+i,by omega,by omega,by rw[Xj,<-e];simp[show k+i<x.length by omega]⟩
theorem Zco{x:List Nat}{i:Nat}(h:i<x.length):x.drop i=at_ x.toArray i::x.drop (i+1):=by
 rw[Xj,List.drop_eq_getElem_cons h];simp[h]
theorem Zbw{x:List Nat}(o:Ord ans)(h:x.Pairwise (Le ans)){i j:Nat}(ij:i<=j)(hj:j<x.length):Le ans (at_ x.toArray i) (at_ x.toArray j):=by
 by_cases e:i=j
 ·rw[e];exact o.irr _
 ·have:=List.pairwise_iff_getElem.mp h i j (by omega) hj (by omega);rw[Xj,Xj]
  simpa [hj,show i<x.length by omega] using this
structure Mg (ans:Nat->Nat->Bool) (la lb r:List Nat) (ia ib:Nat):Prop where
 pa:(r++la.drop ia).Pairwise (Le ans)
 pb:(r++lb.drop ib).Pairwise (Le ans)
 pm:(r++(la.drop ia++lb.drop ib)).Perm (la++lb)
def Zam(ans:Nat->Nat->Bool)(it:Array Keyed)(la lb:List Nat)(R:Array Keyed):Prop:=∃r,R=ar it r/\r.Pairwise (Le ans)/\r.Perm (la++lb)
theorem Mg.takeA{k:Nat}(h:Mg ans la lb r ia ib)(c:∀x∈(la.drop ia).take k,∀y∈lb.drop ib,Le ans x y):Mg ans la lb (r++(la.drop ia).take k) (ia+k) ib:=by
 have e:(la.drop ia).take k++la.drop (ia+k)=la.drop ia:=by rw[<-List.drop_drop,List.take_append_drop]
 refine⟨?_, ?_, ?_⟩
 ·rw[List.append_assoc,e];exact h.pa
 ·rw[List.append_assoc,List.pairwise_append];obtain⟨a1,a2,a3⟩:=List.pairwise_append.mp h.pa;obtain⟨b1,b2,b3⟩:=List.pairwise_append.mp h.pb;refine⟨a1,List.pairwise_append.mpr ⟨a2.sublist (List.take_sublist _ _),b2,c⟩,fun x hx y hy=> ?_⟩;rcases List.mem_append.mp hy with hy|hy
  ·exact a3 x hx y (List.mem_of_mem_take hy)
  ·exact b3 x hx y hy
 ·have z:=h.pm;rw[<-e] at z
  simpa [List.append_assoc] using z
theorem Mg.takeB{k:Nat}(h:Mg ans la lb r ia ib)(c:∀x∈(lb.drop ib).take k,∀y∈la.drop ia,Le ans x y):Mg ans la lb (r++(lb.drop ib).take k) ia (ib+k):=by
 have e:(lb.drop ib).take k++lb.drop (ib+k)=lb.drop ib:=by rw[<-List.drop_drop,List.take_append_drop]
 refine⟨?_, ?_, ?_⟩
 ·rw[List.append_assoc,List.pairwise_append];obtain⟨a1,a2,a3⟩:=List.pairwise_append.mp h.pa;obtain⟨b1,b2,b3⟩:=List.pairwise_append.mp h.pb;refine⟨a1,List.pairwise_append.mpr ⟨b2.sublist (List.take_sublist _ _),a2,c⟩,fun x hx y hy=> ?_⟩;rcases List.mem_append.mp hy with hy|hy
  ·exact b3 x hx y (List.mem_of_mem_take hy)
  ·exact a3 x hx y hy
 ·rw[List.append_assoc,e];exact h.pb
 ·have z:=h.pm;rw[<-e] at z
  refine List.Perm.trans ?_ z;rw[List.append_assoc];refine List.Perm.append_left _ ?_;rw[<-List.append_assoc,<-List.append_assoc];exact List.Perm.append_right _ List.perm_append_comm
theorem Mg.pushA(h:Mg ans la lb r ia ib)(hi:ia<la.length)(c:∀y∈lb.drop ib,Le ans (at_ la.toArray ia) y):Mg ans la lb (r++[at_ la.toArray ia]) (ia+1) ib:=by
 have e:(la.drop ia).take 1=[at_ la.toArray ia]:=by rw[Zco hi];rfl
 have z:=h.takeA (k:=1) (by rw[e];intro x hx;rw[List.mem_singleton.mp hx];exact c)
 rwa [e] at z
theorem Mg.pushB(h:Mg ans la lb r ia ib)(hi:ib<lb.length)(c:∀y∈la.drop ia,Le ans (at_ lb.toArray ib) y):Mg ans la lb (r++[at_ lb.toArray ib]) ia (ib+1):=by
 have e:(lb.drop ib).take 1=[at_ lb.toArray ib]:=by rw[Zco hi];rfl
 have z:=h.takeB (k:=1) (by rw[e];intro x hx;rw[List.mem_singleton.mp hx];exact c)
 rwa [e] at z
theorem Mg.end_(h:Mg ans la lb r ia ib)(e:ib=lb.length\/ia=la.length):Zam ans it la lb (ar it r++(ar it la).extract ia++(ar it lb).extract ib):=by
 refine⟨r++(la.drop ia++lb.drop ib), ?_, ?_,h.pm⟩
 ·rw[Jr,Jr,Za4,Za4,ZS,ZS,List.take_length,List.take_length,List.append_assoc]
 ·rcases e with e|e
  ·rw[e,List.drop_length,List.append_nil];exact h.pa
  ·rw[e,List.drop_length,List.nil_append];exact h.pb
theorem Mg.last(h:Mg ans la lb r ia ib)(e:ia+1=la.length)(c:∀y∈lb,Le ans y (at_ la.toArray (la.length-1))):Zam ans it la lb (ar it r++(ar it lb).extract ib++(ar it la).extract ia):=by
 have ed:la.drop ia=[at_ la.toArray (la.length-1)]:=by
  rw[Zco (by omega),show ia+1=la.length from e,List.drop_length,show la.length-1=ia by omega]
 have pm:=h.pm;have pa:=h.pa;rw[ed] at pm pa
 refine⟨r++(lb.drop ib++la.drop ia), ?_, ?_, ?_⟩
 ·rw[Jr,Jr,Za4,Za4,ZS,ZS,List.take_length,List.take_length,List.append_assoc]
 ·rw[ed,<-List.append_assoc,List.pairwise_append];refine⟨h.pb,List.pairwise_singleton _ _,fun x hx y hy=> ?_⟩;rcases List.mem_append.mp hx with hx|hx
  ·exact(List.pairwise_append.mp pa).2.2 x hx y hy
  ·rw[List.mem_singleton.mp hy];exact c x (List.mem_of_mem_drop hx)
 ·rw[ed];exact(List.Perm.append_left _ List.perm_append_comm).trans pm
theorem Mg.leB(o:Ord ans)(sb:lb.Pairwise (Le ans)){x:Nat}(hi:ib<lb.length)(c:Le ans x (at_ lb.toArray ib)):∀y∈lb.drop ib,Le ans x y:=fun y hy=>by
 obtain⟨i,a,b,rfl⟩:=Zbv hy;exact Le.trans o c (Zbw o sb a b)
end
section
variable {prog:Program} {w:World} {A:Around} {I:Shared->Prop} {κ:SortKind} {it:Array Keyed} {n:Nat} {ans:Nat->Nat->Bool}
theorem ZZ{α:Type}{M:Model}{c:Prop} [Decidable c]{x y:StateT SortSt Sem α}{st:SortSt}{P:α->SortSt->Prop}(h1:c->Rn M A I x st P)(h2:¬c->Rn M A I y st P):Rn M A I (if c then x else y) st P:=by
 by_cases h:c
 ·rw[if_pos h];exact h1 h
 ·rw[if_neg h];exact h2 h
theorem Xu{α:Type}{M:Model}{c:Prop} [Decidable c]{x y:StateT SortSt Sem α}{st:SortSt}{P:α->SortSt->Prop}(h:c)(h1:Rn M A I x st P):Rn M A I (if c then x else y) st P:=by rw[if_pos h];exact h1
theorem Xf{α:Type}{M:Model}{c:Prop} [Decidable c]{x y:StateT SortSt Sem α}{st:SortSt}{P:α->SortSt->Prop}(h:¬c)(h1:Rn M A I y st P):Rn M A I (if c then x else y) st P:=by rw[if_neg h];exact h1
theorem Xm{l:List Nat}{i:Nat}(h:i<l.length):(ar it l)[i]? =some (kas_item it (at_ l.toArray i)):=Zfe (by simpa using h)
theorem Zcp{l:List Nat}{i:Nat}(h:(i==(ar it l).size)=true):i=l.length:=by have:=eq_of_beq h;rwa [ZS] at this
theorem ZaG{l:List Nat}{i:Nat}(h:¬(i==(ar it l).size)=true):i≠l.length:=fun e=>h (by rw[ZS,e];exact beq_self_eq_true _)
def stt(κ:SortKind)(arr:Array Keyed)(pend:Array (Nat×Nat×Nat))(g:Nat):SortSt:=SortSt.mk' κ arr pend g none
structure Gd (ans:Nat->Nat->Bool) (it:Array Keyed) (la lb:List Nat) (out:Array Keyed) (ia ib u:Nat):Prop where
 row:∃r,out=ar it r/\Mg ans la lb r ia ib
 roomA:ia+1<la.length
 roomB:ib<lb.length
 left:la.length-ia+(lb.length-ib)<=u
theorem Zjt{arr:Array Keyed}{pend:Array (Nat×Nat×Nat)}{g g2:Nat}{P:Unit->SortSt->Prop}(h:P () (stt κ arr pend g2)):Rn (model prog w) A I (ZkH g2) (stt κ arr pend g) P:=JH h
theorem Zlc(k:ZcL prog w A I κ it n ans)(o:Ord ans){st:SortSt}(hk:kindOf st=κ){l:List Nat}{x base m hint:Nat}(nl:∀i,i<l.length->at_ l.toArray i<n)(sl:∀i j,base<=i->i<=j->j<base+m->Le ans (at_ l.toArray i) (at_ l.toArray j))(hx:x<n)(hm:base+m<=l.length)(hh:hint<m){P:Option Nat->SortSt->Prop}
  (q:∀y,y<=m->(∀i,base<=i->i<base+y->Le ans (at_ l.toArray i) x)->(∀i,base+y<=i->i<base+m->ans x (at_ l.toArray i)=true)->P (some y) st):Rn (model prog w) A I (Zcm false (kas_item it x) (ar it l) base m hint) st P:=by
 refine gal k hk (bey:=fun i=> !(ans x (at_ l.toArray (base+i)))) (fun i hi=>⟨by simp;omega,nl _ (by omega),rfl⟩) hx (fun i j ij hj e=> ?_) hh fun y hy a b=>q y hy (fun i h1 h2=> ?_) fun i h1 h2=> ?_
 ·have e:ans x (at_ l.toArray (base+j))=false:=by simpa using e
  have z:=Le.trans o (sl (base+i) (base+j) (by omega) (by omega) (by omega)) e;show(!(ans x (at_ l.toArray (base+i))))=true;rw[show ans x (at_ l.toArray (base+i))=false from z]
  rfl
 ·have z:=a (i-base) (by omega);rw[show base+(i-base)=i by omega] at z
  exact(by simpa using z:ans x (at_ l.toArray i)=false)
 ·have z:=b (i-base) (by omega) (by omega);rw[show base+(i-base)=i by omega] at z
  simpa using z
theorem Zld(k:ZcL prog w A I κ it n ans)(o:Ord ans){st:SortSt}(hk:kindOf st=κ){l:List Nat}{x base m hint:Nat}(nl:∀i,i<l.length->at_ l.toArray i<n)(sl:∀i j,base<=i->i<=j->j<base+m->Le ans (at_ l.toArray i) (at_ l.toArray j))(hx:x<n)(hm:base+m<=l.length)(hh:hint<m){P:Option Nat->SortSt->Prop}
  (q:∀y,y<=m->(∀i,base<=i->i<base+y->ans (at_ l.toArray i) x=true)->(∀i,base+y<=i->i<base+m->Le ans x (at_ l.toArray i))->P (some y) st):Rn (model prog w) A I (Zcm true (kas_item it x) (ar it l) base m hint) st P:=by
 refine gal k hk (bey:=fun i=>ans (at_ l.toArray (base+i)) x) (fun i hi=>⟨by simp;omega,nl _ (by omega),rfl⟩) hx (fun i j ij hj e=>o.lt (sl (base+i) (base+j) (by omega) (by omega) (by omega)) e) hh fun y hy a b=>q y hy (fun i h1 h2=> ?_) fun i h1 h2=> ?_
 ·have z:=a (i-base) (by omega)
  rwa [show base+(i-base)=i by omega] at z
 ·have z:=b (i-base) (by omega) (by omega)
  rwa [show base+(i-base)=i by omega] at z
theorem ZmC(k:ZcL prog w A I κ it n ans)(o:Ord ans){st:SortSt}(hk:kindOf st=κ){l:List Nat}(nl:∀i,i<l.length->at_ l.toArray i<n)(sl:l.Pairwise (Le ans)){x base m hint:Nat}(hx:x<n)(hm:base+m<=l.length)(hh:hint<m){P:Option Nat->SortSt->Prop}
  (q:∀y,y<=m->(∀i,base<=i->i<base+y->Le ans (at_ l.toArray i) x)->(∀i,base+y<=i->i<base+m->ans x (at_ l.toArray i)=true)->P (some y) st):Rn (model prog w) A I (Zcm false (kas_item it x) (ar it l) base m hint) st P:=Zlc k o hk nl (fun i j _ ij hj=>Zbw o sl ij (by omega)) hx hm hh q
theorem ZmD(k:ZcL prog w A I κ it n ans)(o:Ord ans){st:SortSt}(hk:kindOf st=κ){l:List Nat}(nl:∀i,i<l.length->at_ l.toArray i<n)(sl:l.Pairwise (Le ans)){x base m hint:Nat}(hx:x<n)(hm:base+m<=l.length)(hh:hint<m){P:Option Nat->SortSt->Prop}
  (q:∀y,y<=m->(∀i,base<=i->i<base+y->ans (at_ l.toArray i) x=true)->(∀i,base+y<=i->i<base+m->Le ans x (at_ l.toArray i))->P (some y) st):Rn (model prog w) A I (Zcm true (kas_item it x) (ar it l) base m hint) st P:=Zld k o hk nl (fun i j _ ij hj=>Zbw o sl ij (by omega)) hx hm hh q
theorem Zgc{l:List Nat}{i y x:Nat}(h:x∈(l.drop i).take y)(hy:i+y<=l.length):∃j,i<=j/\j<i+y/\x=at_ l.toArray j:=by
 obtain⟨j,hj,e⟩:=List.mem_take_iff_getElem.mp h;have hj2:j<y/\j<(l.drop i).length:=by simpa [Nat.lt_min] using hj
 rw[List.length_drop] at hj2
 refine⟨i+j,by omega,by omega, ?_⟩;rw[Xj,<-e];simp[show i+j<l.length by omega]
theorem Zb9(l r:List Nat)(i y:Nat):ar it r++(ar it l).extract i (i+y)=ar it (r++(l.drop i).take y):=by
 rw[Jr,Za4,List.drop_take,Nat.add_sub_cancel_left]
theorem mlo(k:ZcL prog w A I κ it n ans)(o:Ord ans){arr:Array Keyed}{pend:Array (Nat×Nat×Nat)}{g:Nat}{la lb:List Nat}(na:∀x∈la,x<n)(nb:∀x∈lb,x<n)(sa:la.Pairwise (Le ans))(sb:lb.Pairwise (Le ans))(ha:0<la.length)(hb:0<lb.length)
  (hf:ans (at_ lb.toArray 0) (at_ la.toArray 0)=true)(hl:∀y∈lb,Le ans y (at_ la.toArray (la.length-1))){P:Array Keyed->SortSt->Prop}(q:∀R g,Zam ans it la lb R->P R (stt κ arr pend g)):Rn (model prog w) A I (Zg9 (ar it la) (ar it lb)) (stt κ arr pend g) P:=by
 have m0:Mg ans la lb [] 0 0:=⟨sa,sb,.refl _⟩
 have A0:∀i,i<la.length->at_ la.toArray i<n:=fun i hi=>na _ (List.mem_of_mem_drop (Zcn (k:=0) (Nat.zero_le _) hi));have B0:∀i,i<lb.length->at_ lb.toArray i<n:=fun i hi=>nb _ (List.mem_of_mem_drop (Zcn (k:=0) (Nat.zero_le _) hi));have m1:=m0.pushB hb (Mg.leB o sa ha (o.le hf));refine Zg (ZaF ?_);refine Zg (Yh (Xm hb) ?_);have m1:Mg ans la lb [at_ lb.toArray 0] 0 1:=m1;have e1: #[kas_item it (at_ lb.toArray 0)]=ar it [at_ lb.toArray 0]:=by simp[ar]
 refine ZZ (fun c=> ?_) (fun c=> ?_)
 ·have c1:1=lb.length:=Zcp c;refine Zo (q _ _ ?_);rw[e1];exact m1.end_ (.inl c1)
 have c1:1≠lb.length:=ZaG c;refine ZZ (fun c=> ?_) (fun c=> ?_)
 ·have c2:0+1=la.length:=Zcp c;refine Zo (q _ _ ?_);rw[e1];exact m1.last c2 hl
 have c2:0+1≠la.length:=ZaG c;refine Zg (XD ?_);rw[e1];refine Zg (Yg (Ys (P:=fun c s2=>(∃g,s2=stt κ arr pend g)/\∃R,c.1=some R/\Zam ans it la lb R) (fun u c s2=>(∃g,s2=stt κ arr pend g)/\c.1=none/\Gd ans it la lb c.2.1 c.2.2.1 c.2.2.2.1 u) ⟨⟨_,rfl⟩,rfl,⟨_,rfl,m1⟩,by show 0+1<la.length;omega,by show 1<lb.length;omega,by show la.length-0+(lb.length-1)<=(ar it la).size+(ar it lb).size-0;rw[ZS,ZS];omega⟩ (Nat.zero_le _) ?_ ?_) ?_)
 ·rintro u y ⟨c1,out,ia,ib,mg⟩ s2 _ ⟨⟨g2,rfl⟩,e2,gd0⟩;have e2:c1=none:=e2;have gd:Gd ans it la lb out ia ib (u+1):=gd0;clear gd0;subst e2;refine Zg (Yg (Ys (P:=fun c s2=>s2=stt κ arr pend g2/\((∃R,c.1=some R/\Zam ans it la lb R)\/(c.1=none/\Gd ans it la lb c.2.1 c.2.2.1 c.2.2.2.1 u))) (fun v c s2=>s2=stt κ arr pend g2/\c.1=none/\Gd ans it la lb c.2.1 c.2.2.1 c.2.2.2.1 (u+1)/\la.length-c.2.2.1+(lb.length-c.2.2.2.1)+(la.length+lb.length)<=u+1+v) ⟨rfl,rfl,gd, ?_⟩ (Nat.zero_le _) ?_ ?_) ?_)
  ·show la.length-ia+(lb.length-ib)+(la.length+lb.length)<=u+1+((ar it la).size+(ar it lb).size-0);have:=gd.left;rw[ZS,ZS];omega
  ·rintro v y ⟨c1,out,ia,ib,ac,bc⟩ s2 _ ⟨rfl,e2,gd0,me0⟩;have e2:c1=none:=e2;have gd:Gd ans it la lb out ia ib (u+1):=gd0;clear gd0;have me:la.length-ia+(lb.length-ib)+(la.length+lb.length)<=u+1+(v+1):=me0;clear me0;subst e2;obtain⟨⟨r,rfl,mm⟩,ra,rb,lf⟩:=gd;refine Zg (Yh (Xm rb) ?_);refine Zg (Yh (Xm (show ia<la.length by omega)) ?_);refine Zg (Zgb k rfl (B0 ib rb) (A0 ia (by omega)) ?_);cases z:ans (at_ lb.toArray ib) (at_ la.toArray ia) with
   |true=>
    have m2:=mm.pushB rb (Mg.leB o sa (by omega) (o.le z));refine Zg (Yh (Xm rb) ?_);refine ZZ (fun c=> ?_) (fun c=> ?_)
    ·have c3:ib+1=lb.length:=Zcp c;refine Zo ⟨rfl,.inl ⟨_,rfl, ?_⟩⟩;rw[Jw];exact m2.end_ (.inl c3)
    have c3:ib+1≠lb.length:=ZaG c;refine ZZ (fun c=> ?_) (fun c=> ?_)
    ·exact Zo ⟨rfl,.inr ⟨rfl,⟨_,Jw _ _,m2⟩,ra,by show ib+1<lb.length;omega,by show la.length-ia+(lb.length-(ib+1))<=u;omega⟩⟩
    ·exact Zo ⟨rfl,rfl,⟨⟨_,Jw _ _,m2⟩,ra,by show ib+1<lb.length;omega,by show la.length-ia+(lb.length-(ib+1))<=u+1;omega⟩,by show la.length-ia+(lb.length-(ib+1))+(la.length+lb.length)<=u+1+v;omega⟩
   |false=>
    have m2:=mm.pushA (by omega) (Mg.leB o sb rb z);refine Zg (Yh (Xm (show ia<la.length by omega)) ?_);refine ZZ (fun c=> ?_) (fun c=> ?_)
    ·have c3:ia+1+1=la.length:=Zcp c;refine Zo ⟨rfl,.inl ⟨_,rfl, ?_⟩⟩;rw[Jw];exact m2.last c3 hl
    have c3:ia+1+1≠la.length:=ZaG c;refine ZZ (fun c=> ?_) (fun c=> ?_)
    ·exact Zo ⟨rfl,.inr ⟨rfl,⟨_,Jw _ _,m2⟩,by show ia+1+1<la.length;omega,rb,by show la.length-(ia+1)+(lb.length-ib)<=u;omega⟩⟩
    ·exact Zo ⟨rfl,rfl,⟨⟨_,Jw _ _,m2⟩,by show ia+1+1<la.length;omega,rb,by show la.length-(ia+1)+(lb.length-ib)<=u+1;omega⟩,by show la.length-(ia+1)+(lb.length-ib)+(la.length+lb.length)<=u+1+v;omega⟩
  ·rintro⟨c1,out,ia,ib,ac,bc⟩ s2 ⟨rfl,e2,gd0,me0⟩;have me:la.length-ia+(lb.length-ib)+(la.length+lb.length)<=u+1+0:=me0;clear me0;exact⟨rfl,.inr ⟨e2,gd0.row,gd0.roomA,gd0.roomB,by show la.length-ia+(lb.length-ib)<=u;omega⟩⟩
  ·rintro⟨c1,out,ia,ib,ac,bc⟩ s2 ⟨rfl,⟨R,e2,wh⟩|⟨e2,gd0⟩⟩
   ·have e2:c1=some R:=e2;subst e2;exact Zo ⟨⟨_,rfl⟩,R,rfl,wh⟩
   ·have e2:c1=none:=e2;have gd:Gd ans it la lb out ia ib u:=gd0;clear gd0;subst e2;refine Zg (ZaF ?_);refine Zg (Yg (Ys (P:=fun c s2=>(∃g,s2=stt κ arr pend g)/\((∃R,c.1=some R/\Zam ans it la lb R)\/(c.1=none/\Gd ans it la lb c.2.1 c.2.2.1 c.2.2.2.1 u))) (fun v c s2=>(∃g,s2=stt κ arr pend g)/\c.1=none/\Gd ans it la lb c.2.1 c.2.2.1 c.2.2.2.1 u) ⟨⟨_,rfl⟩,rfl,gd⟩ (Nat.zero_le _) ?_ ?_) ?_)
    ·rintro v y ⟨c1,out,ia,ib,mg,ac,bc⟩ s2 _ ⟨⟨g3,rfl⟩,e2,gd0⟩;have e2:c1=none:=e2;have gd:Gd ans it la lb out ia ib u:=gd0;clear gd0;subst e2;obtain⟨⟨r,rfl,mm⟩,ra,rb,lf⟩:=gd;refine ZZ (fun c=> ?_) (fun c=> ?_)
     all_goals
      refine Zg (Zjt ?_);refine Zg (Yh (Xm rb) ?_);refine Zg (ZmC k o rfl A0 sa (B0 ib rb) (show ia+((ar it la).size-ia)<=la.length by rw[ZS];omega) (show 0<(ar it la).size-ia by rw[ZS];omega) fun j hj f1 f2=> ?_)
      rw[ZS] at hj f2
      by_cases c3:j>0
      case' pos=>
       refine Xu c3 ?_;have m2:=mm.takeA (k:=j) fun x hx y hy=>by
        obtain⟨p,p1,p2,rfl⟩:=Zgc hx (by omega);exact Mg.leB o sb rb (f1 p p1 p2) y hy
       refine ZZ (fun c4=> ?_) (fun c4=> ?_)
       ·have c4:ia+j+1=la.length:=Zcp c4;refine Zo ⟨⟨_,rfl⟩,.inl ⟨_,rfl, ?_⟩⟩
        try dsimp only
        rw[Zb9];exact m2.last c4 hl
       have c4:ia+j+1≠la.length:=ZaG c4;refine ZZ (fun c5=> ?_) (fun c5=> ?_)
       ·have c5:ia+j=la.length:=Zcp c5;refine Zo ⟨⟨_,rfl⟩,.inl ⟨_,rfl, ?_⟩⟩
        try dsimp only
        rw[Zb9];exact m2.end_ (.inr c5)
       have c5:ia+j≠la.length:=ZaG c5
       try dsimp only
       rw[Zb9];have ra1:ia+j+1<la.length:=by omega
       have f3:∀i,ia+j<=i->i<la.length->ans (at_ lb.toArray ib) (at_ la.toArray i)=true:=fun i a b=>f2 i a (by omega);have lf1:la.length-(ia+j)+(lb.length-ib)<=u:=by omega
       generalize r++(la.drop ia).take j=r1 at m2⊢
       generalize ia+j=ia1 at m2 ra1 f3 lf1⊢
      case' neg=>
       refine Xf c3 ?_;have m2:=mm;have ra1:=ra;have f3:∀i,ia<=i->i<la.length->ans (at_ lb.toArray ib) (at_ la.toArray i)=true:=fun i a b=>f2 i (by omega) (by omega);have lf1:=lf
       try dsimp only
       generalize r=r1 at m2⊢
       generalize ia=ia1 at m2 ra1 f3 lf1⊢
      all_goals
       have m3:=m2.pushB rb fun y hy=>by
        obtain⟨p,p1,p2,rfl⟩:=Zbv hy;exact o.le (f3 p p1 p2)
       refine Zg (Yh (Xm rb) ?_);rw[Jw];generalize r1++[at_ lb.toArray ib]=r2 at m3⊢
       refine ZZ (fun c6=> ?_) (fun c6=> ?_)
       ·exact Zo ⟨⟨_,rfl⟩,.inl ⟨_,rfl,m3.end_ (.inl (Zcp c6))⟩⟩
       have c6:ib+1≠lb.length:=ZaG c6;refine Zg (Yh (Xm (show ia1<la.length by omega)) ?_);refine Zg (ZmD k o rfl B0 sb (A0 ia1 (by omega)) (show ib+1+((ar it lb).size-(ib+1))<=lb.length by rw[ZS];omega) (show 0<(ar it lb).size-(ib+1) by rw[ZS];omega) fun j2 hj2 f4 f5=> ?_)
       rw[ZS] at hj2 f5
       by_cases c7:j2>0
       case' pos=>
        refine Xu c7 ?_;have m4:=m3.takeB (k:=j2) fun x hx y hy=>by
         obtain⟨p,p1,p2,rfl⟩:=Zgc hx (by omega);exact Mg.leB o sa (by omega) (o.le (f4 p p1 p2)) y hy
        refine ZZ (fun c8=> ?_) (fun c8=> ?_)
        ·have c8:ib+1+j2=lb.length:=Zcp c8;refine Zo ⟨⟨_,rfl⟩,.inl ⟨_,rfl, ?_⟩⟩
         try dsimp only
         rw[Zb9];exact m4.end_ (.inl c8)
        have c8:ib+1+j2≠lb.length:=ZaG c8
        try dsimp only
        rw[Zb9];have rb1:ib+1+j2<lb.length:=by omega
        have f6:∀i,ib+1+j2<=i->i<lb.length->Le ans (at_ la.toArray ia1) (at_ lb.toArray i):=fun i a b=>f5 i a (by omega);have lf2:la.length-ia1+(lb.length-(ib+1+j2))<=u:=by omega
        generalize r2++(lb.drop (ib+1)).take j2=r3 at m4⊢
        generalize ib+1+j2=ib1 at m4 rb1 f6 lf2⊢
       case' neg=>
        refine Xf c7 ?_;have m4:=m3;have rb1:ib+1<lb.length:=by omega
        have f6:∀i,ib+1<=i->i<lb.length->Le ans (at_ la.toArray ia1) (at_ lb.toArray i):=fun i a b=>f5 i (by omega) (by omega);have lf2:la.length-ia1+(lb.length-(ib+1))<=u:=by omega
        try dsimp only
        generalize r2=r3 at m4⊢
        generalize ib+1=ib1 at m4 rb1 f6 lf2⊢
       all_goals
        have m5:=m4.pushA (show ia1<la.length by omega) fun y hy=>by
         obtain⟨p,p1,p2,rfl⟩:=Zbv hy;exact f6 p p1 p2
        refine Zg (Yh (Xm (show ia1<la.length by omega)) ?_);rw[Jw];refine ZZ (fun c9=> ?_) (fun c9=> ?_)
        ·exact Zo ⟨⟨_,rfl⟩,.inl ⟨_,rfl,m5.last (Zcp c9) hl⟩⟩
        have c9:ia1+1+1≠la.length:=ZaG c9;have gd2:Gd ans it la lb _ (ia1+1) ib1 u:=⟨⟨_,rfl,m5⟩,by omega,rb1,by omega⟩
        refine ZZ (fun c10=> ?_) (fun c10=> ?_)
        ·exact Zo ⟨⟨_,rfl⟩,.inr ⟨rfl,gd2⟩⟩
        ·exact Zo ⟨⟨_,rfl⟩,rfl,gd2⟩
    ·exact fun c s2 ⟨e1,e2,gd⟩=>⟨e1,.inr ⟨e2,gd⟩⟩
    ·rintro⟨c1,out,ia,ib,mg,ac,bc⟩ s2 ⟨⟨g3,rfl⟩,⟨R,e2,wh⟩|⟨e2,gd0⟩⟩
     ·have e2:c1=some R:=e2;subst e2;exact Zo ⟨⟨_,rfl⟩,R,rfl,wh⟩
     ·have e2:c1=none:=e2;subst e2;exact Zg (JH (Zo ⟨⟨_,rfl⟩,rfl,gd0⟩))
 ·rintro c s2 ⟨_,_,gd⟩;have:=gd.left;have:=gd.roomA;have:=gd.roomB;omega
 ·rintro⟨c1,out,ia,ib,mg⟩ s2 ⟨⟨g3,rfl⟩,R,e2,wh⟩;have e2:c1=some R:=e2;subst e2;exact Zo (q _ _ wh)
structure Mh (ans:Nat->Nat->Bool) (la lb r:List Nat) (na nb:Nat):Prop where
 pa:(la.take na++r).Pairwise (Le ans)
 pb:(lb.take nb++r).Pairwise (Le ans)
 pm:(la.take na++(lb.take nb++r)).Perm (la++lb)
theorem Zcq{l:List Nat}{i m:Nat}(h:i<=m):l.take i++(l.take m).drop i=l.take m:=by
 have:=List.take_append_drop i (l.take m)
 rwa [List.take_take,Nat.min_eq_left h] at this
section
variable {la lb r:List Nat} {na nb:Nat}
theorem Mh.takeA{i:Nat}(h:Mh ans la lb r na nb)(hi:i<=na)(c:∀x∈(la.take na).drop i,∀y∈lb.take nb,Le ans y x):Mh ans la lb ((la.take na).drop i++r) i nb:=by
 have e:=Zcq (l:=la) hi;obtain⟨a1,a2,a3⟩:=List.pairwise_append.mp h.pa;obtain⟨b1,b2,b3⟩:=List.pairwise_append.mp h.pb;refine⟨?_, ?_, ?_⟩
 ·rw[<-List.append_assoc,e];exact h.pa
 ·refine List.pairwise_append.mpr ⟨b1,List.pairwise_append.mpr ⟨a1.sublist (List.drop_sublist _ _),a2,fun x hx y hy=>a3 x (List.mem_of_mem_drop hx) y hy⟩,fun y hy x hx=> ?_⟩;rcases List.mem_append.mp hx with hx|hx
  ·exact c x hx y hy
  ·exact b3 y hy x hx
 ·refine List.Perm.trans ?_ h.pm
  conv=>rhs;rw[<-e,List.append_assoc]
  refine List.Perm.append_left _ ?_;rw[<-List.append_assoc,<-List.append_assoc];exact List.Perm.append_right _ (List.perm_append_comm)
theorem Mh.takeB{i:Nat}(h:Mh ans la lb r na nb)(hi:i<=nb)(c:∀x∈(lb.take nb).drop i,∀y∈la.take na,Le ans y x):Mh ans la lb ((lb.take nb).drop i++r) na i:=by
 have e:=Zcq (l:=lb) hi;obtain⟨a1,a2,a3⟩:=List.pairwise_append.mp h.pa;obtain⟨b1,b2,b3⟩:=List.pairwise_append.mp h.pb;refine⟨?_, ?_, ?_⟩
 ·refine List.pairwise_append.mpr ⟨a1,List.pairwise_append.mpr ⟨b1.sublist (List.drop_sublist _ _),b2,fun x hx y hy=>b3 x (List.mem_of_mem_drop hx) y hy⟩,fun y hy x hx=> ?_⟩;rcases List.mem_append.mp hx with hx|hx
  ·exact c x hx y hy
  ·exact a3 y hy x hx
 ·rw[<-List.append_assoc,e];exact h.pb
 ·have z:=h.pm;rw[<-e] at z
  rwa [List.append_assoc] at z
theorem Zdt{x:List Nat}{m y:Nat}(h:y∈x.take m)(hm:m<=x.length):∃i,i<m/\y=at_ x.toArray i:=by
 obtain⟨i,hi,e⟩:=List.mem_take_iff_getElem.mp h;have hi2:i<m/\i<x.length:=by simpa [Nat.lt_min] using hi
 exact⟨i,hi2.1,by rw[Xj,<-e];simp[hi2.2]⟩
theorem ZbQ{x:List Nat}{m j y:Nat}(h:y∈(x.take m).drop j)(hm:m<=x.length):∃i,j<=i/\i<m/\y=at_ x.toArray i:=by
 obtain⟨i,hi,e⟩:=List.mem_drop_iff_getElem.mp h;rw[List.length_take,Nat.min_eq_left hm] at hi
 refine⟨j+i,by omega,by omega, ?_⟩;rw[Xj,<-e];simp[show j+i<x.length by omega]
theorem Zcr{x:List Nat}{m:Nat}(hm:m<x.length):(x.take (m+1)).drop m=[at_ x.toArray m]:=by
 rw[List.drop_take,Nat.add_sub_cancel_left,Zco hm]
 rfl
theorem Mh.pushA{m:Nat}(h:Mh ans la lb r (m+1) nb)(hm:m<la.length)(c:∀y∈lb.take nb,Le ans y (at_ la.toArray m)):Mh ans la lb (at_ la.toArray m::r) m nb:=by
 have z:=h.takeA (i:=m) (by omega) (by rw[Zcr hm];intro x hx;rw[List.mem_singleton.mp hx];exact c)
 rwa [Zcr hm] at z
theorem Mh.pushB{m:Nat}(h:Mh ans la lb r na (m+1))(hm:m<lb.length)(c:∀y∈la.take na,Le ans y (at_ lb.toArray m)):Mh ans la lb (at_ lb.toArray m::r) na m:=by
 have z:=h.takeB (i:=m) (by omega) (by rw[Zcr hm];intro x hx;rw[List.mem_singleton.mp hx];exact c)
 rwa [Zcr hm] at z
theorem Mh.end_(h:Mh ans la lb r na nb)(e:na=0\/nb=0):Zam ans it la lb ((ar it la).extract 0 na++(ar it lb).extract 0 nb++(ar it r.reverse).reverse):=by
 refine⟨la.take na++(lb.take nb++r), ?_, ?_,h.pm⟩
 ·rw[Zhd,List.reverse_reverse,Jr,Jr,Za4,Za4,List.drop_zero,List.drop_zero,List.append_assoc]
 ·rcases e with e|e
  ·rw[e,List.take_zero,List.nil_append];exact h.pb
  ·rw[e,List.take_zero,List.nil_append];exact h.pa
theorem Mh.first(h:Mh ans la lb r na nb)(e:nb=1)(hb:0<lb.length)(c:∀y∈la,Le ans (at_ lb.toArray 0) y):Zam ans it la lb ((ar it lb).extract 0 nb++(ar it la).extract 0 na++(ar it r.reverse).reverse):=by
 have ed:lb.take nb=[at_ lb.toArray 0]:=by
  have:=Zcr hb
  rwa [List.drop_zero,Nat.zero_add,<-e] at this
 refine⟨lb.take nb++(la.take na++r), ?_, ?_, ?_⟩
 ·rw[Zhd,List.reverse_reverse,Jr,Jr,Za4,Za4,List.drop_zero,List.drop_zero,List.append_assoc]
 ·rw[ed];refine List.pairwise_append.mpr ⟨List.pairwise_singleton _ _,h.pa,fun x hx y hy=> ?_⟩;rw[List.mem_singleton.mp hx];rcases List.mem_append.mp hy with hy|hy
  ·exact c y (List.mem_of_mem_take hy)
  ·exact(List.pairwise_append.mp h.pb).2.2 _ (by rw[ed];exact List.mem_singleton.mpr rfl) y hy
 ·refine List.Perm.trans ?_ h.pm;rw[<-List.append_assoc,<-List.append_assoc];exact List.Perm.append_right _ List.perm_append_comm
theorem Mh.leB(o:Ord ans){l:List Nat}{m:Nat}(sl:l.Pairwise (Le ans)){x:Nat}(hm:m+1<=l.length)(c:Le ans (at_ l.toArray m) x):∀y∈l.take (m+1),Le ans y x:=fun y hy=>by
 obtain⟨i,a,rfl⟩:=Zdt hy hm;exact Le.trans o (Zbw o sl (by omega) (by omega)) c
theorem Jd(x:Nat)(r:List Nat):(ar it r.reverse).push (kas_item it x)=ar it (x::r).reverse:=by rw[Jw,List.reverse_cons]
theorem Zcs(l r:List Nat)(i m:Nat):ar it r.reverse++((ar it l).extract i m).reverse=ar it ((l.take m).drop i++r).reverse:=by rw[Jr,Zhd,Za4,List.reverse_append]
end
structure Gh (ans:Nat->Nat->Bool) (it:Array Keyed) (la lb:List Nat) (out:Array Keyed) (na nb u:Nat):Prop where
 row:∃r,out=ar it r.reverse/\Mh ans la lb r na nb
 roomA:0<na/\na<=la.length
 roomB:1<nb/\nb<=lb.length
 left:na+nb<=u
theorem mhi(k:ZcL prog w A I κ it n ans)(o:Ord ans){arr:Array Keyed}{pend:Array (Nat×Nat×Nat)}{g:Nat}{la lb:List Nat}(na:∀x∈la,x<n)(nb:∀x∈lb,x<n)(sa:la.Pairwise (Le ans))(sb:lb.Pairwise (Le ans))(ha:0<la.length)(hb:0<lb.length)
  (hf:ans (at_ lb.toArray 0) (at_ la.toArray 0)=true)(hl:∀y∈lb,Le ans y (at_ la.toArray (la.length-1))){P:Array Keyed->SortSt->Prop}(q:∀R g,Zam ans it la lb R->P R (stt κ arr pend g)):Rn (model prog w) A I (Zga (ar it la) (ar it lb)) (stt κ arr pend g) P:=by
 have A0:∀i,i<la.length->at_ la.toArray i<n:=fun i hi=>na _ (List.mem_of_mem_drop (Zcn (k:=0) (Nat.zero_le _) hi));have B0:∀i,i<lb.length->at_ lb.toArray i<n:=fun i hi=>nb _ (List.mem_of_mem_drop (Zcn (k:=0) (Nat.zero_le _) hi));have low:∀y∈la,Le ans (at_ lb.toArray 0) y:=fun y hy=>by
  obtain⟨i,_,b,rfl⟩:=Zbv (k:=0) hy;exact Le.trans o (o.le hf) (Zbw o sa (Nat.zero_le _) b)
 obtain⟨z,ez⟩:∃z,la.length=z+1:=⟨la.length-1,by omega⟩
 have m0:Mh ans la lb [] (z+1) lb.length:=⟨by rw[<-ez,List.take_length,List.append_nil];exact sa,by rw[List.take_length,List.append_nil];exact sb,by rw[<-ez,List.take_length,List.take_length,List.append_nil]⟩
 have m1:=m0.pushA (by omega) (by rw[List.take_length,show z=la.length-1 by omega];exact hl)
 refine Zg (ZaF ?_);refine Zg (Yh (i:=(ar it la).size-1) (by rw[ZS,ez,Nat.add_sub_cancel];exact Xm (by omega)) ?_)
 have e1: #[kas_item it (at_ la.toArray z)]=ar it [at_ la.toArray z].reverse:=by simp[ar]
 have es:(ar it la).size-1=z:=by rw[ZS];omega
 rw[e1,es];refine ZZ (fun c=> ?_) (fun c=> ?_)
 ·have c1:z=0:=eq_of_beq c;refine Zo (q _ _ ?_);rw[ZS];exact m1.end_ (.inl c1)
 have c1:z≠0:=fun y=>c (by rw[y];rfl)
 refine ZZ (fun c=> ?_) (fun c=> ?_)
 ·have c2:(ar it lb).size=1:=eq_of_beq c;refine Zo (q _ _ ?_);rw[ZS] at c2⊢
  exact m1.first c2 hb low
 have c2:(ar it lb).size≠1:=fun y=>c (by rw[y];rfl)
 rw[ZS] at c2
 refine Zg (XD ?_);refine Zg (Yg (Ys (P:=fun c s2=>(∃g,s2=stt κ arr pend g)/\∃R,c.1=some R/\Zam ans it la lb R) (fun u c s2=>(∃g,s2=stt κ arr pend g)/\c.1=none/\Gh ans it la lb c.2.2.2.1 c.2.1 c.2.2.1 u) ⟨⟨_,rfl⟩,rfl,⟨_,rfl,by show Mh ans la lb _ z (ar it lb).size;rw[ZS];exact m1⟩,by show 0<z/\z<=la.length;omega,by show 1<(ar it lb).size/\(ar it lb).size<=lb.length;rw[ZS];omega,by show z+(ar it lb).size<=(ar it la).size+(ar it lb).size-0;rw[ZS,ZS];omega⟩ (Nat.zero_le _) ?_ ?_) ?_)
 ·rintro u y ⟨c1,na,nb,out,mg⟩ s2 _ ⟨⟨g2,rfl⟩,e2,gd0⟩;have e2:c1=none:=e2;have gd:Gh ans it la lb out na nb (u+1):=gd0;clear gd0;subst e2;refine Zg (Yg (Ys (P:=fun c s2=>s2=stt κ arr pend g2/\((∃R,c.1=some R/\Zam ans it la lb R)\/(c.1=none/\Gh ans it la lb c.2.2.2.1 c.2.1 c.2.2.1 u))) (fun v c s2=>s2=stt κ arr pend g2/\c.1=none/\Gh ans it la lb c.2.2.2.1 c.2.1 c.2.2.1 (u+1)/\c.2.1+c.2.2.1+(la.length+lb.length)<=u+1+v) ⟨rfl,rfl,gd, ?_⟩ (Nat.zero_le _) ?_ ?_) ?_)
  ·show na+nb+(la.length+lb.length)<=u+1+((ar it la).size+(ar it lb).size-0);have:=gd.left;rw[ZS,ZS];omega
  ·rintro v y ⟨c1,na,nb,out,ac,bc⟩ s2 _ ⟨rfl,e2,gd0,me0⟩;have e2:c1=none:=e2;have gd:Gh ans it la lb out na nb (u+1):=gd0;clear gd0;have me:na+nb+(la.length+lb.length)<=u+1+(v+1):=me0;clear me0;subst e2;obtain⟨⟨r,rfl,mm⟩,ra,rb,lf⟩:=gd;obtain⟨na,rfl⟩:∃x,na=x+1:=⟨na-1,by omega⟩
   obtain⟨nb,rfl⟩:∃x,nb=x+1:=⟨nb-1,by omega⟩
   refine Zg (Yh (Xm (i:=nb) (by omega)) ?_);refine Zg (Yh (Xm (i:=na) (by omega)) ?_);refine Zg (Zgb k rfl (B0 nb (by omega)) (A0 na (by omega)) ?_);cases z:ans (at_ lb.toArray nb) (at_ la.toArray na) with
   |true=>
    have m2:=mm.pushA (by omega) (Mh.leB o sb (by omega) (o.le z));refine Zg (Yh (Xm (i:=na) (by omega)) ?_);refine ZZ (fun c=> ?_) (fun c=> ?_)
    ·have c3:na=0:=eq_of_beq c;refine Zo ⟨rfl,.inl ⟨_,rfl, ?_⟩⟩;rw[Jd];exact m2.end_ (.inl c3)
    have c3:na≠0:=fun e=>c (by show(na==0)=true;rw[e];rfl)
    refine ZZ (fun c=> ?_) (fun c=> ?_)
    ·exact Zo ⟨rfl,.inr ⟨rfl,⟨_,Jd _ _,m2⟩,by show 0<na/\na<=la.length;omega,rb,by show na+(nb+1)<=u;omega⟩⟩
    ·exact Zo ⟨rfl,rfl,⟨⟨_,Jd _ _,m2⟩,by show 0<na/\na<=la.length;omega,rb,by show na+(nb+1)<=u+1;omega⟩,by show na+(nb+1)+(la.length+lb.length)<=u+1+v;omega⟩
   |false=>
    have m2:=mm.pushB (by omega) (Mh.leB o sa (by omega) z);refine Zg (Yh (Xm (i:=nb) (by omega)) ?_);refine ZZ (fun c=> ?_) (fun c=> ?_)
    ·have c3:nb=1:=eq_of_beq c;refine Zo ⟨rfl,.inl ⟨_,rfl, ?_⟩⟩;rw[Jd];exact m2.first c3 hb low
    have c3:nb≠1:=fun e=>c (by show(nb==1)=true;rw[e];rfl)
    refine ZZ (fun c=> ?_) (fun c=> ?_)
    ·exact Zo ⟨rfl,.inr ⟨rfl,⟨_,Jd _ _,m2⟩,ra,by show 1<nb/\nb<=lb.length;omega,by show na+1+nb<=u;omega⟩⟩
    ·exact Zo ⟨rfl,rfl,⟨⟨_,Jd _ _,m2⟩,ra,by show 1<nb/\nb<=lb.length;omega,by show na+1+nb<=u+1;omega⟩,by show na+1+nb+(la.length+lb.length)<=u+1+v;omega⟩
  ·rintro⟨c1,na,nb,out,ac,bc⟩ s2 ⟨rfl,e2,gd0,me0⟩;have me:na+nb+(la.length+lb.length)<=u+1+0:=me0;exact⟨rfl,.inr ⟨e2,gd0.row,gd0.roomA,gd0.roomB,by show na+nb<=u;omega⟩⟩
  ·rintro⟨c1,na,nb,out,ac,bc⟩ s2 ⟨rfl,⟨R,e2,wh⟩|⟨e2,gd0⟩⟩
   ·have e2:c1=some R:=e2;subst e2;exact Zo ⟨⟨_,rfl⟩,R,rfl,wh⟩
   ·have e2:c1=none:=e2;have gd:Gh ans it la lb out na nb u:=gd0;clear gd0;subst e2;refine Zg (ZaF ?_);refine Zg (Yg (Ys (P:=fun c s2=>(∃g,s2=stt κ arr pend g)/\((∃R,c.1=some R/\Zam ans it la lb R)\/(c.1=none/\Gh ans it la lb c.2.2.2.1 c.2.1 c.2.2.1 u))) (fun v c s2=>(∃g,s2=stt κ arr pend g)/\c.1=none/\Gh ans it la lb c.2.2.2.1 c.2.1 c.2.2.1 u) ⟨⟨_,rfl⟩,rfl,gd⟩ (Nat.zero_le _) ?_ ?_) ?_)
    ·rintro v y ⟨c1,na,nb,out,mg,ac,bc⟩ s2 _ ⟨⟨g3,rfl⟩,e2,gd0⟩;have e2:c1=none:=e2;have gd:Gh ans it la lb out na nb u:=gd0;clear gd0;subst e2;obtain⟨⟨r,rfl,mm⟩,ra,rb,lf⟩:=gd;obtain⟨nb,rfl⟩:∃x,nb=x+1:=⟨nb-1,by omega⟩
     refine ZZ (fun c=> ?_) (fun c=> ?_)
     all_goals
      refine Zg (Zjt ?_);refine Zg (Yh (Xm (i:=nb) (by omega)) ?_);refine Zg (ZmC k o rfl A0 sa (B0 nb (by omega)) (show 0+na<=la.length by omega) (show na-1<na by omega) fun j hj f1 f2=> ?_)
      by_cases c3:na-j>0
      case' pos=>
       refine Xu c3 ?_;have m2:=mm.takeA (i:=j) (by omega) fun x hx y hy=>by
        obtain⟨p,p1,p2,rfl⟩:=ZbQ hx (by omega);exact Mh.leB o sb (by omega) (o.le (f2 p (by omega) (by omega))) y hy
       refine ZZ (fun c4=> ?_) (fun c4=> ?_)
       ·have c4:j=0:=eq_of_beq c4;refine Zo ⟨⟨_,rfl⟩,.inl ⟨_,rfl, ?_⟩⟩
        try dsimp only
        rw[Zcs];exact m2.end_ (.inl c4)
       have c4:j≠0:=fun e=>c4 (by show(j==0)=true;rw[e];rfl)
       try dsimp only
       rw[Zcs];have ra1:0<j/\j<=la.length:=by omega
       have f3:∀i,i<j->Le ans (at_ la.toArray i) (at_ lb.toArray nb):=fun i a=>f1 i (by omega) (by omega);have lf1:j+(nb+1)<=u:=by omega
       generalize (la.take na).drop j++r=r1 at m2⊢
       generalize ej:na-j=d;generalize j=na1 at m2 ra1 f3 lf1⊢
      case' neg=>
       refine Xf c3 ?_;have m2:=mm;have ra1:=ra;have f3:∀i,i<na->Le ans (at_ la.toArray i) (at_ lb.toArray nb):=fun i a=>f1 i (by omega) (by omega);have lf1:=lf
       try dsimp only
       generalize r=r1 at m2⊢
       generalize ej:na-j=d;generalize na=na1 at m2 ra1 f3 lf1⊢
      all_goals
       rw[Nat.add_sub_cancel];have m3:=m2.pushB (by omega) fun y hy=>by
        obtain⟨p,p1,rfl⟩:=Zdt hy (by omega);exact f3 p p1
       refine Zg (Yh (Xm (i:=nb) (by omega)) ?_);rw[Jd];generalize at_ lb.toArray nb::r1=r2 at m3⊢
       refine ZZ (fun c6=> ?_) (fun c6=> ?_)
       ·exact Zo ⟨⟨_,rfl⟩,.inl ⟨_,rfl,m3.first (eq_of_beq c6) hb low⟩⟩
       have c6:nb≠1:=fun e=>c6 (by show(nb==1)=true;rw[e];rfl)
       obtain⟨na2,rfl⟩:∃x,na1=x+1:=⟨na1-1,by omega⟩
       rw[Nat.add_sub_cancel];refine Zg (Yh (Xm (i:=na2) (by omega)) ?_);refine Zg (ZmD k o rfl B0 sb (A0 na2 (by omega)) (show 0+nb<=lb.length by omega) (show nb-1<nb by omega) fun j2 hj2 f4 f5=> ?_)
       by_cases c7:nb-j2>0
       case' pos=>
        refine Xu c7 ?_;have m4:=m3.takeB (i:=j2) (by omega) fun x hx y hy=>by
         obtain⟨p,p1,p2,rfl⟩:=ZbQ hx (by omega);exact Mh.leB o sa (by omega) (f5 p (by omega) (by omega)) y hy
        refine ZZ (fun c8=> ?_) (fun c8=> ?_)
        ·have c8:j2=1:=eq_of_beq c8;refine Zo ⟨⟨_,rfl⟩,.inl ⟨_,rfl, ?_⟩⟩
         try dsimp only
         rw[Zcs];exact m4.first c8 hb low
        have c8:j2≠1:=fun e=>c8 (by show(j2==1)=true;rw[e];rfl)
        refine ZZ (fun c9=> ?_) (fun c9=> ?_)
        ·have c9:j2=0:=eq_of_beq c9;refine Zo ⟨⟨_,rfl⟩,.inl ⟨_,rfl, ?_⟩⟩
         try dsimp only
         rw[Zcs];exact m4.end_ (.inr c9)
        have c9:j2≠0:=fun e=>c9 (by show(j2==0)=true;rw[e];rfl)
        try dsimp only
        rw[Zcs];have rb1:1<j2/\j2<=lb.length:=by omega
        have f6:∀i,i<j2->Le ans (at_ lb.toArray i) (at_ la.toArray na2):=fun i a=>o.le (f4 i (by omega) (by omega));have lf2:na2+j2<=u:=by omega
        generalize (lb.take nb).drop j2++r2=r3 at m4⊢
        generalize ej2:nb-j2=d2;generalize j2=nb1 at m4 rb1 f6 lf2⊢
       case' neg=>
        refine Xf c7 ?_;have m4:=m3;have rb1:1<nb/\nb<=lb.length:=by omega
        have f6:∀i,i<nb->Le ans (at_ lb.toArray i) (at_ la.toArray na2):=fun i a=>o.le (f4 i (by omega) (by omega));have lf2:na2+nb<=u:=by omega
        try dsimp only
        generalize r2=r3 at m4⊢
        generalize ej2:nb-j2=d2;generalize nb=nb1 at m4 rb1 f6 lf2⊢
       all_goals
        have m5:=m4.pushA (by omega) fun y hy=>by
         obtain⟨p,p1,rfl⟩:=Zdt hy (by omega);exact f6 p p1
        refine Zg (Yh (Xm (i:=na2) (by omega)) ?_);rw[Jd];refine ZZ (fun c10=> ?_) (fun c10=> ?_)
        ·exact Zo ⟨⟨_,rfl⟩,.inl ⟨_,rfl,m5.end_ (.inl (eq_of_beq c10))⟩⟩
        have c10:na2≠0:=fun e=>c10 (by show(na2==0)=true;rw[e];rfl)
        have gd2:Gh ans it la lb _ na2 nb1 u:=⟨⟨_,rfl,m5⟩,by omega,rb1,lf2⟩
        refine ZZ (fun c11=> ?_) (fun c11=> ?_)
        ·exact Zo ⟨⟨_,rfl⟩,.inr ⟨rfl,gd2⟩⟩
        ·exact Zo ⟨⟨_,rfl⟩,rfl,gd2⟩
    ·exact fun c s2 ⟨e1,e2,gd⟩=>⟨e1,.inr ⟨e2,gd⟩⟩
    ·rintro⟨c1,na,nb,out,mg,ac,bc⟩ s2 ⟨⟨g3,rfl⟩,⟨R,e2,wh⟩|⟨e2,gd0⟩⟩
     ·have e2:c1=some R:=e2;subst e2;exact Zo ⟨⟨_,rfl⟩,R,rfl,wh⟩
     ·have e2:c1=none:=e2;subst e2;exact Zg (JH (Zo ⟨⟨_,rfl⟩,rfl,gd0⟩))
 ·rintro c s2 ⟨_,_,gd⟩;have:=gd.left;have:=gd.roomA;have:=gd.roomB;omega
 ·rintro⟨c1,na,nb,out,mg⟩ s2 ⟨⟨g3,rfl⟩,R,e2,wh⟩;have e2:c1=some R:=e2;subst e2;exact Zo (q _ _ wh)
end
end L3
set_option maxHeartbeats 5000000
namespace L3
open PySem PySem.W PyProof.Rows
section
variable {ans:Nat->Nat->Bool} {p:Array Nat} {n lo hi:Nat}
def ZM(ans:Nat->Nat->Bool)(p:Array Nat)(lo hi:Nat):Prop:=∀i j,lo<=i->i<=j->j<hi->Le ans (at_ p i) (at_ p j)
def YS(ans:Nat->Nat->Bool)(p:Array Nat)(lo hi:Nat):Prop:=∀i j,lo<=i->i<=j->j<hi->Le ans (at_ p j) (at_ p i)
theorem Le.refl(o:Ord ans)(x:Nat):Le ans x x:=o.irr x
theorem ZM.one(o:Ord ans):ZM ans p lo (lo+1):=fun i j a b c=>by rw[show i=j by omega];exact Le.refl o _
theorem YS.one(o:Ord ans):YS ans p lo (lo+1):=fun i j a b c=>by rw[show i=j by omega];exact Le.refl o _
theorem ZM.more(o:Ord ans)(h:ZM ans p lo hi)(l:lo<hi)(c:Le ans (at_ p (hi-1)) (at_ p hi)):ZM ans p lo (hi+1):=fun i j a b d=>by
 by_cases e:j<hi
 ·exact h i j a b e
 ·obtain rfl:j=hi:=by omega
  by_cases e2:i=j
  ·rw[e2];exact Le.refl o _
  ·exact Le.trans o (h i (j-1) a (by omega) (by omega)) c
theorem YS.more(o:Ord ans)(h:YS ans p lo hi)(l:lo<hi)(c:Le ans (at_ p hi) (at_ p (hi-1))):YS ans p lo (hi+1):=fun i j a b d=>by
 by_cases e:j<hi
 ·exact h i j a b e
 ·obtain rfl:j=hi:=by omega
  by_cases e2:i=j
  ·rw[e2];exact Le.refl o _
  ·exact Le.trans o c (h i (j-1) a (by omega) (by omega))
theorem YS.turn(h:YS ans p lo hi)(hz:hi<=p.size):ZM ans (kas_rev p lo hi) lo hi:=fun i j a b c=>by
 rw[Zfd hz,Zfd hz,if_pos ⟨a,by omega⟩,if_pos ⟨by omega,c⟩];exact h _ _ (by omega) (by omega) (by omega)
theorem Zdu(o:Ord ans){i j:Nat}(hj:j<=p.size)(c:∀x y,i<=x->x<j->i<=y->y<j->Le ans (at_ p x) (at_ p y))(x:Nat):Le ans (at_ p x) (at_ (kas_rev p i j) x)/\Le ans (at_ (kas_rev p i j) x) (at_ p x):=by
 rw[Zfd hj]
 split
 ·rename_i e
  exact⟨c _ _ (by omega) (by omega) (by omega) (by omega),c _ _ (by omega) (by omega) (by omega) (by omega)⟩
 ·exact⟨Le.refl o _,Le.refl o _⟩
theorem YS.same(o:Ord ans)(h:YS ans p lo hi){i j:Nat}(hj:j<=p.size)(c:∀x y,i<=x->x<j->i<=y->y<j->Le ans (at_ p x) (at_ p y)):YS ans (kas_rev p i j) lo hi:=fun x y a b d=>Le.trans o (Zdu o hj c y).2 (Le.trans o (h x y a b d) (Zdu o hj c x).1)
theorem JC{i j k:Nat}(hj:j<=p.size)(h:k<i\/j<=k):at_ (kas_rev p i j) k=at_ p k:=by rw[Zfd hj,if_neg (by omega)]
end
section
variable {prog:Program} {w:World} {A:Around} {I:Shared->Prop} {κ:SortKind} {it:Array Keyed} {n:Nat} {ans:Nat->Nat->Bool} {pend:Array (Nat×Nat×Nat)} {g:Nat}
def stp(κ:SortKind)(it:Array Keyed)(pend:Array (Nat×Nat×Nat))(g:Nat)(p:Array Nat):SortSt:=stt κ (p.map (kas_item it)) pend g
theorem Zbx(k:ZcL prog w A I κ it n ans){p:Array Nat}(hp:Pl n p){i j:Nat}(hi:i<n)(hj:j<n){P:Option Bool->SortSt->Prop}(h:P (some (ans (at_ p i) (at_ p j))) (stp κ it pend g p)):Rn (model prog w) A I (ltAt' i j) (stp κ it pend g p) P:=by
 rw[ltAt'_eq];exact Zg (XD (Zg (Yh (Zfe (by rw[hp.size];exact hi)) (Zg (Yh (Zfe (by rw[hp.size];exact hj)) (Zgb k rfl (hp.lt hi) (hp.lt hj) h))))))
theorem Zff{p:Array Nat}{i j:Nat}{P:Unit->SortSt->Prop}(h:P () (stp κ it pend g (kas_rev p i j))):Rn (model prog w) A I (reverseSlice' i j) (stp κ it pend g p) P:=by
 rw[reverseSlice'_eq];refine JH ?_;have e:mirror (p.map (kas_item it)) i j ((j-i)/2)=(kas_rev p i j).map (kas_item it):=kas_swaps_map (kas_item it) (fun k=>i+k) (fun k=>j-1-k) _ p;show P () (stt κ (mirror (p.map (kas_item it)) i j ((j-i)/2)) pend g);rw[e];exact h
theorem ZkI{p:Array Nat}{i j:Nat}{P:Unit->SortSt->Prop}(h:P () (stp κ it pend g (bubble p i (i-j)))):Rn (model prog w) A I (moveDown' i j) (stp κ it pend g p) P:=by
 rw[moveDown'_eq];refine JH ?_;have e:bubble (p.map (kas_item it)) i (i-j)=(bubble p i (i-j)).map (kas_item it):=kas_swaps_map (kas_item it) (fun k=>i-k) (fun k=>i-k-1) _ p;show P () (stt κ (bubble (p.map (kas_item it)) i (i-j)) pend g);rw[e];exact h
def Run(κ:SortKind)(it:Array Keyed)(pend:Array (Nat×Nat×Nat))(g n:Nat)(ans:Nat->Nat->Bool)(p:Array Nat)(lo nrem:Nat)(r:Option Nat)(st:SortSt):Prop:=∃m p',r=some m/\st=stp κ it pend g p'/\Pl n p'/\1<=m/\m<=nrem/\(∀k,k<lo->at_ p' k=at_ p k)/\ZM ans p' lo (lo+m)
def Fb(κ:SortKind)(it:Array Keyed)(pend:Array (Nat×Nat×Nat))(g n:Nat)(ans:Nat->Nat->Bool)(p:Array Nat)(lo nrem m neq:Nat)(st:SortSt):Prop:=∃p',st=stp κ it pend g p'/\Pl n p'/\(∀k,k<lo->at_ p' k=at_ p k)/\neq+1<=m/\m<=nrem/\YS ans p' lo (lo+m)/\∀x y,lo+m-(neq+1)<=x->x<lo+m->lo+m-(neq+1)<=y->y<lo+m->Le ans (at_ p' x) (at_ p' y)
theorem ZeD(k:ZcL prog w A I κ it n ans)(o:Ord ans){p:Array Nat}(hp:Pl n p){lo nrem:Nat}(h1:1<=nrem)(hn:lo+nrem=n):Rn (model prog w) A I (countRun' lo nrem) (stp κ it pend g p) (Run κ it pend g n ans p lo nrem):=by
 refine Zg (Yg (Ys (P:=fun c s2=>s2=stp κ it pend g p/\c.1=none/\1<=c.2/\c.2<=nrem/\ZM ans p lo (lo+c.2)/\(c.2<nrem->ans (at_ p (lo+c.2)) (at_ p (lo+c.2-1))=true)) (fun u c s2=>s2=stp κ it pend g p/\c.1=none/\1<=c.2/\c.2+u=nrem/\ZM ans p lo (lo+c.2)) ⟨rfl,rfl,Nat.le_refl 1,by show 1+(nrem-1)=nrem;omega,ZM.one o⟩ h1 ?_ ?_) ?_)
 ·rintro u y ⟨c1,m⟩ s2 _ ⟨rfl,e2,e3,e4,e5⟩;have e2:c1=none:=e2;subst e2
  dsimp only at e3 e4 e5
  refine Zg (Zbx k hp (show lo+m<n by omega) (show lo+m-1<n by omega) ?_);cases z:ans (at_ p (lo+m)) (at_ p (lo+m-1)) with
  |true=>exact Zo ⟨rfl,rfl,e3,by show m<=nrem;omega,e5,fun _=>z⟩
  |false=>exact Zo ⟨rfl,rfl,by show 1<=m+1;omega,by show m+1+u=nrem;omega,ZM.more (hi:=lo+m) o e5 (by omega) z⟩
 ·rintro⟨c1,m⟩ s2 ⟨rfl,e2,e3,e4,e5⟩
  dsimp only at e4
  exact⟨rfl,e2,e3,by show m<=nrem;omega,e5,fun z=>by dsimp only at z;omega⟩
 ·rintro⟨c1,m⟩ s2 ⟨rfl,e2,e3,e4,e5,e6⟩;have e2:c1=none:=e2;subst e2
  dsimp only at e3 e4 e5 e6
  refine ZZ (fun c=> ?_) (fun c=> ?_)
  ·exact Zo ⟨m,p,rfl,rfl,hp,e3,e4,fun _ _=>rfl,e5⟩
  have c:m≠nrem:=fun e=>c (by show(m==nrem)=true;rw[e];exact beq_self_eq_true _)
  have sm:=e6 (by omega)
  by_cases c2:m>1
  case' pos=>
   refine Xu c2 ?_;refine Zg (Zbx k hp (show lo<n by omega) (show lo+m-1<n by omega) ?_);cases z:ans (at_ p lo) (at_ p (lo+m-1)) with
   |true=>exact Zo ⟨m,p,rfl,rfl,hp,e3,e4,fun _ _=>rfl,e5⟩
   |false=> ?_
   have eq:∀x y,lo<=x->x<lo+m->lo<=y->y<lo+m->Le ans (at_ p x) (at_ p y):=fun x y a b c d=>Le.trans o (e5 x (lo+m-1) a (by omega) (by omega)) (Le.trans o z (e5 lo y (Nat.le_refl _) c d));refine Zg (Zff ?_);have hz:lo+m<=p.size:=by rw[hp.size];omega
   have hp2:=hp.rev lo (lo+m);have ol:∀k,k<lo->at_ (kas_rev p lo (lo+m)) k=at_ p k:=fun k hk=>JC hz (.inl hk);have fa:YS ans (kas_rev p lo (lo+m)) lo (lo+m+1):=(YS.same o (fun x y a b c=>eq y x (by omega) c a (by omega)) hz eq).more o (by omega) (by
    rw[JC hz (.inr (Nat.le_refl _))];exact Le.trans o (o.le sm) (Zdu o hz eq _).1)
   generalize kas_rev p lo (lo+m)=p2 at hp2 ol fa⊢
  case' neg=>
   refine Xf c2 ?_;have hp2:=hp;have ol:∀k,k<lo->at_ p k=at_ p k:=fun k _=>rfl;have fa:YS ans p lo (lo+m+1):=by
    obtain rfl:m=1:=by omega
    exact(YS.one o).more o (by omega) (o.le sm)
  all_goals
   refine Zg (ZaF ?_);refine Zg (Yg (Ys (P:=fun c s2=>c.1=none/\Fb κ it pend g n ans p lo nrem c.2.1 c.2.2 s2) (fun u c s2=>c.1=none/\c.2.1+u=nrem/\Fb κ it pend g n ans p lo nrem c.2.1 c.2.2 s2) ⟨rfl,by show m+1+(nrem-(m+1))=nrem;omega,_,rfl,hp2,ol,by show 0+1<=m+1;omega,by show m+1<=nrem;omega,fa,fun x y a b c d=> ?_⟩ (by show m+1<=nrem;omega) ?_ ?_) ?_)
   ·dsimp only at a b c d
    rw[show x=y by omega];exact Le.refl o _
   ·rintro u y ⟨c1,m,q⟩ s2 _ ⟨e2,e3,p3,rfl,hp3,ol3,f1,f2,fa3,eq3⟩;have e2:c1=none:=e2;subst e2
    dsimp only at e3 f1 f2 fa3 eq3
    have hz:lo+m<=p3.size:=by rw[hp3.size];omega
    refine Zg (Zbx k hp3 (show lo+m<n by omega) (show lo+m-1<n by omega) ?_);cases z:ans (at_ p3 (lo+m)) (at_ p3 (lo+m-1)) with
    |true=>
     have E1:∀p':Array Nat,∀x y,lo+(m+1)-(0+1)<=x->x<lo+(m+1)->lo+(m+1)-(0+1)<=y->y<lo+(m+1)->Le ans (at_ p' x) (at_ p' y):=fun p' x y a b c d=>by
      rw[show x=y by omega];exact Le.refl o _
     by_cases c3:q>0
     ·have O1:∀x,x<lo->at_ (kas_rev p3 (lo+m-(q+1)) (lo+m)) x=at_ p x:=fun x hx=>(JC hz (.inl (by omega))).trans (ol3 x hx);have F1:YS ans (kas_rev p3 (lo+m-(q+1)) (lo+m)) lo (lo+m+1):=(fa3.same o hz eq3).more o (by omega) (by
       rw[JC hz (.inr (Nat.le_refl _))];exact Le.trans o (o.le z) (Zdu o hz eq3 _).1)
      exact Xu (rfl:true=true) (Xu c3 (Zg (Zff (Zo ⟨rfl,by show m+1+u=nrem;omega,_,rfl,hp3.rev _ _,O1,by show 0+1<=m+1;omega,by show m+1<=nrem;omega,F1,E1 _⟩))))
     ·have F1:YS ans p3 lo (lo+m+1):=fa3.more o (by omega) (o.le z);exact Xu (rfl:true=true) (Xf c3 (Zo ⟨rfl,by show m+1+u=nrem;omega,_,rfl,hp3,ol3,by show 0+1<=m+1;omega,by show m+1<=nrem;omega,F1,E1 _⟩))
    |false=>
     refine Xf (by intro e;cases e) (Zg (Zbx k hp3 (show lo+m-1<n by omega) (show lo+m<n by omega) ?_))
     cases z2:ans (at_ p3 (lo+m-1)) (at_ p3 (lo+m)) with
     |true=>exact Zo ⟨rfl,p3,rfl,hp3,ol3,f1,f2,fa3,eq3⟩
     |false=>
      have F1:YS ans p3 lo (lo+m+1):=fa3.more o (by omega) z2;refine Zo ⟨rfl,by show m+1+u=nrem;omega,p3,rfl,hp3,ol3,by show q+1+1<=m+1;omega,by show m+1<=nrem;omega,F1,fun x y a b c d=> ?_⟩
      dsimp only at a b c d
      have lst:∀x,lo+m-(q+1)<=x->x<lo+m+1->Le ans (at_ p3 x) (at_ p3 (lo+m))/\Le ans (at_ p3 (lo+m)) (at_ p3 x):=fun x a b=>by
       by_cases e:x=lo+m
       ·rw[e];exact⟨Le.refl o _,Le.refl o _⟩
       ·exact⟨Le.trans o (eq3 x (lo+m-1) a (by omega) (by omega) (by omega)) z,Le.trans o z2 (eq3 (lo+m-1) x (by omega) (by omega) a (by omega))⟩
      exact Le.trans o (lst x (by omega) (by omega)).1 (lst y (by omega) (by omega)).2
   ·exact fun c s2 ⟨e1,e2,e3⟩=>⟨e1,e3⟩
   ·rintro⟨c1,m,q⟩ s2 ⟨e2,p3,rfl,hp3,ol3,f1,f2,fa3,eq3⟩;have e2:c1=none:=e2;subst e2
    dsimp only at f1 f2 fa3 eq3
    have hz:lo+m<=p3.size:=by rw[hp3.size];omega
    by_cases c3:q>0
    case' pos=>
     refine Xu c3 (Zg (Zff ?_));have hp4:=hp3.rev (lo+m-(q+1)) (lo+m);have ol4:∀x,x<lo->at_ (kas_rev p3 (lo+m-(q+1)) (lo+m)) x=at_ p x:=fun x hx=>(JC hz (.inl (by omega))).trans (ol3 x hx);have fa4:=fa3.same o hz eq3
    case' neg=>
     refine Xf c3 ?_;have hp4:=hp3;have ol4:=ol3;have fa4:=fa3
    all_goals
     refine Zg (Zff ?_);have hz4:=hp4.size▸(show lo+m<=n by omega);refine Zg (Yg (Ys (P:=fun c s2=>c.1=none/\Run κ it pend g n ans p lo nrem (some c.2) s2) (fun u c s2=>c.1=none/\c.2+u=nrem/\Run κ it pend g n ans p lo nrem (some c.2) s2) ⟨rfl,by show m+(nrem-m)=nrem;omega,_,_,rfl,rfl,hp4.rev _ _,by show 1<=m;omega,f2,fun x hx=>(JC hz4 (.inl hx)).trans (ol4 x hx),fa4.turn hz4⟩ f2 ?_ ?_) ?_)
     ·rintro u y ⟨c1,m⟩ s2 _ ⟨e2,e3,m',p5,em,rfl,hp5,f3,f4,ol5,sa5⟩;have e2:c1=none:=e2;subst e2
      injection em with em
      dsimp only at em e3
      subst em;refine Zg (Zbx k hp5 (show lo+m<n by omega) (show lo+m-1<n by omega) ?_);cases z:ans (at_ p5 (lo+m)) (at_ p5 (lo+m-1)) with
      |true=>exact Zo ⟨rfl,_,_,rfl,rfl,hp5,f3,f4,ol5,sa5⟩
      |false=>exact Zo ⟨rfl,by show m+1+u=nrem;omega,_,_,rfl,rfl,hp5,by show 1<=m+1;omega,by show m+1<=nrem;omega,ol5,ZM.more (hi:=lo+m) o sa5 (by omega) z⟩
     ·exact fun c s2 ⟨e1,e2,e3⟩=>⟨e1,e3⟩
     ·rintro⟨c1,m⟩ s2 ⟨e2,e3⟩;have e2:c1=none:=e2;subst e2;exact Zo e3
theorem ZM.bub(o:Ord ans){p:Array Nat}{lo k l:Nat}(hs:lo+k<p.size)(hl:l<=k)(h:ZM ans p lo (lo+k))(low:∀i,i<l->Le ans (at_ p (lo+i)) (at_ p (lo+k)))(high:∀i,l<=i->i<k->Le ans (at_ p (lo+k)) (at_ p (lo+i))):ZM ans (bubble p (lo+k) (lo+k-(lo+l))) lo (lo+(k+1)):=fun i j a b c=>by
 have lw:∀x,lo<=x->x<lo+l->Le ans (at_ p x) (at_ p (lo+k)):=fun x a b=>by
  have:=low (x-lo) (by omega)
  rwa [show lo+(x-lo)=x by omega] at this
 have hg:∀x,lo+l<=x->x<lo+k->Le ans (at_ p (lo+k)) (at_ p x):=fun x a b=>by
  have:=high (x-lo) (by omega) (by omega)
  rwa [show lo+(x-lo)=x by omega] at this
 rw[Zhb hs (by omega),Zhb hs (by omega),show lo+k-(lo+k-(lo+l))=lo+l by omega]
 by_cases e1:i=lo+l
 ·rw[if_pos e1]
  by_cases e2:j=lo+l
  ·rw[if_pos e2];exact Le.refl o _
  ·rw[if_neg e2,if_pos (by omega)];exact hg _ (by omega) (by omega)
 ·rw[if_neg e1]
  by_cases e3:lo+l<i
  ·rw[if_pos (by omega),if_neg (by omega),if_pos (by omega)];exact h _ _ (by omega) (by omega) (by omega)
  ·rw[if_neg (by omega)]
   by_cases e2:j=lo+l
   ·rw[if_pos e2];exact lw _ a (by omega)
   ·rw[if_neg e2]
    by_cases e4:lo+l<j
    ·rw[if_pos (by omega)];exact Le.trans o (lw _ a (by omega)) (hg _ (by omega) (by omega))
    ·rw[if_neg (by omega)];exact h _ _ a b (by omega)
theorem Zgd(k:ZcL prog w A I κ it n ans)(o:Ord ans){p:Array Nat}(hp:Pl n p){lo m ok:Nat}(hm:lo+m<=n)(hk:max ok 1<=m)(hs:ZM ans p lo (lo+max ok 1)):
  Rn (model prog w) A I (binarySort' lo m ok) (stp κ it pend g p) fun r st=>r=true/\∃p',st=stp κ it pend g p'/\Pl n p'/\(∀x,x<lo->at_ p' x=at_ p x)/\ZM ans p' lo (lo+m):=by
 refine Zg (Yg (Ys (P:=fun c s2=>c.1=none/\∃p',s2=stp κ it pend g p'/\Pl n p'/\(∀x,x<lo->at_ p' x=at_ p x)/\ZM ans p' lo (lo+m)) (fun u c s2=>c.1=none/\u<=m-max ok 1/\∃p',s2=stp κ it pend g p'/\Pl n p'/\(∀x,x<lo->at_ p' x=at_ p x)/\ZM ans p' lo (lo+(m-u))) ⟨rfl,Nat.le_refl _,p,rfl,hp,fun _ _=>rfl,by rw[show m-(m-max ok 1)=max ok 1 by omega];exact hs⟩ hk ?_ ?_) ?_)
 ·rintro u x ⟨c1,c2⟩ s2 ex ⟨e2,e3,p2,rfl,hp2,ol2,sa2⟩;have mx:1<=max ok 1:=Nat.le_max_right _ _;rw[show m-(u+1)=x by omega] at sa2
  have hx:lo+x<p2.size:=by rw[hp2.size];omega
  have J0:(∀i,i<0->Le ans (at_ p2 (lo+i)) (at_ p2 (lo+x)))/\∀i,x<=i->i<x->Le ans (at_ p2 (lo+x)) (at_ p2 (lo+i)):=⟨fun i hi=>by omega,fun i a b=>by omega⟩
  refine Zg (Yg (Ys (P:=fun c s2=>s2=stp κ it pend g p2/\c.1=none/\c.2.1<=x/\(∀i,i<c.2.1->Le ans (at_ p2 (lo+i)) (at_ p2 (lo+x)))/\∀i,c.2.1<=i->i<x->Le ans (at_ p2 (lo+x)) (at_ p2 (lo+i))) (fun v c s2=>s2=stp κ it pend g p2/\c.1=none/\c.2.1<=c.2.2/\c.2.2<=x/\c.2.2-c.2.1<=v/\(∀i,i<c.2.1->Le ans (at_ p2 (lo+i)) (at_ p2 (lo+x)))/\∀i,c.2.2<=i->i<x->Le ans (at_ p2 (lo+x)) (at_ p2 (lo+i))) ⟨rfl,rfl,Nat.zero_le _,Nat.le_refl _,Nat.le_refl _,J0.1,J0.2⟩ (Nat.zero_le _) ?_ ?_) ?_)
  ·rintro v y ⟨d1,l,r⟩ s2 _ ⟨rfl,f2,f3,f4,f5,f6,f7⟩;have f2:d1=none:=f2;subst f2
   dsimp only at f3 f4 f5 f6 f7
   refine ZZ (fun c=> ?_) (fun c=> ?_)
   ·have c:l≥r:=c;exact Zo ⟨rfl,rfl,by show l<=x;omega,f6,fun i a b=>f7 i (by dsimp only at a;omega) b⟩
   have c:¬l≥r:=c;refine Zg (Zbx k hp2 (show lo+x<n by omega) (show lo+(l+r)/2<n by omega) ?_);cases z:ans (at_ p2 (lo+x)) (at_ p2 (lo+(l+r)/2)) with
   |true=>exact Zo ⟨rfl,rfl,by show l<=(l+r)/2;omega,by show(l+r)/2<=x;omega,by show(l+r)/2-l<=v;omega,f6,fun i a b=>Le.trans o (o.le z) (sa2 _ _ (by omega) (by dsimp only at a;omega) (by omega))⟩
   |false=>exact Zo ⟨rfl,rfl,by show(l+r)/2+1<=r;omega,f4,by show r-((l+r)/2+1)<=v;omega,fun i a=>Le.trans o (sa2 _ _ (by omega) (by dsimp only at a;omega) (by omega)) z,f7⟩
  ·rintro⟨d1,l,r⟩ s2 ⟨rfl,f2,f3,f4,f5,f6,f7⟩
   dsimp only at f3 f4 f5 f6 f7
   exact⟨rfl,f2,by show l<=x;omega,f6,fun i a b=>f7 i (by dsimp only at a;omega) b⟩
  ·rintro⟨d1,l,r⟩ s2 ⟨rfl,f2,f3,f6,f7⟩;have f2:d1=none:=f2;subst f2
   dsimp only at f3 f6 f7
   have S1:=ZM.bub o hx f3 sa2 f6 f7;rw[show x+1=m-u by omega] at S1
   exact Zg (ZkI (Zo ⟨rfl,by omega,_,rfl,hp2.bub _ _,fun y hy=>by rw[Zhb hx (by omega),if_neg (by omega),if_neg (by omega)];exact ol2 y hy,S1⟩))
 ·exact fun c s2 ⟨e1,e2,e3⟩=>⟨e1,e3⟩
 ·rintro⟨c1,c2⟩ s2 ⟨e2,e3⟩;have e2:c1=none:=e2;subst e2;exact Zo ⟨rfl,e3⟩
theorem ZlN{M:Model}{st st2:SortSt}{P:PUnit->SortSt->Prop}(h:P ⟨⟩ st2):Rn M A I (set st2) st P:=fun E Q s i q=>by
 unfold kasC;rw[StateT.run_set];exact wpAny_pure (q _ _ _ h i)
theorem laid{α:Type}(b:Nat):∀(xs:List α) (k:Nat) (a:Array α),b+k+xs.length<=a.size->((xs.zipIdx k).foldl (fun a q=>a.setIfInBounds (b+q.2) q.1) a).toList=a.toList.take (b+k)++(xs++a.toList.drop (b+k+xs.length))
 |[],k,a,h=>by simp
 |x::xs,k,a,h=>by
  have h:b+k+(xs.length+1)<=a.size:=h;rw[List.zipIdx_cons,List.foldl_cons,laid b xs (k+1) _ (by rw[Array.size_setIfInBounds];omega),Array.toList_setIfInBounds]
  have hl:b+k<a.toList.length:=by rw[Array.length_toList];omega
  rw[show b+(k+1)=b+k+1 by omega,List.take_succ_eq_append_getElem (by rw[List.length_set];exact hl),List.getElem_set_self,List.take_set_of_le (Nat.le_refl _),List.drop_set_of_lt (by omega),List.append_assoc]
  rw[show b+k+1+xs.length=b+k+(x::xs).length by simp;omega]
  rfl
theorem Zfg{l:List Nat}{j m:Nat}(h:m<=l.length):((l.take m).drop j).length=m-j:=by rw[List.length_drop,List.length_take,Nat.min_eq_left h]
theorem Zhe{l:List Nat}{i j m:Nat}(h:m<=l.length)(hi:j+i<m):at_ ((l.take m).drop j).toArray i=at_ l.toArray (j+i):=by
 rw[Xj,Xj];simp[List.getElem?_drop,List.getElem?_take,hi]
theorem Zba(o:Ord ans){l:List Nat}{lo hi j m:Nat}(h:ZM ans l.toArray lo hi)(a:lo<=j)(b:m<=hi)(c:m<=l.length):((l.take m).drop j).Pairwise (Le ans):=by
 rw[List.pairwise_iff_getElem];intro x y hx hy xy;rw[Zfg c] at hx hy
 have:=h (j+x) (j+y) (by omega) (by omega) (by omega);rw[Xj,Xj] at this
 simpa [show j+x<l.length by omega,show j+y<l.length by omega] using this
theorem Zge(o:Ord ans){l:List Nat}(h:ZM ans l.toArray 0 l.length):l.Pairwise (Le ans):=by
 have:=Zba o (j:=0) (m:=l.length) h (Nat.le_refl _) (Nat.le_refl _) (Nat.le_refl _)
 rwa [List.take_length,List.drop_zero] at this
theorem Zir(k:ZcL prog w A I κ it n ans)(o:Ord ans){l:List Nat}(pl:l.Perm (List.range n)){n1 n2 pw z:Nat}(h1:0<n1)(h2:0<n2)(hn:n1+n2=n)(s1:ZM ans l.toArray 0 n1)(s2:ZM ans l.toArray n1 n):
  Rn (model prog w) A I (mergeAt' 0) (stt κ (ar it l) #[(0,n1,pw),(n1,n2,z)] g) fun r st=>r=true/\∃l' g',st=stt κ (ar it l') #[(0,n1+n2,pw)] g'/\l'.Perm (List.range n)/\l'.Pairwise (Le ans):=by
 refine Zg (XD ?_);refine Zg (ZlN ?_);have ep:((#[(0,n1,pw),(n1,n2,z)]:Array (Nat×Nat×Nat)).setIfInBounds 0 (0,n1+n2,pw)).eraseIdxIfInBounds (0+1)= #[(0,n1+n2,pw)]:=by simp[Array.eraseIdxIfInBounds]
 show Rn _ _ _ _ (stt κ (ar it l) (((#[(0,n1,pw),(n1,n2,z)]:Array (Nat×Nat×Nat)).setIfInBounds 0 (0,n1+n2,pw)).eraseIdxIfInBounds (0+1)) g) _;rw[ep];have ll:l.length=n:=by rw[pl.length_eq,List.length_range]
 have N0:∀i,i<l.length->at_ l.toArray i<n:=fun i hi=>List.mem_range.mp (pl.mem_iff.mp (List.mem_of_mem_drop (Zcn (k:=0) (Nat.zero_le _) hi)));refine Zg (Yh (Xm (i:=n1) (by omega)) ?_);refine Zg (Zlc k o rfl N0 (base:=0) (m:=n1) (fun i j a b c=>s1 i j a b (by omega)) (N0 n1 (by omega)) (by omega) h1 fun y hy f1 f2=> ?_);refine ZZ (fun c=> ?_) (fun c=> ?_)
 ·have c:n1-y=0:=eq_of_beq c;refine Zo ⟨rfl,l,_,rfl,pl,Zge o fun i j a b d=> ?_⟩
  by_cases e1:j<n1
  ·exact s1 i j a b e1
  ·by_cases e2:i<n1
   ·exact Le.trans o (f1 i (by omega) (by omega)) (s2 n1 j (Nat.le_refl _) (by omega) (by omega))
   ·exact s2 i j (by omega) b (by omega)
 have c:¬n1-y=0:=fun e=>c (by show(n1-y==0)=true;rw[e];rfl)
 refine Zg (Yh (i:=0+y+(n1-y)-1) (by rw[show 0+y+(n1-y)-1=n1-1 by omega];exact Xm (by omega)) ?_)
 refine Zg (Zld k o rfl N0 (base:=n1) (m:=n2) (fun i j a b c=>s2 i j a b (by omega)) (N0 (n1-1) (by omega)) (by omega) (show n2-1<n2 by omega) fun y2 hy2 f3 f4=> ?_);refine ZZ (fun c2=> ?_) (fun c2=> ?_)
 ·have c2:y2=0:=eq_of_beq c2;refine Zo ⟨rfl,l,_,rfl,pl,Zge o fun i j a b d=> ?_⟩
  by_cases e1:j<n1
  ·exact s1 i j a b e1
  ·by_cases e2:i<n1
   ·exact Le.trans o (s1 i (n1-1) a (by omega) (by omega)) (f4 j (by omega) (by omega))
   ·exact s2 i j (by omega) b (by omega)
 have c2:y2≠0:=fun e=>c2 (by show(y2==0)=true;rw[e];rfl)
 have la0:=Zfg (l:=l) (j:=y) (m:=n1) (by omega);have lb0:=Zfg (l:=l) (j:=n1) (m:=n1+y2) (by omega);have ha:=Zba o (j:=y) (m:=n1) s1 (Nat.zero_le _) (Nat.le_refl _) (by omega);have hb:=Zba o (j:=n1) (m:=n1+y2) s2 (Nat.le_refl _) (by omega) (by omega);have na:∀x∈(l.take n1).drop y,x<n:=fun x hx=>by
  obtain⟨i,a,b,rfl⟩:=ZbQ hx (by omega);exact N0 i (by omega)
 have nb:∀x∈(l.take (n1+y2)).drop n1,x<n:=fun x hx=>by
  obtain⟨i,a,b,rfl⟩:=ZbQ hx (by omega);exact N0 i (by omega)
 have hf:ans (at_ ((l.take (n1+y2)).drop n1).toArray 0) (at_ ((l.take n1).drop y).toArray 0)=true:=by
  rw[Zhe (by omega) (by omega),Zhe (by omega) (by omega)];exact f2 y (by omega) (by omega)
 have hl:∀x∈(l.take (n1+y2)).drop n1,Le ans x (at_ ((l.take n1).drop y).toArray (((l.take n1).drop y).length-1)):=fun x hx=>by
  obtain⟨i,a,b,rfl⟩:=ZbQ hx (by omega);rw[la0,Zhe (by omega) (by omega),show y+(n1-y-1)=n1-1 by omega];exact o.le (f3 i a b)
 have fin:∀(R:Array Keyed) (g2:Nat),Zam ans it ((l.take n1).drop y) ((l.take (n1+y2)).drop n1) R->∃l' g',stt κ (R.toList.zipIdx.foldl (fun a q=>a.setIfInBounds (0+y+q.2) q.1) (ar it l)) #[(0,n1+n2,pw)] g2=stt κ (ar it l') #[(0,n1+n2,pw)] g'/\l'.Perm (List.range n)/\l'.Pairwise (Le ans):=fun R g2 ⟨r,er,rs,rp⟩=>by
  have rl:r.length=n1-y+y2:=by rw[rp.length_eq,List.length_append,la0,lb0];omega
  refine⟨l.take y++(r++l.drop (n1+y2)),g2, ?_, ?_, ?_⟩
  ·congr 1
   apply Array.ext'
   rw[er,laid (0+y) _ 0 _ (by simp[ar];omega)]
   simp[ar,List.map_take,List.map_drop,rl,show y+(n1-y+y2)=n1+y2 by omega]
  ·refine List.Perm.trans ?_ pl;have e1:=Zcq (l:=l) (i:=y) (m:=n1) (by omega);have e2:=Zcq (l:=l) (i:=n1) (m:=n1+y2) (by omega);have e3:=List.take_append_drop (n1+y2) l
   conv=>rhs;rw[<-e3,<-e2,<-e1]
   rw[List.append_assoc,List.append_assoc];refine List.Perm.append_left (l.take y) ?_;rw[<-List.append_assoc];exact List.Perm.append_right (l.drop (n1+y2)) rp
  ·have rm:∀x∈r,∃i,y<=i/\i<n1+y2/\x=at_ l.toArray i:=fun x hx=>by
    rcases List.mem_append.mp (rp.mem_iff.mp hx) with m|m
    ·obtain⟨i,a,b,e⟩:=ZbQ m (by omega);exact⟨i,a,by omega,e⟩
    ·obtain⟨i,a,b,e⟩:=ZbQ m (by omega);exact⟨i,by omega,b,e⟩
   have lw:∀i,i<y->∀j,y<=j->j<n->Le ans (at_ l.toArray i) (at_ l.toArray j):=fun i hi j a b=>by
    by_cases e:j<n1
    ·exact s1 i j (by omega) (by omega) e
    ·exact Le.trans o (f1 i (by omega) (by omega)) (s2 n1 j (Nat.le_refl _) (by omega) b)
   have hg:∀j,n1+y2<=j->j<n->∀i,y<=i->i<n1+y2->Le ans (at_ l.toArray i) (at_ l.toArray j):=fun j a b i c d=>by
    by_cases e:i<n1
    ·exact Le.trans o (s1 i (n1-1) (by omega) (by omega) (by omega)) (f4 j a (by omega))
    ·exact s2 i j (by omega) (by omega) b
   refine List.pairwise_append.mpr ⟨?_,List.pairwise_append.mpr ⟨rs, ?_,fun x hx x2 hx2=> ?_⟩,fun x hx x2 hx2=> ?_⟩
   ·have:=Zba o (j:=0) (m:=y) s1 (Nat.le_refl _) (by omega) (by omega)
    rwa [List.drop_zero] at this
   ·have:=Zba o (j:=n1+y2) (m:=n) s2 (by omega) (by omega) (by omega)
    rwa [<-ll,List.take_length] at this
   ·obtain⟨i,a,b,rfl⟩:=rm x hx;obtain⟨j,c,d,rfl⟩:=Zbv hx2;exact hg j c (by omega) i a b
   ·obtain⟨i,a,rfl⟩:=Zdt hx (by omega);rcases List.mem_append.mp hx2 with m|m
    ·obtain⟨j,c,d,rfl⟩:=rm x2 m;exact lw i a j c (by omega)
    ·obtain⟨j,c,d,rfl⟩:=Zbv m;exact lw i a j (by omega) (by omega)
 have ex:(ar it l).extract (0+y) n1=ar it ((l.take n1).drop y):=by rw[Jr,Nat.zero_add]
 have ey:(ar it l).extract n1 (n1+y2)=ar it ((l.take (n1+y2)).drop n1):=Jr _ _ _;have ez:kindOf (stt κ (ar it l) #[(0,n1,pw),(n1,n2,z)] g)=κ:=rfl;refine ZZ (fun c3=> ?_) (fun c3=> ?_)
 ·refine Zg ?_;show Rn _ _ _ (Zg9 ((ar it l).extract (0+y) n1) ((ar it l).extract n1 (n1+y2))) _ _;rw[ex,ey];exact mlo k o na nb ha hb (by omega) (by omega) hf hl fun R g2 wh=>Zg (JH (Zg (XD (Zo ⟨rfl,fin R g2 wh⟩))))
 ·refine Zg ?_;show Rn _ _ _ (Zga ((ar it l).extract (0+y) n1) ((ar it l).extract n1 (n1+y2))) _ _;rw[ex,ey];exact mhi k o na nb ha hb (by omega) (by omega) hf hl fun R g2 wh=>Zg (JH (Zg (XD (Zo ⟨rfl,fin R g2 wh⟩))))
def One(κ:SortKind)(it:Array Keyed)(n:Nat)(ans:Nat->Nat->Bool)(st:SortSt):Prop:=∃p z g,st=stp κ it #[z] g p/\Pl n p/\ZM ans p 0 n
def Two(κ:SortKind)(it:Array Keyed)(n:Nat)(ans:Nat->Nat->Bool)(st:SortSt):Prop:=∃p n1 pw g,st=stp κ it #[(0,n1,pw),(n1,n-n1,0)] g p/\Pl n p/\0<n1/\n1<n/\ZM ans p 0 n1/\ZM ans p n1 n
theorem ZkJ{n:Nat}(h:2<=n)(h2:n<128):n<=2*minRun' n n 0/\minRun' n n 0<=n/\1<=minRun' n n 0:=by
 obtain⟨r,rfl⟩:∃r,n=r+2:=⟨n-2,by omega⟩
 have e:minRun' (r+1+1) (r+2) 0=if r+2<64 then r+2+0 else minRun' (r+1) ((r+2)/2) (max 0 ((r+2)%2)):=minRun'_succ _ _ _;have e2:minRun' (r+1) ((r+2)/2) (max 0 ((r+2)%2))=if(r+2)/2<64 then(r+2)/2+max 0 ((r+2)%2) else minRun' r ((r+2)/2/2) (max (max 0 ((r+2)%2)) ((r+2)/2%2)):=minRun'_succ _ _ _;rw[if_pos (by omega)] at e2
 rw[e2] at e
 rw[show minRun' (r+2) (r+2) 0=_ from e]
 split
 ·omega
 ·omega
theorem Zis(k:ZcL prog w A I κ it n ans)(o:Ord ans)(h2:2<=n)(h128:n<128){p:Array Nat}(hp:Pl n p):Rn (model prog w) A I sortRuns' (stp κ it #[] 7 p) fun _ st=>One κ it n ans st:=by
 obtain⟨q1,q2,q3⟩:=ZkJ h2 h128;refine Zg (XD ?_);have hsz:(arrOf (stp κ it #[] 7 p)).size=n:=by
  show(p.map (kas_item it)).size=n;rw[Array.size_map,hp.size]
 have hm2:(sortPriv%PySem.Builtin.minRun) n n 0=minRun' n n 0:=rfl;simp only [hsz,hm2];generalize minRun' n n 0=mr at q1 q2 q3
 refine Zg (Yg (Ys (P:=fun c s2=>c.1=none/\(One κ it n ans s2\/Two κ it n ans s2)) (fun u c s2=>c.1=none/\((c.2=0/\u=n/\s2=stp κ it #[] 7 p)\/(∃p1,s2=stp κ it #[(0,c.2,0)] 7 p1/\Pl n p1/\mr<=c.2/\c.2<=n/\ZM ans p1 0 c.2/\u+1=n)\/(c.2=n/\Two κ it n ans s2))) ⟨rfl,.inl ⟨rfl,rfl,rfl⟩⟩ (Nat.zero_le _) ?_ ?_) ?_)
 ·rintro u x ⟨c1,lo⟩ s2 ex ⟨e2,hj⟩;have e2:c1=none:=e2;subst e2;rcases hj with ⟨f1,f2,rfl⟩|⟨p1,rfl,hp1,f1,f2,sa1,f3⟩|⟨f1,tw⟩
  ·have f1:lo=0:=f1;subst f1;refine Xf (show¬0≥n by omega) ?_;refine Zg (Yg (ZeD k o hp (show 1<=n-0 by omega) (by omega)) ?_);rintro _ _ ⟨m,p1,rfl,rfl,hp1,g1,g2,_,sa⟩;have g2:m<=n:=g2;have sa:ZM ans p1 0 (0+m):=sa;have nxt:∀(p2:Array Nat) (n1:Nat),Pl n p2->mr<=n1->n1<=n->ZM ans p2 0 (0+n1)->(∃p3,stp κ it ((#[]:Array (Nat×Nat×Nat)).push (0,n1,0)) 7 p2=stp κ it #[(0,0+n1,0)] 7 p3/\Pl n p3/\mr<=0+n1/\0+n1<=n/\ZM ans p3 0 (0+n1)/\u+1=n):=fun p2 n1 a b c d=>by
    rw[Nat.zero_add] at d⊢
    exact⟨p2,rfl,a,b,c,d,f2⟩
   by_cases c:m<mr
   ·refine Xu c (Zg (ZaF (Zg (Yg (Zgd k o hp1 (lo:=0) (m:=min (n-0) mr) (ok:=m) (by omega) (by omega) (by rw[show max m 1=m by omega];exact sa)) ?_))))
    rintro _ _ ⟨rfl,p2,rfl,hp2,_,sa2⟩;refine Xf (by intro e;cases e) ?_
    exact Zg (XD (Zg (JH (Zo ⟨rfl,.inr (.inl (nxt p2 (min (n-0) mr) hp2 (by omega) (by omega) sa2))⟩))))
   ·exact Xf c (Zg (XD (Zg (JH (Zo ⟨rfl,.inr (.inl (nxt p1 m hp1 (by omega) g2 sa))⟩)))))
  ·dsimp only at f1 f2 sa1
   by_cases z:lo≥n
   ·refine Xu z (Zo ⟨rfl,.inl ⟨p1,_,_,rfl,hp1, ?_⟩⟩);rw[show n=lo by omega];exact sa1
   refine Xf z ?_;refine Zg (Yg (ZeD k o hp1 (show 1<=n-lo by omega) (by omega)) ?_);rintro _ _ ⟨m,p2,rfl,rfl,hp2,g1,g2,ol,sa⟩;have nxt:∀(p3:Array Nat) (n2 pw:Nat),Pl n p3->n2=n-lo->(∀x,x<lo->at_ p3 x=at_ p1 x)->ZM ans p3 lo n->lo+n2=n/\Two κ it n ans (stp κ it (((#[(0,lo,0)]:Array (Nat×Nat×Nat)).modify ((#[(0,lo,0)]:Array (Nat×Nat×Nat)).size-1) fun x=>(x.1,x.2.1,pw)).push (lo,n2,0)) 7 p3):=fun p3 n2 pw a b c d=>by
    subst b;refine⟨by omega,p3,lo,pw,7, ?_,a,by omega,by omega,fun i j x y z=> ?_,d⟩
    ·congr 1
    ·rw[c i (by omega),c j z];exact sa1 i j x y z
   by_cases c:m<mr
   case' pos=>
    refine Xu c (Zg (ZaF (Zg (Yg (Zgd k o hp2 (lo:=lo) (m:=min (n-lo) mr) (ok:=m) (by omega) (by omega) (by rw[show max m 1=m by omega];exact sa)) ?_))))
    rintro _ _ ⟨rfl,p3,rfl,hp3,ol3,sa3⟩;refine Xf (by intro e;cases e) ?_
    have ol4:∀x,x<lo->at_ p3 x=at_ p1 x:=fun x hx=>(ol3 x hx).trans (ol x hx);have nx:min (n-lo) mr=n-lo:=by omega
    have sa4:ZM ans p3 lo n:=by rw[nx,show lo+(n-lo)=n by omega] at sa3;exact sa3
   case' neg=>
    refine Xf c ?_;have hp3:=hp2;have g2:m<=n-lo:=g2;have ol4:∀x,x<lo->at_ p2 x=at_ p1 x:=ol;have nx:m=n-lo:=by omega
    have sa4:ZM ans p2 lo n:=by
     have sa:ZM ans p2 lo (lo+m):=sa;rw[nx,show lo+(n-lo)=n by omega] at sa
     exact sa
   all_goals
    refine Zg (XD (Zg (Yg (Ys (P:=fun c s2=>c.1=none/\∃p3,s2=stp κ it #[(0,lo,0)] 7 p3/\Pl n p3/\(∀x,x<lo->at_ p3 x=at_ p1 x)/\ZM ans p3 lo n) (fun u c s2=>c.1=none/\∃p3,s2=stp κ it #[(0,lo,0)] 7 p3/\Pl n p3/\(∀x,x<lo->at_ p3 x=at_ p1 x)/\ZM ans p3 lo n) ⟨rfl,_,rfl,hp3,ol4,sa4⟩ (Nat.zero_le _) ?_ ?_) ?_)))
    ·rintro u y ⟨d1,d2⟩ s2 _ ⟨_,p4,rfl,q4⟩;exact Zg (XD (Zo ⟨rfl,p4,rfl,q4⟩))
    ·exact fun c s2 y=>y
    ·rintro⟨d1,d2⟩ s2 ⟨y,p4,rfl,q4,q5,q6⟩;have y:d1=none:=y;subst y;exact Zg (JH (Zg (JH (Zo ⟨rfl,.inr (.inr (nxt _ _ _ q4 nx q5 q6))⟩))))
  ·have f1:lo=n:=f1;subst f1;exact Xu (Nat.le_refl _) (Zo ⟨rfl,.inr tw⟩)
 ·rintro⟨c1,lo⟩ s2 ⟨e2,hj⟩;refine⟨e2, ?_⟩;rcases hj with ⟨f1,f2,rfl⟩|⟨p1,rfl,hp1,f1,f2,sa1,f3⟩|⟨f1,tw⟩
  ·omega
  ·omega
  ·exact .inr tw
 ·rintro⟨c1,lo⟩ s2 ⟨e2,hj⟩;have e2:c1=none:=e2;subst e2;refine Zg (Yg (Ys (P:=fun c s2=>c.1=none/\One κ it n ans s2) (fun u c s2=>c.1=none/\(One κ it n ans s2\/(u=n/\Two κ it n ans s2))) ⟨rfl,hj.imp id fun y=>⟨rfl,y⟩⟩ (Nat.zero_le _) ?_ ?_) ?_)
  ·rintro u y ⟨d1,d2⟩ s2 _ ⟨_,hj⟩;rcases hj with on|⟨f1,p1,n1,pw,g,rfl,hp1,f2,f3,s1,s2⟩
   ·have on2:=on;obtain⟨p1,z,g,rfl,_,_⟩:=on;exact Zg (XD (Xu (Nat.le_refl 1) (Zo ⟨rfl,on2⟩)))
   ·refine Zg (XD (Xf (show¬(2<=1) by omega) ?_));have pl0:p1.toList.Perm (List.range n):=Array.perm_iff_toList_perm.mp hp1.perm;have ea:p1.toList.toArray=p1:=by simp
    have mt:=Zir k o (l:=p1.toList) (n1:=n1) (n2:=n-n1) (pw:=pw) (z:=0) (g:=g) pl0 f2 (by omega) (by omega) (by rw[ea];exact s1) (by rw[ea];exact s2)
    have ea2:ar it p1.toList=p1.map (kas_item it):=by unfold ar;rw[ea]
    rw[ea2] at mt
    refine Zg (Yg mt ?_);rintro _ _ ⟨rfl,l',g',rfl,pl,sl⟩;have ll:l'.length=n:=by rw[pl.length_eq,List.length_range]
    exact Xf (by intro e;cases e) (Zo ⟨rfl,.inl ⟨l'.toArray,_,g',rfl,⟨by simpa using ll,Array.perm_iff_toList_perm.mpr pl⟩,fun i j _ b c=>Zbw o sl b (by omega)⟩⟩)
  ·rintro c s2 ⟨e1,on|⟨f1,_⟩⟩
   ·exact⟨e1,on⟩
   ·omega
  ·rintro⟨d1,d2⟩ s2 ⟨y,on⟩;have y:d1=none:=y;subst y;exact Zo on
end
end L3
namespace L3
open PySem PySem.Spec PyProof.Rows L2
def Zdi(e c:Nat->Bool)(fin:Bool):List Nat->Bool
 |[]=>fin
 |i::r=>if e i=true then Zdi e c fin r else c i
section
variable {P:Program} {w:World} (l b:Addr) (xs ys:Array Value) (n m:Nat) (d1 d2:Option Addr) (s1 s2:Array (Option Value)) (e c:Nat->Bool)
abbrev ZcM(xs ys:Array Value)(e c:Nat->Bool)(i:Nat):Bool:=Zdi e c (decide (xs.size<ys.size)) ((List.range (min xs.size ys.size)).drop i)
theorem ZlO(k:Nat):∀i:Nat,min xs.size ys.size-i=k->MeetsIn P w (Builtin.«list.__eq__.loop» ⟨[.ref l,.ref b,rawInt i,rawInt 0],[]⟩)
  (fun A R s=>s.heap.get? l=some (Zdh d1 xs n s1)/\s.heap.get? b=some (Zdh d2 ys m s2)/\(∀j (h1:j<xs.size) (h2:j<ys.size),EqP P w A.in1 s xs[j] ys[j] (e j))/\
   (∀j (h1:j<xs.size) (h2:j<ys.size),e j=false->RcP P w A.in1 s .Lt xs[j] ys[j] (c j))/\R (.ok (.ret (.bool (ZcM xs ys e c i)))) s):=by
 induction k with
 |zero=>
  intro i hk A R s h;obtain⟨hq,gs,dr,tk,oss⟩:=s;obtain⟨u1,u2,ue,uc,q⟩:=h;have v3:(List.range (min xs.size ys.size)).drop i=[]:=by simp;omega
  unfold ZcM at q
  rw[v3] at q
  have fin:∀o1 o2,(xs[((i:Nat):Int).toNat]? =o1)->(ys[((i:Nat):Int).toNat]? =o2)->o1=none\/o2=none:=fun o1 o2 a1 a2=>by
   rw[<-a1,<-a2]
   by_cases z:i<xs.size
   ·right;simp;omega
   ·left;simp;omega
  wp_walk using AutoSeq1.wpAny_loadPart' u1,AutoSeq1.wpAny_loadPart' u2
  cases v1:xs[((i:Nat):Int).toNat]? with
  |none=>
   wp_walk using AutoSeq1.wpAny_loadPart' u1,AutoSeq1.wpAny_loadPart' u2
   exact q
  |some x=>
   cases v2:ys[((i:Nat):Int).toNat]? with
   |none=>
    wp_walk using AutoSeq1.wpAny_loadPart' u1,AutoSeq1.wpAny_loadPart' u2
    exact q
   |some y=>exact absurd (fin _ _ v1 v2) (by simp)
 |succ k ih=>
  intro i hk A R s h;obtain⟨hq,gs,dr,tk,oss⟩:=s;obtain⟨u1,u2,ue,uc,q⟩:=h;have t1:i<xs.size:=by omega
  have t2:i<ys.size:=by omega
  have tm:i<min xs.size ys.size:=by omega
  have v1:xs[((i:Nat):Int).toNat]? =some xs[i]:=by simp[t1]
  have v2:ys[((i:Nat):Int).toNat]? =some ys[i]:=by simp[t2]
  have v3:(List.range (min xs.size ys.size)).drop i=i::(List.range (min xs.size ys.size)).drop (i+1):=by simp[List.drop_eq_getElem_cons,tm]
  have v4:((i:Int)+1)=((i+1:Nat):Int):=by push_cast;rfl
  unfold ZcM at q
  rw[v3] at q
  unfold Zdi at q
  wp_walk using AutoSeq1.wpAny_loadPart' u1,AutoSeq1.wpAny_loadPart' u2
  rw[v1,v2];refine wpAny_bind (ue i t1 t2 _ _ ?_);cases ei:e i with
  |true=>
   rw[ei,if_pos rfl] at q
   wp_walk
   rw[v4];refine⟨plainId_quiet MeetsSeq3.plain_eq_loop _,codeAny_builtin MeetsSeq3.entry_eq_loop ?_⟩;rw[Around.under_plainId MeetsSeq3.plain_eq_loop _];exact ih (i+1) (by omega) A R _ ⟨u1,u2,ue,uc,q⟩
  |false=>
   rw[ei,if_neg (by simp)] at q
   wp_walk using AutoSeq1.wpAny_loadPart' u1,AutoSeq1.wpAny_loadPart' u2
   rw[v1,v2];refine wpAny_bind (uc i t1 t2 ei _ _ ?_)
   wp_walk
   exact q
theorem ZlP:MeetsIn P w (Builtin.«list.__lt__» ⟨[.ref l,.ref b],[]⟩) (fun A R s=>s.heap.get? l=some (Zdh d1 xs n s1)/\s.heap.get? b=some (Zdh d2 ys m s2)/\
  (∀j (h1:j<xs.size) (h2:j<ys.size),EqP P w A.in1 s xs[j] ys[j] (e j))/\(∀j (h1:j<xs.size) (h2:j<ys.size),e j=false->RcP P w A.in1 s .Lt xs[j] ys[j] (c j))/\R (.ok (.ret (.bool (ZcM xs ys e c 0)))) s):=by
 intro A R s h;obtain⟨hq,gs,dr,tk,oss⟩:=s;obtain⟨u1,u2,ue,uc,q⟩:=h;have sub:=AutoSeq1.sub_list_list
 wp_walk using AutoSeq1.wpAny_loadPart' u1,AutoSeq1.wpAny_loadPart' u2
 refine⟨plainId_quiet MeetsSeq3.plain_eq_loop _,codeAny_builtin MeetsSeq3.entry_eq_loop ?_⟩;rw[Around.under_plainId MeetsSeq3.plain_eq_loop _];exact ZlO l b xs ys n m d1 d2 s1 s2 e c _ 0 rfl A R _ ⟨u1,u2,ue,uc,q⟩
theorem ZmE:MeetsIn P w (Builtin.«tuple.__lt__» ⟨[.ref l,.ref b],[]⟩) (fun A R s=>s.heap.get? l=some (Zio d1 xs n s1)/\s.heap.get? b=some (Zio d2 ys m s2)/\
  (∀j (h1:j<xs.size) (h2:j<ys.size),EqP P w A.in1 s xs[j] ys[j] (e j))/\(∀j (h1:j<xs.size) (h2:j<ys.size),e j=false->RcP P w A.in1 s .Lt xs[j] ys[j] (c j))/\R (.ok (.ret (.bool (ZcM xs ys e c 0)))) s):=
 .of_wp fun A R s h=>by
  obtain⟨hq,gs,dr,tk,oss⟩:=s;obtain⟨u1,u2,ue,uc,q⟩:=h;have sub:=AutoSeq1.sub_tuple_tuple;have zl:(xs.toList.zip ys.toList).length=min xs.size ys.size:=by simp
  wp_walk using AutoSeq1.wpAny_loadPart' u1,AutoSeq1.wpAny_loadPart' u2,wpAny_forIn_list _ (fun rest a s'=>a.1=none/\s'=⟨hq,gs,dr,tk,oss⟩/\∃i,rest=(xs.toList.zip ys.toList).drop i/\
   R (.ok (.ret (.bool (ZcM xs ys e c i)))) ⟨hq,gs,dr,tk,oss⟩) _
  case turn=>
   rintro⟨y,x⟩ rest a s' ⟨ha,rfl,i,zr,zq⟩;have lt:i<(xs.toList.zip ys.toList).length:=Nat.lt_of_not_le fun z=>by rw[List.drop_of_length_le z] at zr;cases zr
   have lm:i<min xs.size ys.size:=zl▸lt;have l1:i<xs.size:=by omega
   have l2:i<ys.size:=by omega
   rw[List.drop_eq_getElem_cons lt] at zr
   injection zr with zyx zrest
   obtain rfl:y=xs[i]:=by simpa using congrArg Prod.fst zyx
   obtain rfl:x=ys[i]:=by simpa using congrArg Prod.snd zyx
   have zd:(List.range (min xs.size ys.size)).drop i=i::(List.range (min xs.size ys.size)).drop (i+1):=by simp[List.drop_eq_getElem_cons,lm]
   unfold ZcM at zq
   rw[zd] at zq
   unfold Zdi at zq
   refine wpAny_bind (ue i l1 l2 _ _ ?_);cases ei:e i with
   |true=>
    rw[ei,if_pos rfl] at zq
    wp_walk
    exact⟨rfl,rfl,i+1,zrest,zq⟩
   |false=>
    rw[ei,if_neg (by simp)] at zq
    have rc:=uc i l1 l2 ei;unfold RcP at rc
    generalize richCompare CmpOp.Lt xs[i] ys[i]=m at rc⊢
    wp_walk
    first|refine wpAny_bind (rc _ _ ?_)|refine rc _ _ ?_
    wp_walk
    exact⟨_,rfl,zq⟩
  case fin=>
   rintro⟨a1,a2⟩ s' ⟨ha,rfl,i,zr,zq⟩;simp only at ha
   subst ha;have ge:min xs.size ys.size<=i:=Nat.le_of_not_lt fun z=>by rw[List.drop_eq_getElem_cons (zl▸z:i<(xs.toList.zip ys.toList).length)] at zr;cases zr
   unfold ZcM at zq
   rw[List.drop_of_length_le (by simpa using ge)] at zq
   wp_walk
   exact⟨_,rfl,by simpa [Builtin.Tuple.tupleCompareSizes,Zdi] using zq⟩
  case h=>exact⟨rfl,rfl,0,rfl,q⟩
end
section
variable {P:Program} {w:World} {A:Around} {s:Shared} {l b:Addr} {xs ys:Array Value} {e c:Nat->Bool}
theorem ZkK(hl:s.heap.IsList l xs)(hb:s.heap.IsList b ys)(hu:A.units<cLine)(he:∀j (h1:j<xs.size) (h2:j<ys.size),EqP P w A.in1 s xs[j] ys[j] (e j))(hc:∀j (h1:j<xs.size) (h2:j<ys.size),e j=false->RcP P w A.in1 s .Lt xs[j] ys[j] (c j)):RcP P w A s .Lt (.ref l) (.ref b) (ZcM xs ys e c 0):=by
 obtain⟨⟨c1,d1,t1,s1⟩,o1,k1,n,e1⟩:=id hl;obtain⟨⟨c2,d2,t2,s2⟩,o2,k2,m,e2⟩:=id hb;simp only at k1 e1 k2 e2
 subst k1 e1 k2 e2;exact fun E Q q=>wpAny_richCompare_same_room hl.typeIs hb.typeIs F.slot_list_lt (call_meetsIn F.slot_list_lt hl.typeIs F.entry_list_lt (F.args_list_lt_2 _ _) (ZlP l b xs ys n m d1 d2 s1 s2 e c) ⟨o1,o2,he,hc,JB q⟩) hu
theorem Zju(hl:s.heap.IsTuple l xs)(hb:s.heap.IsTuple b ys)(hu:A.units<cLine)(he:∀j (h1:j<xs.size) (h2:j<ys.size),EqP P w A.in1 s xs[j] ys[j] (e j))(hc:∀j (h1:j<xs.size) (h2:j<ys.size),e j=false->RcP P w A.in1 s .Lt xs[j] ys[j] (c j)):RcP P w A s .Lt (.ref l) (.ref b) (ZcM xs ys e c 0):=by
 obtain⟨⟨c1,d1,t1,s1⟩,o1,k1,n,e1⟩:=id hl;obtain⟨⟨c2,d2,t2,s2⟩,o2,k2,m,e2⟩:=id hb;simp only at k1 e1 k2 e2
 subst k1 e1 k2 e2;exact fun E Q q=>wpAny_richCompare_same_room hl.typeIs hb.typeIs F.slot_tuple_lt (call_meetsIn F.slot_tuple_lt hl.typeIs F.entry_tuple_lt (F.args_tuple_lt_2 _ _) (ZmE l b xs ys n m d1 d2 s1 s2 e c) ⟨o1,o2,he,hc,JB q⟩) hu
end
end L3
namespace L3
open PySem PySem.Spec PyProof.Rows L2 PySem.W PySem.Calls
def lfD(x:Lf):Dt:=.tup [.v (.str x.1),.v (.int x.2)]
def Zdj(l:List Lf):Dt:=.lst (l.map lfD)
def kyD(k:Ky):Dt:=.tup [.v (.int k.1),Zdj k.2]
theorem Zjv(n:Nat)(x y:Lf):Yy (n+1) (lfD x) (lfD y)=decide (x=y):=by
 obtain⟨a,b⟩:=x;obtain⟨c,d⟩:=y;have e:Yy (n+1) (lfD (a,b)) (lfD (c,d))=((a==c)&&(b==d)):=by simp[lfD,Yy,eqV]
 rw[e]
 by_cases h:(a,b)=(c,d)
 ·injection h with h1 h2;subst h1 h2;simp
 ·rw[decide_eq_false h]
  by_cases h1:a=c
  ·subst h1;have h2:b≠d:=fun z=>h (by rw[z]);simp[h2]
  ·simp[h1]
theorem ZhM(n:Nat):∀x y:List Lf,Yy (n+2) (Zdj x) (Zdj y)=decide (x=y):=by
 have go:∀x y:List Lf,((x.map lfD).length==(y.map lfD).length&&((x.map lfD).zip (y.map lfD)).all fun p=>Yy (n+1) p.1 p.2)=decide (x=y):=by
  intro x
  induction x with
  |nil=>intro y;cases y<;>rfl
  |cons a r ih=>intro y;cases y with
   |nil=>rfl
   |cons b t=>
    rw[List.map_cons,List.map_cons,List.zip_cons_cons,List.all_cons,Zjv,List.length_cons,List.length_cons];have e:((r.map lfD).length+1==(t.map lfD).length+1)=((r.map lfD).length==(t.map lfD).length):=by
     by_cases z:(r.map lfD).length=(t.map lfD).length
     ·rw[z];simp
     ·rw[beq_false_of_ne z,beq_false_of_ne (by omega)]
    rw[e,Bool.and_left_comm,ih t]
    by_cases z:a=b
    ·subst z;simp
    ·simp[z]
 exact fun x y=>go x y
theorem ZhN(n:Nat)(x y:Lf):Jb (n+1) (lfD x) (lfD y)=true:=by simp[lfD,Jb]
theorem Zgf(n:Nat)(x y:List Lf):Jb (n+2) (Zdj x) (Zdj y)=true:=by
 show(((x.map lfD).zip (y.map lfD)).all fun p=>Jb (n+1) p.1 p.2)=true;rw[List.all_eq_true];intro p hp;have h1:=(List.of_mem_zip hp).1;have h2:=(List.of_mem_zip hp).2;obtain⟨a,_,e1⟩:=List.mem_map.mp h1;obtain⟨b,_,e2⟩:=List.mem_map.mp h2;rw[<-e1,<-e2];exact ZhN n a b
theorem ZeE(e c:Nat->Bool)(fin:Bool):∀l:List Nat,Zdi e c fin (l.map Nat.succ)=Zdi (fun j=>e (j+1)) (fun j=>c (j+1)) fin l
 |[]=>rfl
 |i::r=>by
  show(if e (i+1)=true then Zdi e c fin (r.map Nat.succ) else c (i+1))=_;rw[ZeE e c fin r]
  rfl
theorem ZeF{α:Type} [DecidableEq α](lt:α->α->Bool)(d:α):∀a b:List α,Zdi (fun j=>decide (a.getD j d=b.getD j d)) (fun j=>lt (a.getD j d) (b.getD j d)) (decide (a.length<b.length)) (List.range (min a.length b.length))=Zb6 lt a b
 |[],[]=>rfl
 |[],_::_=>by simp[Zdi,Zb6]
 |_::_,[]=>by simp[Zdi,Zb6]
 |x::a,y::b=>by
  rw[List.length_cons,List.length_cons,Nat.succ_min_succ,List.range_succ_eq_map];show(if decide (x=y)=true then Zdi _ _ _ _ else lt x y)=if x=y then Zb6 lt a b else lt x y;rw[ZeE];have e:decide (a.length+1<b.length+1)=decide (a.length<b.length):=by
   by_cases z:a.length<b.length
   ·rw[decide_eq_true z,decide_eq_true (by omega)]
   ·rw[decide_eq_false z,decide_eq_false (by omega)]
  rw[e,<-ZeF lt d a b]
  by_cases z:x=y
  ·rw[if_pos z,if_pos (decide_eq_true z)];rfl
  ·rw[if_neg z,if_neg (by rw[decide_eq_false z];simp)]
section
variable {X:Cx} {pins:List (Addr×Obj)} {σ:L2.St} {H:Hp} {s:Shared} {A:Around}
theorem ZlQ{x:Lf}{v:V}(r:Rep X.K H (lfD x) v):∃p,v=.ref p/\SqT X.K H p [.str x.1,.int x.2]:=by
 cases r with
 |tup h r=>
  cases r with
  |cons a r=>
   cases r with
   |cons b r=>
    cases r;cases a;cases b;exact⟨_,rfl,h⟩
theorem Zle(I:L2.Inv X pins σ H s){x:Lf}{p:Addr}(h:SqT X.K H p [.str x.1,.int x.2]):∃t u,s.heap.IsTuple p #[.str x.1 t,.int x.2 u]:=by
 obtain⟨its,r,T,_⟩:=I.tuple h;cases r with
 |cons a r=>
  cases r with
  |cons b r=>
   cases r;obtain⟨t,rfl⟩:=a;obtain⟨u,rfl⟩:=b;exact⟨t,u,T⟩
theorem ZmF(I:L2.Inv X pins σ H s){x y:Lf}{a b:Addr}(ha:SqT X.K H a [.str x.1,.int x.2])(hb:SqT X.K H b [.str y.1,.int y.2])(hu:A.units<cLine):RcP X.prog X.w A s .Lt (.ref a) (.ref b) (Zb8 x y):=by
 obtain⟨t,u,T1⟩:=Zle I ha;obtain⟨t',u',T2⟩:=Zle I hb;have go:=Zju (P:=X.prog) (w:=X.w) (A:=A) (e:=fun j=>if j=0 then decide (x.1=y.1) else(x.2==y.2)) (c:=fun j=>if j=0 then Zb7 x.1 y.1 else JG x.2 y.2) T1 T2 hu (fun j h1 h2=> ?_) (fun j h1 h2 z=> ?_)
 ·have e:ZcM #[Value.str x.1 t,Value.int x.2 u] #[Value.str y.1 t',Value.int y.2 u'] (fun j=>if j=0 then decide (x.1=y.1) else(x.2==y.2)) (fun j=>if j=0 then Zb7 x.1 y.1 else JG x.2 y.2) 0=Zb8 x y:=by
   show(if decide (x.1=y.1)=true then(if(x.2==y.2)=true then false else JG x.2 y.2) else Zb7 x.1 y.1)=if x.1=y.1 then JG x.2 y.2 else Zb7 x.1 y.1
   by_cases z:x.1=y.1
   ·rw[if_pos (decide_eq_true z),if_pos z]
    by_cases z2:x.2=y.2
    ·rw[z2,beq_self_eq_true,if_pos rfl,Zbu.irr]
    ·rw[beq_false_of_ne z2,if_neg (by simp)]
   ·rw[if_neg (by rw[decide_eq_false z];simp),if_neg z]
  rw[e] at go
  exact go
 ·match j,h1,h2 with
  |0,_,_=>exact fun E Q q=>wpAny_eqBool_str q
  |1,_,_=>exact fun E Q q=>wpAny_eqBool_int q
 ·match j,h1,h2 with
  |0,_,_=>exact fun E Q q=>PySem.P.lt_str q
  |1,_,_=>exact fun E Q q=>PyProof.Rows.lt_int q
theorem Zbb:∀{l:List Lf} {xs:List V} {us:List Value} (_:Zg6 X.K H (l.map lfD) xs) (_:ZJ xs us) (j:Nat) (h:j<us.length),∃p,us[j]=.ref p/\SqT X.K H p [.str (l.getD j (Str.empty,0)).1,.int (l.getD j (Str.empty,0)).2]
 |[],_,_,.nil,.nil,j,h=>absurd h (Nat.not_lt_zero _)
 |x::l,_,_,.cons r _,.cons v _,0,_=>by
  obtain⟨p,rfl,e⟩:=ZlQ r;exact⟨p,v,e⟩
 |x::l,_,_,.cons _ t,.cons _ vt,j+1,h=>by
  obtain⟨p,a,b⟩:=Zbb t vt j (by simpa using h);exact⟨p,a,b⟩
theorem Zjw(I:L2.Inv X pins σ H s){x y:List Lf}{a b:Addr}(ha:Rep X.K H (Zdj x) (.ref a))(hb:Rep X.K H (Zdj y) (.ref b))(hu:A.units+5<cLine):RcP X.prog X.w A s .Lt (.ref a) (.ref b) (ZbJ x y):=by
 cases ha with
 |lst ha ra=>
  cases hb with
  |lst hb rb=>
   obtain⟨us,r1,p1,_⟩:=I.list ha;obtain⟨vs,r2,p2,_⟩:=I.list hb;have l1:us.length=x.length:=by rw[<-r1.length,<-Paired.length ra,List.length_map]
   have l2:vs.length=y.length:=by rw[<-r2.length,<-Paired.length rb,List.length_map]
   have u1:A.in1.units+1<cLine:=by show A.units+1+1<cLine;omega
   have go:=ZkK (P:=X.prog) (w:=X.w) (A:=A) (e:=fun j=>decide (x.getD j (Str.empty,0)=y.getD j (Str.empty,0))) (c:=fun j=>Zb8 (x.getD j (Str.empty,0)) (y.getD j (Str.empty,0))) p1.isList p2.isList (by omega) (fun j h1 h2=> ?_) (fun j h1 h2 z=> ?_)
   ·unfold ZcM at go
    rw[List.drop_zero,List.size_toArray,List.size_toArray,l1,l2,ZeF Zb8 (Str.empty,0) x y] at go
    exact go
   ·obtain⟨p,e1,q1⟩:=Zbb ra r1 j (by simpa using h1);obtain⟨q,e2,q2⟩:=Zbb rb r2 j (by simpa using h2);have rp:Rep X.K H (lfD (x.getD j (Str.empty,0))) (.ref p):=.tup q1 (.cons (.flat rfl) (.cons (.flat rfl) .nil));have rq:Rep X.K H (lfD (y.getD j (Str.empty,0))) (.ref q):=.tup q2 (.cons (.flat rfl) (.cons (.flat rfl) .nil));have:=(Zci I 1 _ _ _ _ (.ref p) (.ref q) A.in1 rp rq rfl rfl (ZhN 0 _ _) u1).1
    rw[Zjv] at this
    rw[List.getElem_toArray,List.getElem_toArray,e1,e2];exact this
   ·obtain⟨p,e1,q1⟩:=Zbb ra r1 j (by simpa using h1);obtain⟨q,e2,q2⟩:=Zbb rb r2 j (by simpa using h2);rw[List.getElem_toArray,List.getElem_toArray,e1,e2];exact ZmF I q1 q2 (by omega)
theorem ZdS{k:Ky}{v:V}(r:Rep X.K H (kyD k) v):∃p q,v=.ref p/\SqT X.K H p [.int k.1,.ref q]/\Rep X.K H (Zdj k.2) (.ref q):=by
 cases r with
 |tup h r=>
  cases r with
  |cons a r=>
   cases r with
   |cons b r=>
    cases r;cases a;have b':=b;cases b with
    |lst h2 r2=>exact⟨_,_,rfl,h,b'⟩
theorem Zjx(I:L2.Inv X pins σ H s){k:Ky}{p q:Addr}(h:SqT X.K H p [.int k.1,.ref q]):∃t o n,s.heap.get? p=some o/\o.cls=.type "tuple"/\o.data=.seq #[.int k.1 t,.ref q] n:=by
 obtain⟨its,r,T,_⟩:=I.tuple h;cases r with
 |cons a r=>
  cases r with
  |cons b r=>
   cases r;obtain⟨t,rfl⟩:=a;cases b;obtain⟨o,e,c,n,d⟩:=T;exact⟨t,o,n,e,c,d⟩
theorem ZlR(I:L2.Inv X pins σ H s){x y:Ky}{a b:V}{u v:Value}(ra:Rep X.K H (kyD x) a)(rb:Rep X.K H (kyD y) b)(ru:ZC a u)(rv:ZC b v)(hu:A.units+5<cLine){C:Bool->Shared->Prop}(h:C (Zck x y) s):wpAny (model X.prog X.w) A (keyLt' (tuples' true) u v) C (fun _ _=>False) s:=by
 obtain⟨p,q,rfl,hp,hq⟩:=ZdS ra;obtain⟨p',q',rfl,hp',hq'⟩:=ZdS rb;cases ru;cases rv;obtain⟨t,o,n,e1,_,e3⟩:=Zjx I hp;obtain⟨t',o',n',f1,_,f3⟩:=Zjx I hp';have hk:Zck x y=if x.1=y.1 then ZbJ x.2 y.2 else JG x.1 y.1:=rfl;refine kat_lt e1 e3 f1 f3 ?_;show KatLex X.prog X.w A true false C [(.int x.1 t,.int y.1 t'),(.ref q,.ref q')] 0 s;refine kat_cons (wpAny_eqBool_int ?_)
 by_cases z:x.1=y.1
 ·rw[if_pos z] at hk
  rw[z,beq_self_eq_true];refine kat_yes (kat_cons ?_);have eq:=(Zci I 2 _ _ _ _ (.ref q) (.ref q') A hq hq' rfl rfl (Zgf 0 _ _) (by omega)).1;rw[ZhM 0] at eq
  refine eq _ _ ?_
  by_cases z2:x.2=y.2
  ·rw[decide_eq_true z2];refine kat_yes (kat_nil ?_);rw[hk,z2,ZcK.irr] at h
   exact h
  ·rw[decide_eq_false z2];refine kat_no ?_;show wpAny (model X.prog X.w) A (oneLt' false (.ref q) (.ref q')) C (fun _ _=>False) s;refine kat_one _ _ (Zjw I hq hq' hu _ _ ?_);rw[hk] at h
   exact h
 ·rw[if_neg z] at hk
  rw[beq_false_of_ne z];refine kat_no ?_;show wpAny (model X.prog X.w) A (oneLt' true (.int x.1 t) (.int y.1 t')) C (fun _ _=>False) s;refine oneLt_int ?_;rw[hk] at h
  exact h
end
end L3
namespace L3
open PySem PySem.Spec PyProof.Rows L2 PySem.W PySem.Calls
section
variable {prog:Program} {w:World} {A:Around} {E:Value->Shared->Prop} {s:Shared} {ks vs:List Value} {ans:Nat->Nat->Bool}
def Zfh(prog:Program)(w:World)(A:Around)(κ:SortKind)(ks:List Value)(n:Nat)(ans:Nat->Nat->Bool)(s:Shared):Prop:=
 ∀i j,i<n->j<n->∀C:Bool->Shared->Prop,C (ans i j) s->wpAny (model prog w) A (keyLt' κ (ks.getD i Value.none) (ks.getD j Value.none)) C (fun _ _=>False) s
structure ZkL (ks vs:List Value) (ans:Nat->Nat->Bool) (st:SortSt):Prop where
 ex:∃p:Array Nat,Pl vs.length p/\Zha ans p vs.length/\(arrOf st).map (·.2)=List.toArray (p.toList.map fun i=>vs.getD i Value.none)
 ok:failedOf st=none
theorem ZeG{Q:SortSt->Shared->Prop}{κ:SortKind}(o:Ord ans)(hl:ks.length=vs.length)(h2:2<=vs.length)(h64:vs.length<128)(hk:Zfh prog w A κ ks vs.length ans s)(q:∀st,ZkL ks vs ans st->Q st s):wpAny (model prog w) A ((sortRuns').run (SortSt.mk' κ (ks.toArray.zip vs.toArray) #[] 7 none)) (fun r s'=>Q r.2 s') E s:=by
 have z:(ks.toArray.zip vs.toArray).size=vs.length:=by simp[hl]
 have e:=kas_range (ks.toArray.zip vs.toArray);rw[z] at e
 have go:=Zis (prog:=prog) (w:=w) (A:=A) (ans:=ans) (κ:=κ) (it:=ks.toArray.zip vs.toArray) (I:=fun s'=>s'=s) (fun i j C s1 hi hj e1 hC=>by
  have e1:s1=s:=e1;subst e1;rw[<-kat_ask_eq hl];exact hk i j hi hj _ (hC _ rfl)) o h2 h64 ⟨by simp,Array.Perm.refl (List.toArray (List.range vs.length))⟩ E (fun _ st s'=>Q st s') s rfl fun _ st s' ⟨p,x,g,e2,pl,so⟩ e3=>by
   have e3:s'=s:=e3;subst e2 e3;exact q _ ⟨⟨p,pl,fun i j a b=>so i j (Nat.zero_le _) a b,kat_snds hl rfl⟩,rfl⟩
 have st:stp κ (ks.toArray.zip vs.toArray) #[] 7 (List.toArray (List.range vs.length))=SortSt.mk' κ (ks.toArray.zip vs.toArray) #[] 7 none:=congrArg (fun a=>SortSt.mk' κ a #[] 7 none) e;rw[st] at go
 exact go
theorem Zgg(o:Ord ans)(hl:ks.length=vs.length)(h2:vs.length<2)(κ:SortKind):ZkL ks vs ans (SortSt.mk' κ (ks.toArray.zip vs.toArray) #[] 7 none):=by
 refine⟨⟨List.toArray (List.range vs.length),⟨by simp,Array.Perm.refl _⟩,fun i j hij hj=> ?_, ?_⟩,rfl⟩
 ·have:i=j:=by omega
  subst this;exact o.irr _
 ·apply Array.toList_inj.mp
  show((ks.toArray.zip vs.toArray).map (·.2)).toList=_;rw[Array.toList_map,ksk_zip];show List.map (·.2) (ks.toArray.toList.zip vs)=(List.range vs.length).map fun i=>vs.getD i Value.none;have e:List.map (·.2) (ks.toArray.toList.zip vs)=vs:=List.map_snd_zip (by simp[hl]);rw[e]
  apply List.ext_getElem
  ·simp
  ·intro i h1 h3;simp[h1]
theorem Zit{D kS:Addr}{e1:Nat}{P:PySem.Fin->Shared->Prop}(o:Ord ans)(hl:ks.length=vs.length)(h64:vs.length<128)
  (hk:2<=vs.length->wpAny (model prog w) A (keyKind' (List.toArray ks)) (fun κ s'=>s'=s/\Zfh prog w A κ ks vs.length ans s) (fun _ _=>False) s)
  (q:∀st,ZkL ks vs ans st->wpAny (model prog w) A (ksk_tail D false e1 (.ref kS) st) P E s):wpAny (model prog w) A (ksk_end D false vs.toArray e1 (.ref kS) (List.toArray ks)) P E s:=by
 unfold ksk_end
 dsimp only
 simp only [reduceIte,Bool.false_eq_true]
 by_cases h2:vs.length<2
 ·have h3:vs.toArray.size<2:=by rw[List.size_toArray];exact h2
  rw[if_pos h3,if_pos h3];exact wpAny_bind (wpAny_pure (wpAny_bind (wpAny_pure (q _ (Zgg o hl h2 _)))))
 ·have h3:¬vs.toArray.size<2:=by rw[List.size_toArray];exact h2
  rw[if_neg h3,if_neg h3];refine wpAny_bind (wpAny_mono (hk (by omega)) (fun κ s0 z=> ?_) fun _ _ x=>x.elim);obtain⟨rfl,hk⟩:=z;exact wpAny_bind (ZeG (Q:=fun st s'=>wpAny (model prog w) A (ksk_tail D false e1 (.ref kS) st) P E s') o hl (by omega) h64 hk q)
theorem Zhf{D kS:Addr}{e1 e:Nat}{out:List Value}{st:SortSt}{P:PySem.Fin->Shared->Prop}(hk:s.heap.get? kS=some (seqObj "list" (List.toArray ks) e))(hD:s.heap.get? D=some (seqObj "list" #[] e1))(ne:D≠kS)(hout:(arrOf st).map (·.2)=List.toArray out)(hz:out.length<128)(hkz:ks.length<128)(hf:failedOf st=none)
  (q:P (.done (.ret .none)) {s with heap:=(s.heap.update kS (Obj.mapSeq fun _=> #[])).update D (Obj.mapSeq fun _=>List.toArray out)}):wpAny (model prog w) A (ksk_tail D false e1 (.ref kS) st) P E s:=by
 unfold ksk_tail
 dsimp only
 simp only [reduceIte,Bool.false_eq_true];rw[hout,hf];have hD1:(s.heap.update kS (Obj.mapSeq fun _=>(#[]:Array Value))).get? D=some (seqObj "list" #[] e1):=(Heap.get?_update_other _ _ (Ne.symm ne)).trans hD;have z1:(List.toArray ks).size<=sizeLine:=by rw[List.size_toArray,sizeLine_eq];omega
 have z2:(List.toArray out).size<=sizeLine+1:=by rw[List.size_toArray,sizeLine_eq];omega
 refine wpAny_bind (listUpdate_at hk rfl (wpAny_bind (wpAny_letGo (wpAny_bind (seqEpoch_at hD1 rfl (wpAny_bind (listUpdate_at hD1 rfl ?_ (Nat.zero_le _) z2)))))) z1 (Nat.zero_le _));simp only [reduceIte,bne_self_eq_false,Bool.false_eq_true];exact wpAny_pure q
end
section
variable {X:Cx} {pins:List (Addr×Obj)} {σ:L2.St} {H:Hp} {s:Shared}
structure ZdT (X:Cx) (a:Addr):Prop where
 new:X.s₀.heap.objs.size<=a
 cells:∀x c,X.env.cells.lookup x=some c->c≠a
 pn:∀p∈X.pn,p.1≠a
theorem Zdv(I:L2.Inv X pins σ H s){a:Addr}(h:s.heap.objs.size<=a):ZdT X a:=by
 refine⟨Nat.le_trans I.sz h,fun x c e z=> ?_,fun p hp z=> ?_⟩
 ·obtain⟨v,o,e1,_⟩:=I.cell x c e;exact absurd (z▸Heap.lt_size e1) (Nat.not_lt.mpr h)
 ·exact absurd (z▸Heap.lt_size (I.pin p (List.mem_append_left _ hp)).1) (Nat.not_lt.mpr h)
theorem Zby{ps:List (Addr×Obj)}{a:Addr}{o o':Obj}{h':Heap}(I:L2.Inv X ((a,o)::ps) σ H s)(l:ZdT X a)(n:∀p∈ps,p.1≠a)(k:∀b u,b≠a->s.heap.get? b=some u->h'.get? b=some u)(e:h'.get? a=some o')(nc:∀v,o'.data≠.cell v):L2.Inv X ((a,o')::ps) σ H {s with heap:=h'}:=by
 have pa:=I.pin (a,o) (List.mem_append_right _ (.head _));have I1:L2.Inv X ps σ H s:=I.pins_of fun p hp=>I.pin p (List.mem_append_right _ (.tail _ hp));have I2:L2.Inv X ps σ H {s with heap:=h'}:=I1.turned (it:=a) (t':=s.toks) k pa.2.1 pa.2.2.1 (.inr l.new) l.cells fun p hp=>(List.mem_append.mp hp).elim (l.pn p) (n p);refine I2.pins_of fun p hp=> ?_;rcases List.mem_cons.mp hp with rfl|hp
 ·exact⟨e,pa.2.1,pa.2.2.1,pa.2.2.2.1,nc⟩
 ·exact I2.pin p (List.mem_append_right _ hp)
theorem Yl{h:Heap}{a:Addr}{f:Array Value->Array Value}:∀b u,b≠a->h.get? b=some u->(h.update a (Obj.mapSeq f)).get? b=some u:=fun b u n e=>(Heap.get?_update_other _ _ (Ne.symm n)).trans e
theorem Yz{c:String}{xs:Array Value}{n:Nat}:∀v,(seqObj c xs n).data≠.cell v:=fun _ z=>nomatch z
def kys(sp:Sp):List V->List V->Hp->(List V->Hp->Prop)->Prop
 |[],ks,H,R=>R ks H
 |x::r,ks,H,R=>sp [x] H (fun k H2=>kys sp r (ks++[k]) H2 R) fun _ _ _=>False
variable {k:Nat} {g:Addr} {fd:FuncData} {p:Str} {sp:Sp}
theorem Zjy(F:Yq X.prog X.w X.K X.mg X.base CX0 k g fd [p] sp)(hb:Ja X.K fd [p] [])(hr:YK (k+2) X.A)(I:L2.Inv X pins σ H s){x:V}{u:Value}(r:ZC x u){Q:VK}(h:sp [x] H Q fun _ _ _=>False):
  wpAny (model X.prog X.w) X.A.in1.in1 (call (.ref g) [u]) (EP X pins σ Q) (fun _ _=>False) s:=by
 have bd:=hb s [u] I.kIn rfl;rw[List.append_nil] at bd
 refine wpAny_call (codeAny_mono (F.run X.A.in1.in1 X.stack s H ⟨[u],[]⟩ [u] [x] Q _ hr.in1.in1 I.env0.in1.in1 bd (.cons r .nil) h) fun r s2 z=> ?_);cases r with
 |ok fl=>
  cases fl with
  |ret u=>exact I.after z
  |next=>exact False.elim z
  |brk=>exact False.elim z
  |cont=>exact False.elim z
 |error ev=>exact False.elim z
theorem ZeH{E:Value->Shared->Prop}{D kS:Addr}{oD:Obj}{R:List V->Hp->Prop}{body:Value->PUnit->Sem (ForInStep PUnit)}
  (hb:∀(x:V) (u:Value) (ks:List Value) (e:Nat) (s:Shared) (H:Hp) (Q:VK),ks.length<128->L2.Inv X ((kS,seqObj "list" (List.toArray ks) e)::(D,oD)::pins) σ H s->ZC x u->sp [x] H Q (fun _ _ _=>False)->
   wpAny (model X.prog X.w) X.A.in1.in1 (body u ⟨⟩) (fun r s'=>r=.yield ⟨⟩/\∃v kv e' H',L2.Inv X ((kS,seqObj "list" (List.toArray (ks++[kv])) e')::(D,oD)::pins) σ H' s'/\ZC v kv/\Q v H') E s):
  ∀(r:List Value) (xr:List V) (ks:List Value) (kx:List V) (e:Nat) (s:Shared) (H:Hp),ks.length+r.length<128->L2.Inv X ((kS,seqObj "list" (List.toArray ks) e)::(D,oD)::pins) σ H s->ZJ xr r->ZJ kx ks->kys sp xr kx H R->
   wpAny (model X.prog X.w) X.A.in1.in1 (forIn r PUnit.unit body) (fun _ s'=>∃ks' kx' e' H',L2.Inv X ((kS,seqObj "list" (List.toArray ks') e')::(D,oD)::pins) σ H' s'/\ZJ kx' ks'/\ks'.length=ks.length+r.length/\R kx' H') E s
 |[],xr,ks,kx,e,s,H,hl,I,rx,rk,h=>by
  cases rx;rw[List.forIn_nil];exact wpAny_pure ⟨ks,kx,e,H,I,rk,rfl,h⟩
 |u::r,xr,ks,kx,e,s,H,hl,I,rx,rk,h=>by
  cases rx with
  |cons ru rx=>
   rw[List.length_cons] at hl
   rw[List.forIn_cons];refine wpAny_bind (wpAny_mono (hb _ u ks e s H _ (by omega) I ru h) (fun q s' z=> ?_) fun _ _ x=>x);obtain⟨rfl,v,kv,e',H',I',rv,q'⟩:=z;have l2:(ks++[kv]).length=ks.length+1:=by rw[List.length_append];rfl
   refine wpAny_mono (ZeH hb r _ (ks++[kv]) (kx++[v]) e' s' H' (by omega) I' rx (ZJ.append rk (.cons rv .nil)) q') (fun _ s2 z=> ?_) fun _ _ x=>x;obtain⟨ks',kx',e2,H2,I2,r2,l3,q2⟩:=z;exact⟨ks',kx',e2,H2,I2,r2,by rw[l3,l2,List.length_cons];omega,q2⟩
theorem Zhg{E:Value->Shared->Prop}{D kS:Addr}{e1:Nat}{xs:List V}{vs:List Value}{R:List V->Hp->Prop}{P:PySem.Fin->Shared->Prop}(F:Yq X.prog X.w X.K X.mg X.base CX0 k g fd [p] sp)(hb:Ja X.K fd [p] [])(hr:YK (k+2) X.A)(lk:ZdT X kS)(nD:D≠kS)(np:∀p∈pins,p.1≠kS)
  (I:L2.Inv X ((kS,seqObj "list" #[] 0)::(D,seqObj "list" #[] e1)::pins) σ H s)(rx:ZJ xs vs)(h64:vs.length<128)(h:kys sp xs [] H R)
  (q:∀ks kx e H' s',L2.Inv X ((kS,seqObj "list" (List.toArray ks) e)::(D,seqObj "list" #[] e1)::pins) σ H' s'->ZJ kx ks->ks.length=vs.length->R kx H'->wpAny (model X.prog X.w) X.A.in1.in1 (ksk_end D false vs.toArray e1 (.ref kS) (List.toArray ks)) P E s'):
  wpAny (model X.prog X.w) X.A.in1.in1 (ksk_rest D (.ref g) false vs.toArray e1 (.ref kS)) P E s:=by
 unfold ksk_rest;refine wpAny_bind (wpAny_rule ?_);rw[List.forIn_toArray];refine wpAny_bind (wpAny_mono (ZeH (sp:=sp) (R:=R) (fun x u ks e s H Q hz I ru hs=> ?_) vs xs [] [] 0 s H (by simpa using h64) I rx .nil h) (fun _ s' z=> ?_) fun _ _ x=>x)
 ·refine wpAny_bind (wpAny_attempt (wpAny_mono (Zjy F hb hr I ru hs) (fun kv s2 z=> ?_) fun _ _ x=>x.elim));obtain⟨v,H2,I2,rv,q2⟩:=z;have pk:=(I2.pin (kS,seqObj "list" (List.toArray ks) e) (List.mem_append_right _ (.head _))).1;have ea:(List.toArray ks).push kv=List.toArray (ks++[kv]):=by simp
  have up:=get?_update_seq pk (·.push kv);rw[ea] at up
  dsimp only
  refine wpAny_bind (listUpdate_at pk rfl ?_ (by rw[List.size_toArray,sizeLine_eq];omega) (Nat.le_trans (Nat.le_of_eq (Array.size_push ..)) (by rw[List.size_toArray,sizeLine_eq];omega)))
  refine wpAny_pure ⟨rfl,v,kv,_,H2,Zby I2 lk (fun p hp=> ?_) Yl up Yz,rv,q2⟩;rcases List.mem_cons.mp hp with rfl|hp
  ·exact nD
  ·exact np p hp
 ·obtain⟨ks,kx,e,H2,I2,rk,l,r2⟩:=z;have pk:=(I2.pin (kS,seqObj "list" (List.toArray ks) e) (List.mem_append_right _ (.head _))).1
  try dsimp only
  refine wpAny_bind (listItems_at pk rfl ?_);exact q ks kx e H2 s' I2 rk (by simpa using l) r2
theorem ZhO{K:PySem.W.Frag}:∀{kk:List Ky} {kx:List V} {ks:List Value} (_:Paired (fun y x=>Rep K H (kyD y) x) kk kx) (_:ZJ kx ks) (i:Nat),i<ks.length->∃x,Rep K H (kyD (kk.getD i (0,[]))) x/\ZC x (ks.getD i Value.none)
 |_,_,_,.nil,.nil,i,h=>absurd h (Nat.not_lt_zero _)
 |_,_,_,.cons r _,.cons v _,0,_=>⟨_,r,v⟩
 |_,_,_,.cons _ t,.cons _ vt,i+1,h=>by
  obtain⟨x,a,b⟩:=ZhO t vt i (by simpa using h);exact⟨x,a,b⟩
theorem ZeI(I:L2.Inv X pins σ H s):∀{kk:List Ky} {kx:List V} {ks:List Value} (_:Paired (fun y x=>Rep X.K H (kyD y) x) kk kx) (_:ZJ kx ks),∃fs,KatTups s.heap ks fs/\fs.length=ks.length/\∀v∈fs,∃n t,v=Value.int n t
 |_,_,_,.nil,.nil=>⟨[],.nil,rfl,fun v hv=>nomatch hv⟩
 |_,_,_,.cons (a:=y) r t,.cons v vt=>by
  obtain⟨fs,a,b,c⟩:=ZeI I t vt;obtain⟨p,q,rfl,hp,hq⟩:=ZdS r;obtain⟨tk,o,n,e1,e2,e3⟩:=Zjx I hp;cases v;refine⟨.int y.1 tk::fs,.cons e1 e2 e3 rfl a,by rw[List.length_cons,List.length_cons,b],fun w hw=> ?_⟩;rcases List.mem_cons.mp hw with rfl|hw
  ·exact⟨_,_,rfl⟩
  ·exact c w hw
theorem Zfi:∀{xs:List V} {vs:List Value} (_:ZJ xs vs) (i:Nat),i<vs.length->ZC (xs.getD i .non) (vs.getD i Value.none)
 |_,_,.nil,i,h=>absurd h (Nat.not_lt_zero _)
 |_,_,.cons v _,0,_=>v
 |_,_,.cons _ t,i+1,h=>Zfi t i (by simpa using h)
theorem ZkM{xs:List V}{vs:List Value}(r:ZJ xs vs){p:Array Nat}(pl:Pl vs.length p):ZJ (p.toList.map fun i=>xs.getD i .non) (p.toList.map fun i=>vs.getD i Value.none):=by
 have mem:∀i∈p.toList,i<vs.length:=fun i hi=>by
  have:=(Array.perm_iff_toList_perm.mp pl.perm).mem_iff (a:=i)
  simpa using this.mp hi
 have go:∀l:List Nat,(∀i∈l,i<vs.length)->ZJ (l.map fun i=>xs.getD i .non) (l.map fun i=>vs.getD i Value.none):=by
  intro l
  induction l with
  |nil=>exact fun _=> .nil
  |cons i l ih=>exact fun h=> .cons (Zfi r i (h i (.head _))) (ih fun j hj=>h j (.tail _ hj))
 exact go _ mem
theorem ZkN{α β:Type}{xs:List α}{ks:List β}{a:α}{b:β}(hl:xs.length=ks.length){p:Array Nat}(pl:Pl xs.length p):(p.toList.map fun i=>(xs.getD i a,ks.getD i b)).Perm (xs.zip ks):=by
 have e:(List.range xs.length).map (fun i=>(xs.getD i a,ks.getD i b))=xs.zip ks:=by
  apply List.ext_getElem
  ·simp[hl]
  ·intro i h1 h2;have h3:i<xs.length:=by simpa using h1
   have h4:i<ks.length:=by omega
   simp[h3,h4]
 rw[<-e];refine List.Perm.map _ ?_
 simpa using Array.perm_iff_toList_perm.mp pl.perm
theorem ZhP{α β:Type}{lt:β->β->Bool}{f:Nat->α}{kk:Nat->β}{n:Nat}{p:Array Nat}(so:Zha (fun i j=>lt (kk i) (kk j)) p n)(pl:Pl n p):(p.toList.map fun i=>(f i,kk i)).Pairwise (fun a b=>lt b.2 a.2=false):=by
 rw[List.pairwise_map,List.pairwise_iff_getElem];intro i j hi hj hij;have sz:p.toList.length=n:=by rw[Array.length_toList,pl.size]
 have h:=so i j (Nat.le_of_lt hij) (by omega);have e:∀m (hm:m<p.toList.length),at_ p m=p.toList[m]:=fun m hm=>by
  have hm':m<p.size:=by simpa using hm
  simp[at_,Array.getD,hm']
 rw[e i hi,e j hj] at h
 exact h
theorem Zfj{E:Value->Shared->Prop}{l:Addr}{xs:List V}{Q:VK}(F:Yq X.prog X.w X.K X.mg X.base CX0 k g fd [p] sp)(hb:Ja X.K fd [p] [])(hr:YK (k+2) X.A)(I:L2.Inv X pins σ H s)(hq:SqL X.K H l xs)(h64:xs.length<128)
  (h:kys sp xs [] H fun kx H2=>∃kk:List Ky,Paired (fun y x=>Rep X.K H2 (kyD y) x) kk kx/\∀zs:List (V×Ky),zs.Perm (xs.zip kk)->zs.Pairwise (fun a b=>Zck b.2 a.2=false)->∀D,H2 D=none->Q (.ref D) (upd H2 D (.lst (zs.map (·.1))))):
  wpAny (model X.prog X.w) X.A (call (.builtin "sorted") [.ref l] [(Str.ofString "key",.ref g)]) (EP X pins σ Q) E s:=by
 obtain⟨vs,rx,pl,_⟩:=I.list hq;have hn:vs.length<128:=by rw[<-rx.length];exact h64
 have hz:vs.length<=sizeLine:=by rw[sizeLine_eq];omega
 refine call_function_entry_kw kind_sorted plain_sorted entry_sorted (ksk_s1 _ _) ?_;unfold Builtin.«sorted»;refine wpAny_bind (m:=checkCount "sorted" 1 1 _) (wpAny_pure (wpAny_bind (collect_list pl.isList (wpAny_bind (wpAny_newList ?_ hz)) hz)));have sz1:((s.heap.push (seqObj "list" #[] 0)).update s.heap.objs.size (Obj.mapSeq (· ++vs.toArray))).objs.size=s.heap.objs.size+1:=by rw[Heap.size_update,size_push']
 generalize hh1:(s.heap.push (seqObj "list" #[] 0)).update s.heap.objs.size (Obj.mapSeq (· ++vs.toArray))=h1 at sz1
 have k1:∀b u,s.heap.get? b=some u->h1.get? b=some u:=fun b u e=>by
  have hlt:=Heap.lt_size e;rw[<-hh1];exact Yl b u (Nat.ne_of_lt hlt) (Heap.get?_push_of_some _ e)
 generalize hD:h1.objs.size=D at sz1
 have oD:(h1.push (seqObj "list" vs.toArray 0)).get? D=some (seqObj "list" vs.toArray 0):=by rw[<-hD];exact Heap.get?_push_size _ rfl
 refine wpAny_bind (wpAny_holding (wpAny_call_entry_kw slot_list_sort ⟨_,oD,rfl⟩ entry_list_sort ?body (ksk_l1 _ _)));show wpAny (model X.prog X.w) X.A.in1.in1 (Builtin.«list.sort» ⟨[.ref D],[(Str.ofString "key",.ref g)]⟩) _ _ _;rw[ksk_t1];unfold ksk_tree;obtain⟨e1,oD1⟩:∃e1,((h1.push (seqObj "list" vs.toArray 0)).update D (Obj.mapSeq fun _=>(#[]:Array Value))).get? D=some (seqObj "list" #[] e1):=⟨_,get?_update_seq oD fun _=> #[]⟩
 have za:vs.toArray.size<=sizeLine:=by rw[List.size_toArray];exact hz
 refine wpAny_bind (listItems_at oD rfl (wpAny_bind (listUpdate_at oD rfl (wpAny_bind (seqEpoch_at oD1 rfl (wpAny_bind (wpAny_newTuple (wpAny_bind (wpAny_newList (wpAny_holding ?_) (Nat.zero_le _))) hz)))) za (Nat.zero_le _))));have sz2:(((h1.push (seqObj "list" vs.toArray 0)).update D (Obj.mapSeq fun _=>(#[]:Array Value))).push (seqObj "tuple" vs.toArray 0)).objs.size=D+2:=by rw[size_push',Heap.size_update,size_push',hD]
 have k2:∀b u,s.heap.get? b=some u->((((h1.push (seqObj "list" vs.toArray 0)).update D (Obj.mapSeq fun _=>(#[]:Array Value))).push (seqObj "tuple" vs.toArray 0)).push (seqObj "list" #[] 0)).get? b=some u:=fun b u e=>by
  have hlt:=Heap.lt_size e;exact Heap.get?_push_of_some _ (Heap.get?_push_of_some _ (Yl b u (Nat.ne_of_lt (Nat.lt_of_lt_of_le hlt (by omega))) (Heap.get?_push_of_some _ (k1 b u e))))
 have I0:L2.Inv X pins σ H {s with heap:=(((h1.push (seqObj "list" vs.toArray 0)).update D (Obj.mapSeq fun _=>(#[]:Array Value))).push (seqObj "tuple" vs.toArray 0)).push (seqObj "list" #[] 0)}:=I.kept (t':=s.toks) k2;have oK:((((h1.push (seqObj "list" vs.toArray 0)).update D (Obj.mapSeq fun _=>(#[]:Array Value))).push (seqObj "tuple" vs.toArray 0)).push (seqObj "list" #[] 0)).get? (D+2)=some (seqObj "list" #[] 0):=by rw[<-sz2];exact Heap.get?_push_size _ rfl
 have oD2:((((h1.push (seqObj "list" vs.toArray 0)).update D (Obj.mapSeq fun _=>(#[]:Array Value))).push (seqObj "tuple" vs.toArray 0)).push (seqObj "list" #[] 0)).get? D=some (seqObj "list" #[] e1):=Heap.get?_push_of_some _ (Heap.get?_push_of_some _ oD1);have fresh:∀a,s.heap.objs.size<=a->H a=none/\a≠X.env.locals/\a∉X.fs:=fun a ha=>⟨I.hok.fresh ha,fun z=>absurd (z▸ha) (Nat.not_le.mpr I.lt),I.nofs ha⟩
 have lK:ZdT X (D+2):=Zdv I (by omega);have lD:ZdT X D:=Zdv I (by omega);have old:∀p∈pins,p.1<s.heap.objs.size:=fun p hp=>Heap.lt_size (I.pin p (List.mem_append_right _ hp)).1;have I2:L2.Inv X ((D+2,seqObj "list" #[] 0)::(D,seqObj "list" #[] e1)::pins) σ H {s with heap:=(((h1.push (seqObj "list" vs.toArray 0)).update D (Obj.mapSeq fun _=>(#[]:Array Value))).push (seqObj "tuple" vs.toArray 0)).push (seqObj "list" #[] 0)}:=I0.pins_of fun p hp=>by
  rcases List.mem_cons.mp hp with rfl|hp
  ·exact⟨oK,(fresh _ (by omega)).1,(fresh _ (by omega)).2.1,(fresh _ (by omega)).2.2,Yz⟩
  ·obtain rfl|hp:=List.mem_cons.mp hp
   ·exact⟨oD2,(fresh _ (by omega)).1,(fresh _ (by omega)).2.1,(fresh _ (by omega)).2.2,Yz⟩
   ·exact I0.pin p (List.mem_append_right _ hp)
 dsimp only
 rw[sz2];have nD:D≠D+2:=Nat.ne_of_lt (Nat.lt_add_of_pos_right (by decide));refine Zhg F hb hr lK nD (fun p hp=>Nat.ne_of_lt (Nat.lt_of_lt_of_le (old p hp) (by omega))) I2 rx hn h fun ks kx e H3 s3 I3 rk lk ⟨kk,rp,q⟩=> ?_;have u5:X.A.in1.in1.units+5<cLine:=by
  have:=hr.units;show X.A.units+1+1+5<cLine;omega
 have lkk:kk.length=vs.length:=by rw[<-lk,<-rk.length];exact Paired.length rp
 have pk:=(I3.pin (D+2,seqObj "list" (List.toArray ks) e) (List.mem_append_right _ (.head _))).1;have pD:=I3.pin (D,seqObj "list" #[] e1) (List.mem_append_right _ (.tail _ (.head _)));have at1:∀i,i<vs.length->∃x v,ZC x (ks.getD i Value.none)/\Rep X.K H3 (kyD (kk.getD i (0,[]))) x/\v=ks.getD i Value.none:=fun i hi=>by
  obtain⟨x,r1,r2⟩:=ZhO rp rk i (by omega);exact⟨x,_,r2,r1,rfl⟩
 refine Zit (ans:=fun i j=>Zck (kk.getD i (0,[])) (kk.getD j (0,[]))) (Zcl.ord _) lk hn (fun h2=> ?_) fun st dn=> ?_
 ·obtain⟨fs,t1,t2,t3⟩:=ZeI I3 rp rk;refine kat_kind (T:=.type "int") t1 (by omega) (fun v hv=> ?_) rfl ⟨rfl,fun i j hi hj C hC=> ?_⟩
  ·obtain⟨n,t,rfl⟩:=t3 v hv;exact Looks.of_pure rfl
  ·obtain⟨x,_,r1,r2,_⟩:=at1 i hi;obtain⟨y,_,r3,r4,_⟩:=at1 j hj;exact ZlR I3 r2 r4 r1 r3 u5 hC
 ·obtain⟨⟨pp,pl2,so,ho⟩,hf⟩:=dn;have lout:(pp.toList.map fun i=>vs.getD i Value.none).length=vs.length:=by rw[List.length_map,Array.length_toList,pl2.size]
  refine Zhf pk pD.1 nD ho (by omega) (by omega) hf ⟨_,rfl,wpAny_pure ⟨_,rfl, ?_⟩⟩;have J1:=Zby I3 lK (fun p hp=> ?n1) Yl (get?_update_seq pk fun _=> #[]) Yz;have J2:L2.Inv X ((D,seqObj "list" #[] e1)::pins) σ H3 {s3 with heap:=s3.heap.update (D+2) (Obj.mapSeq fun _=> #[])}:=J1.pins_of fun p hp=>J1.pin p (List.mem_append_right _ (.tail _ hp));have pD2:=(J2.pin (D,seqObj "list" #[] e1) (List.mem_append_right _ (.head _))).1
  have up:=get?_update_seq pD2 fun _=>List.toArray (pp.toList.map fun i=>vs.getD i Value.none);have J3:=Zby J2 lD (fun p hp=>Nat.ne_of_lt (Nat.lt_of_lt_of_le (old p hp) (by omega))) Yl up Yz;have J4:L2.Inv X pins σ H3 {s3 with heap:=(s3.heap.update (D+2) (Obj.mapSeq fun _=> #[])).update D (Obj.mapSeq fun _=>List.toArray (pp.toList.map fun i=>vs.getD i Value.none))}:=J3.pins_of fun p hp=>J3.pin p (List.mem_append_right _ (.tail _ hp))
  have rv:=ZkM rx pl2;have J5:=ZaD (n:=D) (q:=.lst (pp.toList.map fun i=>xs.getD i .non)) I J4 pD.2.1 (by
   cases z:s.heap.get? D with
   |none=>rfl
   |some o=>exact absurd (Heap.lt_size z) (Nat.not_lt.mpr (by omega))) ⟨by rw[rv.length,lout];exact hz,_,_,rv,up⟩
  refine⟨.ref D,_,J5,rfl, ?_⟩;have fin:=q (pp.toList.map fun i=>(xs.getD i .non,kk.getD i (0,[]))) (ZkN (by rw[rx.length,lkk]) (by rw[rx.length];exact pl2)) (ZhP so pl2) D pD.2.1
  rw[List.map_map] at fin
  exact fin
  case n1=>
   rcases List.mem_cons.mp hp with rfl|hp
   ·exact nD
   ·exact Nat.ne_of_lt (Nat.lt_of_lt_of_le (old p hp) (by omega))
end
end L3
namespace L3
open PySem PySem.Spec PyProof.Rows L2 PySem.W PySem.Calls
section
variable {prog:Program} {w:World} {A:Around} {E:Value->Shared->Prop} {s:Shared} {vs:List Value} {ans:Nat->Nat->Bool}
abbrev ZaH(h:Heap)(D:Addr)(vs:List Value):Heap:=((h.update D (Obj.mapSeq fun _=>(#[]:Array Value))).push (seqObj "tuple" vs.toArray 0)).push (seqObj "list" #[] 0)
theorem Zhh{D:Addr}{n:Nat}{P:PySem.Fin->Shared->Prop}(ho:s.heap.get? D=some (seqObj "list" vs.toArray n))(h64:vs.length<128)(o:Ord ans)
  (hk:2<=vs.length->wpAny (model prog w) A (keyKind' vs.toArray) (fun κ s'=>s'={s with heap:=ZaH s.heap D vs}/\Zfh prog w A κ vs vs.length ans {s with heap:=ZaH s.heap D vs}) (fun _ _=>False) {s with heap:=ZaH s.heap D vs})
  (q:∀p:Array Nat,Pl vs.length p->Zha ans p vs.length->P (.done (.ret .none)) {s with heap:=sortedHeap s.heap D vs (List.toArray (p.toList.map fun i=>vs.getD i Value.none))}):wpAny (model prog w) A (Builtin.«list.sort» ⟨[.ref D],[]⟩) P E s:=by
 have hz:vs.length<=sizeLine:=by rw[sizeLine_eq];omega
 have za:vs.toArray.size<=sizeLine:=by rw[List.size_toArray];exact hz
 obtain⟨e1,o1⟩:∃e1,(s.heap.update D (Obj.mapSeq fun _=>(#[]:Array Value))).get? D=some (seqObj "list" #[] e1):=⟨_,get?_update_seq ho fun _=> #[]⟩
 have o2:(ZaH s.heap D vs).get? D=some (seqObj "list" #[] e1):=Heap.get?_push_of_some _ (Heap.get?_push_of_some _ o1);rw[list_sort_plain];refine wpAny_bind (listItems_at ho rfl (wpAny_bind (listUpdate_at ho rfl (wpAny_bind (seqEpoch_at o1 rfl (wpAny_bind (wpAny_newTuple (wpAny_bind (wpAny_newList (wpAny_holding ?_) (Nat.zero_le _))) hz)))) za (Nat.zero_le _))));have zp:∀p:Array Nat,Pl vs.length p->(List.toArray (p.toList.map fun i=>vs.getD i Value.none)).size<=sizeLine+1:=fun p pl=>by rw[List.size_toArray,List.length_map,Array.length_toList,pl.size,sizeLine_eq];omega
 dsimp only
 by_cases h2:vs.length<2
 ·have h3:vs.toArray.size<2:=by rw[List.size_toArray];exact h2
  rw[if_pos h3,if_pos h3];refine wpAny_bind (wpAny_pure ?_);refine wpAny_bind (wpAny_pure ?_);obtain⟨⟨p,pl,so,hout⟩,_⟩:=Zgg (ks:=vs) o rfl h2 general'
  try dsimp only
  rw[hout];refine wpAny_bind (seqEpoch_at o2 rfl (wpAny_bind (listUpdate_at o2 rfl ?_ (Nat.zero_le _) (zp p pl))));simp only [reduceIte,bne_self_eq_false,Bool.false_eq_true];exact wpAny_pure (q p pl so)
 ·have h3:¬vs.toArray.size<2:=by rw[List.size_toArray];exact h2
  rw[if_neg h3,if_neg h3];refine wpAny_bind (wpAny_mono (hk (by omega)) (fun κ s0 z=> ?_) fun _ _ x=>x.elim);obtain⟨rfl,ak⟩:=z;refine wpAny_bind (wpAny_mono (ZeG (Q:=fun st s'=>ZkL vs vs ans st/\s'={s with heap:=ZaH s.heap D vs}) o rfl (by omega) h64 ak fun st dn=>⟨dn,rfl⟩) (fun r s' z=> ?_) fun _ _ x=>x);obtain⟨⟨⟩,st⟩:=r;obtain⟨⟨⟨p,pl,so,hout⟩,hf⟩,rfl⟩:=z
  try dsimp only
  rw[hout,hf];refine wpAny_bind (seqEpoch_at o2 rfl (wpAny_bind (listUpdate_at o2 rfl ?_ (Nat.zero_le _) (zp p pl))));simp only [reduceIte,bne_self_eq_false,Bool.false_eq_true];exact wpAny_pure (q p pl so)
end
section
variable {X:Cx} {pins:List (Addr×Obj)} {σ:L2.St} {H:Hp} {s:Shared}
theorem Zgh{h:Heap}{D:Addr}{vs:List Value}:∀b u,b≠D->h.get? b=some u->(ZaH h D vs).get? b=some u:=fun b u n e=>Heap.get?_push_of_some _ (Heap.get?_push_of_some _ (Yl b u n e))
theorem ZeJ{s':Shared}(I0:L2.Inv X pins σ H s):∀(l:List (Addr×List V)) (H1:Hp),L2.Inv X pins σ H1 s'->(l.map (·.1)).Nodup->(∀a∈l,H1 a.1=none/\s.heap.get? a.1=none/\a.2.length<=sizeLine/\∃its,ZJ a.2 its/\IsTup s'.heap a.1 its.toArray)->
  ∃H2,L2.Inv X pins σ H2 s'/\Zx H1 H2/\(∀a∈l,H2 a.1=some (.tup a.2))/\∀b,b∉l.map (·.1)->H2 b=H1 b
 |[],H1,I,_,_=>⟨H1,I,Zx.refl H1,(fun a h=>nomatch h),fun _ _=>rfl⟩
 |a::l,H1,I,nd,h=>by
  rw[List.map_cons,List.nodup_cons] at nd
  obtain⟨n1,n2,z,its,rv,tp⟩:=h a (List.mem_cons_self ..);have I1:=ZaD (n:=a.1) (q:=.tup a.2) I0 I n1 n2 ⟨z,its,rv,tp⟩;have nm:∀b∈l,b.1≠a.1:=fun b hb e=>nd.1 (List.mem_map.mpr ⟨b,hb,e⟩);obtain⟨H2,I2,s2,al,ot⟩:=ZeJ I0 l _ I1 nd.2 fun b hb=>by
   obtain⟨m1,m2,m3⟩:=h b (List.mem_cons_of_mem _ hb);exact⟨by rw[Zf (nm b hb)];exact m1,m2,m3⟩
  refine⟨H2,I2,fun b u e=>s2 b u (by rw[Zf (Zn e n1)];exact e),fun b hb=> ?_,fun b hb=> ?_⟩
  ·obtain rfl|hb:=List.mem_cons.mp hb
   ·exact s2 _ _ Zc
   ·exact al b hb
  ·rw[List.map_cons] at hb
   rw[ot b fun z=>hb (List.mem_cons_of_mem _ z),Zf fun e=>hb (by rw[e];exact List.mem_cons_self ..)]
end
end L3
namespace L3
open PySem PySem.Spec PyProof.Rows L2 PySem.W PySem.Calls
theorem ZkO{prog:Program}{w:World}{A:Around}{s:Shared}{x y:Lf}{a b:Addr}{t t' u u':Tok}(ha:s.heap.IsTuple a #[.str x.1 t,.int x.2 u])(hb:s.heap.IsTuple b #[.str y.1 t',.int y.2 u']){C:Bool->Shared->Prop}(h:C (Zb8 x y) s):
  wpAny (model prog w) A (keyLt' (tuples' true) (.ref a) (.ref b)) C (fun _ _=>False) s:=by
 obtain⟨o,e1,c1,n,e3⟩:=ha;obtain⟨o',f1,c2,n',f3⟩:=hb;have hk:Zb8 x y=if x.1=y.1 then JG x.2 y.2 else Zb7 x.1 y.1:=rfl;refine kat_lt e1 e3 f1 f3 ?_;show KatLex prog w A true false C [(.str x.1 t,.str y.1 t'),(.int x.2 u,.int y.2 u')] 0 s;refine kat_cons (wpAny_eqBool_str ?_)
 by_cases z:x.1=y.1
 ·rw[if_pos z] at hk
  rw[decide_eq_true z];refine kat_yes (kat_cons (wpAny_eqBool_int ?_))
  by_cases z2:x.2=y.2
  ·rw[z2,beq_self_eq_true];refine kat_yes (kat_nil ?_);rw[hk,z2,Zbu.irr] at h
   exact h
  ·rw[beq_false_of_ne z2];refine kat_no ?_;show wpAny (model prog w) A (oneLt' false (.int x.2 u) (.int y.2 u')) C (fun _ _=>False) s;refine kat_one _ _ (PyProof.Rows.lt_int ?_);rw[hk] at h
   exact h
 ·rw[if_neg z] at hk
  rw[decide_eq_false z];refine kat_no ?_;show wpAny (model prog w) A (oneLt' true (.str x.1 t) (.str y.1 t')) C (fun _ _=>False) s;refine oneLt_str ?_;rw[hk] at h
  exact h
def Jv(h:Heap):List Addr->List Lf->Prop:=Paired fun a x=>∃t u,h.IsTuple a #[.str x.1 t,.int x.2 u]
theorem Zgi{h:Heap}:∀{as:List Addr} {c:List Lf},as.length=c.length->(∀(j:Nat) (a:Addr),as[j]? =some a->∃(x:Lf) (t u:Tok),c[j]? =some x/\h.IsTuple a #[.str x.1 t,.int x.2 u])->Jv h as c
 |[],[],_,_=> .nil
 |[],_::_,e,_=>nomatch e
 |_::_,[],e,_=>nomatch e
 |a::as,x::c,e,k=>by
  obtain⟨y,t,u,e1,q⟩:=k 0 a rfl;cases e1;exact .cons ⟨t,u,q⟩ (Zgi (by simpa using e) fun j b f=>k (j+1) b (by simpa using f))
theorem Jv.at{h:Heap}:∀{as:List Addr} {c:List Lf},Jv h as c->∀i,i<as.length->∃t u,h.IsTuple (as.getD i 0) #[.str (c.getD i (Str.empty,0)).1 t,.int (c.getD i (Str.empty,0)).2 u]
 |_,_,.nil,i,hi=>absurd hi (Nat.not_lt_zero _)
 |_,_,.cons r _,0,_=>r
 |_,_,.cons _ t,i+1,hi=>Jv.at t i (by simpa using hi)
theorem Jv.mono{h h':Heap}:∀{as:List Addr} {c:List Lf},Jv h as c->(∀a∈as,∀o,h.get? a=some o->h'.get? a=some o)->Jv h' as c
 |_,_,.nil,_=> .nil
 |_,_,.cons ⟨t,u,o,e,r⟩ k,f=> .cons ⟨t,u,o,f _ (List.mem_cons_self ..) o e,r⟩ (Jv.mono k fun a ha=>f a (List.mem_cons_of_mem _ ha))
theorem Jv.tups{h:Heap}:∀{as:List Addr} {c:List Lf},Jv h as c->∃fs,KatTups h (as.map Value.ref) fs/\fs.length=as.length/\∀v∈fs,∃x t,v=Value.str x t
 |_,_,.nil=>⟨[],.nil,rfl,fun v hv=>nomatch hv⟩
 |_,_,.cons ⟨t,u,o,e,c,n,d⟩ k=>by
  obtain⟨fs,a,b,z⟩:=Jv.tups k;refine⟨_::fs,.cons e c d rfl a,by rw[List.length_cons,List.length_cons,b],fun w hw=> ?_⟩;rcases List.mem_cons.mp hw with rfl|hw
  ·exact⟨_,_,rfl⟩
  ·exact z w hw
theorem Jv.each{h:Heap}:∀{as:List Addr} {c:List Lf},Jv h as c->∀p∈(as.zip c).map (fun p=>(p.1,[V.str p.2.1,V.int p.2.2])),p.1∈as/\p.2.length<=sizeLine/\∃its,ZJ p.2 its/\IsTup h p.1 its.toArray
 |_,_,.nil,p,hp=>by cases hp
 |_,_,.cons ⟨t,u,q⟩ k,p,hp=>by
  rw[List.zip_cons_cons,List.map_cons] at hp
  rcases List.mem_cons.mp hp with rfl|hp
  ·exact⟨List.mem_cons_self ..,by show 2<=sizeLine;rw[sizeLine_eq];decide,[_,_],.cons ⟨t,rfl⟩ (.cons ⟨u,rfl⟩ .nil),q⟩
  ·obtain⟨a1,a2⟩:=Jv.each k p hp;exact⟨List.mem_cons_of_mem _ a1,a2⟩
section
variable {X:Cx}
theorem Zfk(hc:X.calm=true):JF X (.builtin "sorted") (fun xs H Q=>∃(v a:Addr) (c:List Lf),xs=[.ref v]/\H v=some (XC v a)/\H a=some (.dK (c.map fun p=>(Sum.inr p.1,V.int p.2)))/\c.length<128/\
  ∀zs:List Lf,zs.Perm c->zs.Pairwise (fun a b=>Zb8 b a=false)->∀p H',H p=none->Zx H H'->Rep X.K H' (Zdj zs) (.ref p)->Q (.ref p) H'):=by
 intro pins s σ H xs us Q I r h;obtain⟨v,a,c,rfl,hv,hq,h64,q⟩:=h;obtain⟨u,rfl,rx⟩:=Zaj r;cases rx;have vw:s.heap.IsItemsView v a:=(I.hok v _ hv).1;obtain⟨z1,z2,kvs,z3,z4⟩:=I.hok a _ hq;obtain⟨ep,hat⟩:=z4.dictAt;have el:kvs.length=c.length:=by have:=Paired.length z3;rw[List.length_map] at this;exact this.symm
 have hz:kvs.length<=sizeLine:=by rw[sizeLine_eq,el];omega
 refine call_function_entry kind_sorted plain_sorted entry_sorted (args_sorted1 (.ref v)) ?_;unfold Builtin.«sorted»;refine wpAny_bind (m:=checkCount "sorted" 1 1 _) (wpAny_pure (wpAny_bind ?_));refine kdx_collect (A:=X.A.in1) (knd:=Yc X.prog X.w) (kvs:=kvs) (ep:=ep) (I.ok.hd hc) vw hat hz fun h' tk as hk hl hG=> ?_;have la:as.length=c.length:=hl.trans el;have lin:Jv h' as c:=by
  refine Zgi la fun j b e=> ?_;obtain⟨key,k,x,e1,e2,e3⟩:=hG.pairs j b e;have hlt:j<c.length:=by
   have:=(List.getElem?_eq_some_iff.mp e).1;omega
  obtain⟨u2,f3,rv⟩:=ZhI z3 (i:=j) (p:=(Sum.inr c[j].1,V.int c[j].2)) (by rw[List.getElem?_map,List.getElem?_eq_getElem hlt];rfl)
  rw[e1] at f3
  have f4:=Option.some.inj f3;have f5:k=Sum.inr c[j].1:=congrArg Prod.fst f4;have f6:x=u2:=congrArg Prod.snd f4;subst f5 f6;obtain⟨t,rfl⟩:∃t,key=Value.str c[j].1 t:=Zh0 (k:=Sum.inr c[j].1) e2;obtain⟨t2,rfl⟩:∃t,x=Value.int c[j].2 t:=rv;exact⟨c[j],t,t2,List.getElem?_eq_getElem hlt,_,e3,rfl,0,rfl⟩
 have lv:(as.map Value.ref).length=c.length:=by rw[List.length_map,la]
 refine wpAny_bind (wpAny_newList ?_ (by rw[lv,sizeLine_eq];omega))
 generalize hD:h'.objs.size=D;have oD:(h'.push (seqObj "list" (as.map Value.ref).toArray 0)).get? D=some (seqObj "list" (as.map Value.ref).toArray 0):=by rw[<-hD];exact Heap.get?_push_size _ rfl
 have old:∀b o,s.heap.get? b=some o->b≠D:=fun b o e=>by rw[<-hD];exact Nat.ne_of_lt (Heap.lt_size (hk b o e))
 have asD:∀b∈as,b≠D:=fun b hb=>by rw[<-hD];exact Nat.ne_of_lt (hG.there hb)
 have lin2:Jv (ZaH (h'.push (seqObj "list" (as.map Value.ref).toArray 0)) D (as.map Value.ref)) as c:=lin.mono fun b hb o e=>Zgh b o (asD b hb) (Heap.get?_push_of_some _ e);refine wpAny_bind (wpAny_holding (wpAny_call_entry slot_list_sort ⟨_,oD,rfl⟩ entry_list_sort ?body (args_list_sort _)));refine Zhh (ans:=fun i j=>Zb8 (c.getD i (Str.empty,0)) (c.getD j (Str.empty,0))) oD (by omega) (Xr.ord _) (fun h2=> ?_) fun p pl so=>⟨_,rfl,wpAny_pure ⟨_,rfl, ?_⟩⟩
 ·obtain⟨fs,t1,t2,t3⟩:=lin2.tups;refine kat_kind (T:=.type "str") t1 (by omega) (fun v hv=> ?_) rfl ⟨rfl,fun i j hi hj C hC=> ?_⟩
  ·obtain⟨n,t,rfl⟩:=t3 v hv;exact Looks.of_pure rfl
  ·have hi:i<as.length:=by omega
   have hj:j<as.length:=by omega
   obtain⟨t,u,q1⟩:=lin2.at i hi
   obtain⟨t',u',q2⟩:=lin2.at j hj
   have ei:(as.map Value.ref).getD i Value.none=.ref (as.getD i 0):=by simp[hi]
   have ej:(as.map Value.ref).getD j Value.none=.ref (as.getD j 0):=by simp[hj]
   rw[ei,ej];exact ZkO q1 q2 hC
 ·rw[lv] at pl so
  have mem:∀i∈p.toList,i<c.length:=fun i hi=>by
   have:=(Array.perm_iff_toList_perm.mp pl.perm).mem_iff (a:=i)
   simpa using this.mp hi
  have eo:(p.toList.map fun i=>(as.map Value.ref).getD i Value.none)=p.toList.map fun i=>Value.ref (as.getD i 0):=List.map_congr_left fun i hi=>by
   have:=mem i hi;have h3:i<as.length:=by omega
   simp[h3]
  rw[eo];obtain⟨e,he⟩:=sortedHeap_at (h:=h'.push (seqObj "list" (as.map Value.ref).toArray 0)) (out:=List.toArray (p.toList.map fun i=>Value.ref (as.getD i 0))) oD;have keepD:∀b o,b≠D->h'.get? b=some o->(sortedHeap (h'.push (seqObj "list" (as.map Value.ref).toArray 0)) D (as.map Value.ref) (List.toArray (p.toList.map fun i=>Value.ref (as.getD i 0)))).get? b=some o:=fun b o n z=>Yl b o n (Zgh b o n (Heap.get?_push_of_some _ z))
  have I3:L2.Inv X pins σ H {s with heap:=sortedHeap (h'.push (seqObj "list" (as.map Value.ref).toArray 0)) D (as.map Value.ref) (List.toArray (p.toList.map fun i=>Value.ref (as.getD i 0))),toks:=tk}:=I.kept fun b o z=>keepD b o (old b o z) (hk b o z);have lin3:=lin.mono fun b hb o z=>keepD b o (asD b hb) z;have fresh:∀b,s.heap.objs.size<=b->s.heap.get? b=none:=fun b hb=>by
   cases z:s.heap.get? b with
   |none=>rfl
   |some o=>exact absurd (Heap.lt_size z) (Nat.not_lt.mpr hb)
  have ea:((as.zip c).map fun p=>(p.1,[V.str p.2.1,V.int p.2.2])).map (·.1)=as:=by
   rw[List.map_map];exact List.map_fst_zip (by omega)
  obtain⟨H2,I4,s2,al,ot⟩:=ZeJ (X:=X) (σ:=σ) I ((as.zip c).map fun p=>(p.1,[V.str p.2.1,V.int p.2.2])) H I3 (by rw[ea];exact hG.rise.imp fun z=>Nat.ne_of_lt z) fun b hb=>by
   obtain⟨a1,a2⟩:=lin3.each b hb;have:=hG.above b.1 a1;exact⟨I.hok.fresh (Nat.le_of_lt this),fresh _ (Nat.le_of_lt this),a2⟩
  have noD:s.heap.get? D=none:=by
   cases z:s.heap.get? D with
   |none=>rfl
   |some o=>exact absurd rfl (old D o z)
  have hnD:H D=none:=by
   cases z:H D with
   |none=>rfl
   |some o=>
    obtain⟨ob,e2⟩:=Zip (I.hok D o z);rw[noD] at e2
    cases e2
  have fD:H2 D=none:=by
   rw[ot D (by rw[ea];exact fun z=>asD D z rfl)]
   exact hnD
  have rv:ZJ (p.toList.map fun i=>V.ref (as.getD i 0)) (p.toList.map fun i=>Value.ref (as.getD i 0)):=by
   generalize p.toList=l
   induction l with
   |nil=>exact .nil
   |cons i l ih=>exact .cons rfl ih
  have J:=ZaD (n:=D) (q:=.lst (p.toList.map fun i=>V.ref (as.getD i 0))) I I4 fD noD ⟨by rw[List.length_map,Array.length_toList,pl.size,sizeLine_eq];omega,_,_,rv,he⟩
  refine⟨.ref D,_,J,rfl,q (p.toList.map fun i=>c.getD i (Str.empty,0)) ?_ ?_ D _ hnD (fun b o z=>by rw[Zf (Zn (s2 b o z) fD)];exact s2 b o z) (.lst (SqL.of Zc) ?_)⟩
  ·have e2:(List.range c.length).map (fun i=>c.getD i (Str.empty,0))=c:=by
    apply List.ext_getElem
    ·simp
    ·intro i h1 h2;simp[h2]
   have pp:=List.Perm.map (fun i=>c.getD i (Str.empty,0)) (Array.perm_iff_toList_perm.mp pl.perm);simp only [List.toList_toArray] at pp
   rw[e2] at pp
   exact pp
  ·have:=ZhP (α:=Unit) (lt:=Zb8) (f:=fun _=>()) (kk:=fun i=>c.getD i (Str.empty,0)) so pl;rw[List.pairwise_map] at this⊢
   exact this
  ·have each:∀i,i<c.length->Rep X.K (upd H2 D (.lst (p.toList.map fun i=>V.ref (as.getD i 0)))) (lfD (c.getD i (Str.empty,0))) (.ref (as.getD i 0)):=fun i hi=>by
    have h3:i<as.length:=by omega
    have m:(as[i],[V.str c[i].1,V.int c[i].2])∈(as.zip c).map fun p=>(p.1,[V.str p.2.1,V.int p.2.2]):=List.mem_map.mpr ⟨(as[i],c[i]),List.mem_iff_getElem.mpr ⟨i,by rw[List.length_zip];omega,by simp⟩,rfl⟩
    have e1:=al _ m;have e2:as.getD i 0=as[i]:=by simp[h3]
    have e3:c.getD i (Str.empty,0)=c[i]:=by simp[hi]
    rw[e2,e3];exact .tup (SqT.of (by rw[Zf (asD _ (List.getElem_mem h3))];exact e1)) (.cons (.flat rfl) (.cons (.flat rfl) .nil))
   rw[List.map_map];clear rv J I4 I3 eo he keepD lin3 pl so al ot;generalize upd H2 D _=HH at each
   generalize p.toList=l at mem
   induction l with
   |nil=>exact .nil
   |cons i l ih=>exact .cons (each i (mem i (List.mem_cons_self ..))) (ih fun j hj=>mem j (List.mem_cons_of_mem _ hj))
theorem Zeh{K:PySem.W.Frag}(hc:X.calm=true)(eK:X.K=K):JF X (.builtin "sorted") (fun xs H Q=>∃(v a:Addr) (c:List Lf),xs=[.ref v]/\H v=some (XC v a)/\H a=some (.dK (c.map fun p=>(Sum.inr p.1,V.int p.2)))/\c.length<128/\
  ∀zs:List Lf,zs.Perm c->zs.Pairwise (fun a b=>Zb8 b a=false)->∀p H',H p=none->Zx H H'->Rep K H' (Zdj zs) (.ref p)->Q (.ref p) H'):=by
 subst eK;exact Zfk hc
def ZlS(K:PySem.W.Frag)(sp:Sp)(t:TA):TE:=fun σ H Q=>t σ H fun vs H1=>∃(l:Addr) (xs:List V),vs=[.ref l]/\SqL K H1 l xs/\xs.length<128/\kys sp xs [] H1 fun kx H2=>∃kk:List Ky,Paired (fun y x=>Rep K H2 (kyD y) x) kk kx/\
 ∀zs:List (V×Ky),zs.Perm (xs.zip kk)->zs.Pairwise (fun a b=>Zck b.2 a.2=false)->∀D,H2 D=none->Q (.ref D) (upd H2 D (.lst (zs.map (·.1))))
theorem Zhi{k:Nat}{x p:Str}{sp:Sp}{e:PySem.Expr}{t:TA}{p0 p1 p2 pos:Pos}(c:Cal X.prog X.w X.K X.mg X.base CX0 k x [p] sp)(hr:YK (k+2) X.A)(hg:Gl X "sorted")(hm:X.mg "sorted"=none)(hgx:Gl X x)(ha:PA X [e] t)(hdb:(x==("__debug__":Str))=false:=by decide)
  (hs:starEach [e] X.env=[(false,eval e X.env)]:=by rfl):PE X (.Call (.Name "sorted" p0) [e] [⟨some "key",.Name x p1,p2⟩] pos) (ZlS X.K sp t):=by
 intro pins s σ H Q I h;obtain⟨f,fd,hmx,hkp,hb,F⟩:=c.ex;refine wpAny_Call_Name_kw (ZcE I hg hm Zez ?_ (by decide) (by decide));refine callWith_kw (thn (ha pos pins s σ H _ I h) fun us s1 z=> ?_) (by rw[hs];rfl) (by rw[hs];rfl)
 obtain⟨vs,H1,I1,r1,q1⟩:=z;obtain⟨l,xs,rfl,hq,h64,hk⟩:=q1;obtain⟨u,rfl,ru⟩:=Zaj r1;cases ru;refine kws_cons (Zav I1 hgx hmx (kws_nil ?_) hdb);exact Zfj F hb hr I1 hq h64 hk
end
end L3
namespace L3
open PySem PySem.Spec PyProof.Rows L2
section
variable {X:Cx}
def ZlT(H₀:Hp)(t:TS):TS:=fun D σ H=>t {nx:=fun σ' H1=>∃a H2,Zeg H₀ a H1 H2/\D.nx σ' H2,rt:=fun v H1=>∃a H2,Zeg H₀ a H1 H2/\D.rt v H2,bk:=fun σ' H1=>∃a H2,Zeg H₀ a H1 H2/\D.bk σ' H2,ct:=fun σ' H1=>∃a H2,Zeg H₀ a H1 H2/\D.ct σ' H2} σ H
theorem Zjz{st:Stmt}{t:TS}(h:PS X st t):PS X st (ZlT X.H₀ t):=fun pins s σ H D I q=>
 thn (h pins s σ H _ I q) fun f _ q1=>by
  cases f with
  |ret v=>obtain⟨x,σ1,H1,I1,r1,a,H2,⟨hf,o,u,e1,rfl⟩,q2⟩:=q1;exact⟨x,σ1,_,Xq I1 e1 hf,r1,q2⟩
  |next=>obtain⟨σ1,H1,I1,a,H2,⟨hf,o,u,e1,rfl⟩,q2⟩:=q1;exact⟨σ1,_,Xq I1 e1 hf,q2⟩
  |brk=>obtain⟨σ1,H1,I1,a,H2,⟨hf,o,u,e1,rfl⟩,q2⟩:=q1;exact⟨σ1,_,Xq I1 e1 hf,q2⟩
  |cont=>obtain⟨σ1,H1,I1,a,H2,⟨hf,o,u,e1,rfl⟩,q2⟩:=q1;exact⟨σ1,_,Xq I1 e1 hf,q2⟩
end
end L3
namespace M4
open PySem L3 M3
section
variable {α:Type} {lt:α->α->Bool}
def Asc(lt:α->α->Bool)(l:List α):Prop:=l.Pairwise fun x y=>lt y x=false
def Ziu(lt:α->α->Bool)(x:α):List α->List α
 |[]=>[x]
 |y::r=>if lt y x=true then y::Ziu lt x r else x::y::r
def Yn(lt:α->α->Bool)(l:List α):List α:=l.foldr (Ziu lt) []
theorem ZcN(x:α):∀l:List α,(Ziu lt x l).Perm (x::l)
 |[]=>List.Perm.refl _
 |y::r=>by
  unfold Ziu
  split
  ·exact((ZcN x r).cons y).trans (List.Perm.swap x y r)
  ·exact List.Perm.refl _
theorem XF:∀l:List α,(Yn lt l).Perm l
 |[]=>List.Perm.refl _
 |x::l=>(ZcN x _).trans ((XF l).cons x)
theorem Zgj(o:STO lt)(x:α):∀l:List α,Asc lt l->Asc lt (Ziu lt x l)
 |[],_=>List.pairwise_singleton _ _
 |y::r,h=>by
  unfold Ziu;have h:=List.pairwise_cons.mp h
  split
  ·rename_i e
   refine List.pairwise_cons.mpr ⟨fun z hz=> ?_,Zgj o x r h.2⟩;rcases List.mem_cons.mp ((ZcN x r).mem_iff.mp hz) with rfl|hz
   ·exact o.asym e
   ·exact h.1 z hz
  ·rename_i e
   have e:lt y x=false:=by simpa using e
   refine List.pairwise_cons.mpr ⟨fun z hz=> ?_,List.pairwise_cons.mpr h⟩;obtain rfl|hz:=List.mem_cons.mp hz
   ·exact e
   ·cases q:lt z x with
    |false=>rfl
    |true=>
     rcases o.tri x y with w|w|w
     ·exact(o.tr _ _ _ q w).symm.trans (h.1 z hz)
     ·rw[w] at q;exact q.symm.trans (h.1 z hz)
     ·exact w.symm.trans e
theorem XH(o:STO lt):∀l:List α,Asc lt (Yn lt l)
 |[]=>List.Pairwise.nil
 |x::l=>Zgj o x _ (XH o l)
theorem Zdw(o:STO lt):∀{a b:List α},a.Perm b->Asc lt a->Asc lt b->a=b
 |[],b,p,_,_=>(List.nil_perm.mp p).symm
 |x::a,[],p,_,_=>absurd (List.perm_nil.mp p) (by simp)
 |x::a,y::b,p,ha,hb=>by
  have ha:=List.pairwise_cons.mp ha;have hb:=List.pairwise_cons.mp hb;have e:x=y:=by
   have m1:x∈y::b:=p.mem_iff.mp (List.mem_cons_self ..);have m2:y∈x::a:=p.mem_iff.mpr (List.mem_cons_self ..);rcases List.mem_cons.mp m1 with z|z
   ·exact z
   ·rcases List.mem_cons.mp m2 with w|w
    ·exact w.symm
    ·rcases o.tri x y with q|q|q
     ·exact absurd q (by rw[hb.1 x z];simp)
     ·exact q
     ·exact absurd q (by rw[ha.1 y w];simp)
  subst e;rw[Zdw o ((List.perm_cons x).mp p) ha.2 hb.2]
theorem Zdx(o:STO lt){a b:List α}(p:b.Perm a)(h:Asc lt b):b=Yn lt a:=Zdw o (p.trans (XF a).symm) h (XH o a)
theorem Zbz(o:STO lt){a b:List α}(p:a.Perm b):Yn lt a=Yn lt b:=Zdx o ((XF a).trans p) (XH o a)
end
def norm(c:Tb):Tb:=Yn Zb8 c
abbrev Nd(c:Tb):Prop:=(c.map (·.1)).Nodup
theorem YF(c:Tb):(norm c).Perm c:=XF c
theorem YG(c:Tb):(norm c).length=c.length:=(YF c).length_eq
theorem ZhQ{a b:Tb}(p:a.Perm b)(h:Nd b):Nd a:=(p.map (·.1)).nodup_iff.mpr h
theorem Zdy{c:Tb}(h:Nd c):Nd (norm c):=ZhQ (YF c) h
theorem Zfl{c:Tb}{k:Str}(h:k∉c.map (·.1)):lk c k=none:=by
 induction c with
 |nil=>rfl
 |cons p r ih=>
  have e:¬p.1=k:=fun z=>h (by rw[List.map_cons,z];exact List.mem_cons_self ..)
  have h1:lk (p::r) k=lk r k:=by simp[lk,List.find?_cons,e]
  rw[h1];exact ih fun z=>h (List.mem_cons_of_mem _ z)
theorem YH{c:Tb}(h:Nd c){k:Str}{d:Int}:lk c k=some d↔(k,d)∈c:=by
 constructor
 ·intro e
  by_cases m:k∈c.map (·.1)
  ·obtain⟨p,hp,rfl⟩:=List.mem_map.mp m;have:=XR h hp;rw[e] at this
   have e2:d=p.2:=Option.some.inj this;subst e2;exact hp
  ·rw[Zfl m] at e;cases e
 ·intro m;exact XR h m
theorem ZkP{a b:Tb}(p:a.Perm b)(h:Nd b)(k:Str):lk a k=lk b k:=by
 have ha:=ZhQ p h;cases e:lk b k with
 |some d=>exact(YH ha).mpr (p.mem_iff.mpr ((YH h).mp e))
 |none=>
  cases e2:lk a k with
  |none=>rfl
  |some d=>
   have:=(YH h).mpr (p.mem_iff.mp ((YH ha).mp e2));rw[e] at this;cases this
theorem Zct{c:Tb}(h:Nd c)(k:Str):lk (norm c) k=lk c k:=ZkP (YF c) h k
theorem ZbA{c:Tb}(h:Nd c):c.Nodup:=by
 induction c with
 |nil=>exact List.nodup_nil
 |cons p r ih=>
  rw[Nd,List.map_cons,List.nodup_cons] at h
  exact List.nodup_cons.mpr ⟨fun m=>h.1 (List.mem_map.mpr ⟨p,m,rfl⟩),ih h.2⟩
theorem Zbc{α:Type} [DecidableEq α]:∀{a b:List α},a.Nodup->b.Nodup->(∀x,x∈a↔x∈b)->a.Perm b
 |[],b,_,_,h=>by
  cases b with
  |nil=>exact List.Perm.refl _
  |cons y b=>exact absurd ((h y).mpr (List.mem_cons_self ..)) (by simp)
 |x::a,b,ha,hb,h=>by
  have hx:x∈b:=(h x).mp (List.mem_cons_self ..);have ha:=List.nodup_cons.mp ha;have p:=List.perm_cons_erase hx;have hb':=List.nodup_cons.mp (p.nodup_iff.mp hb);refine(List.Perm.cons x (Zbc ha.2 hb'.2 fun y=> ?_)).trans p.symm
  constructor
  ·intro hy;have:y∈x::b.erase x:=p.mem_iff.mp ((h y).mp (List.mem_cons_of_mem _ hy));obtain rfl|z:=List.mem_cons.mp this
   ·exact absurd hy ha.1
   ·exact z
  ·intro hy;have:y∈x::a:=(h y).mpr (p.mem_iff.mpr (List.mem_cons_of_mem _ hy));obtain rfl|z:=List.mem_cons.mp this
   ·exact absurd hy hb'.1
   ·exact z
theorem ZjA{a b:Tb}(ha:Nd a)(hb:Nd b)(h:∀k,lk a k=lk b k):norm a=norm b:=
 Zbz Xr (Zbc (ZbA ha) (ZbA hb) fun p=>by rw[<-YH ha (k:=p.1) (d:=p.2),<-YH hb,h])
theorem ZeK(c:Tb):norm (norm c)=norm c:=Zbz Xr (YF c)
theorem Zfm{a b:Tb}(ha:Nd a)(hb:Nd b)(h:norm a=norm b)(k:Str):lk a k=lk b k:=by rw[<-Zct ha,<-Zct hb,h]
def Up(c l:Tb)(x:Int):Prop:=∀p∈c,∃u,lk l p.1=some u/\u+p.2<=x
def Ups(cs:List Tb)(l:Tb)(x:Int):Prop:=∃c∈cs,Up c l x
theorem ZhR{c l:Tb}{x:Int}:Up (norm c) l x↔Up c l x:=⟨fun h p hp=>h p ((YF c).mem_iff.mpr hp),fun h p hp=>h p ((YF c).mem_iff.mp hp)⟩
theorem JD{a b:Tb}:Yp a b=true↔∀p∈a,∃u,lk b p.1=some u/\p.2<=u:=by
 unfold Yp;rw[List.all_eq_true]
 constructor
 ·intro h p hp;have:=h p hp
  split at this
  ·rename_i u e
   exact⟨u,e,of_decide_eq_true this⟩
  ·cases this
 ·intro h p hp;obtain⟨u,e,q⟩:=h p hp;rw[e];exact decide_eq_true q
theorem Zhj{a b:Tb}(hb:Nd b):Yp (norm a) (norm b)=Yp a b:=by
 apply Bool.eq_iff_iff.mpr
 rw[JD,JD];exact⟨fun h p hp=>by rw[<-Zct hb];exact h p ((YF a).mem_iff.mpr hp),fun h p hp=>by rw[Zct hb];exact h p ((YF a).mem_iff.mp hp)⟩
theorem ZjB{a b l:Tb}{x:Int}(hb:Nd b)(h:Yp a b=true)(u:Up b l x):Up a l x:=fun p hp=>by
 obtain⟨v,e,q⟩:=JD.mp h p hp;obtain⟨w,e2,q2⟩:=u (p.1,v) ((YH hb).mp e);exact⟨w,e2,by have:w+v<=x:=q2;omega⟩
theorem ZdU{a:Tb}(h:Nd a):Yp a a=true:=JD.mpr fun p hp=>⟨p.2,XR h hp,Int.le_refl _⟩
def YB(a b:Tb):Tb:=b.foldl (fun c p=>Zb4 c p.1 (max p.2 ((lk a p.1).getD p.2))) a
theorem ZjC{c:Tb}{k:Str}{v:Int}(j:Str):lk (Zb4 c k v) j=if j=k then some v else lk c j:=by
 have up:∀c:Tb,(∃p∈c,p.1=k)->lk (c.map fun p=>if p.1=k then(p.1,v) else p) j=if j=k then some v else lk c j:=by
  intro c
  induction c with
  |nil=>intro ⟨p,hp,_⟩;cases hp
  |cons q r ih=>
   intro hm
   by_cases e:q.1=k
   ·by_cases z:j=k
    ·subst z;rw[if_pos rfl];simp[lk,List.find?_cons,e]
    ·rw[if_neg z];have n1:¬q.1=j:=fun w=>z (w.symm.trans e);have h1:lk (q::r) j=lk r j:=by simp[lk,List.find?_cons,n1]
     have h2:lk ((q::r).map fun p=>if p.1=k then(p.1,v) else p) j=lk (r.map fun p=>if p.1=k then(p.1,v) else p) j:=by
      rw[List.map_cons,if_pos e];simp[lk,List.find?_cons,n1]
     rw[h1,h2]
     by_cases more:∃p∈r,p.1=k
     ·rw[ih more,if_neg z]
     ·have e3:(r.map fun p=>if p.1=k then(p.1,v) else p)=r:=by
       refine(List.map_congr_left fun p hp=> ?_).trans (List.map_id' r);rw[if_neg fun w=>more ⟨p,hp,w⟩]
      rw[e3]
   ·have more:∃p∈r,p.1=k:=by
     obtain⟨p,hp,w⟩:=hm;obtain rfl|hp:=List.mem_cons.mp hp
     ·exact absurd w e
     ·exact⟨p,hp,w⟩
    rw[List.map_cons,if_neg e]
    by_cases n1:q.1=j
    ·have z:¬j=k:=fun w=>e (n1.trans w);rw[if_neg z];simp[lk,List.find?_cons,n1]
    ·have h1:lk (q::r) j=lk r j:=by simp[lk,List.find?_cons,n1]
     have h2:∀t:Tb,lk (q::t) j=lk t j:=fun t=>by simp[lk,List.find?_cons,n1]
     rw[h1,h2,ih more]
 unfold Zb4
 by_cases m:(c.any fun p=>decide (p.1=k))=true
 ·rw[if_pos m];obtain⟨p,hp,e⟩:=List.any_eq_true.mp m;exact up c ⟨p,hp,of_decide_eq_true e⟩
 ·rw[if_neg m];have no:∀p∈c,¬p.1=k:=fun p hp e=>m (List.any_eq_true.mpr ⟨p,hp,decide_eq_true e⟩);clear m up
  induction c with
  |nil=>
   by_cases z:j=k
   ·rw[if_pos z];simp[lk,z]
   ·rw[if_neg z];have n1:¬k=j:=fun w=>z w.symm;simp[lk,List.find?_cons,n1]
  |cons q r ih=>
   have ih:=ih fun p hp=>no p (List.mem_cons_of_mem _ hp)
   by_cases n1:q.1=j
   ·have z:¬j=k:=fun w=>no q (List.mem_cons_self ..) (n1.trans w);rw[if_neg z];simp[lk,List.find?_cons,n1]
   ·have h2:∀t:Tb,lk (q::t) j=lk t j:=fun t=>by simp[lk,List.find?_cons,n1]
    rw[List.cons_append,h2,h2,ih]
theorem Jx{a b:Tb}(h:Nd a):Nd (YB a b):=by
 have go:∀(b c:Tb),Nd c->Nd (b.foldl (fun c p=>Zb4 c p.1 (max p.2 ((lk a p.1).getD p.2))) c):=by
  intro b
  induction b with
  |nil=>exact fun c h=>h
  |cons p r ih=>exact fun c h=>ih _ (ZeB h)
 exact go b a h
theorem ZaI{a b:Tb}(hb:Nd b)(j:Str):lk (YB a b) j=match lk b j with|some d=>some (max d ((lk a j).getD d))|none=>lk a j:=by
 have go:∀(b c:Tb),Nd b->lk (b.foldl (fun c p=>Zb4 c p.1 (max p.2 ((lk a p.1).getD p.2))) c) j=match lk b j with|some d=>some (max d ((lk a j).getD d))|none=>lk c j:=by
  intro b
  induction b with
  |nil=>exact fun c _=>rfl
  |cons p r ih=>
   intro c h;rw[Nd,List.map_cons,List.nodup_cons] at h
   rw[List.foldl_cons,ih _ h.2]
   by_cases n1:p.1=j
   ·have h1:lk (p::r) j=some p.2:=by simp[lk,List.find?_cons,n1]
    have h2:lk r j=none:=Zfl (by rw[<-n1];exact h.1)
    rw[h1,h2]
    dsimp only
    rw[ZjC,if_pos n1.symm,n1]
   ·have h1:lk (p::r) j=lk r j:=by simp[lk,List.find?_cons,n1]
    rw[h1];cases e:lk r j with
    |some d=>rfl
    |none=>
     dsimp only
     rw[ZjC,if_neg (Ne.symm n1)]
 exact go b a hb
theorem Ziv{a b a' b':Tb}(ha:Nd a)(hb:Nd b)(ha':Nd a')(hb':Nd b')(e1:norm a=norm a')(e2:norm b=norm b'):norm (YB a b)=norm (YB a' b'):=
 ZjA (Jx ha) (Jx ha') fun j=>by rw[ZaI hb,ZaI hb',Zfm ha ha' e1,Zfm hb hb' e2]
theorem ZhS{a b l:Tb}{x:Int}(ha:Nd a)(hb:Nd b):Up (YB a b) l x↔Up a l x/\Up b l x:=by
 have hj:=Jx (b:=b) ha
 constructor
 ·intro h
  constructor
  ·intro p hp;have e:=XR ha hp;have j:=ZaI (a:=a) hb p.1;rw[e] at j
   cases q:lk b p.1 with
   |none=>
    rw[q] at j
    exact h p ((YH hj).mp j)
   |some d=>
    rw[q] at j
    obtain⟨u,e2,q2⟩:=h (p.1,max d p.2) ((YH hj).mp j);exact⟨u,e2,by have q2:u+max d p.2<=x:=q2;omega⟩
  ·intro p hp;have e:=XR hb hp;have j:=ZaI (a:=a) hb p.1;rw[e] at j
   obtain⟨u,e2,q2⟩:=h (p.1,max p.2 ((lk a p.1).getD p.2)) ((YH hj).mp j);exact⟨u,e2,by have q2:u+max p.2 ((lk a p.1).getD p.2)<=x:=q2;omega⟩
 ·intro ⟨h1,h2⟩ p hp;have e:=(YH hj (k:=p.1) (d:=p.2)).mpr hp;rw[ZaI hb] at e
  cases q:lk b p.1 with
  |none=>
   rw[q] at e
   exact h1 p ((YH ha).mp e)
  |some d=>
   rw[q] at e
   have e:max d ((lk a p.1).getD d)=p.2:=Option.some.inj e;obtain⟨u,e2,q2⟩:=h2 (p.1,d) ((YH hb).mp q);have q2:u+d<=x:=q2;cases q3:lk a p.1 with
   |none=>rw[q3] at e;exact⟨u,e2,by have e:max d d=p.2:=e;omega⟩
   |some d'=>
    rw[q3] at e
    obtain⟨u',e4,q4⟩:=h1 (p.1,d') ((YH ha).mp q3);have e2:lk l p.1=some u:=e2;have e4:lk l p.1=some u':=e4;rw[e2] at e4
    cases e4;have q4:u+d'<=x:=q4;exact⟨u,e2,by have e:max d d'=p.2:=e;omega⟩
theorem ZkQ{a b:Tb}(h:a≠[])(hb:Nd b)(ha:Nd a):YB a b≠[]:=by
 cases a with
 |nil=>exact absurd rfl h
 |cons p r=>
  intro z;have e:=ZaI (a:=p::r) hb p.1;rw[z] at e
  have e2:lk (p::r) p.1=some p.2:=XR ha (List.mem_cons_self ..);rw[e2] at e
  cases q:lk b p.1<;>rw[q] at e<;>cases e
def ZbF(c:Tb):Ky:=((c.length:Int),c)
def Yt(a b:Tb):Bool:=Zck (ZbF a) (ZbF b)
theorem YZ:STO Yt:=⟨fun a=>Zcl.irr _,fun a b c h1 h2=>Zcl.tr _ _ _ h1 h2,fun a b=>(Zcl.tri (ZbF a) (ZbF b)).imp_right fun z=>z.imp_left fun e=>congrArg Prod.snd e⟩
def keep(kept:List Tb)(c:Tb):List Tb:=if(kept.any fun low=>Yp low c)=true then kept else kept++[c]
def ZcO(cs:List Tb):List Tb:=cs.foldl keep []
theorem Zfn(l:Tb)(x:Int):∀(cs kept:List Tb),(∀c∈cs,Nd c)->(Ups (cs.foldl keep kept) l x↔Ups (kept++cs) l x)
 |[],kept,_=>by rw[List.foldl_nil,List.append_nil]
 |c::cs,kept,h=>by
  rw[List.foldl_cons,Zfn l x cs _ fun c' hc=>h c' (List.mem_cons_of_mem _ hc)];unfold keep
  split
  ·rename_i m
   obtain⟨low,hl,b⟩:=List.any_eq_true.mp m
   constructor
   ·rintro⟨d,hd,u⟩;rcases List.mem_append.mp hd with z|z
    ·exact⟨d,List.mem_append_left _ z,u⟩
    ·exact⟨d,List.mem_append_right _ (List.mem_cons_of_mem _ z),u⟩
   ·rintro⟨d,hd,u⟩;rcases List.mem_append.mp hd with z|z
    ·exact⟨d,List.mem_append_left _ z,u⟩
    ·obtain rfl|z:=List.mem_cons.mp z
     ·exact⟨low,List.mem_append_left _ hl,ZjB (h d (List.mem_cons_self ..)) b u⟩
     ·exact⟨d,List.mem_append_right _ z,u⟩
  ·rw[List.append_assoc];exact Iff.rfl
theorem JK:∀(cs kept:List Tb),∃r,cs.foldl keep kept=kept++r/\r.Sublist cs
 |[],kept=>⟨[],by simp,List.Sublist.refl _⟩
 |c::cs,kept=>by
  rw[List.foldl_cons]
  by_cases m:(kept.any fun low=>Yp low c)=true
  ·rw[show keep kept c=kept from if_pos m];obtain⟨r,e,s⟩:=JK cs kept;exact⟨r,e,s.cons c⟩
  ·rw[show keep kept c=kept++[c] from if_neg m];obtain⟨r,e,s⟩:=JK cs (kept++[c]);exact⟨c::r,by rw[e];simp,s.cons₂ c⟩
theorem ZdV{Good:Tb->Prop}(gn:∀c,Good c->Nd c)(o:∀a b:Tb,Yt b a=false->Good a->Good b->Yp b a=true->a=b):∀(cs kept:List Tb),(∀c∈kept++cs,Good c)->Asc Yt (kept++cs)->kept.Pairwise (fun a b=>Yp a b=false/\Yp b a=false)->
  (cs.foldl keep kept).Pairwise (fun a b=>Yp a b=false/\Yp b a=false)
 |[],kept,_,_,p=>p
 |c::cs,kept,nd,as,p=>by
  rw[List.foldl_cons];have nc:Good c:=nd c (List.mem_append_right _ (List.mem_cons_self ..));unfold keep
  split
  ·refine ZdV gn o cs kept (fun d hd=>nd d ?_) (as.sublist ?_) p
   ·rcases List.mem_append.mp hd with z|z
    ·exact List.mem_append.mpr (.inl z)
    ·exact List.mem_append_right _ (List.mem_cons_of_mem _ z)
   ·exact List.Sublist.append_left (List.sublist_cons_self _ _) _
  ·rename_i m
   have e:kept++c::cs=(kept++[c])++cs:=by simp
   rw[e] at nd as
   refine ZdV gn o cs _ nd as (List.pairwise_append.mpr ⟨p,List.pairwise_singleton _ _,fun a ha b hb=> ?_⟩);have eb:b=c:=by simpa using hb
   subst eb;have m1:Yp a b=false:=by
    cases q:Yp a b with
    |false=>rfl
    |true=>exact absurd (List.any_eq_true.mpr ⟨a,ha,q⟩) m
   refine⟨m1, ?_⟩;cases q:Yp b a with
   |false=>rfl
   |true=>
    have na:Good a:=nd a (List.mem_append_left _ (List.mem_append_left _ ha));have lt:Yt b a=false:=(List.pairwise_append.mp (List.pairwise_append.mp as).1).2.2 a ha b (List.mem_singleton_self _);have:=o a b lt na nc q;subst this;rw[ZdU (gn _ na)] at m1
    cases m1
theorem Zdz{α:Type} [DecidableEq α]:∀{a b:List α},a.Nodup->(∀x∈a,x∈b)->a.length<=b.length/\(b.Nodup->a.length=b.length->∀x∈b,x∈a)
 |[],b,_,_=>⟨Nat.zero_le _,fun _ e x hx=>by
   have:b=[]:=List.eq_nil_of_length_eq_zero e.symm;rw[this] at hx;cases hx⟩
 |y::a,b,ha,h=>by
  have ha:=List.nodup_cons.mp ha;have hy:y∈b:=h y (List.mem_cons_self ..);have p:=List.perm_cons_erase hy;have l:=p.length_eq;rw[List.length_cons] at l
  have sub:∀x∈a,x∈b.erase y:=fun x hx=>by
   rcases List.mem_cons.mp (p.mem_iff.mp (h x (List.mem_cons_of_mem _ hx))) with rfl|z
   ·exact absurd hx ha.1
   ·exact z
  obtain⟨h1,h2⟩:=Zdz ha.2 sub;refine⟨by rw[List.length_cons];omega,fun hb e x hx=> ?_⟩
  rw[List.length_cons] at e
  rcases List.mem_cons.mp (p.mem_iff.mp hx) with rfl|z
  ·exact List.mem_cons_self ..
  ·exact List.mem_cons_of_mem _ (h2 (List.nodup_cons.mp (p.nodup_iff.mp hb)).2 (by omega) x z)
structure Nf (c:Tb):Prop where
 nd:Nd c
 asc:Asc Zb8 c
theorem ZhT{c:Tb}(h:Nd c):Nf (norm c):=⟨Zdy h,XH Xr c⟩
theorem Nf.norm{c:Tb}(h:Nf c):norm c=c:=(Zdx Xr (List.Perm.refl c) h.asc).symm
theorem ZcP:∀{c:Tb},Nf c->Asc Zb7 (c.map (·.1))
 |[],_=>List.Pairwise.nil
 |p::r,h=>by
  have h1:=List.pairwise_cons.mp h.asc;have h2:p.1∉r.map (·.1)/\Nd r:=by have:=h.nd;rw[Nd,List.map_cons,List.nodup_cons] at this;exact this
  rw[List.map_cons];refine List.pairwise_cons.mpr ⟨fun k hk=> ?_,ZcP ⟨h2.2,h1.2⟩⟩;obtain⟨q,hq,rfl⟩:=List.mem_map.mp hk;have e:=h1.1 q hq;have n:q.1≠p.1:=fun z=>h2.1 (by rw[<-z];exact hk)
  have e2:Zb8 q p=Zb7 q.1 p.1:=by show(if q.1=p.1 then _ else _)=_;rw[if_neg n]
  rw[e2] at e
  exact e
theorem ZjD:∀(a b:Tb),a.map (·.1)=b.map (·.1)->Nd a->(∀p∈b,∃u,lk a p.1=some u/\p.2<=u)->ZbJ a b=false
 |[],[],_,_,_=>rfl
 |[],_::_,e,_,_=>by simp at e
 |_::_,[],e,_,_=>by simp at e
 |p::a,q::b,e,nd,h=>by
  rw[List.map_cons,List.map_cons] at e
  injection e with e1 e2
  have nd2:p.1∉a.map (·.1)/\Nd a:=by have:=nd;rw[Nd,List.map_cons,List.nodup_cons] at this;exact this
  show(if p=q then Zb6 Zb8 a b else Zb8 p q)=false
  by_cases z:p=q
  ·rw[if_pos z];refine ZjD a b e2 nd2.2 fun r hr=> ?_;obtain⟨u,e3,q3⟩:=h r (List.mem_cons_of_mem _ hr);have n:¬p.1=r.1:=fun w=>nd2.1 (by rw[w,e2];exact List.mem_map.mpr ⟨r,hr,rfl⟩)
   have h1:lk (p::a) r.1=lk a r.1:=by simp[lk,List.find?_cons,n]
   exact⟨u,by rw[<-h1];exact e3,q3⟩
  ·rw[if_neg z];obtain⟨u,e3,q3⟩:=h q (List.mem_cons_self ..);have h1:lk (p::a) q.1=some p.2:=by simp[lk,List.find?_cons,e1]
   rw[h1] at e3
   cases e3;show(if p.1=q.1 then JG p.2 q.2 else Zb7 p.1 q.1)=false;rw[if_pos e1];exact decide_eq_false (by omega)
theorem Zgk{a b:Tb}(ha:Nf a)(hb:Nf b)(h:Yp b a=true):Yt a b=false:=by
 have h:=JD.mp h;have sub:∀k∈b.map (·.1),k∈a.map (·.1):=fun k hk=>by
  obtain⟨p,hp,rfl⟩:=List.mem_map.mp hk;obtain⟨u,e,_⟩:=h p hp;exact List.mem_map.mpr ⟨(p.1,u),(YH ha.nd).mp e,rfl⟩
 obtain⟨l1,l2⟩:=Zdz hb.nd sub;rw[List.length_map,List.length_map] at l1
 show(if((a.length:Nat):Int)=((b.length:Nat):Int) then ZbJ a b else JG (a.length:Int) (b.length:Int))=false
 by_cases z:a.length=b.length
 ·rw[if_pos (by rw[z])];have names:a.map (·.1)=b.map (·.1):=Zdw ZeC (Zbc ha.nd hb.nd fun k=>⟨l2 ha.nd (by rw[List.length_map,List.length_map,z]) k,sub k⟩) (ZcP ha) (ZcP hb);exact ZjD a b names ha.nd h
 ·rw[if_neg (fun w=>z (by omega))];exact decide_eq_false (by omega)
theorem ZeL{a b:Tb}(l:Yt b a=false)(ha:Nf a)(hb:Nf b)(h:Yp b a=true):a=b:=by
 have:=Zgk ha hb h;rcases YZ.tri a b with z|z|z
 ·rw[this] at z;cases z
 ·exact z
 ·rw[l] at z;cases z
end M4
namespace L3
open PySem PySem.Spec PyProof.Rows L2 PySem.W PySem.Calls
section
variable {X:Cx} {pins:List (Addr×Obj)} {σ:L2.St} {H:Hp} {s:Shared} {A:Around}
theorem ZjE(I:L2.Inv X pins σ H s){k:Ky}{p q:Addr}(h:SqT X.K H p [.int k.1,.ref q]):∃t,s.heap.IsTuple p #[.int k.1 t,.ref q]:=by
 obtain⟨its,r,T,_⟩:=I.tuple h;cases r with
 |cons a r=>
  cases r with
  |cons b r=>
   cases r;obtain⟨t,rfl⟩:=a;cases b;exact⟨t,T⟩
theorem ZmG(I:L2.Inv X pins σ H s){x y:Ky}{a b:V}{u v:Value}(ra:Rep X.K H (kyD x) a)(rb:Rep X.K H (kyD y) b)(ru:ZC a u)(rv:ZC b v)(hu:A.units+10<cLine):RcP X.prog X.w A s .Lt u v (Zck x y):=by
 obtain⟨p,q,rfl,hp,hq⟩:=ZdS ra;obtain⟨p',q',rfl,hp',hq'⟩:=ZdS rb;cases ru;cases rv;obtain⟨t,T1⟩:=ZjE I hp;obtain⟨t',T2⟩:=ZjE I hp';have u1:A.in1.units+5<cLine:=by show A.units+1+5<cLine;omega
 have go:=Zju (P:=X.prog) (w:=X.w) (A:=A) (e:=fun j=>if j=0 then(x.1==y.1) else decide (x.2=y.2)) (c:=fun j=>if j=0 then JG x.1 y.1 else ZbJ x.2 y.2) T1 T2 (by omega) (fun j h1 h2=> ?_) (fun j h1 h2 z=> ?_)
 ·have e:ZcM #[Value.int x.1 t,Value.ref q] #[Value.int y.1 t',Value.ref q'] (fun j=>if j=0 then(x.1==y.1) else decide (x.2=y.2)) (fun j=>if j=0 then JG x.1 y.1 else ZbJ x.2 y.2) 0=Zck x y:=by
   show(if(x.1==y.1)=true then(if decide (x.2=y.2)=true then false else ZbJ x.2 y.2) else JG x.1 y.1)=if x.1=y.1 then ZbJ x.2 y.2 else JG x.1 y.1
   by_cases z:x.1=y.1
   ·rw[if_pos (by rw[z];exact beq_self_eq_true _),if_pos z]
    by_cases z2:x.2=y.2
    ·rw[if_pos (decide_eq_true z2),z2,ZcK.irr]
    ·rw[if_neg (by rw[decide_eq_false z2];simp)]
   ·rw[if_neg (by rw[beq_false_of_ne z];simp),if_neg z]
  rw[e] at go
  exact go
 ·match j,h1,h2 with
  |0,_,_=>exact fun E Q q=>wpAny_eqBool_int q
  |1,_,_=>
   have eq:=(Zci I 2 _ _ _ _ (.ref q) (.ref q') A.in1 hq hq' rfl rfl (Zgf 0 _ _) (by omega)).1;rw[ZhM 0] at eq
   exact eq
 ·match j,h1,h2 with
  |0,_,_=>exact fun E Q q=>PyProof.Rows.lt_int q
  |1,_,_=>exact Zjw I hq hq' u1
theorem ZjF{ps:List (Addr×Obj)}{a:Addr}{o o':Obj}{h':Heap}{t':Nat}(I:L2.Inv X ((a,o)::ps) σ H s)(l:ZdT X a)(n:∀p∈ps,p.1≠a)(k:∀b u,b≠a->s.heap.get? b=some u->h'.get? b=some u)(e:h'.get? a=some o')(nc:∀v,o'.data≠.cell v):L2.Inv X ((a,o')::ps) σ H {s with heap:=h',toks:=t'}:=by
 have pa:=I.pin (a,o) (List.mem_append_right _ (.head _));have I1:L2.Inv X ps σ H s:=I.pins_of fun p hp=>I.pin p (List.mem_append_right _ (.tail _ hp));have I2:L2.Inv X ps σ H {s with heap:=h',toks:=t'}:=I1.turned (it:=a) (t':=t') k pa.2.1 pa.2.2.1 (.inr l.new) l.cells fun p hp=>(List.mem_append.mp hp).elim (l.pn p) (n p);refine I2.pins_of fun p hp=> ?_;rcases List.mem_cons.mp hp with rfl|hp
 ·exact⟨e,pa.2.1,pa.2.2.1,pa.2.2.2.1,nc⟩
 ·exact I2.pin p (List.mem_append_right _ hp)
theorem Zcu{ps:List (Addr×Obj)}{p q:Addr×Obj}(I:L2.Inv X (p::q::ps) σ H s):L2.Inv X (q::p::ps) σ H s:=
 I.pins_of fun r hr=>I.pin r (List.mem_append_right _ (by
  rcases List.mem_cons.mp hr with rfl|hr
  ·exact .tail _ (.head _)
  ·rcases List.mem_cons.mp hr with rfl|hr
   ·exact .head _
   ·exact .tail _ (.tail _ hr)))
variable {k:Nat} {g:Addr} {fd:FuncData} {p:Str} {sp:Sp}
theorem ZeM(F:Yq X.prog X.w X.K X.mg X.base CX0 k g fd [p] sp)(hb:Ja X.K fd [p] [])(hr:YK (k+1) X.A)(I:L2.Inv X pins σ H s){x:V}{u:Value}(r:ZC x u){Q:VK}(h:sp [x] H Q fun _ _ _=>False):
  wpAny (model X.prog X.w) X.A.in1 (call (.ref g) [u]) (EP X pins σ Q) (fun _ _=>False) s:=by
 have bd:=hb s [u] I.kIn rfl;rw[List.append_nil] at bd
 refine wpAny_call (codeAny_mono (F.run X.A.in1 X.stack s H ⟨[u],[]⟩ [u] [x] Q _ hr.in1 I.env0.in1 bd (.cons r .nil) h) fun r s2 z=> ?_);cases r with
 |ok fl=>
  cases fl with
  |ret u=>exact I.after z
  |next=>exact False.elim z
  |brk=>exact False.elim z
  |cont=>exact False.elim z
 |error ev=>exact False.elim z
def mnk(K:PySem.W.Frag)(sp:Sp)(l:Addr)(xs:List V):List V->V->V->Hp->VK->Prop
 |[],b,_,H,R=>SqL K H l xs/\R b H
 |x::r,b,kb,H,R=>SqL K H l xs/\sp [x] H (fun k H2=>∃y z,Rep K H2 (kyD y) k/\Rep K H2 (kyD z) kb/\(Zck y z=true->mnk K sp l xs r x k H2 R)/\(Zck y z=false->mnk K sp l xs r b kb H2 R)) fun _ _ _=>False
abbrev Zna(X:Cx)(pins:List (Addr×Obj))(σ:L2.St)(R:VK)(E:Value->Shared->Prop):Result->Shared->Prop:=fun r s'=>match r with| .ok (.ret v)=>EP X pins σ R v s'| .ok _=>False| .error e=>E e s'
section
variable {prog:Program} {w:World} {B:Around} {R:Result->Shared->Prop} {it S:Addr} {key:Value} {c:Nat} {s:Shared}
theorem ZdW{P:PySem.Fin->Shared->Prop}(hP:∀f s',P f s'->match f with| .done x=>R (.ok x) s'| .again c'=>c'.quiet=true/\codeAny (model prog w) B c' R s')
  (h:wpAny (model prog w) B.in1 (Builtin.«min.loop» ⟨[.ref it,key,.ref S],[]⟩) P (fun e s'=>R (.error e) s') s):codeAny (model prog w) B (.builtin "min.loop" ⟨[.ref it,key,.ref S],[]⟩) R s:=
 codeAny_builtin F.entry_min_loop (by
  have e:=Around.under_plainId (A:=B) F.plain_min_loop ⟨[Value.ref it,key,.ref S],[]⟩;rw[e];exact wpAny_mono h (fun f s' z=>hP f s' z) fun _ _ z=>z)
theorem ZjG:toString "min"++toString ".loop"="min.loop":=rfl
theorem ZkR{Kp:Heap->Prop}{ub uk:Value}(hS:s.heap.get? S=some (seqObj "list" #[ub,uk] c))(hn:∀(Q:Option Value->Shared->Prop) (E:Value->Shared->Prop),(∀h' tk,Kp h'->Q none {s with heap:=h',toks:=tk})->wpAny (model prog w) B.in1 (pyNext (.ref it)) Q E s)
  (kp:∀h',Kp h'->h'.get? S=some (seqObj "list" #[ub,uk] c))(q:∀h' tk,Kp h'->R (.ok (.ret ub)) {s with heap:=h'.update S (Obj.mapSeq fun _=> #[]),toks:=tk}):codeAny (model prog w) B (.builtin "min.loop" ⟨[.ref it,key,.ref S],[]⟩) R s:=by
 refine ZdW (P:=fun f s'=>match f with| .done x=>R (.ok x) s'| .again _=>False) (fun f s' z=>by cases f with|done x=>exact z|again _=>exact z.elim) ?_;show wpAny _ _ (seqItems? (.ref S)>>=_) _ _ s;refine wpAny_bind (wpAny_seqItems hS rfl (show wpAny _ _ (tryCatch (pyNext (.ref it)) _>>=_) _ _ s from ?_));refine wpAny_bind (wpAny_tryCatch (hn _ _ fun h' tk k=> ?_));show wpAny _ _ (updateSeq S (fun _=> #[])>>=_) _ _ _
 exact wpAny_bind (wpAny_updateSeq (kp h' k) rfl (wpAny_bind (wpAny_letGo (wpAny_pure (q h' tk k)))))
theorem ZjH{Kv:Value->Heap->Prop}{G:Value->Value->Shared->Prop}{ub uk:Value}(hk:key≠.none)(hS:s.heap.get? S=some (seqObj "list" #[ub,uk] c))(hn:∀(Q:Option Value->Shared->Prop) (E:Value->Shared->Prop),(∀v h' tk,Kv v h'->Q (some v) {s with heap:=h',toks:=tk})->wpAny (model prog w) B.in1 (pyNext (.ref it)) Q E s)
  (hc:∀v h' tk,Kv v h'->wpAny (model prog w) B.in1 (call key [v]) (G v) (fun _ _=>False) {s with heap:=h',toks:=tk})
  (q:∀v kv s2,G v kv s2->∃k,RcP prog w B.in1 s2 .Lt kv uk k/\s2.heap.get? S=some (seqObj "list" #[ub,uk] c)/\
   (k=true->codeAny (model prog w) B (.builtin "min.loop" ⟨[.ref it,key,.ref S],[]⟩) R {s2 with heap:=s2.heap.update S (Obj.mapSeq fun _=> #[v,kv])})/\(k=false->codeAny (model prog w) B (.builtin "min.loop" ⟨[.ref it,key,.ref S],[]⟩) R s2)):
  codeAny (model prog w) B (.builtin "min.loop" ⟨[.ref it,key,.ref S],[]⟩) R s:=by
 refine ZdW (P:=fun f s'=>f=.again (.builtin "min.loop" ⟨[.ref it,key,.ref S],[]⟩)/\codeAny (model prog w) B (.builtin "min.loop" ⟨[.ref it,key,.ref S],[]⟩) R s') (fun f s' z=>by rw[z.1];exact⟨plainId_quiet F.plain_min_loop _,z.2⟩) ?_
 show wpAny _ _ (seqItems? (.ref S)>>=_) _ _ s;refine wpAny_bind (wpAny_seqItems hS rfl (show wpAny _ _ (tryCatch (pyNext (.ref it)) _>>=_) _ _ s from ?_));refine wpAny_bind (wpAny_tryCatch (hn _ _ fun v h' tk k=> ?_));cases key with
 |none=>exact absurd rfl hk
 |_=>
  show wpAny _ _ (tryCatch (holding [v] (call _ [v])) _>>=_) _ _ _;refine wpAny_bind (wpAny_tryCatch (wpAny_holding (wpAny_mono (hc v h' tk k) (fun kv s2 g=> ?_) fun _ _ z=>z.elim)));obtain⟨b,rc,gS,yes,no⟩:=q v kv s2 g;show wpAny _ _ (tryCatch (holding [v,kv] (richCompare .Lt kv uk>>=_)) _>>=_) _ _ _;refine wpAny_bind (wpAny_tryCatch (wpAny_holding (wpAny_bind (rc _ _ (wpAny_bind (wpAny_holding (wpAny_truthy_bool (wpAny_bind (wpAny_letGo (wpAny_pure ?_))))))))))
  cases b with
  |true=>
   refine wpAny_ite_split (fun _=>wpAny_bind (wpAny_updateSeq gS rfl (wpAny_bind (wpAny_letGo ?_)))) (fun z=>absurd rfl z);exact wpAny_pure ⟨rfl,yes rfl⟩
  |false=>
   refine wpAny_ite_split (fun z=>nomatch z) (fun _=>wpAny_bind (wpAny_letGo ?_));exact wpAny_pure ⟨rfl,no rfl⟩
theorem Ziw{Kv:Value->Heap->Prop}{G:Value->Value->Shared->Prop}(hk:key≠.none)(hS:s.heap.get? S=some (seqObj "list" #[] c))(hn:∀(Q:Option Value->Shared->Prop) (E:Value->Shared->Prop),(∀v h' tk,Kv v h'->Q (some v) {s with heap:=h',toks:=tk})->wpAny (model prog w) B.in1 (pyNext (.ref it)) Q E s)
  (hc:∀v h' tk,Kv v h'->wpAny (model prog w) B.in1 (call key [v]) (G v) (fun _ _=>False) {s with heap:=h',toks:=tk})
  (q:∀v kv s2,G v kv s2->s2.heap.get? S=some (seqObj "list" #[] c)/\codeAny (model prog w) B (.builtin "min.loop" ⟨[.ref it,key,.ref S],[]⟩) R {s2 with heap:=s2.heap.update S (Obj.mapSeq fun _=> #[v,kv])}):
  codeAny (model prog w) B (.builtin "min.loop" ⟨[.ref it,key,.ref S],[]⟩) R s:=by
 refine ZdW (P:=fun f s'=>f=.again (.builtin "min.loop" ⟨[.ref it,key,.ref S],[]⟩)/\codeAny (model prog w) B (.builtin "min.loop" ⟨[.ref it,key,.ref S],[]⟩) R s') (fun f s' z=>by rw[z.1];exact⟨plainId_quiet F.plain_min_loop _,z.2⟩) ?_
 show wpAny _ _ (seqItems? (.ref S)>>=_) _ _ s;refine wpAny_bind (wpAny_seqItems hS rfl (show wpAny _ _ (tryCatch (pyNext (.ref it)) _>>=_) _ _ s from ?_));refine wpAny_bind (wpAny_tryCatch (hn _ _ fun v h' tk k=> ?_));cases key with
 |none=>exact absurd rfl hk
 |_=>
  show wpAny _ _ (tryCatch (holding [v] (call _ [v])) _>>=_) _ _ _;refine wpAny_bind (wpAny_tryCatch (wpAny_holding (wpAny_mono (hc v h' tk k) (fun kv s2 g=> ?_) fun _ _ z=>z.elim)));obtain⟨gS,yes⟩:=q v kv s2 g;show wpAny _ _ (updateSeq S (fun _=> #[v,kv])>>=_) _ _ _;refine wpAny_bind (wpAny_updateSeq gS rfl ?_);exact wpAny_pure ⟨rfl,yes⟩
end
theorem ZeN{l it:Addr}{oI:Obj}{ps:List (Addr×Obj)}{xs:List V}{j:Nat}{x:V}(hh:X.A.handled=none)(nl:l≠it)(lI:ZdT X it)(n:∀p∈ps,p.1≠it)(hq:SqL X.K H l xs)(hx:xs[j]? =some x)(I:L2.Inv X ((it,oI)::ps) σ H s)(hit:s.heap.IsListIter it l j)(Q:Option Value->Shared->Prop)(E:Value->Shared->Prop)
  (q:∀v h' tk,(ZC x v/\∀tk',∃o,L2.Inv X ((it,o)::ps) σ H {s with heap:=h',toks:=tk'}/\∀h2:Heap,h2.get? it=some o->h2.IsListIter it l (j+1))->Q (some v) {s with heap:=h',toks:=tk}):wpAny (model X.prog X.w) X.A.in1 (pyNext (.ref it)) Q E s:=by
 obtain⟨vs,rx,pl,_⟩:=I.list hq;have lt:j<vs.length:=by rw[<-rx.length];exact(List.getElem?_eq_some_iff.mp hx).1
 refine(Walks.list (prog:=X.prog) (w:=X.w) (A:=X.A.in1) hh it l nl vs.toArray).item j s Q E (by rw[List.size_toArray];exact lt) ⟨hit,pl.isList⟩ fun v h' tk pv st kp=>q v h' tk ⟨?_,fun tk'=> ?_⟩
 ·have e:vs[j]? =some v:=by simpa using pv
  have r:=Zfi rx j lt;rw[List.getD_eq_getElem?_getD,List.getD_eq_getElem?_getD,hx,e] at r
  exact r
 ·obtain⟨⟨o,e1,e2,e3⟩,_⟩:=st;exact⟨o,ZjF I lI n (fun b u nb e=>kp b u (by simpa using nb) e) e1 (fun v z=>by rw[e3] at z;cases z),fun h2 e=>⟨o,e,e2,e3⟩⟩
theorem Zix{E:Value->Shared->Prop}{l it S:Addr}{xs:List V}{R:VK}(hh:X.A.handled=none)(F:Yq X.prog X.w X.K X.mg X.base CX0 k g fd [p] sp)(hb:Ja X.K fd [p] [])(hr:YK (k+1) X.A)(lI:ZdT X it)(lS:ZdT X S)(nIS:S≠it)(nl:l≠it)(nI:∀p∈pins,p.1≠it)(nS:∀p∈pins,p.1≠S):
  ∀(r:List V) (j:Nat) (H:Hp) (s:Shared) (b kb:V) (ub uk:Value) (c:Nat) (oI:Obj),xs.drop j=r->j<=xs.length->L2.Inv X ((it,oI)::(S,seqObj "list" #[ub,uk] c)::pins) σ H s->s.heap.IsListIter it l j->ZC b ub->ZC kb uk->mnk X.K sp l xs r b kb H R->
   codeAny (model X.prog X.w) X.A (.builtin "min.loop" ⟨[.ref it,.ref g,.ref S],[]⟩) (Zna X pins σ R E) s:=by
 have hu:X.A.in1.units+10<cLine:=by
  have:=hr.units;show X.A.units+1+10<cLine;omega
 have two:∀(o:Obj) (p:Addr×Obj),p∈(S,o)::pins->p.1≠it:=fun o p hp=>by
  obtain rfl|m:=List.mem_cons.mp hp
  ·exact nIS
  ·exact nI p m
 have one:∀(o:Obj) (p:Addr×Obj),p∈(it,o)::pins->p.1≠S:=fun o p hp=>by
  obtain rfl|m:=List.mem_cons.mp hp
  ·exact fun z=>nIS z.symm
  ·exact nS p m
 intro r
 induction r with
 |nil=>
  intro j H s b kb ub uk c oI hj hjl I hit rb rk h;obtain⟨vs,rx,pl,_⟩:=I.list h.1;have hl:vs.toArray.size=j:=by
   rw[List.size_toArray,<-rx.length];exact Nat.le_antisymm (List.drop_eq_nil_iff.mp hj) hjl
  have pI:=I.pin (it,oI) (List.mem_append_right _ (.head _));have pS:=I.pin (S,seqObj "list" #[ub,uk] c) (List.mem_append_right _ (.tail _ (.head _)));have J0:L2.Inv X ((S,seqObj "list" #[ub,uk] c)::pins) σ H s:=I.pins_of fun p hp=>I.pin p (List.mem_append_right _ (.tail _ hp));have J1:∀h' tk',(∀b o,b∉[it]->s.heap.get? b=some o->h'.get? b=some o)->L2.Inv X ((S,seqObj "list" #[ub,uk] c)::pins) σ H {s with heap:=h',toks:=tk'}:=fun h' tk' kp=>J0.turned (it:=it) (t':=tk') (fun b u n e=>kp b u (by simpa using n) e) pI.2.1 pI.2.2.1 (.inr lI.new) lI.cells fun p hp=>(List.mem_append.mp hp).elim (lI.pn p) (two _ p)
  refine ZkR (Kp:=fun h'=>∀b o,b∉[it]->s.heap.get? b=some o->h'.get? b=some o) pS.1 (fun Q E q=>(Walks.list (prog:=X.prog) (w:=X.w) (A:=X.A.in1) hh it l nl vs.toArray).done s Q E ⟨by rw[hl];exact hit,pl.isList⟩ q) (fun h' kp=>kp S _ (by simpa using nIS) pS.1) fun h' tk kp=> ?_
  have J2:=Zby (J1 h' tk kp) lS nS Yl (get?_update_seq (kp S _ (by simpa using nIS) pS.1) fun _=> #[]) Yz;exact⟨b,H,J2.pins_of fun p hp=>J2.pin p (List.mem_append_right _ (.tail _ hp)),rb,h.2⟩
 |cons x r ih=>
  intro j H s b kb ub uk c oI hj hjl I hit rb rk h;have hjx:xs[j]? =some x:=by
   have e:=congrArg List.head? hj;rw[List.head?_drop] at e
   exact e
  have hjn:xs.drop (j+1)=r:=by
   rw[<-List.tail_drop,hj]
   rfl
  have hlx:j+1<=xs.length:=(List.getElem?_eq_some_iff.mp hjx).1;have pS:=I.pin (S,seqObj "list" #[ub,uk] c) (List.mem_append_right _ (.tail _ (.head _)));refine ZjH (fun z=>nomatch z) pS.1 (ZeN hh nl lI (two _) h.1 hjx I hit)
   (fun v h' tk ⟨rv,mv⟩=> ?_) (G:=fun v kv s2=>∃kx H2 o,ZC x v/\ZC kx kv/\L2.Inv X ((it,o)::(S,seqObj "list" #[ub,uk] c)::pins) σ H2 s2/\(∀h2:Heap,h2.get? it=some o->h2.IsListIter it l (j+1))/\∃y z,Rep X.K H2 (kyD y) kx/\Rep X.K H2 (kyD z) kb/\(Zck y z=true->mnk X.K sp l xs r x kx H2 R)/\(Zck y z=false->mnk X.K sp l xs r b kb H2 R)) fun v kv s2 ⟨kx,H2,o,rv,rkx,J2,hi2,y,z,r1,r2,ht,hf⟩=> ?_
  ·obtain⟨o,J1,hi1⟩:=mv tk;exact wpAny_mono (ZeM F hb hr J1 rv h.2) (fun kv s2 ⟨kx,H2,J2,rkx,rest⟩=>⟨kx,H2,o,rv,rkx,J2,hi1,rest⟩) fun _ _ z=>z
  ·have pS2:=J2.pin (S,seqObj "list" #[ub,uk] c) (List.mem_append_right _ (.tail _ (.head _)));have pI2:=J2.pin (it,o) (List.mem_append_right _ (.head _));refine⟨_,ZmG J2 r1 r2 rkx rk hu,pS2.1,fun e=> ?_,fun e=>ih (j+1) H2 _ b kb ub uk c o hjn hlx J2 (hi2 _ pI2.1) rb rk (hf e)⟩;have J4:=Zcu (Zby (Zcu J2) lS (one o) Yl (get?_update_seq pS2.1 fun _=> #[v,kv]) Yz);exact ih (j+1) H2 _ x kx v kv _ o hjn hlx J4 (hi2 _ (J4.pin (it,o) (List.mem_append_right _ (.head _))).1) rv rkx (ht e)
theorem Ziy{E:Value->Shared->Prop}{l:Addr}{x:V}{xs:List V}{Q:VK}(hh:X.A.handled=none)(F:Yq X.prog X.w X.K X.mg X.base CX0 k g fd [p] sp)(hb:Ja X.K fd [p] [])(hr:YK (k+1) X.A)(I:L2.Inv X pins σ H s)(hq:SqL X.K H l (x::xs))(h:sp [x] H (fun k H2=>mnk X.K sp l (x::xs) xs x k H2 Q) fun _ _ _=>False):
  wpAny (model X.prog X.w) X.A (call (.builtin "min") [.ref l] [(Str.ofString "key",.ref g)]) (EP X pins σ Q) E s:=by
 obtain⟨vs,rx,pl,_⟩:=I.list hq;have nl:l≠s.heap.objs.size:=Nat.ne_of_lt (let ⟨_,e,_⟩:=pl.isList;Heap.lt_size e)
 refine kmk_tree (Q:=EP X pins σ Q) PySem.F.kind_min PySem.F.plain_min PySem.F.entry_min (kmk_min_key (.ref l) (.ref g)) ?_;show wpAny _ X.A.in1 (Builtin.Builtins.bindParams "min" ["key","default"] 0 ⟨[],[(Str.ofString "key",.ref g)]⟩>>=_) _ _ s;have bp:Builtin.Builtins.bindParams "min" ["key","default"] 0 ⟨[],[(Str.ofString "key",Value.ref g)]⟩=pure [some (.ref g),none]:=rfl;refine wpAny_bind (wpAny_of_eq bp (wpAny_bind (wpAny_pure (wpAny_bind (wpAny_pyIter_list pl.isList (wpAny_bind (wpAny_newList ?_ (Nat.zero_le _))))))))
 rw[ZjG];generalize ho:({cls:=.type "list_iterator",data:=.fields #[.ref l,.int 0 0]}:Obj)=oI;have sz1:(s.heap.push oI).objs.size=s.heap.objs.size+1:=size_push' ..;rw[sz1];have gI:((s.heap.push oI).push (seqObj "list" #[] 0)).get? s.heap.objs.size=some oI:=Heap.get?_push_of_some _ (Heap.get?_push_size _ (by rw[<-ho];rfl))
 have gS:((s.heap.push oI).push (seqObj "list" #[] 0)).get? (s.heap.objs.size+1)=some (seqObj "list" #[] 0):=by rw[<-sz1];exact Heap.get?_push_size _ rfl
 have lI:ZdT X s.heap.objs.size:=Zdv I (Nat.le_refl _);have lS:ZdT X (s.heap.objs.size+1):=Zdv I (Nat.le_succ _);have fresh:∀a,s.heap.objs.size<=a->H a=none/\a≠X.env.locals/\a∉X.fs:=fun a ha=>⟨I.hok.fresh ha,fun z=>absurd (z▸ha) (Nat.not_le.mpr I.lt),I.nofs ha⟩
 have old:∀p∈pins,p.1<s.heap.objs.size:=fun p hp=>Heap.lt_size (I.pin p (List.mem_append_right _ hp)).1;have nI:∀p∈pins,p.1≠s.heap.objs.size:=fun p hp=>Nat.ne_of_lt (old p hp);have nS:∀p∈pins,p.1≠s.heap.objs.size+1:=fun p hp=>Nat.ne_of_lt (Nat.lt_succ_of_lt (old p hp));have I0:L2.Inv X pins σ H {s with heap:=(s.heap.push oI).push (seqObj "list" #[] 0)}:=I.kept (t':=s.toks) fun b u e=>Heap.get?_push_of_some _ (Heap.get?_push_of_some _ e)
 have I1:L2.Inv X ((s.heap.objs.size,oI)::(s.heap.objs.size+1,seqObj "list" #[] 0)::pins) σ H {s with heap:=(s.heap.push oI).push (seqObj "list" #[] 0)}:=I0.pins_of fun p hp=>by
  obtain rfl|m:=List.mem_cons.mp hp
  ·exact⟨gI,(fresh _ (Nat.le_refl _)).1,(fresh _ (Nat.le_refl _)).2.1,(fresh _ (Nat.le_refl _)).2.2,fun v z=>by rw[<-ho] at z;cases z⟩
  ·obtain rfl|m:=List.mem_cons.mp m
   ·exact⟨gS,(fresh _ (Nat.le_succ _)).1,(fresh _ (Nat.le_succ _)).2.1,(fresh _ (Nat.le_succ _)).2.2,Yz⟩
   ·exact I0.pin p (List.mem_append_right _ m)
 have nIS:s.heap.objs.size+1≠s.heap.objs.size:=Nat.succ_ne_self _;have hit0:((s.heap.push oI).push (seqObj "list" #[] 0)).IsListIter s.heap.objs.size l 0:=⟨oI,gI,by rw[<-ho],by rw[<-ho];rfl⟩
 refine wpAny_pure (And.intro (plainId_quiet PySem.F.plain_min_loop _) ?_);generalize hs1:({s with heap:=(s.heap.push oI).push (seqObj "list" #[] 0)}:Shared)=s1 at I1
 have hit1:s1.heap.IsListIter s.heap.objs.size l 0:=by rw[<-hs1];exact hit0
 generalize s.heap.objs.size=it at*
 have two:∀p∈(it+1,seqObj "list" #[] 0)::pins,p.1≠it:=fun p hp=>by
  obtain rfl|m:=List.mem_cons.mp hp
  ·exact nIS
  ·exact nI p m
 have pS:=I1.pin (it+1,seqObj "list" #[] 0) (List.mem_append_right _ (.tail _ (.head _)));refine Ziw (fun z=>nomatch z) pS.1 (ZeN hh nl lI two hq (j:=0) (x:=x) rfl I1 hit1)
  (fun v h' tk ⟨rv,mv⟩=> ?_) (G:=fun v kv s2=>∃kx H2 o,ZC x v/\ZC kx kv/\L2.Inv X ((it,o)::(it+1,seqObj "list" #[] 0)::pins) σ H2 s2/\(∀h2:Heap,h2.get? it=some o->h2.IsListIter it l (0+1))/\mnk X.K sp l (x::xs) xs x kx H2 Q) fun v kv s2 ⟨kx,H2,o,rv,rkx,J2,hi2,mk⟩=> ?_
 ·obtain⟨o,J1,hi1⟩:=mv tk;exact wpAny_mono (ZeM F hb hr J1 rv h) (fun kv s2 ⟨kx,H2,J2,rkx,rest⟩=>⟨kx,H2,o,rv,rkx,J2,hi1,rest⟩) fun _ _ z=>z
 ·have pS2:=J2.pin (it+1,seqObj "list" #[] 0) (List.mem_append_right _ (.tail _ (.head _)));have J4:=Zcu (Zby (Zcu J2) lS (fun p hp=>by
   obtain rfl|m:=List.mem_cons.mp hp
   ·exact fun z=>nIS z.symm
   ·exact nS p m) Yl (get?_update_seq pS2.1 fun _=> #[v,kv]) Yz)
  exact⟨pS2.1,Zix (xs:=x::xs) hh F hb hr lI lS nIS nl nI nS xs 1 H2 _ x kx v kv _ o rfl (Nat.succ_le_succ (Nat.zero_le _)) J4 (hi2 _ (J4.pin (it,o) (List.mem_append_right _ (.head _))).1) rv rkx mk⟩
def ZmH(K:PySem.W.Frag)(sp:Sp)(t:TA):TE:=fun σ H Q=>t σ H fun vs H1=>∃(l:Addr) (x:V) (xs:List V),vs=[.ref l]/\SqL K H1 l (x::xs)/\sp [x] H1 (fun k H2=>mnk K sp l (x::xs) xs x k H2 Q) fun _ _ _=>False
theorem ZkS{k:Nat}{x p:Str}{sp:Sp}{e:PySem.Expr}{t:TA}{p0 p1 p2 pos:Pos}(c:Cal X.prog X.w X.K X.mg X.base CX0 k x [p] sp)(hr:YK (k+2) X.A)(hg:Gl X "min")(hm:X.mg "min"=none)(hgx:Gl X x)(ha:PA X [e] t)(hdb:(x==("__debug__":Str))=false:=by decide)
  (hs:starEach [e] X.env=[(false,eval e X.env)]:=by rfl):PE X (.Call (.Name "min" p0) [e] [⟨some "key",.Name x p1,p2⟩] pos) (ZmH X.K sp t):=by
 intro pins s σ H Q I h;obtain⟨f,fd,hmx,hkp,hb,F⟩:=c.ex;refine wpAny_Call_Name_kw (ZcE I hg hm Zjd ?_ (by decide) (by decide));refine callWith_kw (thn (ha pos pins s σ H _ I h) fun us s1 z=> ?_) (by rw[hs];rfl) (by rw[hs];rfl)
 obtain⟨vs,H1,I1,r1,q1⟩:=z;obtain⟨l,x,xs,rfl,hq,hk⟩:=q1;obtain⟨u,rfl,ru⟩:=Zaj r1;cases ru;refine kws_cons (Zav I1 hgx hmx (kws_nil ?_) hdb);exact Ziy hr.hd F hb (hr.mono (Nat.le_succ _)) I1 hq hk
end
end L3
namespace L3
open PySem PySem.Spec PyProof.Rows L2
section
variable {P:Program} {w:World} (l:Addr) (xs:Array Value) (n:Nat) (d1:Option Addr) (s1:Array (Option Value)) (y:Value) (e:Nat->Bool)
theorem ZlU(k:Nat):∀i:Nat,xs.size-i=k->MeetsIn P w (Builtin.«list.__contains__.loop» ⟨[.ref l,y,rawInt i],[]⟩)
  (fun A R s=>s.heap.get? l=some (Zdh d1 xs n s1)/\(∀j (h1:j<xs.size),EqP P w A.in1 s xs[j] y (e j))/\R (.ok (.ret (.bool (((List.range xs.size).drop i).any e)))) s):=by
 induction k with
 |zero=>
  intro i hk A R s h;obtain⟨hq,gs,dr,tk,oss⟩:=s;obtain⟨u1,ue,q⟩:=h;have v1:xs[((i:Nat):Int).toNat]? =none:=by simp;omega
  have v3:(List.range xs.size).drop i=[]:=by simp;omega
  rw[v3] at q
  wp_walk using AutoSeq1.wpAny_loadPart' u1
  rw[v1]
  wp_walk
  exact q
 |succ k ih=>
  intro i hk A R s h;obtain⟨hq,gs,dr,tk,oss⟩:=s;obtain⟨u1,ue,q⟩:=h;have t1:i<xs.size:=by omega
  have v1:xs[((i:Nat):Int).toNat]? =some xs[i]:=by simp[t1]
  have v3:(List.range xs.size).drop i=i::(List.range xs.size).drop (i+1):=by simp[List.drop_eq_getElem_cons,t1]
  have v4:((i:Int)+1)=((i+1:Nat):Int):=by push_cast;rfl
  rw[v3,List.any_cons] at q
  wp_walk using AutoSeq1.wpAny_loadPart' u1
  rw[v1];refine wpAny_bind (ue i t1 _ _ ?_);cases ei:e i with
  |true=>
   rw[ei,Bool.true_or] at q
   wp_walk
   exact q
  |false=>
   rw[ei,Bool.false_or] at q
   wp_walk
   rw[v4];refine⟨plainId_quiet MeetsSeq.plain_contains_loop _,codeAny_builtin MeetsSeq.entry_contains_loop ?_⟩;rw[Around.under_plainId MeetsSeq.plain_contains_loop _];exact ih (i+1) (by omega) A R _ ⟨u1,ue,q⟩
theorem ZlV:MeetsIn P w (Builtin.«list.__contains__» ⟨[.ref l,y],[]⟩)
  (fun A R s=>s.heap.get? l=some (Zdh d1 xs n s1)/\(∀j (h1:j<xs.size),EqP P w A.in1 s xs[j] y (e j))/\R (.ok (.ret (.bool ((List.range xs.size).any e)))) s):=by
 intro A R s h;obtain⟨hq,gs,dr,tk,oss⟩:=s;obtain⟨u1,ue,q⟩:=h
 wp_walk using AutoSeq1.wpAny_loadPart' u1
 refine⟨plainId_quiet MeetsSeq.plain_contains_loop _,codeAny_builtin MeetsSeq.entry_contains_loop ?_⟩;rw[Around.under_plainId MeetsSeq.plain_contains_loop _];exact ZlU l xs n d1 s1 y e _ 0 rfl A R _ ⟨u1,ue,by simpa using q⟩
end
section
variable {X:Cx} {pins:List (Addr×Obj)} {σ:L2.St} {H:Hp} {s:Shared} {A:Around} {E:Value->Shared->Prop}
theorem ZjI{l:Addr}{xs:Array Value}{y:Value}{e:Nat->Bool}{Q:Value->Shared->Prop}(hl:s.heap.IsList l xs)(he:∀j (h1:j<xs.size),EqP X.prog X.w A.in1 s xs[j] y (e j))(q:∀b,b=(List.range xs.size).any e->Q (.bool b) s):
  wpAny (model X.prog X.w) A (call (.builtin "list.__contains__") [.ref l,y]) (fun v s'=>∃b,v=.bool b/\Q (.bool b) s') E s:=by
 obtain⟨⟨c1,d1,t1,s1⟩,o1,k1,n,e1⟩:=id hl;simp only at k1 e1
 subst k1 e1;exact call_meetsIn F.slot_list_contains hl.typeIs F.entry_list_contains (F.args_list_contains_2 _ _) (ZlV l xs n d1 s1 y e) ⟨o1,he,_,rfl,q _ rfl⟩
theorem Ziz{α:Type}(f:α->Bool)(d:α):∀l:List α,((List.range l.length).any fun j=>f (l.getD j d))=l.any f:=by
 intro l;have e:l=(List.range l.length).map fun j=>l.getD j d:=by
  apply List.ext_getElem
  ·simp
  ·intro i h1 h2;simp[h1]
 conv=>rhs;rw[e]
 rw[List.any_map]
 rfl
def ZmI(K:PySem.W.Frag)(neg:Bool):R2:=fun x y H Q=>∃p n d xs ds,y=.ref p/\n<=20/\SqL K H p xs/\Rep K H d x/\Zg6 K H ds xs/\(∀e∈ds,Jb n e d=true)/\Q (.bl (if neg then !(ds.any fun e=>Yy n e d) else ds.any fun e=>Yy n e d)) H
theorem ZkT(I:L2.Inv X pins σ H s){p:Addr}{n:Nat}{d:Dt}{x:V}{v:Value}{xs:List V}{ds:List Dt}(hn:n<=20)(hu:X.A.units+30<cLine)(rx:ZC x v)(r1:Rep X.K H d x)(rs:Zg6 X.K H ds xs)(lk:∀e∈ds,Jb n e d=true){us:List Value}(ru:ZJ xs us):
  ∀j (h1:j<us.toArray.size),EqP X.prog X.w X.A.in1 s us.toArray[j] v (Yy n (ds.getD j (.v .non)) d):=fun j h1=>by
 have h2:j<us.length:=by simpa using h1
 obtain⟨y,ry,rv⟩:=Zds rs ru j h2;have hj:j<ds.length:=by rw[Paired.length rs,ru.length];exact h2
 have m:ds.getD j (.v .non)∈ds:=by rw[List.getD_eq_getElem?_getD,List.getElem?_eq_getElem hj];exact List.getElem_mem hj
 rw[List.getElem_toArray];exact(Zci I n _ d y x _ v X.A.in1 ry r1 rv rx (lk _ m) (by show X.A.units+1+n<cLine;omega)).1
theorem ZiA(hu:X.A.units+30<cLine):OpR X (compareOp .NotIn) (ZmI X.K true):=by
 intro pins s σ H x y v u Q I rx ry h;obtain⟨p,n,d,xs,ds,rfl,hn,hq,r1,rs,lk,q⟩:=h;cases ry;obtain⟨us,ru,pl,_⟩:=I.list hq;show wpAny _ X.A (do return Value.bool (!(<-contains (.ref p) v))) _ _ s;refine wpAny_bind (wpAny_contains_slot pl.isList.typeIs F.slot_list_contains (wpAny_mono (ZjI (X:=X) (Q:=fun v s'=>∃b,v=.bool b/\EP X pins σ Q (.bool (!b)) s') pl.isList (ZkT (p:=p) I hn hu rx r1 rs lk ru) fun b hb=>⟨b,rfl,.bl (!b),H,I,rfl, ?_⟩) (fun v s' hv=> ?_) fun _ _ e=>e))
 ·have le:us.toArray.size=ds.length:=by rw[List.size_toArray,<-ru.length,Paired.length rs]
  rw[hb,le,Ziz (fun e=>Yy n e d)];exact q
 ·obtain⟨b,rfl,b',e,told⟩:=hv;cases e;exact wpAny_truthy_bool (wpAny_pure told)
theorem Zhk{K:PySem.W.Frag}(eK:X.K=K)(hu:X.A.units+30<cLine):OpR X (compareOp .NotIn) (ZmI K true):=by
 subst eK;exact ZiA hu
end
end L3
namespace L3
open PySem PySem.Spec PyProof.Rows L2 PySem.W PySem.Calls
section
variable {X:Cx}
theorem Zlf{pins:List (Addr×Obj)}{σ:L2.St}{H:Hp}{s:Shared}{a:Addr}{kvs:List (Key×V)}(I:L2.Inv X pins σ H s)(h:Rd H a (.dK kvs)):Yo X.prog X.w H s.heap a (.dK kvs):=by
 rcases h with h|⟨o,h⟩
 ·exact I.hok a _ h
 ·exact(I.hok a _ h).2
def JL(v a:Addr):HO:=.ext fun h=>h.IsValuesView v a
def ZkU(tl:TE):TE:=fun σ H Q=>tl σ H fun x H1=>∃a kvs,x=.ref a/\Rd H1 a (.dK kvs)/\∀v,H1 v=none->Q (.ref v) (upd H1 v (JL v a))
theorem ZiB{o:PySem.Expr}{to:TE}{apos cpos:Pos}(ho:PE X o to)
  (hb:attributeBase o "values" X.env (eval o X.env)=eval o X.env:=by rfl)(hline:(apos.endLine==cpos.line)=true:=by rfl):PE X (.Call (.Attribute o "values" apos) [] [] cpos) (ZkU to):=by
 intro pins s σ H Q I h;refine wpAny_Call_method0_late hb hline (thn (ho pins s σ H _ I h) fun v s1 ⟨x,H1,I1,r1,a,kvs,e,ha,q1⟩=> ?_);subst e;cases r1;obtain⟨t1,t2,_⟩:=Zj7 I1 (.inl ⟨kvs,ha⟩);obtain⟨z1,z2,vs,z3,z4⟩:=Zlf I1 ha;refine⟨"dict","dict.values",F.plainAttrs_dict,F.slot_dict_values,F.type_dict_values,t1,t2,Calls.callWith_builtin rfl (PySem.evalArgs_none ?_)⟩;refine call_meetsIn F.slot_dict_values t1 F.entry_dict_values (F.args_dict_values_1 _) (meets_dict_values (Yc X.prog X.w) a z2) ⟨⟨vs,z4⟩, ?_⟩
 refine⟨.ref _,_,I1.laid (a:=s1.heap.objs.size) (o:=JL s1.heap.objs.size a) (t':=s1.toks) (fun b q hq=>Heap.get?_push_of_some _ hq) (Nat.le_refl _) ?_,rfl,q1 _ I1.fresh⟩;refine⟨⟨_,Heap.get?_push_size _ rfl,rfl,rfl⟩,⟨_,Heap.get?_push_size _ rfl⟩,fun g1 g2 z k=> ?_⟩;obtain⟨ob,e1,e2⟩:=z;exact⟨ob,k _ e1,e2⟩
theorem Zhl(hc:X.calm=true):JF X (.builtin "max") (fun xs H Q=>∃(v a:Addr) (c:List (Key×Int)),xs=[.ref v]/\H v=some (JL v a)/\Rd H a (.dK (c.map fun p=>(p.1,V.int p.2)))/\c≠[]/\∀M,Zb3 (c.map (·.2)) M->Q (.int M) H):=by
 intro pins s σ H xs us Q I r h;obtain⟨v,a,c,rfl,hv,ha,hne,q⟩:=h;obtain⟨u,rfl,rx⟩:=Zaj r;cases rx;have vw:s.heap.IsValuesView v a:=(I.hok v _ hv).1;obtain⟨z1,z2,vs,z3,z4⟩:=Zlf I ha;obtain⟨ep,hat⟩:=z4.dictAt;have el:vs.length=c.length:=by have:=Paired.length z3;rw[List.length_map] at this;exact this.symm
 have hlt:=hat.lt_size;refine call_max_walk (wpAny_pyIter_values vw hat ?_);have at1:∀(i:Nat) (w:Value),(∃k,vs[i]? =some (k,w))->∃t,w=.int (((c[i]?).map (·.2)).getD 0) t:=fun i w ⟨k,e⟩=>by
  have hi:i<c.length:=by rw[<-el];exact(List.getElem?_eq_some_iff.mp e).1
  obtain⟨u,e1,e2⟩:=ZhI z3 (i:=i) (p:=(c[i].1,V.int c[i].2)) (by rw[List.getElem?_map,List.getElem?_eq_getElem hi];rfl)
  rw[e] at e1
  obtain⟨t,e3⟩:=e2;have e4:w=u:=congrArg Prod.snd (Option.some.inj e1);exact⟨t,by rw[e4,e3,List.getElem?_eq_getElem hi];rfl⟩
 have W:=Walks.dictValues (prog:=X.prog) (w:=X.w) (knd:=Yc X.prog X.w) (A:=X.A.in1) (I.ok.hd hc) s.heap.objs.size a (Nat.ne_of_lt hlt) vs ep;have hpos:0<vs.length:=by rw[el];exact List.length_pos_iff.mpr hne
 refine⟨_,_,_,_,_,_,_,rfl,W,⟨⟨_,Heap.get?_push_size _ rfl,rfl,rfl⟩,hat.push _⟩,fun b hb=> ?_,hpos,CmpOf.ints_gt (fun i=>((c[i]?).map (·.2)).getD 0) at1,fun w h' tk hP hk=> ?_⟩
 ·have sz:(s.heap.push {cls:=.type "dict_valueiterator",data:=.fields #[.ref a,.int 0 0,.int vs.length 0,.int ep 0]}).objs.size=s.heap.objs.size+1:=size_push' ..;have all:∀b∈[s.heap.objs.size,a],b<s.heap.objs.size+1:=List.forall_mem_cons.mpr ⟨Nat.lt_succ_self _,fun b m=>(List.mem_singleton.mp m)▸Nat.lt_succ_of_lt hlt⟩;rw[<-sz] at all
  exact all b hb
 ·obtain⟨b1,b2⟩:=argBest_gt (fun i=>((c[i]?).map (·.2)).getD 0) (vs.length-1);obtain⟨t,rfl⟩:=at1 _ _ hP;have k2:∀b o,s.heap.get? b=some o->h'.get? b=some o:=fun b o e=>hk b o (fun z=>absurd (Heap.lt_size e) (by rw[List.mem_singleton.mp z];exact Nat.lt_irrefl _)) (Heap.get?_push_of_some _ e)
  refine⟨.int _,H,I.kept (t':=tk) k2,⟨t,rfl⟩,q _ ⟨?_,fun z hz=> ?_⟩⟩
  ·generalize argBest (fun i j=>decide (((c[i]?).map (·.2)).getD 0>((c[j]?).map (·.2)).getD 0)) (vs.length-1)=m at b1
   have hm:m<c.length:=by omega
   rw[List.getElem?_eq_getElem hm];exact List.mem_map.mpr ⟨c[m],List.getElem_mem hm,rfl⟩
  ·obtain⟨p,hp,rfl⟩:=List.mem_map.mp hz;obtain⟨j,hj,rfl⟩:=List.getElem_of_mem hp;have:=b2 j (by omega);simp only [List.getElem?_eq_getElem hj] at this
   exact this
end
end L3
namespace L3
open PySem PySem.Spec PyProof.Rows L2 PySem.W PySem.Calls
section
variable {X:Cx} {pins:List (Addr×Obj)} {σ:L2.St} {H:Hp} {s:Shared} {a:Addr} {kvs:List (Key×V)} {k:Key} {u:Value} {A:Around} {E:Value->Shared->Prop}
end
section
variable {X:Cx} {o e f:PySem.Expr} {apos cpos:Pos} {td ty tx:TE}
end
end L3
namespace K15
open PySem PySem.Spec PyProof.Rows L2 L3 M1 M2 M3
set_option maxHeartbeats 5000000
def top(i:Nat):Stmt:=PySem.Challenge.pw_disposehall_k15_lives_that_part.main.body.getD i (.Pass ⟨0,0,0,0⟩)
abbrev Zfo:Stmt:=top 11
abbrev Zfp:Stmt:=top 12
abbrev Zfq:Stmt:=top 13
abbrev ZcQ:Stmt:=top 14
abbrev ZbR:Stmt:=top 17
abbrev ZbS:Stmt:=top 18
abbrev Zfr:Stmt:=top 19
abbrev ZcR:Stmt:=top 20
abbrev ZaJ:Stmt:=top 21
abbrev ZdX:Stmt:=top 22
abbrev ZcS:Stmt:=top 24
abbrev ZcT:Stmt:=top 25
abbrev ZcU:Stmt:=top 26
abbrev Za5:Stmt:=top 28
abbrev Zbd:Stmt:=top 29
abbrev Za6:Stmt:=top 30
abbrev Js:Stmt:=top 31
abbrev Za7:Stmt:=top 32
abbrev ZbT:Stmt:=top 33
abbrev ZcV:Stmt:=top 34
abbrev Za8:Stmt:=top 35
abbrev ZbU:Stmt:=top 36
abbrev Zcv:Stmt:=top 37
abbrev Zbe:Stmt:=Zbs (top 6) 0
abbrev ZaK:Stmt:=Zbs (top 7) 0
abbrev Zbf:Stmt:=Zbs (top 7) 1
abbrev Za0:Stmt:=Zbs (top 8) 0
abbrev Zbg:Stmt:=Zbs (top 9) 0
abbrev Za9:Stmt:=Zbs (top 10) 0
structure Txt (K:PySem.W.Frag) (mg:Str->Option Value) (t_MOST_CLAUSES:Tok) (Zk:Addr) (Zd:Addr) (Ze:Addr) (Zb:Addr):Prop where
 g_MOST_CLAUSES:mg "MOST_CLAUSES"=some (.int 40 t_MOST_CLAUSES)
 z_abs:mg "abs"=none
 z_all:mg "all"=none
 z_any:mg "any"=none
 z_bool:mg "bool"=none
 z_dict:mg "dict"=none
 z_int:mg "int"=none
 z_isinstance:mg "isinstance"=none
 z_len:mg "len"=none
 z_max:mg "max"=none
 z_min:mg "min"=none
 z_range:mg "range"=none
 z_sorted:mg "sorted"=none
 z_str:mg "str"=none
 kib:PySem.W.kitOne K (.type "int") (.type "bool")=some false
 kii:PySem.W.kitOne K (.type "int") (.type "int")=some true
 kdd:PySem.W.kitOne K (.type "dict") (.type "dict")=some true
 kss:PySem.W.kitOne K (.type "str") (.type "str")=some true
 cl_Never:Cls K Zk
 ty_Never:TyC K Zk
 cl_After:Cls K Zd
 n_After_kind:Xd K Zd "kind"
 n_After_days:Xd K Zd "days"
 ty_After:TyC K Zd
 cl_Later:Cls K Ze
 n_Later_one:Xd K Ze "one"
 n_Later_other:Xd K Ze "other"
 ty_Later:TyC K Ze
 cl_Earlier:Cls K Zb
 n_Earlier_one:Xd K Zb "one"
 n_Earlier_other:Xd K Zb "other"
 ty_Earlier:TyC K Zb
 mg_After:mg "After"=some (.ref Zd)
 mg_Earlier:mg "Earlier"=some (.ref Zb)
 mg_Later:mg "Later"=some (.ref Ze)
 k_Never_After:PySem.W.kitOne K (.ref Zk) (.ref Zd)=some false
 k_Never_Earlier:PySem.W.kitOne K (.ref Zk) (.ref Zb)=some false
 k_Never_Later:PySem.W.kitOne K (.ref Zk) (.ref Ze)=some false
 k_After_After:PySem.W.kitOne K (.ref Zd) (.ref Zd)=some true
 k_After_Earlier:PySem.W.kitOne K (.ref Zd) (.ref Zb)=some false
 k_After_Later:PySem.W.kitOne K (.ref Zd) (.ref Ze)=some false
 k_Later_After:PySem.W.kitOne K (.ref Ze) (.ref Zd)=some false
 k_Later_Earlier:PySem.W.kitOne K (.ref Ze) (.ref Zb)=some false
 k_Later_Later:PySem.W.kitOne K (.ref Ze) (.ref Ze)=some true
 k_Earlier_After:PySem.W.kitOne K (.ref Zb) (.ref Zd)=some false
 k_Earlier_Earlier:PySem.W.kitOne K (.ref Zb) (.ref Zb)=some true
 k_Earlier_Later:PySem.W.kitOne K (.ref Zb) (.ref Ze)=some false
 ne_Never_After:Zk≠Zd
 ne_Never_Later:Zk≠Ze
 ne_Never_Earlier:Zk≠Zb
 ne_After_Later:Zd≠Ze
 ne_After_Earlier:Zd≠Zb
 ne_Later_Earlier:Ze≠Zb
theorem JM:100000<=sizeLine:=by rw[sizeLine_eq];decide
theorem sl{n:Nat}(h:n<=100000:=by decide):n<=sizeLine:=Nat.le_trans h JM
theorem Zj{H:Hp}{p:Addr}{o:HO}(h:H p=none):Zx H (upd H p o):=fun b u e=>by rw[Zf (Zn e h)];exact e
theorem ZkV(x:Str)(c:Nat):(x++⟨#[c]⟩:Str).length=x.length+1:=strLen_append x ⟨#[c]⟩
theorem Zgl{α:Type}{xs:List α}{i:Int}(h0: -(xs.length:Int)<=i)(h1:i<xs.length):∃v,atI xs i=some v:=by
 unfold atI ixN
 by_cases h:0<=i
 ·rw[if_pos h,if_pos h1];exact⟨_,List.getElem?_eq_getElem (by omega)⟩
 ·rw[if_neg h,if_pos h0];exact⟨_,List.getElem?_eq_getElem (by omega)⟩
theorem ZjJ{ns:List Int}{i:Int}(h0: -(ns.length:Int)<=i)(h1:i<ns.length):∃c,c∈ns/\atI (ns.map V.int) i=some (.int c):=by
 obtain⟨v,e⟩:=Zgl (xs:=ns.map V.int) (i:=i) (by rw[List.length_map];exact h0) (by rw[List.length_map];exact h1)
 obtain⟨j,_,hj,_⟩:=Zcb e;rw[List.getElem?_map] at hj
 cases q:ns[j]? with
 |none=>rw[q] at hj;cases hj
 |some c=>
  rw[q] at hj
  cases hj;exact⟨c,List.mem_of_getElem? q,e⟩
theorem ZkW{Q:VK}{a b:V}{H:Hp}(q:Q a H)(e:a=b):Q b H:=e▸q
theorem Zdk{c A B:Prop} [Decidable c](hc:c)(h:A):if decide c=true then A else B:=by
 rw[decide_eq_true hc];exact Jo h
theorem ZkX(k:Nat):((10:Int)^k)=((10^k:Nat):Int):=by simp
theorem ZjK{k:Int}(h0:0<=k)(h1:k<=1000):Zmc 10 k:=⟨h0,by omega,by decide⟩
theorem pow_pos(k:Nat):(0:Int)<10^k:=by rw[ZkX];exact Int.natCast_pos.mpr (Nat.pow_pos (by decide))
theorem ixT{K:PySem.W.Frag}{i:Nat}{j:Int}{σ:L2.St}{H:Hp}{Q:VK}{a:Addr}{xs:List V}{v:V}(e:σ[i]? =some (some (.ref a)))(h:SqT K H a xs)(m:atI xs j=some v)(k:Q v H):tOp (Zmi K) (Zi3 i) (tC (.int j)) σ H Q:=⟨_,e,a,_,_,_,rfl,rfl,h,m,k⟩
theorem vI{C:Int->Int->Prop}{g:Int->Int->V}{i:Nat}{σ:L2.St}{H:Hp}{Q:VK}{a k:Int}(e:σ[i]? =some (some (.int a)))(c:C a k)(q:Q (g a k) H):tOp (rI C g) (Zi3 i) (tC (.int k)) σ H Q:=⟨_,e,a,k,rfl,rfl,c,q⟩
theorem vEq{i:Nat}{σ:L2.St}{H:Hp}{k:Bool->Hp->Prop}{x v:V}(e:σ[i]? =some (some x))(f:Zkh x v=true)(q:k (decide (x=v)) H):Zl6 (tOp rEq (Zi3 i) (tC v)) σ H k:=⟨_,e,f,_,rfl,q⟩
def Nm(z:Str):Prop:=1<=z.length/\z.length<=12/\∀c∈cs z,97<=c/\c<=122
def Xv:Sp:=fun vs H Q _=>∃n k:Int,vs=[.int n,.int k]/\∀(z:Str) H',Nm z->Zx H H'->Q (.str z) H'
def JN:Sp:=fun vs H Q _=>∃c n:Int,vs=[.int c,.int n]/\∀(l:Tb) (p:Addr) (H':Hp),(l.map (·.1)).Nodup->l.length<=6->H p=none->Zx H H'->H' p=some (.dK (kk l))->Q (.ref p) H'
def ZaL:Sp:=fun vs H Q _=>∃i:Int,vs=[.int i]/\∀H',Zx H H'->Q (.bl true) H'
inductive Tr where
 |never|after (k:Str) (d:Int)|later (x y:Tr)|earlier (x y:Tr)
def Tr.deep:Tr->Nat
 | .never=>0
 | .after _ _=>0
 | .later x y=>max x.deep y.deep+1
 | .earlier x y=>max x.deep y.deep+1
def Tr.cnt:Tr->Nat
 | .never=>1
 | .after _ _=>1
 | .later x y=>x.cnt+y.cnt
 | .earlier x y=>x.cnt+y.cnt
def ZbV:Option Int->Option Int->Option Int
 |some a,some b=>some (if b>a then b else a)
 |_,_=>none
def Xw:Option Int->Option Int->Option Int
 |none,o=>o
 |some a,none=>some a
 |some a,some b=>some (if b<a then b else a)
def Tr.due(l:Tb):Tr->Option Int
 | .never=>none
 | .after k d=>(lk l k).map (· +d)
 | .later x y=>ZbV (x.due l) (y.due l)
 | .earlier x y=>Xw (x.due l) (y.due l)
def oV:Option Int->V
 |some i=> .int i
 |none=> .non
def fA(k:Str)(d:Int):List (Str×V):=Zal "days" (.int d) (Zal "kind" (.str k) [])
def fP(p q:Addr):List (Str×V):=Zal "other" (.ref q) (Zal "one" (.ref p) [])
def Yk(cn ca cl ce:Addr)(H:Hp):Tr->Addr->Prop
 | .never,a=>∃dx,H a=some (.ins cn dx [])
 | .after k d,a=>∃dx,H a=some (.ins ca dx (fA k d))
 | .later x y,a=>∃dx p q,H a=some (.ins cl dx (fP p q))/\Yk cn ca cl ce H x p/\Yk cn ca cl ce H y q
 | .earlier x y,a=>∃dx p q,H a=some (.ins ce dx (fP p q))/\Yk cn ca cl ce H x p/\Yk cn ca cl ce H y q
def ZeO(cn ca cl ce:Addr):Tr->Addr
 | .never=>cn
 | .after _ _=>ca
 | .later _ _=>cl
 | .earlier _ _=>ce
def Zaa(C:Addr):Sp:=fun vs H Q _=>∃(x dx:Addr) (k:Str) (d:Int),vs=[.ref x,.str k,.int d]/\H x=some (.ins C dx [])/\Q .non (upd H x (.ins C dx (fA k d)))
def Xx(C:Addr):Sp:=fun vs H Q _=>∃(x dx p q:Addr),vs=[.ref x,.ref p,.ref q]/\H x=some (.ins C dx [])/\Q .non (upd H x (.ins C dx (fP p q)))
def ZdY(cn ca cl ce:Addr):Sp:=fun vs H Q _=>vs=[]/\∀a H',Zx H H'->H a=none->Yk cn ca cl ce H' .never a->Q (.ref a) H'
def ZdZ(cn ca cl ce:Addr):Sp:=fun vs H Q _=>∃(k:Str) (d:Int),vs=[.str k,.int d]/\∀a H',Zx H H'->H a=none->Yk cn ca cl ce H' (.after k d) a->Q (.ref a) H'
def Ze0(cn ca cl ce:Addr):Sp:=fun vs H Q _=>∃(p q:Addr) (x y:Tr),vs=[.ref p,.ref q]/\Yk cn ca cl ce H x p/\Yk cn ca cl ce H y q/\∀a H',Zx H H'->H a=none->Yk cn ca cl ce H' (.later x y) a->Q (.ref a) H'
def ZbW(cn ca cl ce:Addr):Sp:=fun vs H Q _=>∃(p q:Addr) (x y:Tr),vs=[.ref p,.ref q]/\Yk cn ca cl ce H x p/\Yk cn ca cl ce H y q/\∀a H',Zx H H'->H a=none->Yk cn ca cl ce H' (.earlier x y) a->Q (.ref a) H'
def ZaM(cn ca cl ce:Addr)(n:Nat)(C:Addr):Sp:=fun vs H Q _=>∃(a b:Addr) (t:Tr) (l:Tb),vs=[.ref a,.ref b]/\Yk cn ca cl ce H t a/\t.deep<n/\ZeO cn ca cl ce t=C/\Rd H b (.dK (kk l))/\∀H',Zx H H'->Q (oV (t.due l)) H'
theorem Zcw{cn ca cl ce C:Addr}:∀vs H Q E,¬ZaM cn ca cl ce 0 C vs H Q E:=fun _ _ _ _ ⟨_,_,t,_,_,_,z,_⟩=>Nat.not_lt_zero t.deep z
def Yv(H:Hp):Tr->Addr->Prop
 | .never,a=>H a=some (.tup [.str (Str.ofString "never")])
 | .after k d,a=>H a=some (.tup [.str (Str.ofString "after"),.str k,.int d])
 | .later x y,a=>∃p q,H a=some (.tup [.str (Str.ofString "later"),.ref p,.ref q])/\Yv H x p/\Yv H y q
 | .earlier x y,a=>∃p q,H a=some (.tup [.str (Str.ofString "earlier"),.ref p,.ref q])/\Yv H x p/\Yv H y q
def Je(cn ca cl ce:Addr)(n:Nat):Sp:=fun vs H Q _=>∃(a:Addr) (t:Tr),vs=[.ref a]/\Yv H t a/\t.deep<n/\∀p H',Zx H H'->Yk cn ca cl ce H' t p->Q (.ref p) H'
def JP(n:Nat):Sp:=fun vs H Q _=>∃(a b:Addr) (t:Tr) (l:Tb),vs=[.ref a,.ref b]/\Yv H t a/\t.deep<n/\Rd H b (.dK (kk l))/\∀H',Zx H H'->Q (oV (t.due l)) H'
theorem Zei{cn ca cl ce:Addr}:∀vs H Q E,¬Je cn ca cl ce 0 vs H Q E:=fun _ _ _ _ ⟨_,t,_,_,z,_⟩=>Nat.not_lt_zero t.deep z
theorem Zfs:∀vs H Q E,¬JP 0 vs H Q E:=fun _ _ _ _ ⟨_,_,t,_,_,_,z,_⟩=>Nat.not_lt_zero t.deep z
def XJ:Sp:=fun vs H Q _=>∃c:Int,vs=[.int c]/\∀(d:Int) H',0<=d->d<10^40->Zx H H'->Q (.int d) H'
def Tr.good:Tr->Prop
 | .never=>True
 | .after k d=>Nm k/\0<=d/\d<10^40
 | .later x y=>x.good/\y.good
 | .earlier x y=>x.good/\y.good
def JQ:Sp:=fun vs H Q _=>∃(a:Addr) (ns:List Int) (b:Int),vs=[.ref a,.int b,.int 7]/\H a=some (.lst (ns.map V.int))/\ns.length<=1000/\∀p (t:Tr) H',Zx H H'->Yv H' t p->t.cnt<=7->t.good->Q (.ref p) H'
def Zr:Tr->List Tb
 | .never=>[]
 | .after k d=>[[(k,d)]]
 | .later a b=>M4.ZcO (M4.Yn M4.Yt ((Zr a).flatMap fun x=>(Zr b).map fun y=>M4.norm (M4.YB x y)))
 | .earlier a b=>M4.ZcO (M4.Yn M4.Yt (Zr a++Zr b))
def ZbK:Tr->Tb->Int->Prop
 | .never,_,_=>False
 | .after k d,l,x=>∃u,lk l k=some u/\u+d<=x
 | .later a b,l,x=>ZbK a l x/\ZbK b l x
 | .earlier a b,l,x=>ZbK a l x\/ZbK b l x
theorem Zcx{cs:List Tb}{c:Tb}(h:c∈M4.ZcO cs):c∈cs:=by
 obtain⟨r,e,s⟩:=M4.JK cs [];have:c∈r:=by
  unfold M4.ZcO at h
  rw[e] at h
  simpa using h
 exact s.subset this
theorem Zgm(cs:List Tb):(M4.ZcO cs).length<=cs.length:=by
 obtain⟨r,e,s⟩:=M4.JK cs [];unfold M4.ZcO;rw[e,List.nil_append];exact s.length_le
theorem YJ{cs:List Tb}{c:Tb}:c∈M4.Yn M4.Yt cs↔c∈cs:=(M4.XF cs).mem_iff
theorem Zan(cs:List Tb):(M4.Yn M4.Yt cs).length=cs.length:=(M4.XF cs).length_eq
theorem Zao{as bs:List Tb}{c:Tb}(h:c∈as.flatMap fun x=>bs.map fun y=>M4.norm (M4.YB x y)):∃x∈as,∃y∈bs,c=M4.norm (M4.YB x y):=by
 obtain⟨x,hx,h⟩:=List.mem_flatMap.mp h;obtain⟨y,hy,e⟩:=List.mem_map.mp h;exact⟨x,hx,y,hy,e.symm⟩
theorem ZK:∀(t:Tr),∀c∈Zr t,M4.Nf c/\c≠[]
 | .never,c,h=>nomatch h
 | .after k d,c,h=>by
  have e:c=[(k,d)]:=by simpa [Zr] using h
  subst e;exact⟨⟨List.nodup_cons.mpr ⟨(fun z=>nomatch z),List.nodup_nil⟩,List.pairwise_singleton _ _⟩,by simp⟩
 | .later a b,c,h=>by
  obtain⟨x,hx,y,hy,rfl⟩:=Zao (YJ.mp (Zcx h));have nx:=ZK a x hx;have ny:=ZK b y hy;refine⟨M4.ZhT (M4.Jx nx.1.nd),fun z=>M4.ZkQ nx.2 ny.1.nd nx.1.nd ?_⟩;have:=M4.YG (M4.YB x y);rw[z] at this
  exact List.eq_nil_of_length_eq_zero this.symm
 | .earlier a b,c,h=>by
  rcases List.mem_append.mp (YJ.mp (Zcx h)) with z|z
  ·exact ZK a c z
  ·exact ZK b c z
theorem Zgn{cs:List Tb}{l:Tb}{x:Int}:M4.Ups (M4.Yn M4.Yt cs) l x↔M4.Ups cs l x:=
 ⟨fun⟨c,h,u⟩=>⟨c,YJ.mp h,u⟩,fun⟨c,h,u⟩=>⟨c,YJ.mpr h,u⟩⟩
theorem YM:∀(t:Tr) (l:Tb) (x:Int),M4.Ups (Zr t) l x↔ZbK t l x
 | .never,l,x=>⟨fun⟨_,h,_⟩=>(nomatch h),fun h=>h.elim⟩
 | .after k d,l,x=>⟨fun⟨c,h,u⟩=>by
   have e:c=[(k,d)]:=by simpa [Zr] using h
   subst e;exact u (k,d) (List.mem_cons_self ..),fun⟨u,e,q⟩=>⟨[(k,d)],List.mem_cons_self ..,fun p hp=>by
    have e2:p=(k,d):=by simpa using hp
    subst e2;exact⟨u,e,q⟩⟩⟩
 | .later a b,l,x=>by
  have nf:∀c∈M4.Yn M4.Yt ((Zr a).flatMap fun x=>(Zr b).map fun y=>M4.norm (M4.YB x y)),M4.Nd c:=fun c hc=>by
   obtain⟨x,hx,y,hy,rfl⟩:=Zao (YJ.mp hc);exact M4.Zdy (M4.Jx (ZK a x hx).1.nd)
  have e:=M4.Zfn l x _ [] nf;rw[List.nil_append] at e
  refine(e.trans Zgn).trans ⟨fun⟨c,hc,u⟩=> ?_,fun⟨h1,h2⟩=> ?_⟩
  ·obtain⟨y,hy,z,hz,rfl⟩:=Zao hc;obtain⟨u1,u2⟩:=(M4.ZhS (ZK a y hy).1.nd (ZK b z hz).1.nd).mp (M4.ZhR.mp u);exact⟨(YM a l x).mp ⟨y,hy,u1⟩,(YM b l x).mp ⟨z,hz,u2⟩⟩
  ·obtain⟨y,hy,u1⟩:=(YM a l x).mpr h1;obtain⟨z,hz,u2⟩:=(YM b l x).mpr h2;exact⟨_,List.mem_flatMap.mpr ⟨y,hy,List.mem_map.mpr ⟨z,hz,rfl⟩⟩,M4.ZhR.mpr ((M4.ZhS (ZK a y hy).1.nd (ZK b z hz).1.nd).mpr ⟨u1,u2⟩)⟩
 | .earlier a b,l,x=>by
  have nf:∀c∈M4.Yn M4.Yt (Zr a++Zr b),M4.Nd c:=fun c hc=>by
   rcases List.mem_append.mp (YJ.mp hc) with z|z
   ·exact(ZK a c z).1.nd
   ·exact(ZK b c z).1.nd
  have e:=M4.Zfn l x _ [] nf;rw[List.nil_append] at e
  refine(e.trans Zgn).trans ⟨fun⟨c,hc,u⟩=> ?_,fun h=> ?_⟩
  ·rcases List.mem_append.mp hc with z|z
   ·exact .inl ((YM a l x).mp ⟨c,z,u⟩)
   ·exact .inr ((YM b l x).mp ⟨c,z,u⟩)
  ·rcases h with h|h
   ·obtain⟨c,hc,u⟩:=(YM a l x).mpr h;exact⟨c,List.mem_append_left _ hc,u⟩
   ·obtain⟨c,hc,u⟩:=(YM b l x).mpr h;exact⟨c,List.mem_append_right _ hc,u⟩
theorem ZeP{cs:List Tb}(h:∀c∈cs,M4.Nf c):(M4.ZcO (M4.Yn M4.Yt cs)).Pairwise (fun a b=>Yp a b=false/\Yp b a=false)/\M4.Asc M4.Yt (M4.ZcO (M4.Yn M4.Yt cs)):=by
 have h':∀c∈[]++M4.Yn M4.Yt cs,M4.Nf c:=fun c hc=>h c (YJ.mp (by simpa using hc));refine⟨M4.ZdV (Good:=M4.Nf) (fun c z=>z.nd) (fun a b l ha hb z=>M4.ZeL l ha hb z) _ [] h' (by rw[List.nil_append];exact M4.XH M4.YZ cs) List.Pairwise.nil, ?_⟩
 obtain⟨r,e,s⟩:=M4.JK (M4.Yn M4.Yt cs) [];unfold M4.ZcO;rw[e,List.nil_append];exact(M4.XH M4.YZ cs).sublist s
theorem ZaN(t:Tr):(Zr t).Pairwise (fun a b=>Yp a b=false/\Yp b a=false)/\M4.Asc M4.Yt (Zr t):=by
 cases t with
 |never=>exact⟨List.Pairwise.nil,List.Pairwise.nil⟩
 |after k d=>exact⟨List.pairwise_singleton _ _,List.pairwise_singleton _ _⟩
 |later a b=>
  refine ZeP fun c hc=> ?_;obtain⟨x,hx,y,hy,rfl⟩:=Zao hc;exact M4.ZhT (M4.Jx (ZK a x hx).1.nd)
 |earlier a b=>
  refine ZeP fun c hc=> ?_;rcases List.mem_append.mp hc with z|z
  ·exact(ZK a c z).1
  ·exact(ZK b c z).1
def Jf(n:Nat):Nat:=[0,1,2,3,4,6,9,12,18,27,36].getD n 1000
theorem ZcW:∀a,a<11->∀b,b<11->a+b<11->Jf a*Jf b<=Jf (a+b)/\Jf a+Jf b<=Jf (a+b):=by decide
theorem Zgo(as bs:List Tb):(as.flatMap fun x=>bs.map fun y=>M4.norm (M4.YB x y)).length=as.length*bs.length:=by
 induction as with
 |nil=>simp
 |cons a as ih=>rw[List.flatMap_cons,List.length_append,ih,List.length_map,List.length_cons,Nat.succ_mul,Nat.add_comm]
theorem Za1:∀t:Tr,0<t.cnt
 | .never=>Nat.one_pos
 | .after _ _=>Nat.one_pos
 | .later x y=>Nat.add_pos_left (Za1 x) _
 | .earlier x y=>Nat.add_pos_left (Za1 x) _
theorem Zap:∀t:Tr,t.cnt<=10->(Zr t).length<=Jf t.cnt
 | .never,_=>Nat.zero_le _
 | .after _ _,_=>Nat.le_refl 1
 | .later x y,h=>by
  have h:x.cnt+y.cnt<=10:=h;have a:=Zap x (by omega);have b:=Zap y (by omega);have s:=(ZcW x.cnt (by omega) y.cnt (by omega) (by omega)).1;have l:=Zgm (M4.Yn M4.Yt ((Zr x).flatMap fun x=>(Zr y).map fun y=>M4.norm (M4.YB x y)));rw[Zan,Zgo] at l
  exact Nat.le_trans l (Nat.le_trans (Nat.mul_le_mul a b) s)
 | .earlier x y,h=>by
  have h:x.cnt+y.cnt<=10:=h;have a:=Zap x (by omega);have b:=Zap y (by omega);have s:=(ZcW x.cnt (by omega) y.cnt (by omega) (by omega)).2;have l:=Zgm (M4.Yn M4.Yt (Zr x++Zr y));rw[Zan,List.length_append] at l
  exact Nat.le_trans l (Nat.le_trans (Nat.add_le_add a b) s)
theorem ZbB:∀n,n<=10->Jf n<=36:=by decide
theorem Zhm{a b:Tb}(ha:M4.Nd a)(hb:M4.Nd b){p:Str×Int}(h:p∈M4.YB a b):p.1∈a.map (·.1)\/p.1∈b.map (·.1):=by
 have e:=(M4.YH (M4.Jx (b:=b) ha) (k:=p.1) (d:=p.2)).mpr h;rw[M4.ZaI hb] at e
 by_cases q:p.1∈b.map (·.1)
 ·exact .inr q
 ·rw[M4.Zfl q] at e
  exact .inl (List.mem_map.mpr ⟨p,(M4.YH ha).mp e,rfl⟩)
theorem ZeQ{a b:Tb}(ha:M4.Nd a)(hb:M4.Nd b):(M4.YB a b).length<=a.length+b.length:=by
 have:=(M4.Zdz (a:=(M4.YB a b).map (·.1)) (b:=a.map (·.1)++b.map (·.1)) (M4.Jx ha) fun k hk=>by
  obtain⟨p,hp,rfl⟩:=List.mem_map.mp hk;exact List.mem_append.mpr (Zhm ha hb hp)).1
 simpa using this
theorem YD:∀t:Tr,∀c∈Zr t,c.length<=t.cnt
 | .never,c,h=>nomatch h
 | .after k d,c,h=>by
  have e:c=[(k,d)]:=by simpa [Zr] using h
  subst e;exact Nat.le_refl _
 | .later a b,c,h=>by
  obtain⟨x,hx,y,hy,rfl⟩:=Zao (YJ.mp (Zcx h));rw[M4.YG];exact Nat.le_trans (ZeQ (ZK a x hx).1.nd (ZK b y hy).1.nd) (Nat.add_le_add (YD a x hx) (YD b y hy))
 | .earlier a b,c,h=>by
  rcases List.mem_append.mp (YJ.mp (Zcx h)) with z|z
  ·exact Nat.le_trans (YD a c z) (Nat.le_add_right _ _)
  ·exact Nat.le_trans (YD b c z) (Nat.le_add_left _ _)
def ZjL(v:Option Int)(U:Int->Prop):Prop:=∀x,U x↔∃m,v=some m/\m<=x
theorem ZjL.one{v v':Option Int}{U:Int->Prop}(h:ZjL v U)(h':ZjL v' U):v=v':=by
 cases v with
 |none=>
  cases v' with
  |none=>rfl
  |some m=>
   obtain⟨n,e,_⟩:=(h m).mp ((h' m).mpr ⟨m,rfl,Int.le_refl _⟩);cases e
 |some m=>
  have um:=(h m).mpr ⟨m,rfl,Int.le_refl _⟩;obtain⟨n,e,l⟩:=(h' m).mp um;subst e;have un:=(h' n).mpr ⟨n,rfl,Int.le_refl _⟩;obtain⟨k,e,l2⟩:=(h n).mp un;cases e;rw[Int.le_antisymm l l2]
theorem Za2(l:Tb):∀t:Tr,ZjL (t.due l) (ZbK t l)
 | .never=>fun x=>⟨fun h=>h.elim,fun⟨_,h,_⟩=>(nomatch h)⟩
 | .after k d=>fun x=>by
  unfold Tr.due ZbK;cases lk l k with
  |none=>exact⟨fun⟨_,h,_⟩=>(nomatch h),fun⟨_,h,_⟩=>(nomatch h)⟩
  |some u=>exact⟨fun⟨v,e,h⟩=>⟨u+d,rfl,by cases e;exact h⟩,fun⟨m,e,h⟩=>⟨u,rfl,by cases e;exact h⟩⟩
 | .later a b=>fun x=>by
  have ha:=Za2 l a x;have hb:=Za2 l b x;unfold Tr.due ZbK;rw[ha,hb];cases a.due l with
  |none=>exact⟨fun⟨⟨_,h,_⟩,_⟩=>(nomatch h),fun⟨_,h,_⟩=>(nomatch h)⟩
  |some i=>
   cases b.due l with
   |none=>exact⟨fun⟨_,_,h,_⟩=>(nomatch h),fun⟨_,h,_⟩=>(nomatch h)⟩
   |some j=>
    unfold ZbV
    constructor
    ·rintro⟨⟨_,e1,h1⟩,_,e2,h2⟩;cases e1;cases e2;exact⟨_,rfl,by split<;>omega⟩
    ·rintro⟨m,e,h⟩;cases e
     split at h
     ·exact⟨⟨i,rfl,by omega⟩,j,rfl,h⟩
     ·exact⟨⟨i,rfl,h⟩,j,rfl,by omega⟩
 | .earlier a b=>fun x=>by
  have ha:=Za2 l a x;have hb:=Za2 l b x;unfold Tr.due ZbK;rw[ha,hb];cases a.due l with
  |none=>
   unfold Xw;exact⟨fun h=>h.elim (fun⟨_,z,_⟩=>(nomatch z)) id,.inr⟩
  |some i=>
   cases b.due l with
   |none=>
    unfold Xw;exact⟨fun h=>h.elim id fun⟨_,z,_⟩=>(nomatch z),.inl⟩
   |some j=>
    unfold Xw
    constructor
    ·rintro(⟨_,e,h⟩|⟨_,e,h⟩)
     ·cases e;exact⟨_,rfl,by split<;>omega⟩
     ·cases e;exact⟨_,rfl,by split<;>omega⟩
    ·rintro⟨m,e,h⟩;cases e
     split at h
     ·exact .inr ⟨j,rfl,h⟩
     ·exact .inl ⟨i,rfl,h⟩
def ZcX(ws us:List Tb):List Tb:=ws.filter fun w=> !(us.any fun u=>decide (u=w))
def Xh(t u:Tr):List Tb:=ZcX (Zr t) (Zr u)++ZcX (Zr u) (Zr t)
def Zcy(c:Tb)(l:Tb):Prop:=∃(d:Tb) (M:Int),M4.Nd d/\M4.norm d=c/\Zb3 (d.map (·.2)) M/\l=d.map fun p=>(p.1,M-p.2)
theorem ZaO{ws us:List Tb}{w:Tb}(h:w∈ZcX ws us):w∈ws:=(List.mem_filter.mp h).1
theorem ZhU(ws us:List Tb):(ZcX ws us).length<=ws.length:=List.length_filter_le _ _
theorem Zaq{t u:Tr}{w:Tb}(h:w∈Xh t u):w≠[]/\w.length<=max t.cnt u.cnt:=by
 obtain hw|hw:=List.mem_append.mp h
 ·have m:=ZaO hw;have:=YD t w m;exact⟨(ZK t w m).2,by omega⟩
 ·have m:=ZaO hw;have:=YD u w m;exact⟨(ZK u w m).2,by omega⟩
theorem ZkY{c l:Tb}(h:Zcy c l):∃M:Int,M4.Up c l M/\∀d:Tb,M4.Up d l M->Yp d c=true:=by
 obtain⟨e,M,nd,rfl,_,rfl⟩:=h;have ndl:M4.Nd (e.map fun p=>(p.1,M-p.2)):=by
  show((e.map fun p=>(p.1,M-p.2)).map (·.1)).Nodup;rw[List.map_map];exact nd
 have lkl:∀p∈e,lk (e.map fun p=>(p.1,M-p.2)) p.1=some (M-p.2):=fun p hp=>(M4.YH ndl).mpr (List.mem_map.mpr ⟨p,hp,rfl⟩);refine⟨M,fun p hp=>⟨M-p.2,lkl p ((M4.YF e).mem_iff.mp hp),by omega⟩,fun d hd=>M4.JD.mpr fun q hq=> ?_⟩;obtain⟨u,e1,e2⟩:=hd q hq;have m:=(M4.YH ndl).mp e1;obtain⟨p,hp,e3⟩:=List.mem_map.mp m
 injection e3 with e3 e4
 refine⟨p.2, ?_,by omega⟩;rw[M4.Zct nd,<-e3];exact XR nd hp
theorem ZjM{ws us:List Tb}{w:Tb}(h:w∈ZcX ws us):w∉us:=fun z=>by
 have e:=(List.mem_filter.mp h).2;rw[Bool.not_eq_true'] at e
 exact absurd (decide_eq_true rfl) (List.any_eq_false.mp e w z)
theorem Zhn{ws us:List Tb}{w:Tb}(h:w∈ws)(n:w∉us):w∈ZcX ws us:=List.mem_filter.mpr ⟨h,by
 rw[Bool.not_eq_true'];exact List.any_eq_false.mpr fun d hd e=>n (of_decide_eq_true e▸hd)⟩
theorem ZjN{t:Tr}{c d:Tb}(hc:c∈Zr t)(hd:d∈Zr t)(h:Yp d c=true):d=c:=by
 obtain⟨m,hm,rfl⟩:=List.getElem_of_mem hc;obtain⟨j,hj,rfl⟩:=List.getElem_of_mem hd;have p:=List.pairwise_iff_getElem.mp (ZaN t).1;rcases Nat.lt_trichotomy m j with z|z|z
 ·have:=(p m j hm hj z).2;rw[h] at this
  cases this
 ·subst z;rfl
 ·have:=(p j m hj hm z).1;rw[h] at this
  cases this
theorem Zgp{t u:Tr}{c l:Tb}(hc:c∈ZcX (Zr t) (Zr u))(lo:∀d∈ZcX (Zr u) (Zr t),M4.Yt d c=false)(lf:Zcy c l):t.due l≠u.due l:=fun e=>by
 obtain⟨M,up,all⟩:=ZkY lf;have h1:ZbK t l M:=(YM t l M).mp ⟨c,ZaO hc,up⟩;have h2:=(Za2 l t M).mp h1;rw[e] at h2
 obtain⟨d,hd,ud⟩:=(YM u l M).mpr ((Za2 l u M).mpr h2);have b:=all d ud
 by_cases z:d∈Zr t
 ·exact ZjM hc (ZjN (ZaO hc) z b▸hd)
 ·have e2:=M4.ZeL (lo d (Zhn hd z)) (ZK t c (ZaO hc)).1 (ZK u d hd).1 b;exact ZjM hc (e2▸hd)
theorem ZeR{t u:Tr}{c l:Tb}(hc:c∈Xh t u)(lo:∀d∈Xh t u,M4.Yt d c=false)(lf:Zcy c l):t.due l≠u.due l:=by
 rcases List.mem_append.mp hc with z|z
 ·exact Zgp z (fun d hd=>lo d (List.mem_append_right _ hd)) lf
 ·exact fun e=>Zgp z (fun d hd=>lo d (List.mem_append_left _ hd)) lf e.symm
theorem ZeS{c l:Tb}(h:Zcy c l)(ne:c≠[]):M4.Nd l/\l≠[]/\∀p∈l,0<=p.2:=by
 obtain⟨e,M,nd,rfl,hM,rfl⟩:=h;refine⟨by show((e.map fun p=>(p.1,M-p.2)).map (·.1)).Nodup;rw[List.map_map];exact nd,fun z=>ne ?_,fun p hp=> ?_⟩
 ·rw[List.map_eq_nil_iff.mp z]
  rfl
 ·obtain⟨q,hq,rfl⟩:=List.mem_map.mp hp;have:=hM.2 q.2 (List.mem_map.mpr ⟨q,hq,rfl⟩);show 0<=M-q.2;omega
theorem ZiC{t u:Tr}(h:∀l:Tb,t.due l=u.due l):Zr t=Zr u:=by
 have none:Xh t u=[]:=by
  cases e:M4.Yn M4.Yt (Xh t u) with
  |nil=>
   have:=Zan (Xh t u);rw[e] at this
   exact List.eq_nil_of_length_eq_zero this.symm
  |cons c r=>
   exfalso
   have a:=M4.XH M4.YZ (Xh t u);rw[e] at a
   have mem:∀d,d∈Xh t u↔d∈c::r:=fun d=>by rw[<-e];exact YJ.symm
   have hc:=(mem c).mpr (List.mem_cons_self ..);have z:=Zaq hc;obtain⟨M,hM⟩:∃M,Zb3 (c.map (·.2)) M:=by
    have go:∀l:List Int,l≠[]->∃M,Zb3 l M:=by
     intro l
     induction l with
     |nil=>exact fun h=>absurd rfl h
     |cons x l ih=>
      intro _;cases l with
      |nil=>exact⟨x,List.mem_cons_self ..,fun a ha=>Int.le_of_eq (by simpa using ha)⟩
      |cons y l=>
       obtain⟨M,m1,m2⟩:=ih (by simp)
       by_cases k:x<=M
       ·exact⟨M,List.mem_cons_of_mem _ m1,fun a ha=>(List.mem_cons.mp ha).elim (fun w=>by omega) (m2 a)⟩
       ·exact⟨x,List.mem_cons_self ..,fun a ha=>(List.mem_cons.mp ha).elim (fun w=>by omega) fun w=>by have:=m2 a w;omega⟩
    exact go _ (fun w=>z.1 (List.map_eq_nil_iff.mp w))
   have nf:M4.Nf c:=by
    rcases List.mem_append.mp hc with w|w
    ·exact(ZK t c (ZaO w)).1
    ·exact(ZK u c (ZaO w)).1
   refine ZeR hc (fun d hd=> ?_) ⟨c,M,nf.nd,nf.norm,hM,rfl⟩ (h _);obtain rfl|w:=List.mem_cons.mp ((mem d).mp hd)
   ·exact M4.YZ.irr _
   ·exact(List.pairwise_cons.mp a).1 d w
 have sub:∀{a b:Tr},ZcX (Zr a) (Zr b)=[]->∀w∈Zr a,w∈Zr b:=fun{a b} e w hw=>by
  apply Classical.byContradiction
  intro n;have:=Zhn hw n;rw[e] at this
  cases this
 have e1:=(List.append_eq_nil_iff.mp none).1;have e2:=(List.append_eq_nil_iff.mp none).2;have nd:∀a:Tr,(Zr a).Nodup:=fun a=>(ZaN a).1.imp_of_mem fun{x y} hx hy r z=>by
  subst z;have:=M4.ZdU (ZK a x hx).1.nd;rw[r.1] at this
  cases this
 exact M4.Zdw M4.YZ (M4.Zbc (nd t) (nd u) fun x=>⟨sub e1 x,sub e2 x⟩) (ZaN t).2 (ZaN u).2
def Xg(n:Nat)(t:Tr):Prop:=∃s:Tr,s.cnt<=n/\∀l,t.due l=s.due l
theorem Xg.self{n:Nat}{t:Tr}(h:t.cnt<=n):Xg n t:=⟨t,h,fun _=>rfl⟩
theorem Xg.le{n m:Nat}{t:Tr}(h:Xg n t)(k:n<=m):Xg m t:=by
 obtain⟨s,a,b⟩:=h;exact⟨s,by omega,b⟩
theorem Xg.later{n m:Nat}{x y:Tr}(h:Xg n x)(k:Xg m y):Xg (n+m) (.later x y):=by
 obtain⟨s,a,b⟩:=h;obtain⟨s',a',b'⟩:=k;exact⟨.later s s',Nat.add_le_add a a',fun l=>by show ZbV _ _=ZbV _ _;rw[b,b']⟩
theorem Xg.earlier{n m:Nat}{x y:Tr}(h:Xg n x)(k:Xg m y):Xg (n+m) (.earlier x y):=by
 obtain⟨s,a,b⟩:=h;obtain⟨s',a',b'⟩:=k;exact⟨.earlier s s',Nat.add_le_add a a',fun l=>by show Xw _ _=Xw _ _;rw[b,b']⟩
theorem ZkZ:∀b,b<11->∀a,a<=b->Jf a<=Jf b:=by decide
theorem Xk{n:Nat}{t:Tr}(h:Xg n t)(hn:n<=10):(Zr t).length<=Jf n:=by
 obtain⟨s,a,e⟩:=h;rw[ZiC e];exact Nat.le_trans (Zap s (by omega)) (ZkZ n (by omega) _ a)
def Fit:Tr->Prop
 | .never=>True
 | .after _ _=>True
 | .later x y=>(Fit x/\Fit y)/\(Zr x).length*(Zr y).length<=120/\(Zr x).length<=36/\(Zr y).length<=36/\(Zr (.later x y)).length<=36
 | .earlier x y=>(Fit x/\Fit y)/\(Zr x).length+(Zr y).length<=120/\(Zr (.earlier x y)).length<=36
theorem ZcY{x y:Tr}{n m:Nat}(fx:Fit x)(fy:Fit y)(ax:Xg n x)(ay:Xg m y)(h:n+m<=10):Fit (.later x y):=by
 have a:=Xk ax (by omega);have b:=Xk ay (by omega);have s:=(ZcW n (by omega) m (by omega) (by omega)).1;have l:=Xk (ax.later ay) h;have t:=ZbB (n+m) h;have c1:=ZbB n (by omega);have c2:=ZbB m (by omega);exact⟨⟨fx,fy⟩,Nat.le_trans (Nat.mul_le_mul a b) (by omega),by omega,by omega,by omega⟩
theorem Zbh{x y:Tr}{n m:Nat}(fx:Fit x)(fy:Fit y)(ax:Xg n x)(ay:Xg m y)(h:n+m<=10):Fit (.earlier x y):=by
 have a:=Xk ax (by omega);have b:=Xk ay (by omega);have l:=Xk (ax.earlier ay) h;have t:=ZbB (n+m) h;have c1:=ZbB n (by omega);have c2:=ZbB m (by omega);exact⟨⟨fx,fy⟩,by omega,by omega⟩
theorem ZP:∀{t:Tr},t.cnt<=10->Fit t
 | .never,_=>trivial
 | .after _ _,_=>trivial
 | .later x y,h=>by
  have h:x.cnt+y.cnt<=10:=h;exact ZcY (ZP (by omega)) (ZP (by omega)) (.self (Nat.le_refl _)) (.self (Nat.le_refl _)) h
 | .earlier x y,h=>by
  have h:x.cnt+y.cnt<=10:=h;exact Zbh (ZP (by omega)) (ZP (by omega)) (.self (Nat.le_refl _)) (.self (Nat.le_refl _)) h
theorem ZjO(a b:Option Int):ZbV a (ZbV b a)=ZbV a b:=by
 cases a with
 |none=>rfl
 |some i=>
  cases b with
  |none=>rfl
  |some j=>
   show some _=some _
   congr 1
   split<;>split<;>(try split)<;>omega
theorem ZjP(a b:Option Int):Xw a (Xw b a)=Xw a b:=by
 cases a with
 |none=>cases b<;>rfl
 |some i=>
  cases b with
  |none=>
   show some _=some _
   congr 1
   split<;>omega
  |some j=>
   show some _=some _
   congr 1
   split<;>split<;>(try split)<;>omega
theorem Zho{x y:Tr}(h:x.cnt+y.cnt<=7):Xg (x.cnt+y.cnt) (.later x (.later y x))/\Fit (.later x (.later y x)):=by
 have as:Xg (x.cnt+y.cnt) (.later x (.later y x)):=⟨.later x y,Nat.le_refl _,fun l=>ZjO _ _⟩
 have py:=Za1 y;have a:=Xk (n:=6) (Xg.self (t:=x) (by omega)) (by omega);have i:=(Xg.self (t:=y) (Nat.le_refl _)).later (Xg.self (t:=x) (Nat.le_refl _));have b:=Xk (i.le (show y.cnt+x.cnt<=7 by omega)) (by omega);have c:=Xk (as.le h) (by omega);have ab:=Nat.mul_le_mul a b;have e1:Jf 6*Jf 7=108:=rfl;have e2:Jf 6=9:=rfl;have e3:Jf 7=12:=rfl;exact⟨as,⟨ZP (by omega),ZP (by show y.cnt+x.cnt<=10;omega)⟩,by omega,by omega,by omega,by omega⟩
theorem Zhp{x y:Tr}(h:x.cnt+y.cnt<=7):Xg (x.cnt+y.cnt) (.earlier x (.earlier y x))/\Fit (.earlier x (.earlier y x)):=by
 have as:Xg (x.cnt+y.cnt) (.earlier x (.earlier y x)):=⟨.earlier x y,Nat.le_refl _,fun l=>ZjP _ _⟩
 have py:=Za1 y;have a:=Xk (n:=6) (Xg.self (t:=x) (by omega)) (by omega);have i:=(Xg.self (t:=y) (Nat.le_refl _)).earlier (Xg.self (t:=x) (Nat.le_refl _));have b:=Xk (i.le (show y.cnt+x.cnt<=7 by omega)) (by omega);have c:=Xk (as.le h) (by omega);have e2:Jf 6=9:=rfl;have e3:Jf 7=12:=rfl;exact⟨as,⟨ZP (by omega),ZP (by show y.cnt+x.cnt<=10;omega)⟩,by omega,by omega⟩
def okT(t:Tr):Prop:=Fit t/\t.cnt<=31
theorem ZjQ{t:Tr}(h:okT t):(Zr t).length<=36:=by
 cases t with
 |never=>exact Nat.zero_le _
 |after k d=>exact(show 1<=36 by decide)
 |later x y=>exact h.1.2.2.2.2
 |earlier x y=>exact h.1.2.2
theorem Zgq{x y:Tr}(h:okT (.later x y)):okT x/\okT y/\(Zr x).length*(Zr y).length<=120/\(Zr x).length<=36/\(Zr y).length<=36/\(∀w∈Zr x,w.length<=31)/\(∀w∈Zr y,w.length<=31)/\(Zr (.later x y)).length<=40:=by
 obtain⟨⟨⟨f1,f2⟩,a,b,c,d⟩,h⟩:=h;have h:x.cnt+y.cnt<=31:=h;exact⟨⟨f1,by omega⟩,⟨f2,by omega⟩,a,b,c,fun w hw=>by have:=YD x w hw;omega,fun w hw=>by have:=YD y w hw;omega,by omega⟩
theorem Zej{x y:Tr}(h:okT (.earlier x y)):okT x/\okT y/\(Zr x).length+(Zr y).length<=120/\(∀w∈Zr x,w.length<=31)/\(∀w∈Zr y,w.length<=31)/\(Zr (.earlier x y)).length<=40:=by
 obtain⟨⟨⟨f1,f2⟩,a,b⟩,h⟩:=h;have h:x.cnt+y.cnt<=31:=h;exact⟨⟨f1,by omega⟩,⟨f2,by omega⟩,a,fun w hw=>by have:=YD x w hw;omega,fun w hw=>by have:=YD y w hw;omega,by omega⟩
def Yd(H:Hp)(as:List Addr)(ws:List Tb):Prop:=Paired (fun a w=>∃c:Tb,H a=some (.dK (kk c))/\M4.Nd c/\M4.norm c=w) as ws
def Zbi:Sp:=fun vs H Q _=>∃(a b:Addr) (c l:Tb),vs=[.ref a,.ref b]/\H a=some (.dK (kk c))/\Rd H b (.dK (kk l))/\c.length<=1000/\∀H',Zx H H'->Q (.bl (Yp c l)) H'
def Xn(K:PySem.W.Frag):Sp:=fun vs H Q _=>∃(a:Addr) (c:Tb),vs=[.ref a]/\H a=some (.dK (kk c))/\c.length<64/\∀t H',Zx H H'->Rep K H' (kyD ((c.length:Int),M4.norm c)) (.ref t)->Q (.ref t) H'
def ZcZ:Sp:=fun vs H Q _=>∃(a b:Addr) (c l:Tb),vs=[.ref a,.ref b]/\Rd H a (.dK (kk c))/\H b=some (.dK (kk l))/\c.length<=1000/\l.length<=1000/\∀p H',H p=none->Zx H H'->H' p=some (.dK (kk (M4.YB c l)))->Q (.ref p) H'
def Zab:Sp:=fun vs H Q _=>∃(p q:Addr) (as bs:List Addr) (ws us:List Tb),vs=[.ref p,.ref q]/\H p=some (.lst (as.map V.ref))/\H q=some (.lst (bs.map V.ref))/\Yd H as ws/\Yd H bs us/\as.length*bs.length<=1000/\bs.length<=1000/\(∀w∈ws,w.length<=500)/\(∀w∈us,w.length<=500)/\
 ∀r ds H',H r=none->Zx H H'->H' r=some (.lst (ds.map V.ref))->Yd H' ds (ws.flatMap fun x=>us.map fun y=>M4.norm (M4.YB x y))->(∀d∈ds,H d=none)->Q (.ref r) H'
def ZbX:Sp:=fun vs H Q _=>∃(p:Addr) (as:List Addr) (ws:List Tb),vs=[.ref p]/\H p=some (.lst (as.map V.ref))/\Yd H as ws/\(M4.ZcO (M4.Yn M4.Yt ws)).length<=40/\ws.length<128/\(∀w∈ws,w.length<64)/\
 ∀r ds H',H r=none->Zx H H'->H' r=some (.lst (ds.map V.ref))->Yd H' ds (M4.ZcO (M4.Yn M4.Yt ws))->(∀d∈ds,d∈as)->Q (.ref r) H'
def Zbj(cn ca cl ce:Addr)(n:Nat):Sp:=fun vs H Q _=>∃(a:Addr) (t:Tr),vs=[.ref a]/\Yk cn ca cl ce H t a/\t.deep<n/\okT t/\
 ∀r ds H',H r=none->Zx H H'->H' r=some (.lst (ds.map V.ref))->Yd H' ds (Zr t)->(∀d∈ds,H d=none)->Q (.ref r) H'
theorem Zhq{cn ca cl ce:Addr}:∀vs H Q E,¬Zbj cn ca cl ce 0 vs H Q E:=fun _ _ _ _ ⟨_,t,_,_,z,_⟩=>Nat.not_lt_zero t.deep z
def ZbY:Sp:=fun vs H Q _=>∃(p q:Addr) (as bs:List Addr) (ws us:List Tb),vs=[.ref p,.ref q]/\H p=some (.lst (as.map V.ref))/\H q=some (.lst (bs.map V.ref))/\Yd H as ws/\Yd H bs us/\as.length<=1000/\
 ∀r ds H',H r=none->Zx H H'->H' r=some (.lst (ds.map V.ref))->Yd H' ds (ZcX ws us)->Q (.ref r) H'
def ZbZ:Sp:=fun vs H Q _=>∃(a:Addr) (c:Tb),vs=[.ref a]/\H a=some (.dK (kk c))/\M4.Nd c/\c≠[]/\c.length<=1000/\∀(l:Tb) p H',H p=none->Zx H H'->H' p=some (.dK (kk l))->Zcy (M4.norm c) l->Q (.ref p) H'
def Zc0(cn ca cl ce:Addr):Sp:=fun vs H Q _=>∃(a b:Addr) (t u:Tr),vs=[.ref a,.ref b]/\Yk cn ca cl ce H t a/\Yk cn ca cl ce H u b/\t.deep<18/\u.deep<18/\okT t/\okT u/\
 (∀H',Zx H H'->Xh t u=[]->Q .non H')/\∀(c l:Tb) p H',H p=none->Zx H H'->H' p=some (.dK (kk l))->c∈Xh t u->(∀d∈Xh t u,M4.Yt d c=false)->Zcy c l->Q (.ref p) H'
def Jg(n:Nat):Sp:=fun vs H Q _=>∃(a:Addr) (t:Tr) (b:Int),vs=[.ref a,.int b]/\Yv H t a/\t.deep<n/\t.cnt<=7/\∀p (t':Tr) H',Zx H H'->Yv H' t' p->Xg t.cnt t'->Fit t'->t'.cnt<=2*t.cnt->t'.deep<=t.deep+1->Q (.ref p) H'
theorem Zek:∀vs H Q E,¬Jg 0 vs H Q E:=fun _ _ _ _ ⟨_,t,_,_,_,z,_⟩=>Nat.not_lt_zero t.deep z
def JR(K:PySem.W.Frag):Sp:=fun vs H Q _=>∃(a:Addr) (ns:List Int) (k:Nat),vs=[.ref a,.int (k:Int)]/\SqL K H a (ns.map V.int)/\∀(c:Int) H',Zx H H'->Q (.int c) H'
section
variable {P:Program} {w:World} {K:PySem.W.Frag} {mg:Str->Option Value} {base:Heap} {t_MOST_CLAUSES:Tok} {Zk:Addr} {Zd:Addr} {Ze:Addr} {Zb:Addr}
theorem abc:∀c∈cs (Str.ofString "abcdefghijklmnopqrstuvwxyz"),97<=c/\c<=122:=by decide+kernel
theorem Zft:(Str.ofString "abcdefghijklmnopqrstuvwxyz").length=26:=by decide+kernel
theorem ZjR{i:Int}(h0:0<=i)(h1:i<26):∃c,atI (Str.ofString "abcdefghijklmnopqrstuvwxyz").cps.toList i=some c/\97<=c/\c<=122:=by
 have l:(Str.ofString "abcdefghijklmnopqrstuvwxyz").cps.toList.length=26:=by rw[Array.length_toList];exact Zft
 obtain⟨c,e⟩:=Zgl (xs:=(Str.ofString "abcdefghijklmnopqrstuvwxyz").cps.toList) (i:=i) (by rw[l];omega) (by rw[l];omega)
 refine⟨c,e, ?_⟩;obtain⟨j,_,hj,_⟩:=Zcb e;have m:c∈cs (Str.ofString "abcdefghijklmnopqrstuvwxyz"):=List.mem_of_getElem? hj;exact abc c m
theorem ZmJ{c:Bool}{A B:Prop}(hb:¬c=true->B)(ha:c=true->A):if c=true then A else B:=Jp ha hb
def Lts(ss:List Str):Prop:=∀z∈ss,∃c,z=⟨#[c]⟩/\97<=c/\c<=122
theorem Lts.flat:∀{ss:List Str},Lts ss->((ss.map cs).flatten.length=ss.length/\∀c∈(ss.map cs).flatten,97<=c/\c<=122)/\(ss.map (·.length)).sum=ss.length
 |[],_=>⟨⟨rfl,fun c h=>by cases h⟩,rfl⟩
 |z::ss,h=>by
  obtain⟨c,e,h1,h2⟩:=h z (List.mem_cons_self ..);obtain⟨⟨i1,i2⟩,i3⟩:=Lts.flat (ss:=ss) fun y hy=>h y (List.mem_cons_of_mem _ hy);subst e;refine⟨⟨?_,fun d hd=> ?_⟩, ?_⟩
  ·rw[List.map_cons,List.flatten_cons,List.length_append,i1,List.length_cons];show 1+_=_;omega
  ·rw[List.map_cons,List.flatten_cons] at hd
   rcases List.mem_append.mp hd with q|q
   ·have:d=c:=by simpa [Zjf] using q
    omega
   ·exact i2 d q
  ·rw[List.map_cons,List.sum_cons,i3,List.length_cons];show 1+_=_;omega
theorem ZR:ZG ["_law_cell","_law_k","_law_letters","_law_size","_law_at","_law_way","_law_name","_law_j","_law_place"] ["_law_cell","_law_k"] (Zu Za6):=⟨rfl,rfl,rfl,by decide+kernel,rfl,by decide+kernel,by decide+kernel⟩
theorem Ze1{f:Addr}{fd:FuncData}(F:Fun K "_law_name_by" "_law_name_by" Za6 f fd)(T:Txt K mg t_MOST_CLAUSES Zk Zd Ze Zb):Yq P w K mg base CX0 1 f fd ["_law_cell","_law_k"] Xv:=by
 refine F.ok ZR (fun vs H Q E h=> ?_) (fun cdv A outer s H vs Q E hr h=> ?_)
 ·obtain⟨n,k,rfl,_⟩:=h
  rfl
 ·obtain⟨n,k,rfl,q⟩:=h;have l5:=JM;have m1:=Int.emod_nonneg n (show(12:Int)≠0 by decide);have m2:=Int.emod_lt_of_pos n (show(0:Int)<12 by decide);have m3:=Int.emod_nonneg k (show(12:Int)≠0 by decide);have m4:=Int.emod_lt_of_pos k (show(0:Int)<12 by decide);refine⟨_,(Zi (ZD (i:=2) ZR.nd rfl (Or.inr rfl) Yu) (Zi (ZD (i:=3) ZR.nd rfl (Or.inl rfl) (Zw Xo Zh (Zw Yj (pv 0) Zh))) (Zi (ZD (i:=4) ZR.nd rfl (Or.inl rfl) (Zw Yj (Zw Yx (pv 0) Zh) (pv 3))) (Zi (ZD (i:=5) ZR.nd rfl (Or.inl rfl) (Zw Yj (Zw Yx (pv 0) Zh) Zh)) (Zi (Ye (Zv YT (pv 5) Zh (Zy _)) (Zi (ZD (i:=3) ZR.nd rfl (Or.inl rfl) (Zw Xo Zh (Zw Yj (pv 1) Zh))) (Zq (ZD (i:=4) ZR.nd rfl (Or.inl rfl) Zh))) Zz) (Zi (Ye (Zv YT (pv 5) Zh (Zy _)) (Zq (Zt (ZdG PySem.F.plainAttrs_str PySem.F.slot_str_join PySem.F.type_str_join Zik Yu (Za (Zcd ["_law_j"] [("_law_letters",2),("_law_k",1),("_law_cell",0)] rfl (ZcG rfl T.z_range (Za Zh Zm)) (by rfl) (by exact⟨rfl,⟨rfl,⟨rfl,trivial⟩⟩⟩) (by rfl) (by exact⟨⟨rfl,rfl,rfl⟩,⟨⟨rfl,rfl,rfl⟩,⟨⟨rfl,rfl,rfl⟩,trivial⟩⟩⟩) (fun _ _ _ _=>(Yw (i:=0) (show(nmY ["_law_j"] [("_law_letters",2),("_law_k",1),("_law_cell",0)]).Nodup by decide+kernel) rfl (Or.inl rfl))) (fun _ _ _ _=>Zdq) (fun _ _ _ _=>(ZQ Zj2 (pv 1) (Zw Xo (Zw Yj (Zw Xo (pv 0) (pv 2)) Zh) (Zw Yj (Zw Yx (pv 3) Zh) Zh)) (fun _ _=>rfl)))) Zm)))) Zz) (Zi (ZD (i:=6) ZR.nd rfl (Or.inl rfl) Yu) (Zi (Zay PassesOwn.never rfl (ZcG rfl T.z_range (Za (pv 3) Zm)) (Yw (i:=7) ZR.nd rfl (Or.inl rfl)) (Zi (ZD (i:=8) ZR.nd rfl (Or.inl rfl) (Zw Xo (Zw Xo (Zw Yx (pv 0) (Zw Xo (pv 7) Zh)) (Zw ZaC (pv 7) (pv 7))) (Zw ZaC (pv 1) (Zbq Zer (by rfl) T.z_int ZgY (Za (Zca YT (pv 7) (pv 4) (Zy _)) Zm))))) (Zq (ZD (i:=6) ZR.nd rfl (Or.inl rfl) (Zw ZgI (pv 6) (ZQ Zj2 (pv 2) (Zw Yj (pv 8) Zh) (fun _ _=>rfl))))))) (Zq (Zt (pv 6))))))))))), ?_⟩
  refine(vI rfl (by show(0:Int)<12;decide) ⟨_,_,rfl,rfl, ?_⟩)
  refine(vI rfl ⟨by decide,by decide⟩ ⟨_,rfl,_,_,rfl,rfl,(by show 0<1+n%12;omega), ?_⟩)
  refine(vI rfl ⟨by decide,by decide⟩ ⟨_,_,rfl,rfl,(by show(0:Int)<3;decide), ?_⟩)
  obtain⟨S0,e0,p1,p2⟩:∃S0,1+n%12=S0/\1<=S0/\S0<=12:=⟨_,rfl,by omega,by omega⟩
  obtain⟨S1,e1,p3,p4⟩:∃S1,1+k%12=S1/\1<=S1/\S1<=12:=⟨_,rfl,by omega,by omega⟩
  refine(fun(rest:∀σ':L2.St,(∃sz at_:Int,1<=sz/\sz<=12/\σ'=[some (.int n),some (.int k),some (.str (Str.ofString "abcdefghijklmnopqrstuvwxyz")),some (.int sz),some (.int at_),some (.int (n/144%3)),none,none,none])->(_:L2.St->Hp->Prop) σ' H)=>
   ⟨_,rfl,rfl,_,rfl,ZmJ (fun _=>rest _ ⟨_,_,by omega,by omega,rfl⟩) (fun _=>(vI rfl (by show(0:Int)<12;decide) ⟨_,_,rfl,rfl,rest _ ⟨_,_,by omega,by omega,rfl⟩⟩))⟩) ?rest
  case rest=>
   rintro σ' ⟨sz,at_,p1,p2,rfl⟩;refine⟨_,rfl,rfl,_,rfl,Jp (fun _=> ?_) (fun _=> ?_)⟩
   ·refine⟨rfl,12,rfl,by decide,by decide,ZdP fun D hD=>⟨12,fun i ys H2=>∃ss:List Str,ys=ss.map V.str/\ss.length=i/\Lts ss/\Zx H H2,by omega,⟨[],rfl,rfl,(fun z hz=>nomatch hz),Zj hD⟩,fun i ys H2 ⟨ss,e,l,_⟩=>by rw[e,List.length_map,l];exact Nat.le_refl _,
     fun i ys zs H2 H3 _ kp ⟨ss,e,l,ls,s2⟩=>⟨ss,e,l,ls,fun b u hb=>kp b u (Zn hb hD) (s2 b u hb)⟩,fun i ys H2 _ lt=>lt,fun ys H2 ⟨ss,e,l,ls,s2⟩ d=>⟨Nat.le_refl _, ?_⟩,fun i x ys H2 H3 ⟨ss,e,l,ls,s2⟩ d lt y RT RF rt rf=> ?_⟩⟩
    ·subst e;obtain⟨⟨f1,f2⟩,f3⟩:=ls.flat;refine⟨Str.empty,D,ss,rfl,rfl,SqL.of d, ?_,q _ H2 ?_ s2⟩
     ·rw[f3,l];decide
     ·rw[<-Zjp] at f1 f2
      refine⟨?_, ?_,f2⟩
      ·rw[Zjg,f1,l];decide
      ·rw[Zjg,f1,l];decide
    ·obtain⟨e1,e2⟩:=y;subst e1 e2;have a1:=Int.emod_nonneg (0+(i:Int)+k) (show(12:Int)≠0 by decide);have a2:=Int.emod_lt_of_pos (0+(i:Int)+k) (show(0:Int)<12 by decide);have a3:=Int.emod_nonneg (n/432) (show(14:Int)≠0 by decide);have a4:=Int.emod_lt_of_pos (n/432) (show(0:Int)<14 by decide);obtain⟨c,ec,c1,c2⟩:=ZjR (i:=(0+(i:Int)+k)%12+n/432%14) (by omega) (by omega);refine⟨⟨rfl,rfl,rfl,trivial⟩,Zmw ?_⟩
     refine⟨_,rfl,_,rfl,_,rfl,_,_,rfl,rfl,_,_,rfl,rfl,(by show(0:Int)<12;decide),vI rfl ⟨by decide,by decide⟩ ⟨_,_,rfl,rfl,(by show(0:Int)<14;decide),_,_,rfl,rfl,_,_,c,rfl,rfl, ?_,ec, ?_⟩⟩
     ·rw[Zft];omega
     ·refine rt _ _ d ⟨ss++[⟨#[c]⟩],by rw[e,List.map_append];rfl,by rw[List.length_append,l];rfl,fun z hz=> ?_,s2⟩
      rcases List.mem_append.mp hz with z1|z1
      ·exact ls z z1
      ·exact⟨c,by simpa using z1,c1,c2⟩
   ·refine⟨_,rfl,_,rfl,by omega,by omega,Zeo (fun i σ H'=>∃(x:Str) (s3 s5 v v8:Option V) (t4:Int),σ=[some (.int n),some (.int k),some (.str (Str.ofString "abcdefghijklmnopqrstuvwxyz")),s3,some (.int t4),s5,some (.str x),v,v8]/\x.length=i/\(∀c∈cs x,97<=c/\c<=122)/\H'=H) ?_ ?_ ?_⟩
    ·exact⟨Str.empty,_,_,none,none,_,rfl,rfl,(fun c hc=>nomatch hc),rfl⟩
    ·rintro i σ H1 hi ⟨x,s3,s5,v,v8,t4,rfl,hl,hc,rfl⟩;have hi':(i:Int)<12:=by omega
     have ib:Builtin.Int.intBits (0+(i:Int))<=64:=intBits_le_64 (by omega) (by omega);refine⟨_,rfl,_,rfl,_,_,rfl,rfl,_,_,rfl,rfl,⟨by omega,by omega⟩,_,rfl,_,rfl,_,_,rfl,rfl,IntMulOk.of_left ib,_,_,rfl,rfl,_,rfl,_,rfl,_,rfl,rfl,.inr ⟨_,rfl,_,_,rfl,rfl,IntMulOk.of_right (intBits_le_64 (by split<;>decide) (by split<;>decide)),_,_,rfl,rfl, ?_⟩⟩
     obtain⟨c,ec,c1,c2⟩:=ZjR (i:=(n/(0+(i:Int)+3)+(0+(i:Int))*(0+(i:Int))+k*if decide (V.int (0+(i:Int))=V.int t4)=true then 1 else 0)%26) (Int.emod_nonneg _ (by decide)) (Int.emod_lt_of_pos _ (by decide));refine⟨_,rfl,_,rfl,vI rfl (by show(0:Int)<26;decide) ⟨_,_,c,rfl,rfl, ?_,ec,_,_,rfl,rfl, ?_, ?_⟩⟩
     ·rw[Zft];omega
     ·show x.length+1<=sizeLine;omega
     ·refine⟨x++⟨#[c]⟩,_,_,_,_,_,rfl,by rw[ZkV,hl],fun d hd=> ?_,rfl⟩;rw[ZgZ,Zjf] at hd
      rcases List.mem_append.mp hd with z|z
      ·exact hc d z
      ·have:d=c:=by simpa using z
       omega
    ·rintro σ H1 ⟨x,s3,s5,v,v8,t4,rfl,hl,hc,rfl⟩;exact⟨_,rfl,q x _ ⟨by omega,by omega,hc⟩ (Zx.refl _)⟩
theorem Znb(x y z k:Int)(h0:0<=k)(h1:k<3):∃v:Int,atI [V.int x,.int y,.int z] k=some (.int v):=by
 have e:k=0\/k=1\/k=2:=by omega
 rcases e with rfl|rfl|rfl
 ·exact⟨x,rfl⟩
 ·exact⟨y,rfl⟩
 ·exact⟨z,rfl⟩
theorem Zgr{H H1:Hp}{p:Addr}{o:HO}(hp:H p=none)(s:Zx H H1):Zx H (upd H1 p o):=fun b u e=>by rw[Zf (Zn e hp)];exact s b u e
theorem Xa:ZG ["_law_cell","_law_names_by","_law_life","_law_k","_law_number","_law_days"] ["_law_cell","_law_names_by"] (Zu Za8):=⟨rfl,rfl,rfl,by decide+kernel,rfl,by decide+kernel,by decide+kernel⟩
theorem Ze2{f:Addr}{fd:FuncData}(F:Fun K "_law_life_by" "_law_life_by" Za8 f fd)(T:Txt K mg t_MOST_CLAUSES Zk Zd Ze Zb)(YQ:Cal P w K mg base CX0 1 "_law_name_by" ["_law_cell","_law_k"] Xv):Yq P w K mg base CX0 2 f fd ["_law_cell","_law_names_by"] JN:=by
 refine F.ok Xa (fun vs H Q E h=> ?_) (fun cdv A outer s H vs Q E hr h=> ?_)
 ·obtain⟨c,n,rfl,_⟩:=h
  rfl
 ·obtain⟨c,n,rfl,q⟩:=h;have l5:=JM;have hu:=ZdL hr;refine⟨_,(Zi (ZD (i:=2) Xa.nd rfl (Or.inl rfl) ZdJ) (Zi (Zay PassesOwn.never rfl (ZcG rfl T.z_range (Za Zh Zm)) (Yw (i:=3) Xa.nd rfl (Or.inl rfl)) (Zi (ZD (i:=4) Xa.nd rfl (Or.inl rfl) (Zw Xo (Zw Yx (pv 0) (Zw Xo (pv 3) Zh)) (Zw ZaC (Zw ZaC (pv 3) (pv 3)) Zh))) (Zq (Ye (Zv ZhF (Zw Yj (pv 4) Zh) Zh (Zy _)) (Zi (ZD (i:=5) Xa.nd rfl (Or.inl rfl) (Xz (Za (Zw Yj (Zw Yx (pv 4) Zh) Zh) (Za (Zw Yj (Zw Yx (pv 4) Zh) Zh) (Za (Zw Yj (Zw ZaC (pv 4) Zh) (Zw ZiU Zh Zh)) Zm))))) (Zq (Zdp hu (pv 2) (ZW YQ (hr.mono (by omega)) rfl ZF (Za (pv 1) (Za (pv 3) Zm))) (ZQ JX (pv 5) (Zw Yj (pv 4) Zh) (fun _ _=>rfl)) rfl))) Zz)))) (Zq (Zt (pv 2))))), ?_⟩
  refine fun p hp=>⟨6,rfl,by decide,by decide,Zeo (fun i σ H'=>∃(l:Tb) (v3 v4 v5:Option V),σ=[some (.int c),some (.int n),some (.ref p),v3,v4,v5]/\(l.map (·.1)).Nodup/\l.length<=i/\Zx H H'/\H' p=some (.dK (kk l))) ?_ ?_ ?_⟩
  ·exact⟨[],none,none,none,rfl,List.nodup_nil,Nat.le_refl _,Zgr hp (Zx.refl H),Zc⟩
  ·rintro i σ H1 hi ⟨l,v3,v4,v5,rfl,nd,hl,s1,d1⟩;have hi':(i:Int)<6:=by omega
   have ib:Builtin.Int.intBits (0+(i:Int))<=64:=intBits_le_64 (by omega) (by omega);refine⟨_,rfl,_,rfl,_,_,rfl,rfl,_,_,rfl,rfl,⟨by omega,by omega⟩,_,rfl,_,rfl,_,_,rfl,rfl,IntMulOk.of_left ib,_,_,rfl,rfl,IntMulOk.of_right (intBits_le_64 (by decide) (by decide)),_,_,rfl,rfl, ?_⟩;refine⟨_,rfl,_,_,rfl,rfl,(by show(0:Int)<4;decide),_,_,rfl,rfl,_,rfl,Jp (fun _=> ?_) (fun _=> ?_)⟩
   ·refine⟨_,rfl,_,_,rfl,rfl,⟨by decide,by decide⟩,_,_,rfl,rfl,(by show(0:Int)<50;decide),_,rfl,_,_,rfl,rfl,⟨by decide,by decide⟩,_,_,rfl,rfl,(by show(0:Int)<2000;decide),
     _,rfl,_,_,rfl,rfl,IntMulOk.of_right (intBits_le_64 (by decide) (by decide)),_,_,rfl,rfl,ZjK (by decide) (by decide),_,_,rfl,rfl,pow_pos _,(by show 3<=sizeLine;omega),fun D hD=> ?_⟩
    have hDp:p≠D:=Zn d1 hD;obtain⟨v,ev⟩:=Znb ((c/(0+(i:Int)+1)+(0+(i:Int))*(0+(i:Int))*7)/4%50) ((c/(0+(i:Int)+1)+(0+(i:Int))*(0+(i:Int))*7)/4%2000) ((c/(0+(i:Int)+1)+(0+(i:Int))*(0+(i:Int))*7)*982451653%10^(42:Int).toNat)
     ((c/(0+(i:Int)+1)+(0+(i:Int))*(0+(i:Int))*7)%3) (Int.emod_nonneg _ (by decide)) (Int.emod_lt_of_pos _ (by decide))
    refine⟨_,rfl,_,rfl,_,_,rfl,rfl,(by show(0:Int)<3;decide),D,_,_,_,rfl,rfl,SqL.of Zc,ev,_,rfl,_,rfl,_,rfl,_,_,rfl,fun z H2 hz s2=> ?_⟩
    have d2:H2 p=some (.dK (kk l)):=s2 _ _ (by rw[Zf hDp];exact d1)
    refine⟨p,_,rfl,Zg2.k (k:=Sum.inr z) d2 (by rw[Yb];omega), ?_⟩
    rw[Zh6];exact⟨Zb4 l z v,_,_,_,rfl,ZeB nd,Nat.le_trans (ZdQ l z v) (by omega),Zgr hp (s1.trans ((Zj hD).trans s2)),Zc⟩
   ·exact⟨l,_,_,_,rfl,nd,by omega,s1,d1⟩
  ·rintro σ H1 ⟨l,v3,v4,v5,rfl,nd,hl,s1,d1⟩;exact⟨_,rfl,q l p H1 nd hl hp s1 d1⟩
theorem Ze3:ZG ["_law_script","_law_k"] ["_law_script","_law_k"] (Zu Za5):=⟨rfl,rfl,rfl,by decide+kernel,rfl,by decide+kernel,by decide+kernel⟩
theorem Ze4{f:Addr}{fd:FuncData}(F:Fun K "_law_cell_at" "_law_cell_at" Za5 f fd)(T:Txt K mg t_MOST_CLAUSES Zk Zd Ze Zb):Yq P w K mg base CX0 1 f fd ["_law_script","_law_k"] (JR K):=by
 refine F.ok Ze3 (fun vs H Q E h=> ?_) (fun cdv A outer s H vs Q E hr h=> ?_)
 ·obtain⟨a,ns,k,rfl,_⟩:=h
  rfl
 ·obtain⟨a,ns,k,rfl,hS,q⟩:=h;refine⟨_,(Zi (Ye (Zv Zep (pv 1) (ZV Zak (by rfl) T.z_len ZbO (Za (pv 0) Zm)) (Zy _)) (Zq (Zt (ZQ JX (pv 0) (pv 1) (fun _ _=>rfl)))) Zz) (Zq (Zt Zh))), ?_⟩;refine⟨_,rfl,_,rfl,_,_,rfl,.inl ⟨_,hS,rfl⟩,_,_,rfl,rfl,_,rfl,Jp (fun e=> ?_) (fun e=> ?_)⟩
  ·have e:(k:Int)<((ns.map V.int).length:Int):=of_decide_eq_true e;rw[List.length_map] at e
   obtain⟨c,_,ec⟩:=ZjJ (ns:=ns) (i:=(k:Int)) (by omega) (by omega);exact⟨_,rfl,_,rfl,a,_,_,_,rfl,rfl,hS,ec,q c H (Zx.refl H)⟩
  ·exact q 0 H (Zx.refl H)
theorem Zfu:ZG ["_law_found"] ["_law_found"] (Zu Zbd):=⟨rfl,rfl,rfl,by decide+kernel,rfl,by decide+kernel,by decide+kernel⟩
theorem Zfv{f:Addr}{fd:FuncData}(F:Fun K "_law_whole" "_law_whole" Zbd f fd)(T:Txt K mg t_MOST_CLAUSES Zk Zd Ze Zb):Yq P w K mg base CX0 1 f fd ["_law_found"] ZaL:=by
 refine F.ok Zfu (fun vs H Q E h=> ?_) (fun cdv A outer s H vs Q E hr h=> ?_)
 ·obtain⟨i,rfl,_⟩:=h
  rfl
 ·obtain⟨i,rfl,k⟩:=h;refine⟨_,(Zq (Zt (ZiN (ZV YW (by rfl) T.z_isinstance YC (Za (pv 0) (Za (Zdn (v:=.ty "int") rfl T.z_int ZgY rfl) Zm))) (ZiM (Zlo (ZV YW (by rfl) T.z_isinstance YC (Za (pv 0) (Za (Zdn (v:=.ty "bool") rfl T.z_bool Zkz rfl) Zm)))))))), ?_⟩;refine⟨_,rfl,_,_,_,_,true,rfl,rfl,ZaV.int _,T.kii,_,rfl,Jo ?_⟩;exact⟨_,rfl,_,_,_,_,false,rfl,rfl,ZaV.int _,T.kib,_,rfl,k H (Zx.refl H)⟩
theorem kd:¬(("kind":Str)="days"):=by decide+kernel
theorem oo:¬(("one":Str)="other"):=by decide+kernel
theorem Zfw(k:Str)(d:Int):(fA k d).lookup ("kind":Str)=some (.str k):=by
 unfold fA;rw[Yi,if_neg kd,Yi,if_pos rfl]
theorem ZhV(k:Str)(d:Int):(fA k d).lookup ("days":Str)=some (.int d):=by
 unfold fA;rw[Yi,if_pos rfl]
theorem Zfx(p q:Addr):(fP p q).lookup ("one":Str)=some (.ref p):=by
 unfold fP;rw[Yi,if_neg oo,Yi,if_pos rfl]
theorem Zcz(p q:Addr):(fP p q).lookup ("other":Str)=some (.ref q):=by
 unfold fP;rw[Yi,if_pos rfl]
theorem ZmK(k:Str)(d:Int){m:Str}(h1:¬m="days")(h2:¬m="kind"):(fA k d).lookup m=none:=by
 unfold fA;rw[Yi,if_neg h1,Yi,if_neg h2]
 rfl
theorem Zlg(p q:Addr){m:Str}(h1:¬m="other")(h2:¬m="one"):(fP p q).lookup m=none:=by
 unfold fP;rw[Yi,if_neg h1,Yi,if_neg h2]
 rfl
theorem Yk.same{cn ca cl ce:Addr}{H H':Hp}(s:Zx H H'):∀{t:Tr} {a:Addr},Yk cn ca cl ce H t a->Yk cn ca cl ce H' t a
 | .never,a,⟨dx,h⟩=>⟨dx,s _ _ h⟩
 | .after k d,a,⟨dx,h⟩=>⟨dx,s _ _ h⟩
 | .later x y,a,⟨dx,p,q,h,h1,h2⟩=>⟨dx,p,q,s _ _ h,h1.same s,h2.same s⟩
 | .earlier x y,a,⟨dx,p,q,h,h1,h2⟩=>⟨dx,p,q,s _ _ h,h1.same s,h2.same s⟩
theorem Tr.deep_cnt:∀t:Tr,t.deep<t.cnt
 | .never=>Nat.zero_lt_one
 | .after _ _=>Nat.zero_lt_one
 | .later x y=>by
  have h1:=x.deep_cnt;have h2:=y.deep_cnt;simp only [Tr.deep,Tr.cnt];omega
 | .earlier x y=>by
  have h1:=x.deep_cnt;have h2:=y.deep_cnt;simp only [Tr.deep,Tr.cnt];omega
theorem Jh{cn ca cl ce:Addr}{H:Hp}{a:Addr}:∀{t:Tr},Yk cn ca cl ce H t a->∃dx fs,H a=some (.ins (ZeO cn ca cl ce t) dx fs)/\∀m:Str,¬m="days"->¬m="kind"->¬m="other"->¬m="one"->fs.lookup m=none
 | .never,⟨dx,h⟩=>⟨dx,_,h,fun _ _ _ _ _=>rfl⟩
 | .after k d,⟨dx,h⟩=>⟨dx,_,h,fun _ h1 h2 _ _=>ZmK k d h1 h2⟩
 | .later x y,⟨dx,p,q,h,_⟩=>⟨dx,_,h,fun _ _ _ h1 h2=>Zlg p q h1 h2⟩
 | .earlier x y,⟨dx,p,q,h,_⟩=>⟨dx,_,h,fun _ _ _ h1 h2=>Zlg p q h1 h2⟩
theorem Zbk{cn ca cl ce:Addr}:∀t:Tr,(ZeO cn ca cl ce t=cn\/ZeO cn ca cl ce t=ca\/ZeO cn ca cl ce t=cl\/ZeO cn ca cl ce t=ce)
 | .never=> .inl rfl
 | .after _ _=> .inr (.inl rfl)
 | .later _ _=> .inr (.inr (.inl rfl))
 | .earlier _ _=> .inr (.inr (.inr rfl))
theorem ZdA{H H2:Hp}{b:Addr}{l:Tb}(s:Zx H H2)(h:Rd H b (.dK (kk l))):Rd H2 b (.dK (kk l)):=by
 rcases h with h|⟨o,h⟩
 ·exact .inl (s _ _ h)
 ·exact .inr ⟨o,s _ _ h⟩
theorem Zd0{H:Hp}{b:Addr}{l:Tb}(h:Rd H b (.dK (kk l)))(k:Str):Zef H b (.str k) ((lk l k).map V.int):=by
 rw[<-Zfb];exact .inl ⟨_,Sum.inr k,h,rfl,rfl⟩
theorem Zc1{o:Option Int}:(o.map V.int).isSome=o.isSome:=by cases o<;>rfl
theorem Zel:ZG ["self","kind","days"] ["self","kind","days"] (Zu ZaK):=⟨rfl,rfl,rfl,by decide+kernel,rfl,by decide+kernel,by decide+kernel⟩
theorem Zem{f:Addr}{fd:FuncData}(F:Fun K "__init__" "After.__init__" ZaK f fd)(T:Txt K mg t_MOST_CLAUSES Zk Zd Ze Zb){C:Addr}(cl:Cls K C)(n_kind:Xd K C "kind")(n_days:Xd K C "days"):Yq P w K mg base CX0 1 f fd ["self","kind","days"] (Zaa C):=by
 refine F.ok Zel (fun vs H Q E h=> ?_) (fun cdv A outer s H vs Q E hr h=> ?_)
 ·obtain⟨x,dx,k,d,rfl,_⟩:=h
  rfl
 ·obtain⟨x,dx,k,d,rfl,hx,q⟩:=h;refine⟨_,(Zi (Zf1 (pv 0) (pv 1) rfl) (Zq (Zf1 (pv 0) (pv 2) rfl))), ?_⟩;refine⟨_,rfl,_,rfl,x,C,dx,_,rfl,hx,cl,n_kind,(by show 0<1000;decide),_,rfl,_,rfl,x,C,dx,_,rfl,Zc,cl,n_days,(by show 1<1000;decide), ?_⟩
  rw[Zc7];exact q
theorem Zfy:ZG ["self","one","other"] ["self","one","other"] (Zu Za0):=⟨rfl,rfl,rfl,by decide+kernel,rfl,by decide+kernel,by decide+kernel⟩
theorem ZcA{f:Addr}{fd:FuncData}(F:Fun K "__init__" "Pair.__init__" Za0 f fd)(T:Txt K mg t_MOST_CLAUSES Zk Zd Ze Zb){C:Addr}(cl:Cls K C)(n_one:Xd K C "one")(n_other:Xd K C "other"):Yq P w K mg base CX0 1 f fd ["self","one","other"] (Xx C):=by
 refine F.ok Zfy (fun vs H Q E h=> ?_) (fun cdv A outer s H vs Q E hr h=> ?_)
 ·obtain⟨x,dx,p,q,rfl,_⟩:=h
  rfl
 ·obtain⟨x,dx,p,q,rfl,hx,k⟩:=h;refine⟨_,(Zi (Zf1 (pv 0) (pv 1) rfl) (Zq (Zf1 (pv 0) (pv 2) rfl))), ?_⟩;refine⟨_,rfl,_,rfl,x,C,dx,_,rfl,hx,cl,n_one,(by show 0<1000;decide),_,rfl,_,rfl,x,C,dx,_,rfl,Zc,cl,n_other,(by show 1<1000;decide), ?_⟩
  rw[Zc7];exact k
theorem Ji{H:Hp}{x dx:Addr}{o:HO}(h1:H x=none)(h2:H dx=none):Zx H (upd (upd H dx (.own x)) x o):=fun b u e=>by
 rw[Zf (Zn e h1),Zf (Zn e h2)];exact e
theorem ZjS:ZG [] [] (Zu Zfo):=⟨rfl,rfl,rfl,by decide+kernel,rfl,by decide+kernel,by decide+kernel⟩
theorem ZjT{f:Addr}{fd:FuncData}(F:Fun K "never" "never" Zfo f fd)(T:Txt K mg t_MOST_CLAUSES Zk Zd Ze Zb)(Zfz:ZlK K mg "Never" Zk):Yq P w K mg base CX0 1 f fd [] (ZdY Zk Zd Ze Zb):=by
 refine F.ok ZjS (fun vs H Q E h=> ?_) (fun cdv A outer s H vs Q E hr h=> ?_)
 ·obtain⟨rfl,_⟩:=h
  rfl
 ·obtain⟨rfl,q⟩:=h;refine⟨_,(Zq (Zt (ZkF Zfz rfl))), ?_⟩;exact fun x dx h1 h2 _=>q x _ (Ji h1 h2) h1 ⟨dx,Zc⟩
theorem ZjU:ZG ["kind","days"] ["kind","days"] (Zu Zfp):=⟨rfl,rfl,rfl,by decide+kernel,rfl,by decide+kernel,by decide+kernel⟩
theorem ZjV{f:Addr}{fd:FuncData}(F:Fun K "after" "after" Zfp f fd)(T:Txt K mg t_MOST_CLAUSES Zk Zd Ze Zb)(ZfA:Zh7 P w K mg base CX0 1 "After" Zd ["self","kind","days"] (Zaa Zd)):Yq P w K mg base CX0 3 f fd ["kind","days"] (ZdZ Zk Zd Ze Zb):=by
 refine F.ok ZjU (fun vs H Q E h=> ?_) (fun cdv A outer s H vs Q E hr h=> ?_)
 ·obtain⟨k,d,rfl,_⟩:=h
  rfl
 ·obtain⟨k,d,rfl,q⟩:=h;refine⟨_,(Zq (Zt (Zh9 ZfA (hr.mono (by omega)) rfl ZF (Za (pv 0) (Za (pv 1) Zm))))), ?_⟩;refine⟨_,rfl,_,rfl,fun x dx h1 h2 _=>⟨x,dx,k,d,rfl,Zc,rfl, ?_⟩⟩;rw[Zc7];exact q x _ (Ji h1 h2) h1 ⟨dx,Zc⟩
theorem ZjW:ZG ["one","other"] ["one","other"] (Zu Zfq):=⟨rfl,rfl,rfl,by decide+kernel,rfl,by decide+kernel,by decide+kernel⟩
theorem ZjX{f:Addr}{fd:FuncData}(F:Fun K "later" "later" Zfq f fd)(T:Txt K mg t_MOST_CLAUSES Zk Zd Ze Zb)(ZfB:Zh7 P w K mg base CX0 1 "Later" Ze ["self","one","other"] (Xx Ze)):Yq P w K mg base CX0 3 f fd ["one","other"] (Ze0 Zk Zd Ze Zb):=by
 refine F.ok ZjW (fun vs H Q E h=> ?_) (fun cdv A outer s H vs Q E hr h=> ?_)
 ·obtain⟨p,q,x,y,rfl,_⟩:=h
  rfl
 ·obtain⟨p,q,x,y,rfl,t1,t2,k⟩:=h;refine⟨_,(Zq (Zt (Zh9 ZfB (hr.mono (by omega)) rfl ZF (Za (pv 0) (Za (pv 1) Zm))))), ?_⟩;refine⟨_,rfl,_,rfl,fun a dx h1 h2 _=>⟨a,dx,p,q,rfl,Zc,rfl, ?_⟩⟩;rw[Zc7];exact k a _ (Ji h1 h2) h1 ⟨dx,p,q,Zc,t1.same (Ji h1 h2),t2.same (Ji h1 h2)⟩
theorem Zhr:ZG ["one","other"] ["one","other"] (Zu ZcQ):=⟨rfl,rfl,rfl,by decide+kernel,rfl,by decide+kernel,by decide+kernel⟩
theorem Zhs{f:Addr}{fd:FuncData}(F:Fun K "earlier" "earlier" ZcQ f fd)(T:Txt K mg t_MOST_CLAUSES Zk Zd Ze Zb)(Zd1:Zh7 P w K mg base CX0 1 "Earlier" Zb ["self","one","other"] (Xx Zb)):Yq P w K mg base CX0 3 f fd ["one","other"] (ZbW Zk Zd Ze Zb):=by
 refine F.ok Zhr (fun vs H Q E h=> ?_) (fun cdv A outer s H vs Q E hr h=> ?_)
 ·obtain⟨p,q,x,y,rfl,_⟩:=h
  rfl
 ·obtain⟨p,q,x,y,rfl,t1,t2,k⟩:=h;refine⟨_,(Zq (Zt (Zh9 Zd1 (hr.mono (by omega)) rfl ZF (Za (pv 0) (Za (pv 1) Zm))))), ?_⟩;refine⟨_,rfl,_,rfl,fun a dx h1 h2 _=>⟨a,dx,p,q,rfl,Zc,rfl, ?_⟩⟩;rw[Zc7];exact k a _ (Ji h1 h2) h1 ⟨dx,p,q,Zc,t1.same (Ji h1 h2),t2.same (Ji h1 h2)⟩
theorem ZjY(m:Str)(h:m="due"\/m="leaves"\/m="shown"):¬m="days"/\¬m="kind"/\¬m="other"/\¬m="one":=by
 rcases h with rfl|rfl|rfl<;>decide+kernel
theorem Yv.same{H H':Hp}(s:Zx H H'):∀{t:Tr} {a:Addr},Yv H t a->Yv H' t a
 | .never,a,h=>s _ _ h
 | .after k d,a,h=>s _ _ h
 | .later x y,a,⟨p,q,h,h1,h2⟩=>⟨p,q,s _ _ h,h1.same s,h2.same s⟩
 | .earlier x y,a,⟨p,q,h,h1,h2⟩=>⟨p,q,s _ _ h,h1.same s,h2.same s⟩
theorem w1:¬V.str (Str.ofString "after")=V.str (Str.ofString "never"):=by decide+kernel
theorem w2:¬V.str (Str.ofString "later")=V.str (Str.ofString "never"):=by decide+kernel
theorem w3:¬V.str (Str.ofString "earlier")=V.str (Str.ofString "never"):=by decide+kernel
theorem w4:¬V.str (Str.ofString "later")=V.str (Str.ofString "after"):=by decide+kernel
theorem w5:¬V.str (Str.ofString "earlier")=V.str (Str.ofString "after"):=by decide+kernel
theorem w6:¬V.str (Str.ofString "earlier")=V.str (Str.ofString "later"):=by decide+kernel
theorem Zgs:ZG ["_law_tree"] ["_law_tree"] (Zu ZbT):=⟨rfl,rfl,rfl,by decide+kernel,rfl,by decide+kernel,by decide+kernel⟩
theorem Zgt{f:Addr}{fd:FuncData}(F:Fun K "_law_made" "_law_made" ZbT f fd)(T:Txt K mg t_MOST_CLAUSES Zk Zd Ze Zb)(n:Nat)(YL:Cal P w K mg base CX0 (3+n+1) "_law_made" ["_law_tree"] (Je Zk Zd Ze Zb n))(ZfC:Cal P w K mg base CX0 3 "after" ["kind","days"] (ZdZ Zk Zd Ze Zb))(Zd2:Cal P w K mg base CX0 3 "earlier" ["one","other"] (ZbW Zk Zd Ze Zb))(ZfD:Cal P w K mg base CX0 3 "later" ["one","other"] (Ze0 Zk Zd Ze Zb))(ZfE:Cal P w K mg base CX0 1 "never" [] (ZdY Zk Zd Ze Zb)):Yq P w K mg base CX0 (3+n+1+1) f fd ["_law_tree"] (Je Zk Zd Ze Zb (n+1)):=by
 refine F.ok Zgs (fun vs H Q E h=> ?_) (fun cdv A outer s H vs Q E hr h=> ?_)
 ·obtain⟨a,t,rfl,_⟩:=h
  rfl
 ·obtain⟨a,t,rfl,ht,hd,q⟩:=h;refine⟨_,(Zi (Ye (Zv YT (ZQ ZL (pv 0) Zh (fun _ _=>rfl)) Yu (Zy _)) (Zq (Zt (ZlC ZfE (hr.mono (by omega)) rfl ZF))) Zz) (Zi (Ye (Zv YT (ZQ ZL (pv 0) Zh (fun _ _=>rfl)) Yu (Zy _)) (Zq (Zt (ZW ZfC (hr.mono (by omega)) rfl ZF (Za (ZQ ZL (pv 0) Zh (fun _ _=>rfl)) (Za (ZQ ZL (pv 0) Zh (fun _ _=>rfl)) Zm))))) Zz) (Zi (Ye (Zv YT (ZQ ZL (pv 0) Zh (fun _ _=>rfl)) Yu (Zy _)) (Zq (Zt (ZW ZfD (hr.mono (by omega)) rfl ZF (Za (ZW YL (hr.mono (by omega)) rfl ZF (Za (ZQ ZL (pv 0) Zh (fun _ _=>rfl)) Zm)) (Za (ZW YL (hr.mono (by omega)) rfl ZF (Za (ZQ ZL (pv 0) Zh (fun _ _=>rfl)) Zm)) Zm))))) Zz) (Zq (Zt (ZW Zd2 (hr.mono (by omega)) rfl ZF (Za (ZW YL (hr.mono (by omega)) rfl ZF (Za (ZQ ZL (pv 0) Zh (fun _ _=>rfl)) Zm)) (Za (ZW YL (hr.mono (by omega)) rfl ZF (Za (ZQ ZL (pv 0) Zh (fun _ _=>rfl)) Zm)) Zm)))))))), ?_⟩
  cases t with
  |never=>
   have ha:H a=some _:=ht;exact(ixT rfl (SqT.of ha) rfl ⟨rfl,_,rfl,Zdk rfl ⟨rfl,fun p H' s _ t=>q p H' s t⟩⟩)
  |after k d=>
   have ha:H a=some _:=ht;refine(ixT rfl (SqT.of ha) rfl ⟨rfl,_,rfl,YX w1 (ixT rfl (SqT.of ha) rfl ⟨rfl,_,rfl,Zdk rfl ?_⟩)⟩);exact(ixT rfl (SqT.of ha) rfl (ixT rfl (SqT.of ha) rfl ⟨k,d,rfl,fun p H' s _ t=>q p H' s t⟩))
  |later x y=>
   obtain⟨p1,p2,ha,t1,t2⟩:=ht;have hdeep:max x.deep y.deep+1<n+1:=hd;refine(ixT rfl (SqT.of ha) rfl ⟨rfl,_,rfl,YX w2 (ixT rfl (SqT.of ha) rfl ⟨rfl,_,rfl,YX w4 (ixT rfl (SqT.of ha) rfl ⟨rfl,_,rfl,Zdk rfl ?_⟩)⟩)⟩);refine(ixT rfl (SqT.of ha) rfl ⟨p1,x,rfl,t1,by omega,fun m1 H1 s1 tm1=> ?_⟩);refine(ixT rfl (SqT.of (s1 _ _ ha)) rfl ⟨p2,y,rfl,t2.same s1,by omega,fun m2 H2 s2 tm2=> ?_⟩);exact⟨m1,m2,x,y,rfl,tm1.same s2,tm2,fun p H3 s3 _ t3=>q p H3 (s1.trans (s2.trans s3)) t3⟩
  |earlier x y=>
   obtain⟨p1,p2,ha,t1,t2⟩:=ht;have hdeep:max x.deep y.deep+1<n+1:=hd;refine(ixT rfl (SqT.of ha) rfl ⟨rfl,_,rfl,YX w3 (ixT rfl (SqT.of ha) rfl ⟨rfl,_,rfl,YX w5 (ixT rfl (SqT.of ha) rfl ⟨rfl,_,rfl,YX w6 ?_⟩)⟩)⟩);refine(ixT rfl (SqT.of ha) rfl ⟨p1,x,rfl,t1,by omega,fun m1 H1 s1 tm1=> ?_⟩);refine(ixT rfl (SqT.of (s1 _ _ ha)) rfl ⟨p2,y,rfl,t2.same s1,by omega,fun m2 H2 s2 tm2=> ?_⟩);exact⟨m1,m2,x,y,rfl,tm1.same s2,tm2,fun p H3 s3 _ t3=>q p H3 (s1.trans (s2.trans s3)) t3⟩
theorem Zgu(i j:Int):(if i<j then i else j)=(if j<i then j else i):=by split<;>split<;>omega
theorem Zc2:ZG ["_law_tree","_law_life","_law_left","_law_right"] ["_law_tree","_law_life"] (Zu ZcV):=⟨rfl,rfl,rfl,by decide+kernel,rfl,by decide+kernel,by decide+kernel⟩
theorem Zht{f:Addr}{fd:FuncData}(F:Fun K "_law_due" "_law_due" ZcV f fd)(T:Txt K mg t_MOST_CLAUSES Zk Zd Ze Zb)(n:Nat)(Xb:Cal P w K mg base CX0 (0+n+1) "_law_due" ["_law_tree","_law_life"] (JP n)):Yq P w K mg base CX0 (0+n+1+1) f fd ["_law_tree","_law_life"] (JP (n+1)):=by
 refine F.ok Zc2 (fun vs H Q E h=> ?_) (fun cdv A outer s H vs Q E hr h=> ?_)
 ·obtain⟨a,b,t,l,rfl,_⟩:=h
  rfl
 ·obtain⟨a,b,t,l,rfl,ht,hd,hb,q⟩:=h;have hu:=ZdL hr;refine⟨_,(Zi (Ye (Zv YT (ZQ ZL (pv 0) Zh (fun _ _=>rfl)) Yu (Zy _)) (Zq (Zt Xc)) Zz) (Zi (Ye (Zv YT (ZQ ZL (pv 0) Zh (fun _ _=>rfl)) Yu (Zy _)) (Zq (Zt (Zc8 (ZiL (Zj5 hu (ZQ ZL (pv 0) Zh (fun _ _=>rfl)) (pv 1))) (Zw Xo (Zcc hu (pv 1) (ZQ ZL (pv 0) Zh (fun _ _=>rfl)) (fun _ _=>rfl)) (ZQ ZL (pv 0) Zh (fun _ _=>rfl))) Xc))) Zz) (Zi (ZD (i:=2) Zc2.nd rfl (Or.inl rfl) (ZW Xb (hr.mono (by omega)) rfl ZF (Za (ZQ ZL (pv 0) Zh (fun _ _=>rfl)) (Za (pv 1) Zm)))) (Zi (ZD (i:=3) Zc2.nd rfl (Or.inl rfl) (ZW Xb (hr.mono (by omega)) rfl ZF (Za (ZQ ZL (pv 0) Zh (fun _ _=>rfl)) (Za (pv 1) Zm)))) (Zi (Ye (PW.pt (ZdD (Zv Zaz (pv 2) Xc (Zy _)) (ZcF (Zv Zaz (pv 3) Xc (Zy _))))) (Zi (Ye (Zv YT (ZQ ZL (pv 0) Zh (fun _ _=>rfl)) Yu (Zy _)) (Zq (Zt Xc)) Zz) (Zq (Zt (Zc8 (Zv Zaz (pv 2) Xc (Zy _)) (pv 3) (pv 2))))) Zz) (Zi (Ye (Zv YT (ZQ ZL (pv 0) Zh (fun _ _=>rfl)) Yu (Zy _)) (Zq (Zt (Zc8 (Zv Zep (pv 2) (pv 3) (Zy _)) (pv 3) (pv 2)))) Zz) (Zq (Zt (Zc8 (Zv Zep (pv 2) (pv 3) (Zy _)) (pv 2) (pv 3)))))))))), ?_⟩
  cases t with
  |never=>
   have ha:H a=some _:=ht;exact⟨_,rfl,a,_,_,_,rfl,rfl,SqT.of ha,rfl,rfl,_,rfl,Zdk rfl (q H (Zx.refl H))⟩
  |after k d=>
   have ha:H a=some _:=ht;have hg:=Zd0 hb k;have q1:=q H (Zx.refl H);unfold Tr.due at q1
   refine⟨_,rfl,a,_,_,_,rfl,rfl,SqT.of ha,rfl,rfl,_,rfl,YX w1 ⟨_,rfl,a,_,_,_,rfl,rfl,SqT.of ha,rfl,rfl,_,rfl,Zdk rfl ?_⟩⟩;refine⟨_,rfl,a,_,_,_,rfl,rfl,SqT.of ha,rfl,_,rfl,b,_,rfl,hg,_,rfl, ?_⟩;rw[Zc1];cases ev:lk l k with
   |none=>
    rw[ev] at q1
    exact Xl q1
   |some u=>
    rw[ev] at q1 hg
    exact Jo ⟨_,rfl,_,rfl,a,_,_,_,rfl,rfl,SqT.of ha,rfl,b,_,rfl,hg,_,rfl,a,_,_,_,rfl,rfl,SqT.of ha,rfl,_,_,rfl,rfl,q1⟩
  |later x y=>
   obtain⟨p1,p2,ha,t1,t2⟩:=ht;have hdeep:max x.deep y.deep+1<n+1:=hd;refine⟨_,rfl,a,_,_,_,rfl,rfl,SqT.of ha,rfl,rfl,_,rfl,YX w2 ⟨_,rfl,a,_,_,_,rfl,rfl,SqT.of ha,rfl,rfl,_,rfl,YX w4 ?_⟩⟩;refine⟨_,rfl,a,_,_,_,rfl,rfl,SqT.of ha,rfl,_,rfl,p1,b,x,l,rfl,t1,by omega,hb,fun H1 s1=> ?_⟩;refine⟨_,rfl,a,_,_,_,rfl,rfl,SqT.of (s1 _ _ ha),rfl,_,rfl,p2,b,y,l,rfl,t2.same s1,by omega,ZdA s1 hb,fun H2 s2=> ?_⟩;have h2:=s2 _ _ (s1 _ _ ha)
   have q1:=q H2 (s1.trans s2);unfold Tr.due at q1
   cases e1:x.due l with
   |none=>
    rw[e1] at q1
    exact⟨_,rfl,rfl,_,rfl,Jo (Jo ⟨_,rfl,a,_,_,_,rfl,rfl,SqT.of h2,rfl,rfl,_,rfl,Zdk rfl q1⟩)⟩
   |some i=>
    cases e2:y.due l with
    |none=>
     rw[e1,e2] at q1
     exact⟨_,rfl,rfl,_,rfl,Xl ⟨_,rfl,rfl,_,rfl,Jo ⟨_,rfl,a,_,_,_,rfl,rfl,SqT.of h2,rfl,rfl,_,rfl,Zdk rfl q1⟩⟩⟩
    |some j=>
     rw[e1,e2] at q1
     refine⟨_,rfl,rfl,_,rfl,Xl ⟨_,rfl,rfl,_,rfl,Xl ⟨_,rfl,a,_,_,_,rfl,rfl,SqT.of h2,rfl,rfl,_,rfl,Zdk rfl ?_⟩⟩⟩;refine⟨_,rfl,_,rfl,_,_,rfl,rfl,_,rfl,Jp (fun e=>⟨_,rfl, ?_⟩) (fun e=>⟨_,rfl, ?_⟩)⟩
     ·have e:i<j:=of_decide_eq_true e;exact ZkW q1 (by show V.int (if j>i then j else i)=_;rw[if_pos e];rfl)
     ·have e:¬i<j:=fun z=>e (decide_eq_true z);exact ZkW q1 (by show V.int (if j>i then j else i)=_;rw[if_neg e];rfl)
  |earlier x y=>
   obtain⟨p1,p2,ha,t1,t2⟩:=ht;have hdeep:max x.deep y.deep+1<n+1:=hd;refine⟨_,rfl,a,_,_,_,rfl,rfl,SqT.of ha,rfl,rfl,_,rfl,YX w3 ⟨_,rfl,a,_,_,_,rfl,rfl,SqT.of ha,rfl,rfl,_,rfl,YX w5 ?_⟩⟩;refine⟨_,rfl,a,_,_,_,rfl,rfl,SqT.of ha,rfl,_,rfl,p1,b,x,l,rfl,t1,by omega,hb,fun H1 s1=> ?_⟩;refine⟨_,rfl,a,_,_,_,rfl,rfl,SqT.of (s1 _ _ ha),rfl,_,rfl,p2,b,y,l,rfl,t2.same s1,by omega,ZdA s1 hb,fun H2 s2=> ?_⟩;have h2:=s2 _ _ (s1 _ _ ha)
   have q1:=q H2 (s1.trans s2);unfold Tr.due at q1
   cases e1:x.due l with
   |none=>
    rw[e1] at q1
    exact⟨_,rfl,rfl,_,rfl,Jo (Jo ⟨_,rfl,a,_,_,_,rfl,rfl,SqT.of h2,rfl,rfl,_,rfl,YX w6 ⟨_,rfl,rfl,_,rfl,Jo ⟨_,rfl,q1⟩⟩⟩)⟩
   |some i=>
    cases e2:y.due l with
    |none=>
     rw[e1,e2] at q1
     exact⟨_,rfl,rfl,_,rfl,Xl ⟨_,rfl,rfl,_,rfl,Jo ⟨_,rfl,a,_,_,_,rfl,rfl,SqT.of h2,rfl,rfl,_,rfl,YX w6 ⟨_,rfl,rfl,_,rfl,Xl ⟨_,rfl,q1⟩⟩⟩⟩⟩
    |some j=>
     rw[e1,e2] at q1
     refine⟨_,rfl,rfl,_,rfl,Xl ⟨_,rfl,rfl,_,rfl,Xl ⟨_,rfl,a,_,_,_,rfl,rfl,SqT.of h2,rfl,rfl,_,rfl,YX w6 ?_⟩⟩⟩;refine⟨_,rfl,_,rfl,_,_,rfl,rfl,_,rfl,Jp (fun e=>⟨_,rfl, ?_⟩) (fun e=>⟨_,rfl, ?_⟩)⟩
     ·have e:i<j:=of_decide_eq_true e;exact ZkW q1 (by show V.int (if j<i then j else i)=_;rw[<-Zgu,if_pos e];rfl)
     ·have e:¬i<j:=fun z=>e (decide_eq_true z);exact ZkW q1 (by show V.int (if j<i then j else i)=_;rw[<-Zgu,if_neg e];rfl)
theorem ZlW(k:Int)(h0:0<=k)(h1:k<3):∃m u:Int,atI [V.int 40,.int 12,.int 9] k=some (.int m)/\atI [V.int 1,.int 30,.int 360] k=some (.int u)/\0<m/\m<=40/\0<=u/\u<=360:=by
 have e:k=0\/k=1\/k=2:=by omega
 rcases e with rfl|rfl|rfl
 ·exact⟨40,1,rfl,rfl,by decide,by decide,by decide,by decide⟩
 ·exact⟨12,30,rfl,rfl,by decide,by decide,by decide,by decide⟩
 ·exact⟨9,360,rfl,rfl,by decide,by decide,by decide,by decide⟩
theorem Zar:ZG ["_law_cell","_law_way"] ["_law_cell"] (Zu Js):=⟨rfl,rfl,rfl,by decide+kernel,rfl,by decide+kernel,by decide+kernel⟩
theorem Zd3{f:Addr}{fd:FuncData}(F:Fun K "_law_length_by" "_law_length_by" Js f fd)(T:Txt K mg t_MOST_CLAUSES Zk Zd Ze Zb):Yq P w K mg base CX0 1 f fd ["_law_cell"] XJ:=by
 refine F.ok Zar (fun vs H Q E h=> ?_) (fun cdv A outer s H vs Q E hr h=> ?_)
 ·obtain⟨c,rfl,_⟩:=h
  rfl
 ·obtain⟨c,rfl,q⟩:=h;have l5:=JM;have m0:=Int.emod_nonneg c (show(4:Int)≠0 by decide);have m1:=Int.emod_lt_of_pos c (show(0:Int)<4 by decide);refine⟨_,(Zi (ZD (i:=1) Zar.nd rfl (Or.inl rfl) (Zw Yj (pv 0) Zh)) (Zi (Ye (Zv YT (pv 1) Zh (Zy _)) (Zq (Zt (Zw Yj (Zw ZaC (Zw Yx (pv 0) Zh) Zh) (Zw ZiU Zh Zh)))) Zz) (Zq (Zt (Zw ZaC (Zw Yj (Zw Yx (pv 0) Zh) (ZQ JX (Xz (Za Zh (Za Zh (Za Zh Zm)))) (pv 1) (fun _ _=>rfl))) (ZQ JX (Xz (Za Zh (Za Zh (Za Zh Zm)))) (pv 1) (fun _ _=>rfl))))))), ?_⟩
  refine(vI rfl (by show(0:Int)<4;decide) (vEq rfl rfl (Jp (fun e=> ?_) (fun e=> ?_))))
  ·refine(vI rfl ⟨by decide,by decide⟩ ⟨_,_,rfl,rfl,IntMulOk.of_right (intBits_le_64 (by decide) (by decide)),_,_,rfl,rfl,ZjK (by decide) (by decide),_,_,rfl,rfl,pow_pos _, ?_⟩);have p40:(0:Int)<10^(40:Int).toNat:=pow_pos _;exact q _ H (Int.emod_nonneg _ (Int.ne_of_gt p40)) (Int.emod_lt_of_pos _ p40) (Zx.refl H)
  ·have e:¬c%4=3:=fun z=>e (decide_eq_true (by show V.int (c%4)=V.int 3;rw[z]))
   obtain⟨m,u,e1,e2,b1,b2,b3,b4⟩:=ZlW (c%4) m0 (by omega);refine(vI rfl ⟨by decide,by decide⟩ ⟨(show 3<=sizeLine from sl),fun p1 hp1=>⟨_,rfl,p1,_,_,_,rfl,rfl,SqL.of Zc,e1,_,_,rfl,rfl,b1,(show 3<=sizeLine from sl),fun p2 hp2=>⟨_,rfl,p2,_,_,_,rfl,rfl,SqL.of Zc,e2,_,_,rfl,rfl,IntMulOk.of_right (intBits_le_64 (by omega) (by omega)), ?_⟩⟩⟩);have d0:=Int.emod_nonneg (c/4) (Int.ne_of_gt b1);have d1:=Int.emod_lt_of_pos (c/4) b1
   have p:(14400:Int)<10^40:=by decide+kernel
   have z1:0<=c/4%m*u:=Int.mul_nonneg d0 b3;have z2:c/4%m*u<=40*360:=Int.mul_le_mul (by omega) b4 b3 (by decide);exact q _ _ z1 (by omega) ((Zj hp1).trans (Zj hp2))
theorem Yv.keep{H H':Hp}(s:∀b xs,H b=some (.tup xs)->H' b=some (.tup xs)):∀{t:Tr} {a:Addr},Yv H t a->Yv H' t a
 | .never,a,h=>s _ _ h
 | .after k d,a,h=>s _ _ h
 | .later x y,a,⟨p,q,h,h1,h2⟩=>⟨p,q,s _ _ h,h1.keep s,h2.keep s⟩
 | .earlier x y,a,⟨p,q,h,h1,h2⟩=>⟨p,q,s _ _ h,h1.keep s,h2.keep s⟩
structure Stk (H:Hp) (S:Addr) (ts:List (Tr×Addr)):Prop where
 at_:H S=some (.lst (ts.map fun t=>V.ref t.2))
 all:∀t∈ts,Yv H t.1 t.2
 gd:∀t∈ts,t.1.good
def Zd4(ts:List (Tr×Addr)):Nat:=(ts.map fun t=>t.1.cnt).sum
theorem Stk.same{H H':Hp}{S:Addr}{ts:List (Tr×Addr)}(h:Stk H S ts)(s:Zx H H'):Stk H' S ts:=⟨s _ _ h.at_,fun t ht=>(h.all t ht).same s,h.gd⟩
theorem two_last{α:Type}(l:List α)(h:1<l.length):∃us x y,l=us++[x,y]:=by
 have hr:l.reverse.length=l.length:=List.length_reverse;cases e:l.reverse with
 |nil=>rw[e] at hr;simp at hr;omega
 |cons y r=>
  cases r with
  |nil=>rw[e] at hr;simp at hr;omega
  |cons x r=>
   refine⟨r.reverse,x,y, ?_⟩;have:=congrArg List.reverse e
   simpa using this
theorem Zl0{α:Type}(us:List α)(y:α):(us++[y])[(us++[y]).length-1]? =some y:=by
 rw[List.length_append];simp
theorem ZiD{α:Type}(us:List α)(y:α):(us++[y]).dropLast=us:=by simp
theorem Zbl(us ts:List (Tr×Addr)):Zd4 (us++ts)=Zd4 us+Zd4 ts:=by
 unfold Zd4;rw[List.map_append,List.sum_append]
theorem Stk.push{H H':Hp}{S t:Addr}{us:List (Tr×Addr)}{z:Tr}(hu:∀u∈us,Yv H u.1 u.2)(kp:∀b xs,H b=some (.tup xs)->H' b=some (.tup xs))(hS:H' S=some (.lst (us.map (fun t=>V.ref t.2)++[.ref t])))(hz:Yv H' z t)(hg:∀u∈us,u.1.good)(gz:z.good):Stk H' S (us++[(z,t)]):=by
 refine⟨by rw[hS,List.map_append];rfl,fun u hm=> ?_,fun u hm=>(List.mem_append.mp hm).elim (hg u) fun m=>by rw[show u=(z,t) by simpa using m];exact gz⟩
 rcases List.mem_append.mp hm with m|m
 ·exact(hu u m).keep kp
 ·have e:u=(z,t):=by simpa using m
  rw[e];exact hz
theorem two_tree{H':Hp}{t:Addr}{x y:Tr×Addr}{w:Str}{z:Tr}(hx:Yv H' x.1 x.2)(hy:Yv H' y.1 y.2)(ht:H' t=some (.tup [.str w,.ref x.2,.ref y.2]))(hz:(w=Str.ofString "later"/\z=.later x.1 y.1)\/(w=Str.ofString "earlier"/\z=.earlier x.1 y.1)):
  Yv H' z t/\z.cnt=x.1.cnt+y.1.cnt/\(x.1.good->y.1.good->z.good):=by
 rcases hz with ⟨rfl,rfl⟩|⟨rfl,rfl⟩
 ·exact⟨⟨x.2,y.2,ht,hx,hy⟩,rfl,fun a b=>⟨a,b⟩⟩
 ·exact⟨⟨x.2,y.2,ht,hx,hy⟩,rfl,fun a b=>⟨a,b⟩⟩
theorem ZeT{H1:Hp}{S p t:Addr}{o1 o2 o3 o4 o5:HO}(hp:upd H1 S o1 p=none)(ht:upd (upd (upd H1 S o1) p o2) S o3 t=none):∀b u,b≠S->H1 b=some u->upd (upd (upd (upd (upd H1 S o1) p o2) S o3) t o4) S o5 b=some u:=fun b u n e=>by
 have e1:upd H1 S o1 b=some u:=by rw[Zf n];exact e
 have e2:upd (upd H1 S o1) p o2 b=some u:=by rw[Zf (Zn e1 hp)];exact e1
 have e3:upd (upd (upd H1 S o1) p o2) S o3 b=some u:=by rw[Zf n];exact e2
 rw[Zf n,Zf (Zn e3 ht)];exact e3
theorem ZjZ{H1:Hp}{S t:Addr}{o3 o4 o5:HO}(ht:upd H1 S o3 t=none):upd (upd (upd H1 S o3) t o4) S o5 t=some o4:=by
 rw[Zf (Ne.symm (Zn Zc ht)),Zc]
theorem Zk0(k:Int)(h0:0<=k)(h1:k<2)(x y:Tr):∃(w:Str) (z:Tr),atI [V.str (Str.ofString "later"),.str (Str.ofString "earlier")] k=some (.str w)/\((w=Str.ofString "later"/\z=.later x y)\/(w=Str.ofString "earlier"/\z=.earlier x y)):=by
 have e:k=0\/k=1:=by omega
 rcases e with rfl|rfl
 ·exact⟨_,_,rfl,.inl ⟨rfl,rfl⟩⟩
 ·exact⟨_,_,rfl,.inr ⟨rfl,rfl⟩⟩
theorem ZlX:Nm (Str.ofString "put"):=by
 exact⟨by decide+kernel,by decide+kernel,by decide+kernel⟩
theorem ZlY(z:Str)(b:Bool)(hz:Nm z):∃w:Str,Nm w/\atI [V.str z,.str (Str.ofString "put")] (if b=true then 1 else 0)=some (.str w):=by
 cases b
 ·exact⟨z,hz,rfl⟩
 ·exact⟨_,ZlX,rfl⟩
theorem Ze5:∀l:List (Tr×Addr),l.length<=Zd4 l
 |[]=>Nat.zero_le _
 |t::r=>by
  have:=t.1.deep_cnt;have:=Ze5 r;show r.length+1<=t.1.cnt+Zd4 r;omega
theorem Zl1{S:Addr}{H:Hp}{Q:VK}{us:List V}{y:V}(h:H S=some (.lst (us++[y])))(q:Q y (upd H S (.lst us))):Zmj (.ref S) [] H Q:=⟨S,_,y,rfl,rfl,h,Zl0 us y,by rw[ZiD];exact q⟩
theorem Ym:ZG ["_law_cells","_law_names_by","_law_most","_law_some","_law_many","_law_cell","_law_other","_law_kind"] ["_law_cells","_law_names_by","_law_most"] (Zu Za7):=⟨rfl,rfl,rfl,by decide+kernel,rfl,by decide+kernel,by decide+kernel⟩
theorem Ze6{f:Addr}{fd:FuncData}(F:Fun K "_law_tree_by" "_law_tree_by" Za7 f fd)(T:Txt K mg t_MOST_CLAUSES Zk Zd Ze Zb)(Jt:Cal P w K mg base CX0 1 "_law_length_by" ["_law_cell"] XJ)(YQ:Cal P w K mg base CX0 1 "_law_name_by" ["_law_cell","_law_k"] Xv):Yq P w K mg base CX0 2 f fd ["_law_cells","_law_names_by","_law_most"] JQ:=by
 refine F.ok Ym (fun vs H Q E h=> ?_) (fun cdv A outer s H vs Q E hr h=> ?_)
 ·obtain⟨a,ns,b,rfl,_⟩:=h
  rfl
 ·obtain⟨a,ns,b,rfl,ha,hn,q⟩:=h;have l5:=JM;have hu3:=ZkD hr;refine⟨_,(Zi (ZD (i:=3) Ym.nd rfl (Or.inl rfl) (Xz Zm)) (Zi (ZD (i:=4) Ym.nd rfl (Or.inl rfl) Zh) (Zi (Zay PassesOwn.never rfl (Zaw (pv 0)) (Yw (i:=5) Ym.nd rfl (Or.inl rfl)) (Zq (Ye (PW.pt (Zln (Zv Zep (Zw Yj (pv 5) Zh) Zh (Zy _)) (Zkg (Zv ZhF (ZV Zak (by rfl) T.z_len ZbO (Za (pv 3) Zm)) Zh (Zy _))))) (Zi (ZD (i:=6) Ym.nd rfl (Or.inl rfl) (Zf4 PySem.F.plainAttrs_list PySem.F.slot_list_pop PySem.F.type_list_pop Zf5 (pv 3))) (Zq (Zbp (ZdG PySem.F.plainAttrs_list PySem.F.slot_list_append PySem.F.type_list_append Jz (pv 3) (Za (Jm (Za (ZQ JX (Xz (Za Yu (Za Yu Zm))) (Zw Yj (pv 5) Zh) (fun _ _=>rfl)) (Za (Zf4 PySem.F.plainAttrs_list PySem.F.slot_list_pop PySem.F.type_list_pop Zf5 (pv 3)) (Za (pv 6) Zm)))) Zm))))) (Zq (Ye (Zv Zep (pv 4) (pv 2) (Zy _)) (Zi (ZD (i:=4) Ym.nd rfl (Or.inl rfl) (Zw Xo (pv 4) Zh)) (Zq (Ye (Zv YT (Zw Yj (Zw Yx (pv 5) Zh) Zh) Zh (Zy _)) (Zq (Zbp (ZdG PySem.F.plainAttrs_list PySem.F.slot_list_append PySem.F.type_list_append Jz (pv 3) (Za (Jm (Za Yu Zm)) Zm)))) (Zi (ZD (i:=7) Ym.nd rfl (Or.inl rfl) (ZW YQ (hr.mono (by omega)) rfl ZF (Za (pv 1) (Za (Zw Yj (Zw Yx (pv 5) Zh) Zh) Zm)))) (Zq (Zbp (ZdG PySem.F.plainAttrs_list PySem.F.slot_list_append PySem.F.type_list_append Jz (pv 3) (Za (Jm (Za Yu (Za (ZQ JX (Xz (Za (pv 7) (Za Yu Zm))) (Zbq Zer (by rfl) T.z_int ZgY (Za (Zca YT (Zw Yj (Zw Yx (pv 5) Zh) Zh) Zh (Zy _)) Zm)) (fun _ _=>rfl)) (Za (ZW Jt (hr.mono (by omega)) rfl ZF (Za (Zw Yx (pv 5) Zh) Zm)) Zm)))) Zm)))))))) Zz))))) (Zi (Ye (Zv (Zjs hu3) (pv 3) (Xz Zm) (Zy _)) (Zq (Zt (Jm (Za Yu Zm)))) Zz) (Zi (ZiQ PassesOwn.never (Zv ZhF (ZV Zak (by rfl) T.z_len ZbO (Za (pv 3) Zm)) Zh (Zy _)) (Zi (ZD (i:=6) Ym.nd rfl (Or.inl rfl) (Zf4 PySem.F.plainAttrs_list PySem.F.slot_list_pop PySem.F.type_list_pop Zf5 (pv 3))) (Zq (Zbp (ZdG PySem.F.plainAttrs_list PySem.F.slot_list_append PySem.F.type_list_append Jz (pv 3) (Za (Jm (Za (ZQ JX (Xz (Za Yu (Za Yu Zm))) (Zw Yj (ZV Zak (by rfl) T.z_len ZbO (Za (pv 3) Zm)) Zh) (fun _ _=>rfl)) (Za (Zf4 PySem.F.plainAttrs_list PySem.F.slot_list_pop PySem.F.type_list_pop Zf5 (pv 3)) (Za (pv 6) Zm)))) Zm)))))) (Zq (Zt (ZQ JX (pv 3) Zh (fun _ _=>rfl))))))))), ?_⟩
  refine⟨Nat.zero_le _,fun S hS=>⟨_,rfl,a,rfl,⟨_,SqL.of (Zj hS _ _ ha)⟩,Zc9 (xs:=ns.map V.int) (fun i σ H'=>∃(ts:List (Tr×Addr)) (m:Nat) (v5 v6 v7:Option V),σ=[some (.ref a),some (.int b),some (.int 7),some (.ref S),some (.int (m:Int)),v5,v6,v7]/\Stk H' S ts/\Zd4 ts=m/\m<=7/\Zx H H') ?_ ?_ ?_ ?_⟩⟩
  ·exact⟨[],0,none,none,none,rfl,⟨Zc,(fun t ht=>nomatch ht),fun t ht=>nomatch ht⟩,rfl,by decide,Zj hS⟩
  ·rintro i σ H1 _ ⟨ts,m,v5,v6,v7,rfl,st,hc,hm,s1⟩;exact SqL.of (s1 _ _ ha)
  ·rintro i x σ H1 hx ⟨ts,m,v5,v6,v7,rfl,st,hc,hm,s1⟩;obtain⟨c,rfl⟩:∃c,x=V.int c:=by
    rw[List.getElem?_map] at hx
    cases q:ns[i]? with
    |none=>rw[q] at hx;cases hx
    |some c=>rw[q] at hx;cases hx;exact⟨c,rfl⟩
   have lts:ts.length<=7:=by
    have:=Ze5 ts;omega
   have c0:=Int.emod_nonneg c (show(5:Int)≠0 by decide);refine(vI rfl (by show(0:Int)<5;decide) ⟨_,_,rfl,rfl,_,rfl, ?_⟩)
   refine(fun both=>Jp (fun e1=>⟨_,rfl,_,_,rfl,.inl ⟨_,SqL.of st.at_,rfl⟩,_,_,rfl,rfl,_,rfl,Jp (fun e2=> ?b1) (fun e2=>both)⟩) (fun e1=>Xl both)) ?b2
   case b1=>
    have e1:c%5<2:=of_decide_eq_true e1;have e2:(1:Int)<(((ts.map fun t=>V.ref t.2).length:Nat):Int):=of_decide_eq_true e2;rw[List.length_map] at e2
    obtain⟨us,x,y,rfl⟩:=two_last ts (by omega);obtain⟨w,z,ew,hz⟩:=Zk0 (c%5) c0 e1 x.1 y.1;have A1:H1 S=some (.lst ((us++[x]).map (fun t=>V.ref t.2)++[V.ref y.2])):=by rw[st.at_];simp
    refine⟨_,rfl,.inl ⟨rfl,_,SqL.of A1⟩,Zl1 A1 ?_⟩;refine⟨_,rfl,.inl ⟨rfl,_,SqL.of Zc⟩,(show 2<=sizeLine from sl),fun p hp=> ?_⟩;have nSp:S≠p:=Zn Zc hp;have A2:upd (upd H1 S (.lst ((us++[x]).map fun t=>V.ref t.2))) p (.lst [.str (Str.ofString "later"),.str (Str.ofString "earlier")]) S=some (.lst (us.map (fun t=>V.ref t.2)++[V.ref x.2])):=by rw[Zf nSp,Zc];simp
    refine(vI rfl (by show(0:Int)<5;decide) ⟨p,_,_,_,rfl,rfl,SqL.of Zc,ew,_,rfl,.inl ⟨rfl,_,SqL.of A2⟩,Zl1 A2 ?_⟩)
    refine⟨_,rfl,(show 3<=sizeLine from sl),fun t ht=> ?_⟩;have nSt:S≠t:=Zn Zc ht;refine⟨S,_,V.ref t,rfl,rfl,by rw[Zf nSt];exact Zc, ?_, ?_⟩
    ·rw[List.length_map];have:(us++[x,y]).length=us.length+2:=by simp
     omega
    ·have kp:=ZeT (o1:=.lst ((us++[x]).map fun t=>V.ref t.2)) (o2:=.lst [.str (Str.ofString "later"),.str (Str.ofString "earlier")]) (o3:=.lst (us.map fun t=>V.ref t.2)) (o4:=.tup [.str w,.ref x.2,.ref y.2]) (o5:=.lst (us.map (fun t=>V.ref t.2)++[.ref t])) hp ht;have kt:∀b xs,H1 b=some (.tup xs)->_:=fun b xs e=>kp b _ (ZfU e st.at_ (fun z=>nomatch z)) e;obtain⟨tz,cz,gz⟩:=two_tree ((st.all x (by simp)).keep kt) ((st.all y (by simp)).keep kt) (ZjZ ht) hz
     refine⟨us++[(z,t)],m,_,_,_,rfl,Stk.push (fun u hu=>st.all u (List.mem_append_left _ hu)) kt Zc tz (fun u hu=>st.gd u (List.mem_append_left _ hu)) (gz (st.gd x (by simp)) (st.gd y (by simp))), ?_,hm,fun b u e=>kp b u (Zn e hS) (s1 b u e)⟩;rw[<-hc,Zbl,Zbl];show Zd4 us+(z.cnt+0)=Zd4 us+(x.1.cnt+(y.1.cnt+0));omega
   case b2=>
    refine⟨_,rfl,_,rfl,_,_,rfl,rfl,_,rfl,Jp (fun e3=> ?_) (fun e3=>⟨ts,m,_,_,_,rfl,st,hc,hm,s1⟩)⟩;have e3:(m:Int)<7:=of_decide_eq_true e3;refine⟨_,rfl,_,_,rfl,rfl,vI rfl ⟨by decide,by decide⟩ ⟨_,_,rfl,rfl,(by show(0:Int)<11;decide),rfl,_,rfl,Jp (fun _=> ?_) (fun _=> ?_)⟩⟩
    ·refine⟨_,rfl,.inl ⟨rfl,_,SqL.of st.at_⟩,(show 1<=sizeLine from sl),fun t ht=> ?_⟩;have nSt:S≠t:=Zn st.at_ ht;refine⟨S,_,V.ref t,rfl,rfl,by rw[Zf nSt];exact st.at_,(by rw[List.length_map];omega), ?_⟩
     have kp:∀b u,b≠S->H1 b=some u->upd (upd H1 t (.tup [.str (Str.ofString "never")])) S (.lst (ts.map (fun t=>V.ref t.2)++[.ref t])) b=some u:=fun b u n e=>by
      rw[Zf n,Zf (Zn e ht)];exact e
     refine⟨ts++[(.never,t)],m+1,_,_,_,rfl,Stk.push st.all (fun b xs e=>kp b _ (ZfU e st.at_ (fun z=>nomatch z)) e) Zc ?_ st.gd trivial, ?_,by omega,fun b u e=>kp b u (Zn e hS) (s1 b u e)⟩
     ·show upd _ S _ t=_;rw[Zf (Ne.symm nSt),Zc]
     ·rw[Zbl,hc]
      rfl
    ·refine⟨_,rfl,vI rfl ⟨by decide,by decide⟩ ⟨_,_,rfl,rfl,(by show(0:Int)<6;decide),_,_,rfl,fun kz H2 nz s2=> ?_⟩⟩
     have st2:=st.same s2;refine⟨_,rfl,.inl ⟨rfl,_,SqL.of st2.at_⟩,_,rfl,(show 2<=sizeLine from sl),fun p hp=> ?_⟩;obtain⟨w,nw,ew⟩:=ZlY kz (decide (V.int (c/5%9)=V.int 4)) nz;refine(vI rfl ⟨by decide,by decide⟩ ⟨_,_,rfl,rfl,(by show(0:Int)<9;decide),rfl,.inr ⟨_,rfl,p,_,_,_,rfl,rfl,SqL.of Zc,ew, ?_⟩⟩)
     refine(vI rfl ⟨by decide,by decide⟩ ⟨_,rfl,fun d H4 d0 d1 s4=>⟨show 3<=sizeLine from sl,fun t ht=> ?_⟩⟩);have s24:=s2.trans ((Zj hp).trans s4);have st4:=st.same s24;have nSt:S≠t:=Zn st4.at_ ht;refine⟨S,_,V.ref t,rfl,rfl,by rw[Zf nSt];exact st4.at_,(by rw[List.length_map];omega), ?_⟩
     have kp:∀b u,b≠S->H4 b=some u->upd (upd H4 t (.tup [.str (Str.ofString "after"),.str w,.int d])) S (.lst (ts.map (fun t=>V.ref t.2)++[.ref t])) b=some u:=fun b u n e=>by
      rw[Zf n,Zf (Zn e ht)];exact e
     refine⟨ts++[(.after w d,t)],m+1,_,_,_,rfl,Stk.push st4.all (fun b xs e=>kp b _ (ZfU e st4.at_ (fun z=>nomatch z)) e) Zc ?_ st4.gd ⟨nw,d0,d1⟩, ?_,by omega,fun b u e=>kp b u (Zn e hS) (s24 _ _ (s1 b u e))⟩
     ·show upd _ S _ t=_;rw[Zf (Ne.symm nSt),Zc]
     ·rw[Zbl,hc]
      rfl
  ·rintro σ H1 ⟨ts,m,v5,v6,v7,rfl,st,hc,hm,s1⟩;refine⟨_,rfl,Nat.zero_le _,fun D hD=>⟨S,D,_,rfl,rfl,SqL.of (Zj hD _ _ st.at_),SqL.of Zc,_,rfl,Jp (fun e=> ?_) (fun e=> ?_)⟩⟩
   ·exact⟨show 1<=sizeLine from sl,fun p hp=>q p .never _ (s1.trans ((Zj hD).trans (Zj hp))) Zc (by decide) trivial⟩
   ·have ne:ts≠[]:=fun z=>e (decide_eq_true (by rw[z];rfl))
    refine⟨fun k σ H'=>∃(us:List (Tr×Addr)) (v5 v6 v7:Option V),σ=[some (.ref a),some (.int b),some (.int 7),some (.ref S),some (.int (m:Int)),v5,v6,v7]/\Stk H' S us/\us≠[]/\Zd4 us<=7/\k=us.length/\Zx H H',⟨ts.length,ts,v5,v6,v7,rfl,st.same (Zj hD),ne,by omega,rfl,s1.trans (Zj hD)⟩, ?_⟩;rintro k σ H2 ⟨us,v5,v6,v7,rfl,st2,ne2,hc2,rfl,s2⟩;refine⟨_,rfl,_,_,rfl,.inl ⟨_,SqL.of st2.at_,rfl⟩,_,_,rfl,rfl,_,rfl,Jp (fun e=> ?_) (fun e=> ?_)⟩
    ·have e:(1:Int)<(((us.map fun t=>V.ref t.2).length:Nat):Int):=of_decide_eq_true e;rw[List.length_map] at e
     refine⟨fun σ' H'=>∃(us':List (Tr×Addr)) (v5 v6 v7:Option V),σ'=[some (.ref a),some (.int b),some (.int 7),some (.ref S),some (.int (m:Int)),v5,v6,v7]/\Stk H' S us'/\us'≠[]/\Zd4 us'<=7/\us'.length<us.length/\Zx H H',
      fun σ' H' ⟨us',w5,w6,w7,e',st',ne',hc',hl',s'⟩=>⟨us'.length,hl',us',w5,w6,w7,e',st',ne',hc',rfl,s'⟩, ?_⟩
     obtain⟨vs,x,y,rfl⟩:=two_last us (by omega);have lv:(vs++[x,y]).length=vs.length+2:=by simp
     have lv2:vs.length<=1000:=by
      have:=Ze5 (vs++[x,y]);omega
     obtain⟨w,z,ew,hz⟩:=Zk0 ((((((vs++[x]).map fun t=>V.ref t.2).length:Nat):Int))%2) (Int.emod_nonneg _ (by decide)) (Int.emod_lt_of_pos _ (by decide)) x.1 y.1;have A1:H2 S=some (.lst ((vs++[x]).map (fun t=>V.ref t.2)++[V.ref y.2])):=by rw[st2.at_];simp
     refine⟨_,rfl,.inl ⟨rfl,_,SqL.of A1⟩,Zl1 A1 ?_⟩;refine⟨_,rfl,.inl ⟨rfl,_,SqL.of Zc⟩,(show 2<=sizeLine from sl),fun p hp=> ?_⟩;have nSp:S≠p:=Zn Zc hp;have A2:upd (upd H2 S (.lst ((vs++[x]).map fun t=>V.ref t.2))) p (.lst [.str (Str.ofString "later"),.str (Str.ofString "earlier")]) S=some (.lst ((vs++[x]).map (fun t=>V.ref t.2))):=by rw[Zf nSp,Zc]
     have A3:upd (upd H2 S (.lst ((vs++[x]).map fun t=>V.ref t.2))) p (.lst [.str (Str.ofString "later"),.str (Str.ofString "earlier")]) S=some (.lst (vs.map (fun t=>V.ref t.2)++[V.ref x.2])):=by rw[A2];simp
     refine⟨_,rfl,_,_,rfl,.inl ⟨_,SqL.of A2,rfl⟩,_,_,rfl,rfl,(by show(0:Int)<2;decide),p,_,_,_,rfl,rfl,SqL.of Zc,ew,_,rfl,.inl ⟨rfl,_,SqL.of A3⟩,Zl1 A3 ?_⟩
     refine⟨_,rfl,(show 3<=sizeLine from sl),fun t ht=> ?_⟩;have nSt:S≠t:=Zn Zc ht;refine⟨S,_,V.ref t,rfl,rfl,by rw[Zf nSt];exact Zc,(by rw[List.length_map];omega), ?_⟩
     have kp:=ZeT (o1:=.lst ((vs++[x]).map fun t=>V.ref t.2)) (o2:=.lst [.str (Str.ofString "later"),.str (Str.ofString "earlier")]) (o3:=.lst (vs.map fun t=>V.ref t.2)) (o4:=.tup [.str w,.ref x.2,.ref y.2]) (o5:=.lst (vs.map (fun t=>V.ref t.2)++[.ref t])) hp ht;have kt:∀b xs,H2 b=some (.tup xs)->_:=fun b xs e=>kp b _ (ZfU e st2.at_ (fun z=>nomatch z)) e;obtain⟨tz,cz,gz⟩:=two_tree ((st2.all x (by simp)).keep kt) ((st2.all y (by simp)).keep kt) (ZjZ ht) hz
     refine⟨vs++[(z,t)],_,_,_,rfl,Stk.push (fun u hu=>st2.all u (List.mem_append_left _ hu)) kt Zc tz (fun u hu=>st2.gd u (List.mem_append_left _ hu)) (gz (st2.gd x (by simp)) (st2.gd y (by simp))),by simp, ?_,by rw[lv,List.length_append];show vs.length+1<_;omega,fun b u e=>kp b u (Zn e hS) (s2 b u e)⟩
     rw[Zbl] at hc2⊢
     have h2:Zd4 vs+(x.1.cnt+(y.1.cnt+0))<=7:=hc2;show Zd4 vs+(z.cnt+0)<=7;omega
    ·have e:¬(1:Int)<(((us.map fun t=>V.ref t.2).length:Nat):Int):=fun z=>e (decide_eq_true z);rw[List.length_map] at e
     obtain⟨t,rfl⟩:∃t,us=[t]:=by
      cases us with
      |nil=>exact absurd rfl ne2
      |cons t r=>
       cases r with
       |nil=>exact⟨t,rfl⟩
       |cons u r=>simp only [List.length_cons] at e;omega
     refine⟨_,rfl,S,_,_,V.ref t.2,rfl,rfl,SqL.of st2.at_,rfl,q t.2 t.1 H2 s2 (st2.all t (by simp)) ?_ (st2.gd t (by simp))⟩;have h2:t.1.cnt+0<=7:=hc2;omega
theorem ZfF:ZG ["self","life"] ["self","life"] (Zu Zbe):=⟨rfl,rfl,rfl,by decide+kernel,rfl,by decide+kernel,by decide+kernel⟩
theorem ZfG{f:Addr}{fd:FuncData}(F:Fun K "due" "Never.due" Zbe f fd)(T:Txt K mg t_MOST_CLAUSES Zk Zd Ze Zb)(n:Nat):Yq P w K mg base CX0 (0+n+1+1) f fd ["self","life"] (ZaM Zk Zd Ze Zb (n+1) Zk):=by
 refine F.ok ZfF (fun vs H Q E h=> ?_) (fun cdv A outer s H vs Q E hr h=> ?_)
 ·obtain⟨a,b,t,l,rfl,_⟩:=h
  rfl
 ·obtain⟨a,b,t,l,rfl,ht,hd,hC,hb,q⟩:=h;refine⟨_,(Zq (Zt Xc)), ?_⟩;cases t with
  |never=>exact q H (Zx.refl H)
  |after k d=>exact absurd hC.symm T.ne_Never_After
  |later x y=>exact absurd hC.symm T.ne_Never_Later
  |earlier x y=>exact absurd hC.symm T.ne_Never_Earlier
theorem ZfH:ZG ["self","life"] ["self","life"] (Zu Zbf):=⟨rfl,rfl,rfl,by decide+kernel,rfl,by decide+kernel,by decide+kernel⟩
theorem ZfI{f:Addr}{fd:FuncData}(F:Fun K "due" "After.due" Zbf f fd)(T:Txt K mg t_MOST_CLAUSES Zk Zd Ze Zb)(n:Nat):Yq P w K mg base CX0 (0+n+1+1) f fd ["self","life"] (ZaM Zk Zd Ze Zb (n+1) Zd):=by
 refine F.ok ZfH (fun vs H Q E h=> ?_) (fun cdv A outer s H vs Q E hr h=> ?_)
 ·obtain⟨a,b,t,l,rfl,_⟩:=h
  rfl
 ·obtain⟨a,b,t,l,rfl,ht,hd,hC,hb,q⟩:=h;have hu:=ZdL hr;cases t with
  |never=>exact absurd hC T.ne_Never_After
  |later x y=>exact absurd hC.symm T.ne_After_Later
  |earlier x y=>exact absurd hC.symm T.ne_After_Earlier
  |after k d=>
   obtain⟨dx,ha⟩:=ht;have hg:=Zd0 hb k;refine⟨_,(Zi (Ye (ZiL (Zif hu (Xy (pv 0) rfl) (pv 1))) (Zq (Zt Xc)) Zz) (Zq (Zt (Zw Xo (Zcc hu (pv 1) (Xy (pv 0) rfl) (fun _ _=>rfl)) (Xy (pv 0) rfl))))), ?_⟩;refine⟨_,rfl,a,_,dx,_,_,rfl,ha,T.cl_After,T.n_After_kind,Zfw k d,_,rfl,b,_,rfl,hg,_,rfl, ?_⟩;rw[Zc1];have q1:=q H (Zx.refl H);unfold Tr.due at q1
   cases ev:lk l k with
   |none=>
    rw[ev] at q1
    exact Jo q1
   |some u=>
    rw[ev] at q1 hg
    exact Xl ⟨_,rfl,_,rfl,a,_,dx,_,_,rfl,ha,T.cl_After,T.n_After_kind,Zfw k d,b,_,rfl,hg,_,rfl,a,_,dx,_,_,rfl,ha,T.cl_After,T.n_After_days,ZhV k d,_,_,rfl,rfl,q1⟩
theorem ZaP:ZG ["self","life","one_day","other_day"] ["self","life"] (Zu Zbg):=⟨rfl,rfl,rfl,by decide+kernel,rfl,by decide+kernel,by decide+kernel⟩
theorem ZfJ{f:Addr}{fd:FuncData}(F:Fun K "due" "Later.due" Zbg f fd)(T:Txt K mg t_MOST_CLAUSES Zk Zd Ze Zb)(n:Nat)(ZaU:Zjq P w K mg base CX0 (0+n+1) "due" ["self","life"] (ZaM Zk Zd Ze Zb n) (fun C=>C=Zk\/C=Zd\/C=Ze\/C=Zb)):Yq P w K mg base CX0 (0+n+1+1) f fd ["self","life"] (ZaM Zk Zd Ze Zb (n+1) Ze):=by
 refine F.ok ZaP (fun vs H Q E h=> ?_) (fun cdv A outer s H vs Q E hr h=> ?_)
 ·obtain⟨a,b,t,l,rfl,_⟩:=h
  rfl
 ·obtain⟨a,b,t,l,rfl,ht,hd,hC,hb,q⟩:=h;cases t with
  |never=>exact absurd hC T.ne_Never_Later
  |after k d=>exact absurd hC T.ne_After_Later
  |earlier x y=>exact absurd hC.symm T.ne_Later_Earlier
  |later x y=>
   obtain⟨dx,p1,p2,ha,t1,t2⟩:=ht;obtain⟨dx1,f1,i1,l1⟩:=Jh t1;obtain⟨n1,n2,n3,n4⟩:=ZjY "due" (.inl rfl);have hdeep:max x.deep y.deep+1<n+1:=hd;refine⟨_,(Zi (ZD (i:=2) ZaP.nd rfl (Or.inl rfl) (Zb5 (Xy (pv 0) rfl) ZaU (hr.mono (by omega)) ZF (Za (pv 1) Zm))) (Zi (ZD (i:=3) ZaP.nd rfl (Or.inl rfl) (Zb5 (Xy (pv 0) rfl) ZaU (hr.mono (by omega)) ZF (Za (pv 1) Zm))) (Zi (Ye (PW.pt (ZdD (Zv Zaz (pv 2) Xc (Zy _)) (ZcF (Zv Zaz (pv 3) Xc (Zy _))))) (Zq (Zt Xc)) Zz) (Zq (Zt (ZV (Zeq rfl) (by rfl) T.z_max ZgX (Za (pv 2) (Za (pv 3) Zm)))))))), ?_⟩
   refine⟨_,rfl,a,_,dx,_,_,rfl,ha,T.cl_Later,T.n_Later_one,Zfx p1 p2,p1,_,dx1,f1,rfl,i1,Zbk x,l1 _ n1 n2 n3 n4,_,rfl,p1,b,x,l,rfl,t1,by omega,rfl,hb,fun H2 s2=> ?_⟩;obtain⟨dx2,f2,i2,l2⟩:=Jh (t2.same s2);refine⟨_,rfl,a,_,dx,_,_,rfl,s2 _ _ ha,T.cl_Later,T.n_Later_other,Zcz p1 p2,p2,_,dx2,f2,rfl,i2,Zbk y,l2 _ n1 n2 n3 n4,_,rfl,p2,b,y,l,rfl,t2.same s2,by omega,rfl,ZdA s2 hb,fun H3 s3=> ?_⟩;have q1:=q H3 (s2.trans s3)
   unfold Tr.due at q1
   cases e1:x.due l with
   |none=>
    rw[e1] at q1
    exact⟨_,rfl,rfl,_,rfl,Jo (Jo q1)⟩
   |some i=>
    cases e2:y.due l with
    |none=>
     rw[e1,e2] at q1
     exact⟨_,rfl,rfl,_,rfl,Xl ⟨_,rfl,rfl,_,rfl,Jo q1⟩⟩
    |some j=>
     rw[e1,e2] at q1
     exact⟨_,rfl,rfl,_,rfl,Xl ⟨_,rfl,rfl,_,rfl,Xl ⟨_,rfl,_,rfl,i,j,rfl,q1⟩⟩⟩
theorem JS:ZG ["self","life","one_day","other_day"] ["self","life"] (Zu Za9):=⟨rfl,rfl,rfl,by decide+kernel,rfl,by decide+kernel,by decide+kernel⟩
theorem Ze7{f:Addr}{fd:FuncData}(F:Fun K "due" "Earlier.due" Za9 f fd)(T:Txt K mg t_MOST_CLAUSES Zk Zd Ze Zb)(n:Nat)(ZaU:Zjq P w K mg base CX0 (0+n+1) "due" ["self","life"] (ZaM Zk Zd Ze Zb n) (fun C=>C=Zk\/C=Zd\/C=Ze\/C=Zb)):Yq P w K mg base CX0 (0+n+1+1) f fd ["self","life"] (ZaM Zk Zd Ze Zb (n+1) Zb):=by
 refine F.ok JS (fun vs H Q E h=> ?_) (fun cdv A outer s H vs Q E hr h=> ?_)
 ·obtain⟨a,b,t,l,rfl,_⟩:=h
  rfl
 ·obtain⟨a,b,t,l,rfl,ht,hd,hC,hb,q⟩:=h;cases t with
  |never=>exact absurd hC T.ne_Never_Earlier
  |after k d=>exact absurd hC T.ne_After_Earlier
  |later x y=>exact absurd hC T.ne_Later_Earlier
  |earlier x y=>
   obtain⟨dx,p1,p2,ha,t1,t2⟩:=ht;obtain⟨dx1,f1,i1,l1⟩:=Jh t1;obtain⟨n1,n2,n3,n4⟩:=ZjY "due" (.inl rfl);have hdeep:max x.deep y.deep+1<n+1:=hd;refine⟨_,(Zi (ZD (i:=2) JS.nd rfl (Or.inl rfl) (Zb5 (Xy (pv 0) rfl) ZaU (hr.mono (by omega)) ZF (Za (pv 1) Zm))) (Zi (ZD (i:=3) JS.nd rfl (Or.inl rfl) (Zb5 (Xy (pv 0) rfl) ZaU (hr.mono (by omega)) ZF (Za (pv 1) Zm))) (Zi (Ye (Zv Zaz (pv 2) Xc (Zy _)) (Zq (Zt (pv 3))) Zz) (Zi (Ye (Zv Zaz (pv 3) Xc (Zy _)) (Zq (Zt (pv 2))) Zz) (Zq (Zt (ZV (Zi6 rfl) (by rfl) T.z_min Zjd (Za (pv 2) (Za (pv 3) Zm))))))))), ?_⟩
   refine⟨_,rfl,a,_,dx,_,_,rfl,ha,T.cl_Earlier,T.n_Earlier_one,Zfx p1 p2,p1,_,dx1,f1,rfl,i1,Zbk x,l1 _ n1 n2 n3 n4,_,rfl,p1,b,x,l,rfl,t1,by omega,rfl,hb,fun H2 s2=> ?_⟩;obtain⟨dx2,f2,i2,l2⟩:=Jh (t2.same s2);refine⟨_,rfl,a,_,dx,_,_,rfl,s2 _ _ ha,T.cl_Earlier,T.n_Earlier_other,Zcz p1 p2,p2,_,dx2,f2,rfl,i2,Zbk y,l2 _ n1 n2 n3 n4,_,rfl,p2,b,y,l,rfl,t2.same s2,by omega,rfl,ZdA s2 hb,fun H3 s3=> ?_⟩;have q1:=q H3 (s2.trans s3)
   unfold Tr.due at q1
   cases e1:x.due l with
   |none=>
    rw[e1] at q1
    exact⟨_,rfl,rfl,_,rfl,Jo ⟨_,rfl,q1⟩⟩
   |some i=>
    cases e2:y.due l with
    |none=>
     rw[e1,e2] at q1
     exact⟨_,rfl,rfl,_,rfl,Xl ⟨_,rfl,rfl,_,rfl,Jo ⟨_,rfl,q1⟩⟩⟩
    |some j=>
     rw[e1,e2] at q1
     exact⟨_,rfl,rfl,_,rfl,Xl ⟨_,rfl,rfl,_,rfl,Xl ⟨_,rfl,_,rfl,i,j,rfl,q1⟩⟩⟩
theorem Yd.same{H H':Hp}(s:Zx H H'):∀{as:List Addr} {ws:List Tb},Yd H as ws->Yd H' as ws
 |_,_,.nil=> .nil
 |_,_,.cons ⟨c,e,r⟩ t=> .cons ⟨c,s _ _ e,r⟩ (Yd.same s t)
theorem Yd.but{H H':Hp}(s:∀(b:Addr) (kvs:List (Key×V)),H b=some (.dK kvs)->H' b=some (.dK kvs)):∀{as:List Addr} {ws:List Tb},Yd H as ws->Yd H' as ws
 |_,_,.nil=> .nil
 |_,_,.cons ⟨c,e,r⟩ t=> .cons ⟨c,s _ _ e,r⟩ (Yd.but s t)
theorem Yd.app{H:Hp}:∀{as bs:List Addr} {ws us:List Tb},Yd H as ws->Yd H bs us->Yd H (as++bs) (ws++us)
 |_,_,_,_,.nil,k=>k
 |_,_,_,_,.cons r t,k=> .cons r (Yd.app t k)
theorem Yd.get{H:Hp}:∀{as:List Addr} {ws:List Tb},Yd H as ws->∀(i:Nat) (x:V),(as.map V.ref)[i]? =some x->∃a w c,x=.ref a/\as[i]? =some a/\ws[i]? =some w/\H a=some (.dK (kk c))/\M4.Nd c/\M4.norm c=w
 |_,_,.nil,i,x,h=>by simp at h
 |_,_,.cons ⟨c,e,n,q⟩ t,0,x,h=>⟨_,_,c,(by simpa using h.symm),rfl,rfl,e,n,q⟩
 |_,_,.cons _ t,i+1,x,h=>Yd.get t i x (by simpa using h)
theorem Yd.len{H:Hp}{as:List Addr}{ws:List Tb}(h:Yd H as ws):as.length=ws.length:=Paired.length h
theorem Zk1{H:Hp}{a:Addr}{kvs:List (Key×V)}(h:H a=some (.dK kvs)):∀o u,H a≠some (.frz o u):=fun o u e=>by rw[h] at e;cases e
theorem Zk2{c:Tb}(h:c.length<=1000):(kk c).length<=sizeLine:=by
 have l5:=JM;rw[Yb];omega
theorem Zk3{c:Tb}{kv:Key×V}(h:kv∈kk c):∃p∈c,kv=(Sum.inr p.1,V.int p.2):=
 (List.mem_map.mp h).elim fun p z=>⟨p,z.1,z.2.symm⟩
def ZlZ:Key->Str
 | .inr x=>x
 | .inl _=>Str.empty
def Zlh:V->Int
 | .int i=>i
 |_=>0
theorem Zm0{β:Type}(c:Tb)(f:Str->Int->β):((kk c).map fun kv=>f (ZlZ kv.1) (Zlh kv.2))=c.map fun p=>f p.1 p.2:=by
 unfold kk;rw[List.map_map]
 rfl
theorem Zk4{c:Tb}{i:Nat}{kv:Key×V}(h:(kk c)[i]? =some kv):∃p,c[i]? =some p/\kv=(Sum.inr p.1,V.int p.2):=by
 unfold kk at h
 rw[List.getElem?_map] at h
 cases q:c[i]? with
 |none=>rw[q] at h;cases h
 |some p=>rw[q] at h;cases h;exact⟨p,rfl,rfl⟩
theorem Zgv:ZG ["one","other"] ["one","other"] (Zu ZbR):=⟨rfl,rfl,rfl,by decide+kernel,rfl,by decide+kernel,by decide+kernel⟩
theorem Zgw{f:Addr}{fd:FuncData}(F:Fun K "is_below" "is_below" ZbR f fd)(T:Txt K mg t_MOST_CLAUSES Zk Zd Ze Zb):Yq P w K mg base CX0 1 f fd ["one","other"] Zbi:=by
 refine F.ok Zgv (fun vs H Q E h=> ?_) (fun cdv A outer s H vs Q E hr h=> ?_)
 ·obtain⟨a,b,c,l,rfl,_⟩:=h
  rfl
 ·obtain⟨a,b,c,l,rfl,ha,hb,hl,q⟩:=h;have hu:=ZdL hr;refine⟨_,(Zq (Zt (ZV (ZgV rfl) (by rfl) T.z_all ZlA (Za (ZkC a (Zcd ["kind","length"] [("other",1)] rfl (ZdO (Zcf (pv 0))) (by rfl) (by exact⟨rfl,trivial⟩) (by rfl) (by exact⟨⟨rfl,rfl,rfl⟩,trivial⟩) (fun _ _ _ _=>(ZkE (K:=K) 2 rfl rfl (Zai (Yw (i:=0) (show(nmY ["kind","length"] [("other",1)]).Nodup by decide+kernel) rfl (Or.inl rfl) (Or.inr rfl)) (Zai (Yw (i:=1) (show(nmY ["kind","length"] [("other",1)]).Nodup by decide+kernel) rfl (Or.inl rfl) (Or.inr rfl)) ZeZ)) rfl rfl)) (fun _ _ _ _=>Zdq) (fun _ _ _ _=>(ZiN (Zlm (Zj5 hu (pv 0) (pv 2))) (ZiM (Zca Zmd (pv 1) (Zcc hu (pv 2) (pv 0) (fun _ _=>rfl)) (Zy _))))))) Zm)))), ?_⟩
  refine Zh5 (f:=fun kv=>V.bl (match lk l (ZlZ kv.1) with|some u=>decide (Zlh kv.2<=u)|none=>false)) rfl ha (Zk2 hl) (Zk1 ha) (fun v u=>⟨rfl,trivial⟩) (fun kv hm H3 Q3 fs k3=> ?_) fun D3 H3 s3 _ d3=> ?_
  ·obtain⟨p,hp,rfl⟩:=Zk3 hm;have hg:=Zd0 (fs.rd2 ha hb) p.1;have k4:=k3 H3 (Zx.refl _);rw[show ZlZ (Sum.inr p.1)=p.1 from rfl] at k4
   refine⟨_,rfl,_,rfl,b,_,rfl,hg,_,rfl, ?_⟩;rw[Zc1];cases ev:lk l p.1 with
   |none=>
    rw[ev] at k4
    exact Xl k4
   |some u=>
    rw[ev] at k4 hg
    exact Jo ⟨_,rfl,_,rfl,_,rfl,b,_,rfl,hg,_,_,rfl,rfl,k4⟩
  ·rw[Zm0 c (fun k i=>V.bl (match lk l k with|some u=>decide (i<=u)|none=>false))] at d3
   refine⟨D3,c.map (fun p=>match lk l p.1 with|some u=>decide (p.2<=u)|none=>false),rfl,SqL.of (by rw[d3,List.map_map];rfl), ?_⟩
   have e:(c.map fun p=>match lk l p.1 with|some u=>decide (p.2<=u)|none=>false).all id=Yp c l:=by
    unfold Yp;rw[List.all_map]
    rfl
   rw[e];exact q H3 s3
theorem Zgx{H H':Hp}{a:Addr}{xs:List V}(s:Zx H H')(h:SqT K H a xs):SqT K H' a xs:=by
 rcases h with h|h
 ·rcases h with h|⟨o,h⟩
  ·exact .inl (.inl (s _ _ h))
  ·exact .inl (.inr ⟨o,s _ _ h⟩)
 ·exact .inr h
theorem Zk5{H H':Hp}{a:Addr}{xs:List V}(s:Zx H H')(h:SqL K H a xs):SqL K H' a xs:=by
 rcases h with h|h
 ·rcases h with h|⟨o,h⟩
  ·exact .inl (.inl (s _ _ h))
  ·exact .inl (.inr ⟨o,s _ _ h⟩)
 ·exact .inr h
theorem Zl2{H H':Hp}{x:Lf}{v:V}(s:Zx H H')(r:Rep K H (lfD x) v):Rep K H' (lfD x) v:=by
 cases r with
 |tup h r=>
  refine .tup (Zgx s h) ?_;cases r with
  |cons a r=>
   cases r with
   |cons b r=>
    cases r;cases a;cases b;exact .cons (.flat rfl) (.cons (.flat rfl) .nil)
theorem Zgy{H H':Hp}{l:List Lf}{v:V}(s:Zx H H')(r:Rep K H (Zdj l) v):Rep K H' (Zdj l) v:=by
 cases r with
 |lst h r=>
  refine .lst (Zk5 s h) ?_;clear h;generalize e:l.map lfD=ds at r
  induction r generalizing l with
  |nil=>exact .nil
  |cons a t ih=>
   cases l with
   |nil=>cases e
   |cons y l=>
    rw[List.map_cons] at e
    injection e with e1 e2
    subst e1;exact .cons (Zl2 s a) (ih e2)
theorem ZfK{H H':Hp}{k:Ky}{v:V}(s:Zx H H')(r:Rep K H (kyD k) v):Rep K H' (kyD k) v:=by
 cases r with
 |tup h r=>
  refine .tup (Zgx s h) ?_;cases r with
  |cons a r=>
   cases r with
   |cons b r=>
    cases r;cases a;exact .cons (.flat rfl) (.cons (Zgy s b) .nil)
theorem Zgz:ZG ["clause"] ["clause"] (Zu ZbS):=⟨rfl,rfl,rfl,by decide+kernel,rfl,by decide+kernel,by decide+kernel⟩
theorem ZgA{f:Addr}{fd:FuncData}(F:Fun K "place_of" "place_of" ZbS f fd)(T:Txt K mg t_MOST_CLAUSES Zk Zd Ze Zb):Yq P w K mg base CX0 1 f fd ["clause"] (Xn K):=by
 refine F.ok Zgz (fun vs H Q E h=> ?_) (fun cdv A outer s H vs Q E hr h=> ?_)
 ·obtain⟨a,c,rfl,_⟩:=h
  rfl
 ·obtain⟨a,c,rfl,ha,hl,q⟩:=h;have l5:=JM;refine⟨_,(Zq (Zt (Jm (Za (ZV Zig (by rfl) T.z_len ZbO (Za (pv 0) Zm)) (Za (ZV (Zeh (K:=K) rfl rfl) (by rfl) T.z_sorted Zez (Za (Zcf (pv 0)) Zm)) Zm))))), ?_⟩;refine⟨_,rfl,a,_,rfl,ha,_,rfl,a,_,rfl,ha,fun v hv=>⟨v,a,c,rfl,Zc,by rw[Zf (Zn ha hv)];exact ha,by omega,fun zs pz az p H1 hp s1 rp=>⟨show 2<=sizeLine from sl,fun t ht=> ?_⟩⟩⟩
  have e:zs=M4.norm c:=M4.Zdx Xr pz az;subst e;have s2:Zx H1 (upd H1 t (.tup [.int ((kk c).length:Int),.ref p])):=Zj ht;refine q t _ (((Zj hv).trans s1).trans s2) ?_;rw[Yb];exact .tup (SqT.of Zc) (.cons (.flat rfl) (.cons (Zgy (Zj ht) rp) .nil))
theorem ZiE(c:Tb):∀l:Tb,(M4.YB c l).length<=c.length+l.length:=by
 have go:∀(l d:Tb),(l.foldl (fun x p=>Zb4 x p.1 (max p.2 ((lk c p.1).getD p.2))) d).length<=d.length+l.length:=by
  intro l
  induction l with
  |nil=>exact fun d=>Nat.le_refl _
  |cons p r ih=>
   intro d;have h1:=ih (Zb4 d p.1 (max p.2 ((lk c p.1).getD p.2)));have h2:=ZdQ d p.1 (max p.2 ((lk c p.1).getD p.2));rw[List.length_cons,List.foldl_cons];omega
 exact fun l=>go l c
theorem ZiF{c l:Tb}{i:Nat}{p:Str×Int}(h:l[i]? =some p):M4.YB c (l.take (i+1))=Zb4 (M4.YB c (l.take i)) p.1 (max p.2 ((lk c p.1).getD p.2)):=by
 unfold M4.YB;rw[List.take_add_one,h,List.foldl_append]
 rfl
theorem ZbC:ZG ["one","other","clause","kind","length"] ["one","other"] (Zu ZdX):=⟨rfl,rfl,rfl,by decide+kernel,rfl,by decide+kernel,by decide+kernel⟩
theorem ZiG{f:Addr}{fd:FuncData}(F:Fun K "joined" "joined" ZdX f fd)(T:Txt K mg t_MOST_CLAUSES Zk Zd Ze Zb):Yq P w K mg base CX0 1 f fd ["one","other"] ZcZ:=by
 refine F.ok ZbC (fun vs H Q E h=> ?_) (fun cdv A outer s H vs Q E hr h=> ?_)
 ·obtain⟨a,b,c,l,rfl,_⟩:=h
  rfl
 ·obtain⟨a,b,c,l,rfl,ha,hb,hc,hl,q⟩:=h;have l5:=JM;have hu:=ZdL hr;refine⟨_,(Zi (ZD (i:=2) ZbC.nd rfl (Or.inl rfl) (Zbq Zcg (by rfl) T.z_dict Zf9 (Za (pv 0) Zm))) (Zi (ZhJ b (Zay PassesOwn.never rfl (ZdO (Zcf (pv 1))) (ZgG rfl (Zai (Yw (i:=3) ZbC.nd rfl (Or.inl rfl)) (Zai (Yw (i:=4) ZbC.nd rfl (Or.inl rfl)) ZeZ))) (Zq (Zdp hu (pv 2) (pv 3) (ZV (Zeq rfl) (by rfl) T.z_max ZgX (Za (pv 4) (Za (Zj8 hu (pv 0) (pv 3) (pv 4) ⟨rfl,rfl,rfl,rfl⟩) Zm))) rfl)))) (Zq (Zt (pv 2))))), ?_⟩
  refine⟨_,rfl,a,_,rfl,ha,fun p hp=> ?_⟩;have npb:b≠p:=Zn hb hp;have hb1:upd H p (.dK (kk c)) b=some (.dK (kk l)):=by rw[Zf npb];exact hb
  refine⟨_,rfl,b,_,rfl,hb1,fun v hv=>⟨v,b,_,rfl,Zc,by rw[Zf (Zn hb1 hv)];exact hb1,fun o=> ?_⟩⟩
  have nvb:b≠v:=Zn hb1 hv;have npv:p≠v:=Zn Zc hv;refine Zh2 (J:=Iti b o (kk l)) (n:=l.length) (fun i σ H'=>∃v3 v4,σ=[some (.ref a),some (.ref b),some (.ref p),v3,v4]/\H' p=some (.dK (kk (M4.YB c (l.take i))))/\(∀b' u,b'≠b->H b'=some u->H' b'=some u)/\H' b=some (.frz o (.dK (kk l)))) ?_ ?_ ?_ ?_
  ·exact⟨none,none,rfl,by rw[Zf (Ne.symm npb),Zf npv];exact Zc,fun b' u n e=>by rw[Zf n];exact Zj hv _ _ (Zj hp _ _ e),Zc⟩
  ·rintro i σ H1 hi ⟨v3,v4,rfl,d1,f1,g1⟩;exact⟨g1,by rw[Yb];exact hi⟩
  ·rintro σ H1 ⟨v3,v4,rfl,d1,f1,g1⟩;rw[List.take_of_length_le (Nat.le_refl _)] at d1
   refine⟨⟨g1,by rw[Yb];exact Nat.le_refl _⟩,upd H1 b (.dK (kk l)),⟨Zk1 hb,o,_,g1,rfl⟩, ?_⟩
   refine⟨_,rfl,q p _ hp (fun b' u e=> ?_) (by rw[Zf (Ne.symm npb)];exact d1)⟩
   by_cases z:b'=b
   ·subst z;rw[hb] at e
    cases e;exact Zc
   ·rw[Zf z];exact f1 b' u z e
  ·rintro i x σ H1 H2 hi ⟨v3,v4,rfl,d1,f1,g1⟩ ⟨kv,pp,e3,hpp,rfl,rfl⟩;obtain⟨pr,e5,rfl⟩:=Zk4 e3;have npp:p≠pp:=Zn d1 hpp;refine⟨pp,_,rfl,SqT.of Zc,rfl,_,_,rfl,_,_,rfl,rfl, ?_⟩;have sp:Zx H1 (upd H1 pp (.tup [kV (Sum.inr pr.1),V.int pr.2])):=Zj hpp;have rdA:Rd (upd H1 pp (.tup [kV (Sum.inr pr.1),V.int pr.2])) a (.dK (kk c)):=by
    by_cases z:a=b
    ·subst z;rcases ha with h|⟨o',h⟩
     ·rw[hb] at h
      injection h with h
      injection h with h
      exact .inr ⟨o,by rw[<-h];exact sp _ _ g1⟩
     ·rw[hb] at h;cases h
    ·rcases ha with h|⟨o',h⟩
     ·exact .inl (sp _ _ (f1 _ _ z h))
     ·exact .inr ⟨o',sp _ _ (f1 _ _ z h)⟩
   have ej:((lk c pr.1).map V.int).getD (V.int pr.2)=V.int ((lk c pr.1).getD pr.2):=by cases lk c pr.1<;>rfl
   have len:(kk (M4.YB c (l.take i))).length<sizeLine:=by
    have:=ZiE c (l.take i);have:=List.length_take_le i l;rw[Yb];omega
   refine⟨_,rfl,_,rfl,a,rfl,.inl ⟨_,rdA⟩,_,rfl,_,rfl,_,Zd0 rdA pr.1,pr.2,(lk c pr.1).getD pr.2,by rw[ej],_,rfl,_,rfl,p,_,rfl,Zg2.k (k:=Sum.inr pr.1) (sp _ _ d1) len, ?_⟩;refine⟨_,_,rfl, ?_,fun b' u n e=> ?_,by rw[Zf npb];exact sp _ _ g1⟩
   ·rw[Zh6,Zc,ZiF e5]
    congr 4
    split<;>omega
   ·have nb:b'≠p:=Zn e hp;rw[Zf nb];exact sp _ _ (f1 b' u n e)
theorem Yd.sizes{H:Hp}{as:List Addr}{ws:List Tb}{i:Nat}{w c:Tb}{n:Nat}(hw:∀w∈ws,w.length<=n)(e:ws[i]? =some w)(q:M4.norm c=w):c.length<=n:=by
 rw[<-M4.YG c,q];exact hw w (List.mem_of_getElem? e)
theorem Zac:ZG ["ones","others","clauses","one"] ["ones","others"] (Zu ZaJ):=⟨rfl,rfl,rfl,by decide+kernel,rfl,by decide+kernel,by decide+kernel⟩
theorem Zen{f:Addr}{fd:FuncData}(F:Fun K "all_joined" "all_joined" ZaJ f fd)(T:Txt K mg t_MOST_CLAUSES Zk Zd Ze Zb)(Ze8:Cal P w K mg base CX0 1 "joined" ["one","other"] ZcZ):Yq P w K mg base CX0 2 f fd ["ones","others"] Zab:=by
 refine F.ok Zac (fun vs H Q E h=> ?_) (fun cdv A outer s H vs Q E hr h=> ?_)
 ·obtain⟨p,q,as,bs,ws,us,rfl,_⟩:=h
  rfl
 ·obtain⟨p,q,as,bs,ws,us,rfl,hp,hq,ca,cb,ln,lb,wa,wb,k⟩:=h;have l5:=JM;refine⟨_,(Zi (ZD (i:=2) Zac.nd rfl (Or.inl rfl) (Xz Zm)) (Zi (Zay PassesOwn.never rfl (Zaw (pv 0)) (Yw (i:=3) Zac.nd rfl (Or.inr rfl)) (Zq (Zbp (ZdG PySem.F.plainAttrs_list PySem.F.slot_list_extend PySem.F.type_list_extend Zic (pv 2) (Za (Zcd ["other"] [("one",3)] rfl (Zaw (pv 1)) (by rfl) (by exact⟨rfl,trivial⟩) (by rfl) (by exact⟨⟨rfl,rfl,rfl⟩,trivial⟩) (fun _ _ _ _=>(Yw (i:=0) (show(nmY ["other"] [("one",3)]).Nodup by decide+kernel) rfl (Or.inl rfl))) (fun _ _ _ _=>Zdq) (fun _ _ _ _=>(ZW Ze8 (hr.mono (by omega)) rfl ZF (Za (pv 1) (Za (pv 0) Zm))))) Zm))))) (Zq (Zt (pv 2))))), ?_⟩
  refine⟨Nat.zero_le _,fun S hS=>⟨_,rfl,p,rfl,⟨_,SqL.of (Zj hS _ _ hp)⟩,Zc9 (xs:=as.map V.ref) (fun i σ H'=>∃(ds:List Addr) (v3:Option V),σ=[some (.ref p),some (.ref q),some (.ref S),v3]/\H' S=some (.lst (ds.map V.ref))/\Yd H' ds ((ws.take i).flatMap fun x=>us.map fun y=>M4.norm (M4.YB x y))/\(∀d∈ds,H d=none)/\Zx H H'/\ds.length=i*bs.length) ?_ ?_ ?_ ?_⟩⟩
  ·exact⟨[],none,rfl,Zc,by rw[List.take_zero];exact .nil,(fun d hd=>nomatch hd),Zj hS,by simp⟩
  ·rintro i σ H1 _ ⟨ds,v3,rfl,d1,c1,n1,s1,l1⟩;exact SqL.of (s1 _ _ hp)
  ·rintro i x σ H1 hx ⟨ds,v3,rfl,d1,c1,n1,s1,l1⟩;obtain⟨a,w,c,rfl,e1,e2,e3,e4,e5⟩:=Yd.get (ca.same s1) i x hx;have hi:i<as.length:=(List.getElem?_eq_some_iff.mp e1).1;have hc:=Yd.sizes (H:=H1) (as:=as) wa e2 e5;refine⟨_,rfl,.inl ⟨rfl,_,SqL.of d1⟩,_,rfl,q,rfl,⟨_,SqL.of (s1 _ _ hq)⟩,ZdP fun D hD=>⟨bs.length,fun j ys H2=>∃es:List Addr,ys=es.map V.ref/\Yd H2 es ((us.take j).map fun y=>M4.norm (M4.YB w y))/\(∀d∈es,H1 d=none)/\Zx H1 H2/\es.length=j, ?_⟩⟩
   have hSD:S≠D:=Zn d1 hD;refine⟨by omega,⟨[],rfl,by rw[List.take_zero];exact .nil,(fun d hd=>nomatch hd),Zj hD,rfl⟩,fun j ys H2 z=> ?_,fun j ys zs H2 H3 e kp z=> ?_,fun j ys H2 z lt=> ?_,fun ys H2 z e=> ?_,fun j y ys H2 H3 z e lt yl RT RF rt rf=> ?_⟩
   ·obtain⟨es,rfl,_,_,_,le⟩:=z;rw[List.length_map,le];exact Nat.le_refl _
   ·obtain⟨es,rfl,c2,n2,s2,le⟩:=z;refine⟨es,rfl,Yd.but (fun b u h1=>kp b _ (fun w=>by rw[w,e] at h1;cases h1) h1) c2,n2,fun b u h1=>kp b u (Zn h1 hD) (s2 b u h1),le⟩
   ·obtain⟨es,rfl,c2,n2,s2,le⟩:=z;exact⟨_,_,SqL.of (s2 _ _ (s1 _ _ hq)),List.getElem?_eq_getElem (by rw[List.length_map];exact lt)⟩
   ·obtain⟨es,rfl,c2,n2,s2,le⟩:=z;refine⟨⟨_,SqL.of (s2 _ _ (s1 _ _ hq)),by rw[List.length_map];exact Nat.le_refl _⟩, ?_⟩
    rw[cb.len,List.take_of_length_le (Nat.le_refl _)] at c2
    have d2:=s2 _ _ d1;have nDS:D≠S:=fun z=>hSD z.symm;refine⟨S,D,_,_,rfl,rfl,d2,e, ?_,ds++es,_,rfl, ?_, ?_,fun d hd=> ?_,fun b u h1=> ?_, ?_⟩
    ·rw[List.length_map,List.length_map,l1,le];have:i*bs.length<=as.length*bs.length:=Nat.mul_le_mul_right _ (Nat.le_of_lt hi);omega
    ·rw[Zc,List.map_append]
    ·have e6:(ws.take (i+1)).flatMap (fun x=>us.map fun y=>M4.norm (M4.YB x y))=(ws.take i).flatMap (fun x=>us.map fun y=>M4.norm (M4.YB x y))++us.map fun y=>M4.norm (M4.YB w y):=by
      rw[List.take_add_one,e2,List.flatMap_append];simp
     rw[e6];exact Yd.but (fun b u h1=>by rw[Zf (fun w=>by rw[w,d2] at h1;cases h1)];exact h1) (Yd.app (c1.same s2) c2)
    ·rcases List.mem_append.mp hd with z|z
     ·exact n1 d z
     ·cases q2:H d with
      |none=>rfl
      |some u=>have:=s1 d u q2;rw[n2 d z] at this;cases this
    ·rw[Zf (Zn h1 hS)];exact s2 b u (s1 b u h1)
    ·rw[List.length_append,l1,le,Nat.succ_mul]
   ·obtain⟨es,rfl,c2,n2,s2,le⟩:=z;obtain⟨rfl,yl⟩:=yl;have hy:=yl _ (SqL.of (s2 _ _ (s1 _ _ hq)));obtain⟨a',w',c',rfl,f1,f2,f3,f4,f5⟩:=Yd.get (cb.same (s1.trans s2)) j y hy;have hc':=Yd.sizes (H:=H1) (as:=as) wb f2 f5;refine⟨⟨rfl,trivial⟩, ?_⟩;unfold ZdM;refine Jo ⟨_,rfl,_,rfl,a,a',c,c',rfl,.inl (s2 _ _ e3),f3,by omega,by omega,fun pd H6 hpd s6 d6=>rt _ H6 (s6 _ _ e) ⟨es++[pd],by rw[List.map_append];rfl, ?_,fun d hd=> ?_,s2.trans s6,by rw[List.length_append,le];rfl⟩⟩
    ·rw[List.take_add_one,f2,List.map_append];exact Yd.app (c2.same s6) (.cons ⟨_,d6,M4.Jx e4,by rw[<-e5,<-f5];exact M4.Ziv e4 f4 (M4.Zdy e4) (M4.Zdy f4) (M4.ZeK c).symm (M4.ZeK c').symm⟩ .nil)
    ·rcases List.mem_append.mp hd with z|z
     ·exact n2 d z
     ·have e7:d=pd:=by simpa using z
      subst e7;cases q2:H1 d with
      |none=>rfl
      |some u=>have:=s2 d u q2;rw[hpd] at this;cases this
  ·rintro σ H1 ⟨ds,v3,rfl,d1,c1,n1,s1,l1⟩;rw[List.length_map,ca.len,List.take_of_length_le (Nat.le_refl _)] at c1
   exact⟨_,rfl,k S ds H1 hS s1 d1 c1 n1⟩
theorem ZfL(c:Tb):((c.length:Int),M4.norm c)=M4.ZbF (M4.norm c):=by
 unfold M4.ZbF;rw[M4.YG]
theorem ZgB{H:Hp}:∀{kk ll:List Ky} {xs ys:List V},Paired (fun y x=>Rep K H (kyD y) x) kk xs->Paired (fun y x=>Rep K H (kyD y) x) ll ys->Paired (fun y x=>Rep K H (kyD y) x) (kk++ll) (xs++ys)
 |_,_,_,_,.nil,k=>k
 |_,_,_,_,.cons r t,k=> .cons r (ZgB t k)
theorem ZeU{H H':Hp}(s:Zx H H'):∀{kk:List Ky} {xs:List V},Paired (fun y x=>Rep K H (kyD y) x) kk xs->Paired (fun y x=>Rep K H' (kyD y) x) kk xs
 |_,_,.nil=> .nil
 |_,_,.cons r t=> .cons (ZfK s r) (ZeU s t)
theorem Zk6{R:List V->Hp->Prop}:∀{as:List Addr} {ws:List Tb} {H:Hp} {kk:List Ky} {ks:List V},Yd H as ws->(∀w∈ws,w.length<64)->Paired (fun y x=>Rep K H (kyD y) x) kk ks->
  (∀kx H2,Zx H H2->Paired (fun y x=>Rep K H2 (kyD y) x) (kk++ws.map M4.ZbF) kx->R kx H2)->kys (Xn K) (as.map V.ref) ks H R
 |_,_,H,kk,ks,.nil,_,rp,q=>q ks H (Zx.refl H) (by rw[List.map_nil,List.append_nil];exact rp)
 |_,_,H,kk,ks,.cons (a:=a) (b:=w) ⟨c,e,n,e2⟩ t,hl,rp,q=>by
  have lc:c.length<64:=by rw[<-M4.YG c,e2];exact hl w (List.mem_cons_self ..)
  refine⟨a,c,rfl,e,lc,fun pt H' s' r'=> ?_⟩;rw[ZfL c,e2] at r'
  refine Zk6 (Yd.same s' t) (fun w' hw=>hl w' (List.mem_cons_of_mem _ hw)) (ZgB (ZeU s' rp) (.cons r' .nil)) fun kx H2 s2 r2=>q kx H2 (s'.trans s2) ?_;rw[List.append_assoc] at r2
  exact r2
theorem Zk7{H:Hp}{as:List Addr}:∀zs:List (V×Ky),(∀z∈zs,∃a w,z=(V.ref a,M4.ZbF w)/\a∈as/\∃c,H a=some (.dK (kk c))/\M4.Nd c/\M4.norm c=w)->∃bs:List Addr,zs.map (·.1)=bs.map V.ref/\Yd H bs (zs.map (·.2.2))/\∀b∈bs,b∈as
 |[],_=>⟨[],rfl,.nil,fun b hb=>nomatch hb⟩
 |z::zs,h=>by
  obtain⟨a,w,rfl,m,c,e⟩:=h z (List.mem_cons_self ..);obtain⟨bs,e1,e2,e3⟩:=Zk7 zs fun y hy=>h y (List.mem_cons_of_mem _ hy);refine⟨a::bs,by rw[List.map_cons,List.map_cons,e1],.cons ⟨c,e⟩ e2,fun b hb=> ?_⟩;obtain rfl|hb:=List.mem_cons.mp hb
  ·exact m
  ·exact e3 b hb
theorem Zk8{H:Hp}:∀{as:List Addr} {ws:List Tb},Yd H as ws->∀z∈(as.map V.ref).zip (ws.map M4.ZbF),∃a w,z=(V.ref a,M4.ZbF w)/\a∈as/\∃c,H a=some (.dK (kk c))/\M4.Nd c/\M4.norm c=w
 |_,_,.nil,z,hz=>by simp at hz
 |_,_,.cons (a:=a) (b:=w) r t,z,hz=>by
  rw[List.map_cons,List.map_cons,List.zip_cons_cons] at hz
  obtain rfl|hz:=List.mem_cons.mp hz
  ·exact⟨a,w,rfl,List.mem_cons_self ..,r⟩
  ·obtain⟨a',w',e,m,r'⟩:=Zk8 t z hz;exact⟨a',w',e,List.mem_cons_of_mem _ m,r'⟩
theorem Zk9{H:Hp}{as:List Addr}{ws:List Tb}(h:Yd H as ws){zs:List (V×Ky)}(pz:zs.Perm ((as.map V.ref).zip (ws.map M4.ZbF)))(az:zs.Pairwise fun a b=>Zck b.2 a.2=false):
  ∃bs:List Addr,zs.map (·.1)=bs.map V.ref/\Yd H bs (M4.Yn M4.Yt ws)/\∀b∈bs,b∈as:=by
 have each:=fun z (hz:z∈zs)=>Zk8 h z (pz.mem_iff.mp hz);obtain⟨bs,e1,e2,e3⟩:=Zk7 zs each;refine⟨bs,e1, ?_,e3⟩;have e:zs.map (·.2.2)=M4.Yn M4.Yt ws:=by
  refine M4.Zdx M4.YZ ?_ ?_
  ·have:=pz.map (·.2.2);have e4:((as.map V.ref).zip (ws.map M4.ZbF)).map (·.2.2)=ws:=by
    have e5:((as.map V.ref).zip (ws.map M4.ZbF)).map (·.2.2)=(((as.map V.ref).zip (ws.map M4.ZbF)).map (·.2)).map (·.2):=by rw[List.map_map];rfl
    rw[e5,List.map_snd_zip (by rw[List.length_map,List.length_map,h.len];exact Nat.le_refl _),List.map_map]
    exact List.map_id' ws
   rw[e4] at this
   exact this
  ·unfold M4.Asc;rw[List.pairwise_map];refine az.imp_of_mem fun{x y} hx hy z=> ?_;obtain⟨a,w,rfl,_⟩:=each x hx;obtain⟨a',w',rfl,_⟩:=each y hy;exact z
 rw[e] at e2
 exact e2
theorem ZeV(cs:List Tb)(i:Nat):((cs.take i).foldl M4.keep []).length<=(M4.ZcO cs).length:=by
 obtain⟨r,e,_⟩:=M4.JK (cs.drop i) ((cs.take i).foldl M4.keep []);have z:M4.ZcO cs=(cs.take i).foldl M4.keep []++r:=by
  rw[<-e,<-List.foldl_append,List.take_append_drop]
  rfl
 rw[z,List.length_append];exact Nat.le_add_right _ _
theorem Zka{β:Type}(l:List β)(f:β->Bool):(l.map f).any id=l.any f:=by rw[List.any_map];rfl
theorem Zc3:ZG ["clauses","kept","clause"] ["clauses"] (Zu ZcR):=⟨rfl,rfl,rfl,by decide+kernel,rfl,by decide+kernel,by decide+kernel⟩
theorem Zhu{f:Addr}{fd:FuncData}(F:Fun K "thinned" "thinned" ZcR f fd)(T:Txt K mg t_MOST_CLAUSES Zk Zd Ze Zb)(Zc4:Cal P w K mg base CX0 1 "is_below" ["one","other"] Zbi)(XM:Cal P w K mg base CX0 1 "place_of" ["clause"] (Xn K)):Yq P w K mg base CX0 4 f fd ["clauses"] ZbX:=by
 refine F.ok Zc3 (fun vs H Q E h=> ?_) (fun cdv A outer s H vs Q E hr h=> ?_)
 ·obtain⟨p,as,ws,rfl,_⟩:=h
  rfl
 ·obtain⟨p,as,ws,rfl,hp,ca,tl,lw,sw,k⟩:=h;have l5:=JM;refine⟨_,(Zi (ZD (i:=1) Zc3.nd rfl (Or.inl rfl) (Xz Zm)) (Zi (Zay PassesOwn.never rfl (Zaw (Zhi XM (hr.mono (by omega)) (by rfl) T.z_sorted (by rfl) (Za (pv 0) Zm))) (Yw (i:=2) Zc3.nd rfl (Or.inr rfl)) (Zi (Ye (ZeY (ZbM (ZV (Zh4 rfl) (by rfl) T.z_any ZlD (Za (Zcd ["low"] [("clause",2)] rfl (Zaw (pv 1)) (by rfl) (by exact⟨rfl,trivial⟩) (by rfl) (by exact⟨⟨rfl,rfl,rfl⟩,trivial⟩) (fun _ _ _ _=>(Yw (i:=0) (show(nmY ["low"] [("clause",2)]).Nodup by decide+kernel) rfl (Or.inl rfl))) (fun _ _ _ _=>Zdq) (fun _ _ _ _=>(ZW Zc4 (hr.mono (by omega)) rfl ZF (Za (pv 0) (Za (pv 1) Zm))))) Zm)))) (Zq (Zbp (ZdG PySem.F.plainAttrs_list PySem.F.slot_list_append PySem.F.type_list_append Jz (pv 1) (Za (pv 2) Zm)))) Zz) (Zq (Ye (Zv ZhF (ZV Zak (by rfl) T.z_len ZbO (Za (pv 1) Zm)) (Zdm (v:=.int 40) rfl T.g_MOST_CLAUSES ⟨_,rfl⟩) (Zy _)) (Zq ZiO) Zz)))) (Zq (Zt (pv 1))))), ?_⟩
  refine⟨Nat.zero_le _,fun S hS=> ?_⟩;have s0:Zx H (upd H S (.lst [])):=Zj hS;refine⟨_,rfl,p,as.map V.ref,rfl,SqL.of (s0 _ _ hp),by rw[List.length_map,ca.len];omega,Zk6 (ca.same s0) sw .nil fun kx H2 s2 rp=>⟨ws.map M4.ZbF,rp,fun zs pz az D hD=> ?_⟩⟩
  obtain⟨bs,e1,cb,mb⟩:=Zk9 (ca.same (s0.trans s2)) pz az;have s3:=(s0.trans s2).trans (Zj (o:=.lst (zs.map (·.1))) hD);have dS:upd H2 D (.lst (zs.map (·.1))) S=some (.lst []):=Zj hD _ _ (s2 _ _ Zc);have dD:upd H2 D (.lst (zs.map (·.1))) D=some (.lst (bs.map V.ref)):=by rw[Zc,e1]
  have cb:=cb.same (Zj (o:=.lst (zs.map (·.1))) hD);have lb:bs.length=ws.length:=by rw[cb.len,Zan]
  have nSD:S≠D:=Zn (s2 _ _ Zc) hD;generalize upd H2 D (.lst (zs.map (·.1)))=H3 at s3 dS dD cb
  refine⟨D,rfl,⟨_,SqL.of dD⟩,Zc9 (xs:=bs.map V.ref) (fun i σ H'=>∃(ds:List Addr) (v2:Option V),σ=[some (.ref p),some (.ref S),v2]/\H' S=some (.lst (ds.map V.ref))/\Yd H' ds (((M4.Yn M4.Yt ws).take i).foldl M4.keep [])/\(∀d∈ds,d∈as)/\∀b u,b≠S->H3 b=some u->H' b=some u) ?_ ?_ ?_ ?_⟩
  ·exact⟨[],none,rfl,dS,by rw[List.take_zero];exact .nil,(fun d hd=>nomatch hd),fun b u _ e=>e⟩
  ·rintro i σ H1 _ ⟨ds,v2,rfl,d1,c1,n1,k1⟩;exact SqL.of (k1 _ _ (Ne.symm nSD) dD)
  ·rintro i x σ H1 hx ⟨ds,v2,rfl,d1,c1,n1,k1⟩;have cb1:Yd H1 bs (M4.Yn M4.Yt ws):=Yd.but (fun b u h1=>k1 b _ (fun z=>by rw[z,dS] at h1;cases h1) h1) cb
   obtain⟨a,w,c,rfl,e1,e2,e3,e4,e5⟩:=Yd.get cb1 i x hx;have hi:i<(M4.Yn M4.Yt ws).length:=(List.getElem?_eq_some_iff.mp e2).1;rw[Zan] at hi
   have enx:((M4.Yn M4.Yt ws).take (i+1)).foldl M4.keep []=M4.keep (((M4.Yn M4.Yt ws).take i).foldl M4.keep []) w:=by
    rw[List.take_add_one,e2,List.foldl_append]
    rfl
   have lk:=Nat.le_trans (ZeV (M4.Yn M4.Yt ws) i) tl;have lk2:=Nat.le_trans (ZeV (M4.Yn M4.Yt ws) (i+1)) tl;rw[enx] at lk2
   have wl:∀u∈((M4.Yn M4.Yt ws).take i).foldl M4.keep [],u.length<64:=fun u hu=>by
    obtain⟨r,e,s⟩:=M4.JK ((M4.Yn M4.Yt ws).take i) [];rw[e,List.nil_append] at hu
    exact sw u (YJ.mp (List.mem_of_mem_take (s.subset hu)))
   rw[enx];generalize ((M4.Yn M4.Yt ws).take i).foldl M4.keep []=kf at c1 lk lk2 wl
   refine⟨_,rfl,S,rfl,⟨_,SqL.of d1⟩,Zfa ds.length (fun j=>[((kf[j]?).map fun low=>V.bl (Yp low w)).getD .non]) (by rw[c1.len];omega) (fun j=>Nat.le_refl 1) (fun j H4 s4 lt=>⟨_,_,SqL.of (s4 _ _ d1),List.getElem?_eq_getElem (by rw[List.length_map];exact lt)⟩) (fun H4 s4=>⟨_,SqL.of (s4 _ _ d1),by rw[List.length_map];exact Nat.le_refl _⟩) (fun j y H4 H5 s4 lt yl RT RF rt rf=> ?_) fun D4 H4 hD4 s4 d4=> ?_⟩
   ·obtain⟨rfl,yl⟩:=yl;have hy:=yl _ (SqL.of (s4 _ _ d1));obtain⟨a',w',c',rfl,f1,f2,f3,f4,f5⟩:=Yd.get (c1.same s4) j y hy;have lc':c'.length<=1000:=by
     have:=wl w' (List.mem_of_getElem? f2);rw[<-f5,M4.YG] at this
     omega
    refine⟨⟨rfl,trivial⟩, ?_⟩;unfold ZdM;refine Jo ⟨_,rfl,_,rfl,a',a,c',c,rfl,f3,.inl (s4 _ _ e3),lc',fun H6 s6=>rt _ H6 ?_ s6⟩;rw[f2,<-e5,<-f5];show[V.bl (Yp (M4.norm c') (M4.norm c))]=_;rw[M4.Zhj e4]
   ·have e6:(List.range ds.length).flatMap (fun j=>[((kf[j]?).map fun low=>V.bl (Yp low w)).getD .non])=(kf.map fun low=>Yp low w).map V.bl:=by
     rw[Zb2,c1.len,Zin kf (fun low=>V.bl (Yp low w)) .non,List.map_map]
     rfl
    rw[e6] at d4
    refine⟨D4,_,rfl,SqL.of d4,_,rfl, ?_⟩;rw[Zka];have dS4:=s4 _ _ d1;cases ea:kf.any fun low=>Yp low w with
    |true=>
     have ek:M4.keep kf w=kf:=if_pos ea;rw[ek];refine Xl ?_;refine⟨_,rfl,_,_,rfl,.inl ⟨_,SqL.of dS4,rfl⟩,_,_,rfl,rfl,_,rfl,Jp (fun e=> ?_) (fun e=>⟨ds,_,rfl,dS4,c1.same s4,n1,fun b u n z=>s4 _ _ (k1 b u n z)⟩)⟩;have e:=of_decide_eq_true e;rw[List.length_map,c1.len] at e
     exact absurd e (by omega)
    |false=>
     have ek:M4.keep kf w=kf++[w]:=if_neg (by rw[ea];exact Bool.false_ne_true)
     rw[ek,List.length_append] at lk2
     rw[ek];refine Jo ?_;have l6:(ds.map V.ref).length<sizeLine:=by rw[List.length_map,c1.len];omega
     have dS5:upd H4 S (.lst (ds.map V.ref++[V.ref a])) S=some (.lst ((ds++[a]).map V.ref)):=by rw[Zc,List.map_append];rfl
     refine⟨_,rfl,.inl ⟨rfl,_,SqL.of dS4⟩,_,rfl,S,_,_,rfl,rfl,dS4,l6, ?_⟩;have c5:Yd (upd H4 S (.lst (ds.map V.ref++[V.ref a]))) (ds++[a]) (kf++[w]):=Yd.but (fun b u h1=>by rw[Zf (fun z=>by rw[z,dS4] at h1;cases h1)];exact h1) (Yd.app (c1.same s4) (.cons ⟨c,s4 _ _ e3,e4,e5⟩ .nil))
     refine⟨_,rfl,_,_,rfl,.inl ⟨_,SqL.of dS5,rfl⟩,_,_,rfl,rfl,_,rfl,Jp (fun e=> ?_) (fun e=>⟨ds++[a],_,rfl,dS5,c5,fun d hd=> ?_,fun b u n z=>by rw[Zf n];exact s4 _ _ (k1 b u n z)⟩)⟩
     ·have e:=of_decide_eq_true e;rw[List.length_map,List.length_append,c1.len] at e
      exact absurd e (by simp only [List.length_cons,List.length_nil] at lk2⊢;omega)
     ·rcases List.mem_append.mp hd with z|z
      ·exact n1 d z
      ·have e7:d=a:=by simpa using z
       subst e7;exact mb d (List.mem_of_getElem? e1)
  ·rintro σ H1 ⟨ds,v2,rfl,d1,c1,n1,k1⟩;rw[List.length_map,cb.len,List.take_of_length_le (Nat.le_refl _)] at c1
   exact⟨_,rfl,k S ds H1 hS (fun b u e=>k1 b u (Zn e hS) (s3 b u e)) d1 c1 n1⟩
theorem none_of{H H':Hp}{r:Addr}(s:Zx H H')(h:H' r=none):H r=none:=by
 cases z:H r with
 |none=>rfl
 |some u=>rw[s r u z] at h;cases h
theorem Zkb:ZG ["term"] ["term"] (Zu Zfr):=⟨rfl,rfl,rfl,by decide+kernel,rfl,by decide+kernel,by decide+kernel⟩
theorem Zkc{f:Addr}{fd:FuncData}(F:Fun K "least" "least" Zfr f fd)(T:Txt K mg t_MOST_CLAUSES Zk Zd Ze Zb)(n:Nat)(ZaQ:Cal P w K mg base CX0 2 "all_joined" ["ones","others"] Zab)(Jy:Cal P w K mg base CX0 (4+n+1) "least" ["term"] (Zbj Zk Zd Ze Zb n))(ZbD:Cal P w K mg base CX0 4 "thinned" ["clauses"] ZbX):Yq P w K mg base CX0 (4+n+1+1) f fd ["term"] (Zbj Zk Zd Ze Zb (n+1)):=by
 refine F.ok Zkb (fun vs H Q E h=> ?_) (fun cdv A outer s H vs Q E hr h=> ?_)
 ·obtain⟨a,t,rfl,_⟩:=h
  rfl
 ·obtain⟨a,t,rfl,ht,hd,hc,q⟩:=h;have l5:=JM;refine⟨_,(Zi (Ye (ZbM (ZV YW (by rfl) T.z_isinstance YC (Za (pv 0) (Za (Zdm (v:=.ref Zd) rfl T.mg_After rfl) Zm)))) (Zq (Zt (Xz (Za (Zkv (Zj6 (Xy (pv 0) rfl) (Xy (pv 0) rfl) Zku) rfl rfl (by simp) (by decide)) Zm)))) Zz) (Zi (Ye (ZbM (ZV YW (by rfl) T.z_isinstance YC (Za (pv 0) (Za (Zdm (v:=.ref Zb) rfl T.mg_Earlier rfl) Zm)))) (Zq (Zt (ZW ZbD (hr.mono (by omega)) rfl ZF (Za (Zw Zf7 (ZW Jy (hr.mono (by omega)) rfl ZF (Za (Xy (pv 0) rfl) Zm)) (ZW Jy (hr.mono (by omega)) rfl ZF (Za (Xy (pv 0) rfl) Zm))) Zm)))) Zz) (Zi (Ye (ZbM (ZV YW (by rfl) T.z_isinstance YC (Za (pv 0) (Za (Zdm (v:=.ref Ze) rfl T.mg_Later rfl) Zm)))) (Zq (Zt (ZW ZbD (hr.mono (by omega)) rfl ZF (Za (ZW ZaQ (hr.mono (by omega)) rfl ZF (Za (ZW Jy (hr.mono (by omega)) rfl ZF (Za (Xy (pv 0) rfl) Zm)) (Za (ZW Jy (hr.mono (by omega)) rfl ZF (Za (Xy (pv 0) rfl) Zm)) Zm))) Zm)))) Zz) (Zq (Zt (Xz Zm)))))), ?_⟩
  cases t with
  |never=>
   obtain⟨dx,h0⟩:=ht;refine⟨_,rfl,_,_,_,_,_,rfl,rfl,T.ty_Never.of h0,T.k_Never_After,_,rfl,Xl ?_⟩;refine⟨_,rfl,_,_,_,_,_,rfl,rfl,T.ty_Never.of h0,T.k_Never_Earlier,_,rfl,Xl ?_⟩;refine⟨_,rfl,_,_,_,_,_,rfl,rfl,T.ty_Never.of h0,T.k_Never_Later,_,rfl,Xl ?_⟩;exact⟨Nat.zero_le _,fun r hr=>q r [] _ hr (Zj hr) Zc .nil fun d hd=>nomatch hd⟩
  |after k d=>
   obtain⟨dx,h0⟩:=ht;refine⟨_,rfl,_,_,_,_,_,rfl,rfl,T.ty_After.of h0,T.k_After_After,_,rfl,Jo fun p hp=> ?_⟩;have h1:=Zj (o:=.dK []) hp _ _ h0;have e0:upd H p (.dK []) p=some (.dK []):=Zc;refine⟨_,rfl,a,_,dx,_,_,rfl,h1,T.cl_After,T.n_After_kind,Zfw k d,_,rfl,a,_,dx,_,_,rfl,h1,T.cl_After,T.n_After_days,ZhV k d,e0,[(Sum.inr k,.int d)],rfl,(show 1<=15 by decide),show 1<=sizeLine from sl,fun r hr=> ?_⟩
   have d2:upd (upd (upd H p (.dK [])) p (.dK (Zb0 [] [(Sum.inr k,V.int d)]))) r (.lst [V.ref p]) p=some (.dK (kk [(k,d)])):=by rw[Zf (Zn Zc hr)];exact Zc
   have s2:Zx H (upd (upd (upd H p (.dK [])) p (.dK (Zb0 [] [(Sum.inr k,V.int d)]))) r (.lst [V.ref p])):=fun b u e=>by
    have n1:=Zn e hp;have e1:upd (upd H p (.dK [])) p (.dK (Zb0 [] [(Sum.inr k,V.int d)])) b=some u:=by rw[Zf n1,Zf n1];exact e
    rw[Zf (Zn e1 hr)];exact e1
   have hr0:H r=none:=by
    cases z:H r with
    |none=>rfl
    |some u=>
     have n1:=Zn z hp;rw[Zf n1,Zf n1,z] at hr
     cases hr
   exact q r [p] _ hr0 s2 Zc (.cons ⟨[(k,d)],d2,List.nodup_cons.mpr ⟨(fun z=>nomatch z),List.nodup_nil⟩,rfl⟩ .nil) fun d' hd'=>by
    have e7:d'=p:=by simpa using hd'
    subst e7;exact hp
  |later x y=>
   obtain⟨dx,p1,p2,h0,t1,t2⟩:=ht;refine⟨_,rfl,_,_,_,_,_,rfl,rfl,T.ty_Later.of h0,T.k_Later_After,_,rfl,Xl ?_⟩;refine⟨_,rfl,_,_,_,_,_,rfl,rfl,T.ty_Later.of h0,T.k_Later_Earlier,_,rfl,Xl ?_⟩;refine⟨_,rfl,_,_,_,_,_,rfl,rfl,T.ty_Later.of h0,T.k_Later_Later,_,rfl,Jo ?_⟩;have hdeep:max x.deep y.deep+1<n+1:=hd;obtain⟨o1,o2,pr,z1,z2,z3,z4,tl⟩:=Zgq hc;refine⟨_,rfl,a,_,dx,_,_,rfl,h0,T.cl_Later,T.n_Later_one,Zfx p1 p2,p1,x,rfl,t1,by omega,o1,fun r1 ds1 H1 hr1 s1 d1 c1 n1=> ?_⟩
   refine⟨_,rfl,a,_,dx,_,_,rfl,s1 _ _ h0,T.cl_Later,T.n_Later_other,Zcz p1 p2,p2,y,rfl,t2.same s1,by omega,o2,fun r2 ds2 H2 hr2 s2 d2 c2 n2=> ?_⟩;refine⟨r1,r2,ds1,ds2,Zr x,Zr y,rfl,s2 _ _ d1,d2,c1.same s2,c2,by rw[c1.len,c2.len];omega,by rw[c2.len];omega,fun w hw=> ?_,fun w hw=> ?_,fun r3 ds3 H3 hr3 s3 d3 c3 n3=> ?_⟩
   ·have:=z3 w hw;omega
   ·have:=z4 w hw;omega
   refine⟨r3,ds3,_,rfl,d3,c3,tl,by rw[Zgo];omega,fun w hw=> ?_,fun r ds H4 hr s4 d4 c4 n4=> ?_⟩
   ·obtain⟨u,hu,v,hv,rfl⟩:=Zao hw;have k1:=z3 u hu;have k2:=z4 v hv;have k3:=ZeQ (ZK x u hu).1.nd (ZK y v hv).1.nd;rw[M4.YG];omega
   ·have s13:=(s1.trans s2).trans s3;exact q r ds H4 (none_of s13 hr) (s13.trans s4) d4 c4 fun d hd=>none_of (s1.trans s2) (n3 d (n4 d hd))
  |earlier x y=>
   obtain⟨dx,p1,p2,h0,t1,t2⟩:=ht;refine⟨_,rfl,_,_,_,_,_,rfl,rfl,T.ty_Earlier.of h0,T.k_Earlier_After,_,rfl,Xl ?_⟩;refine⟨_,rfl,_,_,_,_,_,rfl,rfl,T.ty_Earlier.of h0,T.k_Earlier_Earlier,_,rfl,Jo ?_⟩;have hdeep:max x.deep y.deep+1<n+1:=hd;obtain⟨o1,o2,pr,z3,z4,tl⟩:=Zej hc;refine⟨_,rfl,a,_,dx,_,_,rfl,h0,T.cl_Earlier,T.n_Earlier_one,Zfx p1 p2,p1,x,rfl,t1,by omega,o1,fun r1 ds1 H1 hr1 s1 d1 c1 n1=> ?_⟩;refine⟨_,rfl,a,_,dx,_,_,rfl,s1 _ _ h0,T.cl_Earlier,T.n_Earlier_other,Zcz p1 p2,p2,y,rfl,t2.same s1,by omega,o2,fun r2 ds2 H2 hr2 s2 d2 c2 n2=> ?_⟩
   have l1:=c1.len;have l2:=c2.len;refine⟨r1,r2,ds1.map V.ref,ds2.map V.ref,rfl,rfl,SqL.of (s2 _ _ d1),SqL.of d2,by rw[List.length_map,List.length_map];omega,fun r3 hr3=> ?_⟩
   have s3:=Zj (o:=.lst (ds1.map V.ref++ds2.map V.ref)) hr3;refine⟨r3,ds1++ds2,Zr x++Zr y,rfl,by rw[Zc,List.map_append],(Yd.app (c1.same s2) c2).same s3,tl,by rw[List.length_append];omega,fun w hw=> ?_,fun r ds H4 hr s4 d4 c4 n4=> ?_⟩
   ·rcases List.mem_append.mp hw with z|z
    ·have:=z3 w z;omega
    ·have:=z4 w z;omega
   ·have s13:=(s1.trans s2).trans s3;refine q r ds H4 (none_of s13 hr) (s13.trans s4) d4 c4 fun d hd=> ?_;rcases List.mem_append.mp (n4 d hd) with z|z
    ·exact n1 d z
    ·exact none_of s1 (n2 d z)
theorem ZhW{H:Hp}:∀{as:List Addr} {ws:List Tb},Yd H as ws->∃cs:List Tb,Paired (Rep K H) (cs.map fun c=>Dt.dct (kk c)) (as.map V.ref)/\cs.map M4.norm=ws/\∀c∈cs,M4.Nd c
 |_,_,.nil=>⟨[],.nil,rfl,fun c hc=>nomatch hc⟩
 |_,_,.cons ⟨c,e,n,q⟩ t=>by
  obtain⟨cs,r,e1,n1⟩:=ZhW t;refine⟨c::cs,.cons (.dct (.inl e) (Zcj c)) r,by rw[List.map_cons,e1,q],fun d hd=> ?_⟩;obtain rfl|hd:=List.mem_cons.mp hd
  ·exact n
  ·exact n1 d hd
theorem ZgC{a b:Tb}(ha:M4.Nd a)(hb:M4.Nd b)(h:M4.norm a=M4.norm b):dEq (kk a) (kk b)=true:=by
 unfold dEq;have le:(kk a).length=(kk b).length:=by rw[Yb,Yb,<-M4.YG a,h,M4.YG]
 rw[le,beq_self_eq_true,Bool.true_and,List.all_eq_true];intro kv hm;obtain⟨p,hp,rfl⟩:=Zk3 hm;have e:ZaA (kk b) (Sum.inr p.1)=some (V.int p.2):=by rw[Zfb,<-M4.Zfm ha hb h,XR ha hp];rfl
 show(match ZaA (kk b) (Sum.inr p.1) with|some u=>eqV (V.int p.2) u|none=>false)=true;rw[e];exact Zch rfl
theorem Zl3{a b:Tb}(ha:M4.Nd a)(hb:M4.Nd b):dEq (kk a) (kk b)=decide (M4.norm a=M4.norm b):=by
 by_cases h:M4.norm a=M4.norm b
 ·rw[ZgC ha hb h,decide_eq_true h]
 ·rw[decide_eq_false h];cases e:dEq (kk a) (kk b) with
  |false=>rfl
  |true=>
   exfalso
   unfold dEq at e
   rw[Bool.and_eq_true,List.all_eq_true] at e
   obtain⟨e1,e2⟩:=e;have le:a.length=b.length:=by have:=eq_of_beq e1;rw[Yb,Yb] at this;exact this
   have sub:∀p∈a,p∈b:=fun p hp=>by
    have m:(Sum.inr p.1,V.int p.2)∈kk a:=List.mem_map.mpr ⟨p,hp,rfl⟩;have z:(match ZaA (kk b) (Sum.inr p.1) with|some u=>eqV (V.int p.2) u|none=>false)=true:=e2 _ m;rw[Zfb] at z
    cases el:lk b p.1 with
    |none=>rw[el] at z;cases z
    |some u=>
     rw[el] at z
     have z:(p.2==u)=true:=z;have z:=eq_of_beq z;have:=(M4.YH hb).mp el;rw[<-z] at this
     exact this
   have pm:a.Perm b:=M4.Zbc (M4.ZbA ha) (M4.ZbA hb) fun x=>⟨sub x,(M4.Zdz (M4.ZbA ha) sub).2 (M4.ZbA hb) le x⟩
   exact h (M4.Zbz Xr pm)
theorem ZgD{c:Tb}(hc:M4.Nd c):∀cs:List Tb,(∀d∈cs,M4.Nd d)->((cs.map fun d=>Dt.dct (kk d)).any fun e=>Yy 1 e (.dct (kk c)))=((cs.map M4.norm).any fun u=>decide (u=M4.norm c))
 |[],_=>rfl
 |d::cs,h=>by
  rw[List.map_cons,List.map_cons,List.any_cons,List.any_cons,ZgD hc cs fun e he=>h e (List.mem_cons_of_mem _ he)];show(dEq (kk d) (kk c)||_)=_;rw[Zl3 (h d (List.mem_cons_self ..)) hc]
theorem ZeW{H:Hp}(P:Tb->Bool):∀{as:List Addr} {ws:List Tb},Yd H as ws->∃ds:List Addr,((as.zip ws).flatMap fun z=>if P z.2=true then[V.ref z.1] else[])=ds.map V.ref/\Yd H ds (ws.filter P)
 |_,_,.nil=>⟨[],rfl,.nil⟩
 |_,_,.cons (a:=a) (b:=w) h t=>by
  obtain⟨ds,e,c⟩:=ZeW P t;cases hp:P w with
  |true=>
   refine⟨a::ds, ?_,by rw[List.filter_cons_of_pos hp];exact .cons h c⟩
   rw[List.zip_cons_cons,List.flatMap_cons,e,if_pos hp]
   rfl
  |false=>
   refine⟨ds, ?_,by rw[List.filter_cons_of_neg (by rw[hp];simp)];exact c⟩
   rw[List.zip_cons_cons,List.flatMap_cons,e,if_neg (by rw[hp];simp)]
   rfl
theorem Zhv:ZG ["ones","others"] ["ones","others"] (Zu ZcT):=⟨rfl,rfl,rfl,by decide+kernel,rfl,by decide+kernel,by decide+kernel⟩
theorem Zhw{f:Addr}{fd:FuncData}(F:Fun K "only_in" "only_in" ZcT f fd)(T:Txt K mg t_MOST_CLAUSES Zk Zd Ze Zb):Yq P w K mg base CX0 1 f fd ["ones","others"] ZbY:=by
 refine F.ok Zhv (fun vs H Q E h=> ?_) (fun cdv A outer s H vs Q E hr h=> ?_)
 ·obtain⟨p,q,as,bs,ws,us,rfl,_⟩:=h
  rfl
 ·obtain⟨p,q,as,bs,ws,us,rfl,hp,hq,ca,cb,la,fin⟩:=h;have l5:=JM;have hu3:=ZkD hr;have le:=ca.len;have lz:(as.zip ws).length=as.length:=by rw[List.length_zip];omega
  refine⟨_,(Zq (Zt (Zcd ["clause"] [("others",1)] rfl (Zaw (pv 0)) (by rfl) (by exact⟨rfl,trivial⟩) (by rfl) (by exact⟨⟨rfl,rfl,rfl⟩,trivial⟩) (fun _ _ _ _=>(Yw (i:=0) (show(nmY ["clause"] [("others",1)]).Nodup by decide+kernel) rfl (Or.inl rfl))) (fun _ _ _ _=>(Zkx (Zv (Zhk (K:=K) rfl hu3) (pv 0) (pv 1) rfl))) (fun _ _ _ _=>(pv 0))))), ?_⟩;refine⟨_,rfl,p,rfl,⟨_,SqL.of hp⟩,Zfa (as.zip ws).length (fun j=>(((as.zip ws)[j]?).map fun z=>if(!(us.any fun u=>decide (u=z.2)))=true then[V.ref z.1] else[]).getD []) (by omega) (fun j=> ?_) (fun j H2 s2 lt=>⟨_,_,SqL.of (s2 _ _ hp),List.getElem?_eq_getElem (by rw[List.length_map];omega)⟩) (fun H2 s2=>⟨_,SqL.of (s2 _ _ hp),by rw[List.length_map];omega⟩) (fun j y H2 H3 s2 lt yl RT RF rt rf=> ?_) fun D H2 hD s2 d2=> ?_⟩
  ·cases(as.zip ws)[j]? with
   |none=>exact Nat.zero_le 1
   |some z=>
    show(if _ then[V.ref z.1] else[]).length<=1
    split
    ·exact Nat.le_refl 1
    ·exact Nat.zero_le 1
  ·obtain⟨rfl,yl⟩:=yl;have hy:=yl _ (SqL.of (s2 _ _ hp));obtain⟨a,w,c,rfl,e1,e2,e3,e4,e5⟩:=Yd.get (ca.same s2) j y hy;obtain⟨cs,r1,m1,k1⟩:=ZhW (cb.same s2);have ez:(as.zip ws)[j]? =some (a,w):=List.getElem?_zip_eq_some.mpr ⟨e1,e2⟩;rw[ez] at rt rf
   refine⟨⟨rfl,trivial⟩,_,rfl,_,rfl,q,1,.dct (kk c),_,_,rfl,by decide,SqL.of (s2 _ _ hq),.dct (.inl e3) (Zcj c),r1,fun e he=> ?_,_,rfl, ?_⟩
   ·obtain⟨d,_,rfl⟩:=List.mem_map.mp he
    rfl
   ·have en:=ZgD e4 cs k1;rw[m1,e5] at en
    show if(!(cs.map fun d=>Dt.dct (kk d)).any fun e=>Yy 1 e (.dct (kk c)))=true then _ else _;rw[en];refine Jp (fun z=>⟨_,rfl,rt _ _ ?_ (Zx.refl _)⟩) (fun z=>rf _ ?_ (Zx.refl _))
    ·show(if(!(us.any fun u=>decide (u=w)))=true then[V.ref a] else[])=[V.ref a];rw[if_pos z]
    ·show(if(!(us.any fun u=>decide (u=w)))=true then[V.ref a] else[])=[];rw[if_neg z]
  ·rw[ZbP (fun z=>if(!(us.any fun u=>decide (u=z.2)))=true then[V.ref z.1] else[]) (as.zip ws)] at d2
   obtain⟨ds,e,c⟩:=ZeW (fun w=> !(us.any fun u=>decide (u=w))) (ca.same s2);rw[e] at d2
   exact fin D ds H2 hD s2 d2 c
theorem Zl4{l:Tb}{k:Str}{v:Int}(h:k∉l.map (·.1)):Zb4 l k v=l++[(k,v)]:=by
 unfold Zb4;rw[if_neg];intro z;obtain⟨p,hp,e⟩:=List.any_eq_true.mp z;exact h (List.mem_map.mpr ⟨p,hp,of_decide_eq_true e⟩)
theorem JT:ZG ["clause","latest","life","kind","length"] ["clause"] (Zu ZcU):=⟨rfl,rfl,rfl,by decide+kernel,rfl,by decide+kernel,by decide+kernel⟩
theorem Zhx{f:Addr}{fd:FuncData}(F:Fun K "life_of" "life_of" ZcU f fd)(T:Txt K mg t_MOST_CLAUSES Zk Zd Ze Zb):Yq P w K mg base CX0 1 f fd ["clause"] ZbZ:=by
 refine F.ok JT (fun vs H Q E h=> ?_) (fun cdv A outer s H vs Q E hr h=> ?_)
 ·obtain⟨a,c,rfl,_⟩:=h
  rfl
 ·obtain⟨a,c,rfl,ha,nd,ne,lc,q⟩:=h;have l5:=JM;have hu:=ZdL hr;refine⟨_,(Zi (ZD (i:=1) JT.nd rfl (Or.inl rfl) (ZV (Zhl rfl) (by rfl) T.z_max ZgX (Za (ZiB (pv 0)) Zm))) (Zi (ZD (i:=2) JT.nd rfl (Or.inl rfl) ZdJ) (Zi (ZhJ a (Zay PassesOwn.never rfl (ZdO (Zcf (pv 0))) (ZgG rfl (Zai (Yw (i:=3) JT.nd rfl (Or.inl rfl)) (Zai (Yw (i:=4) JT.nd rfl (Or.inl rfl)) ZeZ))) (Zq (Zdp hu (pv 2) (pv 3) (Zw Zlu (pv 1) (pv 4)) rfl)))) (Zq (Zt (pv 2)))))), ?_⟩
  refine⟨_,rfl,a,_,rfl,.inl ha,fun v hv=>⟨v,a,c.map (fun p=>(Sum.inr p.1,p.2)),rfl,Zc,.inl ?_,fun z=>ne (List.map_eq_nil_iff.mp z),fun M hM=> ?_⟩⟩
  ·rw[Zf (Zn ha hv),ha,List.map_map]
   rfl
  have hM:Zb3 (c.map (·.2)) M:=by rw[List.map_map] at hM;exact hM
  have ha1:upd H v (JL v a) a=some (.dK (kk c)):=by rw[Zf (Zn ha hv)];exact ha
  refine fun p hp=> ?_;have npa:a≠p:=Zn ha1 hp;have ha2:upd (upd H v (JL v a)) p (.dK []) a=some (.dK (kk c)):=by rw[Zf npa];exact ha1
  refine⟨_,rfl,a,_,rfl,ha2,fun v2 hv2=>⟨v2,a,_,rfl,Zc,by rw[Zf (Zn ha2 hv2)];exact ha2,fun o=> ?_⟩⟩
  have nva:a≠v2:=Zn ha2 hv2;have npv:p≠v2:=Zn Zc hv2;have s0:Zx H (upd (upd (upd H v (JL v a)) p (.dK [])) v2 (XC v2 a)):=(Zj hv).trans ((Zj hp).trans (Zj hv2));have hp0:H p=none:=none_of (Zj (o:=JL v a) hv) hp;refine Zh2 (J:=Iti a o (kk c)) (n:=c.length) (fun i σ H'=>∃v3 v4,σ=[some (.ref a),some (.int M),some (.ref p),v3,v4]/\H' p=some (.dK (kk ((c.take i).map fun z=>(z.1,M-z.2))))/\(∀b' u,b'≠a->H b'=some u->H' b'=some u)/\H' a=some (.frz o (.dK (kk c)))) ?_ ?_ ?_ ?_
  ·exact⟨none,none,rfl,by rw[Zf (Ne.symm npa),Zf npv];exact Zc,fun b' u n e=>by rw[Zf n];exact s0 _ _ e,Zc⟩
  ·rintro i σ H1 hi ⟨v3,v4,rfl,d1,f1,g1⟩;exact⟨g1,by rw[Yb];exact hi⟩
  ·rintro σ H1 ⟨v3,v4,rfl,d1,f1,g1⟩;rw[List.take_of_length_le (Nat.le_refl _)] at d1
   refine⟨⟨g1,by rw[Yb];exact Nat.le_refl _⟩,upd H1 a (.dK (kk c)),⟨Zk1 ha,o,_,g1,rfl⟩, ?_⟩
   refine⟨_,rfl,q _ p _ hp0 (fun b' u e=> ?_) (by rw[Zf (Ne.symm npa)];exact d1) ⟨c,M,nd,rfl,hM,rfl⟩⟩
   by_cases z:b'=a
   ·subst z;rw[ha] at e
    cases e;exact Zc
   ·rw[Zf z];exact f1 b' u z e
  ·rintro i x σ H1 H2 hi ⟨v3,v4,rfl,d1,f1,g1⟩ ⟨kv,pp,e3,hpp,rfl,rfl⟩;obtain⟨pr,e5,rfl⟩:=Zk4 e3;have npp:p≠pp:=Zn d1 hpp;refine⟨pp,_,rfl,SqT.of Zc,rfl,_,_,rfl,_,_,rfl,rfl, ?_⟩;have sp:Zx H1 (upd H1 pp (.tup [kV (Sum.inr pr.1),V.int pr.2])):=Zj hpp;have len:(kk ((c.take i).map fun z=>(z.1,M-z.2))).length<sizeLine:=by
    have:=List.length_take_le i c;rw[Yb,List.length_map];omega
   have fresh:pr.1∉((c.take i).map fun z=>(z.1,M-z.2)).map (·.1):=fun z=>by
    rw[List.map_map] at z
    obtain⟨p2,hp2,e⟩:=List.mem_map.mp z;have e:p2.1=pr.1:=e;obtain⟨j,hj,e6⟩:=List.getElem_of_mem hp2;rw[List.getElem_take] at e6
    have hj':j<i:=by rw[List.length_take] at hj;omega
    obtain⟨hi',e7⟩:=List.getElem?_eq_some_iff.mp e5;have:=(List.pairwise_iff_getElem.mp nd) j i (by rw[List.length_map];omega) (by rw[List.length_map];omega) hj'
    rw[List.getElem_map,List.getElem_map,e6,e7] at this
    exact this e
   refine⟨_,rfl,_,rfl,_,_,rfl,rfl,_,rfl,_,rfl,p,_,rfl,Zg2.k (k:=Sum.inr pr.1) (sp _ _ d1) len, ?_⟩;refine⟨_,_,rfl, ?_,fun b' u n e=> ?_,by rw[Zf npa];exact sp _ _ g1⟩
   ·rw[Zh6,Zc,Zl4 fresh,List.take_add_one,e5,List.map_append]
    rfl
   ·have nb:b'≠p:=Zn e hp0;rw[Zf nb];exact sp _ _ (f1 b' u n e)
theorem Zhy{l:Addr}{xs:List V}{H0:Hp}{R:VK}(hl:H0 l=some (.lst xs)):∀{r:List Addr} {wr:List Tb} (seen:List Tb) {a:Addr} {w c:Tb} {kb:V} {H:Hp},Yd H0 r wr->Zx H0 H->(∀v∈wr,v.length<64)->H0 a=some (.dK (kk c))->M4.Nd c->M4.norm c=w->w∈seen->(∀d∈seen,M4.Yt d w=false)->Rep K H (kyD (M4.ZbF w)) kb->
  (∀(a:Addr) (w c:Tb) (H':Hp),Zx H0 H'->H0 a=some (.dK (kk c))->M4.Nd c->M4.norm c=w->w∈seen++wr->(∀d∈seen++wr,M4.Yt d w=false)->R (.ref a) H')->mnk K (Xn K) l xs (r.map V.ref) (.ref a) kb H R
 |_,_,seen,a,w,c,kb,H,.nil,s,_,ha,nd,en,mw,lo,rk,fin=>by
  rw[List.append_nil] at fin
  exact⟨SqL.of (s _ _ hl),fin a w c H s ha nd en mw lo⟩
 |_,_,seen,a,w,c,kb,H,.cons (a:=a') (b:=w') (l₁:=r) (l₂:=wr) ⟨c',h',nd',en'⟩ t,s,hz,ha,nd,en,mw,lo,rk,fin=>by
  have lc:c'.length<64:=by
   rw[<-M4.YG,en'];exact hz w' (List.mem_cons_self ..)
  refine⟨SqL.of (s _ _ hl),a',c',rfl,s _ _ h',lc,fun k H2 s2 rp=> ?_⟩;rw[ZfL,en'] at rp
  have ap:seen++w'::wr=(seen++[w'])++wr:=by rw[List.append_assoc];rfl
  rw[ap] at fin
  have hz2:∀v∈wr,v.length<64:=fun v hv=>hz v (List.mem_cons_of_mem _ hv);refine⟨_,_,rp,ZfK s2 rk,fun z=> ?_,fun z=> ?_⟩
  ·have z:M4.Yt w' w=true:=z;refine Zhy hl (seen++[w']) t (s.trans s2) hz2 h' nd' en' (List.mem_append_right _ (List.mem_cons_self ..)) (fun d hd=> ?_) rp fin;rcases List.mem_append.mp hd with hd|hd
   ·cases e:M4.Yt d w' with
    |false=>rfl
    |true=>
     have:=M4.YZ.tr _ _ _ e z;rw[lo d hd] at this
     cases this
   ·have e7:d=w':=by simpa using hd
    subst e7;exact M4.YZ.irr _
  ·have z:M4.Yt w' w=false:=z;refine Zhy hl (seen++[w']) t (s.trans s2) hz2 ha nd en (List.mem_append_left _ mw) (fun d hd=> ?_) (ZfK s2 rk) fin;rcases List.mem_append.mp hd with hd|hd
   ·exact lo d hd
   ·have e7:d=w':=by simpa using hd
    subst e7;exact z
theorem ZaR:ZG ["one","other","ones","others","clauses"] ["one","other"] (Zu ZcS):=⟨rfl,rfl,rfl,by decide+kernel,rfl,by decide+kernel,by decide+kernel⟩
theorem Zhz{f:Addr}{fd:FuncData}(F:Fun K "parting" "parting" ZcS f fd)(T:Txt K mg t_MOST_CLAUSES Zk Zd Ze Zb)(XM:Cal P w K mg base CX0 1 "place_of" ["clause"] (Xn K))(Jy:Cal P w K mg base CX0 23 "least" ["term"] (Zbj Zk Zd Ze Zb 18))(Zd5:Cal P w K mg base CX0 1 "life_of" ["clause"] ZbZ)(ZbE:Cal P w K mg base CX0 1 "only_in" ["ones","others"] ZbY):Yq P w K mg base CX0 24 f fd ["one","other"] (Zc0 Zk Zd Ze Zb):=by
 refine F.ok ZaR (fun vs H Q E h=> ?_) (fun cdv A outer s H vs Q E hr h=> ?_)
 ·obtain⟨a,b,t,u,rfl,_⟩:=h
  rfl
 ·obtain⟨a,b,t,u,rfl,ta,tb,dt,du,ct,cu,qn,qs⟩:=h;have l5:=JM;have hu3:=ZkD hr;have m1:=ZjQ ct;have m2:=ZjQ cu;have ct2:=ct.2;have cu2:=cu.2;refine⟨_,(Zi (ZD (i:=2) ZaR.nd rfl (Or.inl rfl) (ZW Jy (hr.mono (by omega)) rfl ZF (Za (pv 0) Zm))) (Zi (ZD (i:=3) ZaR.nd rfl (Or.inl rfl) (ZW Jy (hr.mono (by omega)) rfl ZF (Za (pv 1) Zm))) (Zi (ZD (i:=4) ZaR.nd rfl (Or.inl rfl) (Zw Zf7 (ZW ZbE (hr.mono (by omega)) rfl ZF (Za (pv 2) (Za (pv 3) Zm))) (ZW ZbE (hr.mono (by omega)) rfl ZF (Za (pv 3) (Za (pv 2) Zm))))) (Zi (Ye (Zv YT (ZV Zak (by rfl) T.z_len ZbO (Za (pv 4) Zm)) Zh (Zy _)) (Zq (Zt Xc)) Zz) (Zq (Zt (ZW Zd5 (hr.mono (by omega)) rfl ZF (Za (ZkS XM (hr.mono (by omega)) (by rfl) T.z_min (by rfl) (Za (pv 4) Zm)) Zm)))))))), ?_⟩
  refine⟨_,rfl,a,t,rfl,ta,dt,ct,fun r1 ds1 H1 hr1 s1 d1 c1 n1=> ?_⟩;refine⟨_,rfl,b,u,rfl,tb.same s1,du,cu,fun r2 ds2 H2 hr2 s2 d2 c2 n2=> ?_⟩;have l1:=c1.len;have l2:=c2.len;refine⟨_,rfl,_,rfl,r1,r2,ds1,ds2,_,_,rfl,s2 _ _ d1,d2,c1.same s2,c2,by omega,fun r3 ds3 H3 hr3 s3 d3 c3=> ?_⟩;refine⟨_,rfl,_,rfl,r2,r1,ds2,ds1,_,_,rfl,s3 _ _ d2,s3 _ _ (s2 _ _ d1),c2.same s3,(c1.same s2).same s3,by omega,fun r4 ds4 H4 hr4 s4 d4 c4=> ?_⟩
  have l3:=c3.len;have l4:=c4.len;have o3:=ZhU (Zr t) (Zr u);have o4:=ZhU (Zr u) (Zr t);refine⟨r3,r4,ds3.map V.ref,ds4.map V.ref,rfl,rfl,SqL.of (s4 _ _ d3),SqL.of d4,by rw[List.length_map,List.length_map];omega,fun D hD=> ?_⟩
  have cd:Yd (upd H4 D (.lst (ds3.map V.ref++ds4.map V.ref))) (ds3++ds4) (Xh t u):=(Yd.app (c3.same s4) c4).same (Zj hD);have s0:Zx H (upd H4 D (.lst (ds3.map V.ref++ds4.map V.ref))):=s1.trans (s2.trans (s3.trans (s4.trans (Zj hD))));have dD:upd H4 D (.lst (ds3.map V.ref++ds4.map V.ref)) D=some (.lst ((ds3++ds4).map V.ref)):=by rw[Zc,List.map_append]
  generalize hH:upd H4 D (.lst (ds3.map V.ref++ds4.map V.ref))=H5 at cd s0 dD
  generalize ds3++ds4=ds at cd dD
  refine⟨_,rfl,_,_,rfl,.inl ⟨_,SqL.of dD,rfl⟩,rfl,_,rfl, ?_⟩;have sz:∀w∈Xh t u,w≠[]/\w.length<=max t.cnt u.cnt:=fun w hw=>Zaq hw;generalize hd:Xh t u=W at cd sz qn qs
  cases cd with
  |nil=>exact Zdk rfl (qn _ s0 rfl)
  |cons h1 tl=>
   rename_i a1 w1 ds W
   obtain⟨c1',g1,g2,g3⟩:=h1;refine YX (fun z=> ?_) ?_
   ·injection z with z
    rw[List.map_cons,List.length_cons] at z
    omega
   have lc:c1'.length<64:=by
    have:=(sz w1 (List.mem_cons_self ..)).2;rw[<-M4.YG,g3];omega
   refine⟨_,rfl,D,.ref a1,ds.map V.ref,rfl,SqL.of dD,a1,c1',rfl,g1,lc,fun k H6 s6 rp=> ?_⟩;rw[ZfL,g3] at rp
   refine Zhy dD [w1] tl s6 (fun v hv=> ?_) g1 g2 g3 (List.mem_cons_self ..) (fun d hd=> ?_) rp fun am wm cm H7 s7 e1 e2 e3 mm lo=> ?_
   ·have:=(sz v (List.mem_cons_of_mem _ hv)).2;omega
   ·have e7:d=w1:=by simpa using hd
    subst e7;exact M4.YZ.irr _
   ·have z:=sz wm mm;refine⟨am,cm,rfl,s7 _ _ e1,e2,fun y=>z.1 ?_, ?_,fun l p H8 hp s8 h8 lf=>qs wm l p H8 (none_of (s0.trans s7) hp) (s0.trans (s7.trans s8)) h8 mm lo (by rw[<-e3];exact lf)⟩
    ·rw[<-e3,y]
     rfl
    ·rw[<-M4.YG,e3];omega
theorem ZgE:ZG ["_law_tree","_law_by"] ["_law_tree","_law_by"] (Zu ZbU):=⟨rfl,rfl,rfl,by decide+kernel,rfl,by decide+kernel,by decide+kernel⟩
theorem ZgF{f:Addr}{fd:FuncData}(F:Fun K "_law_bent" "_law_bent" ZbU f fd)(T:Txt K mg t_MOST_CLAUSES Zk Zd Ze Zb)(n:Nat)(XN:Cal P w K mg base CX0 (0+n+1) "_law_bent" ["_law_tree","_law_by"] (Jg n)):Yq P w K mg base CX0 (0+n+1+1) f fd ["_law_tree","_law_by"] (Jg (n+1)):=by
 refine F.ok ZgE (fun vs H Q E h=> ?_) (fun cdv A outer s H vs Q E hr h=> ?_)
 ·obtain⟨a,t,b,rfl,_⟩:=h
  rfl
 ·obtain⟨a,t,b,rfl,ht,hd,h7,q⟩:=h;refine⟨_,(Zi (Ye (Zv YT (ZQ ZL (pv 0) Zh (fun _ _=>rfl)) Yu (Zy _)) (Zq (Zt (pv 0))) Zz) (Zi (Ye (Zv YT (ZQ ZL (pv 0) Zh (fun _ _=>rfl)) Yu (Zy _)) (Zq (Zt (Jm (Za Yu (Za (ZQ ZL (pv 0) Zh (fun _ _=>rfl)) (Za (Zw Xo (ZQ ZL (pv 0) Zh (fun _ _=>rfl)) (Zw Yj (pv 1) Zh)) Zm)))))) Zz) (Zi (Ye (Zv YT (Zw Yj (pv 1) Zh) Zh (Zy _)) (Zq (Zt (ZQ ZL (pv 0) (Zw Xo Zh (Zw Yj (Zw Yx (pv 1) Zh) Zh)) (fun _ _=>rfl)))) Zz) (Zi (Ye (Zv YT (Zw Yj (pv 1) Zh) Zh (Zy _)) (Zq (Zt (Jm (Za (ZQ ZL (pv 0) Zh (fun _ _=>rfl)) (Za (ZQ ZL (pv 0) Zh (fun _ _=>rfl)) (Za (ZQ ZL (pv 0) Zh (fun _ _=>rfl)) Zm)))))) Zz) (Zi (Ye (Zv YT (Zw Yj (pv 1) Zh) Zh (Zy _)) (Zq (Zt (Jm (Za (ZQ ZL (pv 0) Zh (fun _ _=>rfl)) (Za (ZQ ZL (pv 0) Zh (fun _ _=>rfl)) (Za (ZW XN (hr.mono (by omega)) rfl ZF (Za (ZQ ZL (pv 0) Zh (fun _ _=>rfl)) (Za (Zw Yx (pv 1) Zh) Zm))) Zm)))))) Zz) (Zi (Ye (Zv YT (Zw Yj (pv 1) Zh) Zh (Zy _)) (Zq (Zt (Jm (Za (ZQ ZL (pv 0) Zh (fun _ _=>rfl)) (Za (ZW XN (hr.mono (by omega)) rfl ZF (Za (ZQ ZL (pv 0) Zh (fun _ _=>rfl)) (Za (Zw Yx (pv 1) Zh) Zm))) (Za (ZQ ZL (pv 0) Zh (fun _ _=>rfl)) Zm)))))) Zz) (Zq (Zt (Jm (Za (ZQ ZL (pv 0) Zh (fun _ _=>rfl)) (Za (ZQ ZL (pv 0) Zh (fun _ _=>rfl)) (Za (Jm (Za (ZQ ZL (pv 0) Zh (fun _ _=>rfl)) (Za (ZQ ZL (pv 0) Zh (fun _ _=>rfl)) (Za (ZQ ZL (pv 0) Zh (fun _ _=>rfl)) Zm)))) Zm)))))))))))), ?_⟩
  cases t with
  |never=>
   have ha:H a=some _:=ht;exact(ixT rfl (SqT.of ha) rfl ⟨rfl,_,rfl,Zdk rfl ⟨_,rfl,q a .never H (Zx.refl H) ht (.self (Nat.le_refl _)) trivial (by decide) (by decide)⟩⟩)
  |after k d=>
   have ha:H a=some _:=ht;refine(ixT rfl (SqT.of ha) rfl ⟨rfl,_,rfl,YX w1 (ixT rfl (SqT.of ha) rfl ⟨rfl,_,rfl,Zdk rfl ?_⟩)⟩);exact ixT rfl (SqT.of ha) rfl (ixT rfl (SqT.of ha) rfl (vI rfl (by show(0:Int)<3;decide) ⟨_,_,rfl,rfl,(show 3<=sizeLine from sl),fun p hp=>q p (.after k (d+b%3)) _ (Zj hp) Zc (.self (Nat.le_refl _)) trivial (show 1<=2*1 by decide) (show 0<=0+1 by decide)⟩))
  |later x y=>
   obtain⟨p1,p2,ha,t1,t2⟩:=ht;have hdeep:max x.deep y.deep+1<n+1:=hd;have h7:x.cnt+y.cnt<=7:=h7;have ec:(Tr.later x y).cnt=x.cnt+y.cnt:=rfl;have ed:(Tr.later x y).deep=max x.deep y.deep+1:=rfl;rw[ec,ed] at q
   have px:=Za1 x;have py:=Za1 y;refine(ixT rfl (SqT.of ha) rfl ⟨rfl,_,rfl,YX w2 (ixT rfl (SqT.of ha) rfl ⟨rfl,_,rfl,YX w4 ?_⟩)⟩);refine vI rfl (by show(0:Int)<5;decide) ⟨rfl,_,rfl,Jp (fun _=> ?_) (fun _=> ?_)⟩
   ·have c0:=Int.emod_nonneg (b/5) (show(2:Int)≠0 by decide);have c1:=Int.emod_lt_of_pos (b/5) (show(0:Int)<2 by decide);rcases(show b/5%2=0\/b/5%2=1 by omega) with z|z
    ·refine⟨_,rfl,vI rfl ⟨by decide,by decide⟩ ⟨_,_,rfl,rfl,(by show(0:Int)<2;decide),_,_,rfl,rfl,a,_,_,_,rfl,rfl,SqT.of ha,(by show atI _ (1+b/5%2)=some (V.ref p1);rw[z];rfl),q p1 x H (Zx.refl H) t1 (.self (by omega)) (ZP (by omega)) (by omega) (by omega)⟩⟩
    ·refine⟨_,rfl,vI rfl ⟨by decide,by decide⟩ ⟨_,_,rfl,rfl,(by show(0:Int)<2;decide),_,_,rfl,rfl,a,_,_,_,rfl,rfl,SqT.of ha,(by show atI _ (1+b/5%2)=some (V.ref p2);rw[z];rfl),q p2 y H (Zx.refl H) t2 (.self (by omega)) (ZP (by omega)) (by omega) (by omega)⟩⟩
   refine vI rfl (by show(0:Int)<5;decide) ⟨rfl,_,rfl,Jp (fun _=> ?_) (fun _=> ?_)⟩
   ·refine ixT rfl (SqT.of ha) rfl (ixT rfl (SqT.of ha) rfl (ixT rfl (SqT.of ha) rfl ⟨(show 3<=sizeLine from sl),fun p hp=>q p (.later y x) _ (Zj hp) ⟨p2,p1,Zc,t2.same (Zj hp),t1.same (Zj hp)⟩ (.self ?_) (ZP ?_) ?_ ?_⟩))
    ·show y.cnt+x.cnt<=x.cnt+y.cnt;omega
    ·show y.cnt+x.cnt<=10;omega
    ·show y.cnt+x.cnt<=2*(x.cnt+y.cnt);omega
    ·show max y.deep x.deep+1<=max x.deep y.deep+1+1;omega
   refine vI rfl (by show(0:Int)<5;decide) ⟨rfl,_,rfl,Jp (fun _=> ?_) (fun _=> ?_)⟩
   ·refine ixT rfl (SqT.of ha) rfl (ixT rfl (SqT.of ha) rfl (ixT rfl (SqT.of ha) rfl (vI rfl ⟨by decide,by decide⟩ ⟨p2,y,_,rfl,t2,by omega,by omega,fun p' t' H' s' tt at_ ft c d=>⟨(show 3<=sizeLine from sl),fun p hp=>q p (.later x t') _ (s'.trans (Zj hp)) ⟨p1,p',Zc,(t1.same s').same (Zj hp),tt.same (Zj hp)⟩ (Xg.later (.self (Nat.le_refl _)) at_) (ZcY (ZP (by omega)) ft (.self (Nat.le_refl _)) at_ (by omega)) ?_ ?_⟩⟩)))
    ·show x.cnt+t'.cnt<=2*(x.cnt+y.cnt);omega
    ·show max x.deep t'.deep+1<=max x.deep y.deep+1+1;omega
   refine vI rfl (by show(0:Int)<5;decide) ⟨rfl,_,rfl,Jp (fun _=> ?_) (fun _=> ?_)⟩
   ·refine ixT rfl (SqT.of ha) rfl (ixT rfl (SqT.of ha) rfl (vI rfl ⟨by decide,by decide⟩ ⟨p1,x,_,rfl,t1,by omega,by omega,fun p' t' H' s' tt at_ ft c d=>ixT rfl (SqT.of (s' _ _ ha)) rfl ⟨(show 3<=sizeLine from sl),fun p hp=>q p (.later t' y) _ (s'.trans (Zj hp)) ⟨p',p2,Zc,tt.same (Zj hp),(t2.same s').same (Zj hp)⟩ (Xg.later at_ (.self (Nat.le_refl _))) (ZcY ft (ZP (by omega)) at_ (.self (Nat.le_refl _)) (by omega)) ?_ ?_⟩⟩))
    ·show t'.cnt+y.cnt<=2*(x.cnt+y.cnt);omega
    ·show max t'.deep y.deep+1<=max x.deep y.deep+1+1;omega
   obtain⟨tw,ft⟩:=Zho h7;refine ixT rfl (SqT.of ha) rfl (ixT rfl (SqT.of ha) rfl (ixT rfl (SqT.of ha) rfl (ixT rfl (SqT.of ha) rfl (ixT rfl (SqT.of ha) rfl ⟨(show 3<=sizeLine from sl),fun p hp=>⟨(show 3<=sizeLine from sl),fun p3 hp3=>q p3 (.later x (.later y x)) _ ((Zj hp).trans (Zj hp3)) ⟨p1,p,Zc,(t1.same (Zj hp)).same (Zj hp3),p2,p1,Zj hp3 _ _ Zc,(t2.same (Zj hp)).same (Zj hp3),(t1.same (Zj hp)).same (Zj hp3)⟩ tw ft ?_ ?_⟩⟩))))
   ·show x.cnt+(y.cnt+x.cnt)<=2*(x.cnt+y.cnt);omega
   ·show max x.deep (max y.deep x.deep+1)+1<=max x.deep y.deep+1+1;omega
  |earlier x y=>
   obtain⟨p1,p2,ha,t1,t2⟩:=ht;have hdeep:max x.deep y.deep+1<n+1:=hd;have h7:x.cnt+y.cnt<=7:=h7;have ec:(Tr.earlier x y).cnt=x.cnt+y.cnt:=rfl;have ed:(Tr.earlier x y).deep=max x.deep y.deep+1:=rfl;rw[ec,ed] at q
   have px:=Za1 x;have py:=Za1 y;refine(ixT rfl (SqT.of ha) rfl ⟨rfl,_,rfl,YX w3 (ixT rfl (SqT.of ha) rfl ⟨rfl,_,rfl,YX w5 ?_⟩)⟩);refine vI rfl (by show(0:Int)<5;decide) ⟨rfl,_,rfl,Jp (fun _=> ?_) (fun _=> ?_)⟩
   ·have c0:=Int.emod_nonneg (b/5) (show(2:Int)≠0 by decide);have c1:=Int.emod_lt_of_pos (b/5) (show(0:Int)<2 by decide);rcases(show b/5%2=0\/b/5%2=1 by omega) with z|z
    ·refine⟨_,rfl,vI rfl ⟨by decide,by decide⟩ ⟨_,_,rfl,rfl,(by show(0:Int)<2;decide),_,_,rfl,rfl,a,_,_,_,rfl,rfl,SqT.of ha,(by show atI _ (1+b/5%2)=some (V.ref p1);rw[z];rfl),q p1 x H (Zx.refl H) t1 (.self (by omega)) (ZP (by omega)) (by omega) (by omega)⟩⟩
    ·refine⟨_,rfl,vI rfl ⟨by decide,by decide⟩ ⟨_,_,rfl,rfl,(by show(0:Int)<2;decide),_,_,rfl,rfl,a,_,_,_,rfl,rfl,SqT.of ha,(by show atI _ (1+b/5%2)=some (V.ref p2);rw[z];rfl),q p2 y H (Zx.refl H) t2 (.self (by omega)) (ZP (by omega)) (by omega) (by omega)⟩⟩
   refine vI rfl (by show(0:Int)<5;decide) ⟨rfl,_,rfl,Jp (fun _=> ?_) (fun _=> ?_)⟩
   ·refine ixT rfl (SqT.of ha) rfl (ixT rfl (SqT.of ha) rfl (ixT rfl (SqT.of ha) rfl ⟨(show 3<=sizeLine from sl),fun p hp=>q p (.earlier y x) _ (Zj hp) ⟨p2,p1,Zc,t2.same (Zj hp),t1.same (Zj hp)⟩ (.self ?_) (ZP ?_) ?_ ?_⟩))
    ·show y.cnt+x.cnt<=x.cnt+y.cnt;omega
    ·show y.cnt+x.cnt<=10;omega
    ·show y.cnt+x.cnt<=2*(x.cnt+y.cnt);omega
    ·show max y.deep x.deep+1<=max x.deep y.deep+1+1;omega
   refine vI rfl (by show(0:Int)<5;decide) ⟨rfl,_,rfl,Jp (fun _=> ?_) (fun _=> ?_)⟩
   ·refine ixT rfl (SqT.of ha) rfl (ixT rfl (SqT.of ha) rfl (ixT rfl (SqT.of ha) rfl (vI rfl ⟨by decide,by decide⟩ ⟨p2,y,_,rfl,t2,by omega,by omega,fun p' t' H' s' tt at_ ft c d=>⟨(show 3<=sizeLine from sl),fun p hp=>q p (.earlier x t') _ (s'.trans (Zj hp)) ⟨p1,p',Zc,(t1.same s').same (Zj hp),tt.same (Zj hp)⟩ (Xg.earlier (.self (Nat.le_refl _)) at_) (Zbh (ZP (by omega)) ft (.self (Nat.le_refl _)) at_ (by omega)) ?_ ?_⟩⟩)))
    ·show x.cnt+t'.cnt<=2*(x.cnt+y.cnt);omega
    ·show max x.deep t'.deep+1<=max x.deep y.deep+1+1;omega
   refine vI rfl (by show(0:Int)<5;decide) ⟨rfl,_,rfl,Jp (fun _=> ?_) (fun _=> ?_)⟩
   ·refine ixT rfl (SqT.of ha) rfl (ixT rfl (SqT.of ha) rfl (vI rfl ⟨by decide,by decide⟩ ⟨p1,x,_,rfl,t1,by omega,by omega,fun p' t' H' s' tt at_ ft c d=>ixT rfl (SqT.of (s' _ _ ha)) rfl ⟨(show 3<=sizeLine from sl),fun p hp=>q p (.earlier t' y) _ (s'.trans (Zj hp)) ⟨p',p2,Zc,tt.same (Zj hp),(t2.same s').same (Zj hp)⟩ (Xg.earlier at_ (.self (Nat.le_refl _))) (Zbh ft (ZP (by omega)) at_ (.self (Nat.le_refl _)) (by omega)) ?_ ?_⟩⟩))
    ·show t'.cnt+y.cnt<=2*(x.cnt+y.cnt);omega
    ·show max t'.deep y.deep+1<=max x.deep y.deep+1+1;omega
   obtain⟨tw,ft⟩:=Zhp h7;refine ixT rfl (SqT.of ha) rfl (ixT rfl (SqT.of ha) rfl (ixT rfl (SqT.of ha) rfl (ixT rfl (SqT.of ha) rfl (ixT rfl (SqT.of ha) rfl ⟨(show 3<=sizeLine from sl),fun p hp=>⟨(show 3<=sizeLine from sl),fun p3 hp3=>q p3 (.earlier x (.earlier y x)) _ ((Zj hp).trans (Zj hp3)) ⟨p1,p,Zc,(t1.same (Zj hp)).same (Zj hp3),p2,p1,Zj hp3 _ _ Zc,(t2.same (Zj hp)).same (Zj hp3),(t1.same (Zj hp)).same (Zj hp3)⟩ tw ft ?_ ?_⟩⟩))))
   ·show x.cnt+(y.cnt+x.cnt)<=2*(x.cnt+y.cnt);omega
   ·show max x.deep (max y.deep x.deep+1)+1<=max x.deep y.deep+1+1;omega
theorem ZhX{ws us:List Tb}(e:ZcX ws us=[]):∀w∈ws,w∈us:=fun w hw=>by
 apply Classical.byContradiction
 intro n;have:=Zhn hw n;rw[e] at this
 cases this
theorem ZhY{t u:Tr}(h:Xh t u=[])(l:Tb):t.due l=u.due l:=by
 refine ZjL.one (Za2 l t) fun x=> ?_;rw[<-Za2 l u x,<-YM t l x,<-YM u l x];have e1:=ZhX (List.append_eq_nil_iff.mp h).1;have e2:=ZhX (List.append_eq_nil_iff.mp h).2;exact⟨fun⟨c,hc,up⟩=>⟨c,e1 c hc,up⟩,fun⟨c,hc,up⟩=>⟨c,e2 c hc,up⟩⟩
theorem ZiH{t u:Tr}(h:Xh t u=[]):Xh u t=[]:=by
 have e:=List.append_eq_nil_iff.mp h;show ZcX (Zr u) (Zr t)++ZcX (Zr t) (Zr u)=[];rw[e.1,e.2]
 rfl
theorem Zm1{t u:Tr}{c d:Tb}(hc:c∈Xh t u)(hd:d∈Xh t u)(lc:∀x∈Xh t u,M4.Yt x c=false)(ld:∀x∈Xh t u,M4.Yt x d=false):c=d:=by
 rcases M4.YZ.tri c d with z|z|z
 ·rw[ld c hc] at z;cases z
 ·exact z
 ·rw[lc d hd] at z;cases z
theorem Zkd{c l l':Tb}(h:Zcy c l)(h':Zcy c l'):M4.norm l=M4.norm l':=by
 obtain⟨d,M,nd,e,g,rfl⟩:=h;obtain⟨d',M',nd',e',g',rfl⟩:=h';have p:d.Perm d':=(M4.YF d).symm.trans (by rw[e,<-e'];exact M4.YF d')
 have q:=p.map (·.2);have z:M=M':=Int.le_antisymm (g'.2 M (q.mem_iff.mp g.1)) (g.2 M' (q.mem_iff.mpr g'.1));subst z;exact M4.Zbz Xr (p.map _)
theorem Ze9(ns:List Int)(lo hi:Option Int):∃ms:List Int,ZfZ (ns.map V.int) lo hi=ms.map V.int/\ms.length<=ns.length:=by
 unfold ZfZ;refine⟨(ns.drop (HT.sIx (ns.map V.int).length 0 lo)).take (HT.sIx (ns.map V.int).length (ns.map V.int).length hi-HT.sIx (ns.map V.int).length 0 lo), ?_, ?_⟩
 ·rw[List.map_take,List.map_drop]
 ·rw[List.length_take,List.length_drop];omega
theorem ZfM(o p:Option Int):Zkh (oV o) (oV p)=true:=by cases o<;>cases p<;>rfl
theorem Zke{c l:Tb}(h:Zcy c l):l.length=c.length:=by
 obtain⟨d,M,nd,e,_,rfl⟩:=h;rw[List.length_map,<-e,M4.YG]
theorem Yk.ins{cn ca cl ce:Addr}{H H':Hp}(s:∀(b C dx:Addr) (fs:List (Str×V)),H b=some (.ins C dx fs)->H' b=some (.ins C dx fs)):∀{t:Tr} {a:Addr},Yk cn ca cl ce H t a->Yk cn ca cl ce H' t a
 | .never,a,⟨dx,h⟩=>⟨dx,s _ _ _ _ h⟩
 | .after k d,a,⟨dx,h⟩=>⟨dx,s _ _ _ _ h⟩
 | .later x y,a,⟨dx,p,q,h,h1,h2⟩=>⟨dx,p,q,s _ _ _ _ h,Yk.ins s h1,Yk.ins s h2⟩
 | .earlier x y,a,⟨dx,p,q,h,h1,h2⟩=>⟨dx,p,q,s _ _ _ _ h,Yk.ins s h1,Yk.ins s h2⟩
theorem Zm2{o p:Option Int}(h:oV o=oV p):o=p:=by
 cases o<;>cases p
 ·rfl
 ·cases h
 ·cases h
 ·injection h with h;rw[h]
theorem XQ:ZG ["_law_script","_law_names_by","_law_by","_law_one","_law_other","_law_left","_law_right","_law_found","_law_cell","_law_life","_law_kind","_law_held"] ["_law_script"] (Zu Zcv):=⟨rfl,rfl,rfl,by decide+kernel,rfl,by decide+kernel,by decide+kernel⟩
theorem Zm3{f:Addr}{fd:FuncData}(F:Fun K "law" "law" Zcv f fd)(T:Txt K mg t_MOST_CLAUSES Zk Zd Ze Zb)(XN:Cal P w K mg base CX0 19 "_law_bent" ["_law_tree","_law_by"] (Jg 18))(XS:Cal P w K mg base CX0 1 "_law_cell_at" ["_law_script","_law_k"] (JR K))(Xb:Cal P w K mg base CX0 19 "_law_due" ["_law_tree","_law_life"] (JP 18))(Zad:Cal P w K mg base CX0 2 "_law_life_by" ["_law_cell","_law_names_by"] JN)(YL:Cal P w K mg base CX0 22 "_law_made" ["_law_tree"] (Je Zk Zd Ze Zb 18))(XX:Cal P w K mg base CX0 2 "_law_tree_by" ["_law_cells","_law_names_by","_law_most"] JQ)(Zbm:Cal P w K mg base CX0 1 "_law_whole" ["_law_found"] ZaL)(ZaU:Zjq P w K mg base CX0 19 "due" ["self","life"] (ZaM Zk Zd Ze Zb 18) (fun C=>C=Zk\/C=Zd\/C=Ze\/C=Zb))(Zas:Cal P w K mg base CX0 24 "parting" ["one","other"] (Zc0 Zk Zd Ze Zb)):Yq P w K mg base CX0 25 f fd ["_law_script"] (Zje K):=by
 refine F.ok XQ (fun vs H Q E h=> ?_) (fun cdv A outer s H vs Q E hr h=> ?_)
 ·obtain⟨a,ns,rfl,_⟩:=h
  rfl
 ·obtain⟨a,ns,rfl,hS,hlen,_,fin⟩:=h;have l5:=JM;have hu:=ZdL hr;have hu3:=ZkD hr;obtain⟨n1,n2,n3,n4⟩:=ZjY "due" (.inl rfl);refine⟨_,(Zi (ZD (i:=1) XQ.nd rfl (Or.inl rfl) (ZW XS (hr.mono (by omega)) rfl ZF (Za (pv 0) (Za Zh Zm)))) (Zi (ZD (i:=2) XQ.nd rfl (Or.inl rfl) (ZV ZiX (by rfl) T.z_abs Zlz (Za (ZW XS (hr.mono (by omega)) rfl ZF (Za (pv 0) (Za Zh Zm))) Zm))) (Zi (ZD (i:=3) XQ.nd rfl (Or.inl rfl) (ZW XX (hr.mono (by omega)) rfl ZF (Za (ZdF Zf3 (pv 0) (Zbr Zh) (Zbr Zh)) (Za (pv 1) (Za Zh Zm))))) (Zi (ZD (i:=4) XQ.nd rfl (Or.inl rfl) (ZW XX (hr.mono (by omega)) rfl ZF (Za (ZdF Zf3 (pv 0) (Zbr Zh) (Zbr Zh)) (Za (pv 1) (Za Zh Zm))))) (Zi (Ye (Zv YT (Zw Yj (pv 2) Zh) Zh (Zy _)) (Zq (ZD (i:=4) XQ.nd rfl (Or.inl rfl) (ZW XN (hr.mono (by omega)) rfl ZF (Za (pv 3) (Za (Zw Yx (pv 2) Zh) Zm))))) Zz) (Zi (ZD (i:=5) XQ.nd rfl (Or.inl rfl) (ZW YL (hr.mono (by omega)) rfl ZF (Za (pv 3) Zm))) (Zi (ZD (i:=6) XQ.nd rfl (Or.inl rfl) (ZW YL (hr.mono (by omega)) rfl ZF (Za (pv 4) Zm))) (Zi (ZD (i:=7) XQ.nd rfl (Or.inl rfl) (ZW Zas (hr.mono (by omega)) rfl ZF (Za (pv 5) (Za (pv 6) Zm)))) (Zi (Ye (Zv Zaz (pv 7) Xc (Zy _)) (Zi (Zay PassesOwn.never rfl (Zaw (Zw Zf7 (Xz (Za Zh (Za Zh (Za (pv 2) Zm)))) (ZdF Zf3 (pv 0) (Zbr Zh) (Zbr Zh)))) (Yw (i:=8) XQ.nd rfl (Or.inl rfl)) (Zi (ZD (i:=9) XQ.nd rfl (Or.inl rfl) (ZW Zad (hr.mono (by omega)) rfl ZF (Za (pv 8) (Za (pv 1) Zm)))) (Zq (Ye (PW.pt (ZdD (Zv Zl5 (ZW Xb (hr.mono (by omega)) rfl ZF (Za (pv 3) (Za (pv 9) Zm))) (ZW Xb (hr.mono (by omega)) rfl ZF (Za (pv 4) (Za (pv 9) Zm))) (Zy _)) (ZcF (Zv Zl5 (Zb5 (pv 5) ZaU (hr.mono (by omega)) ZF (Za (pv 9) Zm)) (Zb5 (pv 6) ZaU (hr.mono (by omega)) ZF (Za (pv 9) Zm)) (Zy _))))) (Zq (Zt ZhA)) Zz)))) (Zq (Zt (Zca Zaz (ZW Zas (hr.mono (by omega)) rfl ZF (Za (pv 6) (Za (pv 5) Zm))) Xc (Zy _))))) Zz) (Zi (Ye (PW.pt (ZdD (ZeY (ZbM (ZV YW (by rfl) T.z_isinstance YC (Za (pv 7) (Za (Zdn (v:=.ty "dict") rfl T.z_dict Zf9 rfl) Zm))))) (ZcF (Zv (Zjo hu3) (pv 7) ZdJ (Zy _))))) (Zq (Zt ZhA)) Zz) (Zi (Zjz (Zay PassesOwn.never rfl (ZkB (pv 7)) (Yw (i:=10) XQ.nd rfl (Or.inl rfl)) (Zq (Ye (PW.pt (ZdD (ZeY (ZbM (ZV YW (by rfl) T.z_isinstance YC (Za (pv 10) (Za (Zdn (v:=.ty "str") rfl T.z_str ZlB rfl) Zm))))) (ZdD (ZeY (ZbM (ZW Zbm (hr.mono (by omega)) rfl ZF (Za (Zcc hu (pv 7) (pv 10) (fun _ _=>rfl)) Zm)))) (ZcF (Zv Zep (Zcc hu (pv 7) (pv 10) (fun _ _=>rfl)) Zh (Zy _)))))) (Zq (Zt ZhA)) Zz)))) (Zi (Ye (PW.pt (ZdD (Zv YT (ZW Xb (hr.mono (by omega)) rfl ZF (Za (pv 3) (Za (pv 7) Zm))) (ZW Xb (hr.mono (by omega)) rfl ZF (Za (pv 4) (Za (pv 7) Zm))) (Zy _)) (ZcF (Zv YT (Zb5 (pv 5) ZaU (hr.mono (by omega)) ZF (Za (pv 7) Zm)) (Zb5 (pv 6) ZaU (hr.mono (by omega)) ZF (Za (pv 7) Zm)) (Zy _))))) (Zq (Zt ZhA)) Zz) (Zi (ZD (i:=11) XQ.nd rfl (Or.inl rfl) (Zbq Zcg (by rfl) T.z_dict Zf9 (Za (pv 7) Zm))) (Zi (Zdp hu (pv 7) Yu Zh rfl) (Zq (Zt (Zca (Zjo hu3) (ZW Zas (hr.mono (by omega)) rfl ZF (Za (pv 5) (Za (pv 6) Zm))) (pv 11) (Zy _)))))))))))))))))), ?_⟩
  refine⟨_,rfl,a,ns,0,rfl,hS,fun c0 H1 s1=> ?_⟩;refine⟨_,rfl,a,ns,1,rfl,s1.seq hS,fun c1 H2 s2=>⟨_,rfl, ?_⟩⟩;generalize (if c1<0 then-c1 else c1)=by_;have s02:=s1.trans s2;obtain⟨ms,em,lm⟩:=Ze9 ns (some 2) (some 22);refine⟨_,rfl,_,rfl,_,rfl,a,_,rfl,s02.seq hS,fun p hp=>⟨_,rfl,p,ms,c0,rfl,by rw[Zc,em],by omega,fun tp t H3 s3 tt hc _=> ?_⟩⟩;have s03:=s02.trans ((Zj hp).trans s3);obtain⟨ms2,em2,lm2⟩:=Ze9 ns (some 22) (some 42)
  refine⟨_,rfl,_,rfl,_,rfl,a,_,rfl,s03.seq hS,fun p2 hp2=>⟨_,rfl,p2,ms2,c0,rfl,by rw[Zc,em2],by omega,fun op u0 H4 s4 tu0 hu0 _=> ?_⟩⟩;have dp:=t.deep_cnt;have dp0:=u0.deep_cnt;have s04:=s03.trans ((Zj hp2).trans s4);have tt4:=tt.same ((Zj hp2).trans s4);refine(fun(rest:∀(op:Addr) (u:Tr) (Hx:Hp),Zx H4 Hx->Yv Hx u op->Fit u->u.cnt<=14->u.deep<=8->_)=>vI rfl (by show(0:Int)<2;decide) ⟨rfl,_,rfl,Jp (fun _=>⟨_,rfl,vI rfl ⟨by decide,by decide⟩ ⟨tp,t,_,rfl,tt4,by omega,hc,fun op u Hx sx tx _ fx cx dx=>rest op u Hx sx tx fx (by omega) (by omega)⟩⟩) (fun _=>rest op u0 H4 (Zx.refl H4) tu0 (ZP (by omega)) (by omega) (by omega))⟩) ?_
  clear dp0 tu0 hu0;intro op u H5 s5 tu fu hcu hdu;have s05:=s04.trans s5;have tt5:=tt4.same s5;refine⟨_,rfl,tp,t,rfl,tt5,by omega,fun m1 H6 s6 tm1=>⟨_,rfl,op,u,rfl,tu.same s6,by omega,fun m2 H7 s7 tm2=> ?_⟩⟩;have s07:=s05.trans (s6.trans s7);have tt7:=tt5.same (s6.trans s7);have tu7:=tu.same (s6.trans s7);have tm1:=tm1.same s7;have okt:okT t:=⟨ZP (by omega),by omega⟩
  have oku:okT u:=⟨fu,by omega⟩
  refine⟨_,rfl,_,rfl,m1,m2,t,u,rfl,tm1,tm2,by omega,by omega,okt,oku,fun Hx sx dz=>⟨_,rfl,rfl,_,rfl,Zdk rfl ?nn⟩,fun c l pf Hx hpf sx hx mc lo lf=>⟨_,rfl,rfl,_,rfl,YX (fun z=>nomatch z) ?ss⟩⟩
  case nn=>
   have s08:=s07.trans sx;obtain⟨ms3,em3,lm3⟩:=Ze9 ns (some 2) (some 32);refine⟨_,rfl,by show 3<=sizeLine;omega,fun p3 hp3=>⟨_,rfl,_,rfl,_,rfl,a,_,rfl,(s08.trans (Zj hp3)).seq hS,fun p4 hp4=>⟨p3,p4,[.int 0,.int 1,.int by_],ms3.map V.int,rfl,rfl,SqL.of ((Zj hp4) _ _ Zc),SqL.of (by rw[Zc,em3]), ?_,fun D hD=> ?_⟩⟩⟩
   ·rw[List.length_map];show 3+ms3.length<=sizeLine;omega
   have s8d:=(Zj (o:=.lst [.int 0,.int 1,.int by_]) hp3).trans ((Zj (o:=.lst (ZfZ (ns.map V.int) (some 2) (some 32))) hp4).trans (Zj (o:=.lst ([.int 0,.int 1,.int by_]++ms3.map V.int)) hD));generalize hH:upd (upd (upd Hx p3 (.lst [.int 0,.int 1,.int by_])) p4 (.lst (ZfZ (ns.map V.int) (some 2) (some 32)))) D (.lst ([.int 0,.int 1,.int by_]++ms3.map V.int))=Hd at s8d
   obtain⟨cl,ecl⟩:∃cl:List Int,[V.int 0,.int 1,.int by_]++ms3.map V.int=cl.map V.int:=⟨0::1::by_::ms3,rfl⟩
   have dD:Hd D=some (.lst (cl.map V.int)):=by rw[<-hH,Zc,ecl]
   have s7d:=sx.trans s8d;have ttd:=tt7.same s7d;have tud:=tu7.same s7d;have tm1d:=tm1.same s7d;have tm2d:=tm2.same s7d;refine⟨D,rfl,⟨_,SqL.of dD⟩,Zc9 (xs:=cl.map V.int) (fun i σ H'=>∃v8 v9,σ=[some (.ref a),some (.int c0),some (.int by_),some (.ref tp),some (.ref op),some (.ref m1),some (.ref m2),some .non,v8,v9,none,none]/\Zx Hd H') ⟨none,none,rfl,Zx.refl Hd⟩ (fun i σ H' _ ⟨_,_,_,sh⟩=>SqL.of (sh _ _ dD)) ?_ ?_⟩
   ·rintro i x σ H8 hx ⟨v8,v9,rfl,s8⟩;obtain⟨cc,rfl⟩:∃c,x=V.int c:=by
     rw[List.getElem?_map] at hx
     cases q:cl[i]? with
     |none=>rw[q] at hx;cases hx
     |some c=>rw[q] at hx;cases hx;exact⟨c,rfl⟩
    refine⟨_,rfl,_,rfl,_,_,rfl,fun l pl H9 nl ll hpl s9 dl=> ?_⟩;have s89:=s8.trans s9;refine⟨_,rfl,_,rfl,tp,pl,t,l,rfl,ttd.same s89,by omega,.inl dl,fun H10 s10=>⟨_,rfl,_,rfl,op,pl,u,l,rfl,tud.same (s89.trans s10),by omega,.inl (s10 _ _ dl),fun H11 s11=> ?_⟩⟩;rw[ZhY dz l];refine⟨ZfM _ _,_,rfl,Zla rfl ?_⟩;have s811:=s89.trans (s10.trans s11);have dl11:=s11 _ _ (s10 _ _ dl);obtain⟨dx,fs,ii,lk0⟩:=Jh (tm1d.same s811)
    refine⟨_,rfl,m1,_,dx,fs,rfl,ii,Zbk t,lk0 _ n1 n2 n3 n4,_,rfl,m1,pl,t,l,rfl,tm1d.same s811,by omega,rfl,.inl dl11,fun H12 s12=> ?_⟩;have s812:=s811.trans s12;obtain⟨dx,fs,ii,lk0⟩:=Jh (tm2d.same s812);refine⟨_,rfl,m2,_,dx,fs,rfl,ii,Zbk u,lk0 _ n1 n2 n3 n4,_,rfl,m2,pl,u,l,rfl,tm2d.same s812,by omega,rfl,.inl (s12 _ _ dl11),fun H13 s13=> ?_⟩;rw[ZhY dz l];exact⟨ZfM _ _,_,rfl,Zla rfl ⟨_,_,rfl,s812.trans s13⟩⟩
   ·rintro σ H8 ⟨v8,v9,rfl,s8⟩;refine⟨_,rfl,_,rfl,m2,m1,u,t,rfl,tm2d.same s8,tm1d.same s8,by omega,by omega,oku,okt,fun Hy sy _=>⟨rfl,fin _⟩,fun c l pf Hy hpf sy hy mc lo lf=> ?_⟩;rw[ZiH dz] at mc
    cases mc
  case ss=>
   obtain⟨ndl,nel,pos⟩:=ZeS lf (Zaq mc).1;have ln:l.length<=31:=by
    have z:=(Zaq mc).2;have e:=Zke lf;omega
   have nfz:∀o u,H pf≠some (.frz o u):=fun o u z=>by
    have y:=s07 _ _ z;rw[hpf] at y
    cases y
   refine⟨_,rfl,_,_,_,_,true,rfl,rfl,ZaV.dK hx,T.kdd,_,rfl,Xl ⟨_,rfl,fun D hD=>⟨1,.dct (kk l),.dct [],by decide,rfl,.dct (.inl (Zj hD _ _ hx)) (Zcj l),.dct (.inl Zc) (fun kv hk=>nomatch hk),rfl,_,rfl, ?_⟩⟩⟩;have ef:Yy 1 (.dct (kk l)) (.dct [])=false:=by
    show dEq (kk l) []=false;unfold dEq;have:((kk l).length==([]:List (Key×V)).length)=false:=by
     rw[Yb];exact beq_false_of_ne (fun z=>nel (List.eq_nil_of_length_eq_zero z))
    rw[this]
    rfl
   rw[ef];refine Xl ?_;have s8:=sx.trans (Zj (o:=.dK []) hD);have g3:=Zj (o:=.dK []) hD _ _ hx;generalize upd Hx D (.dK [])=H8 at s8 g3
   refine⟨_,rfl,pf,_,rfl,g3,fun o=>Zh2 (J:=Itk pf o (kk l)) (n:=l.length) (fun j σ H'=>∃v10,σ=[some (.ref a),some (.int c0),some (.int by_),some (.ref tp),some (.ref op),some (.ref m1),some (.ref m2),some (.ref pf),none,none,v10,none]/\ZbI pf (kk l) H8 H'/\H' pf=some (.frz o (.dK (kk l)))) ?_ ?_ ?_ ?_⟩
   ·exact⟨_,rfl,⟨fun b' u n e=>by rw[Zf n];exact e,o,Zc⟩,Zc⟩
   ·rintro j σ H9 hj ⟨v10,rfl,f1,g1⟩;exact⟨g1,by rw[Yb];exact hj⟩
   ·rintro σ H9 ⟨v10,rfl,f1,g1⟩;obtain⟨t1,t2⟩:=f1.thaw g3 nfz;refine⟨⟨g1,by rw[Yb];exact Nat.le_refl _⟩,pf,_,t1, ?_⟩
    have s9:=s8.trans t2;have d9:=t2 _ _ g3;generalize upd H9 pf (.dK (kk l))=H10 at s9 d9
    have pd:=ZeR mc lo lf;have ne:¬oV (t.due l)=oV (u.due l):=fun z=>pd (Zm2 z);refine⟨_,rfl,_,rfl,tp,pf,t,l,rfl,tt7.same s9,by omega,.inl d9,fun H11 s11=>⟨_,rfl,_,rfl,op,pf,u,l,rfl,tu7.same (s9.trans s11),by omega,.inl (s11 _ _ d9),fun H12 s12=>⟨ZfM _ _,_,rfl,YX ne ?_⟩⟩⟩;have s912:=s9.trans (s11.trans s12);have d12:=s12 _ _ (s11 _ _ d9);obtain⟨dx,fs,ii,lk0⟩:=Jh (tm1.same s912);refine⟨_,rfl,m1,_,dx,fs,rfl,ii,Zbk t,lk0 _ n1 n2 n3 n4,_,rfl,m1,pf,t,l,rfl,tm1.same s912,by omega,rfl,.inl d12,fun H13 s13=> ?_⟩
    have s913:=s912.trans s13;obtain⟨dx,fs,ii,lk0⟩:=Jh (tm2.same s913);refine⟨_,rfl,m2,_,dx,fs,rfl,ii,Zbk u,lk0 _ n1 n2 n3 n4,_,rfl,m2,pf,u,l,rfl,tm2.same s913,by omega,rfl,.inl (s13 _ _ d12),fun H14 s14=>⟨ZfM _ _,_,rfl,YX ne ?_⟩⟩;have s914:=s913.trans s14;have d14:=s14 _ _ (s13 _ _ d12);refine⟨_,rfl,pf,_,rfl,.inl d14,fun ph hph=> ?_⟩;have s15:=Zj (o:=.dK (kk l)) hph;have d15:=s15 _ _ d14;have h15:upd H14 ph (.dK (kk l)) ph=some (.dK (kk l)):=Zc
    have nph:ph≠pf:=fun z=>by rw[z,d14] at hph;cases hph
    generalize upd H14 ph (.dK (kk l))=H15 at s15 d15 h15
    have s915:=s914.trans s15;refine⟨_,rfl,pf,_,rfl,Zg2.k (k:=Sum.inr "more") d15 (by rw[Yb];omega), ?_⟩
    have ki:∀(o:HO) (b C dx:Addr) (fs:List (Str×V)),H15 b=some (.ins C dx fs)->upd H15 pf o b=some (.ins C dx fs):=fun o b C dx fs e=>by
     rw[Zf (fun z=>by rw[z,d15] at e;cases e)]
     exact e
    refine⟨_,rfl,_,rfl,m1,m2,t,u,rfl,(tm1.same s915).ins (ki _),(tm2.same s915).ins (ki _),by omega,by omega,okt,oku,fun Hy sy dz=> ?_,fun c' l' pf' Hy hpf' sy hy mc' lo' lf'=> ?_⟩
    ·rw[dz] at mc
     cases mc
    ·obtain rfl:=Zm1 mc mc' lo lo';have hh:=sy _ _ (show upd H15 pf _ ph=some (.dK (kk l)) by rw[Zf nph];exact h15)
     refine⟨_,rfl,1,.dct (kk l'),.dct (kk l),by decide,rfl,.dct (.inl hy) (Zcj l'),.dct (.inl hh) (Zcj l),rfl, ?_⟩;have ee:Yy 1 (.dct (kk l')) (.dct (kk l))=true:=ZgC (ZeS lf' (Zaq mc').1).1 ndl (Zkd lf' lf);rw[ee];exact fin _
   ·rintro j x σ H9 H10 hj ⟨v10,rfl,f1,g1⟩ ⟨e6,kv,e7,e8⟩;subst e6 e8;obtain⟨pr,e9,e10⟩:=Zk4 e7;subst e10;have pm:=List.mem_of_getElem? e9;have hs:=Zd0 f1.rd pr.1;rw[XR ndl pm] at hs
    refine⟨_,rfl,_,_,_,_,true,rfl,rfl,ZaV.str _,T.kss,_,rfl,Xl ⟨_,rfl,_,rfl,pf,_,rfl,hs,pr.2,rfl,fun H11 s11=>⟨_,rfl,Xl ?_⟩⟩⟩;have f2:ZbI pf (kk l) H8 H11:=⟨fun b' u n e=>s11 _ _ (f1.1 b' u n e),o,s11 _ _ g1⟩
    have hs2:=Zd0 f2.rd pr.1;rw[XR ndl pm] at hs2
    have pp:=pos pr pm;refine⟨_,rfl,_,rfl,pf,_,rfl,hs2,_,_,rfl,rfl,_,rfl, ?_⟩;show if decide (pr.2<0)=true then _ else _;rw[decide_eq_false (by omega)];exact Xl ⟨_,rfl,f2,s11 _ _ g1⟩
end
def Gd(K:PySem.W.Frag)(x:Str)(st:Stmt):Prop:=∃A fd,PySem.W.nsIn K mainGlobals x=some (some (.ref A))/\Fun K x x st A fd
def Md(K:PySem.W.Frag)(C:Addr)(x q:Str)(st:Stmt):Prop:=∃A fd,PySem.W.findIn K (.ref C) x=some (some (.ref A))/\PySem.W.isFn K (.ref A)=true/\Fun K x q st A fd
theorem all_mk{l:PySem.W.OpenLaw}{w:World}{K:PySem.W.Frag}{h:Heap}{mg:Str->Option Value}{fa:Addr}{A_law:Addr}{oc_law kV_law dc_law pm_law cd_law ct_law:Value}{od_law an_law:Option Addr}{sl_law:Array (Option Value)}{Zk:Addr}{Zd:Addr}{Ze:Addr}{Zb:Addr}{t_MOST_CLAUSES:Tok}
  (X:K.In h)(G:h.Ns mainGlobals mg)(hfa:mg "law"=some (.ref fa))
  (Z0e:Gd K "never" Zfo)
  (Z0f:Gd K "after" Zfp)
  (Z0g:Gd K "later" Zfq)
  (J7:Gd K "earlier" ZcQ)
  (X4:Gd K "is_below" ZbR)
  (X5:Gd K "place_of" ZbS)
  (Z09:Gd K "least" Zfr)
  (J8:Gd K "thinned" ZcR)
  (Y0:Gd K "all_joined" ZaJ)
  (Z08:Gd K "joined" ZdX)
  (J9:Gd K "parting" ZcS)
  (Z00:Gd K "only_in" ZcT)
  (Z01:Gd K "life_of" ZcU)
  (Z3:Gd K "_law_cell_at" Za5)
  (Y9:Gd K "_law_whole" Zbd)
  (Z4:Gd K "_law_name_by" Za6)
  (Z0:Gd K "_law_length_by" Js)
  (Z5:Gd K "_law_tree_by" Za7)
  (Y6:Gd K "_law_made" ZbT)
  (X3:Gd K "_law_due" ZcV)
  (Z6:Gd K "_law_life_by" Za8)
  (Y7:Gd K "_law_bent" ZbU)
  (Z0I:PySem.W.nsIn K mainGlobals "law"=some (some (.ref A_law)))
  (l_law:K.lookup A_law=some ⟨oc_law,od_law,.func (PySem.W.fnOf "law" "law" (Zbt Zcv) (ZaB Zcv) (Zu Zcv) .none kV_law dc_law pm_law an_law cd_law ct_law),sl_law⟩)
  (cd_law':PySem.W.codeIn K cd_law "law"=true)
  (k_law:PySem.W.keepIn K (.ref A_law)=true)
  (Z0v:PySem.W.nsIn K mainGlobals "Never"=some (some (.ref Zk)))
  (Z0h:PySem.W.nsIn K mainGlobals "After"=some (some (.ref Zd)))
  (Z0i:PySem.W.nsIn K mainGlobals "Later"=some (some (.ref Ze)))
  (Z02:PySem.W.nsIn K mainGlobals "Earlier"=some (some (.ref Zb)))
  (Z0j:PySem.W.plainGet K Zk Str.empty=true)
  (Z0k:PySem.W.hasDictIn K Zk=true)
  (Z0l:PySem.W.plainOver K Zk=true)
  (Z0m:PySem.W.findIn K (.ref Zk) "__setattr__"=some (some (.builtin "object.__setattr__")))
  (Z0w:PySem.W.makesIn K Zk=true)
  (Z0x:PySem.W.keepIn K (.ref Zk)=true)
  (in_Never:PySem.W.findIn K (.ref Zk) "__init__"=some (some (.builtin "object.__init__")))
  (Z0y:PySem.W.findIn K (.ref Zk) "__class__"=some (some (.builtin "object.__class__")))
  (Z0z:PySem.W.mroIn K Zk (.type "object")=some true)
  (Z0n:PySem.W.plainGet K Zd Str.empty=true)
  (Z0o:PySem.W.hasDictIn K Zd=true)
  (Z0p:PySem.W.plainOver K Zd=true)
  (Z0q:PySem.W.findIn K (.ref Zd) "__setattr__"=some (some (.builtin "object.__setattr__")))
  (Z0A:PySem.W.makesIn K Zd=true)
  (Z0B:PySem.W.keepIn K (.ref Zd)=true)
  (Y4:Md K Zd "__init__" "After.__init__" ZaK)
  (X8:PySem.W.findIn K (.ref Zd) "kind"=some none)
  (J6:PySem.W.findIn K (.ref Zd) "days"=some none)
  (Z0C:PySem.W.findIn K (.ref Zd) "__class__"=some (some (.builtin "object.__class__")))
  (Z0D:PySem.W.mroIn K Zd (.type "object")=some true)
  (Z0r:PySem.W.plainGet K Ze Str.empty=true)
  (Z0s:PySem.W.hasDictIn K Ze=true)
  (Z0t:PySem.W.plainOver K Ze=true)
  (Z0u:PySem.W.findIn K (.ref Ze) "__setattr__"=some (some (.builtin "object.__setattr__")))
  (Z0E:PySem.W.makesIn K Ze=true)
  (Z0F:PySem.W.keepIn K (.ref Ze)=true)
  (Y5:Md K Ze "__init__" "Pair.__init__" Za0)
  (Z03:PySem.W.findIn K (.ref Ze) "one"=some none)
  (X6:PySem.W.findIn K (.ref Ze) "other"=some none)
  (Z0G:PySem.W.findIn K (.ref Ze) "__class__"=some (some (.builtin "object.__class__")))
  (Z0H:PySem.W.mroIn K Ze (.type "object")=some true)
  (Z04:PySem.W.plainGet K Zb Str.empty=true)
  (Z05:PySem.W.hasDictIn K Zb=true)
  (Z06:PySem.W.plainOver K Zb=true)
  (Z07:PySem.W.findIn K (.ref Zb) "__setattr__"=some (some (.builtin "object.__setattr__")))
  (Z0a:PySem.W.makesIn K Zb=true)
  (Z0b:PySem.W.keepIn K (.ref Zb)=true)
  (Z2:Md K Zb "__init__" "Pair.__init__" Za0)
  (X7:PySem.W.findIn K (.ref Zb) "one"=some none)
  (Y8:PySem.W.findIn K (.ref Zb) "other"=some none)
  (Z0c:PySem.W.findIn K (.ref Zb) "__class__"=some (some (.builtin "object.__class__")))
  (Z0d:PySem.W.mroIn K Zb (.type "object")=some true)
  (hn:PySem.W.specialIn K (.builtin "object.__class__") "__get__"=some (some (.builtin "getset_descriptor.__get__")))
  (htk:PySem.W.takesIn K (.builtin "object.__class__")=some true)
  (Z7:Md K Zk "due" "Never.due" Zbe)
  (Z8:Md K Zd "due" "After.due" Zbf)
  (Z9:Md K Ze "due" "Later.due" Zbg)
  (Z1:Md K Zb "due" "Earlier.due" Za9)
  (g_MOST_CLAUSES:PySem.W.nsIn K mainGlobals "MOST_CLAUSES"=some (some (.int 40 t_MOST_CLAUSES)))
  (f_k_Never_After:PySem.W.kitOne K (.ref Zk) (.ref Zd)=some false)
  (f_k_Never_Earlier:PySem.W.kitOne K (.ref Zk) (.ref Zb)=some false)
  (f_k_Never_Later:PySem.W.kitOne K (.ref Zk) (.ref Ze)=some false)
  (f_k_After_After:PySem.W.kitOne K (.ref Zd) (.ref Zd)=some true)
  (f_k_After_Earlier:PySem.W.kitOne K (.ref Zd) (.ref Zb)=some false)
  (f_k_After_Later:PySem.W.kitOne K (.ref Zd) (.ref Ze)=some false)
  (f_k_Later_After:PySem.W.kitOne K (.ref Ze) (.ref Zd)=some false)
  (f_k_Later_Earlier:PySem.W.kitOne K (.ref Ze) (.ref Zb)=some false)
  (f_k_Later_Later:PySem.W.kitOne K (.ref Ze) (.ref Ze)=some true)
  (f_k_Earlier_After:PySem.W.kitOne K (.ref Zb) (.ref Zd)=some false)
  (f_k_Earlier_Earlier:PySem.W.kitOne K (.ref Zb) (.ref Zb)=some true)
  (f_k_Earlier_Later:PySem.W.kitOne K (.ref Zb) (.ref Ze)=some false)
  (z_abs:PySem.W.nsIn K mainGlobals "abs"=some none)
  (z_all:PySem.W.nsIn K mainGlobals "all"=some none)
  (z_any:PySem.W.nsIn K mainGlobals "any"=some none)
  (z_bool:PySem.W.nsIn K mainGlobals "bool"=some none)
  (z_dict:PySem.W.nsIn K mainGlobals "dict"=some none)
  (z_int:PySem.W.nsIn K mainGlobals "int"=some none)
  (z_isinstance:PySem.W.nsIn K mainGlobals "isinstance"=some none)
  (z_len:PySem.W.nsIn K mainGlobals "len"=some none)
  (z_max:PySem.W.nsIn K mainGlobals "max"=some none)
  (z_min:PySem.W.nsIn K mainGlobals "min"=some none)
  (z_range:PySem.W.nsIn K mainGlobals "range"=some none)
  (z_sorted:PySem.W.nsIn K mainGlobals "sorted"=some none)
  (z_str:PySem.W.nsIn K mainGlobals "str"=some none)
  (kib:PySem.W.kitOne K (.type "int") (.type "bool")=some false)
  (kii:PySem.W.kitOne K (.type "int") (.type "int")=some true)
  (kdd:PySem.W.kitOne K (.type "dict") (.type "dict")=some true)
  (kss:PySem.W.kitOne K (.type "str") (.type "str")=some true)
  (ne_Never_After:Zk≠Zd)
  (ne_Never_Later:Zk≠Ze)
  (ne_Never_Earlier:Zk≠Zb)
  (ne_After_Later:Zd≠Ze)
  (ne_After_Earlier:Zd≠Zb)
  (ne_Later_Earlier:Ze≠Zb)
  :∃fd:FuncData,(∀(s:Shared) (v:Value),BindsTo s fd ⟨[v],[]⟩ [("_law_script",v)])/\∀base:Heap,K.In base->base.Ns mainGlobals mg->Yq l.prog w K mg base CX0 25 fa fd ["_law_script"] (Zje K):=by
 have e:=hfa.symm.trans (PySem.W.mg_of X G Z0I);cases e;have T:Txt K mg t_MOST_CLAUSES Zk Zd Ze Zb:=⟨PySem.W.mg_of X G g_MOST_CLAUSES,PySem.W.mg_none_of X G z_abs,PySem.W.mg_none_of X G z_all,PySem.W.mg_none_of X G z_any,PySem.W.mg_none_of X G z_bool,PySem.W.mg_none_of X G z_dict,PySem.W.mg_none_of X G z_int,PySem.W.mg_none_of X G z_isinstance,PySem.W.mg_none_of X G z_len,PySem.W.mg_none_of X G z_max,PySem.W.mg_none_of X G z_min,PySem.W.mg_none_of X G z_range,PySem.W.mg_none_of X G z_sorted,PySem.W.mg_none_of X G z_str,kib,kii,kdd,kss,⟨Z0j,Z0k,Z0l,Z0m⟩,⟨⟨Z0j,Z0k,Z0l,Z0m⟩,Z0y,hn,htk,Z0z⟩,⟨Z0n,Z0o,Z0p,Z0q⟩,X8,J6,⟨⟨Z0n,Z0o,Z0p,Z0q⟩,Z0C,hn,htk,Z0D⟩,⟨Z0r,Z0s,Z0t,Z0u⟩,Z03,X6,⟨⟨Z0r,Z0s,Z0t,Z0u⟩,Z0G,hn,htk,Z0H⟩,⟨Z04,Z05,Z06,Z07⟩,X7,Y8,⟨⟨Z04,Z05,Z06,Z07⟩,Z0c,hn,htk,Z0d⟩,PySem.W.mg_of X G Z0h,PySem.W.mg_of X G Z02,PySem.W.mg_of X G Z0i,f_k_Never_After,f_k_Never_Earlier,f_k_Never_Later,f_k_After_After,f_k_After_Earlier,f_k_After_Later,f_k_Later_After,f_k_Later_Earlier,f_k_Later_Later,f_k_Earlier_After,f_k_Earlier_Earlier,f_k_Earlier_Later,ne_Never_After,ne_Never_Later,ne_Never_Earlier,ne_After_Later,ne_After_Earlier,ne_Later_Earlier⟩
 have ZmL:=ZgU (st:=Zcv) l_law cd_law' k_law;obtain⟨_,_,Z0e,ZfN⟩:=Z0e;obtain⟨_,_,Z0f,ZfO⟩:=Z0f;obtain⟨_,_,Z0g,ZfP⟩:=Z0g;obtain⟨_,_,J7,Zd6⟩:=J7;obtain⟨_,_,X4,Zc5⟩:=X4;obtain⟨_,_,X5,Zc6⟩:=X5;obtain⟨_,_,Z09,ZcB⟩:=Z09;obtain⟨_,_,J8,Zd7⟩:=J8;obtain⟨_,_,Y0,ZaS⟩:=Y0;obtain⟨_,_,Z08,Zea⟩:=Z08;obtain⟨_,_,J9,Zd8⟩:=J9;obtain⟨_,_,Z00,Zd9⟩:=Z00;obtain⟨_,_,Z01,Zda⟩:=Z01;obtain⟨_,_,Z3,Zae⟩:=Z3;obtain⟨_,_,Y9,Zbn⟩:=Y9
 obtain⟨_,_,Z4,Zaf⟩:=Z4;obtain⟨_,_,Z0,Ju⟩:=Z0;obtain⟨_,_,Z5,Zag⟩:=Z5;obtain⟨_,_,Y6,JV⟩:=Y6;obtain⟨_,_,X3,Zat⟩:=X3;obtain⟨_,_,Z6,Zah⟩:=Z6;obtain⟨_,_,Y7,JW⟩:=Y7;obtain⟨_,_,Y4,ZfQ,ZcC⟩:=Y4;obtain⟨_,_,Y5,ZfR,ZcD⟩:=Y5;obtain⟨_,_,Z2,Zeb,Zbo⟩:=Z2;obtain⟨_,_,Z7,Zdd,Jj⟩:=Z7;obtain⟨_,_,Z8,Zde,Jk⟩:=Z8;obtain⟨_,_,Z9,Zdf,Jl⟩:=Z9;obtain⟨_,_,Z1,ZbL,Xi⟩:=Z1;refine⟨PySem.W.fnOf "law" "law" (Zbt Zcv) (ZaB Zcv) (Zu Zcv) .none kV_law dc_law pm_law an_law cd_law ct_law,fun s v=> .of_eq rfl,fun base Kb _=> ?_⟩
 have Zfz:ZlK K mg "Never" Zk:=⟨PySem.W.mg_of X G Z0v,Z0w,in_Never,Z0x⟩
 have ZfE:Cal l.prog w K mg base CX0 1 "never" [] (ZdY Zk Zd Ze Zb):=⟨_,_,PySem.W.mg_of X G Z0e,ZfN.kp,ZfN.binds (fun _ _ _ _ _ _=>Zn9 rfl),ZjT ZfN T Zfz⟩
 have ZfA:Zh7 l.prog w K mg base CX0 1 "After" Zd ["self","kind","days"] (Zaa Zd):=⟨_,_,PySem.W.mg_of X G Z0h,⟨Z0A,Y4,ZfQ,Z0B⟩,ZcC.binds (fun _ _ _ _ _ _=>ZkG fun _ _ _=>rfl),Zem ZcC T T.cl_After T.n_After_kind T.n_After_days⟩
 have ZfC:Cal l.prog w K mg base CX0 3 "after" ["kind","days"] (ZdZ Zk Zd Ze Zb):=⟨_,_,PySem.W.mg_of X G Z0f,ZfO.kp,ZfO.binds (fun _ _ _ _ _ _=>Jc fun _ _=>rfl),ZjV ZfO T ZfA⟩
 have ZfB:Zh7 l.prog w K mg base CX0 1 "Later" Ze ["self","one","other"] (Xx Ze):=⟨_,_,PySem.W.mg_of X G Z0i,⟨Z0E,Y5,ZfR,Z0F⟩,ZcD.binds (fun _ _ _ _ _ _=>ZkG fun _ _ _=>rfl),ZcA ZcD T T.cl_Later T.n_Later_one T.n_Later_other⟩
 have ZfD:Cal l.prog w K mg base CX0 3 "later" ["one","other"] (Ze0 Zk Zd Ze Zb):=⟨_,_,PySem.W.mg_of X G Z0g,ZfP.kp,ZfP.binds (fun _ _ _ _ _ _=>Jc fun _ _=>rfl),ZjX ZfP T ZfB⟩
 have Zd1:Zh7 l.prog w K mg base CX0 1 "Earlier" Zb ["self","one","other"] (Xx Zb):=⟨_,_,PySem.W.mg_of X G Z02,⟨Z0a,Z2,Zeb,Z0b⟩,Zbo.binds (fun _ _ _ _ _ _=>ZkG fun _ _ _=>rfl),ZcA Zbo T T.cl_Earlier T.n_Earlier_one T.n_Earlier_other⟩
 have Zd2:Cal l.prog w K mg base CX0 3 "earlier" ["one","other"] (ZbW Zk Zd Ze Zb):=⟨_,_,PySem.W.mg_of X G J7,Zd6.kp,Zd6.binds (fun _ _ _ _ _ _=>Jc fun _ _=>rfl),Zhs Zd6 T Zd1⟩
 have Zc4:Cal l.prog w K mg base CX0 1 "is_below" ["one","other"] Zbi:=⟨_,_,PySem.W.mg_of X G X4,Zc5.kp,Zc5.binds (fun _ _ _ _ _ _=>Jc fun _ _=>rfl),Zgw Zc5 T⟩
 have XM:Cal l.prog w K mg base CX0 1 "place_of" ["clause"] (Xn K):=⟨_,_,PySem.W.mg_of X G X5,Zc6.kp,Zc6.binds (fun _ _ _ _ _ _=>Zfc fun _=>rfl),ZgA Zc6 T⟩
 have Ze8:Cal l.prog w K mg base CX0 1 "joined" ["one","other"] ZcZ:=⟨_,_,PySem.W.mg_of X G Z08,Zea.kp,Zea.binds (fun _ _ _ _ _ _=>Jc fun _ _=>rfl),ZiG Zea T⟩
 have ZaQ:Cal l.prog w K mg base CX0 2 "all_joined" ["ones","others"] Zab:=⟨_,_,PySem.W.mg_of X G Y0,ZaS.kp,ZaS.binds (fun _ _ _ _ _ _=>Jc fun _ _=>rfl),Zen ZaS T Ze8⟩
 have ZbD:Cal l.prog w K mg base CX0 4 "thinned" ["clauses"] ZbX:=⟨_,_,PySem.W.mg_of X G J8,Zd7.kp,Zd7.binds (fun _ _ _ _ _ _=>Zfc fun _=>rfl),Zhu Zd7 T Zc4 XM⟩
 have Jy:∀n,Cal l.prog w K mg base CX0 (4+n+1) "least" ["term"] (Zbj Zk Zd Ze Zb n):=fun n=>by
  induction n with
  |zero=>exact⟨_,_,PySem.W.mg_of X G Z09,ZcB.kp,ZcB.binds (fun _ _ _ _ _ _=>Zfc fun _=>rfl),JZ Zhq⟩
  |succ n ih=>exact⟨_,_,PySem.W.mg_of X G Z09,ZcB.kp,ZcB.binds (fun _ _ _ _ _ _=>Zfc fun _=>rfl),Zkc ZcB T n ZaQ ih ZbD⟩
 have Zd5:Cal l.prog w K mg base CX0 1 "life_of" ["clause"] ZbZ:=⟨_,_,PySem.W.mg_of X G Z01,Zda.kp,Zda.binds (fun _ _ _ _ _ _=>Zfc fun _=>rfl),Zhx Zda T⟩
 have ZbE:Cal l.prog w K mg base CX0 1 "only_in" ["ones","others"] ZbY:=⟨_,_,PySem.W.mg_of X G Z00,Zd9.kp,Zd9.binds (fun _ _ _ _ _ _=>Jc fun _ _=>rfl),Zhw Zd9 T⟩
 have Zas:Cal l.prog w K mg base CX0 24 "parting" ["one","other"] (Zc0 Zk Zd Ze Zb):=⟨_,_,PySem.W.mg_of X G J9,Zd8.kp,Zd8.binds (fun _ _ _ _ _ _=>Jc fun _ _=>rfl),Zhz Zd8 T XM (Jy 18) Zd5 ZbE⟩
 have XS:Cal l.prog w K mg base CX0 1 "_law_cell_at" ["_law_script","_law_k"] (JR K):=⟨_,_,PySem.W.mg_of X G Z3,Zae.kp,Zae.binds (fun _ _ _ _ _ _=>Jc fun _ _=>rfl),Ze4 Zae T⟩
 have Zbm:Cal l.prog w K mg base CX0 1 "_law_whole" ["_law_found"] ZaL:=⟨_,_,PySem.W.mg_of X G Y9,Zbn.kp,Zbn.binds (fun _ _ _ _ _ _=>Zfc fun _=>rfl),Zfv Zbn T⟩
 have YQ:Cal l.prog w K mg base CX0 1 "_law_name_by" ["_law_cell","_law_k"] Xv:=⟨_,_,PySem.W.mg_of X G Z4,Zaf.kp,Zaf.binds (fun _ _ _ _ _ _=>Jc fun _ _=>rfl),Ze1 Zaf T⟩
 have Jt:Cal l.prog w K mg base CX0 1 "_law_length_by" ["_law_cell"] XJ:=⟨_,_,PySem.W.mg_of X G Z0,Ju.kp,Ju.binds (fun _ _ _ _ _ _=>Zfc fun _=>rfl),Zd3 Ju T⟩
 have XX:Cal l.prog w K mg base CX0 2 "_law_tree_by" ["_law_cells","_law_names_by","_law_most"] JQ:=⟨_,_,PySem.W.mg_of X G Z5,Zag.kp,Zag.binds (fun _ _ _ _ _ _=>ZkG fun _ _ _=>rfl),Ze6 Zag T Jt YQ⟩
 have YL:∀n,Cal l.prog w K mg base CX0 (3+n+1) "_law_made" ["_law_tree"] (Je Zk Zd Ze Zb n):=fun n=>by
  induction n with
  |zero=>exact⟨_,_,PySem.W.mg_of X G Y6,JV.kp,JV.binds (fun _ _ _ _ _ _=>Zfc fun _=>rfl),JZ Zei⟩
  |succ n ih=>exact⟨_,_,PySem.W.mg_of X G Y6,JV.kp,JV.binds (fun _ _ _ _ _ _=>Zfc fun _=>rfl),Zgt JV T n ih ZfC Zd2 ZfD ZfE⟩
 have Xb:∀n,Cal l.prog w K mg base CX0 (0+n+1) "_law_due" ["_law_tree","_law_life"] (JP n):=fun n=>by
  induction n with
  |zero=>exact⟨_,_,PySem.W.mg_of X G X3,Zat.kp,Zat.binds (fun _ _ _ _ _ _=>Jc fun _ _=>rfl),JZ Zfs⟩
  |succ n ih=>exact⟨_,_,PySem.W.mg_of X G X3,Zat.kp,Zat.binds (fun _ _ _ _ _ _=>Jc fun _ _=>rfl),Zht Zat T n ih⟩
 have Zad:Cal l.prog w K mg base CX0 2 "_law_life_by" ["_law_cell","_law_names_by"] JN:=⟨_,_,PySem.W.mg_of X G Z6,Zah.kp,Zah.binds (fun _ _ _ _ _ _=>Jc fun _ _=>rfl),Ze2 Zah T YQ⟩
 have XN:∀n,Cal l.prog w K mg base CX0 (0+n+1) "_law_bent" ["_law_tree","_law_by"] (Jg n):=fun n=>by
  induction n with
  |zero=>exact⟨_,_,PySem.W.mg_of X G Y7,JW.kp,JW.binds (fun _ _ _ _ _ _=>Jc fun _ _=>rfl),JZ Zek⟩
  |succ n ih=>exact⟨_,_,PySem.W.mg_of X G Y7,JW.kp,JW.binds (fun _ _ _ _ _ _=>Jc fun _ _=>rfl),ZgF JW T n ih⟩
 have ZaU:∀n,Zjq l.prog w K mg base CX0 (0+n+1) "due" ["self","life"] (ZaM Zk Zd Ze Zb n) (fun C=>C=Zk\/C=Zd\/C=Ze\/C=Zb):=fun n=>by
  induction n with
  |zero=>
   refine⟨fun C hC=> ?_⟩;rcases hC with hC|hC|hC|hC
   ·cases hC.symm;exact⟨T.cl_Never,_,_,⟨Z7,Zdd,Jj.kp⟩,Jj.binds (fun _ _ _ _ _ _=>Jc fun _ _=>rfl),JZ Zcw⟩
   ·cases hC.symm;exact⟨T.cl_After,_,_,⟨Z8,Zde,Jk.kp⟩,Jk.binds (fun _ _ _ _ _ _=>Jc fun _ _=>rfl),JZ Zcw⟩
   ·cases hC.symm;exact⟨T.cl_Later,_,_,⟨Z9,Zdf,Jl.kp⟩,Jl.binds (fun _ _ _ _ _ _=>Jc fun _ _=>rfl),JZ Zcw⟩
   ·cases hC.symm;exact⟨T.cl_Earlier,_,_,⟨Z1,ZbL,Xi.kp⟩,Xi.binds (fun _ _ _ _ _ _=>Jc fun _ _=>rfl),JZ Zcw⟩
  |succ n ih=>
   refine⟨fun C hC=> ?_⟩;rcases hC with hC|hC|hC|hC
   ·cases hC.symm;exact⟨T.cl_Never,_,_,⟨Z7,Zdd,Jj.kp⟩,Jj.binds (fun _ _ _ _ _ _=>Jc fun _ _=>rfl),ZfG Jj T n⟩
   ·cases hC.symm;exact⟨T.cl_After,_,_,⟨Z8,Zde,Jk.kp⟩,Jk.binds (fun _ _ _ _ _ _=>Jc fun _ _=>rfl),ZfI Jk T n⟩
   ·cases hC.symm;exact⟨T.cl_Later,_,_,⟨Z9,Zdf,Jl.kp⟩,Jl.binds (fun _ _ _ _ _ _=>Jc fun _ _=>rfl),ZfJ Jl T n ih⟩
   ·cases hC.symm;exact⟨T.cl_Earlier,_,_,⟨Z1,ZbL,Xi.kp⟩,Xi.binds (fun _ _ _ _ _ _=>Jc fun _ _=>rfl),Ze7 Xi T n ih⟩
 exact Zm3 ZmL T (XN 18) XS (Xb 18) Zad (YL 18) XX Zbm (ZaU 18) Zas
end K15
namespace PySem.W.Fast
theorem tw7747536606854311008:0=0:=rfl
theorem tw6638757682718069056:0=0:=rfl
theorem tw2585519031514921312:0=0:=rfl
theorem tw2258511906020687200:0=0:=rfl
theorem tw10441473608620860928:0=0:=rfl
theorem tw3224009052921357984:0=0:=rfl
theorem tw3270968537003857600:0=0:=rfl
theorem tw3369726298665056096:0=0:=rfl
theorem tw11243856509725353888:0=0:=rfl
theorem tw2071115878402681792:0=0:=rfl
theorem tw12542846337079088257:0=0:=rfl
theorem tw13240814264738631841:0=0:=rfl
theorem tw6102245816645902529:0=0:=rfl
theorem tw11506030812092432609:0=0:=rfl
theorem tw3959179956994956577:0=0:=rfl
theorem tw9480832158904694113:0=0:=rfl
theorem tw17283920737503018369:0=0:=rfl
theorem tw16133742738929637825:0=0:=rfl
theorem tw15479297954610335201:0=0:=rfl
theorem tw5894806158483477025:0=0:=rfl
theorem tw4158378217445618241:0=0:=rfl
theorem tw4579854119675935425:0=0:=rfl
theorem tw11674805889601403617:0=0:=rfl
theorem tw7559665942163745697:0=0:=rfl
theorem tw16460114496838860705:0=0:=rfl
theorem tw16888465339665941473:0=0:=rfl
theorem tw13011954758487497954:0=0:=rfl
theorem tw9368300364661500226:0=0:=rfl
theorem tw5893071619323141570:0=0:=rfl
theorem tw11529279096464525762:0=0:=rfl
theorem tw14155991768906882530:0=0:=rfl
theorem tw8652870350302454242:0=0:=rfl
theorem tw14833653680710938082:0=0:=rfl
theorem tw15248900682810202754:0=0:=rfl
theorem tw15799700828088386370:0=0:=rfl
theorem tw14462547824881491810:0=0:=rfl
theorem tw17449058930307778563:0=0:=rfl
theorem tw1379214264561902627:0=0:=rfl
theorem tw6327609070267158627:0=0:=rfl
theorem tw10473865419406622851:0=0:=rfl
theorem tw15618509122952580323:0=0:=rfl
theorem tw10131583457477588291:0=0:=rfl
theorem tw16024999403351970211:0=0:=rfl
theorem tw3658314132221032899:0=0:=rfl
theorem tw9313601869158603267:0=0:=rfl
theorem tw3216745667783957027:0=0:=rfl
theorem tw8367728982773396035:0=0:=rfl
theorem tw15589229191915218531:0=0:=rfl
theorem tw7746406898006584931:0=0:=rfl
theorem tw10336670174297307779:0=0:=rfl
theorem tw4151125910245288611:0=0:=rfl
theorem tw16659414814306789027:0=0:=rfl
theorem tw731211636748510947:0=0:=rfl
theorem tw1912409310338907107:0=0:=rfl
theorem tw15882453749087806532:0=0:=rfl
theorem tw13029748993791382628:0=0:=rfl
theorem tw9586598406815521892:0=0:=rfl
theorem tw13448634567063717060:0=0:=rfl
theorem tw9133073668871535876:0=0:=rfl
theorem tw9361017696976675076:0=0:=rfl
theorem tw3934635908011929892:0=0:=rfl
theorem tw14558455299005541668:0=0:=rfl
theorem tw4057073217280014628:0=0:=rfl
theorem tw17463263209211877700:0=0:=rfl
theorem tw13509403374582314532:0=0:=rfl
theorem tw15677158365525220004:0=0:=rfl
theorem tw6335418738085939876:0=0:=rfl
theorem tw8346231748486024868:0=0:=rfl
theorem tw13834132261307196132:0=0:=rfl
theorem tw13228325471929620228:0=0:=rfl
theorem tw11067512048899898148:0=0:=rfl
theorem tw8671580370079791940:0=0:=rfl
theorem tw4625190444647852037:0=0:=rfl
theorem tw5146009219442729989:0=0:=rfl
theorem tw7586157719427244069:0=0:=rfl
theorem tw11919401253780195397:0=0:=rfl
theorem tw1215642598600192101:0=0:=rfl
theorem tw7004819802065833125:0=0:=rfl
theorem tw2216269413482841381:0=0:=rfl
theorem tw383622108400749893:0=0:=rfl
theorem tw14719041485381793157:0=0:=rfl
theorem tw6267343702251294245:0=0:=rfl
theorem tw320912342378561189:0=0:=rfl
theorem tw4273167594432995013:0=0:=rfl
theorem tw13194761333185351397:0=0:=rfl
theorem tw11161820772187648869:0=0:=rfl
theorem tw934494797960265701:0=0:=rfl
theorem tw11814179694770583558:0=0:=rfl
theorem tw576880582194136230:0=0:=rfl
theorem tw4849167948223465638:0=0:=rfl
theorem tw13018059637165567302:0=0:=rfl
theorem tw16724208094191688038:0=0:=rfl
theorem tw1957627832386472326:0=0:=rfl
theorem tw14376423516510062054:0=0:=rfl
theorem tw13634301950319285734:0=0:=rfl
theorem tw11739640206947587590:0=0:=rfl
theorem tw8267503262660130470:0=0:=rfl
theorem tw12347027324475341542:0=0:=rfl
theorem tw922912574618607366:0=0:=rfl
theorem tw10162802821324998502:0=0:=rfl
theorem tw639045416277497798:0=0:=rfl
theorem tw15702881688062204902:0=0:=rfl
theorem tw9663857483536453639:0=0:=rfl
theorem tw3671426346632614983:0=0:=rfl
theorem tw11570173169736258759:0=0:=rfl
theorem tw14514621804028055975:0=0:=rfl
theorem tw10231510650615907783:0=0:=rfl
theorem tw16927323635225228775:0=0:=rfl
theorem tw7605021749441750535:0=0:=rfl
theorem tw6371083885787982343:0=0:=rfl
theorem tw10830627942681348711:0=0:=rfl
theorem tw5608140120387691207:0=0:=rfl
theorem tw372512209873043143:0=0:=rfl
theorem tw16233776638020711496:0=0:=rfl
theorem tw6388259512790627400:0=0:=rfl
theorem tw7547318330339769448:0=0:=rfl
theorem tw5331493889274945704:0=0:=rfl
theorem tw4922454549952136424:0=0:=rfl
theorem tw18277046987283366152:0=0:=rfl
theorem tw10813254095486967080:0=0:=rfl
theorem tw1709288433870419240:0=0:=rfl
theorem tw6815444882824859112:0=0:=rfl
theorem tw1975459626345922120:0=0:=rfl
theorem tw17423392103804004968:0=0:=rfl
theorem tw10773599836405293768:0=0:=rfl
theorem tw1992463739379315464:0=0:=rfl
theorem tw11212020906394680168:0=0:=rfl
theorem tw6905168599116235624:0=0:=rfl
theorem tw646604577434068872:0=0:=rfl
theorem tw6544852936154074121:0=0:=rfl
theorem tw15354239691119310889:0=0:=rfl
theorem tw14042284603545492553:0=0:=rfl
theorem tw7929783103207133321:0=0:=rfl
theorem tw8945814463093456329:0=0:=rfl
theorem tw13076759782932656681:0=0:=rfl
theorem tw12604278857202879081:0=0:=rfl
theorem tw4379090776336115369:0=0:=rfl
theorem tw12932524292730149673:0=0:=rfl
theorem tw8313534125252388649:0=0:=rfl
theorem tw208364365327626089:0=0:=rfl
theorem tw9017759963349769097:0=0:=rfl
theorem tw17689244009007399881:0=0:=rfl
theorem tw1119227589319640041:0=0:=rfl
theorem tw6121843239268330506:0=0:=rfl
theorem tw8713332240865392682:0=0:=rfl
theorem tw15586806876657543210:0=0:=rfl
theorem tw933974173998956618:0=0:=rfl
theorem tw2774725270922173610:0=0:=rfl
theorem tw8971435918038446282:0=0:=rfl
theorem tw10390335459417254314:0=0:=rfl
theorem tw1866295389657237962:0=0:=rfl
theorem tw14366757357015001578:0=0:=rfl
theorem tw1790083255560842762:0=0:=rfl
theorem tw4446292044004722218:0=0:=rfl
theorem tw7372055096104857354:0=0:=rfl
theorem tw8438581934985810826:0=0:=rfl
theorem tw7467402793415008267:0=0:=rfl
theorem tw3126976074551442571:0=0:=rfl
theorem tw17369782186988932235:0=0:=rfl
theorem tw8361316752222434475:0=0:=rfl
theorem tw9214018836773130475:0=0:=rfl
theorem tw10711598021994224875:0=0:=rfl
theorem tw14617412893008846123:0=0:=rfl
theorem tw11600057369856358795:0=0:=rfl
theorem tw11342263739618590155:0=0:=rfl
theorem tw17127204733961825867:0=0:=rfl
theorem tw3925058900994119275:0=0:=rfl
theorem tw17740917150325553099:0=0:=rfl
theorem tw5711376058201941260:0=0:=rfl
theorem tw13842591926930497932:0=0:=rfl
theorem tw6602858997839691308:0=0:=rfl
theorem tw14656778659093603916:0=0:=rfl
theorem tw11113345883741499148:0=0:=rfl
theorem tw11418075623956424845:0=0:=rfl
theorem tw1472046034582669:0=0:=rfl
theorem tw12543066721892840717:0=0:=rfl
theorem tw13155216412347382125:0=0:=rfl
theorem tw5843513313268065677:0=0:=rfl
theorem tw4383839575890420205:0=0:=rfl
theorem tw1172068467252087373:0=0:=rfl
theorem tw2636799417544192781:0=0:=rfl
theorem tw13385547173853051693:0=0:=rfl
theorem tw17336929812321074093:0=0:=rfl
theorem tw16856846612333041645:0=0:=rfl
theorem tw3746163441955305453:0=0:=rfl
theorem tw1840060301583566862:0=0:=rfl
theorem tw5399400784269912110:0=0:=rfl
theorem tw4003760616712324142:0=0:=rfl
theorem tw2577510522042209358:0=0:=rfl
theorem tw2214600291791512046:0=0:=rfl
theorem tw9794074819849622094:0=0:=rfl
theorem tw5220213641644354190:0=0:=rfl
theorem tw17755900701533194926:0=0:=rfl
theorem tw9043719741592964846:0=0:=rfl
theorem tw1031462659863902990:0=0:=rfl
theorem tw8254118249659449134:0=0:=rfl
theorem tw13083459262625278862:0=0:=rfl
theorem tw12240682422082261007:0=0:=rfl
theorem tw6958295521136792911:0=0:=rfl
theorem tw16238734154575047055:0=0:=rfl
theorem tw10280490944530811375:0=0:=rfl
theorem tw12425160075660918255:0=0:=rfl
theorem tw17969010955223132815:0=0:=rfl
theorem tw811470849507682031:0=0:=rfl
theorem tw7063732644878882575:0=0:=rfl
theorem tw13149445129662824464:0=0:=rfl
theorem tw16000085882096586864:0=0:=rfl
theorem tw9210232949228807280:0=0:=rfl
theorem tw11472647746431109232:0=0:=rfl
theorem tw10924657563395210384:0=0:=rfl
theorem tw604834099904705840:0=0:=rfl
theorem tw8594194793499322736:0=0:=rfl
theorem tw4585535320959807920:0=0:=rfl
theorem tw8444839618615005616:0=0:=rfl
theorem tw11244169582326208016:0=0:=rfl
theorem tw18049837575312850448:0=0:=rfl
theorem tw11504757610502125136:0=0:=rfl
theorem tw2501576419402639952:0=0:=rfl
theorem tw8376505652541688432:0=0:=rfl
theorem tw15494361281050107536:0=0:=rfl
theorem tw6425667222076060304:0=0:=rfl
theorem tw12443778351606865584:0=0:=rfl
theorem tw14444214677755141840:0=0:=rfl
theorem tw40819674141300496:0=0:=rfl
theorem tw15331130328208843536:0=0:=rfl
theorem tw17147867527931807536:0=0:=rfl
theorem tw3112710611631840048:0=0:=rfl
theorem tw1954899544710134768:0=0:=rfl
theorem tw1898572001877522545:0=0:=rfl
theorem tw2432892582862730353:0=0:=rfl
theorem tw6217301357996879089:0=0:=rfl
theorem tw18191812411459599761:0=0:=rfl
theorem tw6902303751315715569:0=0:=rfl
theorem tw13278249581863874065:0=0:=rfl
theorem tw10409239384660883985:0=0:=rfl
theorem tw3771625689653953073:0=0:=rfl
theorem tw12755504904371937873:0=0:=rfl
theorem tw13668172220199213681:0=0:=rfl
theorem tw6734662517954433649:0=0:=rfl
theorem tw1410662117895619281:0=0:=rfl
theorem tw2303607602989871985:0=0:=rfl
theorem tw17675746919785980881:0=0:=rfl
theorem tw4593580331595551729:0=0:=rfl
theorem tw3560865960624150610:0=0:=rfl
theorem tw6872624397527025906:0=0:=rfl
theorem tw18308109064767717746:0=0:=rfl
theorem tw2373779847222125106:0=0:=rfl
theorem tw5322917320516707986:0=0:=rfl
theorem tw2823733652750434002:0=0:=rfl
theorem tw1190200239474268914:0=0:=rfl
theorem tw15569395546673956626:0=0:=rfl
theorem tw3020949776923703122:0=0:=rfl
theorem tw4413900119150364498:0=0:=rfl
theorem tw10688352163964870514:0=0:=rfl
theorem tw17873556202207771506:0=0:=rfl
theorem tw12849945631707235250:0=0:=rfl
theorem tw11856081646842513330:0=0:=rfl
theorem tw9036378163623397330:0=0:=rfl
theorem tw9987804947622075411:0=0:=rfl
theorem tw4037369761178341523:0=0:=rfl
theorem tw3545574674741776563:0=0:=rfl
theorem tw6738441650704411923:0=0:=rfl
theorem tw17963677149790382579:0=0:=rfl
theorem tw3585179594635642387:0=0:=rfl
theorem tw11341204718989267795:0=0:=rfl
theorem tw16843521423847259059:0=0:=rfl
theorem tw2926290075143475220:0=0:=rfl
theorem tw3559032144228321300:0=0:=rfl
theorem tw18393509480311554292:0=0:=rfl
theorem tw5278318890787118356:0=0:=rfl
theorem tw8400398559183315636:0=0:=rfl
theorem tw7561205116074634132:0=0:=rfl
theorem tw3555018036958852052:0=0:=rfl
theorem tw14188883325885574229:0=0:=rfl
theorem tw3585960433203611829:0=0:=rfl
theorem tw2952939449158843637:0=0:=rfl
theorem tw16508282969387742485:0=0:=rfl
theorem tw2430722752351787317:0=0:=rfl
theorem tw376464027996887413:0=0:=rfl
theorem tw855470606429276533:0=0:=rfl
theorem tw9293424382570689909:0=0:=rfl
theorem tw6992022411621518869:0=0:=rfl
theorem tw10325366168463061:0=0:=rfl
theorem tw15022781026245152629:0=0:=rfl
theorem tw6348898775329161141:0=0:=rfl
theorem tw13419357515963382741:0=0:=rfl
theorem tw6318845929885709558:0=0:=rfl
theorem tw9994882282626981142:0=0:=rfl
theorem tw16647248537364163894:0=0:=rfl
theorem tw11730947209097060758:0=0:=rfl
theorem tw9054750125334598230:0=0:=rfl
theorem tw13244094521775170166:0=0:=rfl
theorem tw5947568327587834870:0=0:=rfl
theorem tw3997687654420116535:0=0:=rfl
theorem tw7460755809266441271:0=0:=rfl
theorem tw14582709003781532823:0=0:=rfl
theorem tw14594597228457184471:0=0:=rfl
theorem tw17363156930137625047:0=0:=rfl
theorem tw5957893527713170999:0=0:=rfl
theorem tw7245062623563149911:0=0:=rfl
theorem tw3966951462598241239:0=0:=rfl
theorem tw11315948508070489047:0=0:=rfl
theorem tw14562489405802678296:0=0:=rfl
theorem tw78399502167207992:0=0:=rfl
theorem tw16000087641261169720:0=0:=rfl
theorem tw17295143528438355192:0=0:=rfl
theorem tw18352139326701282552:0=0:=rfl
theorem tw14905123838782082392:0=0:=rfl
theorem tw6822330651062740344:0=0:=rfl
theorem tw12128662184841717400:0=0:=rfl
theorem tw7922812001568419512:0=0:=rfl
theorem tw1940921836671259416:0=0:=rfl
theorem tw6197882410342441848:0=0:=rfl
theorem tw965190994644820888:0=0:=rfl
theorem tw15558674950897457177:0=0:=rfl
theorem tw15211594969357251673:0=0:=rfl
theorem tw11539366511132052697:0=0:=rfl
theorem tw1496032502454451417:0=0:=rfl
theorem tw1980730248574992633:0=0:=rfl
theorem tw6889000250352157977:0=0:=rfl
theorem tw12215906608932130137:0=0:=rfl
theorem tw11639989941556571513:0=0:=rfl
theorem tw12633357381218064857:0=0:=rfl
theorem tw16253487575507100281:0=0:=rfl
theorem tw6400809151475340921:0=0:=rfl
theorem tw14447358773358383833:0=0:=rfl
theorem tw12390696447603512057:0=0:=rfl
theorem tw10426599434849906457:0=0:=rfl
theorem tw3639161627691524921:0=0:=rfl
theorem tw5341681501013125081:0=0:=rfl
theorem tw13183028342734540858:0=0:=rfl
theorem tw5516813914724728474:0=0:=rfl
theorem tw6830288283468966554:0=0:=rfl
theorem tw12022416305444412090:0=0:=rfl
theorem tw12096105353373976314:0=0:=rfl
theorem tw11219955016484418394:0=0:=rfl
theorem tw14275361265494373691:0=0:=rfl
theorem tw9433954623750363483:0=0:=rfl
theorem tw15516346387496119803:0=0:=rfl
theorem tw14130565563110599451:0=0:=rfl
theorem tw7946936200615663419:0=0:=rfl
theorem tw11897939568762131323:0=0:=rfl
theorem tw8472458605275802587:0=0:=rfl
theorem tw4393462638779131964:0=0:=rfl
theorem tw4600244950296119420:0=0:=rfl
theorem tw14322972727304955356:0=0:=rfl
theorem tw2321808589534373468:0=0:=rfl
theorem tw12167371311841013436:0=0:=rfl
theorem tw3658972999876231868:0=0:=rfl
theorem tw16069078995138286268:0=0:=rfl
theorem tw10217590151761146620:0=0:=rfl
theorem tw288996224872995580:0=0:=rfl
theorem tw12238654028421819356:0=0:=rfl
theorem tw15558194216024314909:0=0:=rfl
theorem tw13503835118149307517:0=0:=rfl
theorem tw767269815857704253:0=0:=rfl
theorem tw2371393688155683517:0=0:=rfl
theorem tw15354949999795990301:0=0:=rfl
theorem tw14965811440850069277:0=0:=rfl
theorem tw6159656047226668861:0=0:=rfl
theorem tw12078797114993644381:0=0:=rfl
theorem tw8007122838845634429:0=0:=rfl
theorem tw12417840877223642174:0=0:=rfl
theorem tw17950872054510710910:0=0:=rfl
theorem tw12788395100560841886:0=0:=rfl
theorem tw7687769823933625534:0=0:=rfl
theorem tw13370121516087886078:0=0:=rfl
theorem tw2327847207702209854:0=0:=rfl
theorem tw11650284352697438590:0=0:=rfl
theorem tw4626439698635736478:0=0:=rfl
theorem tw13318874926885576126:0=0:=rfl
theorem tw13070481106467590654:0=0:=rfl
theorem tw8642577800694145534:0=0:=rfl
theorem tw16482860920139310622:0=0:=rfl
theorem tw14534803697167786558:0=0:=rfl
theorem tw13690558504225402430:0=0:=rfl
theorem tw108461031096279678:0=0:=rfl
theorem tw9865656485882447550:0=0:=rfl
theorem tw7836997203932983070:0=0:=rfl
theorem tw15003466523695823742:0=0:=rfl
theorem tw5989156104802714622:0=0:=rfl
theorem tw3427087233142668383:0=0:=rfl
theorem tw11560996729333197951:0=0:=rfl
theorem tw10076139653498030367:0=0:=rfl
theorem tw4599102002704419135:0=0:=rfl
theorem tw2283209361366965887:0=0:=rfl
theorem tw1420013574448942783:0=0:=rfl
theorem tw17657533673203259135:0=0:=rfl
theorem tw13887297991689890655:0=0:=rfl
theorem tw4219926964018692959:0=0:=rfl
theorem tw3498810375779601311:0=0:=rfl
theorem tw17803029752689908639:0=0:=rfl
theorem tw2584953703654676479:0=0:=rfl
theorem tw6650630939672679587:0=0:=rfl
end PySem.W.Fast
open PySem PySem.W PyProof.Rows
set_option maxRecDepth 100000 in
set_option maxHeartbeats 0 in
theorem PySem.Challenge.cw_disposehall_k15_lives_that_part_holds : PySem.Challenge.rw_disposehall_k15_lives_that_part.Holds := by
 w_on;o_law;k_head;(case hw=>w_witness2)
 k_fill
 refine L3.Zmt (l:=PySem.Challenge.rw_disposehall_k15_lives_that_part) (k:=25) (x:="_law_script") rfl rfl ⟨rfl,by decide,by decide⟩ (fun w h Y=>PySem.W.kIn_of Y) ?F
 case F=>
  intro w mg fa h KX G hmg;refine' K15.all_mk KX G hmg ?Z0e ?Z0f ?Z0g ?J7 ?X4 ?X5 ?Z09 ?J8 ?Y0 ?Z08 ?J9 ?Z00 ?Z01 ?Z3 ?Y9 ?Z4 ?Z0 ?Z5 ?Y6 ?X3 ?Z6 ?Y7 ?Z0I ?l_law ?cd_law2 ?k_law ?Z0v ?Z0h ?Z0i ?Z02 ?Z0j ?Z0k ?Z0l ?Z0m ?Z0w ?Z0x ?in_Never ?Z0y ?Z0z ?Z0n ?Z0o ?Z0p ?Z0q ?Z0A ?Z0B ?Y4 ?X8 ?J6 ?Z0C ?Z0D ?Z0r ?Z0s ?Z0t ?Z0u ?Z0E ?Z0F ?Y5 ?Z03 ?X6 ?Z0G ?Z0H ?Z04 ?Z05 ?Z06 ?Z07 ?Z0a ?Z0b ?Z2 ?X7 ?Y8 ?Z0c ?Z0d ?hn ?htk ?Z7 ?Z8 ?Z9 ?Z1 ?g_MOST_CLAUSES ?f_k_Never_After ?f_k_Never_Earlier ?f_k_Never_Later ?f_k_After_After ?f_k_After_Earlier ?f_k_After_Later ?f_k_Later_After ?f_k_Later_Earlier ?f_k_Later_Later ?f_k_Earlier_After ?f_k_Earlier_Earlier ?f_k_Earlier_Later ?z_abs ?z_all ?z_any ?z_bool ?z_dict ?z_int ?z_isinstance ?z_len ?z_max ?z_min ?z_range ?z_sorted ?z_str ?kib ?kii ?kdd ?kss ?ne_Never_After ?ne_Never_Later ?ne_Never_Earlier ?ne_After_Later ?ne_After_Earlier ?ne_Later_Earlier
  (case Z0I|Z0v|Z0h|Z0i|Z02=>k_is)
  (case Z0e|Z0f|Z0g|J7|X4|X5|Z09|J8|Y0|Z08|J9|Z00|Z01|Z3|Y9|Z4|Z0|Z5|Y6|X3|Z6|Y7=>exact⟨_,_,by k_is,L2.ZgU (by k_is) (by k_is) (by k_is)⟩)
  (case l_law|cd_law2|k_law|Z0j|Z0k|Z0l|Z0m|Z0w|Z0x|in_Never|Z0y|Z0z|Z0n|Z0o|Z0p|Z0q|Z0A|Z0B|X8|J6|Z0C|Z0D|Z0r|Z0s|Z0t|Z0u|Z0E|Z0F|Z03|X6|Z0G|Z0H|Z04|Z05|Z06|Z07|Z0a|Z0b|X7|Y8|Z0c|Z0d|hn|htk|g_MOST_CLAUSES|z_abs|z_all|z_any|z_bool|z_dict|z_int|z_isinstance|z_len|z_max|z_min|z_range|z_sorted|z_str=>k_is)
  (case Y4|Y5|Z2|Z7|Z8|Z9|Z1=>exact⟨_,_,by k_is,by k_is,L2.ZgU (by k_is) (by k_is) (by k_is)⟩)
  (case f_k_Never_After|f_k_Never_Earlier|f_k_Never_Later|f_k_After_After|f_k_After_Earlier|f_k_After_Later|f_k_Later_After|f_k_Later_Earlier|f_k_Later_Later|f_k_Earlier_After|f_k_Earlier_Earlier|f_k_Earlier_Later|kib|kii|kdd|kss=>first|rfl|decide+kernel|k_is)
  (case ne_Never_After|ne_Never_Later|ne_Never_Earlier|ne_After_Later|ne_After_Earlier|ne_Later_Earlier=>decide)
