import PyProof.Rows.All
import Wide.All
import OpenK.AllK
import Wide.FinOn
import Lean
import PyProof.EqAt
import PyProof.EqKinds
import PyProof.TupleCall
import KE.KNestM
import PyProof.SetScanFacts
import PyProof.SetKind
import PyProof.TupleKey
import PyProof.Rows.SetFrom
import PyProof.WalksS
import PyProof.CollectWalk
import PyProof.StationsW
import PyProof.ExcClass2
import PyProof.InstStoreFacts
import PyProof.DictRoadsH
import PyProof.MeetsDict
import KE.KLam
import KE.KMinKey
import KE.KRevSl
import KE.KRevIter
import KE.KDictList
import PySem.Challenge.RW_pactroom_k81_papers_played
set_option Elab.async false
set_option linter.all false
set_option genSizeOf false
set_option maxHeartbeats 4000000
set_option maxRecDepth 100000
namespace L2
open PySem PySem.Spec PyProof.Rows
abbrev Key:=Sum Int Str
def kO:Key->Value->Bool
 | .inl k,v=>Value.isInt k v
 | .inr x,v=>Value.isStrOf x v
def yW(w:World):Key->Int
 | .inl k=>hashInt k
 | .inr x=>hashStr w x
theorem bw:∀{k:Key} {v:Value},kO k v=true->(∃i t,k=Sum.inl i/\v=Value.int i t)\/(∃x t,k=Sum.inr x/\v=Value.str x t)
 | .inl i,v,h=>by
  obtain ⟨t,e⟩:=Value.isInt_shape (k:=i) (v:=v) h
  exact .inl ⟨i,t,rfl,e⟩
 | .inr x,v,h=>by
  obtain ⟨t,e⟩:=Value.isStrOf_shape (x:=x) (v:=v) h
  exact .inr ⟨x,t,rfl,e⟩
theorem re(i:Int)(t:Tok):kO (.inl i) (.int i t)=true:=by simp [kO,Value.isInt]
theorem qZ(x:Str)(t:Tok):kO (.inr x) (.str x t)=true:=by simp [kO,Value.isStrOf]
theorem xk(a b:Int):decide ((Sum.inl a:Key)=Sum.inl b)=(a==b):=by
 by_cases e:a=b
 ·subst e;simp
 ·have h:¬(Sum.inl a:Key)=Sum.inl b:=λq=>e (Sum.inl.inj q)
  rw [decide_eq_false h]
  exact (beq_eq_false_iff_ne.mpr e).symm
theorem xh(a b:Str):decide ((Sum.inr a:Key)=Sum.inr b)=decide (a=b):=by
 by_cases e:a=b
 ·subst e;simp
 ·have h:¬(Sum.inr a:Key)=Sum.inr b:=λq=>e (Sum.inr.inj q)
  rw [decide_eq_false h,decide_eq_false e]
theorem xj(a:Int)(b:Str):decide ((Sum.inl a:Key)=Sum.inr b)=false:=decide_eq_false (λq=>nomatch q)
theorem xi(a:Str)(b:Int):decide ((Sum.inr a:Key)=Sum.inl b)=false:=decide_eq_false (λq=>nomatch q)
def bY(prog:Program)(w:World):PySem.KeyKind prog w Key where
 is:=kO
 hash:=yW w
 inj:=λv a b ha hb=>by
  rcases bw ha with ⟨i,t,rfl,rfl⟩ | ⟨x,t,rfl,rfl⟩
  ·rcases bw hb with ⟨j,u,rfl,e⟩ | ⟨y,u,rfl,e⟩
   ·injection e with e1 _;rw [e1]
   ·exact nomatch e
  ·rcases bw hb with ⟨j,u,rfl,e⟩ | ⟨y,u,rfl,e⟩
   ·exact nomatch e
   ·injection e with e1 _;rw [e1]
 byValue:=λk v h=>by
  rcases bw h with ⟨i,t,rfl,rfl⟩ | ⟨x,t,rfl,rfl⟩<;>rfl
 pyHash:=λhv h=>by
  rcases bw hv with ⟨i,t,rfl,rfl⟩ | ⟨x,t,rfl,rfl⟩
  ·exact wpAny_pyHash_int h
  ·exact wpAny_pyHash_str h
 eqBool:=λhu hv h=>by
  rcases bw hu with ⟨i,t,rfl,rfl⟩ | ⟨x,t,rfl,rfl⟩
  ·rcases bw hv with ⟨j,u,rfl,rfl⟩ | ⟨y,u,rfl,rfl⟩
   ·rw [xk] at h;exact wpAny_eqBool_int h
   ·rw [xj] at h;exact SeqAt.EqAt.int_str i t y u _ _ _ _ h
  ·rcases bw hv with ⟨j,u,rfl,rfl⟩ | ⟨y,u,rfl,rfl⟩
   ·rw [xi] at h;exact SeqAt.EqAt.str_int x t j u _ _ _ _ h
   ·rw [xh] at h;exact wpAny_eqBool_str h
 «strs» := fun k x t v h => by
  rcases bw h with ⟨i,u,rfl,e⟩ | ⟨y,u,rfl,e⟩
  ·exact nomatch e
  ·injection e with e1 _
   subst e1
   cases v<;>rfl
theorem nU(prog:Program)(w:World)(i:Int)(t:Tok):(bY prog w).is (.inl i) (.int i t)=true:=re i t
theorem nS(prog:Program)(w:World)(x:Str)(t:Tok):(bY prog w).is (.inr x) (.str x t)=true:=qZ x t
end L2
namespace L2
open PySem PySem.Spec PyProof.Rows
inductive V where
 | non | bl (b:Bool) | int (i:Int) | str (x:Str) | byt (b:Array UInt8) | flt (b:UInt64) | ref (a:Addr) | ty (n:String)
 deriving DecidableEq
def RelV:V->Value->Prop
 | .non,u=>u=Value.none
 | .bl b,u=>u=Value.bool b
 | .int i,u=>∃t,u=Value.int i t
 | .str x,u=>∃t,u=Value.str x t
 | .byt b,u=>∃t,u=Value.bytes b t
 | .flt b,u=>∃t,u=Value.float b t
 | .ref a,u=>u=Value.ref a
 | .ty n,u=>u=Value.type n
abbrev Vals:List V->List Value->Prop:=Paired RelV
theorem Vals.length{xs:List V}{us:List Value}(r:Vals xs us):xs.length=us.length:=Paired.length r
theorem Vals.get:∀{xs:List V} {us:List Value} {i:Nat} {x:V},Vals xs us->xs[i]?=some x->∃u,us[i]?=some u/\RelV x u
 | _,_,_,_,.nil,e=>by simp at e
 | _,_,0,_,.cons r _,e=>by simp at e;subst e;exact ⟨_,rfl,r⟩
 | _,_,i+1,x,.cons _ t,e=>by
  obtain ⟨u,h1,h2⟩:=Vals.get (i:=i) (x:=x) t (by simpa using e)
  exact ⟨u,by simpa using h1,h2⟩
theorem Vals.set{x:V}{u:Value}(r:RelV x u):∀{xs:List V} {us:List Value} (i:Nat),Vals xs us->Vals (xs.set i x) (us.set i u)
 | _,_,_,.nil=>.nil
 | _,_,0,.cons _ t=>.cons r t
 | _,_,i+1,.cons q t=>.cons q (Vals.set r i t)
theorem Vals.append:∀{xs ys:List V} {us ws:List Value},Vals xs us->Vals ys ws->Vals (xs++ys) (us++ws)
 | _,_,_,_,.nil,s=>s
 | _,_,_,_,.cons r t,s=>.cons r (Vals.append t s)
theorem Vals.take:∀{xs:List V} {us:List Value} (n:Nat),Vals xs us->Vals (xs.take n) (us.take n)
 | _,_,0,_=>.nil
 | _,_,_+1,.nil=>.nil
 | _,_,n+1,.cons r t=>.cons r (Vals.take n t)
theorem Vals.drop:∀{xs:List V} {us:List Value} (n:Nat),Vals xs us->Vals (xs.drop n) (us.drop n)
 | _,_,0,r=>r
 | _,_,_+1,.nil=>.nil
 | _,_,n+1,.cons _ t=>Vals.drop n t
def RelO:Option V->Option Value->Prop
 | some v,some u=>RelV v u
 | none,none=>True
 | _,_=>False
def KV{κ:Type}:List (κ×V)->List (κ×Value)->Prop:=Paired λ(p:κ×V) (q:κ×Value)=>p.1=q.1/\RelV p.2 q.2
def kV:Key->V
 | .inl i=>.int i
 | .inr x=>.str x
inductive HO where
 | lst (xs:List V)
 | tup (xs:List V)
 | dK (kvs:List (Key×V)) | dT (kvs:List (List Key×V))
 | set (S:Int->Bool) (n:Nat)
 | ins (C dx:Addr) (fs:List (Str×V))
 | own (x:Addr)
 | xd (fs:List (Str×V))
 | met (f x:Addr)
 | rng (lo hi:Int)
 | frz (o:Obj) (u:HO)
 | tbl (ps:Array Value)
 | ext (φ:Heap->Prop)
abbrev Hp:=Addr->Option HO
def upd(H:Hp)(a:Addr)(o:HO):Hp:=λb=>if b=a then some o else H b
theorem ac{H:Hp}{a:Addr}{o:HO}:upd H a o a=some o:=by unfold upd;rw [if_pos rfl]
theorem aq{H:Hp}{a b:Addr}{o:HO}(h:b≠a):upd H a o b=H b:=by unfold upd;rw [if_neg h]
theorem qa{H:Hp}{a b:Addr}{o u:HO}(h:H a=some o)(h':H b=some u)(d:o≠u):a≠b:=by
 intro e;subst e;rw [h] at h';exact d (Option.some.inj h')
theorem ap{H:Hp}{a b:Addr}{o:HO}(h:H a=some o)(h':H b=none):a≠b:=by
 intro e;subst e;rw [h] at h';cases h'
section
variable (P:Program)(w:World)
def ObjOk(H:Hp)(h:Heap)(a:Addr):HO->Prop
 | .lst xs=>xs.length<=sizeLine/\∃(its:List Value) (n:Nat),Vals xs its/\h.get? a=some {cls:=.type "list",data:=.seq its.toArray n}
 | .tup xs=>xs.length<=sizeLine/\∃its:List Value,Vals xs its/\IsTup h a its.toArray
 | .dK kvs=>kvs.length<=sizeLine/\(a==sysModules)=false/\∃vs,KV kvs vs/\h.DictOf (bY P w) a vs
 | .dT kvs=>kvs.length<=sizeLine/\(a==sysModules)=false/\∃xs:List (List Key×Addr×Value),
   Paired (λ(p:List Key×V) (q:List Key×Addr×Value)=>p.1=q.1/\H q.2.1=some (.tup (p.1.map kV))/\RelV p.2 q.2.2) kvs xs /\
   ∃o es ep,h.get? a=some o/\o.ExactDict/\o.data=.dict es ep/\es.toList=xs.map (entryOfKey (tupleKind (bY P w)))/\(xs.map (·.1)).Nodup
 | .set S n=>h.SetOf (intKind P w) a S n
 | .ins C dx fs=>H dx=some (.own a)/\fs.length<=1000/\dx≠a/\h.get? a=some (PySem.W.instObj C dx) /\
   ∃mA,h.Ns1 dx mA/\(∀f,RelO (fs.lookup f) (mA f))/\PySem.Within mA (fs.map (·.1))
 | .own _=>∃o,h.get? a=some o
 | .xd fs=>∃mA,h.Ns1 a mA/\∀f,RelO (fs.lookup f) (mA f)
 | .rng lo hi=>∃t u v,h.get? a=some {cls:=.type "range",data:=.fields #[.int lo t,.int hi u,.int 1 v]}
 | .frz o u=>h.get? a=some o/\ObjOk H h a u
 | .tbl ps=>h.get? a=some {cls:=.none,data:=.fields ps}
 | .met f x=>h.get? a=some (PySem.W.methodObj (.ref f) (.ref x))
 | .ext φ=>φ h/\(∃o,h.get? a=some o)/\∀h1 h2:Heap,φ h1->(∀o,h1.get? a=some o->h2.get? a=some o)->φ h2
def HOk(H:Hp)(h:Heap):Prop:=∀a o,H a=some o->ObjOk P w H h a o
end
section
variable {P:Program}{w:World}{H H':Hp}{h h':Heap}{a:Addr}{o:HO}
theorem ObjOk.lt(x:ObjOk P w H h a o):a<h.objs.size:=by
 cases o with
 | lst xs=>obtain ⟨_,_,_,_,e⟩:=x;exact Heap.lt_size e
 | tup xs=>obtain ⟨_,_,_,p⟩:=x;exact p.lt
 | dK kvs=>obtain ⟨_,_,_,_,o,_,_,e,_⟩:=x;exact Heap.lt_size e
 | dT kvs=>obtain ⟨_,_,_,_,o,_,_,e,_⟩:=x;exact Heap.lt_size e
 | set S n=>obtain ⟨o,_,_,_,e,_⟩:=x;exact Heap.lt_size e
 | ins C dx fs=>obtain ⟨_,_,_,e,_⟩:=x;exact Heap.lt_size e
 | own y=>obtain ⟨_,e⟩:=x;exact Heap.lt_size e
 | xd fs=>obtain ⟨_,⟨_,_,_,e,_⟩,_⟩:=x;exact Heap.lt_size e
 | rng lo hi=>obtain ⟨_,_,_,e⟩:=x;exact Heap.lt_size e
 | frz ob u=>obtain ⟨e,_⟩:=x;exact Heap.lt_size e
 | tbl ps=>exact Heap.lt_size (show h.get? a=some _ from x)
 | met f y=>exact Heap.lt_size (show h.get? a=some _ from x)
 | ext φ=>obtain ⟨_,⟨_,e⟩,_⟩:=x;exact Heap.lt_size e
theorem Paired.mapP{α β:Type}{F G:α->β->Prop}:∀{l₁:List α} {l₂:List β},Paired F l₁ l₂->(∀a b,F a b->G a b)->Paired G l₁ l₂
 | _,_,.nil,_=>.nil
 | _,_,.cons r t,f=>.cons (f _ _ r) (Paired.mapP t f)
theorem ObjOk.stay(x:ObjOk P w H h a o)(k:∀b u,(b=a\/H b=some (.own a))->h.get? b=some u->h'.get? b=some u)
  (ho:∀b,H b=some (.own a)->H' b=some (.own a))(ht:∀b xs,H b=some (.tup xs)->H' b=some (.tup xs)):ObjOk P w H' h' a o:=by
 induction o with
 | lst xs=>obtain ⟨z,its,n,r,e⟩:=x;exact ⟨z,its,n,r,k _ _ (.inl rfl) e⟩
 | tup xs=>obtain ⟨z,its,r,ob,e,c⟩:=x;exact ⟨z,its,r,ob,k _ _ (.inl rfl) e,c⟩
 | dK kvs=>obtain ⟨z,y,vs,r,ob,es,ep,e,c⟩:=x;exact ⟨z,y,vs,r,ob,es,ep,k _ _ (.inl rfl) e,c⟩
 | dT kvs =>
  obtain ⟨z,y,xs,r,ob,es,ep,e,c⟩:=x
  exact ⟨z,y,xs,Paired.mapP r λp q z=>⟨z.1,ht _ _ z.2.1,z.2.2⟩,ob,es,ep,k _ _ (.inl rfl) e,c⟩
 | set S n=>obtain ⟨ob,es,ep,t,e,c⟩:=x;exact ⟨ob,es,ep,t,k _ _ (.inl rfl) e,c⟩
 | ins C dx fs =>
  obtain ⟨d,z,ne,e,mA,⟨od,es,ep,e2,c⟩,r⟩:=x
  exact ⟨ho _ d,z,ne,k _ _ (.inl rfl) e,mA,⟨od,es,ep,k _ _ (.inr d) e2,c⟩,r⟩
 | own y=>obtain ⟨ob,e⟩:=x;exact ⟨ob,k _ _ (.inl rfl) e⟩
 | xd fs=>obtain ⟨mA,⟨od,es,ep,e,c⟩,r⟩:=x;exact ⟨mA,⟨od,es,ep,k _ _ (.inl rfl) e,c⟩,r⟩
 | rng lo hi=>obtain ⟨t,u,v,e⟩:=x;exact ⟨t,u,v,k _ _ (.inl rfl) e⟩
 | frz ob u ih=>obtain ⟨e,q⟩:=x;exact ⟨k _ _ (.inl rfl) e,ih q⟩
 | tbl ps =>
  have e:h.get? a=some {cls:=.none,data:=.fields ps}:=x
  show h'.get? a=some {cls:=.none,data:=.fields ps}
  exact k a _ (.inl rfl) e
 | met f y =>
  have e:h.get? a=some (PySem.W.methodObj (.ref f) (.ref y)):=x
  show h'.get? a=some (PySem.W.methodObj (.ref f) (.ref y))
  exact k a _ (.inl rfl) e
 | ext φ=>obtain ⟨p,⟨o,e⟩,st⟩:=x;exact ⟨st _ _ p λo q=>k _ _ (.inl rfl) q,⟨o,k _ _ (.inl rfl) e⟩,st⟩
theorem HOk.lt(x:HOk P w H h)(e:H a=some o):a<h.objs.size:=(x a o e).lt
theorem HOk.fresh(x:HOk P w H h)(e:h.objs.size<=a):H a=none:=by
 cases q:H a with
 | none=>rfl
 | some u=>exact absurd (Nat.lt_of_lt_of_le (x.lt q) e) (Nat.lt_irrefl _)
theorem HOk.kept(x:HOk P w H h)(k:∀b u,h.get? b=some u->h'.get? b=some u):HOk P w H h':=λa o e =>
 (x a o e).stay (λb u _ q=>k b u q) (λ_ q=>q) λ_ _ q=>q
theorem HOk.laid(x:HOk P w H h)(k:∀b u,h.get? b=some u->h'.get? b=some u)(hp:h.objs.size<=a)(new:ObjOk P w (upd H a o) h' a o):HOk P w (upd H a o) h':=λb u e=>by
 have hn:=x.fresh hp
 by_cases hb:b=a
 ·subst hb;rw [ac] at e;cases e;exact new
 ·rw [aq hb] at e
  exact (x b u e).stay (λc v _ q=>k c v q) (λc q=>by rw [aq (ap q hn)];exact q) λc xs q=>by rw [aq (ap q hn)];exact q
end
def Rd(H:Hp)(a:Addr)(u:HO):Prop:=H a=some u\/∃o,H a=some (.frz o u)
theorem Rd.ok{P:Program}{w:World}{H:Hp}{h:Heap}{a:Addr}{u:HO}(r:Rd H a u)(x:HOk P w H h):ObjOk P w H h a u:=by
 rcases r with r | ⟨o,r⟩
 ·exact x a u r
 ·obtain ⟨_,q⟩:=x a _ r
  exact q
def Mut:Option HO->Prop
 | some (.lst _)=>True
 | some (.dK _)=>True
 | some (.dT _)=>True
 | some (.set _ _)=>True
 | some (.ins _ _ _)=>True
 | some (.ext _)=>True
 | _=>False
section
variable {P:Program}{w:World}{H:Hp}{h h':Heap}{x e:Addr}{o':HO}
theorem HOk.write(ok:HOk P w H h)(mu:Mut (H x))(he:e=x\/H e=some (.own x))(k:∀b u,b≠e->h.get? b=some u->h'.get? b=some u)(heo:∃u,h'.get? e=some u)
  (new:ObjOk P w (upd H x o') h' x o'):HOk P w (upd H x o') h':=λb u q=>by
 have nown:∀c y,H c=some (.own y)->c≠x:=λc y r z=>by subst z;rw [r] at mu;exact mu
 have ntup:∀c xs,H c=some (.tup xs)->c≠x:=λc xs r z=>by subst z;rw [r] at mu;exact mu
 by_cases hb:b=x
 ·subst hb;rw [ac] at q;cases q;exact new
 ·rw [aq hb] at q
  by_cases hbe:b=e
  ·have q':H b=some (.own x):=by
    rcases he with z | z
    ·exact absurd (hbe.trans z) hb
    ·rw [hbe];exact z
   rw [q] at q';cases q'
   obtain ⟨v,hv⟩:=heo
   exact ⟨v,by rw [hbe];exact hv⟩
  ·refine (ok b u q).stay (λc v hc r=>k c v ?_ r) (λc r=>by rw [aq (nown c b r)];exact r) λc xs r=>by rw [aq (ntup c xs r)];exact r
   rcases hc with rfl | hc
   ·exact hbe
   ·rintro rfl
    rcases he with z | z
    ·exact nown c b hc z
    ·rw [hc] at z;cases z;exact hb rfl
end
structure Un(fs ex:List Addr)(H H':Hp)(h h':Heap):Prop where
 keep:∀b o,h.get? b=some o->H b=none->b∉fs->b∉ex->h'.get? b=some o
 slot:∀b o,h.get? b=some o->H b=none->b∈fs->b∉ex->∃sl,h'.get? b=some {o with slots:=sl}
 free:∀b o,h.get? b=some o->H b=none->b∉ex->H' b=none
 there:∀b o,h.get? b=some o->b∉ex->∃o',h'.get? b=some o'
 tups:∀b xs,H b=some (.tup xs)->H' b=some (.tup xs)
 frzs:∀b o u,H b=some (.frz o u)->H' b=some (.frz o u)
 tbls:∀b ps,H b=some (.tbl ps)->∃more,H' b=some (.tbl (ps++more))
section
variable {fs fs' ex ex':List Addr}{H H1 H2:Hp}{h h1 h2 h':Heap}{a x e:Addr}{o:HO}
theorem Un.any(u:Un fs ex H H1 h h1){b:Addr}{ob:Obj}(q:h.get? b=some ob)(n:H b=none)(hx:b∉ex):∃sl,h1.get? b=some {ob with slots:=sl}:=by
 by_cases hb:b∈fs
 ·exact u.slot b ob q n hb hx
 ·exact ⟨ob.slots,u.keep b ob q n hb hx⟩
theorem Un.kept(k:∀b u,h.get? b=some u->h'.get? b=some u):Un fs ex H H h h' :=
 ⟨λb ob q _ _ _=>k b ob q,λb ob q _ _ _=>⟨ob.slots,k b ob q⟩,λ_ _ _ n _=>n,λb ob q _=>⟨ob,k b ob q⟩,λ_ _ q=>q,λ_ _ _ q=>q,λ_ ps q=>⟨#[],by rw [q];simp⟩⟩
theorem Un.refl:Un fs ex H H h h:=Un.kept λ_ _ q=>q
theorem Un.laid(k:∀b u,h.get? b=some u->h'.get? b=some u)(hp:h.objs.size<=a)(hn:H a=none):Un fs ex H (upd H a o) h h' where
 keep:=λb u q _ _ _=>k b u q
 slot:=λb u q _ _ _=>⟨u.slots,k b u q⟩
 free:=λb u q n _=>by rw [aq (Nat.ne_of_lt (Nat.lt_of_lt_of_le (Heap.lt_size q) hp))];exact n
 there:=λb u q _=>⟨u,k b u q⟩
 tups:=λb xs q=>by rw [aq (ap q hn)];exact q
 frzs:=λb u xs q=>by rw [aq (ap q hn)];exact q
 tbls:=λb ps q=>⟨#[],by rw [aq (ap q hn),q];simp⟩
theorem Un.write(mu:Mut (H x))(he:e=x\/H e=some (.own x))(k:∀b u,b≠e->h.get? b=some u->h'.get? b=some u)(heo:∃u,h'.get? e=some u):Un fs ex H (upd H x o) h h':=by
 have hx:∀b,H b=none->b≠x:=λb n z=>by subst z;rw [n] at mu;exact mu
 have hb:∀b,H b=none->b≠e:=λb n z=>by
  subst z
  rcases he with r | r
  ·exact hx b n r
  ·rw [n] at r;cases r
 have hm:∀b u,H b=some u->¬Mut (some u)->b≠x:=λb u q nm z=>by subst z;rw [q] at mu;exact nm mu
 refine ⟨λb u q n _ _=>k b u (hb b n) q,λb u q n _ _=>⟨u.slots,k b u (hb b n) q⟩,λb u q n _=>by rw [aq (hx b n)];exact n,λb u q _=>?_,
  λb xs q=>by rw [aq (hm b _ q λz=>z)];exact q,λb u xs q=>by rw [aq (hm b _ q λz=>z)];exact q,λb ps q=>⟨#[],by rw [aq (hm b _ q λz=>z),q];simp⟩⟩
 by_cases hbe:b=e
 ·subst hbe;exact heo
 ·exact ⟨u,k b u hbe q⟩
end
def trk(h:Heap)(H:Hp):List Addr:=(List.range h.objs.size).filter λa=>(H a).isSome
def kt(h:Heap)(H:Hp):Heap:=PySem.W.hideAll h (trk h H)
theorem rh(h:Heap)(H:Hp):(kt h H).objs.size=h.objs.size:=PySem.W.hideAll_size _ _
theorem t9{h:Heap}{H:Hp}{b:Addr}{o:Obj}(e:h.get? b=some o)(n:H b=none):(kt h H).get? b=some o :=
 PySem.W.hideAll_get _ e λhm=>by
  have q:(H b).isSome=true:=(List.mem_filter.mp hm).2
  rw [n] at q;simp at q
theorem vq{h:Heap}{H:Hp}{b:Addr}{o:Obj}(e:(kt h H).get? b=some o):h.get? b=some o/\H b=none:=by
 have e':h.get? b=some o:=PySem.W.of_hideAll (trk h H) e
 refine ⟨e',?_⟩
 cases q:H b with
 | none=>rfl
 | some x =>
  have hm:b∈trk h H:=List.mem_filter.mpr ⟨List.mem_range.mpr (Heap.lt_size e'),by simp [q]⟩
  have z:(kt h H).get? b=none:=PySem.W.hideAll_none (trk h H) hm
  rw [z] at e;cases e
end L2
namespace L2
open PySem PySem.Spec PyProof.Rows
structure Mod(K:PySem.W.Frag)(mg:Str->Option Value)(base:Heap):Prop where
 kin:K.In base
 glob:base.Ns mainGlobals mg
 blt:∃mb,base.Ns builtinsNs mb/\∀x:Str,x≠"__name__"->mb x=bootBuiltins x
 nolimit:base.NoLimit
structure Cx where
 prog:Program
 w:World
 K:PySem.W.Frag
 mg:Str->Option Value
 base:Heap
 A:Around
 N:List Str
 s₀:Shared
 H₀:Hp
 env:Env
 outer:List Env
 stack:List Env
 ex:List Addr
 fn:Str->Bool
 calm:Bool
 pn:List (Addr×Obj)
 xe:Value->Shared->Prop
def frs(l:List Env):List Addr:=l.filterMap (·.frame)
abbrev Cx.fs(X:Cx):List Addr:=frs X.outer
def Vis(sc:Scope)(x:Str):Prop:=sc.names.lookup x=some .local\/sc.names.lookup x=some .cell\/sc.names.lookup x=some .free
def Loc(sc:Scope)(x:Str):Prop:=sc.names.lookup x=some .local\/sc.names.lookup x=some .cell
def zg(env:Env)(h:Heap)(m:Str->Option Value)(x:Str)(u:Value):Prop :=
 (env.kindOf x=some .local/\m x=some u)\/((env.kindOf x=some .cell\/env.kindOf x=some .free)/\∃c,env.cells.lookup x=some c/\h.IsCell c (some u))
structure Cx.Ok(X:Cx):Prop where
 mod:Mod X.K X.mg X.base
 kind:X.env.scope.kind=.function
 glob:X.env.globals=mainGlobals
 blt:X.env.builtins=builtinsNs
 above:X.s₀.heap.objs.size<=X.env.locals
 inj:∀x y c,X.env.cells.lookup x=some c->X.env.cells.lookup y=some c->x=y
 has:∀x,(X.env.kindOf x=some .cell\/X.env.kindOf x=some .free)->∃c,X.env.cells.lookup x=some c
 cab:∀x c,X.fn x=true->X.env.cells.lookup x=some c->X.s₀.heap.objs.size<=c
 hd:X.calm=true->X.A.handled=none
 frames:X.A.frames=some X.stack
 stk:X.stack=X.outer\/(X.stack=X.env::X.outer/\X.env.frame=some X.env.locals)
 exf:∀b∈X.ex,b≠X.env.locals/\∀x c,X.env.cells.lookup x=some c->c≠b
 bs:∀b o,X.base.get? b=some o->X.s₀.heap.get? b=some o/\X.H₀ b=none
 bsz:X.base.objs.size<=X.s₀.heap.objs.size
 noex:∀b o,X.base.get? b=some o->b∉X.ex
 exfs:∀b∈X.ex,b∉X.fs
 funs:X.s₀.heap.FunFrames X.base X.outer
 frf:∀b∈X.fs,X.H₀ b=none
structure Inv(X:Cx)(pins:List (Addr×Obj))(σ:List (Option V))(H:Hp)(s:Shared):Prop where
 ok:X.Ok
 os:s.os=X.s₀.os
 bare:AllBare s.gens
 base:Un X.fs X.ex X.H₀ H X.s₀.heap s.heap
 loc:∃m,s.heap.Ns X.env.locals m/\∀(i:Nat) (x:Str) (v:V),X.N[i]?=some x->σ[i]?=some (some v)->Vis X.env.scope x->∃u,RelV v u/\zg X.env s.heap m x u
 cell:∀x c,X.env.cells.lookup x=some c->∃v,s.heap.IsCell c v
 free:H X.env.locals=none
 freeC:∀x c,X.env.cells.lookup x=some c->H c=none
 pin:∀p∈X.pn++pins,s.heap.get? p.1=some p.2/\H p.1=none/\p.1≠X.env.locals/\p.1∉X.fs/\∀v,p.2.data≠.cell v
 hok:HOk X.prog X.w H s.heap
 len:σ.length=X.N.length
section
variable {X:Cx}{pins:List (Addr×Obj)}{σ:List (Option V)}{H H':Hp}{s:Shared}{h':Heap}
theorem Cx.Ok.nofr(ok:X.Ok){b:Addr}{o:Obj}(e:X.base.get? b=some o):b∉X.fs:=λhb=>by
 have:=(ok.funs.mem hb).1
 rw [e] at this;cases this
theorem Inv.bs(I:Inv X pins σ H s):∀b o,X.base.get? b=some o->s.heap.get? b=some o/\H b=none:=λb o e =>
 ⟨I.base.keep b o (I.ok.bs b o e).1 (I.ok.bs b o e).2 (I.ok.nofr e) (I.ok.noex b o e),I.base.free b o (I.ok.bs b o e).1 (I.ok.bs b o e).2 (I.ok.noex b o e)⟩
theorem Inv.bk(I:Inv X pins σ H s):∀b o,X.base.get? b=some o->s.heap.get? b=some o:=λb o e=>(I.bs b o e).1
theorem Inv.mod(I:Inv X pins σ H s):Mod X.K X.mg X.base:=I.ok.mod
theorem Inv.kIn(I:Inv X pins σ H s):X.K.In s.heap:=I.ok.mod.kin.keeps I.bk
theorem Inv.lt(I:Inv X pins σ H s):X.env.locals<s.heap.objs.size:=let ⟨_,hn,_⟩:=I.loc;hn.lt
theorem Inv.sz(I:Inv X pins σ H s):X.s₀.heap.objs.size<=s.heap.objs.size:=Nat.le_trans I.ok.above (Nat.le_of_lt I.lt)
theorem Inv.nofs(I:Inv X pins σ H s){a:Addr}(h:s.heap.objs.size<=a):a∉X.fs:=λhb=>by
 obtain ⟨_,o,ho,_⟩:=I.ok.funs.mem hb
 exact absurd (Nat.lt_of_lt_of_le (Heap.lt_size ho) (Nat.le_trans I.sz h)) (Nat.lt_irrefl _)
theorem Inv.cne(I:Inv X pins σ H s):∀x c,X.env.cells.lookup x=some c->c≠X.env.locals:=λx c e z=>by
 obtain ⟨v,o,ho,hd⟩:=I.cell x c e
 obtain ⟨m,⟨o',es,ep,ho',hd',_⟩,_⟩:=I.loc
 rw [z,ho'] at ho;cases ho;rw [hd'] at hd;cases hd
theorem Inv.funs(I:Inv X pins σ H s):s.heap.FunFrames X.base X.outer:=by
 have all:∀(l:List Env),(∀b∈frs l,b∈X.fs)->X.s₀.heap.FunFrames X.base l->s.heap.FunFrames X.base l:=by
  intro l
  induction l with
  | nil=>intro _ _;trivial
  | cons env r ih =>
   intro hs hl
   obtain ⟨hk,⟨L,o,hf,hn,ho,hd⟩,hr⟩:=hl
   have hL:L∈X.fs:=hs L (by unfold frs;rw [List.filterMap_cons,hf];exact List.mem_cons_self)
   obtain ⟨sl,e⟩:=I.base.slot L o ho (I.ok.frf L hL) hL λz=>I.ok.exfs L z hL
   exact ⟨hk,⟨L,_,hf,hn,e,hd⟩,ih (λb hb=>hs b (by unfold frs;rw [List.filterMap_cons,hf];exact List.mem_cons_of_mem _ hb)) hr⟩
 exact all X.outer (λ_ hb=>hb) I.ok.funs
theorem Inv.stack(I:Inv X pins σ H s):s.heap.FunFrames X.base X.stack:=by
 rcases I.ok.stk with e | ⟨e,hf⟩
 ·rw [e];exact I.funs
 ·rw [e]
  obtain ⟨m,hn,_⟩:=I.loc
  refine .cons (by rw [I.ok.kind];decide) hf hn ?_ I.funs
  exact Heap.get?_none_of_le (Nat.le_trans I.ok.bsz I.ok.above)
theorem Inv.stkSub(I:Inv X pins σ H s):∀b∈frs X.stack,b∈X.env.locals::X.fs:=λb hb=>by
 rcases I.ok.stk with e | ⟨e,hf⟩
 ·rw [e] at hb;exact List.mem_cons_of_mem _ hb
 ·rw [e] at hb
  unfold frs at hb
  rw [List.filterMap_cons,hf] at hb
  exact hb
theorem Inv.stkFree(I:Inv X pins σ H s):∀b∈frs X.stack,H b=none:=λb hb=>by
 rcases List.mem_cons.mp (I.stkSub b hb) with e | hb
 ·rw [e];exact I.free
 ·obtain ⟨_,o,ho,_⟩:=I.ok.funs.mem hb
  exact I.base.free b o ho (I.ok.frf b hb) λz=>I.ok.exfs b z hb
theorem Inv.step{g':Array GenState}{t':Nat}{d':Drawn}{ch:List Addr}(I:Inv X pins σ H s)
  (hch:∀b∈ch,(b∈X.ex\/X.s₀.heap.objs.size<=b)/\b≠X.env.locals/\(∀x c,X.env.cells.lookup x=some c->c≠b)/\∀p∈X.pn++pins,p.1≠b)
  (keep:∀b o,b≠X.env.locals->b∉X.fs->b∉ch->s.heap.get? b=some o->H b=none->h'.get? b=some o)
  (slot:∀b o,b≠X.env.locals->b∈X.fs->b∉ch->s.heap.get? b=some o->H b=none->∃sl,h'.get? b=some {o with slots:=sl})(free:∀b o,b∉ch->s.heap.get? b=some o->H b=none->H' b=none)
  (there:∀b o,b∉ch->s.heap.get? b=some o->∃o',h'.get? b=some o')
  (tups:∀b xs,H b=some (.tup xs)->H' b=some (.tup xs))(frzs:∀b o u,H b=some (.frz o u)->H' b=some (.frz o u))(tbls:∀b ps,H b=some (.tbl ps)->∃more,H' b=some (.tbl (ps++more)))
  (ns:∀m,s.heap.Ns X.env.locals m->h'.Ns X.env.locals m)(hok:HOk X.prog X.w H' h')(hg:AllBare g') :
  Inv X pins σ H' {s with heap:=h',gens:=g',drawn:=d',toks:=t'}:=by
 have neL:∀b o,X.s₀.heap.get? b=some o->b≠X.env.locals:=λb o e=>Nat.ne_of_lt (Nat.lt_of_lt_of_le (Heap.lt_size e) I.ok.above)
 have neC:∀b o,X.s₀.heap.get? b=some o->b∉X.ex->b∉ch:=λb o e hx hb=>by
  rcases (hch b hb).1 with z | z
  ·exact hx z
  ·exact absurd (Nat.lt_of_lt_of_le (Heap.lt_size e) z) (Nat.lt_irrefl _)
 have cellK:∀x c,X.env.cells.lookup x=some c->∀v,s.heap.IsCell c v->h'.IsCell c v:=λx c e v ⟨o,ho,hd⟩=>by
  have nch:c∉ch:=λz=>(hch c z).2.2.1 x c e rfl
  by_cases hc:c∈X.fs
  ·obtain ⟨sl,q⟩:=slot c o (I.cne x c e) hc nch ho (I.freeC x c e)
   exact ⟨_,q,hd⟩
  ·exact ⟨o,keep c o (I.cne x c e) hc nch ho (I.freeC x c e),hd⟩
 refine ⟨I.ok,I.os,hg,⟨λb o e n hb hx=>?_,λb o e n hb hx=>?_,λb o e n hx=>?_,λb o e hx=>?_,λb xs e=>tups b xs (I.base.tups b xs e),λb o xs e=>frzs b o xs (I.base.frzs b o xs e),λb ps e=>?_⟩,?_,λx c e=>?_,?_,λx c e=>?_,λp hp=>?_,hok,I.len⟩
 ·exact keep b o (neL b o e) hb (neC b o e hx) (I.base.keep b o e n hb hx) (I.base.free b o e n hx)
 ·obtain ⟨sl,e1⟩:=I.base.slot b o e n hb hx
  obtain ⟨sl',e2⟩:=slot b _ (neL b o e) hb (neC b o e hx) e1 (I.base.free b o e n hx)
  exact ⟨sl',e2⟩
 ·obtain ⟨o',e1⟩:=I.base.there b o e hx
  exact free b o' (neC b o e hx) e1 (I.base.free b o e n hx)
 ·obtain ⟨o',e1⟩:=I.base.there b o e hx
  exact there b o' (neC b o e hx) e1
 ·obtain ⟨m1,e1⟩:=I.base.tbls b ps e
  obtain ⟨m2,e2⟩:=tbls b _ e1
  exact ⟨m1++m2,by rw [e2,Array.append_assoc]⟩
 ·obtain ⟨m,hn,hl⟩:=I.loc
  refine ⟨m,ns m hn,λi x v e1 e2 e3=>?_⟩
  obtain ⟨u,r,l⟩:=hl i x v e1 e2 e3
  refine ⟨u,r,?_⟩
  rcases l with l | ⟨k,c,e,z⟩
  ·exact .inl l
  ·exact .inr ⟨k,c,e,cellK x c e _ z⟩
 ·obtain ⟨v,z⟩:=I.cell x c e
  exact ⟨v,cellK x c e v z⟩
 ·obtain ⟨m,⟨o,_,_,ho,_⟩,_⟩:=I.loc
  exact free _ o (λz=>(hch _ z).2.1 rfl) ho I.free
 ·obtain ⟨v,o,ho,hd⟩:=I.cell x c e
  exact free c o (λz=>(hch c z).2.2.1 x c e rfl) ho (I.freeC x c e)
 ·obtain ⟨e,n,ne,nf,d⟩:=I.pin p hp
  have nch:p.1∉ch:=λz=>(hch p.1 z).2.2.2 p hp rfl
  exact ⟨keep p.1 p.2 ne nf nch e n,free p.1 p.2 nch e n,ne,nf,d⟩
theorem Inv.un{t':Nat}(I:Inv X pins σ H s)(u:Un X.fs [] H H' s.heap h')(hok:HOk X.prog X.w H' h'):Inv X pins σ H' {s with heap:=h',toks:=t'}:=by
 obtain ⟨m,⟨o,es,ep,ho,r⟩,_⟩:=id I.loc
 obtain ⟨sl,hL⟩:=u.any ho I.free (by simp)
 exact I.step (g':=s.gens) (d':=s.drawn) (ch:=[]) (λ_ z=>nomatch z) (λb o _ hb _ e n=>u.keep b o e n hb (by simp)) (λb o _ hb _ e n=>u.slot b o e n hb (by simp)) (λb o _ e n=>u.free b o e n (by simp)) (λb o _ e=>u.there b o e (by simp)) u.tups u.frzs u.tbls (λm' hm=>by
  obtain ⟨o',es',ep',ho',r'⟩:=hm
  rw [ho] at ho';cases ho'
  exact ⟨_,es',ep',hL,r'⟩) hok I.bare
theorem Inv.call{g':Array GenState}{t':Nat}{d':Drawn}{ch:List Addr}(I:Inv X pins σ H s)(u:Un (frs X.stack) ch H H' s.heap h')(hok:HOk X.prog X.w H' h')(hg:AllBare g')
  (hch:∀b∈ch,(b∈X.ex\/X.s₀.heap.objs.size<=b)/\b≠X.env.locals/\(∀x c,X.env.cells.lookup x=some c->c≠b)/\∀p∈X.pn++pins,p.1≠b) :
  Inv X pins σ H' {s with heap:=h',gens:=g',drawn:=d',toks:=t'}:=by
 obtain ⟨m,⟨o,es,ep,ho,r⟩,_⟩:=id I.loc
 obtain ⟨sl,hL⟩:=u.any ho I.free λz=>(hch _ z).2.1 rfl
 exact I.step (ch:=ch) hch (λb o hL hb hc e n=>u.keep b o e n (λz=>(List.mem_cons.mp (I.stkSub b z)).elim hL hb) hc) (λb o _ _ hc e n=>u.any e n hc) (λb o hc e n=>u.free b o e n hc) (λb o hc e=>u.there b o e hc) u.tups u.frzs u.tbls (λm' hm=>by
  obtain ⟨o',es',ep',ho',r'⟩:=hm
  rw [ho] at ho';cases ho'
  exact ⟨_,es',ep',hL,r'⟩) hok hg
theorem Inv.turned{t':Nat}{it:Addr}(I:Inv X pins σ H s)(k:∀b o,b≠it->s.heap.get? b=some o->h'.get? b=some o)(hn:H it=none)(hL:it≠X.env.locals)
  (h1:it∈X.ex\/X.s₀.heap.objs.size<=it)(h2:∀x c,X.env.cells.lookup x=some c->c≠it)(h3:∀p∈X.pn++pins,p.1≠it):Inv X pins σ H {s with heap:=h',toks:=t'}:=by
 have nit:∀b u,H b=some u->b≠it:=λb u e z=>by rw [z,hn] at e;cases e
 refine I.step (g':=s.gens) (d':=s.drawn) (ch:=[it]) (λb hb=>?_) (λb o _ _ hc e _=>k b o (λz=>hc (by simp [z])) e) (λb o _ _ hc e _=>⟨o.slots,k b o (λz=>hc (by simp [z])) e⟩) (λ_ _ _ _ n=>n)
  (λb o hc e=>⟨o,k b o (λz=>hc (by simp [z])) e⟩) (λ_ _ e=>e) (λ_ _ _ e=>e) (λb ps e=>⟨#[],by rw [e];simp⟩) (λm hm=>?_) (λb u e=>?_) I.bare
 ·have e:b=it:=by simpa using hb
  subst e
  exact ⟨h1,hL,h2,h3⟩
 ·obtain ⟨o,es,ep,ho,r⟩:=hm
  exact ⟨o,es,ep,k _ o (Ne.symm hL) ho,r⟩
 ·refine (I.hok b u e).stay (λc v hc q=>k c v ?_ q) (λ_ q=>q) λ_ _ q=>q
  rcases hc with z | z
  ·rw [z];exact nit b u e
  ·exact nit c _ z
theorem Inv.tok(I:Inv X pins σ H s)(t:Nat):Inv X pins σ H {s with toks:=t}:=I.un (h':=s.heap) (t':=t) Un.refl I.hok
theorem Inv.kept{t':Nat}(I:Inv X pins σ H s)(k:∀b u,s.heap.get? b=some u->h'.get? b=some u):Inv X pins σ H {s with heap:=h',toks:=t'}:=I.un (Un.kept k) (I.hok.kept k)
theorem Inv.laid{a:Addr}{o:HO}{t':Nat}(I:Inv X pins σ H s)(k:∀b u,s.heap.get? b=some u->h'.get? b=some u)(hp:s.heap.objs.size<=a)(new:ObjOk X.prog X.w (upd H a o) h' a o) :
  Inv X pins σ (upd H a o) {s with heap:=h',toks:=t'}:=I.un (Un.laid k hp (I.hok.fresh hp)) (I.hok.laid k hp new)
theorem Inv.write{x e:Addr}{o:HO}{t':Nat}(I:Inv X pins σ H s)(mu:Mut (H x))(he:e=x\/H e=some (.own x))(k:∀b u,b≠e->s.heap.get? b=some u->h'.get? b=some u)(heo:∃u,h'.get? e=some u)
  (new:ObjOk X.prog X.w (upd H x o) h' x o):Inv X pins σ (upd H x o) {s with heap:=h',toks:=t'}:=I.un (Un.write mu he k heo) (I.hok.write mu he k heo new)
theorem Inv.weak{σ':List (Option V)}(I:Inv X pins σ H s)(hl:σ'.length=σ.length)(w:∀(i:Nat) v,σ'[i]?=some (some v)->σ[i]?=some (some v)):Inv X pins σ' H s :=
 ⟨I.ok,I.os,I.bare,I.base,let ⟨m,hn,hl'⟩:=I.loc;⟨m,hn,λi x v e1 e2 e3=>hl' i x v e1 (w i v e2) e3⟩,I.cell,I.free,I.freeC,I.pin,I.hok,hl.trans I.len⟩
theorem Inv.pins_of{pins':List (Addr×Obj)}(I:Inv X pins σ H s)(h:∀p∈pins',s.heap.get? p.1=some p.2/\H p.1=none/\p.1≠X.env.locals/\p.1∉X.fs/\∀v,p.2.data≠.cell v):Inv X pins' σ H s :=
 ⟨I.ok,I.os,I.bare,I.base,I.loc,I.cell,I.free,I.freeC,λp hp=>(List.mem_append.mp hp).elim (λz=>I.pin p (List.mem_append_left _ z)) (h p),I.hok,I.len⟩
theorem nO{N:List Str}(hN:N.Nodup){i j:Nat}{x:Str}(a:N[i]?=some x)(b:N[j]?=some x):i=j:=by
 obtain ⟨h1,e1⟩:=List.getElem?_eq_some_iff.mp a
 obtain ⟨h2,e2⟩:=List.getElem?_eq_some_iff.mp b
 exact (List.getElem_inj hN).mp (e1.trans e2.symm)
theorem kD{M:Model}{A:Around}{E:Value->Shared->Prop}{i:Nat}{x:Str}{v:V}{u:Value}{Q:Unit->Shared->Prop}(I:Inv X pins σ H s)(hN:X.N.Nodup)(hi:X.N[i]?=some x)(hx:Loc X.env.scope x)(r:RelV v u)
  (h:∀s',Inv X pins (σ.set i (some v)) H s'->(∃a,Heap.SameBut a s.heap s'.heap/\(a=X.env.locals\/X.env.cells.lookup x=some a))->Q () s')(hf:X.fn x=true\/X.env.scope.names.lookup x=some .local:=by first | exact .inl rfl | exact .inr rfl | assumption):wpAny M A (storeName X.env x u) Q E s:=by
 obtain ⟨m,hn,hl⟩:=id I.loc
 have hcls:(X.env.scope.kind==.class||(X.env.scope.kind==.module&&X.env.locals != X.env.globals))=false:=by rw [I.ok.kind];rfl
 have hiσ:i<σ.length:=by rw [I.len];exact (List.getElem?_eq_some_iff.mp hi).1
 have cne:=I.cne
 have tracked:∀{a:Addr} {h':Heap},(∃o,s.heap.get? a=some o/\H a=none)->Heap.SameBut a s.heap h'->HOk X.prog X.w H h':=λ{a h'} ha hs b ob e=>by
  obtain ⟨_,_,hfree⟩:=ha
  refine (I.hok b ob e).stay (λc w' hc q=>(hs.2 c ?_).trans q) (λ_ q=>q) λ_ _ q=>q
  rintro rfl
  rcases hc with rfl | hc
  ·rw [hfree] at e;cases e
  ·rw [hfree] at hc;cases hc
 rcases hx with hk | hk
 ·refine wpAny_storeName_local hk hn (λh' hn' hs=>?_) hcls
  obtain ⟨oL,_,_,hoL,_⟩:=id hn
  refine h _ ⟨I.ok,I.os,I.bare,⟨λb o e n hb hx=>?_,λb o e n hb hx=>?_,I.base.free,λb o e hx=>?_,I.base.tups,I.base.frzs,I.base.tbls⟩,⟨_,hn',λj y v' e1 e2 e3=>?_⟩,λy c e=>?_,I.free,I.freeC,λp hp=>?_,tracked ⟨oL,hoL,I.free⟩ hs,by simpa using I.len⟩ ⟨_,hs,.inl rfl⟩
  ·exact (hs.2 b (Nat.ne_of_lt (Nat.lt_of_lt_of_le (Heap.lt_size e) I.ok.above))).trans (I.base.keep b o e n hb hx)
  ·obtain ⟨sl,e1⟩:=I.base.slot b o e n hb hx
   exact ⟨sl,(hs.2 b (Nat.ne_of_lt (Nat.lt_of_lt_of_le (Heap.lt_size e) I.ok.above))).trans e1⟩
  ·obtain ⟨o',e1⟩:=I.base.there b o e hx
   exact ⟨o',(hs.2 b (Nat.ne_of_lt (Nat.lt_of_lt_of_le (Heap.lt_size e) I.ok.above))).trans e1⟩
  ·by_cases hj:j=i
   ·subst hj
    rw [hi] at e1;cases e1
    rw [List.getElem?_set_self hiσ] at e2
    cases e2
    exact ⟨u,r,.inl ⟨hk,by simp⟩⟩
   ·rw [List.getElem?_set_ne (Ne.symm hj)] at e2
    obtain ⟨u',r',q⟩:=hl j y v' e1 e2 e3
    refine ⟨u',r',?_⟩
    rcases q with ⟨k,e⟩ | ⟨k,c,e,z⟩
    ·refine .inl ⟨k,?_⟩
     have:y≠x:=λe=>hj (nO hN e1 (e▸hi))
     simp [this,e]
    ·exact .inr ⟨k,c,e,z.sameBut hs (cne y c e)⟩
  ·obtain ⟨w',z⟩:=I.cell y c e
   exact ⟨w',z.sameBut hs (cne y c e)⟩
  ·obtain ⟨e,n,ne,nf,d⟩:=I.pin p hp
   exact ⟨(hs.2 p.1 ne).trans e,n,ne,nf,d⟩
 ·have hfn:X.fn x=true:=by
   rcases hf with z | z
   ·exact z
   ·rw [z] at hk;cases hk
  obtain ⟨c,hc⟩:=I.ok.has x (.inl hk)
  obtain ⟨w',z⟩:=I.cell x c hc
  refine wpAny_storeName_cell I.ok.kind hk hc z (λh' hc' hs=>?_)
  obtain ⟨oc,hoc,hocd⟩:=id z
  refine h {s with heap:=h'} ⟨I.ok,I.os,I.bare,⟨λb o e n hb hx=>?_,λb o e n hb hx=>?_,I.base.free,λb o e hx=>?_,I.base.tups,I.base.frzs,I.base.tbls⟩,⟨m,hn.sameBut hs (Ne.symm (cne x c hc)),λj y v' e1 e2 e3=>?_⟩,λy c' e=>?_,I.free,I.freeC,λp hp=>?_,tracked ⟨oc,hoc,I.freeC x c hc⟩ hs,by simpa using I.len⟩ ⟨c,hs,.inr hc⟩
  ·exact (hs.2 b (Nat.ne_of_lt (Nat.lt_of_lt_of_le (Heap.lt_size e) (I.ok.cab x c hfn hc)))).trans (I.base.keep b o e n hb hx)
  ·obtain ⟨sl,e1⟩:=I.base.slot b o e n hb hx
   exact ⟨sl,(hs.2 b (Nat.ne_of_lt (Nat.lt_of_lt_of_le (Heap.lt_size e) (I.ok.cab x c hfn hc)))).trans e1⟩
  ·obtain ⟨o',e1⟩:=I.base.there b o e hx
   exact ⟨o',(hs.2 b (Nat.ne_of_lt (Nat.lt_of_lt_of_le (Heap.lt_size e) (I.ok.cab x c hfn hc)))).trans e1⟩
  ·by_cases hj:j=i
   ·subst hj
    rw [hi] at e1;cases e1
    rw [List.getElem?_set_self hiσ] at e2
    cases e2
    exact ⟨u,r,.inr ⟨.inl hk,c,hc,hc'⟩⟩
   ·rw [List.getElem?_set_ne (Ne.symm hj)] at e2
    obtain ⟨u',r',q⟩:=hl j y v' e1 e2 e3
    refine ⟨u',r',?_⟩
    rcases q with q | ⟨k,c',e,z'⟩
    ·exact .inl q
    ·refine .inr ⟨k,c',e,z'.sameBut hs ?_⟩
     rintro rfl
     exact hj (nO hN e1 (I.ok.inj _ _ _ e hc▸hi))
  ·by_cases hcc:c'=c
   ·subst hcc;exact ⟨_,hc'⟩
   ·obtain ⟨w2,z2⟩:=I.cell y c' e
    exact ⟨w2,z2.sameBut hs hcc⟩
  ·obtain ⟨e,n,ne,nf,d⟩:=I.pin p hp
   refine ⟨(hs.2 p.1 ?_).trans e,n,ne,nf,d⟩
   intro q
   rw [q,hoc] at e
   have q':oc=p.2:=Option.some.inj e
   exact d w' (by rw [← q'];exact hocd)
theorem jB{M:Model}{A:Around}{E:Value->Shared->Prop}{i:Nat}{x:Str}{v:V}{u:Value}{Q:Unit->Shared->Prop}(I:Inv X pins σ H s)(hN:X.N.Nodup)(hi:X.N[i]?=some x)(hx:Loc X.env.scope x)(r:RelV v u)
  (h:∀s',Inv X pins (σ.set i (some v)) H s'->Q () s')(hf:X.fn x=true\/X.env.scope.names.lookup x=some .local:=by first | exact .inl rfl | exact .inr rfl | assumption):wpAny M A (storeName X.env x u) Q E s :=
 kD I hN hi hx r (λs' I' _=>h s' I') hf
theorem Inv.call'{s':Shared}{ch:List Addr}(I:Inv X pins σ H s)(ho:s'.os=s.os)(u:Un (frs X.stack) ch H H' s.heap s'.heap)(hok:HOk X.prog X.w H' s'.heap)(hg:AllBare s'.gens)
  (hch:∀b∈ch,(b∈X.ex\/X.s₀.heap.objs.size<=b)/\b≠X.env.locals/\(∀x c,X.env.cells.lookup x=some c->c≠b)/\∀p∈X.pn++pins,p.1≠b):Inv X pins σ H' s':=by
 obtain ⟨h',g',d',t',o'⟩:=s'
 have e:o'=s.os:=ho
 subst e
 exact I.call (g':=g') (t':=t') (d':=d') u hok hg hch
end
abbrev XK:=Value->Option Addr->Hp->Prop
abbrev St:=List (Option V)
abbrev VK:=V->Hp->Prop
abbrev TE:=St->Hp->VK->Prop
abbrev TT:=St->Hp->(Bool->Hp->Prop)->Prop
abbrev TA:=St->Hp->(List V->Hp->Prop)->Prop
structure Ends where
 nx:St->Hp->Prop
 rt:VK
 bk:St->Hp->Prop:=λ_ _=>False
 ct:St->Hp->Prop:=λ_ _=>False
abbrev TS:=Ends->St->Hp->Prop
def EP(X:Cx)(pins:List (Addr×Obj))(σ:St)(Q:VK)(u:Value)(s':Shared):Prop:=∃v H',Inv X pins σ H' s'/\RelV v u/\Q v H'
def TP(X:Cx)(pins:List (Addr×Obj))(σ:St)(Q:Bool->Hp->Prop)(b:Bool)(s':Shared):Prop:=∃H',Inv X pins σ H' s'/\Q b H'
def AP(X:Cx)(pins:List (Addr×Obj))(σ:St)(Q:List V->Hp->Prop)(us:List Value)(s':Shared):Prop:=∃vs H',Inv X pins σ H' s'/\Vals vs us/\Q vs H'
def SP(X:Cx)(pins:List (Addr×Obj))(D:Ends)(f:Flow)(s':Shared):Prop :=
 match f with
 | .next=>∃σ' H',Inv X pins σ' H' s'/\D.nx σ' H'
 | .brk=>∃σ' H',Inv X pins σ' H' s'/\D.bk σ' H'
 | .cont=>∃σ' H',Inv X pins σ' H' s'/\D.ct σ' H'
 | .ret u=>∃v σ' H',Inv X pins σ' H' s'/\RelV v u/\D.rt v H'
def PE(X:Cx)(e:Expr)(t:TE):Prop :=
 ∀(pins:List (Addr×Obj)) (s:Shared) (σ:St) (H:Hp) (Q:VK),Inv X pins σ H s->t σ H Q->wpAny (model X.prog X.w) X.A (eval e X.env) (EP X pins σ Q) X.xe s
def PT(X:Cx)(e:Expr)(t:TT):Prop :=
 ∀(pins:List (Addr×Obj)) (s:Shared) (σ:St) (H:Hp) (Q:Bool->Hp->Prop),Inv X pins σ H s->t σ H Q->wpAny (model X.prog X.w) X.A (isTrue e X.env (eval e X.env)) (TP X pins σ Q) X.xe s
def PW(X:Cx)(e:Expr)(t:TT):Prop :=
 ∀(whole:Sem Value) (pins:List (Addr×Obj)) (s:Shared) (σ:St) (H:Hp) (Q:Bool->Hp->Prop),Inv X pins σ H s->t σ H Q->wpAny (model X.prog X.w) X.A (isTrue e X.env whole) (TP X pins σ Q) X.xe s
theorem PW.pt{X:Cx}{e:Expr}{t:TT}(h:PW X e t):PT X e t:=h _
def PA(X:Cx)(es:List Expr)(t:TA):Prop :=
 ∀(pos:Pos) (pins:List (Addr×Obj)) (s:Shared) (σ:St) (H:Hp) (Q:List V->Hp->Prop),Inv X pins σ H s->t σ H Q->wpAny (model X.prog X.w) X.A (spliced (backTo pos (starEach es X.env))) (AP X pins σ Q) X.xe s
def PS(X:Cx)(st:Stmt)(t:TS):Prop :=
 ∀(pins:List (Addr×Obj)) (s:Shared) (σ:St) (H:Hp) (D:Ends),Inv X pins σ H s->t D σ H->wpAny (model X.prog X.w) X.A (exec st X.env) (SP X pins D) X.xe s
def PSs(X:Cx)(st:List Stmt)(t:TS):Prop :=
 ∀(pins:List (Addr×Obj)) (s:Shared) (σ:St) (H:Hp) (D:Ends),Inv X pins σ H s->t D σ H->wpAny (model X.prog X.w) X.A (execs st X.env) (SP X pins D) X.xe s
theorem thn{α:Type}{t:Sem α}{Q Q':α->Shared->Prop}{M:Model}{A:Around}{E:Value->Shared->Prop}{s:Shared}(h:wpAny M A t Q E s)(hQ:∀a s,Q a s->Q' a s):wpAny M A t Q' E s:=wpAny_mono h hQ λ_ _ x=>x
end L2
namespace L2
open PySem PySem.Spec PyProof.Rows
section
variable {X:Cx}
def kn(i:Nat):TE:=fun σ H Q=>∃v,σ[i]?=some (some v)/\Q v H
def tC(v:V):TE:=λ_ H Q=>Q v H
theorem sH{i:Nat}{x:Str}{pos:Pos}(hN:X.N[i]?=some x)(hv:Vis X.env.scope x)(hd:(x==("__debug__":Str))=false:=by decide)(hcd:(x==("__classdict__":Str))=false:=by decide):PE X (.Name x pos) (kn i):=by
 intro pins s σ H Q I h
 obtain ⟨v,e,h⟩:=h
 obtain ⟨m,hn,hl⟩:=I.loc
 obtain ⟨u,r,l⟩:=hl i x v hN e hv
 have fin:EP X pins σ Q u s:=⟨v,H,I,r,h⟩
 rcases l with ⟨hk,hm⟩ | ⟨hk,c,hc,hcell⟩
 ·exact wpAny_Name (wpAny_loadName_local I.ok.kind hk hn hm fin) hd
 ·rcases hk with hk | hk
  ·exact wpAny_Name (wpAny_loadName_cell I.ok.kind hk hc hcell fin) hd
  ·exact wpAny_Name (wpAny_loadName_free I.ok.kind hk hc hcell fin hcd) hd
theorem ag{i j pos}:PE X (.Constant (.int i) j pos) (tC (.int i)):=λ_ _ _ H _ I h=>wpAny_Constant_int ⟨.int i,H,I.tok _,⟨_,rfl⟩,h⟩
theorem jX{b j pos}:PE X (.Constant (.bool b) j pos) (tC (.bl b)):=λ_ _ _ H _ I h=>Constant_bool ⟨.bl b,H,I,rfl,h⟩
theorem jV{j pos}:PE X (.Constant .none j pos) (tC .non):=λ_ _ _ H _ I h=>Constant_none ⟨.non,H,I,rfl,h⟩
theorem aE{x j pos}:PE X (.Constant (.str x) j pos) (tC (.str x)):=λ_ _ _ H _ I h=>Calls.Constant_str ⟨.str x,H,I.tok _,⟨_,rfl⟩,h⟩
def Gl(X:Cx)(x:Str):Prop:=X.env.kindOf x=some .globalImplicit
theorem jw{E:Value->Shared->Prop}{pins:List (Addr×Obj)}{s:Shared}{σ:St}{H:Hp}{x:Str}{u:Value}{pos:Pos}{Q:Value->Shared->Prop}(I:Inv X pins σ H s)(hg:Gl X x)(hm:X.mg x=some u)(h:Q u s)
  (hd:(x==("__debug__":Str))=false:=by decide):wpAny (model X.prog X.w) X.A (eval (.Name x pos) X.env) Q E s :=
 Calls.Name_function_global I.ok.kind hg (Calls.loadGlobal_global (by rw [I.ok.glob];exact I.mod.glob.keeps I.bk) hm h) hd
theorem iQ{E:Value->Shared->Prop}{pins:List (Addr×Obj)}{s:Shared}{σ:St}{H:Hp}{x:Str}{u:Value}{pos:Pos}{Q:Value->Shared->Prop}(I:Inv X pins σ H s)(hg:Gl X x)(hm:X.mg x=none)(hv:bootBuiltins x=some u)(h:Q u s)
  (hn:x≠"__name__":=by decide)(hd:(x==("__debug__":Str))=false:=by decide):wpAny (model X.prog X.w) X.A (eval (.Name x pos) X.env) Q E s:=by
 obtain ⟨mb,h1,h2⟩:=I.mod.blt
 exact Calls.Name_function_global I.ok.kind hg (Calls.loadGlobal_builtin (by rw [I.ok.glob];exact I.mod.glob.keeps I.bk) hm (by rw [I.ok.blt];exact h1.keeps I.bk) ((h2 x hn).trans hv) h) hd
theorem eV{x:Str}{v:V}{u:Value}{pos:Pos}(hg:Gl X x)(hm:X.mg x=some u)(r:RelV v u)(hd:(x==("__debug__":Str))=false:=by decide):PE X (.Name x pos) (tC v) :=
 λ_ _ _ H _ I h=>jw I hg hm ⟨v,H,I,r,h⟩ hd
theorem gs{x:Str}{v:V}{u:Value}{pos:Pos}(hg:Gl X x)(hm:X.mg x=none)(hv:bootBuiltins x=some u)(r:RelV v u)(hn:x≠"__name__":=by decide)(hd:(x==("__debug__":Str))=false:=by decide):PE X (.Name x pos) (tC v) :=
 λ_ _ _ H _ I h=>iQ I hg hm hv ⟨v,H,I,r,h⟩ hn hd
variable {a b:Expr}{ta tb:TE}{pos:Pos}
def tB(t:TE):TT:=fun σ H Q=>t σ H λx H1=>∃c,x=.bl c/\Q c H1
theorem bD{e:Expr}{t:TE}(h:PE X e t)(he:∀whole,isTrue e X.env whole=(do let v ← whole;standAt e.pos;holding [v] (truthy v)):=by intro _;rfl):PT X e (tB t):=by
 intro pins s σ H Q I hw
 refine isTrue_plain (thn (h pins s σ H _ I hw) λv s1 ⟨x,H1,I1,r1,q1⟩=>?_) (he _)
 obtain ⟨d,rfl,q⟩:=q1
 cases r1
 exact wpAny_truthy_bool ⟨H1,I1,q⟩
variable {tA tB':TT}{rest:List Expr}
def xK(t u:TT):TT:=fun σ H Q=>t σ H λc H1=>if c=true then u σ H1 Q else Q false H1
def tOr(t u:TT):TT:=fun σ H Q=>t σ H λc H1=>if c=true then Q true H1 else u σ H1 Q
def yM(t:TT):TT:=fun σ H Q=>t σ H λc H1=>Q (!c) H1
theorem eU(ha:PT X a tA):PW X (.BoolOp .And [a] pos) tA:=by
 intro wh pins s σ H Q I h
 refine isTrue_and (thn (ha pins s σ H Q I h) λc s1 e=>?_)
 cases c with
 | true=>exact isTrue_and_nil e
 | false=>exact e
theorem cX(ha:PT X a tA):PW X (.BoolOp .Or [a] pos) tA:=by
 intro wh pins s σ H Q I h
 refine isTrue_or (thn (ha pins s σ H Q I h) λc s1 e=>?_)
 cases c with
 | false=>exact isTrue_or_nil e
 | true=>exact e
theorem gK(ha:PT X a tA)(hb:PW X (.BoolOp .And (b::rest) pos) tB'):PW X (.BoolOp .And (a::b::rest) pos) (xK tA tB'):=by
 intro wh pins s σ H Q I h
 refine isTrue_and (thn (ha pins s σ H _ I h) λc s1 ⟨H1,I1,q1⟩=>?_)
 cases c with
 | true=>exact hb wh pins s1 σ H1 Q I1 q1
 | false=>exact ⟨H1,I1,q1⟩
theorem eF(ha:PT X a tA)(hb:PW X (.BoolOp .Or (b::rest) pos) tB'):PW X (.BoolOp .Or (a::b::rest) pos) (tOr tA tB'):=by
 intro wh pins s σ H Q I h
 refine isTrue_or (thn (ha pins s σ H _ I h) λc s1 ⟨H1,I1,q1⟩=>?_)
 cases c with
 | true=>exact ⟨H1,I1,q1⟩
 | false=>exact hb wh pins s1 σ H1 Q I1 q1
theorem dv(ha:PT X a tA):PT X (.UnaryOp .Not a pos) (yM tA):=by
 intro pins s σ H Q I h
 exact isTrue_not (ha pins s σ H (λc H1=>Q (!c) H1) I h)
def xJ(ta tb:TE):TE:=fun σ H Q=>ta σ H λx H1=>∃c,x=.bl c/\if c=true then tb σ H1 Q else Q (.bl false) H1
def yL(ta tb:TE):TE:=fun σ H Q=>ta σ H λx H1=>∃c,x=.bl c/\if c=true then Q (.bl true) H1 else tb σ H1 Q
def xC(ta:TE):TE:=fun σ H Q=>ta σ H λx H1=>∃c,x=.bl c/\Q (.bl (!c)) H1
theorem fX{op}{t:TE}(h:PE X a t):PE X (.BoolOp op [a] pos) t:=λpins s σ H Q I hw=>BoolOp_one (h pins s σ H Q I hw)
theorem iO(ha:PE X a ta)(hb:PE X (.BoolOp .And (b::rest) pos) tb):PE X (.BoolOp .And (a::b::rest) pos) (xJ ta tb):=by
 intro pins s σ H Q I h
 refine BoolOp_and (thn (ha pins s σ H _ I h) λv s1 ⟨x,H1,I1,r1,q1⟩=>?_)
 obtain ⟨c,rfl,q1⟩:=q1
 cases r1
 refine wpAny_truthy_bool ?_
 cases c with
 | true=>exact hb pins s1 σ H1 Q I1 q1
 | false=>exact ⟨.bl false,H1,I1,rfl,q1⟩
theorem sI(ha:PE X a ta)(hb:PE X (.BoolOp .Or (b::rest) pos) tb):PE X (.BoolOp .Or (a::b::rest) pos) (yL ta tb):=by
 intro pins s σ H Q I h
 refine BoolOp_or (thn (ha pins s σ H _ I h) λv s1 ⟨x,H1,I1,r1,q1⟩=>?_)
 obtain ⟨c,rfl,q1⟩:=q1
 cases r1
 refine wpAny_truthy_bool ?_
 cases c with
 | false=>exact hb pins s1 σ H1 Q I1 q1
 | true=>exact ⟨.bl true,H1,I1,rfl,q1⟩
theorem wL(ha:PE X a ta):PE X (.UnaryOp .Not a pos) (xC ta):=by
 intro pins s σ H Q I h
 refine UnaryOp_ (thn (ha pins s σ H _ I h) λv s1 ⟨x,H1,I1,r1,q1⟩=>?_)
 obtain ⟨c,rfl,q1⟩:=q1
 cases r1
 exact not_of (wpAny_truthy_bool ⟨.bl (!c),H1,I1,rfl,q1⟩)
def tIf(t:TT)(ta tb:TE):TE:=fun σ H Q=>t σ H λc H1=>if c=true then ta σ H1 Q else tb σ H1 Q
theorem jW{c:Expr}(hc:PT X c tA)(ha:PE X a ta)(hb:PE X b tb):PE X (.IfExp c a b pos) (tIf tA ta tb):=by
 intro pins s σ H Q I h
 refine wpAny_IfExp (thn (hc pins s σ H _ I h) λd s1 ⟨H1,I1,q1⟩=>?_)
 cases d with
 | true=>exact ha pins s1 σ H1 Q I1 q1
 | false=>exact hb pins s1 σ H1 Q I1 q1
end
end L2
namespace L2
open PySem PySem.Spec PyProof.Rows
def SqL(K:PySem.W.Frag)(H:Hp)(a:Addr)(xs:List V):Prop :=
 Rd H a (.lst xs) \/
  ∃(o:Obj) (its:Array Value) (n:Nat),K.lookup a=some o/\o.cls=.type "list"/\o.dict=none/\o.data=.seq its n/\its.size<=sizeLine/\Vals xs its.toList
def SqT(K:PySem.W.Frag)(H:Hp)(a:Addr)(xs:List V):Prop :=
 Rd H a (.tup xs) \/
  ∃(o:Obj) (its:Array Value) (n:Nat),K.lookup a=some o/\o.cls=.type "tuple"/\o.data=.seq its n/\its.size<=sizeLine/\Vals xs its.toList
def ze:Value->Option V
 | .none=>some .non
 | .bool b=>some (.bl b)
 | .int i _=>some (.int i)
 | .str x _=>some (.str x)
 | .bytes b _=>some (.byt b)
 | .float b _=>some (.flt b)
 | .ref a=>some (.ref a)
 | .type n=>some (.ty n)
 | _=>none
theorem RelV.abs{x:V}{u:Value}(r:RelV x u):ze u=some x:=by
 cases x with
 | non=>cases r;rfl
 | bl _=>cases r;rfl
 | int _=>obtain ⟨t,rfl⟩:=r;rfl
 | str _=>obtain ⟨t,rfl⟩:=r;rfl
 | byt _=>obtain ⟨t,rfl⟩:=r;rfl
 | flt _=>obtain ⟨t,rfl⟩:=r;rfl
 | ref _=>cases r;rfl
 | ty _=>cases r;rfl
theorem RelV.inj{x y:V}{u:Value}(r:RelV x u)(q:RelV y u):x=y:=Option.some.inj (r.abs.symm.trans q.abs)
theorem Vals.inj:∀{xs ys:List V} {us:List Value},Vals xs us->Vals ys us->xs=ys
 | _,_,_,.nil,.nil=>rfl
 | _,_,_,.cons r t,.cons r' t'=>by rw [r.inj r',Vals.inj t t']
section
variable {X:Cx}{pins:List (Addr×Obj)}{σ:St}{H:Hp}{s:Shared}{a:Addr}{xs ys:List V}
theorem SqL.of{K:PySem.W.Frag}(h:H a=some (.lst xs)):SqL K H a xs:=.inl (.inl h)
theorem SqT.of{K:PySem.W.Frag}(h:H a=some (.tup xs)):SqT K H a xs:=.inl (.inl h)
theorem Inv.list(I:Inv X pins σ H s)(h:SqL X.K H a xs):∃its:List Value,Vals xs its/\PlainL s.heap a its.toArray/\xs.length<=sizeLine:=by
 rcases h with h | ⟨o,its,n,hk,hc,hd,hs,hz,r⟩
 ·obtain ⟨z,its,n,r,e⟩:=h.ok I.hok
  exact ⟨its,r,⟨_,n,e,rfl,rfl,rfl⟩,z⟩
 ·refine ⟨its.toList,r,⟨o,n,I.kIn a o hk,hc,hd,by simpa using hs⟩,?_⟩
  have e:=r.length
  simp only [Array.length_toList] at e
  omega
theorem Inv.tuple(I:Inv X pins σ H s)(h:SqT X.K H a xs):∃its:List Value,Vals xs its/\IsTup s.heap a its.toArray/\xs.length<=sizeLine:=by
 rcases h with h | ⟨o,its,n,hk,hc,hs,hz,r⟩
 ·obtain ⟨z,its,r,p⟩:=h.ok I.hok
  exact ⟨its,r,p,z⟩
 ·refine ⟨its.toList,r,⟨o,I.kIn a o hk,hc,n,by simpa using hs⟩,?_⟩
  have e:=r.length
  simp only [Array.length_toList] at e
  omega
theorem Inv.list_inj(I:Inv X pins σ H s)(h:SqL X.K H a xs)(h':SqL X.K H a ys):xs=ys:=by
 obtain ⟨its,r,⟨o,n,e,_,_,d⟩,_⟩:=I.list h
 obtain ⟨its',r',⟨o',n',e',_,_,d'⟩,_⟩:=I.list h'
 rw [e] at e';cases e'
 rw [d] at d'
 injection d' with d1 _
 have:its=its':=by simpa using congrArg Array.toList d1
 subst this
 exact r.inj r'
theorem Inv.tuple_inj(I:Inv X pins σ H s)(h:SqT X.K H a xs)(h':SqT X.K H a ys):xs=ys:=by
 obtain ⟨its,r,⟨o,e,_,n,d⟩,_⟩:=I.tuple h
 obtain ⟨its',r',⟨o',e',_,n',d'⟩,_⟩:=I.tuple h'
 rw [e] at e';cases e'
 rw [d] at d'
 injection d' with d1 _
 have:its=its':=by simpa using congrArg Array.toList d1
 subst this
 exact r.inj r'
end
abbrev Cx.wish(X:Cx)(E:Value->Shared->Prop):Cx:={X with xe:=E}
abbrev Cx.nox(X:Cx):Cx:=X.wish λ_ _=>False
theorem Cx.Ok.wish{X:Cx}(ok:X.Ok)(E:Value->Shared->Prop):(X.wish E).Ok :=
 ⟨ok.mod,ok.kind,ok.glob,ok.blt,ok.above,ok.inj,ok.has,ok.cab,ok.hd,ok.frames,ok.stk,ok.exf,ok.bs,ok.bsz,ok.noex,ok.exfs,ok.funs,ok.frf⟩
theorem Cx.Ok.unwish{X:Cx}{E:Value->Shared->Prop}(ok:(X.wish E).Ok):X.Ok :=
 ⟨ok.mod,ok.kind,ok.glob,ok.blt,ok.above,ok.inj,ok.has,ok.cab,ok.hd,ok.frames,ok.stk,ok.exf,ok.bs,ok.bsz,ok.noex,ok.exfs,ok.funs,ok.frf⟩
section
variable {X:Cx}{pins:List (Addr×Obj)}{σ:St}{H:Hp}{s:Shared}{E:Value->Shared->Prop}
theorem Inv.wish(I:Inv X pins σ H s)(E:Value->Shared->Prop):Inv (X.wish E) pins σ H s:=⟨I.ok.wish E,I.os,I.bare,I.base,I.loc,I.cell,I.free,I.freeC,I.pin,I.hok,I.len⟩
theorem Inv.unwish(I:Inv (X.wish E) pins σ H s):Inv X pins σ H s:=⟨I.ok.unwish,I.os,I.bare,I.base,I.loc,I.cell,I.free,I.freeC,I.pin,I.hok,I.len⟩
theorem SP.unwish{D:Ends}{f:Flow}{s':Shared}(h:SP (X.wish E) pins D f s'):SP X pins D f s':=by
 cases f with
 | next=>obtain ⟨σ',H',I,q⟩:=h;exact ⟨σ',H',I.unwish,q⟩
 | brk=>obtain ⟨σ',H',I,q⟩:=h;exact ⟨σ',H',I.unwish,q⟩
 | cont=>obtain ⟨σ',H',I,q⟩:=h;exact ⟨σ',H',I.unwish,q⟩
 | ret u=>obtain ⟨v,σ',H',I,r,q⟩:=h;exact ⟨v,σ',H',I.unwish,r,q⟩
theorem PSs.nox{st:List Stmt}{t:TS}(h:PSs X.nox st t):PSs X st t:=λpins s σ H D I hw =>
 wpAny_mono (h pins s σ H D (I.wish _) hw) (λ_ _ q=>q.unwish) λ_ _ z=>False.elim z
end
section
variable {X:Cx}{st:Stmt}{rest:List Stmt}{t u:TS}{e:Expr}{te:TE}{pos:Pos}
def xD:TS:=λD σ H=>D.nx σ H
def yJ(t u:TS):TS:=λD σ H=>t {D with nx:=u D} σ H
theorem aA:PSs X [] xD:=λ_ _ σ H _ I h=>wpAny_execs_nil ⟨σ,H,I,h⟩
theorem af(h1:PS X st t)(h2:PSs X rest u):PSs X (st::rest) (yJ t u):=by
 intro pins s σ H D I h
 refine wpAny_execs_cons (thn (h1 pins s σ H {D with nx:=u D} I h) λf s1 q=>?_)
 cases f with
 | next =>
  obtain ⟨σ',H',I',q⟩:=q
  exact h2 pins s1 σ' H' D I' q
 | ret v=>exact q
 | brk=>exact q
 | cont=>exact q
theorem aj(h1:PS X st t):PSs X [st] t:=by
 intro pins s σ H D I h
 refine wpAny_execs_cons (thn (h1 pins s σ H D I h) λf s1 q=>?_)
 cases f with
 | next=>exact wpAny_execs_nil q
 | ret v=>exact q
 | brk=>exact q
 | cont=>exact q
theorem Inv.quiet{pins:List (Addr×Obj)}{σ:St}{H:Hp}{s:Shared}(I:Inv X pins σ H s):interactive X.env=false:=by simp [interactive,I.ok.kind]
def xG(te:TE):TS:=λD σ H=>te σ H λ_ H1=>D.nx σ H1
theorem bq(he:PE X e te)(hs:swapsWith e none pos.line X.env=pure false:=by rfl):PS X (.Expr e pos) (xG te):=by
 intro pins s σ H D I h
 exact wpAny_Expr_any (thn (he pins s σ H _ I h) λv s1 ⟨x,H1,I1,r1,q1⟩=>⟨σ,H1,I1,q1⟩) I.quiet hs
def yK(te:TE):TS:=λD σ H=>te σ H D.rt
theorem au(he:PE X e te):PS X (.Return (some e) pos) (yK te):=by
 intro pins s σ H D I h
 exact wpAny_Return_some (thn (he pins s σ H _ I h) λv s1 ⟨x,H1,I1,r1,q1⟩=>⟨x,σ,H1,I1,r1,q1⟩)
def xA:TS:=λD _ H=>D.rt .non H
theorem pY:PS X (.Return none pos) xA:=λ_ _ σ H _ I h=>wpAny_Return_none ⟨.non,σ,H,I,rfl,h⟩
def yO(c:TT)(t u:TS):TS:=λD σ H=>c σ H λb H1=>if b=true then t D σ H1 else u D σ H1
theorem aJ{c:Expr}{a b:List Stmt}{tc:TT}(hc:PT X c tc)(ha:PSs X a t)(hb:PSs X b u):PS X (.If c a b pos) (yO tc t u):=by
 intro pins s σ H D I h
 refine wpAny_If (thn (hc pins s σ H _ I h) λd s1 ⟨H1,I1,q1⟩=>?_)
 cases d with
 | true=>exact ha pins s1 σ H1 D I1 q1
 | false=>exact hb pins s1 σ H1 D I1 q1
def wf:TS:=λ_ _ _=>False
theorem aH{sts:List Stmt}:PSs X sts wf:=λ_ _ _ _ _ _ h=>h.elim
end
abbrev TG:=V->St->Hp->(St->Hp->Prop)->Prop
abbrev TGs:=List V->St->Hp->(St->Hp->Prop)->Prop
def PG(X:Cx)(target:Expr)(t:TG):Prop :=
 ∀(pins:List (Addr×Obj)) (s:Shared) (σ:St) (H:Hp) (v:V) (u:Value) (Q:St->Hp->Prop),Inv X pins σ H s->RelV v u->t v σ H Q ->
  wpAny (model X.prog X.w) X.A (assign target X.env u) (λ_ s'=>∃σ' H',Inv X pins σ' H' s'/\Q σ' H') X.xe s
def PGs(X:Cx)(ts:List Expr)(t:TGs):Prop :=
 ∀(pins:List (Addr×Obj)) (s:Shared) (σ:St) (H:Hp) (vs:List V) (us:List Value) (Q:St->Hp->Prop),Inv X pins σ H s->Vals vs us->t vs σ H Q ->
  wpAny (model X.prog X.w) X.A (assignInOrder ((assignEach ts X.env).map (·.2)) us) (λ_ s'=>∃σ' H',Inv X pins σ' H' s'/\Q σ' H') X.xe s
abbrev xt:=V->V->V->Hp->(Hp->Prop)->Prop
def yE(X:Cx)(t:xt):Prop :=
 ∀(pins:List (Addr×Obj)) (s:Shared) (σ:St) (H:Hp) (o i v:V) (ov iv u:Value) (Q:Hp->Prop),Inv X pins σ H s->RelV o ov->RelV i iv->RelV v u->t o i v H Q ->
  wpAny (model X.prog X.w) X.A (setItem ov iv u) (λ_ s'=>∃H',Inv X pins σ H' s'/\Q H') X.xe s
section
variable {X:Cx}{pos:Pos}
def ud(i:Nat):TG:=λv σ H Q=>Q (σ.set i (some v)) H
theorem aU{i:Nat}{x:Str}(hN:X.N.Nodup)(hi:X.N[i]?=some x)(hx:Loc X.env.scope x)(hf:X.fn x=true\/X.env.scope.names.lookup x=some .local:=by first | exact .inl rfl | exact .inr rfl | assumption):PG X (.Name x pos) (ud i):=by
 intro pins s σ H v u Q I r h
 exact wpAny_assign_Name (jB I hN hi hx r (λs' I'=>⟨_,H,I',h⟩) hf)
def zb:TGs:=λvs σ H Q=>vs=[]/\Q σ H
def yx(t:TG)(u:TGs):TGs:=λvs σ H Q=>∃v r,vs=v::r/\t v σ H fun σ' H'=>u r σ' H' Q
theorem gX:PGs X [] zb:=by
 intro pins s σ H vs us Q I r h
 obtain ⟨e,h⟩:=h
 subst e
 cases r
 exact assignInOrder_nil ⟨σ,H,I,h⟩
theorem bJ{e:Expr}{es:List Expr}{t:TG}{u:TGs}(h1:PG X e t)(h2:PGs X es u)
  (hs:(assignEach (e::es) X.env).map (·.2)=assign e X.env::(assignEach es X.env).map (·.2):=by rfl):PGs X (e::es) (yx t u):=by
 intro pins s σ H vs us Q I r h
 obtain ⟨v,vr,e1,h⟩:=h
 subst e1
 cases r with
 | cons r rr =>
  rw [hs]
  refine assignInOrder_cons (thn (h1 pins s σ H _ _ _ I r h) λ_ s1 ⟨σ1,H1,I1,q1⟩=>?_)
  exact h2 pins s1 σ1 H1 _ _ Q I1 rr q1
def yZ(K:PySem.W.Frag)(n:Nat)(t:TGs):TG:=λv σ H Q=>∃a xs,v=.ref a/\SqT K H a xs/\xs.length=n/\t xs σ H Q
theorem oS{es:List Expr}{k:Nat}{t:TGs}{n:Nat}(hc:X.calm=true)(h:PGs X es t)
  (hn:(assignEach es X.env).length=n:=by rfl)(hst:(assignEach es X.env).findIdx? (·.1)=none:=by rfl):PG X (.Tuple es k pos) (yZ X.K n t):=by
 intro pins s σ H v u Q I r hw
 obtain ⟨a,xs,e1,hq,hl,hw⟩:=hw
 subst e1
 cases r
 obtain ⟨its,rv,ht,hz⟩:=I.tuple hq
 refine assign_Tuple_tuple (I.ok.hd hc) ht (by simp [hn,← hl,rv.length]) hst λh' hx=>?_
 have I1:Inv X pins σ H {s with heap:=h'}:=I.kept (t':=s.toks) λb o e=>hx b o (Nat.ne_of_lt (Heap.lt_size e)) e
 exact h pins _ σ H xs _ Q I1 (by simpa using rv) hw
def za(to ti:TE)(t:xt):TG:=λv σ H Q=>to σ H λo H1=>ti σ H1 λi H2=>t o i v H2 λH3=>Q σ H3
theorem eh{o i:Expr}{to ti:TE}{t:xt}(ho:PE X o to)(hi:PE X i ti)(hs:yE X t)
  (ha:∀v,assign (.Subscript o i pos) X.env v=(do
   let ov ← holding [v] (eval o X.env)
   let iv ← holding [v,ov] (eval i X.env)
   standAt pos
   holding [v,ov,iv] (setItem ov iv v)
   release [v,ov,iv] []):=by intro _;rfl):PG X (.Subscript o i pos) (za to ti t):=by
 intro pins s σ H v u Q I r h
 rw [ha]
 refine wpAny_bind (wpAny_holding (thn (ho pins s σ H _ I h) λov s1 ⟨x,H1,I1,r1,q1⟩=>?_))
 refine wpAny_bind (wpAny_holding (thn (hi pins s1 σ H1 _ I1 q1) λiv s2 ⟨y,H2,I2,r2,q2⟩=>?_))
 refine wpAny_bind (wpAny_standAt (wpAny_bind (wpAny_holding (thn (hs pins s2 σ H2 x y v ov iv u _ I2 r1 r2 r q2) λ_ s3 ⟨H3,I3,q3⟩=>?_))))
 exact wpAny_release ⟨σ,H3,I3,q3⟩
def wn(te:TE)(g:TG):TS:=λD σ H=>te σ H λx H1=>g x σ H1 D.nx
theorem cq{tg e:Expr}{te:TE}{g:TG}(he:PE X e te)(hg:PG X tg g)(hs:swapsWithSole [tg] e pos.line X.env=pure false:=by rfl)(hw:swappedStores [tg] e X.env=pure none:=by rfl)
  (h1:(assignEach [tg] X.env).map (·.2)=[assign tg X.env]:=by rfl):PS X (.Assign [tg] e pos) (wn te g):=by
 intro pins s σ H D I h
 refine wpAny_Assign_stores (thn (he pins s σ H _ I h) λv s1 ⟨x,H1,I1,r1,q1⟩=>?_) hs hw
 rw [h1]
 exact thn (hg pins s1 σ H1 x v _ I1 r1 q1) λ_ s2 q=>q
theorem aI{i:Nat}{x:Str}{e:Expr}{te:TE}{pos':Pos}(hN:X.N.Nodup)(hi:X.N[i]?=some x)(hx:Loc X.env.scope x)(he:PE X e te)(hs:swapsWith e (some (.Name x pos')) pos.line X.env=pure false:=by rfl)(hf:X.fn x=true\/X.env.scope.names.lookup x=some .local:=by first | exact .inl rfl | exact .inr rfl | assumption) :
  PS X (.Assign [.Name x pos'] e pos) (wn te (ud i)):=by
 intro pins s σ H D I h
 refine wpAny_Assign_Name (thn (he pins s σ H _ I h) λv s1 ⟨y,H1,I1,r1,q1⟩=>?_) hs
 exact jB I1 hN hi hx r1 (λs2 I2=>⟨_,H1,I2,q1⟩) hf
end
section
variable {X:Cx}{pos:Pos}
def wc(c:TT)(tb:TS):TS:=λD σ H=>∃W:Nat->St->Hp->Prop,(∃m,W m σ H)/\∀m σ H,W m σ H ->
 c σ H λb H1=>if b=true then ∃N:St->Hp->Prop,(∀σ' H',N σ' H'->∃m',m'<m/\W m' σ' H')/\tb {D with nx:=N,ct:=N,bk:=D.nx} σ H1 else D.nx σ H1
theorem nE{c:Expr}{body:List Stmt}{tc:TT}{tb:TS}(hp:PassesOwn (model X.prog X.w) X.A X.env X.xe)(hc:PT X c tc)(hb:PSs X body tb):PS X (.While c body [] pos) (wc tc tb):=by
 intro pins s σ H D I h
 obtain ⟨W,⟨m0,w0⟩,turn⟩:=h
 refine wpAny_While (codeAny_whileLoop (λn s'=>∃σ' H',Inv X pins σ' H' s'/\W n σ' H') ?_ m0 ⟨σ,H,I,w0⟩)
 rintro n s1 ⟨σ1,H1,I1,w1⟩
 refine wpAny_passesOwn hp (thn (hc pins s1 σ1 H1 _ I1 (turn n σ1 H1 w1)) λb s2 ⟨H2,I2,q2⟩=>?_)
 cases b with
 | true =>
  obtain ⟨N,hN,q2⟩:=q2
  rw [if_pos rfl]
  refine wpAny_passesOwn hp (thn (hb pins s2 σ1 H2 _ I2 q2) λf s3 q3=>?_)
  cases f with
  | next =>
   obtain ⟨σ3,H3,I3,n3⟩:=q3
   obtain ⟨m',hm,w3⟩:=hN σ3 H3 n3
   exact ⟨m',hm,σ3,H3,I3,w3⟩
  | cont =>
   obtain ⟨σ3,H3,I3,n3⟩:=q3
   obtain ⟨m',hm,w3⟩:=hN σ3 H3 n3
   exact ⟨m',hm,σ3,H3,I3,w3⟩
  | brk=>exact q3
  | ret v=>exact q3
 | false =>
  rw [if_neg Bool.false_ne_true]
  exact wpAny_execs_nil ⟨σ1,H2,I2,q2⟩
end
structure It where
 go:Nat->Hp->Prop
 yld:Nat->Hp->V->Hp->Prop
 stop:Nat->Hp->Prop
def mV(X:Cx)(pins:List (Addr×Obj))(H:Hp)(b:Addr):Prop :=
 H b=none/\b≠X.env.locals/\b∉X.fs/\(b∈X.ex\/X.s₀.heap.objs.size<=b)/\(∀x c,X.env.cells.lookup x=some c->c≠b)/\∀p∈X.pn++pins,p.1≠b
theorem Inv.fpOk{X:Cx}{pins:List (Addr×Obj)}{σ:St}{H H':Hp}{s:Shared}{b:Addr}(I:Inv X pins σ H s)(hb:s.heap.objs.size<=b)(hn:H' b=none):mV X pins H' b:=by
 refine ⟨hn,Nat.ne_of_gt (Nat.lt_of_lt_of_le I.lt hb),I.nofs hb,.inr (Nat.le_trans I.sz hb),λx c e z=>?_,λp hp z=>?_⟩
 ·obtain ⟨v,q⟩:=I.cell x c e
  exact absurd (Nat.lt_of_lt_of_le q.lt (by rw [z];exact hb)) (Nat.lt_irrefl _)
 ·exact absurd (Nat.lt_of_lt_of_le (Heap.lt_size (I.pin p hp).1) (by rw [z];exact hb)) (Nat.lt_irrefl _)
structure rB(P:Program)(w:World)(K:PySem.W.Frag)(tg:Expr)(J:It)(fp:List Addr)(it:Addr)(tn:Nat->Heap->Prop):Prop where
 mem:it∈fp
 obj:∀i h,tn i h->∀b∈fp,∃o,h.get? b=some o/\∀v,o.data≠.cell v
 keep:∀i h h',tn i h->(∀b∈fp,∀o,h.get? b=some o->h'.get? b=some o)->tn i h'
 item:∀(X:Cx),X.prog=P->X.w=w->X.K=K->X.calm=true->∀(i:Nat) (pins:List (Addr×Obj)) (s:Shared) (σ:St) (H:Hp) (E:Value->Shared->Prop),Inv X pins σ H s->(∀b∈fp,mV X pins H b)->tn i s.heap->J.go i H ->
  wpAny (model P w) X.A (pyNext (.ref it)) (λr s1=>∃u,r=some u /\
   wpAny (model P w) X.A (letOwnedTupleGo tg (.ref it) u) (λ_ s2=>∃x H',Inv X pins σ H' s2/\RelV x u/\J.yld i H x H'/\tn (i+1) s2.heap/\∀b∈fp,H' b=none) E s1) E s
 done:∀(X:Cx),X.prog=P->X.w=w->X.K=K->X.calm=true->∀(i:Nat) (pins:List (Addr×Obj)) (s:Shared) (σ:St) (H:Hp) (E:Value->Shared->Prop),Inv X pins σ H s->(∀b∈fp,mV X pins H b)->tn i s.heap->J.stop i H ->
  wpAny (model P w) X.A (pyNext (.ref it)) (λr s1=>r=none/\Inv X pins σ H s1) E s
 self:∀(A:Around) (i:Nat) (s:Shared) (Q:Value->Shared->Prop) (E:Value->Shared->Prop),tn i s.heap->Q (.ref it) s->wpAny (model P w) A (pyIter (.ref it)) Q E s
abbrev TI:=St->Hp->(It->Hp->Prop)->Prop
def PIE(X:Cx)(pins:List (Addr×Obj))(σ:St)(tg:Expr)(R:It->Hp->Prop)(itv:Value)(s2:Shared):Prop :=
 ∃(it:Addr) (fp:List Addr) (tn:Nat->Heap->Prop) (J:It) (H':Hp),itv=.ref it/\Inv X pins σ H' s2/\rB X.prog X.w X.K tg J fp it tn/\tn 0 s2.heap/\(∀b∈fp,mV X pins H' b)/\R J H'
def PI(X:Cx)(tg iter:Expr)(wi:TI):Prop :=
 ∀(pins:List (Addr×Obj)) (s:Shared) (σ:St) (H:Hp) (R:It->Hp->Prop),Inv X pins σ H s->wi σ H R ->
  wpAny (model X.prog X.w) X.A (eval iter X.env) (λv s1=>wpAny (model X.prog X.w) X.A (pyIter v) (PIE X pins σ tg R) X.xe s1) X.xe s
theorem oj{M:Model}{A:Around}{E:Value->Shared->Prop}{s:Shared}{tg:Expr}{it:Addr}{u:Value}{o:Obj}{n:String}{vs:Array Value}{Q:Unit->Shared->Prop}(ho:s.heap.get? it=some o)(hc:o.cls=.type n)(hd:o.data=.fields vs)
  (hn:["enumerate","zip","dict_itemiterator","dict_reverseitemiterator","odict_iterator","itertools.zip_longest","itertools.pairwise"].contains n=false)(hQ:Q () s):wpAny M A (letOwnedTupleGo tg (.ref it) u) Q E s:=by
 unfold letOwnedTupleGo
 cases tg<;>first
  | exact wpAny_pure hQ
  | (cases u<;>first
    | exact wpAny_pure hQ
    | (refine wpAny_bind (wpAny_load ho ?_)
       rw [hc,hd]
       show wpAny M A (if (["enumerate","zip","dict_itemiterator","dict_reverseitemiterator","odict_iterator","itertools.zip_longest","itertools.pairwise"].contains n&&vs[0]?==some (rawInt _))=true then _ else _) Q E s
       rw [if_neg (by intro h;rw [hn,Bool.false_and] at h;cases h)]
       exact wpAny_pure hQ))
def Itl(K:PySem.W.Frag)(a:Addr):It :=
 ⟨λi H=>∃xs x,SqL K H a xs/\xs[i]?=some x,λi H x H'=>H'=H/\∀xs,SqL K H a xs->xs[i]?=some x,λi H=>∃xs,SqL K H a xs/\xs.length<=i⟩
def Itt(K:PySem.W.Frag)(a:Addr):It :=
 ⟨λi H=>∃xs x,SqT K H a xs/\xs[i]?=some x,λi H x H'=>H'=H/\∀xs,SqT K H a xs->xs[i]?=some x,λi H=>∃xs,SqT K H a xs/\xs.length<=i⟩
def Itr(lo:Int)(n:Nat):It:=⟨λi _=>i<n,λi H x H'=>H'=H/\x=.int (lo+i),λi _=>n<=i⟩
theorem qB{P:Program}{w:World}{K:PySem.W.Frag}{tg:Expr}(a it:Addr):rB P w K tg (Itl K a) [it] it (λi h=>h.IsListIter it a i) where
 mem:=by simp
 obj:=λi h st b hb=>by
  have e:b=it:=by simpa using hb
  subst e
  obtain ⟨o,e,c,d⟩:=st
  exact ⟨o,e,λv z=>by rw [d] at z;cases z⟩
 keep:=λi h h' st k=>st.at λo e=>k it (by simp) o e
 item:=by
  intro X hP hw hK hc i pins s σ H E I hf st hg
  subst hP hw hK
  obtain ⟨xs,x,hq,hx⟩:=hg
  obtain ⟨its,rv,p,hz⟩:=I.list hq
  obtain ⟨u,hu,ru⟩:=rv.get hx
  obtain ⟨f0,f1,f2,f3,f4,f5⟩:=hf it (by simp)
  refine wpAny_pyNext_list_item st p.isList (x:=u) (by simpa using hu) λh' st' sb=>?_
  have I1:Inv X pins σ H {s with heap:=h'}:=I.turned (t':=s.toks) (λb o hb e=>(sb.2 b hb).trans e) f0 f1 f3 f4 f5
  obtain ⟨o,e,c,d⟩:=id st'
  exact ⟨u,rfl,oj (s:={s with heap:=h'}) e c d (by decide) ⟨x,H,I1,ru,⟨rfl,λys hy=>by rw [I.list_inj hy hq];exact hx⟩,st',λb hb=>(hf b hb).1⟩⟩
 done:=by
  intro X hP hw hK hc i pins s σ H E I hf st hg
  subst hP hw hK
  obtain ⟨xs,hq,hx⟩:=hg
  obtain ⟨its,rv,p,hz⟩:=I.list hq
  obtain ⟨f0,f1,f2,f3,f4,f5⟩:=hf it (by simp)
  have hl:=rv.length
  exact wpAny_pyNext_list_end (I.ok.hd hc) st p.isList (by simp;omega) λh' eb=>⟨rfl,I.turned (t':=s.toks) (λb o hb e=>eb b o hb e) f0 f1 f3 f4 f5⟩
 self:=λ_ _ _ _ _ st h=>wpAny_pyIter_listiter st h
theorem oz{P:Program}{w:World}{K:PySem.W.Frag}{tg:Expr}(a it:Addr):rB P w K tg (Itt K a) [it] it (λi h=>h.IsTupleIter it a i) where
 mem:=by simp
 obj:=λi h st b hb=>by
  have e:b=it:=by simpa using hb
  subst e
  obtain ⟨o,e,c,d⟩:=st
  exact ⟨o,e,λv z=>by rw [d] at z;cases z⟩
 keep:=λi h h' st k=>st.at λo e=>k it (by simp) o e
 item:=by
  intro X hP hw hK hc i pins s σ H E I hf st hg
  subst hP hw hK
  obtain ⟨xs,x,hq,hx⟩:=hg
  obtain ⟨its,rv,p,hz⟩:=I.tuple hq
  obtain ⟨u,hu,ru⟩:=rv.get hx
  obtain ⟨f0,f1,f2,f3,f4,f5⟩:=hf it (by simp)
  refine wpAny_pyNext_tuple_item st (show s.heap.IsTuple a its.toArray from p) (x:=u) (by simpa using hu) λh' st' sb=>?_
  have I1:Inv X pins σ H {s with heap:=h'}:=I.turned (t':=s.toks) (λb o hb e=>(sb.2 b hb).trans e) f0 f1 f3 f4 f5
  obtain ⟨o,e,c,d⟩:=id st'
  exact ⟨u,rfl,oj (s:={s with heap:=h'}) e c d (by decide) ⟨x,H,I1,ru,⟨rfl,λys hy=>by rw [I.tuple_inj hy hq];exact hx⟩,st',λb hb=>(hf b hb).1⟩⟩
 done:=by
  intro X hP hw hK hc i pins s σ H E I hf st hg
  subst hP hw hK
  obtain ⟨xs,hq,hx⟩:=hg
  obtain ⟨its,rv,p,hz⟩:=I.tuple hq
  obtain ⟨f0,f1,f2,f3,f4,f5⟩:=hf it (by simp)
  have hl:=rv.length
  exact wpAny_pyNext_tuple_end (I.ok.hd hc) st (show s.heap.IsTuple a its.toArray from p) (by simp;omega) λh' eb=>⟨rfl,I.turned (t':=s.toks) (λb o hb e=>eb b o hb e) f0 f1 f3 f4 f5⟩
 self:=λ_ _ _ _ _ st h=>wpAny_pyIter_tupleiter st h
theorem jz{P:Program}{w:World}{K:PySem.W.Frag}{tg:Expr}(it:Addr)(lo:Int)(n:Nat):rB P w K tg (Itr lo n) [it] it (λi h=>IsRangeIter h it (lo+(i:Nat)*1) ((n:Int)-(i:Nat)) 1) where
 mem:=by simp
 obj:=λi h st b hb=>by
  have e:b=it:=by simpa using hb
  subst e
  exact ⟨_,st,λv z=>by
   have z':Data.fields _=Data.cell v:=z
   cases z'⟩
 keep:=λi h h' st k=>k it (by simp) _ st
 item:=by
  intro X hP hw hK hc i pins s σ H E I hf st hg
  subst hP hw hK
  obtain ⟨f0,f1,f2,f3,f4,f5⟩:=hf it (by simp)
  have W:=Walks.range (prog:=X.prog) (w:=X.w) (I.ok.hd hc) it lo 1 n
  refine W.item i s _ _ hg st λv h' tk hv st' kk=>?_
  obtain ⟨t,rfl⟩:=hv
  have I1:Inv X pins σ H {s with heap:=h',toks:=tk}:=I.turned (λb o hb e=>kk b o (by simpa using hb) e) f0 f1 f3 f4 f5
  refine ⟨_,rfl,oj (s:={s with heap:=h',toks:=tk}) (n:="range_iterator") st' rfl rfl (by decide) ⟨.int (lo+i),H,I1,⟨t,?_⟩,⟨rfl,rfl⟩,st',λb hb=>(hf b hb).1⟩⟩
  rw [Int.mul_one]
 done:=by
  intro X hP hw hK hc i pins s σ H E I hf st hg
  subst hP hw hK
  obtain ⟨f0,f1,f2,f3,f4,f5⟩:=hf it (by simp)
  exact wpAny_pyNext_range_end (I.ok.hd hc) st (by have:n<=i:=hg;omega) λh' eb=>⟨rfl,I.turned (t':=s.toks) (λb o hb e=>eb b o hb e) f0 f1 f3 f4 f5⟩
 self:=λ_ _ _ _ _ st h=>wpAny_pyIter_rangeiter st h
end L2
namespace L2
open PySem PySem.Spec PyProof.Rows
section
variable {X:Cx}{tg:Expr}
def yu(K:PySem.W.Frag)(tl:TE):TI:=fun σ H R=>tl σ H λx H1=>∃a,x=.ref a/\(∃xs,SqL K H1 a xs)/\R (Itl K a) H1
def yX(K:PySem.W.Frag)(tl:TE):TI:=fun σ H R=>tl σ H λx H1=>∃a,x=.ref a/\(∃xs,SqT K H1 a xs)/\R (Itt K a) H1
theorem bL{l:Expr}{tl:TE}(hl:PE X l tl):PI X tg l (yu X.K tl):=by
 intro pins s σ H R I h
 refine thn (hl pins s σ H _ I h) λv s1 ⟨x,H1,I1,r1,q1⟩=>?_
 obtain ⟨a,e,⟨xs,hq⟩,q⟩:=q1
 subst e
 cases r1
 obtain ⟨its,rv,p,hz⟩:=I1.list hq
 refine wpAny_pyIter_list p.isList ?_
 refine ⟨s1.heap.objs.size,[s1.heap.objs.size],_,_,H1,rfl,I1.kept (t':=s1.toks) λb o e=>Heap.get?_push_of_some _ e,qB a _,⟨_,Heap.get?_push_size _ rfl,rfl,rfl⟩,λb hb=>?_,q⟩
 have e:b=s1.heap.objs.size:=by simpa using hb
 subst e
 exact I1.fpOk (Nat.le_refl _) (I1.hok.fresh (Nat.le_refl _))
theorem oR{l:Expr}{tl:TE}(hl:PE X l tl):PI X tg l (yX X.K tl):=by
 intro pins s σ H R I h
 refine thn (hl pins s σ H _ I h) λv s1 ⟨x,H1,I1,r1,q1⟩=>?_
 obtain ⟨a,e,⟨xs,hq⟩,q⟩:=q1
 subst e
 cases r1
 obtain ⟨its,rv,p,hz⟩:=I1.tuple hq
 refine wpAny_pyIter_tuple (show s1.heap.IsTuple a its.toArray from p) ?_
 refine ⟨s1.heap.objs.size,[s1.heap.objs.size],_,_,H1,rfl,I1.kept (t':=s1.toks) λb o e=>Heap.get?_push_of_some _ e,oz a _,⟨_,Heap.get?_push_size _ rfl,rfl,rfl⟩,λb hb=>?_,q⟩
 have e:b=s1.heap.objs.size:=by simpa using hb
 subst e
 exact I1.fpOk (Nat.le_refl _) (I1.hok.fresh (Nat.le_refl _))
theorem nD{pins:List (Addr×Obj)}{σ:St}{H:Hp}{s:Shared}{R:It->Hp->Prop}{E:Value->Shared->Prop}{lo hi:Int}{t u v:Tok}{tk:Nat}(I:Inv X pins σ H s)(h1:-(2 ^ 62)<=lo)(h2:lo<2 ^ 62)(h3:-(2 ^ 62)<=hi)(h4:hi<2 ^ 62)
  (q:R (Itr lo (hi-lo).toNat) H):wpAny (model X.prog X.w) X.A (pyIter (.ref s.heap.objs.size)) (PIE X pins σ tg R) E {s with heap:=s.heap.push {cls:=.type "range",data:=.fields #[.int lo t,.int hi u,.int 1 v]},toks:=tk}:=by
 refine wpAny_pyIter_range (IsRange.new ..) (small_one h1 h2 h3 h4) ?_
 have I1:Inv X pins σ H {s with heap:=s.heap.push {cls:=.type "range",data:=.fields #[.int lo t,.int hi u,.int 1 v]},toks:=tk}:=I.kept λb o e=>Heap.get?_push_of_some _ e
 refine ⟨(s.heap.push {cls:=.type "range",data:=.fields #[.int lo t,.int hi u,.int 1 v]}).objs.size,[(s.heap.push {cls:=.type "range",data:=.fields #[.int lo t,.int hi u,.int 1 v]}).objs.size],_,_,H,rfl,
  I1.kept (t':=tk) λb o e=>Heap.get?_push_of_some _ e,jz _ lo (hi-lo).toNat,?_,λb hb=>?_,q⟩
 ·have e1:lo+((0:Nat):Int)*1=lo:=by simp
  have e2:(((hi-lo).toNat:Nat):Int)-((0:Nat):Int)=Builtin.Range.rangeSize lo hi 1:=by rw [rangeSize_one];split<;>omega
  show IsRangeIter _ _ (lo+((0:Nat):Int)*1) ((((hi-lo).toNat:Nat):Int)-((0:Nat):Int)) 1
  rw [e1,e2]
  exact Heap.get?_push_size _ rfl
 ·have e:b=(s.heap.push {cls:=.type "range",data:=.fields #[.int lo t,.int hi u,.int 1 v]}).objs.size:=by simpa using hb
  subst e
  exact I1.fpOk (Nat.le_refl _) (I1.hok.fresh (Nat.le_refl _))
def yt(ta:TA):TI:=fun σ H R=>ta σ H λvs H1=>∃j:Int,vs=[.int j]/\-(2 ^ 62)<=j/\j<2 ^ 62/\R (Itr 0 j.toNat) H1
def yr(ta:TA):TI:=fun σ H R=>ta σ H λvs H1=>∃i j:Int,vs=[.int i,.int j]/\(-(2 ^ 62)<=i/\i<2 ^ 62/\-(2 ^ 62)<=j/\j<2 ^ 62)/\R (Itr i (j-i).toNat) H1
theorem bo{a:Expr}{ta:TA}{p pos:Pos}(hg:Gl X "range")(hm:X.mg "range"=none)(ha:PA X [a] ta)(hs:starEach [a] X.env=[(false,eval a X.env)]:=by rfl):PI X tg (.Call (.Name "range" p) [a] [] pos) (yt ta):=by
 intro pins s σ H R I h
 refine Call_ (iQ I hg hm boot_range (PyProof.Rows.callWith_type1 (thn (ha pos pins s σ H _ I h) λus s1 ⟨vs,H1,I1,r1,q1⟩=>?_) hs rfl))
 obtain ⟨j,e,q1,q2,q⟩:=q1
 subst e
 cases r1 with
 | cons r rr =>
  cases rr
  obtain ⟨t,rfl⟩:=r
  exact call_range_1 (nD I1 (by omega) (by omega) q1 q2 (by simpa using q))
theorem kK{a b:Expr}{ta:TA}{p pos:Pos}(hg:Gl X "range")(hm:X.mg "range"=none)(ha:PA X [a,b] ta)(hs:starEach [a,b] X.env=[(false,eval a X.env),(false,eval b X.env)]:=by rfl)(hs2:starEach [b] X.env=[(false,eval b X.env)]:=by rfl) :
  PI X tg (.Call (.Name "range" p) [a,b] [] pos) (yr ta):=by
 intro pins s σ H R I h
 refine Call_ (iQ I hg hm boot_range (PyProof.Rows.callWith_type1 (thn (ha pos pins s σ H _ I h) λus s1 ⟨vs,H1,I1,r1,q1⟩=>?_) (by rw [hs,hs2]) (by rw [hs2];rfl)))
 obtain ⟨i,j,e,⟨q1,q2,q3,q4⟩,q⟩:=q1
 subst e
 cases r1 with
 | cons r rr =>
  cases rr with
  | cons r' rr =>
   cases rr
   obtain ⟨t,rfl⟩:=r
   obtain ⟨t',rfl⟩:=r'
   exact call_range_2 (nD I1 q1 q2 q3 q4 q)
def yP(wi:TI)(g:TG)(tb:TS):TS:=λD σ H=>wi σ H λJ H1=>∃W:Nat->Nat->St->Hp->Prop,(∃m,W 0 m σ H1)/\∀i m σ H,W i m σ H ->
 (J.stop i H/\D.nx σ H)\/(J.go i H/\∃N:St->Hp->Prop,(∀σ' H',N σ' H'->∃m',m'<m/\W (i+1) m' σ' H')/\∀x H',J.yld i H x H'->g x σ H' fun σ2 H2=>tb {D with nx:=N,ct:=N,bk:=D.nx} σ2 H2)
def iM(fp:List Addr)(h:Heap):List (Addr×Obj):=fp.filterMap λb=>(h.get? b).map λo=>(b,o)
theorem cL{fp:List Addr}{h:Heap}{b:Addr}{o:Obj}(hb:b∈fp)(e:h.get? b=some o):(b,o)∈iM fp h:=List.mem_filterMap.mpr ⟨b,hb,by rw [e];rfl⟩
theorem qS{fp:List Addr}{h:Heap}{p:Addr×Obj}(hp:p∈iM fp h):p.1∈fp/\h.get? p.1=some p.2:=by
 obtain ⟨b,hb,e⟩:=List.mem_filterMap.mp hp
 cases q:h.get? b with
 | none=>rw [q] at e;cases e
 | some o =>
  rw [q] at e
  have e':(b,o)=p:=Option.some.inj e
  subst e'
  exact ⟨hb,q⟩
theorem Inv.pinned{pins:List (Addr×Obj)}{σ:St}{H:Hp}{s:Shared}{fp:List Addr}(I:Inv X pins σ H s)(hf:∀b∈fp,mV X pins H b)(ho:∀b∈fp,∃o,s.heap.get? b=some o/\∀v,o.data≠.cell v):Inv X (pins++iM fp s.heap) σ H s :=
 I.pins_of λp hp=>(List.mem_append.mp hp).elim (λz=>I.pin p (List.mem_append_right _ z)) λz=>by
  obtain ⟨hb,e⟩:=qS z
  obtain ⟨f0,f1,f2,_⟩:=hf p.1 hb
  obtain ⟨o,e',d⟩:=ho p.1 hb
  rw [e] at e';cases e'
  exact ⟨e,f0,f1,f2,d⟩
theorem Inv.unpinned{pins pl:List (Addr×Obj)}{σ:St}{H:Hp}{s:Shared}(I:Inv X (pins++pl) σ H s):Inv X pins σ H s:=I.pins_of λp hp=>I.pin p (List.mem_append_right _ (List.mem_append_left _ hp))
theorem cK{iter:Expr}{body:List Stmt}{wi:TI}{g:TG}{tb:TS}{pos:Pos}(hp:PassesOwn (model X.prog X.w) X.A X.env X.xe)(hc:X.calm=true)(hi:PI X tg iter wi)(hg:PG X tg g)(hb:PSs X body tb)
  (hs:∀x,foldedSetIterable iter X.env x=pure x:=by intro _;rfl):PS X (.For tg iter body [] pos) (yP wi g tb):=by
 intro pins s σ H D I h
 refine wpAny_For (thn (hi pins s σ H _ I h) λv s1 h1=>thn h1 λitv s2 h2=>?_) hs
 obtain ⟨it,fp,tn,J,H2,e,I2,T,st2,f2,W,⟨m0,w0⟩,turn⟩:=h2
 subst e
 have stat:∀{H':Hp},(∀b∈fp,H' b=none)->∀b∈fp,mV X pins H' b:=λhn b hb=>⟨hn b hb,(f2 b hb).2⟩
 refine codeAny_forLoop_any (λn s'=>∃i σ' H',Inv X pins σ' H' s'/\tn i s'.heap/\(∀b∈fp,H' b=none)/\W i n σ' H') ?_ m0 ⟨0,σ,H2,I2,st2,λb hb=>(f2 b hb).1,w0⟩
 rintro n s3 ⟨i,σ3,H3,I3,st3,fr3,w3⟩
 rcases turn i n σ3 H3 w3 with ⟨stop,qn⟩ | ⟨go,N,hN,step⟩
 ·refine wpAny_passesOwn hp (thn (T.done X rfl rfl rfl hc i pins s3 σ3 H3 X.xe I3 (stat fr3) st3 stop) λr s4 ⟨hr,I4⟩=>?_)
  subst hr
  exact wpAny_execs_nil ⟨σ3,H3,I4,qn⟩
 ·refine wpAny_passesOwn hp (thn (T.item X rfl rfl rfl hc i pins s3 σ3 H3 X.xe I3 (stat fr3) st3 go) λr s4 ⟨u,hr,h4⟩=>?_)
  subst hr
  refine wpAny_passesOwn hp (thn h4 λ_ s5 ⟨x,H5,I5,r5,y5,st5,fr5⟩=>?_)
  have I5':=I5.pinned (stat fr5) (T.obj _ _ st5)
  refine wpAny_passesOwn hp (thn (hg _ s5 σ3 H5 x u _ I5' r5 (step x H5 y5)) λ_ s6 ⟨σ6,H6,I6,q6⟩=>?_)
  refine wpAny_passesOwn hp (thn (hb _ s6 σ6 H6 _ I6 q6) λf s7 q7=>?_)
  have again:∀{σ7:St} {H7:Hp},Inv X (pins++iM fp s5.heap) σ7 H7 s7->N σ7 H7->∃m,m<n/\∃i σ' H',Inv X pins σ' H' s7/\tn i s7.heap/\(∀b∈fp,H' b=none)/\W i m σ' H':=λ{σ7 H7} I7 n7=>by
   obtain ⟨m',hm,w7⟩:=hN σ7 H7 n7
   refine ⟨m',hm,i+1,σ7,H7,I7.unpinned,T.keep _ _ _ st5 λb hb o e=>(I7.pin (b,o) (List.mem_append_right _ (List.mem_append_right _ (cL hb e)))).1,λb hb=>?_,w7⟩
   obtain ⟨o,e,d⟩:=T.obj _ _ st5 b hb
   exact (I7.pin (b,o) (List.mem_append_right _ (List.mem_append_right _ (cL hb e)))).2.1
  cases f with
  | next=>obtain ⟨σ7,H7,I7,n7⟩:=q7;exact again I7 n7
  | cont=>obtain ⟨σ7,H7,I7,n7⟩:=q7;exact again I7 n7
  | brk=>obtain ⟨σ7,H7,I7,q7⟩:=q7;exact ⟨σ7,H7,I7.unpinned,q7⟩
  | ret v=>obtain ⟨x7,σ7,H7,I7,r7,q7⟩:=q7;exact ⟨x7,σ7,H7,I7.unpinned,r7,q7⟩
end
theorem on{K:PySem.W.Frag}{a:Addr}{xs:List V}{g:TG}{tb:TS}{D:Ends}{σ:St}{H:Hp}(Pv:Nat->St->Hp->Prop)(h0:Pv 0 σ H)(hl:∀i σ H,i<=xs.length->Pv i σ H->SqL K H a xs)
  (hs:∀i x σ H,xs[i]?=some x->Pv i σ H->g x σ H fun σ2 H2=>tb {D with nx:=Pv (i+1),ct:=Pv (i+1),bk:=D.nx} σ2 H2)(hd:∀σ H,Pv xs.length σ H->D.nx σ H) :
  ∃W:Nat->Nat->St->Hp->Prop,(∃m,W 0 m σ H)/\∀i m σ H,W i m σ H ->
   ((Itl K a).stop i H/\D.nx σ H)\/((Itl K a).go i H/\∃N:St->Hp->Prop,(∀σ' H',N σ' H'->∃m',m'<m/\W (i+1) m' σ' H')/\∀x H',(Itl K a).yld i H x H'->g x σ H' fun σ2 H2=>tb {D with nx:=N,ct:=N,bk:=D.nx} σ2 H2):=by
 refine ⟨λi m σ H=>m=xs.length-i/\i<=xs.length/\Pv i σ H,⟨xs.length,by simp,Nat.zero_le _,h0⟩,?_⟩
 rintro i m σ H ⟨rfl,hi,p⟩
 have q:=hl i σ H hi p
 by_cases hlt:i<xs.length
 ·refine .inr ⟨⟨xs,xs[i],q,by simp [hlt]⟩,Pv (i+1),fun σ' H' p'=>⟨xs.length-(i+1),by omega,rfl,hlt,p'⟩,λx H' y=>?_⟩
  obtain ⟨e,y⟩:=y
  subst e
  exact hs i x σ _ (y xs q) p
 ·have e:i=xs.length:=by omega
  subst e
  exact .inl ⟨⟨xs,q,Nat.le_refl _⟩,hd σ H p⟩
theorem mE{K:PySem.W.Frag}{a:Addr}{xs:List V}{g:TG}{tb:TS}{D:Ends}{σ:St}{H:Hp}(Pv:Nat->St->Hp->Prop)(h0:Pv 0 σ H)(hl:∀i σ H,i<=xs.length->Pv i σ H->SqT K H a xs)
  (hs:∀i x σ H,xs[i]?=some x->Pv i σ H->g x σ H fun σ2 H2=>tb {D with nx:=Pv (i+1),ct:=Pv (i+1),bk:=D.nx} σ2 H2)(hd:∀σ H,Pv xs.length σ H->D.nx σ H) :
  ∃W:Nat->Nat->St->Hp->Prop,(∃m,W 0 m σ H)/\∀i m σ H,W i m σ H ->
   ((Itt K a).stop i H/\D.nx σ H)\/((Itt K a).go i H/\∃N:St->Hp->Prop,(∀σ' H',N σ' H'->∃m',m'<m/\W (i+1) m' σ' H')/\∀x H',(Itt K a).yld i H x H'->g x σ H' fun σ2 H2=>tb {D with nx:=N,ct:=N,bk:=D.nx} σ2 H2):=by
 refine ⟨λi m σ H=>m=xs.length-i/\i<=xs.length/\Pv i σ H,⟨xs.length,by simp,Nat.zero_le _,h0⟩,?_⟩
 rintro i m σ H ⟨rfl,hi,p⟩
 have q:=hl i σ H hi p
 by_cases hlt:i<xs.length
 ·refine .inr ⟨⟨xs,xs[i],q,by simp [hlt]⟩,Pv (i+1),fun σ' H' p'=>⟨xs.length-(i+1),by omega,rfl,hlt,p'⟩,λx H' y=>?_⟩
  obtain ⟨e,y⟩:=y
  subst e
  exact hs i x σ _ (y xs q) p
 ·have e:i=xs.length:=by omega
  subst e
  exact .inl ⟨⟨xs,q,Nat.le_refl _⟩,hd σ H p⟩
theorem bZ{lo:Int}{n:Nat}{g:TG}{tb:TS}{D:Ends}{σ:St}{H:Hp}(Pv:Nat->St->Hp->Prop)(h0:Pv 0 σ H)
  (hs:∀i σ H,i<n->Pv i σ H->g (.int (lo+i)) σ H fun σ2 H2=>tb {D with nx:=Pv (i+1),ct:=Pv (i+1),bk:=D.nx} σ2 H2)(hd:∀σ H,Pv n σ H->D.nx σ H) :
  ∃W:Nat->Nat->St->Hp->Prop,(∃m,W 0 m σ H)/\∀i m σ H,W i m σ H ->
   ((Itr lo n).stop i H/\D.nx σ H)\/((Itr lo n).go i H/\∃N:St->Hp->Prop,(∀σ' H',N σ' H'->∃m',m'<m/\W (i+1) m' σ' H')/\∀x H',(Itr lo n).yld i H x H'->g x σ H' fun σ2 H2=>tb {D with nx:=N,ct:=N,bk:=D.nx} σ2 H2):=by
 refine ⟨λi m σ H=>m=n-i/\i<=n/\Pv i σ H,⟨n,by simp,Nat.zero_le _,h0⟩,?_⟩
 rintro i m σ H ⟨rfl,hi,p⟩
 by_cases hlt:i<n
 ·refine .inr ⟨hlt,Pv (i+1),fun σ' H' p'=>⟨n-(i+1),by omega,rfl,hlt,p'⟩,λx H' y=>?_⟩
  obtain ⟨e,y⟩:=y
  subst e y
  exact hs i σ _ hlt p
 ·have e:i=n:=by omega
  subst e
  exact .inl ⟨Nat.le_refl _,hd σ H p⟩
end L2
namespace L2
open PySem PySem.Spec PyProof.Rows
abbrev R2:=V->V->Hp->VK->Prop
def OpR(X:Cx)(f:Value->Value->Sem Value)(r:R2):Prop :=
 ∀(pins:List (Addr×Obj)) (s:Shared) (σ:St) (H:Hp) (x y:V) (v u:Value) (Q:VK),Inv X pins σ H s->RelV x v->RelV y u->r x y H Q ->
  wpAny (model X.prog X.w) X.A (f v u) (EP X pins σ Q) X.xe s
def UnR(X:Cx)(f:Value->Sem Value)(r:V->Hp->VK->Prop):Prop :=
 ∀(pins:List (Addr×Obj)) (s:Shared) (σ:St) (H:Hp) (x:V) (v:Value) (Q:VK),Inv X pins σ H s->RelV x v->r x H Q ->
  wpAny (model X.prog X.w) X.A (f v) (EP X pins σ Q) X.xe s
def dm(X:Cx)(f:Value)(r:List V->Hp->VK->Prop):Prop :=
 ∀(pins:List (Addr×Obj)) (s:Shared) (σ:St) (H:Hp) (xs:List V) (us:List Value) (Q:VK),Inv X pins σ H s->Vals xs us->r xs H Q ->
  wpAny (model X.prog X.w) X.A (call f us) (EP X pins σ Q) X.xe s
def zf(X:Cx)(r:V->Hp->(Bool->Hp->Prop)->Prop):Prop :=
 ∀(pins:List (Addr×Obj)) (s:Shared) (σ:St) (H:Hp) (x:V) (v:Value) (Q:Bool->Hp->Prop),Inv X pins σ H s->RelV x v->r x H Q ->
  wpAny (model X.prog X.w) X.A (truthy v) (TP X pins σ Q) X.xe s
def tOp(r:R2)(ta tb:TE):TE:=fun σ H Q=>ta σ H λx H1=>tb σ H1 λy H2=>r x y H2 Q
def tUn(r:V->Hp->VK->Prop)(ta:TE):TE:=fun σ H Q=>ta σ H λx H1=>r x H1 Q
def rI(C:Int->Int->Prop)(g:Int->Int->V):R2:=λx y H Q=>∃i j,x=.int i/\y=.int j/\C i j/\Q (g i j) H
def rI0(g:Int->Int->V):R2:=λx y H Q=>∃i j,x=.int i/\y=.int j/\Q (g i j) H
def rU(g:Int->V):V->Hp->VK->Prop:=λx H Q=>∃i,x=.int i/\Q (g i) H
section
variable {X:Cx}{a b c:Expr}{ta tb tc:TE}{pos:Pos}
theorem xq(ha:PE X a ta)(hb:PE X b tb){pins:List (Addr×Obj)}{s:Shared}{σ:St}{H:Hp}{R:V->V->Hp->Prop}(I:Inv X pins σ H s)
  (h:ta σ H λx H1=>tb σ H1 λy H2=>R x y H2){Q:Value->Shared->Prop}{f:Value->Value->Sem Value}
  (hf:∀v u s2 x y H2,Inv X pins σ H2 s2->RelV x v->RelV y u->R x y H2->wpAny (model X.prog X.w) X.A (f v u) Q X.xe s2) :
  wpAny (model X.prog X.w) X.A (eval a X.env) (λv s₁=>wpAny (model X.prog X.w) X.A (eval b X.env) (λu s₂=>wpAny (model X.prog X.w) X.A (f v u) Q X.xe s₂) X.xe s₁) X.xe s:=by
 refine thn (ha pins s σ H _ I h) λv s1 ⟨x,H1,I1,r1,q1⟩=>?_
 refine thn (hb pins s1 σ H1 _ I1 q1) λu s2 ⟨y,H2,I2,r2,q2⟩=>?_
 exact hf v u s2 x y H2 I2 r1 r2 q2
theorem aF{op:Operator}{r:R2}(ho:OpR X (binaryOp op) r)(ha:PE X a ta)(hb:PE X b tb):PE X (.BinOp a op b pos) (tOp r ta tb):=by
 intro pins s σ H Q I h
 exact wpAny_BinOp (xq ha hb I h λv u s2 x y H2 I2 rx ry q=>ho pins s2 σ H2 x y v u Q I2 rx ry q)
theorem kL{op:UnaryOp}{r:V->Hp->VK->Prop}(ho:UnR X (unaryOp op) r)(ha:PE X a ta):PE X (.UnaryOp op a pos) (tUn r ta):=by
 intro pins s σ H Q I h
 exact UnaryOp_ (thn (ha pins s σ H _ I h) λv s1 ⟨x,H1,I1,r1,q1⟩=>ho pins s1 σ H1 x v Q I1 r1 q1)
theorem opI{f:Value->Value->Sem Value}{C:Int->Int->Prop}{g:Int->Int->Int}
  (rule:∀(i j:Int) (t u:Tok) (s:Shared) (Q:Value->Shared->Prop) (E:Value->Shared->Prop),C i j->Q (.int (g i j) s.toks) {s with toks:=s.toks+1}->wpAny (model X.prog X.w) X.A (f (.int i t) (.int j u)) Q E s) :
  OpR X f (rI C λi j=>.int (g i j)):=by
 intro pins s σ H x y v u Q I rx ry h
 obtain ⟨i,j,rfl,rfl,hc,q⟩:=h
 obtain ⟨t,rfl⟩:=rx
 obtain ⟨t',rfl⟩:=ry
 exact rule i j t t' s _ _ hc ⟨.int (g i j),H,I.tok _,⟨_,rfl⟩,q⟩
theorem xW{f:Value->Value->Sem Value}{g:Int->Int->Int}
  (rule:∀(i j:Int) (t u:Tok) (s:Shared) (Q:Value->Shared->Prop) (E:Value->Shared->Prop),Q (.int (g i j) s.toks) {s with toks:=s.toks+1}->wpAny (model X.prog X.w) X.A (f (.int i t) (.int j u)) Q E s) :
  OpR X f (rI0 λi j=>.int (g i j)):=by
 intro pins s σ H x y v u Q I rx ry h
 obtain ⟨i,j,rfl,rfl,q⟩:=h
 obtain ⟨t,rfl⟩:=rx
 obtain ⟨t',rfl⟩:=ry
 exact rule i j t t' s _ _ ⟨.int (g i j),H,I.tok _,⟨_,rfl⟩,q⟩
theorem wP{f:Value->Value->Sem Value}{g:Int->Int->Bool}
  (rule:∀(i j:Int) (t u:Tok) (s:Shared) (Q:Value->Shared->Prop) (E:Value->Shared->Prop),Q (.bool (g i j)) s->wpAny (model X.prog X.w) X.A (f (.int i t) (.int j u)) Q E s) :
  OpR X f (rI0 λi j=>.bl (g i j)):=by
 intro pins s σ H x y v u Q I rx ry h
 obtain ⟨i,j,rfl,rfl,q⟩:=h
 obtain ⟨t,rfl⟩:=rx
 obtain ⟨t',rfl⟩:=ry
 exact rule i j t t' s _ _ ⟨.bl (g i j),H,I,rfl,q⟩
def zi(i j:Int):Prop:=0<j/\j<1073741824
def zh(i j:Int):Prop:=0<=j/\j<=1000000/\i.natAbs<2 ^ 64
def CMul(i j:Int):Prop:=(-(2 ^ 64)<i/\i<2 ^ 64)\/(-(2 ^ 64)<j/\j<2 ^ 64)
theorem CMul.ok{i j:Int}(h:CMul i j):IntMulOk i j:=by
 rcases h with ⟨h1,h2⟩ | ⟨h1,h2⟩
 ·exact .of_left (intBits_le_64 h1 h2)
 ·exact .of_right (intBits_le_64 h1 h2)
theorem bc:OpR X (binaryOp .Add) (rI0 λi j=>.int (i+j)):=xW λ_ _ _ _ _ _ _ q=>add_int q
theorem gN:OpR X (binaryOp .Sub) (rI0 λi j=>.int (i-j)):=xW λ_ _ _ _ _ _ _ q=>sub_int q
theorem eo:OpR X (binaryOp .Mult) (rI CMul λi j=>.int (i*j)):=opI λ_ _ _ _ _ _ _ hc q=>mul_int q hc.ok
theorem g7:OpR X (binaryOp .FloorDiv) (rI zi λi j=>.int (i/j)):=opI λi j _ _ _ _ _ hc q=>by
 have h1:(0:Int)<j:=hc.1
 have h2:j<1073741824:=hc.2
 exact floordiv_int (by omega) (by rw [Int.fdiv_eq_ediv_of_nonneg i (by omega)];exact q) (.inl (PyProof.noPylong_small (by omega)))
theorem bn:OpR X (binaryOp .Mod) (rI (λ_ j=>0<j) λi j=>.int (i%j)):=opI λi j _ _ _ _ _ hc q=>by
 have h1:(0:Int)<j:=hc
 exact mod_int' (by omega) (by rw [Int.fmod_eq_emod_of_nonneg i (by omega)];exact q)
theorem oT:OpR X (binaryOp .Pow) (rI zh λi j=>.int (i ^ j.toNat)):=opI λ_ _ _ _ _ _ _ hc q=>pow_int_small hc.1 hc.2.1 hc.2.2 q
theorem unI{f:Value->Sem Value}{g:Int->Int}
  (rule:∀(i:Int) (t:Tok) (s:Shared) (Q:Value->Shared->Prop) (E:Value->Shared->Prop),Q (.int (g i) s.toks) {s with toks:=s.toks+1}->wpAny (model X.prog X.w) X.A (f (.int i t)) Q E s) :
  UnR X f (rU λi=>.int (g i)):=by
 intro pins s σ H x v Q I rx h
 obtain ⟨i,rfl,q⟩:=h
 obtain ⟨t,rfl⟩:=rx
 exact rule i t s _ _ ⟨.int (g i),H,I.tok _,⟨_,rfl⟩,q⟩
theorem im:UnR X (unaryOp .USub) (rU λi=>.int (-i)):=unI λ_ _ _ _ _ q=>neg_int q
end
def xM:V->V->Bool
 | .non,.non=>true | .non,.int _=>true | .int _,.non=>true | .non,.bl _=>true | .bl _,.non=>true | .non,.str _=>true | .str _,.non=>true
 | .int _,.int _=>true | .bl _,.bl _=>true | .str _,.str _=>true | .byt _,.byt _=>true
 | .int _,.str _=>true | .str _,.int _=>true | .bl _,.str _=>true | .str _,.bl _=>true
 | _,_=>false
def rEq:R2:=λx y H Q=>xM x y=true/\Q (.bl (decide (x=y))) H
def rNe:R2:=λx y H Q=>xM x y=true/\Q (.bl (!decide (x=y))) H
theorem mJ{i j:Int}:decide (V.int i=V.int j)=(i==j):=by
 rw [Bool.eq_iff_iff]
 simp
theorem uk{i j:Bool}:decide (V.bl i=V.bl j)=(i==j):=by
 rw [Bool.eq_iff_iff]
 simp
theorem qk{i j:Str}:decide (V.str i=V.str j)=(i==j):=by
 rw [Bool.eq_iff_iff]
 simp
theorem ql{i j:Array UInt8}:decide (V.byt i=V.byt j)=(i.toList==j.toList):=by
 rw [Bool.eq_iff_iff]
 cases i
 cases j
 simp
section
variable {X:Cx}{a b c:Expr}{ta tb tc:TE}{pos:Pos}
theorem aW{pins:List (Addr×Obj)}{σ:St}{H:Hp}{s:Shared}{Q:VK}{k k':Bool}(I:Inv X pins σ H s)(q:Q (.bl k) H)(e:k=k'):EP X pins σ Q (.bool k') s:=by
 subst e
 exact ⟨.bl k,H,I,rfl,q⟩
theorem a9:OpR X (compareOp .Eq) rEq:=by
 intro pins s σ H x y v u Q I rx ry h
 obtain ⟨hs,q⟩:=h
 cases x with
 | non =>
  cases rx
  cases y with
  | non=>cases ry;exact PySem.EqNone.eq_none_none (aW I q (by simp))
  | bl j=>cases ry;exact PySem.EqNone.eq_none_bool (aW I q (by simp))
  | int j=>obtain ⟨t',rfl⟩:=ry;exact PySem.EqNone.eq_none_int (aW I q (by simp))
  | str j=>obtain ⟨t',rfl⟩:=ry;exact PySem.EqNone.eq_none_str (aW I q (by simp))
  | _=>exact absurd (show false=true from hs) Bool.false_ne_true
 | bl i =>
  cases rx
  cases y with
  | non=>cases ry;exact PySem.EqNone.eq_bool_none (aW I q (by simp))
  | bl j=>cases ry;exact eq_bool (aW I q uk)
  | str j=>obtain ⟨t',rfl⟩:=ry;exact PySem.EqMixed.eq_bool_str (aW I q (by simp))
  | _=>exact absurd (show false=true from hs) Bool.false_ne_true
 | int i =>
  obtain ⟨t,rfl⟩:=rx
  cases y with
  | non=>cases ry;exact PySem.EqNone.eq_int_none (aW I q (by simp))
  | int j=>obtain ⟨t',rfl⟩:=ry;exact eq_int (aW I q mJ)
  | str j=>obtain ⟨t',rfl⟩:=ry;exact PySem.EqMixed.eq_int_str (aW I q (by simp))
  | _=>exact absurd (show false=true from hs) Bool.false_ne_true
 | str i =>
  obtain ⟨t,rfl⟩:=rx
  cases y with
  | non=>cases ry;exact PySem.EqNone.eq_str_none (aW I q (by simp))
  | bl j=>cases ry;exact PySem.EqMixed.eq_str_bool (aW I q (by simp))
  | int j=>obtain ⟨t',rfl⟩:=ry;exact PySem.EqMixed.eq_str_int (aW I q (by simp))
  | str j=>obtain ⟨t',rfl⟩:=ry;exact eq_str (aW I q qk)
  | _=>exact absurd (show false=true from hs) Bool.false_ne_true
 | byt i =>
  obtain ⟨t,rfl⟩:=rx
  cases y with
  | byt j=>obtain ⟨t',rfl⟩:=ry;exact PySem.W.eq_bytes (aW I q ql)
  | _=>exact absurd (show false=true from hs) Bool.false_ne_true
 | _=>cases y<;>exact absurd (show false=true from hs) Bool.false_ne_true
theorem fY:OpR X (compareOp .NotEq) rNe:=by
 intro pins s σ H x y v u Q I rx ry h
 obtain ⟨hs,q⟩:=h
 cases x with
 | non =>
  cases rx
  cases y with
  | non=>cases ry;exact PySem.EqNone.ne_none_none (aW I q (by simp))
  | bl j=>cases ry;exact PySem.EqNone.ne_none_bool (aW I q (by simp))
  | int j=>obtain ⟨t',rfl⟩:=ry;exact PySem.EqNone.ne_none_int (aW I q (by simp))
  | str j=>obtain ⟨t',rfl⟩:=ry;exact PySem.EqNone.ne_none_str (aW I q (by simp))
  | _=>exact absurd (show false=true from hs) Bool.false_ne_true
 | bl i =>
  cases rx
  cases y with
  | non=>cases ry;exact PySem.EqNone.ne_bool_none (aW I q (by simp))
  | bl j=>cases ry;exact ne_bool (aW I q (congrArg not uk))
  | str j=>obtain ⟨t',rfl⟩:=ry;exact PySem.EqMixed.ne_bool_str (aW I q (by simp))
  | _=>exact absurd (show false=true from hs) Bool.false_ne_true
 | int i =>
  obtain ⟨t,rfl⟩:=rx
  cases y with
  | non=>cases ry;exact PySem.EqNone.ne_int_none (aW I q (by simp))
  | int j=>obtain ⟨t',rfl⟩:=ry;exact ne_int (aW I q (congrArg not mJ))
  | str j=>obtain ⟨t',rfl⟩:=ry;exact PySem.EqMixed.ne_int_str (aW I q (by simp))
  | _=>exact absurd (show false=true from hs) Bool.false_ne_true
 | str i =>
  obtain ⟨t,rfl⟩:=rx
  cases y with
  | non=>cases ry;exact PySem.EqNone.ne_str_none (aW I q (by simp))
  | bl j=>cases ry;exact PySem.EqMixed.ne_str_bool (aW I q (by simp))
  | int j=>obtain ⟨t',rfl⟩:=ry;exact PySem.EqMixed.ne_str_int (aW I q (by simp))
  | str j=>obtain ⟨t',rfl⟩:=ry;exact ne_str (aW I q (congrArg not qk))
  | _=>exact absurd (show false=true from hs) Bool.false_ne_true
 | byt i =>
  obtain ⟨t,rfl⟩:=rx
  cases y with
  | byt j=>obtain ⟨t',rfl⟩:=ry;exact PySem.W.ne_bytes (aW I q (congrArg not ql))
  | _=>exact absurd (show false=true from hs) Bool.false_ne_true
 | _=>cases y<;>exact absurd (show false=true from hs) Bool.false_ne_true
theorem gA:OpR X (compareOp .Lt) (rI0 λi j=>.bl (decide (i<j))):=wP λ_ _ _ _ _ _ _ q=>lt_int q
theorem vU:OpR X (compareOp .LtE) (rI0 λi j=>.bl (decide (i<=j))):=wP λ_ _ _ _ _ _ _ q=>le_int q
theorem jZ:OpR X (compareOp .Gt) (rI0 λi j=>.bl (decide (j<i))):=wP λ_ _ _ _ _ _ _ q=>gt_int q
theorem sP:OpR X (compareOp .Is) (λx y H Q=>y=.non/\Q (.bl (decide (x=.non))) H):=by
 intro pins s σ H x y v u Q I rx ry h
 obtain ⟨rfl,q⟩:=h
 cases ry
 refine is_none_gen (aW I q ?_)
 cases x<;>first
  | (cases rx;rfl)
  | (obtain ⟨t,rfl⟩:=rx;rfl)
theorem uZ:OpR X (compareOp .IsNot) (λx y H Q=>y=.non/\Q (.bl (!decide (x=.non))) H):=by
 intro pins s σ H x y v u Q I rx ry h
 obtain ⟨rfl,q⟩:=h
 cases ry
 refine isnot_none_gen (aW I q ?_)
 cases x<;>first
  | (cases rx;rfl)
  | (obtain ⟨t,rfl⟩:=rx;rfl)
theorem az(b:Expr){op:CmpOp}(h:op≠.In:=by decide)(h2:op≠.NotIn:=by decide):behindInMarks op b=false:=by
 have e1:(op==CmpOp.In)=false:=by cases op<;>first | rfl | exact absurd rfl h
 have e2:(op==CmpOp.NotIn)=false:=by cases op<;>first | rfl | exact absurd rfl h2
 cases b<;>simp [behindInMarks,e1,e2]
theorem cn{op:CmpOp}{r:R2}(ho:OpR X (compareOp op) r)(ha:PE X a ta)(hb:PE X b tb)(hm:behindInMarks op b=false):PE X (.Compare a [op] [b] pos) (tOp r ta tb):=by
 intro pins s σ H Q I h
 exact wpAny_Compare1 (xq ha hb I h λv u s2 x y H2 I2 rx ry q=>ho pins s2 σ H2 x y v u Q I2 rx ry q) hm
def vN(t:TE):TT:=fun σ H Q=>t σ H λx H'=>∃k,x=.bl k/\Q k H'
theorem aw{op:CmpOp}{r:R2}(ho:OpR X (compareOp op) r)(ha:PE X a ta)(hb:PE X b tb)(hm:behindInMarks op b=false):PT X (.Compare a [op] [b] pos) (vN (tOp r ta tb)):=by
 intro pins s σ H Q I h
 refine wpAny_isTrue_Compare1 (thn (ha pins s σ H _ I h) λv s1 ⟨x,H1,I1,r1,q1⟩=>thn (hb pins s1 σ H1 _ I1 q1) λu s2 ⟨y,H2,I2,r2,q2⟩ =>
  thn (ho pins s2 σ H2 x y v u _ I2 r1 r2 q2) λc s3 ⟨z,H3,I3,r3,k,e,q3⟩=>?_) hm
 subst e
 cases r3
 exact wpAny_truthy_bool ⟨H3,I3,q3⟩
def wk(r r':R2)(ta tb tc:TE):TE:=fun σ H Q=>ta σ H λx H1=>tb σ H1 λy H2=>r x y H2 λz H3=>∃k,z=.bl k /\
 (if k=true then tc σ H3 λw' H4=>r' y w' H4 Q else Q (.bl false) H3)
theorem sK{op op':CmpOp}{r r':R2}(ho:OpR X (compareOp op) r)(ho':OpR X (compareOp op') r')(ha:PE X a ta)(hb:PE X b tb)(hc:PE X c tc)
  (hm:lastMarks [op,op'] [b,c]=false:=by with_unfolding_all rfl):PE X (.Compare a [op,op'] [b,c] pos) (wk r r' ta tb tc):=by
 intro pins s σ H Q I h
 refine Compare_chain (thn (ha pins s σ H _ I h) λv s1 ⟨x,H1,I1,r1,q1⟩=>chain_link (thn (hb pins s1 σ H1 _ I1 q1) λu s2 ⟨y,H2,I2,r2,q2⟩ =>
  thn (ho pins s2 σ H2 x y v u _ I2 r1 r2 q2) λd s3 ⟨z,H3,I3,r3,k,e,q3⟩=>?_)) hm
 subst e
 cases r3
 refine wpAny_truthy_bool ?_
 cases k with
 | false=>exact ite_ff ⟨.bl false,H3,I3,rfl,q3⟩
 | true=>exact ite_tt (chain_last (thn (hc pins s3 σ H3 _ I3 q3) λw' s4 ⟨z',H4,I4,r4,q4⟩=>ho' pins s4 σ H4 y z' u w' Q I4 r2 r4 q4))
def xr(K:PySem.W.Frag)(x:V)(H:Hp)(k:Bool):Prop :=
 match x with
 | .non=>k=false
 | .bl b=>k=b
 | .int i=>k=(i != 0)
 | .str y=>y.length<=sizeLine/\k=((y.length:Int) != 0)
 | .byt y=>y.size<=sizeLine/\k=((y.size:Int) != 0)
 | .ref p=>(∃xs,SqL K H p xs/\k=!xs.isEmpty)\/(∃xs,SqT K H p xs/\k=!xs.isEmpty)\/∃kvs,H p=some (.dK kvs)/\k=!kvs.isEmpty
 | _=>False
theorem pj{κ:Type}{kvs:List (κ×V)}{vs:List (κ×Value)}(r:KV kvs vs):(!vs.isEmpty)=!kvs.isEmpty:=by
 cases r<;>rfl
theorem j8{xs:List V}{its:List Value}(r:Vals xs its):(!its.toArray.isEmpty)=!xs.isEmpty:=by
 cases r<;>simp
theorem gO:(sizeLine:Nat)<2 ^ 63:=by rw [sizeLine_eq];decide
theorem rK:zf X (λx H Q=>∃k,xr X.K x H k/\Q k H):=by
 intro pins s σ H x v Q I rx h
 obtain ⟨k,e,q⟩:=h
 have hl:=gO
 have hs:sizeLine=16777216:=sizeLine_eq
 cases x with
 | non =>
  cases rx
  have e':k=false:=e
  subst e'
  exact truthy_none ⟨H,I,q⟩
 | bl b =>
  cases rx
  have e':k=b:=e
  subst e'
  exact wpAny_truthy_bool ⟨H,I,q⟩
 | int i =>
  obtain ⟨t,rfl⟩:=rx
  have e':k=(i != 0):=e
  subst e'
  exact PySem.P.truthy_int ⟨H,I,q⟩
 | str y =>
  obtain ⟨t,rfl⟩:=rx
  obtain ⟨hy,e'⟩:y.length<=sizeLine/\k=((y.length:Int) != 0):=e
  subst e'
  exact PySem.P.truthy_str (by omega) ⟨H,I.tok _,q⟩
 | byt y =>
  obtain ⟨t,rfl⟩:=rx
  obtain ⟨hy,e'⟩:y.size<=sizeLine/\k=((y.size:Int) != 0):=e
  subst e'
  exact PySem.W.truthy_bytes (by omega) ⟨H,I.tok _,q⟩
 | ref p =>
  cases rx
  have e':(∃xs,SqL X.K H p xs/\k=!xs.isEmpty)\/(∃xs,SqT X.K H p xs/\k=!xs.isEmpty)\/∃kvs,H p=some (.dK kvs)/\k=!kvs.isEmpty:=e
  rcases e' with ⟨xs,hx,e'⟩ | ⟨xs,hx,e'⟩ | ⟨kvs,hx,e'⟩
  ·subst e'
   obtain ⟨its,r,pl,hz⟩:=I.list hx
   have hlen:=r.length
   exact wpAny_truthy_list pl.isList (by simp only [List.size_toArray];omega) ⟨H,I.tok _,by rw [j8 r];exact q⟩
  ·subst e'
   obtain ⟨its,r,pl,hz⟩:=I.tuple hx
   have hlen:=r.length
   exact truthy_tuple pl (by simp only [List.size_toArray];omega) ⟨H,I.tok _,by rw [j8 r];exact q⟩
  ·subst e'
   obtain ⟨hz,hS,vs,r,m⟩:kvs.length<=sizeLine/\(p==sysModules)=false/\∃vs,KV kvs vs/\s.heap.DictOf (bY X.prog X.w) p vs:=I.hok p _ hx
   have hlen:kvs.length=vs.length:=Paired.length r
   exact wpAny_truthy_dict hS m (by omega) ⟨H,I.tok _,by rw [pj r];exact q⟩
 | _=>exact (show False from e).elim
theorem fW(ha:PE X a ta)(he:∀whole,isTrue a X.env whole=(do let v ← whole;standAt a.pos;holding [v] (truthy v))) :
  PT X a (fun σ H Q=>ta σ H λx H'=>∃k,xr X.K x H' k/\Q k H'):=by
 intro pins s σ H Q I h
 exact isTrue_plain (thn (ha pins s σ H _ I h) λv s1 ⟨x,H1,I1,r1,q1⟩=>rK pins s1 σ H1 x v Q I1 r1 q1) (he _)
theorem j0:OpR X (binaryOp .Add) (λx y H Q=>∃i j,x=.str i/\y=.str j/\i.length+j.length<=sizeLine/\Q (.str (i++j)) H):=by
 intro pins s σ H x y v u Q I rx ry h
 obtain ⟨i,j,rfl,rfl,hz,q⟩:=h
 obtain ⟨t,rfl⟩:=rx
 obtain ⟨t',rfl⟩:=ry
 exact add_str (λt' tk=>⟨.str (i++j),H,I.tok _,⟨_,rfl⟩,q⟩) hz
theorem dg{x:V}{us:List Value}(r:Vals [x] us):∃u,us=[u]/\RelV x u:=by
 cases r with
 | cons r1 r2=>cases r2;exact ⟨_,rfl,r1⟩
theorem mY{x y:V}{us:List Value}(r:Vals [x,y] us):∃u w',us=[u,w']/\RelV x u/\RelV y w':=by
 cases r with
 | cons r1 r2 =>
  cases r2 with
  | cons r3 r4=>cases r4;exact ⟨_,_,rfl,r1,r3⟩
theorem rA(hc:X.calm=true):dm X (.builtin "max") (λxs H Q=>∃i j,xs=[.int i,.int j]/\Q (.int (if j>i then j else i)) H):=by
 intro pins s σ H xs us Q I r h
 obtain ⟨i,j,rfl,q⟩:=h
 obtain ⟨u,w',rfl,⟨t,rfl⟩,⟨t',rfl⟩⟩:=mY r
 refine max_two_ints (I.ok.hd hc) λh' tk k=>⟨_,H,I.kept k,?_,q⟩
 by_cases hj:j>i
 ·rw [if_pos hj,if_pos hj];exact ⟨_,rfl⟩
 ·rw [if_neg hj,if_neg hj];exact ⟨_,rfl⟩
theorem rq(hc:X.calm=true):dm X (.builtin "min") (λxs H Q=>∃i j,xs=[.int i,.int j]/\Q (.int (if j<i then j else i)) H):=by
 intro pins s σ H xs us Q I r h
 obtain ⟨i,j,rfl,q⟩:=h
 obtain ⟨u,w',rfl,⟨t,rfl⟩,⟨t',rfl⟩⟩:=mY r
 refine min_two_ints (I.ok.hd hc) λh' tk k=>⟨_,H,I.kept k,?_,q⟩
 by_cases hj:j<i
 ·rw [if_pos hj,if_pos hj];exact ⟨_,rfl⟩
 ·rw [if_neg hj,if_neg hj];exact ⟨_,rfl⟩
theorem mO:dm X (.type "str") (λxs H Q=>∃i,xs=[.int i]/\i.natAbs.log2<1920/\Q (.str (toString i)) H):=by
 intro pins s σ H xs us Q I r h
 obtain ⟨i,rfl,hz,q⟩:=h
 obtain ⟨u,rfl,t,rfl⟩:=dg r
 exact PySem.P.str_of_int hz ⟨.str _,H,I.tok _,⟨_,rfl⟩,q⟩
theorem ut:dm X (.builtin "ord") (λxs H Q=>∃x,xs=[.str x]/\x.length=1/\Q (.int (x.cps.getD 0 0:Nat)) H):=by
 intro pins s σ H xs us Q I r h
 obtain ⟨x,rfl,hz,q⟩:=h
 obtain ⟨u,rfl,t,rfl⟩:=dg r
 exact ord_of_one hz ⟨.int _,H,I.tok _,⟨_,rfl⟩,q⟩
end
end L2
namespace L2
open PySem PySem.Spec PyProof.Rows
structure ObjM(h:Heap)(x dx C:Addr)(mA:Str->Option Value):Prop where
 obj:h.get? x=some (PySem.W.instObj C dx)
 ns:h.Ns1 dx mA
 ne:dx≠x
theorem qV{h:Heap}{dx:Addr}{mA:Str->Option Value}(n:h.Ns1 dx mA):∃od,h.get? dx=some od/\∀name,PySem.W.lookIn name od=some (mA name):=by
 obtain ⟨o,es,ep,ho,hd,hk,_,hm⟩:=n
 refine ⟨o,ho,λname=>?_⟩
 have e:=hm name
 unfold nsFind findBy at e
 rw [← Array.find?_toList] at e
 unfold PySem.W.lookIn
 rw [hd]
 dsimp only
 split
 ·rename_i y q
  rw [q] at e
  exact congrArg some e
 ·rename_i q
  rw [q] at e
  have a:es.toList.any (·.refKey)=false:=by
   rw [List.any_eq_false]
   intro y hy
   obtain ⟨z,t,hkey⟩:=hk y (Array.mem_toList_iff.mp hy)
   simp [DictEntry.refKey,hkey]
  have a':¬es.toList.any (·.refKey)=true:=by rw [a];exact Bool.false_ne_true
  rw [if_neg a']
  exact congrArg some e
theorem ObjM.look{h:Heap}{x dx C:Addr}{mA:Str->Option Value}(I:ObjM h x dx C mA):∃od,PySem.W.InstAt h x (PySem.W.instObj C dx) C (some od)/\∀name,PySem.W.lookIn name od=some (mA name) :=
 let ⟨od,ho,hl⟩:=qV I.ns
 ⟨od,⟨I.obj,rfl,rfl,ho⟩,hl⟩
section
variable {prog:Program}{w:World}{A:Around}{E:Value->Shared->Prop}{s:Shared}{K:PySem.W.Frag}{x dx C f:Addr}{mA:Str->Option Value}{name:Str}{v:Value}
theorem vy{expr:Bool}{Q:Value->Shared->Prop}(X:K.In s.heap)(I:ObjM s.heap x dx C mA)(hg:PySem.W.plainGet K C name=true)(hh:PySem.W.hasDictIn K C=true)
  (ha:PySem.W.findIn K (.ref C) name=some none)(hv:mA name=some v)(hv':PySem.W.handedIn v=true)(h:Q v {s with toks:=s.toks+1}) :
  wpAny (model prog w) A (getAttr (.ref x) name expr) Q E s:=by
 obtain ⟨od,J,hl⟩:=I.look
 exact PySem.W.get_value X J (PySem.W.plainGet_of hg).1 (PySem.W.findObj_own hh ha rfl (by rw [hl,hv])) hv' h
theorem uc{pl:Sem Bool}{Q:Value×List Value->Shared->Prop}(X:K.In s.heap)(I:ObjM s.heap x dx C mA)(hg:PySem.W.plainGet K C name=true)
  (hf:PySem.W.findIn K (.ref C) name=some (some (.ref f)))(ht:PySem.W.isFn K (.ref f)=true)(hv:mA name=none)(h:Q (.ref f,[.ref x]) s) :
  wpAny (model prog w) A (getMethod (.ref x) name pl) Q E s:=by
 obtain ⟨od,J,hl⟩:=I.look
 exact PySem.W.method_fn X J (PySem.W.plainGet_of hg).1 (PySem.W.plainGet_of hg).2 hf (beq_iff_eq.mp ht) (by show (PySem.W.lookIn name od).map (·.isSome)=some false;rw [hl,hv];rfl) h
theorem uN{ns:List Str}{Q:Unit->Shared->Prop}(X:K.In s.heap)(I:ObjM s.heap x dx C mA)
  (hs:PySem.W.findIn K (.ref C) "__setattr__"=some (some (.builtin "object.__setattr__")))(hp:PySem.W.plainOver K C=true)(ht:PySem.W.takerIn K C name=some none)(hh:PySem.W.hasDictIn K C=true)
  (hw:PySem.Within mA ns)(hsz:ns.length<=sizeLine)
  (h:∀h',ObjM h' x dx C (λy=>if y=name then some v else mA y)->Heap.SameBut dx s.heap h'->Q () {s with heap:=h',toks:=s.toks+2}) :
  wpAny (model prog w) A (setAttr (.ref x) name v) Q E s:=by
 obtain ⟨od,J,hl⟩:=I.look
 refine PySem.W.set_plain X J hs (PySem.W.osa_open (s:={s with toks:=s.toks+1}) (r:=none) X J hp ht λb=>?_)
 obtain ⟨cd,hc,hd'⟩:=PySem.W.any_some hh
 have hx:s.heap.get? x=some ⟨.ref C,some dx,.plain,#[]⟩:=I.obj
 refine wpAny_bind (wpAny_pure (wpAny_bind (wpAny_bind (wpAny_loadPart hx (wpAny_bind (PySem.W.Looks.here (s:={s with toks:=s.toks+1}) (PySem.W.looks_clsIn X hc) ?_))))))
 rw [hd']
 refine wpAny_pure (a:=some dx) (wpAny_bind (wpAny_pure (wpAny_bind ?_)))
 refine wpAny_nsSet1 (s:={s with toks:=s.toks+1}) I.ns λh' hn2 hs2=>?_
 obtain ⟨oD,esD,epD,hoD,hdD,hcD⟩:=hn2.count (PySem.Within.cons name v hw)
 refine wpAny_bind (wpAny_lookBehind hoD (by rw [hdD];exact pastItsLine_dict (Nat.le_trans hcD (by rw [List.length_cons];omega))) ?_)
 exact wpAny_pure (h _ ⟨(hs2.2 _ (Ne.symm I.ne)).trans I.obj,hn2,I.ne⟩ hs2)
theorem tU{R:Result->Shared->Prop}{vs:List Value}{kw:List (Str×Value)}(X:K.In s.heap)(hm:PySem.W.makesIn K C=true)
  (hi:PySem.W.findIn K (.ref C) "__init__"=some (some (.ref f)))(hf:PySem.W.typeIn K (.ref f)=some (.type "function"))
  (h:codeAny (model prog w) (A.under (.builtin "type.__call__" ⟨.ref C::vs,kw⟩)) (.call (.ref f) ⟨.ref (s.heap.objs.size+1)::vs,kw⟩) (PySem.W.InitBack (s.heap.objs.size+1) R)
   {s with heap:=(s.heap.push PySem.W.emptyDict).push (PySem.W.instObj C s.heap.objs.size)}) :
  codeAny (model prog w) A (.call (.ref C) ⟨vs,kw⟩) R s:=by
 obtain ⟨hh,g,d,t,os⟩:=s
 exact PySem.W.make_core (PySem.W.makes_of X hm) (PySem.W.looks_findIn X hi) (λself=>PySem.W.bind_fn X self hf) (.inl rfl) h
end
def aL(f:Str)(v:V):List (Str×V)->List (Str×V)
 | []=>[(f,v)]
 | (g,x)::r=>if g=f then (g,v)::r else (g,x)::aL f v r
theorem aV(f g:Str)(v:V):∀fs:List (Str×V),(aL f v fs).lookup g=if g=f then some v else fs.lookup g
 | []=>by
  show List.lookup g [(f,v)]=_
  by_cases h:g=f
  ·have hb:(g==f)=true:=beq_iff_eq.mpr h
   simp only [List.lookup,hb,if_pos h]
  ·have hb:(g==f)=false:=beq_eq_false_iff_ne.mpr h
   simp only [List.lookup,hb,if_neg h]
 | (k,x)::r=>by
  have ih:=aV f g v r
  rw [show aL f v ((k,x)::r)=(if k=f then (k,v)::r else (k,x)::aL f v r) from rfl]
  by_cases hk:k=f
  ·rw [if_pos hk]
   by_cases h:g=k
   ·have hb:(g==k)=true:=beq_iff_eq.mpr h
    simp only [List.lookup,hb,if_pos (h.trans hk)]
   ·have hb:(g==k)=false:=beq_eq_false_iff_ne.mpr h
    simp only [List.lookup,hb,if_neg (λe:g=f=>h (e.trans hk.symm))]
  ·rw [if_neg hk]
   by_cases h:g=k
   ·have hb:(g==k)=true:=beq_iff_eq.mpr h
    simp only [List.lookup,hb,if_neg (λe:g=f=>hk (h.symm.trans e))]
   ·have hb:(g==k)=false:=beq_eq_false_iff_ne.mpr h
    simp only [List.lookup,hb]
    exact ih
theorem iR(f:Str)(v:V):∀fs:List (Str×V),f∈(aL f v fs).map (·.1)/\∀g,g∈fs.map (·.1)->g∈(aL f v fs).map (·.1)
 | []=>⟨by simp [aL],λg h=>by simp at h⟩
 | (k,x)::r=>by
  obtain ⟨i1,i2⟩:=iR f v r
  rw [show aL f v ((k,x)::r)=(if k=f then (k,v)::r else (k,x)::aL f v r) from rfl]
  by_cases hk:k=f
  ·rw [if_pos hk]
   subst hk
   exact ⟨by simp,λg h=>by simpa using h⟩
  ·rw [if_neg hk]
   refine ⟨?_,λg h=>?_⟩
   ·rw [List.map_cons]
    exact List.mem_cons_of_mem _ i1
   ·rw [List.map_cons] at h ⊢
    rcases List.mem_cons.mp h with e | e
    ·exact List.mem_cons.mpr (.inl e)
    ·exact List.mem_cons_of_mem _ (i2 g e)
theorem cV(f:Str)(v:V):∀fs:List (Str×V),(aL f v fs).length<=fs.length+1
 | []=>by simp [aL]
 | (k,x)::r=>by
  have ih:=cV f v r
  rw [show aL f v ((k,x)::r)=(if k=f then (k,v)::r else (k,x)::aL f v r) from rfl]
  by_cases hk:k=f
  ·rw [if_pos hk,List.length_cons,List.length_cons];omega
  ·rw [if_neg hk,List.length_cons,List.length_cons];omega
theorem RelO.some_of{v:V}{o:Option Value}(r:RelO (some v) o):∃u,o=some u/\RelV v u:=by
 cases o with
 | none=>exact (show False from r).elim
 | some u=>exact ⟨u,rfl,r⟩
theorem RelO.none_of{o:Option Value}(r:RelO none o):o=none:=by
 cases o with
 | none=>rfl
 | some u=>exact (show False from r).elim
theorem rj{v:V}{u:Value}(r:RelV v u):PySem.W.handedIn u=true:=by
 cases v with
 | non=>cases (show u=Value.none from r);rfl
 | bl b=>cases (show u=Value.bool b from r);rfl
 | int i=>obtain ⟨t,e⟩:=(show ∃t,u=Value.int i t from r);cases e;rfl
 | str x=>obtain ⟨t,e⟩:=(show ∃t,u=Value.str x t from r);cases e;rfl
 | byt b=>obtain ⟨t,e⟩:=(show ∃t,u=Value.bytes b t from r);cases e;rfl
 | flt b=>obtain ⟨t,e⟩:=(show ∃t,u=Value.float b t from r);cases e;rfl
 | ref a=>cases (show u=Value.ref a from r);rfl
 | ty n=>cases (show u=Value.type n from r);rfl
section
variable {P:Program}{w:World}{H H':Hp}{h h':Heap}{a C dx:Addr}{fs fs':List (Str×V)}
theorem jx(hok:HOk P w H h)(e:H a=some (.ins C dx fs)):∃mA,ObjM h a dx C mA/\(∀f,RelO (fs.lookup f) (mA f))/\PySem.Within mA (fs.map (·.1))/\fs.length<=1000/\H dx=some (.own a):=by
 obtain ⟨d,z,ne,ob,mA,n,r,q⟩:=(show ObjOk P w H h a (.ins C dx fs) from hok a _ e)
 exact ⟨mA,⟨ob,n,ne⟩,r,q,z,d⟩
end
structure Cls(K:PySem.W.Frag)(C:Addr):Prop where
 pg:PySem.W.plainGet K C Str.empty=true
 hd:PySem.W.hasDictIn K C=true
 po:PySem.W.plainOver K C=true
 sa:PySem.W.findIn K (.ref C) "__setattr__"=some (some (.builtin "object.__setattr__"))
theorem Cls.get{K:PySem.W.Frag}{C:Addr}(c:Cls K C)(f:Str):PySem.W.plainGet K C f=true:=c.pg
def NoAttr(K:PySem.W.Frag)(C:Addr)(f:Str):Prop:=PySem.W.findIn K (.ref C) f=some none
theorem NoAttr.taker{K:PySem.W.Frag}{C:Addr}{f:Str}(n:NoAttr K C f):PySem.W.takerIn K C f=some none:=by
 unfold PySem.W.takerIn
 rw [show PySem.W.findIn K (.ref C) f=some none from n]
 rfl
structure eL(K:PySem.W.Frag)(C:Addr)(m:Str)(f:Addr):Prop where
 at_:PySem.W.findIn K (.ref C) m=some (some (.ref f))
 fn:PySem.W.isFn K (.ref f)=true
 kp:PySem.W.keepIn K (.ref f)=true
section
variable {X:Cx}{pins:List (Addr×Obj)}{σ:St}{H:Hp}{s:Shared}{a C dx:Addr}{fs:List (Str×V)}{f:Str}{v:V}{A:Around}{E:Value->Shared->Prop}
theorem j9{b:Bool}{Q:Value->Shared->Prop}(I:Inv X pins σ H s)(e:H a=some (.ins C dx fs))(c:Cls X.K C)(n:NoAttr X.K C f)(l:fs.lookup f=some v)
  (h:∀u s',Inv X pins σ H s'->RelV v u->Q u s'):wpAny (model X.prog X.w) A (getAttr (.ref a) f b) Q E s:=by
 obtain ⟨mA,O,r,_,_,_⟩:=jx I.hok e
 obtain ⟨u,hu,ru⟩:=RelO.some_of (v:=v) (o:=mA f) (by rw [← l];exact r f)
 exact vy I.kIn O (c.get f) c.hd n hu (rj ru) (h u _ (I.tok _) ru)
theorem gP{m:Str}{g:Addr}{pl:Sem Bool}{Q:Value×List Value->Shared->Prop}(I:Inv X pins σ H s)(e:H a=some (.ins C dx fs))(c:Cls X.K C)(k:eL X.K C m g)(l:fs.lookup m=none)
  (h:Q (.ref g,[.ref a]) s):wpAny (model X.prog X.w) A (getMethod (.ref a) m pl) Q E s:=by
 obtain ⟨mA,O,r,_,_,_⟩:=jx I.hok e
 have hn:mA m=none:=RelO.none_of (by rw [← l];exact r m)
 exact uc I.kIn O (c.get m) k.at_ k.fn hn h
theorem jK{y:V}{u:Value}{Q:Unit->Shared->Prop}(I:Inv X pins σ H s)(e:H a=some (.ins C dx fs))(c:Cls X.K C)(n:NoAttr X.K C f)(hl:fs.length<1000)(ry:RelV y u)
  (h:∀s',Inv X pins σ (upd H a (.ins C dx (aL f y fs))) s'->Q () s'):wpAny (model X.prog X.w) A (setAttr (.ref a) f u) Q E s:=by
 obtain ⟨mA,O,r,wi,_,ho⟩:=jx I.hok e
 have hz:(fs.map (·.1)).length<=sizeLine:=by rw [List.length_map,sizeLine_eq];omega
 refine uN I.kIn O c.sa c.po n.taker c.hd wi hz λh' O' sb=>h _ ?_
 have hd:∃o,h'.get? dx=some o:=let ⟨o,_,_,e',_⟩:=O'.ns;⟨o,e'⟩
 refine I.write (x:=a) (e:=dx) (by rw [e];exact True.intro) (.inr ho) (λb q hb z=>(sb.2 b hb).trans z) hd ?_
 refine ⟨by rw [aq O.ne];exact ho,?_,O.ne,O'.obj,_,O'.ns,λg=>?_,λg hg=>?_⟩
 ·have:=cV f y fs;omega
 ·show RelO ((aL f y fs).lookup g) (if g=f then some u else mA g)
  rw [aV]
  by_cases q:g=f
  ·rw [if_pos q,if_pos q];exact ry
  ·rw [if_neg q,if_neg q];exact r g
 ·by_cases q:g=f
  ·rw [q];exact (iR f y fs).1
  ·refine (iR f y fs).2 g (wi g λz=>hg ?_)
   show (if g=f then some u else mA g)=none
   rw [if_neg q];exact z
theorem Inv.made(I:Inv X pins σ H s):Inv X pins σ (upd (upd H s.heap.objs.size (.own (s.heap.objs.size+1))) (s.heap.objs.size+1) (.ins C s.heap.objs.size []))
  {s with heap:=(s.heap.push PySem.W.emptyDict).push (PySem.W.instObj C s.heap.objs.size)}:=by
 have e1:(s.heap.push PySem.W.emptyDict).get? s.heap.objs.size=some PySem.W.emptyDict:=Heap.get?_push_size s.heap rfl
 have e2:((s.heap.push PySem.W.emptyDict).push (PySem.W.instObj C s.heap.objs.size)).get? (s.heap.objs.size+1)=some (PySem.W.instObj C s.heap.objs.size):=by
  have:=Heap.get?_push_size (s.heap.push PySem.W.emptyDict) (o:=PySem.W.instObj C s.heap.objs.size) rfl
  rwa [Heap.size_push] at this
 have e3:(s.heap.push PySem.W.emptyDict).Ns s.heap.objs.size (λ_=>none):=⟨PySem.W.emptyDict,#[],_,e1,rfl,(λe he=>absurd he (by simp)),λ_=>rfl⟩
 have I1:=I.laid (a:=s.heap.objs.size) (o:=.own (s.heap.objs.size+1)) (h':=s.heap.push PySem.W.emptyDict) (t':=s.toks) (λb u q=>Heap.get?_push_of_some _ q) (Nat.le_refl _) ⟨_,e1⟩
 refine I1.laid (a:=s.heap.objs.size+1) (o:=.ins C s.heap.objs.size []) (t':=s.toks) (λb u q=>Heap.get?_push_of_some _ q) (Nat.le_of_eq (Heap.size_push _ _)) ?_
 have ne:s.heap.objs.size≠s.heap.objs.size+1:=Nat.ne_of_lt (Nat.lt_succ_self _)
 refine ⟨by rw [aq ne,ac],Nat.zero_le _,ne,e2,λ_=>none,(Heap.Ns1.of_empty e3).at λo q=>Heap.get?_push_of_some _ q,λ_=>True.intro,λy hy=>absurd rfl hy⟩
theorem vH{prog:Program}{w:World}{env:Env}{e:Expr}{f:Str}{pos:Pos}{s:Shared}{Q:Value->Shared->Prop}(hb:attributeBase e f env (eval e env)=eval e env)
  (h:wpAny (model prog w) A (eval e env) (λo s₁=>wpAny (model prog w) A (getAttr o f true) Q E s₁) E s):wpAny (model prog w) A (eval (.Attribute e f pos) env) Q E s :=
 Attribute_any_ h (by rw [arm_eval_Attribute,hb])
end
def qC(K:PySem.W.Frag)(ta:TE)(f:Str):TE:=fun σ H Q=>ta σ H λx H1=>∃a C dx fs v,x=.ref a/\H1 a=some (.ins C dx fs)/\Cls K C/\NoAttr K C f/\fs.lookup f=some v/\Q v H1
def yR(K:PySem.W.Frag)(ta tv:TE)(f:Str):TS:=λD σ H=>tv σ H λy H1=>ta σ H1 λx H2=>∃a C dx fs,x=.ref a/\H2 a=some (.ins C dx fs)/\Cls K C/\NoAttr K C f/\fs.length<1000 /\
 D.nx σ (upd H2 a (.ins C dx (aL f y fs)))
def yG(X:Cx)(op:Operator)(rd:V->V->Hp->VK->Prop):Prop :=
 ∀(pins:List (Addr×Obj)) (s:Shared) (σ:St) (H:Hp) (x y:V) (u v:Value) (Q:VK),Inv X pins σ H s->RelV x u->RelV y v->rd x y H Q->wpAny (model X.prog X.w) X.A (inplaceOp op u v) (EP X pins σ Q) X.xe s
def uP(K:PySem.W.Frag)(ta tv:TE)(rd:V->V->Hp->VK->Prop)(f:Str):TS:=λD σ H=>ta σ H λx H1=>∃a C dx fs v,x=.ref a/\H1 a=some (.ins C dx fs)/\Cls K C/\NoAttr K C f/\fs.lookup f=some v /\
 tv σ H1 λy H2=>rd v y H2 λz H3=>∃dx' fs',H3 a=some (.ins C dx' fs')/\fs'.length<1000/\D.nx σ (upd H3 a (.ins C dx' (aL f z fs')))
section
variable {X:Cx}{o e value:Expr}{f:Str}{pos pos' tpos:Pos}{ta tv:TE}
theorem aG(he:PE X e ta)(hb:attributeBase e f X.env (eval e X.env)=eval e X.env):PE X (.Attribute e f pos) (qC X.K ta f):=by
 intro pins s σ H Q I h
 refine vH hb (thn (he pins s σ H _ I h) λu s1 ⟨x,H1,I1,rx,a,C,dx,fs,v,ex,ea,c,n,l,q⟩=>?_)
 subst ex
 obtain rfl:u=Value.ref a:=rx
 exact j9 I1 ea c n l λu' s2 I2 ru=>⟨v,H1,I2,ru,q⟩
theorem b9(ha:PE X o ta)(hv:PE X value tv)(hs:swapsWith value (some (.Attribute o f pos')) pos.line X.env=pure false):PS X (.Assign [.Attribute o f pos'] value pos) (yR X.K ta tv f):=by
 intro pins s σ H D I h
 refine plainObj_wpAny_Assign_Attribute (thn (hv pins s σ H _ I h) λu s1 ⟨y,H1,I1,ry,q⟩=>thn (ha pins s1 σ H1 _ I1 q) λov s2 ⟨x,H2,I2,rx,a,C,dx,fs,ex,ea,c,n,l,q2⟩=>?_) hs
 subst ex
 obtain rfl:ov=Value.ref a:=rx
 exact jK I2 ea c n l ry λs3 I3=>⟨σ,_,I3,q2⟩
theorem kJ{op:Operator}{rd:V->V->Hp->VK->Prop}(ha:PE X o ta)(hv:PE X value tv)(hop:yG X op rd):PS X (.AugAssign (.Attribute o f tpos) op value pos) (uP X.K ta tv rd f):=by
 intro pins s σ H D I h
 refine wpAny_AugAssign_AttributeAny (thn (ha pins s σ H _ I h) λov s1 ⟨x,H1,I1,rx,a,C,dx,fs,v,ex,ea,c,n,l,q⟩=>?_)
 subst ex
 obtain rfl:ov=Value.ref a:=rx
 refine j9 I1 ea c n l λu s2 I2 ru=>thn (hv pins s2 σ H1 _ I2 q) λw3 s3 ⟨y,H2,I3,ry,q3⟩=>thn (hop pins s3 σ H2 v y u w3 _ I3 ru ry q3) λw4 s4 ⟨z,H3,I4,rz,dx',fs',ea',l',q4⟩=>?_
 exact jK I4 ea' c n l' rz λs5 I5=>⟨σ,_,I5,q4⟩
def yV:V->V->Hp->VK->Prop:=λx y H Q=>∃i j,x=.int i/\y=.int j/\Q (.int (i+j)) H
theorem t7:yG X .Add yV:=by
 rintro pins s σ H x y u v Q I rx ry ⟨i,j,rfl,rfl,q⟩
 obtain ⟨t,rfl⟩:=(show ∃t,u=Value.int i t from rx)
 obtain ⟨t',rfl⟩:=(show ∃t',v=Value.int j t' from ry)
 exact PyProof.Rows.iadd_int ⟨.int (i+j),H,I.tok _,⟨_,rfl⟩,q⟩
end
section
variable {X:Cx}{pins:List (Addr×Obj)}{σ:St}{H:Hp}{s:Shared}{A:Around}{E:Value->Shared->Prop}{Q:Value->Shared->Prop}{c:Value}{b:Bool}
inductive TyOf (K:PySem.W.Frag) (H:Hp):V->Value->Prop where
 | non:TyOf K H .non (.type "NoneType")
 | bl (x:Bool):TyOf K H (.bl x) (.type "bool")
 | int (i:Int):TyOf K H (.int i) (.type "int")
 | str (x:Str):TyOf K H (.str x) (.type "str")
 | flt (x:UInt64):TyOf K H (.flt x) (.type "float")
 | lst {a:Addr} {xs:List V} (e:H a=some (.lst xs)):TyOf K H (.ref a) (.type "list")
 | frz {a:Addr} {o:Obj} {xs:List V} (e:H a=some (.frz o (.lst xs))):TyOf K H (.ref a) (.type "list")
 | tup {a:Addr} {xs:List V} (e:H a=some (.tup xs)):TyOf K H (.ref a) (.type "tuple")
 | dK {a:Addr} {kvs:List (Key×V)} (e:H a=some (.dK kvs)):TyOf K H (.ref a) (.type "dict")
 | dT {a:Addr} {kvs:List (List Key×V)} (e:H a=some (.dT kvs)):TyOf K H (.ref a) (.type "dict")
 | ins {a C dx:Addr} {fs:List (Str×V)} (e:H a=some (.ins C dx fs)) (cl:Cls K C) (ha:PySem.W.findIn K (.ref C) "__class__"=some (some (.builtin "object.__class__")))
   (hn:PySem.W.specialIn K (.builtin "object.__class__") "__get__"=some (some (.builtin "getset_descriptor.__get__"))) (htk:PySem.W.takesIn K (.builtin "object.__class__")=some true)
   (hm:PySem.W.mroIn K C (.type "object")=some true):TyOf K H (.ref a) (.ref C)
theorem kU{x:V}{u t:Value}(I:Inv X pins σ H s)(rx:RelV x u)(ty:TyOf X.K H x t)(e:PySem.W.kitOne X.K t c=some b)(h:∀tk,Q (.bool b) {s with toks:=tk}) :
  wpAny (model X.prog X.w) A (call (.builtin "isinstance") [u,c]) Q E s:=by
 cases ty with
 | non=>cases (show u=Value.none from rx);exact PySem.W.kia_one PySem.W.kitx_none I.kIn True.intro e (λz=>nomatch z) h
 | bl y=>cases (show u=Value.bool y from rx);exact PySem.W.kia_one PySem.W.kitx_bool I.kIn True.intro e (λz=>nomatch z) h
 | int i=>obtain ⟨t,q⟩:=(show ∃t,u=Value.int i t from rx);cases q;exact PySem.W.kia_one PySem.W.kitx_int I.kIn True.intro e (λz=>nomatch z) h
 | str y=>obtain ⟨t,q⟩:=(show ∃t,u=Value.str y t from rx);cases q;exact PySem.W.kia_one PySem.W.kitx_str I.kIn True.intro e (λz=>nomatch z) h
 | flt y=>obtain ⟨t,q⟩:=(show ∃t,u=Value.float y t from rx);cases q;exact PySem.W.kia_one PySem.W.kitx_float I.kIn True.intro e (λz=>nomatch z) h
 | @lst a xs ea =>
  cases (show u=Value.ref a from rx)
  obtain ⟨_,_,n,_,h1⟩:=(show ObjOk X.prog X.w H s.heap a (.lst xs) from I.hok a _ ea)
  exact PySem.W.kia_one PySem.W.kitx_list I.kIn ⟨_,h1,rfl⟩ e (λz=>nomatch z) h
 | @frz a ob xs ea =>
  cases (show u=Value.ref a from rx)
  obtain ⟨_,_,_,n,_,h1⟩:=(show ObjOk X.prog X.w H s.heap a (.frz ob (.lst xs)) from I.hok a _ ea)
  exact PySem.W.kia_one PySem.W.kitx_list I.kIn ⟨_,h1,rfl⟩ e (λz=>nomatch z) h
 | @tup a xs ea =>
  cases (show u=Value.ref a from rx)
  obtain ⟨_,_,_,p⟩:=(show ObjOk X.prog X.w H s.heap a (.tup xs) from I.hok a _ ea)
  obtain ⟨o,h1,h2,_⟩:=p
  exact PySem.W.kia_one PySem.W.kitx_tuple I.kIn ⟨o,h1,h2⟩ e (λz=>nomatch z) h
 | @dK a kvs ea =>
  cases (show u=Value.ref a from rx)
  obtain ⟨_,_,vs,_,p⟩:=(show ObjOk X.prog X.w H s.heap a (.dK kvs) from I.hok a _ ea)
  obtain ⟨o,es,ep,h1,h2,_⟩:=p
  exact PySem.W.kia_one PySem.W.kitx_dict I.kIn ⟨o,h1,h2.1⟩ e (λz=>nomatch z) h
 | @dT a kvs ea =>
  cases (show u=Value.ref a from rx)
  obtain ⟨_,_,xs,_,o,es,ep,h1,h2,_⟩:=(show ObjOk X.prog X.w H s.heap a (.dT kvs) from I.hok a _ ea)
  exact PySem.W.kia_one PySem.W.kitx_dict I.kIn ⟨o,h1,h2.1⟩ e (λz=>nomatch z) h
 | @ins a C dx fs ea cl ha hn htk hm =>
  cases (show u=Value.ref a from rx)
  obtain ⟨mA,O,_⟩:=jx I.hok ea
  obtain ⟨od,J,_⟩:=O.look
  exact PySem.W.kia_one (PySem.W.kitx_own (cl.get _) cl.hd ha hn htk hm) I.kIn J e (λz=>nomatch z) h
end
end L2
namespace L2
open PySem PySem.Spec PyProof.Rows
structure Room(k:Nat)(A:Around):Prop where
 hd:A.handled=none
 dp:A.depth+3*k+5<recursionLimit
 un:A.units+16*k+200<cLine
theorem Room.mono{j k:Nat}{A:Around}(r:Room k A)(h:j<=k):Room j A:=⟨r.hd,by have:=r.dp;omega,by have:=r.un;omega⟩
theorem Room.deeper{k:Nat}{A:Around}(r:Room (k+1) A)(env:Env):Room k (A.deeper env) :=
 ⟨r.hd,by have:=r.dp;show A.depth+1+3*k+5<_;omega,by have:=r.un;show A.units+3+16*k+200<_;omega⟩
theorem o6{A:Around}{C:Addr}{us:List Value}{kw:List (Str×Value)}:(A.under (.builtin "type.__call__" ⟨.ref C::us,kw⟩)).depth=A.depth+1:=by
 first | rfl | simp [Around.under,Code.weight,Code.isCreation,Code.isGuard,Code.isCaller,Code.frames,Code.isFrame,guardIds]
theorem o5{A:Around}{C:Addr}{us:List Value}{kw:List (Str×Value)}:(A.under (.builtin "type.__call__" ⟨.ref C::us,kw⟩)).units=A.units+1:=by
 first | rfl | simp [Around.under,Code.cUnits,Code.frames,Code.isFrame]
theorem Room.make{k:Nat}{A:Around}(r:Room (k+1) A)(C:Addr)(us:List Value)(kw:List (Str×Value)):Room k (A.under (.builtin "type.__call__" ⟨.ref C::us,kw⟩)) :=
 ⟨r.hd,by have:=r.dp;rw [o6];omega,by have:=r.un;rw [o5];omega⟩
theorem Room.depth{k:Nat}{A:Around}(r:Room k A):A.depth<recursionLimit:=by have:=r.dp;omega
theorem Room.units{k:Nat}{A:Around}(r:Room k A):A.units+64<cLine:=by have:=r.un;omega
def ng:TA:=λ_ H Q=>Q [] H
def kC(ta:TE)(tr:TA):TA:=fun σ H Q=>ta σ H λx H1=>tr σ H1 λxs H2=>Q (x::xs) H2
section
variable {X:Cx}{e:Expr}{es:List Expr}{te:TE}{t:TA}{pos:Pos}
theorem ae:PA X [] ng:=λ_ _ _ _ H Q I h=>Calls.spliced_nil ⟨[],H,I,.nil,h⟩
theorem aa(ha:PE X e te)(hr:PA X es t)(hs:starEach (e::es) X.env=(false,eval e X.env)::starEach es X.env:=by rfl):PA X (e::es) (kC te t):=by
 intro pos pins s σ H Q I h
 rw [hs]
 show wpAny _ _ (spliced ((false,eval e X.env)::backTo pos (starEach es X.env))) _ _ s
 refine Calls.spliced_cons (thn (ha pins s σ H _ I h) λu s1 ⟨x,H1,I1,r1,q1⟩=>?_)
 exact thn (hr pos pins s1 σ H1 _ I1 q1) λus s2 ⟨xs,H2,I2,r2,q2⟩=>⟨x::xs,H2,I2,.cons r1 r2,q2⟩
def we(t:TA):TE:=fun σ H Q=>t σ H λxs H1=>xs.length<=sizeLine/\∀p,H1 p=none->Q (.ref p) (upd H1 p (.tup xs))
def yN(t:TA):TE:=fun σ H Q=>t σ H λxs H1=>xs.length<=sizeLine/\∀p,H1 p=none->Q (.ref p) (upd H1 p (.lst xs))
theorem aK{x1}(h:PA X es t):PE X (.Tuple es x1 pos) (we t):=by
 intro pins s σ H Q I hq
 refine wpAny_Tuple_spliced (thn (h pos pins s σ H _ I hq) λus s1 ⟨xs,H1,I1,r,z,q⟩=>⟨by rw [← r.length];exact z,?_⟩)
 have hf:H1 s1.heap.objs.size=none:=I1.hok.fresh (Nat.le_refl _)
 refine ⟨.ref s1.heap.objs.size,upd H1 s1.heap.objs.size (.tup xs),I1.laid (t':=s1.toks) (λb u e=>Heap.get?_push_of_some _ e) (Nat.le_refl _) ?_,rfl,q _ hf⟩
 exact ⟨z,us,r,⟨_,Heap.get?_push_size _ rfl,rfl,_,rfl⟩⟩
theorem cr(h:PA X es t):PE X (.List es pos) (yN t):=by
 intro pins s σ H Q I hq
 refine wpAny_List_spliced (thn (h pos pins s σ H _ I hq) λus s1 ⟨xs,H1,I1,r,z,q⟩=>⟨by rw [← r.length];exact z,?_⟩)
 have hf:H1 s1.heap.objs.size=none:=I1.hok.fresh (Nat.le_refl _)
 refine ⟨.ref s1.heap.objs.size,upd H1 s1.heap.objs.size (.lst xs),I1.laid (t':=s1.toks) (λb u e=>Heap.get?_push_of_some _ e) (Nat.le_refl _) ?_,rfl,q _ hf⟩
 exact ⟨z,us,0,r,Heap.get?_push_size _ rfl⟩
end
abbrev Sp:=List V->Hp->VK->XK->Prop
abbrev CXT:=List Env->Hp->Shared->XK->Value->Shared->Prop
structure Env0(P:Program)(w:World)(K:PySem.W.Frag)(mg:Str->Option Value)(base:Heap)(A:Around)(outer:List Env)(s:Shared)(H:Hp):Prop where
 frames:A.frames=some outer
 mod:Mod K mg base
 bs:∀b o,base.get? b=some o->s.heap.get? b=some o/\H b=none
 bsz:base.objs.size<=s.heap.objs.size
 funs:s.heap.FunFrames base outer
 frf:∀b∈frs outer,H b=none
 hok:HOk P w H s.heap
 bare:AllBare s.gens
def CE(outer:List Env)(P:Program)(w:World)(H:Hp)(s:Shared)(Q:VK)(u:Value)(s':Shared):Prop :=
 ∃v H',s'.os=s.os/\AllBare s'.gens/\Un (frs outer) [] H H' s.heap s'.heap/\HOk P w H' s'.heap/\RelV v u/\Q v H'
def CR(CX:CXT)(outer:List Env)(P:Program)(w:World)(H:Hp)(s:Shared)(Q:VK)(E:XK)(r:Result)(s':Shared):Prop :=
 match r with
 | .ok (.ret u)=>CE outer P w H s Q u s'
 | .ok _=>False
 | .error e=>CX outer H s E e s'
structure FnOk(P:Program)(w:World)(K:PySem.W.Frag)(mg:Str->Option Value)(base:Heap)(CX:CXT)(k:Nat)(f:Addr)(fd:FuncData)(ps:List Str)(sp:Sp):Prop where
 len:∀vs H Q E,sp vs H Q E->vs.length=ps.length
 run:∀(A:Around) (outer:List Env) (s:Shared) (H:Hp) (args:Args) (us:List Value) (vs:List V) (Q:VK) (E:XK),Room k A->Env0 P w K mg base A outer s H->BindsTo s fd args (ps.zip us)->Vals vs us->sp vs H Q E ->
  codeAny (model P w) A (.call (.ref f) args) (CR CX outer P w H s Q E) s
theorem FnOk.mono{P:Program}{w:World}{K:PySem.W.Frag}{mg:Str->Option Value}{base:Heap}{CX:CXT}{j k:Nat}{f:Addr}{fd:FuncData}{ps:List Str}{sp:Sp}(F:FnOk P w K mg base CX j f fd ps sp)(h:j<=k) :
  FnOk P w K mg base CX k f fd ps sp:=⟨F.len,λA outer s H args us vs Q E hr=>F.run A outer s H args us vs Q E (hr.mono h)⟩
theorem FnOk.imp{P:Program}{w:World}{K:PySem.W.Frag}{mg:Str->Option Value}{base:Heap}{CX:CXT}{k:Nat}{f:Addr}{fd:FuncData}{ps:List Str}{sp sp':Sp}(F:FnOk P w K mg base CX k f fd ps sp)
  (h:∀vs H Q E,sp' vs H Q E->sp vs H Q E):FnOk P w K mg base CX k f fd ps sp' :=
 ⟨λvs H Q E q=>F.len vs H Q E (h _ _ _ _ q),λA outer s H args us vs Q E hr he hb hv hs=>F.run A outer s H args us vs Q E hr he hb hv (h _ _ _ _ hs)⟩
theorem Env0.make{P:Program}{w:World}{K:PySem.W.Frag}{mg:Str->Option Value}{base:Heap}{A:Around}{outer:List Env}{s:Shared}{H:Hp}(e:Env0 P w K mg base A outer s H)(C:Addr)(us:List Value)(kw:List (Str×Value)) :
  Env0 P w K mg base (A.under (.builtin "type.__call__" ⟨.ref C::us,kw⟩)) outer s H:=⟨by first | exact e.frames | (simpa [Around.under,Code.envs,Code.isFrame,pushEnvs] using e.frames),e.mod,e.bs,e.bsz,e.funs,e.frf,e.hok,e.bare⟩
section
variable {X:Cx}{pins:List (Addr×Obj)}{σ:St}{H:Hp}{s s':Shared}
theorem Inv.env0(I:Inv X pins σ H s):Env0 X.prog X.w X.K X.mg X.base X.A X.stack s H :=
 ⟨I.ok.frames,I.ok.mod,I.bs,Nat.le_trans I.ok.bsz I.sz,I.stack,I.stkFree,I.hok,I.bare⟩
theorem Inv.after{Q:VK}{u:Value}(I:Inv X pins σ H s)(h:CE X.stack X.prog X.w H s Q u s'):EP X pins σ Q u s':=by
 obtain ⟨v,H',os,bare,un,hok,r,q⟩:=h
 obtain ⟨hh,g,d,t,os'⟩:=s'
 obtain rfl:os'=s.os:=os
 exact ⟨v,H',I.call (h':=hh) (g':=g) (d':=d) (t':=t) (ch:=[]) un hok bare (λb z=>absurd z (by simp)),r,q⟩
end
def rP(sp:Sp)(dvs:List V)(E:XK)(t:TA):TE:=fun σ H Q=>t σ H λvs H1=>sp (vs++dvs) H1 Q E
def rO(C:Addr)(m:Str)(sp:Sp)(dvs:List V)(E:XK)(ta:TE)(t:TA):TE:=fun σ H Q=>ta σ H λx H1=>∃a dx fs,x=.ref a/\H1 a=some (.ins C dx fs)/\fs.lookup m=none /\
 t σ H1 λvs H2=>sp (x::(vs++dvs)) H2 Q E
def xE(C:Addr)(sp:Sp)(dvs:List V)(E:XK)(t:TA):TE:=fun σ H Q=>t σ H λvs H1=>∀x dx,H1 x=none->H1 dx=none->dx≠x ->
 sp (.ref x::(vs++dvs)) (upd (upd H1 dx (.own x)) x (.ins C dx [])) (λv H2=>v=.non/\Q (.ref x) H2) E
def Binds(K:PySem.W.Frag)(fd:FuncData)(ps:List Str)(ds:List Value):Prop :=
 ∀(s:Shared) (us:List Value),K.In s.heap->(us++ds).length=ps.length->BindsTo s fd ⟨us,[]⟩ (ps.zip (us++ds))
theorem Binds.all{K:PySem.W.Frag}{fd:FuncData}{ps:List Str}(h:∀us:List Value,us.length=ps.length->bindArgs fd ⟨us,[]⟩=pure (ps.zip us)):Binds K fd ps []:=λs us _ hl=>by
 rw [List.append_nil] at hl ⊢
 exact .of_eq (h us hl)
def dL(CX:CXT)(X:Cx)(E:XK):Prop:=∀(pins:List (Addr×Obj)) (σ:St) (H:Hp) (s:Shared) (e:Value) (s':Shared),Inv X pins σ H s->CX X.stack H s E e s'->X.xe e s'
section
variable {X:Cx}{CX:CXT}{k:Nat}{f C:Addr}{fd:FuncData}{ps:List Str}{sp:Sp}{dvs:List V}{ds:List Value}{E:XK}{x m:Str}{p pos apos:Pos}{e o:Expr}{es:List Expr}{ta:TE}{t:TA}
theorem md{pins:List (Addr×Obj)}{σ:St}{H:Hp}{s:Shared}{Q:VK}{us:List Value}{vs:List V}(F:FnOk X.prog X.w X.K X.mg X.base CX k f fd ps sp)(hr:Room k X.A)(hb:Binds X.K fd ps ds)(hd:Vals dvs ds)(hx:dL CX X E)
  (I:Inv X pins σ H s)(r:Vals vs us)(h:sp (vs++dvs) H Q E):wpAny (model X.prog X.w) X.A (call (.ref f) us) (EP X pins σ Q) X.xe s:=by
 have r2:Vals (vs++dvs) (us++ds):=r.append hd
 have hl:(us++ds).length=ps.length:=by rw [← r2.length];exact F.len _ _ _ _ h
 refine wpAny_call (codeAny_mono (F.run X.A X.stack s H ⟨us,[]⟩ (us++ds) (vs++dvs) Q E hr I.env0 (hb s us I.kIn hl) r2 h) λr s' hq=>?_)
 cases r with
 | error e=>exact hx pins σ H s e s' I hq
 | ok fl =>
  cases fl with
  | ret u=>exact I.after hq
  | next=>exact False.elim hq
  | brk=>exact False.elim hq
  | cont=>exact False.elim hq
theorem p9(F:FnOk X.prog X.w X.K X.mg X.base CX k f fd ps sp)(hr:Room k X.A)(hg:Gl X x)(hm:X.mg x=some (.ref f))(hk:PySem.W.keepIn X.K (.ref f)=true)(hb:Binds X.K fd ps ds)(hd:Vals dvs ds)(hx:dL CX X E)
  (ha:PA X (e::es) t)(hdb:(x==("__debug__":Str))=false:=by decide)(he:starEach (e::es) X.env=(false,eval e X.env)::starEach es X.env:=by rfl)(hpl:(backTo pos (starEach es X.env)).any (·.1)=false:=by rfl) :
  PE X (.Call (.Name x p) (e::es) [] pos) (rP sp dvs E t):=by
 intro pins s σ H Q I h
 refine wpAny_Call_Name_kw (jw I hg hm ?_ hdb)
 refine PySem.W.callWith_K (h₀:=X.base) I.ok.mod.kin hk (thn (ha pos pins s σ H _ I h) λus s1 ⟨vs,H1,I1,r,q⟩=>⟨I1.kIn,?_⟩) he hpl
 exact md F hr hb hd hx I1 r q
theorem gZ{pl:Sem Bool}(he:PE X o ta)(c:Cls X.K C)(hm:eL X.K C m f)(F:FnOk X.prog X.w X.K X.mg X.base CX k f fd ps sp)(hr:Room k X.A)(hb:Binds X.K fd ps ds)(hd:Vals dvs ds)(hx:dL CX X E)(ha:PA X (e::es) t)
  (hst:starEach (e::es) X.env=(false,eval e X.env)::starEach es X.env:=by rfl)(hpl:(backTo pos (starEach es X.env)).any (·.1)=false:=by rfl)
  (ht:eval (.Call (.Attribute o m apos) (e::es) [] pos) X.env=(do
   let ov ← eval o X.env
   standAt apos.atName
   let (f,first) ← holding [ov] (getMethod ov m pl)
   callWith pos f first (backTo pos (starEach (e::es) X.env)) (backToKw pos (keywordEach [] X.env))):=by rfl) :
  PE X (.Call (.Attribute o m apos) (e::es) [] pos) (rO C m sp dvs E ta t):=by
 intro pins s σ H Q I h
 refine PySem.W.methodCall_KW (pl:=pl) (thn (he pins s σ H _ I h) λu s1 ⟨x,H1,I1,rx,a,dx,fs,ex,ea,l,q⟩=>?_) ht
 subst ex
 obtain rfl:u=Value.ref a:=rx
 refine gP I1 ea c hm l ?_
 refine PySem.W.callWith_K (first:=[.ref a]) (h₀:=X.base) I.ok.mod.kin hm.kp (thn (ha pos pins s1 σ H1 _ I1 q) λus s2 ⟨vs,H2,I2,r,q2⟩=>⟨I2.kIn,?_⟩) hst hpl
 exact md (us:=.ref a::us) (vs:=.ref a::vs) F hr hb hd hx I2 (.cons rfl r) q2
theorem gY{pl:Sem Bool}(he:PE X o ta)(c:Cls X.K C)(hm:eL X.K C m f)(F:FnOk X.prog X.w X.K X.mg X.base CX k f fd ps sp)(hr:Room k X.A)(hb:Binds X.K fd ps ds)(hd:Vals dvs ds)(hx:dL CX X E)
  (ht:eval (.Call (.Attribute o m apos) [] [] pos) X.env=(do
   let ov ← eval o X.env
   standAt apos.atName
   let (f,first) ← holding [ov] (getMethod ov m pl)
   callWith pos f first (backTo pos (starEach [] X.env)) (backToKw pos (keywordEach [] X.env))):=by rfl) :
  PE X (.Call (.Attribute o m apos) [] [] pos) (rO C m sp dvs E ta ng):=by
 intro pins s σ H Q I h
 refine PySem.W.methodCall_KW (pl:=pl) (thn (he pins s σ H _ I h) λu s1 ⟨x,H1,I1,rx,a,dx,fs,ex,ea,l,q⟩=>?_) ht
 subst ex
 obtain rfl:u=Value.ref a:=rx
 refine gP I1 ea c hm l ?_
 exact PySem.W.callWith_K0 (first:=[.ref a]) I1.kIn hm.kp (md (us:=[.ref a]) (vs:=[.ref a]) F hr hb hd hx I1 (.cons rfl .nil) q)
structure Mk(K:PySem.W.Frag)(C f:Addr):Prop where
 makes:PySem.W.makesIn K C=true
 init:PySem.W.findIn K (.ref C) "__init__"=some (some (.ref f))
 fn:PySem.W.isFn K (.ref f)=true
 kp:PySem.W.keepIn K (.ref C)=true
theorem sA{pins:List (Addr×Obj)}{σ:St}{H:Hp}{s:Shared}{Q:VK}{us:List Value}{vs:List V}(M:Mk X.K C f)(F:FnOk X.prog X.w X.K X.mg X.base CX k f fd ps sp)(hr:Room (k+1) X.A)(hb:Binds X.K fd ps ds)(hd:Vals dvs ds)
  (hx:dL CX X E)(I:Inv X pins σ H s)(r:Vals vs us)
  (h:∀x dx,H x=none->H dx=none->dx≠x->sp (.ref x::(vs++dvs)) (upd (upd H dx (.own x)) x (.ins C dx [])) (λv H2=>v=.non/\Q (.ref x) H2) E) :
  wpAny (model X.prog X.w) X.A (call (.ref C) us) (EP X pins σ Q) X.xe s:=by
 have hq:=h (s.heap.objs.size+1) s.heap.objs.size (I.hok.fresh (Nat.le_succ _)) (I.hok.fresh (Nat.le_refl _)) (Nat.ne_of_lt (Nat.lt_succ_self _))
 have I2:=Inv.made (C:=C) I
 have r2:Vals (V.ref (s.heap.objs.size+1)::(vs++dvs)) (Value.ref (s.heap.objs.size+1)::(us++ds)):=.cons rfl (r.append hd)
 have hl:(Value.ref (s.heap.objs.size+1)::us++ds).length=ps.length:=by
  have e:=r2.length
  rw [F.len _ _ _ _ hq] at e
  exact e.symm
 refine wpAny_call (tU (f:=f) I.kIn M.makes M.init (beq_iff_eq.mp M.fn) (codeAny_mono (F.run _ X.stack _ _ ⟨Value.ref (s.heap.objs.size+1)::us,[]⟩ (Value.ref (s.heap.objs.size+1)::(us++ds)) _ _ E (hr.make C us [])
  (I2.env0.make C us []) (hb _ (Value.ref (s.heap.objs.size+1)::us) I2.kIn hl) r2 hq) λr s' hq'=>?_))
 cases r with
 | error e=>exact hx pins σ _ _ e s' I2 hq'
 | ok fl =>
  cases fl with
  | ret u =>
   obtain ⟨v,H',I3,rv,ev,q3⟩:=I2.after hq'
   subst ev
   exact ⟨rv,⟨V.ref (s.heap.objs.size+1),H',I3,rfl,q3⟩⟩
  | next=>exact False.elim hq'
  | brk=>exact False.elim hq'
  | cont=>exact False.elim hq'
theorem bM(M:Mk X.K C f)(F:FnOk X.prog X.w X.K X.mg X.base CX k f fd ps sp)(hr:Room (k+1) X.A)(hg:Gl X x)(hm:X.mg x=some (.ref C))(hb:Binds X.K fd ps ds)(hd:Vals dvs ds)(hx:dL CX X E)
  (ha:PA X (e::es) t)(hdb:(x==("__debug__":Str))=false:=by decide)(he:starEach (e::es) X.env=(false,eval e X.env)::starEach es X.env:=by rfl)(hpl:(backTo pos (starEach es X.env)).any (·.1)=false:=by rfl) :
  PE X (.Call (.Name x p) (e::es) [] pos) (xE C sp dvs E t):=by
 intro pins s σ H Q I h
 refine wpAny_Call_Name_kw (jw I hg hm ?_ hdb)
 refine PySem.W.callWith_K (h₀:=X.base) I.ok.mod.kin M.kp (thn (ha pos pins s σ H _ I h) λus s1 ⟨vs,H1,I1,r,q⟩=>⟨I1.kIn,?_⟩) he hpl
 exact sA M F hr hb hd hx I1 r q
end
structure ao(N P:List Str)(sc:Scope):Prop where
 kind:sc.kind=.function
 co:sc.isCoroutine=false
 gen:sc.isGenerator=false
 nd:N.Nodup
 pre:N.take P.length=P
 par:∀x∈P,sc.names.lookup x=some .local\/sc.names.lookup x=some .cell
 nofree:∀y∈sc.names,y.2≠.free
theorem ld{kindOf:Str->Option NameKind}{x:Str}:∀{binds:List (Str×Value)} {m:Str->Option Value},(∀v,(x,v)∉binds)->bindL kindOf binds m x=m x
 | [],_,_=>rfl
 | (n,v)::r,m,h=>by
  unfold bindL
  rw [ld λw hw=>h w (List.mem_cons_of_mem _ hw)]
  split
  ·have:x≠n:=by rintro rfl;exact h v List.mem_cons_self
   simp [this]
  ·rfl
theorem lj{kindOf:Str->Option NameKind}{x:Str}:∀{binds:List (Str×Value)} {m:Str->Option Value},(∀v,(x,v)∉binds)->bindC kindOf binds m x=m x
 | [],_,_=>rfl
 | (n,v)::r,m,h=>by
  unfold bindC
  rw [lj λw hw=>h w (List.mem_cons_of_mem _ hw)]
  split
  ·rfl
  ·have:x≠n:=by rintro rfl;exact h v List.mem_cons_self
   simp [this]
theorem lg{kindOf:Str->Option NameKind}{x:Str}{v:Value}:∀{P:List Str} {vs:List Value} {i:Nat} {m:Str->Option Value},P.Nodup->P[i]?=some x->vs[i]?=some v->kindOf x=some .local ->
  bindL kindOf (P.zip vs) m x=some v
 | [],_,_,_,_,h,_,_=>by simp at h
 | _::_,[],_,_,_,_,h,_=>by simp at h
 | p::P,w::vs,0,m,nd,h1,h2,hk=>by
  simp at h1 h2;subst h1;subst h2
  show bindL kindOf ((p,w)::P.zip vs) m p=_
  unfold bindL
  rw [ld λv hv=>(List.nodup_cons.mp nd).1 (List.of_mem_zip hv).1,if_pos hk]
  simp
 | p::P,w::vs,i+1,m,nd,h1,h2,hk=>by
  show bindL kindOf ((p,w)::P.zip vs) m x=_
  unfold bindL
  exact lg (i:=i) (List.nodup_cons.mp nd).2 (by simpa using h1) (by simpa using h2) hk
theorem lp{kindOf:Str->Option NameKind}{x:Str}{v:Value}:∀{P:List Str} {vs:List Value} {i:Nat} {m:Str->Option Value},P.Nodup->P[i]?=some x->vs[i]?=some v->kindOf x≠some .local ->
  bindC kindOf (P.zip vs) m x=some v
 | [],_,_,_,_,h,_,_=>by simp at h
 | _::_,[],_,_,_,_,h,_=>by simp at h
 | p::P,w::vs,0,m,nd,h1,h2,hk=>by
  simp at h1 h2;subst h1;subst h2
  show bindC kindOf ((p,w)::P.zip vs) m p=_
  unfold bindC
  rw [lj λv hv=>(List.nodup_cons.mp nd).1 (List.of_mem_zip hv).1,if_neg hk]
  simp
 | p::P,w::vs,i+1,m,nd,h1,h2,hk=>by
  show bindC kindOf ((p,w)::P.zip vs) m x=_
  unfold bindC
  exact lp (i:=i) (List.nodup_cons.mp nd).2 (by simpa using h1) (by simpa using h2) hk
def start(N:List Str)(vs:List V):St:=vs.map some++List.replicate (N.length-vs.length) none
def pE(CX:CXT)(P:Program)(w:World)(K:PySem.W.Frag)(mg:Str->Option Value)(base:Heap)(N:List Str)(qual:Str)(scope:Scope)(f:Addr)(cd:Value)(A:Around)(outer:List Env)(s:Shared)(H:Hp)(E:XK):Cx where
 prog:=P
 w:=w
 K:=K
 mg:=mg
 base:=base
 A:=A.deeper (envOfC qual scope s.heap.objs.size f cd)
 N:=N
 s₀:=s
 H₀:=H
 env:=envOfC qual scope s.heap.objs.size f cd
 outer:=outer
 stack:=envOfC qual scope s.heap.objs.size f cd::outer
 ex:=[]
 calm:=true
 fn:=λ_=>true
 pn:=[]
 xe:=λe s'=>wpAny (model P w) (A.deeper (envOfC qual scope s.heap.objs.size f cd)) (leaving (envOfC qual scope s.heap.objs.size f cd) e) (λ_ s''=>CX outer H s E e s'') (λe' s''=>CX outer H s E e' s'') s'
theorem ow{sc:Scope}{n:Nat}{x:Str}(h:sc.names.lookup x=some .cell):∃c,(cellsFrom n sc.names []).lookup x=some c:=by
 have q:=PySem.W.cellsFrom_some sc.names n [] (.inl h)
 exact Option.isSome_iff_exists.mp q
theorem rg{CX:CXT}{P:Program}{w:World}{K:PySem.W.Frag}{mg:Str->Option Value}{base:Heap}{N ps:List Str}{qual:Str}{scope:Scope}{f:Addr}{cd:Value}{A:Around}{outer:List Env}{s s1:Shared}{H:Hp}{E:XK}{us:List Value}{vs:List V}
  (S:ao N ps scope)(hd:A.handled=none)(e0:Env0 P w K mg base A outer s H)(hl:vs.length=ps.length)(r:Vals vs us)
  (x:InCallC s s.heap.objs.size (bindL (envOfC qual scope s.heap.objs.size f cd).kindOf (ps.zip us) λ_=>none) (cellsFrom (s.heap.objs.size+1) scope.names []) (bindC (envOfC qual scope s.heap.objs.size f cd).kindOf (ps.zip us) λ_=>none) s1) :
  Inv (pE CX P w K mg base N qual scope f cd A outer s H E) [] (start N vs) H s1:=by
 have hpl:ps.length<=N.length:=by have:=congrArg List.length S.pre;rw [List.length_take] at this;omega
 obtain ⟨h1,tk,rfl,hk⟩:=x.done
 have noA:∀b:Addr,b∉(pE CX P w K mg base N qual scope f cd A outer s H E).ex:=λb z=>absurd (show b∈([]:List Addr) from z) (by simp)
 refine ⟨⟨e0.mod,S.kind,rfl,rfl,Nat.le_refl _,λy z c h1 h2=>?_,λy hy=>?_,λy c _ h=>?_,λ_=>hd,Around.frames_deeper e0.frames,.inr ⟨rfl,rfl⟩,λb z=>absurd z (noA b),e0.bs,e0.bsz,λb _ _=>noA b,λb z=>absurd z (noA b),e0.funs,e0.frf⟩,
  rfl,e0.bare,Un.kept hk,⟨_,x.toInCall.ns,λi y v h1 h2 h3=>?_⟩,λy c h=>⟨_,x.cell y c h⟩,e0.hok.fresh (Nat.le_refl _),λy c h=>?_,λp hp=>absurd (show p∈([]:List (Addr×Obj)) from hp) (by simp),e0.hok.kept hk,?_⟩
 ·exact name_of_addr x.apart (PySem.mem_of_lookup h1) (PySem.mem_of_lookup h2)
 ·have hy:scope.names.lookup y=some .cell\/scope.names.lookup y=some .free:=hy
  rcases hy with hy | hy
  ·exact ow hy
  ·exact absurd rfl (S.nofree _ (PySem.mem_of_lookup hy))
 ·exact Nat.le_of_lt (x.above y c (PySem.mem_of_lookup h))
 ·have hi:i<vs.length:=by
   unfold start at h2
   by_cases hi:i<vs.length
   ·exact hi
   ·rw [List.getElem?_append_right (by simpa using hi)] at h2
    rw [List.getElem?_replicate] at h2
    split at h2<;>cases h2
  have ha:vs[i]?=some v:=by
   unfold start at h2
   rw [List.getElem?_append_left (by simpa using hi),List.getElem?_map] at h2
   cases e:vs[i]? with
   | none=>rw [e] at h2;cases h2
   | some a=>rw [e] at h2;cases h2;rfl
  obtain ⟨u,hu,rv⟩:=r.get ha
  have hp:ps[i]?=some y:=by
   rw [← S.pre,List.getElem?_take_of_lt (by omega)];exact h1
  have ndP:ps.Nodup:=by rw [← S.pre];exact S.nd.sublist (List.take_sublist _ _)
  refine ⟨u,rv,?_⟩
  rcases S.par y (List.mem_of_getElem? hp) with k | k
  ·exact .inl ⟨k,lg ndP hp hu k⟩
  ·obtain ⟨c,e⟩:=ow (n:=s.heap.objs.size+1) k
   refine .inr ⟨.inl k,c,e,?_⟩
   have q:=x.cell y c e
   rw [lp ndP hp hu (by show scope.names.lookup y≠_;rw [k];decide)] at q
   exact q
 ·exact e0.hok.fresh (Nat.le_of_lt (x.above y c (PySem.mem_of_lookup h)))
 ·unfold start
  show _=N.length
  rw [List.length_append,List.length_map,List.length_replicate]
  omega
theorem vX{CX:CXT}{P:Program}{w:World}{K:PySem.W.Frag}{mg:Str->Option Value}{base:Heap}{k:Nat}{f:Addr}{name qual:Str}{params:Arguments}{body:List Stmt}{scope:Scope}{dV kV doc pm cdv ct oc:Value}{an od:Option Addr}
  {osl:Array (Option Value)}{N ps:List Str}{sp:Sp}(lk:K.lookup f=some ⟨oc,od,.func (PySem.W.fnOf name qual params body scope dV kV doc pm an cdv ct),osl⟩)(hcd:PySem.W.codeIn K cdv qual=true)(S:ao N ps scope)
  (len:∀vs H Q E,sp vs H Q E->vs.length=ps.length)
  (hbody:∀(A:Around) (outer:List Env) (s:Shared) (H:Hp) (vs:List V) (Q:VK) (E:XK),Room k (A.deeper (envOfC qual scope s.heap.objs.size f cdv))->sp vs H Q E ->
   ∃t,PSs (pE CX P w K mg base N qual scope f cdv A outer s H E) body t/\t {nx:=λ_ H'=>Q .non H',rt:=Q} (start N vs) H) :
  FnOk P w K mg base CX (k+1) f (PySem.W.fnOf name qual params body scope dV kV doc pm an cdv ct) ps sp:=by
 refine ⟨len,λA outer s H args us vs Q E hr e0 hb r hsp=>?_⟩
 have hl:=len _ _ _ _ hsp
 have KX:K.In s.heap:=e0.mod.kin.keeps λb o e=>(e0.bs b o e).1
 have lim:s.heap.NoLimit:=e0.mod.nolimit.keeps λb o e=>(e0.bs b o e).1
 have hkind:∀y∈ps.zip us,scope.names.lookup y.1=some .local\/(scope.names.lookup y.1=some .cell/\((cellsFrom (s.heap.objs.size+1) scope.names []).lookup y.1).isSome=true):=λ⟨n,v⟩ hy=>by
  rcases S.par n (List.of_mem_zip hy).1 with q | q
  ·exact .inl q
  ·exact .inr ⟨q,PySem.W.cellsFrom_some _ _ _ (.inl q)⟩
 refine codeAny_call_function hr.depth (KX _ _ lk) rfl S.co S.gen rfl (PySem.W.codeRec_of KX hcd) (hb _ _ _ _ ?_)
 refine wpAny_newFunctionEnv_cells S.kind hkind λenv he s1 x=>?_
 subst he
 refine ⟨lim.keeps x.toInCall.keep,codeAny_func ?_⟩
 obtain ⟨t,ht,hq⟩:=hbody A outer s H vs Q E (hr.deeper _) hsp
 have I:Inv (pE CX P w K mg base N qual scope f cdv A outer s H E) [] (start N vs) H s1:=rg S hr.hd e0 hl r x
 refine wpAny_mono (ht [] s1 (start N vs) H _ I hq) (λfl s' hs=>?_) λe s' hs=>hs
 have fin:∀{σ':St} {H':Hp} {v:V} {u:Value},Inv (pE CX P w K mg base N qual scope f cdv A outer s H E) [] σ' H' s'->RelV v u->Q v H'->CE outer P w H s Q u s' :=
  λ{σ' H' v u} J rv q=>⟨v,H',J.os,J.bare,J.base,J.hok,rv,q⟩
 cases fl with
 | ret u =>
  obtain ⟨v,σ',H',J,rv,q⟩:=hs
  exact fin J rv q
 | next =>
  obtain ⟨σ',H',J,q⟩:=hs
  exact fin (v:=V.non) (u:=Value.none) J rfl q
 | brk =>
  obtain ⟨_,_,_,q⟩:=hs
  exact False.elim q
 | cont =>
  obtain ⟨_,_,_,q⟩:=hs
  exact False.elim q
end L2
namespace L2
open PySem PySem.Spec PyProof.Rows
section
variable {X:Cx}{x:Str}{p pos:Pos}{e:Expr}{es:List Expr}{t:TA}{id T:String}{r:List V->Hp->VK->Prop}
def tCB(r:List V->Hp->VK->Prop)(t:TA):TE:=fun σ H Q=>t σ H λvs H1=>r vs H1 Q
theorem ay(hc:dm X (.builtin id) r)(hg:Gl X x)(hm:X.mg x=none)(hv:bootBuiltins x=some (.builtin id))(ha:PA X (e::es) t)(hn:x≠"__name__":=by decide)(hdb:(x==("__debug__":Str))=false:=by decide)
  (he:starEach (e::es) X.env=(false,eval e X.env)::starEach es X.env:=by rfl)(hpl:(backTo pos (starEach es X.env)).any (·.1)=false:=by rfl):PE X (.Call (.Name x p) (e::es) [] pos) (tCB r t):=by
 intro pins s σ H Q I h
 refine wpAny_Call_Name_kw (iQ I hg hm hv ?_ hn hdb)
 exact PyProof.Rows.callWith_builtin1 (thn (ha pos pins s σ H _ I h) λus s1 ⟨vs,H1,I1,r1,q1⟩=>hc pins s1 σ H1 vs us Q I1 r1 q1) he hpl
theorem bK(hc:dm X (.type T) r)(hg:Gl X x)(hm:X.mg x=none)(hv:bootBuiltins x=some (.type T))(ha:PA X (e::es) t)(hn:x≠"__name__":=by decide)(hdb:(x==("__debug__":Str))=false:=by decide)
  (he:starEach (e::es) X.env=(false,eval e X.env)::starEach es X.env:=by rfl)(hpl:(backTo pos (starEach es X.env)).any (·.1)=false:=by rfl):PE X (.Call (.Name x p) (e::es) [] pos) (tCB r t):=by
 intro pins s σ H Q I h
 refine wpAny_Call_Name_kw (iQ I hg hm hv ?_ hn hdb)
 exact PyProof.Rows.callWith_type1 (thn (ha pos pins s σ H _ I h) λus s1 ⟨vs,H1,I1,r1,q1⟩=>hc pins s1 σ H1 vs us Q I1 r1 q1) he hpl
end
end L2
namespace HT
open PySem PyProof.Rows
section
open PySem.SeqAt
open PySem.AutoSeq1 (wpAny_loadPart')
open PySem.MeetsSeq PySem.MeetsSeq2 PySem.MeetsSeq3
end
section
variable {prog:Program}{w:World}{A:Around}{E:Value->Shared->Prop}{s:Shared}
def sIx(n d:Nat):Option Int->Nat
 | none=>d
 | some v=>if v<0 then (v+(n:Int)).toNat else min v.toNat n
theorem ny(n d:Nat):sIx n d none=d:=rfl
theorem dQ(n d k:Nat):sIx n d (some (k:Int))=min k n:=by
 show (if (k:Int)<0 then ((k:Int)+(n:Int)).toNat else min (k:Int).toNat n)=min k n
 rw [if_neg (by omega),Int.toNat_natCast]
theorem wF(n d:Nat)(hd:d<=n)(o:Option Int):sIx n d o<=n:=by
 cases o with
 | none=>exact hd
 | some v =>
  show (if v<0 then (v+(n:Int)).toNat else min v.toNat n)<=n
  by_cases hv:v<0
  ·rw [if_pos hv];omega
  ·rw [if_neg hv];exact Nat.min_le_right _ _
theorem qm(v:Int)(n d:Nat):(if v<0 then max (v+(n:Int)) 0 else min v (n:Int))=((sIx n d (some v):Nat):Int):=by
 show (if v<0 then max (v+(n:Int)) 0 else min v (n:Int))=(((if v<0 then (v+(n:Int)).toNat else min v.toNat n):Nat):Int)
 by_cases hv:v<0
 ·simp only [if_pos hv];omega
 ·simp only [if_neg hv];omega
theorem pH(lo hi:Option Int)(n:Nat):Builtin.Slice.sliceAdjust lo hi 1 (n:Int)=(((sIx n 0 lo:Nat):Int),((sIx n n hi:Nat):Int)):=by
 have h1:¬((1:Int)<0):=by omega
 unfold Builtin.Slice.sliceAdjust
 simp only [h1,if_false]
 refine Prod.ext ?_ ?_
 ·cases lo with
  | none=>rfl
  | some v=>exact qm v n 0
 ·cases hi with
  | none=>rfl
  | some v=>exact qm v n n
theorem oQ(i j:Nat):Builtin.Slice.slicePlaces (i:Int) (j:Int) 1=j-i:=by
 unfold Builtin.Slice.slicePlaces
 have h1:(1:Int)>0:=by omega
 simp only [h1,if_true,Int.ediv_one]
 split<;>omega
theorem jI{v:Value}{o:Option Int}{Q:Option Int->Shared->Prop}(p:IsPart v o)(h:Q o s):wpAny (model prog w) A (Builtin.Slice.slicePartIndex v) Q E s:=by
 cases p with
 | none=>exact slicePart_none h
 | int i t=>exact slicePart_int h
theorem iq{sl:Addr}{vl vu:Value}{lo hi:Option Int}{n:Nat}{Q:Int×Int×Nat->Shared->Prop}(hs:s.heap.IsSliceOf sl vl vu .none)(pl:IsPart vl lo)(pu:IsPart vu hi)
  (h:Q (((sIx n 0 lo:Nat):Int),1,sIx n n hi-sIx n 0 lo) s):wpAny (model prog w) A (Builtin.Slice.sliceApplied (.ref sl) (pure (n:Int))) Q E s:=by
 obtain ⟨os,hos,hcs,hds⟩:=id hs
 unfold Builtin.Slice.sliceApplied Builtin.Slice.sliceFields
 refine wpAny_bind (wpAny_bind (wpAny_field hos hds (x:=vl) rfl (wpAny_bind (wpAny_field hos hds (x:=vu) rfl (wpAny_bind (wpAny_field hos hds (x:=.none) rfl (wpAny_pure ?_)))))))
 refine wpAny_bind (slicePart_none ?_)
 show wpAny _ _ (if ((1:Int)==0)=true then _ else _) _ _ s
 rw [if_neg (by decide)]
 refine wpAny_bind (jI pl (wpAny_bind (jI pu (wpAny_bind (wpAny_pure ?_)))))
 show wpAny _ _ (match Builtin.Slice.sliceAdjust lo hi 1 (n:Int) with | (lo,hi)=>pure (lo,(1:Int),Builtin.Slice.slicePlaces lo hi 1)) _ _ s
 rw [pH lo hi n]
 show wpAny _ _ (pure (((sIx n 0 lo:Nat):Int),(1:Int),Builtin.Slice.slicePlaces ((sIx n 0 lo:Nat):Int) ((sIx n n hi:Nat):Int) 1)) _ _ s
 rw [oQ]
 exact wpAny_pure h
theorem sG(xs:Array Value)(i k:Nat):((List.range k).filterMap λ(m:Nat)=>xs[((i:Int)+(m:Int)*1).toNat]?).toArray=((xs.toList.drop i).take k).toArray:=by
 have e:(λ(m:Nat)=>xs[((i:Int)+(m:Int)*1).toNat]?)=λm=>xs[i+m]?:=by
  funext m
  have:((i:Int)+(m:Int)*1).toNat=i+m:=by omega
  rw [this]
 rw [e]
 have:=pick_run xs i k
 rw [List.filterMap_map] at this
 have e2:((λx=>xs[x]?)∘λx=>i+x)=λm=>xs[i+m]?:=rfl
 rw [e2] at this
 rw [this]
theorem hO{t sl:Addr}{items:Array Value}{vl vu:Value}{lo hi:Option Int}{Q:Value->Shared->Prop}(ht:IsTup s.heap t items)(hs:s.heap.IsSliceOf sl vl vu .none)(pl:IsPart vl lo)(pu:IsPart vu hi)
  (hw:¬(sIx items.size 0 lo=0/\sIx items.size items.size hi=items.size))
  (h:Q (.ref s.heap.objs.size) {s with heap:=s.heap.push {cls:=.type "tuple",data:=.seq ((items.toList.drop (sIx items.size 0 lo)).take (sIx items.size items.size hi-sIx items.size 0 lo)).toArray}})
  (hsz:items.size<=sizeLine):wpAny (model prog w) A (getItem (.ref t) (.ref sl)) Q E s:=by
 have htake:sizeOk (.seq ((items.toList.drop (sIx items.size 0 lo)).take (sIx items.size items.size hi-sIx items.size 0 lo)).toArray):=by
  show ((items.toList.drop (sIx items.size 0 lo)).take (sIx items.size items.size hi-sIx items.size 0 lo)).toArray.size<=sizeLine
  rw [List.size_toArray,List.length_take,List.length_drop,Array.length_toList]
  omega
 have hj:sIx items.size items.size hi<=items.size:=wF _ _ (Nat.le_refl _) hi
 obtain ⟨os,hos,hcs,hds⟩:=id hs
 have hTs:s.TypeIs (.ref sl) "slice":=⟨os,hos,hcs⟩
 unfold getItem
 try with_reducible refine wpAny_holding ?_
 first | refine wpAny_bind (wpAny_pure ?_) | skip
 refine wpAny_bind (wpAny_sequenceKey ht.typeIs (by decide) ?_)
 refine wpAny_bind (wpAny_callSpecial?_slot (name:=Str.ofString "__getitem__") ht.typeIs PyProof.Rows.slot_tuple_getitem
  (wpAny_call_entry PyProof.Rows.slot_tuple_getitem ht.typeIs entry_tuple_getitem ?_ (args_tuple_getitem _ _)))
 show wpAny _ _ (Builtin.Tuple.tupleItemsOf (.ref t) >>= _) _ _ s
 refine wpAny_bind (tupleItemsOf_ ht ?_)
 refine wpAny_bind (wpAny_typeOf hTs ?_)
 rw [if_pos (by decide)]
 refine wpAny_bind (iq hs pl pu ?_)
 have hno:¬((((sIx items.size 0 lo:Nat):Int)==0&&(1:Int)==1&&(sIx items.size items.size hi-sIx items.size 0 lo)==items.size)=true):=by
  intro q
  rw [Bool.and_eq_true,Bool.and_eq_true] at q
  have q1:((sIx items.size 0 lo:Nat):Int)=0:=eq_of_beq q.1.1
  have q2:sIx items.size items.size hi-sIx items.size 0 lo=items.size:=eq_of_beq q.2
  exact hw ⟨by omega,by omega⟩
 show wpAny _ _ (if (((sIx items.size 0 lo:Nat):Int)==0&&(1:Int)==1&&(sIx items.size items.size hi-sIx items.size 0 lo)==items.size)=true then _ else _) _ _ s
 rw [if_neg hno,sG]
 first
  | exact wpAny_bind (m:=Builtin.Tuple.tupleExact _) (wpAny_newObj_type (wpAny_pure ⟨_,rfl,wpAny_pure h⟩) htake)
  | exact wpAny_bind (m:=Builtin.Tuple.tupleExact _) (wpAny_newObj_type (wpAny_bind (wpAny_pure (wpAny_pure ⟨_,rfl,wpAny_pure h⟩))) htake)
  | exact wpAny_bind (wpAny_bind (m:=Builtin.Tuple.tupleExact _) (wpAny_newObj_type (wpAny_pure (wpAny_pure ⟨_,rfl,wpAny_pure h⟩)) htake))
  | exact wpAny_bind (wpAny_bind (m:=Builtin.Tuple.tupleExact _) (wpAny_newObj_type (wpAny_pure ⟨_,rfl,wpAny_pure h⟩) htake))
end
end HT
namespace L2
open PySem PySem.Spec PyProof.Rows
abbrev TO:=St->Hp->(Option Int->Hp->Prop)->Prop
def PO(X:Cx)(e:Option Expr)(t:TO):Prop :=
 ∀(pins:List (Addr×Obj)) (s:Shared) (σ:St) (H:Hp) (Q:Option Int->Hp->Prop),Inv X pins σ H s->t σ H Q ->
  wpAny (model X.prog X.w) X.A (evalPart e X.env) (λu s'=>∃o H',Inv X pins σ H' s'/\IsPart u o/\Q o H') X.xe s
def uF:TO:=λ_ H Q=>Q none H
def xB(t:TE):TO:=fun σ H Q=>t σ H λx H1=>∃i,x=.int i/\Q (some i) H1
theorem pz{ns:List Int}:∀{us:List Value},Vals (ns.map V.int) us->IntsAre us ns:=by
 induction ns with
 | nil=>intro us r;rw [List.map_nil] at r;cases r;exact .nil
 | cons n ns ih =>
  intro us r
  rw [List.map_cons] at r
  cases r with
  | cons r1 r2 =>
   obtain ⟨t,e⟩:=r1
   subst e
   exact .cons n t (ih r2)
section
variable {X:Cx}{e:Expr}{te:TE}{lo hi:Option Expr}{tl th:TO}{pos p2:Pos}
theorem gW:PO X none uF:=by
 intro pins s σ H Q I h
 rw [evalPart_none]
 exact wpAny_pure ⟨none,H,I,.none,h⟩
theorem bu(h:PE X e te):PO X (some e) (xB te):=by
 intro pins s σ H Q I hw
 rw [evalPart_some]
 refine thn (h pins s σ H _ I hw) λu s1 ⟨x,H1,I1,r1,q1⟩=>?_
 obtain ⟨i,rfl,q⟩:=q1
 obtain ⟨t,rfl⟩:=r1
 exact ⟨some i,H1,I1,.int i t,q⟩
def SlR(X:Cx)(r:V->Option Int->Option Int->Hp->VK->Prop):Prop :=
 ∀(pins:List (Addr×Obj)) (s:Shared) (σ:St) (H:Hp) (x:V) (v vl vu:Value) (lo hi:Option Int) (sl:Addr) (Q:VK),Inv X pins σ H s->RelV x v->s.heap.IsSliceOf sl vl vu .none->IsPart vl lo->IsPart vu hi->r x lo hi H Q ->
  ∃T id,typeLookup (.type T) "__getitem__"=pure (some (.builtin id))/\s.TypeIs v T/\wpAny (model X.prog X.w) X.A (getItem v (.ref sl)) (EP X pins σ Q) X.xe s
def tSl(r:V->Option Int->Option Int->Hp->VK->Prop)(te:TE)(tl th:TO):TE:=fun σ H Q=>te σ H λx H1=>tl σ H1 λl H2=>th σ H2 λu H3=>r x l u H3 Q
theorem bQ{r:V->Option Int->Option Int->Hp->VK->Prop}(hr:SlR X r)(he:PE X e te)(hl:PO X lo tl)(hu:PO X hi th):PE X (.Subscript e (.Slice lo hi none p2) pos) (tSl r te tl th):=by
 intro pins s σ H Q I h
 refine Subscript_ (thn (he pins s σ H _ I h) λv s1 ⟨x,H1,I1,r1,q1⟩=>?_)
 refine wpAny_Slice (thn (hl pins s1 σ H1 _ I1 q1) λvl s2 ⟨l,H2,I2,pl,q2⟩=>thn (hu pins s2 σ H2 _ I2 q2) λvu s3 ⟨u,H3,I3,pu,q3⟩=>?_)
 rw [evalPart_none]
 refine wpAny_pure ?_
 have I4:Inv X pins σ H3 {s3 with heap:=s3.heap.push {cls:=.type "slice",data:=.fields #[vl,vu,.none]}}:=I3.kept (t':=s3.toks) λb ob q=>Heap.get?_push_of_some _ q
 obtain ⟨T,id,hT,ht,hg⟩:=hr pins {s3 with heap:=s3.heap.push {cls:=.type "slice",data:=.fields #[vl,vu,.none]}} σ H3 x v vl vu l u s3.heap.objs.size Q I4 r1 (Heap.IsSliceOf.new ..) pl pu q3
 show wpAny (model X.prog X.w) X.A (subscriptTail e (.Slice lo hi none p2) v (.ref s3.heap.objs.size)) (EP X pins σ Q) X.xe {s3 with heap:=s3.heap.push {cls:=.type "slice",data:=.fields #[vl,vu,.none]}}
 exact tail_any (ops:=[.ref s3.heap.objs.size,v]) ht hT hg (by with_unfolding_all rfl)
def eB(xs:List V)(lo hi:Option Int):List V:=(xs.drop (HT.sIx xs.length 0 lo)).take (HT.sIx xs.length xs.length hi-HT.sIx xs.length 0 lo)
theorem je(xs:List V)(lo hi:Option Int):(eB xs lo hi).length<=xs.length:=by
 unfold eB
 rw [List.length_take,List.length_drop]
 omega
def yS(K:PySem.W.Frag):V->Option Int->Option Int->Hp->VK->Prop:=λx lo hi H Q=>∃a xs,x=.ref a/\SqT K H a xs /\
 ¬(HT.sIx xs.length 0 lo=0/\HT.sIx xs.length xs.length hi=xs.length)/\∀p,H p=none->Q (.ref p) (upd H p (.tup (eB xs lo hi)))
theorem sg:SlR X (yS X.K):=by
 intro pins s σ H x v vl vu lo hi sl Q I rx hs pl pu h
 obtain ⟨a,xs,rfl,hx,hw,q⟩:=h
 cases rx
 obtain ⟨its,r,ht,hz⟩:=I.tuple hx
 have hlen:its.toArray.size=xs.length:=by rw [List.size_toArray];exact r.length.symm
 refine ⟨"tuple",_,PyProof.Rows.slot_tuple_getitem.lookup,ht.typeIs,?_⟩
 refine HT.hO ht hs pl pu (by rw [hlen];exact hw) ?_ (by rw [hlen];exact hz)
 rw [hlen]
 refine ⟨.ref s.heap.objs.size,_,I.laid (t':=s.toks) (o:=.tup (eB xs lo hi)) (λb ob q=>Heap.get?_push_of_some _ q) (Nat.le_refl _) ?_,rfl,q _ (I.hok.fresh (Nat.le_refl _))⟩
 exact ⟨Nat.le_trans (je xs lo hi) hz,_,(r.drop (HT.sIx xs.length 0 lo)).take (HT.sIx xs.length xs.length hi-HT.sIx xs.length 0 lo),IsTup.new _ _⟩
end
end L2
namespace L2
open PySem PySem.Spec PyProof.Rows
def ixN(n:Nat)(i:Int):Option Nat:=if 0<=i then (if i<n then some i.toNat else none) else if -(n:Int)<=i then some (i+n).toNat else none
def atI{α:Type}(xs:List α)(i:Int):Option α:=(ixN xs.length i).bind λj=>xs[j]?
theorem qe{n:Nat}{i:Int}{j:Nat}(h:ixN n i=some j):seqIndex? i n=some j/\j<n/\-(n:Int)<=i/\i<n:=by
 unfold ixN at h
 by_cases h0:0<=i
 ·rw [if_pos h0] at h
  by_cases h1:i<n
  ·rw [if_pos h1] at h
   have e:i.toNat=j:=Option.some.inj h
   exact ⟨by rw [seqIndex_of h0 h1,e],by omega,by omega,h1⟩
  ·rw [if_neg h1] at h;cases h
 ·rw [if_neg h0] at h
  by_cases h1:-(n:Int)<=i
  ·rw [if_pos h1] at h
   have e:(i+n).toNat=j:=Option.some.inj h
   exact ⟨by rw [seqIndex_neg (by omega) h1,e],by omega,h1,by omega⟩
  ·rw [if_neg h1] at h;cases h
theorem mR{α:Type}{xs:List α}{i:Int}{v:α}(h:atI xs i=some v):∃j,seqIndex? i xs.length=some j/\xs[j]?=some v/\j<xs.length/\-(xs.length:Int)<=i/\i<xs.length:=by
 unfold atI at h
 cases e:ixN xs.length i with
 | none=>rw [e] at h;cases h
 | some j =>
  rw [e] at h
  obtain ⟨h1,h2,h3,h4⟩:=qe e
  exact ⟨j,h1,h,h2,h3,h4⟩
theorem aB{α:Type}{xs:List α}{j:Nat}{v:α}(h:xs[j]?=some v):atI xs (j:Int)=some v:=by
 have hj:j<xs.length:=(List.getElem?_eq_some_iff.mp h).1
 have e:ixN xs.length (j:Int)=some j:=by
  unfold ixN
  rw [if_pos (by omega),if_pos (by omega)];simp
 unfold atI;rw [e];exact h
theorem gk{α:Type}(xs:List α)(v:α):atI (xs++[v]) (-1)=some v:=by
 have hl:(xs++[v]).length=xs.length+1:=by simp
 have e:ixN (xs++[v]).length (-1)=some xs.length:=by
  unfold ixN
  rw [hl,if_neg (by decide),if_pos (by omega)]
  congr 1
  omega
 unfold atI
 rw [e]
 show (xs++[v])[xs.length]?=some v
 simp
def vJ(b:Expr):Prop:=∀o i,subscripted b false o i=operate [o,i] (getItem o i)
def IxR(X:Cx)(r:R2):Prop :=
 ∀(value slice:Expr) (pins:List (Addr×Obj)) (s:Shared) (σ:St) (H:Hp) (x y:V) (v u:Value) (Q:VK),Inv X pins σ H s->RelV x v->RelV y u->r x y H Q ->
  subscripted slice false v u=operate [v,u] (getItem v u)->wpAny (model X.prog X.w) X.A (subscriptTail value slice v u) (EP X pins σ Q) X.xe s
def MtR(X:Cx)(id:String)(r:V->List V->Hp->VK->Prop):Prop :=
 ∀(pins:List (Addr×Obj)) (s:Shared) (σ:St) (H:Hp) (x:V) (xs:List V) (v:Value) (us:List Value) (Q:VK),Inv X pins σ H s->RelV x v->Vals xs us->r x xs H Q ->
  wpAny (model X.prog X.w) X.A (call (.builtin id) (v::us)) (EP X pins σ Q) X.xe s
section
variable {X:Cx}{a b:Expr}{ta tb:TE}{pos:Pos}
theorem ak{r:R2}(hr:IxR X r)(ha:PE X a ta)(hb:PE X b tb)(hs:vJ b):PE X (.Subscript a b pos) (tOp r ta tb):=by
 intro pins s σ H Q I h
 exact Subscript_ (xq ha hb I h λv u s2 x y H2 I2 rx ry q=>hr a b pins s2 σ H2 x y v u Q I2 rx ry q (hs _ _))
def aN(K:PySem.W.Frag):R2:=λx y H Q=>∃p xs i v,x=.ref p/\y=.int i/\SqL K H p xs/\atI xs i=some v/\Q v H
def aR(K:PySem.W.Frag):R2:=λx y H Q=>∃p xs i v,x=.ref p/\y=.int i/\SqT K H p xs/\atI xs i=some v/\Q v H
def xU:R2:=λx y H Q=>∃z i c,x=.str z/\y=.int i/\z.length<=sizeLine/\atI z.cps.toList i=some c/\Q (.str ⟨#[c]⟩) H
theorem am:IxR X (aN X.K):=by
 intro value slice pins s σ H x y v u Q I rx ry h hs
 obtain ⟨p,xs,i,z,rfl,rfl,hq,he,q⟩:=h
 cases rx
 obtain ⟨t,rfl⟩:=ry
 obtain ⟨its,r,pl,hz⟩:=I.list hq
 obtain ⟨j,h1,h2,h3,h4,h5⟩:=mR he
 obtain ⟨w,ew,rw'⟩:=r.get h2
 have hl:=r.length
 have hn:=gO
 have fin:EP X pins σ Q w s:=⟨z,H,I,rw',q⟩
 by_cases h0:0<=i
 ·have hj:i.toNat=j:=by
   rw [seqIndex_of h0 h5] at h1
   exact Option.some.inj h1
  exact item_listR pl.isList h0 (by omega) (by rw [hj];simpa using ew) fin hs
 ·have hj:(i+(its.toArray.size:Int)).toNat=j:=by
   rw [seqIndex_neg (by omega) h4] at h1
   rw [List.size_toArray,← hl]
   exact Option.some.inj h1
  exact subscriptTail_builtinR (x:=w) pl.isList.typeIs slot_list_getitem.lookup
   (wpAny_getItem_list_neg (Q:=λr s'=>r=w/\EP X pins σ Q r s') pl.isList (by omega) (by rw [List.size_toArray]<;>omega) (by omega) (by rw [hj];simpa using ew) ⟨rfl,fin⟩) hs
theorem aC:IxR X (aR X.K):=by
 intro value slice pins s σ H x y v u Q I rx ry h hs
 obtain ⟨p,xs,i,z,rfl,rfl,hq,he,q⟩:=h
 cases rx
 obtain ⟨t,rfl⟩:=ry
 obtain ⟨its,r,pl,hz⟩:=I.tuple hq
 obtain ⟨j,h1,h2,h3,h4,h5⟩:=mR he
 obtain ⟨w,ew,rw'⟩:=r.get h2
 have hl:=r.length
 have hn:=gO
 have fin:EP X pins σ Q w s:=⟨z,H,I,rw',q⟩
 exact subscriptTail_builtinR (x:=w) pl.typeIs slot_tuple_getitem.lookup
  (getItem_tuple (j:=j) (Q:=λr s'=>r=w/\EP X pins σ Q r s') pl (by omega) (by omega) (by rw [List.size_toArray,← hl];exact h1) (by simpa using ew) ⟨rfl,fin⟩) hs
theorem t5:IxR X xU:=by
 intro value slice pins s σ H x y v u Q I rx ry h hs
 obtain ⟨z,i,c,rfl,rfl,hz,he,q⟩:=h
 obtain ⟨t,rfl⟩:=rx
 obtain ⟨t',rfl⟩:=ry
 obtain ⟨j,h1,h2,h3,h4,h5⟩:=mR he
 have hl:z.cps.toList.length=z.length:=by simp [Str.length]
 rw [hl] at h1 h4 h5
 have hn:=gO
 exact tail_any (typeIs_str s z t) slot_str_getitem.lookup (getItem_str (c:=c) (by
  have e1:decide (i < -(2 ^ 63:Int))=false:=decide_eq_false (by omega)
  have e2:decide (i≥2 ^ 63)=false:=decide_eq_false (by omega)
  rw [e1,e2,Bool.or_false]) (by rw [h1];simpa using h2) ⟨.str ⟨#[c]⟩,H,I.tok _,⟨_,rfl⟩,q⟩) hs
theorem oZ(its:List Value)(n j:Nat)(u:Value):Obj.mapSeq (·.setIfInBounds j u) {cls:=.type "list",data:=.seq its.toArray n}={cls:=.type "list",data:=.seq (its.set j u).toArray n}:=by
 simp [Obj.mapSeq]
theorem Inv.lst{pins:List (Addr×Obj)}{σ:St}{H:Hp}{s:Shared}{p:Addr}{xs:List V}(I:Inv X pins σ H s)(h:H p=some (.lst xs)) :
  ∃(its:List Value) (n:Nat),Vals xs its/\s.heap.get? p=some {cls:=.type "list",data:=.seq its.toArray n}/\xs.length<=sizeLine:=by
 obtain ⟨z,its,n,r,e⟩:=I.hok p _ h
 exact ⟨its,n,r,e,z⟩
theorem Inv.lstUpd{pins:List (Addr×Obj)}{σ:St}{H:Hp}{s:Shared}{p:Addr}{xs ys:List V}{its its':List Value}{n n':Nat}{f:Obj->Obj}(I:Inv X pins σ H s)(h:H p=some (.lst xs))
  (ho:s.heap.get? p=some {cls:=.type "list",data:=.seq its.toArray n})(hf:f {cls:=.type "list",data:=.seq its.toArray n}={cls:=.type "list",data:=.seq its'.toArray n'})(r:Vals ys its')(hz:ys.length<=sizeLine)(t:Nat) :
  Inv X pins σ (upd H p (.lst ys)) {s with heap:=s.heap.update p f,toks:=t}:=by
 have e:(s.heap.update p f).get? p=some {cls:=.type "list",data:=.seq its'.toArray n'}:=by
  rw [Heap.get?_update_self f ho (by rw [hf]<;>rfl),hf]
 refine I.write (x:=p) (e:=p) (by rw [h];trivial) (.inl rfl) (λb u hb q=>(Heap.get?_update_other _ _ (Ne.symm hb)).trans q) ⟨_,e⟩ ?_
 exact ⟨hz,its',n',r,e⟩
def xS:V->V->V->Hp->(Hp->Prop)->Prop:=λo i v H Q=>∃p xs k j,o=.ref p/\i=.int k/\H p=some (.lst xs)/\ixN xs.length k=some j/\Q (upd H p (.lst (xs.set j v)))
theorem ci:yE X xS:=by
 intro pins s σ H o i v ov iv u Q I ro ri rv h
 obtain ⟨p,xs,k,j,rfl,rfl,hp,hj,q⟩:=h
 cases ro
 obtain ⟨t,rfl⟩:=ri
 obtain ⟨its,n,r,ho,hz⟩:=I.lst hp
 obtain ⟨h1,h2,h3,h4⟩:=qe hj
 have hl:=r.length
 have hn:=gO
 have I':Inv X pins σ (upd H p (.lst (xs.set j v))) {s with heap:=s.heap.update p (Obj.mapSeq (·.setIfInBounds j u))} :=
  I.lstUpd hp ho (oZ its n j u) (r.set rv j) (by rw [List.length_set];exact hz) s.toks
 by_cases h0:0<=k
 ·have hk:k.toNat=j:=by
   rw [seqIndex_of h0 h4] at h1
   exact Option.some.inj h1
  exact PySem.W.ki_setAt ho h0 (by omega) (by rw [List.size_toArray,← hl];exact h4) (by rw [hk];exact ⟨_,I',q⟩)
 ·have hk:(k+(its.toArray.size:Int)).toNat=j:=by
   rw [seqIndex_neg (by omega) h3] at h1
   rw [List.size_toArray,← hl]
   exact Option.some.inj h1
  exact PySem.W.ki_setBack ho (by omega) (by rw [List.size_toArray,← hl];exact h3) (by omega) (by rw [hk];exact ⟨_,I',q⟩)
theorem lK(lo hi:Option Int)(n:Nat):(sliceBounds lo hi none n).1=((HT.sIx n 0 lo:Nat):Int)/\(sliceBounds lo hi none n).2.1=((HT.sIx n n hi:Nat):Int)/\(sliceBounds lo hi none n).2.2=1:=by
 refine ⟨?_,?_,rfl⟩
 ·cases lo with
  | none=>simp [sliceBounds,HT.sIx]
  | some i =>
   simp only [sliceBounds,HT.sIx,Option.getD_none,show (1:Int)>0 by decide,if_true]
   by_cases h:i<0
   ·simp only [h,if_true]<;>omega
   ·simp only [h,if_false]<;>omega
 ·cases hi with
  | none=>simp [sliceBounds,HT.sIx]
  | some i =>
   simp only [sliceBounds,HT.sIx,Option.getD_none,show (1:Int)>0 by decide,if_true]
   by_cases h:i<0
   ·simp only [h,if_true]<;>omega
   ·simp only [h,if_false]<;>omega
theorem ko(its:List Value)(lo hi:Option Int):slicePick its.toArray lo hi none=((its.drop (HT.sIx its.length 0 lo)).take (HT.sIx its.length its.length hi-HT.sIx its.length 0 lo)).toArray:=by
 obtain ⟨h1,h2,h3⟩:=lK lo hi its.toArray.size
 unfold slicePick
 rw [h1,h2,h3]
 simp only [sliceRange_one,pick_run,List.size_toArray]<;>rfl
def xR(K:PySem.W.Frag):V->Option Int->Option Int->Hp->VK->Prop:=λx lo hi H Q=>∃a xs,x=.ref a/\SqL K H a xs/\∀p,H p=none->Q (.ref p) (upd H p (.lst (eB xs lo hi)))
theorem eO:SlR X (xR X.K):=by
 intro pins s σ H x v vl vu lo hi sl Q I rx hs pl pu h
 obtain ⟨a,xs,rfl,hx,q⟩:=h
 cases rx
 obtain ⟨its,r,ht,hz⟩:=I.list hx
 have hlen:=r.length
 refine ⟨"list",_,slot_list_getitem.lookup,ht.isList.typeIs,?_⟩
 refine wpAny_getItem_list_slice ht.isList hs pl pu .none (by simp) ?_ (by rw [List.size_toArray]<;>omega)
 rw [ko,← hlen]
 refine ⟨.ref s.heap.objs.size,_,I.laid (t':=s.toks) (o:=.lst (eB xs lo hi)) (λb ob q=>Heap.get?_push_of_some _ q) (Nat.le_refl _) ?_,rfl,q _ (I.hok.fresh (Nat.le_refl _))⟩
 exact ⟨Nat.le_trans (je xs lo hi) hz,_,0,(r.drop (HT.sIx xs.length 0 lo)).take (HT.sIx xs.length xs.length hi-HT.sIx xs.length 0 lo),Heap.get?_push_size _ rfl⟩
theorem aD:dm X (.builtin "len") (λxs H Q=>∃p ys,xs=[.ref p]/\(SqL X.K H p ys\/SqT X.K H p ys)/\Q (.int ys.length) H):=by
 intro pins s σ H xs us Q I r h
 obtain ⟨p,ys,rfl,hq,q⟩:=h
 obtain ⟨u,rfl,rx⟩:=dg r
 cases rx
 have hn:=gO
 rcases hq with hq | hq
 ·obtain ⟨its,r',pl,hz⟩:=I.list hq
  have hlen:=r'.length
  exact Calls.call_len_list pl.isList (by simp only [List.size_toArray]<;>omega) ⟨.int ys.length,H,I.tok _,⟨s.toks+1,by rw [List.size_toArray,hlen]⟩,q⟩
 ·obtain ⟨its,r',pl,hz⟩:=I.tuple hq
  have hlen:=r'.length
  exact len_tuple pl (by simp only [List.size_toArray]<;>omega) ⟨.int ys.length,H,I.tok _,⟨s.toks+1,by rw [List.size_toArray,hlen]⟩,q⟩
theorem bx:dm X (.builtin "len") (λxs H Q=>∃z,xs=[.str z]/\z.length<=sizeLine/\Q (.int z.length) H):=by
 intro pins s σ H xs us Q I r h
 obtain ⟨z,rfl,hz,q⟩:=h
 obtain ⟨u,rfl,t,rfl⟩:=dg r
 have hn:=gO
 exact len_str (by omega) ⟨.int z.length,H,I.tok _,⟨_,rfl⟩,q⟩
theorem cH:dm X (.type "list") (λxs H Q=>∃p ys,xs=[.ref p]/\(SqL X.K H p ys\/SqT X.K H p ys)/\∀l,H l=none->Q (.ref l) (upd H l (.lst ys))):=by
 intro pins s σ H xs us Q I r h
 obtain ⟨p,ys,rfl,hq,q⟩:=h
 obtain ⟨u,rfl,rx⟩:=dg r
 cases rx
 have fin:∀(its:List Value),Vals ys its->ys.length<=sizeLine->∀(h':Heap) (c':Nat),(∀b o',s.heap.get? b=some o'->h'.get? b=some o') ->
   h'.get? s.heap.objs.size=some {cls:=.type "list",dict:=none,data:=.seq its.toArray c',slots:=#[]}->EP X pins σ Q (.ref s.heap.objs.size) {s with heap:=h'}:=λits r' hz h' c' kp e =>
  ⟨.ref s.heap.objs.size,_,I.laid (t':=s.toks) kp (Nat.le_refl _) (show ObjOk X.prog X.w _ h' _ (.lst ys) from ⟨hz,its,c',r',e⟩),rfl,q _ (I.hok.fresh (Nat.le_refl _))⟩
 rcases hq with hq | hq
 ·obtain ⟨its,r',pl,hz⟩:=I.list hq
  have hlen:=r'.length
  obtain ⟨o,ho,hc,n,hd⟩:=pl.isList
  exact call_list_seq p (.inl rfl) ho hc hd (λh' c' kp e=>fin its r' hz h' c' kp e) (by simp only [List.size_toArray]<;>omega)
 ·obtain ⟨its,r',pl,hz⟩:=I.tuple hq
  have hlen:=r'.length
  obtain ⟨o,ho,hc,n,hd⟩:=pl
  exact call_list_seq p (.inr rfl) ho hc hd (λh' c' kp e=>fin its r' hz h' c' kp e) (by simp only [List.size_toArray]<;>omega)
theorem eC:dm X (.type "tuple") (λxs H Q=>∃p ys,xs=[.ref p]/\((SqL X.K H p ys/\∀l,H l=none->Q (.ref l) (upd H l (.tup ys)))\/(SqT X.K H p ys/\Q (.ref p) H))):=by
 intro pins s σ H xs us Q I r h
 obtain ⟨p,ys,rfl,h⟩:=h
 obtain ⟨u,rfl,rx⟩:=dg r
 cases rx
 rcases h with ⟨hq,q⟩ | ⟨hq,q⟩
 ·obtain ⟨its,r',pl,hz⟩:=I.list hq
  have hlen:=r'.length
  refine call_tuple_list pl.isList (λh' kp=>?_) (by simp only [List.size_toArray]<;>omega)
  have I1:Inv X pins σ H {s with heap:=h'}:=I.kept (t':=s.toks) kp
  have I2:Inv X pins σ (upd H h'.objs.size (.tup ys)) {s with heap:=h'.push {cls:=.type "tuple",data:=.seq its.toArray}} :=
   I1.laid (t':=s.toks) (λb o e=>Heap.get?_push_of_some _ e) (Nat.le_refl _) (show ObjOk X.prog X.w _ _ _ (.tup ys) from ⟨hz,its,r',IsTup.new _ _⟩)
  exact ⟨.ref h'.objs.size,_,I2,rfl,q _ (I1.hok.fresh (Nat.le_refl _))⟩
 ·obtain ⟨its,r',pl,hz⟩:=I.tuple hq
  exact call_tuple_same pl ⟨.ref p,H,I,rfl,q⟩
def tyV(K:PySem.W.Frag)(T:String)(x:V)(H:Hp):Prop:=match x with
 | .str _=>T="str"
 | .int _=>T="int"
 | .ref p=>(T="list"/\∃xs,SqL K H p xs)\/(T="tuple"/\∃o,K.lookup p=some o/\o.cls=.type "tuple"/\o.dict=none) \/
   (T="dict"/\((∃kvs,H p=some (.dK kvs))\/∃kvs,H p=some (.dT kvs)))\/(T="set"/\∃S n,H p=some (.set S n))
 | _=>False
theorem rH{pins:List (Addr×Obj)}{σ:St}{H:Hp}{s:Shared}{T:String}{x:V}{v:Value}(I:Inv X pins σ H s)(r:RelV x v)(ty:tyV X.K T x H) :
  s.TypeIs v T/\∀a,v=.ref a->∃ob,s.heap.get? a=some ob/\ob.dict=none:=by
 cases x with
 | str z =>
  obtain ⟨t,rfl⟩:=r
  cases (show T="str" from ty)
  exact ⟨typeIs_str s z t,λ_ e=>nomatch e⟩
 | int i =>
  obtain ⟨t,rfl⟩:=r
  cases (show T="int" from ty)
  exact ⟨typeIs_int s i t,λ_ e=>nomatch e⟩
 | ref p =>
  cases r
  rcases ty with ⟨rfl,xs,hq⟩ | ⟨rfl,o,hk,hc,hd⟩ | ⟨rfl,hk⟩ | ⟨rfl,S,n,hk⟩
  ·obtain ⟨its,_,pl,_⟩:=I.list hq
   refine ⟨pl.isList.typeIs,λa e=>?_⟩
   cases e
   obtain ⟨o,n,e,c,hd,_⟩:=pl
   exact ⟨o,e,hd⟩
  ·refine ⟨⟨o,I.kIn p o hk,hc⟩,λa e=>?_⟩
   cases e
   exact ⟨o,I.kIn _ o hk,hd⟩
  ·have z:∃o,s.heap.get? p=some o/\o.ExactDict:=by
    rcases hk with ⟨kvs,hk⟩ | ⟨kvs,hk⟩
    ·obtain ⟨_,_,_,_,o,_,_,e,ex,_⟩:=I.hok p _ hk
     exact ⟨o,e,ex⟩
    ·obtain ⟨_,_,_,_,o,_,_,e,ex,_⟩:=I.hok p _ hk
     exact ⟨o,e,ex⟩
   obtain ⟨o,e,ex⟩:=z
   refine ⟨⟨o,e,ex.1⟩,λa e2=>?_⟩
   cases e2
   exact ⟨o,e,ex.2.1⟩
  ·obtain ⟨o,_,_,_,e,ex,_⟩:=I.hok p _ hk
   refine ⟨⟨o,e,ex.1⟩,λa e2=>?_⟩
   cases e2
   exact ⟨o,e,ex.2.1⟩
 | _=>exact False.elim ty
def xI(K:PySem.W.Frag)(T:String)(r:V->List V->Hp->VK->Prop)(to:TE):TE:=fun σ H Q=>to σ H λx H1=>tyV K T x H1/\r x [] H1 Q
def tBM(K:PySem.W.Frag)(T:String)(r:V->List V->Hp->VK->Prop)(to:TE)(t:TA):TE:=fun σ H Q=>to σ H λx H1=>tyV K T x H1/\t σ H1 λxs H2=>r x xs H2 Q
variable {o e:Expr}{es:List Expr}{to:TE}{t:TA}{name:Str}{apos cpos:Pos}{T id:String}{r:V->List V->Hp->VK->Prop}
theorem sL(pa:PlainAttrs T)(slot:Slot T name id)(hty:typeOf (.builtin id)=pure (.type "method_descriptor"))(hm:MtR X id r)(ho:PE X o to)
  (hbase:attributeBase o name X.env (eval o X.env)=eval o X.env:=by rfl)(hline:(apos.endLine==cpos.line)=true:=by rfl):PE X (.Call (.Attribute o name apos) [] [] cpos) (xI X.K T r to):=by
 intro pins s σ H Q I h
 refine wpAny_Call_method0_late hbase hline (thn (ho pins s σ H _ I h) λv s1 ⟨x,H1,I1,r1,ty,q1⟩=>?_)
 obtain ⟨h1,h2⟩:=rH I1 r1 ty
 exact ⟨T,id,pa,slot,hty,h1,h2,Calls.callWith_builtin rfl (PySem.evalArgs_none (hm pins s1 σ H1 x [] v [] Q I1 r1 .nil q1))⟩
theorem cS(pa:PlainAttrs T)(slot:Slot T name id)(hty:typeOf (.builtin id)=pure (.type "method_descriptor"))(hm:MtR X id r)(ho:PE X o to)(ha:PA X (e::es) t)
  (hbase:attributeBase o name X.env (eval o X.env)=eval o X.env:=by rfl)
  (hfew:((backTo cpos (starEach (e::es) X.env)).all (λx=>!x.1)&&(backToKw cpos (keywordEach [] X.env)).all (λx=>x.1.isSome)
   && decide ((e::es).length+([]:List Keyword).length+(if ([]:List Keyword).isEmpty then 0 else 1)<30))=true:=by rfl)
  (hline:(apos.endLine==cpos.line)=true:=by rfl) (hs:starEach (e::es) X.env=(false,eval e X.env)::starEach es X.env:=by rfl) (hplain:(backTo cpos (starEach es X.env)).any (·.1)=false:=by rfl) :
  PE X (.Call (.Attribute o name apos) (e::es) [] cpos) (tBM X.K T r to t):=by
 intro pins s σ H Q I h
 refine wpAny_Call_method_late hbase hfew hline rfl (thn (ho pins s σ H _ I h) λv s1 ⟨x,H1,I1,r1,ty,q1⟩=>?_)
 obtain ⟨h1,h2⟩:=rH I1 r1 ty
 refine ⟨T,id,pa,slot,hty,h1,h2,?_⟩
 have hA:=ha cpos pins s1 σ H1 _ I1 q1
 rw [hs] at hA ⊢
 refine Calls.callWith_builtin (by show (false||(backTo cpos (starEach es X.env)).any (·.1))=false;rw [hplain]<;>rfl) (Calls.evalArgs_plain ?_)
 exact thn hA λus s2 ⟨vs,H2,I2,r2,q2⟩=>hm pins s2 σ H2 x vs v us Q I2 r1 r2 q2
end
end L2
namespace L2
open PySem PySem.Spec PyProof.Rows
def MtM(X:Cx)(id:String)(r:V->List V->Hp->VK->Prop):Prop :=
 ∀(pins:List (Addr×Obj)) (s:Shared) (σ:St) (H:Hp) (x:V) (xs:List V) (v:Value) (us:List Value) (Q:VK),Inv X pins σ H s->RelV x v->Vals xs us->r x xs H Q ->
  wpAny (model X.prog X.w) X.A (call (.builtin id) (v::us)) (EP X pins σ Q) X.xe s
theorem Vals.one:∀{x:V} {us:List Value},Vals [x] us->∃u,us=[u]/\RelV x u
 | _,_,.cons r .nil=>⟨_,rfl,r⟩
theorem Vals.zero:∀{us:List Value},Vals [] us->us=[]
 | _,.nil=>rfl
theorem Vals.dropLast{xs:List V}{us:List Value}(h:Vals xs us):Vals xs.dropLast us.dropLast:=by
 induction h with
 | nil=>exact .nil
 | cons r t ih =>
  cases t with
  | nil=>exact .nil
  | cons q t'=>exact .cons r ih
theorem pB{α:Type}(l:List α):l.eraseIdx (l.length-1)=l.dropLast:=by
 induction l with
 | nil=>rfl
 | cons a r ih =>
  cases r with
  | nil=>rfl
  | cons b r =>
   have e:(a::b::r).length-1=((b::r).length-1)+1:=by
    have h1:(a::b::r).length=r.length+2:=rfl
    have h2:(b::r).length=r.length+1:=rfl
    omega
   rw [e,List.eraseIdx_cons_succ,ih]
   all_goals rfl
section
variable {X:Cx}{pins:List (Addr×Obj)}{σ:St}{H:Hp}{s:Shared}{l b:Addr}{xs ys zs:List V}
theorem Inv.lset{its its':List Value}{n:Nat}{f:Array Value->Array Value}{t':Nat}(I:Inv X pins σ H s)(hH:H l=some (.lst xs))
  (e:s.heap.get? l=some {cls:=.type "list",data:=.seq its.toArray n})(hf:f its.toArray=its'.toArray)(hv:Vals ys its')(hz:ys.length<=sizeLine) :
  Inv X pins σ (upd H l (.lst ys)) {s with heap:=s.heap.update l (Obj.mapSeq f),toks:=t'}:=by
 have q:=PySem.IsL.update e f
 rw [hf] at q
 refine I.write (x:=l) (e:=l) (by rw [hH];exact trivial) (.inl rfl) (λb' u hb hu=>(Heap.get?_update_other s.heap (Obj.mapSeq f) (Ne.symm hb)).trans hu) ⟨_,q⟩ ?_
 exact ⟨hz,its',_,hv,q⟩
theorem Inv.lnew{its:List Value}{t':Nat}(I:Inv X pins σ H s)(hv:Vals ys its)(hz:ys.length<=sizeLine) :
  Inv X pins σ (upd H s.heap.objs.size (.lst ys)) {s with heap:=s.heap.push {cls:=.type "list",data:=.seq its.toArray},toks:=t'} :=
 I.laid (λ_ _ q=>Heap.get?_push_of_some _ q) (Nat.le_refl _) ⟨hz,its,0,hv,Heap.get?_push_size _ rfl⟩
theorem Inv.fresh(I:Inv X pins σ H s):H s.heap.objs.size=none:=I.hok.fresh (Nat.le_refl _)
theorem Inv.lstM(I:Inv X pins σ H s)(hH:H l=some (.lst xs)):xs.length<=sizeLine/\∃(its:List Value) (n:Nat),Vals xs its/\xs.length=its.length/\s.heap.get? l=some {cls:=.type "list",data:=.seq its.toArray n}:=by
 obtain ⟨z,its,n,r,e⟩:=I.hok l _ hH
 exact ⟨z,its,n,r,r.length,e⟩
end
section
variable {X:Cx}
def uR:V->List V->Hp->VK->Prop:=λx vs H Q=>∃l xs y,x=.ref l/\vs=[y]/\H l=some (.lst xs)/\xs.length<sizeLine/\Q .non (upd H l (.lst (xs++[y])))
theorem bX:MtM X "list.append" uR:=by
 intro pins s σ H x vs v us Q I rx rv h
 obtain ⟨l,xs,y,rfl,rfl,hH,hz,q⟩:=h
 cases rx
 obtain ⟨u,rfl,ru⟩:=rv.one
 obtain ⟨z,its,n,r,hl,e⟩:=I.lstM hH
 refine call_meets F.slot_list_append ⟨_,e,rfl⟩ F.entry_list_append (F.args_list_append_2 _ _) (PySem.list_append l its.toArray n u (by rw [List.size_toArray];omega)) ⟨e,?_⟩
 refine ⟨.non,_,I.lset (its':=its++[u]) hH e (by simp) (r.append (.cons ru .nil)) ?_,rfl,q⟩
 rw [List.length_append,List.length_singleton]
 omega
def yT:V->List V->Hp->VK->Prop:=λx vs H Q=>∃l xs y,x=.ref l/\vs=[]/\H l=some (.lst xs)/\xs[xs.length-1]?=some y/\Q y (upd H l (.lst xs.dropLast))
theorem w8:MtM X "list.pop" yT:=by
 intro pins s σ H x vs v us Q I rx rv h
 obtain ⟨l,xs,y,rfl,rfl,hH,hy,q⟩:=h
 cases rx
 have hus:=rv.zero
 subst hus
 obtain ⟨z,its,n,r,hl,e⟩:=I.lstM hH
 obtain ⟨u,hu,ru⟩:=r.get hy
 have hy':its.toArray[its.toArray.size-1]?=some u:=by
  show its.toArray[its.length-1]?=some u
  rw [← Array.getElem?_toList,← hl]
  exact hu
 refine call_meets F.slot_list_pop ⟨_,e,rfl⟩ F.entry_list_pop (F.args_list_pop_1 _) (MeetsSeq.list_pop_last l its.toArray n u hy' (by rw [List.size_toArray];omega)) ⟨e,?_⟩
 refine ⟨y,_,I.lset (its':=its.dropLast) hH e ?_ r.dropLast ?_,ru,q⟩
 ·show its.toArray.eraseIdxIfInBounds (its.toArray.size-1)=its.dropLast.toArray
  rw [List.size_toArray,List.eraseIdxIfInBounds_toArray,pB]
 ·rw [List.length_dropLast]
  omega
def yU:R2:=λx y H Q=>∃l b xs zs,x=.ref l/\y=.ref b/\H l=some (.lst xs)/\H b=some (.lst zs)/\xs.length+zs.length<=sizeLine/\∀p,H p=none->Q (.ref p) (upd H p (.lst (xs++zs)))
theorem wO:OpR X (binaryOp .Add) yU:=by
 intro pins s σ H x y v u Q I rx ry h
 obtain ⟨l,b,xs,zs,rfl,rfl,hH,hB,hz,q⟩:=h
 cases rx
 cases ry
 obtain ⟨z,its,n,r,hl,e⟩:=I.lstM hH
 obtain ⟨z2,its2,n2,r2,hl2,e2⟩:=I.lstM hB
 refine PySem.P.add_list e e2 ?_ (by rw [List.size_toArray,List.size_toArray];omega)
 have ea:its.toArray++its2.toArray=(its++its2).toArray:=by simp
 rw [ea]
 exact ⟨.ref _,_,I.lnew (t':=s.toks) (r.append r2) (by rw [List.length_append];omega),rfl,q _ I.fresh⟩
end
end L2
namespace Att
open PySem PySem.W PySem.Calls PyProof.Rows
theorem jp{P:Params}{h:Heap}:∀(ns:List Int) (vs:List Value),WellAll P h vs (ns.map WData.int)->IntsAre vs ns:=by
 intro ns
 induction ns with
 | nil =>
  intro vs w
  rw [List.map_nil] at w
  cases w
  exact .nil
 | cons n ns ih =>
  intro vs w
  rw [List.map_cons] at w
  cases w with
  | cons a b =>
   cases a
   exact .cons _ _ (ih _ b)
theorem qI{l:OpenLaw}{n:Nat}(hn:l.most=some n){P:Params}{h:Heap}{args:List WData}{vals:List Value}
  (hpre:l.row.toRowW.claim.pre args=true)(hwl:WellAll P h vals args) :
  ∃a vs ns,vals=[Value.ref a]/\args=[WData.list (ns.map WData.int)]/\h.get? a=some {cls:=.type "list",data:=.seq vs.toArray}/\IntsAre vs ns/\ns.length<=n:=by
 have hsh:WShape.hasAll [] args [.list .int]=true:=(pre_splitW hpre).1
 have hc:l.pre.holds [] {args:=args}=true:=(pre_splitW hpre).2
 obtain ⟨d,r,rfl,h1,h2⟩:=hasAllW_cons hsh
 obtain rfl:=hasAllW_nil h2
 obtain ⟨xs,rfl,h3⟩:=hasW_list h1
 obtain ⟨ns,rfl⟩:=items_int h3
 have hlen:ns.length<=n:=by
  unfold OpenLaw.pre at hc
  have h4:(WTm.not (.lt (.lit (.int (n:Int))) (.len (.arg 0)))).holds [] {args:=[.list (ns.map .int)]}=true:=by
   have h4:=(holds_andW hc).1
   rw [hn] at h4
   exact h4
  have h5:=condW_of h4 (w_not (w_lt w_lit (w_len_list (w_arg rfl))))
  rw [List.length_map] at h5
  refine Nat.le_of_not_lt λq=>?_
  have q':(n:Int)<((ns.length:Nat):Int):=by omega
  first
   | (rw [decide_eq_true q'] at h5;exact absurd h5 (by decide))
   | (simp at h5;omega)
 cases hwl with
 | cons w1 w2 =>
  cases w2
  cases w1 with
  | list ho hall=>exact ⟨_,_,ns,rfl,rfl,ho,jp ns _ hall,hlen⟩
theorem qL(l:OpenLaw)(args:List WData):l.row.toRowW.claim.post args (.bool true) args=true :=
 postW_of (r:=l.row.toRowW) (X:=(true==true))
  (show WShape.has [] (.bool true) .bool=true by first | rfl | decide | simp [WShape.has,WShape.arms,WShape.armsAll])
  (show (WTm.eq .res (.lit (.bool true))).value [] {args:=args,res:=some (.bool true),after:=args}=some (.bool (true==true)) from w_eq_bool (w_res rfl) w_lit) rfl
theorem oy{l:OpenLaw}{n:Nat}{q:Program}{loose:List Str}{XP:(Str->Option Value)->Heap->Prop}{YP:World->Heap->Prop}{d:DefRec}
  (hn:l.most=some n)(hdf:d.params.defaults=[])
  (call:∀(w:World) (s₀ s₁:Shared) (mg mb:Str->Option Value) (fa:Addr) (o:Obj) (pm cd doc:Value) (a:Addr) (vs:List Value) (ns:List Int),
   Ground q loose [] XP w s₀ mg mb s₁.heap->YP w s₁.heap ->
   s₁.heap.get? fa=some o->o.data=.func (docDef d.name d.params d.body d.scope pm cd doc)->s₁.heap.CodeRec cd d.name->mg d.name=some (.ref fa) ->
   s₁.heap.get? a=some {cls:=.type "list",data:=.seq vs.toArray}->IntsAre vs ns->ns.length<=n->s₁.gens=#[] ->
   codeAny (model l.prog w) callerA (.call (.ref fa) ⟨[.ref a],[]⟩) (λr s'=>r=.ok (.ret (.bool true))/\OldK s₁.heap s'.heap/\s'.os=s₁.os/\AllBare s'.gens) s₁) :
  WalkO q loose XP YP l.row.toRowW d [] (λf vs=>PySem.call f vs):=by
 intro w s₀ s₁ mg mb G Y fa o pm cd doc dV kV ho hd hcd hD hmg hg args vals as hpre hlay hrd hwl hlo
 obtain rfl:dV=.none:=Dflts.none hD hdf
 obtain rfl:kV=.none:=Dflts.noKw hD
 obtain ⟨a,vs,ns,rfl,rfl,hobj,hints,hlen⟩:=qI hn hpre hwl
 refine enter_call (codeAny_mono (call w s₀ s₁ mg mb fa o pm cd doc a vs ns G Y ho (fd_plain hd) hcd hmg hobj hints hlen hg) λr s' hq=>?_)
 obtain ⟨rfl,h2,h3,h4⟩:=hq
 exact ⟨.inl ⟨.bool true,.bool true,[],rfl,λ_=>rfl,.bool true,qL l _,λ_=>⟨List.Pairwise.nil,λ_ hm=>(nomatch hm)⟩⟩,h2,h3,h4⟩
section
variable {prog:Program}{w:World}{A:Around}{E:Value->Shared->Prop}{s:Shared}{K:Frag}
end
end Att
namespace L2
open PySem PySem.Spec PyProof.Rows
theorem ky:∀{vs:List Value} {ns:List Int},IntsAre vs ns->Vals (ns.map V.int) vs
 | _,_,.nil=>.nil
 | _,_,.cons n t h=>.cons ⟨t,rfl⟩ (ky h)
end L2
namespace L2
open PySem PySem.Spec PyProof.Rows
end L2
namespace L2
open PySem PySem.Spec PyProof.Rows
def inClass(s:Stmt)(j:Nat):Stmt:=match s with
 | .ClassDef _ _ _ body _ _ _ _ _ _ _=>body.getD j (.Pass ⟨0,0,0,0⟩)
 | _=>.Pass ⟨0,0,0,0⟩
def defArgs(s:Stmt):Arguments:=match s with
 | .FunctionDef _ a _ _ _ _ _ _ _ _=>a
 | _=>{posonlyargs:=[],args:=[],vararg:=none,kwonlyargs:=[],kw_defaults:=[],kwarg:=none,defaults:=[]}
def defBody(s:Stmt):List Stmt:=match s with
 | .FunctionDef _ _ b _ _ _ _ _ _ _=>b
 | _=>[]
def defScope(s:Stmt):Scope:=match s with
 | .FunctionDef _ _ _ _ _ _ sc _ _ _=>sc
 | _=>{kind:=.function,names:=[],isGenerator:=false,isCoroutine:=false}
abbrev CX0:CXT:=λ_ _ _ _ _ _=>False
abbrev E0:XK:=λ_ _ _=>False
theorem bE{X:Cx}:dL CX0 X E0:=λ_ _ _ _ _ _ _ h=>h.elim
structure Fun(K:PySem.W.Frag)(x qual:Str)(st:Stmt)(f:Addr)(fd:FuncData):Prop where
 ex:∃(oc:Value) (od:Option Addr) (kV doc pm:Value) (an:Option Addr) (cdv ct:Value) (osl:Array (Option Value)),
  fd=PySem.W.fnOf x qual (defArgs st) (defBody st) (defScope st) .none kV doc pm an cdv ct/\K.lookup f=some ⟨oc,od,.func fd,osl⟩/\PySem.W.codeIn K cdv qual=true
 kp:PySem.W.keepIn K (.ref f)=true
section
variable {P:Program}{w:World}{K:PySem.W.Frag}{mg:Str->Option Value}{base:Heap}
theorem Fun.ok{x qual:Str}{st:Stmt}{f:Addr}{fd:FuncData}{N ps:List Str}{k:Nat}{sp:Sp}(F:Fun K x qual st f fd)(S:ao N ps (defScope st))(len:∀vs H Q E,sp vs H Q E->vs.length=ps.length)
  (hbody:∀(cdv:Value) (A:Around) (outer:List Env) (s:Shared) (H:Hp) (vs:List V) (Q:VK) (E:XK),Room k (A.deeper (envOfC qual (defScope st) s.heap.objs.size f cdv))->sp vs H Q E ->
   ∃t,PSs (pE CX0 P w K mg base N qual (defScope st) f cdv A outer s H E).nox (defBody st) t/\t {nx:=λ_ H'=>Q .non H',rt:=Q} (start N vs) H):FnOk P w K mg base CX0 (k+1) f fd ps sp:=by
 obtain ⟨oc,od,kV,doc,pm,an,cdv,ct,osl,rfl,lk,hcd⟩:=F.ex
 refine vX lk hcd S len λA outer s H vs Q E hr hsp=>?_
 obtain ⟨t,h,q⟩:=hbody cdv A outer s H vs Q E hr hsp
 exact ⟨t,h.nox,q⟩
theorem Fun.binds{x qual:Str}{st:Stmt}{f:Addr}{fd:FuncData}{ps:List Str}(F:Fun K x qual st f fd)
  (h:∀(kV doc pm:Value) (an:Option Addr) (cdv ct:Value) (us:List Value),us.length=ps.length->bindArgs (PySem.W.fnOf x qual (defArgs st) (defBody st) (defScope st) .none kV doc pm an cdv ct) ⟨us,[]⟩=pure (ps.zip us)):Binds K fd ps []:=by
 obtain ⟨oc,od,kV,doc,pm,an,cdv,ct,osl,rfl,lk,hcd⟩:=F.ex
 exact .all (h kV doc pm an cdv ct)
theorem pA{x qual:Str}{st:Stmt}{f:Addr}{oc:Value}{od an:Option Addr}{osl:Array (Option Value)}{kV doc pm cdv ct:Value}(l:K.lookup f=some ⟨oc,od,.func (PySem.W.fnOf x qual (defArgs st) (defBody st) (defScope st) .none kV doc pm an cdv ct),osl⟩)
  (c:PySem.W.codeIn K cdv qual=true)(k:PySem.W.keepIn K (.ref f)=true):Fun K x qual st f (PySem.W.fnOf x qual (defArgs st) (defBody st) (defScope st) .none kV doc pm an cdv ct):=⟨⟨oc,od,kV,doc,pm,an,cdv,ct,osl,rfl,l,c⟩,k⟩
end
section
variable {X:Cx}
theorem pv(i:Nat){x:Str}{pos:Pos}(hN:X.N[i]?=some x:=by rfl)(hv:Vis X.env.scope x:=by first | exact Or.inl rfl | exact Or.inr (Or.inl rfl) | exact Or.inr (Or.inr rfl))(hd:(x==("__debug__":Str))=false:=by decide)
  (hcd:(x==("__classdict__":Str))=false:=by decide):PE X (.Name x pos) (kn i):=sH hN hv hd hcd
end
theorem a8{A B:Prop}(h:B):if false=true then A else B:=by
 rw [if_neg Bool.false_ne_true]
 exact h
theorem cO{A B:Prop}(h:A):if true=true then A else B:=by
 rw [if_pos rfl]
 exact h
theorem bb{c A B:Prop} [Decidable c](h1:c->A)(h2:¬c->B):if c then A else B:=by
 by_cases h:c
 ·rw [if_pos h]
  exact h1 h
 ·rw [if_neg h]
  exact h2 h
theorem j7{c A B:Prop} [Decidable c](hc:c)(h:B):if (!decide c)=true then A else B:=by
 rw [decide_eq_true hc]
 exact a8 h
def Same(H H':Hp):Prop:=∀b o,H b=some o->H' b=some o
theorem Same.refl(H:Hp):Same H H:=λ_ _ h=>h
theorem Same.trans{H H1 H2:Hp}(a:Same H H1)(b:Same H1 H2):Same H H2:=λc o h=>b c o (a c o h)
theorem Same.seq{K:PySem.W.Frag}{H H':Hp}{a:Addr}{xs:List V}(e:Same H H')(h:SqL K H a xs):SqL K H' a xs:=by
 rcases h with (h | ⟨o,h⟩) | h
 ·exact .inl (.inl (e _ _ h))
 ·exact .inl (.inr ⟨o,e _ _ h⟩)
 ·exact .inr h
end L2
section
set_option maxHeartbeats 0
open PySem PySem.W PyProof.Rows
lay_quick PySem.Challenge.pw_pactroom_k81_papers_played
namespace Q
noncomputable section
noncomputable abbrev vT:Value:=Value.bool true
noncomputable abbrev vF:Value:=Value.bool false
noncomputable abbrev A{α:Type}(l:List α):Array α:=Array.mk l
noncomputable abbrev E{α:Type}:Array α:=Array.mk []
noncomputable abbrev vn:Value:=Value.none
noncomputable abbrev vr(n:Nat):Value:=Value.ref n
noncomputable abbrev sr(n:Nat):Option Value:=some (Value.ref n)
noncomputable abbrev vi(a:Int)(n:Nat):Value:=Value.int a n
noncomputable abbrev vs(q:Str)(n:Nat):Value:=Value.str q n
noncomputable abbrev de(P:Params)(q:Str)(n:Nat)(v:Value):DictEntry:=DictEntry.mk (PyData.keyHash P q) (Value.str q n) v
noncomputable abbrev nd(o:Obj)(a b:BT):BT:=.node o a b
noncomputable abbrev l1(o:Obj):BT:=.node o .nil .nil
noncomputable abbrev S(l:List Nat):Str:=@Str.mk (Array.mk l)
abbrev q0:=S [60,109,111,100,117,108,101,62]
abbrev q1:=S [47,99,108,97,105,109,47,99,117,116,46,112,121]
abbrev q2:=S [95,95,109,97,105,110,95,95]
abbrev q3:=S [95,95,110,97,109,101,95,95]
abbrev q4:=S [112,97,99,116,114,111,111,109,46,115,116,101,112,115]
abbrev q5:=S [95,95,100,111,99,95,95]
abbrev q6:=S [95,95,112,97,99,107,97,103,101,95,95]
abbrev q7:=S [95,95,108,111,97,100,101,114,95,95]
abbrev q8:=S [95,95,115,112,101,99,95,95]
abbrev q9:=S [95,95,97,110,110,111,116,97,116,105,111,110,115,95,95]
abbrev q10:=S [95,95,98,117,105,108,116,105,110,115,95,95]
abbrev q11:=S [95,95,102,105,108,101,95,95]
abbrev q12:=S [95,95,99,97,99,104,101,100,95,95]
abbrev q13:=S [95,119,97,108,108]
abbrev q14:=S [80,97,99,116,69,114,114,111,114]
abbrev q15:=S [78,111,84,104,105,110,103]
abbrev q16:=S [78,111,78,101,101,100]
abbrev q17:=S [78,111,84,101,120,116]
abbrev q18:=S [78,111,80,108,97,99,101]
abbrev q19:=S [78,111,87,97,121,66,97,99,107]
abbrev q20:=S [78,111,70,105,116]
abbrev q21:=S [76,111,99,107]
abbrev q22:=S [82,101,97,100]
abbrev q23:=S [77,101,97,110]
abbrev q24:=S [67,104,97,110,103,101]
abbrev q25:=S [77,79,83,84,95,70,73,71,85,82,69,83,95,116,104,105,110,103,115]
abbrev q26:=S [77,79,83,84,95,83,73,71,78,83]
abbrev q27:=S [77,79,83,84,95,80,65,82,84,83]
abbrev q28:=S [77,79,83,84,95,68,69,69,80]
abbrev q29:=S [76,79,78,71,69,83,84]
abbrev q30:=S [66,76,65,78,75]
abbrev q31:=S [80,69,82,67,69,78,84]
abbrev q32:=S [84,73,76,68,69]
abbrev q33:=S [105,115,95,119,104,111,108,101]
abbrev q34:=S [114,101,97,100,95,116,104,105,110,103]
abbrev q35:=S [105,115,95,115,105,103,110]
abbrev q36:=S [82,101,97,100,101,114]
abbrev q37:=S [77,79,83,84,95,70,73,71,85,82,69,83,95,115,116,101,112,115]
abbrev q38:=S [83,72,65,80,69,83]
abbrev q39:=S [83,116,101,112]
abbrev q40:=S [67,101,108,108,83,116,101,112]
abbrev q41:=S [84,97,107,101,83,116,101,112]
abbrev q42:=S [77,101,97,110,83,116,101,112]
abbrev q43:=S [83,117,109,83,116,101,112]
abbrev q44:=S [71,105,118,101,83,116,101,112]
abbrev q45:=S [65,100,100,83,116,101,112]
abbrev q46:=S [107]
abbrev q47:=S [95,95,109,111,100,117,108,101,95,95]
abbrev q48:=S [112,97,99,116,114,111,111,109,46,101,114,114,111,114,115]
abbrev q49:=S [95,95,113,117,97,108,110,97,109,101,95,95]
abbrev q50:=S [95,95,102,105,114,115,116,108,105,110,101,110,111,95,95]
abbrev q51:=S [95,95,115,116,97,116,105,99,95,97,116,116,114,105,98,117,116,101,115,95,95]
abbrev q52:=S [95,95,119,101,97,107,114,101,102,95,95]
abbrev q53:=S [95,95,105,110,105,116,95,95]
abbrev q54:=S [115,101,108,102]
abbrev q55:=S [97,116]
abbrev q56:=S [78,111,84,101,120,116,46,95,95,105,110,105,116,95,95]
abbrev q57:=S [78,111,80,108,97,99,101,46,95,95,105,110,105,116,95,95]
abbrev q58:=S [78,111,87,97,121,66,97,99,107,46,95,95,105,110,105,116,95,95]
abbrev q59:=S [78,111,70,105,116,46,95,95,105,110,105,116,95,95]
abbrev q60:=S [112,97,99,116,114,111,111,109,46,107,105,110,100,115]
abbrev q61:=S [107,105,110,100]
abbrev q62:=S [98,101,115,105,100,101]
abbrev q63:=S [99,111,118,101,114,115]
abbrev q64:=S [116,111,108,100]
abbrev q65:=S [102,105,114,115,116]
abbrev q66:=S [108,97,115,116]
abbrev q67:=S [76,111,99,107,46,95,95,105,110,105,116,95,95]
abbrev q68:=S [76,111,99,107,46,107,105,110,100]
abbrev q69:=S [111,116,104,101,114]
abbrev q70:=S [76,111,99,107,46,98,101,115,105,100,101]
abbrev q71:=S [76,111,99,107,46,99,111,118,101,114,115]
abbrev q72:=S [76,111,99,107,46,116,111,108,100]
abbrev q73:=S [95,95,100,105,99,116,95,95]
abbrev q74:=S [82,101,97,100,46,107,105,110,100]
abbrev q75:=S [77,101,97,110,46,107,105,110,100]
abbrev q76:=S [67,104,97,110,103,101,46,107,105,110,100]
abbrev q77:=S [116,104,105,110,103]
abbrev q78:=S [112,97,99,116,114,111,111,109,46,116,104,105,110,103,115]
abbrev q79:=S [115,105,103,110]
abbrev q80:=S [110,117,109,98,101,114]
abbrev q81:=S [112,97,115,115,101,115]
abbrev q82:=S [114,101,97,100,95,97,110,121]
abbrev q83:=S [114,101,97,100,95,112,97,114,116,115]
abbrev q84:=S [114,101,97,100,95,98,101,108,111,119]
abbrev q85:=S [114,101,97,100,95,110,117,109,98,101,114]
abbrev q86:=S [114,101,97,100,95,115,105,103,110,115]
abbrev q87:=S [116,101,120,116]
abbrev q88:=S [82,101,97,100,101,114,46,95,95,105,110,105,116,95,95]
abbrev q89:=S [82,101,97,100,101,114,46,112,97,115,115,101,115]
abbrev q90:=S [100,101,101,112]
abbrev q91:=S [82,101,97,100,101,114,46,114,101,97,100,95,97,110,121]
abbrev q92:=S [112,97,114,116,115]
abbrev q93:=S [82,101,97,100,101,114,46,114,101,97,100,95,112,97,114,116,115]
abbrev q94:=S [82,101,97,100,101,114,46,114,101,97,100,95,98,101,108,111,119]
abbrev q95:=S [115,116,97,114,116]
abbrev q96:=S [102,105,103,117,114,101,115]
abbrev q97:=S [82,101,97,100,101,114,46,114,101,97,100,95,110,117,109,98,101,114]
abbrev q98:=S [109,97,110,121]
abbrev q99:=S [98,101,104,105,110,100]
abbrev q100:=S [115,105,103,110,115]
abbrev q101:=S [82,101,97,100,101,114,46,114,101,97,100,95,115,105,103,110,115]
abbrev q102:=S [112,108,97,99,101]
abbrev q103:=S [116,97,107,101]
abbrev q104:=S [72,67]
abbrev q105:=S [109,101,97,110]
abbrev q106:=S [115,117,109]
abbrev q107:=S [72,65,66]
abbrev q108:=S [103,105,118,101]
abbrev q109:=S [97,100,100]
abbrev q110:=S [72,67,86]
abbrev q111:=S [112,108,117,115]
abbrev q112:=S [86]
abbrev q113:=S [110,101,101,100]
abbrev q114:=S [104,111,117,115,101]
abbrev q115:=S [108,111,99,107]
abbrev q116:=S [115,116,101,112,95,100,111,110,101]
abbrev q117:=S [98,97,99,107]
abbrev q118:=S [115,117,114,101]
abbrev q119:=S [115,112,101,108,108,101,100]
abbrev q120:=S [83,116,101,112,46,104,111,117,115,101]
abbrev q121:=S [83,116,101,112,46,108,111,99,107]
abbrev q122:=S [104,97,110,100]
abbrev q123:=S [118,97,108,117,101,95,111,102]
abbrev q124:=S [83,116,101,112,46,115,116,101,112,95,100,111,110,101]
abbrev q125:=S [83,116,101,112,46,98,97,99,107]
abbrev q126:=S [83,116,101,112,46,115,117,114,101]
abbrev q127:=S [83,116,101,112,46,115,112,101,108,108,101,100]
abbrev q128:=S [119,104,101,114,101]
abbrev q129:=S [99,101,108,108]
abbrev q130:=S [67,101,108,108,83,116,101,112,46,95,95,105,110,105,116,95,95]
abbrev q131:=S [67,101,108,108,83,116,101,112,46,104,111,117,115,101]
abbrev q132:=S [84,97,107,101,83,116,101,112,46,108,111,99,107]
abbrev q133:=S [84,97,107,101,83,116,101,112,46,115,116,101,112,95,100,111,110,101]
abbrev q134:=S [84,97,107,101,83,116,101,112,46,115,112,101,108,108,101,100]
abbrev q135:=S [77,101,97,110,83,116,101,112,46,108,111,99,107]
abbrev q136:=S [77,101,97,110,83,116,101,112,46,115,116,101,112,95,100,111,110,101]
abbrev q137:=S [77,101,97,110,83,116,101,112,46,115,112,101,108,108,101,100]
abbrev q138:=S [108,111,119]
abbrev q139:=S [104,105,103,104]
abbrev q140:=S [83,117,109,83,116,101,112,46,95,95,105,110,105,116,95,95]
abbrev q141:=S [83,117,109,83,116,101,112,46,104,111,117,115,101]
abbrev q142:=S [83,117,109,83,116,101,112,46,108,111,99,107]
abbrev q143:=S [83,117,109,83,116,101,112,46,115,116,101,112,95,100,111,110,101]
abbrev q144:=S [83,117,109,83,116,101,112,46,115,112,101,108,108,101,100]
abbrev q145:=S [71,105,118,101,83,116,101,112,46,108,111,99,107]
abbrev q146:=S [71,105,118,101,83,116,101,112,46,115,116,101,112,95,100,111,110,101]
abbrev q147:=S [71,105,118,101,83,116,101,112,46,115,117,114,101]
abbrev q148:=S [71,105,118,101,83,116,101,112,46,115,112,101,108,108,101,100]
abbrev q149:=S [97,109,111,117,110,116]
abbrev q150:=S [65,100,100,83,116,101,112,46,95,95,105,110,105,116,95,95]
abbrev q151:=S [65,100,100,83,116,101,112,46,108,111,99,107]
abbrev q152:=S [65,100,100,83,116,101,112,46,115,116,101,112,95,100,111,110,101]
abbrev q153:=S [65,100,100,83,116,101,112,46,98,97,99,107]
abbrev q154:=S [65,100,100,83,116,101,112,46,115,112,101,108,108,101,100]
abbrev q155:=S [108,97,119,95,112,97,99,116,114,111,111,109,95,107,56,49,95,112,97,112,101,114,115,95,112,108,97,121,101,100]
abbrev q156:=S [80,108,117,115,83,116,101,112]
abbrev q157:=S [78,101,101,100,83,116,101,112]
abbrev q158:=S [114,101,97,100,95,115,116,101,112]
abbrev q159:=S [109,97,100,101,95,115,116,101,112]
abbrev q160:=S [109,97,100,101,95,115,117,109]
abbrev q161:=S [77,65,78,78,69,82,83]
abbrev q162:=S [77,79,83,84,95,83,84,69,80,83]
abbrev q163:=S [80,97,99,116]
abbrev q164:=S [114,101,97,100,95,112,97,99,116]
abbrev q165:=S [114,101,97,100,95,112,97,114,116]
abbrev q166:=S [116,117,114,110,105,110,103]
abbrev q167:=S [108,111,111,107]
abbrev q168:=S [105,115,95,116,104,101,114,101]
abbrev q169:=S [108,111,111,107,95,98,101,104,105,110,100]
abbrev q170:=S [112,108,97,121,101,100]
abbrev q171:=S [105,115,95,102,105,116]
abbrev q172:=S [105,115,95,112,97,99,116,95,102,105,116]
abbrev q173:=S [105,115,95,115,116,101,112,95,102,105,116]
abbrev q174:=S [105,115,95,117,110,100,111,95,102,105,116]
abbrev q175:=S [102,105,114,115,116,95,97,116,95,104,111,117,115,101]
abbrev q176:=S [104,97,110,100,115,95,98,101,104,105,110,100]
abbrev q177:=S [115,116,101,112,95,111,110]
abbrev q178:=S [112,117,116]
abbrev q179:=S [95,108,97,119,95,99,101,108,108]
abbrev q180:=S [95,108,97,119,95,109,105,120,101,100]
abbrev q181:=S [95,108,97,119,95,115,116,114,101,97,109]
abbrev q182:=S [95,108,97,119,95,97,109,111,117,110,116]
abbrev q183:=S [95,108,97,119,95,115,116,101,112]
abbrev q184:=S [95,108,97,119,95,115,116,101,112,115]
abbrev q185:=S [95,108,97,119,95,116,101,120,116]
abbrev q186:=S [95,108,97,119,95,100,111,110,101]
abbrev q187:=S [95,108,97,119,95,104,101,108,100]
abbrev q188:=S [95,108,97,119,95,119,97,108,107]
abbrev q189:=S [95,108,97,119,95,98,97,99,107]
abbrev q190:=S [95,108,97,119,95,110,101,119,95,119,97,121]
abbrev q191:=S [95,108,97,119,95,101,110,116,114,105,101,115]
abbrev q192:=S [95,108,97,119,95,102,105,114,115,116]
abbrev q193:=S [95,108,97,119,95,97,108,105,107,101]
abbrev q194:=S [108,97,119]
abbrev q195:=S [80,108,117,115,83,116,101,112,46,95,95,105,110,105,116,95,95]
abbrev q196:=S [80,108,117,115,83,116,101,112,46,115,116,101,112,95,100,111,110,101]
abbrev q197:=S [80,108,117,115,83,116,101,112,46,115,112,101,108,108,101,100]
abbrev q198:=S [78,101,101,100,83,116,101,112,46,95,95,105,110,105,116,95,95]
abbrev q199:=S [78,101,101,100,83,116,101,112,46,115,116,101,112,95,100,111,110,101]
abbrev q200:=S [78,101,101,100,83,116,101,112,46,115,112,101,108,108,101,100]
abbrev q201:=S [119,111,114,100]
abbrev q202:=S [108,101,116,116,101,114]
abbrev q203:=S [110,117,109,98,101,114,115]
abbrev q204:=S [104,101,108,100]
abbrev q205:=S [119,97,108,107,101,100]
abbrev q206:=S [112,97,99,116,114,111,111,109,46,112,97,99,116,115]
abbrev q207:=S [109,97,110,110,101,114]
abbrev q208:=S [115,116,101,112,115]
abbrev q209:=S [80,97,99,116,46,95,95,105,110,105,116,95,95]
abbrev q210:=S [80,97,99,116,46,115,112,101,108,108,101,100]
abbrev q211:=S [112,97,99,116]
abbrev q212:=S [115,105,122,101,115]
abbrev q213:=S [115,116,101,112]
abbrev q214:=S [112,97,99,116,114,111,111,109,46,111,114,100,101,114,115]
abbrev q215:=S [99,101,108,108,115]
abbrev q216:=S [98,101,102,111,114,101]
abbrev q217:=S [101,110,116,114,121]
abbrev q218:=S [104,97,110,100,115]
abbrev q219:=S [99,104,97,110,103,101,115]
abbrev q220:=S [99,104,97,110,103,101]
abbrev q221:=S [95,108,97,119,95,115,99,114,105,112,116]
abbrev q222:=S [95,108,97,119,95,107]
abbrev q223:=S [95,108,97,119,95,99,101,108,108,95,104,101,114,101]
abbrev q224:=S [95,108,97,119,95,110,117,109,98,101,114]
abbrev q225:=S [95,108,97,119,95,111,110,101]
abbrev q226:=S [95,108,97,119,95,111,116,104,101,114]
abbrev q227:=S [95,108,97,119,95,120,115]
abbrev q228:=S [95,108,97,119,95,115,105,122,101,115]
abbrev q229:=S [95,108,97,119,95,119,111,114,100]
abbrev q230:=S [95,108,97,119,95,119,104,101,114,101]
abbrev q231:=S [95,108,97,119,95,115,116,101,112,95,104,101,114,101]
abbrev q232:=S [95,108,97,119,95,104,97,110,100]
abbrev q233:=S [95,108,97,119,95,99,101,108,108,115]
abbrev q234:=S [95,108,97,119,95,114,111,119]
abbrev q235:=S [95,108,97,119,95,112]
abbrev q236:=S [95,108,97,119,95,115,116,101,112,115,95,104,101,114,101]
abbrev q237:=S [95,108,97,119,95,101,110,116,114,105,101,115,95,104,101,114,101]
abbrev q238:=S [95,108,97,119,95,104,97,110,100,115]
abbrev q239:=S [95,108,97,119,95,99,104,97,110,103,101,115]
abbrev q240:=S [95,108,97,119,95,119,97,121]
abbrev q241:=S [95,108,97,119,95,97,116]
abbrev q242:=S [95,108,97,119,95,103,105,118,101,110]
abbrev q243:=S [95,108,97,119,95,102,111,117,110,100]
abbrev q244:=S [95,108,97,119,95,100,117,101]
abbrev q245:=S [95,108,97,119,95,118,97,108,117,101]
noncomputable abbrev y0:Value:=(@Value.type SL.s2766695959194262286x5)
noncomputable abbrev y1:Value:=(@Value.type SL.s5856160107412720595x4)
noncomputable abbrev y2:Value:=(@Value.type SL.s658472552662922059x5)
noncomputable abbrev y3:Value:=(@Value.type SL.s14018661285674007319x4)
noncomputable abbrev y4:Value:=(@Value.builtin SL.s7097527257260152453x26)
noncomputable abbrev y5:Value:=(@Value.type SL.s7174869446012820540x8)
noncomputable abbrev y6:Value:=(@Value.type SL.s6070975301684473832x10)
noncomputable abbrev y7:Value:=(@Value.type SL.s11030030927630378310x26)
noncomputable abbrev y8:Value:=(@Value.builtin SL.s10062305145149207511x16)
noncomputable abbrev y9:Value:=(@Value.type SL.s17162191345867700912x4)
noncomputable abbrev y10:Value:=(@Value.type SL.s5946037652744460706x9)
noncomputable abbrev y11:Value:=(@Value.type SL.s4278001404047624695x13)
noncomputable abbrev y12:Value:=(@Value.type SL.s2742458400755230247x6)
noncomputable abbrev y13:Value:=(@Value.builtin SL.s4209523147560561109x18)
noncomputable abbrev y14:Value:=(@Value.type SL.s14755015743595814543x17)
noncomputable abbrev y15:Value:=(@Value.builtin SL.s10220274742760427390x26)
noncomputable abbrev y16:Value:=(@Value.type SL.s4290257624100764138x5)
noncomputable abbrev y17:Value:=(@Value.builtin SL.s4860613602091757760x24)
noncomputable abbrev y18:Value:=(@Value.builtin SL.s11443829558043349243x14)
noncomputable abbrev y19:Value:=(@Value.builtin SL.s6511155373996960695x17)
noncomputable abbrev y20:Value:=(@Value.builtin SL.s12411053484034534018x21)
noncomputable abbrev p0:Program:=PySem.Challenge.pw_pactroom_k81_papers_played
noncomputable abbrev pq:Program:=PySem.W.Fast.tw10357041733018982426
theorem pe:p0=pq:=PySem.W.Fast.te10357041733018982426
noncomputable def B(i:Nat):Stmt:=pq.main.body.getD i (.Pass ⟨0,0,0,0⟩)
noncomputable def T(i:Nat):Stmt:=p0.main.body.getD i (.Pass ⟨0,0,0,0⟩)
noncomputable def M(k j:Nat):Stmt:=L2.inClass (B k) j
noncomputable def N(k j:Nat):Stmt:=L2.inClass (T k) j
noncomputable abbrev fk(a b:Str)(s:Stmt):=FuncData.mk a b (L2.defArgs s) (.stmts (L2.defBody s)) (L2.defScope s)
section
variable (P:Params)
def a11:=Obj.mk y0 none (Data.seq E 0) E
def a12:=Obj.mk vn none (Data.fields E) E
def m0(x0:Str)(x1:Nat)(x2:Nat)(x3:Nat)(x4:Int)(x5:Nat)(x6:Nat)(x7:Int)(x8:Nat):=Obj.mk y1 none (Data.fields (A [vs x0 x1,vs x0 x2,vs q1 x3,vi x4 0,vi 0 0,vi 0 0,vi 0 0,vi 0 0,vr x5,vF,vi 181 0,vr x6,vn,vn,vn,vn,vi x7 0,vi x4 0,vs q1 x8])) E
def a13:=m0 q0 182 183 184 1 11 12 185 186
def m1(x0:Nat)(x1:Nat)(x2:Str)(x3:Nat):=Obj.mk y2 none Data.plain (A [sr x0,sr 3,sr x1,none,some (vs x2 x3),none,sr 0])
def a14:=m1 13 3 q2 164
def u0:=nd (boot_o_0 P) (nd (boot_o_1 P) (nd (boot_o_3 P) (l1 (boot_o_7 P)) (l1 a11)) (nd (boot_o_5 P) (l1 (boot_o_9 P)) (l1 a13))) (nd (boot_o_2 P) (nd (boot_o_4 P) (l1 (boot_o_8 P)) (l1 a12)) (nd (boot_o_6 P) (l1 (boot_o_10 P)) (l1 a14)))
def ta:=u0 P
def tb:=u0 P
def c0_3:=Obj.mk y3 none (Data.dict (A [de P q3 165 (vs q4 600),de P q5 166 vn,de P q6 167 vn,de P q7 168 y4,de P q8 169 vn,de P q9 170 (vr 6),de P q10 171 (vr 4),de P q11 173 (vs q1 172),de P q12 174 vn,de P q13 193 (vr 21),de P q14 213 (vr 31),de P q15 229 (vr 44),de P q16 245 (vr 56),de P q17 270 (vr 75),de P q18 295 (vr 94),de P q19 320 (vr 113),de P q20 345 (vr 132),de P q21 408 (vr 179),de P q22 431 (vr 200),de P q23 454 (vr 219),de P q24 477 (vr 238),de P q25 481 (vi 400 480),de P q26 483 (vi 2000 482),de P q27 485 (vi 2000 484),de P q28 487 (vi 8 486),de P q29 489 (vi 100000 488),de P q30 491 (vi 32 490),de P q31 493 (vi 37 492),de P q32 495 (vi 126 494),de P q33 502 (vr 247),de P q34 508 (vr 252),de P q35 516 (vr 259),de P q36 599 (vr 318),de P q37 603 (vi 40 602),de P q38 625 (vr 323),de P q39 690 (vr 375),de P q40 724 (vr 403),de P q41 763 (vr 436),de P q42 802 (vr 469),de P q43 858 (vr 514),de P q44 904 (vr 554),de P q45 962 (vr 601)]) 42) E
def c0_12:=Obj.mk vn none (Data.fields (A [vi 1 0,vi 0 0,vr 20,vi 5 0,vi 0 0,vr 27,vi 7 0,vi 0 0,vr 40,vi 9 0,vi 0 0,vr 52,vi 11 0,vi 0 0,vr 64,vi 15 0,vi 0 0,vr 83,vi 19 0,vi 0 0,vr 102,vi 23 0,vi 0 0,vr 121,vi 28 0,vi 0 0,vr 140,vi 45 0,vi 0 0,vr 189,vi 49 0,vi 0 0,vr 208,vi 53 0,vi 0 0,vr 227,vi 66 0,vi 0 0,vr 246,vi 68 0,vi 0 0,vr 251,vi 78 0,vi 0 0,vr 258,vi 81 0,vi 0 0,vr 265,vi 148 0,vi 0 0,vr 329,vi 167 0,vi 0 0,vr 385,vi 175 0,vi 0 0,vr 411,vi 185 0,vi 0 0,vr 444,vi 195 0,vi 0 0,vr 477,vi 213 0,vi 0 0,vr 522,vi 226 0,vi 0 0,vr 562])) E
def m2(x0:Str)(x1:Nat):=Obj.mk y0 none (Data.seq (A [vs x0 x1]) 0) E
def c0_17:=m2 q46 190
def m3(x0:Str)(x1:Str)(x2:Stmt):=Obj.mk vn none (Data.func (fk x0 x1 x2 0 [] vn vn vn vn none vn vn 0)) E
def c0_19:=m3 q13 q13 (B 0)
def m4(x0:Str)(x1:Nat)(x2:Str)(x3:Nat)(x4:Nat)(x5:Int)(x6:Int)(x7:Nat)(x8:Nat)(x9:Nat)(x10:Nat)(x11:Nat)(x12:Int)(x13:Nat):=Obj.mk y1 none (Data.fields (A [vs x0 x1,vs x2 x3,vs q1 x4,vi x5 0,vi x6 0,vi 0 0,vi 0 0,vi 3 0,vr x7,vT,vi 181 0,vr x8,vn,vr x9,vr x10,vr x11,vi x12 0,vi x5 0,vs q1 x13])) E
def c0_20:=m4 q13 187 q13 188 189 1 1 15 16 17 18 19 191 192
def m5(x0:Str)(x1:Str)(x2:Stmt)(x3:Str)(x4:Nat)(x5:Nat):=Obj.mk y5 none (Data.func (fk x0 x1 x2 3 [] vn vn vn (vs x3 x4) none (vr x5) vn 0)) E
def c0_21:=m5 q13 q13 (B 0) q2 164 20
def c0_22:=Obj.mk y0 none (Data.seq (A [y6]) 0) E
def c0_23:=Obj.mk y7 none (Data.fields (A [y8,y9])) E
def m6(x0:Nat)(x1:Nat)(x2:Str)(x3:Nat)(x4:Nat)(x5:Int)(x6:Nat)(x7:Nat)(x8:Nat):=Obj.mk y3 none (Data.dict (A [de P q47 x0 (vs q48 194),de P q49 x1 (vs x2 x3),de P q50 x4 (vi x5 x6),de P q51 x7 (vr x8)]) 4) E
def c0_24:=m6 P 203 205 q14 204 207 5 206 208 29
def c0_27:=m0 q14 198 199 200 5 25 26 201 202
def c0_28:=m1 27 24 q48 194
def c0_30:=Obj.mk y3 none (Data.dict (A [de P q47 203 (vs q48 194),de P q50 207 (vi 5 206),de P q51 208 (vr 29),de P q52 210 (vr 32),de P q5 211 vn]) 3) E
def c0_31:=Obj.mk y9 none (Data.cls (ClassData.mk q14 [y6] [vr 31,y6,y10,y11,y12] 30 q14 true [] [vr 44,vr 56,vr 75,vr 94,vr 113,vr 132] false none false)) (A [sr 22,none,some (vs q14 196),some (vs q14 204),some y13,some vT])
def m7(x0:Nat)(x1:Nat):=Obj.mk y14 none (Data.fields (A [vs q52 x0,vr x1,y15,vn])) E
def c0_32:=m7 209 31
def m8(x0:Nat):=Obj.mk y16 none (Data.fields (A [vr x0,vr x0,vr x0])) E
def c0_33:=m8 31
def m9(x0:Nat):=Obj.mk y7 none (Data.fields (A [y17,vr x0])) E
def c0_34:=m9 31
def m10(x0:Nat):=Obj.mk y0 none (Data.seq (A [vr x0]) 0) E
def c0_35:=m10 31
def c0_37:=m6 P 221 223 q15 222 225 7 224 226 42
def c0_40:=m0 q15 216 217 218 7 38 39 219 220
def c0_41:=m1 40 37 q48 194
def c0_43:=Obj.mk y3 none (Data.dict (A [de P q47 221 (vs q48 194),de P q50 225 (vi 7 224),de P q51 226 (vr 42),de P q5 227 vn]) 2) E
def c0_44:=Obj.mk y9 none (Data.cls (ClassData.mk q15 [vr 31] [vr 44,vr 31,y6,y10,y11,y12] 43 q15 true [] [] false none false)) (A [sr 35,none,some (vs q15 214),some (vs q15 222),some y13,some vT])
def c0_45:=m8 44
def c0_46:=m9 44
def c0_49:=m6 P 237 239 q16 238 241 9 240 242 54
def c0_52:=m0 q16 232 233 234 9 50 51 235 236
def c0_53:=m1 52 49 q48 194
def c0_55:=Obj.mk y3 none (Data.dict (A [de P q47 237 (vs q48 194),de P q50 241 (vi 9 240),de P q51 242 (vr 54),de P q5 243 vn]) 2) E
def c0_56:=Obj.mk y9 none (Data.cls (ClassData.mk q16 [vr 31] [vr 56,vr 31,y6,y10,y11,y12] 55 q16 true [] [] false none false)) (A [sr 47,none,some (vs q16 230),some (vs q16 238),some y13,some vT])
def c0_57:=m8 56
def c0_58:=m9 56
def m11(x0:Nat)(x1:Str)(x2:Nat)(x3:Nat)(x4:Str)(x5:Nat)(x6:Nat)(x7:Int)(x8:Nat)(x9:Str)(x10:Nat)(x11:Nat)(x12:Nat)(x13:Nat):=Obj.mk y3 none (Data.dict (A [de P q47 x0 (vs x1 x2),de P q49 x3 (vs x4 x5),de P q50 x6 (vi x7 x8),de P x9 x10 (vr x11),de P q51 x12 (vr x13)]) 5) E
def c0_61:=m11 P 253 q48 194 255 q17 254 257 11 256 q53 265 72 267 73
def m12(x0:Int)(x1:Nat):=Obj.mk vn none (Data.fields (A [vi x0 0,vi 4 0,vr x1])) E
def c0_63:=m12 13 71
def c0_64:=m0 q17 248 249 250 11 62 63 251 252
def c0_65:=m1 64 61 q48 194
def m13(x0:Str)(x1:Nat)(x2:Str)(x3:Nat):=Obj.mk y0 none (Data.seq (A [vs x0 x1,vs x2 x3]) 0) E
def c0_68:=m13 q54 261 q55 262
def c0_70:=m3 q53 q56 (M 5 0)
def c0_71:=m4 q53 258 q56 259 260 13 2 66 67 68 69 70 263 264
def c0_72:=m5 q53 q56 (M 5 0) q48 194 71
def c0_73:=m2 q55 266
def m14(x0:Nat)(x1:Str)(x2:Nat)(x3:Nat)(x4:Int)(x5:Nat)(x6:Str)(x7:Nat)(x8:Nat)(x9:Nat)(x10:Nat)(x11:Nat):=Obj.mk y3 none (Data.dict (A [de P q47 x0 (vs x1 x2),de P q50 x3 (vi x4 x5),de P x6 x7 (vr x8),de P q51 x9 (vr x10),de P q5 x11 vn]) 2) E
def c0_74:=m14 P 253 q48 194 257 11 256 q53 265 72 267 73 268
def c0_75:=Obj.mk y9 none (Data.cls (ClassData.mk q17 [vr 31] [vr 75,vr 31,y6,y10,y11,y12] 74 q17 true [] [] false none false)) (A [sr 59,none,some (vs q17 246),some (vs q17 254),some y13,some vT])
def c0_76:=m8 75
def c0_77:=m9 75
def c0_80:=m11 P 278 q48 194 280 q18 279 282 15 281 q53 290 91 292 92
def c0_82:=m12 17 90
def c0_83:=m0 q18 273 274 275 15 81 82 276 277
def c0_84:=m1 83 80 q48 194
def c0_87:=m13 q54 286 q55 287
def c0_89:=m3 q53 q57 (M 6 0)
def c0_90:=m4 q53 283 q57 284 285 17 2 85 86 87 88 89 288 289
def c0_91:=m5 q53 q57 (M 6 0) q48 194 90
def c0_92:=m2 q55 291
def c0_93:=m14 P 278 q48 194 282 15 281 q53 290 91 292 92 293
def c0_94:=Obj.mk y9 none (Data.cls (ClassData.mk q18 [vr 31] [vr 94,vr 31,y6,y10,y11,y12] 93 q18 true [] [] false none false)) (A [sr 78,none,some (vs q18 271),some (vs q18 279),some y13,some vT])
def c0_95:=m8 94
def c0_96:=m9 94
def c0_99:=m11 P 303 q48 194 305 q19 304 307 19 306 q53 315 110 317 111
def c0_101:=m12 21 109
def c0_102:=m0 q19 298 299 300 19 100 101 301 302
def c0_103:=m1 102 99 q48 194
def c0_106:=m13 q54 311 q55 312
def c0_108:=m3 q53 q58 (M 7 0)
def c0_109:=m4 q53 308 q58 309 310 21 2 104 105 106 107 108 313 314
def c0_110:=m5 q53 q58 (M 7 0) q48 194 109
def c0_111:=m2 q55 316
def c0_112:=m14 P 303 q48 194 307 19 306 q53 315 110 317 111 318
def c0_113:=Obj.mk y9 none (Data.cls (ClassData.mk q19 [vr 31] [vr 113,vr 31,y6,y10,y11,y12] 112 q19 true [] [] false none false)) (A [sr 97,none,some (vs q19 296),some (vs q19 304),some y13,some vT])
def c0_114:=m8 113
def c0_115:=m9 113
def c0_118:=m11 P 328 q48 194 330 q20 329 332 23 331 q53 340 129 342 130
def c0_120:=m12 25 128
def c0_121:=m0 q20 323 324 325 23 119 120 326 327
def c0_122:=m1 121 118 q48 194
def c0_125:=m13 q54 336 q55 337
def c0_127:=m3 q53 q59 (M 8 0)
def c0_128:=m4 q53 333 q59 334 335 25 2 123 124 125 126 127 338 339
def c0_129:=m5 q53 q59 (M 8 0) q48 194 128
def c0_130:=m2 q55 341
def c0_131:=m14 P 328 q48 194 332 23 331 q53 340 129 342 130 343
def c0_132:=Obj.mk y9 none (Data.cls (ClassData.mk q20 [vr 31] [vr 132,vr 31,y6,y10,y11,y12] 131 q20 true [] [] false none false)) (A [sr 116,none,some (vs q20 321),some (vs q20 329),some y13,some vT])
def c0_133:=m8 132
def c0_134:=m9 132
def c0_137:=Obj.mk y3 none (Data.dict (A [de P q47 355 (vs q60 346),de P q49 357 (vs q21 356),de P q50 359 (vi 28 358),de P q53 368 (vr 148),de P q61 375 (vr 155),de P q62 383 (vr 162),de P q63 391 (vr 169),de P q64 398 (vr 176),de P q51 401 (vr 177)]) 9) E
def m15(x0:Int)(x1:Nat)(x2:Int)(x3:Nat)(x4:Int)(x5:Nat)(x6:Int)(x7:Nat)(x8:Int)(x9:Nat):=Obj.mk vn none (Data.fields (A [vi x0 0,vi 4 0,vr x1,vi x2 0,vi 4 0,vr x3,vi x4 0,vi 4 0,vr x5,vi x6 0,vi 4 0,vr x7,vi x8 0,vi 4 0,vr x9])) E
def c0_139:=m15 30 147 34 154 37 161 40 168 43 175
def c0_140:=m0 q21 350 351 352 28 138 139 353 354
def c0_141:=m1 140 137 q60 346
def m16(x0:Str)(x1:Nat)(x2:Str)(x3:Nat)(x4:Str)(x5:Nat):=Obj.mk y0 none (Data.seq (A [vs x0 x1,vs x2 x3,vs x4 x5]) 0) E
def c0_144:=m16 q54 363 q65 364 q66 365
def c0_146:=m3 q53 q67 (M 10 0)
def c0_147:=m4 q53 360 q67 361 362 30 3 142 143 144 145 146 366 367
def c0_148:=m5 q53 q67 (M 10 0) q60 346 147
def c0_151:=m2 q54 372
def c0_153:=m3 q61 q68 (M 10 1)
def c0_154:=m4 q61 369 q68 370 371 34 1 149 150 151 152 153 373 374
def c0_155:=m5 q61 q68 (M 10 1) q60 346 154
def c0_158:=m13 q54 379 q69 380
def c0_160:=m3 q62 q70 (M 10 2)
def c0_161:=m4 q62 376 q70 377 378 37 2 156 157 158 159 160 381 382
def c0_162:=m5 q62 q70 (M 10 2) q60 346 161
def c0_165:=m13 q54 387 q69 388
def c0_167:=m3 q63 q71 (M 10 3)
def c0_168:=m4 q63 384 q71 385 386 40 2 163 164 165 166 167 389 390
def c0_169:=m5 q63 q71 (M 10 3) q60 346 168
def c0_172:=m2 q54 395
def c0_174:=m3 q64 q72 (M 10 4)
def c0_175:=m4 q64 392 q72 393 394 43 1 170 171 172 173 174 396 397
def c0_176:=m5 q64 q72 (M 10 4) q60 346 175
def c0_177:=m13 q65 399 q66 400
def c0_178:=Obj.mk y3 none (Data.dict (A [de P q47 355 (vs q60 346),de P q50 359 (vi 28 358),de P q53 368 (vr 148),de P q61 375 (vr 155),de P q62 383 (vr 162),de P q63 391 (vr 169),de P q64 398 (vr 176),de P q51 401 (vr 177),de P q73 403 (vr 180),de P q52 405 (vr 181),de P q5 406 vn]) 4) E
def c0_179:=Obj.mk y9 none (Data.cls (ClassData.mk q21 [y12] [vr 179,y12] 178 q21 true [] [vr 200,vr 219,vr 238] false none false)) (A [none,none,some (vs q21 348),some (vs q21 356),some y18,some vT])
def m17(x0:Nat)(x1:Nat):=Obj.mk y14 none (Data.fields (A [vs q73 x0,vr x1,y19,y20])) E
def c0_180:=m17 402 179
def c0_181:=m7 404 179
def c0_182:=m8 179
def c0_183:=m9 179
def c0_184:=m10 179
def c0_186:=m11 P 416 q60 346 418 q22 417 420 45 419 q61 427 197 428 198
def c0_188:=m12 47 196
def c0_189:=m0 q22 411 412 413 45 187 188 414 415
def c0_190:=m1 189 186 q60 346
def c0_193:=m2 q54 424
def c0_195:=m3 q61 q74 (M 11 0)
def c0_196:=m4 q61 421 q74 422 423 47 1 191 192 193 194 195 425 426
def c0_197:=m5 q61 q74 (M 11 0) q60 346 196
def c0_199:=m14 P 416 q60 346 420 45 419 q61 427 197 428 198 429
def c0_200:=Obj.mk y9 none (Data.cls (ClassData.mk q22 [vr 179] [vr 200,vr 179,y12] 199 q22 true [] [] false none false)) (A [sr 184,none,some (vs q22 409),some (vs q22 417),some y18,some vT])
def c0_201:=m8 200
def c0_202:=m9 200
def c0_205:=m11 P 439 q60 346 441 q23 440 443 49 442 q61 450 216 451 217
def c0_207:=m12 51 215
def c0_208:=m0 q23 434 435 436 49 206 207 437 438
def c0_209:=m1 208 205 q60 346
def c0_212:=m2 q54 447
def c0_214:=m3 q61 q75 (M 12 0)
def c0_215:=m4 q61 444 q75 445 446 51 1 210 211 212 213 214 448 449
def c0_216:=m5 q61 q75 (M 12 0) q60 346 215
def c0_218:=m14 P 439 q60 346 443 49 442 q61 450 216 451 217 452
def c0_219:=Obj.mk y9 none (Data.cls (ClassData.mk q23 [vr 179] [vr 219,vr 179,y12] 218 q23 true [] [] false none false)) (A [sr 203,none,some (vs q23 432),some (vs q23 440),some y18,some vT])
def c0_220:=m8 219
def c0_221:=m9 219
def c0_224:=m11 P 462 q60 346 464 q24 463 466 53 465 q61 473 235 474 236
def c0_226:=m12 55 234
def c0_227:=m0 q24 457 458 459 53 225 226 460 461
def c0_228:=m1 227 224 q60 346
def c0_231:=m2 q54 470
def c0_233:=m3 q61 q76 (M 13 0)
def c0_234:=m4 q61 467 q76 468 469 55 1 229 230 231 232 233 471 472
def c0_235:=m5 q61 q76 (M 13 0) q60 346 234
def c0_237:=m14 P 462 q60 346 466 53 465 q61 473 235 474 236 475
def c0_238:=Obj.mk y9 none (Data.cls (ClassData.mk q24 [vr 179] [vr 238,vr 179,y12] 237 q24 true [] [] false none false)) (A [sr 222,none,some (vs q24 455),some (vs q24 463),some y18,some vT])
def c0_239:=m8 238
def c0_240:=m9 238
def c0_243:=m2 q77 499
def c0_245:=m3 q33 q33 (B 23)
def c0_246:=m4 q33 496 q33 497 498 66 1 241 242 243 244 245 500 501
def c0_247:=m5 q33 q33 (B 23) q78 478 246
def c0_250:=m3 q34 q34 (B 24)
def m18(x0:Str)(x1:Nat)(x2:Str)(x3:Nat)(x4:Nat)(x5:Int)(x6:Int)(x7:Nat)(x8:Nat)(x9:Nat)(x10:Int)(x11:Nat):=Obj.mk y1 none (Data.fields (A [vs x0 x1,vs x2 x3,vs q1 x4,vi x5 0,vi x6 0,vi 0 0,vi 0 0,vi 3 0,vr x7,vT,vi 181 0,vr x8,vn,vn,vn,vr x9,vi x10 0,vi x5 0,vs q1 x11])) E
def c0_251:=m18 q34 503 q34 504 505 68 1 248 249 250 506 507
def c0_252:=m5 q34 q34 (B 24) q78 478 251
def c0_255:=m13 q79 512 q80 513
def c0_257:=m3 q35 q35 (B 25)
def c0_258:=m4 q35 509 q35 510 511 78 1 253 254 255 256 257 514 515
def c0_259:=m5 q35 q35 (B 25) q78 478 258
def c0_262:=Obj.mk y3 none (Data.dict (A [de P q47 524 (vs q78 478),de P q49 526 (vs q36 525),de P q50 528 (vi 81 527),de P q53 536 (vr 273),de P q81 544 (vr 280),de P q82 553 (vr 287),de P q83 562 (vr 294),de P q84 570 (vr 301),de P q85 579 (vr 308),de P q86 589 (vr 315),de P q51 592 (vr 316)]) 11) E
def c0_264:=Obj.mk vn none (Data.fields (A [vi 83 0,vi 4 0,vr 272,vi 87 0,vi 4 0,vr 279,vi 93 0,vi 4 0,vr 286,vi 103 0,vi 4 0,vr 293,vi 117 0,vi 4 0,vr 300,vi 123 0,vi 4 0,vr 307,vi 136 0,vi 4 0,vr 314])) E
def c0_265:=m0 q36 519 520 521 81 263 264 522 523
def c0_266:=m1 265 262 q78 478
def c0_269:=m13 q54 532 q87 533
def c0_271:=m3 q53 q88 (M 26 0)
def c0_272:=m4 q53 529 q88 530 531 83 2 267 268 269 270 271 534 535
def c0_273:=m5 q53 q88 (M 26 0) q78 478 272
def c0_276:=m13 q54 540 q79 541
def c0_278:=m3 q81 q89 (M 26 1)
def c0_279:=m4 q81 537 q89 538 539 87 2 274 275 276 277 278 542 543
def c0_280:=m5 q81 q89 (M 26 1) q78 478 279
def c0_283:=m16 q54 548 q90 549 q80 550
def c0_285:=m3 q82 q91 (M 26 2)
def c0_286:=m4 q82 545 q91 546 547 93 2 281 282 283 284 285 551 552
def c0_287:=m5 q82 q91 (M 26 2) q78 478 286
def c0_290:=m16 q54 557 q90 558 q92 559
def c0_292:=m3 q83 q93 (M 26 3)
def c0_293:=m4 q83 554 q93 555 556 103 2 288 289 290 291 292 560 561
def c0_294:=m5 q83 q93 (M 26 3) q78 478 293
def c0_297:=m13 q54 566 q80 567
def c0_299:=m3 q84 q94 (M 26 4)
def c0_300:=m4 q84 563 q94 564 565 117 1 295 296 297 298 299 568 569
def c0_301:=m5 q84 q94 (M 26 4) q78 478 300
def c0_304:=m16 q54 574 q95 575 q96 576
def c0_306:=m3 q85 q97 (M 26 5)
def c0_307:=m4 q85 571 q97 572 573 123 1 302 303 304 305 306 577 578
def c0_308:=m5 q85 q97 (M 26 5) q78 478 307
def m19(x0:Str)(x1:Nat)(x2:Str)(x3:Nat)(x4:Str)(x5:Nat)(x6:Str)(x7:Nat):=Obj.mk y0 none (Data.seq (A [vs x0 x1,vs x2 x3,vs x4 x5,vs x6 x7]) 0) E
def c0_311:=m19 q54 583 q98 584 q99 585 q100 586
def c0_313:=m3 q86 q101 (M 26 6)
def c0_314:=m4 q86 580 q101 581 582 136 2 309 310 311 312 313 587 588
def c0_315:=m5 q86 q101 (M 26 6) q78 478 314
def c0_316:=m13 q102 590 q87 591
def c0_317:=Obj.mk y3 none (Data.dict (A [de P q47 524 (vs q78 478),de P q50 528 (vi 81 527),de P q53 536 (vr 273),de P q81 544 (vr 280),de P q82 553 (vr 287),de P q83 562 (vr 294),de P q84 570 (vr 301),de P q85 579 (vr 308),de P q86 589 (vr 315),de P q51 592 (vr 316),de P q73 594 (vr 319),de P q52 596 (vr 320),de P q5 597 vn]) 4) E
def c0_318:=Obj.mk y9 none (Data.cls (ClassData.mk q36 [y12] [vr 318,y12] 317 q36 true [] [] false none false)) (A [none,none,some (vs q36 517),some (vs q36 525),some y18,some vT])
def c0_319:=m17 593 318
def c0_320:=m7 595 318
def c0_321:=m8 318
def c0_322:=m9 318
def c0_323:=Obj.mk y3 none (Data.dict (A [de P q103 604 (vs q104 605),de P q105 606 (vs q104 607),de P q106 608 (vs q107 609),de P q108 610 (vs q104 611),de P q109 612 (vs q110 613),de P q111 614 (vs q112 615),de P q113 616 (vs q112 617)]) 7) E
def c0_326:=Obj.mk y3 none (Data.dict (A [de P q47 633 (vs q4 600),de P q49 635 (vs q39 634),de P q50 637 (vi 148 636),de P q114 644 (vr 337),de P q115 651 (vr 344),de P q116 660 (vr 351),de P q117 668 (vr 358),de P q118 675 (vr 365),de P q119 682 (vr 372),de P q51 683 (vr 373)]) 10) E
def c0_328:=Obj.mk vn none (Data.fields (A [vi 150 0,vi 4 0,vr 336,vi 153 0,vi 4 0,vr 343,vi 156 0,vi 4 0,vr 350,vi 159 0,vi 4 0,vr 357,vi 162 0,vi 4 0,vr 364,vi 165 0,vi 4 0,vr 371])) E
def c0_329:=m0 q39 628 629 630 148 327 328 631 632
def c0_330:=m1 329 326 q4 600
def c0_333:=m2 q54 641
def c0_335:=m3 q114 q120 (M 30 0)
def c0_336:=m4 q114 638 q120 639 640 150 1 331 332 333 334 335 642 643
def c0_337:=m5 q114 q120 (M 30 0) q4 600 336
def c0_340:=m2 q54 648
def c0_342:=m3 q115 q121 (M 30 1)
def c0_343:=m4 q115 645 q121 646 647 153 1 338 339 340 341 342 649 650
def c0_344:=m5 q115 q121 (M 30 1) q4 600 343
def c0_347:=m16 q54 655 q122 656 q123 657
def c0_349:=m3 q116 q124 (M 30 2)
def c0_350:=m4 q116 652 q124 653 654 156 3 345 346 347 348 349 658 659
def c0_351:=m5 q116 q124 (M 30 2) q4 600 350
def c0_354:=m13 q54 664 q123 665
def c0_356:=m3 q117 q125 (M 30 3)
def c0_357:=m4 q117 661 q125 662 663 159 2 352 353 354 355 356 666 667
def c0_358:=m5 q117 q125 (M 30 3) q4 600 357
def c0_361:=m2 q54 672
def c0_363:=m3 q118 q126 (M 30 4)
def c0_364:=m4 q118 669 q126 670 671 162 1 359 360 361 362 363 673 674
def c0_365:=m5 q118 q126 (M 30 4) q4 600 364
def c0_368:=m2 q54 679
def c0_370:=m3 q119 q127 (M 30 5)
def c0_371:=m4 q119 676 q127 677 678 165 1 366 367 368 369 370 680 681
def c0_372:=m5 q119 q127 (M 30 5) q4 600 371
def c0_374:=Obj.mk y3 none (Data.dict (A [de P q47 633 (vs q4 600),de P q50 637 (vi 148 636),de P q114 644 (vr 337),de P q115 651 (vr 344),de P q116 660 (vr 351),de P q117 668 (vr 358),de P q118 675 (vr 365),de P q119 682 (vr 372),de P q51 683 (vr 373),de P q73 685 (vr 376),de P q52 687 (vr 377),de P q5 688 vn]) 4) E
def c0_375:=Obj.mk y9 none (Data.cls (ClassData.mk q39 [y12] [vr 375,y12] 374 q39 true [] [vr 403,vr 514] false none false)) (A [none,none,some (vs q39 626),some (vs q39 634),some y18,some vT])
def c0_376:=m17 684 375
def c0_377:=m7 686 375
def c0_378:=m8 375
def c0_379:=m9 375
def c0_380:=m10 375
def c0_382:=Obj.mk y3 none (Data.dict (A [de P q47 698 (vs q4 600),de P q49 700 (vs q40 699),de P q50 702 (vi 167 701),de P q53 711 (vr 393),de P q114 718 (vr 400),de P q51 721 (vr 401)]) 6) E
def c0_384:=Obj.mk vn none (Data.fields (A [vi 169 0,vi 4 0,vr 392,vi 173 0,vi 4 0,vr 399])) E
def c0_385:=m0 q40 693 694 695 167 383 384 696 697
def c0_386:=m1 385 382 q4 600
def c0_389:=m16 q54 706 q128 707 q129 708
def c0_391:=m3 q53 q130 (M 31 0)
def c0_392:=m4 q53 703 q130 704 705 169 3 387 388 389 390 391 709 710
def c0_393:=m5 q53 q130 (M 31 0) q4 600 392
def c0_396:=m2 q54 715
def c0_398:=m3 q114 q131 (M 31 1)
def c0_399:=m4 q114 712 q131 713 714 173 1 394 395 396 397 398 716 717
def c0_400:=m5 q114 q131 (M 31 1) q4 600 399
def c0_401:=m13 q129 719 q128 720
def c0_402:=Obj.mk y3 none (Data.dict (A [de P q47 698 (vs q4 600),de P q50 702 (vi 167 701),de P q53 711 (vr 393),de P q114 718 (vr 400),de P q51 721 (vr 401),de P q5 722 vn]) 2) E
def c0_403:=Obj.mk y9 none (Data.cls (ClassData.mk q40 [vr 375] [vr 403,vr 375,y12] 402 q40 true [] [vr 436,vr 469,vr 554,vr 601] false none false)) (A [sr 380,none,some (vs q40 691),some (vs q40 699),some y18,some vT])
def c0_404:=m8 403
def c0_405:=m9 403
def c0_406:=m10 403
def m20(x0:Nat)(x1:Nat)(x2:Str)(x3:Nat)(x4:Nat)(x5:Int)(x6:Nat)(x7:Str)(x8:Nat)(x9:Nat)(x10:Nat)(x11:Nat)(x12:Nat)(x13:Nat)(x14:Nat)(x15:Nat):=Obj.mk y3 none (Data.dict (A [de P q47 x0 (vs q4 600),de P q49 x1 (vs x2 x3),de P q50 x4 (vi x5 x6),de P x7 x8 (vr x9),de P q116 x10 (vr x11),de P q119 x12 (vr x13),de P q51 x14 (vr x15)]) 7) E
def c0_408:=m20 P 732 734 q41 733 736 175 735 q115 743 419 752 426 759 433 760 434
def m21(x0:Int)(x1:Nat)(x2:Int)(x3:Nat)(x4:Int)(x5:Nat):=Obj.mk vn none (Data.fields (A [vi x0 0,vi 4 0,vr x1,vi x2 0,vi 4 0,vr x3,vi x4 0,vi 4 0,vr x5])) E
def c0_410:=m21 177 418 180 425 183 432
def c0_411:=m0 q41 727 728 729 175 409 410 730 731
def c0_412:=m1 411 408 q4 600
def c0_415:=m2 q54 740
def c0_417:=m3 q115 q132 (M 32 0)
def c0_418:=m4 q115 737 q132 738 739 177 1 413 414 415 416 417 741 742
def c0_419:=m5 q115 q132 (M 32 0) q4 600 418
def c0_422:=m16 q54 747 q122 748 q123 749
def c0_424:=m3 q116 q133 (M 32 1)
def c0_425:=m4 q116 744 q133 745 746 180 3 420 421 422 423 424 750 751
def c0_426:=m5 q116 q133 (M 32 1) q4 600 425
def c0_429:=m2 q54 756
def c0_431:=m3 q119 q134 (M 32 2)
def c0_432:=m4 q119 753 q134 754 755 183 1 427 428 429 430 431 757 758
def c0_433:=m5 q119 q134 (M 32 2) q4 600 432
def m22(x0:Nat)(x1:Nat)(x2:Int)(x3:Nat)(x4:Str)(x5:Nat)(x6:Nat)(x7:Nat)(x8:Nat)(x9:Nat)(x10:Nat)(x11:Nat)(x12:Nat)(x13:Nat):=Obj.mk y3 none (Data.dict (A [de P q47 x0 (vs q4 600),de P q50 x1 (vi x2 x3),de P x4 x5 (vr x6),de P q116 x7 (vr x8),de P q119 x9 (vr x10),de P q51 x11 (vr x12),de P q5 x13 vn]) 2) E
def c0_435:=m22 P 732 736 175 735 q115 743 419 752 426 759 433 760 434 761
def c0_436:=Obj.mk y9 none (Data.cls (ClassData.mk q41 [vr 403] [vr 436,vr 403,vr 375,y12] 435 q41 true [] [] false none false)) (A [sr 406,none,some (vs q41 725),some (vs q41 733),some y18,some vT])
def c0_437:=m8 436
def c0_438:=m9 436
def c0_441:=m20 P 771 773 q42 772 775 185 774 q115 782 452 791 459 798 466 799 467
def c0_443:=m21 187 451 190 458 193 465
def c0_444:=m0 q42 766 767 768 185 442 443 769 770
def c0_445:=m1 444 441 q4 600
def c0_448:=m2 q54 779
def c0_450:=m3 q115 q135 (M 33 0)
def c0_451:=m4 q115 776 q135 777 778 187 1 446 447 448 449 450 780 781
def c0_452:=m5 q115 q135 (M 33 0) q4 600 451
def c0_455:=m16 q54 786 q122 787 q123 788
def c0_457:=m3 q116 q136 (M 33 1)
def c0_458:=m4 q116 783 q136 784 785 190 3 453 454 455 456 457 789 790
def c0_459:=m5 q116 q136 (M 33 1) q4 600 458
def c0_462:=m2 q54 795
def c0_464:=m3 q119 q137 (M 33 2)
def c0_465:=m4 q119 792 q137 793 794 193 1 460 461 462 463 464 796 797
def c0_466:=m5 q119 q137 (M 33 2) q4 600 465
def c0_468:=m22 P 771 775 185 774 q115 782 452 791 459 798 466 799 467 800
def c0_469:=Obj.mk y9 none (Data.cls (ClassData.mk q42 [vr 403] [vr 469,vr 403,vr 375,y12] 468 q42 true [] [] false none false)) (A [sr 439,none,some (vs q42 764),some (vs q42 772),some y18,some vT])
def c0_470:=m8 469
def c0_471:=m9 469
def c0_474:=Obj.mk y3 none (Data.dict (A [de P q47 810 (vs q4 600),de P q49 812 (vs q43 811),de P q50 814 (vi 195 813),de P q53 824 (vr 485),de P q114 831 (vr 492),de P q115 838 (vr 499),de P q116 844 (vr 504),de P q119 851 (vr 511),de P q51 855 (vr 512)]) 9) E
def c0_476:=m15 197 484 202 491 205 498 208 503 211 510
def c0_477:=m0 q43 805 806 807 195 475 476 808 809
def c0_478:=m1 477 474 q4 600
def c0_481:=m19 q54 818 q128 819 q138 820 q139 821
def c0_483:=m3 q53 q140 (M 34 0)
def c0_484:=m4 q53 815 q140 816 817 197 4 479 480 481 482 483 822 823
def c0_485:=m5 q53 q140 (M 34 0) q4 600 484
def c0_488:=m2 q54 828
def c0_490:=m3 q114 q141 (M 34 1)
def c0_491:=m4 q114 825 q141 826 827 202 1 486 487 488 489 490 829 830
def c0_492:=m5 q114 q141 (M 34 1) q4 600 491
def c0_495:=m2 q54 835
def c0_497:=m3 q115 q142 (M 34 2)
def c0_498:=m4 q115 832 q142 833 834 205 1 493 494 495 496 497 836 837
def c0_499:=m5 q115 q142 (M 34 2) q4 600 498
def c0_502:=m3 q116 q143 (M 34 3)
def c0_503:=m18 q116 839 q143 840 841 208 3 500 501 502 842 843
def c0_504:=m5 q116 q143 (M 34 3) q4 600 503
def c0_507:=m2 q54 848
def c0_509:=m3 q119 q144 (M 34 4)
def c0_510:=m4 q119 845 q144 846 847 211 1 505 506 507 508 509 849 850
def c0_511:=m5 q119 q144 (M 34 4) q4 600 510
def c0_512:=m16 q139 852 q138 853 q128 854
def c0_513:=Obj.mk y3 none (Data.dict (A [de P q47 810 (vs q4 600),de P q50 814 (vi 195 813),de P q53 824 (vr 485),de P q114 831 (vr 492),de P q115 838 (vr 499),de P q116 844 (vr 504),de P q119 851 (vr 511),de P q51 855 (vr 512),de P q5 856 vn]) 2) E
def c0_514:=Obj.mk y9 none (Data.cls (ClassData.mk q43 [vr 375] [vr 514,vr 375,y12] 513 q43 true [] [] false none false)) (A [sr 472,none,some (vs q43 803),some (vs q43 811),some y18,some vT])
def c0_515:=m8 514
def c0_516:=m9 514
def c0_519:=Obj.mk y3 none (Data.dict (A [de P q47 866 (vs q4 600),de P q49 868 (vs q44 867),de P q50 870 (vi 213 869),de P q115 877 (vr 530),de P q116 886 (vr 537),de P q118 893 (vr 544),de P q119 900 (vr 551),de P q51 901 (vr 552)]) 8) E
def c0_521:=Obj.mk vn none (Data.fields (A [vi 215 0,vi 4 0,vr 529,vi 218 0,vi 4 0,vr 536,vi 221 0,vi 4 0,vr 543,vi 224 0,vi 4 0,vr 550])) E
def c0_522:=m0 q44 861 862 863 213 520 521 864 865
def c0_523:=m1 522 519 q4 600
def c0_526:=m2 q54 874
def c0_528:=m3 q115 q145 (M 35 0)
def c0_529:=m4 q115 871 q145 872 873 215 1 524 525 526 527 528 875 876
def c0_530:=m5 q115 q145 (M 35 0) q4 600 529
def c0_533:=m16 q54 881 q122 882 q123 883
def c0_535:=m3 q116 q146 (M 35 1)
def c0_536:=m4 q116 878 q146 879 880 218 3 531 532 533 534 535 884 885
def c0_537:=m5 q116 q146 (M 35 1) q4 600 536
def c0_540:=m2 q54 890
def c0_542:=m3 q118 q147 (M 35 2)
def c0_543:=m4 q118 887 q147 888 889 221 1 538 539 540 541 542 891 892
def c0_544:=m5 q118 q147 (M 35 2) q4 600 543
def c0_547:=m2 q54 897
def c0_549:=m3 q119 q148 (M 35 3)
def c0_550:=m4 q119 894 q148 895 896 224 1 545 546 547 548 549 898 899
def c0_551:=m5 q119 q148 (M 35 3) q4 600 550
def c0_553:=Obj.mk y3 none (Data.dict (A [de P q47 866 (vs q4 600),de P q50 870 (vi 213 869),de P q115 877 (vr 530),de P q116 886 (vr 537),de P q118 893 (vr 544),de P q119 900 (vr 551),de P q51 901 (vr 552),de P q5 902 vn]) 2) E
def c0_554:=Obj.mk y9 none (Data.cls (ClassData.mk q44 [vr 403] [vr 554,vr 403,vr 375,y12] 553 q44 true [] [] false none false)) (A [sr 517,none,some (vs q44 859),some (vs q44 867),some y18,some vT])
def c0_555:=m8 554
def c0_556:=m9 554
def c0_559:=Obj.mk y3 none (Data.dict (A [de P q47 912 (vs q4 600),de P q49 914 (vs q45 913),de P q50 916 (vi 226 915),de P q53 926 (vr 570),de P q115 933 (vr 577),de P q116 942 (vr 584),de P q117 950 (vr 591),de P q119 957 (vr 598),de P q51 959 (vr 599)]) 9) E
def c0_561:=m15 228 569 232 576 235 583 238 590 241 597
def c0_562:=m0 q45 907 908 909 226 560 561 910 911
def c0_563:=m1 562 559 q4 600
def c0_566:=m19 q54 920 q128 921 q129 922 q149 923
def c0_568:=m3 q53 q150 (M 36 0)
def c0_569:=m4 q53 917 q150 918 919 228 4 564 565 566 567 568 924 925
def c0_570:=m5 q53 q150 (M 36 0) q4 600 569
def c0_573:=m2 q54 930
def c0_575:=m3 q115 q151 (M 36 1)
def c0_576:=m4 q115 927 q151 928 929 232 1 571 572 573 574 575 931 932
def c0_577:=m5 q115 q151 (M 36 1) q4 600 576
def c0_580:=m16 q54 937 q122 938 q123 939
def c0_582:=m3 q116 q152 (M 36 2)
def c0_583:=m4 q116 934 q152 935 936 235 3 578 579 580 581 582 940 941
def c0_584:=m5 q116 q152 (M 36 2) q4 600 583
def c0_587:=m13 q54 946 q123 947
def c0_589:=m3 q117 q153 (M 36 3)
def c0_590:=m4 q117 943 q153 944 945 238 2 585 586 587 588 589 948 949
def c0_591:=m5 q117 q153 (M 36 3) q4 600 590
def c0_594:=m2 q54 954
def c0_596:=m3 q119 q154 (M 36 4)
def c0_597:=m4 q119 951 q154 952 953 241 1 592 593 594 595 596 955 956
def c0_598:=m5 q119 q154 (M 36 4) q4 600 597
def c0_599:=m2 q149 958
def c0_600:=Obj.mk y3 none (Data.dict (A [de P q47 912 (vs q4 600),de P q50 916 (vi 226 915),de P q53 926 (vr 570),de P q115 933 (vr 577),de P q116 942 (vr 584),de P q117 950 (vr 591),de P q119 957 (vr 598),de P q51 959 (vr 599),de P q5 960 vn]) 2) E
def c0_601:=Obj.mk y9 none (Data.cls (ClassData.mk q45 [vr 403] [vr 601,vr 403,vr 375,y12] 600 q45 true [] [] false none false)) (A [sr 557,none,some (vs q45 905),some (vs q45 913),some y18,some vT])
def c0_602:=m8 601
def c0_603:=m9 601
def tc0_:=nd (boot_o_0 P) (nd (boot_o_1 P) (nd (c0_3 P) (nd (boot_o_7 P) (nd a11 (nd c0_31 (nd c0_63 (nd c0_127 (nd c0_255 (l1 c0_511) .nil) (l1 a11)) (nd a11 (nd c0_319 (l1 c0_575) .nil) (l1 a12))) (nd c0_95 (nd a11 (nd c0_287 (l1 c0_543) .nil) (l1 c0_415)) (nd c0_23 (l1 c0_351) (l1 a11)))) (nd c0_35 (nd c0_23 (nd a12 (nd c0_271 (l1 a11) .nil) (l1 c0_399)) (nd c0_207 (nd c0_335 (l1 c0_591) .nil) (l1 a11))) (nd c0_111 (nd c0_175 (nd a12 (l1 (c0_559 P)) .nil) (l1 c0_431)) (nd c0_239 (l1 a12) (l1 c0_495))))) (nd c0_23 (nd a12 (nd c0_71 (nd a11 (nd a11 (l1 (c0_519 P)) .nil) (l1 c0_391)) (nd (c0_199 P) (nd a11 (l1 c0_583) .nil) (l1 c0_455))) (nd c0_103 (nd c0_167 (nd a11 (l1 c0_551) .nil) (l1 a11)) (nd c0_231 (l1 a11) (l1 a12)))) (nd (c0_55 P) (nd c0_87 (nd c0_151 (nd c0_279 (l1 c0_535) .nil) (l1 c0_23)) (nd c0_215 (nd c0_343 (l1 c0_599) .nil) (l1 c0_471))) (nd a11 (nd c0_183 (nd c0_311 (l1 a11) .nil) (l1 c0_406)) (nd c0_247 (l1 c0_375) (l1 c0_503)))))) (nd a11 (nd c0_19 (nd c0_35 (nd a12 (nd (c0_131 P) (nd c0_259 (l1 c0_515) .nil) (l1 a11)) (nd c0_195 (nd (c0_323 P) (l1 a12) .nil) (l1 c0_451))) (nd (c0_99 P) (nd a11 (nd a11 (l1 c0_547) .nil) (l1 c0_419)) (nd c0_227 (l1 a11) (l1 c0_483)))) (nd a12 (nd c0_83 (nd c0_147 (nd a12 (l1 a11) .nil) (l1 c0_403)) (nd a12 (nd a12 (l1 a11) .nil) (l1 a11))) (nd c0_115 (nd c0_179 (nd c0_307 (l1 c0_563) .nil) (l1 (c0_435 P))) (nd c0_243 (l1 c0_371) (l1 c0_499))))) (nd c0_27 (nd (c0_43 P) (nd c0_75 (nd c0_139 (nd a11 (l1 c0_523) .nil) (l1 a12)) (nd c0_184 (nd a11 (l1 c0_587) .nil) (l1 c0_459))) (nd a11 (nd a12 (nd c0_299 (l1 c0_555) .nil) (l1 a11)) (nd c0_235 (l1 c0_363) (l1 c0_491)))) (nd c0_35 (nd c0_91 (nd c0_155 (nd c0_283 (l1 a12) .nil) (l1 c0_411)) (nd c0_219 (nd c0_347 (l1 c0_603) .nil) (l1 a11))) (nd a11 (nd a11 (nd c0_315 (l1 a11) .nil) (l1 c0_443)) (nd c0_251 (l1 c0_379) (l1 c0_507))))))) (nd (boot_o_5 P) (nd (boot_o_9 P) (nd c0_17 (nd c0_33 (nd c0_65 (nd c0_129 (nd c0_257 (l1 (c0_513 P)) .nil) (l1 c0_385)) (nd c0_193 (nd c0_321 (l1 c0_577) .nil) (l1 a11))) (nd c0_35 (nd c0_161 (nd a12 (l1 a11) .nil) (l1 c0_417)) (nd a11 (l1 a12) (l1 c0_481)))) (nd (c0_49 P) (nd a11 (nd a11 (nd c0_273 (l1 c0_529) .nil) (l1 c0_401)) (nd c0_209 (nd c0_337 (l1 a12) .nil) (l1 c0_465))) (nd c0_113 (nd c0_177 (nd a11 (l1 c0_561) .nil) (l1 c0_433)) (nd a11 (l1 a11) (l1 c0_497))))) (nd a11 (nd c0_41 (nd c0_73 (nd (c0_137 P) (nd c0_265 (l1 c0_521) .nil) (l1 c0_393)) (nd c0_201 (nd c0_329 (l1 a11) .nil) (l1 c0_457))) (nd a12 (nd c0_169 (nd c0_297 (l1 (c0_553 P)) .nil) (l1 c0_425)) (nd c0_233 (l1 c0_361) (l1 a11)))) (nd c0_57 (nd c0_89 (nd c0_153 (nd a11 (l1 c0_537) .nil) (l1 a11)) (nd a11 (nd a11 (l1 c0_601) .nil) (l1 c0_23))) (nd c0_121 (nd c0_23 (nd c0_313 (l1 c0_569) .nil) (l1 (c0_441 P))) (nd a12 (l1 c0_377) (l1 a11)))))) (nd a13 (nd c0_21 (nd (c0_37 P) (nd a11 (nd c0_133 (nd c0_23 (l1 c0_406) .nil) (l1 c0_389)) (nd c0_197 (nd c0_23 (l1 a11) .nil) (l1 a11))) (nd c0_101 (nd c0_165 (nd c0_293 (l1 c0_549) .nil) (l1 a12)) (nd a11 (l1 c0_357) (l1 c0_485)))) (nd c0_53 (nd a11 (nd a11 (nd a11 (l1 c0_533) .nil) (l1 c0_405)) (nd a11 (nd a11 (l1 c0_597) .nil) (l1 c0_469))) (nd c0_23 (nd c0_181 (nd a11 (l1 a12) .nil) (l1 c0_437)) (nd c0_245 (l1 a11) (l1 a12))))) (nd a11 (nd c0_45 (nd c0_77 (nd c0_141 (nd c0_269 (l1 a12) .nil) (l1 a11)) (nd (c0_205 P) (nd c0_333 (l1 c0_589) .nil) (l1 a12))) (nd c0_109 (nd a11 (nd c0_301 (l1 c0_406) .nil) (l1 c0_429)) (nd (c0_237 P) (l1 c0_365) (l1 a11)))) (nd (c0_61 P) (nd (c0_93 P) (nd a12 (nd c0_285 (l1 a11) .nil) (l1 a11)) (nd c0_221 (l1 c0_349) (l1 c0_477))) (nd c0_125 (nd c0_189 (nd (c0_317 P) (l1 c0_573) .nil) (l1 c0_445)) (nd a11 (l1 c0_23) (l1 c0_509)))))))) (nd (boot_o_2 P) (nd (boot_o_4 P) (nd (boot_o_8 P) (nd a12 (nd c0_32 (nd c0_64 (nd c0_128 (nd a11 (l1 c0_512) .nil) (l1 c0_384)) (nd a12 (nd c0_320 (l1 c0_576) .nil) (l1 c0_448))) (nd c0_96 (nd c0_160 (nd a11 (l1 c0_544) .nil) (l1 a11)) (nd (c0_224 P) (l1 a11) (l1 a12)))) (nd c0_23 (nd (c0_80 P) (nd c0_144 (nd c0_272 (l1 c0_528) .nil) (l1 c0_400)) (nd c0_208 (nd c0_336 (l1 a11) .nil) (l1 c0_464))) (nd (c0_112 P) (nd c0_176 (nd c0_304 (l1 a11) .nil) (l1 c0_432)) (nd c0_240 (l1 c0_368) (l1 a11))))) (nd (c0_24 P) (nd c0_40 (nd c0_72 (nd c0_23 (nd c0_264 (l1 a11) .nil) (l1 c0_392)) (nd c0_200 (nd c0_328 (l1 c0_584) .nil) (l1 a11))) (nd a11 (nd c0_168 (nd a12 (l1 a11) .nil) (l1 c0_424)) (nd a11 (l1 a12) (l1 c0_488)))) (nd c0_56 (nd a11 (nd a11 (nd c0_280 (l1 c0_536) .nil) (l1 (c0_408 P))) (nd c0_216 (nd c0_344 (l1 (c0_600 P)) .nil) (l1 c0_380))) (nd c0_120 (nd c0_184 (nd a11 (l1 c0_568) .nil) (l1 c0_23)) (nd a11 (l1 c0_376) (l1 c0_504)))))) (nd c0_12 (nd c0_20 (nd c0_23 (nd c0_68 (nd c0_132 (nd a11 (l1 c0_516) .nil) (l1 a12)) (nd c0_196 (nd a11 (l1 c0_580) .nil) (l1 c0_452))) (nd a11 (nd a12 (nd c0_292 (l1 a11) .nil) (l1 a11)) (nd c0_228 (l1 c0_356) (l1 c0_484)))) (nd c0_52 (nd c0_84 (nd c0_148 (nd c0_276 (l1 a12) .nil) (l1 c0_404)) (nd c0_212 (nd c0_340 (l1 c0_596) .nil) (l1 (c0_468 P)))) (nd c0_35 (nd c0_180 (nd c0_308 (l1 a11) .nil) (l1 c0_436)) (nd a11 (l1 c0_372) (l1 a11))))) (nd c0_28 (nd c0_44 (nd c0_76 (nd c0_140 (nd a12 (l1 a11) .nil) (l1 c0_396)) (nd c0_23 (nd a12 (l1 a11) .nil) (l1 a11))) (nd c0_108 (nd c0_172 (nd c0_300 (l1 c0_556) .nil) (l1 a12)) (nd a11 (l1 c0_364) (l1 c0_492)))) (nd c0_23 (nd c0_92 (nd a11 (nd a11 (l1 c0_540) .nil) (l1 c0_412)) (nd c0_220 (l1 a11) (l1 c0_476))) (nd a12 (nd c0_188 (nd c0_316 (l1 a12) .nil) (l1 c0_444)) (nd c0_252 (l1 c0_380) (l1 a11))))))) (nd (boot_o_6 P) (nd (boot_o_10 P) (nd a11 (nd c0_34 (nd a11 (nd c0_130 (nd c0_258 (l1 c0_514) .nil) (l1 c0_386)) (nd a11 (nd c0_322 (l1 a11) .nil) (l1 c0_450))) (nd c0_23 (nd c0_162 (nd c0_290 (l1 a12) .nil) (l1 c0_418)) (nd c0_226 (l1 c0_354) (l1 a11)))) (nd a11 (nd c0_82 (nd c0_146 (nd a11 (l1 c0_530) .nil) (l1 (c0_402 P))) (nd a11 (nd a11 (l1 c0_594) .nil) (l1 c0_466))) (nd c0_114 (nd (c0_178 P) (nd c0_306 (l1 c0_562) .nil) (l1 a11)) (nd a12 (l1 c0_370) (l1 c0_498))))) (nd a12 (nd a11 (nd (c0_74 P) (nd a11 (nd c0_266 (l1 c0_522) .nil) (l1 a11)) (nd c0_202 (nd c0_330 (l1 a12) .nil) (l1 c0_458))) (nd c0_106 (nd a11 (nd a11 (l1 c0_554) .nil) (l1 c0_426)) (nd c0_234 (l1 a11) (l1 c0_490)))) (nd c0_58 (nd c0_90 (nd c0_154 (nd a12 (l1 a11) .nil) (l1 c0_410)) (nd (c0_218 P) (nd a12 (l1 c0_602) .nil) (l1 (c0_474 P)))) (nd c0_122 (nd (c0_186 P) (nd c0_314 (l1 c0_570) .nil) (l1 a11)) (nd c0_250 (l1 c0_378) (l1 a12)))))) (nd a14 (nd c0_22 (nd a11 (nd c0_70 (nd c0_134 (nd (c0_262 P) (l1 c0_23) .nil) (l1 a11)) (nd a11 (nd (c0_326 P) (l1 c0_582) .nil) (l1 a12))) (nd c0_102 (nd a11 (nd c0_294 (l1 c0_550) .nil) (l1 c0_422)) (nd a12 (l1 c0_358) (l1 a11)))) (nd a11 (nd a12 (nd a12 (nd c0_278 (l1 a11) .nil) (l1 c0_406)) (nd c0_214 (nd c0_342 (l1 c0_598) .nil) (l1 c0_470))) (nd (c0_118 P) (nd c0_182 (nd a12 (l1 c0_566) .nil) (l1 c0_438)) (nd c0_246 (l1 (c0_374 P)) (l1 c0_502))))) (nd (c0_30 P) (nd c0_46 (nd c0_35 (nd a11 (nd a11 (l1 c0_526) .nil) (l1 c0_398)) (nd a11 (nd a11 (l1 c0_590) .nil) (l1 c0_462))) (nd c0_110 (nd c0_174 (nd a11 (l1 c0_23) .nil) (l1 a11)) (nd c0_238 (l1 a11) (l1 a12)))) (nd a11 (nd c0_94 (nd c0_158 (nd c0_286 (l1 c0_542) .nil) (l1 a12)) (nd c0_184 (l1 c0_350) (l1 c0_478))) (nd a11 (nd c0_190 (nd c0_318 (l1 a11) .nil) (l1 a11)) (nd a12 (l1 (c0_382 P)) (l1 c0_510))))))))
def c1_3:=Obj.mk y3 none (Data.dict (A [de P q3 165 (vs q155 1249),de P q5 166 vn,de P q6 167 vn,de P q7 168 y4,de P q8 169 vn,de P q9 170 (vr 6),de P q10 171 (vr 4),de P q11 173 (vs q1 172),de P q12 174 vn,de P q13 193 (vr 21),de P q14 213 (vr 31),de P q15 229 (vr 44),de P q16 245 (vr 56),de P q17 270 (vr 75),de P q18 295 (vr 94),de P q19 320 (vr 113),de P q20 345 (vr 132),de P q21 408 (vr 179),de P q22 431 (vr 200),de P q23 454 (vr 219),de P q24 477 (vr 238),de P q25 481 (vi 400 480),de P q26 483 (vi 2000 482),de P q27 485 (vi 2000 484),de P q28 487 (vi 8 486),de P q29 489 (vi 100000 488),de P q30 491 (vi 32 490),de P q31 493 (vi 37 492),de P q32 495 (vi 126 494),de P q33 502 (vr 247),de P q34 508 (vr 252),de P q35 516 (vr 259),de P q36 599 (vr 318),de P q37 603 (vi 40 602),de P q38 625 (vr 323),de P q39 690 (vr 375),de P q40 724 (vr 403),de P q41 763 (vr 436),de P q42 802 (vr 469),de P q43 858 (vr 514),de P q44 904 (vr 554),de P q45 962 (vr 601),de P q156 1003 (vr 634),de P q157 1044 (vr 667),de P q158 1050 (vr 674),de P q85 1059 (vr 681),de P q159 1067 (vr 688),de P q160 1076 (vr 695),de P q161 1081 (vr 696),de P q162 1083 (vi 12 1082),de P q163 1122 (vr 720),de P q164 1128 (vr 729),de P q165 1136 (vr 736),de P q166 1144 (vr 743),de P q167 1153 (vr 750),de P q168 1162 (vr 757),de P q169 1170 (vr 764),de P q170 1178 (vr 769),de P q171 1184 (vr 774),de P q172 1194 (vr 781),de P q173 1200 (vr 786),de P q174 1206 (vr 791),de P q175 1215 (vr 798),de P q176 1226 (vr 805),de P q177 1238 (vr 812),de P q178 1248 (vr 819),de P q179 1258 (vr 826),de P q180 1267 (vr 833),de P q181 1273 (vr 838),de P q182 1281 (vr 845),de P q183 1293 (vr 852),de P q184 1299 (vr 857),de P q185 1305 (vr 862),de P q186 1315 (vr 869),de P q187 1329 (vr 876),de P q188 1343 (vr 883),de P q189 1349 (vr 888),de P q190 1361 (vr 895),de P q191 1367 (vr 900),de P q192 1373 (vr 905),de P q193 1383 (vr 912),de P q194 1389 (vr 917)]) 82) E
def c1_12:=Obj.mk vn none (Data.fields (A [vi 1 0,vi 0 0,vr 20,vi 5 0,vi 0 0,vr 27,vi 7 0,vi 0 0,vr 40,vi 9 0,vi 0 0,vr 52,vi 11 0,vi 0 0,vr 64,vi 15 0,vi 0 0,vr 83,vi 19 0,vi 0 0,vr 102,vi 23 0,vi 0 0,vr 121,vi 28 0,vi 0 0,vr 140,vi 45 0,vi 0 0,vr 189,vi 49 0,vi 0 0,vr 208,vi 53 0,vi 0 0,vr 227,vi 66 0,vi 0 0,vr 246,vi 68 0,vi 0 0,vr 251,vi 78 0,vi 0 0,vr 258,vi 81 0,vi 0 0,vr 265,vi 148 0,vi 0 0,vr 329,vi 167 0,vi 0 0,vr 385,vi 175 0,vi 0 0,vr 411,vi 185 0,vi 0 0,vr 444,vi 195 0,vi 0 0,vr 477,vi 213 0,vi 0 0,vr 522,vi 226 0,vi 0 0,vr 562,vi 243 0,vi 0 0,vr 609,vi 253 0,vi 0 0,vr 642,vi 265 0,vi 0 0,vr 673,vi 271 0,vi 0 0,vr 680,vi 281 0,vi 0 0,vr 687,vi 295 0,vi 0 0,vr 694,vi 302 0,vi 0 0,vr 702,vi 311 0,vi 0 0,vr 728,vi 319 0,vi 0 0,vr 735,vi 324 0,vi 0 0,vr 742,vi 329 0,vi 0 0,vr 749,vi 335 0,vi 0 0,vr 756,vi 338 0,vi 0 0,vr 763,vi 343 0,vi 0 0,vr 768,vi 353 0,vi 0 0,vr 773,vi 364 0,vi 0 0,vr 780,vi 366 0,vi 0 0,vr 785,vi 375 0,vi 0 0,vr 790,vi 387 0,vi 0 0,vr 797,vi 392 0,vi 0 0,vr 804,vi 398 0,vi 0 0,vr 811,vi 402 0,vi 0 0,vr 818,vi 406 0,vi 0 0,vr 825,vi 410 0,vi 0 0,vr 832,vi 413 0,vi 0 0,vr 837,vi 415 0,vi 0 0,vr 844,vi 419 0,vi 0 0,vr 851,vi 433 0,vi 0 0,vr 856,vi 436 0,vi 0 0,vr 861,vi 439 0,vi 0 0,vr 868,vi 454 0,vi 0 0,vr 875,vi 463 0,vi 0 0,vr 882,vi 476 0,vi 0 0,vr 887,vi 488 0,vi 0 0,vr 894,vi 496 0,vi 0 0,vr 899,vi 509 0,vi 0 0,vr 904,vi 515 0,vi 0 0,vr 911,vi 525 0,vi 0 0,vr 916])) E
def c1_375:=Obj.mk y9 none (Data.cls (ClassData.mk q39 [y12] [vr 375,y12] 374 q39 true [] [vr 403,vr 514,vr 634,vr 667] false none false)) (A [none,none,some (vs q39 626),some (vs q39 634),some y18,some vT])
def c1_606:=m20 P 970 972 q156 971 974 243 973 q53 982 617 991 624 998 631 1000 632
def c1_608:=m21 245 616 248 623 251 630
def c1_609:=m0 q156 965 966 967 243 607 608 968 969
def c1_610:=m1 609 606 q4 600
def c1_613:=m13 q54 978 q149 979
def c1_615:=m3 q53 q195 (M 37 0)
def c1_616:=m4 q53 975 q195 976 977 245 2 611 612 613 614 615 980 981
def c1_617:=m5 q53 q195 (M 37 0) q4 600 616
def c1_620:=m16 q54 986 q122 987 q123 988
def c1_622:=m3 q116 q196 (M 37 1)
def c1_623:=m4 q116 983 q196 984 985 248 3 618 619 620 621 622 989 990
def c1_624:=m5 q116 q196 (M 37 1) q4 600 623
def c1_627:=m2 q54 995
def c1_629:=m3 q119 q197 (M 37 2)
def c1_630:=m4 q119 992 q197 993 994 251 1 625 626 627 628 629 996 997
def c1_631:=m5 q119 q197 (M 37 2) q4 600 630
def c1_632:=m2 q149 999
def c1_633:=m22 P 970 974 243 973 q53 982 617 991 624 998 631 1000 632 1001
def c1_634:=Obj.mk y9 none (Data.cls (ClassData.mk q156 [vr 375] [vr 634,vr 375,y12] 633 q156 true [] [] false none false)) (A [sr 604,none,some (vs q156 963),some (vs q156 971),some y18,some vT])
def c1_635:=m8 634
def c1_636:=m9 634
def c1_639:=m20 P 1011 1013 q157 1012 1015 253 1014 q53 1023 650 1032 657 1039 664 1041 665
def c1_641:=m21 255 649 258 656 263 663
def c1_642:=m0 q157 1006 1007 1008 253 640 641 1009 1010
def c1_643:=m1 642 639 q4 600
def c1_646:=m13 q54 1019 q149 1020
def c1_648:=m3 q53 q198 (M 38 0)
def c1_649:=m4 q53 1016 q198 1017 1018 255 2 644 645 646 647 648 1021 1022
def c1_650:=m5 q53 q198 (M 38 0) q4 600 649
def c1_653:=m16 q54 1027 q122 1028 q123 1029
def c1_655:=m3 q116 q199 (M 38 1)
def c1_656:=m4 q116 1024 q199 1025 1026 258 3 651 652 653 654 655 1030 1031
def c1_657:=m5 q116 q199 (M 38 1) q4 600 656
def c1_660:=m2 q54 1036
def c1_662:=m3 q119 q200 (M 38 2)
def c1_663:=m4 q119 1033 q200 1034 1035 263 1 658 659 660 661 662 1037 1038
def c1_664:=m5 q119 q200 (M 38 2) q4 600 663
def c1_665:=m2 q149 1040
def c1_666:=m22 P 1011 1015 253 1014 q53 1023 650 1032 657 1039 664 1041 665 1042
def c1_667:=Obj.mk y9 none (Data.cls (ClassData.mk q157 [vr 375] [vr 667,vr 375,y12] 666 q157 true [] [] false none false)) (A [sr 637,none,some (vs q157 1004),some (vs q157 1012),some y18,some vT])
def c1_668:=m8 667
def c1_669:=m9 667
def c1_672:=m3 q158 q158 (B 39)
def c1_673:=m18 q158 1045 q158 1046 1047 265 1 670 671 672 1048 1049
def c1_674:=m5 q158 q158 (B 39) q4 600 673
def c1_677:=m16 q201 1054 q202 1055 q80 1056
def c1_679:=m3 q85 q85 (B 40)
def c1_680:=m4 q85 1051 q85 1052 1053 271 2 675 676 677 678 679 1057 1058
def c1_681:=m5 q85 q85 (B 40) q4 600 680
def c1_684:=m13 q201 1063 q203 1064
def c1_686:=m3 q159 q159 (B 41)
def c1_687:=m4 q159 1060 q159 1061 1062 281 2 682 683 684 685 686 1065 1066
def c1_688:=m5 q159 q159 (B 41) q4 600 687
def c1_691:=m16 q128 1071 q138 1072 q139 1073
def c1_693:=m3 q160 q160 (B 42)
def c1_694:=m4 q160 1068 q160 1069 1070 295 3 689 690 691 692 693 1074 1075
def c1_695:=m5 q160 q160 (B 42) q4 600 694
def c1_696:=m13 q204 1079 q205 1080
def c1_699:=Obj.mk y3 none (Data.dict (A [de P q47 1091 (vs q206 1077),de P q49 1093 (vs q163 1092),de P q50 1095 (vi 302 1094),de P q53 1104 (vr 710),de P q119 1111 (vr 717),de P q51 1115 (vr 718)]) 6) E
def c1_701:=Obj.mk vn none (Data.fields (A [vi 304 0,vi 4 0,vr 709,vi 309 0,vi 4 0,vr 716])) E
def c1_702:=m0 q163 1086 1087 1088 302 700 701 1089 1090
def c1_703:=m1 702 699 q206 1077
def c1_706:=m16 q54 1099 q207 1100 q208 1101
def c1_708:=m3 q53 q209 (M 46 0)
def c1_709:=m4 q53 1096 q209 1097 1098 304 3 704 705 706 707 708 1102 1103
def c1_710:=m5 q53 q209 (M 46 0) q206 1077 709
def c1_713:=m2 q54 1108
def c1_715:=m3 q119 q210 (M 46 1)
def c1_716:=m4 q119 1105 q210 1106 1107 309 1 711 712 713 714 715 1109 1110
def c1_717:=m5 q119 q210 (M 46 1) q206 1077 716
def c1_718:=m16 q207 1112 q92 1113 q208 1114
def c1_719:=Obj.mk y3 none (Data.dict (A [de P q47 1091 (vs q206 1077),de P q50 1095 (vi 302 1094),de P q53 1104 (vr 710),de P q119 1111 (vr 717),de P q51 1115 (vr 718),de P q73 1117 (vr 721),de P q52 1119 (vr 722),de P q5 1120 vn]) 4) E
def c1_720:=Obj.mk y9 none (Data.cls (ClassData.mk q163 [y12] [vr 720,y12] 719 q163 true [] [] false none false)) (A [none,none,some (vs q163 1084),some (vs q163 1092),some y18,some vT])
def c1_721:=m17 1116 720
def c1_722:=m7 1118 720
def c1_723:=m8 720
def c1_724:=m9 720
def c1_727:=m3 q164 q164 (B 47)
def c1_728:=m18 q164 1123 q164 1124 1125 311 1 725 726 727 1126 1127
def c1_729:=m5 q164 q164 (B 47) q206 1077 728
def c1_732:=m13 q87 1132 q80 1133
def c1_734:=m3 q165 q165 (B 48)
def c1_735:=m4 q165 1129 q165 1130 1131 319 2 730 731 732 733 734 1134 1135
def c1_736:=m5 q165 q165 (B 48) q206 1077 735
def c1_739:=m13 q211 1140 q46 1141
def c1_741:=m3 q166 q166 (B 49)
def c1_742:=m4 q166 1137 q166 1138 1139 324 1 737 738 739 740 741 1142 1143
def c1_743:=m5 q166 q166 (B 49) q206 1077 742
def c1_746:=m16 q211 1148 q212 1149 q46 1150
def c1_748:=m3 q167 q167 (B 50)
def c1_749:=m4 q167 1145 q167 1146 1147 329 2 744 745 746 747 748 1151 1152
def c1_750:=m5 q167 q167 (B 50) q206 1077 749
def c1_753:=m16 q213 1157 q212 1158 q114 1159
def c1_755:=m3 q168 q168 (B 51)
def c1_756:=m4 q168 1154 q168 1155 1156 335 2 751 752 753 754 755 1160 1161
def c1_757:=m5 q168 q168 (B 51) q206 1077 756
def c1_760:=m13 q211 1166 q46 1167
def c1_762:=m3 q169 q169 (B 52)
def c1_763:=m4 q169 1163 q169 1164 1165 338 1 758 759 760 761 762 1168 1169
def c1_764:=m5 q169 q169 (B 52) q206 1077 763
def c1_767:=m3 q170 q170 (B 54)
def c1_768:=m18 q170 1173 q170 1174 1175 343 2 765 766 767 1176 1177
def c1_769:=m5 q170 q170 (B 54) q214 1171 768
def c1_772:=m3 q171 q171 (B 55)
def c1_773:=m18 q171 1179 q171 1180 1181 353 3 770 771 772 1182 1183
def c1_774:=m5 q171 q171 (B 55) q214 1171 773
def c1_777:=m19 q215 1188 q216 1189 q217 1190 q211 1191
def c1_779:=m3 q172 q172 (B 56)
def c1_780:=m4 q172 1185 q172 1186 1187 364 4 775 776 777 778 779 1192 1193
def c1_781:=m5 q172 q172 (B 56) q214 1171 780
def c1_784:=m3 q173 q173 (B 57)
def c1_785:=m18 q173 1195 q173 1196 1197 366 4 782 783 784 1198 1199
def c1_786:=m5 q173 q173 (B 57) q214 1171 785
def c1_789:=m3 q174 q174 (B 58)
def c1_790:=m18 q174 1201 q174 1202 1203 375 4 787 788 789 1204 1205
def c1_791:=m5 q174 q174 (B 58) q214 1171 790
def c1_794:=m16 q208 1210 q95 1211 q46 1212
def c1_796:=m3 q175 q175 (B 59)
def c1_797:=m4 q175 1207 q175 1208 1209 387 2 792 793 794 795 796 1213 1214
def c1_798:=m5 q175 q175 (B 59) q214 1171 797
def c1_801:=Obj.mk y0 none (Data.seq (A [vs q215 1219,vs q208 1220,vs q122 1221,vs q218 1222,vs q213 1223]) 0) E
def c1_803:=m3 q176 q176 (B 60)
def c1_804:=m4 q176 1216 q176 1217 1218 392 3 799 800 801 802 803 1224 1225
def c1_805:=m5 q176 q176 (B 60) q214 1171 804
def c1_808:=m19 q215 1230 q213 1231 q122 1232 q64 1233
def c1_809:=m13 q215 1234 q213 1235
def c1_810:=m3 q177 q177 (B 61)
def c1_811:=m4 q177 1227 q177 1228 1229 398 3 806 807 808 809 810 1236 1237
def c1_812:=m5 q177 q177 (B 61) q214 1171 811
def c1_815:=m19 q215 1242 q213 1243 q219 1244 q220 1245
def c1_817:=m3 q178 q178 (B 62)
def c1_818:=m4 q178 1239 q178 1240 1241 402 3 813 814 815 816 817 1246 1247
def c1_819:=m5 q178 q178 (B 62) q214 1171 818
def c1_822:=m13 q221 1254 q222 1255
def c1_824:=m3 q179 q179 (B 64)
def c1_825:=m4 q179 1251 q179 1252 1253 406 2 820 821 822 823 824 1256 1257
def c1_826:=m5 q179 q179 (B 64) q155 1249 825
def c1_829:=m16 q223 1262 q222 1263 q224 1264
def c1_831:=m3 q180 q180 (B 65)
def c1_832:=m4 q180 1259 q180 1260 1261 410 2 827 828 829 830 831 1265 1266
def c1_833:=m5 q180 q180 (B 65) q155 1249 832
def c1_836:=m3 q181 q181 (B 66)
def c1_837:=m18 q181 1268 q181 1269 1270 413 2 834 835 836 1271 1272
def c1_838:=m5 q181 q181 (B 66) q155 1249 837
def c1_841:=m13 q225 1277 q226 1278
def c1_843:=m3 q182 q182 (B 67)
def c1_844:=m4 q182 1274 q182 1275 1276 415 2 839 840 841 842 843 1279 1280
def c1_845:=m5 q182 q182 (B 67) q155 1249 844
def c1_848:=Obj.mk y0 none (Data.seq (A [vs q227 1285,vs q228 1286,vs q229 1287,vs q230 1288,vs q225 1289,vs q226 1290]) 0) E
def c1_850:=m3 q183 q183 (B 68)
def c1_851:=m4 q183 1282 q183 1283 1284 419 2 846 847 848 849 850 1291 1292
def c1_852:=m5 q183 q183 (B 68) q155 1249 851
def c1_855:=m3 q184 q184 (B 69)
def c1_856:=m18 q184 1294 q184 1295 1296 433 3 853 854 855 1297 1298
def c1_857:=m5 q184 q184 (B 69) q155 1249 856
def c1_860:=m3 q185 q185 (B 70)
def c1_861:=m18 q185 1300 q185 1301 1302 436 2 858 859 860 1303 1304
def c1_862:=m5 q185 q185 (B 70) q155 1249 861
def c1_865:=m19 q231 1309 q232 1310 q233 1311 q234 1312
def c1_867:=m3 q186 q186 (B 71)
def c1_868:=m4 q186 1306 q186 1307 1308 439 3 863 864 865 866 867 1313 1314
def c1_869:=m5 q186 q186 (B 71) q155 1249 868
def c1_872:=Obj.mk y0 none (Data.seq (A [vs q235 1319,vs q236 1320,vs q233 1321,vs q237 1322,vs q232 1323,vs q238 1324,vs q222 1325,vs q239 1326]) 0) E
def c1_874:=m3 q187 q187 (B 72)
def c1_875:=m4 q187 1316 q187 1317 1318 454 4 870 871 872 873 874 1327 1328
def c1_876:=m5 q187 q187 (B 72) q155 1249 875
def c1_879:=Obj.mk y0 none (Data.seq (A [vs q240 1333,vs q233 1334,vs q237 1335,vs q235 1336,vs q236 1337,vs q241 1338,vs q232 1339,vs q239 1340]) 0) E
def c1_881:=m3 q188 q188 (B 73)
def c1_882:=m4 q188 1330 q188 1331 1332 463 3 877 878 879 880 881 1341 1342
def c1_883:=m5 q188 q188 (B 73) q155 1249 882
def c1_886:=m3 q189 q189 (B 74)
def c1_887:=m18 q189 1344 q189 1345 1346 476 3 884 885 886 1347 1348
def c1_888:=m5 q189 q189 (B 74) q155 1249 887
def c1_891:=Obj.mk y0 none (Data.seq (A [vs q235 1353,vs q223 1354,vs q228 1355,vs q236 1356,vs q242 1357,vs q222 1358]) 0) E
def c1_893:=m3 q190 q190 (B 75)
def c1_894:=m4 q190 1350 q190 1351 1352 488 3 889 890 891 892 893 1359 1360
def c1_895:=m5 q190 q190 (B 75) q155 1249 894
def c1_898:=m3 q191 q191 (B 76)
def c1_899:=m18 q191 1362 q191 1363 1364 496 2 896 897 898 1365 1366
def c1_900:=m5 q191 q191 (B 76) q155 1249 899
def c1_903:=m3 q192 q192 (B 77)
def c1_904:=m18 q192 1368 q192 1369 1370 509 1 901 902 903 1371 1372
def c1_905:=m5 q192 q192 (B 77) q155 1249 904
def c1_908:=m19 q243 1377 q244 1378 q222 1379 q245 1380
def c1_910:=m3 q193 q193 (B 78)
def c1_911:=m4 q193 1374 q193 1375 1376 515 2 906 907 908 909 910 1381 1382
def c1_912:=m5 q193 q193 (B 78) q155 1249 911
def c1_915:=m3 q194 q194 (B 79)
def c1_916:=m18 q194 1384 q194 1385 1386 525 1 913 914 915 1387 1388
def c1_917:=m5 q194 q194 (B 79) q155 1249 916
def u1:=nd (boot_o_0 P) (nd (boot_o_1 P) (nd (c1_3 P) (nd (boot_o_7 P) (nd a11 (nd c0_31 (nd c0_63 (nd c0_127 (nd c0_255 (l1 c0_511) (l1 c1_767)) (nd a11 (l1 (c1_639 P)) (l1 c1_895))) (nd a11 (nd c0_319 (l1 c0_575) (l1 c1_831)) (nd a12 (l1 c1_703) .nil))) (nd c0_95 (nd a11 (nd c0_287 (l1 c0_543) (l1 a11)) (nd c0_415 (l1 a12) .nil)) (nd c0_23 (nd c0_351 (l1 a11) (l1 a11)) (nd a11 (l1 c1_735) .nil)))) (nd c0_35 (nd c0_23 (nd a12 (nd c0_271 (l1 a11) (l1 a12)) (nd c0_399 (l1 c1_655) (l1 c1_911))) (nd c0_207 (nd c0_335 (l1 c0_591) (l1 a12)) (nd a11 (l1 (c1_719 P)) .nil))) (nd c0_111 (nd c0_175 (nd a12 (l1 (c0_559 P)) (l1 c1_815)) (nd c0_431 (l1 c1_687) .nil)) (nd c0_239 (nd a12 (l1 c1_623) (l1 c1_879)) (nd c0_495 (l1 a11) .nil))))) (nd c0_23 (nd a12 (nd c0_71 (nd a11 (nd a11 (l1 (c0_519 P)) (l1 a11)) (nd c0_391 (l1 a11) (l1 c1_903))) (nd (c0_199 P) (nd a11 (l1 c0_583) (l1 a11)) (nd c0_455 (l1 a11) .nil))) (nd c0_103 (nd c0_167 (nd a11 (l1 c0_551) (l1 a12)) (nd a11 (l1 c1_679) .nil)) (nd c0_231 (nd a11 (l1 c1_615) (l1 a12)) (nd a12 (l1 c1_743) .nil)))) (nd (c0_55 P) (nd c0_87 (nd c0_151 (nd c0_279 (l1 c0_535) (l1 c1_791)) (nd c0_23 (l1 c1_663) .nil)) (nd c0_215 (nd c0_343 (l1 c0_599) (l1 c1_855)) (nd c0_471 (l1 c1_727) .nil))) (nd a11 (nd c0_183 (nd c0_311 (l1 a11) (l1 a11)) (nd c0_406 (l1 c1_695) .nil)) (nd c0_247 (nd c1_375 (l1 c1_631) (l1 c1_887)) (nd c0_503 (l1 a12) .nil)))))) (nd a11 (nd c0_19 (nd c0_35 (nd a12 (nd (c0_131 P) (nd c0_259 (l1 c0_515) (l1 a12)) (nd a11 (l1 c1_643) (l1 c1_899))) (nd c0_195 (nd (c0_323 P) (l1 a12) (l1 a12)) (nd c0_451 (l1 a11) .nil))) (nd (c0_99 P) (nd a11 (nd a11 (l1 c0_547) (l1 c1_803)) (nd c0_419 (l1 a11) .nil)) (nd c0_227 (nd a11 (l1 a11) (l1 c1_867)) (nd c0_483 (l1 c1_739) .nil)))) (nd a12 (nd c0_83 (nd c0_147 (nd a12 (l1 a11) (l1 a11)) (nd c0_403 (l1 a12) (l1 c1_915))) (nd a12 (nd a12 (l1 a11) (l1 c1_851)) (nd a11 (l1 c1_723) .nil))) (nd c0_115 (nd c0_179 (nd c0_307 (l1 c0_563) (l1 c1_819)) (nd (c0_435 P) (l1 c1_691) .nil)) (nd c0_243 (nd c0_371 (l1 c1_627) (l1 c1_883)) (nd c0_499 (l1 c1_755) .nil))))) (nd c0_27 (nd (c0_43 P) (nd c0_75 (nd c0_139 (nd a11 (l1 c0_523) (l1 c1_779)) (nd a12 (l1 a11) (l1 a12))) (nd c0_184 (nd a11 (l1 c0_587) (l1 c1_843)) (nd c0_459 (l1 c1_715) .nil))) (nd a11 (nd a12 (nd c0_299 (l1 c0_555) (l1 c1_811)) (nd a11 (l1 a12) .nil)) (nd c0_235 (nd c0_363 (l1 a12) (l1 c1_875)) (nd c0_491 (l1 a11) .nil)))) (nd c0_35 (nd c0_91 (nd c0_155 (nd c0_283 (l1 a12) (l1 a11)) (nd c0_411 (l1 c1_667) .nil)) (nd c0_219 (nd c0_347 (l1 c0_603) (l1 a12)) (nd a11 (l1 a12) .nil))) (nd a11 (nd a11 (nd c0_315 (l1 a11) (l1 a11)) (nd c0_443 (l1 (c1_699 P)) .nil)) (nd c0_251 (nd c0_379 (l1 c1_635) (l1 c1_891)) (nd c0_507 (l1 c1_763) .nil))))))) (nd (boot_o_5 P) (nd (boot_o_9 P) (nd c0_17 (nd c0_33 (nd c0_65 (nd c0_129 (nd c0_257 (l1 (c0_513 P)) (l1 c1_769)) (nd c0_385 (l1 c1_641) (l1 a12))) (nd c0_193 (nd c0_321 (l1 c0_577) (l1 c1_833)) (nd a11 (l1 a12) .nil))) (nd c0_35 (nd c0_161 (nd a12 (l1 a11) (l1 c1_801)) (nd c0_417 (l1 c1_673) .nil)) (nd a11 (nd a12 (l1 c1_609) (l1 c1_865)) (nd c0_481 (l1 a11) .nil)))) (nd (c0_49 P) (nd a11 (nd a11 (nd c0_273 (l1 c0_529) (l1 c1_785)) (nd c0_401 (l1 c1_657) (l1 a11))) (nd c0_209 (nd c0_337 (l1 a12) (l1 a11)) (nd c0_465 (l1 c1_721) .nil))) (nd c0_113 (nd c0_177 (nd a11 (l1 c0_561) (l1 c1_817)) (nd c0_433 (l1 a11) .nil)) (nd a11 (nd a11 (l1 a11) (l1 c1_881)) (nd c0_497 (l1 c1_753) .nil))))) (nd a11 (nd c0_41 (nd c0_73 (nd (c0_137 P) (nd c0_265 (l1 c0_521) (l1 c1_777)) (nd c0_393 (l1 c1_649) (l1 c1_905))) (nd c0_201 (nd c0_329 (l1 a11) (l1 c1_841)) (nd c0_457 (l1 c1_713) .nil))) (nd a12 (nd c0_169 (nd c0_297 (l1 (c0_553 P)) (l1 c1_809)) (nd c0_425 (l1 c1_681) .nil)) (nd c0_233 (nd c0_361 (l1 c1_617) (l1 a11)) (nd a11 (l1 a12) .nil)))) (nd c0_57 (nd c0_89 (nd c0_153 (nd a11 (l1 c0_537) (l1 a12)) (nd a11 (l1 c1_665) .nil)) (nd a11 (nd a11 (l1 c0_601) (l1 c1_857)) (nd c0_23 (l1 c1_729) .nil))) (nd c0_121 (nd c0_23 (nd c0_313 (l1 c0_569) (l1 c1_825)) (nd (c0_441 P) (l1 a11) .nil)) (nd a12 (nd c0_377 (l1 (c1_633 P)) (l1 a11)) (nd a11 (l1 a11) .nil)))))) (nd a13 (nd c0_21 (nd (c0_37 P) (nd a11 (nd c0_133 (nd c0_23 (l1 c0_406) (l1 c1_773)) (nd c0_389 (l1 a12) (l1 a11))) (nd c0_197 (nd c0_23 (l1 a11) (l1 c1_837)) (nd a11 (l1 c1_709) .nil))) (nd c0_101 (nd c0_165 (nd c0_293 (l1 c0_549) (l1 c1_805)) (nd a12 (l1 c1_677) .nil)) (nd a11 (nd c0_357 (l1 c1_613) (l1 c1_869)) (nd c0_485 (l1 c1_741) .nil)))) (nd c0_53 (nd a11 (nd a11 (nd a11 (l1 c0_533) (l1 c1_789)) (nd c0_405 (l1 a11) (l1 c1_917))) (nd a11 (nd a11 (l1 c0_597) (l1 a11)) (nd c0_469 (l1 a11) .nil))) (nd c0_23 (nd c0_181 (nd a11 (l1 a12) (l1 a12)) (nd c0_437 (l1 c1_693) .nil)) (nd c0_245 (nd a11 (l1 c1_629) (l1 a12)) (nd a12 (l1 c1_757) .nil))))) (nd a11 (nd c0_45 (nd c0_77 (nd c0_141 (nd c0_269 (l1 a12) (l1 c1_781)) (nd a11 (l1 c1_653) (l1 a11))) (nd (c0_205 P) (nd c0_333 (l1 c0_589) (l1 c1_845)) (nd a12 (l1 c1_717) .nil))) (nd c0_109 (nd a11 (nd c0_301 (l1 c0_406) (l1 a11)) (nd c0_429 (l1 a11) .nil)) (nd (c0_237 P) (nd c0_365 (l1 a11) (l1 a11)) (nd a11 (l1 c1_749) .nil)))) (nd (c0_61 P) (nd (c0_93 P) (nd a12 (nd c0_285 (l1 a11) (l1 c1_797)) (nd a11 (l1 c1_669) .nil)) (nd c0_221 (nd c0_349 (l1 c0_23) (l1 c1_861)) (nd c0_477 (l1 a11) .nil))) (nd c0_125 (nd c0_189 (nd (c0_317 P) (l1 c0_573) (l1 c1_829)) (nd c0_445 (l1 c1_701) .nil)) (nd a11 (nd c0_23 (l1 c0_380) (l1 c1_893)) (nd c0_509 (l1 a11) .nil)))))))) (nd (boot_o_2 P) (nd (boot_o_4 P) (nd (boot_o_8 P) (nd a12 (nd c0_32 (nd c0_64 (nd c0_128 (nd a11 (l1 c0_512) (l1 c1_768)) (nd c0_384 (l1 a11) (l1 a11))) (nd a12 (nd c0_320 (l1 c0_576) (l1 c1_832)) (nd c0_448 (l1 a11) .nil))) (nd c0_96 (nd c0_160 (nd a11 (l1 c0_544) (l1 a12)) (nd a11 (l1 c1_672) .nil)) (nd (c0_224 P) (nd a11 (l1 c1_608) (l1 a12)) (nd a12 (l1 c1_736) .nil)))) (nd c0_23 (nd (c0_80 P) (nd c0_144 (nd c0_272 (l1 c0_528) (l1 c1_784)) (nd c0_400 (l1 c1_656) (l1 c1_912))) (nd c0_208 (nd c0_336 (l1 a11) (l1 c1_848)) (nd c0_464 (l1 c1_720) .nil))) (nd (c0_112 P) (nd c0_176 (nd c0_304 (l1 a11) (l1 a11)) (nd c0_432 (l1 c1_688) .nil)) (nd c0_240 (nd c0_368 (l1 c1_624) (l1 a11)) (nd a11 (l1 a12) .nil))))) (nd (c0_24 P) (nd c0_40 (nd c0_72 (nd c0_23 (nd c0_264 (l1 a11) (l1 a12)) (nd c0_392 (l1 c1_648) (l1 c1_904))) (nd c0_200 (nd c0_328 (l1 c0_584) (l1 a12)) (nd a11 (l1 a12) .nil))) (nd a11 (nd c0_168 (nd a12 (l1 a11) (l1 c1_808)) (nd c0_424 (l1 c1_680) .nil)) (nd a11 (nd a12 (l1 c1_616) (l1 c1_872)) (nd c0_488 (l1 a11) .nil)))) (nd c0_56 (nd a11 (nd a11 (nd c0_280 (l1 c0_536) (l1 a11)) (nd (c0_408 P) (l1 c1_664) .nil)) (nd c0_216 (nd c0_344 (l1 (c0_600 P)) (l1 c1_856)) (nd c0_380 (l1 c1_728) .nil))) (nd c0_120 (nd c0_184 (nd a11 (l1 c0_568) (l1 c1_824)) (nd c0_23 (l1 c1_696) .nil)) (nd a11 (nd c0_376 (l1 c1_632) (l1 c1_888)) (nd c0_504 (l1 c1_760) .nil)))))) (nd c1_12 (nd c0_20 (nd c0_23 (nd c0_68 (nd c0_132 (nd a11 (l1 c0_516) (l1 c1_772)) (nd a12 (l1 a11) (l1 c1_900))) (nd c0_196 (nd a11 (l1 c0_580) (l1 c1_836)) (nd c0_452 (l1 c1_708) .nil))) (nd a11 (nd a12 (nd c0_292 (l1 a11) (l1 c1_804)) (nd a11 (l1 a12) .nil)) (nd c0_228 (nd c0_356 (l1 a12) (l1 c1_868)) (nd c0_484 (l1 a11) .nil)))) (nd c0_52 (nd c0_84 (nd c0_148 (nd c0_276 (l1 a12) (l1 a12)) (nd c0_404 (l1 c1_660) (l1 c1_916))) (nd c0_212 (nd c0_340 (l1 c0_596) (l1 c1_852)) (nd (c0_468 P) (l1 c1_724) .nil))) (nd c0_35 (nd c0_180 (nd c0_308 (l1 a11) (l1 a11)) (nd c0_436 (l1 a11) .nil)) (nd a11 (nd c0_372 (l1 a11) (l1 a11)) (nd a11 (l1 c1_756) .nil))))) (nd c0_28 (nd c0_44 (nd c0_76 (nd c0_140 (nd a12 (l1 a11) (l1 c1_780)) (nd c0_396 (l1 a12) (l1 c1_908))) (nd c0_23 (nd a12 (l1 a11) (l1 c1_844)) (nd a11 (l1 c1_716) .nil))) (nd c0_108 (nd c0_172 (nd c0_300 (l1 c0_556) (l1 c1_812)) (nd a12 (l1 c1_684) .nil)) (nd a11 (nd c0_364 (l1 c1_620) (l1 c1_876)) (nd c0_492 (l1 c1_748) .nil)))) (nd c0_23 (nd c0_92 (nd a11 (nd a11 (l1 c0_540) (l1 c1_796)) (nd c0_412 (l1 c1_668) .nil)) (nd c0_220 (nd a11 (l1 c0_380) (l1 c1_860)) (nd c0_476 (l1 c1_732) .nil))) (nd a12 (nd c0_188 (nd c0_316 (l1 a12) (l1 a12)) (nd c0_444 (l1 a11) .nil)) (nd c0_252 (nd c0_380 (l1 c1_636) (l1 a11)) (nd a11 (l1 c1_764) .nil))))))) (nd (boot_o_6 P) (nd (boot_o_10 P) (nd a11 (nd c0_34 (nd a11 (nd c0_130 (nd c0_258 (l1 c0_514) (l1 a11)) (nd c0_386 (l1 c1_642) (l1 c1_898))) (nd a11 (nd c0_322 (l1 a11) (l1 a11)) (nd c0_450 (l1 c1_706) .nil))) (nd c0_23 (nd c0_162 (nd c0_290 (l1 a12) (l1 a11)) (nd c0_418 (l1 c1_674) .nil)) (nd c0_226 (nd c0_354 (l1 c1_610) (l1 a11)) (nd a11 (l1 a12) .nil)))) (nd a11 (nd c0_82 (nd c0_146 (nd a11 (l1 c0_530) (l1 c1_786)) (nd (c0_402 P) (l1 a11) (l1 a12))) (nd a11 (nd a11 (l1 c0_594) (l1 c1_850)) (nd c0_466 (l1 c1_722) .nil))) (nd c0_114 (nd (c0_178 P) (nd c0_306 (l1 c0_562) (l1 c1_818)) (nd a11 (l1 a12) .nil)) (nd a12 (nd c0_370 (l1 a12) (l1 c1_882)) (nd c0_498 (l1 a11) .nil))))) (nd a12 (nd a11 (nd (c0_74 P) (nd a11 (nd c0_266 (l1 c0_522) (l1 a11)) (nd a11 (l1 c1_650) (l1 a11))) (nd c0_202 (nd c0_330 (l1 a12) (l1 a11)) (nd c0_458 (l1 a11) .nil))) (nd c0_106 (nd a11 (nd a11 (l1 c0_554) (l1 c1_810)) (nd c0_426 (l1 a11) .nil)) (nd c0_234 (nd a11 (l1 a11) (l1 c1_874)) (nd c0_490 (l1 c1_746) .nil)))) (nd c0_58 (nd c0_90 (nd c0_154 (nd a12 (l1 a11) (l1 c1_794)) (nd c0_410 (l1 (c1_666 P)) .nil)) (nd (c0_218 P) (nd a12 (l1 c0_602) (l1 a11)) (nd (c0_474 P) (l1 a11) .nil))) (nd c0_122 (nd (c0_186 P) (nd c0_314 (l1 c0_570) (l1 c1_826)) (nd a11 (l1 c0_23) .nil)) (nd c0_250 (nd c0_378 (l1 c1_634) (l1 a12)) (nd a12 (l1 c1_762) .nil)))))) (nd a14 (nd c0_22 (nd a11 (nd c0_70 (nd c0_134 (nd (c0_262 P) (l1 c0_23) (l1 c1_774)) (nd a11 (l1 c1_646) (l1 a12))) (nd a11 (nd (c0_326 P) (l1 c0_582) (l1 c1_838)) (nd a12 (l1 c1_710) .nil))) (nd c0_102 (nd a11 (nd c0_294 (l1 c0_550) (l1 a11)) (nd c0_422 (l1 a11) .nil)) (nd a12 (nd c0_358 (l1 a11) (l1 a11)) (nd a11 (l1 c1_742) .nil)))) (nd a11 (nd a12 (nd a12 (nd c0_278 (l1 a11) (l1 c1_790)) (nd c0_406 (l1 c1_662) .nil)) (nd c0_214 (nd c0_342 (l1 c0_598) (l1 a12)) (nd c0_470 (l1 a12) .nil))) (nd (c0_118 P) (nd c0_182 (nd a12 (l1 c0_566) (l1 c1_822)) (nd c0_438 (l1 c1_694) .nil)) (nd c0_246 (nd (c0_374 P) (l1 c1_630) (l1 c1_886)) (nd c0_502 (l1 a11) .nil))))) (nd (c0_30 P) (nd c0_46 (nd c0_35 (nd a11 (nd a11 (l1 c0_526) (l1 a11)) (nd c0_398 (l1 a11) (l1 c1_910))) (nd a11 (nd a11 (l1 c0_590) (l1 a11)) (nd c0_462 (l1 c1_718) .nil))) (nd c0_110 (nd c0_174 (nd a11 (l1 c0_23) (l1 a12)) (nd a11 (l1 c1_686) .nil)) (nd c0_238 (nd a11 (l1 c1_622) (l1 a12)) (nd a12 (l1 c1_750) .nil)))) (nd a11 (nd c0_94 (nd c0_158 (nd c0_286 (l1 c0_542) (l1 c1_798)) (nd a12 (l1 a11) .nil)) (nd c0_184 (nd c0_350 (l1 (c1_606 P)) (l1 c1_862)) (nd c0_478 (l1 c1_734) .nil))) (nd a11 (nd c0_190 (nd c0_318 (l1 a11) (l1 a11)) (nd a11 (l1 c1_702) .nil)) (nd a12 (nd (c0_382 P) (l1 c0_23) (l1 c1_894)) (nd c0_510 (l1 a12) .nil))))))))
def tc1_:=u1 P
def tz:=u1 P
end
noncomputable def sa(w:World)(os:OsState):SharedT:=SharedT.mk (ta w.params) 15 (@Life.mk [] [] [] 0 [] [] false E [] 0 false false false 0 [2000,10,10] false 0 true [] [] 0 false) E (@Drawn.mk 0 0 0 0) 187 os
noncomputable def sb(w:World)(os:OsState):SharedT:=SharedT.mk (tb w.params) 15 (@Life.mk [] [] [] 0 [] [] false E [] 0 false false false 0 [2000,10,10] false 0 true [] [] 0 false) E (@Drawn.mk 0 0 0 0) 187 os
noncomputable def sc0_(w:World)(os:OsState):SharedT:=SharedT.mk (tc0_ w.params) 604 (@Life.mk [] [] [] 0 [] [] false E [] 0 false false false 0 [2000,10,10] false 0 true [] [] 0 false) E (@Drawn.mk 0 0 0 0) 963 os
noncomputable def sc1_(w:World)(os:OsState):SharedT:=SharedT.mk (tc1_ w.params) 918 (@Life.mk [] [] [] 0 [] [] false E [] 0 false false false 0 [2000,10,10] false 0 true [] [] 0 false) E (@Drawn.mk 0 0 0 0) 1390 os
noncomputable def sz(w:World)(os:OsState):SharedT:=SharedT.mk (tz w.params) 918 (@Life.mk [] [] [] 0 [] [] false E [] 0 false false false 0 [2000,10,10] false 0 true [] [] 0 false) E (@Drawn.mk 0 0 0 0) 1390 os
noncomputable abbrev e0:Env:={scope:=p0.main.scope,locals:=mainNs,globals:=mainNs,cells:=[],code:=(vr 13),frame:=some 14}
noncomputable abbrev en:Env:={scope:=pq.main.scope,locals:=mainNs,globals:=mainNs,cells:=[],code:=(vr 13),frame:=some 14}
theorem bs:behindTheImports p0=((p0.main.body.drop 0).take 37++((p0.main.body.drop 37).take 43++[])):=by kernel_rfl
theorem pre_l(w:World)(os:OsState):topGo treeTable p0 w 11 (sr 6) 12 ⟨boot_heap w.params,Array.mk [],boot_drawn,boot_toks,os⟩ (topStub p0)=some ((sa w os).abs,⟨denote treeTable (Code.body (behindTheImports p0) e0),Code.body (behindTheImports p0) e0,(@Pos.mk 0 0 0 0),[topFrame (@Pos.mk 0 0 0 0)]⟩):=by
 rw [PySem.W.Fast.te15667345088766844465,PySem.W.Fast.te14364793385576792824,PySem.W.Fast.te11892475500146522536,pe]
 kernel_rfl
theorem blk_l(w:World)(os:OsState):segRun treeTable p0 w 11 (sr 6) 1 1 (sa w os).abs (blockOf (behindTheImports p0) e0 (Code.body (behindTheImports p0) e0) (@Pos.mk 0 0 0 0) [topFrame (@Pos.mk 0 0 0 0)])=some (Flow.next,(sb w os).abs,Code.body (behindTheImports p0) e0,(@Pos.mk 0 0 0 0)):=by
 refine segRun_of ?_
 rw [PySem.W.Fast.te10110043849684766642,PySem.W.Fast.te14364793385576792824,pe]
 kernel_rfl
theorem g0(p:Program)(b:List Stmt):∀w:World,(λos=>PySem.W.Fast.tw10110043849684766642 PySem.W.Fast.tw14364793385576792824 p w 11 (sr 6) 1 5846 (sb w os) (piecesOf ((pq.main.body.drop 0).take 37) en (Code.body b en) (@Pos.mk 0 0 0 0) [topFrame (@Pos.mk 0 0 0 0)]))=(λos=>some (Flow.next,sc0_ w os,Code.body b en,(@Pos.mk 226 0 242 16))):=byRow2 "special-get-raises" (P:=λw=>(λos=>PySem.W.Fast.tw10110043849684766642 PySem.W.Fast.tw14364793385576792824 p w 11 (sr 6) 1 5846 (sb w os) (piecesOf ((pq.main.body.drop 0).take 37) en (Code.body b en) (@Pos.mk 0 0 0 0) [topFrame (@Pos.mk 0 0 0 0)]))=(λos=>some (Flow.next,sc0_ w os,Code.body b en,(@Pos.mk 226 0 242 16)))) (λw=>by kernel_rfl) (λw=>by kernel_rfl)
theorem h0(b:List Stmt)(w:World)(os:OsState):segRun treeTable p0 w 11 (sr 6) 1 5846 (sb w os).abs (piecesOf ((p0.main.body.drop 0).take 37) e0 (Code.body b e0) (@Pos.mk 0 0 0 0) [topFrame (@Pos.mk 0 0 0 0)])=some (Flow.next,(sc0_ w os).abs,Code.body b e0,(@Pos.mk 226 0 242 16)):=by
 refine segRun_of ?_
 rw [PySem.W.Fast.te10110043849684766642,PySem.W.Fast.te14364793385576792824,pe]
 exact congrFun (g0 pq b w) os
theorem g1(p:Program)(b:List Stmt):∀w:World,(λos=>PySem.W.Fast.tw10110043849684766642 PySem.W.Fast.tw14364793385576792824 p w 11 (sr 6) 1 1962 (sc0_ w os) (piecesOf ((pq.main.body.drop 37).take 43) en (Code.body b en) (@Pos.mk 226 0 242 16) [topFrame (@Pos.mk 0 0 0 0)]))=(λos=>some (Flow.next,sc1_ w os,Code.body b en,(@Pos.mk 525 0 535 134))):=λw=>by kernel_rfl
theorem h1(b:List Stmt)(w:World)(os:OsState):segRun treeTable p0 w 11 (sr 6) 1 1962 (sc0_ w os).abs (piecesOf ((p0.main.body.drop 37).take 43) e0 (Code.body b e0) (@Pos.mk 226 0 242 16) [topFrame (@Pos.mk 0 0 0 0)])=some (Flow.next,(sc1_ w os).abs,Code.body b e0,(@Pos.mk 525 0 535 134)):=by
 refine segRun_of ?_
 rw [PySem.W.Fast.te10110043849684766642,PySem.W.Fast.te14364793385576792824,pe]
 exact congrFun (g1 pq b w) os
noncomputable abbrev H1:Params->Heap:=λP=>absHeap (tz P) 918 (@Life.mk [] [] [] 0 [] [] false E [] 0 false false false 0 [2000,10,10] false 0 true [] [] 0 false)
theorem fin_l(b:List Stmt)(w:World)(os:OsState):topRun treeTable p0 w 11 (sr 6) 2 (sc1_ w os).abs ⟨doneF .next,Code.body b e0,(@Pos.mk 525 0 535 134),[topFrame (@Pos.mk 0 0 0 0)]⟩=some ⟨H1 w.params,Array.mk [],(@Drawn.mk 0 0 0 0),1390,os⟩:=by
 rw [PySem.W.Fast.te14082659384304107361,PySem.W.Fast.te14364793385576792824,pe]
 kernel_rfl
theorem run_l(w:World)(os:OsState):topRun treeTable p0 w 11 (sr 6) (12+(1+(5846+(1962+2)))) ⟨boot_heap w.params,Array.mk [],boot_drawn,boot_toks,os⟩ (topStub p0)=some ⟨H1 w.params,Array.mk [],(@Drawn.mk 0 0 0 0),1390,os⟩:=by
 refine go_top (pre_l w os) (piece_block (blk_l w os) ?k)
 rw [bs]
 exact piece_app (h0 _ w os) (piece_app (h1 _ w os) (piece_nil (fin_l _ w os)))
abbrev kF(a b:String)(s:Stmt)(m:String)(n v:Nat):Params->Obj:=λP=>(Obj.mk (@Value.type "function") none (Data.func (fk (@Str.ofString a) (@Str.ofString b) s 3 [] vn vn vn (@Value.str (@Str.ofString m) n) none (vr v) vn 0)) E)
abbrev k21:=kF "_wall" "_wall" (T 0) "__main__" 164 20
abbrev k72:=kF "__init__" "NoText.__init__" (N 5 0) "pactroom.errors" 194 71
abbrev k91:=kF "__init__" "NoPlace.__init__" (N 6 0) "pactroom.errors" 194 90
abbrev k110:=kF "__init__" "NoWayBack.__init__" (N 7 0) "pactroom.errors" 194 109
abbrev k129:=kF "__init__" "NoFit.__init__" (N 8 0) "pactroom.errors" 194 128
abbrev k148:=kF "__init__" "Lock.__init__" (N 10 0) "pactroom.kinds" 346 147
abbrev k155:=kF "kind" "Lock.kind" (N 10 1) "pactroom.kinds" 346 154
abbrev k162:=kF "beside" "Lock.beside" (N 10 2) "pactroom.kinds" 346 161
abbrev k169:=kF "covers" "Lock.covers" (N 10 3) "pactroom.kinds" 346 168
abbrev k176:=kF "told" "Lock.told" (N 10 4) "pactroom.kinds" 346 175
abbrev k197:=kF "kind" "Read.kind" (N 11 0) "pactroom.kinds" 346 196
abbrev k216:=kF "kind" "Mean.kind" (N 12 0) "pactroom.kinds" 346 215
abbrev k235:=kF "kind" "Change.kind" (N 13 0) "pactroom.kinds" 346 234
abbrev k247:=kF "is_whole" "is_whole" (T 23) "pactroom.things" 478 246
abbrev k252:=kF "read_thing" "read_thing" (T 24) "pactroom.things" 478 251
abbrev k259:=kF "is_sign" "is_sign" (T 25) "pactroom.things" 478 258
abbrev k273:=kF "__init__" "Reader.__init__" (N 26 0) "pactroom.things" 478 272
abbrev k280:=kF "passes" "Reader.passes" (N 26 1) "pactroom.things" 478 279
abbrev k287:=kF "read_any" "Reader.read_any" (N 26 2) "pactroom.things" 478 286
abbrev k294:=kF "read_parts" "Reader.read_parts" (N 26 3) "pactroom.things" 478 293
abbrev k301:=kF "read_below" "Reader.read_below" (N 26 4) "pactroom.things" 478 300
abbrev k308:=kF "read_number" "Reader.read_number" (N 26 5) "pactroom.things" 478 307
abbrev k315:=kF "read_signs" "Reader.read_signs" (N 26 6) "pactroom.things" 478 314
abbrev k337:=kF "house" "Step.house" (N 30 0) "pactroom.steps" 600 336
abbrev k344:=kF "lock" "Step.lock" (N 30 1) "pactroom.steps" 600 343
abbrev k351:=kF "step_done" "Step.step_done" (N 30 2) "pactroom.steps" 600 350
abbrev k358:=kF "back" "Step.back" (N 30 3) "pactroom.steps" 600 357
abbrev k365:=kF "sure" "Step.sure" (N 30 4) "pactroom.steps" 600 364
abbrev k372:=kF "spelled" "Step.spelled" (N 30 5) "pactroom.steps" 600 371
abbrev k393:=kF "__init__" "CellStep.__init__" (N 31 0) "pactroom.steps" 600 392
abbrev k400:=kF "house" "CellStep.house" (N 31 1) "pactroom.steps" 600 399
abbrev k419:=kF "lock" "TakeStep.lock" (N 32 0) "pactroom.steps" 600 418
abbrev k426:=kF "step_done" "TakeStep.step_done" (N 32 1) "pactroom.steps" 600 425
abbrev k433:=kF "spelled" "TakeStep.spelled" (N 32 2) "pactroom.steps" 600 432
abbrev k452:=kF "lock" "MeanStep.lock" (N 33 0) "pactroom.steps" 600 451
abbrev k459:=kF "step_done" "MeanStep.step_done" (N 33 1) "pactroom.steps" 600 458
abbrev k466:=kF "spelled" "MeanStep.spelled" (N 33 2) "pactroom.steps" 600 465
abbrev k485:=kF "__init__" "SumStep.__init__" (N 34 0) "pactroom.steps" 600 484
abbrev k492:=kF "house" "SumStep.house" (N 34 1) "pactroom.steps" 600 491
abbrev k499:=kF "lock" "SumStep.lock" (N 34 2) "pactroom.steps" 600 498
abbrev k504:=kF "step_done" "SumStep.step_done" (N 34 3) "pactroom.steps" 600 503
abbrev k511:=kF "spelled" "SumStep.spelled" (N 34 4) "pactroom.steps" 600 510
abbrev k530:=kF "lock" "GiveStep.lock" (N 35 0) "pactroom.steps" 600 529
abbrev k537:=kF "step_done" "GiveStep.step_done" (N 35 1) "pactroom.steps" 600 536
abbrev k544:=kF "sure" "GiveStep.sure" (N 35 2) "pactroom.steps" 600 543
abbrev k551:=kF "spelled" "GiveStep.spelled" (N 35 3) "pactroom.steps" 600 550
abbrev k570:=kF "__init__" "AddStep.__init__" (N 36 0) "pactroom.steps" 600 569
abbrev k577:=kF "lock" "AddStep.lock" (N 36 1) "pactroom.steps" 600 576
abbrev k584:=kF "step_done" "AddStep.step_done" (N 36 2) "pactroom.steps" 600 583
abbrev k591:=kF "back" "AddStep.back" (N 36 3) "pactroom.steps" 600 590
abbrev k598:=kF "spelled" "AddStep.spelled" (N 36 4) "pactroom.steps" 600 597
abbrev k617:=kF "__init__" "PlusStep.__init__" (N 37 0) "pactroom.steps" 600 616
abbrev k624:=kF "step_done" "PlusStep.step_done" (N 37 1) "pactroom.steps" 600 623
abbrev k631:=kF "spelled" "PlusStep.spelled" (N 37 2) "pactroom.steps" 600 630
abbrev k650:=kF "__init__" "NeedStep.__init__" (N 38 0) "pactroom.steps" 600 649
abbrev k657:=kF "step_done" "NeedStep.step_done" (N 38 1) "pactroom.steps" 600 656
abbrev k664:=kF "spelled" "NeedStep.spelled" (N 38 2) "pactroom.steps" 600 663
abbrev k674:=kF "read_step" "read_step" (T 39) "pactroom.steps" 600 673
abbrev k681:=kF "read_number" "read_number" (T 40) "pactroom.steps" 600 680
abbrev k688:=kF "made_step" "made_step" (T 41) "pactroom.steps" 600 687
abbrev k695:=kF "made_sum" "made_sum" (T 42) "pactroom.steps" 600 694
abbrev k710:=kF "__init__" "Pact.__init__" (N 46 0) "pactroom.pacts" 1077 709
abbrev k717:=kF "spelled" "Pact.spelled" (N 46 1) "pactroom.pacts" 1077 716
abbrev k729:=kF "read_pact" "read_pact" (T 47) "pactroom.pacts" 1077 728
abbrev k736:=kF "read_part" "read_part" (T 48) "pactroom.pacts" 1077 735
abbrev k743:=kF "turning" "turning" (T 49) "pactroom.pacts" 1077 742
abbrev k750:=kF "look" "look" (T 50) "pactroom.pacts" 1077 749
abbrev k757:=kF "is_there" "is_there" (T 51) "pactroom.pacts" 1077 756
abbrev k764:=kF "look_behind" "look_behind" (T 52) "pactroom.pacts" 1077 763
abbrev k769:=kF "played" "played" (T 54) "pactroom.orders" 1171 768
abbrev k774:=kF "is_fit" "is_fit" (T 55) "pactroom.orders" 1171 773
abbrev k781:=kF "is_pact_fit" "is_pact_fit" (T 56) "pactroom.orders" 1171 780
abbrev k786:=kF "is_step_fit" "is_step_fit" (T 57) "pactroom.orders" 1171 785
abbrev k791:=kF "is_undo_fit" "is_undo_fit" (T 58) "pactroom.orders" 1171 790
abbrev k798:=kF "first_at_house" "first_at_house" (T 59) "pactroom.orders" 1171 797
abbrev k805:=kF "hands_behind" "hands_behind" (T 60) "pactroom.orders" 1171 804
abbrev k812:=kF "step_on" "step_on" (T 61) "pactroom.orders" 1171 811
abbrev k819:=kF "put" "put" (T 62) "pactroom.orders" 1171 818
abbrev k826:=kF "_law_cell" "_law_cell" (T 64) "law_pactroom_k81_papers_played" 1249 825
abbrev k833:=kF "_law_mixed" "_law_mixed" (T 65) "law_pactroom_k81_papers_played" 1249 832
abbrev k838:=kF "_law_stream" "_law_stream" (T 66) "law_pactroom_k81_papers_played" 1249 837
abbrev k845:=kF "_law_amount" "_law_amount" (T 67) "law_pactroom_k81_papers_played" 1249 844
abbrev k852:=kF "_law_step" "_law_step" (T 68) "law_pactroom_k81_papers_played" 1249 851
abbrev k857:=kF "_law_steps" "_law_steps" (T 69) "law_pactroom_k81_papers_played" 1249 856
abbrev k862:=kF "_law_text" "_law_text" (T 70) "law_pactroom_k81_papers_played" 1249 861
abbrev k869:=kF "_law_done" "_law_done" (T 71) "law_pactroom_k81_papers_played" 1249 868
abbrev k876:=kF "_law_held" "_law_held" (T 72) "law_pactroom_k81_papers_played" 1249 875
abbrev k883:=kF "_law_walk" "_law_walk" (T 73) "law_pactroom_k81_papers_played" 1249 882
abbrev k888:=kF "_law_back" "_law_back" (T 74) "law_pactroom_k81_papers_played" 1249 887
abbrev k895:=kF "_law_new_way" "_law_new_way" (T 75) "law_pactroom_k81_papers_played" 1249 894
abbrev k900:=kF "_law_entries" "_law_entries" (T 76) "law_pactroom_k81_papers_played" 1249 899
abbrev k905:=kF "_law_first" "_law_first" (T 77) "law_pactroom_k81_papers_played" 1249 904
abbrev k912:=kF "_law_alike" "_law_alike" (T 78) "law_pactroom_k81_papers_played" 1249 911
abbrev k917:=kF "law" "law" (T 79) "law_pactroom_k81_papers_played" 1249 916
noncomputable def Kf:Params->Frag:=λP=>(nat_lit 2,boot_o_2 P)::(nat_lit 3,c1_3 P)::(nat_lit 15,a11)::(nat_lit 17,c0_17)::(nat_lit 18,a11)::(nat_lit 20,c0_20)::(nat_lit 21,k21 P)::(nat_lit 22,c0_22)::(nat_lit 29,a11)::(nat_lit 30,c0_30 P)::(nat_lit 31,c0_31)::(nat_lit 32,c0_32)::(nat_lit 35,c0_35)::(nat_lit 42,a11)::(nat_lit 43,c0_43 P)::(nat_lit 44,c0_44)::(nat_lit 47,c0_35)::(nat_lit 54,a11)::(nat_lit 55,c0_55 P)::(nat_lit 56,c0_56)::(nat_lit 59,c0_35)::(nat_lit 66,a11)::(nat_lit 68,c0_68)::(nat_lit 69,a11)::(nat_lit 71,c0_71)::(nat_lit 72,k72 P)::(nat_lit 73,c0_73)::(nat_lit 74,c0_74 P)::(nat_lit 75,c0_75)::(nat_lit 78,c0_35)::(nat_lit 85,a11)::(nat_lit 87,c0_87)::(nat_lit 88,a11)::(nat_lit 90,c0_90)::(nat_lit 91,k91 P)::(nat_lit 92,c0_92)::(nat_lit 93,c0_93 P)::(nat_lit 94,c0_94)::(nat_lit 97,c0_35)::(nat_lit 104,a11)::(nat_lit 106,c0_106)::(nat_lit 107,a11)::(nat_lit 109,c0_109)::(nat_lit 110,k110 P)::(nat_lit 111,c0_111)::(nat_lit 112,c0_112 P)::(nat_lit 113,c0_113)::(nat_lit 116,c0_35)::(nat_lit 123,a11)::(nat_lit 125,c0_125)::(nat_lit 126,a11)::(nat_lit 128,c0_128)::(nat_lit 129,k129 P)::(nat_lit 130,c0_130)::(nat_lit 131,c0_131 P)::(nat_lit 132,c0_132)::(nat_lit 142,a11)::(nat_lit 144,c0_144)::(nat_lit 145,a11)::(nat_lit 147,c0_147)::(nat_lit 148,k148 P)::(nat_lit 149,a11)::(nat_lit 151,c0_151)::(nat_lit 152,a11)::(nat_lit 154,c0_154)::(nat_lit 155,k155 P)::(nat_lit 156,a11)::(nat_lit 158,c0_158)::(nat_lit 159,a11)::(nat_lit 161,c0_161)::(nat_lit 162,k162 P)::(nat_lit 163,a11)::(nat_lit 165,c0_165)::(nat_lit 166,a11)::(nat_lit 168,c0_168)::(nat_lit 169,k169 P)::(nat_lit 170,a11)::(nat_lit 172,c0_172)::(nat_lit 173,a11)::(nat_lit 175,c0_175)::(nat_lit 176,k176 P)::(nat_lit 177,c0_177)::(nat_lit 178,c0_178 P)::(nat_lit 179,c0_179)::(nat_lit 180,c0_180)::(nat_lit 181,c0_181)::(nat_lit 184,c0_184)::(nat_lit 191,a11)::(nat_lit 193,c0_193)::(nat_lit 194,a11)::(nat_lit 196,c0_196)::(nat_lit 197,k197 P)::(nat_lit 198,a11)::(nat_lit 199,c0_199 P)::(nat_lit 200,c0_200)::(nat_lit 203,c0_184)::(nat_lit 210,a11)::(nat_lit 212,c0_212)::(nat_lit 213,a11)::(nat_lit 215,c0_215)::(nat_lit 216,k216 P)::(nat_lit 217,a11)::(nat_lit 218,c0_218 P)::(nat_lit 219,c0_219)::(nat_lit 222,c0_184)::(nat_lit 229,a11)::(nat_lit 231,c0_231)::(nat_lit 232,a11)::(nat_lit 234,c0_234)::(nat_lit 235,k235 P)::(nat_lit 236,a11)::(nat_lit 237,c0_237 P)::(nat_lit 238,c0_238)::(nat_lit 241,a11)::(nat_lit 243,c0_243)::(nat_lit 244,a11)::(nat_lit 246,c0_246)::(nat_lit 247,k247 P)::(nat_lit 248,a11)::(nat_lit 251,c0_251)::(nat_lit 252,k252 P)::(nat_lit 253,a11)::(nat_lit 255,c0_255)::(nat_lit 256,a11)::(nat_lit 258,c0_258)::(nat_lit 259,k259 P)::(nat_lit 267,a11)::(nat_lit 269,c0_269)::(nat_lit 270,a11)::(nat_lit 272,c0_272)::(nat_lit 273,k273 P)::(nat_lit 274,a11)::(nat_lit 276,c0_276)::(nat_lit 277,a11)::(nat_lit 279,c0_279)::(nat_lit 280,k280 P)::(nat_lit 281,a11)::(nat_lit 283,c0_283)::(nat_lit 284,a11)::(nat_lit 286,c0_286)::(nat_lit 287,k287 P)::(nat_lit 288,a11)::(nat_lit 290,c0_290)::(nat_lit 291,a11)::(nat_lit 293,c0_293)::(nat_lit 294,k294 P)::(nat_lit 295,a11)::(nat_lit 297,c0_297)::(nat_lit 298,a11)::(nat_lit 300,c0_300)::(nat_lit 301,k301 P)::(nat_lit 302,a11)::(nat_lit 304,c0_304)::(nat_lit 305,a11)::(nat_lit 307,c0_307)::(nat_lit 308,k308 P)::(nat_lit 309,a11)::(nat_lit 311,c0_311)::(nat_lit 312,a11)::(nat_lit 314,c0_314)::(nat_lit 315,k315 P)::(nat_lit 316,c0_316)::(nat_lit 317,c0_317 P)::(nat_lit 318,c0_318)::(nat_lit 319,c0_319)::(nat_lit 320,c0_320)::(nat_lit 323,c0_323 P)::(nat_lit 331,a11)::(nat_lit 333,c0_333)::(nat_lit 334,a11)::(nat_lit 336,c0_336)::(nat_lit 337,k337 P)::(nat_lit 338,a11)::(nat_lit 340,c0_340)::(nat_lit 341,a11)::(nat_lit 343,c0_343)::(nat_lit 344,k344 P)::(nat_lit 345,a11)::(nat_lit 347,c0_347)::(nat_lit 348,a11)::(nat_lit 350,c0_350)::(nat_lit 351,k351 P)::(nat_lit 352,a11)::(nat_lit 354,c0_354)::(nat_lit 355,a11)::(nat_lit 357,c0_357)::(nat_lit 358,k358 P)::(nat_lit 359,a11)::(nat_lit 361,c0_361)::(nat_lit 362,a11)::(nat_lit 364,c0_364)::(nat_lit 365,k365 P)::(nat_lit 366,a11)::(nat_lit 368,c0_368)::(nat_lit 369,a11)::(nat_lit 371,c0_371)::(nat_lit 372,k372 P)::(nat_lit 373,a11)::(nat_lit 374,c0_374 P)::(nat_lit 375,c1_375)::(nat_lit 376,c0_376)::(nat_lit 377,c0_377)::(nat_lit 380,c0_380)::(nat_lit 387,a11)::(nat_lit 389,c0_389)::(nat_lit 390,a11)::(nat_lit 392,c0_392)::(nat_lit 393,k393 P)::(nat_lit 394,a11)::(nat_lit 396,c0_396)::(nat_lit 397,a11)::(nat_lit 399,c0_399)::(nat_lit 400,k400 P)::(nat_lit 401,c0_401)::(nat_lit 402,c0_402 P)::(nat_lit 403,c0_403)::(nat_lit 406,c0_406)::(nat_lit 413,a11)::(nat_lit 415,c0_415)::(nat_lit 416,a11)::(nat_lit 418,c0_418)::(nat_lit 419,k419 P)::(nat_lit 420,a11)::(nat_lit 422,c0_422)::(nat_lit 423,a11)::(nat_lit 425,c0_425)::(nat_lit 426,k426 P)::(nat_lit 427,a11)::(nat_lit 429,c0_429)::(nat_lit 430,a11)::(nat_lit 432,c0_432)::(nat_lit 433,k433 P)::(nat_lit 434,a11)::(nat_lit 435,c0_435 P)::(nat_lit 436,c0_436)::(nat_lit 439,c0_406)::(nat_lit 446,a11)::(nat_lit 448,c0_448)::(nat_lit 449,a11)::(nat_lit 451,c0_451)::(nat_lit 452,k452 P)::(nat_lit 453,a11)::(nat_lit 455,c0_455)::(nat_lit 456,a11)::(nat_lit 458,c0_458)::(nat_lit 459,k459 P)::(nat_lit 460,a11)::(nat_lit 462,c0_462)::(nat_lit 463,a11)::(nat_lit 465,c0_465)::(nat_lit 466,k466 P)::(nat_lit 467,a11)::(nat_lit 468,c0_468 P)::(nat_lit 469,c0_469)::(nat_lit 472,c0_380)::(nat_lit 479,a11)::(nat_lit 481,c0_481)::(nat_lit 482,a11)::(nat_lit 484,c0_484)::(nat_lit 485,k485 P)::(nat_lit 486,a11)::(nat_lit 488,c0_488)::(nat_lit 489,a11)::(nat_lit 491,c0_491)::(nat_lit 492,k492 P)::(nat_lit 493,a11)::(nat_lit 495,c0_495)::(nat_lit 496,a11)::(nat_lit 498,c0_498)::(nat_lit 499,k499 P)::(nat_lit 500,a11)::(nat_lit 503,c0_503)::(nat_lit 504,k504 P)::(nat_lit 505,a11)::(nat_lit 507,c0_507)::(nat_lit 508,a11)::(nat_lit 510,c0_510)::(nat_lit 511,k511 P)::(nat_lit 512,c0_512)::(nat_lit 513,c0_513 P)::(nat_lit 514,c0_514)::(nat_lit 517,c0_406)::(nat_lit 524,a11)::(nat_lit 526,c0_526)::(nat_lit 527,a11)::(nat_lit 529,c0_529)::(nat_lit 530,k530 P)::(nat_lit 531,a11)::(nat_lit 533,c0_533)::(nat_lit 534,a11)::(nat_lit 536,c0_536)::(nat_lit 537,k537 P)::(nat_lit 538,a11)::(nat_lit 540,c0_540)::(nat_lit 541,a11)::(nat_lit 543,c0_543)::(nat_lit 544,k544 P)::(nat_lit 545,a11)::(nat_lit 547,c0_547)::(nat_lit 548,a11)::(nat_lit 550,c0_550)::(nat_lit 551,k551 P)::(nat_lit 552,a11)::(nat_lit 553,c0_553 P)::(nat_lit 554,c0_554)::(nat_lit 557,c0_406)::(nat_lit 564,a11)::(nat_lit 566,c0_566)::(nat_lit 567,a11)::(nat_lit 569,c0_569)::(nat_lit 570,k570 P)::(nat_lit 571,a11)::(nat_lit 573,c0_573)::(nat_lit 574,a11)::(nat_lit 576,c0_576)::(nat_lit 577,k577 P)::(nat_lit 578,a11)::(nat_lit 580,c0_580)::(nat_lit 581,a11)::(nat_lit 583,c0_583)::(nat_lit 584,k584 P)::(nat_lit 585,a11)::(nat_lit 587,c0_587)::(nat_lit 588,a11)::(nat_lit 590,c0_590)::(nat_lit 591,k591 P)::(nat_lit 592,a11)::(nat_lit 594,c0_594)::(nat_lit 595,a11)::(nat_lit 597,c0_597)::(nat_lit 598,k598 P)::(nat_lit 599,c0_599)::(nat_lit 600,c0_600 P)::(nat_lit 601,c0_601)::(nat_lit 604,c0_380)::(nat_lit 611,a11)::(nat_lit 613,c1_613)::(nat_lit 614,a11)::(nat_lit 616,c1_616)::(nat_lit 617,k617 P)::(nat_lit 618,a11)::(nat_lit 620,c1_620)::(nat_lit 621,a11)::(nat_lit 623,c1_623)::(nat_lit 624,k624 P)::(nat_lit 625,a11)::(nat_lit 627,c1_627)::(nat_lit 628,a11)::(nat_lit 630,c1_630)::(nat_lit 631,k631 P)::(nat_lit 632,c1_632)::(nat_lit 633,c1_633 P)::(nat_lit 634,c1_634)::(nat_lit 637,c0_380)::(nat_lit 644,a11)::(nat_lit 646,c1_646)::(nat_lit 647,a11)::(nat_lit 649,c1_649)::(nat_lit 650,k650 P)::(nat_lit 651,a11)::(nat_lit 653,c1_653)::(nat_lit 654,a11)::(nat_lit 656,c1_656)::(nat_lit 657,k657 P)::(nat_lit 658,a11)::(nat_lit 660,c1_660)::(nat_lit 661,a11)::(nat_lit 663,c1_663)::(nat_lit 664,k664 P)::(nat_lit 665,c1_665)::(nat_lit 666,c1_666 P)::(nat_lit 667,c1_667)::(nat_lit 670,a11)::(nat_lit 673,c1_673)::(nat_lit 674,k674 P)::(nat_lit 675,a11)::(nat_lit 677,c1_677)::(nat_lit 678,a11)::(nat_lit 680,c1_680)::(nat_lit 681,k681 P)::(nat_lit 682,a11)::(nat_lit 684,c1_684)::(nat_lit 685,a11)::(nat_lit 687,c1_687)::(nat_lit 688,k688 P)::(nat_lit 689,a11)::(nat_lit 691,c1_691)::(nat_lit 692,a11)::(nat_lit 694,c1_694)::(nat_lit 695,k695 P)::(nat_lit 696,c1_696)::(nat_lit 704,a11)::(nat_lit 706,c1_706)::(nat_lit 707,a11)::(nat_lit 709,c1_709)::(nat_lit 710,k710 P)::(nat_lit 711,a11)::(nat_lit 713,c1_713)::(nat_lit 714,a11)::(nat_lit 716,c1_716)::(nat_lit 717,k717 P)::(nat_lit 718,c1_718)::(nat_lit 719,c1_719 P)::(nat_lit 720,c1_720)::(nat_lit 721,c1_721)::(nat_lit 722,c1_722)::(nat_lit 725,a11)::(nat_lit 728,c1_728)::(nat_lit 729,k729 P)::(nat_lit 730,a11)::(nat_lit 732,c1_732)::(nat_lit 733,a11)::(nat_lit 735,c1_735)::(nat_lit 736,k736 P)::(nat_lit 737,a11)::(nat_lit 739,c1_739)::(nat_lit 740,a11)::(nat_lit 742,c1_742)::(nat_lit 743,k743 P)::(nat_lit 744,a11)::(nat_lit 746,c1_746)::(nat_lit 747,a11)::(nat_lit 749,c1_749)::(nat_lit 750,k750 P)::(nat_lit 751,a11)::(nat_lit 753,c1_753)::(nat_lit 754,a11)::(nat_lit 756,c1_756)::(nat_lit 757,k757 P)::(nat_lit 758,a11)::(nat_lit 760,c1_760)::(nat_lit 761,a11)::(nat_lit 763,c1_763)::(nat_lit 764,k764 P)::(nat_lit 765,a11)::(nat_lit 768,c1_768)::(nat_lit 769,k769 P)::(nat_lit 770,a11)::(nat_lit 773,c1_773)::(nat_lit 774,k774 P)::(nat_lit 775,a11)::(nat_lit 777,c1_777)::(nat_lit 778,a11)::(nat_lit 780,c1_780)::(nat_lit 781,k781 P)::(nat_lit 782,a11)::(nat_lit 785,c1_785)::(nat_lit 786,k786 P)::(nat_lit 787,a11)::(nat_lit 790,c1_790)::(nat_lit 791,k791 P)::(nat_lit 792,a11)::(nat_lit 794,c1_794)::(nat_lit 795,a11)::(nat_lit 797,c1_797)::(nat_lit 798,k798 P)::(nat_lit 799,a11)::(nat_lit 801,c1_801)::(nat_lit 802,a11)::(nat_lit 804,c1_804)::(nat_lit 805,k805 P)::(nat_lit 806,a11)::(nat_lit 808,c1_808)::(nat_lit 809,c1_809)::(nat_lit 811,c1_811)::(nat_lit 812,k812 P)::(nat_lit 813,a11)::(nat_lit 815,c1_815)::(nat_lit 816,a11)::(nat_lit 818,c1_818)::(nat_lit 819,k819 P)::(nat_lit 820,a11)::(nat_lit 822,c1_822)::(nat_lit 823,a11)::(nat_lit 825,c1_825)::(nat_lit 826,k826 P)::(nat_lit 827,a11)::(nat_lit 829,c1_829)::(nat_lit 830,a11)::(nat_lit 832,c1_832)::(nat_lit 833,k833 P)::(nat_lit 834,a11)::(nat_lit 837,c1_837)::(nat_lit 838,k838 P)::(nat_lit 839,a11)::(nat_lit 841,c1_841)::(nat_lit 842,a11)::(nat_lit 844,c1_844)::(nat_lit 845,k845 P)::(nat_lit 846,a11)::(nat_lit 848,c1_848)::(nat_lit 849,a11)::(nat_lit 851,c1_851)::(nat_lit 852,k852 P)::(nat_lit 853,a11)::(nat_lit 856,c1_856)::(nat_lit 857,k857 P)::(nat_lit 858,a11)::(nat_lit 861,c1_861)::(nat_lit 862,k862 P)::(nat_lit 863,a11)::(nat_lit 865,c1_865)::(nat_lit 866,a11)::(nat_lit 868,c1_868)::(nat_lit 869,k869 P)::(nat_lit 870,a11)::(nat_lit 872,c1_872)::(nat_lit 873,a11)::(nat_lit 875,c1_875)::(nat_lit 876,k876 P)::(nat_lit 877,a11)::(nat_lit 879,c1_879)::(nat_lit 880,a11)::(nat_lit 882,c1_882)::(nat_lit 883,k883 P)::(nat_lit 884,a11)::(nat_lit 887,c1_887)::(nat_lit 888,k888 P)::(nat_lit 889,a11)::(nat_lit 891,c1_891)::(nat_lit 892,a11)::(nat_lit 894,c1_894)::(nat_lit 895,k895 P)::(nat_lit 896,a11)::(nat_lit 899,c1_899)::(nat_lit 900,k900 P)::(nat_lit 901,a11)::(nat_lit 904,c1_904)::(nat_lit 905,k905 P)::(nat_lit 906,a11)::(nat_lit 908,c1_908)::(nat_lit 909,a11)::(nat_lit 911,c1_911)::(nat_lit 912,k912 P)::(nat_lit 913,a11)::(nat_lit 916,c1_916)::(nat_lit 917,k917 P)::[]
noncomputable def Ka:List Addr:=[2,3,15,17,18,20,21,22,29,30,31,32,35,42,43,44,47,54,55,56,59,66,68,69,71,72,73,74,75,78,85,87,88,90,91,92,93,94,97,104,106,107,109,110,111,112,113,116,123,125,126,128,129,130,131,132,142,144,145,147,148,149,151,152,154,155,156,158,159,161,162,163,165,166,168,169,170,172,173,175,176,177,178,179,180,181,184,191,193,194,196,197,198,199,200,203,210,212,213,215,216,217,218,219,222,229,231,232,234,235,236,237,238,241,243,244,246,247,248,251,252,253,255,256,258,259,267,269,270,272,273,274,276,277,279,280,281,283,284,286,287,288,290,291,293,294,295,297,298,300,301,302,304,305,307,308,309,311,312,314,315,316,317,318,319,320,323,331,333,334,336,337,338,340,341,343,344,345,347,348,350,351,352,354,355,357,358,359,361,362,364,365,366,368,369,371,372,373,374,375,376,377,380,387,389,390,392,393,394,396,397,399,400,401,402,403,406,413,415,416,418,419,420,422,423,425,426,427,429,430,432,433,434,435,436,439,446,448,449,451,452,453,455,456,458,459,460,462,463,465,466,467,468,469,472,479,481,482,484,485,486,488,489,491,492,493,495,496,498,499,500,503,504,505,507,508,510,511,512,513,514,517,524,526,527,529,530,531,533,534,536,537,538,540,541,543,544,545,547,548,550,551,552,553,554,557,564,566,567,569,570,571,573,574,576,577,578,580,581,583,584,585,587,588,590,591,592,594,595,597,598,599,600,601,604,611,613,614,616,617,618,620,621,623,624,625,627,628,630,631,632,633,634,637,644,646,647,649,650,651,653,654,656,657,658,660,661,663,664,665,666,667,670,673,674,675,677,678,680,681,682,684,685,687,688,689,691,692,694,695,696,704,706,707,709,710,711,713,714,716,717,718,719,720,721,722,725,728,729,730,732,733,735,736,737,739,740,742,743,744,746,747,749,750,751,753,754,756,757,758,760,761,763,764,765,768,769,770,773,774,775,777,778,780,781,782,785,786,787,790,791,792,794,795,797,798,799,801,802,804,805,806,808,809,811,812,813,815,816,818,819,820,822,823,825,826,827,829,830,832,833,834,837,838,839,841,842,844,845,846,848,849,851,852,853,856,857,858,861,862,863,865,866,868,869,870,872,873,875,876,877,879,880,882,883,884,887,888,889,891,892,894,895,896,899,900,901,904,905,906,908,909,911,912,913,916,917]
theorem ke(P:Params):Ka=(Kf P).map (·.1):=by kernel_rfl
noncomputable abbrev HK:Hook:=kmHook Kf Ka ke [788,807]
noncomputable abbrev R:RowW:=PySem.Challenge.rw_pactroom_k81_papers_played.row.toRowW
noncomputable abbrev lo:List Str:=[Str.ofString "SHAPES"]
noncomputable abbrev lvv:List (Str×WData):=[]
noncomputable def qv:Program:={p0 with main:={p0.main with body:=[T 0,T 2,T 3,T 4,T 5,T 6,T 7,T 8,T 10,T 11,T 12,T 13,T 15,T 16,T 17,T 18,T 19,T 20,T 21,T 22,T 23,T 24,T 25,T 26,T 28,T 29,T 30,T 31,T 32,T 33,T 34,T 35,T 36,T 37,T 38,T 39,T 40,T 41,T 42,T 44,T 45,T 46,T 47,T 48,T 49,T 50,T 51,T 52,T 54,T 55,T 56,T 57,T 58,T 59,T 60,T 61,T 62,T 64,T 65,T 66,T 67,T 68,T 69,T 70,T 71,T 72,T 73,T 74,T 75,T 76,T 77,T 78,T 79]}}
noncomputable abbrev Xt:Shared->Bool:=λs=>xlAt qv lvv s&&recOk (RowW.records R) s
theorem size_l(w:World):((boot_heap w.params).isNs mainGlobals&&(A []:Array GenState).size==0,(boot_heap w.params).objs.size,(boot_heap w.params).nsMap mainGlobals "__annotations__")=(true,11,(sr 6)):=by kernel_rfl
theorem look1(w:World)(os:OsState):(staticsOk (importedModules p0.main.body) (boot_heap w.params) (H1 w.params)&&namesBound p0 (H1 w.params)&&gensDone ⟨H1 w.params,Array.mk [],(@Drawn.mk 0 0 0 0),1390,os⟩&&laidKept (boot_heap w.params) (H1 w.params))=true:=by kernel_rfl
theorem look2(w:World)(os:OsState):openSeen qv lo (importedModules p0.main.body) Xt true ⟨H1 w.params,Array.mk [],(@Drawn.mk 0 0 0 0),1390,os⟩=openGood qv lo:=by kernel_rfl
theorem look3(w:World)(os:OsState):Hook.obs HK ⟨H1 w.params,Array.mk [],(@Drawn.mk 0 0 0 0),1390,os⟩=Hook.val HK w:=by kernel_rfl
theorem left:LeftO p0 qv lo Xt (Hook.obs HK) (Hook.val HK) 15738:=LeftO.of_pieces (boot_open (by kernel_rfl) (by kernel_rfl) (λs=>by kernel_rfl)) size_l run_l (by decide) λw=>funext λos=>looks_pair (look1 w os) (looks_pair (look2 w os) (look3 w os))
end
end Q
end
namespace L2
open PySem PySem.Spec PyProof.Rows
section
variable {X:Cx}
theorem cz:dm X (.builtin "isinstance") (λxs H Q=>∃x t n b,xs=[x,.ty n]/\TyOf X.K H x t/\PySem.W.kitOne X.K t (.type n)=some b/\Q (.bl b) H):=by
 intro pins s σ H xs us Q I r h
 obtain ⟨x,t,n,b,rfl,ty,e,q⟩:=h
 obtain ⟨u,u2,rfl,rx,r2⟩:=mY r
 cases (show u2=Value.type n from r2)
 exact kU I rx ty e λtk=>⟨.bl b,H,I.tok _,rfl,q⟩
theorem mQ:dm X (.builtin "isinstance") (λxs H Q=>∃x t C b,xs=[x,.ref C]/\TyOf X.K H x t/\PySem.W.kitOne X.K t (.ref C)=some b/\Q (.bl b) H):=by
 intro pins s σ H xs us Q I r h
 obtain ⟨x,t,C,b,rfl,ty,e,q⟩:=h
 obtain ⟨u,u2,rfl,rx,r2⟩:=mY r
 cases (show u2=Value.ref C from r2)
 exact kU I rx ty e λtk=>⟨.bl b,H,I.tok _,rfl,q⟩
theorem j3:MtR X "str.startswith" (λx vs H Q=>∃z y i,x=.str z/\vs=[.str y,.int i]/\Q (.bl (Txt.startswith3 z y i)) H):=by
 intro pins s σ H x xs v us Q I rx r h
 obtain ⟨z,y,i,rfl,rfl,q⟩:=h
 obtain ⟨t,rfl⟩:=rx
 obtain ⟨u,u2,rfl,⟨t1,rfl⟩,⟨t2,rfl⟩⟩:=mY r
 exact SC.startswith3 ⟨.bl _,H,I,rfl,q⟩
theorem kr:MtR X "str.startswith" (λx vs H Q=>∃z y,x=.str z/\vs=[.str y]/\Q (.bl (Txt.startswith z y)) H):=by
 intro pins s σ H x xs v us Q I rx r h
 obtain ⟨z,y,rfl,rfl,q⟩:=h
 obtain ⟨t,rfl⟩:=rx
 obtain ⟨u,rfl,⟨t1,rfl⟩⟩:=dg r
 exact SC.startswith ⟨.bl _,H,I,rfl,q⟩
theorem oY:MtR X "str.isdigit" (λx vs H Q=>∃z,x=.str z/\vs=[]/\Q (.bl (Txt.isdigit z)) H):=by
 intro pins s σ H x xs v us Q I rx r h
 obtain ⟨z,rfl,rfl,q⟩:=h
 obtain ⟨t,rfl⟩:=rx
 cases r
 exact SC.isdigit ⟨.bl _,H,I,rfl,q⟩
theorem kx:dm X (.type "int") (λxs H Q=>∃z n,xs=[.str z]/\PySem.intText? z=some n/\z.length<=640/\Q (.int n) H):=by
 intro pins s σ H xs us Q I r h
 obtain ⟨z,n,rfl,e,hl,q⟩:=h
 obtain ⟨u,rfl,⟨t,rfl⟩⟩:=dg r
 exact PySem.W.KIN.call_text e hl ⟨.int n,H,I.tok _,⟨_,rfl⟩,q⟩
theorem sh:SlR X (λx lo hi H Q=>∃z,x=.str z/\z.length<=sizeLine/\Q (.str (Txt.slice z lo hi)) H):=by
 intro pins s σ H x v vl vu lo hi sl Q I rx hs pl pu h
 obtain ⟨z,rfl,hz,q⟩:=h
 obtain ⟨t,rfl⟩:=rx
 refine ⟨"str",_,F.slot_str_getitem.lookup,typeIs_str _ _ _,?_⟩
 cases pl<;>cases pu
 ·exact wpAny_getItem_str_slice (l:=none) (u:=none) (st:=none) hs rfl (post_val_or_str ⟨Nat.le_trans (Txt.slice_le z _ _) hz,λt' k=>⟨.str _,H,I.tok _,⟨_,rfl⟩,q⟩⟩)
 ·exact wpAny_getItem_str_slice (l:=none) (u:=some (_,_)) (st:=none) hs rfl (post_val_or_str ⟨Nat.le_trans (Txt.slice_le z _ _) hz,λt' k=>⟨.str _,H,I.tok _,⟨_,rfl⟩,q⟩⟩)
 ·exact wpAny_getItem_str_slice (l:=some (_,_)) (u:=none) (st:=none) hs rfl (post_val_or_str ⟨Nat.le_trans (Txt.slice_le z _ _) hz,λt' k=>⟨.str _,H,I.tok _,⟨_,rfl⟩,q⟩⟩)
 ·exact wpAny_getItem_str_slice (l:=some (_,_)) (u:=some (_,_)) (st:=none) hs rfl (post_val_or_str ⟨Nat.le_trans (Txt.slice_le z _ _) hz,λt' k=>⟨.str _,H,I.tok _,⟨_,rfl⟩,q⟩⟩)
theorem ox(hc:X.calm=true):dm X (.builtin "all") (λxs H Q=>∃(p:Addr) (bs:List Bool),xs=[.ref p]/\SqL X.K H p (bs.map V.bl)/\Q (.bl (bs.all id)) H):=by
 intro pins s σ H xs us Q I r h
 obtain ⟨p,bs,rfl,hq,q⟩:=h
 obtain ⟨u,rfl,rx⟩:=dg r
 cases (show u=Value.ref p from rx)
 obtain ⟨its,rv,pl,hz⟩:=I.list hq
 have hl:=pl.isList
 have hlt:p<s.heap.objs.size:=by obtain ⟨_,e,_⟩:=hl;exact Heap.lt_size e
 have hh:X.A.handled=none:=I.ok.hd hc
 have hlen:bs.length=its.length:=by have:=rv.length;rw [List.length_map] at this;exact this
 refine call_all_walk (wpAny_pyIter_list hl ?_)
 refine ⟨s.heap.objs.size,[s.heap.objs.size,p],[s.heap.objs.size],its.toArray.size,_,_,λi=>(bs[i]?).getD true,rfl,Walks.list (A:=X.A.in1) hh _ p (Nat.ne_of_lt hlt) its.toArray,
  ⟨⟨_,Heap.get?_push_size _ rfl,rfl,rfl⟩,hl.push _⟩,λi v s' Q' E' hP hQ=>?_,λh' tk hk=>?_⟩
 ·have hP':its[i]?=some v:=by simpa using hP
  have hi:i<its.length:=(List.getElem?_eq_some_iff.mp hP').1
  have hb:(bs.map V.bl)[i]?=some (V.bl (bs[i]'(by omega))):=by rw [List.getElem?_map,List.getElem?_eq_getElem (by omega)];rfl
  obtain ⟨u',e1,e2⟩:=rv.get hb
  rw [hP'] at e1
  cases e1
  cases (show v=Value.bool _ from e2)
  have hQ':Q' ((bs[i]?).getD true) s':=hQ
  rw [List.getElem?_eq_getElem (by omega)] at hQ'
  exact wpAny_truthy_bool hQ'
 ·have e:((List.range its.toArray.size).all λi=>(bs[i]?).getD true)=bs.all id:=by
   rw [List.size_toArray,← hlen];exact LSm.range_all bs
  rw [e]
  exact ⟨.bl _,H,I.kept (LSm.kept_iter hk),rfl,q⟩
end
end L2
namespace L2
open PySem PySem.Spec PyProof.Rows
def cW(env:Env):List (Str×NameKind)->List (Str×Addr)->List (Str×Addr)
 | [],cs=>cs
 | (n,k)::r,cs=>cW env r (if k==.free then match env.cells.lookup n with | some a=>(n,a)::cs | none=>cs else cs)
theorem fm{scope:Scope}{env:Env}(h:∀y∈scope.names,y.2=.free->∃c,env.cells.lookup y.1=some c):closureFor scope env=pure (cW env scope.names []):=by
 have key:∀(l:List (Str×NameKind)) (cs:List (Str×Addr)),(∀y∈l,y.2=.free->∃c,env.cells.lookup y.1=some c) ->
   (forIn l cs (λ(x:Str×NameKind) (r:List (Str×Addr))=>(if (x.2==NameKind.free)=true then (do let a ← cellOf env x.1;pure (ForInStep.yield ((x.1,a)::r))) else pure (ForInStep.yield r):Sem (ForInStep (List (Str×Addr))))))=(pure (cW env l cs):Sem _):=by
  intro l
  induction l with
  | nil=>intro cs _;rfl
  | cons y r ih =>
   intro cs hy
   obtain ⟨n,k⟩:=y
   have hr:∀z∈r,z.2=.free->∃c,env.cells.lookup z.1=some c:=λz hz=>hy z (List.mem_cons_of_mem _ hz)
   rw [List.forIn_cons]
   by_cases hk:(k==NameKind.free)=true
   ·obtain ⟨c,hc⟩:=hy (n,k) List.mem_cons_self (by simpa using hk)
    have e:cellOf env n=pure c:=by unfold cellOf;rw [hc]
    simp only [hk,if_true,e,pure_bind,cW,hc]
    exact ih _ hr
   ·have hk':(k==NameKind.free)=false:=by simpa using hk
    simp only [hk',Bool.false_eq_true,if_false,pure_bind,cW]
    exact ih _ hr
 have e:closureFor scope env=(forIn scope.names ([]:List (Str×Addr)) (λ(x:Str×NameKind) (r:List (Str×Addr))=>(if (x.2==NameKind.free)=true then (do let a ← cellOf env x.1;pure (ForInStep.yield ((x.1,a)::r))) else pure (ForInStep.yield r):Sem (ForInStep (List (Str×Addr))))) >>= λcs=>pure cs):=by
  unfold closureFor
  rfl
 rw [e,key scope.names [] h]
 all_goals rfl
theorem iZ{env:Env}:∀(l:List (Str×NameKind)) (cs:List (Str×Addr)),(∀p∈cs,env.cells.lookup p.1=some p.2)->∀p∈cW env l cs,env.cells.lookup p.1=some p.2
 | [],cs,h,p,hp=>h p hp
 | (n,k)::r,cs,h,p,hp=>by
  unfold cW at hp
  refine iZ r _ ?_ p hp
  split
  ·split
   ·rename_i a ea
    intro q hq
    rcases List.mem_cons.mp hq with e | hq
    ·rw [e];exact ea
    ·exact h q hq
   ·exact h
  ·exact h
theorem jf{env:Env}:∀(l:List (Str×NameKind)) (cs:List (Str×Addr)) {y:Str},(∃p∈cs,p.1=y)->∃p∈cW env l cs,p.1=y
 | [],cs,y,h=>h
 | (n,k)::r,cs,y,⟨p,hp,e⟩=>by
  unfold cW
  refine jf r _ ?_
  split
  ·split
   ·exact ⟨p,List.mem_cons_of_mem _ hp,e⟩
   ·exact ⟨p,hp,e⟩
  ·exact ⟨p,hp,e⟩
theorem kZ{env:Env}:∀(l:List (Str×NameKind)) (cs:List (Str×Addr)) {y:Str} {c:Addr},(y,NameKind.free)∈l->env.cells.lookup y=some c->∃p∈cW env l cs,p.1=y
 | (n,k)::r,cs,y,c,hm,hc=>by
  unfold cW
  rcases List.mem_cons.mp hm with e | hm
  ·cases e
   refine jf r _ ?_
   rw [if_pos (by rfl),hc]
   exact ⟨_,List.mem_cons_self,rfl⟩
  ·exact kZ r _ hm hc
theorem gC{α:Type}:∀{l:List (Str×α)} {p:Str×α},p∈l->∃c,l.lookup p.1=some c
 | q::l,p,h=>by
  obtain ⟨n,a⟩:=q
  rw [List.lookup_cons]
  split
  ·exact ⟨_,rfl⟩
  ·rename_i hne
   rcases List.mem_cons.mp h with e | h
   ·subst e;simp at hne
   ·exact gC h
theorem h9{env:Env}{l:List (Str×NameKind)}{y:Str}{c:Addr}(hm:(y,NameKind.free)∈l)(hc:env.cells.lookup y=some c):(cW env l []).lookup y=some c:=by
 obtain ⟨p,hp,e⟩:=kZ l [] hm hc
 obtain ⟨c',e'⟩:=gC hp
 rw [e] at e'
 have q:=iZ l [] (λ_ z=>nomatch z) _ (PySem.mem_of_lookup e')
 rw [hc] at q
 rw [e']
 exact q.symm
theorem bH{env:Env}{l:List (Str×NameKind)}{y:Str}{c:Addr}(h:(cW env l []).lookup y=some c):env.cells.lookup y=some c :=
 iZ l [] (λ_ z=>nomatch z) _ (PySem.mem_of_lookup h)
theorem eT{env:Env}:∀{names:List (Str×NameKind)} {x:Str} {k:NameKind},(names.map λ(n,k)=>if (k==NameKind.free&&env.scope.kind==.function&&env.kindOf n==some .cell) then (n,NameKind.cell) else (n,k)).lookup x=some k ->
  ∃k',names.lookup x=some k'/\(k'=k\/k'=.free)
 | [],_,_,h=>by simp at h
 | (n,k0)::r,x,k,h=>by
  have ih:=@eT env r x k
  have h:List.lookup x ((if (k0==NameKind.free&&env.scope.kind==.function&&env.kindOf n==some .cell)=true then (n,NameKind.cell) else (n,k0))::_)=some k:=h
  cases hx:x==n with
  | true =>
   refine ⟨k0,by simp only [List.lookup_cons,hx],?_⟩
   by_cases hc:(k0==NameKind.free&&env.scope.kind==.function&&env.kindOf n==some .cell)=true
   ·refine .inr ?_
    simp only [Bool.and_eq_true] at hc
    exact beq_iff_eq.mp hc.1.1
   ·rw [if_neg hc] at h
    simp only [List.lookup_cons,hx] at h
    exact .inl (Option.some.inj h)
  | false =>
   have h2:List.lookup x (r.map λ(n,k)=>if (k==NameKind.free&&env.scope.kind==.function&&env.kindOf n==some .cell) then (n,NameKind.cell) else (n,k))=some k:=by
    by_cases hc:(k0==NameKind.free&&env.scope.kind==.function&&env.kindOf n==some .cell)=true
    ·rw [if_pos hc] at h;simp only [List.lookup_cons,hx] at h;exact h
    ·rw [if_neg hc] at h;simp only [List.lookup_cons,hx] at h;exact h
   obtain ⟨k',e1,e2⟩:=ih h2
   exact ⟨k',by simp only [List.lookup_cons,hx];exact e1,e2⟩
theorem e8{env:Env}:∀{names:List (Str×NameKind)} {x:Str},names.lookup x=some .free ->
  (names.map λ(n,k)=>if (k==NameKind.free&&env.scope.kind==.function&&env.kindOf n==some .cell) then (n,NameKind.cell) else (n,k)).lookup x=some .cell \/
  (names.map λ(n,k)=>if (k==NameKind.free&&env.scope.kind==.function&&env.kindOf n==some .cell) then (n,NameKind.cell) else (n,k)).lookup x=some .free
 | [],_,h=>by simp at h
 | (n,k0)::r,x,h=>by
  have ih:=@e8 env r x
  show List.lookup x ((if (k0==NameKind.free&&env.scope.kind==.function&&env.kindOf n==some .cell)=true then (n,NameKind.cell) else (n,k0))::_)=some .cell\/List.lookup x ((if (k0==NameKind.free&&env.scope.kind==.function&&env.kindOf n==some .cell)=true then (n,NameKind.cell) else (n,k0))::_)=some .free
  cases hx:x==n with
  | true =>
   simp only [List.lookup_cons,hx] at h
   by_cases hc:(k0==NameKind.free&&env.scope.kind==.function&&env.kindOf n==some .cell)=true
   ·rw [if_pos hc];simp only [List.lookup_cons,hx];simp
   ·rw [if_neg hc];simp only [List.lookup_cons,hx];exact .inr (by rw [Option.some.inj h])
  | false =>
   simp only [List.lookup_cons,hx] at h
   by_cases hc:(k0==NameKind.free&&env.scope.kind==.function&&env.kindOf n==some .cell)=true
   ·rw [if_pos hc];simp only [List.lookup_cons,hx];exact ih h
   ·rw [if_neg hc];simp only [List.lookup_cons,hx];exact ih h
def Its(z:Str):It:=⟨λi _=>i<z.length,λi H x H'=>H'=H/\∃c,z.cps.toList[i]?=some c/\x=.str ⟨#[c]⟩,λi _=>z.length<=i⟩
structure StrIt(P:Program)(w:World)(it:Addr)(ty:String)(z:Str)(t:Tok):Prop where
 W:∀A':Around,A'.handled=none->Walks P w A' it [it] [it] z.cps.size (SignAt z) (λi h=>h.IsStrIter it ty z t i)
 en:∀(A:Around) (i:Nat) (s:Shared) (Q:Option Value->Shared->Prop) (E:Value->Shared->Prop),A.handled=none->s.heap.IsStrIter it ty z t i->z.cps[i]?=none ->
  (∀h',Heap.ExtBut it s.heap h'->Q none {s with heap:=h'})->wpAny (model P w) A (pyNext (.ref it)) Q E s
 me:∀(A:Around) (i:Nat) (s:Shared) (Q:Value->Shared->Prop) (E:Value->Shared->Prop),s.heap.IsStrIter it ty z t i->Q (.ref it) s->wpAny (model P w) A (pyIter (.ref it)) Q E s
 ne:["enumerate","zip","dict_itemiterator","dict_reverseitemiterator","odict_iterator","itertools.zip_longest","itertools.pairwise"].contains ty=false
theorem StrIt.ascii{P:Program}{w:World}(it:Addr)(z:Str)(t:Tok):StrIt P w it "str_ascii_iterator" z t :=
 ⟨λ_ hA=>Walks.strAscii hA it z t,λ_ _ _ _ _ hA st hx hQ=>wpAny_pyNext_ascii_end hA st hx hQ,λ_ _ _ _ _ st h=>wpAny_pyIter_striter_ascii st h,by decide⟩
theorem StrIt.wide{P:Program}{w:World}(it:Addr)(z:Str)(t:Tok):StrIt P w it "str_iterator" z t :=
 ⟨λ_ hA=>Walks.strWide hA it z t,λ_ _ _ _ _ hA st hx hQ=>wpAny_pyNext_wide_end hA st hx hQ,λ_ _ _ _ _ st h=>wpAny_pyIter_striter_wide st h,by decide⟩
theorem rJ{P:Program}{w:World}{K:PySem.W.Frag}{tg:Expr}{z:Str}{t:Tok}{it:Addr}{ty:String}(S:StrIt P w it ty z t) :
  rB P w K tg (Its z) [it] it (λi h=>h.IsStrIter it ty z t i) where
 mem:=by simp
 obj:=λi h st b hb=>by
  have e:b=it:=by simpa using hb
  subst e
  obtain ⟨o,e,c,d⟩:=st
  exact ⟨o,e,λv q=>by rw [d] at q;cases q⟩
 keep:=λi h h' st k=>by
  obtain ⟨o,e,r⟩:=st
  exact ⟨o,k it (by simp) o e,r⟩
 item:=by
  intro X hP hw hK hc i pins s σ H E I hf st hg
  subst hP hw hK
  obtain ⟨f0,f1,f2,f3,f4,f5⟩:=hf it (by simp)
  refine (S.W X.A (I.ok.hd hc)).item i s _ _ hg st λv h' tk hv st' kk=>?_
  obtain ⟨c,u,hc',rfl⟩:=hv
  have I1:Inv X pins σ H {s with heap:=h',toks:=tk}:=I.turned (λb o hb e=>kk b o (by simpa using hb) e) f0 f1 f3 f4 f5
  obtain ⟨o,e,c1,d1⟩:=id st'
  exact ⟨_,rfl,oj (s:={s with heap:=h',toks:=tk}) e c1 d1 S.ne ⟨.str ⟨#[c]⟩,H,I1,⟨u,rfl⟩,⟨rfl,c,by rw [Array.getElem?_toList];exact hc',rfl⟩,st',λb hb=>(hf b hb).1⟩⟩
 done:=by
  intro X hP hw hK hc i pins s σ H E I hf st hg
  subst hP hw hK
  obtain ⟨f0,f1,f2,f3,f4,f5⟩:=hf it (by simp)
  refine S.en X.A i s _ _ (I.ok.hd hc) st ?_ λh' eb=>⟨rfl,I.turned (t':=s.toks) (λb o hb e=>eb b o hb e) f0 f1 f3 f4 f5⟩
  exact Array.getElem?_eq_none hg
 self:=λA i s Q E st h=>S.me A i s Q E st h
def yY(tl:TE):TI:=fun σ H R=>tl σ H λx H1=>∃z,x=.str z/\R (Its z) H1
theorem wI{X:Cx}{tg l:Expr}{tl:TE}(hl:PE X l tl):PI X tg l (yY tl):=by
 intro pins s σ H R I h
 refine thn (hl pins s σ H _ I h) λv s1 ⟨x,H1,I1,r1,q1⟩=>?_
 obtain ⟨z,rfl,q⟩:=q1
 obtain ⟨t,rfl⟩:=r1
 have fin:∀(o:Obj) (ty:String),StrIt X.prog X.w s1.heap.objs.size ty z t->(s1.heap.push o).IsStrIter s1.heap.objs.size ty z t 0->PIE X pins σ tg R (.ref s1.heap.objs.size) {s1 with heap:=s1.heap.push o}:=λo ty S st=>by
  refine ⟨s1.heap.objs.size,[s1.heap.objs.size],_,Its z,H1,rfl,I1.kept (t':=s1.toks) λb o e=>Heap.get?_push_of_some _ e,rJ S,st,λb hb=>?_,q⟩
  have e:b=s1.heap.objs.size:=by simpa using hb
  subst e
  exact I1.fpOk (Nat.le_refl _) (I1.hok.fresh (Nat.le_refl _))
 cases ha:z.cps.all (·<128)
 ·exact wpAny_pyIter_wide ha (fin _ _ (.wide _ z t) ⟨_,Heap.get?_push_size _ rfl,rfl,rfl⟩)
 ·exact wpAny_pyIter_ascii ha (fin _ _ (.ascii _ z t) ⟨_,Heap.get?_push_size _ rfl,rfl,rfl⟩)
def Cx.blk(X:Cx)(N':List Str)(scope:Scope)(C:Addr)(fp:List Addr)(s:Shared)(H:Hp):Cx :=
 {X with N:=N',s₀:=s,H₀:=H,env:=compEnvC scope (cW X.env scope.names []) C X.env,outer:=X.stack,ex:=fp,fn:=λ_=>false,pn:=[],xe:=λ_ _=>False}
structure aT(N:List Str)(sc scope:Scope)(x:Str)(N':List Str)(fv:List Nat):Prop where
 nocell:∀y∈scope.names,y.2≠.cell
 kind:scope.kind=.function
 names:∀y∈scope.names,y.2=.local->scope.names.lookup y.1=some .local
 loc:scope.names.lookup x=some .local
 free:∀y∈scope.names,y.2=.free->sc.names.lookup y.1=some .cell\/sc.names.lookup y.1=some .free
 nd:N'.Nodup
 hd:N'[0]?=some x
 len:N'.length=fv.length+1
 at_:∀j,j<fv.length->(N'[j+1]?).isSome=true/\N'[j+1]?=(fv[j]?).bind (λi=>N[i]?)/\(N'[j+1]?).bind (λy=>scope.names.lookup y)=some .free
def ba(fv:List Nat)(σ:St):St:=fv.map λk=>(σ[k]?).join
abbrev lu(ifs:List Expr)(env:Env):Sem Bool:=forIn ifs true λc r=>if r=true then do let ok ← isTrue c env (eval c env);pure (ForInStep.yield ok) else pure (ForInStep.yield r)
def PTs(X:Cx)(ifs:List Expr)(t:TT):Prop :=
 ∀(pins:List (Addr×Obj)) (s:Shared) (σ:St) (H:Hp) (Q:Bool->Hp->Prop),Inv X pins σ H s->t σ H Q->wpAny (model X.prog X.w) X.A (lu ifs X.env) (TP X pins σ Q) X.xe s
def qD:TT:=λ_ H Q=>Q true H
theorem bp{X:Cx}:PTs X [] qD:=λpins s σ H Q I h=>wpAny_pure ⟨H,I,h⟩
theorem mj{X:Cx}{c:Expr}{t:TT}(hc:PT X c t):PTs X [c] t:=by
 intro pins s σ H Q I h
 have e:lu [c] X.env=(isTrue c X.env (eval c X.env) >>= λok=>pure ok):=by
  unfold lu
  rw [List.forIn_cons]
  simp
 rw [e]
 exact wpAny_bind (thn (hc pins s σ H Q I h) λb s1 q=>wpAny_pure q)
def tLC(wi:TI)(fv:List Nat)(tt:TT)(te:TE):TE:=fun σ H Q=>wi σ H λJ H1=>∃(W:Nat->List V->Hp->Prop) (n:Nat),W 0 [] H1/\n<=sizeLine/\∀i ys H,W i ys H ->
 (J.stop i H/\∀p,H p=none->Q (.ref p) (upd H p (.lst ys))) \/
 (J.go i H/\i<n/\∀x H',J.yld i H x H'->tt (some x::ba fv σ) H' λc H2=>if c=true then te (some x::ba fv σ) H2 λy H3=>W (i+1) (ys++[y]) H3 else W (i+1) ys H2)
section
variable {X:Cx}{N':List Str}{scope:Scope}{x:Str}{fv:List Nat}
theorem qo{pins:List (Addr×Obj)}{σ:St}{H:Hp}{s:Shared}{fp:List Addr}{C:Addr}{h1:Heap}{m:Str->Option Value}{tk:Nat}{pl:List (Addr×Obj)}(S:aT X.N X.env.scope scope x N' fv)(I:Inv X pins σ H s)
  (hf:∀b∈fp,mV X pins H b)(hfo:∀b∈fp,b<s.heap.objs.size)(hC:s.heap.objs.size<=C)(kp:∀b o,s.heap.get? b=some o->h1.get? b=some o)(hn:h1.Ns C m)
  (hpl:∀p∈pl,h1.get? p.1=some p.2/\s.heap.objs.size<=p.1/\p.1≠C/\∀v,p.2.data≠.cell v) :
  Inv (X.blk N' scope C fp s H) pl (none::ba fv σ) H {s with heap:=h1,toks:=tk}:=by
 have clo:∀y c,(cW X.env scope.names []).lookup y=some c->X.env.cells.lookup y=some c:=λy c e=>bH e
 have cell:∀y c,(cW X.env scope.names []).lookup y=some c->∃v,s.heap.IsCell c v:=λy c e=>I.cell y c (clo y c e)
 have lt:∀y c,(cW X.env scope.names []).lookup y=some c->c<s.heap.objs.size:=λy c e=>by obtain ⟨v,q⟩:=cell y c e;exact q.lt
 have kc:∀c v,s.heap.IsCell c v->h1.IsCell c v:=λc v q=>by obtain ⟨o,e,d⟩:=q;exact ⟨o,kp _ _ e,d⟩
 refine ⟨⟨I.ok.mod,S.kind,I.ok.glob,I.ok.blt,hC,λy z c e1 e2=>I.ok.inj y z c (clo y c e1) (clo z c e2),λy hy=>?_,λy c e=>?_,I.ok.hd,I.ok.frames,.inl rfl,λb hb=>⟨?_,λy c e z=>(hf b hb).2.2.2.2.1 y c (clo y c e) z⟩,λb o e=>I.bs b o e,Nat.le_trans I.ok.bsz I.sz,λb o e hb=>?_,λb hb hb2=>?_,I.stack,I.stkFree⟩,
  rfl,I.bare,Un.kept kp,⟨m,hn,λi y v h1' h2 h3=>?_⟩,λy c e=>?_,I.hok.fresh hC,λy c e=>I.freeC y c (clo y c e),λp hp=>?_,I.hok.kept kp,?_⟩
 ·have hy':∃k,scope.names.lookup y=some k/\k=.free:=by
   rcases hy with hy | hy
   ·obtain ⟨k',e1,e2⟩:=eT (env:=X.env) (names:=scope.names) (x:=y) (k:=.cell) hy
    rcases e2 with e2 | e2
    ·exact absurd e2 (S.nocell _ (PySem.mem_of_lookup e1))
    ·exact ⟨k',e1,e2⟩
   ·obtain ⟨k',e1,e2⟩:=eT (env:=X.env) (names:=scope.names) (x:=y) (k:=.free) hy
    rcases e2 with e2 | e2
    ·exact ⟨k',e1,e2⟩
    ·exact ⟨k',e1,e2⟩
  obtain ⟨k,e,rfl⟩:=hy'
  have hm:=PySem.mem_of_lookup e
  obtain ⟨c,hc⟩:=I.ok.has y (S.free _ hm rfl)
  exact ⟨c,h9 hm hc⟩
 ·exact (Bool.false_ne_true (show false=true from e)).elim
 ·exact Nat.ne_of_lt (Nat.lt_of_lt_of_le (hfo b hb) hC)
 ·have e':=e
  rcases (hf b hb).2.2.2.1 with z | z
  ·exact I.ok.noex b o e z
  ·exact absurd (Nat.lt_of_lt_of_le (Heap.lt_size e) (Nat.le_trans I.ok.bsz z)) (Nat.lt_irrefl _)
 ·have q:=I.stkSub b hb2
  rcases List.mem_cons.mp q with z | z
  ·exact (hf b hb).2.1 z
  ·exact (hf b hb).2.2.1 z
 ·cases i with
  | zero =>
   have z:(none:Option V)=some v:=Option.some.inj h2
   cases z
  | succ j =>
   have h2':(ba fv σ)[j]?=some (some v):=h2
   unfold ba at h2'
   rw [List.getElem?_map] at h2'
   cases ej:fv[j]? with
   | none=>rw [ej] at h2';cases h2'
   | some k =>
    rw [ej] at h2'
    have h4:(σ[k]?).join=some v:=Option.some.inj h2'
    have h5:σ[k]?=some (some v):=by
     cases es:σ[k]? with
     | none=>rw [es] at h4;cases h4
     | some w'=>rw [es] at h4;rw [show w'=some v from h4]
    have hj:j<fv.length:=(List.getElem?_eq_some_iff.mp ej).1
    obtain ⟨_,a1,a2⟩:=S.at_ j hj
    have h1'':N'[j+1]?=some y:=h1'
    rw [h1''] at a1 a2
    rw [ej] at a1
    have a3:X.N[k]?=some y:=a1.symm
    have a4:scope.names.lookup y=some .free:=a2
    have hm:=PySem.mem_of_lookup a4
    have kd:X.env.kindOf y=some .cell\/X.env.kindOf y=some .free:=S.free _ hm rfl
    obtain ⟨mX,_,hlX⟩:=I.loc
    obtain ⟨u,ru,lk⟩:=hlX k y v a3 h5 (kd.elim (λz=>.inr (.inl z)) λz=>.inr (.inr z))
    refine ⟨u,ru,.inr ?_⟩
    rcases lk with ⟨z,_⟩ | ⟨_,c,hc,hcell⟩
    ·rcases kd with z' | z'<;>rw [z'] at z<;>cases z
    ·exact ⟨e8 (env:=X.env) a4,c,h9 hm hc,kc _ _ hcell⟩
 ·obtain ⟨v,q⟩:=cell y c e
  exact ⟨v,kc _ _ q⟩
 ·have hp':p∈pl:=hp
  obtain ⟨e,l1,l2,d⟩:=hpl p hp'
  exact ⟨e,I.hok.fresh l1,l2,λz=>absurd (I.stkSub _ z) (λq=>by
   rcases List.mem_cons.mp q with q | q
   ·exact absurd I.lt (by rw [← q];exact Nat.not_lt.mpr l1)
   ·exact I.nofs l1 q),d⟩
 ·show (none::ba fv σ).length=N'.length
  rw [S.len]
  unfold ba
  simp
end
end L2
namespace L2
open PySem PySem.Spec PyProof.Rows
theorem nox{α:Type}{t:Sem α}{Q Q':α->Shared->Prop}{M:Model}{A:Around}{E:Value->Shared->Prop}{s:Shared}(h:wpAny M A t Q (λ_ _=>False) s)(hQ:∀a s,Q a s->Q' a s):wpAny M A t Q' E s:=wpAny_mono h hQ λ_ _ f=>f.elim
set_option maxHeartbeats 1600000 in
theorem dR{X:Cx}{elt iter:Expr}{x:Str}{px:Pos}{ifs:List Expr}{scope:Scope}{pos:Pos}{N':List Str}{fv:List Nat}{wi:TI}{tt:TT}{te:TE}
  (S:aT X.N X.env.scope scope x N' fv)(hc:X.calm=true)(hi:PI X (.Name x px) iter wi)
  (ht:∀C fp s H,PTs (X.blk N' scope C fp s H) ifs tt)(he:∀C fp s H,PE (X.blk N' scope C fp s H) elt te)
  (hs:∀x,foldedSetIterable iter X.env x=pure x:=by intro _;rfl) :
  PE X (.ListComp elt [⟨.Name x px,iter,ifs,0⟩] scope pos) (tLC wi fv tt te):=by
 intro pins s σ H Q I h
 rw [eval_ListComp]
 refine wpAny_comprehension_free (use:=none) rfl hs (fm λy hy hk=>I.ok.has y.1 (S.free y hy hk)) S.kind S.names
  (wpAny_mono (hi pins s σ H _ I h) (λxv s1 h1=>wpAny_mono h1 (λitv s2 h2=>?_) λ_ _ e=>e) λ_ _ e=>e)
 obtain ⟨it,fp,tn,J,H2,rfl,I2,T,st2,f2,W,n,w0,hn,turn⟩:=h2
 refine wpAny_newObj_type (wpAny_newFunctionEnv S.nocell (by intro y hy;simp at hy) (λh1 hns hsb=>?_) S.kind)
 dsimp only at hns hsb ⊢
 generalize hH:s2.heap.push {cls:=.type "list",dict:=none,data:=.seq ([]:List Value).toArray}=G at hns hsb ⊢
 have hG:G.objs.size=s2.heap.objs.size+1:=by rw [← hH,Heap.size_push]
 have kpG:∀b o,s2.heap.get? b=some o->G.get? b=some o:=λb o e=>hH▸Heap.get?_push_of_some _ e
 have kp1:∀b o,b<G.objs.size->G.get? b=some o->h1.get? b=some o:=λb o lt e=>hsb.extBut b o (Nat.ne_of_lt lt) (Heap.get?_push_of_some _ e)
 have kp:∀b o,s2.heap.get? b=some o->h1.get? b=some o:=λb o e=>kp1 b o (by rw [hG];exact Nat.lt_succ_of_lt (Heap.lt_size e)) (kpG b o e)
 have hD:h1.PlainList s2.heap.objs.size #[]:=⟨_,kp1 _ _ (by rw [hG];exact Nat.lt_succ_self _) (hH▸Heap.get?_push_size _ rfl)⟩
 have hDC:s2.heap.objs.size≠G.objs.size:=by rw [hG];exact Nat.ne_of_lt (Nat.lt_succ_self _)
 have hC:s2.heap.objs.size<=G.objs.size:=by rw [hG];exact Nat.le_succ _
 have hfo:∀b∈fp,b<s2.heap.objs.size:=λb hb=>by obtain ⟨o,e,_⟩:=T.obj 0 _ st2 b hb;exact Heap.lt_size e
 have stat:∀{H':Hp} {pl:List (Addr×Obj)},(∀b∈fp,H' b=none)->(∀p∈pl,p.1∉fp)->∀b∈fp,mV (X.blk N' scope G.objs.size fp s2 H2) pl H' b:=λ{H' pl} hn hpl b hb=>by
  obtain ⟨_,g1,g2,g3,g4,g5⟩:=f2 b hb
  refine ⟨hn b hb,Nat.ne_of_lt (Nat.lt_of_lt_of_le (hfo b hb) hC),λz=>?_,.inl hb,λy c e=>g4 y c (bH e),λp hp e=>?_⟩
  ·rcases List.mem_cons.mp (I2.stkSub b z) with q | q
   ·exact g1 q
   ·exact g2 q
  ·exact hpl p hp (e▸hb)
 have hDf:s2.heap.objs.size∉fp:=λz=>absurd (hfo _ z) (Nat.lt_irrefl _)
 have hlc:(X.blk N' scope G.objs.size fp s2 H2).env.scope.names.lookup x=some .local:=lookup_relabel_local S.loc
 have hcl:∀y c,(X.blk N' scope G.objs.size fp s2 H2).env.cells.lookup y=some c->c≠s2.heap.objs.size:=λy c e z=>by
  obtain ⟨v,q⟩:=I2.cell y c (bH e)
  exact absurd q.lt (by rw [z];exact Nat.lt_irrefl _)
 have pin1:∀{s':Shared} {H':Hp} {ob:Obj} {i:Nat} {ys:List V},Inv (X.blk N' scope G.objs.size fp s2 H2) [] (none::ba fv σ) H' s'->s'.heap.get? s2.heap.objs.size=some ob->(∀v,ob.data≠.cell v)->H' s2.heap.objs.size=none ->
   Inv (X.blk N' scope G.objs.size fp s2 H2) [(s2.heap.objs.size,ob)] (none::ba fv σ) H' s':=λ{s' H' ob i ys} J1 e d f=>J1.pins_of λp hp=>by
  have z:p=(s2.heap.objs.size,ob):=by simpa using hp
  subst z
  refine ⟨e,f,hDC,λz=>?_,d⟩
  rcases List.mem_cons.mp (I2.stkSub _ z) with q | q
  ·exact absurd I2.lt (by rw [← q];exact Nat.lt_irrefl _)
  ·exact I2.nofs (Nat.le_refl _) q
 have loop:∀s3:Shared,s3={s2 with heap:=h1,toks:=s2.toks+([]:List (Str×Value)).length} ->
   codeAny (model X.prog X.w) X.A (.compLoop (.ListComp elt [⟨.Name x px,iter,ifs,0⟩] scope pos) 0 (.ref it) (.ref s2.heap.objs.size) (X.blk N' scope G.objs.size fp s2 H2).env)
    (compPost (model X.prog X.w) X.A X.xe none (EP X pins σ Q) (.ref s2.heap.objs.size) G.objs.size) s3:=by
  rintro s3 rfl
  refine codeAny_compLoop_tests (λk s'=>∃i ys H' its,k=n+1-i/\i<=n/\ys.length<=i/\Vals ys its/\s'.heap.PlainList s2.heap.objs.size its.toArray /\
   Inv (X.blk N' scope G.objs.size fp s2 H2) [] (none::ba fv σ) H' s'/\H' s2.heap.objs.size=none/\tn i s'.heap/\(∀b∈fp,H' b=none)/\W i ys H') ?_ (n+1)
   ⟨0,[],H2,[],rfl,Nat.zero_le _,Nat.le_refl _,.nil,hD,qo S I2 f2 hfo hC kp hns (λp hp=>nomatch hp),I2.hok.fresh (Nat.le_refl _),T.keep _ _ _ st2 λb _ o e=>kp b o e,λb hb=>(f2 b hb).1,w0⟩
  rintro k s4 ⟨i,ys,H4,its,rfl,hin,hyi,rv,pl4,I4,fD4,st4,ff4,w4⟩
  obtain ⟨cnt,eD⟩:=id pl4
  have I4p:=pin1 (i:=i) (ys:=ys) I4 eD (λv z=>by cases z) fD4
  have np:∀p∈[(s2.heap.objs.size,({cls:=.type "list",data:=.seq its.toArray cnt}:Obj))],p.1∉fp:=λp hp=>by
   have z:p=(s2.heap.objs.size,({cls:=.type "list",data:=.seq its.toArray cnt}:Obj)):=by simpa using hp
   subst z;exact hDf
  rcases turn i ys H4 w4 with ⟨stop,fin⟩ | ⟨go,hi2,step⟩
  ·refine wpAny_mono (T.done (X.blk N' scope G.objs.size fp s2 H2) rfl rfl rfl hc i _ s4 _ H4 _ I4p (stat ff4 np) st4 stop) (λr s5 ⟨hr,I5⟩=>?_) λ_ _ e=>e
   subst hr
   obtain ⟨m5,hm5,_⟩:=I5.loc
   have eD5:s5.heap.get? s2.heap.objs.size=some {cls:=.type "list",data:=.seq its.toArray cnt}:=(I5.pin _ (List.mem_append_right _ List.mem_cons_self)).1
   refine ⟨m5,hm5,λh' sb=>⟨.ref s2.heap.objs.size,upd H4 s2.heap.objs.size (.lst ys),?_,rfl,fin _ fD4⟩⟩
   have ltC:∀{b:Addr} {o:Obj},s2.heap.get? b=some o->b≠G.objs.size:=λ{b o} e=>Nat.ne_of_lt (Nat.lt_of_lt_of_le (Heap.lt_size e) hC)
   have fD2:H2 s2.heap.objs.size=none:=I2.hok.fresh (Nat.le_refl _)
   have ltD:∀{b:Addr} {o:Obj},s2.heap.get? b=some o->b≠s2.heap.objs.size:=λ{b o} e=>Nat.ne_of_lt (Heap.lt_size e)
   have B:=I5.base
   refine I2.call' (s':={s5 with heap:=h'}) (ch:=fp) I5.os ⟨λb o e nb hb hx=>?_,λb o e nb hb hx=>?_,λb o e nb hx=>?_,λb o e hx=>?_,λb xs e=>?_,λb o u e=>?_,λb ps e=>?_⟩ ?_ I5.bare λb hb=>?_
   ·exact sb.extBut b o (ltC e) (B.keep b o e nb hb hx)
   ·obtain ⟨sl,q⟩:=B.slot b o e nb hb hx
    exact ⟨sl,sb.extBut b _ (ltC e) q⟩
   ·rw [aq (ltD e)];exact B.free b o e nb hx
   ·obtain ⟨o',q⟩:=B.there b o e hx
    exact ⟨o',sb.extBut b o' (ltC e) q⟩
   ·have e':H2 b=some (.tup xs):=e
    rw [aq (ap e' fD2)];exact B.tups b xs e
   ·have e':H2 b=some (.frz o u):=e
    rw [aq (ap e' fD2)];exact B.frzs b o u e
   ·have e':H2 b=some (.tbl ps):=e
    rw [aq (ap e' fD2)];exact B.tbls b ps e
   ·intro b u e
    by_cases hb:b=s2.heap.objs.size
    ·subst hb
     rw [ac] at e
     cases e
     exact ⟨Nat.le_trans hyi (Nat.le_trans hin hn),its,cnt,rv,sb.extBut _ _ hDC eD5⟩
    ·rw [aq hb] at e
     have fC:H4 G.objs.size=none:=I5.free
     refine (I5.hok b u e).stay (λc v hc' q=>sb.extBut c v ?_ q) (λc q=>by rw [aq (ap q fD4)];exact q) λc xs q=>by rw [aq (ap q fD4)];exact q
     rcases hc' with z | z
     ·subst z;exact ap e fC
     ·exact ap z fC
   ·obtain ⟨_,g1,g2,g3,g4,g5⟩:=f2 b hb
    exact ⟨g3,g1,g4,g5⟩
  ·refine wpAny_mono (T.item (X.blk N' scope G.objs.size fp s2 H2) rfl rfl rfl hc i _ s4 _ H4 _ I4p (stat ff4 np) st4 go) (λr s5 ⟨u,hr,h5⟩=>?_) λ_ _ e=>e
   subst hr
   show wpAny _ _ (letOwnedTupleGo (.Name x px) (.ref it) u >>= λ_=>assign (.Name x px) (X.blk N' scope G.objs.size fp s2 H2).env u) _ _ s5
   refine wpAny_bind (wpAny_mono h5 (λ_ s6 ⟨xv,H6,I6,r6,y6,st6,ff6⟩=>?_) λ_ _ e=>e)
   have I6':=I6.pinned (stat ff6 np) (T.obj _ _ st6)
   have out:∀{σ':St} {H':Hp} {s':Shared},Inv (X.blk N' scope G.objs.size fp s2 H2) ([(s2.heap.objs.size,({cls:=.type "list",data:=.seq its.toArray cnt}:Obj))]++iM fp s6.heap) σ' H' s' ->
     s'.heap.PlainList s2.heap.objs.size its.toArray/\H' s2.heap.objs.size=none/\(∀b∈fp,H' b=none)/\(∀b∈fp,∀o,s6.heap.get? b=some o->s'.heap.get? b=some o):=λ{σ' H' s'} J1=>by
    have q:=J1.pin (s2.heap.objs.size,({cls:=.type "list",data:=.seq its.toArray cnt}:Obj)) (List.mem_append_right _ (List.mem_append_left _ List.mem_cons_self))
    refine ⟨⟨cnt,q.1⟩,q.2.1,λb hb=>?_,λb hb o e=>(J1.pin (b,o) (List.mem_append_right _ (List.mem_append_right _ (cL hb e)))).1⟩
    obtain ⟨o,e,d⟩:=T.obj _ _ st6 b hb
    exact (J1.pin (b,o) (List.mem_append_right _ (List.mem_append_right _ (cL hb e)))).2.1
   refine nox ((aU (X:=X.blk N' scope G.objs.size fp s2 H2) (i:=0) S.nd S.hd (.inl hlc) (.inr hlc)) _ s6 _ H6 xv u (fun σ' H'=>σ'=some xv::ba fv σ/\H'=H6) I6' r6 ⟨rfl,rfl⟩) λ_ s7 ⟨σ7,H7,I7,e7,e7'⟩=>?_
   subst e7 e7'
   refine nox (ht _ _ _ _ _ s7 _ H7 _ I7 (step xv H7 y6)) λok s8 ⟨H8,I8,q8⟩=>?_
   cases ok with
   | false =>
    obtain ⟨o1,o2,o3,o4⟩:=out I8
    exact ⟨n+1-(i+1),by omega,i+1,ys,H8,its,rfl,hi2,Nat.le_succ_of_le hyi,rv,o1,(I8.pins_of (pins':=[]) λp hp=>nomatch hp).weak (σ':=none::ba fv σ) rfl (λj v e=>by
     cases j with
     | zero=>cases (show (none:Option V)=some v from Option.some.inj e)
     | succ j=>exact e),o2,T.keep _ _ _ st6 o4,o3,q8⟩
   | true =>
    refine nox (he _ _ _ _ _ s8 _ H8 _ I8 q8) λyv s9 ⟨y,H9,I9,r9,q9⟩=>?_
    obtain ⟨o1,o2,o3,o4⟩:=out I9
    have hlen:=rv.length
    refine wpAny_list_append_plain (hsz:=by rw [List.size_toArray,← hlen];exact Nat.le_trans hyi (Nat.le_trans hin hn)) o1 λh' pl' sb'=>?_
    have I9':Inv (X.blk N' scope G.objs.size fp s2 H2) [] (some xv::ba fv σ) H9 {s9 with heap:=h'} :=
     (I9.pins_of (pins':=[]) λp hp=>nomatch hp).turned (t':=s9.toks) (it:=s2.heap.objs.size) (λb o hb e=>sb'.extBut b o hb e) o2 hDC (.inr (Nat.le_refl _)) hcl (λp hp=>nomatch hp)
    refine ⟨n+1-(i+1),by omega,i+1,ys++[y],H9,its++[yv],rfl,hi2,by rw [List.length_append];exact Nat.succ_le_succ hyi,rv.append (.cons r9 .nil),?_,I9'.weak (σ':=none::ba fv σ) rfl (λj v e=>by
     cases j with
     | zero=>cases (show (none:Option V)=some v from Option.some.inj e)
     | succ j=>exact e),o2,T.keep _ _ _ st6 λb hb o e=>sb'.extBut b o (λz=>hDf (z▸hb)) (o4 b hb o e),o3,q9⟩
    have e9:(its++[yv]).toArray=its.toArray.push yv:=by simp
    rw [e9]
    exact pl'
 exact codeAny_compStart_list (loop _ rfl) (T.self _ 0 _ _ _ (T.keep _ _ _ st2 λb _ o e=>kp b o e) (loop _ rfl))
end L2
namespace L2
open PySem PySem.Spec PyProof.Rows
theorem oC{ys:List Str}:∀{us:List Value},Vals (ys.map V.str) us->StrsAre us ys:=by
 induction ys with
 | nil=>intro us r;rw [List.map_nil] at r;cases r;exact .nil
 | cons y ys ih =>
  intro us r
  rw [List.map_cons] at r
  cases r with
  | cons r1 r2 =>
   obtain ⟨t,e⟩:=r1
   subst e
   exact .cons y t (ih r2)
theorem qb{X:Cx}:MtR X "str.join" (λx vs H Q=>∃(sep:Str) (p:Addr) (ys:List Str),x=.str sep/\vs=[.ref p]/\SqL X.K H p (ys.map V.str)/\(ys.map (·.length)).sum+ys.length*sep.length<=16777216/\Q (.str (Str.join sep ys)) H):=by
 intro pins s σ H x xs v us Q I rx r h
 obtain ⟨sep,p,ys,rfl,rfl,hq,hok,q⟩:=h
 obtain ⟨t,rfl⟩:=rx
 obtain ⟨u,rfl,rp⟩:=dg r
 cases (show u=Value.ref p from rp)
 obtain ⟨its,rv,pl,hz⟩:=I.list hq
 refine join_list pl.isList (by simpa using oC rv) hok λt' k=>⟨.str _,H,I.tok _,⟨_,rfl⟩,?_⟩
 rw [eq_of_beq (join_closes (sep:=sep) (sep':=sep) (ys:=ys) rfl)]
 exact q
end L2
namespace L2
open PySem PySem.Spec PyProof.Rows
end L2
namespace L2
open PySem PySem.Spec PyProof.Rows
open Builtin Builtin.Str
theorem kQ(c:Nat):∀ys:List Str,ys.length<=(Str.join ⟨#[c]⟩ ys).length+1
 | []=>Nat.zero_le _
 | [y]=>by simp
 | y::u::ys=>by
  have ih:=kQ c (u::ys)
  rw [join_cons_cons]
  have e:(y++(⟨#[c]⟩:Str)++Str.join ⟨#[c]⟩ (u::ys)).length=y.length+1+(Str.join ⟨#[c]⟩ (u::ys)).length:=by
   show ((y.cps++#[c])++(Str.join ⟨#[c]⟩ (u::ys)).cps).size=_
   rw [Array.size_append,Array.size_append]
   rfl
  rw [e,List.length_cons]
  omega
theorem il:∀(l:List (Str×Tok)),Vals ((l.map (·.1)).map V.str) (strValues l)
 | []=>.nil
 | p::l=>.cons ⟨p.2,rfl⟩ (il l)
section
variable {X:Cx}
theorem gE(hc:X.calm=true):dm X (.builtin "sum") (λxs H Q=>∃(p:Addr) (ns:List Int),xs=[.ref p]/\SqL X.K H p (ns.map V.int)/\Q (.int ns.sum) H):=by
 intro pins s σ H xs us Q I r h
 obtain ⟨p,ns,rfl,hq,q⟩:=h
 obtain ⟨u,rfl,rx⟩:=dg r
 cases (show u=Value.ref p from rx)
 obtain ⟨its,rv,pl,hz⟩:=I.list hq
 have ia:IntsAre its ns:=pz rv
 obtain ⟨zs,ez⟩:=ia.allInts.items
 have hl:s.heap.IsList p (intItems zs):=ez▸pl.isList
 refine sum_intListG (I.ok.hd hc) hl λh' tk t' hk=>⟨.int ns.sum,H,I.kept hk,⟨t',?_⟩,q⟩
 have en:ns=zs.toList.map (·.1):=(show numsOf its.toArray.toList=ns from ia.numsOf).symm.trans (by rw [ez,nums_intItems])
 rw [preSum_eq,List.take_of_length_le (by simp),en]
theorem qU:MtR X "str.split" (λx vs H Q=>∃(z:Str) (c:Nat),x=.str z/\vs=[.str ⟨#[c]⟩]/\z.length<=1000000/\∀p,H p=none->Q (.ref p) (upd H p (.lst ((Txt.split z ⟨#[c]⟩).map V.str)))):=by
 intro pins s σ H x xs v us Q I rx r h
 obtain ⟨z,c,rfl,rfl,hz,q⟩:=h
 obtain ⟨t,rfl⟩:=rx
 obtain ⟨u,rfl,⟨t1,rfl⟩⟩:=dg r
 have hs:(1000002:Nat)<=sizeLine:=by decide
 have many:(Txt.split z ⟨#[c]⟩).length<=sizeLine:=by
  have:=kQ c (Txt.split z ⟨#[c]⟩)
  rw [StrLaws.join_split] at this
  omega
 have fin:∀(l:List (Str×Tok)) (k:Nat),l.map (·.1)=Txt.split z ⟨#[c]⟩->EP X pins σ Q (.ref s.heap.objs.size) {s with toks:=k,heap:=s.heap.push {cls:=.type "list",data:=.seq (strValues l).toArray}}:=λl k el =>
  ⟨.ref s.heap.objs.size,_,I.laid (t':=k) (o:=.lst ((Txt.split z ⟨#[c]⟩).map V.str)) (λb o e=>Heap.get?_push_of_some _ e) (Nat.le_refl _)
   (show ObjOk X.prog X.w _ _ _ (.lst ((Txt.split z ⟨#[c]⟩).map V.str)) from ⟨by rw [List.length_map];exact many,strValues l,0,el▸il l,Heap.get?_push_size _ rfl⟩),rfl,q _ (I.hok.fresh (Nat.le_refl _))⟩
 have hy:((⟨#[c]⟩:Str).length==0)=false:=rfl
 cases h1:(decide (z.length<(⟨#[c]⟩:Str).length)||decide (strKind z<strKind ⟨#[c]⟩)) with
 | true =>
  have es:Txt.split z ⟨#[c]⟩=[z]:=by unfold Txt.split;rw [if_pos h1]
  exact call_meets F.slot_str_split (typeIs_str _ _ _) F.entry_str_split (F.args_str_split_2 _ _) (meets_str_split_cannot_occur z ⟨#[c]⟩ t t1 h1) (fin [(z,t)] s.toks es.symm)
 | false =>
  cases hf:(occurrences z ⟨#[c]⟩ 0 z.length (z.length+1)).isEmpty with
  | true =>
   have es:Txt.split z ⟨#[c]⟩=[z]:=by unfold Txt.split;rw [if_neg (by rw [h1];decide),if_pos hf]
   exact call_meets F.slot_str_split (typeIs_str _ _ _) F.entry_str_split (F.args_str_split_2 _ _) (meets_str_split_not_found z ⟨#[c]⟩ t t1 h1 hy hf) (fin [(z,t)] s.toks es.symm)
  | false =>
   have es:Txt.split z ⟨#[c]⟩=partsBetween z (occurrences z ⟨#[c]⟩ 0 z.length (z.length+1)) (⟨#[c]⟩:Str).length:=by unfold Txt.split;rw [if_neg (by rw [h1];decide),if_neg (by rw [hf];decide)]
   refine call_meets F.slot_str_split (typeIs_str _ _ _) F.entry_str_split (F.args_str_split_2 _ _) (meets_str_split_sep z ⟨#[c]⟩ t t1 h1 hy hf (by omega) (by rw [← es];exact many)) ?_
   rw [strsFrom_eq]
   exact fin _ _ ((numbered_texts _ _).trans es.symm)
theorem pX{body:List Stmt}{h₀:ExceptHandler}{hs:List ExceptHandler}{pos:Pos}{t:TS}(hb:PSs X.nox body t):PS X (.Try body (h₀::hs) [] [] pos) t:=by
 intro pins s σ H D I h
 refine wpAny_Try_except (wpAny_mono (hb pins s σ H D (I.wish _) h) (λf s1 q=>?_) λ_ _ e=>e.elim)
 cases f with
 | next=>exact wpAny_execs_nil (SP.unwish (f:=.next) q)
 | brk=>exact SP.unwish (f:=.brk) q
 | cont=>exact SP.unwish (f:=.cont) q
 | ret v=>exact SP.unwish (f:=.ret v) q
end
end L2
namespace L2
open PySem PySem.Spec PyProof.Rows
end L2
namespace L2
open PySem PySem.Spec PyProof.Rows
end L2
namespace L2
open PySem PySem.Spec PyProof.Rows
def Cov(l:List Env)(h0:Heap)(H:Hp)(B h:Heap):Prop:=∀b o,h.get? b=some o->b∉frs l->(H b≠none\/∃o0,h0.get? b=some o0)->B.get? b=some o
def Fly(l:List Env)(h0:Heap)(H:Hp)(ea C:Addr)(h:Heap):Prop:=∃B a0,Heap.FlyingW B l ea (.ref C) a0 h/\Cov l h0 H B h
section
variable {l:List Env}{H:Hp}{B h h' hc:Heap}{P:Program}{w:World}
theorem Cov.stay(c:Cov l hc H B h)(st:B.StaysIn h'):∀b o,h.get? b=some o->b∉frs l->(H b≠none\/∃o0,hc.get? b=some o0)->h'.get? b=some o:=λb o e nb hb=>st b o (c b o e nb hb)
theorem HOk.moved(x:HOk P w H h)(c:Cov l hc H B h)(st:B.StaysIn h')(fr:∀b∈frs l,H b=none):HOk P w H h':=λa o e=>by
 refine (x a o e).stay (λb u hb q=>?_) (λb q=>q) λb xs q=>q
 have tr:H b≠none:=by
  rcases hb with rfl | hb
  ·rw [e];intro z;cases z
  ·rw [hb];intro z;cases z
 exact c.stay st b u q (λz=>tr (fr b z)) (.inl tr)
theorem Un.moved{fs:List Addr}{H0:Hp}{h0:Heap}(u:Un fs [] H0 H h0 h)(c:Cov l hc H B h)(st:B.StaysIn h')(sm:h.UpToSlots h')(ff:h.FunFrames B l)(hn:∀b o,h0.get? b=some o->∃o',hc.get? b=some o')
  (hf:∀b∈fs,b∈frs l)(hl:∀b o,h0.get? b=some o->b∈frs l->b∈fs):Un fs [] H0 H h0 h':=by
 have kp:∀b o0 o,h0.get? b=some o0->b∉fs->h.get? b=some o->h'.get? b=some o:=λb o0 o e0 nb e=>c.stay st b o e (λz=>nb (hl b o0 e0 z)) (.inr (hn b o0 e0))
 have sl:∀b o,b∈fs->h.get? b=some o->∃sl,h'.get? b=some {o with slots:=sl}:=λb o hb e=>by
  obtain ⟨_,o',e',d⟩:=ff.mem (show b∈l.filterMap (·.frame) from hf b hb)
  rw [e] at e'
  cases e'
  exact sm b o e d
 refine ⟨λb o e z nb hx=>kp b o o e nb (u.keep b o e z nb hx),λb o e z hb hx=>?_,u.free,λb o e hx=>?_,u.tups,u.frzs,u.tbls⟩
 ·obtain ⟨s1,q⟩:=u.slot b o e z hb hx
  obtain ⟨s2,q2⟩:=sl b _ hb q
  exact ⟨s2,q2⟩
 ·obtain ⟨o1,q⟩:=u.there b o e hx
  by_cases hb:b∈fs
  ·obtain ⟨s2,q2⟩:=sl b _ hb q
   exact ⟨_,q2⟩
  ·exact ⟨o1,kp b o o1 e hb q⟩
end
section
variable {X:Cx}{E:XK}{pins:List (Addr×Obj)}{σ:St}{H H':Hp}{s s':Shared}
theorem om(D:X.stack=X.env::X.outer)(fr:X.env.frame=some X.env.locals):frs X.stack=X.env.locals::frs X.outer:=by
 rw [D]
 show List.filterMap _ (X.env::X.outer)=_
 rw [List.filterMap_cons,fr]
 rfl
end
end L2
namespace L2
open PySem PySem.Spec PyProof.Rows
theorem wM{K:PySem.W.Frag}{h:Heap}{mg:Str->Option Value}{x:Str}{C:Addr}{bm:List Value}{new:String}(kin:K.In h)(hm:mg x=some (.ref C))(q:PySem.W.excIn K C bm new=true):OwnCls x C bm new mg h:=by
 have key:∀o,K.lookup C=some o->∃tl N nm qn bs hdct sn sub ab col dd k0 k1 k2 k3 k5 mN,h.get? C=some (excClassObj nm qn C N bs tl hdct sn sub ab col dd k0 k1 k2 k3 k5 new)/\h.Ns N mN/\mN "__init__"=none/\OwnTail h bm tl:=λo lk=>by
  unfold PySem.W.excIn at q
  rw [lk] at q
  obtain ⟨oc,od,odt,osl⟩:=o
  split at q
  ·rename_i dd cd sl e0
   cases (Option.some.inj e0)
   obtain ⟨nm,bs,mro,ns,qn,hd,sn,sub,ab,col,del⟩:=cd
   split at q
   ·rename_i C2 tl k0 k1 k2 k3 n2 k5 em es
    dsimp only at em q
    simp only [Bool.and_eq_true,beq_iff_eq,Bool.not_eq_true'] at q
    obtain ⟨⟨⟨⟨⟨q1,q2⟩,q3⟩,q4⟩,q5⟩,q6⟩:=q
    subst q1 q2 q3 em
    have esl:osl=#[k0,k1,k2,k3,some (.builtin n2),k5]:=Array.toList_inj.mp es
    subst esl
    exact ⟨tl,ns,nm,qn,bs,hd,sn,sub,ab,col,od,k0,k1,k2,k3,k5,_,kin _ _ lk,.of_isNs (PySem.W.isNs_of_in kin q5),PySem.W.nsMap_none_of_in kin q5 q6,PySem.W.tail_of_in kin q4⟩
   ·cases q
  ·cases q
 refine ⟨hm,?_⟩
 cases lk:K.lookup C with
 | none=>unfold PySem.W.excIn at q;rw [lk] at q;cases q
 | some o=>exact key o lk
end L2
namespace L2
open PySem PySem.Spec PyProof.Rows
def xw(ea C:Addr):HO:=.ext λh=>∃o,h.get? ea=some o/\o.cls=.ref C
abbrev Cx.hnd(X:Cx)(ev:Value):Cx:={X with A:=X.A.mark (some ev),calm:=false,xe:=λ_ _=>False}
section
variable {X:Cx}{pins:List (Addr×Obj)}{σ:St}{H H1:Hp}{s s1:Shared}{ev:Value}
theorem Cx.Ok.hnd(ok:X.Ok)(ev:Value):(X.hnd ev).Ok :=
 ⟨ok.mod,ok.kind,ok.glob,ok.blt,ok.above,ok.inj,ok.has,ok.cab,λh=>(by cases h),ok.frames,ok.stk,ok.exf,ok.bs,ok.bsz,ok.noex,ok.exfs,ok.funs,ok.frf⟩
theorem Inv.hnd(I:Inv X pins σ H s)(ev:Value):Inv (X.hnd ev) pins σ H s:=⟨I.ok.hnd ev,I.os,I.bare,I.base,I.loc,I.cell,I.free,I.freeC,I.pin,I.hok,I.len⟩
theorem Inv.unhnd(ok:X.Ok)(I:Inv (X.hnd ev) pins σ H s):Inv X pins σ H s:=⟨ok,I.os,I.bare,I.base,I.loc,I.cell,I.free,I.freeC,I.pin,I.hok,I.len⟩
theorem SP.unhnd{D:Ends}{f:Flow}{s':Shared}(ok:X.Ok)(h:SP (X.hnd ev) pins D f s'):SP X pins D f s':=by
 cases f with
 | next=>obtain ⟨σ',H',I',q⟩:=h;exact ⟨σ',H',I'.unhnd ok,q⟩
 | brk=>obtain ⟨σ',H',I',q⟩:=h;exact ⟨σ',H',I'.unhnd ok,q⟩
 | cont=>obtain ⟨σ',H',I',q⟩:=h;exact ⟨σ',H',I'.unhnd ok,q⟩
 | ret v=>obtain ⟨x,σ',H',I',r,q⟩:=h;exact ⟨x,σ',H',I'.unhnd ok,r,q⟩
theorem UpToSlots.isCell{h h':Heap}{c:Addr}{v:Option Value}(sm:h.UpToSlots h')(x:h.IsCell c v):h'.IsCell c v:=by
 obtain ⟨o,e,d⟩:=x
 obtain ⟨sl,e2⟩:=sm c o e λvs q=>by rw [d] at q;cases q
 exact ⟨_,e2,d⟩
theorem Inv.moved{B h2:Heap}(I1:Inv X pins σ H1 s1)(I:Inv X pins σ H s)(hst:X.stack=X.env::X.outer)(fr:X.env.frame=some X.env.locals)(hex:X.ex=[])(c:Cov X.stack s1.heap H B s.heap)(st:B.StaysIn h2)(sm:s.heap.UpToSlots h2)
  (ff:s.heap.FunFrames B X.stack):Inv X pins σ H {s with heap:=h2}:=by
 have fc:=om hst fr
 have b0:Un X.fs [] X.H₀ H X.s₀.heap s.heap:=by have:=I.base;rw [hex] at this;exact this
 have sub:∀b o,X.s₀.heap.get? b=some o->∃o',s1.heap.get? b=some o':=λb o e=>I1.base.there b o e (by rw [hex];simp)
 have nL:∀b o,X.s₀.heap.get? b=some o->b≠X.env.locals:=λb o e z=>absurd (Heap.lt_size e) (by rw [z];exact Nat.not_lt.mpr I.ok.above)
 refine ⟨I.ok,I.os,I.bare,?_,?_,λx cc e=>?_,I.free,I.freeC,λp hp=>?_,I.hok.moved c st I.stkFree,I.len⟩
 ·rw [hex]
  refine b0.moved c st sm ff sub (λb hb=>by rw [fc];exact List.mem_cons_of_mem _ hb) λb o e hb=>?_
  rw [fc] at hb
  rcases List.mem_cons.mp hb with z | z
  ·exact absurd z (nL b o e)
  ·exact z
 ·obtain ⟨m,hn,hl⟩:=I.loc
  refine ⟨m,sm.ns hn,λi x v a b cc=>?_⟩
  obtain ⟨u,r,lk⟩:=hl i x v a b cc
  refine ⟨u,r,?_⟩
  rcases lk with z | ⟨z,cl,e,ic⟩
  ·exact .inl z
  ·exact .inr ⟨z,cl,e,UpToSlots.isCell sm ic⟩
 ·obtain ⟨v,q⟩:=I.cell x cc e
  exact ⟨v,UpToSlots.isCell sm q⟩
 ·obtain ⟨e,f,nl,nf,d⟩:=I.pin p hp
  refine ⟨c.stay st p.1 p.2 e (λz=>?_) (.inr ⟨_,(I1.pin p hp).1⟩),f,nl,nf,d⟩
  rw [fc] at z
  rcases List.mem_cons.mp z with z | z
  ·exact nl z
  ·exact nf z
theorem Inv.exc{ea C:Addr}{oe:Obj}(I:Inv X pins σ H s)(hx:H ea=none)(ho:s.heap.get? ea=some oe)(hc:oe.cls=.ref C)(h0:X.s₀.heap.get? ea=none)(hL:ea≠X.env.locals)(hcl:∀y c,X.env.cells.lookup y=some c->c≠ea)
  (hp:∀p∈X.pn++pins,p.1≠ea):Inv X pins σ (upd H ea (xw ea C)) s:=by
 refine ⟨I.ok,I.os,I.bare,⟨I.base.keep,I.base.slot,λb o e z nx=>?_,I.base.there,λb xs e=>?_,λb o u e=>?_,λb ps e=>?_⟩,I.loc,I.cell,?_,λy c e=>?_,λp hp'=>?_,λb u e=>?_,I.len⟩
 ·rw [aq (λz2=>by rw [z2,h0] at e;cases e)];exact I.base.free b o e z nx
 ·have q:=I.base.tups b xs e
  rw [aq (ap q hx)];exact q
 ·have q:=I.base.frzs b o u e
  rw [aq (ap q hx)];exact q
 ·obtain ⟨more,q⟩:=I.base.tbls b ps e
  exact ⟨more,by rw [aq (ap q hx)];exact q⟩
 ·rw [aq hL.symm];exact I.free
 ·rw [aq (hcl y c e)];exact I.freeC y c e
 ·obtain ⟨e,f,r⟩:=I.pin p hp'
  exact ⟨e,by rw [aq (hp p hp')];exact f,r⟩
 ·by_cases hb:b=ea
  ·subst hb
   rw [ac] at e
   cases e
   exact ⟨⟨oe,ho,hc⟩,⟨oe,ho⟩,λh1 h2 ⟨o,e,c⟩ k=>⟨o,k o e,c⟩⟩
  ·rw [aq hb] at e
   exact (I.hok b u e).stay (λc v _ q=>q) (λc q=>by rw [aq (ap q hx)];exact q) λc xs q=>by rw [aq (ap q hx)];exact q
def uv(X:Cx)(C CB:Addr):Prop:=∀(A:Around) (s:Shared) (ea:Addr) (ob:Obj) (Q:Bool->Shared->Prop) (E:Value->Shared->Prop),X.K.In s.heap->s.heap.get? ea=some ob->ob.cls=.ref C->Q true s->wpAny (model X.prog X.w) A (excMatches (.ref ea) (.ref CB)) Q E s
theorem oA{x:Str}{C:Addr}{bm:List Value}{new:String}(hm:X.mg x=some (.ref C))(qx:PySem.W.excIn X.K C bm new=true)(hb:bm.contains (.type "BaseException")=true):uv X C C:=by
 intro A s ea ob Q E k ho hc q
 obtain ⟨tl,N,nm,q',bs,hdct,sn,sub,ab,col,dd,k0,k1,k2,k3,k5,mN,hC,hN,hni,T⟩:=(wM k hm qx).obj
 obtain ⟨h,g,d,t,os⟩:=s
 exact wpAny_excMatches_sub_self hC ho hc (T.hasType hb) q
theorem yn{ea C CB:Addr}{cx:Str}{np hpos:Pos}{b₀:Stmt}{suite:List Stmt}{rest:List ExceptHandler}{D:Ends}{th:TS}{E:Value->Shared->Prop}(I1:Inv X pins σ H1 s1)(I:Inv X pins σ H s)(hst:X.stack=X.env::X.outer)(fr:X.env.frame=some X.env.locals)(hex:X.ex=[])
  (fly:Fly X.stack s1.heap H ea C s.heap)(hg:Gl X cx)(hm:X.mg cx=some (.ref CB))(tk:uv X C CB)(hs:∀ev,PSs (X.hnd ev) (b₀::suite) th)(q:H ea=none->th D σ (upd H ea (xw ea C)))(hd:(cx==("__debug__":Str))=false) :
  wpAny (model X.prog X.w) X.A (noteFrame (.ref ea) X.env) (λ_ s₂=>wpAny (model X.prog X.w) X.A (setFlight (.ref ea) none) (λ_ s₃ =>
   wpAny (model X.prog X.w) X.A (handleBy (.ref ea) X.env (.ExceptHandler (some (.Name cx np)) none (b₀::suite) hpos::rest)) (SP X pins D) E s₃) E s₂) E s:=by
 obtain ⟨B,a0,fl,c⟩:=fly
 have hfr:X.A.frames=some (X.env::X.outer):=by rw [I.ok.frames,hst]
 have ff:=fl.2.2.1
 have fl':Heap.FlyingW B (X.env::X.outer) ea (.ref C) a0 s.heap:=by rw [← hst];exact fl
 refine wpAny_looks_onW hfr fr fl' λh₄ held₄ sm₄=>?_
 refine wpAny_landsW held₄ λh₅ fl₅ sm₅=>?_
 have I5:=Inv.moved I1 I hst fr hex c fl₅.1 (sm₄.trans sm₅) ff
 obtain ⟨ob,hob,hobc⟩:=fl₅.there
 refine wpAny_handleBy_cons (codeAny_handlers_test (jw (X:=X.hnd (.ref ea)) (I5.hnd (.ref ea)) hg hm ?_ hd)) (by intro z;cases z)
 refine tk _ _ ea ob _ _ I5.kIn hob hobc (codeAny_handlers_suite ?_)
 refine lands_againW (s:={s with heap:=h₅}) fl₅ λh₆ fl₆ sm₆=>?_
 have I6:=Inv.moved I1 I hst fr hex c fl₆.1 ((sm₄.trans sm₅).trans sm₆) ff
 obtain ⟨oe,ws,hoe,hoec,hoed,hoe0⟩:=fl₆.first
 have nfr:ea∉frs X.stack:=λz=>by
  have ff6:=fl₆.2.2.1
  rw [← hst] at ff6
  obtain ⟨_,o',e',d'⟩:=ff6.mem (show ea∈X.stack.filterMap (·.frame) from z)
  rw [hoe] at e'
  cases e'
  exact d' ws hoed
 obtain ⟨o1,e1,_⟩:=fl.there
 have hB:=fl.2.1
 have hHe:H ea=none:=by
  cases z:H ea with
  | none=>rfl
  | some u =>
   have:=c ea o1 e1 nfr (.inl (by rw [z];intro y;cases y))
   rw [hB] at this;cases this
 have h1e:s1.heap.get? ea=none:=by
  cases z:s1.heap.get? ea with
  | none=>rfl
  | some u =>
   have:=c ea o1 e1 nfr (.inr ⟨u,z⟩)
   rw [hB] at this;cases this
 have h0e:X.s₀.heap.get? ea=none:=by
  cases z:X.s₀.heap.get? ea with
  | none=>rfl
  | some u =>
   obtain ⟨o',e'⟩:=I1.base.there ea u z (by rw [hex];simp)
   rw [h1e] at e';cases e'
 have I6x:=I6.exc hHe hoe hoec h0e (λz=>nfr (by rw [om hst fr,z];exact List.mem_cons_self)) (λy cc e z=>by
  obtain ⟨v,o,e',_⟩:=I1.cell y cc e
  rw [z,h1e] at e';cases e') λp hp z=>by
   have:=(I1.pin p hp).1
   rw [z,h1e] at this;cases this
 exact wpAny_mono (hs (.ref ea) pins _ σ _ D (I6x.hnd _) (q hHe)) (λf s7 h7=>SP.unhnd I.ok h7) λ_ _ z=>z.elim
abbrev TX:=St->Hp->VK->XK->Prop
def XP(X:Cx)(pins:List (Addr×Obj))(σ:St)(E:XK)(ev:Value)(s':Shared):Prop:=∃s1 H1 ea C H',Inv X pins σ H1 s1/\ev=.ref ea/\Inv X pins σ H' s'/\Fly X.stack s1.heap H' ea C s'.heap/\E ev (some C) H'
def PEX(X:Cx)(e:Expr)(t:TX):Prop :=
 ∀(pins:List (Addr×Obj)) (s:Shared) (σ:St) (H:Hp) (Q:VK) (E:XK),Inv X pins σ H s->t σ H Q E->wpAny (model X.prog X.w) X.A (eval e X.env) (EP X pins σ Q) (XP X pins σ E) s
end
section
variable {X:Cx}{e:Expr}{t:TX}{C CB:Addr}{cx y:Str}{np hpos pos py apos:Pos}{b₀:Stmt}{suite:List Stmt}{th:TS}{j:Nat}
def uE(j:Nat)(C:Addr)(t:TX)(th:TS):TS:=λD σ H=>t σ H (λv H1=>D.nx (σ.set j (some v)) H1) λev c H1=>∃ea,ev=.ref ea/\c=some C/\(H1 ea=none->th D σ (upd H1 ea (xw ea C)))
theorem qK(hst:X.stack=X.env::X.outer)(fr:X.env.frame=some X.env.locals)(hex:X.ex=[])(hN:X.N.Nodup)(hj:X.N[j]?=some y)(hy:Loc X.env.scope y)(he:PEX X e t)(hg:Gl X cx)(hm:X.mg cx=some (.ref CB))(tk:uv X C CB)
  (hs:∀ev,PSs (X.hnd ev) (b₀::suite) th)(hd:(cx==("__debug__":Str))=false:=by decide)(hsw:swapsWith e (some (.Name y py)) apos.line X.env=pure false:=by rfl)
  (hf:X.fn y=true\/X.env.scope.names.lookup y=some .local:=by first | exact .inl rfl | exact .inr rfl | assumption) :
  PS X (.Try [.Assign [.Name y py] e apos] [.ExceptHandler (some (.Name cx np)) none (b₀::suite) hpos] [] [] pos) (uE j C t th):=by
 intro pins s σ H D I h
 refine wpAny_Try_except (wpAny_execs_cons (wpAny_mono (wpAny_Assign_Name (Q:=λf s1=>f=.next/\SP X pins D .next s1) (wpAny_mono (he pins s σ H _ _ I h) (λv s1 ⟨y1,H1,I1,r1,q1⟩=>?_) λev s1 hx=>?_) hsw) (λf s1 hq=>?_) λ_ _ z=>z))
 ·exact jB I1 hN hj hy r1 (λs2 I2=>⟨rfl,_,H1,I2,q1⟩) hf
 ·obtain ⟨s0,H0,ea,C',H',I0,rfl,I',fl,ea2,e2,rfl',q⟩:=hx
  cases e2
  obtain rfl:C'=C:=Option.some.inj rfl'
  exact yn I0 I' hst fr hex fl hg hm tk hs q hd
 ·obtain ⟨rfl,hq⟩:=hq
  exact wpAny_execs_nil (wpAny_execs_nil hq)
end
end L2
namespace L2
open PySem PySem.Spec PyProof.Rows PySem.Builtin PySem.Builtin.ObjectAttr PySem.Builtin.Getset_descriptor
end L2
namespace L2
open PySem PySem.Spec PyProof.Rows
end L2
namespace L2
open PySem PySem.Spec PyProof.Rows
section
variable {P:Program}{w:World}{K:PySem.W.Frag}{H:Hp}{h:Heap}{a b:Addr}{xs ys:List V}
theorem pO(hok:HOk P w H h)(kin:K.In h)(q:SqT K H a xs):∃its:List Value,Vals xs its/\IsTup h a its.toArray/\xs.length<=sizeLine:=by
 rcases q with q | ⟨o,its,n,hk,hc,hs,hz,r⟩
 ·obtain ⟨z,its,r,p⟩:=q.ok hok
  exact ⟨its,r,p,z⟩
 ·refine ⟨its.toList,r,⟨o,kin a o hk,hc,n,by simpa using hs⟩,?_⟩
  have e:=r.length
  simp only [Array.length_toList] at e
  omega
def bf(H H':Hp):Prop:=∀b xs,H b=some (.tup xs)->H' b=some (.tup xs)
theorem Same.ts{H H':Hp}(e:Same H H'):bf H H':=λb xs h=>e b _ h
end
def EqIs(K:PySem.W.Frag)(n:Nat)(H:Hp)(x y:V)(b:Bool):Prop :=
 ∀(P:Program) (w:World) (A:Around) (s:Shared) (u v:Value),A.units+n<cLine->HOk P w H s.heap->K.In s.heap->RelV x u->RelV y v->SeqAt.EqAt A s u v b
def mU(K:PySem.W.Frag)(n:Nat)(H:Hp)(x y:V)(b:Bool):Prop :=
 ∀(P:Program) (w:World) (A:Around) (s:Shared) (u v:Value),A.units+n<cLine->HOk P w H s.heap->K.In s.heap->RelV x u->RelV y v->SeqAt.RcAt A s u v b
def yF(K:PySem.W.Frag)(n:Nat)(H:Hp)(x y:V)(b:Bool):Prop :=
 ∀(P:Program) (w:World) (A:Around) (s:Shared) (u v:Value),A.units+n<cLine->HOk P w H s.heap->K.In s.heap->RelV x u->RelV y v->SeqAt.RcNeAt A s u v (!b)
section
variable {K:PySem.W.Frag}{H:Hp}{a b:Addr}{n m:Nat}{x y:V}{r:Bool}
theorem EqIs.mono(h:EqIs K n H x y r)(le:n<=m):EqIs K m H x y r:=λP w A s u v hA=>h P w A s u v (by omega)
theorem xy{us vs:List V}{e:Nat->Bool}(ha:SqT K H a us)(hb:SqT K H b vs)(hl:us.length=vs.length)(he:∀(j:Nat) x y,us[j]?=some x->vs[j]?=some y->EqIs K n H x y (e j)) :
  mU K (n+1) H (.ref a) (.ref b) ((List.range us.length).all e)/\yF K (n+1) H (.ref a) (.ref b) ((List.range us.length).all e):=by
 have main:∀(P:Program) (w:World) (A:Around) (s:Shared) (u v:Value),A.units+(n+1)<cLine->HOk P w H s.heap->K.In s.heap->RelV (.ref a) u->RelV (.ref b) v ->
   SeqAt.RcAt A s u v ((List.range us.length).all e)/\SeqAt.RcNeAt A s u v (!(List.range us.length).all e):=by
  intro P w A s u v hA hok kin r1 r2
  cases r1
  cases r2
  obtain ⟨i1,v1,p1,_⟩:=pO hok kin ha
  obtain ⟨i2,v2,p2,_⟩:=pO hok kin hb
  have l1:=v1.length
  have l2:=v2.length
  have items:∀j (h1:j<i1.toArray.size) (h2:j<i2.toArray.size),SeqAt.EqAt A.in1 s i1.toArray[j] i2.toArray[j] (e j):=λj h1 h2=>by
   have h1':j<i1.length:=by simpa using h1
   have h2':j<i2.length:=by simpa using h2
   have e1:us[j]?=some us[j]:=List.getElem?_eq_getElem (by omega)
   have e2:vs[j]?=some vs[j]:=List.getElem?_eq_getElem (by omega)
   obtain ⟨u,eu,ru⟩:=v1.get e1
   obtain ⟨v,ev,rv⟩:=v2.get e2
   have q:=he j _ _ e1 e2 P w A.in1 s u v (by show A.units+1+n<cLine;omega) hok kin ru rv
   have z1:i1.toArray[j]=u:=by
    rw [List.getElem?_eq_getElem h1'] at eu
    simpa using Option.some.inj eu
   have z2:i2.toArray[j]=v:=by
    rw [List.getElem?_eq_getElem h2'] at ev
    simpa using Option.some.inj ev
   rw [z1,z2]
   exact q
  have ez:((List.range (min i1.toArray.size i2.toArray.size)).all e&&i1.toArray.size==i2.toArray.size)=(List.range us.length).all e:=by
   have s1:i1.toArray.size=us.length:=by simp [l1]
   have s2:i2.toArray.size=us.length:=by simp [← l2,hl]
   rw [s1,s2,Nat.min_self]
   simp
  constructor
  ·have q:=SeqAt.RcAt.tuples (A:=A) (s:=s) (e:=e) p1 p2 (by omega) items
   rw [ez] at q
   exact q
  ·have q:=SeqAt.RcNeAt.tuples (A:=A) (s:=s) (e:=e) p1 p2 (by omega) items
   rw [ez] at q
   exact q
 exact ⟨λP w A s u v h1 h2 h3 h4 h5=>(main P w A s u v h1 h2 h3 h4 h5).1,λP w A s u v h1 h2 h3 h4 h5=>(main P w A s u v h1 h2 h3 h4 h5).2⟩
theorem oo(h:mU K n H (.ref a) (.ref b) r)(hs:∀(P:Program) (w:World) (h:Heap),HOk P w H h->K.In h->a=b->r=true):EqIs K n H (.ref a) (.ref b) r:=by
 intro P w A s u v hA hok kin r1 r2
 have q:=h P w A s u v hA hok kin r1 r2
 cases r1
 cases r2
 by_cases e:a=b
 ·rw [hs P w s.heap hok kin e,e]
  exact SeqAt.EqAt.same _
 ·exact SeqAt.EqAt.of_refs e q
end
structure Cod(α:Type) [DecidableEq α] where
 n:Nat
 rp:PySem.W.Frag->Hp->α->V->Prop
 inj:∀{P:Program} {w:World} {K:PySem.W.Frag} {H:Hp} {h:Heap} {x y:α} {v:V},HOk P w H h->K.In h->rp K H x v->rp K H y v->x=y
 eq:∀{K:PySem.W.Frag} {H:Hp} {x y:α} {u v:V},rp K H x u->rp K H y v->EqIs K n H u v (decide (x=y))
 rc:∀{K:PySem.W.Frag} {H:Hp} {x y:α} {u v:V},rp K H x u->rp K H y v->mU K n H u v (decide (x=y))
 ne:∀{K:PySem.W.Frag} {H:Hp} {x y:α} {u v:V},rp K H x u->rp K H y v->yF K n H u v (decide (x=y))
 keep:∀{K:PySem.W.Frag} {H H':Hp} {x:α} {v:V},bf H H'->rp K H x v->rp K H' x v
def cInt:Cod Int where
 n:=0
 rp _ _ i v:=v=.int i
 inj _ _ h1 h2:=by
  rw [h1] at h2
  exact V.int.inj h2
 eq h1 h2:=by
  intro P w A s u v _ _ _ r1 r2
  subst h1 h2
  obtain ⟨t,rfl⟩:=r1
  obtain ⟨t',rfl⟩:=r2
  rw [← Bool.beq_eq_decide_eq]
  exact SeqAt.EqAt.int_int _ t _ t'
 rc h1 h2:=by
  intro P w A s u v _ _ _ r1 r2
  subst h1 h2
  obtain ⟨t,rfl⟩:=r1
  obtain ⟨t',rfl⟩:=r2
  rw [← Bool.beq_eq_decide_eq]
  exact SeqAt.RcAt.int_int _ t _ t'
 ne h1 h2:=by
  intro P w A s u v _ _ _ r1 r2
  subst h1 h2
  obtain ⟨t,rfl⟩:=r1
  obtain ⟨t',rfl⟩:=r2
  rw [← Bool.beq_eq_decide_eq]
  exact SeqAt.RcNeAt.int_int _ t _ t'
 keep _ h:=h
theorem fF(x y:Str):decide (x=y)=(x==y):=by
 rw [Bool.eq_iff_iff]
 simp
def zd:Cod Str where
 n:=0
 rp _ _ i v:=v=.str i
 inj _ _ h1 h2:=by
  rw [h1] at h2
  exact V.str.inj h2
 eq h1 h2:=by
  intro P w A s u v _ _ _ r1 r2
  subst h1 h2
  obtain ⟨t,rfl⟩:=r1
  obtain ⟨t',rfl⟩:=r2
  rw [fF]
  exact SeqAt.EqAt.str_str _ t _ t'
 rc h1 h2:=by
  intro P w A s u v _ _ _ r1 r2
  subst h1 h2
  obtain ⟨t,rfl⟩:=r1
  obtain ⟨t',rfl⟩:=r2
  rw [fF]
  exact SeqAt.RcAt.str_str _ t _ t'
 ne h1 h2:=by
  intro P w A s u v _ _ _ r1 r2
  subst h1 h2
  obtain ⟨t,rfl⟩:=r1
  obtain ⟨t',rfl⟩:=r2
  rw [fF]
  exact SeqAt.RcNeAt.str_str _ t _ t'
 keep _ h:=h
section
variable {α:Type} [DecidableEq α] {K:PySem.W.Frag}{H:Hp}
theorem _root_.PySem.Paired.get{β γ:Type}{R:β->γ->Prop}:∀{xs:List β} {us:List γ},Paired R xs us->∀{j:Nat} {u:γ},us[j]?=some u->∃x,xs[j]?=some x/\R x u
 | _,_,.nil,j,u,e=>by simp at e
 | _,_,.cons r t,0,u,e=>by simp at e;subst e;exact ⟨_,rfl,r⟩
 | _,_,.cons r t,j+1,u,e=>PySem.Paired.get t (j:=j) (by simpa using e)
theorem _root_.PySem.Paired.get1{β γ:Type}{R:β->γ->Prop}:∀{xs:List β} {us:List γ},Paired R xs us->∀{j:Nat} {x:β},xs[j]?=some x->∃u,us[j]?=some u/\R x u
 | _,_,.nil,j,u,e=>by simp at e
 | _,_,.cons r t,0,u,e=>by simp at e;subst e;exact ⟨_,rfl,r⟩
 | _,_,.cons r t,j+1,u,e=>PySem.Paired.get1 t (j:=j) (by simpa using e)
theorem _root_.PySem.Paired.len{β γ:Type}{R:β->γ->Prop}:∀{xs:List β} {us:List γ},Paired R xs us->xs.length=us.length
 | _,_,.nil=>rfl
 | _,_,.cons r t=>by simp [PySem.Paired.len t]
theorem _root_.PySem.Paired.app{β γ:Type}{R:β->γ->Prop}:∀{xs ys:List β} {us vs:List γ},Paired R xs us->Paired R ys vs->Paired R (xs++ys) (us++vs)
 | _,_,_,_,.nil,s=>s
 | _,_,_,_,.cons r t,s=>.cons r (PySem.Paired.app t s)
end
section
variable {X:Cx}{α:Type} [DecidableEq α]
theorem hun{c:Nat}{k:Nat}{A:Around}(hr:Room k A)(h:c<=60:=by decide):A.units+c+1<cLine:=by
 have:=hr.units
 omega
noncomputable def eqR(c:Cod α)(K:PySem.W.Frag)(H:Hp)(a:α)(u:Value):Bool:=@decide (∃v,RelV v u/\c.rp K H a v) (Classical.propDecidable _)
theorem uh{c:Cod α}{P:Program}{w:World}{K:PySem.W.Frag}{H:Hp}{h:Heap}{a z:α}{v:V}{u:Value}(hok:HOk P w H h)(kin:K.In h)(r:RelV v u)(q:c.rp K H z v):eqR c K H a u=decide (z=a):=by
 unfold eqR
 by_cases e:z=a
 ·subst e
  rw [decide_eq_true (show z=z from rfl)]
  exact @decide_eq_true _ (Classical.propDecidable _) ⟨v,r,q⟩
 ·rw [decide_eq_false e]
  refine @decide_eq_false _ (Classical.propDecidable _) λ⟨v',r',q'⟩=>e ?_
  have:=r.inj r'
  subst this
  exact c.inj hok kin q q'
theorem mT{c:Cod α}{P:Program}{w:World}{K:PySem.W.Frag}{H:Hp}{h:Heap}{a:α}(hok:HOk P w H h)(kin:K.In h):∀{xs:List α} {us:List V} {its:List Value},Paired (c.rp K H) xs us->Vals us its->its.any (eqR c K H a)=decide (a∈xs)
 | _,_,_,.nil,.nil=>by simp
 | x::xs,_,_,.cons p t,.cons r s=>by
  rw [List.any_cons,uh hok kin r p,mT hok kin t s,Bool.eq_iff_iff]
  simp only [Bool.or_eq_true,decide_eq_true_eq,List.mem_cons]
  exact ⟨λz=>z.elim (λe=>.inl e.symm) .inr,λz=>z.elim (λe=>.inl e.symm) .inr⟩
theorem mv{c:Cod α}{P:Program}{w:World}{A:Around}{s:Shared}{K:PySem.W.Frag}{H:Hp}{a:α}{x:V}{v:Value}(hok:HOk P w H s.heap)(kin:K.In s.heap)(hA:A.units+c.n<cLine)(rx:RelV x v)(qx:c.rp K H a x) :
  ∀{xs:List α} {us:List V} {its:List Value},Paired (c.rp K H) xs us->Vals us its->∀u∈its,SeqAt.EqAt A s u v (eqR c K H a u)
 | _,_,_,.nil,.nil=>λu hu=>by cases hu
 | _,_,_,.cons p t,.cons r q=>λu' hu=>by
  rcases List.mem_cons.mp hu with rfl | hu
  ·rw [uh hok kin r p]
   exact c.eq p qx P w A s _ v hA hok kin r rx
  ·exact mv hok kin hA rx qx t q u' hu
def xT(c:Cod α)(K:PySem.W.Frag):R2:=λx y H Q=>∃a p us xs,c.rp K H a x/\y=.ref p/\(SqL K H p us\/SqT K H p us)/\Paired (c.rp K H) xs us/\Q (.bl (!decide (a∈xs))) H
theorem qN(c:Cod α)(hu:X.A.units+c.n+1<cLine):OpR X (compareOp .NotIn) (xT c X.K):=by
 intro pins s σ H x y v u Q I rx ry h
 obtain ⟨a,p,us,xs,ha,rfl,hq,px,q⟩:=h
 cases ry
 rcases hq with hq | hq
 ·obtain ⟨its,r,pl,hz⟩:=I.list hq
  refine SeqAt.notIn_listAt (eqR c X.K H a) pl.isList (λw hw=>mv I.hok I.kIn (by show X.A.units+1+c.n<cLine;omega) rx ha px r w (by simpa using hw)) ⟨.bl _,H,I,rfl,?_⟩
  rw [show its.toArray.any (eqR c X.K H a)=its.any (eqR c X.K H a) by simp,mT I.hok I.kIn px r]
  exact q
 ·obtain ⟨its,r,pl,hz⟩:=I.tuple hq
  refine SeqAt.notIn_tupleAt (eqR c X.K H a) pl (λw hw=>mv I.hok I.kIn (by show X.A.units+1+c.n<cLine;omega) rx ha px r w (by simpa using hw)) ⟨.bl _,H,I,rfl,?_⟩
  rw [show its.toArray.any (eqR c X.K H a)=its.any (eqR c X.K H a) by simp,mT I.hok I.kIn px r]
  exact q
end
end L2
namespace L2
open PySem PySem.Spec PyProof.Rows
end L2
namespace L2
open PySem PySem.Spec PyProof.Rows
section
variable {X:Cx}
theorem jg(hc:X.calm=true):dm X (.builtin "any") (λxs H Q=>∃(p:Addr) (bs:List Bool),xs=[.ref p]/\SqL X.K H p (bs.map V.bl)/\Q (.bl (bs.any id)) H):=by
 intro pins s σ H xs us Q I r h
 obtain ⟨p,bs,rfl,hq,q⟩:=h
 obtain ⟨u,rfl,rx⟩:=dg r
 cases (show u=Value.ref p from rx)
 obtain ⟨its,rv,pl,hz⟩:=I.list hq
 have hl:=pl.isList
 have hlt:p<s.heap.objs.size:=by obtain ⟨_,e,_⟩:=hl;exact Heap.lt_size e
 have hh:X.A.handled=none:=I.ok.hd hc
 have hlen:bs.length=its.length:=by have:=rv.length;rw [List.length_map] at this;exact this
 refine call_any_walk (wpAny_pyIter_list hl ?_)
 refine ⟨s.heap.objs.size,[s.heap.objs.size,p],[s.heap.objs.size],its.toArray.size,_,_,λi=>(bs[i]?).getD false,rfl,Walks.list (A:=X.A.in1) hh _ p (Nat.ne_of_lt hlt) its.toArray,
  ⟨⟨_,Heap.get?_push_size _ rfl,rfl,rfl⟩,hl.push _⟩,λi v s' Q' E' hP hQ=>?_,λh' tk hk=>?_⟩
 ·have hP':its[i]?=some v:=by simpa using hP
  have hi:i<its.length:=(List.getElem?_eq_some_iff.mp hP').1
  have hb:(bs.map V.bl)[i]?=some (V.bl (bs[i]'(by omega))):=by rw [List.getElem?_map,List.getElem?_eq_getElem (by omega)];rfl
  obtain ⟨u',e1,e2⟩:=rv.get hb
  rw [hP'] at e1
  cases e1
  cases (show v=Value.bool _ from e2)
  have hQ':Q' ((bs[i]?).getD false) s':=hQ
  rw [List.getElem?_eq_getElem (by omega)] at hQ'
  exact wpAny_truthy_bool hQ'
 ·have e:((List.range its.toArray.size).any λi=>(bs[i]?).getD false)=bs.any id:=by
   rw [List.size_toArray,← hlen,Bool.eq_iff_iff,List.any_eq_true,List.any_eq_true]
   constructor
   ·rintro ⟨i,hi,hb⟩
    have hi':=List.mem_range.mp hi
    rw [List.getElem?_eq_getElem hi'] at hb
    exact ⟨bs[i],List.getElem_mem hi',hb⟩
   ·rintro ⟨b,hb,hb'⟩
    obtain ⟨i,hi,e⟩:=List.getElem_of_mem hb
    refine ⟨i,List.mem_range.mpr hi,?_⟩
    rw [List.getElem?_eq_getElem hi,e]
    exact hb'
  rw [e]
  exact ⟨.bl _,H,I.kept (LSm.kept_iter hk),rfl,q⟩
def vD:KTD.Dat->Value->Bool
 | .flat d,v=>KTD.flatLooks d v
 | _,_=>false
theorem vC{h:Heap}:∀(d:KTD.Dat) (v:Value),vD d v=true->d.At h v
 | .flat d,v,e=>KTD.flat_of_looks (d:=d) e
 | .float _,_,e=>by cases e
 | .nums _,_,e=>by cases e
 | .words _,_,e=>by cases e
 | .tup _,_,e=>by cases e
 | .tab _,_,e=>by cases e
def TabK(K:PySem.W.Frag)(a:Addr)(D:List (Str×KTD.Dat)):Prop:=KTD.tabLook vD (λb=>K.lookup b) a D=true
theorem TabK.at{K:PySem.W.Frag}{a:Addr}{D:List (Str×KTD.Dat)}{h:Heap}(t:TabK K a D)(kin:K.In h):KTD.TextTab h a D:=KTD.tab_of_look vC (λa o e=>kin a o e) t
theorem qi{h₀:Heap}{k:Str}{Pr:Value->Prop}:∀{D:List (Str×KTD.Dat)} {d:KTD.Dat},KTD.datumAt k D=some d->KTD.Opened h₀ Pr d->KTD.EachL h₀ k Pr D
 | [],_,e,_=>by cases e
 | (x,d')::D,d,e,o=>by
  have e':(if decide (k=x)=true then some d' else KTD.datumAt k D)=some d:=e
  by_cases hx:k=x
  ·rw [if_pos (decide_eq_true hx)] at e'
   cases e'
   exact KTD.eachL_hit hx o
  ·rw [if_neg (by simp [hx])] at e'
   exact KTD.eachL_miss hx (qi e' o)
end
structure GF(P:Program)(w:World)(K:PySem.W.Frag)(mg:Str->Option Value)(base:Heap)(CX:CXT)(k:Nat)(x:Str)(ps:List Str)(sp:Sp) where
 f:Addr
 fd:FuncData
 ok:FnOk P w K mg base CX k f fd ps sp
 bd:Binds K fd ps []
 kp:PySem.W.keepIn K (.ref f)=true
 mgx:mg x=some (.ref f)
structure GM(P:Program)(w:World)(K:PySem.W.Frag)(mg:Str->Option Value)(base:Heap)(CX:CXT)(k:Nat)(C:Addr)(m:Str)(ps:List Str)(sp:Sp) where
 f:Addr
 fd:FuncData
 ok:FnOk P w K mg base CX k f fd ps sp
 bd:Binds K fd ps []
 me:eL K C m f
section
variable {X:Cx}{CX:CXT}{j k:Nat}{x m:Str}{ps:List Str}{sp:Sp}{E:XK}{p pos apos:Pos}{e o:Expr}{es:List Expr}{t:TA}{ta:TE}{C:Addr}
theorem pc(G:GF X.prog X.w X.K X.mg X.base CX j x ps sp)(hr:Room k X.A)(ha:PA X (e::es) t)(hx:dL CX X E:=by exact bE)(hk:j<=k:=by decide)(hg:Gl X x:=by rfl)
  (hdb:(x==("__debug__":Str))=false:=by decide)(he:starEach (e::es) X.env=(false,eval e X.env)::starEach es X.env:=by rfl)(hpl:(backTo pos (starEach es X.env)).any (·.1)=false:=by rfl) :
  PE X (.Call (.Name x p) (e::es) [] pos) (rP sp [] E t):=p9 G.ok (hr.mono hk) hg G.mgx G.kp G.bd .nil hx ha hdb he hpl
theorem pm0{pl:Sem Bool}(G:GM X.prog X.w X.K X.mg X.base CX j C m ps sp)(ho:PE X o ta)(cl:Cls X.K C)(hr:Room k X.A)(hx:dL CX X E:=by exact bE)(hk:j<=k:=by decide)
  (ht:eval (.Call (.Attribute o m apos) [] [] pos) X.env=(do
   let ov ← eval o X.env
   standAt apos.atName
   let (f,first) ← holding [ov] (getMethod ov m pl)
   callWith pos f first (backTo pos (starEach [] X.env)) (backToKw pos (keywordEach [] X.env))):=by rfl) :
  PE X (.Call (.Attribute o m apos) [] [] pos) (rO C m sp [] E ta ng):=gY ho cl G.me G.ok (hr.mono hk) G.bd .nil hx ht
end
end L2
namespace L2
open PySem PySem.Spec PyProof.Rows
section
variable {K:PySem.W.Frag}{a:Addr}{xs:List V}{tt:TT}{te:TE}{bl:St}{Fin:List V->Hp->Prop}{H:Hp}
theorem dq(Pv:Nat->List V->Hp->Prop)(h0:Pv 0 [] H)(hn:xs.length<=sizeLine)(hl:∀i ys H,i<=xs.length->Pv i ys H->SqL K H a xs)
  (hs:∀i x ys H,xs[i]?=some x->Pv i ys H->tt (some x::bl) H λc H2=>if c=true then te (some x::bl) H2 λy H3=>Pv (i+1) (ys++[y]) H3 else Pv (i+1) ys H2)
  (hd:∀ys H,Pv xs.length ys H->Fin ys H) :
  ∃(W:Nat->List V->Hp->Prop) (n:Nat),W 0 [] H/\n<=sizeLine/\∀i ys H,W i ys H->((Itl K a).stop i H/\Fin ys H) \/
   ((Itl K a).go i H/\i<n/\∀x H',(Itl K a).yld i H x H'->tt (some x::bl) H' λc H2=>if c=true then te (some x::bl) H2 λy H3=>W (i+1) (ys++[y]) H3 else W (i+1) ys H2):=by
 refine ⟨λi ys H=>i<=xs.length/\Pv i ys H,xs.length,⟨Nat.zero_le _,h0⟩,hn,?_⟩
 rintro i ys H ⟨hi,p⟩
 have q:=hl i ys H hi p
 by_cases hlt:i<xs.length
 ·refine .inr ⟨⟨xs,xs[i],q,by simp [hlt]⟩,hlt,λx H' y=>?_⟩
  obtain ⟨e,y⟩:=y
  subst e
  have z:=hs i x ys _ (y xs q) p
  have e1:(λ(c:Bool) (H2:Hp)=>if c=true then te (some x::bl) H2 λy H3=>i+1<=xs.length/\Pv (i+1) (ys++[y]) H3 else i+1<=xs.length/\Pv (i+1) ys H2)=λc H2=>if c=true then te (some x::bl) H2 λy H3=>Pv (i+1) (ys++[y]) H3 else Pv (i+1) ys H2:=by
   have e2:(i+1<=xs.length)=True:=eq_true hlt
   funext c H2
   simp only [e2,true_and]
  show tt _ _ _
  rw [e1]
  exact z
 ·have e:i=xs.length:=by omega
  subst e
  exact .inl ⟨⟨xs,q,Nat.le_refl _⟩,hd ys H p⟩
theorem eE{σ:St}{A B:Hp->Prop}(h:A H):qD σ H (λc H2=>if c=true then A H2 else B H2):=by
 show if true=true then A H else B H
 exact @cO (A H) (B H) h
theorem w9(Pv:Nat->List V->Hp->Prop)(h0:Pv 0 [] H)(hn:xs.length<=sizeLine)(hl:∀i ys H,i<=xs.length->Pv i ys H->SqT K H a xs)
  (hs:∀i x ys H,xs[i]?=some x->Pv i ys H->tt (some x::bl) H λc H2=>if c=true then te (some x::bl) H2 λy H3=>Pv (i+1) (ys++[y]) H3 else Pv (i+1) ys H2)
  (hd:∀ys H,Pv xs.length ys H->Fin ys H) :
  ∃(W:Nat->List V->Hp->Prop) (n:Nat),W 0 [] H/\n<=sizeLine/\∀i ys H,W i ys H->((Itt K a).stop i H/\Fin ys H) \/
   ((Itt K a).go i H/\i<n/\∀x H',(Itt K a).yld i H x H'->tt (some x::bl) H' λc H2=>if c=true then te (some x::bl) H2 λy H3=>W (i+1) (ys++[y]) H3 else W (i+1) ys H2):=by
 refine ⟨λi ys H=>i<=xs.length/\Pv i ys H,xs.length,⟨Nat.zero_le _,h0⟩,hn,?_⟩
 rintro i ys H ⟨hi,p⟩
 have q:=hl i ys H hi p
 by_cases hlt:i<xs.length
 ·refine .inr ⟨⟨xs,xs[i],q,by simp [hlt]⟩,hlt,λx H' y=>?_⟩
  obtain ⟨e,y⟩:=y
  subst e
  have z:=hs i x ys _ (y xs q) p
  have e1:(λ(c:Bool) (H2:Hp)=>if c=true then te (some x::bl) H2 λy H3=>i+1<=xs.length/\Pv (i+1) (ys++[y]) H3 else i+1<=xs.length/\Pv (i+1) ys H2)=λc H2=>if c=true then te (some x::bl) H2 λy H3=>Pv (i+1) (ys++[y]) H3 else Pv (i+1) ys H2:=by
   have e2:(i+1<=xs.length)=True:=eq_true hlt
   funext c H2
   simp only [e2,true_and]
  show tt _ _ _
  rw [e1]
  exact z
 ·have e:i=xs.length:=by omega
  subst e
  exact .inl ⟨⟨xs,q,Nat.le_refl _⟩,hd ys H p⟩
theorem gi{n:Nat}(Pv:Nat->List V->Hp->Prop)(h0:Pv 0 [] H)(hn:n<=sizeLine)
  (hs:∀(i:Nat) ys H,i<n->Pv i ys H->tt (some (.int i)::bl) H λc H2=>if c=true then te (some (.int i)::bl) H2 λy H3=>Pv (i+1) (ys++[y]) H3 else Pv (i+1) ys H2)
  (hd:∀ys H,Pv n ys H->Fin ys H) :
  ∃(W:Nat->List V->Hp->Prop) (m:Nat),W 0 [] H/\m<=sizeLine/\∀i ys H,W i ys H->((Itr 0 n).stop i H/\Fin ys H) \/
   ((Itr 0 n).go i H/\i<m/\∀x H',(Itr 0 n).yld i H x H'->tt (some x::bl) H' λc H2=>if c=true then te (some x::bl) H2 λy H3=>W (i+1) (ys++[y]) H3 else W (i+1) ys H2):=by
 refine ⟨λi ys H=>i<=n/\Pv i ys H,n,⟨Nat.zero_le _,h0⟩,hn,?_⟩
 rintro i ys H ⟨hi,p⟩
 by_cases hlt:i<n
 ·refine .inr ⟨hlt,hlt,λx H' y=>?_⟩
  obtain ⟨e,y⟩:=y
  subst e
  rw [Int.zero_add] at y
  subst y
  have z:=hs i ys _ hlt p
  have e1:(λ(c:Bool) (H2:Hp)=>if c=true then te (some (.int i)::bl) H2 λy H3=>i+1<=n/\Pv (i+1) (ys++[y]) H3 else i+1<=n/\Pv (i+1) ys H2)=λc H2=>if c=true then te (some (.int i)::bl) H2 λy H3=>Pv (i+1) (ys++[y]) H3 else Pv (i+1) ys H2:=by
   have e2:(i+1<=n)=True:=eq_true hlt
   funext c H2
   simp only [e2,true_and]
  show tt _ _ _
  rw [e1]
  exact z
 ·have e:i=n:=by omega
  subst e
  exact .inl ⟨Nat.le_refl _,hd ys H p⟩
end
end L2
namespace Lo
open PySem L2
inductive Kd where
 | read | mean | change
 deriving DecidableEq
def kdS:Kd->Str
 | .read=>"read"
 | .mean=>"mean"
 | .change=>"change"
abbrev Lk:=Kd×Int×Int
abbrev Pa:=Int×Int
theorem ai{H:Hp}{p:Addr}{o:HO}(h:H p=none):Same H (upd H p o):=λb u e=>by
 rw [aq (ap e h)]
 exact e
def Kp(p:Addr)(H H':Hp):Prop:=∀b o,b≠p->H b=some o->H' b=some o
theorem Kp.of{p:Addr}{H H':Hp}(h:Same H H'):Kp p H H':=λb o _ e=>h b o e
theorem Kp.trans{p:Addr}{H H1 H2:Hp}(a:Kp p H H1)(b:Kp p H1 H2):Kp p H H2:=λc o n e=>b c o n (a c o n e)
theorem j4{p:Addr}{H:Hp}{o:HO}:Kp p H (upd H p o):=λb u n e=>by
 rw [aq n]
 exact e
theorem fl:¬(("first":Str)="last"):=by decide +kernel
def lf(f l:Int):List (Str×V):=aL "last" (.int l) (aL "first" (.int f) [])
theorem tW(f l:Int):(lf f l).lookup ("first":Str)=some (.int f):=by
 unfold lf
 rw [aV,if_neg fl,aV,if_pos rfl]
theorem vw(f l:Int):(lf f l).lookup ("last":Str)=some (.int l):=by
 unfold lf
 rw [aV,if_pos rfl]
theorem kM(f l:Int){m:Str}(h1:¬m="last")(h2:¬m="first"):(lf f l).lookup m=none:=by
 unfold lf
 rw [aV,if_neg h1,aV,if_neg h2]
 rfl
def LkO(C:Kd->Addr)(H:Hp)(k:Lk)(v:V):Prop:=∃a dx,v=.ref a/\H a=some (.ins (C k.1) dx (lf k.2.1 k.2.2))
end Lo
namespace Lo
open PySem L2
theorem mD{X:Cx}{x:Str}{i:Int}{pos:Pos}(hm:∃t,X.mg x=some (.int i t))(hg:Gl X x)(hd:(x==("__debug__":Str))=false:=by decide):PE X (.Name x pos) (tC (.int i)):=by
 obtain ⟨t,e⟩:=hm
 exact eV hg e ⟨t,rfl⟩ hd
structure TxB(mg:Str->Option Value):Prop where
 isi:mg "isinstance"=none
 int:mg "int"=none
 bool:mg "bool"=none
 str:mg "str"=none
 len:mg "len"=none
 range:mg "range"=none
 tuple:mg "tuple"=none
 list:mg "list"=none
 any:mg "any"=none
 all:mg "all"=none
 max:mg "max"=none
 sorted:mg "sorted"=none
structure TxK(K:PySem.W.Frag)(C:Kd->Addr):Prop where
 cl:∀k,Cls K (C k)
 nF:∀k,NoAttr K (C k) "first"
 nL:∀k,NoAttr K (C k) "last"
theorem wb{K:PySem.W.Frag}{a:Addr}{es:Array DictEntry}{n:Nat}{D:List (Str×PyProof.Rows.KTD.Dat)}(h:K.lookup a=some ⟨.type "dict",none,.dict es n,#[]⟩)(z:(a==sysModules)=false)(r:PyProof.Rows.KTD.rowsLook vD es.toList D=true):TabK K a D:=by
 unfold TabK PyProof.Rows.KTD.tabLook
 rw [z]
 show (true&&(match K.lookup a with | some o=>_ | none=>false))=true
 rw [h]
 simp [r]
def kdN:Kd->Str
 | .read=>"Read"
 | .mean=>"Mean"
 | .change=>"Change"
def jF(k:Kd):Sp:=λvs H Q _=>∃v,vs=[v]/\Q (.str (kdS k)) H
def gn(C:Kd->Addr):Sp:=λvs H Q _=>∃a dx k f l,vs=[.ref a,.int f,.int l]/\H a=some (.ins (C k) dx [])/\Q .non (upd (upd H a (.ins (C k) dx (aL "first" (.int f) []))) a (.ins (C k) dx (lf f l)))
def gG(C:Kd->Addr):Sp:=λvs H Q _=>∃v k,vs=[v]/\LkO C H k v/\∀a,H a=none->Q (.ref a) (upd H a (.tup [.str (kdS k.1),.int k.2.1,.int k.2.2]))
theorem g9{H:Hp}{x dx:Addr}{o1 o2 o3 o4:HO}(nx:H x=none)(nd:H dx=none):Same H (upd (upd (upd (upd H dx o1) x o2) x o3) x o4):=λb o e=>by
 have n1:b≠x:=ap e nx
 have n2:b≠dx:=ap e nd
 rw [aq n1,aq n1,aq n1,aq n2]
 exact e
def cG(ns:List Int)(k:Nat):Int:=(ns[k]?).getD 0
def lI(K:PySem.W.Frag):Sp:=λvs H Q _=>∃a ns k,vs=[.ref a,.int (k:Nat)]/\SqL K H a ((ns:List Int).map V.int)/\Q (.int (cG ns k)) H
end Lo
namespace Lo
open PySem L2
end Lo
namespace Lo
open PySem L2
section
variable {K:PySem.W.Frag}
theorem pd:PySem.W.kitOne K (.type "int") (.type "int")=some true:=rfl
theorem tZ:PySem.W.kitOne K (.type "list") (.type "list")=some true:=rfl
theorem ph:PySem.W.kitOne K (.type "int") (.type "bool")=some false:=by kernel_rfl
end
end Lo
namespace Lo
open PySem L2
theorem sF{X:Cx}{st:List Stmt}{t:TS}(u:TS)(h:PSs X st t)(hw:∀D σ H,u D σ H->t D σ H):PSs X st u:=λpins s σ H D I q=>h pins s σ H D I (hw D σ H q)
end Lo
namespace Lo
open PySem L2
end Lo
namespace Lo
open PySem L2
end Lo
namespace Lo
open PySem L2
end Lo
namespace Lo
open PySem L2
end Lo
namespace Lo
open PySem L2
end Lo
namespace Lo
open PySem L2
end Lo
namespace Lo
open PySem L2
theorem gw{n j:Nat}(h:j<n):ixN n (j:Int)=some j:=by
 unfold ixN
 rw [if_pos (by omega),if_pos (by omega),Int.toNat_natCast]
end Lo
namespace Lo
open PySem L2
end Lo
namespace L2
open PySem PySem.Spec PyProof.Rows
section
variable {κ:Type} [DecidableEq κ]
def gF(kvs:List (κ×V))(k:κ):Option V:=(kvs.find? λkv=>decide (kv.1=k)).map (·.2)
theorem rF{p:κ×V}{r:List (κ×V)}{k:κ}(e:p.1=k):gF (p::r) k=some p.2:=by simp [gF,List.find?_cons,e]
theorem rG{p:κ×V}{r:List (κ×V)}{k:κ}(e:¬p.1=k):gF (p::r) k=gF r k:=by simp [gF,List.find?_cons,e]
end
theorem yp{P:Program}{w:World}{k:Key}{u:Value}(r:RelV (kV k) u):(bY P w).is k u=true:=by
 cases k with
 | inl i=>obtain ⟨t,e⟩:=(show ∃t,u=Value.int i t from r);subst e;exact nU P w i t
 | inr x=>obtain ⟨t,e⟩:=(show ∃t,u=Value.str x t from r);subst e;exact nS P w x t
theorem kT{P:Program}{w:World}:∀{ks:List Key} {us:List Value},Vals (ks.map kV) us->ItemsAre (bY P w) ks us
 | [],_,r=>by rw [List.map_nil] at r;cases r;exact .nil
 | k::ks,_,r=>by
  rw [List.map_cons] at r
  cases r with
  | cons h t=>exact .cons (yp h) (kT t)
abbrev KT(H:Hp):List (List Key×V)->List (List Key×Addr×Value)->Prop:=Paired λp q=>p.1=q.1/\H q.2.1=some (.tup (p.1.map kV))/\RelV p.2 q.2.2
theorem KT.val{H:Hp}{kvs:List (List Key×V)}{xs:List (List Key×Addr×Value)}(r:KT H kvs xs)(k:List Key):RelO (gF kvs k) ((atKey xs k).map (·.2)):=by
 induction r with
 | nil=>exact True.intro
 | @cons p q ps qs h t ih =>
  obtain ⟨h1,_,h2⟩:=h
  by_cases e:p.1=k
  ·have e':q.1=k:=h1.symm.trans e
   have b:atKey (q::qs) k=some q.2:=by simp [atKey,List.find?_cons,e']
   rw [rF e,b];exact h2
  ·have e':¬q.1=k:=λz=>e (h1.trans z)
   have b:atKey (q::qs) k=atKey qs k:=by simp [atKey,List.find?_cons,e']
   rw [rG e,b];exact ih
theorem KT.keeps{H H':Hp}{kvs:List (List Key×V)}{xs:List (List Key×Addr×Value)}(r:KT H kvs xs)(ht:∀b ys,H b=some (.tup ys)->H' b=some (.tup ys)):KT H' kvs xs :=
 Paired.mapP r λ_ _ z=>⟨z.1,ht _ _ z.2.1,z.2.2⟩
section
variable {P:Program}{w:World}{H:Hp}{h:Heap}{a:Addr}
theorem vS{u:HO}(ok:HOk P w H h)(e:Rd H a u):ObjOk P w H h a u:=e.ok ok
theorem yB{kvs:List (Key×V)}(ok:HOk P w H h)(e:Rd H a (.dK kvs)):kvs.length<=sizeLine/\(a==sysModules)=false/\∃vs,KV kvs vs/\h.DictOf (bY P w) a vs :=
 show ObjOk P w H h a (.dK kvs) from vS ok e
theorem t4{ks:List Key}(ok:HOk P w H h)(e:H a=some (.tup (ks.map kV))):(tupleKind (bY P w)).is h ks a:=by
 obtain ⟨_,its,r,o,h1,h2,n,h3⟩:=(show ObjOk P w H h a (.tup (ks.map kV)) from ok a _ e)
 exact ⟨o,its.toArray,n,h1,h2,h3,by simpa using kT r⟩
theorem vY{kvs:List (List Key×V)}(ok:HOk P w H h)(e:Rd H a (.dT kvs)):kvs.length<=sizeLine/\(a==sysModules)=false /\
  ∃xs,KT H kvs xs/\h.DictOfH (tupleKind (bY P w)) a xs:=by
 obtain ⟨z,y,xs,r,o,es,ep,h1,h2,h3,h4,h5⟩:=(show ObjOk P w H h a (.dT kvs) from vS ok e)
 refine ⟨z,y,xs,r,o,es,ep,h1,h2,h3,h4,λx hx=>?_,h5⟩
 have all:∀{l:List (List Key×V)} {m:List (List Key×Addr×Value)},KT H l m->∀x∈m,(tupleKind (bY P w)).is h x.1 x.2.1:=by
  intro l m q
  induction q with
  | nil=>intro x hx;exact nomatch hx
  | @cons p q ps qs hq t ih =>
   intro x hx
   rcases List.mem_cons.mp hx with e | hx
   ·subst e
    exact t4 ok (by rw [← hq.1];exact hq.2.1)
   ·exact ih x hx
 exact all r x hx
theorem yz{kvs:List (List Key×V)}(ok:HOk P w H h)(e:H a=some (.dT kvs)):kvs.length<=sizeLine/\(a==sysModules)=false /\
  ∃xs,KT H kvs xs/\h.DictOfH (tupleKind (bY P w)) a xs:=vY ok (.inl e)
end
section
variable {X:Cx}{pins:List (Addr×Obj)}{σ:St}{H:Hp}{s:Shared}{a:Addr}{y v:V}{u r:Value}{o:Option V}{A:Around}{E:Value->Shared->Prop}
theorem Inv.big(I:Inv X pins σ H s):sysModules<s.heap.objs.size:=by
 have h:mainGlobals<s.heap.objs.size:=(I.mod.glob.keeps I.bk).lt
 exact Nat.lt_trans (by decide) h
theorem vE{h':Heap}{t':Nat}{ob:HO}(I:Inv X pins σ H s)(mu:Mut (H a))(hs:Heap.SameBut a s.heap h')(he:∃q,h'.get? a=some q)(new:ObjOk X.prog X.w (upd H a ob) h' a ob) :
  Inv X pins σ (upd H a ob) {s with heap:=h',toks:=t'} :=
 I.write (x:=a) (e:=a) mu (.inl rfl) (λb q hb z=>(hs.2 b hb).trans z) he new
end
theorem uj{P:Program}{w:World}{H:Hp}(h:Heap)(hb:sysModules<h.objs.size):ObjOk P w H (h.push {cls:=.type "dict",data:=.dict #[]}) h.objs.size (.dT []) :=
 ⟨Nat.zero_le _,beq_eq_false_iff_ne.mpr (Ne.symm (Nat.ne_of_lt hb)),[],.nil,_,#[],0,Heap.get?_push_size _ rfl,⟨rfl,rfl,rfl⟩,rfl,rfl,List.nodup_nil⟩
def wj:TE:=λ_ H Q=>∀p,H p=none->Q (.ref p) (upd H p (.dT []))
section
variable {X:Cx}{pos:Pos}
theorem sJ:PE X (.Dict [] [] pos) wj:=λpins s σ H Q I h =>
 wpAny_Dict_empty ⟨.ref s.heap.objs.size,_,I.laid (a:=s.heap.objs.size) (o:=.dT []) (t':=s.toks) (λ_ _ q=>Heap.get?_push_of_some _ q) (Nat.le_refl _) (uj s.heap I.big),rfl,h _ (I.hok.fresh (Nat.le_refl _))⟩
end
structure M1(X:Cx)(o:Expr)(m:Str)(apos:Pos)(e:Expr)(cpos:Pos):Prop where
 base:attributeBase o m X.env (eval o X.env)=eval o X.env
 few:((backTo cpos (starEach [e] X.env)).all (λx=>!x.1)&&(backToKw cpos (keywordEach [] X.env)).all (λx=>x.1.isSome)
  && decide (([e]:List Expr).length+([]:List Keyword).length+(if ([]:List Keyword).isEmpty then 0 else 1)<30))=true
 line:(apos.endLine==cpos.line)=true
 trees:backTo cpos (starEach [e] X.env)=[(false,eval e X.env)]
structure M2(X:Cx)(o:Expr)(m:Str)(apos:Pos)(e f:Expr)(cpos:Pos):Prop where
 base:attributeBase o m X.env (eval o X.env)=eval o X.env
 few:((backTo cpos (starEach [e,f] X.env)).all (λx=>!x.1)&&(backToKw cpos (keywordEach [] X.env)).all (λx=>x.1.isSome)
  && decide (([e,f]:List Expr).length+([]:List Keyword).length+(if ([]:List Keyword).isEmpty then 0 else 1)<30))=true
 line:(apos.endLine==cpos.line)=true
 trees:backTo cpos (starEach [e,f] X.env)=[(false,eval e X.env),(false,eval f X.env)]
def IsD(H:Hp)(a:Addr):Prop:=(∃kvs,Rd H a (.dK kvs))\/∃kvs,Rd H a (.dT kvs)
theorem xm{X:Cx}{pins:List (Addr×Obj)}{σ:St}{H:Hp}{s:Shared}{a:Addr}(I:Inv X pins σ H s)(d:IsD H a) :
  s.TypeIs (.ref a) "dict"/\(∀b,Value.ref a=.ref b->∃ob,s.heap.get? b=some ob/\ob.dict=none)/\(a==sysModules)=false:=by
 rcases d with ⟨kvs,e⟩ | ⟨kvs,e⟩
 ·obtain ⟨_,hd,vs,_,dd⟩:=yB I.hok e
  refine ⟨dd.typeIs,λb q=>?_,hd⟩
  cases q
  obtain ⟨ob,_,_,h1,h2,_⟩:=dd
  exact ⟨ob,h1,h2.2.1⟩
 ·obtain ⟨_,hd,xs,_,dd⟩:=vY I.hok e
  refine ⟨dd.typeIs,λb q=>?_,hd⟩
  cases q
  obtain ⟨ob,_,_,h1,h2,_⟩:=dd
  exact ⟨ob,h1,h2.2.1⟩
end L2
namespace Lo
open PySem L2
def pk(x:Pa):List Key:=[.inl x.1,.inl x.2]
end Lo
namespace L2
open PySem PySem.Spec PyProof.Rows
open Builtin Builtin.Str
theorem j6{y:Str}(hy:1<=y.length):∀ys:List Str,ys.length<=(Str.join y ys).length+1
 | []=>Nat.zero_le _
 | [_]=>by simp
 | a::u::ys=>by
  have ih:=j6 hy (u::ys)
  rw [join_cons_cons]
  have e:(a++y++Str.join y (u::ys)).length=a.length+y.length+(Str.join y (u::ys)).length:=by
   show ((a.cps++y.cps)++(Str.join y (u::ys)).cps).size=_
   rw [Array.size_append,Array.size_append]
   rfl
  rw [e,List.length_cons]
  omega
section
variable {X:Cx}
theorem qT:MtR X "str.split" (λx vs H Q=>∃(z y:Str),x=.str z/\vs=[.str y]/\1<=y.length/\z.length<=1000000/\∀p,H p=none->Q (.ref p) (upd H p (.lst ((Txt.split z y).map V.str)))):=by
 intro pins s σ H x xs v us Q I rx r h
 obtain ⟨z,y,rfl,rfl,h1y,hz,q⟩:=h
 obtain ⟨t,rfl⟩:=rx
 obtain ⟨u,rfl,⟨t1,rfl⟩⟩:=dg r
 have hs:(1000002:Nat)<=sizeLine:=by decide
 have many:(Txt.split z y).length<=sizeLine:=by
  have:=j6 h1y (Txt.split z y)
  rw [StrLaws.join_split] at this
  omega
 have fin:∀(l:List (Str×Tok)) (k:Nat),l.map (·.1)=Txt.split z y->EP X pins σ Q (.ref s.heap.objs.size) {s with toks:=k,heap:=s.heap.push {cls:=.type "list",data:=.seq (strValues l).toArray}}:=λl k el =>
  ⟨.ref s.heap.objs.size,_,I.laid (t':=k) (o:=.lst ((Txt.split z y).map V.str)) (λb o e=>Heap.get?_push_of_some _ e) (Nat.le_refl _)
   (show ObjOk X.prog X.w _ _ _ (.lst ((Txt.split z y).map V.str)) from ⟨by rw [List.length_map];exact many,strValues l,0,el▸il l,Heap.get?_push_size _ rfl⟩),rfl,q _ (I.hok.fresh (Nat.le_refl _))⟩
 have hy:(y.length==0)=false:=by
  cases e:y.length with
  | zero=>omega
  | succ n=>rfl
 cases h1:(decide (z.length<y.length)||decide (strKind z<strKind y)) with
 | true =>
  have es:Txt.split z y=[z]:=by unfold Txt.split;rw [if_pos h1]
  exact call_meets F.slot_str_split (typeIs_str _ _ _) F.entry_str_split (F.args_str_split_2 _ _) (meets_str_split_cannot_occur z y t t1 h1) (fin [(z,t)] s.toks es.symm)
 | false =>
  cases hf:(occurrences z y 0 z.length (z.length+1)).isEmpty with
  | true =>
   have es:Txt.split z y=[z]:=by unfold Txt.split;rw [if_neg (by rw [h1];decide),if_pos hf]
   exact call_meets F.slot_str_split (typeIs_str _ _ _) F.entry_str_split (F.args_str_split_2 _ _) (meets_str_split_not_found z y t t1 h1 hy hf) (fin [(z,t)] s.toks es.symm)
  | false =>
   have es:Txt.split z y=partsBetween z (occurrences z y 0 z.length (z.length+1)) y.length:=by unfold Txt.split;rw [if_neg (by rw [h1];decide),if_neg (by rw [hf];decide)]
   refine call_meets F.slot_str_split (typeIs_str _ _ _) F.entry_str_split (F.args_str_split_2 _ _) (meets_str_split_sep z y t t1 h1 hy hf (by omega) (by rw [← es];exact many)) ?_
   rw [strsFrom_eq]
   exact fin _ _ ((numbered_texts _ _).trans es.symm)
theorem vv:MtR X "str.partition" (λx vs H Q=>∃(z y:Str),x=.str z/\vs=[.str y]/\(y.length==0)=false/\z.length<=sizeLine /\
  ∀p,H p=none->Q (.ref p) (upd H p (.tup [.str (Txt.partition z y).1,.str (Txt.partition z y).2.1,.str (Txt.partition z y).2.2]))):=by
 intro pins s σ H x xs v us Q I rx r h
 obtain ⟨z,y,rfl,rfl,hy,hz,q⟩:=h
 obtain ⟨t,rfl⟩:=rx
 obtain ⟨u,rfl,⟨t1,rfl⟩⟩:=dg r
 have fin:∀(a b c:Str) (ta tb tc:Tok) (k:Nat),(∀p,H p=none->Q (.ref p) (upd H p (.tup [.str a,.str b,.str c]))) ->
   EP X pins σ Q (.ref s.heap.objs.size) {s with toks:=k,heap:=s.heap.push {cls:=.type "tuple",data:=.seq [Value.str a ta,Value.str b tb,Value.str c tc].toArray}}:=λa b c ta tb tc k hq =>
  ⟨.ref s.heap.objs.size,_,I.laid (t':=k) (o:=.tup [.str a,.str b,.str c]) (λb o e=>Heap.get?_push_of_some _ e) (Nat.le_refl _)
   (show ObjOk X.prog X.w _ _ _ (.tup [.str a,.str b,.str c]) from ⟨by show 3<=sizeLine;decide,_,.cons ⟨ta,rfl⟩ (.cons ⟨tb,rfl⟩ (.cons ⟨tc,rfl⟩ .nil)),IsTup.new _ _⟩),rfl,hq _ (I.hok.fresh (Nat.le_refl _))⟩
 refine call_meets F.slot_str_partition (typeIs_str _ _ _) F.entry_str_partition (F.args_str_partition_2 _ _) (meets_str_partition z y t t1 hy hz) ?_
 unfold Txt.partition at q
 cases e:occurrences z y 0 z.length 1 with
 | nil=>rw [e] at q;exact fin _ _ _ _ _ _ _ q
 | cons i r=>rw [e] at q;exact fin _ _ _ _ _ _ _ q
end
end L2
namespace Km
open PySem PySem.NumText PyProof.Rows
def og(c:Nat):Bool:=decide (48<=c)&&decide (c<=57)
def oV(c:Nat):Bool:=decide (32<=c)&&decide (c<=126)&&decide (c≠37)
def bg(m:Nat):List Nat:=(Nat.toDigits 10 m).map Char.toNat
def b8(n:Int):List Nat:=if n<0 then 45::bg n.natAbs else bg n.natAbs
theorem hV(m:Nat):AllDigits (bg m):=by
 intro c hc
 obtain ⟨ch,hch,e⟩:=List.mem_map.mp hc
 have r:=digit_range (Nat.isDigit_of_mem_toDigits (by decide) (by decide) hch)
 rw [← e]
 exact r
theorem mI(m:Nat):bg m≠[]:=by
 intro e
 have h:=toDigits_len_ge 10 m
 rw [List.map_eq_nil_iff.mp e] at h
 exact absurd h (by decide)
theorem hU(m:Nat):digitsVal (bg m)=m:=PySem.W.KIN.val_back m
theorem rk:bg 0=[48]:=rfl
theorem rm(m:Nat)(h:m≠0):∀c r,bg m=c::r->c≠48:=by
 induction m using Nat.strongRecOn with
 | _ m ih =>
  intro c r e
  by_cases hm:m<10
  ·unfold bg at e
   rw [Nat.toDigits_of_lt_base hm] at e
   have hc:(Nat.digitChar m).toNat=c:=by simpa using (List.cons.inj e).1
   have key:∀d:Nat,d<10->d≠0->(Nat.digitChar d).toNat≠48:=by decide
   rw [← hc]
   exact key m hm h
  ·have t:Nat.toDigits 10 (m/10)++Nat.toDigits 10 (m%10)=Nat.toDigits 10 (10*(m/10)+m%10):=Nat.toDigits_append_toDigits (by decide) (by omega) (Nat.mod_lt m (by decide))
   rw [Nat.div_add_mod] at t
   have e2:bg m=bg (m/10)++bg (m%10):=by unfold bg;rw [← t,List.map_append]
   cases q:bg (m/10) with
   | nil=>exact absurd q (mI _)
   | cons c' r' =>
    rw [e2,q] at e
    have:c'=c:=(List.cons.inj e).1
    rw [← this]
    exact ih (m/10) (by omega) (by omega) c' r' q
theorem kg{m k:Nat}(hk:1<=k)(h:m<10 ^ k):(bg m).length<=k:=by
 induction k generalizing m with
 | zero=>omega
 | succ k ih =>
  by_cases hm:m<10
  ·unfold bg
   rw [Nat.toDigits_of_lt_base hm]
   simp
  ·have hk1:1<=k:=by
    cases k with
    | zero=>exfalso;simp at h;omega
    | succ k=>omega
   have t:Nat.toDigits 10 (m/10)++Nat.toDigits 10 (m%10)=Nat.toDigits 10 (10*(m/10)+m%10):=Nat.toDigits_append_toDigits (by decide) (by omega) (Nat.mod_lt m (by decide))
   rw [Nat.div_add_mod] at t
   have e2:bg m=bg (m/10)++bg (m%10):=by unfold bg;rw [← t,List.map_append]
   have e3:bg (m%10)=[(Nat.digitChar (m%10)).toNat]:=by unfold bg;rw [Nat.toDigits_of_lt_base (Nat.mod_lt m (by decide))];rfl
   have h2:m/10<10 ^ k:=by
    rw [Nat.pow_succ] at h
    exact Nat.div_lt_of_lt_mul (by rw [Nat.mul_comm];exact h)
   have:=ih hk1 h2
   rw [e2,e3,List.length_append]
   simpa using this
theorem lv(n:Int):(Str.ofString (toString n)).cps.toList=b8 n:=by
 cases n with
 | ofNat m =>
  unfold b8
  rw [if_neg (show ¬Int.ofNat m<0 from Int.not_lt.mpr (Int.natCast_nonneg m))]
  exact PySem.W.KIN.signs_num m
 | negSucc m =>
  unfold b8
  rw [if_pos (by omega)]
  have e:toString (Int.negSucc m)="-"++Nat.repr (m+1):=rfl
  rw [e,signs_ofString,String.toList_append,List.map_append,Nat.toList_repr]
  rfl
end Km
namespace Km
open PySem PySem.NumText L2
end Km
namespace Km
open PySem PySem.NumText L2 PyProof.Rows
def cE(c:Nat):List (List Nat)->List Nat
 | []=>[]
 | [x]=>x
 | x::y::r=>x++c::cE c (y::r)
theorem cy(c:Nat):∀ys:List Str,(Str.join ⟨#[c]⟩ ys).cps.toList=cE c (ys.map λy=>y.cps.toList)
 | []=>rfl
 | [y]=>rfl
 | y::u::ys=>by
  have ih:=cy c (u::ys)
  rw [join_cons_cons]
  show ((y.cps++#[c])++(Str.join ⟨#[c]⟩ (u::ys)).cps).toList=_
  rw [Array.toList_append,Array.toList_append,ih]
  simp [cE]
theorem kY{c:Nat}{a b a' b':List Nat}(ha:c∉a)(ha':c∉a')(e:a++c::b=a'++c::b'):a=a'/\b=b':=by
 induction a generalizing a' with
 | nil =>
  cases a' with
  | nil=>exact ⟨rfl,(List.cons.inj e).2⟩
  | cons x a'=>exact absurd (List.mem_cons.mpr (.inl (List.cons.inj e).1)) ha'
 | cons x a ih =>
  cases a' with
  | nil=>exact absurd (List.mem_cons.mpr (.inl (List.cons.inj e).1.symm)) ha
  | cons y a' =>
   obtain ⟨e1,e2⟩:=List.cons.inj e
   obtain ⟨r1,r2⟩:=ih (λh=>ha (List.mem_cons_of_mem _ h)) (λh=>ha' (List.mem_cons_of_mem _ h)) e2
   exact ⟨by rw [e1,r1],r2⟩
theorem kS{c:Nat}:∀{xs ys:List (List Nat)},xs≠[]->ys≠[]->(∀x∈xs,c∉x)->(∀y∈ys,c∉y)->cE c xs=cE c ys->xs=ys
 | [],_,h,_,_,_,_=>absurd rfl h
 | _::_,[],_,h,_,_,_=>absurd rfl h
 | [x],[y],_,_,_,_,e=>by rw [show x=y from e]
 | [x],y::u::ys,_,_,hx,_,e=>by
  have e':x=y++c::cE c (u::ys):=e
  exact absurd (by rw [e'];simp) (hx x List.mem_cons_self)
 | x::u::xs,[y],_,_,_,hy,e=>by
  have e':x++c::cE c (u::xs)=y:=e
  exact absurd (by rw [← e'];simp) (hy y List.mem_cons_self)
 | x::u::xs,y::v::ys,_,_,hx,hy,e=>by
  have e':x++c::cE c (u::xs)=y++c::cE c (v::ys):=e
  obtain ⟨e1,e2⟩:=kY (hx x List.mem_cons_self) (hy y List.mem_cons_self) e'
  rw [e1,kS (by simp) (by simp) (λz hz=>hx z (List.mem_cons_of_mem _ hz)) (λz hz=>hy z (List.mem_cons_of_mem _ hz)) e2]
theorem rV{z:Str}{c:Nat}{ps:List (List Nat)}(ez:z.cps.toList=cE c ps)(h0:ps≠[])(hp:∀p∈ps,c∉p):Txt.split z ⟨#[c]⟩=ps.map λp=>(⟨p.toArray⟩:Str):=by
 have e1:=cy c (Txt.split z ⟨#[c]⟩)
 rw [StrLaws.join_split,ez] at e1
 have n1:(Txt.split z ⟨#[c]⟩).map (λy=>y.cps.toList)≠[]:=by
  intro e
  have:=split_pos z ⟨#[c]⟩
  rw [List.map_eq_nil_iff.mp e] at this
  exact absurd this (by decide)
 have e2:=kS h0 n1 hp (λy hy=>by
  obtain ⟨p,hp',rfl⟩:=List.mem_map.mp hy
  exact StrLaws.split_free z c p hp') e1
 rw [e2,List.map_map]
 have e3:((λp:List Nat=>(⟨p.toArray⟩:Str))∘λy:Str=>y.cps.toList)=id:=by
  funext y
  obtain ⟨a⟩:=y
  simp
 rw [e3,List.map_id]
end Km
namespace St
open PySem L2 Lo Km PySem.NumText
inductive Wd where
 | take | mean | sum | give | add | plus | need
 deriving DecidableEq
def wS:Wd->Str
 | .take=>"take" | .mean=>"mean" | .sum=>"sum" | .give=>"give" | .add=>"add" | .plus=>"plus" | .need=>"need"
def wN:Wd->Str
 | .take=>"TakeStep" | .mean=>"MeanStep" | .sum=>"SumStep" | .give=>"GiveStep" | .add=>"AddStep" | .plus=>"PlusStep" | .need=>"NeedStep"
def inN(i:Int):Prop:=0<=i/\i<10 ^ 40
def inV(i:Int):Prop:=i.natAbs<10 ^ 40
theorem inN.v{i:Int}(h:inN i):inV i:=by
 unfold inN at h
 unfold inV
 omega
def Ar:Wd->List Int->Prop
 | .take,[h,c]=>inN h/\inN c
 | .mean,[h,c]=>inN h/\inN c
 | .give,[h,c]=>inN h/\inN c
 | .sum,[h,a,b]=>inN h/\inN a/\inN b/\a<=b
 | .add,[h,c,v]=>inN h/\inN c/\inV v
 | .plus,[v]=>inV v
 | .need,[v]=>inV v
 | _,_=>False
theorem Ar.all{w:Wd}{ns:List Int}(h:Ar w ns):∀i∈ns,inV i:=by
 unfold Ar at h
 split at h
 ·intro i hi;simp only [List.mem_cons,List.mem_nil_iff,or_false] at hi;rcases hi with rfl | rfl<;>first | exact h.1.v | exact h.2.v
 ·intro i hi;simp only [List.mem_cons,List.mem_nil_iff,or_false] at hi;rcases hi with rfl | rfl<;>first | exact h.1.v | exact h.2.v
 ·intro i hi;simp only [List.mem_cons,List.mem_nil_iff,or_false] at hi;rcases hi with rfl | rfl<;>first | exact h.1.v | exact h.2.v
 ·intro i hi;simp only [List.mem_cons,List.mem_nil_iff,or_false] at hi;rcases hi with rfl | rfl | rfl<;>first | exact h.1.v | exact h.2.1.v | exact h.2.2.1.v
 ·intro i hi;simp only [List.mem_cons,List.mem_nil_iff,or_false] at hi;rcases hi with rfl | rfl | rfl<;>first | exact h.1.v | exact h.2.1.v | exact h.2.2
 ·intro i hi;simp only [List.mem_cons,List.mem_nil_iff,or_false] at hi;rcases hi with rfl;exact h
 ·intro i hi;simp only [List.mem_cons,List.mem_nil_iff,or_false] at hi;rcases hi with rfl;exact h
 ·exact h.elim
def iS(i:Int):Str:=Str.ofString (toString i)
theorem t8{i:Int}(h:inV i):(iS i).length<=41:=by
 have e:(iS i).length=(b8 i).length:=by
  unfold iS
  rw [← lv]
  simp [Str.length]
 rw [e]
 unfold b8
 have:=kg (k:=40) (by decide) h
 split
 ·rw [List.length_cons];omega
 ·omega
theorem wZ(i:Int):32∉b8 i:=by
 have hd:∀m,32∉bg m:=λm hm=>by
  have:=hV m
  have h:=this 32 hm
  omega
 unfold b8
 split
 ·intro hm
  rcases List.mem_cons.mp hm with e | e
  ·cases e
  ·exact hd _ e
 ·exact hd _
def txt(w:Wd)(ns:List Int):Str:=Str.join (Str.ofString " ") (wS w::ns.map iS)
theorem xx(w:Wd):32∉(wS w).cps.toList:=by cases w<;>decide +kernel
theorem v8(w:Wd):(wS w).length<=4:=by cases w<;>decide +kernel
theorem gH:(Str.ofString " ")=⟨#[32]⟩:=by decide +kernel
theorem qF(w:Wd)(ns:List Int):Txt.split (txt w ns) ⟨#[32]⟩=wS w::ns.map iS:=by
 have e:=cy 32 (wS w::ns.map iS)
 have e2:(txt w ns).cps.toList=cE 32 ((wS w::ns.map iS).map λy=>y.cps.toList):=by
  unfold txt
  rw [gH]
  exact e
 rw [rV e2 (by simp) (λp hp=>?_)]
 ·rw [List.map_map]
  have e3:((λp:List Nat=>(⟨p.toArray⟩:Str))∘λy:Str=>y.cps.toList)=id:=by
   funext y
   obtain ⟨a⟩:=y
   simp
  rw [e3,List.map_id]
 ·obtain ⟨y,hy,rfl⟩:=List.mem_map.mp hp
  rcases List.mem_cons.mp hy with e | hy
  ·rw [e];exact xx w
  ·obtain ⟨i,_,rfl⟩:=List.mem_map.mp hy
   have e4:(iS i).cps.toList=b8 i:=lv i
   rw [e4]
   exact wZ i
theorem Ar.len{w:Wd}{ns:List Int}(h:Ar w ns):1<=ns.length/\ns.length<=3:=by
 unfold Ar at h
 split at h<;>first | exact h.elim | (constructor<;>simp)
theorem rT{ys:List Str}{k:Nat}(h:∀y∈ys,y.length<=k):(ys.map (·.length)).sum<=ys.length*k:=by
 induction ys with
 | nil=>simp
 | cons y ys ih =>
  have h1:=h y List.mem_cons_self
  have h2:=ih λy hy=>h y (List.mem_cons_of_mem _ hy)
  rw [List.map_cons,List.sum_cons,List.length_cons,Nat.succ_mul]
  omega
theorem rD{w:Wd}{ns:List Int}(h:Ar w ns):∀y∈wS w::ns.map iS,y.length<=41:=λy hy=>by
 rcases List.mem_cons.mp hy with e | hy
 ·rw [e];exact Nat.le_trans (v8 w) (by decide)
 ·obtain ⟨i,hi,rfl⟩:=List.mem_map.mp hy
  exact t8 (h.all i hi)
theorem ik{w:Wd}{ns:List Int}(h:Ar w ns):((wS w::ns.map iS).map (·.length)).sum+(wS w::ns.map iS).length*(Str.ofString " ").length<=1000:=by
 have h1:=rT (rD h)
 have h2:=h.len
 have h3:(Str.ofString " ").length=1:=by decide +kernel
 rw [h3]
 have h4:(wS w::ns.map iS).length<=4:=by rw [List.length_cons,List.length_map];omega
 have h5:(wS w::ns.map iS).length*41<=4*41:=Nat.mul_le_mul_right _ h4
 omega
def hR:Wd->List Int->List (Str×V)
 | .take,[h,c]=>aL "cell" (.int c) (aL "where" (.int h) [])
 | .mean,[h,c]=>aL "cell" (.int c) (aL "where" (.int h) [])
 | .give,[h,c]=>aL "cell" (.int c) (aL "where" (.int h) [])
 | .sum,[h,a,b]=>aL "high" (.int b) (aL "low" (.int a) (aL "where" (.int h) []))
 | .add,[h,c,v]=>aL "amount" (.int v) (aL "cell" (.int c) (aL "where" (.int h) []))
 | .plus,[v]=>aL "amount" (.int v) []
 | .need,[v]=>aL "amount" (.int v) []
 | _,_=>[]
def StO(C:Wd->Addr)(H:Hp)(w:Wd)(ns:List Int)(v:V):Prop:=∃a dx,v=.ref a/\H a=some (.ins (C w) dx (hR w ns))
theorem StO.keep{C:Wd->Addr}{H H':Hp}{w:Wd}{ns:List Int}{v:V}(e:Same H H')(h:StO C H w ns v):StO C H' w ns v:=by
 obtain ⟨a,dx,rfl,q⟩:=h
 exact ⟨a,dx,rfl,e _ _ q⟩
def tSt(H:Hp)(w:Wd)(ns:List Int)(v:V):Prop:=∃a,v=.ref a/\H a=some (.tup (.str (wS w)::ns.map V.int))
theorem tSt.keep{H H':Hp}{w:Wd}{ns:List Int}{v:V}(e:Same H H')(h:tSt H w ns v):tSt H' w ns v:=by
 obtain ⟨a,rfl,q⟩:=h
 exact ⟨a,rfl,e _ _ q⟩
def aP:Wd->List Int->V
 | .plus,_=>.non
 | .need,_=>.non
 | _,h::_=>.int h
 | _,[]=>.non
def qc:Wd->List Int->Option Lk
 | .take,[_,c]=>some (.read,c,c)
 | .mean,[_,c]=>some (.mean,c,c)
 | .give,[_,c]=>some (.change,c,c)
 | .sum,[_,a,b]=>some (.read,a,b)
 | .add,[_,c,_]=>some (.change,c,c)
 | _,_=>none
def orl(K:PySem.W.Frag)(H:Hp):Option Lk->V->Prop
 | none,v=>v=.non
 | some k,v=>∃a,v=.ref a/\H a=some (.tup [.str (kdS k.1),.int k.2.1,.int k.2.2])
end St
namespace L2
open PySem PySem.Spec PyProof.Rows
section
variable {X:Cx}{CX:CXT}{E:XK}{k:Nat}{C f:Addr}{fd:FuncData}{ps:List Str}{sp:Sp}{m:Str}{o e:Expr}{es:List Expr}{t:TA}{ty:TE}{pos apos cpos p:Pos}{mc:Value}
structure v0(K:PySem.W.Frag)(C:Addr)(m:Str)(f:Addr):Prop where
 ga:PySem.W.specialIn K (.ref C) "__getattribute__"=some (some (.builtin "type.__getattribute__"))
 rd:PySem.W.readsIn K C (.type "type")=true
 fc:PySem.W.findCls K (.ref C) (.type "type") m=some (.val (.ref f))
 hi:PySem.W.handedIn (.ref f)=true
 kp:PySem.W.keepIn K (.ref f)=true
theorem uX{pl:Sem Bool}(ho:PE X o (tC (.ref C)))(c:v0 X.K C m f)(F:FnOk X.prog X.w X.K X.mg X.base CX k f fd ps sp)(hr:Room k X.A)(hb:Binds X.K fd ps [])(hx:dL CX X E)(ha:PA X (e::es) t)
  (hst:starEach (e::es) X.env=(false,eval e X.env)::starEach es X.env:=by rfl)(hpl:(backTo pos (starEach es X.env)).any (·.1)=false:=by rfl)
  (ht:eval (.Call (.Attribute o m apos) (e::es) [] pos) X.env=(do
   let ov ← eval o X.env
   standAt apos.atName
   let (f,first) ← holding [ov] (getMethod ov m pl)
   callWith pos f first (backTo pos (starEach (e::es) X.env)) (backToKw pos (keywordEach [] X.env))):=by rfl) :
  PE X (.Call (.Attribute o m apos) (e::es) [] pos) (rP sp [] E t):=by
 intro pins s σ H Q I h
 refine PySem.W.methodCall_KW (pl:=pl) (thn (ho pins s σ H (λx H1=>x=.ref C/\t σ H1 λvs H2=>sp (vs++[]) H2 Q E) I ⟨rfl,h⟩) λu s1 ⟨x,H1,I1,rx,ex,q⟩=>?_) ht
 subst ex
 obtain rfl:u=Value.ref C:=rx
 refine PySem.W.method_cls I1.kIn c.ga (PySem.W.cls_value I1.kIn c.rd c.fc c.hi ?_)
 have I2:Inv X pins σ H1 {s1 with toks:=s1.toks+1}:=I1.tok _
 refine PySem.W.callWith_K (first:=[]) (h₀:=X.base) I.ok.mod.kin c.kp (thn (ha pos pins _ σ H1 _ I2 q) λus s2 ⟨vs,H2,I3,r,q2⟩=>⟨I3.kIn,?_⟩) hst hpl
 exact md (us:=us) (vs:=vs) F hr hb .nil hx I3 r q2
theorem uT{a:Addr}{D:List (Str×KTD.Dat)}(ho:PE X o (tC (.ref a)))(he:PE X e ty)(mm:M1 X o "get" apos e cpos)(ht:TabK X.K a D) :
  PE X (.Call (.Attribute o "get" apos) [e] [] cpos) (fun σ H Q=>ty σ H λy H1=>∃k z,y=.str k/\KTD.datumAt k D=some (.flat (.str z))/\Q (.str z) H1):=by
 intro pins s σ H Q I h
 refine wpAny_Call_method mm.base mm.few mm.line PySem.F.plainAttrs_dict PySem.F.slot_dict_get PySem.F.type_dict_get (thn (ho pins s σ H (λx H1=>x=.ref a/\ty σ H1 λy H1=>∃k z,y=.str k/\KTD.datumAt k D=some (.flat (.str z))/\Q (.str z) H1) I ⟨rfl,h⟩) λu s1 ⟨x,H1,I1,rx,ex,q1⟩=>?_)
 subst ex
 obtain rfl:u=Value.ref a:=rx
 have T1:KTD.Here s1.heap s1.heap a D:=⟨ht.at I1.kIn,λ_ _ e=>e⟩
 refine ⟨T1.typeIs,T1.noDict,?_⟩
 rw [mm.trees]
 refine Calls.callWith_builtin rfl (Calls.evalArgs_plain (Calls.spliced_cons (thn (he pins s1 σ H1 _ I1 q1) λiv s2 ⟨y,H2,I2,ry,k,z,ek,hd,q2⟩=>Calls.spliced_nil ?_)))
 subst ek
 obtain ⟨tk,rfl⟩:=ry
 refine KTD.get1_textL (h₀:=s2.heap) ⟨ht.at I2.kIn,λ_ _ e=>e⟩ ?_ (qi hd (KTD.opened_str λt'=>⟨.str z,H2,I2.tok _,⟨_,rfl⟩,q2⟩))
 rw [← KTD.isSome_datumAt,hd]
 rfl
theorem oX:MtR X "str.lstrip" (λx vs H Q=>∃z y,x=.str z/\vs=[.str y]/\z.length<=sizeLine/\Q (.str (Txt.lstripChars z y)) H):=by
 intro pins s σ H x xs v us Q I rx r h
 obtain ⟨z,y,rfl,rfl,hz,q⟩:=h
 obtain ⟨t,rfl⟩:=rx
 obtain ⟨u,rfl,⟨t1,rfl⟩⟩:=dg r
 exact SC.lstripChars (λt' k=>⟨.str _,H,I.tok _,⟨_,rfl⟩,q⟩) hz
theorem wK{te:TE}(h:PE X.nox e te):PEX X e (fun σ H Q _=>te σ H Q):=by
 intro pins s σ H Q E I q
 exact nox (h pins s σ H _ (I.wish _) q) λv s1 ⟨x,H1,I1,r,q1⟩=>⟨x,H1,I1.unwish,r,q1⟩
end
end L2
namespace St
open PySem L2 Lo Km PySem.NumText
structure TxW(K:PySem.W.Frag)(CW:Wd->Addr):Prop where
 cl:∀w,Cls K (CW w)
 nW:∀w,NoAttr K (CW w) "where"
 nC:∀w,NoAttr K (CW w) "cell"
 nL:∀w,NoAttr K (CW w) "low"
 nH:∀w,NoAttr K (CW w) "high"
 nA:∀w,NoAttr K (CW w) "amount"
def isC:Wd->Bool
 | .take=>true | .mean=>true | .give=>true | _=>false
theorem bj{f:Str}{v:V}{fs:List (Str×V)}:(aL f v fs).lookup f=some v:=by rw [aV,if_pos rfl]
theorem bv{f g:Str}{v:V}{fs:List (Str×V)}(h:¬g=f):(aL f v fs).lookup g=fs.lookup g:=by rw [aV,if_neg h]
section
variable (CW:Wd->Addr)
def gm(w:Wd):Sp:=λvs H Q _=>∃a dx ns,vs=.ref a::(ns:List Int).map V.int/\Ar w ns/\H a=some (.ins (CW w) dx [])/\∀H',H' a=some (.ins (CW w) dx (hR w ns))->Kp a H H'->Q .non H'
def lJ:Sp:=λvs H Q _=>∃a dx w h c,vs=[.ref a,.int h,.int c]/\H a=some (.ins (CW w) dx [])/\∀H',H' a=some (.ins (CW w) dx (aL "cell" (.int c) (aL "where" (.int h) [])))->Kp a H H'->Q .non H'
def cA(w:Wd):Sp:=λvs H Q _=>∃v ns,vs=[v]/\Ar w ns/\StO CW H w ns v/\Q (aP w ns) H
def dO(K:PySem.W.Frag)(w:Wd):Sp:=λvs H Q _=>∃v ns,vs=[v]/\Ar w ns/\StO CW H w ns v/\∀u H',Same H H'->orl K H' (qc w ns) u->Q u H'
def jD(w:Wd):Sp:=λvs H Q _=>∃v,vs=[v]/\Q (.bl (decide (w=.give))) H
end
theorem ym{i:Int}(h:inV i):i.natAbs.log2<1920:=by
 by_cases h0:i.natAbs=0
 ·rw [h0];decide
 ·exact (Nat.log2_lt h0).mpr (Nat.lt_trans h (by decide +kernel))
theorem Ar.c{w:Wd}{ns:List Int}(hw:isC w=true)(h:Ar w ns):∃a b,ns=[a,b]/\inN a/\inN b/\hR w ns=aL "cell" (.int b) (aL "where" (.int a) []):=by
 cases w<;>first | cases hw | skip
 all_goals
  match ns,h with
  | [a,b],h=>exact ⟨a,b,rfl,h.1,h.2,rfl⟩
theorem Ar.s{ns:List Int}(h:Ar .sum ns):∃a b c,ns=[a,b,c]/\inN a/\inN b/\inN c/\b<=c:=by
 match ns,h with
 | [a,b,c],h=>exact ⟨a,b,c,rfl,h⟩
theorem Ar.a{ns:List Int}(h:Ar .add ns):∃a b c,ns=[a,b,c]/\inN a/\inN b/\inV c:=by
 match ns,h with
 | [a,b,c],h=>exact ⟨a,b,c,rfl,h⟩
theorem Ar.p{ns:List Int}(h:Ar .plus ns):∃a,ns=[a]/\inV a:=by
 match ns,h with
 | [a],h=>exact ⟨a,rfl,h⟩
theorem Ar.n{ns:List Int}(h:Ar .need ns):∃a,ns=[a]/\inV a:=by
 match ns,h with
 | [a],h=>exact ⟨a,rfl,h⟩
end St
namespace St
open PySem PySem.Spec PyProof.Rows L2 Lo Km PySem.NumText
section
variable {K:PySem.W.Frag}{H:Hp}{a:Addr}{bl:L2.St}{te:TE}{Fin:List V->Hp->Prop}
theorem tX{g:Int->V}{ns:List Int}(hq:H a=some (.tup (ns.map V.int)))(hn:ns.length<=sizeLine)
  (he:∀i H1 (Q:VK),i∈ns->Same H H1->(∀H2,Same H1 H2->Q (g i) H2)->te (some (.int i)::bl) H1 Q)
  (hd:∀H1,Same H H1->Fin (ns.map g) H1) :
  ∃(W:Nat->List V->Hp->Prop) (n:Nat),W 0 [] H/\n<=sizeLine/\∀i ys H,W i ys H->((Itt K a).stop i H/\Fin ys H) \/
   ((Itt K a).go i H/\i<n/\∀x H',(Itt K a).yld i H x H'->qD (some x::bl) H' λc H2=>if c=true then te (some x::bl) H2 λy H3=>W (i+1) (ys++[y]) H3 else W (i+1) ys H2):=by
 refine w9 (tt:=qD) (xs:=ns.map V.int) (λi ys H1=>Same H H1/\ys=(ns.take i).map g) ⟨Same.refl _,rfl⟩ (by rw [List.length_map];exact hn) (λi ys H1 _ z=>SqT.of (z.1 _ _ hq)) ?_ ?_
 ·rintro i x ys H1 hx ⟨s1,rfl⟩
  rw [List.getElem?_map] at hx
  obtain ⟨n,hn,rfl⟩:=Option.map_eq_some_iff.mp hx
  refine eE (he n H1 _ (List.mem_of_getElem? hn) s1 λH2 s2=>⟨s1.trans s2,?_⟩)
  rw [List.take_add_one,hn]
  simp
 ·rintro ys H1 ⟨s1,rfl⟩
  rw [List.length_map,List.take_length]
  exact hd H1 s1
end
theorem at0{x:V}{xs:List V}:atI (x::xs) 0=some x:=aB (j:=0) rfl
theorem at1{x y:V}{xs:List V}:atI (x::y::xs) 1=some y:=aB (j:=1) rfl
theorem at2{x y z:V}{xs:List V}:atI (x::y::z::xs) 2=some z:=aB (j:=2) rfl
theorem v9{a b:Wd}(h:wS a=wS b):a=b:=by
 cases a<;>cases b<;>first | rfl | exact absurd h (by decide +kernel)
theorem cu{a b:Wd}(c:decide (V.str (wS a)=V.str (wS b))=true):a=b:=v9 (V.str.inj (of_decide_eq_true c))
theorem bz{a b:Wd}(c:¬decide (V.str (wS a)=V.str (wS b))=true):a≠b:=λe=>c (by rw [e];exact decide_eq_true rfl)
theorem v6{a:Wd}(h1:a≠.take)(h2:a≠.mean)(h3:a≠.sum)(h4:a≠.give)(h5:a≠.add)(h6:a≠.plus):a=.need:=by
 cases a<;>first | rfl | contradiction
def shp:Wd->Str
 | .take=>"HC" | .mean=>"HC" | .sum=>"HAB" | .give=>"HC" | .add=>"HCV" | .plus=>"V" | .need=>"V"
def ju:List (Str×PyProof.Rows.KTD.Dat):=[("take",.flat (.str "HC")),("mean",.flat (.str "HC")),("sum",.flat (.str "HAB")),("give",.flat (.str "HC")),("add",.flat (.str "HCV")),("plus",.flat (.str "V")),("need",.flat (.str "V"))]
theorem si(w:Wd):PyProof.Rows.KTD.datumAt (wS w) ju=some (.flat (.str (shp w))):=by
 cases w<;>kernel_rfl
theorem uM{w:Wd}{ns:List Int}(h:Ar w ns):(shp w).length=ns.length:=by
 unfold Ar at h
 split at h<;>first | exact h.elim | kernel_rfl
theorem jJ(w:Wd):(shp w).length<=sizeLine:=by cases w<;>decide +kernel
theorem dw{i:Int}{p:Prop}(h:inN i):i<0->p:=λz=>absurd z (by unfold inN at h;omega)
theorem wB{w:Wd}{ns:List Int}{k:Nat}{i:Int}(h:Ar w ns)(hi:ns[k]?=some i):∃c,(shp w).cps.toList[k]?=some c/\(i<0->c=86):=by
 unfold Ar at h
 split at h
 ·rcases k with _ | _ | k
  ·cases hi;exact ⟨72,by decide +kernel,dw h.1⟩
  ·cases hi;exact ⟨67,by decide +kernel,dw h.2⟩
  ·simp at hi
 ·rcases k with _ | _ | k
  ·cases hi;exact ⟨72,by decide +kernel,dw h.1⟩
  ·cases hi;exact ⟨67,by decide +kernel,dw h.2⟩
  ·simp at hi
 ·rcases k with _ | _ | k
  ·cases hi;exact ⟨72,by decide +kernel,dw h.1⟩
  ·cases hi;exact ⟨67,by decide +kernel,dw h.2⟩
  ·simp at hi
 ·rcases k with _ | _ | _ | k
  ·cases hi;exact ⟨72,by decide +kernel,dw h.1⟩
  ·cases hi;exact ⟨65,by decide +kernel,dw h.2.1⟩
  ·cases hi;exact ⟨66,by decide +kernel,dw h.2.2.1⟩
  ·simp at hi
 ·rcases k with _ | _ | _ | k
  ·cases hi;exact ⟨72,by decide +kernel,dw h.1⟩
  ·cases hi;exact ⟨67,by decide +kernel,dw h.2.1⟩
  ·cases hi;exact ⟨86,by decide +kernel,λ_=>rfl⟩
  ·simp at hi
 ·rcases k with _ | k
  ·cases hi;exact ⟨86,by decide +kernel,λ_=>rfl⟩
  ·simp at hi
 ·rcases k with _ | k
  ·cases hi;exact ⟨86,by decide +kernel,λ_=>rfl⟩
  ·simp at hi
 ·exact h.elim
theorem oh(i:Int):(iS i).cps.toList=b8 i:=lv i
theorem tR{i:Int}{c:Nat}(h:c∈b8 i):c=45\/(48<=c/\c<=57):=by
 have hd:∀m,c∈bg m->48<=c/\c<=57:=λm hm=>hV m c hm
 unfold b8 at h
 split at h
 ·rcases List.mem_cons.mp h with e | e
  ·exact .inl e
  ·exact .inr (hd _ e)
 ·exact .inr (hd _ h)
theorem o7{i:Int}(h:inV i):(Txt.lstripChars (iS i) (Str.ofString "-")).length<=40:=by
 have e:(Str.ofString "-")=⟨#[45]⟩:=by decide +kernel
 have hd:=kg (k:=40) (by decide) h
 have hs:(iS i).cps.size=(b8 i).length:=by rw [← oh];simp
 rw [e]
 unfold Txt.lstripChars
 rw [stripBy_eq]
 generalize hL:stripLo ((⟨#[45]⟩:Str).cps.contains) true (iS i)=lo
 show ((iS i).cps.extract lo (iS i).length).size<=40
 rw [Array.size_extract]
 by_cases hi:i<0
 ·have h1:1<=lo:=by
   rw [← hL]
   show 1<=((iS i).cps.toList.takeWhile (λc=>(⟨#[45]⟩:Str).cps.contains c)).length
   rw [oh]
   unfold b8
   rw [if_pos hi,List.takeWhile_cons,if_pos (by decide +kernel)]
   simp
  have h2:(b8 i).length<=41:=by
   unfold b8
   rw [if_pos hi,List.length_cons]
   omega
  omega
 ·have h2:(b8 i).length<=40:=by
   unfold b8
   rw [if_neg hi]
   exact hd
  omega
theorem vx{i:Int}(h:inV i):(iS i).length<=100000:=Nat.le_trans (t8 h) (by decide)
theorem iT(c:Nat):∀ls:List (List Nat),(cE c ls).length<=(ls.map (·.length)).sum+ls.length
 | []=>Nat.zero_le _
 | [x]=>by simp [cE]
 | x::y::r=>by
  have h:=iT c (y::r)
  show (x++c::cE c (y::r)).length<=_
  rw [List.length_append,List.length_cons,List.map_cons,List.sum_cons,List.length_cons (a:=x)]
  omega
theorem uB{wd:Wd}{ns:List Int}(h:Ar wd ns):(txt wd ns).length<=1000000:=by
 have e2:(txt wd ns).cps.toList=cE 32 ((wS wd::ns.map iS).map λy=>y.cps.toList):=by
  unfold txt
  rw [gH]
  exact cy 32 _
 have e3:(txt wd ns).length=(txt wd ns).cps.toList.length:=by simp [Str.length]
 have h1:=iT 32 ((wS wd::ns.map iS).map λy=>y.cps.toList)
 have h2:=ik h
 have e4:((wS wd::ns.map iS).map λy=>y.cps.toList).map (·.length)=(wS wd::ns.map iS).map (·.length):=by
  rw [List.map_map]
  refine List.map_congr_left λy _=>?_
  simp [Str.length]
 have e5:(Str.ofString " ").length=1:=by decide +kernel
 rw [e4,List.length_map] at h1
 rw [e5,Nat.mul_one] at h2
 rw [e3,e2]
 omega
theorem vG(x:V)(xs:List V):eB (x::xs) (some 1) none=xs:=by
 unfold eB
 rw [HT.ny,show (some (1:Int))=some ((1:Nat):Int) from rfl,HT.dQ,List.length_cons,Nat.min_eq_left (by omega)]
 simp
theorem pF(x:V)(xs:List V):¬(HT.sIx (x::xs).length 0 (some (1:Int))=0/\HT.sIx (x::xs).length (x::xs).length none=(x::xs).length):=by
 rintro ⟨h,_⟩
 rw [show (some (1:Int))=some ((1:Nat):Int) from rfl,HT.dQ,List.length_cons] at h
 omega
theorem Ar.home{w:Wd}{ns:List Int}(h1:w≠.plus)(h2:w≠.need)(h:Ar w ns):∃x r,ns=x::r/\aP w ns=.int x:=by
 unfold Ar at h
 split at h<;>first | contradiction | exact h.elim | exact ⟨_,_,rfl,rfl⟩
theorem Ar.homeless{w:Wd}{ns:List Int}(h1:w=.plus\/w=.need):aP w ns=.non:=by
 rcases h1 with rfl | rfl<;>rfl
theorem v7(w:Wd):decide (V.str (wS w)=V.str (wS .give))=decide (w=.give):=by
 cases w<;>first | rfl | (refine (decide_eq_false λh=>?_).trans (decide_eq_false (by intro h;cases h)).symm;exact absurd (cu (decide_eq_true h)) (by intro h;cases h))
theorem yI(i:Int)(h0:0<=i)(h7:i<7):∃w,atI ([.str "take",.str "mean",.str "sum",.str "give",.str "add",.str "plus",.str "need"]:List V) i=some (.str (wS w)):=by
 have:i=0\/i=1\/i=2\/i=3\/i=4\/i=5\/i=6:=by omega
 rcases this with rfl | rfl | rfl | rfl | rfl | rfl | rfl
 ·exact ⟨.take,rfl⟩
 ·exact ⟨.mean,rfl⟩
 ·exact ⟨.sum,rfl⟩
 ·exact ⟨.give,rfl⟩
 ·exact ⟨.add,rfl⟩
 ·exact ⟨.plus,rfl⟩
 ·exact ⟨.need,rfl⟩
theorem gD{m:Str}(h1:¬m="where")(h2:¬m="cell")(h3:¬m="low")(h4:¬m="high")(h5:¬m="amount")(w:Wd)(ns:List Int):(hR w ns).lookup m=none:=by
 unfold hR
 split<;>simp only [bv h1,bv h2,bv h3,bv h4,bv h5,List.lookup_nil]
theorem jc{H H':Hp}{x dx:Addr}{o1 o2:HO}(nx:H x=none)(nd:H dx=none)(k:Kp x (upd (upd H dx o1) x o2) H'):Same H H':=λb o e=>by
 have hx:b≠x:=λz=>by rw [z,nx] at e;cases e
 have hd:b≠dx:=λz=>by rw [z,nd] at e;cases e
 exact k b o hx (by rw [aq hx,aq hd];exact e)
structure WI(P:Program)(w:World)(K:PySem.W.Frag)(mg:Str->Option Value)(base:Heap)(CW:Wd->Addr)(wd:Wd) where
 fI:Addr
 dI:FuncData
 ps:List Str
 M:Mk K (CW wd) fI
 ok:FnOk P w K mg base CX0 2 fI dI ps (gm CW wd)
 b:Binds K dI ps []
 m:mg (wN wd)=some (.ref (CW wd))
section
variable (CW:Wd->Addr)
def oI:Sp:=λvs H Q _=>∃wd q ns,vs=[.str (wS wd),.ref q]/\H q=some (.lst ((ns:List Int).map V.int))/\Ar wd ns/\∀v H',Same H H'->StO CW H' wd ns v->Q v H'
def oJ:Sp:=λvs H Q _=>∃x y z,vs=[.int x,.int y,.int z]/\Ar .sum [x,y,z]/\∀v H',Same H H'->StO CW H' .sum [x,y,z] v->Q v H'
def lC:Sp:=λvs H Q _=>∃wd ns,vs=[.str (txt wd ns)]/\Ar wd ns/\∀v H',Same H H'->StO CW H' wd ns v->Q v H'
end
def oH:Sp:=λvs H Q _=>∃i c,vs=[.str (iS i),.str ⟨#[c]⟩]/\inV i/\(i<0->c=86)/\∀H',Same H H'->Q (.int i) H'
def lF:Sp:=λvs H Q _=>∃c k,vs=[.int c,.int k]/\∀r,0<=r->r<2147483647->Q (.int r) H
end St
namespace Km
open PySem PySem.NumText L2 PyProof.Rows
open Builtin Builtin.Str
def eK(c d:Nat):List (List Nat)->List Nat
 | []=>[]
 | [x]=>x
 | x::y::r=>x++c::d::eK c d (y::r)
theorem gj(c d:Nat):∀ys:List Str,(Str.join ⟨#[c,d]⟩ ys).cps.toList=eK c d (ys.map λy=>y.cps.toList)
 | []=>rfl
 | [y]=>rfl
 | y::u::ys=>by
  have ih:=gj c d (u::ys)
  rw [join_cons_cons]
  show ((y.cps++#[c,d])++(Str.join ⟨#[c,d]⟩ (u::ys)).cps).toList=_
  rw [Array.toList_append,Array.toList_append,ih]
  simp [eK]
theorem kR{c d:Nat}:∀{xs ys:List (List Nat)},xs≠[]->ys≠[]->(∀x∈xs,c∉x)->(∀y∈ys,c∉y)->eK c d xs=eK c d ys->xs=ys
 | [],_,h,_,_,_,_=>absurd rfl h
 | _::_,[],_,h,_,_,_=>absurd rfl h
 | [x],[y],_,_,_,_,e=>by rw [show x=y from e]
 | [x],y::u::ys,_,_,hx,_,e=>by
  have e':x=y++c::d::eK c d (u::ys):=e
  exact absurd (by rw [e'];simp) (hx x List.mem_cons_self)
 | x::u::xs,[y],_,_,_,hy,e=>by
  have e':x++c::d::eK c d (u::xs)=y:=e
  exact absurd (by rw [← e'];simp) (hy y List.mem_cons_self)
 | x::u::xs,y::v::ys,_,_,hx,hy,e=>by
  have e':x++c::d::eK c d (u::xs)=y++c::d::eK c d (v::ys):=e
  obtain ⟨e1,e2⟩:=kY (hx x List.mem_cons_self) (hy y List.mem_cons_self) e'
  rw [e1,kR (by simp) (by simp) (λz hz=>hx z (List.mem_cons_of_mem _ hz)) (λz hz=>hy z (List.mem_cons_of_mem _ hz)) (List.cons.inj e2).2]
def xu(c d:Nat)(l:List Nat):Prop:=∀k,l[k]?=some c->l[k+1]?=some d
theorem kW{c d:Nat}(hcd:c≠d):∀{ps:List (List Nat)},(∀p∈ps,c∉p)->xu c d (eK c d ps)
 | [],_,k,h=>by cases h
 | [x],hp,k,h=>absurd (List.mem_of_getElem? h) (hp x List.mem_cons_self)
 | x::y::r,hp,k,h=>by
  have ih:=kW hcd (ps:=y::r) λp hp'=>hp p (List.mem_cons_of_mem _ hp')
  have h':(x++c::d::eK c d (y::r))[k]?=some c:=h
  show (x++c::d::eK c d (y::r))[k+1]?=some d
  by_cases h1:k<x.length
  ·rw [List.getElem?_append_left h1] at h'
   exact absurd (List.mem_of_getElem? h') (hp x List.mem_cons_self)
  ·rw [List.getElem?_append_right (by omega)] at h' ⊢
   obtain ⟨m,hm⟩:∃m,k=x.length+m:=⟨k-x.length,by omega⟩
   subst hm
   rw [Nat.add_sub_cancel_left] at h'
   rw [show x.length+m+1-x.length=m+1 from by omega]
   match m,h' with
   | 0,_=>rfl
   | 1,h'=>exact absurd (Option.some.inj h').symm hcd
   | m+2,h'=>exact ih m h'
theorem qE(x:Str)(c d i:Nat):(i+(⟨#[c,d]⟩:Str).length<=x.length/\subAt x ⟨#[c,d]⟩ i=true)↔(x.cps.toList[i]?=some c/\x.cps.toList[i+1]?=some d):=by
 rw [StrLaws.subAt_eq]
 have hl:x.length=x.cps.toList.length:=by simp [Str.length]
 have e2:(⟨#[c,d]⟩:Str).length=2:=rfl
 rw [e2,hl]
 generalize x.cps.toList=l
 show (i+2<=l.length/\(((l.drop i).take 2)==[c,d])=true)↔_
 rw [beq_iff_eq]
 constructor
 ·rintro ⟨h1,h2⟩
  have a0:((l.drop i).take 2)[0]?=l[i]?:=by rw [List.getElem?_take_of_lt (by omega),List.getElem?_drop,Nat.add_zero]
  have a1:((l.drop i).take 2)[1]?=l[i+1]?:=by rw [List.getElem?_take_of_lt (by omega),List.getElem?_drop]
  rw [h2] at a0 a1
  exact ⟨a0.symm,a1.symm⟩
 ·rintro ⟨h1,h2⟩
  have hb:=(List.getElem?_eq_some_iff.mp h2).1
  refine ⟨by omega,?_⟩
  have e:=List.drop_eq_getElem_cons (l:=l) (i:=i) (by omega)
  have e':=List.drop_eq_getElem_cons (l:=l) (i:=i+1) (by omega)
  rw [e,e',(List.getElem?_eq_some_iff.mp h1).2,(List.getElem?_eq_some_iff.mp h2).2]
  rfl
section
variable {x:Str}{c d:Nat}(hF:xu c d x.cps.toList)
include hF
theorem yD{k:Nat}(h:x.cps.toList[k]?=some c):StrLaws.At x ⟨#[c,d]⟩ x.length k:=(qE x c d k).mpr ⟨h,hF k h⟩
theorem gL(a b:Nat)(hb:b<=x.length)(hn:∀k,a<=k->k<b->¬StrLaws.At x ⟨#[c,d]⟩ x.length k):c∉(strSub x a b).cps.toList:=by
 intro hm
 rw [StrLaws.strSub_toList] at hm
 obtain ⟨j,hj⟩:=List.getElem?_of_mem hm
 have hlt:j<b-a:=by
  have h1:j<((x.cps.toList.drop a).take (b-a)).length:=(List.getElem?_eq_some_iff.mp hj).1
  rw [List.length_take] at h1
  omega
 rw [List.getElem?_take_of_lt hlt,List.getElem?_drop] at hj
 exact hn (a+j) (by omega) (by omega) (yD hF hj)
theorem jb:∀(cuts:List Nat) (a f:Nat),StrLaws.ChainG x ⟨#[c,d]⟩ x.length a cuts f->(∀k,f<=k->¬StrLaws.At x ⟨#[c,d]⟩ x.length k)->∀p∈StrLaws.partsFrom x (⟨#[c,d]⟩:Str).length a cuts,c∉p.cps.toList
 | [],a,f,h,hn,p,hp=>by
  have e:f=a:=h
  subst e
  rw [List.mem_singleton.mp hp]
  exact gL hF f x.length (Nat.le_refl _) λk h1 _=>hn k h1
 | i::r,a,f,h,hn,p,hp=>by
  rcases List.mem_cons.mp hp with rfl | hp'
  ·exact gL hF a i (by have:=h.2.1.1;omega) h.2.2.1
  ·exact jb r _ f h.2.2.2 hn p hp'
theorem ni(hk:Builtin.Str.strKind x<Builtin.Str.strKind ⟨#[c,d]⟩->False):∀p∈Txt.split x ⟨#[c,d]⟩,c∉p.cps.toList:=by
 obtain ⟨f,hG,hn⟩:=StrLaws.occ_tight x ⟨#[c,d]⟩ (by show 1<=2;decide)
 unfold Txt.split
 split
 ·rename_i hc
  intro p hp
  rw [List.mem_singleton.mp hp]
  intro hm
  obtain ⟨j,hj⟩:=List.getElem?_of_mem hm
  have hA:=yD hF hj
  rw [Bool.or_eq_true,decide_eq_true_eq,decide_eq_true_eq] at hc
  rcases hc with h | h
  ·have:=hA.1;omega
  ·exact hk h
 ·split
  ·rename_i he
   intro p hp
   rw [List.mem_singleton.mp hp]
   have e0:occurrences x ⟨#[c,d]⟩ 0 x.length (x.length+1)=[]:=List.isEmpty_iff.mp he
   rw [e0] at hG
   have ef:f=0:=hG
   subst ef
   rw [← StrLaws.sub_whole x]
   exact gL hF 0 x.length (Nat.le_refl _) λk h1 _=>hn k h1
  ·rw [StrLaws.partsBetween_eq]
   exact jb hF _ 0 f hG hn
end
theorem pi{c d:Nat}(hc:c<256)(hd:d<256)(x:Str):¬Builtin.Str.strKind x<Builtin.Str.strKind ⟨#[c,d]⟩:=by
 have k1:(#[c,d]:Array Nat).all (·<256)=true:=by simp [hc,hd]
 unfold Builtin.Str.strKind
 rw [if_pos k1]
 split
 ·omega
 ·split<;>omega
theorem qG{z:Str}{c d:Nat}{ps:List (List Nat)}(hcd:c≠d)(hc:c<256)(hd:d<256)(ez:z.cps.toList=eK c d ps)(h0:ps≠[])(hp:∀p∈ps,c∉p):Txt.split z ⟨#[c,d]⟩=ps.map λp=>(⟨p.toArray⟩:Str):=by
 have e1:=gj c d (Txt.split z ⟨#[c,d]⟩)
 rw [StrLaws.join_split,ez] at e1
 have n1:(Txt.split z ⟨#[c,d]⟩).map (λy=>y.cps.toList)≠[]:=by
  intro e
  have:=split_pos z ⟨#[c,d]⟩
  rw [List.map_eq_nil_iff.mp e] at this
  exact absurd this (by decide)
 have hF:xu c d z.cps.toList:=by rw [ez];exact kW hcd hp
 have e2:=kR h0 n1 hp (λy hy=>by
  obtain ⟨p,hp',rfl⟩:=List.mem_map.mp hy
  exact ni hF (pi hc hd z) p hp') e1
 rw [e2,List.map_map]
 have e3:((λp:List Nat=>(⟨p.toArray⟩:Str))∘λy:Str=>y.cps.toList)=_root_.id:=by
  funext y
  obtain ⟨a⟩:=y
  simp
 rw [e3,List.map_id]
theorem uY{z x y:Str}{c:Nat}(ez:z.cps.toList=x.cps.toList++c::y.cps.toList)(hx:c∉x.cps.toList):Txt.partition z ⟨#[c]⟩=(x,⟨#[c]⟩,y):=by
 have lx:x.length=x.cps.toList.length:=by simp [Str.length]
 have hl:z.length=x.length+1+y.length:=by
  have e1:z.length=z.cps.toList.length:=by simp [Str.length]
  have e2:y.length=y.cps.toList.length:=by simp [Str.length]
  rw [e1,ez,e2,lx,List.length_append,List.length_cons]
  omega
 have ha:z.cps.toList[x.length]?=some c:=by rw [ez,lx,List.getElem?_append_right (Nat.le_refl _),Nat.sub_self];rfl
 have hA:=(StrLaws.subAt_one z c x.length).mpr ha
 have no:∀k,k<x.length->¬StrLaws.At z ⟨#[c]⟩ z.length k:=λk hk hAk=>by
  have e:=(StrLaws.subAt_one z c k).mp hAk
  rw [ez,List.getElem?_append_left (by omega)] at e
  exact hx (List.mem_of_getElem? e)
 obtain ⟨i,r,e,hi,hk⟩:∃i r,occurrences z ⟨#[c]⟩ 0 z.length 1=i::r/\StrLaws.At z ⟨#[c]⟩ z.length i/\∀k,k<i->¬StrLaws.At z ⟨#[c]⟩ z.length k :=
  (StrLaws.occ_head z ⟨#[c]⟩ 1 (Nat.le_refl _)).resolve_left λh=>h.2 _ hA
 have ei:i=x.length:=by
  rcases Nat.lt_trichotomy i x.length with h | h | h
  ·exact absurd hi (no _ h)
  ·exact h
  ·exact absurd hA (hk _ h)
 subst ei
 unfold Txt.partition
 rw [e]
 have ea:z.cps=(x.cps.toList++c::y.cps.toList).toArray:=by
  apply Array.toList_inj.mp
  rw [ez]
 have e1:strSub z 0 x.length=x:=by
  unfold strSub
  rw [ea,lx]
  obtain ⟨xs⟩:=x
  congr 1
  apply Array.toList_inj.mp
  simp
 have e2:strSub z (x.length+(⟨#[c]⟩:Str).length) z.length=y:=by
  unfold strSub
  rw [ea,hl]
  have e3:(⟨#[c]⟩:Str).length=1:=rfl
  rw [e3]
  obtain ⟨xs⟩:=x
  obtain ⟨ys⟩:=y
  congr 1
  apply Array.toList_inj.mp
  simp [Str.length]
  have e4:xs.toList++c::ys.toList=(xs.toList++[c])++ys.toList:=by simp
  rw [e4,List.drop_left' (by simp)]
  exact List.take_of_length_le (by simp)
 show (strSub z 0 x.length,(⟨#[c]⟩:Str),strSub z (x.length+(⟨#[c]⟩:Str).length) z.length)=_
 rw [e1,e2]
end Km
namespace Tb
open PySem PySem.SetTable
end Tb
namespace Tb
open PySem PySem.SetTable
end Tb
namespace Tb
open PySem PySem.SetTable
end Tb
namespace Tb
open PySem PySem.SetTable
end Tb
namespace Tb
open PySem PySem.SetTable
end Tb
namespace Tb
open PySem PySem.SetTable
end Tb
namespace Tb
open PySem PySem.SetTable
end Tb
namespace Tb
open PySem PySem.SetTable
end Tb
namespace Tb
open PySem PySem.SetTable
end Tb
namespace Tb
open PySem PySem.SetTable
end Tb
namespace Tb
open PySem PySem.SetTable
end Tb
namespace Tb
open PySem PySem.SetTable
end Tb
namespace Tb
open PySem PySem.SetTable
end Tb
namespace Tb
open PySem PySem.SetTable
end Tb
namespace L2
open PySem PySem.Spec PyProof.Rows PySem.W Tb
end L2
namespace St
open PySem PySem.Spec PyProof.Rows L2 Lo Km PySem.NumText
def tEx{ι:Type}(t:ι->TE):TE:=fun σ H Q=>∃i,t i σ H Q
theorem ja{X:Cx}{e:Expr}{ι:Type}{t:ι->TE}(h:∀i,PE X e (t i)):PE X e (tEx t):=λpins s σ H Q I q=>by
 obtain ⟨i,q⟩:=q
 exact h i pins s σ H Q I q
abbrev Stp:=Wd×List Int
def StsP(CW:Wd->Addr)(H:Hp)(xs:List Stp)(us:List V):Prop:=Paired (λ(x:Stp) v=>StO CW H x.1 x.2 v) xs us
theorem StsP.keep{CW:Wd->Addr}{H H':Hp}{xs:List Stp}{us:List V}(e:Same H H')(h:StsP CW H xs us):StsP CW H' xs us:=Paired.mapP h λ_ _ z=>z.keep e
def ArS(xs:List Stp):Prop:=∀x∈xs,Ar x.1 x.2
def sx(x:Stp):Str:=txt x.1 x.2
def pf(m:Str)(sl tp:Addr):List (Str×V):=aL "parts" (.ref tp) (aL "steps" (.ref sl) (aL "manner" (.str m) []))
theorem iN(m:Str)(sl tp:Addr):(pf m sl tp).lookup ("parts":Str)=some (.ref tp):=bj
theorem wJ(m:Str)(sl tp:Addr):(pf m sl tp).lookup ("manner":Str)=some (.str m):=by
 unfold pf
 rw [bv (by decide +kernel),bv (by decide +kernel),bj]
structure PaU(CP:Addr)(CW:Wd->Addr)(H:Hp)(m:Str)(xs:List Stp)(a dx sl tp:Addr)(us:List V):Prop where
 ins:H a=some (.ins CP dx (pf m sl tp))
 sl:H sl=some (.lst us)
 tp:H tp=some (.tup us)
 st:StsP CW H xs us
theorem PaU.keep{CP:Addr}{CW:Wd->Addr}{H H':Hp}{m:Str}{xs:List Stp}{a dx sl tp:Addr}{us:List V}(e:Same H H')(h:PaU CP CW H m xs a dx sl tp us):PaU CP CW H' m xs a dx sl tp us:=⟨e _ _ h.ins,e _ _ h.sl,e _ _ h.tp,h.st.keep e⟩
def PaO(CP:Addr)(CW:Wd->Addr)(H:Hp)(m:Str)(xs:List Stp)(v:V):Prop:=∃a dx sl tp us,v=.ref a/\PaU CP CW H m xs a dx sl tp us
theorem PaO.keep{CP:Addr}{CW:Wd->Addr}{H H':Hp}{m:Str}{xs:List Stp}{v:V}(e:Same H H')(h:PaO CP CW H m xs v):PaO CP CW H' m xs v:=by
 obtain ⟨a,dx,sl,tp,us,rfl,h⟩:=h
 exact ⟨a,dx,sl,tp,us,rfl,h.keep e⟩
structure TxP(K:PySem.W.Frag)(CP:Addr):Prop where
 cl:Cls K CP
 nm:NoAttr K CP "manner"
 ns:NoAttr K CP "steps"
 np:NoAttr K CP "parts"
def ptx(m:Str)(xs:List Stp):Str:=m++Str.ofString " "++Str.join (Str.ofString "; ") (xs.map sx)
theorem qw{x:Stp}(h:Ar x.1 x.2):(sx x).length<=1000:=by
 obtain ⟨wd,ns⟩:=x
 have e2:(txt wd ns).cps.toList=cE 32 ((wS wd::ns.map iS).map λy=>y.cps.toList):=by
  unfold txt
  rw [gH]
  exact cy 32 _
 have e3:(txt wd ns).length=(txt wd ns).cps.toList.length:=by simp [Str.length]
 have h1:=iT 32 ((wS wd::ns.map iS).map λy=>y.cps.toList)
 have h2:=ik (w:=wd) (ns:=ns) h
 have e4:((wS wd::ns.map iS).map λy=>y.cps.toList).map (·.length)=(wS wd::ns.map iS).map (·.length):=by
  rw [List.map_map]
  refine List.map_congr_left λy _=>?_
  simp [Str.length]
 have e5:(Str.ofString " ").length=1:=by decide +kernel
 rw [e4,List.length_map] at h1
 rw [e5,Nat.mul_one] at h2
 show (txt wd ns).length<=1000
 rw [e3,e2]
 omega
theorem oa(y:Str):∀ys:List Str,(Str.join y ys).length<=(ys.map (·.length)).sum+ys.length*y.length
 | []=>Nat.zero_le _
 | [x]=>by simp [Str.join]
 | a::u::ys=>by
  have ih:=oa y (u::ys)
  rw [join_cons_cons]
  have e:(a++y++Str.join y (u::ys)).length=a.length+y.length+(Str.join y (u::ys)).length:=by
   show ((a.cps++y.cps)++(Str.join y (u::ys)).cps).size=_
   rw [Array.size_append,Array.size_append]
   rfl
  rw [e,List.map_cons,List.sum_cons,List.length_cons (a:=a),Nat.succ_mul]
  omega
theorem yQ:Str.ofString "; "=⟨#[59,32]⟩:=by decide +kernel
theorem rS{xs:List Stp}(h:ArS xs):((xs.map sx).map (·.length)).sum<=xs.length*1000:=by
 have:=rT (ys:=xs.map sx) (k:=1000) λy hy=>by
  obtain ⟨x,hx,rfl⟩:=List.mem_map.mp hy
  exact qw (h x hx)
 rw [List.length_map] at this
 exact this
theorem j5{xs:List Stp}(h:ArS xs)(hl:xs.length<=20):(Str.join (Str.ofString "; ") (xs.map sx)).length<=30000:=by
 have h1:=oa (Str.ofString "; ") (xs.map sx)
 have h2:=rS h
 have e:(Str.ofString "; ").length=2:=by decide +kernel
 rw [e,List.length_map] at h1
 omega
theorem xL(x:Stp):59∉(sx x).cps.toList:=by
 obtain ⟨wd,ns⟩:=x
 have e2:(txt wd ns).cps.toList=cE 32 ((wS wd::ns.map iS).map λy=>y.cps.toList):=by
  unfold txt
  rw [gH]
  exact cy 32 _
 show 59∉(txt wd ns).cps.toList
 rw [e2]
 have key:∀ls:List (List Nat),(∀l∈ls,59∉l)->59∉cE 32 ls:=by
  intro ls
  induction ls with
  | nil=>intro _ h;cases h
  | cons a r ih =>
   intro h hm
   cases r with
   | nil=>exact h a List.mem_cons_self hm
   | cons b r =>
    rcases List.mem_append.mp (show 59∈a++32::cE 32 (b::r) from hm) with z | z
    ·exact h a List.mem_cons_self z
    ·rcases List.mem_cons.mp z with z | z
     ·cases z
     ·exact ih (λl hl=>h l (List.mem_cons_of_mem _ hl)) z
 refine key _ λl hl=>?_
 obtain ⟨y,hy,rfl⟩:=List.mem_map.mp hl
 rcases List.mem_cons.mp hy with rfl | hy
 ·cases wd<;>decide +kernel
 ·obtain ⟨i,_,rfl⟩:=List.mem_map.mp hy
  rw [oh]
  intro z
  rcases tR z with z | z<;>omega
theorem qH{xs:List Stp}(h0:xs≠[]):Txt.split (Str.join (Str.ofString "; ") (xs.map sx)) (Str.ofString "; ")=xs.map sx:=by
 rw [yQ]
 rw [qG (c:=59) (d:=32) (ps:=(xs.map sx).map λy=>y.cps.toList) (by decide) (by decide) (by decide) (gj 59 32 _) (by simp [h0]) λp hp=>by
  obtain ⟨y,hy,rfl⟩:=List.mem_map.mp hp
  obtain ⟨x,_,rfl⟩:=List.mem_map.mp hy
  exact xL x]
 rw [List.map_map]
 have e3:((λp:List Nat=>(⟨p.toArray⟩:Str))∘λy:Str=>y.cps.toList)=id:=by
  funext y
  obtain ⟨a⟩:=y
  simp
 rw [e3,List.map_id]
def mS(b:Bool):Str:=if b then "walked" else "held"
theorem yl(b:Bool):32∉(mS b).cps.toList:=by cases b<;>decide +kernel
theorem tV(b:Bool):(mS b).length<=6:=by cases b<;>decide +kernel
theorem sM(b:Bool)(xs:List Stp):Txt.partition (ptx (mS b) xs) (Str.ofString " ")=(mS b,Str.ofString " ",Str.join (Str.ofString "; ") (xs.map sx)):=by
 rw [gH]
 have e:(ptx (mS b) xs).cps.toList=(mS b).cps.toList++32::(Str.join (Str.ofString "; ") (xs.map sx)).cps.toList:=by
  unfold ptx
  rw [gH]
  show (((mS b).cps++#[32])++(Str.join (Str.ofString "; ") (xs.map sx)).cps).toList=_
  rw [Array.toList_append,Array.toList_append]
  simp
 rw [uY e (yl b)]
section
variable (CP:Addr)(CW:Wd->Addr)
def pS:Sp:=λvs H Q _=>∃l dx m q us,vs=[.ref l,.str m,.ref q]/\H l=some (.ins CP dx [])/\H q=some (.lst us)/\∀sl tp H',H' l=some (.ins CP dx (pf m sl tp))->H' sl=some (.lst us)->H' tp=some (.tup us)->H sl=none->H tp=none->Kp l H H'->Q .non H'
def lD:Sp:=λvs H Q _=>∃x k,vs=[.str (sx x),.int k]/\Ar x.1 x.2/\∀v H',Same H H'->StO CW H' x.1 x.2 v->Q v H'
def lE:Sp:=λvs H Q _=>∃b xs,vs=[.str (ptx (mS b) xs)]/\ArS xs/\xs≠[]/\xs.length<=12/\∀a dx sl tp us H',Same H H'->H sl=none->PaU CP CW H' (mS b) xs a dx sl tp us->Q (.ref a) H'
def hvI:V->Option Int
 | .int i=>some i
 | _=>none
def cI(xs:List Stp):Nat:=xs.findIdx λx=>decide (x.1=.give)
def oF:Sp:=λvs H Q _=>∃v b xs,vs=[v]/\PaO CP CW H (mS b) xs v/\xs.length<=20/\Q (.int (cI xs:Nat)) H
end
end St
namespace XA
open PySem
section
variable {M:Model}{A:Around}{E:Value->Shared->Prop}{s:Shared}{base:Heap}{env:Env}{outer:List Env}{L e:Addr}{od:Option Addr}{cls a0:Value}
end
end XA
namespace XA
open PySem
end XA
namespace L2.XA
open PySem PySem.Spec PyProof.Rows _root_.XA PySem.Builtin PySem.Builtin.ObjectAttr
end L2.XA
namespace L2.XA
open PySem PySem.Spec PyProof.Rows _root_.XA
end L2.XA
namespace L2.XA
open PySem PySem.Spec PyProof.Rows _root_.XA
end L2.XA
namespace L2.XA
open PySem PySem.Spec PyProof.Rows _root_.XA
end L2.XA
namespace St
open PySem PySem.Spec PyProof.Rows L2 Lo Km PySem.NumText
def kN:Wd->List Int->Int
 | .sum,[_,_,b]=>b
 | _,_::c::_=>c
 | _,_=>0
def bF(sz:List Int)(x:Stp):Bool:=match hvI (aP x.1 x.2) with
 | none=>true
 | some h=>decide (h<(sz.length:Nat))&&decide (kN x.1 x.2<(sz[h.toNat]?).getD 0)
def rL(sz:List Int)(xs:List Stp)(k:Nat):Prop:=∀j,j<k->∀x,xs[j]?=some x->bF sz x=true
def j2(xs:List Stp)(k:Nat):Prop:=∀j,cI xs<j->j<k->∀x,xs[j]?=some x->x.1≠.need
def Sz(H:Hp)(q:Addr)(sz:List Int):Prop:=H q=some (.lst (sz.map V.int))
theorem oi{x:Stp}(h:Ar x.1 x.2):(aP x.1 x.2=.non/\qc x.1 x.2=none)\/∃i,aP x.1 x.2=.int i/\0<=i/\∃k f,qc x.1 x.2=some (k,f,kN x.1 x.2):=by
 obtain ⟨wd,ns⟩:=x
 cases wd with
 | take=>obtain ⟨a,b,e,h1,_⟩:=Ar.c (w:=.take) rfl h;have e':ns=[a,b]:=e;subst e';exact .inr ⟨a,rfl,h1.1,_,_,rfl⟩
 | mean=>obtain ⟨a,b,e,h1,_⟩:=Ar.c (w:=.mean) rfl h;have e':ns=[a,b]:=e;subst e';exact .inr ⟨a,rfl,h1.1,_,_,rfl⟩
 | give=>obtain ⟨a,b,e,h1,_⟩:=Ar.c (w:=.give) rfl h;have e':ns=[a,b]:=e;subst e';exact .inr ⟨a,rfl,h1.1,_,_,rfl⟩
 | sum=>obtain ⟨a,b,c,e,h1,_⟩:=Ar.s h;have e':ns=[a,b,c]:=e;subst e';exact .inr ⟨a,rfl,h1.1,_,_,rfl⟩
 | add=>obtain ⟨a,b,c,e,h1,_⟩:=Ar.a h;have e':ns=[a,b,c]:=e;subst e';exact .inr ⟨a,rfl,h1.1,_,_,rfl⟩
 | plus=>exact .inl ⟨rfl,rfl⟩
 | need=>exact .inl ⟨rfl,rfl⟩
section
variable (CP:Addr)(CW:Wd->Addr)
def lB:Sp:=λvs H Q _=>∃v q x sz,vs=[v,.ref q]/\Ar x.1 x.2/\StO CW H x.1 x.2 v/\Sz H q sz/\∀H',Same H H'->Q (.bl (bF sz x)) H'
end
def rC(sz:List Int):Prop:=1<=sz.length/\sz.length<=5/\∀m∈sz,1<=m/\m<=8
end St
namespace L2
open PySem
variable {prog:Program}{w:World}{A:Around}{E:Value->Shared->Prop}{s:Shared}
section
variable {κ:Type} [DecidableEq κ] {knd:HeapKind prog w κ}{d a:Addr}
theorem gx{xs:List (κ×Addr×Value)}{k:κ}{v:Value}{Q:Value->Shared->Prop}(hu:knd.room A)(hkey:knd.is s.heap k a)(hm:s.heap.DictOfH knd d xs)
  (h1:∀p,atKey xs k=some p->Q p.2 {s with toks:=s.toks+knd.draws k})
  (h2:atKey xs k=none->∀h',h'.DictOfH knd d (xs++[(k,a,v)])->Heap.SameBut d s.heap h'->Q v {s with heap:=h',toks:=s.toks+knd.draws k})(hsz:xs.length<=sizeLine) :
  wpAny (model prog w) A (dictSetDefault d (.ref a) v) Q E s:=by
 obtain ⟨o,es,ep,ho,hc,hd,he,his,hn⟩:=hm
 unfold dictSetDefault
 try with_reducible refine wpAny_holding ?_
 refine wpAny_bind (knd.pyHash hu hkey ?_)
 refine wpAny_bind (wpAny_dictFind_heap (s:={s with toks:=s.toks+knd.draws k}) hu hkey ho hd he his hn (λhno=>?_) (λj p hj=>?_))
 ·have e0:=atKey_none_of_get hno
  have nk:k∉xs.map (·.1):=not_mem_keys_of_get hno
  refine wpAny_bind (wpAny_rule (wpAny_bind (wpAny_updateDictKeys (hz:=by have e:=size_of_entries he;omega) (s:={s with toks:=s.toks+knd.draws k}) ho hd (wpAny_pure (h2 e0 _ ⟨_,_,ep+1,Heap.get?_update_self _ ho (Obj.isFreed_of_dict (Obj.data_mapDictKeys hd _)),
   hc.mapDictKeys _,Obj.data_mapDictKeys hd _,?_,λx hx=>?_,?_⟩ (Heap.SameBut.update ..))))))
  ·simp [he,entryOfKey]
  ·rcases List.mem_append.mp hx with hx | hx
   ·exact knd.keeps (his x hx) ho hd (Heap.SameBut.update ..)
   ·have e1:=List.mem_singleton.mp hx
    subst e1
    exact knd.keeps hkey ho hd (Heap.SameBut.update ..)
  ·rw [List.map_append,List.nodup_append]
   refine ⟨hn,by simp,λx hx y hy e1=>?_⟩
   have hy':y=k:=by simpa using hy
   exact nk (hy'▸e1▸hx)
 ·refine wpAny_bind (wpAny_dictEntries (s:={s with toks:=s.toks+knd.draws k}) ho hd ?_)
  rw [entry_at he j,hj]
  exact wpAny_bind (wpAny_rule (wpAny_pure (h1 p (atKey_of_get hn hj))))
theorem hE(knd:HeapKind prog w κ)(d a:Addr)(hd:(d==sysModules)=false)(v:Value) :
  MeetsIn prog w (Builtin.«dict.setdefault» ⟨[.ref d, .ref a, v], []⟩) (fun A R s => knd.room A.in1 ∧ ∃ k xs, knd.is s.heap k a ∧ s.heap.DictOfH knd d xs ∧ xs.length ≤ sizeLine ∧
   (∀p,atKey xs k=some p->R (.ok (.ret p.2)) {s with toks:=s.toks+knd.draws k}) /\
   (atKey xs k=none->∀h',h'.DictOfH knd d (xs++[(k,a,v)])->Heap.SameBut d s.heap h'->R (.ok (.ret v)) {s with heap:=h',toks:=s.toks+knd.draws k})) :=
 .of_wp λA R s ⟨hu,k,xs,hkey,hm,hz,h1,h2⟩=>by
  unfold Builtin.«dict.setdefault»
  refine wpAny_bind ?_
  unfold Builtin.Dict.keyAndDefault
  refine wpAny_bind (wpAny_notOrdered_dict hm.typeIs ?_)
  show wpAny _ _ (pure (d,Value.ref a,some v)) _ _ s
  refine wpAny_pure ?_
  show wpAny _ _ (if (d==sysModules)=true then _ else (dictSetDefault d (.ref a) v >>= λ_=>_)) _ _ s
  have hne:¬((d==sysModules)=true):=by rw [hd];decide
  rw [if_neg hne]
  exact wpAny_bind (gx hu hkey hm (λp hp=>wpAny_pure ⟨_,rfl,h1 p hp⟩) (λe0 h' hm' hs'=>wpAny_pure ⟨_,rfl,h2 e0 h' hm' hs'⟩) hz)
end
end L2
namespace L2
open PySem PySem.Spec PyProof.Rows
def xH(td ty tx:TE):TE:=fun σ H Q=>td σ H λx H1=>∃a,x=.ref a/\IsD H1 a/\ty σ H1 λy H2=>tx σ H2 λz H3=>∃kvs k b,H3 a=some (.dT kvs)/\y=.ref b/\H3 b=some (.tup (k.map kV))/\kvs.length<sizeLine /\
 (∀v,gF kvs k=some v->Q v H3)/\(gF kvs k=none->Q z (upd H3 a (.dT (kvs++[(k,z)]))))
section
variable {X:Cx}{o e f i value:Expr}{apos cpos pos pos':Pos}{td ty tx tv:TE}
theorem uW(hu:X.A.units+1<cLine)(ho:PE X o td)(he:PE X e ty)(hf:PE X f tx)(m:M2 X o "setdefault" apos e f cpos):PE X (.Call (.Attribute o "setdefault" apos) [e,f] [] cpos) (xH td ty tx):=by
 intro pins s σ H Q I h
 refine wpAny_Call_method m.base m.few m.line PySem.F.plainAttrs_dict PySem.F.slot_dict_setdefault PySem.F.type_dict_setdefault (thn (ho pins s σ H _ I h) λu s1 ⟨x,H1,I1,rx,a,ex,d,q1⟩=>?_)
 subst ex
 obtain rfl:u=Value.ref a:=rx
 obtain ⟨t1,t2,_⟩:=xm I1 d
 refine ⟨t1,t2,?_⟩
 rw [m.trees]
 refine Calls.callWith_builtin rfl (Calls.evalArgs_plain (Calls.spliced_cons (thn (he pins s1 σ H1 _ I1 q1) λiv s2 ⟨y,H2,I2,ry,q2⟩ =>
  Calls.spliced_cons (thn (hf pins s2 σ H2 _ I2 q2) λfv s3 ⟨z,H3,I3,rz,kvs,k,b,ea,ey,eb,hl,q3,q4⟩=>Calls.spliced_nil ?_))))
 subst ey
 obtain rfl:iv=Value.ref b:=ry
 obtain ⟨hz,hd,xs,rel,dd⟩:=yz I3.hok ea
 have hz':xs.length<=sizeLine:=by rw [← Paired.length rel];exact hz
 refine call_meetsIn PySem.F.slot_dict_setdefault dd.typeIs PySem.F.entry_dict_setdefault (PySem.F.args_dict_setdefault_3 _ _ _) (hE (tupleKind (bY X.prog X.w)) a b hd fv) ⟨tupleKind_room_in1 hu,k,xs,t4 I3.hok eb,dd,hz',λp hp=>?_,λhn h' dd' hs=>?_⟩
 ·have rv:=rel.val k
  rw [hp] at rv
  cases l:gF kvs k with
  | none=>rw [l] at rv;exact (show False from rv).elim
  | some v =>
   rw [l] at rv
   exact ⟨v,H3,I3.tok _,rv,q3 v l⟩
 ·have rv:=rel.val k
  rw [hn] at rv
  have l:gF kvs k=none:=by
   cases l:gF kvs k with
   | none=>rfl
   | some v=>rw [l] at rv;exact (show False from rv).elim
  refine ⟨z,_,?_,rz,q4 l⟩
  obtain ⟨q,es,ep,hq,h2,h3,h4,_,h5⟩:=dd'
  have rel':KT H3 (kvs++[(k,z)]) (xs++[(k,b,fv)]):=Paired.snoc rel ⟨rfl,eb,rz⟩
  refine vE I3 (by rw [ea];exact True.intro) hs ⟨q,hq⟩ ⟨by rw [List.length_append];exact hl,hd,_,rel'.keeps λc ys ec=>?_,q,es,ep,hq,h2,h3,h4,h5⟩
  rw [aq (qa ec ea (λz=>nomatch z))]
  exact ec
end
section
variable {X:Cx}
theorem sO(hu:X.A.units<cLine):OpR X (compareOp .NotEq) (λx y H Q=>∃a b us,x=.ref a/\y=.ref b/\SqL X.K H a us/\SqL X.K H b []/\Q (.bl (!decide (us=[]))) H):=by
 intro pins s σ H x y v u Q I rx ry h
 obtain ⟨a,b,us,rfl,rfl,ha,hb,q⟩:=h
 cases rx
 cases ry
 obtain ⟨i1,v1,p1,_⟩:=I.list ha
 obtain ⟨i2,v2,p2,_⟩:=I.list hb
 cases v2
 have l1:=v1.length
 by_cases e:us=[]
 ·subst e
  cases v1
  have z:=SeqAt.RcNeAt.lists (A:=X.A) (s:=s) (e:=λ_=>true) p1.isList p2.isList rfl hu (λj h1 h2=>by cases h1)
  rw [decide_eq_true rfl] at q
  exact z X.prog X.w X.xe _ ⟨.bl false,H,I,rfl,q⟩
 ·have hsz:(i1.toArray.size != ([]:List Value).toArray.size)=true:=by
   have:i1.length≠0:=λz=>e (List.length_eq_zero_iff.mp (by rw [l1];exact z))
   simpa using this
  rw [decide_eq_false e] at q
  exact SeqAt.RcNeAt.lists_lengths p1.isList p2.isList hsz hu X.prog X.w X.xe _ ⟨.bl true,H,I,rfl,q⟩
end
end L2
namespace Lo
open PySem L2
theorem xn{k:Nat}{A:Around}(hr:Room k A):A.units+1<cLine:=hun (c:=0) hr
end Lo
namespace L2
open PySem PySem.Spec PyProof.Rows
set_option maxHeartbeats 1600000 in
theorem eI{X:Cx}{iy:Nat}{y:Str}{py spos:Pos}{elt iter:Expr}{x:Str}{px:Pos}{ifs:List Expr}{scope:Scope}{pos:Pos}{N':List Str}{fv:List Nat}{wi:TI}{tt:TT}{te:TE}
  (S:aT X.N X.env.scope scope x N' fv)(hc:X.calm=true)(hi:PI X (.Name x px) iter wi)
  (ht:∀C fp s H,PTs (X.blk N' scope C fp s H) ifs tt)(he:∀C fp s H,PE (X.blk N' scope C fp s H) elt te)
  (hN:X.N.Nodup)(hiy:X.N[iy]?=some y)(hxl:Loc X.env.scope y)(hsw:swapsWith (.ListComp elt [⟨.Name x px,iter,ifs,0⟩] scope pos) (some (.Name y py)) spos.line X.env=pure true:=by rfl)
  (hs:∀x,foldedSetIterable iter X.env x=pure x:=by intro _;rfl)(hf:X.fn y=true\/X.env.scope.names.lookup y=some .local:=by first | exact .inl rfl | exact .inr rfl | assumption) :
  PS X (.Assign [.Name y py] (.ListComp elt [⟨.Name x px,iter,ifs,0⟩] scope pos) spos) (wn (tLC wi fv tt te) (ud iy)):=by
 intro pins s σ H DE I h
 rw [exec_Assign_Name_used _ _ _ _ hsw]
 refine wpAny_bind (wpAny_standAt (wpAny_bind ?_))
 show wpAny _ X.A (do let _ ← comprehension (.ListComp elt [⟨.Name x px,iter,ifs,0⟩] scope pos) scope X.env _ (newList []) false (eval iter X.env) (some (assign (.Name y py) X.env))) _ _ s
 refine wpAny_bind (wpAny_mono (wpAny_comprehension_free (use:=some (assign (.Name y py) X.env)) (Q:=λ_ s'=>SP X pins DE .next s') rfl hs (fm λy hy hk=>I.ok.has y.1 (S.free y hy hk)) S.kind S.names
  (wpAny_mono (hi pins s σ H _ I h) (λxv s1 h1=>wpAny_mono h1 (λitv s2 h2=>?_) λ_ _ e=>e) λ_ _ e=>e)) (λ_ s' hq=>wpAny_pure (wpAny_pure hq)) λ_ _ e=>e)
 obtain ⟨it,fp,tn,J,H2,rfl,I2,T,st2,f2,W,n,w0,hn,turn⟩:=h2
 refine wpAny_newObj_type (wpAny_newFunctionEnv S.nocell (by intro y hy;simp at hy) (λh1 hns hsb=>?_) S.kind)
 dsimp only at hns hsb ⊢
 generalize hH:s2.heap.push {cls:=.type "list",dict:=none,data:=.seq ([]:List Value).toArray}=G at hns hsb ⊢
 have hG:G.objs.size=s2.heap.objs.size+1:=by rw [← hH,Heap.size_push]
 have kpG:∀b o,s2.heap.get? b=some o->G.get? b=some o:=λb o e=>hH▸Heap.get?_push_of_some _ e
 have kp1:∀b o,b<G.objs.size->G.get? b=some o->h1.get? b=some o:=λb o lt e=>hsb.extBut b o (Nat.ne_of_lt lt) (Heap.get?_push_of_some _ e)
 have kp:∀b o,s2.heap.get? b=some o->h1.get? b=some o:=λb o e=>kp1 b o (by rw [hG];exact Nat.lt_succ_of_lt (Heap.lt_size e)) (kpG b o e)
 have hD:h1.PlainList s2.heap.objs.size #[]:=⟨_,kp1 _ _ (by rw [hG];exact Nat.lt_succ_self _) (hH▸Heap.get?_push_size _ rfl)⟩
 have hDC:s2.heap.objs.size≠G.objs.size:=by rw [hG];exact Nat.ne_of_lt (Nat.lt_succ_self _)
 have hC:s2.heap.objs.size<=G.objs.size:=by rw [hG];exact Nat.le_succ _
 have hfo:∀b∈fp,b<s2.heap.objs.size:=λb hb=>by obtain ⟨o,e,_⟩:=T.obj 0 _ st2 b hb;exact Heap.lt_size e
 have stat:∀{H':Hp} {pl:List (Addr×Obj)},(∀b∈fp,H' b=none)->(∀p∈pl,p.1∉fp)->∀b∈fp,mV (X.blk N' scope G.objs.size fp s2 H2) pl H' b:=λ{H' pl} hn hpl b hb=>by
  obtain ⟨_,g1,g2,g3,g4,g5⟩:=f2 b hb
  refine ⟨hn b hb,Nat.ne_of_lt (Nat.lt_of_lt_of_le (hfo b hb) hC),λz=>?_,.inl hb,λy c e=>g4 y c (bH e),λp hp e=>?_⟩
  ·rcases List.mem_cons.mp (I2.stkSub b z) with q | q
   ·exact g1 q
   ·exact g2 q
  ·exact hpl p hp (e▸hb)
 have hDf:s2.heap.objs.size∉fp:=λz=>absurd (hfo _ z) (Nat.lt_irrefl _)
 have hlc:(X.blk N' scope G.objs.size fp s2 H2).env.scope.names.lookup x=some .local:=lookup_relabel_local S.loc
 have hcl:∀y c,(X.blk N' scope G.objs.size fp s2 H2).env.cells.lookup y=some c->c≠s2.heap.objs.size:=λy c e z=>by
  obtain ⟨v,q⟩:=I2.cell y c (bH e)
  exact absurd q.lt (by rw [z];exact Nat.lt_irrefl _)
 have pin1:∀{s':Shared} {H':Hp} {ob:Obj} {i:Nat} {ys:List V},Inv (X.blk N' scope G.objs.size fp s2 H2) [] (none::ba fv σ) H' s'->s'.heap.get? s2.heap.objs.size=some ob->(∀v,ob.data≠.cell v)->H' s2.heap.objs.size=none ->
   Inv (X.blk N' scope G.objs.size fp s2 H2) [(s2.heap.objs.size,ob)] (none::ba fv σ) H' s':=λ{s' H' ob i ys} J1 e d f=>J1.pins_of λp hp=>by
  have z:p=(s2.heap.objs.size,ob):=by simpa using hp
  subst z
  refine ⟨e,f,hDC,λz=>?_,d⟩
  rcases List.mem_cons.mp (I2.stkSub _ z) with q | q
  ·exact absurd I2.lt (by rw [← q];exact Nat.lt_irrefl _)
  ·exact I2.nofs (Nat.le_refl _) q
 have loop:∀s3:Shared,s3={s2 with heap:=h1,toks:=s2.toks+([]:List (Str×Value)).length} ->
   codeAny (model X.prog X.w) X.A (.compLoop (.ListComp elt [⟨.Name x px,iter,ifs,0⟩] scope pos) 0 (.ref it) (.ref s2.heap.objs.size) (X.blk N' scope G.objs.size fp s2 H2).env)
    (compPost (model X.prog X.w) X.A X.xe (some (assign (.Name y py) X.env)) (λ_ s'=>SP X pins DE .next s') (.ref s2.heap.objs.size) G.objs.size) s3:=by
  rintro s3 rfl
  refine codeAny_compLoop_tests (λk s'=>∃i ys H' its,k=n+1-i/\i<=n/\ys.length<=i/\Vals ys its/\s'.heap.PlainList s2.heap.objs.size its.toArray /\
   Inv (X.blk N' scope G.objs.size fp s2 H2) [] (none::ba fv σ) H' s'/\H' s2.heap.objs.size=none/\tn i s'.heap/\(∀b∈fp,H' b=none)/\W i ys H') ?_ (n+1)
   ⟨0,[],H2,[],rfl,Nat.zero_le _,Nat.le_refl _,.nil,hD,qo S I2 f2 hfo hC kp hns (λp hp=>nomatch hp),I2.hok.fresh (Nat.le_refl _),T.keep _ _ _ st2 λb _ o e=>kp b o e,λb hb=>(f2 b hb).1,w0⟩
  rintro k s4 ⟨i,ys,H4,its,rfl,hin,hyi,rv,pl4,I4,fD4,st4,ff4,w4⟩
  obtain ⟨cnt,eD⟩:=id pl4
  have I4p:=pin1 (i:=i) (ys:=ys) I4 eD (λv z=>by cases z) fD4
  have np:∀p∈[(s2.heap.objs.size,({cls:=.type "list",data:=.seq its.toArray cnt}:Obj))],p.1∉fp:=λp hp=>by
   have z:p=(s2.heap.objs.size,({cls:=.type "list",data:=.seq its.toArray cnt}:Obj)):=by simpa using hp
   subst z;exact hDf
  rcases turn i ys H4 w4 with ⟨stop,fin⟩ | ⟨go,hi2,step⟩
  ·refine wpAny_mono (T.done (X.blk N' scope G.objs.size fp s2 H2) rfl rfl rfl hc i _ s4 _ H4 _ I4p (stat ff4 np) st4 stop) (λr s5 ⟨hr,I5⟩=>?_) λ_ _ e=>e
   subst hr
   obtain ⟨m5,hm5,_⟩:=I5.loc
   have eD5:s5.heap.get? s2.heap.objs.size=some {cls:=.type "list",data:=.seq its.toArray cnt}:=(I5.pin _ (List.mem_append_right _ List.mem_cons_self)).1
   have IF:Inv X pins σ (upd H4 s2.heap.objs.size (.lst ys)) s5:=by
    have sb:Heap.SameBut G.objs.size s5.heap s5.heap:=⟨rfl,λ_ _=>rfl⟩
    have ltC:∀{b:Addr} {o:Obj},s2.heap.get? b=some o->b≠G.objs.size:=λ{b o} e=>Nat.ne_of_lt (Nat.lt_of_lt_of_le (Heap.lt_size e) hC)
    have fD2:H2 s2.heap.objs.size=none:=I2.hok.fresh (Nat.le_refl _)
    have ltD:∀{b:Addr} {o:Obj},s2.heap.get? b=some o->b≠s2.heap.objs.size:=λ{b o} e=>Nat.ne_of_lt (Heap.lt_size e)
    have B:=I5.base
    refine I2.call' (s':=s5) (ch:=fp) I5.os ⟨λb o e nb hb hx=>?_,λb o e nb hb hx=>?_,λb o e nb hx=>?_,λb o e hx=>?_,λb xs e=>?_,λb o u e=>?_,λb ps e=>?_⟩ ?_ I5.bare λb hb=>?_
    ·exact sb.extBut b o (ltC e) (B.keep b o e nb hb hx)
    ·obtain ⟨sl,q⟩:=B.slot b o e nb hb hx
     exact ⟨sl,sb.extBut b _ (ltC e) q⟩
    ·rw [aq (ltD e)];exact B.free b o e nb hx
    ·obtain ⟨o',q⟩:=B.there b o e hx
     exact ⟨o',sb.extBut b o' (ltC e) q⟩
    ·have e':H2 b=some (.tup xs):=e
     rw [aq (ap e' fD2)];exact B.tups b xs e
    ·have e':H2 b=some (.frz o u):=e
     rw [aq (ap e' fD2)];exact B.frzs b o u e
    ·have e':H2 b=some (.tbl ps):=e
     rw [aq (ap e' fD2)];exact B.tbls b ps e
    ·intro b u e
     by_cases hb:b=s2.heap.objs.size
     ·subst hb
      rw [ac] at e
      cases e
      exact ⟨Nat.le_trans hyi (Nat.le_trans hin hn),its,cnt,rv,sb.extBut _ _ hDC eD5⟩
     ·rw [aq hb] at e
      have fC:H4 G.objs.size=none:=I5.free
      refine (I5.hok b u e).stay (λc v hc' q=>sb.extBut c v ?_ q) (λc q=>by rw [aq (ap q fD4)];exact q) λc xs q=>by rw [aq (ap q fD4)];exact q
      rcases hc' with z | z
      ·subst z;exact ap e fC
      ·exact ap z fC
    ·obtain ⟨_,g1,g2,g3,g4,g5⟩:=f2 b hb
     exact ⟨g3,g1,g4,g5⟩
   obtain ⟨f0,f1,f2',f3,f4,f5⟩:=I2.fpOk (H':=H2) hC (I2.hok.fresh hC)
   show wpAny _ _ (assign (.Name y py) X.env (.ref s2.heap.objs.size)) _ _ s5
   refine wpAny_assign_Name (kD IF hN hiy hxl (v:=.ref s2.heap.objs.size) rfl (λs6 I6 ⟨a6,sb6,ha6⟩=>?_) hf)
   have nC:G.objs.size≠a6:=λz=>by
    rcases ha6 with e | e
    ·exact f1 (z.trans e)
    ·exact f4 _ _ e z.symm
   have fC:(upd H4 s2.heap.objs.size (.lst ys)) G.objs.size=none:=by
    rw [aq (Ne.symm hDC)]
    exact I5.free
   exact ⟨m5,hm5.sameBut sb6 nC,λh' sb'=>⟨_,_,I6.turned (t':=s6.toks) (it:=G.objs.size) (λb o hb e=>(sb'.2 b hb).trans e) fC f1 f3 f4 f5,fin _ fD4⟩⟩
  ·refine wpAny_mono (T.item (X.blk N' scope G.objs.size fp s2 H2) rfl rfl rfl hc i _ s4 _ H4 _ I4p (stat ff4 np) st4 go) (λr s5 ⟨u,hr,h5⟩=>?_) λ_ _ e=>e
   subst hr
   show wpAny _ _ (letOwnedTupleGo (.Name x px) (.ref it) u >>= λ_=>assign (.Name x px) (X.blk N' scope G.objs.size fp s2 H2).env u) _ _ s5
   refine wpAny_bind (wpAny_mono h5 (λ_ s6 ⟨xv,H6,I6,r6,y6,st6,ff6⟩=>?_) λ_ _ e=>e)
   have I6':=I6.pinned (stat ff6 np) (T.obj _ _ st6)
   have out:∀{σ':St} {H':Hp} {s':Shared},Inv (X.blk N' scope G.objs.size fp s2 H2) ([(s2.heap.objs.size,({cls:=.type "list",data:=.seq its.toArray cnt}:Obj))]++iM fp s6.heap) σ' H' s' ->
     s'.heap.PlainList s2.heap.objs.size its.toArray/\H' s2.heap.objs.size=none/\(∀b∈fp,H' b=none)/\(∀b∈fp,∀o,s6.heap.get? b=some o->s'.heap.get? b=some o):=λ{σ' H' s'} J1=>by
    have q:=J1.pin (s2.heap.objs.size,({cls:=.type "list",data:=.seq its.toArray cnt}:Obj)) (List.mem_append_right _ (List.mem_append_left _ List.mem_cons_self))
    refine ⟨⟨cnt,q.1⟩,q.2.1,λb hb=>?_,λb hb o e=>(J1.pin (b,o) (List.mem_append_right _ (List.mem_append_right _ (cL hb e)))).1⟩
    obtain ⟨o,e,d⟩:=T.obj _ _ st6 b hb
    exact (J1.pin (b,o) (List.mem_append_right _ (List.mem_append_right _ (cL hb e)))).2.1
   refine nox ((aU (X:=X.blk N' scope G.objs.size fp s2 H2) (i:=0) S.nd S.hd (.inl hlc) (.inr hlc)) _ s6 _ H6 xv u (fun σ' H'=>σ'=some xv::ba fv σ/\H'=H6) I6' r6 ⟨rfl,rfl⟩) λ_ s7 ⟨σ7,H7,I7,e7,e7'⟩=>?_
   subst e7 e7'
   refine nox (ht _ _ _ _ _ s7 _ H7 _ I7 (step xv H7 y6)) λok s8 ⟨H8,I8,q8⟩=>?_
   cases ok with
   | false =>
    obtain ⟨o1,o2,o3,o4⟩:=out I8
    exact ⟨n+1-(i+1),by omega,i+1,ys,H8,its,rfl,hi2,Nat.le_succ_of_le hyi,rv,o1,(I8.pins_of (pins':=[]) λp hp=>nomatch hp).weak (σ':=none::ba fv σ) rfl (λj v e=>by
     cases j with
     | zero=>cases (show (none:Option V)=some v from Option.some.inj e)
     | succ j=>exact e),o2,T.keep _ _ _ st6 o4,o3,q8⟩
   | true =>
    refine nox (he _ _ _ _ _ s8 _ H8 _ I8 q8) λyv s9 ⟨y,H9,I9,r9,q9⟩=>?_
    obtain ⟨o1,o2,o3,o4⟩:=out I9
    have hlen:=rv.length
    refine wpAny_list_append_plain (hsz:=by rw [List.size_toArray,← hlen];exact Nat.le_trans hyi (Nat.le_trans hin hn)) o1 λh' pl' sb'=>?_
    have I9':Inv (X.blk N' scope G.objs.size fp s2 H2) [] (some xv::ba fv σ) H9 {s9 with heap:=h'} :=
     (I9.pins_of (pins':=[]) λp hp=>nomatch hp).turned (t':=s9.toks) (it:=s2.heap.objs.size) (λb o hb e=>sb'.extBut b o hb e) o2 hDC (.inr (Nat.le_refl _)) hcl (λp hp=>nomatch hp)
    refine ⟨n+1-(i+1),by omega,i+1,ys++[y],H9,its++[yv],rfl,hi2,by rw [List.length_append];exact Nat.succ_le_succ hyi,rv.append (.cons r9 .nil),?_,I9'.weak (σ':=none::ba fv σ) rfl (λj v e=>by
     cases j with
     | zero=>cases (show (none:Option V)=some v from Option.some.inj e)
     | succ j=>exact e),o2,T.keep _ _ _ st6 λb hb o e=>sb'.extBut b o (λz=>hDf (z▸hb)) (o4 b hb o e),o3,q9⟩
    have e9:(its++[yv]).toArray=its.toArray.push yv:=by simp
    rw [e9]
    exact pl'
 exact codeAny_compStart_list (loop _ rfl) (T.self _ 0 _ _ _ (T.keep _ _ _ st2 λb _ o e=>kp b o e) (loop _ rfl))
end L2
namespace L2
open PySem PySem.Spec PyProof.Rows PySem.W
section
variable {prog:Program}{w:World}{A:Around}{E:Value->Shared->Prop}{s:Shared}
instance:Inhabited ((Int×Int)×Str):=⟨((0,0),Str.empty)⟩
end
end L2
namespace L2
open PySem PySem.Spec PyProof.Rows PySem.W
end L2
namespace L2
open PySem PySem.Spec PyProof.Rows PySem.W
end L2
namespace L2
open PySem PySem.Spec PyProof.Rows PySem.W
end L2
namespace L2
open PySem PySem.Spec PyProof.Rows PySem.W
end L2
namespace L2
open PySem PySem.Spec PyProof.Rows PySem.W
end L2
namespace Lo
open PySem L2
end Lo
namespace L2
open PySem PySem.Spec PyProof.Rows PySem.W
end L2
namespace L2
open PySem PySem.Spec PyProof.Rows PySem.W Lo
end L2
namespace L2
open PySem PySem.Spec PyProof.Rows PySem.W Lo Tb
end L2
namespace L2
open PySem PySem.Spec PyProof.Rows
section
variable {X:Cx}
theorem sQ(hu:X.A.units<cLine):OpR X (compareOp .Eq) (λx y H Q=>∃a b us,x=.ref a/\y=.ref b/\SqL X.K H a us/\SqL X.K H b []/\Q (.bl (decide (us=[]))) H):=by
 intro pins s σ H x y v u Q I rx ry h
 obtain ⟨a,b,us,rfl,rfl,ha,hb,q⟩:=h
 cases rx
 cases ry
 obtain ⟨i1,v1,p1,_⟩:=I.list ha
 obtain ⟨i2,v2,p2,_⟩:=I.list hb
 cases v2
 have l1:=v1.length
 by_cases e:us=[]
 ·subst e
  cases v1
  have z:=PySem.SeqAt.RcAt.lists (A:=X.A) (s:=s) (e:=λ_=>true) p1.isList p2.isList rfl hu (λj h1 h2=>by cases h1)
  rw [decide_eq_true rfl] at q
  exact z X.prog X.w X.xe _ ⟨.bl true,H,I,rfl,q⟩
 ·have hsz:(i1.toArray.size != ([]:List Value).toArray.size)=true:=by
   have:i1.length≠0:=λz=>e (List.length_eq_zero_iff.mp (by rw [l1];exact z))
   simpa using this
  rw [decide_eq_false e] at q
  exact PySem.SeqAt.RcAt.lists_lengths p1.isList p2.isList hsz hu X.prog X.w X.xe _ ⟨.bl false,H,I,rfl,q⟩
end
end L2
namespace Lo
open PySem L2
end Lo
namespace L2
open PySem PySem.Spec PyProof.Rows Lo
end L2
namespace L2
open PySem PySem.Spec PyProof.Rows
theorem vz{K:PySem.W.Frag}{H:Hp}{a:Addr}(n:Nat):EqIs K n H (.ref a) (.ref a) true:=λP w A s u v hA hok kin r1 r2=>by
 cases r1
 cases r2
 exact SeqAt.EqAt.same _
theorem eq_int{K:PySem.W.Frag}{H:Hp}(n:Nat)(i:Int):EqIs K n H (.int i) (.int i) true:=by
 have z:=(cInt.eq (K:=K) (H:=H) (x:=i) (y:=i) rfl rfl).mono (Nat.zero_le n)
 rwa [decide_eq_true rfl] at z
end L2
namespace L2
open PySem PySem.Spec PyProof.Rows PySem.W Lo
def BB(mg:Str->Option Value)(h:Heap):Prop:=∃bm ob,mg "__builtins__"=some (.ref bm)/\bm≠builtinsNs/\h.get? bm=some ob/\ob.cls=.type "module"/\ob.dict=some builtinsNs/\ob.data=.plain
def fo(c:Addr)(q:Str):HO:=.ext λh=>∃o vs t,h.get? c=some o/\o.data=.fields vs/\vs[1]?=some (.str q t)
def kl(p:Pos)(c:Addr):Array Value:=#[]++#[rawInt p.line,rawInt p.col,.ref c]
theorem rM(p:Pos)(c:Addr):(kl p c).toList=[rawInt p.line,rawInt p.col,.ref c]:=by simp [kl]
theorem rN(p:Pos)(c:Addr):codeAmong p (kl p c).toList=some (.ref c):=by
 rw [rM]
 simp [codeAmong,rawInt]
theorem uD(p:Pos)(c:Addr):TriplesOk (kl p c).toList:=by
 rw [rM]
 exact trivial
def Tb(H:Hp)(P:Addr)(p:Pos)(q:Str):Prop:=H P=some (.tbl #[])\/∃c,H P=some (.tbl (kl p c))/\H c=some (fo c q)
def noT:HO->Prop
 | .tbl _=>False
 | _=>True
theorem Tb.keep{H H':Hp}{P:Addr}{p:Pos}{q:Str}(e:Same H H')(h:Tb H P p q):Tb H' P p q:=h.elim (λz=>.inl (e _ _ z)) λ⟨c,z,y⟩=>.inr ⟨c,e _ _ z,e _ _ y⟩
theorem uo{Pg:Program}{w:World}{H:Hp}{h:Heap}{c:Addr}{q:Str}{o:Obj}{vs:Array Value}{t:Tok}(e:h.get? c=some o)(d:o.data=.fields vs)(v:vs[1]?=some (.str q t)) :
  ObjOk Pg w H h c (fo c q):=⟨⟨o,vs,t,e,d,v⟩,⟨_,e⟩,λ_ _ ⟨o,vs,t,e,r⟩ k=>⟨o,vs,t,k _ e,r⟩⟩
end L2
namespace HT
open PySem PyProof.Rows
section
open PySem.SeqAt
open PySem.AutoSeq1 (wpAny_loadPart')
open PySem.MeetsSeq PySem.MeetsSeq2 PySem.MeetsSeq3
end
end HT
namespace L2
open PySem PySem.Spec PyProof.Rows PySem.W Lo
end L2
namespace L2
open PySem PySem.Spec PyProof.Rows PySem.W Lo
theorem Fun.okC{P:Program}{w:World}{K:Frag}{mg:Str->Option Value}{base:Heap}{x qual:Str}{st:Stmt}{f:Addr}{fd:FuncData}{N ps:List Str}{k:Nat}{sp:Sp}(F:Fun K x qual st f fd)(S:ao N ps (defScope st))(len:∀vs H Q E,sp vs H Q E->vs.length=ps.length)
  (hbody:∀(A:Around) (outer:List Env) (s:Shared) (H:Hp) (vs:List V) (Q:VK) (E:XK),Room k (A.deeper (envOfC qual (defScope st) s.heap.objs.size f fd.code))->sp vs H Q E ->
   ∃t,PSs (pE CX0 P w K mg base N qual (defScope st) f fd.code A outer s H E).nox (defBody st) t/\t {nx:=λ_ H'=>Q .non H',rt:=Q} (start N vs) H):FnOk P w K mg base CX0 (k+1) f fd ps sp:=by
 obtain ⟨oc,od,kV,doc,pm,an,cdv,ct,osl,rfl,lk,hcd⟩:=F.ex
 refine vX lk hcd S len λA outer s H vs Q E hr hsp=>?_
 obtain ⟨t,h,q⟩:=hbody A outer s H vs Q E hr hsp
 exact ⟨t,h.nox,q⟩
end L2
namespace L2
open PySem PySem.Spec PyProof.Rows PySem.W Lo
theorem qg{h B B':Heap}:∀{l:List Env},h.FunFrames B l->(∀b∈frs l,B'.get? b=none)->h.FunFrames B' l
 | [],_,_=>trivial
 | env::r,⟨k,⟨L,o,fr,_,e,d⟩,t⟩,n=>by
  have m:frs (env::r)=L::frs r:=by
   show List.filterMap _ (env::r)=_
   rw [List.filterMap_cons,fr]
   rfl
  rw [m] at n
  exact ⟨k,⟨L,o,fr,n L List.mem_cons_self,e,d⟩,qg t λb hb=>n b (List.mem_cons_of_mem _ hb)⟩
def ii(l:List Env)(H:Hp)(h:Heap):Heap:=hideAll h (trk h H++frs l)
theorem i4{l:List Env}{H:Hp}{h:Heap}{b:Addr}{o:Obj}(e:h.get? b=some o)(n:H b=none)(nf:b∉frs l):(ii l H h).get? b=some o:=hideAll_get _ e λhm=>by
 rcases List.mem_append.mp hm with z | z
 ·have q:(H b).isSome=true:=(List.mem_filter.mp z).2
  rw [n] at q
  simp at q
 ·exact nf z
theorem j1{l:List Env}{H:Hp}{h:Heap}{b:Addr}{o:Obj}(e:(ii l H h).get? b=some o):h.get? b=some o/\H b=none/\b∉frs l:=by
 have e':h.get? b=some o:=of_hideAll _ e
 refine ⟨e',?_,λz=>?_⟩
 ·cases q:H b with
  | none=>rfl
  | some x =>
   have hm:b∈trk h H++frs l:=List.mem_append_left _ (List.mem_filter.mpr ⟨List.mem_range.mpr (Heap.lt_size e'),by simp [q]⟩)
   have z:(ii l H h).get? b=none:=hideAll_none _ hm
   rw [z] at e
   cases e
 ·have z:(ii l H h).get? b=none:=hideAll_none _ (List.mem_append_right _ z)
  rw [z] at e
  cases e
def uw(pp:List (Addr×Obj))(cs:List (Addr×V))(h:Heap):Prop:=(∀p∈pp,h.get? p.1=some p.2)/\∀c∈cs,∃u,RelV c.2 u/\h.IsCell c.1 (some u)
def pJ(X:Cx)(cs:List (Addr×V))(σ:St):Prop:=∀c∈cs,∃(i:Nat) (x:Str),X.N[i]?=some x/\σ[i]?=some (some c.2)/\X.env.kindOf x=some .cell/\X.env.cells.lookup x=some c.1/\X.fn x=true
section
variable {X:Cx}{pins:List (Addr×Obj)}{σ:St}{H:Hp}{s:Shared}
theorem Inv.nfr2(I:Inv X pins σ H s){b:Addr}{o:Obj}(e:X.base.get? b=some o):b∉frs X.stack:=λz=>by
 rcases List.mem_cons.mp (I.stkSub b z) with z | z
 ·have:=Heap.lt_size (I.ok.bs b o e).1
  rw [z] at this
  exact absurd this (Nat.not_lt.mpr I.ok.above)
 ·exact I.ok.nofr e z
theorem Inv.baseK(I:Inv X pins σ H s):∀b o,X.base.get? b=some o->(ii X.stack H s.heap).get? b=some o:=λb o e=>i4 (I.bs b o e).1 (I.bs b o e).2 (I.nfr2 e)
theorem Inv.modB(I:Inv X pins σ H s):Mod X.K X.mg (ii X.stack H s.heap):=by
 obtain ⟨k1,k2,⟨mb,k3,k4⟩,k5⟩:=I.ok.mod
 have kb:=I.baseK
 exact ⟨k1.keeps kb,k2.keeps kb,⟨mb,k3.keeps kb,k4⟩,k5.keeps kb⟩
theorem Inv.env0B(I:Inv X pins σ H s):Env0 X.prog X.w X.K X.mg (ii X.stack H s.heap) X.A X.stack s H:=by
 refine ⟨I.ok.frames,I.modB,λb o e=>⟨(j1 e).1,(j1 e).2.1⟩,Nat.le_of_eq (hideAll_size _ _),qg I.stack λb hb=>?_,I.stkFree,I.hok,I.bare⟩
 cases z:(ii X.stack H s.heap).get? b with
 | none=>rfl
 | some o=>exact absurd hb (j1 z).2.2
theorem Inv.pinB{pp:List (Addr×Obj)}{cs:List (Addr×V)}(I:Inv X pins σ H s)(hp:∀p∈pp,p∈X.pn)(hc:pJ X cs σ):uw pp cs (ii X.stack H s.heap):=by
 refine ⟨λp hm=>?_,λc hm=>?_⟩
 ·obtain ⟨e,n,nl,nf,_⟩:=I.pin p (List.mem_append_left _ (hp p hm))
  exact i4 e n λz=>(List.mem_cons.mp (I.stkSub _ z)).elim nl nf
 ·obtain ⟨i,x,h1,h2,h3,h4,h5⟩:=hc c hm
  obtain ⟨m,hn,hl⟩:=I.loc
  obtain ⟨u,r,lk⟩:=hl i x c.2 h1 h2 (.inr (.inl h3))
  rcases lk with ⟨z,_⟩ | ⟨_,c',e,o,ho,hd⟩
  ·rw [h3] at z
   cases z
  ·rw [h4] at e
   cases e
   refine ⟨u,r,o,i4 ho (I.freeC x _ h4) λz=>?_,hd⟩
   rcases List.mem_cons.mp (I.stkSub _ z) with z | z
   ·exact I.cne x _ h4 z
   ·obtain ⟨_,o',ho',_⟩:=I.ok.funs.mem z
    exact absurd (Heap.lt_size ho') (Nat.not_lt.mpr (I.ok.cab x _ h5 h4))
end
end L2
namespace L2
open PySem PySem.Spec PyProof.Rows PySem.W Lo
structure uz(N:List Str)(x:Str)(sc:Scope)(cl:List (Str×Addr)):Prop where
 kind:sc.kind=.function
 co:sc.isCoroutine=false
 gen:sc.isGenerator=false
 nd:N.Nodup
 pre:N[0]?=some x
 par:sc.names.lookup x=some .local
 nocell:∀y∈sc.names,y.2≠.cell
 free:∀y,sc.names.lookup y=some .free->∃c,cl.lookup y=some c
 inj:∀y z c,cl.lookup y=some c->cl.lookup z=some c->y=z
def um(CX:CXT)(P:Program)(w:World)(K:PySem.W.Frag)(mg:Str->Option Value)(base:Heap)(N:List Str)(qual:Str)(scope:Scope)(f:Addr)(cd:Value)(cl:List (Str×Addr))(A:Around)(outer:List Env)(s:Shared)(H:Hp)(E:XK):Cx where
 prog:=P
 w:=w
 K:=K
 mg:=mg
 base:=base
 A:=A.deeper (envX qual scope s.heap.objs.size f cd cl)
 N:=N
 s₀:=s
 H₀:=H
 env:=envX qual scope s.heap.objs.size f cd cl
 outer:=outer
 stack:=envX qual scope s.heap.objs.size f cd cl::outer
 ex:=[]
 calm:=true
 fn:=λ_=>false
 pn:=[]
 xe:=λe s'=>wpAny (model P w) (A.deeper (envX qual scope s.heap.objs.size f cd cl)) (leaving (envX qual scope s.heap.objs.size f cd cl) e) (λ_ s''=>CX outer H s E e s'') (λe' s''=>CX outer H s E e' s'') s'
end L2
namespace L2
open PySem PySem.Spec PyProof.Rows Lo
theorem qA{P:Program}{w:World}{K:PySem.W.Frag}{tg:Expr}(it:Addr)(lo:Int)(n:Nat):rB P w K tg (Itr lo n) [it] it (λi h=>IsLongIter h it (lo+(i:Nat)*1) ((n:Int)-(i:Nat)) 1) where
 mem:=by simp
 obj:=λi h st b hb=>by
  have e:b=it:=by simpa using hb
  subst e
  exact ⟨_,st,λv z=>by
   have z':Data.fields _=Data.cell v:=z
   cases z'⟩
 keep:=λi h h' st k=>k it (by simp) _ st
 item:=by
  intro X hP hw hK hc i pins s σ H E I hf st hg
  subst hP hw hK
  obtain ⟨f0,f1,f2,f3,f4,f5⟩:=hf it (by simp)
  have W:=Walks.longrange (prog:=X.prog) (w:=X.w) (I.ok.hd hc) it lo 1 n
  refine W.item i s _ _ hg st λv h' tk hv st' kk=>?_
  obtain ⟨t,rfl⟩:=hv
  have I1:Inv X pins σ H {s with heap:=h',toks:=tk}:=I.turned (λb o hb e=>kk b o (by simpa using hb) e) f0 f1 f3 f4 f5
  refine ⟨_,rfl,oj (s:={s with heap:=h',toks:=tk}) (n:="longrange_iterator") st' rfl rfl (by decide) ⟨.int (lo+i),H,I1,⟨t,?_⟩,⟨rfl,rfl⟩,st',λb hb=>(hf b hb).1⟩⟩
  rw [Int.mul_one]
 done:=by
  intro X hP hw hK hc i pins s σ H E I hf st hg
  subst hP hw hK
  obtain ⟨f0,f1,f2,f3,f4,f5⟩:=hf it (by simp)
  exact wpAny_pyNext_long_end (I.ok.hd hc) st (by have:n<=i:=hg;omega) λh' eb=>⟨rfl,I.turned (t':=s.toks) (λb o hb e=>eb b o hb e) f0 f1 f3 f4 f5⟩
 self:=λ_ _ _ _ _ st h=>wpAny_pyIter_longiter st h
section
variable {X:Cx}{tg:Expr}
theorem qJ{pins:List (Addr×Obj)}{σ:St}{H:Hp}{s:Shared}{R:It->Hp->Prop}{E:Value->Shared->Prop}{lo hi:Int}{t u v:Tok}{tk:Nat}(I:Inv X pins σ H s)
  (q:R (Itr lo (hi-lo).toNat) H):wpAny (model X.prog X.w) X.A (pyIter (.ref s.heap.objs.size)) (PIE X pins σ tg R) E {s with heap:=s.heap.push {cls:=.type "range",data:=.fields #[.int lo t,.int hi u,.int 1 v]},toks:=tk}:=by
 have I1:Inv X pins σ H {s with heap:=s.heap.push {cls:=.type "range",data:=.fields #[.int lo t,.int hi u,.int 1 v]},toks:=tk}:=I.kept λb o e=>Heap.get?_push_of_some _ e
 have e1:lo+((0:Nat):Int)*1=lo:=by simp
 have e2:(((hi-lo).toNat:Nat):Int)-((0:Nat):Int)=Builtin.Range.rangeSize lo hi 1:=by rw [rangeSize_one];split<;>omega
 have fp:∀b,b∈[(s.heap.push {cls:=.type "range",data:=.fields #[.int lo t,.int hi u,.int 1 v]}).objs.size]->b=(s.heap.push {cls:=.type "range",data:=.fields #[.int lo t,.int hi u,.int 1 v]}).objs.size:=λb hb=>by simpa using hb
 cases hs:Builtin.Range.small lo hi 1 with
 | true =>
  refine wpAny_pyIter_range (IsRange.new ..) hs ?_
  refine ⟨(s.heap.push {cls:=.type "range",data:=.fields #[.int lo t,.int hi u,.int 1 v]}).objs.size,[(s.heap.push {cls:=.type "range",data:=.fields #[.int lo t,.int hi u,.int 1 v]}).objs.size],_,_,H,rfl,
   I1.kept (t':=tk) λb o e=>Heap.get?_push_of_some _ e,jz _ lo (hi-lo).toNat,?_,λb hb=>?_,q⟩
  ·show IsRangeIter _ _ (lo+((0:Nat):Int)*1) ((((hi-lo).toNat:Nat):Int)-((0:Nat):Int)) 1
   rw [e1,e2]
   exact Heap.get?_push_size _ rfl
  ·obtain rfl:=fp b hb
   exact I1.fpOk (Nat.le_refl _) (I1.hok.fresh (Nat.le_refl _))
 | false =>
  refine wpAny_pyIter_longrange (IsRange.new ..) hs ?_
  refine ⟨(s.heap.push {cls:=.type "range",data:=.fields #[.int lo t,.int hi u,.int 1 v]}).objs.size,[(s.heap.push {cls:=.type "range",data:=.fields #[.int lo t,.int hi u,.int 1 v]}).objs.size],_,_,H,rfl,
   I1.kept (t':=tk) λb o e=>Heap.get?_push_of_some _ e,qA _ lo (hi-lo).toNat,?_,λb hb=>?_,q⟩
  ·show IsLongIter _ _ (lo+((0:Nat):Int)*1) ((((hi-lo).toNat:Nat):Int)-((0:Nat):Int)) 1
   rw [e1,e2]
   exact Heap.get?_push_size _ rfl
  ·obtain rfl:=fp b hb
   exact I1.fpOk (Nat.le_refl _) (I1.hok.fresh (Nat.le_refl _))
def yq(ta:TA):TI:=fun σ H R=>ta σ H λvs H1=>∃i j:Int,vs=[.int i,.int j]/\R (Itr i (j-i).toNat) H1
theorem qM{a b:Expr}{ta:TA}{p pos:Pos}(hg:Gl X "range")(hm:X.mg "range"=none)(ha:PA X [a,b] ta)(hs:starEach [a,b] X.env=[(false,eval a X.env),(false,eval b X.env)]:=by rfl)(hs2:starEach [b] X.env=[(false,eval b X.env)]:=by rfl) :
  PI X tg (.Call (.Name "range" p) [a,b] [] pos) (yq ta):=by
 intro pins s σ H R I h
 refine Call_ (iQ I hg hm boot_range (PyProof.Rows.callWith_type1 (thn (ha pos pins s σ H _ I h) λus s1 ⟨vs,H1,I1,r1,q1⟩=>?_) (by rw [hs,hs2]) (by rw [hs2];rfl)))
 obtain ⟨i,j,e,q⟩:=q1
 subst e
 cases r1 with
 | cons r rr =>
  cases rr with
  | cons r' rr =>
   cases rr
   obtain ⟨t,rfl⟩:=r
   obtain ⟨t',rfl⟩:=r'
   exact call_range_2 (qJ I1 q)
end
section
variable {H:Hp}{bl:St}{tt:TT}{te:TE}{Fin:List V->Hp->Prop}
theorem qW{lo:Int}{n:Nat}(Pv:Nat->List V->Hp->Prop)(h0:Pv 0 [] H)(hn:n<=sizeLine)
  (hs:∀(i:Nat) ys H,i<n->Pv i ys H->tt (some (.int (lo+i))::bl) H λc H2=>if c=true then te (some (.int (lo+i))::bl) H2 λy H3=>Pv (i+1) (ys++[y]) H3 else Pv (i+1) ys H2)
  (hd:∀ys H,Pv n ys H->Fin ys H) :
  ∃(W:Nat->List V->Hp->Prop) (m:Nat),W 0 [] H/\m<=sizeLine/\∀i ys H,W i ys H->((Itr lo n).stop i H/\Fin ys H) \/
   ((Itr lo n).go i H/\i<m/\∀x H',(Itr lo n).yld i H x H'->tt (some x::bl) H' λc H2=>if c=true then te (some x::bl) H2 λy H3=>W (i+1) (ys++[y]) H3 else W (i+1) ys H2):=by
 refine ⟨λi ys H=>i<=n/\Pv i ys H,n,⟨Nat.zero_le _,h0⟩,hn,?_⟩
 rintro i ys H ⟨hi,p⟩
 by_cases hlt:i<n
 ·refine .inr ⟨hlt,hlt,λx H' y=>?_⟩
  obtain ⟨e,y⟩:=y
  subst e
  subst y
  have z:=hs i ys _ hlt p
  have e1:(λ(c:Bool) (H2:Hp)=>if c=true then te (some (.int (lo+i))::bl) H2 λy H3=>i+1<=n/\Pv (i+1) (ys++[y]) H3 else i+1<=n/\Pv (i+1) ys H2)=λc H2=>if c=true then te (some (.int (lo+i))::bl) H2 λy H3=>Pv (i+1) (ys++[y]) H3 else Pv (i+1) ys H2:=by
   have e2:(i+1<=n)=True:=eq_true hlt
   funext c H2
   simp only [e2,true_and]
  show tt _ _ _
  rw [e1]
  exact z
 ·have e:i=n:=by omega
  subst e
  exact .inl ⟨Nat.le_refl _,hd ys H p⟩
end
end L2
namespace L2
open PySem PySem.Spec PyProof.Rows Lo
end L2
namespace L2
open PySem PySem.Spec PyProof.Rows Lo
theorem mh{K:PySem.W.Frag}{H:Hp}{a b:Addr}{n:Nat}{us vs:List V}(ha:SqT K H a us)(hb:SqT K H b vs)(h:Paired (λx y=>EqIs K n H x y true) us vs):mU K (n+1) H (.ref a) (.ref b) true/\EqIs K (n+1) H (.ref a) (.ref b) true:=by
 obtain ⟨z1,z2⟩:=xy (e:=λ_=>true) ha hb h.len λj x y e1 e2=>by
  obtain ⟨v,ev,rv⟩:=h.get1 e1
  rw [e2] at ev
  cases ev
  exact rv
 have e:((List.range us.length).all λ_=>true)=true:=by simp
 rw [e] at z1
 exact ⟨z1,oo z1 λ_ _ _ _ _ _=>rfl⟩
theorem mo{X:Cx}(n:Nat)(hu:X.A.units+n<cLine):OpR X (compareOp .Eq) (λx y H Q=>mU X.K n H x y true/\Q (.bl true) H):=by
 intro pins s σ H x y v u Q I rx ry h
 exact h.1 X.prog X.w X.A s v u hu I.hok I.kIn rx ry X.prog X.w X.xe _ ⟨.bl true,H,I,rfl,h.2⟩
end L2
namespace L2
open PySem PySem.Spec PyProof.Rows PySem.W Lo
end L2
namespace L2
open PySem PySem.Spec PyProof.Rows PySem.W Lo
end L2
namespace L2
open PySem PySem.Spec PyProof.Rows PySem.W Lo
end L2
namespace L2
open PySem PySem.Spec PyProof.Rows PySem.W Lo
def ij(f:Addr)(q:Str)(pr:Arguments)(b:Expr)(sc:Scope)(cl:List (Str×Addr))(c:Addr):HO:=.ext λh=>∃pm ct,h.get? f=some {cls:=.type "function",data:=.func (kla_fn "<lambda>" q pr b sc cl pm (.ref c) ct)}
theorem nY{Pg:Program}{w:World}{H:Hp}{h:Heap}{f:Addr}{q:Str}{pr:Arguments}{b:Expr}{sc:Scope}{cl:List (Str×Addr)}{c:Addr}{pm ct:Value}(e:h.get? f=some {cls:=.type "function",data:=.func (kla_fn "<lambda>" q pr b sc cl pm (.ref c) ct)}) :
  ObjOk Pg w H h f (ij f q pr b sc cl c):=⟨⟨pm,ct,e⟩,⟨_,e⟩,λ_ _ ⟨pm,ct,e⟩ k=>⟨pm,ct,k _ e⟩⟩
def xF(P:Addr)(p:Pos)(q:Str)(pr:Arguments)(b:Expr)(sc:Scope)(cl:List (Str×Addr)):TE:=λ_ H Q=>Tb H P p q/\∀f c H',Kp P H H'->H' P=some (.tbl (kl p c))->((H P=some (.tbl #[])/\H c=none)\/H P=some (.tbl (kl p c)))->H f=none->H' f=some (ij f q pr b sc cl c)->H' c=some (fo c q)->Q (.ref f) H'
theorem p8{X:Cx}{cl:List (Str×Addr)}{cc P:Addr}{pos:Pos}{q:Str}{pr:Arguments}{b:Expr}{sc:Scope}(hcode:X.env.code=.ref cc)(hC:codeHdIn X.K cc P=true)(hB:BB X.mg X.base)(hq:X.env.qual++"<lambda>"=q)
  (hcl:closureFor sc X.env=pure cl)(hdef:defaultsOf pr X.env=([],[])):PE X (.Lambda pr b sc pos) (xF P pos q pr b sc cl):=by
 intro pins s σ H Q I h
 obtain ⟨htb,hQ⟩:=h
 subst hq
 refine kla_eval hdef ?_
 have hg:s.heap.Ns mainGlobals X.mg:=I.ok.mod.glob.keeps I.bk
 have C:CodeHd s.heap cc P:=codeHd_of_K I.kIn hC
 obtain ⟨bm,ob,b1,b2,b3,b4,b5,b6⟩:=hB
 have b3':=I.bk _ _ b3
 have hbG:bm≠mainGlobals:=λz=>by
  obtain ⟨o,es,ep,e,hd,_⟩:=hg
  rw [z,e] at b3'
  cases b3'
  rw [hd] at b6
  cases b6
 have nG:∀ps,s.heap.get? P=some (tabObj ps)->mainGlobals≠P/\bm≠P:=λps e=>by
  refine ⟨λz=>?_,λz=>?_⟩
  ·obtain ⟨o,es,ep,e',hd,_⟩:=hg
   rw [z,e] at e'
   cases e'
   cases hd
  ·rw [z,e] at b3'
   cases b3'
   cases b4
 rcases htb with e | ⟨c,e,ec⟩
 ·have hP:s.heap.get? P=some (tabObj #[]):=I.hok P _ e
  obtain ⟨n1,n2⟩:=nG _ hP
  refine kla_makeFunction (mg:=X.mg) (clos:=cl) hcl I.ok.glob hg hcode C hP trivial rfl n1 ⟨bm,ob,b1,b2,hbG,n2,b3',b4,b5,b6⟩ λc ct h' tk hx hge hlt hrec htb=>?_
  obtain ⟨c₂,oc,vs,t,e2,hoc,hd,hv⟩:=hrec
  cases e2
  have ltP:P<s.heap.objs.size:=Heap.lt_size hP
  have hc0:H c=none:=I.hok.fresh hge
  have hf0:H h'.objs.size=none:=I.hok.fresh (Nat.le_of_lt (Nat.lt_of_le_of_lt hge hlt))
  have cf:c≠h'.objs.size:=Nat.ne_of_lt hlt
  have Pc:P≠c:=Nat.ne_of_lt (Nat.lt_of_lt_of_le ltP hge)
  have Pf:P≠h'.objs.size:=Nat.ne_of_lt (Nat.lt_trans (Nat.lt_of_lt_of_le ltP hge) hlt)
  let H3:Hp:=upd (upd (upd H P (.tbl (kl pos c))) c (fo c (X.env.qual++"<lambda>"))) h'.objs.size (ij h'.objs.size (X.env.qual++"<lambda>") pr b sc cl c)
  have at3:∀d,d≠h'.objs.size->d≠c->d≠P->H3 d=H d:=λd n1 n2 n3=>(aq n1).trans ((aq n2).trans (aq n3))
  have atf:H3 h'.objs.size=some (ij h'.objs.size (X.env.qual++"<lambda>") pr b sc cl c):=ac
  have atc:H3 c=some (fo c (X.env.qual++"<lambda>")):=(aq cf).trans ac
  have atP:H3 P=some (.tbl (kl pos c)):=(aq Pf).trans ((aq Pc).trans ac)
  have old:∀d o,d≠P->H d=some o->H3 d=some o:=λd o n z=>(at3 d (ap z hf0) (ap z hc0) n).trans z
  have kp:∀d o,d≠P->s.heap.get? d=some o->(h'.push (kla_obj "<lambda>" (X.env.qual++"<lambda>") pr b sc cl ((X.mg "__name__").getD .none) c ct)).get? d=some o:=λd o n z=>Heap.get?_push_of_some _ (hx d o n z)
  have noP:∀d,H d=none->d≠P:=λd z y=>by
   rw [y,e] at z
   cases z
  have noTP:∀d o,noT o->H d=some o->d≠P:=λd o n z y=>by
   rw [y,e] at z
   cases z
   exact n
  have I3:Inv X pins σ H3 {s with heap:=h'.push (kla_obj "<lambda>" (X.env.qual++"<lambda>") pr b sc cl ((X.mg "__name__").getD .none) c ct),toks:=tk}:=by
   refine I.step (g':=s.gens) (d':=s.drawn) (t':=tk) (ch:=[]) (λ_ z=>nomatch z) (λd o _ _ _ z n=>kp d o (noP d n) z) (λd o _ _ _ z n=>⟨o.slots,kp d o (noP d n) z⟩) (λd o _ z n=>?_) (λd o _ z=>?_)
    (λd xs z=>old d _ (noTP d (.tup xs) trivial z) z) (λd o u z=>old d _ (noTP d (.frz o u) trivial z) z) (λd ps z=>?_) (λm hm=>?_) (λd u z=>?_) I.bare
   ·have l:=Heap.lt_size z
    exact (at3 d (Nat.ne_of_lt (Nat.lt_of_lt_of_le l (Nat.le_of_lt (Nat.lt_of_le_of_lt hge hlt)))) (Nat.ne_of_lt (Nat.lt_of_lt_of_le l hge)) (noP d n)).trans n
   ·by_cases y:d=P
    ·rw [y]
     exact ⟨_,Heap.get?_push_of_some _ htb⟩
    ·exact ⟨o,kp d o y z⟩
   ·by_cases y:d=P
    ·subst y
     rw [e] at z
     cases z
     exact ⟨#[rawInt pos.line,rawInt pos.col,.ref c],atP⟩
    ·exact ⟨#[],by rw [old d _ y z];simp⟩
   ·obtain ⟨o,es,ep,ho,r⟩:=hm
    exact ⟨o,es,ep,kp _ o (noP _ I.free) ho,r⟩
   ·by_cases y1:d=h'.objs.size
    ·subst y1
     rw [atf] at z
     cases z
     exact nY (Heap.get?_push_size _ rfl)
    ·by_cases y2:d=c
     ·subst y2
      rw [atc] at z
      cases z
      exact uo (Heap.get?_push_of_some _ hoc) hd hv
     ·by_cases y3:d=P
      ·subst y3
       rw [atP] at z
       cases z
       exact Heap.get?_push_of_some _ htb
      ·rw [at3 d y1 y2 y3] at z
       refine (I.hok d u z).stay (λa v ha q=>kp a v ?_ q) (λa q=>old a _ (noTP a (.own d) trivial q) q) λa xs q=>old a _ (noTP a (.tup xs) trivial q) q
       rcases ha with ha | ha
       ·rw [ha]
        exact y3
       ·exact noTP a (.own d) trivial ha
  exact ⟨.ref h'.objs.size,H3,I3,rfl,hQ _ c H3 (λd o n z=>old d o n z) atP (.inl ⟨e,hc0⟩) hf0 atf atc⟩
 ·have hP:s.heap.get? P=some (tabObj (kl pos c)):=I.hok P _ e
  obtain ⟨n1,n2⟩:=nG _ hP
  refine kla_makeFunctionHit (mg:=X.mg) (clos:=cl) (cv:=.ref c) hcl I.ok.glob hg hcode C hP (uD _ _) (rN _ _) ⟨bm,ob,b1,b2,hbG,n2,b3',b4,b5,b6⟩ λct h' tk hk hz=>?_
  have hf0:H h'.objs.size=none:=I.hok.fresh hz
  have sm:=ai (o:=ij h'.objs.size (X.env.qual++"<lambda>") pr b sc cl c) hf0
  exact ⟨.ref h'.objs.size,_,I.laid (o:=ij h'.objs.size (X.env.qual++"<lambda>") pr b sc cl c) (t':=tk) (λd o z=>Heap.get?_push_of_some _ (hk d o z)) hz (nY (Heap.get?_push_size _ rfl)),rfl,
   hQ _ c _ (Kp.of sm) (sm _ _ e) (.inr e) hf0 ac (sm _ _ ec)⟩
theorem nX{P:Program}{w:World}{K:Frag}{mg:Str->Option Value}{base:Heap}{A:Around}{outer:List Env}{s:Shared}{H:Hp}{k:Nat}{f c:Addr}{q:Str}{pr:Arguments}{b:Expr}{sc:Scope}{cl:List (Str×Addr)}{N:List Str}{x:Str}{fvs:List V}{cs:List (Addr×V)}{u:Value}{v:V}{Q:VK}
  (hr:Room (k+1) A)(e0:Env0 P w K mg base A outer s H)(hB:uw [] cs base)(S:uz N x sc cl)(hlen:N.length=fvs.length+1)(hcl:∀y a,cl.lookup y=some a->∃v,(a,v)∈cs)
  (hfv:∀(j:Nat) (y:Str) (v:V),N[j+1]?=some y->fvs[j]?=some v->sc.names.lookup y=some .free/\∃a,cl.lookup y=some a/\∀v',(a,v')∈cs->v'=v)(hf:H f=some (ij f q pr b sc cl c))(hc:H c=some (fo c q))(r:RelV v u)
  (hb:∀pm ct,BindsTo s (kla_fn "<lambda>" q pr b sc cl pm (.ref c) ct) ⟨[u],[]⟩ [(x,u)])(hbody:∃t,PE (um CX0 P w K mg base N q sc f (.ref c) cl A outer s H E0) b t/\t ((v::fvs).map some) H Q) :
  codeAny (model P w) A (.call (.ref f) ⟨[u],[]⟩) (CR CX0 outer P w H s Q E0) s:=by
 have lim:s.heap.NoLimit:=e0.mod.nolimit.keeps λb o e=>(e0.bs b o e).1
 obtain ⟨⟨pm,ct,ho⟩,_⟩:=(show ObjOk P w H s.heap f (ij f q pr b sc cl c) from e0.hok f _ hf)
 obtain ⟨⟨oc,ws,t,hoc,hd,hv⟩,_⟩:=(show ObjOk P w H s.heap c (fo c q) from e0.hok c _ hc)
 obtain ⟨_,hcs⟩:=hB
 refine kla_callFunE (by have:=hr.dp;omega) ho rfl S.co S.gen rfl ⟨c,oc,ws,t,rfl,hoc,hd,hv⟩ (hb pm ct _ _ _ _ ?_)
 refine wpAny_newFunctionEnv S.nocell (λy hy=>by obtain rfl:=List.mem_singleton.mp hy;exact S.par) (λh₁ hns hsb=>⟨lim.fresh _ hsb,kla_codeExpr ?_⟩) S.kind
 have hk₁:∀b o,s.heap.get? b=some o->h₁.get? b=some o:=λb o e=>hsb.extBut b o (Nat.ne_of_lt (Heap.lt_size e)) (Heap.get?_push_of_some _ e)
 obtain ⟨t,ht,hq⟩:=hbody
 have cG:∀y a,cl.lookup y=some a->∃v,(a,v)∈cs/\∃u,RelV v u/\s.heap.IsCell a (some u)/\H a=none:=λy a e=>by
  obtain ⟨v,hm⟩:=hcl y a e
  obtain ⟨u,ru,o,ho,hd⟩:=hcs _ hm
  exact ⟨v,hm,u,ru,⟨o,(e0.bs _ _ ho).1,hd⟩,(e0.bs _ _ ho).2⟩
 have noA:∀b:Addr,b∉(um CX0 P w K mg base N q sc f (.ref c) cl A outer s H E0).ex:=λb z=>absurd (show b∈([]:List Addr) from z) (by simp)
 have I:Inv (um CX0 P w K mg base N q sc f (.ref c) cl A outer s H E0) [] ((v::fvs).map some) H {s with heap:=h₁,toks:=s.toks+[(x,u)].length}:=by
  refine ⟨⟨e0.mod,S.kind,rfl,rfl,Nat.le_refl _,S.inj,λy hy=>?_,λy c h _=>absurd h (by show ¬(false=true);decide),λ_=>hr.hd,Around.frames_deeper e0.frames,.inr ⟨rfl,rfl⟩,λb z=>absurd z (noA b),e0.bs,e0.bsz,λb _ _=>noA b,λb z=>absurd z (noA b),e0.funs,e0.frf⟩,
   rfl,e0.bare,Un.kept hk₁,⟨_,hns,λi y v' h1 h2 h3=>?_⟩,λy a e=>?_,e0.hok.fresh (Nat.le_refl _),λy a e=>?_,λp hp=>absurd (show p∈([]:List (Addr×Obj)) from hp) (by simp),e0.hok.kept hk₁,?_⟩
  ·have hy:sc.names.lookup y=some .cell\/sc.names.lookup y=some .free:=hy
   rcases hy with hy | hy
   ·exact absurd rfl (S.nocell _ (PySem.mem_of_lookup hy))
   ·exact S.free y hy
  ·cases i with
   | zero =>
    have e1:some x=some y:=S.pre.symm.trans h1
    cases e1
    have e2:some (some v)=some (some v'):=h2
    cases e2
    exact ⟨u,r,.inl ⟨S.par,by simp⟩⟩
   | succ j =>
    have e2:(fvs.map some)[j]?=some (some v'):=h2
    rw [List.getElem?_map] at e2
    cases e3:fvs[j]? with
    | none =>
     rw [e3] at e2
     cases e2
    | some v2 =>
     rw [e3] at e2
     cases e2
     obtain ⟨hf,a,ea,hu⟩:=hfv j y _ h1 e3
     obtain ⟨v3,hm,u3,r3,⟨o,ho,hd3⟩,_⟩:=cG y a ea
     obtain rfl:=hu _ hm
     exact ⟨u3,r3,.inr ⟨.inr hf,a,ea,o,hk₁ _ _ ho,hd3⟩⟩
  ·obtain ⟨v3,hm,u3,r3,⟨o,ho,hd3⟩,_⟩:=cG y a e
   exact ⟨_,o,hk₁ _ _ ho,hd3⟩
  ·obtain ⟨v3,hm,u3,r3,_,n⟩:=cG y a e
   exact n
  ·show _=N.length
   rw [hlen]
   simp
 refine wpAny_mono (ht [] _ _ H Q I hq) (λu s' hs=>?_) λe s' hs=>hs
 obtain ⟨v,H',J,rv,q⟩:=hs
 exact ⟨v,H',J.os,J.bare,J.base,J.hok,rv,q⟩
structure CloT(P:Program)(w:World)(K:Frag)(mg:Str->Option Value)(base:Heap)(k:Nat)(f:Addr)(sp:Sp)(H:Hp):Prop where
 fn:∃q pr b sc cl c,H f=some (ij f q pr b sc cl c)
 run:∀(H1:Hp) (A:Around) (outer:List Env) (s:Shared) (v:V) (u:Value) (Q:VK),Same H H1->Room k A->Env0 P w K mg base A outer s H1->RelV v u->sp [v] H1 Q E0->codeAny (model P w) A (.call (.ref f) ⟨[u],[]⟩) (CR CX0 outer P w H1 s Q E0) s
theorem CloT.keep{P:Program}{w:World}{K:Frag}{mg:Str->Option Value}{base:Heap}{k:Nat}{f:Addr}{sp:Sp}{H H':Hp}(h:CloT P w K mg base k f sp H)(e:Same H H'):CloT P w K mg base k f sp H' :=
 ⟨let ⟨q,pr,b,sc,cl,c,z⟩:=h.fn;⟨q,pr,b,sc,cl,c,e _ _ z⟩,λH1 A outer s v u Q e1 hr e0 r hs=>h.run H1 A outer s v u Q (e.trans e1) hr e0 r hs⟩
section
variable {X:Cx}{CX:CXT}{k:Nat}{f C:Addr}{fd:FuncData}{ps:List Str}{E:XK}{x m:Str}{p pos apos:Pos}{e o:Expr}{es:List Expr}{ta:TE}{t:TA}{cs:List (Addr×V)}
def wm(P:Program)(w:World)(K:Frag)(mg:Str->Option Value)(base:Heap)(k i:Nat)(sp:Sp)(t:TA):TE:=fun σ H Q=>∃f,σ[i]?=some (some (.ref f))/\(∃q pr b sc cl c,H f=some (ij f q pr b sc cl c))/\t σ H λvs H1=>∃v,vs=[v]/\CloT P w K mg base k f sp H1/\sp [v] H1 Q E0
theorem g6{i:Nat}{sp:Sp}(P:Program)(w:World)(K:Frag)(mg:Str->Option Value)(base:Heap)(hN:X.N[i]?=some x)(hv:Vis X.env.scope x)(hr:Room k X.A)(ha:PA X [e] t)(hP:X.prog=P:=by rfl)(hw:X.w=w:=by rfl)(hK:X.K=K:=by rfl)(hmg:X.mg=mg:=by rfl)(hbs:X.base=base:=by rfl)
  (hdb:(x==("__debug__":Str))=false:=by decide)(hcd:(x==("__classdict__":Str))=false:=by decide)(he:starEach [e] X.env=(false,eval e X.env)::starEach [] X.env:=by rfl)(hpl:(backTo pos (starEach [] X.env)).any (·.1)=false:=by rfl) :
  PE X (.Call (.Name x p) [e] [] pos) (wm P w K mg base k i sp t):=by
 subst hP hw hK hmg hbs
 intro pins s σ H Q I ⟨f,hσ,hf,h⟩
 have at':∀{σ':St} {H':Hp} {s':Shared},Inv X pins σ' H' s'->(∃q pr b sc cl c,H' f=some (ij f q pr b sc cl c))->FnAt f s'.heap:=λ{σ' H' s'} J ⟨q,pr,b,sc,cl,c,z⟩=>by
  obtain ⟨⟨pm,ct,ho⟩,_⟩:=(show ObjOk X.prog X.w H' s'.heap f (ij f q pr b sc cl c) from J.hok f _ z)
  exact ⟨_,_,_,_,ho⟩
 refine wpAny_Call_Name_kw (thn ((sH (pos:=p) hN hv hdb hcd) pins s σ H (λv H'=>v=.ref f/\H'=H) I ⟨_,hσ,rfl,rfl⟩) λu s1 ⟨v,H1,I1,r,e1,e2⟩=>?_)
 subst e1
 subst e2
 cases r
 refine callWith_F (first:=[]) (at' I1 hf) (thn (ha pos pins s1 σ H1 _ I1 h) λus s2 ⟨vs,H2,I2,r,v,ev,cv,q⟩=>⟨at' I2 cv.fn,?_⟩) he hpl
 subst ev
 cases r with
 | cons rv rr =>
  cases rr
  refine wpAny_call (codeAny_mono (cv.run H2 X.A X.stack s2 v _ Q (Same.refl _) hr I2.env0 rv q) λr s' hq=>?_)
  cases r with
  | error e=>exact False.elim hq
  | ok fl =>
   cases fl with
   | ret u=>exact I2.after hq
   | next=>exact False.elim hq
   | brk=>exact False.elim hq
   | cont=>exact False.elim hq
def wg(X:Cx)(cs:List (Addr×V))(C:Addr)(m:Str)(sp:Heap->Sp)(E:XK)(ta:TE)(t:TA):TE:=fun σ H Q=>pJ X cs σ/\ta σ H λx H1=>∃a dx fs,x=.ref a/\H1 a=some (.ins C dx fs)/\fs.lookup m=none /\
 t σ H1 λvs H2=>∀B,X.K.In B->uw [] cs B->sp B (x::vs) H2 Q E
theorem nJ{sp:Heap->Sp}{pl:Sem Bool}(he:PE X o ta)(c:Cls X.K C)(hm:eL X.K C m f)(F:∀B:Heap,X.K.In B->FnOk X.prog X.w X.K X.mg B CX k f fd ps (sp B))(hr:Room k X.A)(hb:Binds X.K fd ps [])(hx:dL CX X E)(ha:PA X (e::es) t)
  (hst:starEach (e::es) X.env=(false,eval e X.env)::starEach es X.env:=by rfl)(hpl:(backTo pos (starEach es X.env)).any (·.1)=false:=by rfl)
  (ht:eval (.Call (.Attribute o m apos) (e::es) [] pos) X.env=(do
   let ov ← eval o X.env
   standAt apos.atName
   let (f,first) ← holding [ov] (getMethod ov m pl)
   callWith pos f first (backTo pos (starEach (e::es) X.env)) (backToKw pos (keywordEach [] X.env))):=by rfl) :
  PE X (.Call (.Attribute o m apos) (e::es) [] pos) (wg X cs C m sp E ta t):=by
 intro pins s σ H Q I ⟨hc,h⟩
 refine PySem.W.methodCall_KW (pl:=pl) (thn (he pins s σ H _ I h) λu s1 ⟨x,H1,I1,rx,a,dx,fs,ex,ea,l,q⟩=>?_) ht
 subst ex
 obtain rfl:u=Value.ref a:=rx
 refine gP I1 ea c hm l ?_
 refine PySem.W.callWith_K (first:=[.ref a]) (h₀:=X.base) I.ok.mod.kin hm.kp (thn (ha pos pins s1 σ H1 _ I1 q) λus s2 ⟨vs,H2,I2,r,q2⟩=>⟨I2.kIn,?_⟩) hst hpl
 have hq:=q2 _ I2.modB.kin (I2.pinB (pp:=[]) (λp z=>nomatch z) hc)
 have FF:=F _ I2.modB.kin
 have rr:Vals (.ref a::vs) (.ref a::us):=.cons rfl r
 have hl:((Value.ref a::us)++[]).length=ps.length:=by rw [List.append_nil,← rr.length];exact FF.len _ _ _ _ hq
 have hbb:=hb s2 (.ref a::us) I2.kIn hl
 rw [List.append_nil] at hbb
 refine wpAny_call (codeAny_mono (FF.run X.A X.stack s2 H2 ⟨.ref a::us,[]⟩ (.ref a::us) (.ref a::vs) Q E hr I2.env0B hbb rr hq) λr s' hq=>?_)
 cases r with
 | error e=>exact hx pins σ H2 s2 e s' I2 hq
 | ok fl =>
  cases fl with
  | ret u=>exact I2.after hq
  | next=>exact False.elim hq
  | brk=>exact False.elim hq
  | cont=>exact False.elim hq
end
end L2
namespace K81
open PySem L2 Lo
def top(i:Nat):Stmt:=PySem.Challenge.pw_pactroom_k81_papers_played.main.body.getD i (.Pass ⟨0,0,0,0⟩)
abbrev gh:Stmt:=inClass (top 10) 0
abbrev gg:Stmt:=inClass (top 10) 4
abbrev gb:Stmt:=inClass (top 11) 0
abbrev gf:Stmt:=inClass (top 12) 0
abbrev eA:Stmt:=inClass (top 13) 0
abbrev jU:Stmt:=top 23
abbrev gV:Stmt:=top 24
abbrev kH:Stmt:=top 25
abbrev gB:Stmt:=inClass (top 26) 0
abbrev fj:Stmt:=inClass (top 26) 1
abbrev dU:Stmt:=inClass (top 26) 2
abbrev dk:Stmt:=inClass (top 26) 4
abbrev cT:Stmt:=inClass (top 26) 5
abbrev dh:Stmt:=inClass (top 26) 6
abbrev eX:Stmt:=inClass (top 30) 0
abbrev f8:Stmt:=inClass (top 30) 1
abbrev f9:Stmt:=inClass (top 30) 3
abbrev f7:Stmt:=inClass (top 30) 4
abbrev df:Stmt:=inClass (top 31) 0
abbrev cN:Stmt:=inClass (top 31) 1
abbrev cY:Stmt:=inClass (top 32) 0
abbrev bR:Stmt:=inClass (top 32) 1
abbrev c9:Stmt:=inClass (top 33) 0
abbrev cU:Stmt:=inClass (top 33) 1
abbrev dD:Stmt:=inClass (top 34) 0
abbrev cZ:Stmt:=inClass (top 34) 1
abbrev dy:Stmt:=inClass (top 34) 2
abbrev be:Stmt:=inClass (top 34) 3
abbrev db:Stmt:=inClass (top 35) 0
abbrev bV:Stmt:=inClass (top 35) 1
abbrev da:Stmt:=inClass (top 35) 2
abbrev dF:Stmt:=inClass (top 36) 0
abbrev dE:Stmt:=inClass (top 36) 1
abbrev ce:Stmt:=inClass (top 36) 2
abbrev dH:Stmt:=inClass (top 36) 3
abbrev c7:Stmt:=inClass (top 37) 0
abbrev bT:Stmt:=inClass (top 37) 1
abbrev c8:Stmt:=inClass (top 38) 0
abbrev bU:Stmt:=inClass (top 38) 1
abbrev cP:Stmt:=top 39
abbrev dW:Stmt:=top 40
abbrev fM:Stmt:=top 41
abbrev gI:Stmt:=top 42
abbrev gd:Stmt:=inClass (top 46) 0
abbrev cQ:Stmt:=top 47
abbrev fK:Stmt:=top 48
abbrev iK:Stmt:=top 49
abbrev oN:Stmt:=top 50
abbrev gJ:Stmt:=top 51
abbrev dX:Stmt:=top 52
abbrev fL:Stmt:=top 54
abbrev fO:Stmt:=top 55
abbrev dY:Stmt:=top 56
abbrev cj:Stmt:=top 57
abbrev aQ:Stmt:=top 58
abbrev cJ:Stmt:=top 59
abbrev dr:Stmt:=top 60
abbrev bW:Stmt:=top 61
abbrev so:Stmt:=top 62
abbrev fV:Stmt:=top 64
abbrev eR:Stmt:=top 65
abbrev ck:Stmt:=top 66
abbrev d0:Stmt:=top 67
abbrev fR:Stmt:=top 68
abbrev cB:Stmt:=top 69
abbrev bO:Stmt:=top 70
abbrev fU:Stmt:=top 71
abbrev fT:Stmt:=top 72
abbrev fQ:Stmt:=top 73
abbrev cR:Stmt:=top 74
abbrev du:Stmt:=top 75
abbrev bh:Stmt:=top 76
abbrev cC:Stmt:=top 77
abbrev eS:Stmt:=top 78
abbrev jT:Stmt:=top 79
theorem lW:ao ["self","first","last"] ["self","first","last"] (defScope gh):=⟨rfl,rfl,rfl,by decide +kernel,rfl,by decide +kernel,by decide +kernel⟩
theorem lV:ao ["self"] ["self"] (defScope gg):=⟨rfl,rfl,rfl,by decide +kernel,rfl,by decide +kernel,by decide +kernel⟩
theorem lS:ao ["self"] ["self"] (defScope gb):=⟨rfl,rfl,rfl,by decide +kernel,rfl,by decide +kernel,by decide +kernel⟩
theorem lU:ao ["self"] ["self"] (defScope gf):=⟨rfl,rfl,rfl,by decide +kernel,rfl,by decide +kernel,by decide +kernel⟩
theorem jO:ao ["self"] ["self"] (defScope eA):=⟨rfl,rfl,rfl,by decide +kernel,rfl,by decide +kernel,by decide +kernel⟩
theorem kq:ao ["self"] ["self"] (defScope eX):=⟨rfl,rfl,rfl,by decide +kernel,rfl,by decide +kernel,by decide +kernel⟩
theorem lQ:ao ["self"] ["self"] (defScope f8):=⟨rfl,rfl,rfl,by decide +kernel,rfl,by decide +kernel,by decide +kernel⟩
theorem lR:ao ["self","value_of"] ["self","value_of"] (defScope f9):=⟨rfl,rfl,rfl,by decide +kernel,rfl,by decide +kernel,by decide +kernel⟩
theorem lP:ao ["self"] ["self"] (defScope f7):=⟨rfl,rfl,rfl,by decide +kernel,rfl,by decide +kernel,by decide +kernel⟩
theorem iE:ao ["self","where","cell"] ["self","where","cell"] (defScope df):=⟨rfl,rfl,rfl,by decide +kernel,rfl,by decide +kernel,by decide +kernel⟩
theorem gS:ao ["self"] ["self"] (defScope cN):=⟨rfl,rfl,rfl,by decide +kernel,rfl,by decide +kernel,by decide +kernel⟩
theorem ir:ao ["self"] ["self"] (defScope cY):=⟨rfl,rfl,rfl,by decide +kernel,rfl,by decide +kernel,by decide +kernel⟩
theorem fu:ao ["self","hand","value_of"] ["self","hand","value_of"] (defScope bR):=⟨rfl,rfl,rfl,by decide +kernel,rfl,by decide +kernel,by decide +kernel⟩
theorem iB:ao ["self"] ["self"] (defScope c9):=⟨rfl,rfl,rfl,by decide +kernel,rfl,by decide +kernel,by decide +kernel⟩
theorem fz:ao ["self","hand","value_of"] ["self","hand","value_of"] (defScope cU):=⟨rfl,rfl,rfl,by decide +kernel,rfl,by decide +kernel,by decide +kernel⟩
theorem jj:ao ["self","where","low","high"] ["self","where","low","high"] (defScope dD):=⟨rfl,rfl,rfl,by decide +kernel,rfl,by decide +kernel,by decide +kernel⟩
theorem iu:ao ["self"] ["self"] (defScope cZ):=⟨rfl,rfl,rfl,by decide +kernel,rfl,by decide +kernel,by decide +kernel⟩
theorem jh:ao ["self"] ["self"] (defScope dy):=⟨rfl,rfl,rfl,by decide +kernel,rfl,by decide +kernel,by decide +kernel⟩
theorem fH:ao ["self","hand","value_of"] ["self","hand","value_of"] (defScope be):=⟨rfl,rfl,rfl,by decide +kernel,rfl,by decide +kernel,by decide +kernel⟩
def eY:Scope:=match defBody be with
 | .Return (some (.Tuple [(.Call _ [.ListComp _ _ sc _] _ _),_] _ _)) _::_=>sc
 | _=>default
theorem eQ:aT ["self","hand","value_of"] (defScope be) eY "cell" ["cell","value_of"] [2]:=⟨by decide +kernel,rfl,by decide +kernel,rfl,by decide +kernel,by decide +kernel,rfl,rfl,by decide +kernel⟩
theorem iD:ao ["self"] ["self"] (defScope db):=⟨rfl,rfl,rfl,by decide +kernel,rfl,by decide +kernel,by decide +kernel⟩
theorem fD:ao ["self","hand","value_of"] ["self","hand","value_of"] (defScope bV):=⟨rfl,rfl,rfl,by decide +kernel,rfl,by decide +kernel,by decide +kernel⟩
theorem iC:ao ["self"] ["self"] (defScope da):=⟨rfl,rfl,rfl,by decide +kernel,rfl,by decide +kernel,by decide +kernel⟩
theorem jl:ao ["self","where","cell","amount"] ["self","where","cell","amount"] (defScope dF):=⟨rfl,rfl,rfl,by decide +kernel,rfl,by decide +kernel,by decide +kernel⟩
theorem jk:ao ["self"] ["self"] (defScope dE):=⟨rfl,rfl,rfl,by decide +kernel,rfl,by decide +kernel,by decide +kernel⟩
theorem fJ:ao ["self","hand","value_of"] ["self","hand","value_of"] (defScope ce):=⟨rfl,rfl,rfl,by decide +kernel,rfl,by decide +kernel,by decide +kernel⟩
theorem jm:ao ["self","value_of"] ["self","value_of"] (defScope dH):=⟨rfl,rfl,rfl,by decide +kernel,rfl,by decide +kernel,by decide +kernel⟩
theorem iz:ao ["self","amount"] ["self","amount"] (defScope c7):=⟨rfl,rfl,rfl,by decide +kernel,rfl,by decide +kernel,by decide +kernel⟩
theorem fx:ao ["self","hand","value_of"] ["self","hand","value_of"] (defScope bT):=⟨rfl,rfl,rfl,by decide +kernel,rfl,by decide +kernel,by decide +kernel⟩
theorem iA:ao ["self","amount"] ["self","amount"] (defScope c8):=⟨rfl,rfl,rfl,by decide +kernel,rfl,by decide +kernel,by decide +kernel⟩
theorem fy:ao ["self","hand","value_of"] ["self","hand","value_of"] (defScope bU):=⟨rfl,rfl,rfl,by decide +kernel,rfl,by decide +kernel,by decide +kernel⟩
theorem sc_read_step:ao ["text","words","shape"] ["text"] (defScope cP):=⟨rfl,rfl,rfl,by decide +kernel,rfl,by decide +kernel,by decide +kernel⟩
def kh:Scope:=match defBody cP with
 | _::_::_::.Return (some (.Call _ [_,.ListComp _ _ sc _] _ _)) _::_=>sc
 | _=>default
theorem jP:aT ["text","words","shape"] (defScope cP) kh "k" ["k","words","shape"] [1,2]:=⟨by decide +kernel,rfl,by decide +kernel,rfl,by decide +kernel,by decide +kernel,rfl,rfl,by decide +kernel⟩
theorem sc_read_number:ao ["word","letter","number"] ["word","letter"] (defScope dW):=⟨rfl,rfl,rfl,by decide +kernel,rfl,by decide +kernel,by decide +kernel⟩
theorem lN:ao ["word","numbers"] ["word","numbers"] (defScope fM):=⟨rfl,rfl,rfl,by decide +kernel,rfl,by decide +kernel,by decide +kernel⟩
theorem nq:ao ["where","low","high"] ["where","low","high"] (defScope gI):=⟨rfl,rfl,rfl,by decide +kernel,rfl,by decide +kernel,by decide +kernel⟩
theorem lT:ao ["self","manner","steps"] ["self","manner","steps"] (defScope gd):=⟨rfl,rfl,rfl,by decide +kernel,rfl,by decide +kernel,by decide +kernel⟩
theorem sc_read_pact:ao ["text","pieces","texts"] ["text"] (defScope cQ):=⟨rfl,rfl,rfl,by decide +kernel,rfl,by decide +kernel,by decide +kernel⟩
def ki:Scope:=match defBody cQ with
 | _::_::_::_::.Return (some (.Call _ [_,.ListComp _ _ sc _] _ _)) _::_=>sc
 | _=>default
theorem jQ:aT ["text","pieces","texts"] (defScope cQ) ki "k" ["k","texts"] [2]:=⟨by decide +kernel,rfl,by decide +kernel,rfl,by decide +kernel,by decide +kernel,rfl,rfl,by decide +kernel⟩
theorem lM:ao ["text","number"] ["text","number"] (defScope fK):=⟨rfl,rfl,rfl,by decide +kernel,rfl,by decide +kernel,by decide +kernel⟩
theorem sc_turning:ao ["pact","k"] ["pact"] (defScope iK):=⟨rfl,rfl,rfl,by decide +kernel,rfl,by decide +kernel,by decide +kernel⟩
theorem sc_look:ao ["pact","sizes","k"] ["pact","sizes"] (defScope oN):=⟨rfl,rfl,rfl,by decide +kernel,rfl,by decide +kernel,by decide +kernel⟩
theorem sc_is_there:ao ["step","sizes","house"] ["step","sizes"] (defScope gJ):=⟨rfl,rfl,rfl,by decide +kernel,rfl,by decide +kernel,by decide +kernel⟩
theorem sc_look_behind:ao ["pact","k"] ["pact"] (defScope dX):=⟨rfl,rfl,rfl,by decide +kernel,rfl,by decide +kernel,by decide +kernel⟩
theorem sc_played:ao ["cells","entries","now","ahead","at","entry","before"] ["cells","entries"] (defScope fL):=⟨rfl,rfl,rfl,by decide +kernel,rfl,by decide +kernel,by decide +kernel⟩
def ot:Scope:=match defBody fL with
 | .Assign _ (.ListComp _ _ sc _) _::_=>sc
 | _=>default
theorem nu:aT ["cells","entries","now","ahead","at","entry","before"] (defScope fL) ot "values" ["values"] []:=⟨by decide +kernel,rfl,by decide +kernel,rfl,by decide +kernel,by decide +kernel,rfl,rfl,λj h=>absurd h (Nat.not_lt_zero j)⟩
theorem sc_is_fit:ao ["cells","before","entry","pact"] ["cells","before","entry"] (defScope fO):=⟨rfl,rfl,rfl,by decide +kernel,rfl,by decide +kernel,by decide +kernel⟩
def ou:Scope:=match defBody fO with
 | .Try (_::.Expr (.Call _ [_,.ListComp _ _ sc _] _ _) _::_) _ _ _ _::_=>sc
 | _=>default
theorem nv:aT ["cells","before","entry","pact"] (defScope fO) ou "values" ["values"] []:=⟨by decide +kernel,rfl,by decide +kernel,rfl,by decide +kernel,by decide +kernel,rfl,rfl,λj h=>absurd h (Nat.not_lt_zero j)⟩
theorem jL:ao ["cells","before","entry","pact"] ["cells","before","entry","pact"] (defScope dY):=⟨rfl,rfl,rfl,by decide +kernel,rfl,by decide +kernel,by decide +kernel⟩
theorem sc_is_step_fit:ao ["cells","before","entry","pact","start","hand","hands"] ["cells","before","entry","pact"] (defScope cj):=⟨rfl,rfl,rfl,by decide +kernel,rfl,by decide +kernel,by decide +kernel⟩
def iX:Scope:=match defBody cj with
 | .If (.BoolOp _ [_,(.Call _ [.ListComp _ _ sc _] _ _)] _) _ _ _::_=>sc
 | _=>default
theorem iI:aT ["cells","before","entry","pact","start","hand","hands"] (defScope cj) iX "one" ["one","entry"] [2]:=⟨by decide +kernel,rfl,by decide +kernel,rfl,by decide +kernel,by decide +kernel,rfl,rfl,by decide +kernel⟩
theorem sc_is_undo_fit:ao ["cells","before","entry","pact","steps","undos","left","step","changes"] ["cells","before","entry","pact"] (defScope aQ):=⟨rfl,rfl,rfl,by decide +kernel,rfl,by decide +kernel,by decide +kernel⟩
def iW:Scope:=match defBody aQ with
 | _::.Assign _ (.ListComp _ _ sc _) _::_=>sc
 | _=>default
theorem iH:aT ["cells","before","entry","pact","steps","undos","left","step","changes"] (defScope aQ) iW "one" ["one"] []:=⟨by decide +kernel,rfl,by decide +kernel,rfl,by decide +kernel,by decide +kernel,rfl,rfl,λj h=>absurd h (Nat.not_lt_zero j)⟩
def iV:Scope:=match defBody aQ with
 | _::_::.Assign _ (.ListComp _ _ sc _) _::_=>sc
 | _=>default
theorem iG:aT ["cells","before","entry","pact","steps","undos","left","step","changes"] (defScope aQ) iV "one" ["one"] []:=⟨by decide +kernel,rfl,by decide +kernel,rfl,by decide +kernel,by decide +kernel,rfl,rfl,λj h=>absurd h (Nat.not_lt_zero j)⟩
def iU:Scope:=match defBody aQ with
 | _::_::_::_::.If (.BoolOp _ [_,_,(.Call _ [.ListComp _ _ sc _] _ _)] _) _ _ _::_=>sc
 | _=>default
theorem iF:aT ["cells","before","entry","pact","steps","undos","left","step","changes"] (defScope aQ) iU "k" ["k","pact"] [3]:=⟨by decide +kernel,rfl,by decide +kernel,rfl,by decide +kernel,by decide +kernel,rfl,rfl,by decide +kernel⟩
theorem sc_first_at_house:ao ["steps","start","k"] ["steps","start"] (defScope cJ):=⟨rfl,rfl,rfl,by decide +kernel,rfl,by decide +kernel,by decide +kernel⟩
theorem sc_hands_behind:ao ["cells","steps","hand","hands","step"] ["cells","steps","hand"] (defScope dr):=⟨rfl,rfl,rfl,by decide +kernel,rfl,by decide +kernel,by decide +kernel⟩
theorem sc_step_on:ao ["cells","step","hand","told"] ["cells","step","hand"] (defScope bW):=⟨rfl,rfl,rfl,by decide +kernel,rfl,by decide +kernel,by decide +kernel⟩
theorem sc_put:ao ["cells","step","changes","change"] ["cells","step","changes"] (defScope so):=⟨rfl,rfl,rfl,by decide +kernel,rfl,by decide +kernel,by decide +kernel⟩
theorem lO:ao ["_law_script","_law_k"] ["_law_script","_law_k"] (defScope fV):=⟨rfl,rfl,rfl,by decide +kernel,rfl,by decide +kernel,by decide +kernel⟩
theorem sc__law_mixed:ao ["_law_cell_here","_law_k","_law_number"] ["_law_cell_here","_law_k"] (defScope eR):=⟨rfl,rfl,rfl,by decide +kernel,rfl,by decide +kernel,by decide +kernel⟩
theorem jM:ao ["_law_cell_here","_law_many"] ["_law_cell_here","_law_many"] (defScope ck):=⟨rfl,rfl,rfl,by decide +kernel,rfl,by decide +kernel,by decide +kernel⟩
def iY:Scope:=match defBody ck with
 | .Return (some (.ListComp _ _ sc _)) _::_=>sc
 | _=>default
theorem iJ:aT ["_law_cell_here","_law_many"] (defScope ck) iY "_law_k" ["_law_k","_law_cell_here"] [0]:=⟨by decide +kernel,rfl,by decide +kernel,rfl,by decide +kernel,by decide +kernel,rfl,rfl,by decide +kernel⟩
theorem jN:ao ["_law_one","_law_other"] ["_law_one","_law_other"] (defScope d0):=⟨rfl,rfl,rfl,by decide +kernel,rfl,by decide +kernel,by decide +kernel⟩
theorem sc__law_step:ao ["_law_xs","_law_sizes","_law_word","_law_where","_law_one","_law_other"] ["_law_xs","_law_sizes"] (defScope fR):=⟨rfl,rfl,rfl,by decide +kernel,rfl,by decide +kernel,by decide +kernel⟩
theorem sc__law_steps:ao ["_law_cell_here","_law_many","_law_sizes","_law_xs"] ["_law_cell_here","_law_many","_law_sizes"] (defScope cB):=⟨rfl,rfl,rfl,by decide +kernel,rfl,by decide +kernel,by decide +kernel⟩
def jq:Scope:=match defBody cB with
 | _::.Return (some (.ListComp _ _ sc _)) _::_=>sc
 | _=>default
theorem jn:aT ["_law_cell_here","_law_many","_law_sizes","_law_xs"] (defScope cB) jq "_law_k" ["_law_k","_law_sizes","_law_xs"] [2,3]:=⟨by decide +kernel,rfl,by decide +kernel,rfl,by decide +kernel,by decide +kernel,rfl,rfl,by decide +kernel⟩
theorem sc__law_text:ao ["_law_manner","_law_steps_here","_law_texts"] ["_law_manner","_law_steps_here"] (defScope bO):=⟨rfl,rfl,rfl,by decide +kernel,rfl,by decide +kernel,by decide +kernel⟩
def dJ:Scope:=match defBody bO with
 | .Assign _ (.ListComp _ _ sc _) _::_=>sc
 | _=>default
theorem jR:aT ["_law_manner","_law_steps_here","_law_texts"] (defScope bO) dJ "_law_step_here" ["_law_step_here"] []:=⟨by decide +kernel,rfl,by decide +kernel,rfl,by decide +kernel,by decide +kernel,rfl,rfl,λj h=>absurd h (Nat.not_lt_zero j)⟩
theorem sc__law_done:ao ["_law_step_here","_law_hand","_law_cells","_law_row"] ["_law_step_here","_law_hand","_law_cells"] (defScope fU):=⟨rfl,rfl,rfl,by decide +kernel,rfl,by decide +kernel,by decide +kernel⟩
theorem sc__law_held:ao ["_law_p","_law_steps_here","_law_cells","_law_entries_here","_law_hand","_law_hands","_law_k","_law_changes"] ["_law_p","_law_steps_here","_law_cells","_law_entries_here"] (defScope fT):=⟨rfl,rfl,rfl,by decide +kernel,rfl,by decide +kernel,by decide +kernel⟩
theorem sc__law_walk:ao ["_law_way","_law_cells","_law_entries_here","_law_p","_law_steps_here","_law_at","_law_hand","_law_changes"] ["_law_way","_law_cells","_law_entries_here"] (defScope fQ):=⟨rfl,rfl,rfl,by decide +kernel,rfl,by decide +kernel,by decide +kernel⟩
theorem sc__law_back:ao ["_law_way","_law_cells","_law_entries_here","_law_p","_law_steps_here","_law_at","_law_changes","_law_row"] ["_law_way","_law_cells","_law_entries_here"] (defScope cR):=⟨rfl,rfl,rfl,by decide +kernel,rfl,by decide +kernel,by decide +kernel⟩
def kj:Scope:=match defBody cR with
 | _::.If (.BoolOp _ [_,(.Compare (.ListComp _ _ sc _) _ _ _)] _) _ _ _::_=>sc
 | _=>default
theorem jS:aT ["_law_way","_law_cells","_law_entries_here","_law_p","_law_steps_here","_law_at","_law_changes","_law_row"] (defScope cR) kj "_law_k" ["_law_k","_law_steps_here"] [4]:=⟨by decide +kernel,rfl,by decide +kernel,rfl,by decide +kernel,by decide +kernel,rfl,rfl,by decide +kernel⟩
theorem sc__law_new_way:ao ["_law_p","_law_cell_here","_law_sizes","_law_steps_here","_law_given","_law_k"] ["_law_p","_law_cell_here","_law_sizes"] (defScope du):=⟨rfl,rfl,rfl,by decide +kernel,rfl,by decide +kernel,by decide +kernel⟩
theorem sc__law_entries:ao ["_law_script","_law_cells","_law_sizes","_law_ways","_law_entries_here","_law_cell_here","_law_p"] ["_law_script","_law_cells"] (defScope bh):=⟨rfl,rfl,rfl,by decide +kernel,rfl,by decide +kernel,by decide +kernel⟩
def hZ:Scope:=match defBody bh with
 | .Assign _ (.ListComp _ _ sc _) _::_=>sc
 | _=>default
theorem gU:aT ["_law_script","_law_cells","_law_sizes","_law_ways","_law_entries_here","_law_cell_here","_law_p"] (defScope bh) hZ "_law_row" ["_law_row"] []:=⟨by decide +kernel,rfl,by decide +kernel,rfl,by decide +kernel,by decide +kernel,rfl,rfl,λj h=>absurd h (Nat.not_lt_zero j)⟩
def hW:Scope:=match defBody bh with
 | _::.Assign _ (.ListComp _ _ sc _) _::_=>sc
 | _=>default
theorem gT:aT ["_law_script","_law_cells","_law_sizes","_law_ways","_law_entries_here","_law_cell_here","_law_p"] (defScope bh) hW "_law_k" ["_law_k","_law_script","_law_sizes"] [0,2]:=⟨by decide +kernel,rfl,by decide +kernel,rfl,by decide +kernel,by decide +kernel,rfl,rfl,by decide +kernel⟩
theorem sc__law_first:ao ["_law_script","_law_cells","_law_k","_law_xs"] ["_law_script"] (defScope cC):=⟨rfl,rfl,rfl,by decide +kernel,rfl,by decide +kernel,by decide +kernel⟩
def jr:Scope:=match defBody cC with
 | _::.For _ _ (_::.Expr (.Call _ [.ListComp _ _ sc _] _ _) _::_) _ _::_=>sc
 | _=>default
theorem jo:aT ["_law_script","_law_cells","_law_k","_law_xs"] (defScope cC) jr "_law_x" ["_law_x","_law_xs"] [3]:=⟨by decide +kernel,rfl,by decide +kernel,rfl,by decide +kernel,by decide +kernel,rfl,rfl,by decide +kernel⟩
theorem sc__law_alike:ao ["_law_found","_law_due","_law_k","_law_value"] ["_law_found","_law_due"] (defScope eS):=⟨rfl,rfl,rfl,by decide +kernel,rfl,by decide +kernel,by decide +kernel⟩
theorem sc_law:ao ["_law_script","_law_first_here","_law_cells","_law_entries_here","_law_handed","_law_found"] ["_law_script"] (defScope jT):=⟨rfl,rfl,rfl,by decide +kernel,rfl,by decide +kernel,by decide +kernel⟩
def uq:Scope:=match defBody jT with
 | _::.Assign _ (.ListComp _ _ sc _) _::_=>sc
 | _=>default
theorem sk:aT ["_law_script","_law_first_here","_law_cells","_law_entries_here","_law_handed","_law_found"] (defScope jT) uq "_law_row" ["_law_row"] []:=⟨by decide +kernel,rfl,by decide +kernel,rfl,by decide +kernel,by decide +kernel,rfl,rfl,λj h=>absurd h (Nat.not_lt_zero j)⟩
def up:Scope:=match defBody jT with
 | _::_::_::.Assign _ (.List [.ListComp _ _ sc _,_] _) _::_=>sc
 | _=>default
theorem sj:aT ["_law_script","_law_first_here","_law_cells","_law_entries_here","_law_handed","_law_found"] (defScope jT) up "_law_row" ["_law_row"] []:=⟨by decide +kernel,rfl,by decide +kernel,rfl,by decide +kernel,by decide +kernel,rfl,rfl,λj h=>absurd h (Nat.not_lt_zero j)⟩
end K81
namespace K81
open PySem L2 Lo St
section
variable {P:Program}{w:World}{K:PySem.W.Frag}{mg:Str->Option Value}{base:Heap}{f CL CS CP:Addr}{fd:FuncData}{C:Kd->Addr}{CW:Wd->Addr}
theorem xZ(F:Fun K "kind" "Read.kind" gb f fd):FnOk P w K mg base CX0 1 f fd ["self"] (jF .read):=by
 refine F.ok lS (λvs H Q E h=>?_) (λcdv A outer s H vs Q E hr h=>?_)
 ·obtain ⟨v,rfl,_⟩:=h
  rfl
 obtain ⟨v,rfl,q⟩:=h
 exact ⟨_,aj (au aE),q⟩
theorem ye(F:Fun K "kind" "Mean.kind" gf f fd):FnOk P w K mg base CX0 1 f fd ["self"] (jF .mean):=by
 refine F.ok lU (λvs H Q E h=>?_) (λcdv A outer s H vs Q E hr h=>?_)
 ·obtain ⟨v,rfl,_⟩:=h
  rfl
 obtain ⟨v,rfl,q⟩:=h
 exact ⟨_,aj (au aE),q⟩
theorem yi(F:Fun K "kind" "Change.kind" eA f fd):FnOk P w K mg base CX0 1 f fd ["self"] (jF .change):=by
 refine F.ok jO (λvs H Q E h=>?_) (λcdv A outer s H vs Q E hr h=>?_)
 ·obtain ⟨v,rfl,_⟩:=h
  rfl
 obtain ⟨v,rfl,q⟩:=h
 exact ⟨_,aj (au aE),q⟩
theorem tD(F:Fun K "__init__" "Lock.__init__" gh f fd)(T:TxK K C):FnOk P w K mg base CX0 1 f fd ["self","first","last"] (gn C):=by
 refine F.ok lW (λvs H Q E h=>?_) (λcdv A outer s H vs Q E hr h=>?_)
 ·obtain ⟨a,dx,k,x,y,rfl,_⟩:=h
  rfl
 obtain ⟨a,dx,k,x,y,rfl,ha,q⟩:=h
 refine ⟨_,af (b9 (pv 0) (pv 1) rfl) (aj (b9 (pv 0) (pv 2) rfl)),?_⟩
 exact ⟨_,rfl,_,rfl,a,C k,dx,[],rfl,ha,T.cl k,T.nF k,(by show 0<1000;decide),_,rfl,_,rfl,a,C k,dx,_,rfl,ac,T.cl k,T.nL k,(by show 1<1000;decide),q⟩
theorem mq(F:Fun K "told" "Lock.told" gg f fd)(T:TxK K C)(GK:∀k,GM P w K mg base CX0 1 (C k) "kind" ["self"] (jF k)):FnOk P w K mg base CX0 2 f fd ["self"] (gG C):=by
 refine F.ok lV (λvs H Q E h=>?_) (λcdv A outer s H vs Q E hr h=>?_)
 ·obtain ⟨v,k,rfl,_⟩:=h
  rfl
 obtain ⟨v,k,rfl,⟨a,dx,rfl,ha⟩,q⟩:=h
 refine ⟨_,aj (au (aK (aa (pm0 (GK k.1) (pv 0) (T.cl k.1) hr) (aa (aG (pv 0) rfl) (aa (aG (pv 0) rfl) ae))))),?_⟩
 refine ⟨_,rfl,a,dx,_,rfl,ha,kM _ _ (by decide +kernel) (by decide +kernel),_,rfl,?_⟩
 exact ⟨_,rfl,a,_,dx,_,_,rfl,ha,T.cl _,T.nF _,tW _ _,_,rfl,a,_,dx,_,_,rfl,ha,T.cl _,T.nL _,vw _ _,(by show 3<=sizeLine;decide),λt ht=>q t ht⟩
theorem kp2{a:Addr}{H:Hp}{o1 o2:HO}:Kp a H (upd (upd H a o1) a o2):=λb o n e=>by rw [aq n,aq n];exact e
theorem tL(F:Fun K "__init__" "CellStep.__init__" df f fd)(T:TxW K CW):FnOk P w K mg base CX0 1 f fd ["self","where","cell"] (lJ CW):=by
 refine F.ok iE (λvs H Q E h=>?_) (λcdv A outer s H vs Q E hr h=>?_)
 ·obtain ⟨a,dx,wd,x,y,rfl,_⟩:=h
  rfl
 obtain ⟨a,dx,wd,x,y,rfl,ha,q⟩:=h
 refine ⟨_,af (b9 (pv 0) (pv 1) rfl) (aj (b9 (pv 0) (pv 2) rfl)),?_⟩
 exact ⟨_,rfl,_,rfl,a,CW wd,dx,[],rfl,ha,T.cl wd,T.nW wd,(by show 0<1000;decide),_,rfl,_,rfl,a,CW wd,dx,_,rfl,ac,T.cl wd,T.nC wd,(by show 1<1000;decide),q _ ac kp2⟩
theorem mL{wd:Wd}(hw:isC wd=true){vs:List V}{H:Hp}{Q:VK}{E:XK}(h:gm CW wd vs H Q E):lJ CW vs H Q E:=by
 obtain ⟨a,dx,ns,rfl,ar,ha,q⟩:=h
 obtain ⟨x,y,rfl,_,_,e⟩:=ar.c hw
 exact ⟨a,dx,wd,x,y,rfl,ha,λH' h1 h2=>q H' (by rw [e];exact h1) h2⟩
theorem sT(F:Fun K "__init__" "SumStep.__init__" dD f fd)(T:TxW K CW):FnOk P w K mg base CX0 1 f fd ["self","where","low","high"] (gm CW .sum):=by
 refine F.ok jj (λvs H Q E h=>?_) (λcdv A outer s H vs Q E hr h=>?_)
 ·obtain ⟨a,dx,ns,rfl,ar,_⟩:=h
  obtain ⟨x,y,z,rfl,_⟩:=ar.s
  rfl
 obtain ⟨a,dx,ns,rfl,ar,ha,q⟩:=h
 obtain ⟨x,y,z,rfl,_⟩:=ar.s
 refine ⟨_,af (b9 (pv 0) (pv 1) rfl) (af (b9 (pv 0) (pv 2) rfl) (aj (b9 (pv 0) (pv 3) rfl))),?_⟩
 exact ⟨_,rfl,_,rfl,a,CW .sum,dx,[],rfl,ha,T.cl _,T.nW _,(by show 0<1000;decide),_,rfl,_,rfl,a,CW .sum,dx,_,rfl,ac,T.cl _,T.nL _,(by show 1<1000;decide),_,rfl,_,rfl,a,CW .sum,dx,_,rfl,ac,T.cl _,T.nH _,Nat.lt_of_le_of_lt (cV _ _ _) (by show 1+1<1000;decide),q _ ac λb o n e=>by rw [aq n,aq n,aq n];exact e⟩
theorem tO{CC fC:Addr}{dC:FuncData}(F:Fun K "__init__" "AddStep.__init__" dF f fd)(T:TxW K CW)(mgC:mg "CellStep"=some (.ref CC))(cf:v0 K CC "__init__" fC)(GC:FnOk P w K mg base CX0 1 fC dC ["self","where","cell"] (lJ CW))(bC:Binds K dC ["self","where","cell"] []) :
  FnOk P w K mg base CX0 2 f fd ["self","where","cell","amount"] (gm CW .add):=by
 refine F.ok jl (λvs H Q E h=>?_) (λcdv A outer s H vs Q E hr h=>?_)
 ·obtain ⟨a,dx,ns,rfl,ar,_⟩:=h
  obtain ⟨x,y,z,rfl,_⟩:=ar.a
  rfl
 obtain ⟨a,dx,ns,rfl,ar,ha,q⟩:=h
 obtain ⟨x,y,z,rfl,_⟩:=ar.a
 refine ⟨_,af (bq (uX (eV (v:=.ref CC) rfl mgC rfl) cf GC hr bC bE (aa (pv 0) (aa (pv 1) (aa (pv 2) ae))))) (aj (b9 (pv 0) (pv 3) rfl)),?_⟩
 refine ⟨_,rfl,_,rfl,_,rfl,a,dx,.add,x,y,rfl,ha,λH' h1 h2=>?_⟩
 exact ⟨_,rfl,_,rfl,a,CW .add,dx,_,rfl,h1,T.cl _,T.nA _,Nat.lt_of_le_of_lt (cV _ _ _) (by show 1+1<1000;decide),q _ ac λb o n e=>by rw [aq n];exact h2 b o n e⟩
theorem sZ(F:Fun K "__init__" "PlusStep.__init__" c7 f fd)(T:TxW K CW):FnOk P w K mg base CX0 1 f fd ["self","amount"] (gm CW .plus):=by
 refine F.ok iz (λvs H Q E h=>?_) (λcdv A outer s H vs Q E hr h=>?_)
 ·obtain ⟨a,dx,ns,rfl,ar,_⟩:=h
  obtain ⟨x,rfl,_⟩:=ar.p
  rfl
 obtain ⟨a,dx,ns,rfl,ar,ha,q⟩:=h
 obtain ⟨x,rfl,_⟩:=ar.p
 refine ⟨_,aj (b9 (pv 0) (pv 1) rfl),?_⟩
 exact ⟨_,rfl,_,rfl,a,CW .plus,dx,[],rfl,ha,T.cl _,T.nA _,(by show 0<1000;decide),q _ ac j4⟩
theorem tj(F:Fun K "__init__" "NeedStep.__init__" c8 f fd)(T:TxW K CW):FnOk P w K mg base CX0 1 f fd ["self","amount"] (gm CW .need):=by
 refine F.ok iA (λvs H Q E h=>?_) (λcdv A outer s H vs Q E hr h=>?_)
 ·obtain ⟨a,dx,ns,rfl,ar,_⟩:=h
  obtain ⟨x,rfl,_⟩:=ar.n
  rfl
 obtain ⟨a,dx,ns,rfl,ar,ha,q⟩:=h
 obtain ⟨x,rfl,_⟩:=ar.n
 refine ⟨_,aj (b9 (pv 0) (pv 1) rfl),?_⟩
 exact ⟨_,rfl,_,rfl,a,CW .need,dx,[],rfl,ha,T.cl _,T.nA _,(by show 0<1000;decide),q _ ac j4⟩
theorem nN{wd:Wd}(hw:wd=.plus\/wd=.need)(F:Fun K "house" "Step.house" eX f fd):FnOk P w K mg base CX0 1 f fd ["self"] (cA CW wd):=by
 refine F.ok kq (λvs H Q E h=>?_) (λcdv A outer s H vs Q E hr h=>?_)
 ·obtain ⟨v,ns,rfl,_⟩:=h
  rfl
 obtain ⟨v,ns,rfl,ar,st,q⟩:=h
 refine ⟨_,aj (au jV),?_⟩
 rcases hw with rfl | rfl<;>exact q
theorem g8{wd:Wd}(hw:isC wd=true\/wd=.add)(F:Fun K "house" "CellStep.house" cN f fd)(T:TxW K CW):FnOk P w K mg base CX0 1 f fd ["self"] (cA CW wd):=by
 refine F.ok gS (λvs H Q E h=>?_) (λcdv A outer s H vs Q E hr h=>?_)
 ·obtain ⟨v,ns,rfl,_⟩:=h
  rfl
 obtain ⟨v,ns,rfl,ar,⟨a,dx,rfl,ha⟩,q⟩:=h
 refine ⟨_,aj (au (aG (pv 0) rfl)),?_⟩
 rcases hw with hw | rfl
 ·obtain ⟨x,y,rfl,_,_,e⟩:=ar.c hw
  rw [e] at ha
  refine ⟨_,rfl,a,CW wd,dx,_,_,rfl,ha,T.cl _,T.nW _,by rw [bv (by decide +kernel),bj],?_⟩
  cases wd<;>first | exact q | cases hw
 ·obtain ⟨x,y,z,rfl,_⟩:=ar.a
  exact ⟨_,rfl,a,CW .add,dx,_,_,rfl,ha,T.cl _,T.nW _,(by show (aL "amount" _ (aL "cell" _ (aL "where" _ []))).lookup _=_;rw [bv (by decide +kernel),bv (by decide +kernel),bj];rfl),q⟩
theorem vh(F:Fun K "house" "SumStep.house" cZ f fd)(T:TxW K CW):FnOk P w K mg base CX0 1 f fd ["self"] (cA CW .sum):=by
 refine F.ok iu (λvs H Q E h=>?_) (λcdv A outer s H vs Q E hr h=>?_)
 ·obtain ⟨v,ns,rfl,_⟩:=h
  rfl
 obtain ⟨v,ns,rfl,ar,⟨a,dx,rfl,ha⟩,q⟩:=h
 obtain ⟨x,y,z,rfl,_⟩:=ar.s
 refine ⟨_,aj (au (aG (pv 0) rfl)),?_⟩
 exact ⟨_,rfl,a,CW .sum,dx,_,_,rfl,ha,T.cl _,T.nW _,(by show (aL "high" _ (aL "low" _ (aL "where" _ []))).lookup _=_;rw [bv (by decide +kernel),bv (by decide +kernel),bj];rfl),q⟩
theorem eJ{wd:Wd}(hw:wd≠.give)(F:Fun K "sure" "Step.sure" f7 f fd):FnOk P w K mg base CX0 1 f fd ["self"] (jD wd):=by
 refine F.ok lP (λvs H Q E h=>?_) (λcdv A outer s H vs Q E hr h=>?_)
 ·obtain ⟨v,rfl,_⟩:=h
  rfl
 obtain ⟨v,rfl,q⟩:=h
 rw [decide_eq_false hw] at q
 exact ⟨_,aj (au jX),q⟩
theorem sV(F:Fun K "sure" "GiveStep.sure" da f fd):FnOk P w K mg base CX0 1 f fd ["self"] (jD .give):=by
 refine F.ok iC (λvs H Q E h=>?_) (λcdv A outer s H vs Q E hr h=>?_)
 ·obtain ⟨v,rfl,_⟩:=h
  rfl
 obtain ⟨v,rfl,q⟩:=h
 exact ⟨_,aj (au jX),q⟩
theorem qQ(F:Fun K "__init__" "Pact.__init__" gd f fd)(B:TxB mg)(T:TxP K CP):FnOk P w K mg base CX0 1 f fd ["self","manner","steps"] (pS CP):=by
 refine F.ok lT (λvs H Q E h=>?_) (λcdv A outer s H vs Q E hr h=>?_)
 ·obtain ⟨l,dx,m,q,us,rfl,_⟩:=h
  rfl
 obtain ⟨l,dx,m,q,us,rfl,hl,hq,qr⟩:=h
 refine ⟨_,af (b9 (pv 0) (pv 1) rfl) (af (b9 (pv 0) (bK cH rfl B.list PyProof.Rows.boot_list (aa (pv 2) ae)) rfl)
  (aj (b9 (pv 0) (bK eC rfl B.tuple PyProof.Rows.boot_tuple (aa (pv 2) ae)) rfl))),?_⟩
 have nlq:q≠l:=λz=>by rw [z,hl] at hq;cases hq
 refine ⟨_,rfl,_,rfl,l,CP,dx,[],rfl,hl,T.cl,T.nm,(by show 0<1000;decide),?_⟩
 have k1:Kp l H (upd H l (.ins CP dx (aL "manner" (.str m) []))):=j4
 have hl1:(upd H l (.ins CP dx (aL "manner" (.str m) []))) l=some (.ins CP dx (aL "manner" (.str m) [])):=ac
 have hq1:=k1 _ _ nlq hq
 generalize (upd H l (HO.ins CP dx (aL "manner" (.str m) [])))=H1 at k1 hl1 hq1 ⊢
 refine ⟨_,rfl,q,us,rfl,.inl (SqL.of hq1),λsl hsl=>?_⟩
 have s2:=ai (o:=.lst us) hsl
 have nl:l≠sl:=ap hl1 hsl
 refine ⟨_,rfl,l,CP,dx,_,rfl,s2 _ _ hl1,T.cl,T.ns,(by show 1<1000;decide),?_⟩
 have k2:Kp l H1 (upd (upd H1 sl (.lst us)) l (.ins CP dx (aL "steps" (.ref sl) (aL "manner" (.str m) [])))):=(Kp.of s2).trans j4
 have hl2:(upd (upd H1 sl (.lst us)) l (.ins CP dx (aL "steps" (.ref sl) (aL "manner" (.str m) [])))) l=some (.ins CP dx (aL "steps" (.ref sl) (aL "manner" (.str m) []))):=ac
 have hs2:(upd (upd H1 sl (.lst us)) l (.ins CP dx (aL "steps" (.ref sl) (aL "manner" (.str m) [])))) sl=some (.lst us):=by rw [aq (Ne.symm nl)];exact ac
 have hq2:=k2 _ _ nlq hq1
 generalize (upd (upd H1 sl (.lst us)) l (HO.ins CP dx (aL "steps" (.ref sl) (aL "manner" (.str m) []))))=H2 at k2 hl2 hs2 hq2 ⊢
 refine ⟨_,rfl,q,us,rfl,.inl ⟨SqL.of hq2,λtp htp=>?_⟩⟩
 have s3:=ai (o:=.tup us) htp
 have nl3:l≠tp:=ap hl2 htp
 refine ⟨_,rfl,l,CP,dx,_,rfl,s3 _ _ hl2,T.cl,T.np,Nat.lt_of_le_of_lt (cV _ _ _) (by show 1+1<1000;decide),?_⟩
 have k3:Kp l H2 (upd (upd H2 tp (.tup us)) l (.ins CP dx (pf m sl tp))):=(Kp.of s3).trans j4
 refine qr sl tp _ ac (k3 _ _ (Ne.symm nl) hs2) (by rw [aq (Ne.symm nl3)];exact ac) ?_ ?_ ((k1.trans k2).trans k3)
 ·cases e:H sl with
  | none=>rfl
  | some o=>rw [k1 _ _ (Ne.symm nl) e] at hsl;cases hsl
 ·cases e:H tp with
  | none=>rfl
  | some o=>rw [(k1.trans k2) _ _ (Ne.symm nl3) e] at htp;cases htp
theorem sX(F:Fun K "read_part" "read_part" fK f fd)(GS:GF P w K mg base CX0 6 "read_step" ["text"] (lC CW)):FnOk P w K mg base CX0 7 f fd ["text","number"] (lD CW):=by
 refine F.ok lM (λvs H Q E h=>?_) (λcdv A outer s H vs Q E hr h=>?_)
 ·obtain ⟨x,k,rfl,_⟩:=h
  rfl
 obtain ⟨x,k,rfl,ar,q⟩:=h
 exact ⟨_,aj (pX (aj (au (pc GS hr (aa (pv 0) ae))))),_,rfl,x.1,x.2,rfl,ar,q⟩
theorem sY(F:Fun K "read_pact" "read_pact" cQ f fd)(B:TxB mg){aM:Addr}(mM:mg "MANNERS"=some (.ref aM))(tM:∀H,SqT K H aM [.str "held",.str "walked"])(cM:∃t,mg "MOST_STEPS"=some (.int 12 t)){fI:Addr}{dI:FuncData}(MP:Mk K CP fI)(mgP:mg "Pact"=some (.ref CP))
  (GI:FnOk P w K mg base CX0 1 fI dI ["self","manner","steps"] (pS CP))(bI:Binds K dI ["self","manner","steps"] [])(GR:GF P w K mg base CX0 7 "read_part" ["text","number"] (lD CW)):FnOk P w K mg base CX0 8 f fd ["text"] (lE CP CW):=by
 refine F.ok sc_read_pact (λvs H Q E h=>?_) (λcdv A outer s H vs Q E hr h=>?_)
 ·obtain ⟨b,xs,rfl,_⟩:=h
  rfl
 obtain ⟨b,xs,rfl,ar,h0,hl,q⟩:=h
 obtain ⟨tM0,cM⟩:=cM
 have nd:=sc_read_pact.nd
 have hr1:Room (1+1) _:=hr.mono (by decide)
 refine ⟨_,af (aI (i:=1) nd rfl (Or.inl rfl) (cS PySem.F.plainAttrs_str PySem.F.slot_str_partition PySem.F.type_str_partition vv (pv 0) (aa aE ae)))
  (af (aJ (PW.pt (eF (aw (qN zd (hun hr)) (ak (r:=aR K) aC (pv 1) ag (λ_ _=>rfl)) (eV (v:=.ref aM) rfl mM rfl) rfl) (cX (aw a9 (ak (r:=aR K) aC (pv 1) ag (λ_ _=>rfl)) aE (az _))))) aH aA)
  (af (aI (i:=2) nd rfl (Or.inr rfl) (cS PySem.F.plainAttrs_str PySem.F.slot_str_split PySem.F.type_str_split qT (ak (r:=aR K) aC (pv 1) ag (λ_ _=>rfl)) (aa aE ae)))
  (af (aJ (aw jZ (ay aD rfl B.len PySem.boot_len (aa (pv 2) ae)) (eV (v:=.int 12) rfl cM ⟨_,rfl⟩) (az _)) aH aA)
  (aj (au (bM MP GI hr1 rfl mgP bI .nil bE (aa (ak (r:=aR K) aC (pv 1) ag (λ_ _=>rfl)) (aa (dR jQ rfl (bo rfl B.range (aa (ay aD rfl B.len PySem.boot_len (aa (pv 2) ae)) ae)) (λ_ _ _ _=>bp)
   (λ_ _ _ _=>pc GR hr (aa (ak (r:=aN K) am (pv 1) (pv 0) (λ_ _=>rfl)) (aa (pv 0) ae)))) ae)))))))),?_⟩
 have js:=j5 ar (by omega)
 have ml:=tV b
 have l1:(Str.ofString " ").length=1:=by decide +kernel
 have hs:(100000:Nat)<=sizeLine:=by decide
 have pl:(ptx (mS b) xs).length<=40000:=by
  have:(ptx (mS b) xs).length=(mS b).length+(Str.ofString " ").length+(Str.join (Str.ofString "; ") (xs.map sx)).length:=by
   show (((mS b).cps++(Str.ofString " ").cps)++(Str.join (Str.ofString "; ") (xs.map sx)).cps).size=_
   rw [Array.size_append,Array.size_append]
   rfl
  omega
 refine ⟨_,rfl,rfl,_,_,rfl,rfl,(by decide +kernel),(by omega),λp hp=>?_⟩
 rw [sM]
 have s1:=ai (o:=.tup [.str (mS b),.str (Str.ofString " "),.str (Str.join (Str.ofString "; ") (xs.map sx))]) hp
 have hp1:(upd H p (.tup [.str (mS b),.str (Str.ofString " "),.str (Str.join (Str.ofString "; ") (xs.map sx))])) p=some (.tup [.str (mS b),.str (Str.ofString " "),.str (Str.join (Str.ofString "; ") (xs.map sx))]):=ac
 generalize (upd H p (HO.tup [.str (mS b),.str (Str.ofString " "),.str (Str.join (Str.ofString "; ") (xs.map sx))]))=H1 at s1 hp1 ⊢
 refine ⟨_,rfl,p,_,_,_,rfl,rfl,SqT.of hp1,St.at0,mS b,aM,_,["held","walked"],rfl,rfl,.inr (tM H1),.cons rfl (.cons rfl .nil),_,rfl,?_⟩
 have hin:mS b∈(["held","walked"]:List Str):=by cases b<;>decide +kernel
 refine bb (λc=>absurd hin (of_decide_eq_false (by simpa using c))) (λ_=>?_)
 refine ⟨_,rfl,p,_,_,_,rfl,rfl,SqT.of hp1,St.at1,rfl,_,rfl,bb (λc=>absurd (V.str.inj (of_decide_eq_true c)) (by decide +kernel)) (λ_=>?_)⟩
 refine ⟨_,rfl,p,_,_,_,rfl,rfl,SqT.of hp1,St.at2,rfl,_,_,rfl,rfl,(by decide +kernel),(by omega),λtl htl=>?_⟩
 rw [qH h0]
 have s2:=ai (o:=.lst ((xs.map sx).map V.str)) htl
 have ht2:(upd H1 tl (.lst ((xs.map sx).map V.str))) tl=some (.lst ((xs.map sx).map V.str)):=ac
 have hp2:=s2 _ _ hp1
 generalize (upd H1 tl (HO.lst ((xs.map sx).map V.str)))=H2 at s2 ht2 hp2 ⊢
 have s02:=s1.trans s2
 have ll:((xs.map sx).map V.str).length=xs.length:=by rw [List.length_map,List.length_map]
 refine ⟨_,rfl,tl,_,rfl,.inl (SqL.of ht2),_,_,rfl,rfl,_,rfl,bb (λc=>absurd (of_decide_eq_true c) (by rw [ll];omega)) (λ_=>?_)⟩
 refine ⟨_,rfl,p,_,_,_,rfl,rfl,SqT.of hp2,St.at0,?_⟩
 refine ⟨_,rfl,tl,_,rfl,.inl (SqL.of ht2),_,rfl,by omega,by rw [ll];omega,?_⟩
 have e0:((((xs.map sx).map V.str).length:Nat):Int).toNat=xs.length:=by rw [ll];rfl
 rw [e0]
 refine gi (n:=xs.length) (λi ys H'=>Same H2 H'/\StsP CW H' (xs.take i) ys) ⟨Same.refl _,.nil⟩ (by omega) ?_ ?_
 ·rintro i ys H3 hi ⟨s3,ps⟩
  have hx:xs[i]?=some xs[i]:=List.getElem?_eq_getElem hi
  refine eE ⟨_,rfl,_,rfl,tl,_,_,_,rfl,rfl,SqL.of (s3 _ _ ht2),aB (by rw [List.getElem?_map,List.getElem?_map,hx];rfl),_,rfl,xs[i],_,rfl,ar _ (List.getElem_mem hi),λv H4 s4 sv=>⟨s3.trans s4,?_⟩⟩
  have e2:xs.take (i+1)=xs.take i++[xs[i]]:=by
   rw [List.take_add_one,hx]
   rfl
  rw [e2]
  exact (ps.keep s4).app (.cons sv .nil)
 ·rintro ys H3 ⟨s3,ps⟩ l hl3
  rw [List.take_length] at ps
  have s4:=ai (o:=.lst ys) hl3
  have h4:(upd H3 l (.lst ys)) l=some (.lst ys):=ac
  have ps4:=ps.keep s4
  generalize (upd H3 l (HO.lst ys))=H4 at s4 h4 ps4 ⊢
  intro x dx nx ndx nex
  refine ⟨x,dx,_,l,ys,rfl,ac,(by rw [aq (ap h4 nx),aq (ap h4 ndx)];exact h4),λsl tp H5 e1 e2 e3 n1 n2 k=>⟨rfl,?_⟩⟩
  have s5:=jc nx ndx k
  have z4:H4 sl=none:=by
   cases e:H4 sl with
   | none=>rfl
   | some u =>
    rw [aq (ap e nx),aq (ap e ndx),e] at n1
    cases n1
  have z0:H sl=none:=by
   cases e:H sl with
   | none=>rfl
   | some u =>
    rw [(s02.trans (s3.trans s4)) _ _ e] at z4
    cases z4
  exact q x dx sl tp ys H5 (s02.trans (s3.trans (s4.trans s5))) z0 ⟨e1,e2,e3,ps4.keep s5⟩
theorem qy{xs:List Stp}{x:Stp}(h:∀y∈xs,y.1≠.give)(r:List Stp):(x.1=.give->cI (xs++x::r)=xs.length):=λhx=>by
 unfold cI
 rw [List.findIdx_append,if_neg]
 ·rw [List.findIdx_cons,decide_eq_true hx]
  simp
 ·intro z
  rw [List.findIdx_lt_length] at z
  obtain ⟨y,hy,e⟩:=z
  exact h y hy (of_decide_eq_true e)
theorem qz{xs:List Stp}(h:∀y∈xs,y.1≠.give):cI xs=xs.length:=by
 unfold cI
 rw [List.findIdx_eq_length]
 exact λy hy=>decide_eq_false (h y hy)
theorem oU(F:Fun K "turning" "turning" iK f fd)(B:TxB mg)(T:TxP K CP)(W:TxW K CW)(GU:∀wd,GM P w K mg base CX0 1 (CW wd) "sure" ["self"] (jD wd)):FnOk P w K mg base CX0 2 f fd ["pact"] (oF CP CW):=by
 refine F.ok sc_turning (λvs H Q E h=>?_) (λcdv A outer s H vs Q E hr h=>?_)
 ·obtain ⟨v,b,xs,rfl,_⟩:=h
  rfl
 obtain ⟨v,b,xs,rfl,⟨a,dx,sl,tp,us,rfl,pa⟩,hl,q⟩:=h
 have nd:=sc_turning.nd
 have pl:xs.length=us.length:=pa.st.len
 refine ⟨_,af (cK PassesOwn.never rfl (bo rfl B.range (aa (ay aD rfl B.len PySem.boot_len (aa (aG (pv 0) rfl) ae)) ae)) (aU (i:=1) nd rfl (Or.inl rfl))
   (aj (aJ (bD (ja λwd=>pm0 (GU wd) (ak (r:=aR K) aC (aG (pv 0) rfl) (pv 1) (λ_ _=>rfl)) (W.cl wd) hr)) (aj (au (pv 1))) aA)))
  (aj (au (ay aD rfl B.len PySem.boot_len (aa (aG (pv 0) rfl) ae)))),?_⟩
 have hs:(100000:Nat)<=sizeLine:=by decide
 refine ⟨_,rfl,a,CP,dx,_,_,rfl,pa.ins,T.cl,T.np,iN _ _ _,tp,_,rfl,.inr (SqT.of pa.tp),_,rfl,by omega,by omega,?_⟩
 have e0:((us.length:Nat):Int).toNat=us.length:=rfl
 refine bZ (n:=us.length) (λi σ H'=>H'=H/\(∀y∈xs.take i,y.1≠.give)/\∃x1,σ=[some (.ref a),x1]) ⟨rfl,(λy hy=>nomatch hy),none,rfl⟩ ?_ ?_
 ·rintro i σ H' hi ⟨rfl,nog,x1,rfl⟩
  obtain ⟨x,ex,sa,sdx,e,hsa⟩:=pa.st.get (List.getElem?_eq_getElem hi)
  have f1:=gD (m:="sure") (by decide +kernel) (by decide +kernel) (by decide +kernel) (by decide +kernel) (by decide +kernel) x.1 x.2
  have ei:(0:Int)+(i:Nat)=((i:Nat):Int):=Int.zero_add _
  rw [ei]
  refine ⟨x.1,_,rfl,a,CP,dx,_,_,rfl,pa.ins,T.cl,T.np,iN _ _ _,_,rfl,tp,_,_,_,rfl,rfl,SqT.of pa.tp,aB (by rw [List.getElem?_eq_getElem hi,e]),sa,sdx,_,rfl,hsa,f1,_,rfl,_,rfl,?_⟩
  have et:xs=xs.take i++x::xs.drop (i+1):=by
   have hx:=(List.getElem?_eq_some_iff.mp ex)
   obtain ⟨h1,h2⟩:=hx
   rw [← h2]
   rw [← List.drop_eq_getElem_cons h1,List.take_append_drop]
  by_cases hg:x.1=.give
  ·rw [decide_eq_true hg]
   refine cO ⟨_,rfl,?_⟩
   have z:=qy nog (xs.drop (i+1)) hg
   rw [← et,List.length_take,Nat.min_eq_left (by omega)] at z
   rw [z] at q
   exact q
  ·rw [decide_eq_false hg]
   refine a8 ⟨rfl,λy hy=>?_,_,rfl⟩
   rw [List.take_add_one,ex] at hy
   rcases List.mem_append.mp hy with hy | hy
   ·exact nog y hy
   ·have:y=x:=by simpa using hy
    rw [this]
    exact hg
 ·rintro σ H' ⟨rfl,nog,x1,rfl⟩
  rw [← pl,List.take_length] at nog
  rw [qz nog,pl] at q
  exact ⟨_,rfl,a,CP,dx,_,_,rfl,pa.ins,T.cl,T.np,iN _ _ _,tp,_,rfl,.inr (SqT.of pa.tp),q⟩
theorem qp{sz:List Int}{x:Int}(h0:0<=x)(h1:x<(sz.length:Nat)):∃m,m∈sz/\sz[x.toNat]?=some m/\atI (sz.map V.int) x=some (.int m):=by
 obtain ⟨n,rfl⟩:∃n:Nat,x=(n:Int):=⟨x.toNat,(Int.toNat_of_nonneg h0).symm⟩
 have hl:n<sz.length:=by omega
 rw [Int.toNat_natCast]
 refine ⟨sz[n],List.getElem_mem hl,List.getElem?_eq_getElem hl,aB ?_⟩
 rw [List.getElem?_map,List.getElem?_eq_getElem hl]
 rfl
theorem uC{sz:List Int}{x:Stp}(h:hvI (aP x.1 x.2)=none):bF sz x=true:=by
 unfold bF
 rw [h]
theorem pL{sz:List Int}{x:Stp}{n:Int}(h:hvI (aP x.1 x.2)=some n)(c:¬n<(sz.length:Nat)):bF sz x=false:=by
 unfold bF
 rw [h]
 show (decide _&&_)=false
 rw [decide_eq_false c,Bool.false_and]
theorem lq{sz:List Int}{x:Stp}{n m:Int}(h:hvI (aP x.1 x.2)=some n)(c:n<(sz.length:Nat))(e:sz[n.toNat]?=some m):bF sz x=decide (kN x.1 x.2<m):=by
 unfold bF
 rw [h]
 show (decide _&&decide (_<(sz[n.toNat]?).getD 0))=_
 rw [decide_eq_true c,Bool.true_and,e]
 rfl
theorem sS(F:Fun K "is_there" "is_there" gJ f fd)(B:TxB mg)(W:TxW K CW)(GH:∀wd,GM P w K mg base CX0 1 (CW wd) "house" ["self"] (cA CW wd))(GL:∀wd,GM P w K mg base CX0 3 (CW wd) "lock" ["self"] (dO CW K wd)):FnOk P w K mg base CX0 4 f fd ["step","sizes"] (lB CW):=by
 refine F.ok sc_is_there (λvs H Q E h=>?_) (λcdv A outer s H vs Q E hr h=>?_)
 ·obtain ⟨v,q,x,sz,rfl,_⟩:=h
  rfl
 obtain ⟨v,q0,x,sz,rfl,ar,⟨sa,sdx,rfl,hsa⟩,hq,q⟩:=h
 have nd:=sc_is_there.nd
 refine ⟨_,af (aI (i:=2) nd rfl (Or.inl rfl) (ja λwd=>pm0 (GH wd) (pv 0) (W.cl wd) hr))
  (aj (au (sI (cn sP (pv 2) jV (az _)) (fX (iO (cn gA (pv 2) (ay aD rfl B.len PySem.boot_len (aa (pv 1) ae)) (az _))
   (fX (cn gA (ak (r:=aR K) aC (ja λwd=>pm0 (GL wd) (pv 0) (W.cl wd) hr) ag (λ_ _=>rfl)) (ak (r:=aN K) am (pv 1) (pv 2) (λ_ _=>rfl)) (az _)))))))),?_⟩
 have f1:=gD (m:="house") (by decide +kernel) (by decide +kernel) (by decide +kernel) (by decide +kernel) (by decide +kernel) x.1 x.2
 have f2:=gD (m:="lock") (by decide +kernel) (by decide +kernel) (by decide +kernel) (by decide +kernel) (by decide +kernel) x.1 x.2
 refine ⟨x.1,_,rfl,sa,sdx,_,rfl,hsa,f1,_,x.2,rfl,ar,⟨sa,sdx,rfl,hsa⟩,_,rfl,rfl,_,rfl,?_⟩
 have ln:(sz.map V.int).length=sz.length:=List.length_map _
 rcases oi ar with ⟨e1,_⟩ | ⟨i,e1,i0,kd,fi,el⟩
 ·have z:=q H (Same.refl _)
  rw [uC (by rw [e1];rfl)] at z
  rw [e1,decide_eq_true rfl]
  exact cO z
 have hv:hvI (aP x.1 x.2)=some i:=by rw [e1];rfl
 have ne:¬aP x.1 x.2=.non:=λz=>by rw [e1] at z;cases z
 rw [decide_eq_false ne]
 rw [e1]
 refine a8 ⟨_,rfl,_,rfl,q0,_,rfl,.inl (SqL.of hq),_,_,rfl,rfl,_,rfl,bb (λc=>?_) (λc=>?_)⟩
 ·have c':i<(((sz.map V.int).length:Nat):Int):=of_decide_eq_true c
  rw [ln] at c'
  obtain ⟨m,_,e2,em⟩:=qp i0 c'
  refine ⟨x.1,_,rfl,sa,sdx,_,rfl,hsa,f2,_,x.2,rfl,ar,⟨sa,sdx,rfl,hsa⟩,λu H1 s1 ol=>?_⟩
  rw [el] at ol
  obtain ⟨t,rfl,hs⟩:=ol
  have z:=q H1 s1
  rw [lq hv c' e2] at z
  exact ⟨t,_,_,_,rfl,rfl,SqT.of hs,St.at2,_,rfl,_,rfl,q0,_,_,_,rfl,rfl,SqL.of (s1 _ _ hq),em,_,_,rfl,rfl,z⟩
 ·have c':¬i<(((sz.map V.int).length:Nat):Int):=λz=>c (decide_eq_true z)
  rw [ln] at c'
  have z:=q H (Same.refl _)
  rw [pL hv c'] at z
  exact z
structure TxN(K:PySem.W.Frag)(mg:Str->Option Value)(CW:Wd->Addr):Prop where
 mgN:mg "NeedStep"=some (.ref (CW .need))
 ha:∀wd,PySem.W.findIn K (.ref (CW wd)) "__class__"=some (some (.builtin "object.__class__"))
 hn:PySem.W.specialIn K (.builtin "object.__class__") "__get__"=some (some (.builtin "getset_descriptor.__get__"))
 htk:PySem.W.takesIn K (.builtin "object.__class__")=some true
 hm:∀wd,PySem.W.mroIn K (CW wd) (.type "object")=some true
 isN:∀wd,PySem.W.kitOne K (.ref (CW wd)) (.ref (CW .need))=some (decide (wd=.need))
def sd(CP:Addr)(CW:Wd->Addr):Sp:=λvs H Q _=>∃v b xs,vs=[v]/\PaO CP CW H (mS b) xs v/\xs.length<=20/\j2 xs xs.length/\Q .non H
theorem wV(F:Fun K "look_behind" "look_behind" dX f fd)(B:TxB mg)(T:TxP K CP)(W:TxW K CW)(N:TxN K mg CW)(GT:GF P w K mg base CX0 2 "turning" ["pact"] (oF CP CW)):FnOk P w K mg base CX0 3 f fd ["pact"] (sd CP CW):=by
 refine F.ok sc_look_behind (λvs H Q E h=>?_) (λcdv A outer s H vs Q E hr h=>?_)
 ·obtain ⟨v,b,xs,rfl,_⟩:=h
  rfl
 obtain ⟨v,b,xs,rfl,⟨a,dx,sl,tp,us,rfl,pa⟩,hl,nn,q⟩:=h
 have nd:=sc_look_behind.nd
 have pl:xs.length=us.length:=pa.st.len
 refine ⟨_,aj (cK PassesOwn.never rfl (kK rfl B.range (aa (aF bc (pc GT hr (aa (pv 0) ae)) ag) (aa (ay aD rfl B.len PySem.boot_len (aa (aG (pv 0) rfl) ae)) ae))) (aU (i:=1) nd rfl (Or.inl rfl))
   (aj (aJ (bD (ay mQ rfl B.isi PyProof.Rows.boot_isinstance (aa (ak (r:=aR K) aC (aG (pv 0) rfl) (pv 1) (λ_ _=>rfl)) (aa (eV (v:=.ref (CW .need)) rfl N.mgN rfl) ae)))) aH aA))),?_⟩
 refine ⟨_,rfl,_,b,xs,rfl,⟨a,dx,sl,tp,us,rfl,pa⟩,hl,_,_,rfl,rfl,_,rfl,a,CP,dx,_,_,rfl,pa.ins,T.cl,T.np,iN _ _ _,tp,_,rfl,.inr (SqT.of pa.tp),?_⟩
 have tl:cI xs<=xs.length:=List.findIdx_le_length
 refine ⟨_,_,rfl,⟨by omega,by omega,by omega,by omega⟩,?_⟩
 refine bZ (λi σ H'=>H'=H/\∃x1,σ=[some (.ref a),x1]) ⟨rfl,none,rfl⟩ ?_ ?_
 ·rintro i σ H' hi ⟨rfl,x1,rfl⟩
  have hk:cI xs+1+i<us.length:=by omega
  obtain ⟨x,ex,sa,sdx,e,hsa⟩:=pa.st.get (List.getElem?_eq_getElem hk)
  have ei:((cI xs:Nat):Int)+1+(i:Nat)=((cI xs+1+i:Nat):Int):=by omega
  rw [ei]
  refine ⟨_,rfl,a,CP,dx,_,_,rfl,pa.ins,T.cl,T.np,iN _ _ _,_,rfl,tp,_,_,_,rfl,rfl,SqT.of pa.tp,aB (by rw [List.getElem?_eq_getElem hk,e]),_,_,_,_,rfl,TyOf.ins hsa (W.cl x.1) (N.ha x.1) N.hn N.htk (N.hm x.1),N.isN x.1,_,rfl,?_⟩
  rw [decide_eq_false (nn _ (by omega) (by omega) x ex)]
  exact a8 ⟨rfl,_,rfl⟩
 ·rintro σ H' ⟨rfl,x1,rfl⟩
  exact q
def yH(b:Bool)(sz:List Int)(xs:List Stp):Prop:=rL sz xs xs.length/\(b=true->j2 xs xs.length)
def r8(CP:Addr)(CW:Wd->Addr):Sp:=λvs H Q _=>∃v q b xs sz,vs=[v,.ref q]/\PaO CP CW H (mS b) xs v/\ArS xs/\xs.length<=20/\Sz H q sz/\yH b sz xs/\∀H',Same H H'->Q .non H'
theorem ve(F:Fun K "look" "look" oN f fd)(B:TxB mg)(T:TxP K CP)(GT:GF P w K mg base CX0 4 "is_there" ["step","sizes"] (lB CW))(GB:GF P w K mg base CX0 3 "look_behind" ["pact"] (sd CP CW)):FnOk P w K mg base CX0 5 f fd ["pact","sizes"] (r8 CP CW):=by
 refine F.ok sc_look (λvs H Q E h=>?_) (λcdv A outer s H vs Q E hr h=>?_)
 ·obtain ⟨v,q,b,xs,sz,rfl,_⟩:=h
  rfl
 obtain ⟨v,q0,b,xs,sz,rfl,⟨a,dx,sl,tp,us,rfl,pa⟩,ar,hl,hq,⟨al,nn⟩,q⟩:=h
 have nd:=sc_look.nd
 have pl:xs.length=us.length:=pa.st.len
 refine ⟨_,af (cK PassesOwn.never rfl (bo rfl B.range (aa (ay aD rfl B.len PySem.boot_len (aa (aG (pv 0) rfl) ae)) ae)) (aU (i:=2) nd rfl (Or.inl rfl))
   (aj (aJ (dv (bD (pc GT hr (aa (ak (r:=aR K) aC (aG (pv 0) rfl) (pv 2) (λ_ _=>rfl)) (aa (pv 1) ae))))) aH aA)))
  (aj (aJ (aw a9 (aG (pv 0) rfl) aE (az _)) (aj (bq (pc GB hr (aa (pv 0) ae)))) aA)),?_⟩
 refine ⟨_,rfl,a,CP,dx,_,_,rfl,pa.ins,T.cl,T.np,iN _ _ _,tp,_,rfl,.inr (SqT.of pa.tp),_,rfl,by omega,by omega,?_⟩
 refine bZ (n:=us.length) (λi σ H'=>Same H H'/\∃x2,σ=[some (.ref a),some (.ref q0),x2]) ⟨Same.refl _,none,rfl⟩ ?_ ?_
 ·rintro i σ H1 hi ⟨s1,x2,rfl⟩
  obtain ⟨x,ex,sa,sdx,e,hsa⟩:=pa.st.get (List.getElem?_eq_getElem hi)
  have ei:(0:Int)+(i:Nat)=((i:Nat):Int):=Int.zero_add _
  rw [ei]
  refine ⟨_,rfl,a,CP,dx,_,_,rfl,s1 _ _ pa.ins,T.cl,T.np,iN _ _ _,_,rfl,tp,_,_,_,rfl,rfl,SqT.of (s1 _ _ pa.tp),aB (by rw [List.getElem?_eq_getElem hi,e]),_,rfl,_,q0,x,sz,rfl,ar x (List.mem_of_getElem? ex),⟨sa,sdx,rfl,s1 _ _ hsa⟩,s1 _ _ hq,λH2 s2=>⟨_,rfl,?_⟩⟩
  rw [al i (by omega) x ex]
  exact a8 ⟨s1.trans s2,_,rfl⟩
 ·rintro σ H1 ⟨s1,x2,rfl⟩
  have pa1:=pa.keep s1
  refine ⟨_,rfl,a,CP,dx,_,_,rfl,pa1.ins,T.cl,T.nm,wJ _ _ _,rfl,_,rfl,?_⟩
  cases b with
  | true=>exact bb (λ_=>⟨_,rfl,_,true,xs,rfl,⟨a,dx,sl,tp,us,rfl,pa1⟩,hl,nn rfl,q _ s1⟩) (λc=>absurd (decide_eq_true rfl) c)
  | false=>exact bb (λc=>absurd (V.str.inj (of_decide_eq_true c)) (by decide +kernel)) (λ_=>q _ s1)
def gz(val:Int->Int)(n:Nat):Sp:=λvs H Q _=>∃c:Int,vs=[.int c]/\0<=c/\c<n/\∀H',Same H H'->Q (.int (val c)) H'
def nh(val:Int->Int)(a:Int):Nat->Int
 | 0=>0
 | n+1=>nh val a n+val (a+n)
def sB(a:Int)(n:Nat):List Int:=(List.range n).map λi=>a+(i:Nat)
theorem nB(a:Int)(n:Nat):sB a (n+1)=sB a n++[a+n]:=by
 unfold sB
 rw [List.range_succ,List.map_append]
 rfl
theorem uG(val:Int->Int)(a:Int)(n:Nat):((sB a n).map val).sum=nh val a n:=by
 induction n with
 | zero=>rfl
 | succ n ih =>
  rw [nB,List.map_append,List.sum_append,ih]
  simp [nh]
def dn(val:Int->Int):Wd->List Int->Int->Int×List (Int×Int)
 | .take,[_,c],_=>(val c,[])
 | .mean,[_,c],_=>(val c,[])
 | .sum,[_,a,b],_=>(nh val a (b+1-a).toNat,[])
 | .give,[_,c],h=>(h,[(c,h)])
 | .add,[_,c,v],h=>(h,[(c,val c+v)])
 | .plus,[a],h=>(h+a,[])
 | _,_,h=>(h,[])
def bk(val:Int->Int):Wd->List Int->List (Int×Int)
 | .add,[_,c,v]=>[(c,val c-v)]
 | _,_=>[]
def inC(n:Nat):Wd->List Int->Int->Prop
 | .sum,[_,a,b],_=>a<n/\b<n
 | .add,[_,c,_],_=>c<n
 | .need,[a],h=>a<=h
 | .plus,_,_=>True
 | .need,_,_=>False
 | _,[_,c],_=>c<n
 | _,_,_=>False
def ChT(H:Hp)(cs:List (Int×Int))(a:Addr):Prop:=∃us,H a=some (.tup us)/\Paired (λ(x:Int×Int) u=>∃b,u=.ref b/\H b=some (.tup [.int x.1,.int x.2])) cs us
theorem ChT.keep{H H':Hp}{cs:List (Int×Int)}{a:Addr}(s:bf H H')(h:ChT H cs a):ChT H' cs a:=by
 obtain ⟨us,h1,h2⟩:=h
 exact ⟨us,s _ _ h1,Paired.mapP h2 λ_ _ ⟨b,e,z⟩=>⟨b,e,s _ _ z⟩⟩
def eN(P:Program)(w:World)(K:PySem.W.Frag)(mg:Str->Option Value)(CW:Wd->Addr)(val:Int->Int)(n:Nat)(wd:Wd)(B:Heap):Sp:=λvs H Q _=>∃v ns hand fv,vs=[v,.int hand,.ref fv]/\Ar wd ns/\inC n wd ns hand/\StO CW H wd ns v/\CloT P w K mg B 4 fv (gz val n) H /\
 ∀t ch H',Same H H'->H' t=some (.tup [.int (dn val wd ns hand).1,.ref ch])->ChT H' (dn val wd ns hand).2 ch->Q (.ref t) H'
def jG(P:Program)(w:World)(K:PySem.W.Frag)(mg:Str->Option Value)(CW:Wd->Addr)(val:Int->Int)(n:Nat)(wd:Wd)(B:Heap):Sp:=λvs H Q _=>∃v ns fv,vs=[v,.ref fv]/\Ar wd ns/\inC n wd ns 0/\StO CW H wd ns v/\CloT P w K mg B 4 fv (gz val n) H /\
 ∀ch H',Same H H'->ChT H' (bk val wd ns) ch->Q (.ref ch) H'
section
variable {val:Int->Int}{n:Nat}
theorem tH{wd:Wd}{st:Stmt}{q:Str}(hw:wd=.take\/wd=.mean)(F:Fun K "step_done" q st f fd)(S:ao ["self","hand","value_of"] ["self","hand","value_of"] (defScope st)){p1 p2 p3 p4 p5 p6 p7 x1 x2}(hb:defBody st=[.Return (some (.Tuple [.Call (.Name "value_of" p1) [.Attribute (.Name "self" p2) "cell" p3] [] p4,.Tuple [] x1 p5] x2 p6)) p7])(hs:defScope st=defScope bR)(T:TxW K CW) :
  FnOk P w K mg base CX0 5 f fd ["self","hand","value_of"] (eN P w K mg CW val n wd base):=by
 refine F.ok S (λvs H Q E h=>?_) (λcdv A outer s H vs Q E hr h=>?_)
 ·obtain ⟨v,ns,hand,fv,rfl,_⟩:=h
  rfl
 obtain ⟨v,ns,hand,fv,rfl,ar,ic,⟨a,dx,rfl,ha⟩,ct,q⟩:=h
 rw [hb,hs]
 rw [hs] at hr
 obtain ⟨x,y,rfl,h1,h2,e⟩:=ar.c (by rcases hw with rfl | rfl<;>rfl)
 rw [e] at ha
 have icy:y<n:=by rcases hw with rfl | rfl<;>exact ic
 have ed:dn val wd [x,y] hand=(val y,[]):=by rcases hw with rfl | rfl<;>rfl
 rw [ed] at q
 refine ⟨_,aj (au (aK (aa (g6 (k:=4) (i:=2) (sp:=gz val n) P w K mg base rfl (.inl rfl) hr (aa (aG (pv 0) rfl) ae)) (aa (aK ae) ae)))),?_⟩
 refine ⟨fv,rfl,ct.fn,_,rfl,a,CW wd,dx,_,_,rfl,ha,T.cl _,T.nC _,bj,_,rfl,ct,y,rfl,h2.1,icy,λH1 s1=>⟨(by show 0<=sizeLine;decide),λt ht=>⟨(by show 2<=sizeLine;decide),λt2 ht2=>q t2 t _ (s1.trans ((ai ht).trans (ai ht2))) ac ⟨[],ai ht2 _ _ ac,.nil⟩⟩⟩⟩
theorem tK(F:Fun K "step_done" "GiveStep.step_done" bV f fd)(T:TxW K CW):FnOk P w K mg base CX0 5 f fd ["self","hand","value_of"] (eN P w K mg CW val n .give base):=by
 refine F.ok fD (λvs H Q E h=>?_) (λcdv A outer s H vs Q E hr h=>?_)
 ·obtain ⟨v,ns,hand,fv,rfl,_⟩:=h
  rfl
 obtain ⟨v,ns,hand,fv,rfl,ar,ic,⟨a,dx,rfl,ha⟩,ct,q⟩:=h
 obtain ⟨x,y,rfl,h1,h2,e⟩:=ar.c rfl
 rw [e] at ha
 refine ⟨_,aj (au (aK (aa (pv 1) (aa (aK (aa (aK (aa (aG (pv 0) rfl) (aa (pv 1) ae))) ae)) ae)))),?_⟩
 refine ⟨_,rfl,_,rfl,a,CW .give,dx,_,_,rfl,ha,T.cl _,T.nC _,bj,_,rfl,(by show 2<=sizeLine;decide),λt ht=>⟨(by show 1<=sizeLine;decide),λt1 ht1=>⟨(by show 2<=sizeLine;decide),λt2 ht2=>q t2 t1 _ ((ai ht).trans ((ai ht1).trans (ai ht2))) ac ⟨_,ai ht2 _ _ ac,.cons ⟨t,rfl,?_⟩ .nil⟩⟩⟩⟩
 exact ai ht2 _ _ (ai ht1 _ _ ac)
theorem ue(x y z:Int):(hR .add [x,y,z]).lookup (Str.ofString "cell")=some (V.int y)/\(hR .add [x,y,z]).lookup (Str.ofString "amount")=some (V.int z):=by
 constructor
 ·show (aL "amount" _ (aL "cell" _ (aL "where" _ []))).lookup _=_
  rw [bv (by decide +kernel),bj]
 ·show (aL "amount" _ (aL "cell" _ (aL "where" _ []))).lookup _=_
  rw [bj]
theorem vm(F:Fun K "step_done" "AddStep.step_done" ce f fd)(T:TxW K CW):FnOk P w K mg base CX0 5 f fd ["self","hand","value_of"] (eN P w K mg CW val n .add base):=by
 refine F.ok fJ (λvs H Q E h=>?_) (λcdv A outer s H vs Q E hr h=>?_)
 ·obtain ⟨v,ns,hand,fv,rfl,_⟩:=h
  rfl
 obtain ⟨v,ns,hand,fv,rfl,ar,ic,⟨a,dx,rfl,ha⟩,ct,q⟩:=h
 obtain ⟨x,y,z,rfl,h1,h2,_⟩:=ar.a
 refine ⟨_,aj (au (aK (aa (pv 1) (aa (aK (aa (aK (aa (aG (pv 0) rfl) (aa (aF bc (g6 (k:=4) (i:=2) (sp:=gz val n) P w K mg base rfl (.inl rfl) hr (aa (aG (pv 0) rfl) ae)) (aG (pv 0) rfl)) ae))) ae)) ae)))),?_⟩
 obtain ⟨lc,lm⟩:=ue x y z
 refine ⟨_,rfl,_,rfl,a,CW .add,dx,_,_,rfl,ha,T.cl _,T.nC _,lc,fv,rfl,ct.fn,_,rfl,a,CW .add,dx,_,_,rfl,ha,T.cl _,T.nC _,lc,_,rfl,ct,y,rfl,h2.1,ic,λH1 s1=>⟨_,rfl,a,CW .add,dx,_,_,rfl,s1 _ _ ha,T.cl _,T.nA _,lm,_,_,rfl,rfl,
  (by show 2<=sizeLine;decide),λt ht=>⟨(by show 1<=sizeLine;decide),λt1 ht1=>⟨(by show 2<=sizeLine;decide),λt2 ht2=>q t2 t1 _ (s1.trans ((ai ht).trans ((ai ht1).trans (ai ht2)))) ac ⟨_,ai ht2 _ _ ac,.cons ⟨t,rfl,?_⟩ .nil⟩⟩⟩⟩⟩
 exact ai ht2 _ _ (ai ht1 _ _ ac)
theorem vp(F:Fun K "back" "AddStep.back" dH f fd)(T:TxW K CW):FnOk P w K mg base CX0 5 f fd ["self","value_of"] (jG P w K mg CW val n .add base):=by
 refine F.ok jm (λvs H Q E h=>?_) (λcdv A outer s H vs Q E hr h=>?_)
 ·obtain ⟨v,ns,fv,rfl,_⟩:=h
  rfl
 obtain ⟨v,ns,fv,rfl,ar,ic,⟨a,dx,rfl,ha⟩,ct,q⟩:=h
 obtain ⟨x,y,z,rfl,h1,h2,_⟩:=ar.a
 refine ⟨_,aj (au (aK (aa (aK (aa (aG (pv 0) rfl) (aa (aF gN (g6 (k:=4) (i:=1) (sp:=gz val n) P w K mg base rfl (.inl rfl) hr (aa (aG (pv 0) rfl) ae)) (aG (pv 0) rfl)) ae))) ae))),?_⟩
 obtain ⟨lc,lm⟩:=ue x y z
 refine ⟨_,rfl,a,CW .add,dx,_,_,rfl,ha,T.cl _,T.nC _,lc,fv,rfl,ct.fn,_,rfl,a,CW .add,dx,_,_,rfl,ha,T.cl _,T.nC _,lc,_,rfl,ct,y,rfl,h2.1,ic,λH1 s1=>⟨_,rfl,a,CW .add,dx,_,_,rfl,s1 _ _ ha,T.cl _,T.nA _,lm,_,_,rfl,rfl,
  (by show 2<=sizeLine;decide),λt ht=>⟨(by show 1<=sizeLine;decide),λt1 ht1=>q t1 _ (s1.trans ((ai ht).trans (ai ht1))) ⟨_,ac,.cons ⟨t,rfl,?_⟩ .nil⟩⟩⟩⟩
 exact ai ht1 _ _ ac
theorem iP{wd:Wd}(hw:wd≠.add)(F:Fun K "back" "Step.back" f9 f fd):FnOk P w K mg base CX0 5 f fd ["self","value_of"] (jG P w K mg CW val n wd base):=by
 refine F.ok lR (λvs H Q E h=>?_) (λcdv A outer s H vs Q E hr h=>?_)
 ·obtain ⟨v,ns,fv,rfl,_⟩:=h
  rfl
 obtain ⟨v,ns,fv,rfl,ar,ic,sto,ct,q⟩:=h
 have e:bk val wd ns=[]:=by
  unfold bk
  split
  ·exact absurd rfl hw
  ·rfl
 rw [e] at q
 exact ⟨_,aj (au (aK ae)),(by show 0<=sizeLine;decide),λt ht=>q t _ (ai ht) ⟨[],ac,.nil⟩⟩
theorem tI(F:Fun K "step_done" "PlusStep.step_done" bT f fd)(T:TxW K CW):FnOk P w K mg base CX0 5 f fd ["self","hand","value_of"] (eN P w K mg CW val n .plus base):=by
 refine F.ok fx (λvs H Q E h=>?_) (λcdv A outer s H vs Q E hr h=>?_)
 ·obtain ⟨v,ns,hand,fv,rfl,_⟩:=h
  rfl
 obtain ⟨v,ns,hand,fv,rfl,ar,ic,⟨a,dx,rfl,ha⟩,ct,q⟩:=h
 obtain ⟨x,rfl,h1⟩:=ar.p
 refine ⟨_,aj (au (aK (aa (aF bc (pv 1) (aG (pv 0) rfl)) (aa (aK ae) ae)))),?_⟩
 exact ⟨_,rfl,_,rfl,a,CW .plus,dx,_,_,rfl,ha,T.cl _,T.nA _,bj,_,_,rfl,rfl,(by show 0<=sizeLine;decide),λt ht=>⟨(by show 2<=sizeLine;decide),λt2 ht2=>q t2 t _ ((ai ht).trans (ai ht2)) ac ⟨[],ai ht2 _ _ ac,.nil⟩⟩⟩
theorem tJ(F:Fun K "step_done" "NeedStep.step_done" bU f fd)(T:TxW K CW):FnOk P w K mg base CX0 5 f fd ["self","hand","value_of"] (eN P w K mg CW val n .need base):=by
 refine F.ok fy (λvs H Q E h=>?_) (λcdv A outer s H vs Q E hr h=>?_)
 ·obtain ⟨v,ns,hand,fv,rfl,_⟩:=h
  rfl
 obtain ⟨v,ns,hand,fv,rfl,ar,ic,⟨a,dx,rfl,ha⟩,ct,q⟩:=h
 obtain ⟨x,rfl,h1⟩:=ar.n
 have ic':x<=hand:=ic
 refine ⟨_,af (aJ (aw gA (pv 1) (aG (pv 0) rfl) (az _)) aH aA) (aj (au (aK (aa (pv 1) (aa (aK ae) ae))))),?_⟩
 refine ⟨_,rfl,_,rfl,a,CW .need,dx,_,_,rfl,ha,T.cl _,T.nA _,bj,_,_,rfl,rfl,_,rfl,bb (λc=>?_) (λ_=>?_)⟩
 ·have z:hand<x:=of_decide_eq_true c
  omega
 ·exact ⟨_,rfl,(by show 0<=sizeLine;decide),λt ht=>⟨(by show 2<=sizeLine;decide),λt2 ht2=>q t2 t _ ((ai ht).trans (ai ht2)) ac ⟨[],ai ht2 _ _ ac,.nil⟩⟩⟩
theorem vk(F:Fun K "step_done" "SumStep.step_done" be f fd)(T:TxW K CW)(B:TxB mg)(hsum:mg "sum"=none)(hn:n<=1000):FnOk P w K mg base CX0 5 f fd ["self","hand","value_of"] (eN P w K mg CW val n .sum base):=by
 refine F.ok fH (λvs H Q E h=>?_) (λcdv A outer s H vs Q E hr h=>?_)
 ·obtain ⟨v,ns,hand,fv,rfl,_⟩:=h
  rfl
 obtain ⟨v,ns,hand,fv,rfl,ar,ic,⟨a,dx,rfl,ha⟩,ct,q⟩:=h
 obtain ⟨x,y,z,rfl,h1,h2,h3,h4⟩:=ar.s
 refine ⟨_,aj (au (aK (aa (ay (gE rfl) rfl hsum PyProof.Rows.boot_sum (aa (dR eQ rfl (qM rfl B.range (aa (aG (pv 0) rfl) (aa (aF bc (aG (pv 0) rfl) ag) ae))) (λ_ _ _ _=>bp)
  (λ_ _ _ _=>g6 (k:=4) (i:=1) (sp:=gz val n) P w K mg base rfl (by first | exact Or.inl rfl | exact Or.inr (Or.inl rfl) | exact Or.inr (Or.inr rfl)) hr (aa (pv 0) ae))) ae)) (aa (aK ae) ae)))),?_⟩
 have ll:(hR .sum [x,y,z]).lookup (Str.ofString "low")=some (V.int y):=by
  show (aL "high" _ (aL "low" _ (aL "where" _ []))).lookup _=_
  rw [bv (by decide +kernel),bj]
 have lh:(hR .sum [x,y,z]).lookup (Str.ofString "high")=some (V.int z):=by
  show (aL "high" _ (aL "low" _ (aL "where" _ []))).lookup _=_
  rw [bj]
 refine ⟨_,rfl,a,CW .sum,dx,_,_,rfl,ha,T.cl _,T.nL _,ll,_,rfl,a,CW .sum,dx,_,_,rfl,ha,T.cl _,T.nH _,lh,_,_,rfl,rfl,_,_,rfl,?_⟩
 have y0:0<=y:=h2.1
 have ic2:z<n:=ic.2
 have hz:(z+1-y).toNat<=n:=by omega
 have h1000:(1000:Nat)<=sizeLine:=by decide
 refine qW (λi ys H'=>Same H H'/\ys=((sB y i).map val).map V.int) ⟨Same.refl _,rfl⟩ (by omega) ?_ ?_
 ·rintro i ys H2 hi ⟨s2,rfl⟩
  have c2:=ct.keep s2
  refine eE ⟨fv,rfl,c2.fn,_,rfl,_,rfl,c2,y+i,rfl,by omega,by omega,λH3 s3=>⟨s2.trans s3,?_⟩⟩
  rw [nB,List.map_append,List.map_append]
  rfl
 ·rintro ys H2 ⟨s2,rfl⟩ p hp
  refine ⟨p,_,rfl,SqL.of ac,?_⟩
  rw [uG]
  exact ⟨(by show 0<=sizeLine;decide),λt ht=>⟨(by show 2<=sizeLine;decide),λt2 ht2=>q t2 t _ (s2.trans ((ai hp).trans ((ai ht).trans (ai ht2)))) ac ⟨[],ai ht2 _ _ ac,.nil⟩⟩⟩
end
theorem tu(F:Fun K "lock" "TakeStep.lock" cY f fd)(W:TxW K CW)(T:TxK K C)(mgC:∀k,mg (kdN k)=some (.ref (C k))){fI:Addr}{dI:FuncData}(M:∀k,Mk K (C k) fI)
  (GI:FnOk P w K mg base CX0 1 fI dI ["self","first","last"] (gn C))(bI:Binds K dI ["self","first","last"] [])(GT:∀k,GM P w K mg base CX0 2 (C k) "told" ["self"] (gG C)):FnOk P w K mg base CX0 3 f fd ["self"] (dO CW K .take):=by
 refine F.ok ir (λvs H Q E h=>?_) (λcdv A outer s H vs Q E hr h=>?_)
 ·obtain ⟨v,ns,rfl,_⟩:=h
  rfl
 obtain ⟨v,ns,rfl,ar,⟨a,dx,rfl,ha⟩,q⟩:=h
 obtain ⟨x,y,rfl,_,_,e⟩:=ar.c rfl
 rw [e] at ha
 have hr1:Room (1+1) _:=hr
 refine ⟨_,aj (au (pm0 (GT .read) (bM (M .read) GI hr1 rfl (mgC .read) bI .nil bE (aa (aG (pv 0) rfl) (aa (aG (pv 0) rfl) ae))) (T.cl .read) hr)),?_⟩
 refine ⟨_,rfl,a,_,dx,_,_,rfl,ha,W.cl _,W.nC _,bj,_,rfl,a,_,dx,_,_,rfl,ha,W.cl _,W.nC _,bj,λz dz nz ndz nez=>⟨z,dz,.read,y,y,rfl,ac,rfl,z,dz,_,rfl,ac,kM _ _ (by decide +kernel) (by decide +kernel),_,(.read,y,y),rfl,⟨z,dz,rfl,ac⟩,λt ht=>?_⟩⟩
 exact q _ _ ((g9 nz ndz).trans (ai ht)) ⟨t,rfl,ac⟩
theorem tw(F:Fun K "lock" "MeanStep.lock" c9 f fd)(W:TxW K CW)(T:TxK K C)(mgC:∀k,mg (kdN k)=some (.ref (C k))){fI:Addr}{dI:FuncData}(M:∀k,Mk K (C k) fI)
  (GI:FnOk P w K mg base CX0 1 fI dI ["self","first","last"] (gn C))(bI:Binds K dI ["self","first","last"] [])(GT:∀k,GM P w K mg base CX0 2 (C k) "told" ["self"] (gG C)):FnOk P w K mg base CX0 3 f fd ["self"] (dO CW K .mean):=by
 refine F.ok iB (λvs H Q E h=>?_) (λcdv A outer s H vs Q E hr h=>?_)
 ·obtain ⟨v,ns,rfl,_⟩:=h
  rfl
 obtain ⟨v,ns,rfl,ar,⟨a,dx,rfl,ha⟩,q⟩:=h
 obtain ⟨x,y,rfl,_,_,e⟩:=ar.c rfl
 rw [e] at ha
 have hr1:Room (1+1) _:=hr
 refine ⟨_,aj (au (pm0 (GT .mean) (bM (M .mean) GI hr1 rfl (mgC .mean) bI .nil bE (aa (aG (pv 0) rfl) (aa (aG (pv 0) rfl) ae))) (T.cl .mean) hr)),?_⟩
 refine ⟨_,rfl,a,_,dx,_,_,rfl,ha,W.cl _,W.nC _,bj,_,rfl,a,_,dx,_,_,rfl,ha,W.cl _,W.nC _,bj,λz dz nz ndz nez=>⟨z,dz,.mean,y,y,rfl,ac,rfl,z,dz,_,rfl,ac,kM _ _ (by decide +kernel) (by decide +kernel),_,(.mean,y,y),rfl,⟨z,dz,rfl,ac⟩,λt ht=>?_⟩⟩
 exact q _ _ ((g9 nz ndz).trans (ai ht)) ⟨t,rfl,ac⟩
theorem tE(F:Fun K "lock" "GiveStep.lock" db f fd)(W:TxW K CW)(T:TxK K C)(mgC:∀k,mg (kdN k)=some (.ref (C k))){fI:Addr}{dI:FuncData}(M:∀k,Mk K (C k) fI)
  (GI:FnOk P w K mg base CX0 1 fI dI ["self","first","last"] (gn C))(bI:Binds K dI ["self","first","last"] [])(GT:∀k,GM P w K mg base CX0 2 (C k) "told" ["self"] (gG C)):FnOk P w K mg base CX0 3 f fd ["self"] (dO CW K .give):=by
 refine F.ok iD (λvs H Q E h=>?_) (λcdv A outer s H vs Q E hr h=>?_)
 ·obtain ⟨v,ns,rfl,_⟩:=h
  rfl
 obtain ⟨v,ns,rfl,ar,⟨a,dx,rfl,ha⟩,q⟩:=h
 obtain ⟨x,y,rfl,_,_,e⟩:=ar.c rfl
 rw [e] at ha
 have hr1:Room (1+1) _:=hr
 refine ⟨_,aj (au (pm0 (GT .change) (bM (M .change) GI hr1 rfl (mgC .change) bI .nil bE (aa (aG (pv 0) rfl) (aa (aG (pv 0) rfl) ae))) (T.cl .change) hr)),?_⟩
 refine ⟨_,rfl,a,_,dx,_,_,rfl,ha,W.cl _,W.nC _,bj,_,rfl,a,_,dx,_,_,rfl,ha,W.cl _,W.nC _,bj,λz dz nz ndz nez=>⟨z,dz,.change,y,y,rfl,ac,rfl,z,dz,_,rfl,ac,kM _ _ (by decide +kernel) (by decide +kernel),_,(.change,y,y),rfl,⟨z,dz,rfl,ac⟩,λt ht=>?_⟩⟩
 exact q _ _ ((g9 nz ndz).trans (ai ht)) ⟨t,rfl,ac⟩
theorem vf(F:Fun K "lock" "AddStep.lock" dE f fd)(W:TxW K CW)(T:TxK K C)(mgC:∀k,mg (kdN k)=some (.ref (C k))){fI:Addr}{dI:FuncData}(M:∀k,Mk K (C k) fI)
  (GI:FnOk P w K mg base CX0 1 fI dI ["self","first","last"] (gn C))(bI:Binds K dI ["self","first","last"] [])(GT:∀k,GM P w K mg base CX0 2 (C k) "told" ["self"] (gG C)):FnOk P w K mg base CX0 3 f fd ["self"] (dO CW K .add):=by
 refine F.ok jk (λvs H Q E h=>?_) (λcdv A outer s H vs Q E hr h=>?_)
 ·obtain ⟨v,ns,rfl,_⟩:=h
  rfl
 obtain ⟨v,ns,rfl,ar,⟨a,dx,rfl,ha⟩,q⟩:=h
 obtain ⟨x,y,z0,rfl,_⟩:=ar.a
 have hr1:Room (1+1) _:=hr
 refine ⟨_,aj (au (pm0 (GT .change) (bM (M .change) GI hr1 rfl (mgC .change) bI .nil bE (aa (aG (pv 0) rfl) (aa (aG (pv 0) rfl) ae))) (T.cl .change) hr)),?_⟩
 refine ⟨_,rfl,a,_,dx,_,_,rfl,ha,W.cl _,W.nC _,(by show (aL "amount" _ (aL "cell" _ (aL "where" _ []))).lookup _=_;rw [bv (by decide +kernel),bj]),_,rfl,a,_,dx,_,_,rfl,ha,W.cl _,W.nC _,(by show (aL "amount" _ (aL "cell" _ (aL "where" _ []))).lookup _=_;rw [bv (by decide +kernel),bj]),λz dz nz ndz nez=>⟨z,dz,.change,y,y,rfl,ac,rfl,z,dz,_,rfl,ac,kM _ _ (by decide +kernel) (by decide +kernel),_,(.change,y,y),rfl,⟨z,dz,rfl,ac⟩,λt ht=>?_⟩⟩
 exact q _ _ ((g9 nz ndz).trans (ai ht)) ⟨t,rfl,ac⟩
theorem vc(F:Fun K "lock" "SumStep.lock" dy f fd)(W:TxW K CW)(T:TxK K C)(mgC:∀k,mg (kdN k)=some (.ref (C k))){fI:Addr}{dI:FuncData}(M:∀k,Mk K (C k) fI)
  (GI:FnOk P w K mg base CX0 1 fI dI ["self","first","last"] (gn C))(bI:Binds K dI ["self","first","last"] [])(GT:∀k,GM P w K mg base CX0 2 (C k) "told" ["self"] (gG C)):FnOk P w K mg base CX0 3 f fd ["self"] (dO CW K .sum):=by
 refine F.ok jh (λvs H Q E h=>?_) (λcdv A outer s H vs Q E hr h=>?_)
 ·obtain ⟨v,ns,rfl,_⟩:=h
  rfl
 obtain ⟨v,ns,rfl,ar,⟨a,dx,rfl,ha⟩,q⟩:=h
 obtain ⟨x,y,y2,rfl,_⟩:=ar.s
 have hr1:Room (1+1) _:=hr
 refine ⟨_,aj (au (pm0 (GT .read) (bM (M .read) GI hr1 rfl (mgC .read) bI .nil bE (aa (aG (pv 0) rfl) (aa (aG (pv 0) rfl) ae))) (T.cl .read) hr)),?_⟩
 refine ⟨_,rfl,a,_,dx,_,_,rfl,ha,W.cl _,W.nL _,(by show (aL "high" _ (aL "low" _ (aL "where" _ []))).lookup _=_;rw [bv (by decide +kernel),bj]),_,rfl,a,_,dx,_,_,rfl,ha,W.cl _,W.nH _,bj,λz dz nz ndz nez=>⟨z,dz,.read,y,y2,rfl,ac,rfl,z,dz,_,rfl,ac,kM _ _ (by decide +kernel) (by decide +kernel),_,(.read,y,y2),rfl,⟨z,dz,rfl,ac⟩,λt ht=>?_⟩⟩
 exact q _ _ ((g9 nz ndz).trans (ai ht)) ⟨t,rfl,ac⟩
theorem nK{wd:Wd}(hw:wd=.plus\/wd=.need)(F:Fun K "lock" "Step.lock" f8 f fd):FnOk P w K mg base CX0 1 f fd ["self"] (dO CW K wd):=by
 refine F.ok lQ (λvs H Q E h=>?_) (λcdv A outer s H vs Q E hr h=>?_)
 ·obtain ⟨v,ns,rfl,_⟩:=h
  rfl
 obtain ⟨v,ns,rfl,ar,st,q⟩:=h
 refine ⟨_,aj (au jV),?_⟩
 have e:qc wd ns=none:=by rcases hw with rfl | rfl<;>rfl
 rw [e] at q
 exact q .non H (Same.refl H) rfl
end
end K81
namespace K81T
open PySem L2 Km PySem.NumText
abbrev sq:Stmt:=K81.jU
abbrev pW:Stmt:=K81.gV
abbrev vP:Stmt:=K81.kH
abbrev vR:Stmt:=K81.gB
abbrev vQ:Stmt:=K81.fj
abbrev xQ:Stmt:=K81.dU
abbrev sw:Stmt:=K81.dk
abbrev xP:Stmt:=K81.cT
abbrev su:Stmt:=K81.dh
theorem tp:¬(("text":Str)="place"):=by decide +kernel
def rf(z:Str)(k:Int):List (Str×V):=aL "place" (.int k) (aL "text" (.str z) [])
theorem sC(z:Str)(k:Int):rf z k=([("text",V.str z),("place",V.int k)]:List (Str×V)):=by
 show (if ("text":Str)="place" then [(("text":Str),V.int k)] else (("text":Str),V.str z)::aL "place" (V.int k) [])=([("text",V.str z),("place",V.int k)]:List (Str×V))
 rw [if_neg tp]
 all_goals rfl
theorem gp(z:Str)(k:Int):(rf z k).lookup ("text":Str)=some (.str z):=by
 unfold rf
 rw [aV,if_neg tp,aV,if_pos rfl]
theorem cm(z:Str)(k:Int):(rf z k).lookup ("place":Str)=some (.int k):=by
 unfold rf
 rw [aV,if_pos rfl]
theorem kI(z:Str)(k:Int){m:Str}(h1:¬m="place")(h2:¬m="text"):(rf z k).lookup m=none:=by
 unfold rf
 rw [aV,if_neg h1,aV,if_neg h2]
 all_goals rfl
theorem oO(z:Str)(k j:Int):aL "place" (.int j) (rf z k)=rf z j:=by
 rw [sC,sC]
 show (if ("text":Str)="place" then _ else (("text":Str),V.str z)::(if ("place":Str)="place" then [(("place":Str),V.int j)] else _))=([("text",V.str z),("place",V.int j)]:List (Str×V))
 rw [if_neg tp,if_pos rfl]
theorem oP(z:Str)(k:Int):(rf z k).length=2:=by rw [sC];rfl
structure Tx(K:PySem.W.Frag)(mg:Str->Option Value)(C:Addr):Prop where
 cl:Cls K C
 nT:NoAttr K C "text"
 nP:NoAttr K C "place"
 mgC:mg "Reader"=some (.ref C)
 isi:mg "isinstance"=none
 int:mg "int"=none
 bool:mg "bool"=none
 str:mg "str"=none
 len:mg "len"=none
 ord:mg "ord"=none
 all:mg "all"=none
 range:mg "range"=none
 cFig:∃t,mg "MOST_FIGURES_things"=some (.int 400 t)
 cSig:∃t,mg "MOST_SIGNS"=some (.int 2000 t)
 cDeep:∃t,mg "MOST_DEEP"=some (.int 8 t)
 cLong:∃t,mg "LONGEST"=some (.int 100000 t)
 cBl:∃t,mg "BLANK"=some (.int 32 t)
 cPc:∃t,mg "PERCENT"=some (.int 37 t)
 cTi:∃t,mg "TILDE"=some (.int 126 t)
theorem mD{X:Cx}{x:Str}{i:Int}{pos:Pos}(hm:∃t,X.mg x=some (.int i t))(hg:Gl X x)(hd:(x==("__debug__":Str))=false:=by decide):PE X (.Name x pos) (tC (.int i)):=by
 obtain ⟨t,e⟩:=hm
 exact eV hg e ⟨t,rfl⟩ hd
section
variable {K:PySem.W.Frag}
theorem pd:PySem.W.kitOne K (.type "int") (.type "int")=some true:=rfl
theorem xg:PySem.W.kitOne K (.type "bool") (.type "bool")=some true:=rfl
theorem ph:PySem.W.kitOne K (.type "int") (.type "bool")=some false:=by kernel_rfl
theorem xb:PySem.W.kitOne K (.type "str") (.type "int")=some false:=by kernel_rfl
theorem xf:PySem.W.kitOne K (.type "bool") (.type "int")=some true:=by kernel_rfl
theorem xc:PySem.W.kitOne K (.type "NoneType") (.type "int")=some false:=by kernel_rfl
theorem xa:PySem.W.kitOne K (.type "tuple") (.type "int")=some false:=by kernel_rfl
end
section
variable {P:Program}{w:World}{K:PySem.W.Frag}{mg:Str->Option Value}{base:Heap}{f C:Addr}{fd:FuncData}
def v5(H:Hp):V->Option Bool
 | .int _=>some true
 | .str _=>some false
 | .bl _=>some false
 | .non=>some false
 | .ref a=>match H a with
  | some (.tup _)=>some false
  | _=>none
 | _=>none
def lA:Sp:=λvs H Q _=>∃x b,vs=[x]/\v5 H x=some b/\Q (.bl b) H
theorem uO:ao ["thing"] ["thing"] (defScope sq):=⟨rfl,rfl,rfl,by decide +kernel,rfl,by decide +kernel,by decide +kernel⟩
theorem sR(F:Fun K "is_whole" "is_whole" sq f fd)(T:Tx K mg C):FnOk P w K mg base CX0 1 f fd ["thing"] lA:=by
 refine F.ok uO (λvs H Q E h=>?_) (λcdv A outer s H vs Q E hr h=>?_)
 ·obtain ⟨x,b,rfl,_⟩:=h
  rfl
 obtain ⟨x,b,rfl,hb,q⟩:=h
 refine ⟨_,aj (au (iO (ay cz rfl T.isi PyProof.Rows.boot_isinstance (aa (pv 0) (aa (gs (v:=.ty "int") rfl T.int PyProof.Rows.boot_int rfl) ae)))
  (fX (wL (ay cz rfl T.isi PyProof.Rows.boot_isinstance (aa (pv 0) (aa (gs (v:=.ty "bool") rfl T.bool PyProof.Rows.boot_bool rfl) ae))))))),?_⟩
 cases x with
 | int i =>
  cases (Option.some.inj hb)
  refine ⟨_,rfl,_,_,_,_,rfl,TyOf.int i,pd,_,rfl,cO ?_⟩
  exact ⟨_,rfl,_,_,_,_,rfl,TyOf.int i,ph,_,rfl,q⟩
 | str z =>
  cases (Option.some.inj hb)
  exact ⟨_,rfl,_,_,_,_,rfl,TyOf.str z,xb,_,rfl,a8 q⟩
 | bl c =>
  cases (Option.some.inj hb)
  refine ⟨_,rfl,_,_,_,_,rfl,TyOf.bl c,xf,_,rfl,cO ?_⟩
  exact ⟨_,rfl,_,_,_,_,rfl,TyOf.bl c,xg,_,rfl,q⟩
 | non =>
  cases (Option.some.inj hb)
  exact ⟨_,rfl,_,_,_,_,rfl,TyOf.non,xc,_,rfl,a8 q⟩
 | ref a =>
  have hb':(match H a with | some (.tup _)=>some false | _=>none)=some b:=hb
  cases e:H a with
  | none=>rw [e] at hb';cases hb'
  | some o =>
   rw [e] at hb'
   cases o with
   | tup xs =>
    cases (Option.some.inj hb')
    exact ⟨_,rfl,_,_,_,_,rfl,TyOf.tup e,xa,_,rfl,a8 q⟩
   | _=>cases hb'
 | _=>cases hb
theorem hI:1000000<=sizeLine:=by decide
def rX:Sp:=λvs H Q _=>∃c:Nat,vs=[.str ⟨#[c]⟩]/\Q (.bl (oV c)) H
theorem scSign:ao ["sign","number"] ["sign"] (defScope vP):=⟨rfl,rfl,rfl,by decide +kernel,rfl,by decide +kernel,by decide +kernel⟩
theorem u6(F:Fun K "is_sign" "is_sign" vP f fd)(T:Tx K mg C):FnOk P w K mg base CX0 1 f fd ["sign"] rX:=by
 refine F.ok scSign (λvs H Q E h=>?_) (λcdv A outer s H vs Q E hr h=>?_)
 ·obtain ⟨c,rfl,_⟩:=h
  rfl
 obtain ⟨c,rfl,q⟩:=h
 refine ⟨_,af (aI (i:=1) scSign.nd rfl (Or.inl rfl) (ay ut rfl T.ord PyProof.Rows.boot_ord (aa (pv 0) ae)))
  (aj (au (iO (sK vU vU (mD T.cBl rfl) (pv 1) (mD T.cTi rfl)) (fX (cn fY (pv 1) (mD T.cPc rfl) (az _)))))),?_⟩
 refine ⟨_,rfl,_,rfl,rfl,?_⟩
 refine ⟨_,rfl,_,_,rfl,rfl,_,rfl,?_⟩
 have e0:((({cps:=#[c]}:Str).cps.getD 0 0:Nat):Int)=(c:Int):=rfl
 unfold oV at q
 by_cases h1:32<=c
 ·have d1:decide ((32:Int)<=(({cps:=#[c]}:Str).cps.getD 0 0:Nat))=true:=decide_eq_true (by rw [e0];omega)
  rw [d1]
  refine cO ⟨_,_,rfl,rfl,_,rfl,?_⟩
  by_cases h2:c<=126
  ·have d2:decide (((({cps:=#[c]}:Str).cps.getD 0 0:Nat):Int)<=126)=true:=decide_eq_true (by rw [e0];omega)
   rw [d2]
   refine cO ⟨_,rfl,rfl,?_⟩
   have e3:(!decide (V.int (({cps:=#[c]}:Str).cps.getD 0 0:Nat)=V.int 37))=(decide (32<=c)&&decide (c<=126)&&decide (c≠37)):=by
    rw [decide_eq_true h1,decide_eq_true h2,mJ,e0]
    by_cases h3:c=37
    ·subst h3;rfl
    ·have:((c:Int)==37)=false:=beq_eq_false_iff_ne.mpr (by omega)
     rw [this,decide_eq_true h3];rfl
   rw [e3]
   exact q
  ·have d2:decide (((({cps:=#[c]}:Str).cps.getD 0 0:Nat):Int)<=126)=false:=decide_eq_false (by rw [e0];omega)
   rw [d2]
   refine a8 ?_
   rw [decide_eq_false h2,Bool.and_false,Bool.false_and] at q
   exact q
 ·have d1:decide ((32:Int)<=(({cps:=#[c]}:Str).cps.getD 0 0:Nat))=false:=decide_eq_false (by rw [e0];omega)
  rw [d1]
  refine a8 ⟨_,rfl,a8 ?_⟩
  rw [decide_eq_false h1,Bool.false_and,Bool.false_and] at q
  exact q
def se(C:Addr):Sp:=λvs H Q _=>∃p dx z,vs=[.ref p,.str z]/\H p=some (.ins C dx [])/\Q .non (upd (upd H p (.ins C dx (aL "text" (.str z) []))) p (.ins C dx (rf z 0)))
theorem wD:ao ["self","text"] ["self","text"] (defScope vR):=⟨rfl,rfl,rfl,by decide +kernel,rfl,by decide +kernel,by decide +kernel⟩
theorem vg(F:Fun K "__init__" "Reader.__init__" vR f fd)(T:Tx K mg C):FnOk P w K mg base CX0 1 f fd ["self","text"] (se C):=by
 refine F.ok wD (λvs H Q E h=>?_) (λcdv A outer s H vs Q E hr h=>?_)
 ·obtain ⟨p,dx,z,rfl,_⟩:=h
  rfl
 obtain ⟨p,dx,z,rfl,hp,q⟩:=h
 refine ⟨_,af (b9 (pv 0) (pv 1) rfl) (aj (b9 (pv 0) ag rfl)),?_⟩
 exact ⟨_,rfl,_,rfl,p,C,dx,[],rfl,hp,T.cl,T.nT,(by show 0<1000;decide),_,rfl,p,C,dx,_,rfl,ac,T.cl,T.nP,(by show 1<1000;decide),q⟩
theorem jC(z:Str)(c k:Nat):Txt.startswith3 z ⟨#[c]⟩ (k:Int)=decide (z.cps.toList[k]?=some c):=by
 have e1:fromIndex z.length (k:Int)=k:=by
  unfold fromIndex
  rw [if_neg (by omega)]
  omega
 unfold Txt.startswith3
 rw [e1]
 have e2:(({cps:=#[c]}:Str)).length=1:=rfl
 rw [e2]
 by_cases h:k<z.length
 ·have h':k<z.cps.size:=h
  have e3:Builtin.Str.subAt z ⟨#[c]⟩ k=(z.cps[k]==c):=by
   unfold Builtin.Str.subAt
   rw [e2]
   have e4:z.cps.extract k (k+1)=#[z.cps[k]]:=by
    apply Array.ext
    ·simp;omega
    ·intro i h1 h2
     have:i=0:=by simp at h2;omega
     subst this
     simp
   rw [e4]
   simp
  rw [e3]
  have e5:decide (k+1<=z.length)=true:=decide_eq_true h
  rw [e5,Bool.true_and]
  have e6:z.cps.toList[k]?=some z.cps[k]:=by rw [Array.getElem?_toList];exact Array.getElem?_eq_getElem h'
  rw [e6]
  simp [Bool.beq_eq_decide_eq]
 ·have e5:decide (k+1<=z.length)=false:=decide_eq_false (by omega)
  rw [e5,Bool.false_and]
  have e6:z.cps.toList[k]?=none:=by rw [Array.getElem?_toList];exact Array.getElem?_eq_none (by show z.length<=k;omega)
  rw [e6]
  simp
def rY(C:Addr):Sp:=λvs H Q _=>∃p dx z c,∃k:Nat,vs=[.ref p,.str ⟨#[c]⟩]/\H p=some (.ins C dx (rf z k)) /\
 (if z.cps.toList[k]?=some c then Q (.bl true) (upd H p (.ins C dx (rf z ((k+1:Nat):Int)))) else Q (.bl false) H)
theorem wC:ao ["self","sign"] ["self","sign"] (defScope vQ):=⟨rfl,rfl,rfl,by decide +kernel,rfl,by decide +kernel,by decide +kernel⟩
theorem u9(F:Fun K "passes" "Reader.passes" vQ f fd)(T:Tx K mg C):FnOk P w K mg base CX0 1 f fd ["self","sign"] (rY C):=by
 refine F.ok wC (λvs H Q E h=>?_) (λcdv A outer s H vs Q E hr h=>?_)
 ·obtain ⟨p,dx,z,c,k,rfl,_⟩:=h
  rfl
 obtain ⟨p,dx,z,c,k,rfl,hp,q⟩:=h
 refine ⟨_,af (aJ (dv (bD (cS PySem.F.plainAttrs_str PySem.F.slot_str_startswith PySem.F.type_str_startswith j3 (aG (pv 0) rfl) (aa (pv 1) (aa (aG (pv 0) rfl) ae))))) (aj (au jX)) aA)
  (af (kJ (pv 0) ag t7) (aj (au jX))),?_⟩
 refine ⟨_,rfl,p,C,dx,_,_,rfl,hp,T.cl,T.nT,gp _ _,rfl,_,rfl,_,rfl,p,C,dx,_,_,rfl,hp,T.cl,T.nP,cm _ _,_,_,_,rfl,rfl,_,rfl,?_⟩
 rw [jC]
 by_cases hk:z.cps.toList[k]?=some c
 ·rw [if_pos hk] at q
  rw [decide_eq_true hk]
  refine a8 ?_
  refine ⟨_,rfl,p,C,dx,_,_,rfl,hp,T.cl,T.nP,cm _ _,_,_,rfl,rfl,dx,_,hp,(by rw [oP];decide),?_⟩
  rw [oO]
  have e:((k:Int)+1)=((k+1:Nat):Int):=by omega
  rw [e]
  exact q
 ·rw [if_neg hk] at q
  rw [decide_eq_false hk]
  exact cO q
end
theorem uH{x y:Str}(h:x.cps.toList=y.cps.toList):x=y:=by
 obtain ⟨a⟩:=x
 obtain ⟨b⟩:=y
 have:a=b:=Array.toList_inj.mp h
 rw [this]
theorem hJ(z:Str):z.length=z.cps.toList.length:=by simp [Str.length]
theorem kE{z:Str}{pre ds post:List Nat}(e:z.cps.toList=pre++ds++post):Txt.slice z (some ((pre.length:Nat):Int)) (some (((pre.length+ds.length:Nat)):Int))=⟨ds.toArray⟩:=by
 have hl:z.cps.toList.length=pre.length+ds.length+post.length:=by rw [e];simp;omega
 have q:=PyProof.Rows.slice_closes (x:=z) (i:=((pre.length:Nat):Int)) (j:=((pre.length+ds.length:Nat):Int)) ⟨by omega,by omega,by omega⟩
 rw [eq_of_beq q]
 refine uH ?_
 have e1:(((pre.length+ds.length:Nat):Int)-((pre.length:Nat):Int)).toNat=ds.length:=by omega
 have e2:(((pre.length:Nat):Int)).toNat=pre.length:=by omega
 rw [e1,e2,e,List.append_assoc,List.drop_left,List.take_left]
theorem oM{z:Str}{pre ds post:List Nat}{i j:Int}(e:z.cps.toList=pre++ds++post)(hi:i=((pre.length:Nat):Int))(hj:j=((pre.length+ds.length:Nat):Int)):Txt.slice z (some i) (some j)=⟨ds.toArray⟩:=by
 subst hi hj
 exact kE e
theorem uA:∀c:Nat,c<128->Unicode.isDigit c=og c:=by decide +kernel
theorem jd{c:Nat}(h:c<128):Txt.isdigit ⟨#[c]⟩=og c:=by
 rw [← uA c h]
 unfold Txt.isdigit
 simp [Str.length]
def ux(ds:List Nat):Prop:=AllDigits ds/\ds≠[]/\ds.length<=400/\(ds=[48]\/∀c r,ds=c::r->c≠48)
def qt(post:List Nat):Prop:=∀c r,post=c::r->c<128/\og c=false
def But(p:Addr)(H H':Hp):Prop:=∀b o,H b=some o->b≠p->H' b=some o
theorem But.refl(p:Addr)(H:Hp):But p H H:=λ_ _ e _=>e
theorem But.upd{p:Addr}{H H':Hp}(h:But p H H')(o:HO):But p H (L2.upd H' p o):=λb u e n=>by rw [aq n];exact h b u e n
theorem But.trans{p:Addr}{H H1 H2:Hp}(a:But p H H1)(b:But p H1 H2):But p H H2:=λc o e n=>b c o (a c o e n) n
theorem uI(x y:Str):Txt.startswith x y=Txt.startswith3 x y ((0:Nat):Int):=by
 unfold Txt.startswith Txt.startswith3
 have e:fromIndex x.length ((0:Nat):Int)=0:=by unfold fromIndex;simp
 rw [e]
section
variable {P:Program}{w:World}{K:PySem.W.Frag}{mg:Str->Option Value}{base:Heap}{f C:Addr}{fd:FuncData}
def rZ(C:Addr):Sp:=λvs H Q _=>∃p dx z pre ds post,vs=[.ref p]/\z.cps.toList=pre++ds++post/\H p=some (.ins C dx (rf z (pre.length:Nat)))/\z.length<=100000/\ux ds/\qt post /\
 ∀H',H' p=some (.ins C dx (rf z ((pre.length+ds.length:Nat):Int)))->But p H H'->Q (.int (digitsVal ds:Nat)) H'
theorem scNum:ao ["self","start","figures"] ["self"] (defScope xP):=⟨rfl,rfl,rfl,by decide +kernel,rfl,by decide +kernel,by decide +kernel⟩
theorem vB:(Str.ofString "")=⟨#[]⟩:=by decide +kernel
theorem ui:(Str.ofString "0")=⟨#[48]⟩:=by decide +kernel
def mZ(K:PySem.W.Frag):TT:=xK (vN (tOp (rI0 λi j=>.bl (decide (i<j))) (qC K (kn 0) "place") (tCB (λxs H Q=>∃z,xs=[.str z]/\z.length<=sizeLine/\Q (.int z.length) H) (kC (qC K (kn 0) "text") ng))))
 (tB (xI K "str" (λx vs H Q=>∃z,x=.str z/\vs=[]/\Q (.bl (Txt.isdigit z)) H) (tOp xU (qC K (kn 0) "text") (qC K (kn 0) "place"))))
theorem tQ{p dx:Addr}{z:Str}{pre ds post:List Nat}{j:Nat}{σ:St}{H1:Hp}{R:Bool->Hp->Prop}(T:Tx K mg C)(ez:z.cps.toList=pre++ds++post)(hz:z.length<=100000)(d1:AllDigits ds)(hpo:qt post)(hj:j<=ds.length)
  (e0:σ[0]?=some (some (.ref p)))(hp1:H1 p=some (.ins C dx (rf z ((pre.length+j:Nat):Int))))(h:R (decide (j<ds.length)) H1):mZ K σ H1 R:=by
 have hu:=hI
 have lz:z.length=pre.length+ds.length+post.length:=by rw [hJ,ez];simp;omega
 refine ⟨_,e0,p,C,dx,_,_,rfl,hp1,T.cl,T.nP,cm _ _,_,e0,p,C,dx,_,_,rfl,hp1,T.cl,T.nT,gp _ _,_,rfl,by omega,_,_,rfl,rfl,_,rfl,?_⟩
 by_cases hlt:(pre.length+j:Nat)<z.length
 ·rw [decide_eq_true (show (((pre.length+j:Nat)):Int)<((z.length:Nat):Int) by omega)]
  have hlt':pre.length+j<z.cps.toList.length:=by rw [← hJ];exact hlt
  obtain ⟨c,hc⟩:∃c,z.cps.toList[pre.length+j]?=some c:=⟨_,List.getElem?_eq_getElem hlt'⟩
  refine cO ⟨_,e0,p,C,dx,_,_,rfl,hp1,T.cl,T.nT,gp _ _,_,e0,p,C,dx,_,_,rfl,hp1,T.cl,T.nP,cm _ _,z,_,c,rfl,rfl,by omega,aB hc,rfl,_,rfl,rfl,_,rfl,?_⟩
  by_cases hjd:j<ds.length
  ·have ec:ds[j]?=some c:=by
    rw [ez,List.append_assoc,List.getElem?_append_right (by omega),List.getElem?_append_left (by omega)] at hc
    rw [← hc];congr 1;omega
   have dc:48<=c/\c<=57:=d1 c (List.mem_of_getElem? ec)
   have e1:Txt.isdigit ⟨#[c]⟩=true:=by rw [jd (by omega)];unfold og;rw [decide_eq_true dc.1,decide_eq_true dc.2];rfl
   rw [decide_eq_true hjd] at h
   rw [e1]
   exact h
  ·have hjd':j=ds.length:=by omega
   have ec:post[0]?=some c:=by
    rw [ez,List.getElem?_append_right (by rw [List.length_append];omega)] at hc
    rw [← hc];congr 1;rw [List.length_append];omega
   have hp2:c<128/\og c=false:=by
    cases post with
    | nil=>cases ec
    | cons a r=>exact hpo c r (by rw [show a=c by simpa using ec])
   have e1:Txt.isdigit ⟨#[c]⟩=false:=by rw [jd hp2.1];exact hp2.2
   rw [decide_eq_false hjd] at h
   rw [e1]
   exact h
 ·rw [decide_eq_false (show ¬(((pre.length+j:Nat)):Int)<((z.length:Nat):Int) by omega)]
  rw [decide_eq_false (show ¬j<ds.length by omega)] at h
  exact a8 h
theorem wR(F:Fun K "read_number" "Reader.read_number" xP f fd)(T:Tx K mg C):FnOk P w K mg base CX0 1 f fd ["self"] (rZ C):=by
 refine F.ok scNum (λvs H Q E h=>?_) (λcdv A outer s H vs Q E hr h=>?_)
 ·obtain ⟨p,dx,z,pre,ds,post,rfl,_⟩:=h
  rfl
 obtain ⟨p,dx,z,pre,ds,post,rfl,ez,hp,hz,hds,hpo,q⟩:=h
 obtain ⟨d1,d2,d3,d4⟩:=hds
 have hu:=hI
 have lz:z.length=pre.length+ds.length+post.length:=by rw [hJ,ez];simp;omega
 refine ⟨_,af (aI (i:=1) scNum.nd rfl (Or.inl rfl) (aG (pv 0) rfl))
  (af (nE (tc:=mZ K) PassesOwn.never (PW.pt (gK (aw gA (aG (pv 0) rfl) (ay bx rfl T.len PySem.boot_len (aa (aG (pv 0) rfl) ae)) (az _))
    (eU (bD (sL PySem.F.plainAttrs_str PySem.F.slot_str_isdigit PySem.F.type_str_isdigit oY (ak t5 (aG (pv 0) rfl) (aG (pv 0) rfl) (λ_ _=>rfl)))))))
   (aj (kJ (pv 0) ag t7)))
  (af (aI (i:=2) scNum.nd rfl (Or.inl rfl) (bQ sh (aG (pv 0) rfl) (bu (pv 1)) (bu (aG (pv 0) rfl))))
  (af (aJ (aw a9 (pv 2) aE (az _)) aH aA)
  (af (aJ (aw jZ (ay bx rfl T.len PySem.boot_len (aa (pv 2) ae)) (mD T.cFig rfl) (az _)) aH aA)
  (af (aJ (PW.pt (gK (bD (cS PySem.F.plainAttrs_str PySem.F.slot_str_startswith PySem.F.type_str_startswith kr (pv 2) (aa aE ae))) (eU (aw fY (pv 2) aE (az _))))) aH aA)
  (aj (au (bK kx rfl T.int PyProof.Rows.boot_int (aa (pv 2) ae))))))))),?_⟩
 refine ⟨_,rfl,p,C,dx,_,_,rfl,hp,T.cl,T.nP,cm _ _,?_⟩
 refine ⟨λm σ H1=>∃j,m=ds.length-j/\j<=ds.length/\σ=[some (.ref p),some (.int (pre.length:Nat)),none]/\H1 p=some (.ins C dx (rf z ((pre.length+j:Nat):Int)))/\But p H H1,
  ⟨ds.length,0,rfl,Nat.zero_le _,rfl,hp,But.refl p H⟩,?_⟩
 rintro m σ H1 ⟨j,rfl,hj,rfl,hp1,bt⟩
 refine tQ T ez hz d1 hpo hj rfl hp1 ?_
 by_cases hjd:j<ds.length
 ·rw [decide_eq_true hjd]
  refine cO ⟨_,fun σ' H' h=>h,?_⟩
  refine ⟨_,rfl,p,C,dx,_,_,rfl,hp1,T.cl,T.nP,cm _ _,_,_,rfl,rfl,dx,_,hp1,(by rw [oP];decide),?_⟩
  refine ⟨ds.length-(j+1),by omega,j+1,rfl,hjd,rfl,?_,bt.upd _⟩
  rw [ac,oO]
  have e:(((pre.length+j:Nat)):Int)+1=((pre.length+(j+1):Nat):Int):=by omega
  rw [e]
 ·rw [decide_eq_false hjd]
  obtain rfl:j=ds.length:=by omega
  refine a8 ?_
  refine ⟨_,rfl,p,C,dx,_,_,rfl,hp1,T.cl,T.nT,gp _ _,_,rfl,_,rfl,_,rfl,p,C,dx,_,_,rfl,hp1,T.cl,T.nP,cm _ _,_,rfl,z,rfl,by omega,?_⟩
  rw [kE ez]
  have dl:(({cps:=ds.toArray}:Str)).length=ds.length:=by simp [Str.length]
  refine ⟨_,rfl,rfl,_,rfl,?_⟩
  have n1:¬(V.str ({cps:=ds.toArray}:Str)=V.str (Str.ofString "")):=by
   intro e
   have e':(({cps:=ds.toArray}:Str))=Str.ofString "":=by injection e
   rw [vB] at e'
   have e2:=congrArg (λs:Str=>s.cps.toList) e'
   exact d2 (by simpa using e2)
  rw [decide_eq_false n1]
  refine a8 ?_
  refine ⟨_,rfl,_,rfl,by omega,_,_,rfl,rfl,_,rfl,?_⟩
  rw [decide_eq_false (show ¬((400:Int)<((({cps:=ds.toArray}:Str)).length:Nat)) by rw [dl];omega)]
  refine a8 ?_
  have it:PySem.intText? ({cps:=ds.toArray}:Str)=some ((digitsVal ds:Nat):Int):=by
   have:=intText_digits (x:=({cps:=ds.toArray}:Str)) (by simpa using d1) (by simpa using d2) (by rw [dl];omega)
   simpa using this
  refine ⟨_,rfl,rfl,_,_,rfl,rfl,_,rfl,?_⟩
  have hs:Txt.startswith ({cps:=ds.toArray}:Str) (Str.ofString "0")=decide (ds[0]?=some 48):=by
   rw [ui,uI,jC]
  rw [hs]
  rcases d4 with e4 | h4
  ·subst e4
   refine cO ⟨_,rfl,rfl,_,rfl,?_⟩
   have n3:V.str ({cps:=([48]:List Nat).toArray}:Str)=V.str (Str.ofString "0"):=by rw [ui]
   rw [decide_eq_true n3]
   exact a8 ⟨_,rfl,_,_,rfl,it,by rw [dl];omega,q H1 hp1 bt⟩
  ·have n4:¬ds[0]?=some 48:=by
    cases ds with
    | nil=>exact absurd rfl d2
    | cons c r=>intro e;exact h4 c r rfl (by simpa using e)
   rw [decide_eq_false n4]
   exact a8 (a8 ⟨_,rfl,_,_,rfl,it,by rw [dl];omega,q H1 hp1 bt⟩)
def pQ(C:Addr):Sp:=λvs H Q _=>∃p dx z pre ws post,vs=[.ref p,.int ((ws:List Nat).length:Nat)]/\z.cps.toList=pre++ws++post/\H p=some (.ins C dx (rf z (pre.length:Nat)))/\z.length<=100000/\ws.length<=2000 /\
 ∀H',H' p=some (.ins C dx (rf z ((pre.length+ws.length:Nat):Int)))->But p H H'->Q (.str ⟨ws.toArray⟩) H'
theorem scSigns:ao ["self","many","behind","signs"] ["self","many"] (defScope su):=⟨rfl,rfl,rfl,by decide +kernel,rfl,by decide +kernel,by decide +kernel⟩
theorem sU(F:Fun K "read_signs" "Reader.read_signs" su f fd)(T:Tx K mg C):FnOk P w K mg base CX0 1 f fd ["self","many"] (pQ C):=by
 refine F.ok scSigns (λvs H Q E h=>?_) (λcdv A outer s H vs Q E hr h=>?_)
 ·obtain ⟨p,dx,z,pre,ws,post,rfl,_⟩:=h
  rfl
 obtain ⟨p,dx,z,pre,ws,post,rfl,ez,hp,hz,hw,q⟩:=h
 have hu:=hI
 have lz:z.length=pre.length+ws.length+post.length:=by rw [hJ,ez];simp;omega
 refine ⟨_,af (aI (i:=2) scSigns.nd rfl (Or.inl rfl) (aF bc (aG (pv 0) rfl) (pv 1)))
  (af (aJ (aw jZ (pv 1) (mD T.cSig rfl) (az _)) aH aA)
  (af (aJ (aw jZ (pv 2) (ay bx rfl T.len PySem.boot_len (aa (aG (pv 0) rfl) ae)) (az _)) aH aA)
  (af (aI (i:=3) scSigns.nd rfl (Or.inl rfl) (bQ sh (aG (pv 0) rfl) (bu (aG (pv 0) rfl)) (bu (pv 2))))
  (af (b9 (pv 0) (pv 2) rfl)
  (aj (au (pv 3))))))),?_⟩
 refine ⟨_,rfl,p,C,dx,_,_,rfl,hp,T.cl,T.nP,cm _ _,_,rfl,_,_,rfl,rfl,?_⟩
 refine ⟨_,rfl,_,_,rfl,rfl,_,rfl,?_⟩
 rw [decide_eq_false (show ¬((2000:Int)<((ws.length:Nat):Int)) by omega)]
 refine a8 ⟨_,rfl,_,rfl,p,C,dx,_,_,rfl,hp,T.cl,T.nT,gp _ _,z,rfl,by omega,_,_,rfl,rfl,_,rfl,?_⟩
 have eb:((pre.length:Nat):Int)+((ws.length:Nat):Int)=((pre.length+ws.length:Nat):Int):=by omega
 rw [eb]
 rw [decide_eq_false (show ¬(((z.length:Nat):Int)<((pre.length+ws.length:Nat):Int)) by omega)]
 refine a8 ⟨_,rfl,p,C,dx,_,_,rfl,hp,T.cl,T.nT,gp _ _,_,rfl,p,C,dx,_,_,rfl,hp,T.cl,T.nP,cm _ _,_,rfl,_,rfl,_,rfl,z,rfl,by omega,?_⟩
 rw [oM ez rfl eb]
 refine ⟨_,rfl,_,rfl,p,C,dx,_,rfl,hp,T.cl,T.nP,(by rw [oP];decide),_,rfl,?_⟩
 refine q _ ?_ ((But.refl p H).upd _)
 rw [ac,← eb]
 exact congrArg (λl=>some (HO.ins C dx l)) (oO z _ _)
def pU(C:Addr):Sp:=λvs H Q _=>∃p dx z pre ds post,vs=[.ref p]/\z.cps.toList=pre++ds++post/\H p=some (.ins C dx (rf z (pre.length:Nat)))/\z.length<=100000/\ux ds/\qt post/\digitsVal ds≠0 /\
 ∀H',H' p=some (.ins C dx (rf z ((pre.length+ds.length:Nat):Int)))->But p H H'->Q (.int (-((digitsVal ds:Nat):Int))) H'
theorem scBelow:ao ["self","number"] ["self"] (defScope sw):=⟨rfl,rfl,rfl,by decide +kernel,rfl,by decide +kernel,by decide +kernel⟩
theorem tN{fN:Addr}{dN:FuncData}(F:Fun K "read_below" "Reader.read_below" sw f fd)(T:Tx K mg C)(GN:FnOk P w K mg base CX0 1 fN dN ["self"] (rZ C))(bN:Binds K dN ["self"] [])(mN:eL K C "read_number" fN) :
  FnOk P w K mg base CX0 2 f fd ["self"] (pU C):=by
 refine F.ok scBelow (λvs H Q E h=>?_) (λcdv A outer s H vs Q E hr h=>?_)
 ·obtain ⟨p,dx,z,pre,ds,post,rfl,_⟩:=h
  rfl
 obtain ⟨p,dx,z,pre,ds,post,rfl,ez,hp,hz,hds,hpo,hne,q⟩:=h
 refine ⟨_,af (aI (i:=1) scBelow.nd rfl (Or.inl rfl) (gY (pv 0) T.cl mN GN hr bN .nil bE))
  (af (aJ (aw a9 (pv 1) ag (az _)) aH aA)
  (aj (au (kL im (pv 1))))),?_⟩
 refine ⟨_,rfl,p,dx,_,rfl,hp,kI _ _ (by decide +kernel) (by decide +kernel),p,dx,z,pre,ds,post,rfl,ez,hp,hz,hds,hpo,λH1 hp1 bt=>?_⟩
 refine ⟨_,rfl,rfl,_,rfl,?_⟩
 have n1:¬(V.int ((digitsVal ds:Nat):Int)=V.int 0):=by intro e;injection e with e;omega
 rw [decide_eq_false n1]
 exact a8 ⟨_,rfl,_,rfl,q H1 hp1 bt⟩
end
inductive vK:List Nat->V->Prop where
 | num (n:Int) (h:n.natAbs<10 ^ 400):vK (b8 n) (.int n)
 | txt (ws:List Nat) (h:ws.length<=2000):vK (bg ws.length++58::ws) (.str ⟨ws.toArray⟩)
def Ends(post:List Nat):Prop:=∀c r,post=c::r->c=32\/c=41
theorem kf(m:Nat)(h:m<10 ^ 400):ux (bg m):=by
 refine ⟨hV m,mI m,kg (by decide) h,?_⟩
 by_cases h0:m=0
 ·subst h0;exact .inl rk
 ·exact .inr (rm m h0)
theorem Ends.stops{post:List Nat}(h:Ends post):qt post:=λc r e=>by
 rcases h c r e with rfl | rfl<;>exact ⟨by decide,by decide⟩
theorem pD:(Str.ofString "(")=⟨#[40]⟩:=by decide +kernel
theorem mH:(Str.ofString "-")=⟨#[45]⟩:=by decide +kernel
theorem qj:(Str.ofString ":")=⟨#[58]⟩:=by decide +kernel
theorem pG{z:Str}{pre rest:List Nat}(e:z.cps.toList=pre++rest):z.cps.toList[pre.length]?=rest[0]?:=by
 rw [e,List.getElem?_append_right (Nat.le_refl _),Nat.sub_self]
theorem kX(m:Nat):∃c r,bg m=c::r/\48<=c/\c<=57:=by
 cases e:bg m with
 | nil=>exact absurd e (mI m)
 | cons c r =>
  have h:=hV m
  rw [e] at h
  exact ⟨c,r,rfl,h.head⟩
section
variable {P:Program}{w:World}{K:PySem.W.Frag}{mg:Str->Option Value}{base:Heap}{f C:Addr}{fd:FuncData}
def vO(C:Addr):Sp:=λvs H Q _=>∃p dx z pre it post v d,vs=[.ref p,d]/\z.cps.toList=pre++it++post/\H p=some (.ins C dx (rf z ((pre:List Nat).length:Nat)))/\z.length<=100000/\vK it v/\Ends post /\
 ∀H',H' p=some (.ins C dx (rf z ((pre.length+it.length:Nat):Int)))->But p H H'->Q v H'
theorem scAny:ao ["self","deep","number"] ["self","deep"] (defScope xQ):=⟨rfl,rfl,rfl,by decide +kernel,rfl,by decide +kernel,by decide +kernel⟩
theorem wY{fP fB fN fS:Addr}{dP dB dN dS:FuncData}(F:Fun K "read_any" "Reader.read_any" xQ f fd)(T:Tx K mg C)
  (GP:FnOk P w K mg base CX0 1 fP dP ["self","sign"] (rY C))(bP:Binds K dP ["self","sign"] [])(mP:eL K C "passes" fP)
  (GB:FnOk P w K mg base CX0 2 fB dB ["self"] (pU C))(bB:Binds K dB ["self"] [])(mB:eL K C "read_below" fB)
  (GN:FnOk P w K mg base CX0 1 fN dN ["self"] (rZ C))(bN:Binds K dN ["self"] [])(mN:eL K C "read_number" fN)
  (GS:FnOk P w K mg base CX0 1 fS dS ["self","many"] (pQ C))(bS:Binds K dS ["self","many"] [])(mS:eL K C "read_signs" fS) :
  FnOk P w K mg base CX0 3 f fd ["self","deep"] (vO C):=by
 refine F.ok scAny (λvs H Q E h=>?_) (λcdv A outer s H vs Q E hr h=>?_)
 ·obtain ⟨p,dx,z,pre,it,post,v,d,rfl,_⟩:=h
  rfl
 obtain ⟨p,dx,z,pre,it,post,v,d,rfl,ez,hp,hz,hit,hen,q⟩:=h
 have hr1:=hr.mono (show 1<=2 by decide)
 have np:∀(k:Int),(rf z k).lookup ("passes":Str)=none:=λk=>kI _ _ (by decide +kernel) (by decide +kernel)
 have nn:∀(k:Int),(rf z k).lookup ("read_number":Str)=none:=λk=>kI _ _ (by decide +kernel) (by decide +kernel)
 have nb:∀(k:Int),(rf z k).lookup ("read_below":Str)=none:=λk=>kI _ _ (by decide +kernel) (by decide +kernel)
 have ns:∀(k:Int),(rf z k).lookup ("read_signs":Str)=none:=λk=>kI _ _ (by decide +kernel) (by decide +kernel)
 refine ⟨_,af (aJ (bD (gZ (pv 0) T.cl mP GP hr1 bP .nil bE (aa aE ae))) aH aA)
  (af (aJ (bD (gZ (pv 0) T.cl mP GP hr1 bP .nil bE (aa aE ae))) (aj (au (gY (pv 0) T.cl mB GB hr bB .nil bE))) aA)
  (af (aI (i:=2) scAny.nd rfl (Or.inl rfl) (gY (pv 0) T.cl mN GN hr1 bN .nil bE))
  (af (aJ (bD (gZ (pv 0) T.cl mP GP hr1 bP .nil bE (aa aE ae))) (aj (au (gZ (pv 0) T.cl mS GS hr1 bS .nil bE (aa (pv 2) ae)))) aA)
  (aj (au (pv 2)))))),?_⟩
 have ez':z.cps.toList=pre++(it++post):=by rw [ez,List.append_assoc]
 have h0:=pG ez'
 cases hit with
 | num n hn =>
  by_cases hneg:n<0
  ·have en:b8 n=45::bg n.natAbs:=by unfold b8;rw [if_pos hneg]
   rw [en] at ez ez' q h0
   have h0':z.cps.toList[pre.length]?=some 45:=h0
   refine ⟨_,rfl,p,dx,_,rfl,hp,np _,p,dx,z,40,pre.length,(by rw [pD];rfl),hp,?_⟩
   rw [if_neg (by rw [h0'];decide)]
   refine ⟨_,rfl,a8 ?_⟩
   refine ⟨_,rfl,p,dx,_,rfl,hp,np _,p,dx,z,45,pre.length,(by rw [mH];rfl),hp,?_⟩
   rw [if_pos h0']
   refine ⟨_,rfl,cO ?_⟩
   refine ⟨_,rfl,p,dx,_,rfl,ac,nb _,p,dx,z,pre++[45],bg n.natAbs,post,rfl,(by rw [ez];simp),(by rw [ac];simp),hz,kf _ hn,hen.stops,(by rw [hU];omega),λH' hp' bt=>?_⟩
   have e1:(-((digitsVal (bg n.natAbs):Nat):Int))=n:=by rw [hU];omega
   rw [e1]
   refine q H' ?_ (((But.refl p H).upd _).trans bt)
   rw [hp']
   have e2:(pre++[45]).length+(bg n.natAbs).length=pre.length+(45::bg n.natAbs).length:=by simp;omega
   rw [e2]
  ·have en:b8 n=bg n.natAbs:=by unfold b8;rw [if_neg hneg]
   rw [en] at ez ez' q h0
   obtain ⟨c,r,ec,hc⟩:=kX n.natAbs
   have h0':z.cps.toList[pre.length]?=some c:=by rw [h0,ec];rfl
   refine ⟨_,rfl,p,dx,_,rfl,hp,np _,p,dx,z,40,pre.length,(by rw [pD];rfl),hp,?_⟩
   rw [if_neg (by rw [h0'];intro e;injection e with e;omega)]
   refine ⟨_,rfl,a8 ?_⟩
   refine ⟨_,rfl,p,dx,_,rfl,hp,np _,p,dx,z,45,pre.length,(by rw [mH];rfl),hp,?_⟩
   rw [if_neg (by rw [h0'];intro e;injection e with e;omega)]
   refine ⟨_,rfl,a8 ?_⟩
   refine ⟨_,rfl,p,dx,_,rfl,hp,nn _,p,dx,z,pre,bg n.natAbs,post,rfl,ez,hp,hz,kf _ hn,hen.stops,λH1 hp1 bt=>?_⟩
   have h1:z.cps.toList[pre.length+(bg n.natAbs).length]?=post[0]?:=by
    have:=pG (z:=z) (pre:=pre++bg n.natAbs) (rest:=post) ez
    rw [List.length_append] at this
    exact this
   refine ⟨_,rfl,p,dx,_,rfl,hp1,np _,p,dx,z,58,pre.length+(bg n.natAbs).length,(by rw [qj];rfl),hp1,?_⟩
   rw [if_neg (by
    rw [h1]
    intro e
    cases post with
    | nil=>cases e
    | cons a r' =>
     have:=hen a r' rfl
     have ea:a=58:=by simpa using e
     omega)]
   refine ⟨_,rfl,a8 ⟨_,rfl,?_⟩⟩
   have e1:((digitsVal (bg n.natAbs):Nat):Int)=n:=by rw [hU];omega
   rw [e1]
   exact q H1 hp1 bt
 | txt ws hw =>
  obtain ⟨c,r,ec,hc⟩:=kX ws.length
  have h0':z.cps.toList[pre.length]?=some c:=by rw [h0,ec];rfl
  refine ⟨_,rfl,p,dx,_,rfl,hp,np _,p,dx,z,40,pre.length,(by rw [pD];rfl),hp,?_⟩
  rw [if_neg (by rw [h0'];intro e;injection e with e;omega)]
  refine ⟨_,rfl,a8 ?_⟩
  refine ⟨_,rfl,p,dx,_,rfl,hp,np _,p,dx,z,45,pre.length,(by rw [mH];rfl),hp,?_⟩
  rw [if_neg (by rw [h0'];intro e;injection e with e;omega)]
  refine ⟨_,rfl,a8 ?_⟩
  have hl:ws.length<10 ^ 400:=Nat.lt_of_le_of_lt hw (by decide +kernel)
  have ez2:z.cps.toList=pre++bg ws.length++(58::(ws++post)):=by rw [ez];simp
  refine ⟨_,rfl,p,dx,_,rfl,hp,nn _,p,dx,z,pre,bg ws.length,58::(ws++post),rfl,ez2,hp,hz,kf _ hl,λc' r' e=>(by cases e;exact ⟨by decide,by decide⟩),λH1 hp1 bt=>?_⟩
  have h1:z.cps.toList[pre.length+(bg ws.length).length]?=some 58:=by
   have:=pG (z:=z) (pre:=pre++bg ws.length) (rest:=58::(ws++post)) ez2
   rw [List.length_append] at this
   exact this
  refine ⟨_,rfl,p,dx,_,rfl,hp1,np _,p,dx,z,58,pre.length+(bg ws.length).length,(by rw [qj];rfl),hp1,?_⟩
  rw [if_pos h1]
  refine ⟨_,rfl,cO ?_⟩
  have el:(pre++bg ws.length++[58]).length=pre.length+(bg ws.length).length+1:=by simp;omega
  refine ⟨_,rfl,p,dx,_,rfl,ac,ns _,_,rfl,p,dx,z,pre++bg ws.length++[58],ws,post,(by rw [hU];rfl),(by rw [ez2];simp),(by rw [ac,el]),hz,hw,λH2 hp2 bt2=>?_⟩
  refine q H2 ?_ ((bt.upd _).trans bt2)
  rw [hp2]
  have e2:(pre++bg ws.length++[58]).length+ws.length=pre.length+(bg ws.length++58::ws).length:=by simp;omega
  rw [e2]
def oG:Sp:=λvs H Q _=>∃z v,vs=[.str z]/\vK z.cps.toList v/\(∀c∈z.cps.toList,oV c=true)/\z.length<=100000/\∀H',Same H H'->Q v H'
theorem scRead:ao ["text","reader","thing"] ["text"] (defScope pW):=⟨rfl,rfl,rfl,by decide +kernel,rfl,by decide +kernel,by decide +kernel⟩
def sD:Scope:=match defBody pW with
 | _::.If (.UnaryOp _ (.Call _ [.ListComp _ _ sc _] _ _) _) _ _ _::_=>sc
 | _=>default
theorem wE:aT ["text","reader","thing"] (defScope pW) sD "sign" ["sign"] []:=⟨by decide +kernel,rfl,by decide +kernel,rfl,by decide +kernel,by decide +kernel,rfl,rfl,λj h=>absurd h (Nat.not_lt_zero j)⟩
theorem u8{fG fI fA:Addr}{dG dI dA:FuncData}(F:Fun K "read_thing" "read_thing" pW f fd)(T:Tx K mg C)(M:Mk K C fI)
  (GG:FnOk P w K mg base CX0 1 fG dG ["sign"] rX)(bG:Binds K dG ["sign"] [])(kG:PySem.W.keepIn K (.ref fG)=true)(mG:mg "is_sign"=some (.ref fG))
  (GI:FnOk P w K mg base CX0 1 fI dI ["self","text"] (se C))(bI:Binds K dI ["self","text"] [])
  (GA:FnOk P w K mg base CX0 3 fA dA ["self","deep"] (vO C))(bA:Binds K dA ["self","deep"] [])(mA:eL K C "read_any" fA) :
  FnOk P w K mg base CX0 4 f fd ["text"] oG:=by
 refine F.ok scRead (λvs H Q E h=>?_) (λcdv A outer s H vs Q E hr h=>?_)
 ·obtain ⟨z,v,rfl,_⟩:=h
  rfl
 obtain ⟨z,v,rfl,hit,hok,hz,q⟩:=h
 have hr1:=hr.mono (show 1<=3 by decide)
 have hr2:=hr.mono (show 2<=3 by decide)
 have hu:=hI
 refine ⟨_,af (aJ (aw jZ (ay bx rfl T.len PySem.boot_len (aa (pv 0) ae)) (mD T.cLong rfl) (az _)) aH aA)
  (af (aJ (dv (bD (ay (ox rfl) rfl T.all PyProof.Rows.boot_all (aa (dR wE rfl (wI (pv 0)) (λ_ _ _ _=>bp) (λ_ _ _ _=>p9 GG hr1 rfl mG kG bG .nil bE (aa (pv 0) ae))) ae)))) aH aA)
  (af (aI (i:=1) scRead.nd rfl (Or.inl rfl) (bM M GI hr2 rfl T.mgC bI .nil bE (aa (pv 0) ae)))
  (af (aI (i:=2) scRead.nd rfl (Or.inl rfl) (gZ (pv 1) T.cl mA GA hr bA .nil bE (aa (mD T.cDeep rfl) ae)))
  (af (aJ (aw fY (aG (pv 1) rfl) (ay bx rfl T.len PySem.boot_len (aa (pv 0) ae)) (az _)) aH aA)
  (aj (au (pv 2))))))),?_⟩
 refine ⟨_,rfl,z,rfl,by omega,_,_,rfl,rfl,_,rfl,?_⟩
 rw [decide_eq_false (show ¬((100000:Int)<((z.length:Nat):Int)) by omega)]
 refine a8 ?_
 refine ⟨_,rfl,z,rfl,λi ys H1=>i<=z.length/\ys=List.replicate i (V.bl true)/\H1=H,z.length,⟨Nat.zero_le _,rfl,rfl⟩,by omega,?_⟩
 rintro i ys H1 ⟨hi,rfl,rfl⟩
 by_cases hlt:i<z.length
 ·refine .inr ⟨hlt,hlt,?_⟩
  rintro x H2 ⟨rfl,c,hc,rfl⟩
  refine ⟨_,rfl,c,rfl,hlt,?_,rfl⟩
  rw [hok c (List.mem_of_getElem? hc),List.replicate_succ']
 refine .inl ⟨by show z.length<=i;omega,λl hl=>?_⟩
 have e0:List.replicate i (V.bl true)=(List.replicate i true).map V.bl:=by simp
 refine ⟨l,List.replicate i true,rfl,SqL.of (by rw [ac,e0]),_,rfl,?_⟩
 have e1:(List.replicate i true).all id=true:=by simp
 rw [e1]
 refine a8 ?_
 have sl:Same H1 (upd H1 l (.lst (List.replicate i (V.bl true)))):=λb o e=>by rw [aq (ap e hl)];exact e
 refine ⟨_,rfl,λx dx nx ndx nex=>⟨x,dx,z,rfl,ac,rfl,?_⟩⟩
 refine ⟨_,rfl,x,dx,_,rfl,ac,kI _ _ (by decide +kernel) (by decide +kernel),x,dx,z,[],z.cps.toList,[],v,_,rfl,(by simp),ac,hz,hit,(λc r e=>nomatch e),λH3 hx3 bt3=>?_⟩
 refine ⟨_,rfl,x,C,dx,_,_,rfl,hx3,T.cl,T.nP,cm _ _,_,rfl,z,rfl,by omega,rfl,_,rfl,?_⟩
 have e2:V.int ((([]:List Nat).length+z.cps.toList.length:Nat):Int)=V.int ((z.length:Nat):Int):=by rw [hJ];simp
 rw [decide_eq_true e2]
 refine a8 ⟨_,rfl,q H3 λb o e=>?_⟩
 have e3:=sl b o e
 have nb1:b≠x:=ap e3 nx
 have nb2:b≠dx:=ap e3 ndx
 refine bt3 b o ?_ nb1
 rw [aq nb1,aq nb1,aq nb1,aq nb2]
 exact e3
end
end K81T
namespace K81
open PySem L2 Lo St
section
variable {P:Program}{w:World}{K:PySem.W.Frag}{mg:Str->Option Value}{base:Heap}{f CL CS CP:Addr}{fd:FuncData}{C:Kd->Addr}{CW:Wd->Addr}
theorem vb(F:Fun K "made_sum" "made_sum" gI f fd)(I:WI P w K mg base CW .sum):FnOk P w K mg base CX0 4 f fd ["where","low","high"] (oJ CW):=by
 refine F.ok nq (λvs H Q E h=>?_) (λcdv A outer s H vs Q E hr h=>?_)
 ·obtain ⟨x,y,z,rfl,_⟩:=h
  rfl
 obtain ⟨x,y,z,rfl,ar,q⟩:=h
 have hr1:Room (2+1) _:=hr
 refine ⟨_,af (aJ (aw jZ (pv 1) (pv 2) (az _)) aH aA) (aj (au (bM I.M I.ok hr1 rfl I.m I.b .nil bE (aa (pv 0) (aa (pv 1) (aa (pv 2) ae)))))),?_⟩
 have hle:y<=z:=ar.2.2.2
 refine ⟨_,rfl,_,rfl,_,_,rfl,rfl,_,rfl,bb (λc=>absurd (of_decide_eq_true c) (show ¬z<y by omega)) (λ_=>?_)⟩
 exact ⟨_,rfl,_,rfl,_,rfl,λp dp np ndp nep=>⟨p,dp,[x,y,z],rfl,ar,ac,λH' h1 h2=>⟨rfl,q _ H' (jc np ndp h2) ⟨p,dp,rfl,h1⟩⟩⟩⟩
theorem tm(F:Fun K "made_step" "made_step" fM f fd)(I:∀wd,WI P w K mg base CW wd)(GS:GF P w K mg base CX0 4 "made_sum" ["where","low","high"] (oJ CW)):FnOk P w K mg base CX0 5 f fd ["word","numbers"] (oI CW):=by
 refine F.ok lN (λvs H Q E h=>?_) (λcdv A outer s H vs Q E hr h=>?_)
 ·obtain ⟨wd,b,ns,rfl,_⟩:=h
  rfl
 obtain ⟨wd,b,ns,rfl,hb,ar,q⟩:=h
 have hr1:Room (2+1) _:=hr.mono (by decide)
 refine ⟨_,(af (aJ (aw a9 (pv 0) aE (az _)) (aj (au (bM (I .take).M (I .take).ok hr1 rfl (I .take).m (I .take).b .nil bE (aa (ak (r:=aN K) am (pv 1) ag (λ_ _=>rfl)) (aa (ak (r:=aN K) am (pv 1) ag (λ_ _=>rfl)) ae))))) aA)
  (af (aJ (aw a9 (pv 0) aE (az _)) (aj (au (bM (I .mean).M (I .mean).ok hr1 rfl (I .mean).m (I .mean).b .nil bE (aa (ak (r:=aN K) am (pv 1) ag (λ_ _=>rfl)) (aa (ak (r:=aN K) am (pv 1) ag (λ_ _=>rfl)) ae))))) aA)
  (af (aJ (aw a9 (pv 0) aE (az _)) (aj (au (pc GS hr (aa (ak (r:=aN K) am (pv 1) ag (λ_ _=>rfl)) (aa (ak (r:=aN K) am (pv 1) ag (λ_ _=>rfl)) (aa (ak (r:=aN K) am (pv 1) ag (λ_ _=>rfl)) ae)))))) aA)
  (af (aJ (aw a9 (pv 0) aE (az _)) (aj (au (bM (I .give).M (I .give).ok hr1 rfl (I .give).m (I .give).b .nil bE (aa (ak (r:=aN K) am (pv 1) ag (λ_ _=>rfl)) (aa (ak (r:=aN K) am (pv 1) ag (λ_ _=>rfl)) ae))))) aA)
  (af (aJ (aw a9 (pv 0) aE (az _)) (aj (au (bM (I .add).M (I .add).ok hr1 rfl (I .add).m (I .add).b .nil bE (aa (ak (r:=aN K) am (pv 1) ag (λ_ _=>rfl)) (aa (ak (r:=aN K) am (pv 1) ag (λ_ _=>rfl)) (aa (ak (r:=aN K) am (pv 1) ag (λ_ _=>rfl)) ae)))))) aA)
  (af (aJ (aw a9 (pv 0) aE (az _)) (aj (au (bM (I .plus).M (I .plus).ok hr1 rfl (I .plus).m (I .plus).b .nil bE (aa (ak (r:=aN K) am (pv 1) ag (λ_ _=>rfl)) ae)))) aA)
  (aj (au (bM (I .need).M (I .need).ok hr1 rfl (I .need).m (I .need).b .nil bE (aa (ak (r:=aN K) am (pv 1) ag (λ_ _=>rfl)) ae)))))))))),?_⟩
 refine ⟨_,rfl,rfl,_,rfl,bb (λc=>?_) (λc0=>?_)⟩
 ·obtain rfl:wd=.take:=cu c
  obtain ⟨x,y,rfl,_⟩:=ar.c rfl
  exact ⟨_,rfl,b,_,_,_,rfl,rfl,SqL.of hb,rfl,_,rfl,b,_,_,_,rfl,rfl,SqL.of hb,rfl,λp dp np ndp nep=>⟨p,dp,[x,y],rfl,ar,ac,λH' h1 h2=>⟨rfl,q _ H' (jc np ndp h2) ⟨p,dp,rfl,h1⟩⟩⟩⟩
 refine ⟨_,rfl,rfl,_,rfl,bb (λc=>?_) (λc1=>?_)⟩
 ·obtain rfl:wd=.mean:=cu c
  obtain ⟨x,y,rfl,_⟩:=ar.c rfl
  exact ⟨_,rfl,b,_,_,_,rfl,rfl,SqL.of hb,rfl,_,rfl,b,_,_,_,rfl,rfl,SqL.of hb,rfl,λp dp np ndp nep=>⟨p,dp,[x,y],rfl,ar,ac,λH' h1 h2=>⟨rfl,q _ H' (jc np ndp h2) ⟨p,dp,rfl,h1⟩⟩⟩⟩
 refine ⟨_,rfl,rfl,_,rfl,bb (λc=>?_) (λc2=>?_)⟩
 ·obtain rfl:wd=.sum:=cu c
  obtain ⟨x,y,z,rfl,_⟩:=ar.s
  exact ⟨_,rfl,b,_,_,_,rfl,rfl,SqL.of hb,rfl,_,rfl,b,_,_,_,rfl,rfl,SqL.of hb,rfl,_,rfl,b,_,_,_,rfl,rfl,SqL.of hb,rfl,x,y,z,rfl,ar,q⟩
 refine ⟨_,rfl,rfl,_,rfl,bb (λc=>?_) (λc3=>?_)⟩
 ·obtain rfl:wd=.give:=cu c
  obtain ⟨x,y,rfl,_⟩:=ar.c rfl
  exact ⟨_,rfl,b,_,_,_,rfl,rfl,SqL.of hb,rfl,_,rfl,b,_,_,_,rfl,rfl,SqL.of hb,rfl,λp dp np ndp nep=>⟨p,dp,[x,y],rfl,ar,ac,λH' h1 h2=>⟨rfl,q _ H' (jc np ndp h2) ⟨p,dp,rfl,h1⟩⟩⟩⟩
 refine ⟨_,rfl,rfl,_,rfl,bb (λc=>?_) (λc4=>?_)⟩
 ·obtain rfl:wd=.add:=cu c
  obtain ⟨x,y,z,rfl,_⟩:=ar.a
  exact ⟨_,rfl,b,_,_,_,rfl,rfl,SqL.of hb,rfl,_,rfl,b,_,_,_,rfl,rfl,SqL.of hb,rfl,_,rfl,b,_,_,_,rfl,rfl,SqL.of hb,rfl,λp dp np ndp nep=>⟨p,dp,[x,y,z],rfl,ar,ac,λH' h1 h2=>⟨rfl,q _ H' (jc np ndp h2) ⟨p,dp,rfl,h1⟩⟩⟩⟩
 refine ⟨_,rfl,rfl,_,rfl,bb (λc=>?_) (λc5=>?_)⟩
 ·obtain rfl:wd=.plus:=cu c
  obtain ⟨x,rfl,_⟩:=ar.p
  exact ⟨_,rfl,b,_,_,_,rfl,rfl,SqL.of hb,rfl,λp dp np ndp nep=>⟨p,dp,[x],rfl,ar,ac,λH' h1 h2=>⟨rfl,q _ H' (jc np ndp h2) ⟨p,dp,rfl,h1⟩⟩⟩⟩
 obtain rfl:wd=.need:=v6 (bz (b:=.take) c0) (bz (b:=.mean) c1) (bz (b:=.sum) c2) (bz (b:=.give) c3) (bz (b:=.add) c4) (bz (b:=.plus) c5)
 obtain ⟨x,rfl,_⟩:=ar.n
 exact ⟨_,rfl,b,_,_,_,rfl,rfl,SqL.of hb,rfl,λp dp np ndp nep=>⟨p,dp,[x],rfl,ar,ac,λH' h1 h2=>⟨rfl,q _ H' (jc np ndp h2) ⟨p,dp,rfl,h1⟩⟩⟩⟩
theorem u7{CN:Addr}{bm:List Value}{new:String}(F:Fun K "read_number" "read_number" dW f fd)(B:TxB mg)(mN:mg "NoThing"=some (.ref CN))(xN:PySem.W.excIn K CN bm new=true)(hb:bm.contains (.type "BaseException")=true)
  (cF:∃t,mg "MOST_FIGURES_steps"=some (.int 40 t))(GR:GF P w K mg base CX0 4 "read_thing" ["text"] K81T.oG)(GW:GF P w K mg base CX0 1 "is_whole" ["thing"] K81T.lA):FnOk P w K mg base CX0 5 f fd ["word","letter"] oH:=by
 refine F.ok sc_read_number (λvs H Q E h=>?_) (λcdv A outer s H vs Q E hr h=>?_)
 ·obtain ⟨i,c,rfl,_⟩:=h
  rfl
 obtain ⟨i,c,rfl,hi,hneg,q⟩:=h
 have nd:=sc_read_number.nd
 refine ⟨_,af (qK (j:=2) (C:=CN) rfl rfl rfl nd rfl (Or.inl rfl) (wK (pc GR hr (aa (pv 0) ae))) rfl mN (oA mN xN hb) (λ_=>aH))
  (af (aJ (PW.pt (eF (dv (bD (pc GW hr (aa (pv 2) ae)))) (cX (aw jZ (ay bx rfl B.len PySem.boot_len (aa (cS PySem.F.plainAttrs_str PySem.F.slot_str_lstrip PySem.F.type_str_lstrip oX (pv 0) (aa aE ae)) ae)) (mD cF rfl) (az _))))) aH aA)
  (af (aJ (PW.pt (gK (aw gA (pv 2) ag (az _)) (eU (aw fY (pv 1) aE (az _))))) aH aA)
  (aj (au (pv 2))))),?_⟩
 have hl:=vx hi
 have h1:(100000:Nat)<=sizeLine:=by decide
 have hL:=o7 hi
 refine ⟨_,rfl,iS i,.int i,rfl,(by rw [oh];exact .num i (Nat.lt_trans hi (by decide +kernel))),(λd hd=>?_),hl,λH1 s1=>?_⟩
 ·rw [oh] at hd
  rcases tR hd with rfl | ⟨a1,a2⟩
  ·decide
  ·show (decide _&&decide _&&_)=true
   simp
   omega
 refine ⟨_,rfl,_,_,rfl,rfl,_,rfl,a8 ?_⟩
 refine ⟨_,rfl,rfl,iS i,_,rfl,rfl,by omega,_,rfl,Nat.le_trans hL (by decide),_,_,rfl,rfl,_,rfl,bb (λc=>absurd (of_decide_eq_true c) (λz=>?_)) (λ_=>?_)⟩
 ·have z':(40:Int)<(((Txt.lstripChars (iS i) (Str.ofString "-")).length:Nat):Int):=z
  omega
 refine ⟨_,rfl,_,_,rfl,rfl,_,rfl,bb (λcc=>?_) (λ_=>⟨_,rfl,q H1 s1⟩)⟩
 have hc:c=86:=hneg (of_decide_eq_true cc)
 subst hc
 exact ⟨_,rfl,rfl,_,rfl,j7 (congrArg V.str (by decide +kernel)) ⟨_,rfl,q H1 s1⟩⟩
theorem sW(F:Fun K "read_step" "read_step" cP f fd)(B:TxB mg){aS:Addr}(mS:mg "SHAPES"=some (.ref aS))(tS:TabK K aS ju)(GN:GF P w K mg base CX0 5 "read_number" ["word","letter"] oH)
  (GS:GF P w K mg base CX0 5 "made_step" ["word","numbers"] (oI CW)):FnOk P w K mg base CX0 6 f fd ["text"] (lC CW):=by
 refine F.ok sc_read_step (λvs H Q E h=>?_) (λcdv A outer s H vs Q E hr h=>?_)
 ·obtain ⟨wd,ns,rfl,_⟩:=h
  rfl
 obtain ⟨wd,ns,rfl,ar,q⟩:=h
 have nd:=sc_read_step.nd
 have hl3:=ar.len
 have el:=uM ar
 refine ⟨_,af (aI (i:=1) nd rfl (Or.inr rfl) (cS PySem.F.plainAttrs_str PySem.F.slot_str_split PySem.F.type_str_split qU (pv 0) (aa aE ae)))
  (af (aI (i:=2) nd rfl (Or.inr rfl) (uT (D:=ju) (eV (v:=.ref aS) rfl mS rfl) (ak (r:=aN K) am (pv 1) ag (λ_ _=>rfl)) ⟨rfl,rfl,rfl,rfl⟩ tS))
  (af (aJ (PW.pt (eF (aw sP (pv 2) jV (az _)) (cX (aw fY (ay aD rfl B.len PySem.boot_len (aa (pv 1) ae)) (aF bc (ay bx rfl B.len PySem.boot_len (aa (pv 2) ae)) ag) (az _))))) aH aA)
  (aj (au (pc GS hr (aa (ak (r:=aN K) am (pv 1) ag (λ_ _=>rfl)) (aa (dR jP rfl (bo rfl B.range (aa (ay bx rfl B.len PySem.boot_len (aa (pv 2) ae)) ae)) (λ_ _ _ _=>bp)
   (λ_ _ _ _=>pc GN hr (aa (ak (r:=aN K) am (pv 1) (aF bc (pv 0) ag) (λ_ _=>rfl)) (aa (ak t5 (pv 2) (pv 0) (λ_ _=>rfl)) ae)))) ae))))))),?_⟩
 refine ⟨_,rfl,rfl,txt wd ns,32,rfl,congrArg (λz=>[V.str z]) gH,uB ar,λp hp=>?_⟩
 rw [qF]
 have s1:Same H _:=ai (o:=.lst ((wS wd::ns.map iS).map V.str)) hp
 have hp1:(upd H p (.lst ((wS wd::ns.map iS).map V.str))) p=some (.lst ((wS wd::ns.map iS).map V.str)):=ac
 generalize (upd H p _)=H1 at s1 hp1 ⊢
 refine ⟨_,rfl,p,_,_,_,rfl,rfl,SqL.of hp1,St.at0,wS wd,shp wd,rfl,si wd,?_⟩
 refine ⟨_,rfl,rfl,_,rfl,bb (λc=>absurd (of_decide_eq_true c) (by intro z;cases z)) (λ_=>?_)⟩
 refine ⟨_,rfl,p,_,rfl,.inl (SqL.of hp1),_,rfl,_,rfl,jJ wd,_,_,rfl,rfl,rfl,_,rfl,j7 ?_ ?_⟩
 ·rw [el]
  simp
 refine ⟨_,rfl,p,_,_,_,rfl,rfl,SqL.of hp1,St.at0,?_⟩
 refine ⟨_,rfl,_,rfl,jJ wd,_,rfl,by omega,by rw [el];omega,?_⟩
 have e0:(((shp wd).length:Nat):Int).toNat=ns.length:=by rw [el];rfl
 rw [e0]
 refine gi (n:=ns.length) (λi ys H'=>Same H1 H'/\ys=(ns.take i).map V.int) ⟨Same.refl _,rfl⟩ (Nat.le_trans hl3.2 (by decide)) ?_ ?_
 ·rintro i ys H2 hi ⟨s2,rfl⟩
  have hn:ns[i]?=some ns[i]:=List.getElem?_eq_getElem hi
  obtain ⟨c,hc,hneg⟩:=wB ar hn
  refine eE ⟨_,rfl,_,rfl,_,_,rfl,rfl,p,_,_,_,rfl,rfl,SqL.of (s2 _ _ hp1),?_,_,rfl,_,rfl,_,_,_,rfl,rfl,jJ wd,aB hc,ns[i],c,rfl,ar.all _ (List.getElem_mem hi),hneg,λH3 s3=>⟨s2.trans s3,?_⟩⟩
  ·have e1:((i:Nat):Int)+1=((i+1:Nat):Int):=rfl
   rw [e1]
   refine aB ?_
   rw [List.map_cons,List.getElem?_cons_succ,List.map_map,List.getElem?_map,hn]
   rfl
  ·have e2:ns.take (i+1)=ns.take i++[ns[i]]:=by
    rw [List.take_add_one,hn]
    rfl
   rw [e2,List.map_append]
   rfl
 ·rintro ys H2 ⟨s2,rfl⟩ p2 hp2
  rw [List.take_length]
  exact ⟨wd,p2,ns,rfl,ac,ar,λv H3 s3 st=>q v H3 (s1.trans (s2.trans ((ai hp2).trans s3))) st⟩
def yw(K:PySem.W.Frag)(n:Nat)(t:TGs):TG:=λv σ H Q=>∃a xs,v=.ref a/\SqL K H a xs/\xs.length=n/\t xs σ H Q
theorem pZ{X:Cx}{es:List Expr}{k:Nat}{t:TGs}{n:Nat}{pos:Pos}(hc:X.calm=true)(h:PGs X es t)(hn:(assignEach es X.env).length=n:=by rfl)(hst:(assignEach es X.env).findIdx? (·.1)=none:=by rfl):PG X (.Tuple es k pos) (yw X.K n t):=by
 intro pins s σ H v u Q I r hw
 obtain ⟨a,xs,e1,hq,hl,hw⟩:=hw
 subst e1
 cases r
 obtain ⟨its,rv,ht,hz⟩:=I.list hq
 have hn':(assignEach es X.env).length=its.toArray.size:=by simp [hn,← hl,rv.length]
 rw [PyProof.Rows.assign_Tuple]
 refine wpAny_bind (wpAny_standAt ?_)
 unfold unpack
 rw [hn',hst]
 refine wpAny_bind (wpAny_holding (PySem.W.kun_itemsOf (I.ok.hd hc) ht.isList λh' hx=>?_))
 have I1:Inv X pins σ H {s with heap:=h'}:=I.kept (t':=s.toks) λb o e=>hx b o (Nat.ne_of_lt (Heap.lt_size e)) e
 exact h pins _ σ H xs _ Q I1 (by simpa using rv) hw
def KpM(S:List Addr)(H H':Hp):Prop:=∀b o,b∉S->H b=some o->H' b=some o
section
variable {S S':List Addr}{H H1 H':Hp}
theorem KpM.trans(a:KpM S H H1)(b:KpM S H1 H'):KpM S H H':=λc o n e=>b c o n (a c o n e)
theorem KpM.of(s:Same H H'):KpM S H H':=λb o _ e=>s b o e
theorem KpM.sub(h:KpM S H H')(i:∀b∈S,b∈S'):KpM S' H H':=λb o n e=>h b o (λz=>n (i b z)) e
theorem KpM.upd{a:Addr}{o:HO}(h:a∈S):KpM S H (upd H a o):=λb u n e=>by
 rw [aq (λz=>n (by rw [z];exact h))]
 exact e
end
structure Rows(H:Hp)(c:Addr)(rs:List Addr)(xss:List (List Int)):Prop where
 l:H c=some (.lst (rs.map V.ref))
 r:Paired (λ(xs:List Int) r=>H r=some (.lst (xs.map V.int))) xss rs
 nd:rs.Nodup
theorem eW{α β:Type}{R R':α->β->Prop}:∀{xs:List α} {ys:List β},Paired R xs ys->(∀x y,y∈ys->R x y->R' x y)->Paired R' xs ys
 | _,_,.nil,_=>.nil
 | _,_,.cons a r,h=>.cons (h _ _ List.mem_cons_self a) (eW r λx y m=>h x y (List.mem_cons_of_mem _ m))
theorem jY{α β:Type}{R R':α->β->Prop}{x':α}{y:β}(h1:∀x z,z≠y->R x z->R' x z)(h2:R' x' y):∀(j:Nat) {xs:List α} {ys:List β},Paired R xs ys->ys.Nodup->ys[j]?=some y->Paired R' (xs.set j x') ys
 | _,_,_,.nil,_,e=>by cases e
 | 0,_,_,.cons a r,nd,e=>by
  cases e
  exact .cons h2 (eW r λx z m q=>h1 x z (λw=>(List.nodup_cons.mp nd).1 (w▸m)) q)
 | j+1,_,_,.cons a r,nd,e=>by
  refine .cons (h1 _ _ (λw=>?_) a) (jY h1 h2 j r (List.nodup_cons.mp nd).2 e)
  exact (List.nodup_cons.mp nd).1 (w▸List.mem_of_getElem? e)
section
variable {H H':Hp}{c:Addr}{rs S:List Addr}{xss:List (List Int)}
theorem Rows.fr(h:Rows H c rs xss)(k:KpM S H H')(n:∀b∈c::rs,b∉S):Rows H' c rs xss :=
 ⟨k _ _ (n _ List.mem_cons_self) h.l,eW h.r λx y m e=>k _ _ (n _ (List.mem_cons_of_mem _ m)) e,h.nd⟩
theorem Rows.keep(h:Rows H c rs xss)(s:Same H H'):Rows H' c rs xss:=h.fr (S:=[]) (KpM.of s) λb _ z=>by cases z
theorem Rows.at(h:Rows H c rs xss){r:Addr}(m:r∈rs):∃xs:List Int,H r=some (.lst (xs.map V.int)):=by
 obtain ⟨j,e⟩:=List.getElem?_of_mem m
 obtain ⟨xs,_,q⟩:=h.r.get e
 exact ⟨xs,q⟩
theorem Rows.nc(h:Rows H c rs xss):c∉rs:=λm=>by
 obtain ⟨xs,e⟩:=h.at m
 rw [h.l] at e
 have e2:rs.map V.ref=xs.map V.int:=HO.lst.inj (Option.some.inj e)
 cases rs with
 | nil=>cases m
 | cons a r =>
  cases xs with
  | nil=>cases e2
  | cons b s=>cases e2
theorem Rows.put(h:Rows H c rs xss){j:Nat}{r:Addr}{xs:List Int}(e:rs[j]?=some r):Rows (upd H r (.lst (xs.map V.int))) c rs (xss.set j xs):=by
 refine ⟨?_,jY (R:=λ(ys:List Int) b=>H b=some (.lst (ys.map V.int))) (R':=λ(ys:List Int) b=>upd H r (.lst (xs.map V.int)) b=some (.lst (ys.map V.int))) (x':=xs) (y:=r) (λx z n q=>?_) (by exact ac) j h.r h.nd e,h.nd⟩
 ·rw [aq (λz=>h.nc (by rw [z];exact List.mem_of_getElem? e))]
  exact h.l
 ·rw [aq n]
  exact q
end
def aO(X:List (List Int)):List Int:=X.map λr=>((r.length:Nat):Int)
def hN(x:Stp):Nat:=match aP x.1 x.2 with | .int j=>j.toNat | _=>0
def aY(x:Stp)(X:List (List Int)):List Int:=match aP x.1 x.2 with | .int j=>X.getD j.toNat [] | _=>[]
def vl(row:List Int)(i:Int):Int:=row.getD i.toNat 0
def dnS(x:Stp)(h:Int)(X:List (List Int)):Int×List (Int×Int):=dn (vl (aY x X)) x.1 x.2 h
def bkS(x:Stp)(X:List (List Int)):List (Int×Int):=bk (vl (aY x X)) x.1 x.2
def lL(X:List (List Int))(j i:Nat)(v:Int):List (List Int):=X.set j ((X.getD j []).set i v)
def cp(x:Stp):List (Int×Int)->List (List Int)->List (List Int)
 | [],X=>X
 | p::_,X=>lL X (hN x) p.1.toNat p.2
def f6(x:Stp)(h:Int):Prop:=x.1=.need->∀a,x.2=[a]->a<=h
theorem rQ(X:List (List Int))(j i:Nat)(v:Int):aO (lL X j i v)=aO X:=by
 unfold aO lL
 refine List.ext_getElem? λk=>?_
 rw [List.getElem?_map,List.getElem?_map,List.getElem?_set]
 split
 ·rename_i e
  subst e
  split
  ·rename_i lt
   rw [List.getElem?_eq_getElem lt]
   simp [List.getD,List.getElem?_eq_getElem lt]
  ·rename_i lt
   rw [List.getElem?_eq_none (by omega)]
   try rfl
 ·rfl
theorem oB(x:Stp)(cs:List (Int×Int))(X:List (List Int)):aO (cp x cs X)=aO X:=by
 cases cs with
 | nil=>rfl
 | cons p r=>exact rQ _ _ _ _
theorem gl{x:Stp}{X:List (List Int)}{h:Int}(ar:Ar x.1 x.2)(th:bF (aO X) x=true)(nk:f6 x h) :
  inC (aY x X).length x.1 x.2 h/\((aP x.1 x.2=.non/\aY x X=[])\/∃j row,aP x.1 x.2=.int ((j:Nat):Int)/\X[j]?=some row/\aY x X=row/\hN x=j):=by
 obtain ⟨wd,ns⟩:=x
 have key:∀n:Int,0<=n->aP wd ns=.int n->∃row,X[n.toNat]?=some row/\kN wd ns<row.length/\aY (wd,ns) X=row/\hN (wd,ns)=n.toNat:=λn n0 e=>by
  have t:=th
  unfold bF at t
  simp only [e,hvI] at t
  cases ex:X[n.toNat]? with
  | none =>
   exfalso
   have e2:(aO X)[n.toNat]?=none:=by unfold aO;rw [List.getElem?_map,ex];rfl
   have l2:=List.getElem?_eq_none_iff.mp e2
   have:¬n<((aO X).length:Nat):=by omega
   have tf:=pL (sz:=aO X) (x:=(wd,ns)) (n:=n) (by simp only [e,hvI]) this
   rw [tf] at th
   cases th
  | some row =>
   have e2:(aO X)[n.toNat]?=some ((row.length:Nat):Int):=by unfold aO;rw [List.getElem?_map,ex];rfl
   have l2:=(List.getElem?_eq_some_iff.mp e2).1
   have tt:=lq (sz:=aO X) (x:=(wd,ns)) (n:=n) (by simp only [e,hvI]) (by omega) e2
   rw [tt] at th
   refine ⟨row,rfl,of_decide_eq_true th,?_,?_⟩
   ·unfold aY
    simp only [e]
    rw [List.getD,ex]
    rfl
   ·unfold hN
    simp only [e]
 have fin:∀n:Int,0<=n->aP wd ns=.int n->(∀row:List Int,kN wd ns<row.length->aY (wd,ns) X=row->inC row.length wd ns h)->inC (aY (wd,ns) X).length wd ns h/\((aP wd ns=.non/\aY (wd,ns) X=[])\/∃j row,aP wd ns=.int ((j:Nat):Int)/\X[j]?=some row/\aY (wd,ns) X=row/\hN (wd,ns)=j):=λn n0 e hi=>by
  obtain ⟨row,e1,e2,e3,e4⟩:=key n n0 e
  refine ⟨by rw [e3];exact hi row e2 e3,.inr ⟨n.toNat,row,?_,e1,e3,e4⟩⟩
  rw [e,Int.toNat_of_nonneg n0]
 cases wd with
 | take =>
  obtain ⟨a,b,rfl,h1,h2,_⟩:=ar.c rfl
  exact fin a h1.1 rfl λrow l _=>l
 | mean =>
  obtain ⟨a,b,rfl,h1,h2,_⟩:=ar.c rfl
  exact fin a h1.1 rfl λrow l _=>l
 | give =>
  obtain ⟨a,b,rfl,h1,h2,_⟩:=ar.c rfl
  exact fin a h1.1 rfl λrow l _=>l
 | add =>
  obtain ⟨a,b,c,rfl,h1,h2,_⟩:=ar.a
  exact fin a h1.1 rfl λrow l _=>l
 | sum =>
  obtain ⟨a,b,c,rfl,h1,h2,h3,h4⟩:=ar.s
  refine fin a h1.1 rfl λrow l _=>?_
  have l':c<row.length:=l
  exact ⟨by omega,l'⟩
 | plus =>
  obtain ⟨a,rfl,_⟩:=ar.p
  exact ⟨True.intro,.inl ⟨rfl,rfl⟩⟩
 | need =>
  obtain ⟨a,rfl,_⟩:=ar.n
  exact ⟨nk rfl a rfl,.inl ⟨rfl,rfl⟩⟩
theorem yA{n:Nat}{val:Int->Int}{wd:Wd}{ns:List Int}{h:Int}(ar:Ar wd ns)(ic:inC n wd ns h):(dn val wd ns h).2.length<=1/\∀p∈(dn val wd ns h).2,0<=p.1/\p.1<n:=by
 cases wd with
 | take =>
  obtain ⟨a,b,rfl,h1,h2,_⟩:=ar.c rfl
  exact ⟨Nat.zero_le _,λp hp=>by cases hp⟩
 | mean =>
  obtain ⟨a,b,rfl,h1,h2,_⟩:=ar.c rfl
  exact ⟨Nat.zero_le _,λp hp=>by cases hp⟩
 | give =>
  obtain ⟨a,b,rfl,h1,h2,_⟩:=ar.c rfl
  exact ⟨Nat.le_refl _,λp hp=>by cases List.mem_singleton.mp hp;exact ⟨h2.1,ic⟩⟩
 | add =>
  obtain ⟨a,b,c,rfl,h1,h2,_⟩:=ar.a
  exact ⟨Nat.le_refl _,λp hp=>by cases List.mem_singleton.mp hp;exact ⟨h2.1,ic⟩⟩
 | sum =>
  obtain ⟨a,b,c,rfl,h1,h2,h3,h4⟩:=ar.s
  exact ⟨Nat.zero_le _,λp hp=>by cases hp⟩
 | plus =>
  obtain ⟨a,rfl,_⟩:=ar.p
  exact ⟨Nat.zero_le _,λp hp=>by cases hp⟩
 | need =>
  obtain ⟨a,rfl,_⟩:=ar.n
  exact ⟨Nat.zero_le _,λp hp=>by cases hp⟩
theorem yC{n:Nat}{val:Int->Int}{wd:Wd}{ns:List Int}(ar:Ar wd ns)(ic:inC n wd ns 0):(bk val wd ns).length<=1/\∀p∈bk val wd ns,0<=p.1/\p.1<n:=by
 by_cases e:wd=.add
 ·subst e
  obtain ⟨a,b,c,rfl,h1,h2,_⟩:=ar.a
  exact ⟨Nat.le_refl _,λp hp=>by cases List.mem_singleton.mp hp;exact ⟨h2.1,ic⟩⟩
 ·have:bk val wd ns=[]:=by
   unfold bk
   split
   ·exact absurd rfl e
   ·rfl
  rw [this]
  exact ⟨Nat.zero_le _,λp hp=>by cases hp⟩
def pR(CW:Wd->Addr):Sp:=λvs H Q _=>∃c rs X x v ch cs,vs=[.ref c,v,.ref ch]/\Rows H c rs X/\Ar x.1 x.2/\StO CW H x.1 x.2 v/\ChT H cs ch/\cs.length<=1/\(∀p∈cs,0<=p.1/\p.1<(aY x X).length)/\((aP x.1 x.2=.non/\aY x X=[])\/∃j row,aP x.1 x.2=.int ((j:Nat):Int)/\X[j]?=some row/\aY x X=row/\hN x=j) /\
 ∀H',Rows H' c rs (cp x cs X)->KpM rs H H'->Q .non H'
theorem wQ(F:Fun K "put" "put" so f fd)(W:TxW K CW)(GH:∀wd,GM P w K mg base CX0 1 (CW wd) "house" ["self"] (cA CW wd)):FnOk P w K mg base CX0 2 f fd ["cells","step","changes"] (pR CW):=by
 refine F.ok sc_put (λvs H Q E h=>?_) (λcdv A outer s H vs Q E hr h=>?_)
 ·obtain ⟨c,rs,X,x,v,ch,cs,rfl,_⟩:=h
  rfl
 obtain ⟨c,rs,X,x,v,ch,cs,rfl,rw0,ar,⟨a,dx,rfl,ha⟩,⟨us,hch,pch⟩,l1,inr,hou,q⟩:=h
 have nd:=sc_put.nd
 refine ⟨_,aj (cK PassesOwn.never rfl (oR (pv 2)) (aU (i:=3) nd rfl (Or.inl rfl)) (aj (cq (ak (r:=aR K) aC (pv 3) ag (λ_ _=>rfl))
  (eh (ak (r:=aN K) am (pv 0) (ja λwd=>pm0 (GH wd) (pv 1) (W.cl wd) hr) (λ_ _=>rfl)) (ak (r:=aR K) aC (pv 3) ag (λ_ _=>rfl)) ci)))),?_⟩
 refine ⟨_,rfl,ch,rfl,⟨_,SqT.of hch⟩,?_⟩
 cases cs with
 | nil =>
  cases pch
  refine mE (xs:=[]) (λi σ H'=>H'=H) rfl (λi σ H' _ z=>by rw [z];exact SqT.of hch) (λi u σ H' hu=>by cases hu) (fun σ H' z=>by rw [z];exact q _ rw0 (KpM.of (Same.refl _)))
 | cons p r =>
  cases r with
  | cons p2 r2=>exact absurd l1 (by simp)
  | nil =>
   cases pch with
   | cons hb rest =>
    cases rest
    obtain ⟨b,rfl,hb⟩:=hb
    obtain ⟨p0,p1⟩:=inr p List.mem_cons_self
    obtain ⟨j,row,hv,ex,er,ej⟩:=hou.resolve_left (λz=>by rw [z.2] at p1;exact absurd p1 (by simp;omega))
    rw [er] at p1
    obtain ⟨r0,e0,hrow⟩:=rw0.r.get1 ex
    have f1:=gD (m:="house") (by decide +kernel) (by decide +kernel) (by decide +kernel) (by decide +kernel) (by decide +kernel) x.1 x.2
    have fin:Rows (upd H r0 (.lst ((row.set p.1.toNat p.2).map V.int))) c rs (cp x [p] X):=by
     have z:=rw0.put (xs:=row.set p.1.toNat p.2) e0
     have e3:cp x [p] X=X.set j (row.set p.1.toNat p.2):=by
      show lL X (hN x) p.1.toNat p.2=_
      unfold lL
      rw [ej,List.getD,ex]
      rfl
     rw [e3]
     exact z
    have hch':(upd H r0 (.lst ((row.set p.1.toNat p.2).map V.int))) ch=some (.tup [.ref b]):=by
     rw [aq (qa hch hrow (by intro z;cases z))]
     exact hch
    refine mE (xs:=[.ref b]) (λi σ H'=>(i=0/\H'=H/\σ=[some (.ref c),some (.ref a),some (.ref ch),none])\/(i=1/\H'=upd H r0 (.lst ((row.set p.1.toNat p.2).map V.int)))) (.inl ⟨rfl,rfl,rfl⟩) (λi σ H' _ z=>?_) ?_ ?_
    ·rcases z with ⟨_,rfl,_⟩ | ⟨_,rfl⟩
     ·exact SqT.of hch
     ·exact SqT.of hch'
    ·rintro i u σ H' hu z
     cases i with
     | succ i=>cases hu
     | zero =>
      cases hu
      obtain ⟨_,rfl,rfl⟩:=z.resolve_right (λz=>by cases z.1)
      refine ⟨_,rfl,b,_,_,_,rfl,rfl,SqT.of hb,St.at1,_,rfl,x.1,_,rfl,a,dx,_,rfl,ha,f1,_,x.2,rfl,ar,⟨a,dx,rfl,ha⟩,?_⟩
      rw [hv]
      refine ⟨c,_,_,_,rfl,rfl,SqL.of rw0.l,aB (by rw [List.getElem?_map,e0];rfl),_,rfl,b,_,_,_,rfl,rfl,SqT.of hb,St.at0,r0,_,p.1,p.1.toNat,rfl,rfl,hrow,?_,?_⟩
      ·have e5:p.1=((p.1.toNat:Nat):Int):=(Int.toNat_of_nonneg p0).symm
       rw [List.length_map]
       have z:=gw (n:=row.length) (j:=p.1.toNat) (by omega)
       rw [← e5] at z
       exact z
      ·refine .inr ⟨rfl,?_⟩
       rw [List.map_set]
    ·rintro σ H' z
     obtain ⟨_,rfl⟩:=z.resolve_left (λz=>by cases z.1)
     exact q _ fin (KpM.upd (List.mem_of_getElem? e0))
abbrev n9:Expr:=match (defBody bW).getD 0 (.Pass default) with | .Assign _ (.Call _ [_,l] _ _) _=>l | _=>.Name "" default
abbrev nZ:Expr:=match (defBody aQ).getD 6 (.Pass default) with | .Assign _ (.Call _ [l] _ _) _=>l | _=>.Name "" default
abbrev qOn:Str:="step_on.<locals>.<lambda>"
abbrev qUn:Str:="is_undo_fit.<locals>.<lambda>"
def yo(e:Expr):Pos:=match e with | .Lambda _ _ _ p=>p | _=>default
abbrev vW(e:Expr):Arguments:=match e with | .Lambda a _ _ _=>a | _=>defArgs bW
abbrev vV(e:Expr):Expr:=match e with | .Lambda _ b _ _=>b | _=>.Name "" default
abbrev mz(e:Expr):Scope:=match e with | .Lambda _ _ s _=>s | _=>defScope bW
structure Tbs(P1 P2:Addr)(H:Hp):Prop where
 a:Tb H P1 (yo n9) qOn
 b:Tb H P2 (yo nZ) qUn
 ne:P1≠P2
section
variable {H H':Hp}{P1 P2 Pa Pb:Addr}{p1 p2:Pos}{q1 q2:Str}{rs:List Addr}{c:Addr}{X:List (List Int)}
theorem cg(t:Tb H Pa p1 q1):∃z,H Pa=some (.tbl z):=t.elim (λe=>⟨_,e⟩) λ⟨_,e,_⟩=>⟨_,e⟩
theorem i6{S:List Addr}(t:Tb H Pa p1 q1)(n:Pa∉S)(nc:∀b∈S,∀c q,H b≠some (fo c q))(k:KpM S H H'):Tb H' Pa p1 q1 :=
 t.elim (λe=>.inl (k _ _ n e)) λ⟨c,e,ec⟩=>.inr ⟨c,k _ _ n e,k _ _ (λz=>nc _ z _ _ ec) ec⟩
theorem kB(t:Tb H Pa p1 q1){b:Addr}{o:HO}(e:H b=some o)(no:∀z,o≠.tbl z):b≠Pa:=λz=>by
 obtain ⟨y,e2⟩:=cg t
 rw [z,e2] at e
 cases e
 exact no _ rfl
theorem Tbs.keep(t:Tbs P1 P2 H)(s:Same H H'):Tbs P1 P2 H':=⟨t.a.keep s,t.b.keep s,t.ne⟩
theorem Tbs.rows(t:Tbs P1 P2 H)(r:Rows H c rs X)(k:KpM rs H H'):Tbs P1 P2 H':=by
 have nc:∀b∈rs,∀c q,H b≠some (fo c q):=λb m c q z=>by
  obtain ⟨xs,e⟩:=r.at m
  rw [e] at z
  cases z
 have nt:∀b∈rs,b≠P1/\b≠P2:=λb m=>by
  obtain ⟨xs,e⟩:=r.at m
  exact ⟨kB t.a e (λz y=>by cases y),kB t.b e (λz y=>by cases y)⟩
 exact ⟨i6 t.a (λm=>(nt _ m).1 rfl) nc k,i6 t.b (λm=>(nt _ m).2 rfl) nc k,t.ne⟩
def Sty:HO->Prop
 | .lst _=>False
 | .tbl _=>False
 | _=>True
theorem stay{b:Addr}{o:HO}(t:Tbs P1 P2 H)(r:Rows H c rs X)(k:KpM (P1::P2::rs) H H')(e:H b=some o)(s:Sty o):H' b=some o:=by
 refine k _ _ (λm=>?_) e
 rcases List.mem_cons.mp m with z | m
 ·obtain ⟨y,e2⟩:=cg t.a
  rw [z,e2] at e
  cases e
  exact s
 rcases List.mem_cons.mp m with z | m
 ·obtain ⟨y,e2⟩:=cg t.b
  rw [z,e2] at e
  cases e
  exact s
 ·obtain ⟨xs,e2⟩:=r.at m
  rw [e2] at e
  cases e
  exact s
theorem dM(t:Tbs P1 P2 H)(r:Rows H c rs X)(k:KpM (P1::P2::rs) H H'):bf H H':=λb xs e=>stay t r k e True.intro
theorem pN(t:Tbs P1 P2 H)(r:Rows H c rs X)(k:KpM (P1::P2::rs) H H'){wd:Wd}{ns:List Int}{v:V}(h:StO CW H wd ns v):StO CW H' wd ns v:=by
 obtain ⟨a,dx,e,ha⟩:=h
 exact ⟨a,dx,e,stay t r k ha True.intro⟩
theorem tY(t:Tbs P1 P2 H)(r:Rows H c rs X)(h1:Pa=P1\/Pa=P2)(k:Kp Pa H H'):Rows H' c rs X/\KpM (P1::P2::rs) H H':=by
 have km:KpM (P1::P2::rs) H H':=λb o n e=>k b o (λz=>n (by rcases h1 with y | y<;>rw [z,y]<;>simp)) e
 refine ⟨r.fr (S:=[Pa]) (λb o n e=>k b o (λz=>n (by rw [z];simp)) e) λb m z=>?_,km⟩
 have z:=List.mem_singleton.mp z
 have tt:∃y,H Pa=some (.tbl y):=by
  rcases h1 with rfl | rfl
  ·exact cg t.a
  ·exact cg t.b
 obtain ⟨y,e2⟩:=tt
 rcases List.mem_cons.mp m with w | m
 ·rw [← z,w,r.l] at e2
  cases e2
 ·obtain ⟨xs,e⟩:=r.at m
  rw [← z,e] at e2
  cases e2
end
theorem nV{x1 x2 y:Str}{c1 c2 a:Addr}(h:[(x1,c1),(x2,c2)].lookup y=some a):(y=x1/\a=c1)\/(y=x2/\a=c2):=by
 rw [List.lookup_cons] at h
 cases e:y==x1 with
 | true =>
  rw [e] at h
  exact .inl ⟨by simpa using e,(Option.some.inj h).symm⟩
 | false =>
  rw [e,List.lookup_cons] at h
  cases e2:y==x2 with
  | true =>
   rw [e2] at h
   exact .inr ⟨by simpa using e2,(Option.some.inj h).symm⟩
  | false =>
   rw [e2] at h
   cases h
theorem qY{fv c c1 c2 cc a dx:Addr}{x:Stp}{rs:List Addr}{X:List (List Int)}{H:Hp}
  (ne:c2≠c1)(hB:uw [] [(c2,.ref a),(c1,.ref cc)] base)(hf:H fv=some (ij fv qOn (vW n9) (vV n9) (mz n9) [("step",c2),("cells",c1)] c))(hc:H c=some (fo c qOn))(W:TxW K CW)(GH:∀wd,GM P w K mg base CX0 1 (CW wd) "house" ["self"] (cA CW wd))
  (r:Rows H cc rs X)(ar:Ar x.1 x.2)(ha:H a=some (.ins (CW x.1) dx (hR x.1 x.2)))(hou:(aP x.1 x.2=.non/\aY x X=[])\/∃j row,aP x.1 x.2=.int ((j:Nat):Int)/\X[j]?=some row/\aY x X=row/\hN x=j) :
  CloT P w K mg base 4 fv (gz (vl (aY x X)) (aY x X).length) H:=by
 refine ⟨⟨_,_,_,_,_,_,hf⟩,λH1 A outer s v u Q e1 hr e0 rv h=>?_⟩
 obtain ⟨i,ev,i0,i1,q⟩:=h
 cases ev
 obtain ⟨j,row,hv,ex,er,_⟩:=hou.resolve_left (λz=>by rw [z.2] at i1;exact absurd i1 (by simp;omega))
 rw [er] at i1 q
 have r1:=r.keep e1
 obtain ⟨r0,e0',hrow⟩:=r1.r.get1 ex
 have f1:=gD (m:="house") (by decide +kernel) (by decide +kernel) (by decide +kernel) (by decide +kernel) (by decide +kernel) x.1 x.2
 refine nX (k:=3) (N:=["cell","cells","step"]) (x:="cell") (fvs:=[.ref cc,.ref a]) hr e0 hB ⟨rfl,rfl,rfl,by decide +kernel,rfl,rfl,by decide +kernel,λy hy=>?_,λy z a h1 h2=>?_⟩ rfl (λy a h=>?_) (λj y v h1 h2=>?_) (e1 _ _ hf) (e1 _ _ hc) rv (λpm ct=>.of_eq rfl)
  ⟨_,ak (r:=aN K) am (ak (r:=aN K) am (pv 1) (ja λwd=>pm0 (GH wd) (pv 2) (W.cl wd) (hr.deeper _)) (λ_ _=>rfl)) (pv 0) (λ_ _=>rfl),?_⟩
 ·have e:y="cells"\/y="step":=(by decide +kernel:∀p∈(mz n9).names,p.2=NameKind.free->p.1=("cells":Str)\/p.1=("step":Str)) _ (PySem.mem_of_lookup hy) rfl
  rcases e with e | e
  ·subst e
   exact ⟨c1,rfl⟩
  ·subst e
   exact ⟨c2,rfl⟩
 ·rcases nV h1 with ⟨rfl,rfl⟩ | ⟨rfl,rfl⟩
  ·rcases nV h2 with ⟨rfl,e⟩ | ⟨_,e⟩
   ·rfl
   ·exact absurd e ne
  ·rcases nV h2 with ⟨_,e⟩ | ⟨rfl,e⟩
   ·exact absurd e.symm ne
   ·rfl
 ·rcases nV h with ⟨_,rfl⟩ | ⟨_,rfl⟩
  ·exact ⟨_,List.mem_cons_self⟩
  ·exact ⟨_,List.mem_cons_of_mem _ List.mem_cons_self⟩
 ·cases j with
  | zero =>
   cases h1
   cases h2
   refine ⟨rfl,c1,rfl,λv' hm=>?_⟩
   rcases List.mem_cons.mp hm with e | e
   ·cases e
    exact absurd rfl ne
   ·cases List.mem_singleton.mp e
    rfl
  | succ j =>
   cases j with
   | zero =>
    cases h1
    cases h2
    refine ⟨rfl,c2,rfl,λv' hm=>?_⟩
    rcases List.mem_cons.mp hm with e | e
    ·cases e
     rfl
    ·cases List.mem_singleton.mp e
     exact absurd rfl ne
   | succ j=>cases h2
 ·refine ⟨_,rfl,x.1,_,rfl,a,dx,_,rfl,e1 _ _ ha,f1,_,x.2,rfl,ar,⟨a,dx,rfl,e1 _ _ ha⟩,?_⟩
  rw [hv]
  refine ⟨cc,_,_,_,rfl,rfl,SqL.of r1.l,aB (by rw [List.getElem?_map,e0'];rfl),_,rfl,r0,_,_,_,rfl,rfl,SqL.of hrow,?_,q _ (Same.refl _)⟩
  have e5:i=((i.toNat:Nat):Int):=(Int.toNat_of_nonneg i0).symm
  have lt:i.toNat<row.length:=by omega
  have e6:(row.map V.int)[i.toNat]?=some (.int (vl row i)):=by
   rw [List.getElem?_map,List.getElem?_eq_getElem lt]
   unfold vl
   rw [List.getD,List.getElem?_eq_getElem lt]
   rfl
  have z:=aB e6
  rw [← e5] at z
  exact z
theorem qX{fv c c1 c2 cc a dx:Addr}{x:Stp}{rs:List Addr}{X:List (List Int)}{H:Hp}
  (ne:c2≠c1)(hB:uw [] [(c2,.ref a),(c1,.ref cc)] base)(hf:H fv=some (ij fv qUn (vW nZ) (vV nZ) (mz nZ) [("step",c2),("cells",c1)] c))(hc:H c=some (fo c qUn))(W:TxW K CW)(GH:∀wd,GM P w K mg base CX0 1 (CW wd) "house" ["self"] (cA CW wd))
  (r:Rows H cc rs X)(ar:Ar x.1 x.2)(ha:H a=some (.ins (CW x.1) dx (hR x.1 x.2)))(hou:(aP x.1 x.2=.non/\aY x X=[])\/∃j row,aP x.1 x.2=.int ((j:Nat):Int)/\X[j]?=some row/\aY x X=row/\hN x=j) :
  CloT P w K mg base 4 fv (gz (vl (aY x X)) (aY x X).length) H:=by
 refine ⟨⟨_,_,_,_,_,_,hf⟩,λH1 A outer s v u Q e1 hr e0 rv h=>?_⟩
 obtain ⟨i,ev,i0,i1,q⟩:=h
 cases ev
 obtain ⟨j,row,hv,ex,er,_⟩:=hou.resolve_left (λz=>by rw [z.2] at i1;exact absurd i1 (by simp;omega))
 rw [er] at i1 q
 have r1:=r.keep e1
 obtain ⟨r0,e0',hrow⟩:=r1.r.get1 ex
 have f1:=gD (m:="house") (by decide +kernel) (by decide +kernel) (by decide +kernel) (by decide +kernel) (by decide +kernel) x.1 x.2
 refine nX (k:=3) (N:=["cell","cells","step"]) (x:="cell") (fvs:=[.ref cc,.ref a]) hr e0 hB ⟨rfl,rfl,rfl,by decide +kernel,rfl,rfl,by decide +kernel,λy hy=>?_,λy z a h1 h2=>?_⟩ rfl (λy a h=>?_) (λj y v h1 h2=>?_) (e1 _ _ hf) (e1 _ _ hc) rv (λpm ct=>.of_eq rfl)
  ⟨_,ak (r:=aN K) am (ak (r:=aN K) am (pv 1) (ja λwd=>pm0 (GH wd) (pv 2) (W.cl wd) (hr.deeper _)) (λ_ _=>rfl)) (pv 0) (λ_ _=>rfl),?_⟩
 ·have e:y="cells"\/y="step":=(by decide +kernel:∀p∈(mz nZ).names,p.2=NameKind.free->p.1=("cells":Str)\/p.1=("step":Str)) _ (PySem.mem_of_lookup hy) rfl
  rcases e with e | e
  ·subst e
   exact ⟨c1,rfl⟩
  ·subst e
   exact ⟨c2,rfl⟩
 ·rcases nV h1 with ⟨rfl,rfl⟩ | ⟨rfl,rfl⟩
  ·rcases nV h2 with ⟨rfl,e⟩ | ⟨_,e⟩
   ·rfl
   ·exact absurd e ne
  ·rcases nV h2 with ⟨_,e⟩ | ⟨rfl,e⟩
   ·exact absurd e.symm ne
   ·rfl
 ·rcases nV h with ⟨_,rfl⟩ | ⟨_,rfl⟩
  ·exact ⟨_,List.mem_cons_self⟩
  ·exact ⟨_,List.mem_cons_of_mem _ List.mem_cons_self⟩
 ·cases j with
  | zero =>
   cases h1
   cases h2
   refine ⟨rfl,c1,rfl,λv' hm=>?_⟩
   rcases List.mem_cons.mp hm with e | e
   ·cases e
    exact absurd rfl ne
   ·cases List.mem_singleton.mp e
    rfl
  | succ j =>
   cases j with
   | zero =>
    cases h1
    cases h2
    refine ⟨rfl,c2,rfl,λv' hm=>?_⟩
    rcases List.mem_cons.mp hm with e | e
    ·cases e
     rfl
    ·cases List.mem_singleton.mp e
     exact absurd rfl ne
   | succ j=>cases h2
 ·refine ⟨_,rfl,x.1,_,rfl,a,dx,_,rfl,e1 _ _ ha,f1,_,x.2,rfl,ar,⟨a,dx,rfl,e1 _ _ ha⟩,?_⟩
  rw [hv]
  refine ⟨cc,_,_,_,rfl,rfl,SqL.of r1.l,aB (by rw [List.getElem?_map,e0'];rfl),_,rfl,r0,_,_,_,rfl,rfl,SqL.of hrow,?_,q _ (Same.refl _)⟩
  have e5:i=((i.toNat:Nat):Int):=(Int.toNat_of_nonneg i0).symm
  have lt:i.toNat<row.length:=by omega
  have e6:(row.map V.int)[i.toNat]?=some (.int (vl row i)):=by
   rw [List.getElem?_map,List.getElem?_eq_getElem lt]
   unfold vl
   rw [List.getD,List.getElem?_eq_getElem lt]
   rfl
  have z:=aB e6
  rw [← e5] at z
  exact z
def uJ(P1 P2:Addr)(CW:Wd->Addr):Sp:=λvs H Q _=>∃c rs X x v hand,vs=[.ref c,v,.int hand]/\Rows H c rs X/\Tbs P1 P2 H/\(aY x X).length<=1000/\Ar x.1 x.2/\StO CW H x.1 x.2 v/\bF (aO X) x=true/\f6 x hand /\
 ∀t ch H',Rows H' c rs (cp x (dnS x hand X).2 X)->Tbs P1 P2 H'->H' t=some (.tup [.int (dnS x hand X).1,.ref ch])->ChT H' (dnS x hand X).2 ch->KpM (P1::P2::rs) H H'->Q (.ref t) H'
theorem ur{X:Cx}{b c:Addr}{u v:V}{σ:L2.St}(i j:Nat)(x y:Str)(h1:X.N[i]?=some x/\σ[i]?=some (some u)/\X.env.kindOf x=some .cell/\X.env.cells.lookup x=some b/\X.fn x=true)(h2:X.N[j]?=some y/\σ[j]?=some (some v)/\X.env.kindOf y=some .cell/\X.env.cells.lookup y=some c/\X.fn y=true):pJ X [(b,u),(c,v)] σ:=λp hm=>by
 rcases List.mem_cons.mp hm with e | e
 ·cases e
  exact ⟨i,x,h1⟩
 ·cases List.mem_singleton.mp e
  exact ⟨j,y,h2⟩
theorem yc{cc P1 P2:Addr}{fS:Wd->Addr}{dS:Wd->FuncData}(F:Fun K "step_on" "step_on" bW f fd)(W:TxW K CW)(hBB:BB mg base)(hcc:fd.code=.ref cc)(hCd:PySem.W.codeHdIn K cc P1=true)(HG:∀Bh:Heap,K.In Bh->∀wd,GM P w K mg Bh CX0 1 (CW wd) "house" ["self"] (cA CW wd))
  (HS:∀(wd:Wd) (val:Int->Int) (n:Nat) (Bh:Heap),n<=1000->K.In Bh->FnOk P w K mg Bh CX0 5 (fS wd) (dS wd) ["self","hand","value_of"] (eN P w K mg CW val n wd Bh))(mS:∀wd,eL K (CW wd) "step_done" (fS wd))(bS:∀wd,Binds K (dS wd) ["self","hand","value_of"] [])
  (GP:GF P w K mg base CX0 2 "put" ["cells","step","changes"] (pR CW)):FnOk P w K mg base CX0 6 f fd ["cells","step","hand"] (uJ P1 P2 CW):=by
 refine F.okC sc_step_on (λvs H Q E h=>?_) (λA0 outer s H vs Q E hr h=>?_)
 ·obtain ⟨c,rs,X,x,v,hand,rfl,_⟩:=h
  rfl
 obtain ⟨c,rs,X,x,v,hand,rfl,rw0,tb,l1000,ar,⟨a,dx,rfl,ha⟩,th,nk,q⟩:=h
 have nd:=sc_step_on.nd
 have ne:s.heap.objs.size+2≠s.heap.objs.size+1:=by omega
 obtain ⟨ic,hou⟩:=gl ar th nk
 refine ⟨_,af (aI (i:=3) nd rfl (Or.inl rfl) (nJ (cs:=[(s.heap.objs.size+2,.ref a),(s.heap.objs.size+1,.ref c)]) (sp:=λBh=>eN P w K mg CW (vl (aY x X)) (aY x X).length x.1 Bh) (pv 1) (W.cl x.1) (mS x.1)
   (λBh kin=>HS x.1 (vl (aY x X)) (aY x X).length Bh l1000 kin) hr (bS x.1) bE (aa (pv 2) (aa (p8 (P:=P1) (cl:=[("step",s.heap.objs.size+2),("cells",s.heap.objs.size+1)]) hcc hCd hBB rfl rfl rfl) ae))))
  (af (bq (pc GP hr (aa (pv 0) (aa (pv 1) (aa (ak (r:=aR K) aC (pv 3) ag (λ_ _=>rfl)) ae)))))
  (aj (au (pv 3)))),?_⟩
 have hf:(hR x.1 x.2).lookup ("step_done":Str)=none:=gD (by decide +kernel) (by decide +kernel) (by decide +kernel) (by decide +kernel) (by decide +kernel) x.1 x.2
 refine ⟨ur 1 0 "step" "cells" ⟨rfl,rfl,rfl,rfl,rfl⟩ ⟨rfl,rfl,rfl,rfl,rfl⟩,_,rfl,a,dx,_,rfl,ha,hf,_,rfl,tb.a,λfv c3 H2 k2 hP2 hc2 hf0 hfv hcc2 Bh kin pb=>?_⟩
 obtain ⟨rw2,km2⟩:=tY tb rw0 (.inl rfl) k2
 have tb2:Tbs P1 P2 H2:=by
  obtain ⟨y,e1⟩:=cg tb.a
  exact ⟨.inr ⟨c3,hP2,hcc2⟩,i6 (S:=[P1]) tb.b (λz=>tb.ne (List.mem_singleton.mp z).symm) (λb m c q z=>by rw [List.mem_singleton.mp m,e1] at z;cases z) (λb o n e=>k2 b o (λz=>n (by rw [z];exact List.mem_cons_self)) e),tb.ne⟩
 have ha2:=stay tb rw0 km2 ha True.intro
 have ct:CloT P w K mg Bh 4 fv (gz (vl (aY x X)) (aY x X).length) H2:=qY ne pb hfv hcc2 W (HG Bh kin) rw2 ar ha2 hou
 refine ⟨.ref a,x.2,hand,fv,rfl,ar,ic,⟨a,dx,rfl,ha2⟩,ct,λt ch H3 s3 ht hch=>?_⟩
 obtain ⟨l1,inr⟩:=yA (val:=vl (aY x X)) ar ic
 have rw3:=rw2.keep s3
 have tb3:=tb2.keep s3
 refine ⟨_,rfl,_,rfl,_,rfl,t,_,_,_,rfl,rfl,SqT.of ht,St.at1,c,rs,X,x,_,ch,_,rfl,rw3,ar,⟨a,dx,rfl,s3 _ _ ha2⟩,hch,l1,inr,hou,λH4 rw4 k4=>?_⟩
 have k34:KpM (P1::P2::rs) H3 H4:=k4.sub λb m=>List.mem_cons_of_mem _ (List.mem_cons_of_mem _ m)
 have ts4:=dM tb3 rw3 k34
 exact ⟨_,rfl,q t ch H4 rw4 (tb3.rows rw3 k4) (ts4 _ _ ht) (hch.keep ts4) (km2.trans ((KpM.of s3).trans k34))⟩
variable {P1 P2:Addr}
open PySem.Calls PyProof.Rows in
theorem uU{X:Cx}{a:Expr}{pos:Pos}{ta:TE}(ha:PE X a ta):PE X (.UnaryOp .Not a pos) (fun σ H Q=>ta σ H λx H1=>∃k,xr X.K x H1 k/\Q (.bl (!k)) H1):=by
 intro pins s σ H Q I h
 refine UnaryOp_ (thn (ha pins s σ H _ I h) λv s1 ⟨x,H1,I1,r1,q1⟩=>?_)
 exact not_of (thn (rK pins s1 σ H1 x v (λk H2=>Q (.bl (!k)) H2) I1 r1 q1) λk s2 ⟨H2,I2,q2⟩=>⟨.bl (!k),H2,I2,rfl,q2⟩)
def aX:List Stp->Int->List (List Int)->List Int×List (List Int)
 | [],_,X=>([],X)
 | x::r,h,X=>((dnS x h X).1::(aX r (dnS x h X).1 (cp x (dnS x h X).2 X)).1,(aX r (dnS x h X).1 (cp x (dnS x h X).2 X)).2)
def cw(hs:List Int)(h:Int):Int:=hs.getLastD h
theorem o9(a:Int)(hs:List Int)(h:Int):cw (a::hs) h=cw hs a:=by
 unfold cw
 cases hs<;>rfl
theorem gu(hs:List Int)(a h:Int):cw (hs++[a]) h=a:=by
 unfold cw
 simp
theorem jv(x:Stp):∀(xs:List Stp) (h:Int) (X:List (List Int)),aX (xs++[x]) h X=((aX xs h X).1++[(dnS x (cw (aX xs h X).1 h) (aX xs h X).2).1],cp x (dnS x (cw (aX xs h X).1 h) (aX xs h X).2).2 (aX xs h X).2)
 | [],_,_=>rfl
 | y::r,h,X=>by
  show ((dnS y h X).1::(aX (r++[x]) (dnS y h X).1 (cp y (dnS y h X).2 X)).1,(aX (r++[x]) (dnS y h X).1 (cp y (dnS y h X).2 X)).2)=_
  rw [jv x r]
  have e:(aX (y::r) h X).1=(dnS y h X).1::(aX r (dnS y h X).1 (cp y (dnS y h X).2 X)).1:=rfl
  have e2:(aX (y::r) h X).2=(aX r (dnS y h X).1 (cp y (dnS y h X).2 X)).2:=rfl
  rw [e,e2,o9]
  rfl
theorem iL:∀(xs:List Stp) (h:Int) (X:List (List Int)),aO (aX xs h X).2=aO X
 | [],_,_=>rfl
 | y::r,h,X=>by
  show aO (aX r _ _).2=_
  rw [iL r,oB]
theorem lY:∀(xs:List Stp) (h:Int) (X:List (List Int)),(aX xs h X).1.length=xs.length
 | [],_,_=>rfl
 | y::r,h,X=>congrArg (·+1) (lY r _ _)
def okS(xs:List Stp)(h:Int)(X:List (List Int)):Prop:=∀i x,xs[i]?=some x->f6 x (cw (aX (xs.take i) h X).1 h)
def Sml(X:List (List Int)):Prop:=∀m∈aO X,m<=1000
theorem gR{X:List (List Int)}(h:Sml X)(x:Stp):(aY x X).length<=1000:=by
 unfold aY
 split
 ·rename_i j _
  cases e:X[j.toNat]? with
  | none=>rw [List.getD,e];exact Nat.zero_le _
  | some row =>
   rw [List.getD,e]
   have:=h ((row.length:Nat):Int) (List.mem_map.mpr ⟨row,List.mem_of_getElem? e,rfl⟩)
   show row.length<=1000
   omega
 ·exact Nat.zero_le _
abbrev Own(P1 P2:Addr)(rs:List Addr):List Addr:=P1::P2::rs
theorem sN{H:Hp}{c l:Addr}{rs:List Addr}{X:List (List Int)}(t:Tbs P1 P2 H)(r:Rows H c rs X)(n:H l=none):l∉Own P1 P2 rs/\l≠c:=by
 refine ⟨λm=>?_,λz=>by rw [z,r.l] at n;cases n⟩
 rcases List.mem_cons.mp m with z | m
 ·obtain ⟨y,e⟩:=cg t.a
  rw [z,e] at n;cases n
 rcases List.mem_cons.mp m with z | m
 ·obtain ⟨y,e⟩:=cg t.b
  rw [z,e] at n;cases n
 ·obtain ⟨y,e⟩:=r.at m
  rw [e] at n;cases n
theorem mC{S:List Addr}{H H1:Hp}{l:Addr}{o:HO}(k:KpM S H H1)(n:H l=none):KpM S H (upd H1 l o):=λb u nb e=>by
 rw [aq (ap e n)]
 exact k b u nb e
theorem Rows.upd{H:Hp}{c l:Addr}{rs:List Addr}{X:List (List Int)}{o:HO}(r:Rows H c rs X)(n:l∉c::rs):Rows (upd H l o) c rs X :=
 r.fr (S:=[l]) (KpM.upd List.mem_cons_self) λb m z=>n (by rw [← List.mem_singleton.mp z];exact m)
theorem Tbs.upd{H:Hp}{l:Addr}{o:HO}{us:List V}(t:Tbs P1 P2 H)(hl:H l=some (.lst us)):Tbs P1 P2 (upd H l o) :=
 have k:KpM [l] H (L2.upd H l o):=KpM.upd List.mem_cons_self
 have nc:∀b∈[l],∀c q,H b≠some (fo c q):=λb m c q z=>by rw [List.mem_singleton.mp m,hl] at z;cases z
 ⟨i6 t.a (λz=>kB t.a hl (λ_ y=>by cases y) (List.mem_singleton.mp z).symm) nc k,i6 t.b (λz=>kB t.b hl (λ_ y=>by cases y) (List.mem_singleton.mp z).symm) nc k,t.ne⟩
def mW(X:List (List Int))(xs:List Stp):Prop:=∀x∈xs,bF (aO X) x=true
def uL(P1 P2:Addr)(CW:Wd->Addr):Sp:=λvs H Q _=>∃c rs X tp us xs hand,vs=[.ref c,.ref tp,.int hand]/\Rows H c rs X/\Tbs P1 P2 H/\Sml X/\H tp=some (.tup us)/\StsP CW H xs us/\ArS xs/\xs.length<=20/\mW X xs/\okS xs hand X /\
 ∀t H',Rows H' c rs (aX xs hand X).2->Tbs P1 P2 H'->H' t=some (.tup ((aX xs hand X).1.map V.int))->KpM (Own P1 P2 rs) H H'->Q (.ref t) H'
theorem yg(F:Fun K "hands_behind" "hands_behind" dr f fd)(B:TxB mg)(GO:GF P w K mg base CX0 6 "step_on" ["cells","step","hand"] (uJ P1 P2 CW)):FnOk P w K mg base CX0 7 f fd ["cells","steps","hand"] (uL P1 P2 CW):=by
 refine F.ok sc_hands_behind (λvs H Q E h=>?_) (λcdv A outer s H vs Q E hr h=>?_)
 ·obtain ⟨c,rs,X,tp,us,xs,hand,rfl,_⟩:=h
  rfl
 obtain ⟨c,rs,X,tp,us,xs,hand,rfl,rw0,tb,sm,htp,st,ar,hl,al,ok,q⟩:=h
 have nd:=sc_hands_behind.nd
 have pl:xs.length=us.length:=st.len
 have hz:(1000:Nat)<=sizeLine:=by decide
 refine ⟨_,af (aI (i:=3) nd rfl (Or.inl rfl) (cr ae))
  (af (cK PassesOwn.never rfl (oR (pv 1)) (aU (i:=4) nd rfl (Or.inl rfl))
   (af (aI (i:=2) nd rfl (Or.inl rfl) (ak (r:=aR K) aC (pc GO hr (aa (pv 0) (aa (pv 4) (aa (pv 2) ae)))) ag (λ_ _=>rfl)))
   (aj (bq (cS PySem.F.plainAttrs_list PySem.F.slot_list_append PySem.F.type_list_append bX (pv 3) (aa (pv 2) ae))))))
  (aj (au (bK eC rfl B.tuple PyProof.Rows.boot_tuple (aa (pv 3) ae))))),?_⟩
 refine ⟨(by show 0<=sizeLine;decide),λl nl=>?_⟩
 have s1:=ai (o:=.lst []) nl
 obtain ⟨nlo,nlc⟩:=sN tb rw0 nl
 have nlr:l∉c::rs:=λm=>(List.mem_cons.mp m).elim nlc λm=>nlo (List.mem_cons_of_mem _ (List.mem_cons_of_mem _ m))
 refine ⟨_,rfl,tp,rfl,⟨_,SqT.of (s1 _ _ htp)⟩,?_⟩
 refine mE (xs:=us) (λi σ H'=>∃y4,σ=[some (.ref c),some (.ref tp),some (.int (cw (aX (xs.take i) hand X).1 hand)),some (.ref l),y4]/\Rows H' c rs (aX (xs.take i) hand X).2/\Tbs P1 P2 H'/\H' l=some (.lst ((aX (xs.take i) hand X).1.map V.int))/\KpM (Own P1 P2 rs) H H')
  ⟨none,rfl,rw0.keep s1,tb.keep s1,ac,mC (KpM.of (Same.refl _)) nl⟩ (λi σ H' _ z=>by obtain ⟨_,_,_,_,_,k⟩:=z;exact SqT.of (dM tb rw0 k _ _ htp)) ?_ ?_
 ·rintro i u σ H' hu ⟨y4,rfl,rw1,tb1,hl1,k1⟩
  obtain ⟨x,ex,sx⟩:=st.get hu
  have sx1:=pN tb rw0 k1 sx
  have mx:=List.mem_of_getElem? ex
  have sz1:aO (aX (xs.take i) hand X).2=aO X:=iL _ _ _
  have sm1:Sml (aX (xs.take i) hand X).2:=λm hm=>sm m (by rw [← sz1];exact hm)
  have et:xs.take (i+1)=xs.take i++[x]:=by rw [List.take_add_one,ex];rfl
  have er:=jv x (xs.take i) hand X
  rw [← et] at er
  have li:=(List.getElem?_eq_some_iff.mp ex).1
  have lr:(aX (xs.take i) hand X).1.length<=20:=by rw [lY,List.length_take];omega
  refine ⟨_,rfl,_,rfl,_,rfl,c,rs,_,x,u,_,rfl,rw1,tb1,gR sm1 x,ar x mx,sx1,by rw [sz1];exact al x mx,ok i x ex,λt ch H2 rw2 tb2 ht hch k2=>?_⟩
  have hl2:=k2 _ _ nlo hl1
  refine ⟨t,_,_,_,rfl,rfl,SqT.of ht,St.at0,?_⟩
  refine ⟨_,rfl,.inl ⟨rfl,_,SqL.of hl2⟩,_,rfl,l,_,_,rfl,rfl,hl2,by rw [List.length_map];omega,?_⟩
  refine ⟨some u,?_,?_,tb2.upd hl2,?_,mC (k1.trans k2) nl⟩
  ·rw [er,gu]
   rfl
  ·rw [er]
   exact rw2.upd nlr
  ·rw [er,List.map_append]
   exact ac
 ·rintro σ H' ⟨y4,rfl,rw1,tb1,hl1,k1⟩
  rw [← pl,List.take_length] at rw1 hl1
  refine ⟨_,rfl,l,_,rfl,.inl ⟨SqL.of hl1,λt nt=>?_⟩⟩
  have s2:=ai (o:=.tup ((aX xs hand X).1.map V.int)) nt
  exact q t _ (rw1.keep s2) (tb1.keep s2) ac (k1.trans (KpM.of s2))
def pI(xs:List Stp)(st k:Nat):Prop:=st<=k/\(∀i y,st<=i->i<k->xs[i]?=some y->aP y.1 y.2=.non)/\∃x,xs[k]?=some x/\aP x.1 x.2≠.non
def wx(CW:Wd->Addr):Sp:=λvs H Q _=>∃tp us xs st k,vs=[.ref tp,.int ((st:Nat):Int)]/\H tp=some (.tup us)/\StsP CW H xs us/\ArS xs/\xs.length<=20/\pI xs st k/\Q (.int ((k:Nat):Int)) H
theorem yh(F:Fun K "first_at_house" "first_at_house" cJ f fd)(B:TxB mg)(W:TxW K CW)(GH:∀wd,GM P w K mg base CX0 1 (CW wd) "house" ["self"] (cA CW wd)):FnOk P w K mg base CX0 2 f fd ["steps","start"] (wx CW):=by
 refine F.ok sc_first_at_house (λvs H Q E h=>?_) (λcdv A outer s H vs Q E hr h=>?_)
 ·obtain ⟨tp,us,xs,st,k,rfl,_⟩:=h
  rfl
 obtain ⟨tp,us,xs,st,k,rfl,htp,sp,ar,hl,⟨le,ho,x0,ex0,hx0⟩,q⟩:=h
 have nd:=sc_first_at_house.nd
 have pl:xs.length=us.length:=sp.len
 have lk:=(List.getElem?_eq_some_iff.mp ex0).1
 refine ⟨_,af (cK PassesOwn.never rfl (kK rfl B.range (aa (pv 1) (aa (ay aD rfl B.len PySem.boot_len (aa (pv 0) ae)) ae))) (aU (i:=2) nd rfl (Or.inl rfl))
   (aj (aJ (aw uZ (ja λwd=>pm0 (GH wd) (ak (r:=aR K) aC (pv 0) (pv 2) (λ_ _=>rfl)) (W.cl wd) hr) jV (az _)) (aj (au (pv 2))) aA)))
  aH,?_⟩
 refine ⟨_,rfl,_,rfl,tp,_,rfl,.inr (SqT.of htp),_,_,rfl,⟨by omega,by omega,by omega,by omega⟩,?_⟩
 refine bZ (λi σ H'=>H'=H/\st+i<=k/\∃y2,σ=[some (.ref tp),some (.int ((st:Nat):Int)),y2]) ⟨rfl,le,none,rfl⟩ ?_ ?_
 ·rintro i σ H' hi ⟨rfl,lik,y2,rfl⟩
  have hk:st+i<us.length:=by omega
  obtain ⟨x,ex,sa,sdx,e,hsa⟩:=sp.get (List.getElem?_eq_getElem hk)
  have ei:((st:Nat):Int)+(i:Nat)=((st+i:Nat):Int):=by omega
  rw [ei]
  have f1:=gD (m:="house") (by decide +kernel) (by decide +kernel) (by decide +kernel) (by decide +kernel) (by decide +kernel) x.1 x.2
  refine ⟨x.1,_,rfl,_,rfl,tp,_,_,_,rfl,rfl,SqT.of htp,aB (by rw [List.getElem?_eq_getElem hk,e]),sa,sdx,_,rfl,hsa,f1,_,x.2,rfl,ar x (List.mem_of_getElem? ex),⟨sa,sdx,rfl,hsa⟩,rfl,_,rfl,?_⟩
  by_cases en:aP x.1 x.2=.non
  ·rw [decide_eq_true en]
   refine a8 ⟨rfl,?_,_,rfl⟩
   have:st+i≠k:=λz=>by rw [z,ex0] at ex;cases ex;exact hx0 en
   omega
  ·rw [decide_eq_false en]
   have:st+i=k:=by
    rcases Nat.lt_or_ge (st+i) k with z | z
    ·exact absurd (ho _ x (by omega) z ex) en
    ·omega
   refine cO ⟨_,rfl,?_⟩
   rw [this]
   exact q
 ·rintro σ H' ⟨rfl,lik,_⟩
  exfalso
  omega
inductive En where
 | pact (p:Pa) (xs:List Stp) (hs:List Int)
 | step (p:Pa) (xs:List Stp) (k:Nat) (cs:List (Int×Int)) (h:Int)
 | undo (p:Pa) (xs:List Stp) (k:Nat) (cs:List (Int×Int))
def En.nm:En->Pa
 | .pact p _ _=>p
 | .step p _ _ _ _=>p
 | .undo p _ _ _=>p
def En.wd:En->Str
 | .pact ..=>"pact"
 | .step ..=>"step"
 | .undo ..=>"undo"
def En.tx:En->Str
 | .pact _ xs _=>ptx (mS false) xs
 | .step _ xs _ _ _=>ptx (mS true) xs
 | .undo _ xs _ _=>ptx (mS true) xs
def EnR(H:Hp):En->List V->Prop
 | .pact _ _ hs,vs=>∃t,vs=[.ref t]/\H t=some (.tup (hs.map V.int))
 | .step _ _ k cs h,vs=>∃t,vs=[.int ((k:Nat):Int),.ref t,.int h]/\ChT H cs t
 | .undo _ _ k cs,vs=>∃t,vs=[.int ((k:Nat):Int),.ref t]/\ChT H cs t
def EnA(H:Hp)(e:En)(u:V):Prop:=∃t pa vs,u=.ref t/\H t=some (.tup (.str e.wd::.ref pa::.str e.tx::vs))/\H pa=some (.tup [.int e.nm.1,.int e.nm.2])/\EnR H e vs
theorem EnR.keep{H H':Hp}{e:En}{vs:List V}(s:bf H H')(h:EnR H e vs):EnR H' e vs:=by
 cases e with
 | pact p xs hs=>exact h.imp λt z=>⟨z.1,s _ _ z.2⟩
 | step p xs k cs h'=>exact h.imp λt z=>⟨z.1,z.2.keep s⟩
 | undo p xs k cs=>exact h.imp λt z=>⟨z.1,z.2.keep s⟩
theorem EnA.keep{H H':Hp}{e:En}{u:V}(s:bf H H')(h:EnA H e u):EnA H' e u:=by
 obtain ⟨t,pa,vs,rfl,h1,h2,h3⟩:=h
 exact ⟨t,pa,vs,rfl,s _ _ h1,s _ _ h2,h3.keep s⟩
def FitP(b:Bool)(X:List (List Int))(xs:List Stp):Prop:=ArS xs/\xs≠[]/\xs.length<=12/\yH b (aO X) xs
theorem FitP.all{b:Bool}{X:List (List Int)}{xs:List Stp}(h:FitP b X xs):mW X xs:=λx hx=>by
 obtain ⟨i,e⟩:=List.getElem?_of_mem hx
 exact h.2.2.2.1 i (List.getElem?_eq_some_iff.mp e).1 x e
def br(bs:List En):List Nat:=bs.filterMap λe=>match e with | .step _ _ k _ _=>some k | _=>none
def b7(bs:List En):Nat:=(bs.filter λe=>match e with | .undo ..=>true | _=>false).length
def left(bs:List En):List Nat:=(br bs).take ((br bs).length-b7 bs)
def vL(X:List (List Int))(bs:List En)(xs:List Stp)(k:Nat)(cs:List (Int×Int))(h:Int)(X':List (List Int))(st:Nat)(h0:Int):Prop :=
 (∀b∈bs,∃p' k' cs' h',b=.step p' xs k' cs' h')/\((bs=[]/\st=0/\h0=0)\/∃r p' k' cs',bs=r++[.step p' xs k' cs' h0]/\st=k'+1)/\pI xs st k/\okS ((xs.drop st).take (k-st)) h0 X /\
 ∃x,xs[k]?=some x/\dnS x (cw (aX ((xs.drop st).take (k-st)) h0 X).1 h0) (aX ((xs.drop st).take (k-st)) h0 X).2=(h,cs)/\X'=cp x cs (aX ((xs.drop st).take (k-st)) h0 X).2
def Fit(X:List (List Int))(bs:List En):En->List (List Int)->Prop
 | .pact _ xs hs,X'=>FitP false X xs/\bs=[]/\okS xs 0 X/\hs=(aX xs 0 X).1/\X'=(aX xs 0 X).2
 | .step _ xs k cs h,X'=>FitP true X xs/\∃st h0,vL X bs xs k cs h X' st h0
 | .undo _ xs k cs,X'=>FitP true X xs/\(∀b∈bs,(∃p' k' cs' h',b=.step p' xs k' cs' h')\/∃p' k' cs',b=.undo p' xs k' cs')/\bs≠[]/\(left bs).getLast?=some k/\(∀j∈left bs,∃x,xs[j]?=some x/\x.1≠.give)/\∃x,xs[k]?=some x/\aP x.1 x.2≠.non/\cs=bkS x X/\X'=cp x cs X
structure FiH(P1 P2 CP:Addr)(CW:Wd->Addr)(H:Hp)(c:Addr)(rs:List Addr)(X:List (List Int))(bl:Addr)(us:List V)(bs:List En)(e:En)(b:Bool)(xs:List Stp)(u v:V):Prop where
 rw:Rows H c rs X
 tb:Tbs P1 P2 H
 sm:Sml X
 fb:H bl=some (.lst us)
 fs:Paired (EnA H) bs us
 lb:bs.length<=1000
 en:EnA H e u
 pa:PaO CP CW H (mS b) xs v
 nb:bl∉c::rs
theorem FiH.keep{H H':Hp}{c bl:Addr}{rs:List Addr}{X:List (List Int)}{us:List V}{bs:List En}{e:En}{b:Bool}{xs:List Stp}{u v:V}(s:Same H H')(h:FiH P1 P2 CP CW H c rs X bl us bs e b xs u v):FiH P1 P2 CP CW H' c rs X bl us bs e b xs u v :=
 ⟨h.rw.keep s,h.tb.keep s,h.sm,s _ _ h.fb,Paired.mapP h.fs λ_ _ z=>z.keep s.ts,h.lb,h.en.keep s.ts,h.pa.keep s,h.nb⟩
def wr(P1 P2 CP:Addr)(CW:Wd->Addr):Sp:=λvs H Q _=>∃c rs X bl us bs p xs hs u v X',vs=[.ref c,.ref bl,u,v]/\FiH P1 P2 CP CW H c rs X bl us bs (.pact p xs hs) false xs u v/\Fit X bs (.pact p xs hs) X'/\∀H',Rows H' c rs X'->Tbs P1 P2 H'->KpM (Own P1 P2 rs) H H'->Q (.bl true) H'
theorem vA{H:Hp}{a b:Addr}{ns:List Int}(ha:H a=some (.tup (ns.map V.int)))(hb:H b=some (.tup (ns.map V.int))):mU K 1 H (.ref a) (.ref b) true:=by
 refine (mh (K:=K) (n:=0) (SqT.of ha) (SqT.of hb) ?_).1
 clear ha hb
 induction ns with
 | nil=>exact .nil
 | cons n r ih=>exact .cons (eq_int 0 _) ih
theorem ug{H:Hp}{a b:Addr}{cs:List (Int×Int)}(ha:ChT H cs a)(hb:ChT H cs b):mU K 2 H (.ref a) (.ref b) true/\EqIs K 2 H (.ref a) (.ref b) true:=by
 obtain ⟨us,h1,p1⟩:=ha
 obtain ⟨vs,h2,p2⟩:=hb
 refine mh (K:=K) (n:=1) (SqT.of h1) (SqT.of h2) ?_
 clear h1 h2
 induction p1 generalizing vs with
 | nil=>cases p2;exact .nil
 | cons x _ ih =>
  cases p2 with
  | cons y r2 =>
   obtain ⟨b1,rfl,e1⟩:=x
   obtain ⟨b2,rfl,e2⟩:=y
   exact .cons (mh (K:=K) (n:=0) (SqT.of e1) (SqT.of e2) (.cons (eq_int 0 _) (.cons (eq_int 0 _) .nil))).2 (ih _ r2)
theorem at3{x y z a:V}{xs:List V}:atI (x::y::z::a::xs) 3=some a:=aB (j:=3) rfl
theorem at4{x y z a b:V}{xs:List V}:atI (x::y::z::a::b::xs) 4=some b:=aB (j:=4) rfl
theorem at5{x y z a b c:V}{xs:List V}:atI (x::y::z::a::b::c::xs) 5=some c:=aB (j:=5) rfl
theorem yb(F:Fun K "is_pact_fit" "is_pact_fit" dY f fd)(T:TxP K CP)(GB:GF P w K mg base CX0 7 "hands_behind" ["cells","steps","hand"] (uL P1 P2 CW)):FnOk P w K mg base CX0 8 f fd ["cells","before","entry","pact"] (wr P1 P2 CP CW):=by
 refine F.ok jL (λvs H Q E h=>?_) (λcdv A outer s H vs Q E hr h=>?_)
 ·obtain ⟨c,rs,X,bl,us,bs,p,xs,hs,u,v,X',rfl,_⟩:=h
  rfl
 obtain ⟨c,rs,X,bl,us,bs,p,xs,hs,u,v,X',rfl,i,⟨fp,rfl,ok,rfl,rfl⟩,q⟩:=h
 refine ⟨_,aj (au (iO (cn a9 (aG (pv 3) rfl) aE (az _)) (iO (uU (pv 1)) (fX (cn (mo 1 (Nat.lt_of_succ_lt (hun (c:=1) hr))) (pc GB hr (aa (pv 0) (aa (aG (pv 3) rfl) (aa ag ae)))) (ak (r:=aR K) aC (pv 2) ag (λ_ _=>rfl)) (az _)))))),?_⟩
 obtain ⟨a,dx,sl,tp,us',rfl,pa⟩:=i.pa
 obtain ⟨t,pn,vs,rfl,h1,h2,ht,rfl,h3⟩:=i.en
 have hbl:=i.fb
 cases i.fs
 refine ⟨_,rfl,a,CP,dx,_,_,rfl,pa.ins,T.cl,T.nm,wJ _ _ _,rfl,_,rfl,cO ?_⟩
 refine ⟨_,rfl,_,.inl ⟨_,SqL.of hbl,rfl⟩,_,rfl,cO ?_⟩
 refine ⟨_,rfl,_,rfl,a,CP,dx,_,_,rfl,pa.ins,T.cl,T.np,iN _ _ _,c,rs,X,tp,us',xs,0,rfl,i.rw,i.tb,i.sm,pa.tp,pa.st,fp.1,by have:=fp.2.2.1;omega,fp.all,ok,λt' H' rw' tb' ht' k'=>?_⟩
 have ts:=dM i.tb i.rw k'
 exact ⟨_,rfl,t,_,_,_,rfl,rfl,SqT.of (ts _ _ h1),at3,vA ht' (ts _ _ h3),q H' rw' tb' k'⟩
variable {P1 P2:Addr}
theorem eg{X:Cx}{st:List Stmt}{t u:TS}(h:PSs X st t)(hw:∀D σ H,u D σ H->t D σ H):PSs X st u:=sF u h hw
def wq(P1 P2 CP:Addr)(CW:Wd->Addr):Sp:=λvs H Q _=>∃c rs X bl us bs p xs k cs h u v X',vs=[.ref c,.ref bl,u,v]/\FiH P1 P2 CP CW H c rs X bl us bs (.step p xs k cs h) true xs u v/\Fit X bs (.step p xs k cs h) X'/\∀H',Rows H' c rs X'->Tbs P1 P2 H'->KpM (Own P1 P2 rs) H H'->Q (.bl true) H'
theorem mK(xs:List V)(a b:Nat)(h1:a<=b)(h2:b<=xs.length):eB xs (some (a:Int)) (some (b:Int))=(xs.drop a).take (b-a):=by
 unfold eB
 rw [HT.dQ,HT.dQ,Nat.min_eq_left h2,Nat.min_eq_left (show a<=xs.length by omega)]
theorem gM{α β:Type}{R:α->β->Prop}:∀(a b:Nat) {xs:List α} {ys:List β},Paired R xs ys->Paired R ((xs.drop a).take b) ((ys.drop a).take b)
 | 0,0,_,_,_=>by simp;exact .nil
 | 0,b+1,_,_,.nil=>.nil
 | 0,b+1,_,_,.cons x r=>.cons x (gM 0 b r)
 | a+1,b,_,_,.nil=>by simp;exact .nil
 | a+1,b,_,_,.cons x r=>gM a b r
theorem vZ(n:Nat):(List.replicate n false).any id=false:=by
 induction n with
 | zero=>rfl
 | succ n ih=>rw [List.replicate_succ,List.any_cons,ih];rfl
theorem xY(F:Fun K "is_step_fit" "is_step_fit" cj f fd)(B:TxB mg)(T:TxP K CP)(GF':GF P w K mg base CX0 2 "first_at_house" ["steps","start"] (wx CW))(GB:GF P w K mg base CX0 7 "hands_behind" ["cells","steps","hand"] (uL P1 P2 CW))(GO:GF P w K mg base CX0 6 "step_on" ["cells","step","hand"] (uJ P1 P2 CW)) :
  FnOk P w K mg base CX0 8 f fd ["cells","before","entry","pact"] (wq P1 P2 CP CW):=by
 refine F.ok sc_is_step_fit (λvs H Q E h=>?_) (λcdv A outer s H vs Q E hr h=>?_)
 ·obtain ⟨c,rs,X,bl,us,bs,p,xs,k,cs,h,u,v,X',rfl,_⟩:=h
  rfl
 obtain ⟨c,rs,X,bl,us,bs,p,xs,k,cs,h,u,v,X',rfl,i,⟨fp,st,h0,fb,fl,fh,ok,x,ex,ed,rfl⟩,q⟩:=h
 have nd:=sc_is_step_fit.nd
 refine ⟨_, af (aJ (PW.pt (eF (aw fY (aG (pv 3) rfl) aE (az _)) (cX (bD (ay (jg rfl) rfl B.any PyProof.Rows.boot_any (aa (dR iI rfl (bL (pv 1)) (fun _ _ _ _ => bp)
       (λ_ _ _ _=>sI (cn a9 (ak (r:=aR K) aC (pv 0) ag (λ_ _=>rfl)) aE (az _)) (fX (cn fY (ak (r:=aR K) aC (pv 0) ag (λ_ _=>rfl)) (ak (r:=aR K) aC (pv 1) ag (λ_ _=>rfl)) (az _))))) ae)))))) aH aA)
  (af (aI (i:=4) nd rfl (Or.inl rfl) (jW (fW (pv 1) (λ_=>rfl)) (aF bc (ak (r:=aR K) aC (ak (r:=aN K) am (pv 1) (kL im ag) (λ_ _=>rfl)) ag (λ_ _=>rfl)) ag) ag))
  (af (aI (i:=5) nd rfl (Or.inl rfl) (jW (fW (pv 1) (λ_=>rfl)) (ak (r:=aR K) aC (ak (r:=aN K) am (pv 1) (kL im ag) (λ_ _=>rfl)) ag (λ_ _=>rfl)) ag))
  (eg (u:=λD σ H1=>Same H H1/\σ=[some (.ref c),some (.ref bl),some u,some v,some (.int ((st:Nat):Int)),some (.int h0),none]/\∀H',Q (.bl true) H'->D.rt (.bl true) H')
   (af (aJ (aw fY (ak (r:=aR K) aC (pv 2) ag (λ_ _=>rfl)) (pc GF' hr (aa (aG (pv 3) rfl) (aa (pv 4) ae))) (az _)) aH aA)
   (af (aI (i:=6) nd rfl (Or.inl rfl) (pc GB hr (aa (pv 0) (aa (bQ sg (aG (pv 3) rfl) (bu (pv 4)) (bu (ak (r:=aR K) aC (pv 2) ag (λ_ _=>rfl)))) (aa (pv 5) ae)))))
   (aj (au (cn (mo 3 (Nat.lt_of_succ_lt (hun (c:=3) hr))) (pc GO hr (aa (pv 0) (aa (ak (r:=aR K) aC (aG (pv 3) rfl) (ak (r:=aR K) aC (pv 2) ag (λ_ _=>rfl)) (λ_ _=>rfl)) (aa (jW (fW (pv 6) (λ_=>rfl)) (ak (r:=aR K) aC (pv 6) (kL im ag) (λ_ _=>rfl)) (pv 5)) ae))))
    (aK (aa (ak (r:=aR K) aC (pv 2) ag (λ_ _=>rfl)) (aa (ak (r:=aR K) aC (pv 2) ag (λ_ _=>rfl)) ae))) (az _)))))) ?s2))),?_⟩
 ·rintro D σ H1 ⟨s0,rfl,nx⟩
  have i:=i.keep s0
  obtain ⟨a,dx,sl,tp,us',rfl,pa⟩:=i.pa
  obtain ⟨t,pn,vs,rfl,h1,h2,ht,rfl,h3⟩:=i.en
  have lk:=(List.getElem?_eq_some_iff.mp ex).1
  have pl:xs.length=us'.length:=pa.st.len
  have l12:=fp.2.2.1
  have le:st<=k:=fh.1
  refine ⟨_,rfl,t,_,_,_,rfl,rfl,SqT.of h1,at3,_,rfl,a,CP,dx,_,_,rfl,pa.ins,T.cl,T.np,iN _ _ _,_,rfl,tp,us',xs,st,k,rfl,pa.tp,pa.st,fp.1,by omega,fh,rfl,_,rfl,j7 rfl ?_⟩
  refine ⟨_,rfl,_,rfl,a,CP,dx,_,_,rfl,pa.ins,T.cl,T.np,iN _ _ _,_,rfl,_,rfl,_,rfl,t,_,_,_,rfl,rfl,SqT.of h1,at3,_,rfl,tp,_,rfl,SqT.of pa.tp,?_,λsp nsp=>?_⟩
  ·rintro ⟨_,z⟩
   rw [HT.dQ] at z
   omega
  have s1:=ai (o:=.tup (eB us' (some (st:Int)) (some (k:Int)))) nsp
  have hsp:(upd H1 sp (.tup (eB us' (some (st:Int)) (some (k:Int))))) sp=some (.tup ((us'.drop st).take (k-st))):=by
   rw [← mK us' st k le (by omega)]
   exact ac
  have st1:StsP CW (upd H1 sp (.tup (eB us' (some (st:Int)) (some (k:Int))))) ((xs.drop st).take (k-st)) ((us'.drop st).take (k-st)):=Paired.mapP (gM st (k-st) pa.st) λ_ _ z=>z.keep s1
  generalize (upd H1 sp (.tup (eB us' (some (st:Int)) (some (k:Int)))))=H2 at s1 hsp st1 ⊢
  have sub:∀y∈(xs.drop st).take (k-st),y∈xs:=λy hy=>List.mem_of_mem_drop (List.mem_of_mem_take hy)
  have rw2:=i.rw.keep s1
  have tb2:=i.tb.keep s1
  refine ⟨_,rfl,c,rs,X,sp,_,(xs.drop st).take (k-st),h0,rfl,rw2,tb2,i.sm,hsp,st1,λy hy=>fp.1 y (sub y hy),?_,λy hy=>fp.all y (sub y hy),ok,λhl H3 rw3 tb3 hhl k3=>?_⟩
  ·rw [List.length_take,List.length_drop]
   omega
  generalize er:aX ((xs.drop st).take (k-st)) h0 X=r at *
  have ts3:bf H1 H3:=λb z e=>dM tb2 rw2 k3 _ _ (s1 _ _ e)
  have pa3:StO CW H3 x.1 x.2 (us'[k]'(by omega)):=by
   obtain ⟨y,ey,sy⟩:=pa.st.get (List.getElem?_eq_getElem (show k<us'.length by omega))
   rw [ex] at ey
   cases ey
   exact pN tb2 rw2 k3 (sy.keep s1)
  have ins3:H3 a=some (.ins CP dx (pf (mS true) sl tp)):=stay tb2 rw2 k3 (s1 _ _ pa.ins) True.intro
  have sz3:aO r.2=aO X:=by rw [← er];exact iL _ _ _
  refine ⟨_,rfl,_,rfl,a,CP,dx,_,_,rfl,ins3,T.cl,T.np,iN _ _ _,_,rfl,t,_,_,_,rfl,rfl,SqT.of (ts3 _ _ h1),at3,tp,_,_,_,rfl,rfl,SqT.of (ts3 _ _ pa.tp),aB (List.getElem?_eq_getElem (show k<us'.length by omega)),_,rfl,_,.inr (.inl ⟨_,SqT.of hhl,rfl⟩),?_⟩
  have hx0:aP x.1 x.2≠.non:=by
   obtain ⟨_,_,x',ex',hx'⟩:=fh
   rw [ex] at ex'
   cases ex'
   exact hx'
  have smr:Sml r.2:=λn hn=>i.sm n (by rw [← sz3];exact hn)
  have thx:bF (aO r.2) x=true:=by rw [sz3];exact fp.all x (List.mem_of_getElem? ex)
  have nkx:∀m,f6 x m:=λm z=>absurd (Ar.homeless (ns:=x.2) (.inr z)) hx0
  have ts4:∀{H4:Hp},KpM (Own P1 P2 rs) H3 H4->bf H1 H4:=λk4 b z e=>dM tb3 rw3 k4 _ _ (ts3 _ _ e)
  have rcq:∀(t' ch t2:Addr) (H4:Hp),H4 t'=some (.tup [.int h,.ref ch])->ChT H4 cs ch->KpM (Own P1 P2 rs) H3 H4->H4 t2=none->mU K 3 (upd H4 t2 (.tup [.int h,.ref ht])) (.ref t') (.ref t2) true:=λt' ch t2 H4 e1 e2 k4 n2=>by
   have s5:=ai (o:=.tup [.int h,.ref ht]) n2
   exact (mh (K:=K) (n:=2) (SqT.of (s5 _ _ e1)) (SqT.of ac) (.cons (eq_int 2 _) (.cons (ug (e2.keep s5.ts) ((h3.keep (ts4 k4)).keep s5.ts)).2 .nil))).1
  have fin:∀(t2:Addr) (H4:Hp),Rows H4 c rs (cp x cs r.2)->Tbs P1 P2 H4->KpM (Own P1 P2 rs) H3 H4->H4 t2=none->D.rt (.bl true) (upd H4 t2 (.tup [.int h,.ref ht])):=λt2 H4 rw4 tb4 k4 n2=>by
   have s5:=ai (o:=.tup [.int h,.ref ht]) n2
   exact nx _ (q _ (rw4.keep s5) (tb4.keep s5) ((KpM.of (s0.trans s1)).trans (k3.trans (k4.trans (KpM.of s5)))))
  rcases List.eq_nil_or_concat r.1 with e0 | ⟨zs,z,e0⟩
  ·rw [e0]
   refine a8 ⟨_,rfl,?_⟩
   have em:cw r.1 h0=h0:=by rw [e0];rfl
   rw [em] at ed
   refine ⟨c,rs,r.2,x,_,_,rfl,rw3,tb3,gR smr x,fp.1 x (List.mem_of_getElem? ex),pa3,thx,nkx _,λt' ch H4 rw4 tb4 ht4 hch4 k4=>?_⟩
   rw [ed] at rw4 ht4 hch4
   exact ⟨_,rfl,t,_,_,_,rfl,rfl,SqT.of (ts4 k4 _ _ h1),at5,_,rfl,t,_,_,_,rfl,rfl,SqT.of (ts4 k4 _ _ h1),at4,(by show 2<=sizeLine;decide),λt2 n2=>⟨rcq _ _ _ _ ht4 hch4 k4 n2,fin t2 H4 rw4 tb4 k4 n2⟩⟩
  ·rw [List.concat_eq_append] at e0
   rw [e0,List.map_append] at hhl ⊢
   have e1:(!(zs.map V.int++[z].map V.int).isEmpty)=true:=by simp
   rw [e1]
   refine cO ⟨_,rfl,_,rfl,hl,_,_,_,rfl,rfl,SqT.of hhl,gk _ _,?_⟩
   have em:cw r.1 h0=z:=by rw [e0,gu]
   rw [em] at ed
   refine ⟨c,rs,r.2,x,_,_,rfl,rw3,tb3,gR smr x,fp.1 x (List.mem_of_getElem? ex),pa3,thx,nkx _,λt' ch H4 rw4 tb4 ht4 hch4 k4=>?_⟩
   rw [ed] at rw4 ht4 hch4
   exact ⟨_,rfl,t,_,_,_,rfl,rfl,SqT.of (ts4 k4 _ _ h1),at5,_,rfl,t,_,_,_,rfl,rfl,SqT.of (ts4 k4 _ _ h1),at4,(by show 2<=sizeLine;decide),λt2 n2=>⟨rcq _ _ _ _ ht4 hch4 k4 n2,fin t2 H4 rw4 tb4 k4 n2⟩⟩
 obtain ⟨a,dx,sl,tp,us',rfl,pa⟩:=i.pa
 obtain ⟨t,pn,vs,rfl,h1,h2,h3⟩:=id i.en
 have hbl:=i.fb
 have pbs:=i.fs
 have lb:=i.lb
 have hz:(1000:Nat)<=sizeLine:=by decide
 have plb:bs.length=us.length:=pbs.len
 refine ⟨_,rfl,a,CP,dx,_,_,rfl,pa.ins,T.cl,T.nm,wJ _ _ _,rfl,_,rfl,j7 rfl ?_⟩
 refine ⟨_,rfl,bl,rfl,⟨_,SqL.of hbl⟩,?_⟩
 refine dq (xs:=us) (λj ys H'=>H'=H/\ys=(List.replicate j false).map V.bl) ⟨rfl,rfl⟩ (by omega) (λj ys H' _ z=>by rw [z.1];exact SqL.of hbl) ?_ ?_
 ·rintro j w' ys H' hu ⟨rfl,rfl⟩
  obtain ⟨b,eb,hb⟩:=pbs.get hu
  obtain ⟨p',k',cs',h',rfl⟩:=fb b (List.mem_of_getElem? eb)
  obtain ⟨tb',pb',vb',rfl,hb1,_,_⟩:=hb
  refine eE ⟨_,rfl,tb',_,_,_,rfl,rfl,SqT.of hb1,St.at0,rfl,_,rfl,bb (λc=>absurd (show Str.ofString "step"=Str.ofString "undo" from V.str.inj (of_decide_eq_true c)) (by decide +kernel)) (λ_=>?_)⟩
  refine ⟨_,rfl,tb',_,_,_,rfl,rfl,SqT.of hb1,St.at2,_,rfl,t,_,_,_,rfl,rfl,SqT.of h1,St.at2,rfl,?_⟩
  refine ⟨rfl,?_⟩
  rw [List.replicate_succ',List.map_append]
  have e:(!decide (V.str (En.tx (.step p' xs k' cs' h'))=V.str (En.tx (.step p xs k cs h))))=false:=by rw [decide_eq_true (show V.str (En.tx (.step p' xs k' cs' h'))=V.str (En.tx (.step p xs k cs h)) from rfl)];rfl
  rw [e]
  rfl
 ·rintro ys H' ⟨rfl,rfl⟩ ll nll
  have s1:=ai (o:=.lst ((List.replicate us.length false).map V.bl)) nll
  refine ⟨ll,List.replicate us.length false,rfl,SqL.of ac,_,rfl,?_⟩
  rw [vZ]
  have hbl1:=s1 _ _ hbl
  generalize (upd H' ll (.lst ((List.replicate us.length false).map V.bl)))=H1 at s1 hbl1 ⊢
  rcases fl with ⟨rfl,rfl,rfl⟩ | ⟨r,p',k',cs',rfl,rfl⟩
  ·cases pbs
   exact a8 ⟨_,rfl,_,.inl ⟨_,SqL.of hbl1,rfl⟩,a8 ⟨_,rfl,_,.inl ⟨_,SqL.of hbl1,rfl⟩,a8 ⟨s1,rfl,λH' z=>z⟩⟩⟩
  ·have eu:∃us0 tb' pb' vb',us=us0++[.ref tb']/\H' tb'=some (.tup (.str "step"::.ref pb'::.str (ptx (mS true) xs)::vb'))/\∃tc,vb'=[.int ((k':Nat):Int),.ref tc,.int h0]:=by
    rcases List.eq_nil_or_concat us with z | ⟨us0,u0,e⟩
    ·rw [z] at plb
     simp at plb
    ·rw [List.concat_eq_append] at e
     subst e
     have l0:r.length=us0.length:=by simpa using plb
     obtain ⟨b,eb,tb',pb',vb',rfl,g1,g2,g3⟩:=pbs.get (j:=us0.length) (u:=u0) (by simp)
     have:b=.step p' xs k' cs' h0:=by
      rw [← l0] at eb
      simpa using eb.symm
     subst this
     obtain ⟨tc,rfl,_⟩:=g3
     exact ⟨us0,tb',pb',_,rfl,g1,tc,rfl⟩
   obtain ⟨us0,tb',pb',vb',rfl,g1,tc,rfl⟩:=eu
   have g2:=s1 _ _ g1
   have e1:(!(us0++[V.ref tb']).isEmpty)=true:=by simp
   refine a8 ⟨_,rfl,_,.inl ⟨_,SqL.of hbl1,rfl⟩,?_⟩
   rw [e1]
   refine cO ⟨_,rfl,_,rfl,bl,_,_,_,rfl,rfl,SqL.of hbl1,gk _ _,tb',_,_,_,rfl,rfl,SqT.of g2,at3,_,_,rfl,rfl,_,rfl,_,.inl ⟨_,SqL.of hbl1,rfl⟩,?_⟩
   rw [e1]
   refine cO ⟨_,rfl,_,rfl,bl,_,_,_,rfl,rfl,SqL.of hbl1,gk _ _,tb',_,_,_,rfl,rfl,SqT.of g2,at5,s1,rfl,λH' z=>z⟩
variable {P1 P2:Addr}
theorem uV{X:Cx}{e:Expr}{ta:TE}{f:Str}{pos:Pos}(K:PySem.W.Frag)(he:PE X e ta)(hb:attributeBase e f X.env (eval e X.env)=eval e X.env)(hK:X.K=K:=by rfl):PE X (.Attribute e f pos) (qC K ta f):=by
 subst hK
 exact aG he hb
theorem mn(a b:List En):br (a++b)=br a++br b:=List.filterMap_append
theorem jy(a b:List En):b7 (a++b)=b7 a+b7 b:=by
 unfold b7
 rw [List.filter_append,List.length_append]
theorem oq(xs:List V)(n:Nat)(h:n<=xs.length):eB xs none (some (n:Int))=xs.take n:=by
 unfold eB
 rw [HT.dQ,HT.ny,Nat.min_eq_left h]
 simp
def wo(P1 P2 CP:Addr)(CW:Wd->Addr):Sp:=λvs H Q _=>∃c rs X bl us bs p xs k cs u v X',vs=[.ref c,.ref bl,u,v]/\FiH P1 P2 CP CW H c rs X bl us bs (.undo p xs k cs) true xs u v/\Fit X bs (.undo p xs k cs) X'/\∀H',Rows H' c rs X'->Tbs P1 P2 H'->KpM (Own P1 P2 rs) H H'->Q (.bl true) H'
theorem xX{cc:Addr}{fB:Wd->Addr}{dB:Wd->FuncData}(F:Fun K "is_undo_fit" "is_undo_fit" aQ f fd)(B:TxB mg)(T:TxP K CP)(W:TxW K CW)(hBB:BB mg base)(hcc:fd.code=.ref cc)(hCd:PySem.W.codeHdIn K cc P2=true)(HG:∀Bh:Heap,K.In Bh->∀wd,GM P w K mg Bh CX0 1 (CW wd) "house" ["self"] (cA CW wd))
  (GU:∀wd,GM P w K mg base CX0 1 (CW wd) "sure" ["self"] (jD wd))(HB:∀(wd:Wd) (val:Int->Int) (n:Nat) (Bh:Heap),n<=1000->K.In Bh->FnOk P w K mg Bh CX0 5 (fB wd) (dB wd) ["self","value_of"] (jG P w K mg CW val n wd Bh))(mB:∀wd,eL K (CW wd) "back" (fB wd))(bB:∀wd,Binds K (dB wd) ["self","value_of"] [])
  (GP:GF P w K mg base CX0 2 "put" ["cells","step","changes"] (pR CW)):FnOk P w K mg base CX0 8 f fd ["cells","before","entry","pact"] (wo P1 P2 CP CW):=by
 refine F.okC sc_is_undo_fit (λvs H Q E h=>?_) (λA0 outer s H vs Q E hr h=>?_)
 ·obtain ⟨c,rs,X,bl,us,bs,p,xs,k,cs,u,v,X',rfl,_⟩:=h
  rfl
 obtain ⟨c,rs,X,bl,us,bs,p,xs,k,cs,u,v,X',rfl,i,⟨fp,fb,nb,fl,fg,x,ex,hx0,ecs,rfl⟩,q⟩:=h
 have nd:=sc_is_undo_fit.nd
 have hr5:Room 5 _:=hr.mono (by decide)
 have ne:s.heap.objs.size+3≠s.heap.objs.size+1:=by omega
 obtain ⟨t,pn,vs,rfl,h1,h2,ht,rfl,h3⟩:=i.en
 obtain ⟨a,dx,sl,tp,us',rfl,pa⟩:=i.pa
 have lk:=(List.getElem?_eq_some_iff.mp ex).1
 have pl:xs.length=us'.length:=pa.st.len
 have lku:k<us'.length:=by omega
 obtain ⟨sa,sdx,esa,hsa⟩:∃sa sdx,us'[k]?=some (.ref sa)/\H sa=some (.ins (CW x.1) sdx (hR x.1 x.2)):=by
  obtain ⟨u,eu,sa,sdx,rfl,hsa⟩:=pa.st.get1 ex
  exact ⟨sa,sdx,eu,hsa⟩
 have arx:=fp.1 x (List.mem_of_getElem? ex)
 obtain ⟨ic,hou⟩:=gl (h:=0) arx (fp.all x (List.mem_of_getElem? ex)) (λz=>absurd (Ar.homeless (ns:=x.2) (.inr z)) hx0)
 refine ⟨_,af (aJ (PW.pt (eF (dv (fW (pv 1) (λ_=>rfl))) (cX (aw fY (ak (r:=aR K) aC (ak (r:=aN K) am (pv 1) (kL im ag) (λ_ _=>rfl)) ag (λ_ _=>rfl)) (ak (r:=aR K) aC (pv 2) ag (λ_ _=>rfl)) (az _))))) aH aA)
  (af (eI (iy:=4) iH rfl (bL (pv 1)) (λ_ _ _ _=>mj (aw a9 (ak (r:=aR K) aC (pv 0) ag (λ_ _=>rfl)) aE (az _))) (λ_ _ _ _=>ak (r:=aR K) aC (pv 0) ag (λ_ _=>rfl)) nd rfl (Or.inl rfl))
  (af (eI (iy:=5) iG rfl (bL (pv 1)) (λ_ _ _ _=>mj (aw a9 (ak (r:=aR K) aC (pv 0) ag (λ_ _=>rfl)) aE (az _))) (λ_ _ _ _=>pv 0) nd rfl (Or.inl rfl))
  (af (aI (i:=6) nd rfl (Or.inl rfl) (bQ eO (pv 4) gW (bu (aF gN (ay aD rfl B.len PySem.boot_len (aa (pv 4) ae)) (ay aD rfl B.len PySem.boot_len (aa (pv 5) ae))))))
  (eg (u:=λD σ H1=>∃z4 z5 ll,Same H H1/\σ=[some (.ref c),some (.ref bl),some (.ref t),some (.ref a),z4,z5,some (.ref ll),none,none]/\H1 ll=some (.lst ((left bs).map λj=>V.int ((j:Nat):Int)))/\∀H',Q (.bl true) H'->D.rt (.bl true) H')
   (af (aJ (PW.pt (eF (dv (fW (pv 6) (λ_=>rfl))) (eF (aw fY (ak (r:=aN K) am (pv 6) (kL im ag) (λ_ _=>rfl)) (ak (r:=aR K) aC (pv 2) ag (λ_ _=>rfl)) (az _))
     (cX (bD (ay (jg rfl) rfl B.any PyProof.Rows.boot_any (aa (dR iF rfl (bL (pv 6)) (λ_ _ _ _=>bp) (λ_ _ _ _=>ja λwd=>pm0 (GU wd) (ak (r:=aR K) aC (uV K (pv 1) rfl) (pv 0) (λ_ _=>rfl)) (W.cl wd) hr)) ae))))))) aH aA)
   (af (aI (i:=7) nd rfl (Or.inr rfl) (ak (r:=aR K) aC (aG (pv 3) rfl) (ak (r:=aR K) aC (pv 2) ag (λ_ _=>rfl)) (λ_ _=>rfl)))
   (af (aI (i:=8) nd rfl (Or.inl rfl) (nJ (cs:=[(s.heap.objs.size+3,.ref sa),(s.heap.objs.size+1,.ref c)]) (sp:=λBh=>jG P w K mg CW (vl (aY x X)) (aY x X).length x.1 Bh) (pv 7) (W.cl x.1) (mB x.1)
    (λBh kin=>HB x.1 (vl (aY x X)) (aY x X).length Bh (gR i.sm x) kin) hr5 (bB x.1) bE (aa (p8 (P:=P2) (cl:=[("step",s.heap.objs.size+3),("cells",s.heap.objs.size+1)]) hcc hCd hBB rfl rfl rfl) ae)))
   (af (bq (pc GP hr (aa (pv 0) (aa (pv 7) (aa (pv 8) ae)))))
   (aj (au (cn (mo 2 (Nat.lt_of_succ_lt (hun (c:=2) hr))) (pv 8) (ak (r:=aR K) aC (pv 2) ag (λ_ _=>rfl)) (az _))))))))
   ?s2)))),?_⟩
 ·rintro D σ H1 ⟨z4,z5,ll,s1,rfl,hll,nx⟩
  have i1:=i.keep s1
  have pa1:=pa.keep s1
  have h11:=s1 _ _ h1
  obtain ⟨r2,e2⟩:=List.getLast?_eq_some_iff.mp fl
  have hll':=hll
  rw [e2,List.map_append] at hll'
  have l2:(left bs).length<=1000:=by
   have h0:(br bs).length<=bs.length:=List.length_filterMap_le _ _
   have:=i.lb
   unfold left
   rw [List.length_take]
   omega
  have hz:(1000:Nat)<=sizeLine:=by decide
  refine ⟨_,rfl,true,.inl ⟨_,SqL.of hll,by rw [e2];simp⟩,a8 ?_⟩
  refine ⟨_,rfl,_,rfl,ll,_,_,_,rfl,rfl,SqL.of hll',gk _ _,_,rfl,t,_,_,_,rfl,rfl,SqT.of h11,at3,rfl,_,rfl,j7 rfl ?_⟩
  refine ⟨_,rfl,ll,rfl,⟨_,SqL.of hll⟩,?_⟩
  refine dq (xs:=(left bs).map λj=>V.int ((j:Nat):Int)) (λj ys H'=>H'=H1/\ys=(List.replicate j false).map V.bl) ⟨rfl,rfl⟩ (by rw [List.length_map];omega) (λj ys H' _ z=>by rw [z.1];exact SqL.of hll) ?_ ?_
  ·rintro j w' ys H' hu ⟨rfl,rfl⟩
   rw [List.getElem?_map] at hu
   obtain ⟨n,en,rfl⟩:=Option.map_eq_some_iff.mp hu
   obtain ⟨y,ey,hg⟩:=fg n (List.mem_of_getElem? en)
   obtain ⟨uy,eu,ya,ydx,rfl,hya⟩:=pa1.st.get1 ey
   refine eE ⟨y.1,_,rfl,a,CP,dx,_,_,rfl,pa1.ins,T.cl,T.np,iN _ _ _,_,rfl,tp,_,_,_,rfl,rfl,SqT.of pa1.tp,aB eu,ya,ydx,_,rfl,hya,gD (by decide +kernel) (by decide +kernel) (by decide +kernel) (by decide +kernel) (by decide +kernel) y.1 y.2,_,rfl,rfl,?_⟩
   rw [List.replicate_succ',List.map_append,decide_eq_false hg]
   rfl
  rintro ys H' ⟨rfl,rfl⟩ l3 nl3
  refine ⟨l3,List.replicate _ false,rfl,SqL.of ac,_,rfl,?_⟩
  rw [vZ]
  have s2:=ai (o:=.lst ((List.replicate ((left bs).map λj=>V.int ((j:Nat):Int)).length false).map V.bl)) nl3
  generalize (upd H' l3 (.lst ((List.replicate ((left bs).map λj=>V.int ((j:Nat):Int)).length false).map V.bl)))=H2 at s2 ⊢
  have i2:=i1.keep s2
  have pa2:=pa1.keep s2
  have h12:=s2 _ _ h11
  have hsa2:=s2 _ _ (s1 _ _ hsa)
  refine a8 ⟨_,rfl,a,CP,dx,_,_,rfl,pa2.ins,T.cl,T.np,iN _ _ _,_,rfl,t,_,_,_,rfl,rfl,SqT.of h12,at3,tp,_,_,_,rfl,rfl,SqT.of pa2.tp,aB esa,?_⟩
  have hf:(hR x.1 x.2).lookup ("back":Str)=none:=gD (by decide +kernel) (by decide +kernel) (by decide +kernel) (by decide +kernel) (by decide +kernel) x.1 x.2
  refine ⟨ur 7 0 "step" "cells" ⟨rfl,rfl,rfl,rfl,rfl⟩ ⟨rfl,rfl,rfl,rfl,rfl⟩,_,rfl,sa,sdx,_,rfl,hsa2,hf,i2.tb.b,λfv c3 H3 k3 hP3 hc3 hf0 hfv hcc3 Bh kin pb=>?_⟩
  obtain ⟨rw3,km3⟩:=tY i2.tb i2.rw (.inr rfl) k3
  have tb3:Tbs P1 P2 H3:=by
   obtain ⟨y,e1⟩:=cg i2.tb.b
   exact ⟨i6 (S:=[P2]) i2.tb.a (λz=>i2.tb.ne (List.mem_singleton.mp z)) (λb m c q z=>by rw [List.mem_singleton.mp m,e1] at z;cases z) (λb o n e=>k3 b o (λz=>n (by rw [z];exact List.mem_cons_self)) e),.inr ⟨c3,hP3,hcc3⟩,i2.tb.ne⟩
  have ha3:=stay i2.tb i2.rw km3 hsa2 True.intro
  have ct:CloT P w K mg Bh 4 fv (gz (vl (aY x X)) (aY x X).length) H3:=qX ne pb hfv hcc3 W (HG Bh kin) rw3 arx ha3 hou
  refine ⟨.ref sa,x.2,fv,rfl,arx,ic,⟨sa,sdx,rfl,ha3⟩,ct,λch H4 s4 hch=>?_⟩
  obtain ⟨l1,inr⟩:=yC (val:=vl (aY x X)) arx ic
  have rw4:=rw3.keep s4
  have tb4:=tb3.keep s4
  refine ⟨_,rfl,_,rfl,_,rfl,c,rs,X,x,_,ch,_,rfl,rw4,arx,⟨sa,sdx,rfl,s4 _ _ ha3⟩,hch,l1,inr,hou,λH5 rw5 k5=>?_⟩
  have k45:KpM (Own P1 P2 rs) H4 H5:=k5.sub λb m=>List.mem_cons_of_mem _ (List.mem_cons_of_mem _ m)
  have ts5:=dM tb4 rw4 k45
  have ts2:=dM i2.tb i2.rw km3
  have h15:=ts5 _ _ (s4 _ _ (ts2 _ _ h12))
  have e5:bk (vl (aY x X)) x.1 x.2=cs:=ecs.symm
  rw [e5] at hch rw5
  have h35:ChT H5 cs ht:=((((h3.keep s1.ts).keep s2.ts).keep ts2).keep s4.ts).keep ts5
  exact ⟨_,rfl,_,rfl,t,_,_,_,rfl,rfl,SqT.of h15,at4,(ug (hch.keep ts5) h35).1,nx _ (q H5 rw5 (tb4.rows rw4 k5) ((KpM.of (s1.trans s2)).trans (km3.trans ((KpM.of s4).trans k45))))⟩
 have hbl:=i.fb
 have pbs:=i.fs
 have lb:=i.lb
 have hz:(1000:Nat)<=sizeLine:=by decide
 have plb:bs.length=us.length:=pbs.len
 have eu:∃us0 tb' pb' vb',us=us0++[.ref tb']/\∃ww,H tb'=some (.tup (.str ww::.ref pb'::.str (ptx (mS true) xs)::vb')):=by
  rcases List.eq_nil_or_concat bs with z | ⟨r,b0,e0⟩
  ·exact absurd z nb
  rw [List.concat_eq_append] at e0
  rcases List.eq_nil_or_concat us with z | ⟨us0,u0,e⟩
  ·rw [z,e0] at plb
   simp at plb
  ·rw [List.concat_eq_append] at e
   subst e e0
   have l0:r.length=us0.length:=by simpa using plb
   obtain ⟨b,eb,tb',pb',vb',rfl,g1,g2,g3⟩:=pbs.get (j:=us0.length) (u:=u0) (by simp)
   rcases fb b (List.mem_of_getElem? eb) with ⟨p',k',cs',h',rfl⟩ | ⟨p',k',cs',rfl⟩
   ·exact ⟨us0,tb',pb',_,rfl,_,g1⟩
   ·exact ⟨us0,tb',pb',_,rfl,_,g1⟩
 obtain ⟨us0,tb',pb',vb',eus,ww,g1⟩:=eu
 have hbl':=hbl
 rw [eus] at hbl'
 refine ⟨_,rfl,true,.inl ⟨_,SqL.of hbl,by rw [eus];simp⟩,a8 ?_⟩
 refine ⟨_,rfl,_,rfl,bl,_,_,_,rfl,rfl,SqL.of hbl',gk _ _,tb',_,_,_,rfl,rfl,SqT.of g1,St.at2,_,rfl,t,_,_,_,rfl,rfl,SqT.of h1,St.at2,rfl,_,rfl,j7 rfl ?_⟩
 refine ⟨_,rfl,bl,rfl,⟨_,SqL.of hbl⟩,?_⟩
 have cut1:∀{j:Nat} {b:En},bs[j]?=some b->bs.take (j+1)=bs.take j++[b]:=λe=>by rw [List.take_add_one,e];rfl
 refine dq (xs:=us) (λj ys H'=>H'=H/\ys=(br (bs.take j)).map λn=>V.int ((n:Nat):Int)) ⟨rfl,rfl⟩ (by omega) (λj ys H' _ z=>by rw [z.1];exact SqL.of hbl) ?_ ?_
 ·rintro j w' ys H' hu ⟨rfl,rfl⟩
  obtain ⟨b,eb,tb2,pb2,vb2,rfl,g1',g2',g3'⟩:=pbs.get hu
  rw [cut1 eb,mn]
  rcases fb b (List.mem_of_getElem? eb) with ⟨p',k',cs',h',rfl⟩ | ⟨p',k',cs',rfl⟩
  ·obtain ⟨tc,rfl,_⟩:=g3'
   refine ⟨_,rfl,tb2,_,_,_,rfl,rfl,SqT.of g1',St.at0,rfl,_,rfl,bb (λ_=>?_) (λc=>absurd (decide_eq_true rfl) c)⟩
   refine ⟨_,rfl,tb2,_,_,_,rfl,rfl,SqT.of g1',at3,rfl,?_⟩
   rw [List.map_append]
   rfl
  ·refine ⟨_,rfl,tb2,_,_,_,rfl,rfl,SqT.of g1',St.at0,rfl,_,rfl,bb (λc=>absurd (show Str.ofString "undo"=Str.ofString "step" from V.str.inj (of_decide_eq_true c)) (by decide +kernel)) (λ_=>⟨rfl,?_⟩)⟩
   have:br [En.undo p' xs k' cs']=[]:=rfl
   rw [this,List.append_nil]
 have et:bs.take us.length=bs:=by rw [← plb];exact List.take_length
 rintro ys H' ⟨rfl,rfl⟩ sl' nsl
 rw [et]
 have s1:=ai (o:=.lst ((br bs).map λn=>V.int ((n:Nat):Int))) nsl
 have hs1:(upd H' sl' (.lst ((br bs).map λn=>V.int ((n:Nat):Int)))) sl'=_:=ac
 generalize (upd H' sl' (.lst ((br bs).map λn=>V.int ((n:Nat):Int))))=H1 at s1 hs1 ⊢
 refine ⟨_,rfl,bl,rfl,⟨_,SqL.of (s1 _ _ hbl)⟩,?_⟩
 refine dq (xs:=us) (λj ys H'=>H'=H1/\ys.length=b7 (bs.take j)) ⟨rfl,rfl⟩ (by omega) (λj ys H' _ z=>by rw [z.1];exact SqL.of (s1 _ _ hbl)) ?_ ?_
 ·rintro j w' ys H' hu ⟨rfl,ly⟩
  obtain ⟨b,eb,tb2,pb2,vb2,rfl,g1',g2',g3'⟩:=pbs.get hu
  have g1':=s1 _ _ g1'
  rw [cut1 eb,jy,← ly]
  rcases fb b (List.mem_of_getElem? eb) with ⟨p',k',cs',h',rfl⟩ | ⟨p',k',cs',rfl⟩
  ·exact ⟨_,rfl,tb2,_,_,_,rfl,rfl,SqT.of g1',St.at0,rfl,_,rfl,bb (λc=>absurd (show Str.ofString "step"=Str.ofString "undo" from V.str.inj (of_decide_eq_true c)) (by decide +kernel)) (λ_=>⟨rfl,rfl⟩)⟩
  ·refine ⟨_,rfl,tb2,_,_,_,rfl,rfl,SqT.of g1',St.at0,rfl,_,rfl,bb (λ_=>⟨_,rfl,rfl,?_⟩) (λc=>absurd (decide_eq_true rfl) c)⟩
   rw [List.length_append]
   rfl
 rintro ys H' ⟨rfl,ly⟩ ul nul
 rw [et] at ly
 have s2:=ai (o:=.lst ys) nul
 have hs2:=s2 _ _ hs1
 have hu2:(upd H' ul (.lst ys)) ul=some (.lst ys):=ac
 generalize (upd H' ul (.lst ys))=H2 at s2 hs2 hu2 ⊢
 refine ⟨_,rfl,_,rfl,sl',_,rfl,.inl (SqL.of hs2),_,rfl,ul,_,rfl,.inl (SqL.of hu2),_,_,rfl,rfl,_,rfl,sl',_,rfl,SqL.of hs2,λll nll=>?_⟩
 have lt:b7 bs<(br bs).length:=by
  have:left bs≠[]:=λz=>by rw [z] at fl;cases fl
  unfold left at this
  rcases Nat.lt_or_ge (b7 bs) (br bs).length with z | z
  ·exact z
  ·rw [Nat.sub_eq_zero_of_le z] at this
   exact absurd (List.take_zero) this
 have ee:((((br bs).map λn=>V.int ((n:Nat):Int)).length:Nat):Int)-((ys.length:Nat):Int)=(((br bs).length-b7 bs:Nat):Int):=by rw [List.length_map,ly];omega
 rw [ee,oq _ _ (by rw [List.length_map];omega)]
 have s3:=ai (o:=.lst (((br bs).map λn=>V.int ((n:Nat):Int)).take ((br bs).length-b7 bs))) nll
 refine ⟨_,_,ll,s1.trans (s2.trans s3),rfl,?_,λH' z=>z⟩
 rw [ac]
 unfold left
 rw [List.map_take]
variable {P1 P2:Addr}
theorem none_of{H H':Hp}{a:Addr}(s:Same H H')(n:H' a=none):H a=none:=by
 cases e:H a with
 | none=>rfl
 | some o=>rw [s _ _ e] at n;cases n
def wG(K:PySem.W.Frag):List V->Hp->VK->Prop:=λxs H Q=>∃p ys,xs=[.ref p]/\(SqL K H p ys\/SqT K H p ys)/\Q (.int ((ys.length:Nat):Int)) H
def uQ(K:PySem.W.Frag):List V->Hp->VK->Prop:=λxs H Q=>∃p ys,xs=[.ref p]/\(SqL K H p ys\/SqT K H p ys)/\∀l,H l=none->Q (.ref l) (upd H l (.lst ys))
theorem qd{bl:L2.St}{Fin:List V->Hp->Prop}{H:Hp}{c:Addr}{rs:List Addr}{X:List (List Int)}(r:Rows H c rs X)(hX:X.length<=1000)(hd:Fin ((aO X).map V.int) H) :
  ∃(W:Nat->List V->Hp->Prop) (n:Nat),W 0 [] H/\n<=sizeLine/\∀i ys H,W i ys H->((Itl K c).stop i H/\Fin ys H) \/
   ((Itl K c).go i H/\i<n/\∀x H',(Itl K c).yld i H x H'->qD (some x::bl) H' λc H2=>if c=true then tCB (wG K) (kC (kn 0) ng) (some x::bl) H2 λy H3=>W (i+1) (ys++[y]) H3 else W (i+1) ys H2):=by
 have hz:(1000:Nat)<=sizeLine:=by decide
 have pl:X.length=rs.length:=r.r.len
 refine dq (xs:=rs.map V.ref) (λi ys H'=>H'=H/\ys=(aO (X.take i)).map V.int) ⟨rfl,rfl⟩ (by rw [List.length_map];omega) (λi ys H' _ z=>by rw [z.1];exact SqL.of r.l) ?_ ?_
 ·rintro i u ys H' hu ⟨rfl,rfl⟩
  rw [List.getElem?_map] at hu
  obtain ⟨a,ea,rfl⟩:=Option.map_eq_some_iff.mp hu
  obtain ⟨xs,ex,hx⟩:=r.r.get ea
  refine eE ⟨_,rfl,a,_,rfl,.inl (SqL.of hx),rfl,?_⟩
  have et:X.take (i+1)=X.take i++[xs]:=by rw [List.take_add_one,ex];rfl
  rw [et,List.length_map]
  unfold aO
  rw [List.map_append,List.map_append]
  rfl
 ·rintro ys H' ⟨rfl,rfl⟩
  rw [List.length_map,← pl,List.take_length]
  exact hd
theorem mw{bl:L2.St}{Fin:List V->Hp->Prop}{H:Hp}{c:Addr}{rs:List Addr}{X:List (List Int)}(r:Rows H c rs X)(hX:X.length<=1000)(hd:∀rs' H',Same H H'->(∀a∈rs',H a=none)->rs'.Nodup->Paired (λ(xs:List Int) a=>H' a=some (.lst (xs.map V.int))) X rs'->Fin (rs'.map V.ref) H') :
  ∃(W:Nat->List V->Hp->Prop) (n:Nat),W 0 [] H/\n<=sizeLine/\∀i ys H,W i ys H->((Itl K c).stop i H/\Fin ys H) \/
   ((Itl K c).go i H/\i<n/\∀x H',(Itl K c).yld i H x H'->qD (some x::bl) H' λc H2=>if c=true then tCB (uQ K) (kC (kn 0) ng) (some x::bl) H2 λy H3=>W (i+1) (ys++[y]) H3 else W (i+1) ys H2):=by
 have hz:(1000:Nat)<=sizeLine:=by decide
 have pl:X.length=rs.length:=r.r.len
 refine dq (xs:=rs.map V.ref) (λi ys H'=>∃rs',ys=rs'.map V.ref/\Same H H'/\(∀a∈rs',H a=none)/\rs'.Nodup/\(∀a∈rs',H' a≠none)/\Paired (λ(xs:List Int) a=>H' a=some (.lst (xs.map V.int))) (X.take i) rs') ⟨[],rfl,Same.refl _,(λa m=>by cases m),List.nodup_nil,(λa m=>by cases m),.nil⟩ (by rw [List.length_map];omega) (λi ys H' _ z=>by obtain ⟨_,_,s,_⟩:=z;exact SqL.of (s _ _ r.l)) ?_ ?_
 ·rintro i u ys H' hu ⟨rs',rfl,s1,n1,nd1,al1,p1⟩
  rw [List.getElem?_map] at hu
  obtain ⟨a,ea,rfl⟩:=Option.map_eq_some_iff.mp hu
  obtain ⟨xs,ex,hx⟩:=r.r.get ea
  refine eE ⟨_,rfl,a,_,rfl,.inl (SqL.of (s1 _ _ hx)),λl nl=>?_⟩
  have s2:=ai (o:=.lst (xs.map V.int)) nl
  have et:X.take (i+1)=X.take i++[xs]:=by rw [List.take_add_one,ex];rfl
  refine ⟨rs'++[l],by rw [List.map_append];rfl,s1.trans s2,λb m=>?_,?_,λb m=>?_,?_⟩
  ·rcases List.mem_append.mp m with m | m
   ·exact n1 b m
   ·rw [List.mem_singleton.mp m]
    exact none_of s1 nl
  ·rw [List.nodup_append]
   refine ⟨nd1,by simp,λb m b' m' z=>?_⟩
   rw [z,List.mem_singleton.mp m'] at m
   exact al1 l m nl
  ·rcases List.mem_append.mp m with m | m
   ·cases e:H' b with
    | none=>exact absurd e (al1 b m)
    | some o=>rw [s2 _ _ e];exact λz=>by cases z
   ·rw [List.mem_singleton.mp m,ac]
    exact λz=>by cases z
  ·rw [et]
   exact (Paired.mapP p1 λ_ _ z=>s2 _ _ z).app (.cons ac .nil)
 ·rintro ys H' ⟨rs',rfl,s1,n1,nd1,al1,p1⟩
  rw [List.length_map,← pl,List.take_length] at p1
  exact hd rs' H' s1 n1 nd1 p1
structure FiI(P1 P2:Addr)(H:Hp)(c:Addr)(rs:List Addr)(X:List (List Int))(bl:Addr)(us:List V)(bs:List En)(e:En)(u:V):Prop where
 rw:Rows H c rs X
 tb:Tbs P1 P2 H
 sm:Sml X
 lx:X.length<=1000
 fb:H bl=some (.lst us)
 fs:Paired (EnA H) bs us
 lb:bs.length<=1000
 en:EnA H e u
 nb:bl∉c::rs
def wv(P1 P2:Addr):Sp:=λvs H Q _=>∃c rs X bl us bs e u X',vs=[.ref c,.ref bl,u]/\FiI P1 P2 H c rs X bl us bs e u/\Fit X bs e X'/\∀H',Rows H' c rs X'->Tbs P1 P2 H'->KpM (Own P1 P2 rs) H H'->Q (.bl true) H'
def En.b:En->Bool
 | .pact ..=>false
 | _=>true
def En.xs:En->List Stp
 | .pact _ xs _=>xs
 | .step _ xs _ _ _=>xs
 | .undo _ xs _ _=>xs
theorem Fit.fp{X X':List (List Int)}{bs:List En}{e:En}(h:Fit X bs e X'):FitP e.b X e.xs:=by
 cases e<;>exact h.1
theorem En.txE(e:En):e.tx=ptx (mS e.b) e.xs:=by cases e<;>rfl
theorem yf(F:Fun K "is_fit" "is_fit" fO f fd)(B:TxB mg)(T:TxP K CP)(GR:GF P w K mg base CX0 8 "read_pact" ["text"] (lE CP CW))(GL:GF P w K mg base CX0 5 "look" ["pact","sizes"] (r8 CP CW))(G1:GF P w K mg base CX0 8 "is_pact_fit" ["cells","before","entry","pact"] (wr P1 P2 CP CW))(G2:GF P w K mg base CX0 8 "is_step_fit" ["cells","before","entry","pact"] (wq P1 P2 CP CW))(G3:GF P w K mg base CX0 8 "is_undo_fit" ["cells","before","entry","pact"] (wo P1 P2 CP CW)) :
  FnOk P w K mg base CX0 9 f fd ["cells","before","entry"] (wv P1 P2):=by
 refine F.ok sc_is_fit (λvs H Q E h=>?_) (λcdv A outer s H vs Q E hr h=>?_)
 ·obtain ⟨c,rs,X,bl,us,bs,e,u,X',rfl,_⟩:=h
  rfl
 obtain ⟨c,rs,X,bl,us,bs,e,u,X',rfl,i,ft,q⟩:=h
 have nd:=sc_is_fit.nd
 refine ⟨_,aj (pX (af (aI (i:=3) nd rfl (Or.inl rfl) (pc GR hr (aa (ak (r:=aR K) aC (pv 2) ag (λ_ _=>rfl)) ae)))
  (af (bq (pc GL hr (aa (pv 3) (aa (dR nv rfl (bL (pv 0)) (λ_ _ _ _=>bp) (λ_ _ _ _=>ay (r:=wG K) aD rfl B.len PySem.boot_len (aa (pv 0) ae))) ae))))
  (af (aJ (aw a9 (ak (r:=aR K) aC (pv 2) ag (λ_ _=>rfl)) aE (az _)) (aj (au (pc G1 hr (aa (pv 0) (aa (pv 1) (aa (pv 2) (aa (pv 3) ae))))))) aA)
  (af (aJ (aw a9 (ak (r:=aR K) aC (pv 2) ag (λ_ _=>rfl)) aE (az _)) (aj (au (pc G2 hr (aa (pv 0) (aa (pv 1) (aa (pv 2) (aa (pv 3) ae))))))) aA)
  (aj (au (pc G3 hr (aa (pv 0) (aa (pv 1) (aa (pv 2) (aa (pv 3) ae)))))))))))),?_⟩
 obtain ⟨t,pn,vs,rfl,h1,h2,h3⟩:=i.en
 have fp:=ft.fp
 have h1':=h1
 rw [e.txE] at h1'
 refine ⟨_,rfl,t,_,_,_,rfl,rfl,SqT.of h1',St.at2,e.b,e.xs,rfl,fp.1,fp.2.1,fp.2.2.1,λa dx sl tp us' H1 s1 _ pa=>?_⟩
 have rw1:=i.rw.keep s1
 refine ⟨_,rfl,_,rfl,c,rfl,⟨_,SqL.of rw1.l⟩,?_⟩
 refine qd rw1 i.lx (λl nl=>?_)
 have s2:=ai (o:=.lst ((aO X).map V.int)) nl
 refine ⟨_,l,e.b,e.xs,aO X,rfl,⟨a,dx,sl,tp,us',rfl,pa.keep s2⟩,fp.1,by have:=fp.2.2.1;omega,ac,fp.2.2.2,λH3 s3=>?_⟩
 have s13:=s1.trans (s2.trans s3)
 have pa3:PaO CP CW H3 (mS e.b) e.xs (.ref a):=⟨a,dx,sl,tp,us',rfl,pa.keep (s2.trans s3)⟩
 have h13:=s13 _ _ h1
 have i3:∀(b:Bool) (xs:List Stp),PaO CP CW H3 (mS b) xs (.ref a)->FiH P1 P2 CP CW H3 c rs X bl us bs e b xs (.ref t) (.ref a):=λb xs z=>⟨i.rw.keep s13,i.tb.keep s13,i.sm,s13 _ _ i.fb,Paired.mapP i.fs λ_ _ z=>z.keep s13.ts,i.lb,i.en.keep s13.ts,z,i.nb⟩
 have q3:∀H',Rows H' c rs X'->Tbs P1 P2 H'->KpM (Own P1 P2 rs) H3 H'->Q (.bl true) H':=λH' a b k=>q H' a b ((KpM.of s13).trans k)
 cases e with
 | pact p xs hs =>
  refine ⟨_,rfl,t,_,_,_,rfl,rfl,SqT.of h13,St.at0,rfl,_,rfl,bb (λ_=>?_) (λc=>absurd (decide_eq_true rfl) c)⟩
  exact ⟨_,rfl,_,rfl,_,rfl,_,rfl,c,rs,X,bl,us,bs,p,xs,hs,_,_,X',rfl,i3 false xs pa3,ft,q3⟩
 | step p xs k cs h =>
  refine ⟨_,rfl,t,_,_,_,rfl,rfl,SqT.of h13,St.at0,rfl,_,rfl,bb (λc=>absurd (show Str.ofString "step"=Str.ofString "pact" from V.str.inj (of_decide_eq_true c)) (by decide +kernel)) (λ_=>?_)⟩
  refine ⟨_,rfl,t,_,_,_,rfl,rfl,SqT.of h13,St.at0,rfl,_,rfl,bb (λ_=>?_) (λc=>absurd (decide_eq_true rfl) c)⟩
  exact ⟨_,rfl,_,rfl,_,rfl,_,rfl,c,rs,X,bl,us,bs,p,xs,k,cs,h,_,_,X',rfl,i3 true xs pa3,ft,q3⟩
 | undo p xs k cs =>
  refine ⟨_,rfl,t,_,_,_,rfl,rfl,SqT.of h13,St.at0,rfl,_,rfl,bb (λc=>absurd (show Str.ofString "undo"=Str.ofString "pact" from V.str.inj (of_decide_eq_true c)) (by decide +kernel)) (λ_=>?_)⟩
  refine ⟨_,rfl,t,_,_,_,rfl,rfl,SqT.of h13,St.at0,rfl,_,rfl,bb (λc=>absurd (show Str.ofString "undo"=Str.ofString "step" from V.str.inj (of_decide_eq_true c)) (by decide +kernel)) (λ_=>?_)⟩
  exact ⟨_,rfl,_,rfl,_,rfl,_,rfl,c,rs,X,bl,us,bs,p,xs,k,cs,_,_,X',rfl,i3 true xs pa3,ft,q3⟩
variable {P1 P2:Addr}
theorem uf{X X':List (List Int)}{bs:List En}{e:En}(h:Fit X bs e X'):aO X'=aO X:=by
 cases e with
 | pact p xs hs =>
  obtain ⟨_,_,_,_,rfl⟩:=h
  exact iL _ _ _
 | step p xs k cs hh =>
  obtain ⟨_,_,_,_,_,_,_,x,_,_,rfl⟩:=h
  rw [oB,iL]
 | undo p xs k cs =>
  obtain ⟨_,_,_,_,_,x,_,_,_,rfl⟩:=h
  exact oB _ _ _
def nmF(p:Pa)(es:List En):List En:=es.filter λe=>decide (e.nm=p)
def Run:List En->List En->List (List Int)->List (List Int)->Prop
 | _,[],X,Y=>X=Y
 | pre,e::r,X,Y=>∃Z,Fit X (nmF e.nm pre) e Z/\Run (pre++[e]) r Z Y
theorem Run.app{e:En}{Y Z:List (List Int)}:∀{es pre:List En} {X:List (List Int)},Run pre es X Y->Fit Y (nmF e.nm (pre++es)) e Z->Run pre (es++[e]) X Z
 | [],pre,X,h,f=>by
  have h:X=Y:=h
  subst h
  rw [List.append_nil] at f
  exact ⟨Z,f,rfl⟩
 | a::r,pre,X,⟨W,h1,h2⟩,f=>⟨W,h1,Run.app h2 (by rw [List.append_assoc];exact f)⟩
theorem Run.sz{Y:List (List Int)}:∀{es pre:List En} {X:List (List Int)},Run pre es X Y->aO Y=aO X
 | [],_,X,h=>by
  have h:X=Y:=h
  rw [h]
 | a::r,pre,X,⟨W,h1,h2⟩=>(Run.sz h2).trans (uf h1)
structure PlI(P1 P2:Addr)(H0 H:Hp)(c ah:Addr)(rs:List Addr)(X:List (List Int))(es:List En)(av:List (Pa×Addr)):Prop where
 rw:Rows H c rs X
 tb:Tbs P1 P2 H
 ad:H ah=some (.dT (av.map λx=>(pk x.1,V.ref x.2)))
 ls:∀x∈av,∃us,H x.2=some (.lst us)/\Paired (EnA H) (nmF x.1 es) us
 no:∀e∈es,e.nm∈av.map (·.1)
 na:(av.map (·.1)).Nodup
 ns:(av.map (·.2)).Nodup
 f1:H0 ah=none
 f2:∀a∈c::rs,H0 a=none
 f3:∀x∈av,H0 x.2=none
 dj:∀x∈av,x.2∉c::rs
 kp:KpM [P1,P2] H0 H
 la:av.length<=es.length+1
theorem mt(p:Pa)(es:List En)(e:En):nmF p (es++[e])=nmF p es++(if e.nm=p then [e] else []):=by
 unfold nmF
 rw [List.filter_append]
 congr 1
 by_cases z:e.nm=p
 ·rw [List.filter_cons,decide_eq_true z,if_pos z]
  rfl
 ·rw [List.filter_cons,decide_eq_false z,if_neg z]
  rfl
theorem tT{p:Pa}{es:List En}{ps:List Pa}(h:∀e∈es,e.nm∈ps)(n:p∉ps):nmF p es=[]:=by
 unfold nmF
 refine List.filter_eq_nil_iff.mpr λe he z=>?_
 exact n ((of_decide_eq_true z)▸h e he)
theorem wH{p q:Pa}(h:pk p=pk q):p=q:=by
 have e1:(Sum.inl p.1:Key)=Sum.inl q.1/\(Sum.inl p.2:Key)=Sum.inl q.2:=by
  unfold pk at h
  simp only [List.cons.injEq,and_true] at h
  exact h
 exact Prod.ext (Sum.inl.inj e1.1) (Sum.inl.inj e1.2)
theorem rE:∀{av:List (Pa×Addr)} {p:Pa} {v:V},gF (av.map λx=>(pk x.1,V.ref x.2)) (pk p)=some v->∃a,v=.ref a/\(p,a)∈av
 | [],_,_,h=>by cases h
 | x::r,p,v,h=>by
  unfold gF at h
  rw [List.map_cons,List.find?_cons] at h
  by_cases z:pk x.1=pk p
  ·rw [decide_eq_true z] at h
   cases h
   refine ⟨x.2,rfl,?_⟩
   rw [← wH z]
   exact List.mem_cons_self
  ·rw [decide_eq_false z] at h
   obtain ⟨a,e,m⟩:=rE (av:=r) h
   exact ⟨a,e,List.mem_cons_of_mem _ m⟩
theorem i5:∀{av:List (Pa×Addr)} {p:Pa},gF (av.map λx=>(pk x.1,V.ref x.2)) (pk p)=none->p∉av.map (·.1)
 | [],_,_,m=>by cases m
 | x::r,p,h,m=>by
  unfold gF at h
  rw [List.map_cons,List.find?_cons] at h
  by_cases z:pk x.1=pk p
  ·rw [decide_eq_true z] at h
   cases h
  ·rw [decide_eq_false z] at h
   rcases List.mem_cons.mp m with e | m
   ·exact z (by rw [e])
   ·exact i5 (av:=r) h m
section
variable {H0 H H':Hp}{c ah:Addr}{rs:List Addr}{X X':List (List Int)}{es:List En}{av:List (Pa×Addr)}
theorem PlI.keep(h:PlI P1 P2 H0 H c ah rs X es av)(s:Same H H'):PlI P1 P2 H0 H' c ah rs X es av :=
 ⟨h.rw.keep s,h.tb.keep s,s _ _ h.ad,λx m=>by obtain ⟨us,e,p⟩:=h.ls x m;exact ⟨us,s _ _ e,Paired.mapP p λ_ _ z=>z.keep s.ts⟩,h.no,h.na,h.ns,h.f1,h.f2,h.f3,h.dj,h.kp.trans (KpM.of s),h.la⟩
theorem PlI.new(h:PlI P1 P2 H0 H c ah rs X es av){p:Pa}{z:Addr}(nz:p∉av.map (·.1))(hz:H z=none)(le:av.length<=es.length):PlI P1 P2 H0 (upd (upd H z (.lst [])) ah (.dT (av.map (λx=>(pk x.1,V.ref x.2))++[(pk p,V.ref z)]))) c ah rs X es (av++[(p,z)]):=by
 have s1:=ai (o:=.lst []) hz
 have h1:=h.keep s1
 have nza:z≠ah:=λe=>by rw [e,h.ad] at hz;cases hz
 have nah:ah∉c::rs:=λm=>by
  rcases List.mem_cons.mp m with e | m
  ·have:=h.ad
   rw [e,h.rw.l] at this
   cases this
  ·obtain ⟨xs,e⟩:=h.rw.at m
   rw [h.ad] at e
   cases e
 have kz:KpM [ah] (upd H z (.lst [])) (upd (upd H z (.lst [])) ah (.dT (av.map (λx=>(pk x.1,V.ref x.2))++[(pk p,V.ref z)]))):=KpM.upd List.mem_cons_self
 have ts:bf (upd H z (.lst [])) (upd (upd H z (.lst [])) ah (.dT (av.map (λx=>(pk x.1,V.ref x.2))++[(pk p,V.ref z)]))):=λb xs e=>kz b _ (λm=>by rw [List.mem_singleton.mp m,h1.ad] at e;cases e) e
 have hz1:(upd (upd H z (.lst [])) ah (.dT (av.map (λx=>(pk x.1,V.ref x.2))++[(pk p,V.ref z)]))) z=some (.lst []):=kz _ _ (λm=>nza (List.mem_singleton.mp m)) ac
 have nzr:z∉c::rs:=λm=>by
  rcases List.mem_cons.mp m with e | m
  ·rw [e,h.rw.l] at hz;cases hz
  ·obtain ⟨xs,e⟩:=h.rw.at m
   rw [e] at hz;cases hz
 refine ⟨h1.rw.fr kz λb m z=>nah (by rw [← List.mem_singleton.mp z];exact m),⟨i6 h1.tb.a (λm=>?_) (λb m c q z=>?_) kz,i6 h1.tb.b (λm=>?_) (λb m c q z=>?_) kz,h.tb.ne⟩,?_,λx m=>?_,λe m=>?_,?_,?_,h.f1,h.f2,λx m=>?_,λx m=>?_,?_,?_⟩
 ·obtain ⟨y,e⟩:=cg h1.tb.a
  rw [List.mem_singleton.mp m,h1.ad] at e
  cases e
 ·rw [List.mem_singleton.mp m,h1.ad] at z
  cases z
 ·obtain ⟨y,e⟩:=cg h1.tb.b
  rw [List.mem_singleton.mp m,h1.ad] at e
  cases e
 ·rw [List.mem_singleton.mp m,h1.ad] at z
  cases z
 ·rw [ac,List.map_append]
  rfl
 ·rcases List.mem_append.mp m with m | m
  ·obtain ⟨us,e,pp⟩:=h1.ls x m
   exact ⟨us,kz _ _ (λz=>by rw [List.mem_singleton.mp z,h1.ad] at e;cases e) e,Paired.mapP pp λ_ _ z=>z.keep ts⟩
  ·cases List.mem_singleton.mp m
   refine ⟨[],hz1,?_⟩
   show Paired _ (nmF p es) []
   rw [tT h.no nz]
   exact .nil
 ·rw [List.map_append]
  exact List.mem_append_left _ (h.no e m)
 ·rw [List.map_append,List.nodup_append]
  refine ⟨h.na,by simp,λa ma b mb e=>?_⟩
  rw [List.map_singleton] at mb
  rw [e,List.mem_singleton.mp mb] at ma
  exact nz ma
 ·rw [List.map_append,List.nodup_append]
  refine ⟨h.ns,by simp,λa ma b mb e=>?_⟩
  rw [List.map_singleton] at mb
  rw [e,List.mem_singleton.mp mb] at ma
  obtain ⟨x,mx,ex⟩:=List.mem_map.mp ma
  obtain ⟨us,e2,_⟩:=h.ls x mx
  have ex:x.2=z:=ex
  rw [ex,hz] at e2
  cases e2
 ·rcases List.mem_append.mp m with m | m
  ·exact h.f3 x m
  ·cases List.mem_singleton.mp m
   show H0 z=none
   cases e:H0 z with
   | none=>rfl
   | some o =>
    have:=h.kp z o (λm=>?_) e
    ·rw [hz] at this;cases this
    ·rcases List.mem_cons.mp m with y | m
     ·obtain ⟨w',e'⟩:=cg h.tb.a
      rw [y,e'] at hz;cases hz
     ·obtain ⟨w',e'⟩:=cg h.tb.b
      rw [List.mem_singleton.mp m,e'] at hz;cases hz
 ·rcases List.mem_append.mp m with m | m
  ·exact h.dj x m
  ·cases List.mem_singleton.mp m
   exact nzr
 ·exact λb o n e=>kz b o (λm=>by rw [List.mem_singleton.mp m,h.f1] at e;cases e) (h1.kp b o n e)
 ·rw [List.length_append]
  exact Nat.succ_le_succ le
theorem oW{α β:Type}(f:α->β):∀{l:List α},(l.map f).Nodup->∀{x y:α},x∈l->y∈l->f x=f y->x=y
 | [],_,_,_,m,_,_=>by cases m
 | a::r,nd,x,y,mx,my,e=>by
  rw [List.map_cons] at nd
  obtain ⟨n1,n2⟩:=List.nodup_cons.mp nd
  rcases List.mem_cons.mp mx with e1 | m1
  ·rcases List.mem_cons.mp my with e2 | m2
   ·rw [e1,e2]
   ·exact absurd (List.mem_map.mpr ⟨y,m2,by rw [← e1];exact e.symm⟩) n1
  ·rcases List.mem_cons.mp my with e2 | m2
   ·exact absurd (List.mem_map.mpr ⟨x,m1,by rw [← e2];exact e⟩) n1
   ·exact oW f n2 m1 m2 e
theorem PlI.app(h:PlI P1 P2 H0 H c ah rs X es av){e:En}{a:Addr}{us:List V}{u:V}(m:(e.nm,a)∈av)(ha:H a=some (.lst us))(pa:Paired (EnA H) (nmF e.nm es) us)(k:KpM (Own P1 P2 rs) H H')(rw':Rows H' c rs X')(tb':Tbs P1 P2 H')(en:EnA H e u):PlI P1 P2 H0 (upd H' a (.lst (us++[u]))) c ah rs X' (es++[e]) av:=by
 have ts1:=dM h.tb h.rw k
 have out:∀{b:Addr} {vs:List V},H b=some (.lst vs)->b∉c::rs->b∉Own P1 P2 rs:=λ{b vs} e n z=>by
  rcases List.mem_cons.mp z with y | z
  ·obtain ⟨w',e'⟩:=cg h.tb.a
   rw [y,e'] at e;cases e
  rcases List.mem_cons.mp z with y | z
  ·obtain ⟨w',e'⟩:=cg h.tb.b
   rw [y,e'] at e;cases e
  ·exact n (List.mem_cons_of_mem _ z)
 have ha':H' a=some (.lst us):=k _ _ (out ha (h.dj _ m)) ha
 have ka:KpM [a] H' (upd H' a (.lst (us++[u]))):=KpM.upd List.mem_cons_self
 have ts2:bf H' (upd H' a (.lst (us++[u]))):=λb xs e=>ka b _ (λm=>by rw [List.mem_singleton.mp m,ha'] at e;cases e) e
 have ts:bf H (upd H' a (.lst (us++[u]))):=λb xs e=>ts2 _ _ (ts1 _ _ e)
 have nd2:∀x∈av,x.2=a->x=(e.nm,a):=λx mx ex=>oW _ h.ns mx m ex
 have nd1:∀x∈av,x.1=e.nm->x=(e.nm,a):=λx mx ex=>oW _ h.na mx m ex
 have nar:=h.dj _ m
 refine ⟨rw'.upd nar,tb'.upd ha',?_,λx mx=>?_,λe' m'=>?_,h.na,h.ns,h.f1,h.f2,h.f3,h.dj,λb o n e1=>?_,?_⟩
 ·have:=stay h.tb h.rw k h.ad True.intro
  exact ka _ _ (λz=>by rw [List.mem_singleton.mp z,ha'] at this;cases this) this
 ·obtain ⟨vs,e1,p1⟩:=h.ls x mx
  rw [mt]
  by_cases z:e.nm=x.1
  ·have ex:=nd1 x mx z.symm
   subst ex
   rw [if_pos z]
   refine ⟨us++[u],ac,(Paired.mapP pa λ_ _ y=>y.keep ts).app (.cons (en.keep ts) .nil)⟩
  ·rw [if_neg z,List.append_nil]
   have nx:x.2≠a:=λy=>z (by rw [nd2 x mx y])
   exact ⟨vs,ka _ _ (λy=>nx (List.mem_singleton.mp y)) (k _ _ (out e1 (h.dj x mx)) e1),Paired.mapP p1 λ_ _ y=>y.keep ts⟩
 ·rcases List.mem_append.mp m' with y | y
  ·exact h.no e' y
  ·rw [List.mem_singleton.mp y]
   exact List.mem_map.mpr ⟨_,m,rfl⟩
 ·refine ka b o (λz=>?_) (k b o (λz=>?_) (h.kp b o n e1))
  ·rw [List.mem_singleton.mp z,show H0 a=none from h.f3 _ m] at e1
   cases e1
  ·rcases List.mem_cons.mp z with y | z
   ·exact n (by rw [y];exact List.mem_cons_self)
   rcases List.mem_cons.mp z with y | z
   ·exact n (by rw [y];exact List.mem_cons_of_mem _ List.mem_cons_self)
   ·rw [h.f2 b (List.mem_cons_of_mem _ z)] at e1
    cases e1
 ·rw [List.length_append]
  exact Nat.le_succ_of_le h.la
end
def jE(P1 P2:Addr):Sp:=λvs H Q _=>∃c0 rs0 X Y el us es,vs=[.ref c0,.ref el]/\Rows H c0 rs0 X/\Tbs P1 P2 H/\Sml X/\X.length<=1000/\H el=some (.lst us)/\Paired (EnA H) es us/\es.length<=900/\Run [] es X Y /\
 ∀c rs H',Rows H' c rs Y->Tbs P1 P2 H'->(∀a∈c::rs,H a=none)->KpM [P1,P2] H H'->Q (.ref c) H'
theorem qP(F:Fun K "played" "played" fL f fd)(B:TxB mg)(GI:GF P w K mg base CX0 9 "is_fit" ["cells","before","entry"] (wv P1 P2)):FnOk P w K mg base CX0 10 f fd ["cells","entries"] (jE P1 P2):=by
 refine F.ok sc_played (λvs H Q E h=>?_) (λcdv A outer s H vs Q E hr h=>?_)
 ·obtain ⟨c0,rs0,X,Y,el,us,es,rfl,_⟩:=h
  rfl
 obtain ⟨c0,rs0,X,Y,el,us,es,rfl,rw0,tb,sm,lx,hel,pes,le,run,q⟩:=h
 have nd:=sc_played.nd
 have hz:(1000:Nat)<=sizeLine:=by decide
 have plb:es.length=us.length:=pes.len
 refine ⟨_,af (eI (iy:=2) nu rfl (bL (pv 0)) (λ_ _ _ _=>bp) (λ_ _ _ _=>bK (r:=uQ K) cH rfl B.list PyProof.Rows.boot_list (aa (pv 0) ae)) nd rfl (Or.inl rfl))
  (af (aI (i:=3) nd rfl (Or.inl rfl) sJ)
  (af (cK PassesOwn.never rfl (bo rfl B.range (aa (ay aD rfl B.len PySem.boot_len (aa (pv 1) ae)) ae)) (aU (i:=4) nd rfl (Or.inl rfl))
   (af (aI (i:=5) nd rfl (Or.inl rfl) (ak (r:=aN K) am (pv 1) (pv 4) (λ_ _=>rfl)))
   (af (aI (i:=6) nd rfl (Or.inl rfl) (uW (xn hr) (pv 3) (ak (r:=aR K) aC (pv 5) ag (λ_ _=>rfl)) (cr ae) ⟨rfl,rfl,rfl,rfl⟩))
   (af (aJ (dv (bD (pc GI hr (aa (pv 2) (aa (pv 6) (aa (pv 5) ae)))))) aH aA)
   (aj (bq (cS PySem.F.plainAttrs_list PySem.F.slot_list_append PySem.F.type_list_append bX (pv 6) (aa (pv 5) ae))))))))
  (aj (au (pv 2))))),?_⟩
 refine ⟨_,rfl,c0,rfl,⟨_,SqL.of rw0.l⟩,?_⟩
 refine mw rw0 lx λrs H1 s1 f1 ndr pr c nc=>?_
 have s2:=ai (o:=.lst (rs.map V.ref)) nc
 have rw2:Rows (upd H1 c (.lst (rs.map V.ref))) c rs X:=⟨ac,Paired.mapP pr λ_ _ z=>s2 _ _ z,ndr⟩
 have f2:∀a∈c::rs,H a=none:=λa m=>(List.mem_cons.mp m).elim (λe=>by rw [e];exact none_of s1 nc) (f1 a)
 have s02:=s1.trans s2
 generalize (upd H1 c (.lst (rs.map V.ref)))=H2 at s2 rw2 s02 ⊢
 refine λah nah=>?_
 have s3:=ai (o:=.dT []) nah
 have p0:PlI P1 P2 H (upd H2 ah (.dT [])) c ah rs X [] []:=⟨rw2.keep s3,(tb.keep s02).keep s3,ac,(λx m=>by cases m),(λe m=>by cases m),List.nodup_nil,List.nodup_nil,none_of s02 nah,f2,(λx m=>by cases m),(λx m=>by cases m),KpM.of (s02.trans s3),Nat.zero_le _⟩
 generalize (upd H2 ah (.dT []))=H3 at p0 ⊢
 have nel:∀{H'},KpM [P1,P2] H H'->H' el=some (.lst us):=λk=>k _ _ (λm=>by
  rcases List.mem_cons.mp m with y | m
  ·obtain ⟨w',e'⟩:=cg tb.a
   rw [y,e'] at hel;cases hel
  ·obtain ⟨w',e'⟩:=cg tb.b
   rw [List.mem_singleton.mp m,e'] at hel;cases hel) hel
 have tsk:∀{H'},KpM [P1,P2] H H'->bf H H':=λk b xs e=>k _ _ (λm=>by
  rcases List.mem_cons.mp m with y | m
  ·obtain ⟨w',e'⟩:=cg tb.a
   rw [y,e'] at e;cases e
  ·obtain ⟨w',e'⟩:=cg tb.b
   rw [List.mem_singleton.mp m,e'] at e;cases e) e
 refine ⟨_,rfl,el,_,rfl,.inl (SqL.of (nel p0.kp)),_,rfl,by omega,by omega,?_⟩
 refine bZ (n:=us.length) (λi σ H'=>∃y4 y5 y6 Z av,σ=[some (.ref c0),some (.ref el),some (.ref c),some (.ref ah),y4,y5,y6]/\PlI P1 P2 H H' c ah rs Z (es.take i) av/\av.length<=(es.take i).length/\Run (es.take i) (es.drop i) Z Y/\aO Z=aO X) ⟨none,none,none,X,[],rfl,p0,Nat.le_refl _,run,rfl⟩ ?_ ?_
 ·rintro i σ H' hi ⟨y4,y5,y6,Z,av,rfl,p,la,rn,sz⟩
  have ei:(0:Int)+(i:Nat)=((i:Nat):Int):=Int.zero_add _
  rw [ei]
  obtain ⟨e,ee,en0⟩:=pes.get (List.getElem?_eq_getElem hi)
  obtain ⟨t,pn,vs,et,h1,h2,h3⟩:=id en0
  have h1':=tsk p.kp _ _ h1
  have h2':=tsk p.kp _ _ h2
  have et1:es.take (i+1)=es.take i++[e]:=by rw [List.take_add_one,ee];rfl
  have ed:es.drop i=e::es.drop (i+1):=by
   have:=List.drop_eq_getElem_cons (l:=es) (i:=i) (by omega)
   rw [this]
   rw [List.getElem?_eq_getElem (by omega)] at ee
   rw [Option.some.inj ee]
  rw [ed] at rn
  obtain ⟨Z',ft,rn'⟩:=rn
  have li:(es.take i).length<=900:=by rw [List.length_take];omega
  refine ⟨_,rfl,_,rfl,el,_,_,_,rfl,rfl,SqL.of (nel p.kp),aB (by rw [List.getElem?_eq_getElem hi,et]),?_⟩
  refine ⟨_,rfl,ah,rfl,.inr ⟨_,.inl p.ad⟩,_,rfl,t,_,_,_,rfl,rfl,SqT.of h1',St.at1,(by show 0<=sizeLine;decide),λz nz=>?_⟩
  have s4:=ai (o:=.lst []) nz
  have p4:=p.keep s4
  have go:∀(a:Addr) (av':List (Pa×Addr)) (H5:Hp),PlI P1 P2 H H5 c ah rs Z (es.take i) av'->(e.nm,a)∈av'->av'.length<=(es.take i).length+1->∃us':List V,H5 a=some (.lst us')/\Paired (EnA H5) (nmF e.nm (es.take i)) us'/\FiI P1 P2 H5 c rs Z a us' (nmF e.nm (es.take i)) e (.ref t)/\∀H6,Rows H6 c rs Z'->Tbs P1 P2 H6->KpM (Own P1 P2 rs) H5 H6->H6 a=some (.lst us')/\us'.length<sizeLine/\PlI P1 P2 H (upd H6 a (.lst (us'++[.ref t]))) c ah rs Z' (es.take (i+1)) av':=λa av' H5 p5 m5 l5=>by
   obtain ⟨us',ha,pa⟩:=p5.ls _ m5
   have l6:(nmF e.nm (es.take i)).length<=(es.take i).length:=List.length_filter_le _ _
   have en5:EnA H5 e (.ref t):=by rw [← et];exact en0.keep (tsk p5.kp)
   have l7:=pa.len
   have l7:(nmF e.nm (es.take i)).length=us'.length:=l7
   refine ⟨us',ha,pa,⟨p5.rw,p5.tb,λn hn=>sm n (by rw [← sz];exact hn),?_,ha,pa,by omega,en5,p5.dj _ m5⟩,λH6 rw6 tb6 k6=>⟨?_,by omega,by rw [et1];exact p5.app m5 ha pa k6 rw6 tb6 en5⟩⟩
   ·have:=congrArg List.length sz
    unfold aO at this
    rw [List.length_map,List.length_map] at this
    omega
   ·exact k6 _ _ (λzz=>by
     rcases List.mem_cons.mp zz with y | zz
     ·obtain ⟨w',e'⟩:=cg p5.tb.a
      rw [y,e'] at ha;cases ha
     rcases List.mem_cons.mp zz with y | zz
     ·obtain ⟨w',e'⟩:=cg p5.tb.b
      rw [y,e'] at ha;cases ha
     ·exact p5.dj _ m5 (List.mem_cons_of_mem _ zz)) ha
  have sz':aO Z'=aO X:=(uf ft).trans sz
  refine ⟨_,pk e.nm,pn,s4 _ _ p.ad,rfl,s4 _ _ h2',?_,λv ev=>?_,λev=>?_⟩
  ·rw [List.length_map]
   omega
  ·obtain ⟨a,rfl,m⟩:=rE ev
   obtain ⟨us',ha,pa,fi,nx⟩:=go a av _ p4 m (by omega)
   refine ⟨_,rfl,_,rfl,_,rfl,c,rs,Z,a,us',_,e,_,Z',rfl,by rw [et] at *;exact fi,ft,λH6 rw6 tb6 k6=>⟨_,rfl,a8 ?_⟩⟩
   obtain ⟨h6,l6,p6⟩:=nx H6 rw6 tb6 k6
   refine ⟨_,rfl,.inl ⟨rfl,_,SqL.of h6⟩,_,rfl,a,_,_,rfl,rfl,h6,l6,?_⟩
   rw [et] at *
   exact ⟨_,_,_,Z',av,rfl,p6,by rw [et1,List.length_append];omega,by rw [et1];exact rn',sz'⟩
  ·have nz':=i5 ev
   have p5:=p.new nz' nz la
   obtain ⟨us',ha,pa,fi,nx⟩:=go z _ _ p5 (List.mem_append_right _ List.mem_cons_self) (by rw [List.length_append];exact Nat.succ_le_succ la)
   refine ⟨_,rfl,_,rfl,_,rfl,c,rs,Z,z,us',_,e,_,Z',rfl,by rw [et] at *;exact fi,ft,λH6 rw6 tb6 k6=>⟨_,rfl,a8 ?_⟩⟩
   obtain ⟨h6,l6,p6⟩:=nx H6 rw6 tb6 k6
   refine ⟨_,rfl,.inl ⟨rfl,_,SqL.of h6⟩,_,rfl,z,_,_,rfl,rfl,h6,l6,?_⟩
   rw [et] at *
   exact ⟨_,_,_,Z',_,rfl,p6,by rw [et1,List.length_append,List.length_append];exact Nat.succ_le_succ la,by rw [et1];exact rn',sz'⟩
 ·rintro σ H' ⟨y4,y5,y6,Z,av,rfl,p,la,rn,sz⟩
  rw [← plb,List.drop_length] at rn
  have rn:Z=Y:=rn
  subst rn
  exact ⟨_,rfl,q c rs H' p.rw p.tb p.f2 p.kp⟩
theorem vo(F:Fun K "_law_cell" "_law_cell" fV f fd)(B:TxB mg):FnOk P w K mg base CX0 1 f fd ["_law_script","_law_k"] (lI K):=by
 refine F.ok lO (λvs H Q E h=>?_) (λcdv A outer s H vs Q E hr h=>?_)
 ·obtain ⟨a,ns,k,rfl,_⟩:=h
  rfl
 obtain ⟨a,ns,k,rfl,hS,q⟩:=h
 refine ⟨_,af (aJ (aw gA (pv 1) (ay aD rfl B.len PySem.boot_len (aa (pv 0) ae)) (az _)) (aj (au (ak am (pv 0) (pv 1) (λ_ _=>rfl)))) aA)
  (aj (au ag)),?_⟩
 refine ⟨_,rfl,_,rfl,a,_,rfl,.inl hS,_,_,rfl,rfl,_,rfl,?_⟩
 refine bb (λc=>?_) (λc=>?_)
 ·have c':(k:Int)<(((ns.map V.int).length:Nat):Int):=of_decide_eq_true c
  rw [List.length_map] at c'
  have hk:k<ns.length:=by omega
  have q1:atI (ns.map V.int) ((k:Nat):Int)=some (.int ns[k]):=aB (by rw [List.getElem?_map,List.getElem?_eq_getElem hk]<;>rfl)
  have e:cG ns k=ns[k]:=by unfold cG;rw [List.getElem?_eq_getElem hk];rfl
  rw [e] at q
  exact ⟨_,rfl,_,rfl,a,_,_,_,rfl,rfl,hS,q1,q⟩
 ·have c':¬(k:Int)<(((ns.map V.int).length:Nat):Int):=λz=>c (decide_eq_true z)
  rw [List.length_map] at c'
  have e:cG ns k=0:=by unfold cG;rw [List.getElem?_eq_none (by omega)];rfl
  rw [e] at q
  exact q
theorem tq(F:Fun K "_law_mixed" "_law_mixed" eR f fd):FnOk P w K mg base CX0 1 f fd ["_law_cell_here","_law_k"] lF:=by
 refine F.ok sc__law_mixed (λvs H Q E h=>?_) (λcdv A outer s H vs Q E hr h=>?_)
 ·obtain ⟨c,k,rfl,_⟩:=h
  rfl
 obtain ⟨c,k,rfl,q⟩:=h
 have nd:=sc__law_mixed.nd
 refine ⟨_,af (aI (i:=2) nd rfl (Or.inl rfl) (aF bn (aF eo (aF bc (aF bc (pv 0) (aF eo ag (pv 1))) ag) ag) ag))
  (aj (au (aF bn (aF eo (pv 2) (aF bc (aF g7 (pv 2) ag) ag)) ag))),?_⟩
 refine ⟨_,rfl,_,rfl,_,_,rfl,rfl,.inl ⟨by decide +kernel,by decide +kernel⟩,_,_,rfl,rfl,_,_,rfl,rfl,_,_,rfl,rfl,.inr ⟨by decide +kernel,by decide +kernel⟩,_,_,rfl,rfl,(by show (0:Int)<2147483647;decide),?_⟩
 have h0:0<=(c+7919*k+1)*48271%2147483647:=Int.emod_nonneg _ (by decide)
 have h1:(c+7919*k+1)*48271%2147483647<2147483647:=Int.emod_lt_of_pos _ (by decide)
 exact ⟨_,rfl,_,rfl,_,_,rfl,rfl,⟨by decide,by decide⟩,_,_,rfl,rfl,_,_,rfl,rfl,.inl ⟨by omega,by omega⟩,_,_,rfl,rfl,(by show (0:Int)<2147483647;decide),q _ (Int.emod_nonneg _ (by decide)) (Int.emod_lt_of_pos _ (by decide))⟩
def InS(x:Int):Prop:=0<=x/\x<2147483647
def pP:Sp:=λvs H Q _=>∃c n,vs=[.int c,.int ((n:Nat):Int)]/\n<=1000/\∀l ns H',Same H H'->H l=none->H' l=some (.lst ((ns:List Int).map V.int))->ns.length=n->(∀x∈ns,InS x)->Q (.ref l) H'
theorem qO(F:Fun K "_law_stream" "_law_stream" ck f fd)(B:TxB mg)(GX:GF P w K mg base CX0 1 "_law_mixed" ["_law_cell_here","_law_k"] lF):FnOk P w K mg base CX0 2 f fd ["_law_cell_here","_law_many"] pP:=by
 refine F.ok jM (λvs H Q E h=>?_) (λcdv A outer s H vs Q E hr h=>?_)
 ·obtain ⟨c,n,rfl,_⟩:=h
  rfl
 obtain ⟨c,n,rfl,hn,q⟩:=h
 have hz:(1000:Nat)<=sizeLine:=by decide
 refine ⟨_,aj (au (dR iJ rfl (bo rfl B.range (aa (pv 1) ae)) (λ_ _ _ _=>bp) (λ_ _ _ _=>pc GX hr (aa (pv 1) (aa (pv 0) ae))))),?_⟩
 refine ⟨_,rfl,_,rfl,by omega,by omega,?_⟩
 rw [Int.toNat_natCast]
 refine gi (n:=n) (λi ys H'=>H'=H/\∃ns:List Int,ys=ns.map V.int/\ns.length=i/\∀x∈ns,InS x) ⟨rfl,[],rfl,rfl,λx m=>by cases m⟩ (by omega) ?_ ?_
 ·rintro i ys H' hi ⟨rfl,ns,rfl,ln,hin⟩
  refine eE ⟨_,rfl,_,rfl,c,i,rfl,λr r0 r1=>⟨rfl,ns++[r],by rw [List.map_append];rfl,by rw [List.length_append,ln];rfl,λx m=>?_⟩⟩
  rcases List.mem_append.mp m with m | m
  ·exact hin x m
  ·rw [List.mem_singleton.mp m]
   exact ⟨r0,r1⟩
 ·rintro ys H' ⟨rfl,ns,rfl,ln,hin⟩ l nl
  exact q l ns _ (ai nl) nl ac ln hin
def pV:Sp:=λvs H Q _=>∃a b,vs=[.int a,.int b]/\InS a/\InS b/\∀r,inV r->Q (.int r) H
theorem qR(F:Fun K "_law_amount" "_law_amount" d0 f fd):FnOk P w K mg base CX0 1 f fd ["_law_one","_law_other"] pV:=by
 refine F.ok jN (λvs H Q E h=>?_) (λcdv A outer s H vs Q E hr h=>?_)
 ·obtain ⟨a,b,rfl,_⟩:=h
  rfl
 obtain ⟨a,b,rfl,ha,hb,q⟩:=h
 have b36:(10:Int) ^ (36:Int).toNat=1000000000000000000000000000000000000:=by decide +kernel
 have b35:(10:Int) ^ (35:Int).toNat=100000000000000000000000000000000000:=by decide +kernel
 have b40:(10:Nat) ^ 40=10000000000000000000000000000000000000000:=by decide +kernel
 unfold InS at ha hb
 refine ⟨_,af (aJ (aw a9 (aF bn (pv 0) ag) ag (az _)) (aj (au (aF gN (aF bn (pv 1) ag) ag))) aA)
  (aj (au (aF gN (aF bn (aF eo (aF eo (aF eo (pv 0) (pv 0)) (pv 0)) (pv 1)) (aF oT ag ag)) (aF oT ag ag)))),?_⟩
 refine ⟨_,rfl,_,_,rfl,rfl,(by show (0:Int)<2;decide),rfl,_,rfl,bb (λ_=>?_) (λ_=>?_)⟩
 ·refine ⟨_,rfl,_,_,rfl,rfl,(by show (0:Int)<21;decide),_,_,rfl,rfl,q _ ?_⟩
  have e0:=Int.emod_nonneg b (show (21:Int)≠0 by decide)
  have e1:=Int.emod_lt_of_pos b (show (0:Int)<21 by decide)
  unfold St.inV
  rw [b40]
  omega
 ·refine ⟨_,rfl,_,rfl,_,_,rfl,rfl,.inl ⟨by omega,by omega⟩,_,rfl,_,_,rfl,rfl,.inr ⟨by omega,by omega⟩,_,rfl,_,_,rfl,rfl,.inr ⟨by omega,by omega⟩,_,_,rfl,rfl,⟨by decide,by decide,by decide⟩,_,_,rfl,rfl,(by show (0:Int)<10 ^ (36:Int).toNat;rw [b36];decide),_,_,rfl,rfl,⟨by decide,by decide,by decide⟩,_,_,rfl,rfl,q _ ?_⟩
  rw [b36,b35]
  generalize a*a*a*b=z
  have e0:=Int.emod_nonneg z (show (1000000000000000000000000000000000000:Int)≠0 by decide)
  have e1:=Int.emod_lt_of_pos z (show (0:Int)<1000000000000000000000000000000000000 by decide)
  unfold St.inV
  rw [b40]
  omega
def wu:Sp:=λvs H Q _=>∃xl q ns sz,vs=[.ref xl,.ref q]/\H xl=some (.lst ((ns:List Int).map V.int))/\ns.length=6/\(∀x∈ns,InS x)/\Sz H q sz/\rC sz/\∀(x:Stp) v H',Ar x.1 x.2->bF sz x=true->Same H H'->tSt H' x.1 x.2 v->Q v H'
theorem six{ns:List Int}(h:ns.length=6):∃a b c d e g,ns=[a,b,c,d,e,g]:=by
 match ns,h with
 | [a,b,c,d,e,g],_=>exact ⟨a,b,c,d,e,g,rfl⟩
theorem jH{x m:Int}(h0:0<=x)(h1:x<m)(h8:m<=8):inN x:=by
 refine ⟨h0,?_⟩
 have:(8:Int)<=10 ^ 40:=by decide +kernel
 omega
theorem wU(F:Fun K "_law_step" "_law_step" fR f fd)(B:TxB mg)(hmin:mg "min"=none)(GA:GF P w K mg base CX0 1 "_law_amount" ["_law_one","_law_other"] pV):FnOk P w K mg base CX0 2 f fd ["_law_xs","_law_sizes"] wu:=by
 refine F.ok sc__law_step (λvs H Q E h=>?_) (λcdv A outer s H vs Q E hr h=>?_)
 ·obtain ⟨xl,q,ns,sz,rfl,_⟩:=h
  rfl
 obtain ⟨xl,q0,ns,sz,rfl,hxl,l6,hin,hq,⟨z1,z5,szo⟩,q⟩:=h
 have nd:=sc__law_step.nd
 obtain ⟨a,b,c,d,e,g,rfl⟩:=six l6
 have ia:=hin a (by simp)
 have ib:=hin b (by simp)
 have i_c:=hin c (by simp)
 have i_d:=hin d (by simp)
 have ie:=hin e (by simp)
 have ig:=hin g (by simp)
 obtain ⟨wd,hw⟩:=yI (a%7) (Int.emod_nonneg _ (by decide)) (Int.emod_lt_of_pos _ (by decide))
 refine ⟨_,af (aI (i:=2) nd rfl (Or.inl rfl) (ak (r:=aN K) am (cr (aa aE (aa aE (aa aE (aa aE (aa aE (aa aE (aa aE ae)))))))) (aF bn (ak (r:=aN K) am (pv 0) ag (λ_ _=>rfl)) ag) (λ_ _=>rfl)))
  (af (aI (i:=3) nd rfl (Or.inl rfl) (aF bn (ak (r:=aN K) am (pv 0) ag (λ_ _=>rfl)) (ay aD rfl B.len PySem.boot_len (aa (pv 1) ae))))
  (af (aI (i:=4) nd rfl (Or.inl rfl) (aF bn (ak (r:=aN K) am (pv 0) ag (λ_ _=>rfl)) (ak (r:=aN K) am (pv 1) (pv 3) (λ_ _=>rfl))))
  (af (aI (i:=5) nd rfl (Or.inl rfl) (aF bn (ak (r:=aN K) am (pv 0) ag (λ_ _=>rfl)) (ak (r:=aN K) am (pv 1) (pv 3) (λ_ _=>rfl))))
  (af (aJ (aw a9 (pv 2) aE (az _)) (aj (au (aK (aa (pv 2) (aa (pc GA hr (aa (ak (r:=aN K) am (pv 0) ag (λ_ _=>rfl)) (aa (ak (r:=aN K) am (pv 0) ag (λ_ _=>rfl)) ae))) ae))))) aA)
  (af (aJ (aw a9 (pv 2) aE (az _)) (aj (au (aK (aa (pv 2) (aa (aF gN (aF gN (aF bn (ak (r:=aN K) am (pv 0) ag (λ_ _=>rfl)) ag) ag) (aF eo (aF oT ag ag) (aF bn (ak (r:=aN K) am (pv 0) ag (λ_ _=>rfl)) ag))) ae))))) aA)
  (af (aJ (aw a9 (pv 2) aE (az _)) (aj (au (aK (aa (pv 2) (aa (pv 3) (aa (pv 4) (aa (pc GA hr (aa (ak (r:=aN K) am (pv 0) ag (λ_ _=>rfl)) (aa (ak (r:=aN K) am (pv 0) ag (λ_ _=>rfl)) ae))) ae))))))) aA)
  (af (aJ (aw a9 (pv 2) aE (az _)) (aj (au (aK (aa (pv 2) (aa (pv 3) (aa (ay (rq rfl) rfl hmin PyProof.Rows.boot_min (aa (pv 4) (aa (pv 5) ae))) (aa (ay (rA rfl) rfl B.max PyProof.Rows.boot_max (aa (pv 4) (aa (pv 5) ae))) ae))))))) aA)
  (aj (au (aK (aa (pv 2) (aa (pv 3) (aa (pv 4) ae))))))))))))),?_⟩
 have ln:(sz.map V.int).length=sz.length:=List.length_map _
 have lpos:(0:Int)<((sz.length:Nat):Int):=by omega
 have w0:0<=b%((sz.length:Nat):Int):=Int.emod_nonneg _ (by omega)
 have w1:b%((sz.length:Nat):Int)<((sz.length:Nat):Int):=Int.emod_lt_of_pos _ lpos
 obtain ⟨m,hm,em0,em⟩:=qp w0 w1
 obtain ⟨m1,m8⟩:=szo m hm
 refine ⟨(by show 7<=sizeLine;decide),λl hl=>?_⟩
 have s1:Same H _:=ai (o:=.lst [.str "take",.str "mean",.str "sum",.str "give",.str "add",.str "plus",.str "need"]) hl
 have hx1:=s1 _ _ hxl
 refine ⟨_,rfl,xl,_,_,_,rfl,rfl,SqL.of hx1,St.at0,_,_,rfl,rfl,(by show (0:Int)<7;decide),l,_,_,_,rfl,rfl,SqL.of ac,hw,?_⟩
 have hq1:=s1 _ _ hq
 generalize (upd H l _)=H1 at s1 hq1 hx1 ⊢
 have at3':atI ([a,b,c,d,e,g].map V.int) 3=some (.int d):=aB (j:=3) rfl
 have at4':atI ([a,b,c,d,e,g].map V.int) 4=some (.int e):=aB (j:=4) rfl
 have at5':atI ([a,b,c,d,e,g].map V.int) 5=some (.int g):=aB (j:=5) rfl
 refine ⟨_,rfl,xl,_,_,_,rfl,rfl,SqL.of hx1,St.at1,_,rfl,q0,_,rfl,.inl (SqL.of hq1),_,_,rfl,rfl,by rw [ln];exact lpos,?_⟩
 rw [ln]
 refine ⟨_,rfl,xl,_,_,_,rfl,rfl,SqL.of hx1,St.at2,_,rfl,_,rfl,q0,_,_,_,rfl,rfl,SqL.of hq1,em,_,_,rfl,rfl,by omega,?_⟩
 refine ⟨_,rfl,xl,_,_,_,rfl,rfl,SqL.of hx1,at3',_,rfl,_,rfl,q0,_,_,_,rfl,rfl,SqL.of hq1,em,_,_,rfl,rfl,by omega,?_⟩
 have o0:0<=c%m:=Int.emod_nonneg _ (by omega)
 have o1:c%m<m:=Int.emod_lt_of_pos _ (by omega)
 have p0:0<=d%m:=Int.emod_nonneg _ (by omega)
 have p1:d%m<m:=Int.emod_lt_of_pos _ (by omega)
 have iw:inN (b%((sz.length:Nat):Int)):=jH w0 w1 (by omega)
 have io:inN (c%m):=jH o0 o1 m8
 have ip:inN (d%m):=jH p0 p1 m8
 have th:∀(wd':Wd) (r:List Int),hvI (aP wd' ((b%((sz.length:Nat):Int))::r))=some (b%((sz.length:Nat):Int))->kN wd' ((b%((sz.length:Nat):Int))::r)<m->bF sz (wd',(b%((sz.length:Nat):Int))::r)=true:=λwd' r e1 e2=>by
  rw [lq (x:=(wd',(b%((sz.length:Nat):Int))::r)) e1 w1 em0]
  exact decide_eq_true e2
 refine ⟨_,rfl,rfl,_,rfl,bb (λc1=>?_) (λc1=>?_)⟩
 ·obtain rfl:wd=.plus:=cu c1
  refine ⟨_,rfl,_,rfl,xl,_,_,_,rfl,rfl,SqL.of hx1,at4',_,rfl,xl,_,_,_,rfl,rfl,SqL.of hx1,at5',e,g,rfl,ie,ig,λr hr=>⟨(by show 2<=sizeLine;decide),λt ht=>q (.plus,[r]) _ _ hr rfl (s1.trans (ai ht)) ⟨t,rfl,ac⟩⟩⟩
 refine ⟨_,rfl,rfl,_,rfl,bb (λc2=>?_) (λc2=>?_)⟩
 ·obtain rfl:wd=.need:=cu c2
  refine ⟨_,rfl,_,rfl,xl,_,_,_,rfl,rfl,SqL.of hx1,at4',_,_,rfl,rfl,(by show (0:Int)<21;decide),_,_,rfl,rfl,_,_,rfl,rfl,⟨by decide,by decide,by decide⟩,_,rfl,xl,_,_,_,rfl,rfl,SqL.of hx1,at5',_,_,rfl,rfl,(by show (0:Int)<3;decide),_,_,rfl,rfl,.inr ?_,_,_,rfl,rfl,(by show 2<=sizeLine;decide),λt ht=>q (.need,[_]) _ _ ?_ rfl (s1.trans (ai ht)) ⟨t,rfl,ac⟩⟩
  ·have e0:=Int.emod_nonneg g (show (3:Int)≠0 by decide)
   have e1:=Int.emod_lt_of_pos g (show (0:Int)<3 by decide)
   exact ⟨by omega,by omega⟩
  ·have e0:=Int.emod_nonneg g (show (3:Int)≠0 by decide)
   have e1:=Int.emod_lt_of_pos g (show (0:Int)<3 by decide)
   have e2:=Int.emod_nonneg e (show (21:Int)≠0 by decide)
   have e3:=Int.emod_lt_of_pos e (show (0:Int)<21 by decide)
   have b37:(10:Int) ^ (37:Int).toNat=10000000000000000000000000000000000000:=by decide +kernel
   have b40:(10:Nat) ^ 40=10000000000000000000000000000000000000000:=by decide +kernel
   show inV _
   unfold St.inV
   rw [b37,b40]
   omega
 refine ⟨_,rfl,rfl,_,rfl,bb (λc3=>?_) (λc3=>?_)⟩
 ·obtain rfl:wd=.add:=cu c3
  refine ⟨_,rfl,_,rfl,_,rfl,_,rfl,xl,_,_,_,rfl,rfl,SqL.of hx1,at4',_,rfl,xl,_,_,_,rfl,rfl,SqL.of hx1,at5',e,g,rfl,ie,ig,λr hr=>⟨(by show 4<=sizeLine;decide),λt ht=>q (.add,[(b%((sz.length:Nat):Int)),(c%m),r]) _ _ ⟨iw,io,hr⟩ (th .add [(c%m),r] rfl o1) (s1.trans (ai ht)) ⟨t,rfl,ac⟩⟩⟩
 refine ⟨_,rfl,rfl,_,rfl,bb (λc4=>?_) (λc4=>?_)⟩
 ·obtain rfl:wd=.sum:=cu c4
  refine ⟨_,rfl,_,rfl,_,rfl,_,rfl,_,_,rfl,_,rfl,_,rfl,_,_,rfl,(by show 4<=sizeLine;decide),λt ht=>q (.sum,[(b%((sz.length:Nat):Int)),if (d%m)<(c%m) then (d%m) else (c%m),if (d%m)>(c%m) then (d%m) else (c%m)]) _ _ ⟨iw,?_,?_,?_⟩ (th .sum _ rfl ?_) (s1.trans (ai ht)) ⟨t,rfl,ac⟩⟩
  ·split
   ·exact ip
   ·exact io
  ·split
   ·exact ip
   ·exact io
  ·split<;>split<;>omega
  ·show (if (d%m)>(c%m) then (d%m) else (c%m))<m
   split<;>omega
 ·have n1:=bz (b:=.plus) c1
  have n2:=bz (b:=.need) c2
  have n3:=bz (b:=.add) c3
  have n4:=bz (b:=.sum) c4
  refine ⟨_,rfl,_,rfl,_,rfl,(by show 3<=sizeLine;decide),λt ht=>q (wd,[(b%((sz.length:Nat):Int)),(c%m)]) _ _ ?_ ?_ (s1.trans (ai ht)) ⟨t,rfl,ac⟩⟩
  ·cases wd<;>first | contradiction | exact ⟨iw,io⟩
  ·cases wd<;>first | contradiction | exact th _ _ rfl o1
def TsP(H:Hp)(xs:List Stp)(us:List V):Prop:=Paired (λ(x:Stp) v=>tSt H x.1 x.2 v) xs us
theorem jA{H H':Hp}{wd:Wd}{ns:List Int}{v:V}(s:bf H H')(h:tSt H wd ns v):tSt H' wd ns v:=by
 obtain ⟨a,e,z⟩:=h
 exact ⟨a,e,s _ _ z⟩
theorem TsP.keep{H H':Hp}{xs:List Stp}{us:List V}(s:bf H H')(h:TsP H xs us):TsP H' xs us:=Paired.mapP h λ_ _ z=>jA s z
def pT:Sp:=λvs H Q _=>∃c n q sz,vs=[.int c,.int ((n:Nat):Int),.ref q]/\n<=12/\Sz H q sz/\rC sz/\∀l us (xs:List Stp) H',Same H H'->H l=none->H' l=some (.lst us)->TsP H' xs us->xs.length=n->ArS xs->(∀x∈xs,bF sz x=true)->Q (.ref l) H'
theorem zc{ns:List Int}{i n:Nat}(hl:ns.length=6*n)(hi:i<n):∃zs:List Int,eB (ns.map V.int) (some (6*(i:Int))) (some (6*(i:Int)+6))=zs.map V.int/\zs.length=6/\∀x∈zs,x∈ns:=by
 refine ⟨(ns.drop (6*i)).take 6,?_,?_,λx hx=>List.mem_of_mem_drop (List.mem_of_mem_take hx)⟩
 ·have e1:(6*(i:Int))=((6*i:Nat):Int):=by omega
  have e2:(6*(i:Int)+6)=((6*i+6:Nat):Int):=by omega
  rw [e2,e1,mK _ _ _ (by omega) (by rw [List.length_map];omega),List.map_take,List.map_drop]
  congr 1
  omega
 ·rw [List.length_take,List.length_drop]
  omega
theorem vd(F:Fun K "_law_steps" "_law_steps" cB f fd)(B:TxB mg)(GS:GF P w K mg base CX0 2 "_law_stream" ["_law_cell_here","_law_many"] pP)(GT:GF P w K mg base CX0 2 "_law_step" ["_law_xs","_law_sizes"] wu):FnOk P w K mg base CX0 3 f fd ["_law_cell_here","_law_many","_law_sizes"] pT:=by
 refine F.ok sc__law_steps (λvs H Q E h=>?_) (λcdv A outer s H vs Q E hr h=>?_)
 ·obtain ⟨c,n,q,sz,rfl,_⟩:=h
  rfl
 obtain ⟨c,n,q0,sz,rfl,hn,hq,szo,q⟩:=h
 have nd:=sc__law_steps.nd
 have hz:(1000:Nat)<=sizeLine:=by decide
 refine ⟨_,af (aI (i:=3) nd rfl (by first | exact Or.inl rfl | exact Or.inr rfl) (pc GS hr (aa (pv 0) (aa (aF eo ag (pv 1)) ae))))
  (aj (au (dR jn rfl (bo rfl B.range (aa (pv 1) ae)) (λ_ _ _ _=>bp) (λ_ _ _ _=>pc GT hr (aa (bQ (r:=xR K) eO (pv 2) (bu (aF eo ag (pv 0))) (bu (aF bc (aF eo ag (pv 0)) ag))) (aa (pv 1) ae)))))),?_⟩
 refine ⟨_,rfl,_,rfl,_,_,rfl,rfl,.inl ⟨by decide +kernel,by decide +kernel⟩,c,6*n,by simp,by omega,λxl ns H1 s1 nxl hxl ln hin=>?_⟩
 refine ⟨_,rfl,_,rfl,by omega,by omega,?_⟩
 rw [Int.toNat_natCast]
 refine gi (n:=n) (λi ys H'=>Same H1 H'/\∃xs:List Stp,TsP H' xs ys/\xs.length=i/\ArS xs/\∀x∈xs,bF sz x=true) ⟨Same.refl _,[],.nil,rfl,(λx m=>by cases m),(λx m=>by cases m)⟩ (by omega) ?_ ?_
 ·rintro i ys H' hi ⟨s2,xs,tx,lx,ar,th⟩
  obtain ⟨zs,ez,lz,hz6⟩:=zc ln hi
  refine eE ⟨_,rfl,_,rfl,_,_,rfl,rfl,.inl ⟨by decide +kernel,by decide +kernel⟩,_,rfl,_,rfl,_,_,rfl,rfl,.inl ⟨by decide +kernel,by decide +kernel⟩,_,_,rfl,rfl,_,rfl,xl,_,rfl,SqL.of (s2 _ _ hxl),λcl ncl=>?_⟩
  have s3:=ai (o:=.lst (zs.map V.int)) ncl
  have hc3:(upd H' cl (.lst (zs.map V.int))) cl=some (.lst (zs.map V.int)):=ac
  show (_:Prop)
  rw [ez]
  generalize (upd H' cl (.lst (zs.map V.int)))=H3 at s3 hc3 ⊢
  refine ⟨_,rfl,cl,q0,zs,sz,rfl,hc3,lz,λx hx=>hin x (hz6 x hx),s3 _ _ (s2 _ _ (s1 _ _ hq)),szo,λx v H4 ax tx' s4 tv=>⟨s2.trans (s3.trans s4),xs++[x],(tx.keep (s3.trans s4).ts).app (.cons tv .nil),by rw [List.length_append,lx];rfl,λy hy=>?_,λy hy=>?_⟩⟩
  ·rcases List.mem_append.mp hy with m | m
   ·exact ar y m
   ·rw [List.mem_singleton.mp m];exact ax
  ·rcases List.mem_append.mp hy with m | m
   ·exact th y m
   ·rw [List.mem_singleton.mp m];exact tx'
 ·rintro ys H' ⟨s2,xs,tx,lx,ar,th⟩ l nl
  have s3:=ai (o:=.lst ys) nl
  exact q l ys xs _ (s1.trans (s2.trans s3)) (none_of (s1.trans s2) nl) ac (tx.keep s3.ts) lx ar th
def cm_in:Scope:=match defBody bO with
 | .Assign _ (.ListComp (.Call _ [.BinOp _ _ (.ListComp _ _ sc _) _] _ _) _ _ _) _::_=>sc
 | _=>default
theorem xO{N:List Str}{sc:Scope}:aT N sc cm_in "_law_number" ["_law_number"] [] :=
 ⟨by decide +kernel,rfl,by decide +kernel,rfl,λy hy h=>absurd h ((by decide +kernel:∀y∈cm_in.names,y.2≠.free) y hy),by decide +kernel,rfl,rfl,λj h=>absurd h (Nat.not_lt_zero j)⟩
def yy:Expr:=match defBody bO with
 | .Assign _ (.ListComp e _ _ _) _::_=>e
 | _=>.Constant .none 0 ⟨0,0,0,0⟩
theorem xV{X:Cx}{e:Expr}{t u:TE}(h:PE X e t)(hw:∀σ H Q,u σ H Q->t σ H Q):PE X e u:=λpins s σ H Q I q=>h pins s σ H Q I (hw σ H Q q)
def xz:TE:=fun σ H Q=>∃c0 wd ms,σ=[some (.ref c0)]/\H c0=some (.tup (.str (wS wd)::(ms:List Int).map V.int))/\Ar wd ms/\∀H',Same H H'->Q (.str (txt wd ms)) H'
theorem uS{X:Cx}{K:PySem.W.Frag}(hK:X.K=K)(hc:X.calm=true)(hm:X.mg "str"=none){C:Addr}{fp:List Addr}{s:Shared}{H:Hp}:PE (X.blk ["_law_step_here"] dJ C fp s H) yy xz:=by
 subst hK
 refine xV (show PE (X.blk ["_law_step_here"] dJ C fp s H) (.Call (.Attribute _ _ _) [_] [] _) _ from cS PySem.F.plainAttrs_str PySem.F.slot_str_join PySem.F.type_str_join qb aE (aa (aF wO (cr (aa (ak (r:=aR X.K) aC (pv 0) ag (λ_ _=>rfl)) ae)) (dR xO hc (oR (bQ sg (pv 0) (bu ag) gW)) (λ_ _ _ _=>bp) (λ_ _ _ _=>bK mO rfl hm PyProof.Rows.boot_str (aa (pv 0) ae)))) ae)) ?_
 rintro σ H3 Q ⟨c0,wd,ms,rfl,hc0,arx,q⟩
 have hl3:=arx.len
 refine ⟨rfl,_,rfl,c0,_,_,_,rfl,rfl,SqT.of hc0,St.at0,(by show 1<=sizeLine;decide),λl hl=>?_⟩
 have s1:Same H3 _:=ai (o:=.lst [.str (wS wd)]) hl
 refine ⟨_,rfl,_,rfl,c0,_,rfl,SqT.of (s1 _ _ hc0),pF _ _,λt ht=>?_⟩
 rw [vG]
 have s2:Same H3 _:=s1.trans (ai (o:=.tup (ms.map V.int)) ht)
 have el0:(upd (upd H3 l (.lst [.str (wS wd)])) t (.tup (ms.map V.int))) l=some (.lst [.str (wS wd)]):=ai ht _ _ ac
 have et0:(upd (upd H3 l (.lst [.str (wS wd)])) t (.tup (ms.map V.int))) t=some (.tup (ms.map V.int)):=ac
 generalize (upd (upd H3 l _) t _)=H0 at s2 el0 et0 ⊢
 refine ⟨t,rfl,⟨_,SqT.of et0⟩,?_⟩
 refine tX (g:=λi=>V.str (iS i)) (ns:=ms) et0 (Nat.le_trans hl3.2 (by decide)) (λi H1 Q hi s3 h=>?_) (λH1 s3 p hp=>?_)
 ·exact ⟨_,rfl,i,rfl,ym (arx.all i hi),h H1 (Same.refl _)⟩
 ·refine ⟨l,p,_,_,rfl,rfl,ai hp _ _ (s3 _ _ el0),ac,?_,λp2 hp2=>?_⟩
  ·have h5:(ms.map λi=>V.str (iS i)).length=ms.length:=List.length_map _
   have h6:([V.str (wS wd)]:List V).length=1:=rfl
   have h7:(4:Nat)<=sizeLine:=by decide
   omega
  ·have e:([V.str (wS wd)]++ms.map λi=>V.str (iS i))=(wS wd::ms.map iS).map V.str:=by simp
   refine ⟨_,p2,wS wd::ms.map iS,rfl,rfl,SqL.of (by rw [ac,e]),Nat.le_trans (ik arx) (by decide),?_⟩
   exact q _ (s2.trans (s3.trans ((ai hp).trans (ai hp2))))
def rW:Sp:=λvs H Q _=>∃b sl us xs,vs=[.str (mS b),.ref sl]/\H sl=some (.lst us)/\TsP H xs us/\ArS xs/\xs.length<=12/\∀H',Same H H'->Q (.str (ptx (mS b) xs)) H'
theorem wT(F:Fun K "_law_text" "_law_text" bO f fd)(B:TxB mg):FnOk P w K mg base CX0 1 f fd ["_law_manner","_law_steps_here"] rW:=by
 refine F.ok sc__law_text (λvs H Q E h=>?_) (λcdv A outer s H vs Q E hr h=>?_)
 ·obtain ⟨b,sl,us,xs,rfl,_⟩:=h
  rfl
 obtain ⟨b,sl,us,xs,rfl,hw,pw,ar,hl,q⟩:=h
 have nd:=sc__law_text.nd
 have hz:(100000:Nat)<=sizeLine:=by decide
 have l1:(Str.ofString " ").length=1:=by decide +kernel
 have l2:(Str.ofString "; ").length=2:=by decide +kernel
 have pl:xs.length=us.length:=pw.len
 have ml:=tV b
 refine ⟨_,af (eI (iy:=2) jR rfl (bL (pv 1)) (λ_ _ _ _=>bp) (λ_ _ _ _=>uS (K:=K) rfl rfl B.str) nd rfl (Or.inl rfl))
  (aj (au (aF j0 (aF j0 (pv 0) aE) (cS PySem.F.plainAttrs_str PySem.F.slot_str_join PySem.F.type_str_join qb aE (aa (pv 2) ae))))),?_⟩
 refine ⟨_,rfl,sl,rfl,⟨_,SqL.of hw⟩,?_⟩
 refine dq (xs:=us) (λi ys H3=>Same H H3/\ys=((xs.take i).map sx).map V.str) ⟨Same.refl _,rfl⟩ (by omega) (λi ys H3 _ z=>SqL.of (z.1 _ _ hw)) ?_ ?_
 ·rintro i u ys H3 hu ⟨s3,rfl⟩
  obtain ⟨x,ex,tx⟩:=pw.get hu
  have arx:=ar x (List.mem_of_getElem? ex)
  obtain ⟨c0,rfl,hc0⟩:=tx.keep s3
  refine eE ⟨c0,x.1,x.2,rfl,hc0,arx,λH4 s4=>⟨s3.trans s4,?_⟩⟩
  have et:xs.take (i+1)=xs.take i++[x]:=by rw [List.take_add_one,ex];rfl
  rw [et,List.map_append,List.map_append]
  rfl
 rintro ys H1 ⟨s1,rfl⟩ p hp
 rw [← pl,List.take_length]
 have sm:=rS ar
 have js:=j5 ar (by omega)
 have s2:=s1.trans (ai (o:=.lst ((xs.map sx).map V.str)) hp)
 have hp2:(upd H1 p (HO.lst ((xs.map sx).map V.str))) p=some (.lst ((xs.map sx).map V.str)):=ac
 generalize (upd H1 p (HO.lst ((xs.map sx).map V.str)))=H2 at s2 hp2 ⊢
 refine ⟨_,rfl,_,_,rfl,rfl,by rw [l1];omega,rfl,_,rfl,_,p,xs.map sx,rfl,rfl,SqL.of hp2,by rw [l2,List.length_map];omega,_,_,rfl,rfl,?_,q _ s2⟩
 have:(mS b++Str.ofString " ").length=(mS b).length+(Str.ofString " ").length:=by
  show ((mS b).cps++(Str.ofString " ").cps).size=_
  rw [Array.size_append]
  rfl
 rw [this,l1]
 omega
theorem pM(row:List Int)(a:Nat):∀n,a+n<=row.length->nh (vl row) (a:Nat) n=((row.drop a).take n).sum
 | 0,_=>by simp [nh]
 | n+1,h=>by
  have ih:=pM row a n (by omega)
  show nh (vl row) a n+vl row ((a:Nat)+(n:Nat))=_
  have e:((row.drop a).take (n+1))=(row.drop a).take n++[row[a+n]'(by omega)]:=by
   rw [List.take_add_one,List.getElem?_drop,List.getElem?_eq_getElem (by omega)]
   rfl
  rw [e,List.sum_append,ih]
  have e2:vl row ((a:Nat)+(n:Nat))=row[a+n]'(by omega):=by
   unfold vl
   have:(((a:Nat):Int)+((n:Nat):Int)).toNat=a+n:=by omega
   rw [this,List.getD,List.getElem?_eq_getElem (by omega)]
   rfl
  rw [e2]
  simp
def uK:Sp:=λvs H Q _=>∃c rs X x v hand,vs=[v,.int hand,.ref c]/\Rows H c rs X/\Sml X/\Ar x.1 x.2/\tSt H x.1 x.2 v/\bF (aO X) x=true /\
 ∀t ch H',Rows H' c rs (cp x (dnS x hand X).2 X)->H' t=some (.tup [.int (dnS x hand X).1,.ref ch])->ChT H' (dnS x hand X).2 ch->KpM rs H H'->Q (.ref t) H'
theorem tF(F:Fun K "_law_done" "_law_done" fU f fd)(B:TxB mg)(hsum:mg "sum"=none):FnOk P w K mg base CX0 1 f fd ["_law_step_here","_law_hand","_law_cells"] uK:=by
 refine F.ok sc__law_done (λvs H Q E h=>?_) (λcdv A outer s H vs Q E hr h=>?_)
 ·obtain ⟨c,rs,X,x,v,hand,rfl,_⟩:=h
  rfl
 obtain ⟨c,rs,X,x,v,hand,rfl,rw0,sm,ar,⟨a,rfl,ha⟩,th,q⟩:=h
 have nd:=sc__law_done.nd
 have hz:(1000:Nat)<=sizeLine:=by decide
 obtain ⟨ic,hou⟩:=gl (h:=x.2.headD 0) ar th (λ_ a e=>by rw [e];exact Int.le_refl _)
 have lrow:=gR sm x
 refine ⟨_,af (aJ (aw a9 (ak (r:=aR K) aC (pv 0) ag (λ_ _=>rfl)) aE (az _)) (aj (au (aK (aa (aF bc (pv 1) (ak (r:=aR K) aC (pv 0) ag (λ_ _=>rfl))) (aa (aK ae) ae))))) aA)
  (af (aJ (aw a9 (ak (r:=aR K) aC (pv 0) ag (λ_ _=>rfl)) aE (az _)) (aj (au (aK (aa (pv 1) (aa (aK ae) ae))))) aA)
  (af (aI (i:=3) nd rfl (Or.inl rfl) (ak (r:=aN K) am (pv 2) (ak (r:=aR K) aC (pv 0) ag (λ_ _=>rfl)) (λ_ _=>rfl)))
  (af (aJ (PW.pt (eF (aw a9 (ak (r:=aR K) aC (pv 0) ag (λ_ _=>rfl)) aE (az _)) (cX (aw a9 (ak (r:=aR K) aC (pv 0) ag (λ_ _=>rfl)) aE (az _))))) (aj (au (aK (aa (ak (r:=aN K) am (pv 3) (ak (r:=aR K) aC (pv 0) ag (λ_ _=>rfl)) (λ_ _=>rfl)) (aa (aK ae) ae))))) aA)
  (af (aJ (aw a9 (ak (r:=aR K) aC (pv 0) ag (λ_ _=>rfl)) aE (az _)) (aj (au (aK (aa (ay (gE rfl) rfl hsum PyProof.Rows.boot_sum (aa (bQ eO (pv 3) (bu (ak (r:=aR K) aC (pv 0) ag (λ_ _=>rfl))) (bu (aF bc (ak (r:=aR K) aC (pv 0) ag (λ_ _=>rfl)) ag))) ae)) (aa (aK ae) ae))))) aA)
  (af (aJ (aw a9 (ak (r:=aR K) aC (pv 0) ag (λ_ _=>rfl)) aE (az _)) (aj (cq (aF bc (ak (r:=aN K) am (pv 3) (ak (r:=aR K) aC (pv 0) ag (λ_ _=>rfl)) (λ_ _=>rfl)) (ak (r:=aR K) aC (pv 0) ag (λ_ _=>rfl))) (eh (pv 3) (ak (r:=aR K) aC (pv 0) ag (λ_ _=>rfl)) ci))) (aj (cq (pv 1) (eh (pv 3) (ak (r:=aR K) aC (pv 0) ag (λ_ _=>rfl)) ci))))
  (eg (u:=λD σ H1=>∃r0 cc row' j rest,σ=[some (.ref a),some (.int hand),some (.ref c),some (.ref r0)]/\Rows H1 c rs (cp x (dnS x hand X).2 X)/\KpM rs H H1/\H1 a=some (.tup (.str (wS x.1)::.int j::.int cc::rest))/\H1 r0=some (.lst ((row':List Int).map V.int))/\0<=cc/\cc<row'.length/\dnS x hand X=(hand,[(cc,vl row' cc)])/\∀y H',Q y H'->D.rt y H')
   (aj (au (aK (aa (pv 1) (aa (aK (aa (aK (aa (ak (r:=aR K) aC (pv 0) ag (λ_ _=>rfl)) (aa (ak (r:=aN K) am (pv 3) (ak (r:=aR K) aC (pv 0) ag (λ_ _=>rfl)) (λ_ _=>rfl)) ae))) ae)) ae))))) ?s2)))))),?_⟩
 ·rintro D σ H1 ⟨r0,cc,row',j,rest,rfl,rw1,k1,ha1,hr0,c0,c1,ed,nx⟩
  have e6:atI (row'.map V.int) cc=some (.int (vl row' cc)):=by
   have e5:cc=((cc.toNat:Nat):Int):=(Int.toNat_of_nonneg c0).symm
   have lt:cc.toNat<row'.length:=by omega
   have z:=aB (xs:=row'.map V.int) (j:=cc.toNat) (v:=.int (vl row' cc)) (by
    rw [List.getElem?_map,List.getElem?_eq_getElem lt]
    unfold vl
    rw [List.getD,List.getElem?_eq_getElem lt]
    rfl)
   rw [← e5] at z
   exact z
  refine ⟨_,rfl,_,rfl,a,_,_,_,rfl,rfl,SqT.of ha1,St.at2,_,rfl,_,rfl,a,_,_,_,rfl,rfl,SqT.of ha1,St.at2,r0,_,_,_,rfl,rfl,SqL.of hr0,e6,(by show 2<=sizeLine;decide),λt1 n1=>⟨(by show 1<=sizeLine;decide),λt2 n2=>⟨(by show 2<=sizeLine;decide),λt3 n3=>?_⟩⟩⟩
  have s1:=ai (o:=.tup [.int cc,.int (vl row' cc)]) n1
  have s2:=ai (o:=.tup [.ref t1]) n2
  have s3:=ai (o:=.tup [.int hand,.ref t2]) n3
  have ss:=s1.trans (s2.trans s3)
  rw [ed] at rw1 q
  exact nx _ _ (q t3 t2 _ (rw1.keep ss) ac ⟨_,s3 _ _ ac,.cons ⟨t1,rfl,s3 _ _ (s2 _ _ ac)⟩ .nil⟩ (k1.trans (KpM.of ss)))
 refine ⟨_,rfl,a,_,_,_,rfl,rfl,SqT.of ha,St.at0,rfl,_,rfl,bb (λc1=>?_) (λc1=>?_)⟩
 ·obtain ⟨wd,ns⟩:=x
  obtain rfl:wd=.plus:=cu c1
  obtain ⟨z,rfl,_⟩:=ar.p
  refine ⟨_,rfl,_,rfl,a,_,_,_,rfl,rfl,SqT.of ha,St.at1,_,_,rfl,rfl,(by show 0<=sizeLine;decide),λt1 n1=>⟨(by show 2<=sizeLine;decide),λt2 n2=>?_⟩⟩
  have ss:=(ai (o:=.tup []) n1).trans (ai (o:=.tup [.int (hand+z),.ref t1]) n2)
  exact q t2 t1 _ (rw0.keep ss) ac ⟨[],ai n2 _ _ ac,.nil⟩ (KpM.of ss)
 refine ⟨_,rfl,a,_,_,_,rfl,rfl,SqT.of ha,St.at0,rfl,_,rfl,bb (λc2=>?_) (λc2=>?_)⟩
 ·obtain ⟨wd,ns⟩:=x
  obtain rfl:wd=.need:=cu c2
  obtain ⟨z,rfl,_⟩:=ar.n
  refine ⟨_,rfl,(by show 0<=sizeLine;decide),λt1 n1=>⟨(by show 2<=sizeLine;decide),λt2 n2=>?_⟩⟩
  have ss:=(ai (o:=.tup []) n1).trans (ai (o:=.tup [.int hand,.ref t1]) n2)
  exact q t2 t1 _ (rw0.keep ss) ac ⟨[],ai n2 _ _ ac,.nil⟩ (KpM.of ss)
 have n1:=bz (b:=.plus) c1
 have n2:=bz (b:=.need) c2
 obtain ⟨x0,r0',ens,ehv⟩:=ar.home n1 n2
 obtain ⟨j,row,hv,ex,er,ej⟩:=hou.resolve_left (λz=>by rw [ehv] at z;cases z.1)
 have ex0:x0=((j:Nat):Int):=by
  rw [ehv] at hv
  exact V.int.inj hv
 obtain ⟨r0,e0,hrow⟩:=rw0.r.get1 ex
 rw [er] at ic lrow
 have ha':H a=some (.tup (.str (wS x.1)::.int ((j:Nat):Int)::r0'.map V.int)):=by rw [ha,ens,ex0];rfl
 refine ⟨_,rfl,_,rfl,a,_,_,_,rfl,rfl,SqT.of ha',St.at1,c,_,_,_,rfl,rfl,SqL.of rw0.l,aB (by rw [List.getElem?_map,e0];rfl),?_⟩
 have val:∀cc:Int,0<=cc->cc<row.length->atI (row.map V.int) cc=some (.int (vl row cc)):=λcc c0 c1=>by
  have e5:cc=((cc.toNat:Nat):Int):=(Int.toNat_of_nonneg c0).symm
  have lt:cc.toNat<row.length:=by omega
  have z:=aB (xs:=row.map V.int) (j:=cc.toNat) (v:=.int (vl row cc)) (by
   rw [List.getElem?_map,List.getElem?_eq_getElem lt]
   unfold vl
   rw [List.getD,List.getElem?_eq_getElem lt]
   rfl)
  rw [← e5] at z
  exact z
 have wrt:∀cc v:Int,0<=cc->cc<row.length->dnS x hand X=(hand,[(cc,v)])->ixN (row.map V.int).length cc=some cc.toNat/\Rows (upd H r0 (.lst ((row.map V.int).set cc.toNat (.int v)))) c rs (cp x (dnS x hand X).2 X)/\KpM rs H (upd H r0 (.lst ((row.map V.int).set cc.toNat (.int v))))/\(upd H r0 (.lst ((row.map V.int).set cc.toNat (.int v)))) a=H a/\(upd H r0 (.lst ((row.map V.int).set cc.toNat (.int v)))) r0=some (.lst ((row.set cc.toNat v).map V.int))/\vl (row.set cc.toNat v) cc=v:=λcc v c0 c1 ed=>by
  have e5:cc=((cc.toNat:Nat):Int):=(Int.toNat_of_nonneg c0).symm
  have lt:cc.toNat<row.length:=by omega
  have em:(row.map V.int).set cc.toNat (.int v)=(row.set cc.toNat v).map V.int:=by rw [List.map_set]
  rw [em]
  refine ⟨?_,?_,KpM.upd (List.mem_of_getElem? e0),?_,ac,?_⟩
  ·rw [List.length_map]
   have z:=gw lt
   rw [← e5] at z
   exact z
  ·have z:=rw0.put (xs:=row.set cc.toNat v) e0
   have e3:cp x (dnS x hand X).2 X=X.set j (row.set cc.toNat v):=by
    rw [ed]
    show lL X (hN x) cc.toNat v=_
    unfold lL
    rw [ej,List.getD,ex]
    rfl
   rw [e3]
   exact z
  ·rw [aq (qa ha hrow (by intro z;cases z))]
  ·unfold vl
   rw [List.getD,List.getElem?_set_self lt]
   rfl
 have cell2:x.1≠.sum->∃cc rest,r0'=cc::rest/\0<=cc/\cc<row.length:=λn3=>by
  obtain ⟨wd,ns⟩:=x
  cases wd with
  | take =>
   obtain ⟨p,b,rfl,h1,h2,_⟩:=ar.c rfl
   cases ens
   exact ⟨b,[],rfl,h2.1,ic⟩
  | mean =>
   obtain ⟨p,b,rfl,h1,h2,_⟩:=ar.c rfl
   cases ens
   exact ⟨b,[],rfl,h2.1,ic⟩
  | give =>
   obtain ⟨p,b,rfl,h1,h2,_⟩:=ar.c rfl
   cases ens
   exact ⟨b,[],rfl,h2.1,ic⟩
  | add =>
   obtain ⟨p,b,d,rfl,h1,h2,_⟩:=ar.a
   cases ens
   exact ⟨b,[d],rfl,h2.1,ic⟩
  | sum=>exact absurd rfl n3
  | plus=>exact absurd rfl n1
  | need=>exact absurd rfl n2
 have ret2:x.1=.take\/x.1=.mean->we (kC (tOp (aN K) (kn 3) (tOp (aR K) (kn 0) (tC (.int 2)))) (kC (we ng) ng)) [some (.ref a),some (.int hand),some (.ref c),some (.ref r0)] H Q:=λhx=>by
  obtain ⟨cc,rest,rfl,c0,c1'⟩:=cell2 (by rcases hx with z | z<;>rw [z]<;>decide)
  have ed:dnS x hand X=(vl row cc,[]):=by
   unfold dnS
   rw [er,ens]
   obtain ⟨wd,ns⟩:=x
   cases ens
   rcases hx with z | z
   ·cases z
    obtain ⟨p,b,e,_⟩:=ar.c rfl
    cases e
    rfl
   ·cases z
    obtain ⟨p,b,e,_⟩:=ar.c rfl
    cases e
    rfl
  rw [ed] at q
  refine ⟨_,rfl,_,rfl,a,_,_,_,rfl,rfl,SqT.of ha',St.at2,r0,_,_,_,rfl,rfl,SqL.of hrow,val cc c0 c1',(by show 0<=sizeLine;decide),λt1 n1=>⟨(by show 2<=sizeLine;decide),λt2 n2=>?_⟩⟩
  have ss:=(ai (o:=.tup []) n1).trans (ai (o:=.tup [.int (vl row cc),.ref t1]) n2)
  exact q t2 t1 _ (rw0.keep ss) ac ⟨[],ai n2 _ _ ac,.nil⟩ (KpM.of ss)
 refine ⟨_,rfl,a,_,_,_,rfl,rfl,SqT.of ha',St.at0,rfl,_,rfl,bb (λc3=>cO (ret2 (.inl (cu c3)))) (λc3=>?_)⟩
 refine ⟨_,rfl,a,_,_,_,rfl,rfl,SqT.of ha',St.at0,rfl,_,rfl,bb (λc4=>ret2 (.inr (cu c4))) (λc4=>?_)⟩
 refine ⟨_,rfl,a,_,_,_,rfl,rfl,SqT.of ha',St.at0,rfl,_,rfl,bb (λc5=>?_) (λc5=>?_)⟩
 ·obtain ⟨wd,ns⟩:=x
  obtain rfl:wd=.sum:=cu c5
  obtain ⟨p,lo,hi,rfl,h1,h2,h3,h4⟩:=ar.s
  cases ens
  have icn:lo<row.length/\hi<row.length:=ic
  have l0:0<=lo:=h2.1
  have e3:atI (V.str (wS (Wd.sum,[x0,lo,hi]).1)::V.int ((j:Nat):Int)::[lo,hi].map V.int) 3=some (.int hi):=aB (j:=3) rfl
  refine ⟨_,rfl,_,rfl,a,_,_,_,rfl,rfl,SqT.of ha',St.at2,_,rfl,_,rfl,a,_,_,_,rfl,rfl,SqT.of ha',e3,_,_,rfl,rfl,_,rfl,r0,_,rfl,SqL.of hrow,λsl nsl=>?_⟩
  have ea:lo=((lo.toNat:Nat):Int):=(Int.toNat_of_nonneg l0).symm
  have eb:hi+1=(((hi+1).toNat:Nat):Int):=(Int.toNat_of_nonneg (by omega)).symm
  have ec:eB (row.map V.int) (some lo) (some (hi+1))=((row.drop lo.toNat).take ((hi+1).toNat-lo.toNat)).map V.int:=by
   rw [ea,eb,mK _ _ _ (by omega) (by rw [List.length_map];omega),List.map_take,List.map_drop]
   rfl
  show (_:Prop)
  rw [ec]
  have s1:=ai (o:=.lst (((row.drop lo.toNat).take ((hi+1).toNat-lo.toNat)).map V.int)) nsl
  refine ⟨sl,_,rfl,SqL.of ac,(by show 0<=sizeLine;decide),λt1 n1=>⟨(by show 2<=sizeLine;decide),λt2 n2=>?_⟩⟩
  have ed:dnS (Wd.sum,[x0,lo,hi]) hand X=(((row.drop lo.toNat).take ((hi+1).toNat-lo.toNat)).sum,[]):=by
   unfold dnS
   rw [er]
   show (nh (vl row) lo (hi+1-lo).toNat,[])=_
   have e6:(hi+1-lo).toNat=(hi+1).toNat-lo.toNat:=by omega
   have:=pM row lo.toNat ((hi+1).toNat-lo.toNat) (by omega)
   rw [← ea] at this
   rw [e6,this]
  rw [ed] at q
  have ss:=s1.trans ((ai (o:=.tup []) n1).trans (ai (o:=.tup [.int ((row.drop lo.toNat).take ((hi+1).toNat-lo.toNat)).sum,.ref t1]) n2))
  exact q t2 t1 _ (rw0.keep ss) ac ⟨[],ai n2 _ _ ac,.nil⟩ (KpM.of ss)
 have n5:=bz (b:=.sum) c5
 obtain ⟨cc,rest,rfl,c0,c1'⟩:=cell2 n5
 refine ⟨_,rfl,a,_,_,_,rfl,rfl,SqT.of ha',St.at0,rfl,_,rfl,bb (λc6=>?_) (λc6=>?_)⟩
 ·have hx:x.1=.add:=cu c6
  obtain ⟨d,rfl⟩:∃d,rest=[d]:=by
   obtain ⟨wd,ns⟩:=x
   cases hx
   obtain ⟨p,b,d,e,_⟩:=ar.a
   cases e
   cases ens
   exact ⟨d,rfl⟩
  have e3:atI (V.str (wS x.1)::V.int ((j:Nat):Int)::[cc,d].map V.int) 3=some (.int d):=aB (j:=3) rfl
  have ed:dnS x hand X=(hand,[(cc,vl row cc+d)]):=by
   unfold dnS
   rw [er]
   obtain ⟨wd,ns⟩:=x
   cases hx
   cases ens
   rfl
  obtain ⟨w1,w2,w3,w4,w5,w6⟩:=wrt cc (vl row cc+d) c0 c1' ed
  refine ⟨_,rfl,_,rfl,a,_,_,_,rfl,rfl,SqT.of ha',St.at2,r0,_,_,_,rfl,rfl,SqL.of hrow,val cc c0 c1',_,rfl,a,_,_,_,rfl,rfl,SqT.of ha',e3,_,_,rfl,rfl,_,rfl,_,rfl,a,_,_,_,rfl,rfl,SqT.of ha',St.at2,r0,_,cc,cc.toNat,rfl,rfl,hrow,w1,?_⟩
  exact ⟨r0,cc,_,(j:Nat),_,rfl,w2,w3,by rw [w4,ha'];rfl,w5,c0,by rw [List.length_set];exact c1',by rw [w6];exact ed,λy H' z=>z⟩
 ·have hx:x.1=.give:=by
   have n3:=bz (b:=.take) c3
   have n4:=bz (b:=.mean) c4
   have n6:=bz (b:=.add) c6
   cases hw:x.1<;>first | rfl | (rw [hw] at n1 n2 n3 n4 n5 n6;contradiction)
  have ed:dnS x hand X=(hand,[(cc,hand)]):=by
   unfold dnS
   rw [er]
   obtain ⟨wd,ns⟩:=x
   cases hx
   obtain ⟨p,b,e,_⟩:=ar.c rfl
   cases e
   cases ens
   rfl
  obtain ⟨w1,w2,w3,w4,w5,w6⟩:=wrt cc hand c0 c1' ed
  refine ⟨_,rfl,_,rfl,_,rfl,a,_,_,_,rfl,rfl,SqT.of ha',St.at2,r0,_,cc,cc.toNat,rfl,rfl,hrow,w1,?_⟩
  exact ⟨r0,cc,_,(j:Nat),_,rfl,w2,w3,by rw [w4,ha'];rfl,w5,c0,by rw [List.length_set];exact c1',by rw [w6];exact ed,λy H' z=>z⟩
theorem TsP.set{H:Hp}{xs:List Stp}{us:List V}{i:Nat}{x:Stp}{u:V}(h:TsP H xs us)(hu:tSt H x.1 x.2 u):TsP H (xs.set i x) (us.set i u):=by
 unfold TsP at *
 induction h generalizing i with
 | nil=>exact .nil
 | cons a r ih =>
  cases i with
  | zero=>exact .cons hu r
  | succ i=>exact .cons a ih
def oK:Sp:=λvs H Q _=>∃pa p sl us xs c rs X el eu,vs=[.ref pa,.ref sl,.ref c,.ref el]/\H pa=some (.tup [.int (p:Pa).1,.int p.2])/\H sl=some (.lst us)/\TsP H xs us/\ArS xs/\mW X xs/\xs≠[]/\xs.length<=12/\Rows H c rs X/\Sml X/\H el=some (.lst eu)/\eu.length<=900/\sl∉c::rs/\el∉c::rs/\sl≠el /\
 ∀xs' t H',ArS xs'->mW X xs'->xs'≠[]->xs'.length<=12->okS xs' 0 X->Rows H' c rs (aX xs' 0 X).2->H' el=some (.lst (eu++[.ref t]))->EnA H' (.pact p xs' (aX xs' 0 X).1) (.ref t)->KpM (sl::el::rs) H H'->Q .non H'
structure HeI(H0 H:Hp)(sl c el hl:Addr)(rs:List Addr)(X:List (List Int))(eu us:List V)(xs:List Stp)(i:Nat):Prop where
 rw:Rows H c rs (aX (xs.take i) 0 X).2
 fh:H hl=some (.lst ((aX (xs.take i) 0 X).1.map V.int))
 fs:H sl=some (.lst us)
 st:TsP H xs us
 fe:H el=some (.lst eu)
 ar:ArS xs
 al:mW X xs
 ne:xs≠[]
 l12:xs.length<=12
 ok:∀j x,j<i->xs[j]?=some x->f6 x (cw (aX (xs.take j) 0 X).1 0)
 kp:KpM (sl::rs) H0 H
 n1:H0 hl=none
theorem gQ{α:Type}(xs:List α)(i:Nat)(x:α):(xs.set i x).take i=xs.take i:=by
 rw [List.take_set_of_le (Nat.le_refl i)]
theorem vj(F:Fun K "_law_held" "_law_held" fT f fd)(B:TxB mg)(GD:GF P w K mg base CX0 1 "_law_done" ["_law_step_here","_law_hand","_law_cells"] uK)(GT:GF P w K mg base CX0 1 "_law_text" ["_law_manner","_law_steps_here"] rW):FnOk P w K mg base CX0 2 f fd ["_law_p","_law_steps_here","_law_cells","_law_entries_here"] oK:=by
 refine F.ok sc__law_held (λvs H Q E h=>?_) (λcdv A outer s H vs Q E hr h=>?_)
 ·obtain ⟨pa,p,sl,us,xs,c,rs,X,el,eu,rfl,_⟩:=h
  rfl
 obtain ⟨pa,p,sl,us,xs,c,rs,X,el,eu,rfl,hpa,hsl,st,ar,al,ne,l12,rw0,sm,hel,leu,ns1,ns2,ns3,q⟩:=h
 have nd:=sc__law_held.nd
 have hz:(1000:Nat)<=sizeLine:=by decide
 refine ⟨_,af (aI (i:=4) nd rfl (Or.inl rfl) ag) (af (aI (i:=5) nd rfl (Or.inl rfl) (cr ae))
  (af (cK PassesOwn.never rfl (bo rfl B.range (aa (ay aD rfl B.len PySem.boot_len (aa (pv 1) ae)) ae)) (aU (i:=6) nd rfl (Or.inl rfl))
   (af (aJ (PW.pt (gK (aw a9 (ak (r:=aR K) aC (ak (r:=aN K) am (pv 1) (pv 6) (λ_ _=>rfl)) ag (λ_ _=>rfl)) aE (az _)) (eU (aw gA (pv 4) (ak (r:=aR K) aC (ak (r:=aN K) am (pv 1) (pv 6) (λ_ _=>rfl)) ag (λ_ _=>rfl)) (az _))))) (aj (cq (aK (aa aE (aa ag ae))) (eh (pv 1) (pv 6) ci))) aA)
   (eg (u:=λD σ H1=>∃i hl y7 xs' us' x,σ=[some (.ref pa),some (.ref sl),some (.ref c),some (.ref el),some (.int (cw (aX (xs'.take i) 0 X).1 0)),some (.ref hl),some (.int ((i:Nat):Int)),y7]/\HeI H H1 sl c el hl rs X eu us' xs' i/\xs'.length=xs.length/\xs'[i]?=some x/\f6 x (cw (aX (xs'.take i) 0 X).1 0)/\(∀σ' H',(∃y6 y7 xs' us',σ'=[some (.ref pa),some (.ref sl),some (.ref c),some (.ref el),some (.int (cw (aX (xs'.take (i+1)) 0 X).1 0)),some (.ref hl),y6,y7]/\HeI H H' sl c el hl rs X eu us' xs' (i+1)/\xs'.length=xs.length)->D.nx σ' H'))
    (af (cq (pc GD hr (aa (ak (r:=aN K) am (pv 1) (pv 6) (λ_ _=>rfl)) (aa (pv 4) (aa (pv 2) ae)))) (oS rfl (bJ (aU (i:=4) nd rfl (Or.inl rfl)) (bJ (aU (i:=7) nd rfl (Or.inl rfl)) gX))))
    (aj (bq (cS PySem.F.plainAttrs_list PySem.F.slot_list_append PySem.F.type_list_append bX (pv 5) (aa (pv 4) ae))))) ?s2)))
  (aj (bq (cS PySem.F.plainAttrs_list PySem.F.slot_list_append PySem.F.type_list_append bX (pv 3) (aa (aK (aa aE (aa (pv 0) (aa (pc GT hr (aa aE (aa (pv 1) ae))) (aa (bK eC rfl B.tuple PyProof.Rows.boot_tuple (aa (pv 5) ae)) ae))))) ae)))))),?_⟩
 ·rintro D σ H1 ⟨i,hl,y7,xs',us',x,rfl,g,lxs,ex,nk,nx⟩
  obtain ⟨u,eu',tx⟩:=g.st.get1 ex
  have mx:=List.mem_of_getElem? ex
  have sz:aO (aX (xs'.take i) 0 X).2=aO X:=iL _ _ _
  refine ⟨_,rfl,_,rfl,sl,_,_,_,rfl,rfl,SqL.of g.fs,aB eu',_,rfl,_,rfl,c,rs,_,x,u,_,rfl,g.rw,(λm hm=>sm m (by rw [← sz];exact hm)),g.ar x mx,tx,by rw [sz];exact g.al x mx,λt ch H2 rw2 ht hch k2=>?_⟩
  have et:xs'.take (i+1)=xs'.take i++[x]:=by rw [List.take_add_one,ex];rfl
  have er:=jv x (xs'.take i) 0 X
  rw [← et] at er
  have li:=(List.getElem?_eq_some_iff.mp ex).1
  have lr:(aX (xs'.take i) 0 X).1.length<=12:=by rw [lY,List.length_take];have:=g.l12;omega
  have nhr:hl∉c::rs:=λm=>by
   have:=g.n1
   rcases List.mem_cons.mp m with z | m
   ·rw [z,rw0.l] at this;cases this
   ·obtain ⟨z,e⟩:=rw0.at m
    rw [e] at this;cases this
  have hl2:=k2 _ _ (λm=>nhr (List.mem_cons_of_mem _ m)) g.fh
  have nsl:sl∉rs:=λm=>ns1 (List.mem_cons_of_mem _ m)
  have nel:el∉rs:=λm=>ns2 (List.mem_cons_of_mem _ m)
  have ts2:bf H1 H2:=λb z e=>k2 _ _ (λm=>by
   obtain ⟨y,e'⟩:=g.rw.at m
   rw [e'] at e;cases e) e
  have nhs:hl≠sl:=λz=>by have:=g.n1;rw [z,hsl] at this;cases this
  have nhe:hl≠el:=λz=>by have:=g.n1;rw [z,hel] at this;cases this
  refine ⟨t,_,rfl,SqT.of ht,rfl,_,_,rfl,_,_,rfl,rfl,_,rfl,.inl ⟨rfl,_,SqL.of hl2⟩,_,rfl,hl,_,_,rfl,rfl,hl2,by rw [List.length_map];omega,nx _ _ ⟨some (.int ((i:Nat):Int)),some (.ref ch),xs',us',?_,⟨?_,?_,?_,?_,?_,g.ar,g.al,g.ne,g.l12,?_,?_,g.n1⟩,lxs⟩⟩
  ·rw [er,gu]
   rfl
  ·rw [er]
   exact rw2.upd nhr
  ·rw [er,List.map_append]
   exact ac
  ·rw [aq nhs.symm]
   exact k2 _ _ nsl g.fs
  ·exact (g.st.keep ts2).keep λb z e=>by
    rw [aq (qa e hl2 (by intro z;cases z))]
    exact e
  ·rw [aq nhe.symm]
   exact k2 _ _ nel g.fe
  ·intro j y hj ey
   rcases Nat.lt_succ_iff_lt_or_eq.mp hj with z | z
   ·exact g.ok j y z ey
   ·subst z
    rw [ex] at ey
    cases ey
    exact nk
  ·exact mC (g.kp.trans (k2.sub λb m=>List.mem_cons_of_mem _ m)) g.n1
 refine ⟨(by show 0<=sizeLine;decide),λhl nhl=>?_⟩
 have s1:=ai (o:=.lst []) nhl
 have g0:HeI H (upd H hl (.lst [])) sl c el hl rs X eu us xs 0:=⟨rw0.keep s1,ac,s1 _ _ hsl,st.keep s1.ts,s1 _ _ hel,ar,al,ne,l12,(λj x z=>absurd z (Nat.not_lt_zero j)),KpM.of s1,nhl⟩
 have pl:xs.length=us.length:=st.len
 refine ⟨_,rfl,sl,_,rfl,.inl (SqL.of g0.fs),_,rfl,by omega,by omega,?_⟩
 generalize (upd H hl (.lst []))=H1 at g0 ⊢
 refine bZ (n:=us.length) (λi σ H'=>∃y6 y7 xs' us',σ=[some (.ref pa),some (.ref sl),some (.ref c),some (.ref el),some (.int (cw (aX (xs'.take i) 0 X).1 0)),some (.ref hl),y6,y7]/\HeI H H' sl c el hl rs X eu us' xs' i/\xs'.length=xs.length) ⟨none,none,xs,us,rfl,g0,rfl⟩ ?_ ?_
 ·rintro i σ H2 hi ⟨y6,y7,xs',us',rfl,g,lxs⟩
  have ei:(0:Int)+(i:Nat)=((i:Nat):Int):=Int.zero_add _
  rw [ei]
  have li:i<xs'.length:=by omega
  obtain ⟨x,ex⟩:∃x,xs'[i]?=some x:=⟨_,List.getElem?_eq_getElem li⟩
  obtain ⟨u,eu',ta,rfl,hta⟩:=g.st.get1 ex
  have arx:=g.ar x (List.mem_of_getElem? ex)
  refine ⟨_,rfl,_,rfl,sl,_,_,_,rfl,rfl,SqL.of g.fs,aB eu',ta,_,_,_,rfl,rfl,SqT.of hta,St.at0,rfl,_,rfl,bb (λc1=>?_) (λc1=>a8 ?_)⟩
  ·have hx:x.1=.need:=cu c1
   obtain ⟨a,ea⟩:∃a,x.2=[a]:=by
    obtain ⟨wd,ns⟩:=x
    cases hx
    obtain ⟨a,e,_⟩:=arx.n
    exact ⟨a,e⟩
   have hta':=hta
   rw [ea] at hta'
   refine ⟨_,rfl,_,rfl,_,rfl,sl,_,_,_,rfl,rfl,SqL.of g.fs,aB eu',ta,_,_,_,rfl,rfl,SqT.of hta',St.at1,_,_,rfl,rfl,_,rfl,bb (λc2=>?_) (λc2=>?_)⟩
   ·refine ⟨(by show 2<=sizeLine;decide),λt2 n2=>?_⟩
    have s2:=ai (o:=.tup [.str "plus",.int 7]) n2
    have lus:us'.length=xs'.length:=g.st.len.symm
    refine ⟨_,rfl,_,rfl,sl,_,_,i,rfl,rfl,s2 _ _ g.fs,gw (by omega),?_⟩
    have sl2:=s2 _ _ g.fs
    have nsl:sl∉c::rs:=ns1
    have rw2:=(g.rw.keep s2).upd (o:=.lst (us'.set i (.ref t2))) nsl
    have ku:KpM [sl] (upd H2 t2 (.tup [.str "plus",.int 7])) (upd (upd H2 t2 (.tup [.str "plus",.int 7])) sl (.lst (us'.set i (.ref t2)))):=KpM.upd List.mem_cons_self
    have tsu:bf (upd H2 t2 (.tup [.str "plus",.int 7])) (upd (upd H2 t2 (.tup [.str "plus",.int 7])) sl (.lst (us'.set i (.ref t2)))):=λb z e=>ku _ _ (λm=>by rw [List.mem_singleton.mp m,sl2] at e;cases e) e
    have nhs:hl≠sl:=λz=>by have:=g.n1;rw [z,hsl] at this;cases this
    have i7:inV 7:=by unfold St.inV;decide +kernel
    refine ⟨i,hl,y7,xs'.set i (.plus,[7]),us'.set i (.ref t2),(.plus,[7]),?_,⟨?_,?_,ac,?_,?_,?_,?_,?_,?_,?_,?_,g.n1⟩,?_,?_,?_,fun σ' H' z=>z⟩
    ·rw [gQ]
     rfl
    ·rw [gQ]
     exact rw2
    ·rw [gQ]
     exact ku _ _ (λm=>nhs (List.mem_singleton.mp m)) (s2 _ _ g.fh)
    ·exact TsP.set ((g.st.keep s2.ts).keep tsu) ⟨t2,rfl,tsu _ _ ac⟩
    ·exact ku _ _ (λm=>ns3 (List.mem_singleton.mp m).symm) (s2 _ _ g.fe)
    ·intro y hy
     rcases List.mem_or_eq_of_mem_set hy with m | m
     ·exact g.ar y m
     ·rw [m];exact i7
    ·intro y hy
     rcases List.mem_or_eq_of_mem_set hy with m | m
     ·exact g.al y m
     ·rw [m];rfl
    ·intro z
     have:=congrArg List.length z
     rw [List.length_set] at this
     simp at this
     exact g.ne (List.length_eq_zero_iff.mp (by simp [this]))
    ·rw [List.length_set]
     exact g.l12
    ·intro j y hj ey
     rw [List.getElem?_set_ne (by omega)] at ey
     have e5:(xs'.set i (Wd.plus,[7])).take j=xs'.take j:=by rw [List.take_set_of_le (by omega)]
     rw [e5]
     exact g.ok j y hj ey
    ·exact λb o n e=>ku b o (λm=>n (by rw [List.mem_singleton.mp m];exact List.mem_cons_self)) (s2 _ _ (g.kp b o n e))
    ·rw [List.length_set]
     exact lxs
    ·rw [List.getElem?_set_self li]
    ·exact λz=>by cases z
   ·refine ⟨i,hl,y7,xs',us',x,rfl,g,lxs,ex,λ_ b eb=>?_,fun σ' H' z=>z⟩
    rw [ea] at eb
    cases eb
    have z:¬cw (aX (xs'.take i) 0 X).1 0<a:=λz=>c2 (decide_eq_true z)
    omega
  ·exact ⟨i,hl,y7,xs',us',x,rfl,g,lxs,ex,λz=>absurd z (bz (b:=.need) c1),fun σ' H' z=>z⟩
 ·rintro σ H2 ⟨y6,y7,xs',us',rfl,g,lxs⟩
  have e0:xs'.take us.length=xs':=by rw [← pl,← lxs];exact List.take_length
  have grw:=g.rw
  have ghl:=g.fh
  rw [e0] at grw ghl
  have hpa2:H2 pa=some (.tup [.int p.1,.int p.2]):=g.kp _ _ (λm=>by
   rcases List.mem_cons.mp m with z | m
   ·rw [z,hsl] at hpa;cases hpa
   ·obtain ⟨y,e⟩:=rw0.at m
    rw [e] at hpa;cases hpa) hpa
  refine ⟨_,rfl,.inl ⟨rfl,_,SqL.of g.fe⟩,_,rfl,_,rfl,false,sl,us',xs',rfl,g.fs,g.st,g.ar,g.l12,λH3 s3=>?_⟩
  refine ⟨_,rfl,hl,_,rfl,.inl ⟨SqL.of (s3 _ _ ghl),λht nht=>⟨(by show 4<=sizeLine;decide),λt nt=>?_⟩⟩⟩
  have s4:=ai (o:=.tup ((aX xs' 0 X).1.map V.int)) nht
  have s5:=ai (o:=.tup [.str "pact",.ref pa,.str (ptx (mS false) xs'),.ref ht]) nt
  have ss:=s3.trans (s4.trans s5)
  have hel5:=ss _ _ g.fe
  refine ⟨el,_,_,rfl,rfl,hel5,by omega,?_⟩
  have ku:KpM [el] (upd (upd H3 ht (.tup ((aX xs' 0 X).1.map V.int))) t (.tup [.str "pact",.ref pa,.str (ptx (mS false) xs'),.ref ht])) (upd (upd (upd H3 ht (.tup ((aX xs' 0 X).1.map V.int))) t (.tup [.str "pact",.ref pa,.str (ptx (mS false) xs'),.ref ht])) el (.lst (eu++[.ref t]))):=KpM.upd List.mem_cons_self
  have tsu:bf (upd (upd H3 ht (.tup ((aX xs' 0 X).1.map V.int))) t (.tup [.str "pact",.ref pa,.str (ptx (mS false) xs'),.ref ht])) (upd (upd (upd H3 ht (.tup ((aX xs' 0 X).1.map V.int))) t (.tup [.str "pact",.ref pa,.str (ptx (mS false) xs'),.ref ht])) el (.lst (eu++[.ref t]))):=λb z e=>ku _ _ (λm=>by rw [List.mem_singleton.mp m,hel5] at e;cases e) e
  refine q xs' t _ g.ar g.al g.ne g.l12 (λj y ey=>g.ok j y (by have:=(List.getElem?_eq_some_iff.mp ey).1;omega) ey) ((grw.keep ss).upd ns2) ac ⟨t,pa,_,rfl,tsu _ _ ac,tsu _ _ (ss _ _ hpa2),ht,rfl,tsu _ _ (s5 _ _ ac)⟩ ?_
  intro b o n e
  refine ku b o (λm=>n (by rw [List.mem_singleton.mp m];exact List.mem_cons_of_mem _ List.mem_cons_self)) (ss _ _ (g.kp b o (λm=>n ?_) e))
  rcases List.mem_cons.mp m with z | m
  ·rw [z];exact List.mem_cons_self
  ·exact List.mem_cons_of_mem _ (List.mem_cons_of_mem _ m)
structure Way where
 w:Addr
 pa:Addr
 sl:Addr
 al:Addr
 p:Pa
 xs:List Stp
 at_:Nat
 hand:Int
 ats:List Nat
 u:Bool
def nI(ns:List Nat):List V:=ns.map λn=>V.int ((n:Nat):Int)
structure WayA(H:Hp)(y:Way):Prop where
 fw:H y.w=some (.lst [.ref y.pa,.ref y.sl,.int ((y.at_:Nat):Int),.int y.hand,.ref y.al,.bl y.u])
 fp:H y.pa=some (.tup [.int y.p.1,.int y.p.2])
 fs:∃us,H y.sl=some (.lst us)/\TsP H y.xs us
 fa:H y.al=some (.lst (nI y.ats))
theorem WayA.fr{H H':Hp}{S:List Addr}{y:Way}(h:WayA H y)(k:KpM S H H')(t:bf H H')(n1:y.w∉S)(n2:y.sl∉S)(n3:y.al∉S):WayA H' y :=
 ⟨k _ _ n1 h.fw,t _ _ h.fp,let ⟨us,e,z⟩:=h.fs;⟨us,k _ _ n2 e,z.keep t⟩,k _ _ n3 h.fa⟩
theorem eM{H H':Hp}{S:List Addr}(k:KpM S H H')(n:∀b∈S,∃us,H b=some (.lst us)):bf H H':=λb xs e=>k _ _ (λm=>by
 obtain ⟨us,z⟩:=n b m
 rw [z] at e;cases e) e
theorem fE{H H':Hp}{a:Addr}{us:List V}(k:KpM [a] H H')(e:H a=some (.lst us)):bf H H':=λb xs z=>k _ _ (λm=>by
 rw [List.mem_singleton.mp m,e] at z;cases z) z
theorem cD{H:Hp}{c:Addr}{rs:List Addr}{X:List (List Int)}(r:Rows H c rs X):∀b∈rs,∃us,H b=some (.lst us):=λb m=>let ⟨xs,e⟩:=r.at m;⟨_,e⟩
structure WkP(xs:List Stp)(st:Nat)(h0:Int)(X:List (List Int))(k:Nat)(m:Int):Prop where
 le:st<=k
 lx:k<=xs.length
 ho:∀i y,st<=i->i<k->xs[i]?=some y->aP y.1 y.2=.non
 ok:okS ((xs.drop st).take (k-st)) h0 X
 em:cw (aX ((xs.drop st).take (k-st)) h0 X).1 h0=m
 ex:(aX ((xs.drop st).take (k-st)) h0 X).2=X
theorem WkP.next{xs:List Stp}{st k:Nat}{h0 m:Int}{X:List (List Int)}{x:Stp}(h:WkP xs st h0 X k m)(e:xs[k]?=some x)(ar:Ar x.1 x.2)(hx:aP x.1 x.2=.non)(nk:f6 x m):WkP xs st h0 X (k+1) (dnS x m X).1/\cp x (dnS x m X).2 X=X:=by
 have lk:=(List.getElem?_eq_some_iff.mp e).1
 have le:=h.le
 have et:(xs.drop st).take (k+1-st)=(xs.drop st).take (k-st)++[x]:=by
  have e1:k+1-st=(k-st)+1:=by omega
  rw [e1,List.take_add_one,List.getElem?_drop]
  have e2:st+(k-st)=k:=by omega
  rw [e2,e]
  rfl
 have er:=jv x ((xs.drop st).take (k-st)) h0 X
 rw [← et,h.em,h.ex] at er
 have ep:(dnS x m X).2=[]:=by
  obtain ⟨wd,ns⟩:=x
  have:wd=.plus\/wd=.need:=by
   by_cases h1:wd=.plus
   ·exact .inl h1
   by_cases h2:wd=.need
   ·exact .inr h2
   obtain ⟨z,r,_,ez⟩:=ar.home h1 h2
   rw [ez] at hx
   cases hx
  rcases this with rfl | rfl
  ·obtain ⟨a,rfl,_⟩:=ar.p
   rfl
  ·obtain ⟨a,rfl,_⟩:=ar.n
   rfl
 refine ⟨⟨by omega,by omega,λi y h1 h2 ey=>?_,λi y ey=>?_,by rw [er,gu],by rw [er,ep];rfl⟩,by rw [ep];rfl⟩
 ·rcases Nat.lt_succ_iff_lt_or_eq.mp h2 with z | z
  ·exact h.ho i y h1 z ey
  ·rw [z,e] at ey
   cases ey
   exact hx
 ·rw [et] at ey ⊢
  have ll:((xs.drop st).take (k-st)).length=k-st:=by rw [List.length_take,List.length_drop];omega
  by_cases hi:i<k-st
  ·rw [List.getElem?_append_left (by omega)] at ey
   rw [List.take_append_of_le_length (by omega)]
   exact h.ok i y ey
  ·have li:=(List.getElem?_eq_some_iff.mp ey).1
   rw [List.length_append,ll] at li
   have:i=k-st:=by simp at li;omega
   subst this
   rw [List.getElem?_append_right (by omega),ll,Nat.sub_self] at ey
   cases ey
   have e7:((xs.drop st).take (k-st)).take (k-st)=(xs.drop st).take (k-st):=List.take_of_length_le (by omega)
   rw [List.take_append_of_le_length (by omega),e7,h.em]
   exact nk
theorem pK{x:Stp}(ar:Ar x.1 x.2):x.2.length=1↔aP x.1 x.2=.non:=by
 obtain ⟨wd,ns⟩:=x
 cases wd with
 | take=>obtain ⟨a,b,rfl,_⟩:=ar.c rfl;exact ⟨λz=>(by cases z),λz=>(by cases z)⟩
 | mean=>obtain ⟨a,b,rfl,_⟩:=ar.c rfl;exact ⟨λz=>(by cases z),λz=>(by cases z)⟩
 | give=>obtain ⟨a,b,rfl,_⟩:=ar.c rfl;exact ⟨λz=>(by cases z),λz=>(by cases z)⟩
 | add=>obtain ⟨a,b,c,rfl,_⟩:=ar.a;exact ⟨λz=>(by cases z),λz=>(by cases z)⟩
 | sum=>obtain ⟨a,b,c,rfl,_⟩:=ar.s;exact ⟨λz=>(by cases z),λz=>(by cases z)⟩
 | plus=>obtain ⟨a,rfl,_⟩:=ar.p;exact ⟨λ_=>rfl,λ_=>rfl⟩
 | need=>obtain ⟨a,rfl,_⟩:=ar.n;exact ⟨λ_=>rfl,λ_=>rfl⟩
def FW(xs:List Stp)(st:Nat)(h0:Int)(X:List (List Int))(k:Nat)(cs:List (Int×Int))(h:Int)(X':List (List Int)):Prop:=pI xs st k/\okS ((xs.drop st).take (k-st)) h0 X /\
 ∃x,xs[k]?=some x/\dnS x (cw (aX ((xs.drop st).take (k-st)) h0 X).1 h0) (aX ((xs.drop st).take (k-st)) h0 X).2=(h,cs)/\X'=cp x cs (aX ((xs.drop st).take (k-st)) h0 X).2
def Dj(y:Way)(el c:Addr)(rs:List Addr):Prop:=(y.w::y.sl::y.al::el::c::rs).Nodup
def oE:Sp:=λvs H Q _=>∃y c rs X el eu,vs=[.ref (y:Way).w,.ref c,.ref el]/\WayA H y/\Rows H c rs X/\Sml X/\H el=some (.lst eu)/\eu.length<=900/\y.ats.length<=900/\Dj y el c rs/\ArS y.xs/\mW X y.xs/\y.xs.length<=12/\y.at_<=y.xs.length /\
 (∀H',Rows H' c rs X->KpM rs H H'->Q .non H') /\
 ∀k cs h X' t H',FW y.xs y.at_ y.hand X k cs h X'->Rows H' c rs X'->H' el=some (.lst (eu++[.ref t]))->EnA H' (.step y.p y.xs k cs h) (.ref t)->WayA H' {y with at_:=k+1,hand:=h,ats:=y.ats++[k]}->KpM (y.w::y.al::el::rs) H H'->Q .non H'
theorem u5(F:Fun K "_law_walk" "_law_walk" fQ f fd)(B:TxB mg)(GD:GF P w K mg base CX0 1 "_law_done" ["_law_step_here","_law_hand","_law_cells"] uK)(GT:GF P w K mg base CX0 1 "_law_text" ["_law_manner","_law_steps_here"] rW):FnOk P w K mg base CX0 2 f fd ["_law_way","_law_cells","_law_entries_here"] oE:=by
 refine F.ok sc__law_walk (λvs H Q E h=>?_) (λcdv A outer s H vs Q E hr h=>?_)
 ·obtain ⟨y,c,rs,X,el,eu,rfl,_⟩:=h
  rfl
 obtain ⟨y,c,rs,X,el,eu,rfl,wa,rw0,sm,hel,leu,lats,dj,ar,al,l12,lat,q1,q2⟩:=h
 have nd:=sc__law_walk.nd
 have hz:(1000:Nat)<=sizeLine:=by decide
 obtain ⟨us,hus,st⟩:=wa.fs
 have pl:y.xs.length=us.length:=st.len
 unfold Dj at dj
 simp only [List.nodup_cons,List.mem_cons,not_or] at dj
 obtain ⟨⟨d1,d2,d3,d4,d5⟩,⟨d6,d7,d8,d9⟩,⟨d10,d11,d12⟩,⟨d13,d14⟩,d15,d16⟩:=dj
 refine ⟨_,af (cq (bQ eO (pv 0) gW (bu ag)) (pZ rfl (bJ (aU (i:=3) nd rfl (Or.inl rfl)) (bJ (aU (i:=4) nd rfl (Or.inl rfl)) (bJ (aU (i:=5) nd rfl (Or.inl rfl)) (bJ (aU (i:=6) nd rfl (Or.inl rfl)) gX))))))
  (af (nE PassesOwn.never (PW.pt (gK (aw gA (pv 5) (ay aD rfl B.len PySem.boot_len (aa (pv 4) ae)) (az _)) (eU (aw a9 (ay aD rfl B.len PySem.boot_len (aa (ak (r:=aN K) am (pv 4) (pv 5) (λ_ _=>rfl)) ae)) ag (az _)))))
   (af (aJ (PW.pt (gK (aw a9 (ak (r:=aR K) aC (ak (r:=aN K) am (pv 4) (pv 5) (λ_ _=>rfl)) ag (λ_ _=>rfl)) aE (az _)) (eU (aw gA (pv 6) (ak (r:=aR K) aC (ak (r:=aN K) am (pv 4) (pv 5) (λ_ _=>rfl)) ag (λ_ _=>rfl)) (az _))))) (aj pY) aA)
   (eg (u:=λD σ H1=>∃k m y7 x,σ=[some (.ref y.w),some (.ref c),some (.ref el),some (.ref y.pa),some (.ref y.sl),some (.int ((k:Nat):Int)),some (.int m),y7]/\Rows H1 c rs X/\KpM rs H H1/\WkP y.xs y.at_ y.hand X k m/\y.xs[k]?=some x/\aP x.1 x.2=.non/\f6 x m/\(∀σ' H',(∃m' y7,σ'=[some (.ref y.w),some (.ref c),some (.ref el),some (.ref y.pa),some (.ref y.sl),some (.int ((k+1:Nat):Int)),some (.int m'),y7]/\Rows H' c rs X/\KpM rs H H'/\WkP y.xs y.at_ y.hand X (k+1) m')->D.nx σ' H'))
    (af (cq (pc GD hr (aa (ak (r:=aN K) am (pv 4) (pv 5) (λ_ _=>rfl)) (aa (pv 6) (aa (pv 1) ae)))) (oS rfl (bJ (aU (i:=6) nd rfl (Or.inl rfl)) (bJ (aU (i:=7) nd rfl (Or.inl rfl)) gX))))
    (aj (aI (i:=5) nd rfl (Or.inl rfl) (aF bc (pv 5) ag)))) ?s1)))
  (eg (u:=λD σ H1=>∃k m y7,σ=[some (.ref y.w),some (.ref c),some (.ref el),some (.ref y.pa),some (.ref y.sl),some (.int ((k:Nat):Int)),some (.int m),y7]/\Rows H1 c rs X/\KpM rs H H1/\WkP y.xs y.at_ y.hand X k m/\(∀x,y.xs[k]?=some x->aP x.1 x.2≠.non)/\∀σ' H',Q .non H'->D.nx σ' H')
   (aj (aJ (aw gA (pv 5) (ay aD rfl B.len PySem.boot_len (aa (pv 4) ae)) (az _))
    (af (cq (pc GD hr (aa (ak (r:=aN K) am (pv 4) (pv 5) (λ_ _=>rfl)) (aa (pv 6) (aa (pv 1) ae)))) (oS rfl (bJ (aU (i:=6) nd rfl (Or.inl rfl)) (bJ (aU (i:=7) nd rfl (Or.inl rfl)) gX))))
    (af (bq (cS PySem.F.plainAttrs_list PySem.F.slot_list_append PySem.F.type_list_append bX (pv 2) (aa (aK (aa aE (aa (pv 3) (aa (pc GT hr (aa aE (aa (pv 4) ae))) (aa (pv 5) (aa (pv 7) (aa (pv 6) ae))))))) ae)))
    (af (cq (aF bc (pv 5) ag) (eh (pv 0) ag ci))
    (af (cq (pv 6) (eh (pv 0) ag ci))
    (aj (bq (cS PySem.F.plainAttrs_list PySem.F.slot_list_append PySem.F.type_list_append bX (ak (r:=aN K) am (pv 0) ag (λ_ _=>rfl)) (aa (pv 5) ae))))))))
    aA)) ?s2)),?_⟩
 ·rintro D σ H1 ⟨k,m,y7,x,rfl,rw1,k1,wp,ex,hx,nk,nx⟩
  obtain ⟨u,eu',tx⟩:=st.get1 ex
  have mx:=List.mem_of_getElem? ex
  have ts1:=eM k1 (cD rw0)
  obtain ⟨wp',ep⟩:=wp.next ex (ar x mx) hx nk
  refine ⟨_,rfl,_,rfl,y.sl,_,_,_,rfl,rfl,SqL.of (k1 _ _ d9 hus),aB eu',_,rfl,_,rfl,c,rs,X,x,u,m,rfl,rw1,sm,ar x mx,jA ts1 tx,al x mx,λt ch H2 rw2 ht hch k2=>?_⟩
  rw [ep] at rw2
  refine ⟨t,_,rfl,SqT.of ht,rfl,_,_,rfl,_,_,rfl,rfl,_,rfl,_,_,rfl,rfl,nx _ _ ⟨(dnS x m X).1,some (.ref ch),?_,rw2,k1.trans k2,wp'⟩⟩
  have e1:((k+1:Nat):Int)=((k:Nat):Int)+1:=by omega
  rw [e1]
  rfl
 ·rintro D σ H1 ⟨k,m,y7,rfl,rw1,k1,wp,hh,nx⟩
  have hus1:=k1 _ _ d9 hus
  have ts1:=eM k1 (cD rw0)
  refine ⟨_,rfl,_,rfl,y.sl,_,rfl,.inl (SqL.of hus1),_,_,rfl,rfl,_,rfl,bb (λc1=>?_) (λc1=>nx _ _ (q1 H1 rw1 k1))⟩
  have lk:k<y.xs.length:=by have z:=of_decide_eq_true c1;omega
  obtain ⟨x,ex⟩:∃x,y.xs[k]?=some x:=⟨_,List.getElem?_eq_getElem lk⟩
  obtain ⟨u,eu',tx⟩:=st.get1 ex
  have mx:=List.mem_of_getElem? ex
  refine ⟨_,rfl,_,rfl,y.sl,_,_,_,rfl,rfl,SqL.of hus1,aB eu',_,rfl,_,rfl,c,rs,X,x,u,m,rfl,rw1,sm,ar x mx,jA ts1 tx,al x mx,λt ch H2 rw2 ht hch k2=>?_⟩
  have k02:=k1.trans k2
  have ts2:=eM k2 (cD rw1)
  have hus2:=k02 _ _ d9 hus
  have hel2:=k02 _ _ d14 hel
  have st2:=(st.keep ts1).keep ts2
  refine ⟨t,_,rfl,SqT.of ht,rfl,_,_,rfl,_,_,rfl,rfl,_,rfl,.inl ⟨rfl,_,SqL.of hel2⟩,_,rfl,_,rfl,true,y.sl,us,y.xs,rfl,hus2,st2,ar,l12,λH3 s3=>⟨_,rfl,_,rfl,_,rfl,(by show 6<=sizeLine;decide),λt6 n6=>?_⟩⟩
  obtain ⟨en,een⟩:∃en,HO.tup [.str "step",.ref y.pa,.str (ptx (mS true) y.xs),.int ((k:Nat):Int),.ref ch,.int (dnS x m X).1]=en:=⟨_,rfl⟩
  have s4:=ai (o:=en) n6
  have e6:(upd H3 t6 en) t6=some en:=ac
  have ss:=s3.trans s4
  refine ⟨el,eu,_,rfl,rfl,?_,by omega,?_⟩
  ·rw [een]
   exact ss _ _ hel2
  rw [een]
  generalize upd H3 t6 en=H4 at s4 ss e6 ⊢
  have hel4:=ss _ _ hel2
  have k5:KpM [el] H4 (upd H4 el (.lst (eu++[.ref t6]))):=KpM.upd List.mem_cons_self
  have ts5:bf H4 (upd H4 el (.lst (eu++[.ref t6]))):=fE k5 hel4
  have e5:(upd H4 el (.lst (eu++[.ref t6]))) el=some (.lst (eu++[.ref t6])):=ac
  have rw5:Rows (upd H4 el (.lst (eu++[.ref t6]))) c rs (cp x (dnS x m X).2 X):=(rw2.keep ss).upd (λm=>(List.mem_cons.mp m).elim d13 d14)
  generalize upd H4 el (.lst (eu++[.ref t6]))=H5 at k5 ts5 e5 rw5 ⊢
  have w5:H5 y.w=some (.lst [.ref y.pa,.ref y.sl,.int ((y.at_:Nat):Int),.int y.hand,.ref y.al,.bl y.u]):=k5 _ _ (λm=>d3 (List.mem_singleton.mp m)) (ss _ _ (k02 _ _ d5 wa.fw))
  have a5:H5 y.al=some (.lst (nI y.ats)):=k5 _ _ (λm=>d10 (List.mem_singleton.mp m)) (ss _ _ (k02 _ _ d12 wa.fa))
  have l5:H5 y.sl=some (.lst us):=k5 _ _ (λm=>d7 (List.mem_singleton.mp m)) (ss _ _ hus2)
  refine ⟨_,rfl,_,_,rfl,rfl,_,rfl,y.w,_,_,2,rfl,rfl,w5,rfl,?_⟩
  have k6:KpM [y.w] H5 (upd H5 y.w (.lst [.ref y.pa,.ref y.sl,.int (((k:Nat):Int)+1),.int y.hand,.ref y.al,.bl y.u])):=KpM.upd List.mem_cons_self
  have ts6:bf H5 (upd H5 y.w (.lst [.ref y.pa,.ref y.sl,.int (((k:Nat):Int)+1),.int y.hand,.ref y.al,.bl y.u])):=fE k6 w5
  have w6:(upd H5 y.w (.lst [.ref y.pa,.ref y.sl,.int (((k:Nat):Int)+1),.int y.hand,.ref y.al,.bl y.u])) y.w=some (.lst [.ref y.pa,.ref y.sl,.int (((k:Nat):Int)+1),.int y.hand,.ref y.al,.bl y.u]):=ac
  have rw6:Rows (upd H5 y.w (.lst [.ref y.pa,.ref y.sl,.int (((k:Nat):Int)+1),.int y.hand,.ref y.al,.bl y.u])) c rs (cp x (dnS x m X).2 X):=rw5.upd (λm=>(List.mem_cons.mp m).elim d4 d5)
  refine ⟨_,rfl,_,rfl,y.w,_,_,3,rfl,rfl,w6,rfl,?_⟩
  have a6:=k6 _ _ (λm=>d2 (List.mem_singleton.mp m).symm) a5
  have l6:=k6 _ _ (λm=>d1 (List.mem_singleton.mp m).symm) l5
  have e6':=k6 _ _ (λm=>d3 (List.mem_singleton.mp m).symm) e5
  have k7:KpM [y.w] (upd H5 y.w (.lst [.ref y.pa,.ref y.sl,.int (((k:Nat):Int)+1),.int y.hand,.ref y.al,.bl y.u])) (upd (upd H5 y.w (.lst [.ref y.pa,.ref y.sl,.int (((k:Nat):Int)+1),.int y.hand,.ref y.al,.bl y.u])) y.w (.lst [.ref y.pa,.ref y.sl,.int (((k:Nat):Int)+1),.int (dnS x m X).1,.ref y.al,.bl y.u])):=KpM.upd List.mem_cons_self
  have ts7:bf (upd H5 y.w (.lst [.ref y.pa,.ref y.sl,.int (((k:Nat):Int)+1),.int y.hand,.ref y.al,.bl y.u])) (upd (upd H5 y.w (.lst [.ref y.pa,.ref y.sl,.int (((k:Nat):Int)+1),.int y.hand,.ref y.al,.bl y.u])) y.w (.lst [.ref y.pa,.ref y.sl,.int (((k:Nat):Int)+1),.int (dnS x m X).1,.ref y.al,.bl y.u])):=fE k7 w6
  have w7:(upd (upd H5 y.w (.lst [.ref y.pa,.ref y.sl,.int (((k:Nat):Int)+1),.int y.hand,.ref y.al,.bl y.u])) y.w (.lst [.ref y.pa,.ref y.sl,.int (((k:Nat):Int)+1),.int (dnS x m X).1,.ref y.al,.bl y.u])) y.w=some (.lst [.ref y.pa,.ref y.sl,.int (((k:Nat):Int)+1),.int (dnS x m X).1,.ref y.al,.bl y.u]):=ac
  have rw7:Rows (upd (upd H5 y.w (.lst [.ref y.pa,.ref y.sl,.int (((k:Nat):Int)+1),.int y.hand,.ref y.al,.bl y.u])) y.w (.lst [.ref y.pa,.ref y.sl,.int (((k:Nat):Int)+1),.int (dnS x m X).1,.ref y.al,.bl y.u])) c rs (cp x (dnS x m X).2 X):=rw6.upd (λm=>(List.mem_cons.mp m).elim d4 d5)
  have a7:=k7 _ _ (λm=>d2 (List.mem_singleton.mp m).symm) a6
  have l7:=k7 _ _ (λm=>d1 (List.mem_singleton.mp m).symm) l6
  have e7:=k7 _ _ (λm=>d3 (List.mem_singleton.mp m).symm) e6'
  refine ⟨_,rfl,y.w,_,_,_,rfl,rfl,SqL.of w7,at4,.inl ⟨rfl,_,SqL.of a7⟩,_,rfl,y.al,_,_,rfl,rfl,a7,by unfold nI;rw [List.length_map];omega,?_⟩
  have k8:KpM [y.al] (upd (upd H5 y.w (.lst [.ref y.pa,.ref y.sl,.int (((k:Nat):Int)+1),.int y.hand,.ref y.al,.bl y.u])) y.w (.lst [.ref y.pa,.ref y.sl,.int (((k:Nat):Int)+1),.int (dnS x m X).1,.ref y.al,.bl y.u])) (upd (upd (upd H5 y.w (.lst [.ref y.pa,.ref y.sl,.int (((k:Nat):Int)+1),.int y.hand,.ref y.al,.bl y.u])) y.w (.lst [.ref y.pa,.ref y.sl,.int (((k:Nat):Int)+1),.int (dnS x m X).1,.ref y.al,.bl y.u])) y.al (.lst (nI y.ats++[.int ((k:Nat):Int)]))):=KpM.upd List.mem_cons_self
  have ts8:bf (upd (upd H5 y.w (.lst [.ref y.pa,.ref y.sl,.int (((k:Nat):Int)+1),.int y.hand,.ref y.al,.bl y.u])) y.w (.lst [.ref y.pa,.ref y.sl,.int (((k:Nat):Int)+1),.int (dnS x m X).1,.ref y.al,.bl y.u])) (upd (upd (upd H5 y.w (.lst [.ref y.pa,.ref y.sl,.int (((k:Nat):Int)+1),.int y.hand,.ref y.al,.bl y.u])) y.w (.lst [.ref y.pa,.ref y.sl,.int (((k:Nat):Int)+1),.int (dnS x m X).1,.ref y.al,.bl y.u])) y.al (.lst (nI y.ats++[.int ((k:Nat):Int)]))):=fE k8 a7
  have ts58:bf H4 (upd (upd (upd H5 y.w (.lst [.ref y.pa,.ref y.sl,.int (((k:Nat):Int)+1),.int y.hand,.ref y.al,.bl y.u])) y.w (.lst [.ref y.pa,.ref y.sl,.int (((k:Nat):Int)+1),.int (dnS x m X).1,.ref y.al,.bl y.u])) y.al (.lst (nI y.ats++[.int ((k:Nat):Int)]))):=λb z e=>ts8 _ _ (ts7 _ _ (ts6 _ _ (ts5 _ _ e)))
  have ts04:bf H H4:=λb z e=>ss.ts _ _ (ts2 _ _ (ts1 _ _ e))
  have fw:FW y.xs y.at_ y.hand X k (dnS x m X).2 (dnS x m X).1 (cp x (dnS x m X).2 X):=⟨⟨wp.le,wp.ho,x,ex,hh x ex⟩,wp.ok,x,ex,by rw [wp.em,wp.ex],by rw [wp.ex]⟩
  refine nx _ _ (q2 k _ _ _ t6 _ fw (rw7.upd (λm=>(List.mem_cons.mp m).elim d11 d12)) (k8 _ _ (λm=>d10 (List.mem_singleton.mp m).symm) e7) ⟨t6,y.pa,_,rfl,ts58 _ _ (by rw [e6,← een];rfl),ts58 _ _ (ts04 _ _ wa.fp),ch,rfl,(hch.keep ss.ts).keep ts58⟩ ⟨?_,ts58 _ _ (ts04 _ _ wa.fp),⟨us,k8 _ _ (λm=>d6 (List.mem_singleton.mp m)) l7,(st2.keep ss.ts).keep ts58⟩,?_⟩ ?_)
  ·have e1:(((k+1:Nat)):Int)=((k:Nat):Int)+1:=by omega
   show _=some (HO.lst [.ref y.pa,.ref y.sl,.int ((k+1:Nat):Int),.int (dnS x m X).1,.ref y.al,.bl y.u])
   rw [e1]
   exact k8 _ _ (λm=>d2 (List.mem_singleton.mp m)) w7
  ·show _=some (HO.lst (nI (y.ats++[k])))
   rw [ac]
   unfold nI
   rw [List.map_append]
   rfl
  ·intro b o n e
   simp only [List.mem_cons,not_or] at n
   obtain ⟨n1,n2,n3,n4⟩:=n
   exact k8 _ _ (λm=>n2 (List.mem_singleton.mp m)) (k7 _ _ (λm=>n1 (List.mem_singleton.mp m)) (k6 _ _ (λm=>n1 (List.mem_singleton.mp m)) (k5 _ _ (λm=>n3 (List.mem_singleton.mp m)) (ss _ _ (k02 _ _ n4 e)))))
 refine ⟨_,rfl,_,rfl,y.w,_,rfl,SqL.of wa.fw,λcl ncl=>?_⟩
 have s1:=ai (o:=.lst [.ref y.pa,.ref y.sl,.int ((y.at_:Nat):Int),.int y.hand]) ncl
 refine ⟨cl,[.ref y.pa,.ref y.sl,.int ((y.at_:Nat):Int),.int y.hand],rfl,SqL.of (by rw [ac];rfl),rfl,_,_,rfl,_,_,rfl,_,_,rfl,_,_,rfl,rfl,?_⟩
 have w0:WkP y.xs y.at_ y.hand X y.at_ y.hand:=⟨Nat.le_refl _,lat,(λi z h1 h2=>absurd h2 (by omega)),(λi z ez=>by rw [Nat.sub_self,List.take_zero] at ez;cases ez),by rw [Nat.sub_self,List.take_zero];rfl,by rw [Nat.sub_self,List.take_zero];rfl⟩
 refine ⟨λn σ H'=>∃k m y7,σ=[some (.ref y.w),some (.ref c),some (.ref el),some (.ref y.pa),some (.ref y.sl),some (.int ((k:Nat):Int)),some (.int m),y7]/\Rows H' c rs X/\KpM rs H H'/\WkP y.xs y.at_ y.hand X k m/\n=y.xs.length-k,⟨_,y.at_,y.hand,none,rfl,rw0.keep s1,KpM.of s1,w0,rfl⟩,?_⟩
 rintro n σ H1 ⟨k,m,y7,rfl,rw1,k1,wp,rfl⟩
 have hus1:=k1 _ _ d9 hus
 have ts1:=eM k1 (cD rw0)
 refine ⟨_,rfl,_,rfl,y.sl,_,rfl,.inl (SqL.of hus1),_,_,rfl,rfl,_,rfl,bb (λc1=>?_) (λc1=>a8 ⟨k,m,y7,rfl,rw1,k1,wp,λx ex=>?_,fun σ' H' z=>z⟩)⟩
 ·have lk:k<y.xs.length:=by have z:=of_decide_eq_true c1;omega
  obtain ⟨x,ex⟩:∃x,y.xs[k]?=some x:=⟨_,List.getElem?_eq_getElem lk⟩
  obtain ⟨u,eu',ta,rfl,hta⟩:=st.get1 ex
  have hta1:=ts1 _ _ hta
  have arx:=ar x (List.mem_of_getElem? ex)
  have l2:((V.str (wS x.1)::x.2.map V.int).length:Nat)=x.2.length+1:=by rw [List.length_cons,List.length_map]
  refine ⟨_,rfl,_,rfl,y.sl,_,_,_,rfl,rfl,SqL.of hus1,aB eu',ta,_,rfl,.inr (SqT.of hta1),rfl,_,rfl,?_⟩
  by_cases hx:aP x.1 x.2=.non
  ·have e2:x.2.length=1:=(pK arx).mpr hx
   refine bb (λ_=>?_) (λc2=>absurd (decide_eq_true (congrArg V.int (by rw [l2,e2];rfl))) c2)
   refine ⟨fun σ' H'=>∃m' y7,σ'=[some (.ref y.w),some (.ref c),some (.ref el),some (.ref y.pa),some (.ref y.sl),some (.int ((k+1:Nat):Int)),some (.int m'),y7]/\Rows H' c rs X/\KpM rs H H'/\WkP y.xs y.at_ y.hand X (k+1) m',fun σ' H' ⟨m',y7,e1,e2,e3,e4⟩=>⟨y.xs.length-(k+1),by omega,k+1,m',y7,e1,e2,e3,e4,rfl⟩,?_⟩
   refine ⟨_,rfl,_,rfl,y.sl,_,_,_,rfl,rfl,SqL.of hus1,aB eu',ta,_,_,_,rfl,rfl,SqT.of hta1,St.at0,rfl,_,rfl,bb (λc3=>?_) (λc3=>a8 ?_)⟩
   ·have hxn:x.1=.need:=cu c3
    obtain ⟨a,ea⟩:∃a,x.2=[a]:=by
     obtain ⟨wd,ns⟩:=x
     cases hxn
     obtain ⟨a,e,_⟩:=arx.n
     exact ⟨a,e⟩
    have hta':=hta1
    rw [ea] at hta'
    refine ⟨_,rfl,_,rfl,_,rfl,y.sl,_,_,_,rfl,rfl,SqL.of hus1,aB eu',ta,_,_,_,rfl,rfl,SqT.of hta',St.at1,_,_,rfl,rfl,_,rfl,bb (λc4=>q1 H1 rw1 k1) (λc4=>?_)⟩
    refine ⟨k,m,y7,x,rfl,rw1,k1,wp,ex,hx,λ_ b eb=>?_,fun σ' H' z=>z⟩
    rw [ea] at eb
    cases eb
    have z:¬m<a:=λz=>c4 (decide_eq_true z)
    omega
   ·exact ⟨k,m,y7,x,rfl,rw1,k1,wp,ex,hx,λz=>absurd z (bz (b:=.need) c3),fun σ' H' z=>z⟩
  ·have e2:x.2.length≠1:=λz=>hx ((pK arx).mp z)
   refine bb (λc2=>absurd (V.int.inj (of_decide_eq_true c2)) (by rw [l2];omega)) (λ_=>⟨k,m,y7,rfl,rw1,k1,wp,λx' ex'=>?_,fun σ' H' z=>z⟩)
   rw [ex] at ex'
   cases ex'
   exact hx
 ·have z:¬((k:Nat):Int)<((us.length:Nat):Int):=λz=>c1 (decide_eq_true z)
  have:=(List.getElem?_eq_some_iff.mp ex).1
  omega
def wz:Sp:=λvs H Q _=>∃y c rs X el eu,vs=[.ref (y:Way).w,.ref c,.ref el]/\WayA H y/\Rows H c rs X/\Sml X/\H el=some (.lst eu)/\eu.length<=900/\y.ats.length<=900/\Dj y el c rs/\ArS y.xs/\mW X y.xs/\y.xs.length<=12/\(∀j∈y.ats,∃x,y.xs[j]?=some x/\aP x.1 x.2≠.non) /\
 (∀H',Same H H'->Q .non H') /\
 ∀r k x t H',y.ats=r++[k]->(∀j∈y.ats,∃x,y.xs[j]?=some x/\x.1≠.give)->y.xs[k]?=some x->Rows H' c rs (cp x (bkS x X) X)->H' el=some (.lst (eu++[.ref t]))->EnA H' (.undo y.p y.xs k (bkS x X)) (.ref t)->WayA H' {y with ats:=r,u:=true}->KpM (y.w::y.al::el::rs) H H'->Q .non H'
theorem yj(F:Fun K "_law_back" "_law_back" cR f fd)(B:TxB mg)(GT:GF P w K mg base CX0 1 "_law_text" ["_law_manner","_law_steps_here"] rW):FnOk P w K mg base CX0 2 f fd ["_law_way","_law_cells","_law_entries_here"] wz:=by
 refine F.ok sc__law_back (λvs H Q E h=>?_) (λcdv A outer s H vs Q E hr h=>?_)
 ·obtain ⟨y,c,rs,X,el,eu,rfl,_⟩:=h
  rfl
 obtain ⟨y,c,rs,X,el,eu,rfl,wa,rw0,sm,hel,leu,lats,dj,ar,al,l12,hats,q1,q2⟩:=h
 have nd:=sc__law_back.nd
 have hz:(1000:Nat)<=sizeLine:=by decide
 obtain ⟨us,hus,st⟩:=wa.fs
 have pl:y.xs.length=us.length:=st.len
 unfold Dj at dj
 simp only [List.nodup_cons,List.mem_cons,not_or] at dj
 obtain ⟨⟨d1,d2,d3,d4,d5⟩,⟨d6,d7,d8,d9⟩,⟨d10,d11,d12⟩,⟨d13,d14⟩,d15,d16⟩:=dj
 refine ⟨_,af (cq (bQ eO (pv 0) gW (bu ag)) (pZ rfl (bJ (aU (i:=3) nd rfl (Or.inl rfl)) (bJ (aU (i:=4) nd rfl (by first | exact Or.inl rfl | exact Or.inr rfl)) gX))))
  (af (aJ (PW.pt (eF (aw (sQ (Nat.lt_of_succ_lt (xn hr))) (ak (r:=aN K) am (pv 0) ag (λ_ _=>rfl)) (cr ae) (az _)) (cX (aw (sO (Nat.lt_of_succ_lt (xn hr))) (dR jS rfl (bL (ak (r:=aN K) am (pv 0) ag (λ_ _=>rfl))) (λ_ _ _ _=>mj (aw a9 (ak (r:=aR K) aC (ak (r:=aN K) am (pv 1) (pv 0) (λ_ _=>rfl)) ag (λ_ _=>rfl)) aE (az _))) (λ_ _ _ _=>pv 0)) (cr ae) (az _))))) (aj pY) aA)
  (eg (u:=λD σ H1=>∃r k x,σ=[some (.ref y.w),some (.ref c),some (.ref el),some (.ref y.pa),some (.ref y.sl),none,none,none]/\Same H H1/\y.ats=r++[k]/\(∀j∈y.ats,∃x,y.xs[j]?=some x/\x.1≠.give)/\y.xs[k]?=some x/\aP x.1 x.2≠.non/\∀σ' H',Q .non H'->D.nx σ' H')
  (af (aI (i:=5) nd rfl (Or.inl rfl) (sL PySem.F.plainAttrs_list PySem.F.slot_list_pop PySem.F.type_list_pop w8 (ak (r:=aN K) am (pv 0) ag (λ_ _=>rfl))))
  (af (aI (i:=6) nd rfl (Or.inl rfl) (aK ae))
  (af (aJ (aw a9 (ak (r:=aR K) aC (ak (r:=aN K) am (pv 4) (pv 5) (λ_ _=>rfl)) ag (λ_ _=>rfl)) aE (az _))
   (af (aI (i:=7) nd rfl (Or.inl rfl) (ak (r:=aN K) am (pv 1) (ak (r:=aR K) aC (ak (r:=aN K) am (pv 4) (pv 5) (λ_ _=>rfl)) ag (λ_ _=>rfl)) (λ_ _=>rfl)))
   (af (cq (aF gN (ak (r:=aN K) am (pv 7) (ak (r:=aR K) aC (ak (r:=aN K) am (pv 4) (pv 5) (λ_ _=>rfl)) ag (λ_ _=>rfl)) (λ_ _=>rfl)) (ak (r:=aR K) aC (ak (r:=aN K) am (pv 4) (pv 5) (λ_ _=>rfl)) ag (λ_ _=>rfl))) (eh (pv 7) (ak (r:=aR K) aC (ak (r:=aN K) am (pv 4) (pv 5) (λ_ _=>rfl)) ag (λ_ _=>rfl)) ci))
   (aj (aI (i:=6) nd rfl (Or.inl rfl) (aK (aa (aK (aa (ak (r:=aR K) aC (ak (r:=aN K) am (pv 4) (pv 5) (λ_ _=>rfl)) ag (λ_ _=>rfl)) (aa (ak (r:=aN K) am (pv 7) (ak (r:=aR K) aC (ak (r:=aN K) am (pv 4) (pv 5) (λ_ _=>rfl)) ag (λ_ _=>rfl)) (λ_ _=>rfl)) ae))) ae)))))) aA)
  (eg (u:=λD σ H1=>∃r k x ch y7,σ=[some (.ref y.w),some (.ref c),some (.ref el),some (.ref y.pa),some (.ref y.sl),some (.int ((k:Nat):Int)),some (.ref ch),y7]/\y.ats=r++[k]/\(∀j∈y.ats,∃x,y.xs[j]?=some x/\x.1≠.give)/\y.xs[k]?=some x/\Rows H1 c rs (cp x (bkS x X) X)/\KpM (y.al::rs) H H1/\H1 y.al=some (.lst (nI r))/\ChT H1 (bkS x X) ch/\∀σ' H',Q .non H'->D.nx σ' H')
   (af (bq (cS PySem.F.plainAttrs_list PySem.F.slot_list_append PySem.F.type_list_append bX (pv 2) (aa (aK (aa aE (aa (pv 3) (aa (pc GT hr (aa aE (aa (pv 4) ae))) (aa (pv 5) (aa (pv 6) ae)))))) ae)))
   (aj (cq jX (eh (pv 0) ag ci)))) ?s2)))) ?s1)),?_⟩
 ·rintro D σ H1 ⟨r,k,x,ch,y7,rfl,ea,hg,ex,rw1,k1,a1,hch,nx⟩
  have tsA:bf H H1:=eM k1 (λb m=>(List.mem_cons.mp m).elim (λe=>⟨_,e▸wa.fa⟩) (cD rw0 b))
  have hus1:=k1 _ _ (λm=>(List.mem_cons.mp m).elim d6 d9) hus
  have hel1:=k1 _ _ (λm=>(List.mem_cons.mp m).elim (λe=>d10 e.symm) d14) hel
  have w1:=k1 _ _ (λm=>(List.mem_cons.mp m).elim d2 d5) wa.fw
  refine ⟨_,rfl,.inl ⟨rfl,_,SqL.of hel1⟩,_,rfl,_,rfl,true,y.sl,us,y.xs,rfl,hus1,st.keep tsA,ar,l12,λH3 s3=>⟨_,rfl,_,rfl,(by show 5<=sizeLine;decide),λt6 n6=>?_⟩⟩
  obtain ⟨en,een⟩:∃en,HO.tup [.str "undo",.ref y.pa,.str (ptx (mS true) y.xs),.int ((k:Nat):Int),.ref ch]=en:=⟨_,rfl⟩
  have s4:=ai (o:=en) n6
  have e6:(upd H3 t6 en) t6=some en:=ac
  have ss:=s3.trans s4
  refine ⟨el,eu,_,rfl,rfl,?_,by omega,?_⟩
  ·rw [een]
   exact ss _ _ hel1
  rw [een]
  generalize upd H3 t6 en=H4 at s4 ss e6 ⊢
  have hel4:=ss _ _ hel1
  have k5:KpM [el] H4 (upd H4 el (.lst (eu++[.ref t6]))):=KpM.upd List.mem_cons_self
  have ts5:bf H4 (upd H4 el (.lst (eu++[.ref t6]))):=fE k5 hel4
  have e5:(upd H4 el (.lst (eu++[.ref t6]))) el=some (.lst (eu++[.ref t6])):=ac
  have rw5:Rows (upd H4 el (.lst (eu++[.ref t6]))) c rs (cp x (bkS x X) X):=(rw1.keep ss).upd (λm=>(List.mem_cons.mp m).elim d13 d14)
  generalize upd H4 el (.lst (eu++[.ref t6]))=H5 at k5 ts5 e5 rw5 ⊢
  have w5:H5 y.w=some (.lst [.ref y.pa,.ref y.sl,.int ((y.at_:Nat):Int),.int y.hand,.ref y.al,.bl y.u]):=k5 _ _ (λm=>d3 (List.mem_singleton.mp m)) (ss _ _ w1)
  have a5:H5 y.al=some (.lst (nI r)):=k5 _ _ (λm=>d10 (List.mem_singleton.mp m)) (ss _ _ a1)
  have l5:H5 y.sl=some (.lst us):=k5 _ _ (λm=>d7 (List.mem_singleton.mp m)) (ss _ _ hus1)
  refine ⟨_,rfl,y.w,_,_,5,rfl,rfl,w5,rfl,?_⟩
  have k6:KpM [y.w] H5 (upd H5 y.w (.lst [.ref y.pa,.ref y.sl,.int ((y.at_:Nat):Int),.int y.hand,.ref y.al,.bl true])):=KpM.upd List.mem_cons_self
  have ts6:bf H5 (upd H5 y.w (.lst [.ref y.pa,.ref y.sl,.int ((y.at_:Nat):Int),.int y.hand,.ref y.al,.bl true])):=fE k6 w5
  have ts46:bf H4 (upd H5 y.w (.lst [.ref y.pa,.ref y.sl,.int ((y.at_:Nat):Int),.int y.hand,.ref y.al,.bl true])):=λb z e=>ts6 _ _ (ts5 _ _ e)
  have ts04:bf H H4:=λb z e=>ss.ts _ _ (tsA _ _ e)
  refine nx _ _ (q2 r k x t6 _ ea hg ex (rw5.upd (λm=>(List.mem_cons.mp m).elim d4 d5)) (k6 _ _ (λm=>d3 (List.mem_singleton.mp m).symm) e5) ⟨t6,y.pa,_,rfl,ts46 _ _ (by rw [e6,← een];rfl),ts46 _ _ (ts04 _ _ wa.fp),ch,rfl,(hch.keep ss.ts).keep ts46⟩ ⟨ac,ts46 _ _ (ts04 _ _ wa.fp),⟨us,k6 _ _ (λm=>d1 (List.mem_singleton.mp m).symm) l5,(st.keep ts04).keep ts46⟩,k6 _ _ (λm=>d2 (List.mem_singleton.mp m).symm) a5⟩ ?_)
  intro b o n e
  simp only [List.mem_cons,not_or] at n
  obtain ⟨n1,n2,n3,n4⟩:=n
  exact k6 _ _ (λm=>n1 (List.mem_singleton.mp m)) (k5 _ _ (λm=>n3 (List.mem_singleton.mp m)) (ss _ _ (k1 _ _ (λm=>(List.mem_cons.mp m).elim n2 n4) e)))
 ·rintro D σ H1 ⟨r,k,x,rfl,s1,ea,hg,ex,hx,nx⟩
  have w1:=s1 _ _ wa.fw
  have a1:=s1 _ _ wa.fa
  have hus1:=s1 _ _ hus
  have ea':nI y.ats=nI r++[.int ((k:Nat):Int)]:=by rw [ea];unfold nI;rw [List.map_append];rfl
  have e9:(nI y.ats)[(nI y.ats).length-1]?=some (.int ((k:Nat):Int)):=by rw [ea'];simp
  have e10:(nI y.ats).dropLast=nI r:=by rw [ea'];simp
  refine ⟨_,rfl,y.w,_,_,_,rfl,rfl,SqL.of w1,at4,.inl ⟨rfl,_,SqL.of a1⟩,y.al,_,_,rfl,rfl,a1,e9,?_⟩
  rw [e10]
  have k2:KpM [y.al] H1 (upd H1 y.al (.lst (nI r))):=KpM.upd List.mem_cons_self
  have ts2:bf H1 (upd H1 y.al (.lst (nI r))):=fE k2 a1
  have a2:(upd H1 y.al (.lst (nI r))) y.al=some (.lst (nI r)):=ac
  have rw2:Rows (upd H1 y.al (.lst (nI r))) c rs X:=(rw0.keep s1).upd (λm=>(List.mem_cons.mp m).elim d11 d12)
  have l2:=k2 _ _ (λm=>d6 (List.mem_singleton.mp m)) hus1
  generalize upd H1 y.al (.lst (nI r))=H2 at k2 ts2 a2 rw2 l2 ⊢
  refine ⟨(by show 0<=sizeLine;decide),λt0 n0=>?_⟩
  have s3:=ai (o:=.tup []) n0
  have t03:(upd H2 t0 (.tup [])) t0=some (.tup []):=ac
  generalize upd H2 t0 (.tup [])=H3 at s3 t03 ⊢
  have rw3:=rw2.keep s3
  have l3:=s3 _ _ l2
  have a3:=s3 _ _ a2
  obtain ⟨u,eu',ta,rfl,hta⟩:=st.get1 ex
  have hta3:=s3 _ _ (ts2 _ _ (s1 _ _ hta))
  have arx:=ar x (List.mem_of_getElem? ex)
  have kA:KpM (y.al::rs) H H3:=λb o n e=>s3 _ _ (k2 _ _ (λm=>n (by rw [List.mem_singleton.mp m];exact List.mem_cons_self)) (s1 _ _ e))
  refine ⟨_,rfl,_,rfl,y.sl,_,_,_,rfl,rfl,SqL.of l3,aB eu',ta,_,_,_,rfl,rfl,SqT.of hta3,St.at0,rfl,_,rfl,bb (λc1=>?_) (λc1=>?_)⟩
  ·have hxa:x.1=.add:=cu c1
   obtain ⟨ic,hou⟩:=gl (h:=0) arx (al x (List.mem_of_getElem? ex)) (λz=>by rw [hxa] at z;cases z)
   obtain ⟨j,row,hv,exr,er,ej⟩:=hou.resolve_left (λz=>hx z.1)
   obtain ⟨cc,d,e2⟩:∃cc d,x.2=[((j:Nat):Int),cc,d]:=by
    obtain ⟨wd,ns⟩:=x
    cases hxa
    obtain ⟨a',b',d',rfl,_⟩:=arx.a
    cases V.int.inj hv
    exact ⟨b',d',rfl⟩
   have cb:0<=cc/\cc<row.length:=by
    obtain ⟨wd,ns⟩:=x
    cases hxa
    cases e2
    obtain ⟨a',b',d',e',_,h2',_⟩:=arx.a
    cases e'
    rw [er] at ic
    exact ⟨h2'.1,ic⟩
   obtain ⟨c0,c1'⟩:=cb
   have hta':=hta3
   rw [e2] at hta'
   obtain ⟨r0,e0,hrow⟩:=rw3.r.get1 exr
   have at3':atI (V.str (wS x.1)::[((j:Nat):Int),cc,d].map V.int) 3=some (.int d):=aB (j:=3) rfl
   have e5:cc=((cc.toNat:Nat):Int):=(Int.toNat_of_nonneg c0).symm
   have lt:cc.toNat<row.length:=by omega
   have val:∀row':List Int,row'.length=row.length->atI (row'.map V.int) cc=some (.int (vl row' cc)):=λrow' el=>by
    have z:=aB (xs:=row'.map V.int) (j:=cc.toNat) (v:=.int (vl row' cc)) (by
     rw [List.getElem?_map,List.getElem?_eq_getElem (by omega)]
     unfold vl
     rw [List.getD,List.getElem?_eq_getElem (by omega)]
     rfl)
    rw [← e5] at z
    exact z
   have eb:bkS x X=[(cc,vl row cc-d)]:=by
    unfold bkS
    rw [er]
    obtain ⟨wd,ns⟩:=x
    cases hxa
    cases e2
    rfl
   have ixn:ixN (row.map V.int).length cc=some cc.toNat:=by
    rw [List.length_map]
    have z:=gw lt
    rw [← e5] at z
    exact z
   refine ⟨_,rfl,_,rfl,_,rfl,y.sl,_,_,_,rfl,rfl,SqL.of l3,aB eu',ta,_,_,_,rfl,rfl,SqT.of hta',St.at1,c,_,_,_,rfl,rfl,SqL.of rw3.l,aB (by rw [List.getElem?_map,e0];rfl),?_⟩
   refine ⟨_,rfl,_,rfl,_,rfl,y.sl,_,_,_,rfl,rfl,SqL.of l3,aB eu',ta,_,_,_,rfl,rfl,SqT.of hta',St.at2,r0,_,_,_,rfl,rfl,SqL.of hrow,val row rfl,_,rfl,_,rfl,y.sl,_,_,_,rfl,rfl,SqL.of l3,aB eu',ta,_,_,_,rfl,rfl,SqT.of hta',at3',_,_,rfl,rfl,_,rfl,_,rfl,_,rfl,y.sl,_,_,_,rfl,rfl,SqL.of l3,aB eu',ta,_,_,_,rfl,rfl,SqT.of hta',St.at2,r0,_,cc,cc.toNat,rfl,rfl,hrow,ixn,?_⟩
   have em:(row.map V.int).set cc.toNat (.int (vl row cc-d))=(row.set cc.toNat (vl row cc-d)).map V.int:=by rw [List.map_set]
   show (_:Prop)
   have mr:=List.mem_of_getElem? e0
   have k4:KpM rs H3 (upd H3 r0 (.lst ((row.map V.int).set cc.toNat (.int (vl row cc-d))))):=KpM.upd mr
   have rw4:Rows (upd H3 r0 (.lst ((row.map V.int).set cc.toNat (.int (vl row cc-d))))) c rs (cp x (bkS x X) X):=by
    have z:=rw3.put (xs:=row.set cc.toNat (vl row cc-d)) e0
    have e3:cp x (bkS x X) X=X.set j (row.set cc.toNat (vl row cc-d)):=by
     rw [eb]
     show lL X (hN x) cc.toNat (vl row cc-d)=_
     unfold lL
     rw [ej,List.getD,exr]
     rfl
    rw [e3,em]
    exact z
   have l4:=k4 _ _ d9 l3
   have a4:=k4 _ _ d12 a3
   have ts4:=eM k4 (cD rw3)
   have hr4:(upd H3 r0 (.lst ((row.map V.int).set cc.toNat (.int (vl row cc-d))))) r0=some (.lst ((row.set cc.toNat (vl row cc-d)).map V.int)):=by rw [ac,em]
   have v4:vl (row.set cc.toNat (vl row cc-d)) cc=vl row cc-d:=by
    unfold vl
    rw [List.getD,List.getElem?_set_self lt]
    rfl
   have va:=val (row.set cc.toNat (vl row cc-d)) (by rw [List.length_set])
   rw [v4] at va
   generalize eH:upd H3 r0 (.lst ((row.map V.int).set cc.toNat (.int (vl row cc-d))))=H4 at k4 rw4 l4 a4 ts4 hr4 ⊢
   have hta4:=ts4 _ _ hta'
   refine ⟨_,rfl,_,rfl,y.sl,_,_,_,rfl,rfl,SqL.of l4,aB eu',ta,_,_,_,rfl,rfl,SqT.of hta4,St.at2,_,rfl,_,rfl,_,rfl,y.sl,_,_,_,rfl,rfl,SqL.of l4,aB eu',ta,_,_,_,rfl,rfl,SqT.of hta4,St.at2,r0,_,_,_,rfl,rfl,SqL.of hr4,va,(by show 2<=sizeLine;decide),λt1 n1=>⟨(by show 1<=sizeLine;decide),λt2 n2=>?_⟩⟩
   have z1:=ai (o:=.tup [.int cc,.int (vl row cc-d)]) n1
   have z2:=ai (o:=.tup [.ref t1]) n2
   have zz:=z1.trans z2
   exact ⟨r,k,x,t2,some (.ref r0),rfl,ea,hg,ex,rw4.keep zz,λb o n e=>zz _ _ (k4 _ _ (λm=>n (List.mem_cons_of_mem _ m)) (kA _ _ n e)),zz _ _ a4,by rw [eb];exact ⟨_,ac,.cons ⟨t1,rfl,z2 _ _ ac⟩ .nil⟩,nx⟩
  ·have eb:bkS x X=[]:=by
    unfold bkS bk
    split
    ·rename_i h _
     exact absurd h (bz (b:=.add) c1)
    ·rfl
   exact ⟨r,k,x,t0,none,rfl,ea,hg,ex,by rw [eb];exact rw3,kA,a3,by rw [eb];exact ⟨[],t03,.nil⟩,nx⟩
 refine ⟨_,rfl,_,rfl,y.w,_,rfl,SqL.of wa.fw,λcl ncl=>?_⟩
 have s1:=ai (o:=.lst [.ref y.pa,.ref y.sl]) ncl
 refine ⟨cl,[.ref y.pa,.ref y.sl],rfl,SqL.of (by rw [ac];rfl),rfl,_,_,rfl,_,_,rfl,rfl,?_⟩
 have w1:(upd H cl (.lst [.ref y.pa,.ref y.sl])) y.w=_:=s1 _ _ wa.fw
 have a1:(upd H cl (.lst [.ref y.pa,.ref y.sl])) y.al=_:=s1 _ _ wa.fa
 have l1:=s1 _ _ hus
 refine ⟨_,rfl,y.w,_,_,_,rfl,rfl,SqL.of w1,at4,(by show 0<=sizeLine;decide),λe1 ne1=>⟨y.al,e1,_,rfl,rfl,SqL.of (ai ne1 _ _ a1),SqL.of ac,_,rfl,?_⟩⟩
 have s2:=ai (o:=.lst []) ne1
 have s02:=s1.trans s2
 have w2:=s2 _ _ w1
 have a2:=s2 _ _ a1
 have l2:=s2 _ _ l1
 refine bb (λ_=>cO (q1 _ s02)) (λc0=>?_)
 have ne:y.ats≠[]:=λz=>c0 (decide_eq_true (by rw [z];rfl))
 refine ⟨_,rfl,y.w,_,_,_,rfl,rfl,SqL.of w2,at4,y.al,rfl,⟨_,SqL.of a2⟩,?_⟩
 have ll:(nI y.ats).length=y.ats.length:=List.length_map _
 refine dq (xs:=nI y.ats) (λj ys H'=>H'=upd (upd H cl (.lst [.ref y.pa,.ref y.sl])) e1 (.lst [])/\(ys=[]->∀i∈y.ats.take j,∃x,y.xs[i]?=some x/\x.1≠.give)) ⟨rfl,λ_ i m=>by cases m⟩ (by omega) (λj ys H' _ z=>by rw [z.1];exact SqL.of a2) ?_ ?_
 ·rintro j u ys H' hu ⟨rfl,hy⟩
  unfold nI at hu
  rw [List.getElem?_map] at hu
  obtain ⟨n,en,rfl⟩:=Option.map_eq_some_iff.mp hu
  obtain ⟨x,ex,hx⟩:=hats n (List.mem_of_getElem? en)
  obtain ⟨u,eu',ta,rfl,hta⟩:=st.get1 ex
  have hta2:=s02 _ _ hta
  refine ⟨_,rfl,_,rfl,y.sl,_,_,_,rfl,rfl,SqL.of l2,aB eu',ta,_,_,_,rfl,rfl,SqT.of hta2,St.at0,rfl,_,rfl,bb (λc=>⟨_,rfl,rfl,λz=>absurd z (by simp)⟩) (λc=>⟨rfl,λz i mi=>?_⟩)⟩
  have et:y.ats.take (j+1)=y.ats.take j++[n]:=by rw [List.take_add_one,en];rfl
  rw [et] at mi
  rcases List.mem_append.mp mi with m | m
  ·exact hy z i m
  ·rw [List.mem_singleton.mp m]
   exact ⟨x,ex,bz (b:=.give) c⟩
 ·rintro ys H' ⟨rfl,hy⟩ l3 nl3
  have s3:=ai (o:=.lst ys) nl3
  rw [ll,List.take_length] at hy
  refine ⟨(by show 0<=sizeLine;decide),λe2 ne2=>⟨l3,e2,ys,rfl,rfl,SqL.of (ai ne2 _ _ ac),SqL.of ac,_,rfl,?_⟩⟩
  have s4:=ai (o:=.lst []) ne2
  have s04:=s02.trans (s3.trans s4)
  by_cases ey:ys=[]
  ·rw [decide_eq_true ey]
   rcases List.eq_nil_or_concat y.ats with z | ⟨r,k,ek⟩
   ·exact absurd z ne
   rw [List.concat_eq_append] at ek
   obtain ⟨x,ex,hx⟩:=hats k (by rw [ek];simp)
   exact a8 ⟨r,k,x,rfl,s04,ek,hy ey,ex,hx,fun σ' H' z=>z⟩
  ·rw [decide_eq_false ey]
   exact cO (q1 _ s04)
structure WIv(X0:List (List Int))(es:List En)(y:Way):Prop where
 fp:FitP true X0 y.xs
 bs:∀b∈nmF y.p es,(∃p' k' cs' h',b=.step p' y.xs k' cs' h')\/∃p' k' cs',b=.undo p' y.xs k' cs'
 lf:y.ats=left (nmF y.p es)
 un:b7 (nmF y.p es)<=(br (nmF y.p es)).length
 st:y.u=false->(∀b∈nmF y.p es,∃p' k' cs' h',b=.step p' y.xs k' cs' h')/\((nmF y.p es=[]/\y.at_=0/\y.hand=0)\/∃r p' k' cs',nmF y.p es=r++[.step p' y.xs k' cs' y.hand]/\y.at_=k'+1)
 la:y.at_<=y.xs.length
 ho:∀j∈y.ats,∃x,y.xs[j]?=some x/\aP x.1 x.2≠.non
theorem mF{b:Bool}{X X0:List (List Int)}{xs:List Stp}(e:aO X=aO X0)(h:FitP b X0 xs):FitP b X xs:=by
 unfold FitP at *
 rw [e]
 exact h
theorem vM{xs:List Stp}:∀{bs:List En},(∀b∈bs,∃p' k' cs' h',b=En.step p' xs k' cs' h')->b7 bs=0
 | [],_=>rfl
 | b::r,h=>by
  obtain ⟨p',k',cs',h',rfl⟩:=h b List.mem_cons_self
  have ih:=vM (bs:=r) λb m=>h b (List.mem_cons_of_mem _ m)
  unfold b7 at *
  rw [List.filter_cons]
  exact ih
theorem nQ(p:Pa)(es:List En)(e:En)(h:e.nm=p):nmF p (es++[e])=nmF p es++[e]:=by rw [mt,if_pos h]
theorem WIv.other{X0:List (List Int)}{es:List En}{y:Way}{e:En}(h:WIv X0 es y)(ne:e.nm≠y.p):WIv X0 (es++[e]) y:=by
 have en:nmF y.p (es++[e])=nmF y.p es:=by rw [mt,if_neg ne,List.append_nil]
 refine ⟨h.fp,?_,?_,?_,?_,h.la,h.ho⟩
 ·rw [en];exact h.bs
 ·rw [en];exact h.lf
 ·rw [en];exact h.un
 ·rw [en];exact h.st
theorem WIv.walk{X0 X X':List (List Int)}{es:List En}{y:Way}{k:Nat}{cs:List (Int×Int)}{hh:Int}(h:WIv X0 es y)(sz:aO X=aO X0)(hu:y.u=false)(fw:FW y.xs y.at_ y.hand X k cs hh X') :
  Fit X (nmF y.p es) (.step y.p y.xs k cs hh) X'/\WIv X0 (es++[.step y.p y.xs k cs hh]) {y with at_:=k+1,hand:=hh,ats:=y.ats++[k]}:=by
 obtain ⟨fh,ok,x,ex,ed,rfl⟩:=fw
 obtain ⟨s1,s2⟩:=h.st hu
 have hx:aP x.1 x.2≠.non:=by
  obtain ⟨_,_,x',ex',hx'⟩:=fh
  rw [ex] at ex'
  cases ex'
  exact hx'
 have u0:=vM s1
 have en:=nQ y.p es (.step y.p y.xs k cs hh) rfl
 have ep:br (nmF y.p es++[.step y.p y.xs k cs hh])=br (nmF y.p es)++[k]:=mn _ _
 have eu:b7 (nmF y.p es++[.step y.p y.xs k cs hh])=b7 (nmF y.p es):=jy _ _
 have lf0:left (nmF y.p es)=br (nmF y.p es):=by unfold left;rw [u0,Nat.sub_zero,List.take_length]
 refine ⟨⟨mF sz h.fp,y.at_,y.hand,s1,?_,fh,ok,x,ex,ed,rfl⟩,⟨h.fp,?_,?_,?_,λ_=>?_,?_,?_⟩⟩
 ·rcases s2 with ⟨a,b,c⟩ | ⟨r,p',k',cs',a,b⟩
  ·exact .inl ⟨a,b,c⟩
  ·exact .inr ⟨r,p',k',cs',a,b⟩
 ·show ∀b∈nmF y.p (es++[.step y.p y.xs k cs hh]),_
  rw [en]
  intro b m
  rcases List.mem_append.mp m with m | m
  ·exact h.bs b m
  ·rw [List.mem_singleton.mp m]
   exact .inl ⟨_,_,_,_,rfl⟩
 ·show y.ats++[k]=left (nmF y.p (es++[.step y.p y.xs k cs hh]))
  rw [en]
  unfold left
  rw [ep,eu,u0,Nat.sub_zero,List.take_length,h.lf,lf0]
 ·show b7 (nmF y.p (es++[.step y.p y.xs k cs hh]))<=(br (nmF y.p (es++[.step y.p y.xs k cs hh]))).length
  rw [en,ep,eu,u0]
  exact Nat.zero_le _
 ·show (∀b∈nmF y.p (es++[.step y.p y.xs k cs hh]),_)/\_
  rw [en]
  refine ⟨λb m=>?_,.inr ⟨nmF y.p es,y.p,k,cs,rfl,rfl⟩⟩
  rcases List.mem_append.mp m with m | m
  ·exact s1 b m
  ·rw [List.mem_singleton.mp m]
   exact ⟨_,_,_,_,rfl⟩
 ·have:=(List.getElem?_eq_some_iff.mp ex).1
  show k+1<=y.xs.length
  omega
 ·intro j m
  rcases List.mem_append.mp (show j∈y.ats++[k] from m) with m | m
  ·exact h.ho j m
  ·rw [List.mem_singleton.mp m]
   exact ⟨x,ex,hx⟩
theorem WIv.back{X0 X:List (List Int)}{es:List En}{y:Way}{r:List Nat}{k:Nat}{x:Stp}(h:WIv X0 es y)(sz:aO X=aO X0)(ea:y.ats=r++[k])(hg:∀j∈y.ats,∃x,y.xs[j]?=some x/\x.1≠.give)(ex:y.xs[k]?=some x) :
  Fit X (nmF y.p es) (.undo y.p y.xs k (bkS x X)) (cp x (bkS x X) X)/\WIv X0 (es++[.undo y.p y.xs k (bkS x X)]) {y with ats:=r,u:=true}:=by
 have lf:=h.lf
 have lr:left (nmF y.p es)=r++[k]:=by rw [← lf,ea]
 obtain ⟨x',ex',hx⟩:=h.ho k (by rw [ea];simp)
 rw [ex] at ex'
 cases ex'
 have en:=nQ y.p es (.undo y.p y.xs k (bkS x X)) rfl
 have ep:br (nmF y.p es++[.undo y.p y.xs k (bkS x X)])=br (nmF y.p es):=(mn _ _).trans (List.append_nil _)
 have eu:b7 (nmF y.p es++[.undo y.p y.xs k (bkS x X)])=b7 (nmF y.p es)+1:=jy _ _
 have lt:b7 (nmF y.p es)<(br (nmF y.p es)).length:=by
  have:=congrArg List.length lr
  unfold left at this
  rw [List.length_take,List.length_append,List.length_singleton] at this
  omega
 refine ⟨⟨mF sz h.fp,h.bs,λz=>?_,?_,?_,x,ex,hx,rfl,rfl⟩,⟨h.fp,?_,?_,?_,(λz=>by cases z),h.la,λj m=>h.ho j (by rw [ea];exact List.mem_append_left _ m)⟩⟩
 ·rw [z] at lr
  cases r<;>cases lr
 ·rw [lr]
  simp
 ·rw [← lf]
  exact hg
 ·show ∀b∈nmF y.p (es++[.undo y.p y.xs k (bkS x X)]),_
  rw [en]
  intro b m
  rcases List.mem_append.mp m with m | m
  ·exact h.bs b m
  ·rw [List.mem_singleton.mp m]
   exact .inr ⟨_,_,_,rfl⟩
 ·show r=left (nmF y.p (es++[.undo y.p y.xs k (bkS x X)]))
  rw [en]
  unfold left at lr ⊢
  rw [ep,eu]
  have e1:(br (nmF y.p es)).length-(b7 (nmF y.p es)+1)=(br (nmF y.p es)).length-b7 (nmF y.p es)-1:=by omega
  have e2:=congrArg List.dropLast lr
  rw [List.dropLast_concat] at e2
  rw [e1,← e2,List.dropLast_eq_take,List.take_take,List.length_take]
  congr 1
  omega
 ·show b7 (nmF y.p (es++[.undo y.p y.xs k (bkS x X)]))<=(br (nmF y.p (es++[.undo y.p y.xs k (bkS x X)]))).length
  rw [en,ep,eu]
  omega
theorem ua{X0 X:List (List Int)}{es:List En}{p:Pa}{xs:List Stp}(sz:aO X=aO X0)(hn:∀e∈es,e.nm≠p)(ar:ArS xs)(al:mW X xs)(ne:xs≠[])(l12:xs.length<=12)(ok:okS xs 0 X):Fit X (nmF p es) (.pact p xs (aX xs 0 X).1) (aX xs 0 X).2:=by
 refine ⟨⟨ar,ne,l12,λj hj x ex=>al x (List.mem_of_getElem? ex),λz=>by cases z⟩,?_,ok,rfl,rfl⟩
 unfold nmF
 exact List.filter_eq_nil_iff.mpr λe he z=>hn e he (of_decide_eq_true z)
def gv(xs:List Stp):Bool:=xs.any λx=>decide (x.1=.give)
def wt:Sp:=λvs H Q _=>∃pa p c q sz,vs=[.ref pa,.int c,.ref q]/\H pa=some (.tup [.int (p:Pa).1,.int p.2])/\Sz H q sz/\rC sz /\
 ∀y H',y.pa=pa->y.p=p->y.at_=0->y.hand=0->y.ats=[]->y.u=false->WayA H' y->ArS y.xs->(∀x∈y.xs,bF sz x=true)->y.xs≠[]->y.xs.length<=12->j2 y.xs y.xs.length->H y.w=none->H y.sl=none->H y.al=none->y.w≠y.sl->y.w≠y.al->y.sl≠y.al->Same H H'->Q (.ref y.w) H'
theorem ub(xs:List Stp)(x:Stp):gv (xs++[x])=(gv xs||decide (x.1=.give)):=by
 unfold gv
 rw [List.any_append]
 simp
theorem vt{xs:List Stp}(h:∀j x,xs[j]?=some x->gv (xs.take j)=true->x.1≠.need):j2 xs xs.length:=λj h1 h2 x ex=>by
 refine h j x ex ?_
 have hl:cI xs<xs.length:=Nat.lt_trans h1 h2
 have hg:=List.findIdx_getElem (p:=λx:Stp=>decide (x.1=Wd.give)) (xs:=xs) (w:=hl)
 unfold gv
 rw [List.any_eq_true]
 refine ⟨xs[cI xs]'hl,?_,hg⟩
 rw [List.mem_take_iff_getElem]
 exact ⟨cI xs,by omega,rfl⟩
structure NwI(H0 H:Hp)(sl:Addr)(sz:List Int)(us:List V)(xs:List Stp)(i:Nat):Prop where
 fs:H sl=some (.lst us)
 st:TsP H xs us
 ar:ArS xs
 th:∀x∈xs,bF sz x=true
 ne:xs≠[]
 l12:xs.length<=12
 nn:∀j x,j<i->xs[j]?=some x->gv (xs.take j)=true->x.1≠.need
 sm:Same H0 H
theorem yd(F:Fun K "_law_new_way" "_law_new_way" du f fd)(B:TxB mg)(GS:GF P w K mg base CX0 3 "_law_steps" ["_law_cell_here","_law_many","_law_sizes"] pT):FnOk P w K mg base CX0 4 f fd ["_law_p","_law_cell_here","_law_sizes"] wt:=by
 refine F.ok sc__law_new_way (λvs H Q E h=>?_) (λcdv A outer s H vs Q E hr h=>?_)
 ·obtain ⟨pa,p,c,q,sz,rfl,_⟩:=h
  rfl
 obtain ⟨pa,p,c,q0,sz,rfl,hpa,hq,szo,q⟩:=h
 have nd:=sc__law_new_way.nd
 have hz:(1000:Nat)<=sizeLine:=by decide
 refine ⟨_,af (aI (i:=3) nd rfl (Or.inl rfl) (pc GS hr (aa (pv 1) (aa (aF bc ag (aF bn (pv 1) ag)) (aa (pv 2) ae)))))
  (af (aI (i:=4) nd rfl (Or.inl rfl) jX)
  (af (cK PassesOwn.never rfl (bo rfl B.range (aa (ay aD rfl B.len PySem.boot_len (aa (pv 3) ae)) ae)) (aU (i:=5) nd rfl (Or.inl rfl))
   (af (aJ (PW.pt (gK (bD (pv 4)) (eU (aw a9 (ak (r:=aR K) aC (ak (r:=aN K) am (pv 3) (pv 5) (λ_ _=>rfl)) ag (λ_ _=>rfl)) aE (az _))))) (aj (cq (aK (aa aE (aa (aF bn (pv 1) ag) ae))) (eh (pv 3) (pv 5) ci))) aA)
   (eg (u:=λD σ H1=>∃i sl xs us x,σ=[some (.ref pa),some (.int c),some (.ref q0),some (.ref sl),some (.bl (gv (xs.take i))),some (.int ((i:Nat):Int))]/\NwI H H1 sl sz us xs i/\xs[i]?=some x/\(gv (xs.take i)=true->x.1≠.need)/\(∀σ' H',(∃xs' us' y5,σ'=[some (.ref pa),some (.int c),some (.ref q0),some (.ref sl),some (.bl (gv (xs'.take (i+1)))),y5]/\NwI H H' sl sz us' xs' (i+1)/\xs'.length=xs.length)->D.nx σ' H'))
    (aj (aI (i:=4) nd rfl (Or.inl rfl) (sI (pv 4) (fX (cn a9 (ak (r:=aR K) aC (ak (r:=aN K) am (pv 3) (pv 5) (λ_ _=>rfl)) ag (λ_ _=>rfl)) aE (az _)))))) ?s1)))
  (aj (au (cr (aa (pv 0) (aa (pv 3) (aa ag (aa ag (aa (cr ae) (aa jX ae))))))))))),?_⟩
 ·rintro D σ H1 ⟨i,sl,xs,us,x,rfl,g,ex,hn,nx⟩
  obtain ⟨u,eu,ta,rfl,hta⟩:=g.st.get1 ex
  have et:xs.take (i+1)=xs.take i++[x]:=by rw [List.take_add_one,ex];rfl
  have g':NwI H H1 sl sz us xs (i+1):=⟨g.fs,g.st,g.ar,g.th,g.ne,g.l12,λj y hj ey hgv=>by
   rcases Nat.lt_succ_iff_lt_or_eq.mp hj with z | z
   ·exact g.nn j y z ey hgv
   ·subst z
    rw [ex] at ey
    cases ey
    exact hn hgv,g.sm⟩
  refine ⟨_,rfl,_,rfl,?_⟩
  cases hgv:gv (xs.take i) with
  | true =>
   refine cO (nx _ _ ⟨xs,us,some (.int ((i:Nat):Int)),?_,g',rfl⟩)
   rw [et,ub,hgv]
   rfl
  | false =>
   refine a8 ⟨_,rfl,_,rfl,sl,_,_,_,rfl,rfl,SqL.of g.fs,aB eu,ta,_,_,_,rfl,rfl,SqT.of hta,St.at0,rfl,nx _ _ ⟨xs,us,some (.int ((i:Nat):Int)),?_,g',rfl⟩⟩
   rw [et,ub,hgv,Bool.false_or,← v7]
   rfl
 have e0:=Int.emod_nonneg c (show (12:Int)≠0 by decide)
 have e1:=Int.emod_lt_of_pos c (show (0:Int)<12 by decide)
 obtain ⟨n,en⟩:∃n:Nat,1+c%12=(n:Int):=⟨(1+c%12).toNat,by omega⟩
 refine ⟨_,rfl,_,rfl,_,_,rfl,rfl,(by show (0:Int)<12;decide),_,_,rfl,rfl,_,rfl,c,n,q0,sz,by show [V.int c,V.int (1+c%12),V.ref q0]++[]=_;rw [en];rfl,by omega,hq,szo,λsl us xs H1 s1 nsl hsl st lx ar th=>?_⟩
 have g0:NwI H H1 sl sz us xs 0:=⟨hsl,st,ar,th,(λz=>by rw [z] at lx;simp at lx;omega),by omega,(λj x z=>absurd z (Nat.not_lt_zero j)),s1⟩
 have pl:xs.length=us.length:=st.len
 refine ⟨_,rfl,sl,_,rfl,.inl (SqL.of hsl),_,rfl,by omega,by omega,?_⟩
 refine bZ (n:=us.length) (λi σ H'=>∃xs' us' y5,σ=[some (.ref pa),some (.int c),some (.ref q0),some (.ref sl),some (.bl (gv (xs'.take i))),y5]/\NwI H H' sl sz us' xs' i/\xs'.length=xs.length) ⟨xs,us,none,rfl,g0,rfl⟩ ?_ ?_
 ·rintro i σ H2 hi ⟨xs',us',y5,rfl,g,lxs⟩
  have ei:(0:Int)+(i:Nat)=((i:Nat):Int):=Int.zero_add _
  rw [ei]
  have li:i<xs'.length:=by omega
  obtain ⟨x,ex⟩:∃x,xs'[i]?=some x:=⟨_,List.getElem?_eq_getElem li⟩
  obtain ⟨u,eu',ta,rfl,hta⟩:=g.st.get1 ex
  have fin:∀{xs2:List Stp},xs2.length=xs'.length->∀(σ':L2.St) (H':Hp),(∃xs' us' y5,σ'=[some (.ref pa),some (.int c),some (.ref q0),some (.ref sl),some (.bl (gv (xs'.take (i+1)))),y5]/\NwI H H' sl sz us' xs' (i+1)/\xs'.length=xs2.length)->∃xs' us' y5,σ'=[some (.ref pa),some (.int c),some (.ref q0),some (.ref sl),some (.bl (gv (xs'.take (i+1)))),y5]/\NwI H H' sl sz us' xs' (i+1)/\xs'.length=xs.length:=λe σ' H' ⟨a,b,d,e1,e2,e3⟩=>⟨a,b,d,e1,e2,by omega⟩
  refine ⟨_,rfl,_,rfl,?_⟩
  cases hgv:gv (xs'.take i) with
  | false=>exact a8 (a8 ⟨i,sl,xs',us',x,by rw [hgv];rfl,g,ex,(λz=>by rw [hgv] at z;cases z),fin rfl⟩)
  | true =>
   refine cO ⟨_,rfl,_,rfl,sl,_,_,_,rfl,rfl,SqL.of g.fs,aB eu',ta,_,_,_,rfl,rfl,SqT.of hta,St.at0,rfl,_,rfl,bb (λc1=>?_) (λc1=>⟨i,sl,xs',us',x,by rw [hgv];rfl,g,ex,λ_=>bz (b:=.need) c1,fin rfl⟩)⟩
   refine ⟨_,rfl,_,_,rfl,rfl,(by show (0:Int)<9;decide),(by show 2<=sizeLine;decide),λt2 n2=>?_⟩
   have s2:=ai (o:=.tup [.str "plus",.int (c%9)]) n2
   have lus:us'.length=xs'.length:=g.st.len.symm
   refine ⟨_,rfl,_,rfl,sl,_,_,i,rfl,rfl,s2 _ _ g.fs,gw (by omega),?_⟩
   have sl2:=s2 _ _ g.fs
   have ku:KpM [sl] (upd H2 t2 (.tup [.str "plus",.int (c%9)])) (upd (upd H2 t2 (.tup [.str "plus",.int (c%9)])) sl (.lst (us'.set i (.ref t2)))):=KpM.upd List.mem_cons_self
   have tsu:=fE ku sl2
   have i9:inV (c%9):=by
    have e0:=Int.emod_nonneg c (show (9:Int)≠0 by decide)
    have e1:=Int.emod_lt_of_pos c (show (0:Int)<9 by decide)
    unfold St.inV
    have:(10:Nat) ^ 40=10000000000000000000000000000000000000000:=by decide +kernel
    rw [this]
    omega
   have et:(xs'.set i (Wd.plus,[c%9])).take i=xs'.take i:=gQ _ _ _
   refine ⟨i,sl,xs'.set i (.plus,[c%9]),us'.set i (.ref t2),(.plus,[c%9]),by rw [et,hgv];rfl,⟨ac,TsP.set ((g.st.keep s2.ts).keep tsu) ⟨t2,rfl,tsu _ _ ac⟩,λy hy=>?_,λy hy=>?_,λz=>?_,?_,λj y hj ey=>?_,λb o e=>?_⟩,?_,λ_ z=>(by cases z),fin (by rw [List.length_set])⟩
   ·rcases List.mem_or_eq_of_mem_set hy with m | m
    ·exact g.ar y m
    ·rw [m];exact i9
   ·rcases List.mem_or_eq_of_mem_set hy with m | m
    ·exact g.th y m
    ·rw [m];rfl
   ·have:=congrArg List.length z
    rw [List.length_set] at this
    simp at this
    exact g.ne (List.length_eq_zero_iff.mp (by simp [this]))
   ·rw [List.length_set]
    exact g.l12
   ·rw [List.getElem?_set_ne (by omega)] at ey
    have e5:(xs'.set i (Wd.plus,[c%9])).take j=xs'.take j:=by rw [List.take_set_of_le (by omega)]
    rw [e5]
    exact g.nn j y hj ey
   ·exact ku b o (λm=>by rw [List.mem_singleton.mp m,nsl] at e;cases e) (s2 _ _ (g.sm _ _ e))
   ·rw [List.getElem?_set_self li]
 ·rintro σ H2 ⟨xs',us',y5,rfl,g,lxs⟩
  have e9:xs'.length=us.length:=by omega
  refine ⟨_,rfl,_,rfl,(by show 0<=sizeLine;decide),λal nal=>⟨(by show 6<=sizeLine;decide),λwy nw=>?_⟩⟩
  have s3:=ai (o:=.lst []) nal
  have s4:=ai (o:=.lst [.ref pa,.ref sl,.int 0,.int 0,.ref al,.bl false]) nw
  have ss:=s3.trans s4
  have nnd:j2 xs' xs'.length:=vt λj x ex=>g.nn j x (by have:=(List.getElem?_eq_some_iff.mp ex).1;omega) ex
  have nal2:al≠sl:=λz=>by rw [z,g.fs] at nal;cases nal
  have nws:wy≠sl:=λz=>by rw [z,s3 _ _ g.fs] at nw;cases nw
  have nwa:wy≠al:=λz=>by rw [z,ac] at nw;cases nw
  refine q ⟨wy,pa,sl,al,p,xs',0,0,[],false⟩ _ rfl rfl rfl rfl rfl rfl ⟨ac,ss _ _ (g.sm _ _ hpa),⟨us',ss _ _ g.fs,g.st.keep ss.ts⟩,s4 _ _ ac⟩ g.ar g.th g.ne g.l12 nnd (none_of (g.sm.trans s3) nw) nsl (none_of g.sm nal) nws nwa nal2.symm (g.sm.trans ss)
structure WyI(H0 H:Hp)(g:Addr->Nat)(c qs:Addr)(rs:List Addr)(X0:List (List Int))(ys:List Way):Prop where
 rw:Rows H c rs X0
 fq:Sz H qs (aO X0)
 wy:∀y∈ys,WayA H y
 iv:∀y∈ys,FitP true X0 y.xs/\y.at_=0/\y.hand=0/\y.ats=[]/\y.u=false
 nms:∀i y,ys[i]?=some y->y.p=(((i:Nat):Int),0)
 gc:g c=1
 gq:g qs=3
 gr:∀a∈rs,g a=5
 gy:∀i y,ys[i]?=some y->g y.w=10+3*i/\g y.sl=11+3*i/\g y.al=12+3*i
 fr:∀y∈ys,H0 y.w=none/\H0 y.sl=none/\H0 y.al=none
 sm:Same H0 H
theorem uu{α:Type}{xs:List α}{x y:α}{i:Nat}(h:(xs++[x])[i]?=some y):xs[i]?=some y\/(i=xs.length/\y=x):=by
 by_cases hi:i<xs.length
 ·rw [List.getElem?_append_left hi] at h
  exact .inl h
 ·have li:=(List.getElem?_eq_some_iff.mp h).1
  rw [List.length_append,List.length_singleton] at li
  have:i=xs.length:=by omega
  subst this
  rw [List.getElem?_append_right (Nat.le_refl _),Nat.sub_self] at h
  cases h
  exact .inr ⟨rfl,rfl⟩
theorem WayA.live{H:Hp}{y:Way}(h:WayA H y):H y.w≠none/\H y.sl≠none/\H y.al≠none :=
 ⟨λz=>(by rw [h.fw] at z;cases z),λz=>(by obtain ⟨us,e,_⟩:=h.fs;rw [e] at z;cases z),λz=>(by rw [h.fa] at z;cases z)⟩
def g3(y:Way)(i:Nat)(g:Addr->Nat):Addr->Nat:=λa=>if a=y.w then 10+3*i else if a=y.sl then 11+3*i else if a=y.al then 12+3*i else g a
theorem xo{H:Hp}{y:Way}{i:Nat}{g:Addr->Nat}{a:Addr}(h:H a≠none)(h1:H y.w=none)(h2:H y.sl=none)(h3:H y.al=none):g3 y i g a=g a:=by
 unfold g3
 rw [if_neg (λ(z:a=y.w)=>h (by rw [z];exact h1)),if_neg (λ(z:a=y.sl)=>h (by rw [z];exact h2)),if_neg (λ(z:a=y.al)=>h (by rw [z];exact h3))]
theorem WyI.app{H0 H H':Hp}{g:Addr->Nat}{c qs:Addr}{rs:List Addr}{X0:List (List Int)}{ys:List Way}{y:Way}(h:WyI H0 H g c qs rs X0 ys)(s:Same H H')(wa:WayA H' y)(fp:FitP true X0 y.xs)(e1:y.at_=0)(e2:y.hand=0)(e3:y.ats=[])(e4:y.u=false)(ep:y.p=(((ys.length:Nat):Int),0))(n1:H y.w=none)(n2:H y.sl=none)(n3:H y.al=none)(d1:y.w≠y.sl)(d2:y.w≠y.al)(d3:y.sl≠y.al) :
  WyI H0 H' (g3 y ys.length g) c qs rs X0 (ys++[y]):=by
 have old:∀a,H a≠none->g3 y ys.length g a=g a:=λa z=>xo z n1 n2 n3
 refine ⟨h.rw.keep s,s _ _ h.fq,λz m=>?_,λz m=>?_,λi z e=>?_,?_,?_,λa m=>?_,λi z e=>?_,λz m=>?_,h.sm.trans s⟩
 ·rcases List.mem_append.mp m with m | m
  ·exact (h.wy z m).fr (S:=[]) (KpM.of s) s.ts (λm=>by cases m) (λm=>by cases m) (λm=>by cases m)
  ·rw [List.mem_singleton.mp m];exact wa
 ·rcases List.mem_append.mp m with m | m
  ·exact h.iv z m
  ·rw [List.mem_singleton.mp m];exact ⟨fp,e1,e2,e3,e4⟩
 ·rcases uu e with e | ⟨rfl,rfl⟩
  ·exact h.nms i z e
  ·exact ep
 ·rw [old c (λz=>by rw [h.rw.l] at z;cases z)]
  exact h.gc
 ·rw [old qs (λz=>by have e:H qs=some _:=h.fq;rw [e] at z;cases z)]
  exact h.gq
 ·rw [old a (λz=>by obtain ⟨xs,e⟩:=h.rw.at m;rw [e] at z;cases z)]
  exact h.gr a m
 ·rcases uu e with e | ⟨rfl,rfl⟩
  ·obtain ⟨l1,l2,l3⟩:=(h.wy z (List.mem_of_getElem? e)).live
   rw [old _ l1,old _ l2,old _ l3]
   exact h.gy i z e
  ·refine ⟨if_pos rfl,?_,?_⟩
   ·unfold g3
    rw [if_neg d1.symm,if_pos rfl]
   ·unfold g3
    rw [if_neg d2.symm,if_neg d3.symm,if_pos rfl]
 ·rcases List.mem_append.mp m with m | m
  ·exact h.fr z m
  ·rw [List.mem_singleton.mp m]
   exact ⟨none_of h.sm n1,none_of h.sm n2,none_of h.sm n3⟩
structure Tg(g:Addr->Nat)(el c wl qs ll:Addr)(rs:List Addr)(ys:List Way):Prop where
 e:g el=0
 c:g c=1
 w:g wl=2
 q:g qs=3
 l:g ll=4
 r:∀a∈rs,g a=5
 y:∀i y,ys[i]?=some y->g y.w=10+3*i/\g y.sl=11+3*i/\g y.al=12+3*i
structure LeI(H0 H:Hp)(g:Addr->Nat)(el c wl qs ll:Addr)(rs:List Addr)(X0 X:List (List Int))(es:List En)(eu:List V)(ys:List Way)(cs:List Int):Prop where
 rw:Rows H c rs X
 fe:H el=some (.lst eu)
 pe:Paired (EnA H) es eu
 fw:H wl=some (.lst (ys.map λy=>V.ref y.w))
 wy:∀y∈ys,WayA H y
 fq:Sz H qs (aO X0)
 fl:H ll=some (.lst (cs.map V.int))
 run:Run [] es X0 X
 nm:∀e∈es,e.nm.2<=((es.length:Nat):Int)
 iv:∀y∈ys,WIv X0 es y
 nms:∀i y,ys[i]?=some y->y.p=(((i:Nat):Int),0)
 l3:ys.length=3
 tg:Tg g el c wl qs ll rs ys
 kp:KpM rs H0 H
 f1:H0 el=none
 fr:∀y∈ys,H0 y.w=none/\H0 y.al=none
section
variable {H0 H H':Hp}{g:Addr->Nat}{el c wl qs ll:Addr}{rs:List Addr}{X0 X X':List (List Int)}{es:List En}{eu:List V}{ys:List Way}{cs:List Int}
theorem LeI.keep(h:LeI H0 H g el c wl qs ll rs X0 X es eu ys cs)(s:Same H H'):LeI H0 H' g el c wl qs ll rs X0 X es eu ys cs :=
 ⟨h.rw.keep s,s _ _ h.fe,Paired.mapP h.pe λ_ _ z=>z.keep s.ts,s _ _ h.fw,λy m=>(h.wy y m).fr (S:=[]) (KpM.of s) s.ts (λm=>by cases m) (λm=>by cases m) (λm=>by cases m),s _ _ h.fq,s _ _ h.fl,h.run,h.nm,h.iv,h.nms,h.l3,h.tg,h.kp.trans (KpM.of s),h.f1,h.fr⟩
theorem LeI.rows(h:LeI H0 H g el c wl qs ll rs X0 X es eu ys cs)(r:Rows H' c rs X)(k:KpM rs H H'):LeI H0 H' g el c wl qs ll rs X0 X es eu ys cs:=by
 have ts:=eM k (cD h.rw)
 have out:∀a,g a≠5->a∉rs:=λa n m=>n (h.tg.r a m)
 refine ⟨r,k _ _ (out _ (by rw [h.tg.e];decide)) h.fe,Paired.mapP h.pe λ_ _ z=>z.keep ts,k _ _ (out _ (by rw [h.tg.w];decide)) h.fw,λy m=>?_,k _ _ (out _ (by rw [h.tg.q];decide)) h.fq,k _ _ (out _ (by rw [h.tg.l];decide)) h.fl,h.run,h.nm,h.iv,h.nms,h.l3,h.tg,h.kp.trans k,h.f1,h.fr⟩
 obtain ⟨i,e⟩:=List.getElem?_of_mem m
 obtain ⟨t1,t2,t3⟩:=h.tg.y i y e
 exact (h.wy y m).fr k ts (out _ (by omega)) (out _ (by omega)) (out _ (by omega))
theorem LeI.one(h:LeI H0 H g el c wl qs ll rs X0 X es eu ys cs){i:Nat}{y y':Way}{e:En}{t:Addr}(ey:ys[i]?=some y)(en:e.nm=y.p)(ft:Fit X (nmF y.p es) e X')(iv':WIv X0 (es++[e]) y')(a1:y'.w=y.w)(a2:y'.sl=y.sl)(a3:y'.al=y.al)(a4:y'.p=y.p)
  (r:Rows H' c rs X')(fe:H' el=some (.lst (eu++[.ref t])))(ent:EnA H' e (.ref t))(wa:WayA H' y')(k:KpM (y.w::y.al::el::rs) H H'):LeI H0 H' g el c wl qs ll rs X0 X' (es++[e]) (eu++[.ref t]) (ys.set i y') cs:=by
 have my:=List.mem_of_getElem? ey
 have li:=(List.getElem?_eq_some_iff.mp ey).1
 obtain ⟨t1,t2,t3⟩:=h.tg.y i y ey
 have wy:=h.wy y my
 have ts:=eM k (λb m=>by
  rcases List.mem_cons.mp m with z | m
  ·exact ⟨_,z▸wy.fw⟩
  rcases List.mem_cons.mp m with z | m
  ·exact ⟨_,z▸wy.fa⟩
  rcases List.mem_cons.mp m with z | m
  ·exact ⟨_,z▸h.fe⟩
  ·exact cD h.rw b m)
 have out:∀a,g a≠10+3*i->g a≠12+3*i->g a≠0->g a≠5->a∉y.w::y.al::el::rs:=λa n1 n2 n3 n4 m=>by
  rcases List.mem_cons.mp m with z | m
  ·exact n1 (z▸t1)
  rcases List.mem_cons.mp m with z | m
  ·exact n2 (z▸t3)
  rcases List.mem_cons.mp m with z | m
  ·exact n3 (z▸h.tg.e)
  ·exact n4 (h.tg.r a m)
 have at_:∀{j:Nat} {z:Way},(ys.set i y')[j]?=some z->(j=i/\z=y')\/(j≠i/\ys[j]?=some z):=λ{j z} e=>by
  by_cases ji:i=j
  ·subst ji
   rw [List.getElem?_set_self li] at e
   cases e
   exact .inl ⟨rfl,rfl⟩
  ·rw [List.getElem?_set_ne ji] at e
   exact .inr ⟨λz=>ji z.symm,e⟩
 have mem_:∀{z:Way},z∈ys.set i y'->z=y'\/∃j,j≠i/\ys[j]?=some z:=λ{z} m=>by
  obtain ⟨j,e⟩:=List.getElem?_of_mem m
  rcases at_ e with ⟨_,e⟩ | ⟨n,e⟩
  ·exact .inl e
  ·exact .inr ⟨j,n,e⟩
 refine ⟨r,fe,(Paired.mapP h.pe λ_ _ z=>z.keep ts).app (.cons ent .nil),?_,λz m=>?_,k _ _ (out _ (by rw [h.tg.q];omega) (by rw [h.tg.q];omega) (by rw [h.tg.q];decide) (by rw [h.tg.q];decide)) h.fq,k _ _ (out _ (by rw [h.tg.l];omega) (by rw [h.tg.l];omega) (by rw [h.tg.l];decide) (by rw [h.tg.l];decide)) h.fl,Run.app h.run (by rw [List.nil_append,en];exact ft),λe' m=>?_,λz m=>?_,λj z e1=>?_,by rw [List.length_set];exact h.l3,⟨h.tg.e,h.tg.c,h.tg.w,h.tg.q,h.tg.l,h.tg.r,λj z e1=>?_⟩,λb o n e1=>?_,h.f1,λz m=>?_⟩
 ·have e1:(ys.set i y').map (λy=>V.ref y.w)=ys.map λy=>V.ref y.w:=by
   rw [List.map_set,a1]
   refine List.ext_getElem? λj=>?_
   by_cases ji:i=j
   ·subst ji
    rw [List.getElem?_set_self (by rw [List.length_map];exact li),List.getElem?_map,ey]
    rfl
   ·rw [List.getElem?_set_ne ji]
  rw [e1]
  exact k _ _ (out _ (by rw [h.tg.w];omega) (by rw [h.tg.w];omega) (by rw [h.tg.w];decide) (by rw [h.tg.w];decide)) h.fw
 ·rcases mem_ m with z' | ⟨j,nj,ej⟩
  ·rw [z'];exact wa
  ·obtain ⟨u1,u2,u3⟩:=h.tg.y j z ej
   exact (h.wy z (List.mem_of_getElem? ej)).fr k ts (out _ (by omega) (by omega) (by omega) (by omega)) (out _ (by omega) (by omega) (by omega) (by omega)) (out _ (by omega) (by omega) (by omega) (by omega))
 ·rw [List.length_append,List.length_singleton]
  rcases List.mem_append.mp m with m | m
  ·have:=h.nm e' m
   omega
  ·rw [List.mem_singleton.mp m,en,h.nms i y ey]
   show (0:Int)<=_
   omega
 ·rcases mem_ m with z' | ⟨j,nj,ej⟩
  ·rw [z'];exact iv'
  ·refine (h.iv z (List.mem_of_getElem? ej)).other ?_
   rw [en,h.nms i y ey,h.nms j z ej]
   intro z
   have:=congrArg Prod.fst z
   simp at this
   omega
 ·rcases at_ e1 with ⟨rfl,rfl⟩ | ⟨nj,ej⟩
  ·rw [a4];exact h.nms _ y ey
  ·exact h.nms j z ej
 ·rcases at_ e1 with ⟨rfl,rfl⟩ | ⟨nj,ej⟩
  ·rw [a1,a2,a3];exact ⟨t1,t2,t3⟩
  ·exact h.tg.y j z ej
 ·refine k b o (λm=>?_) (h.kp b o n e1)
  rcases List.mem_cons.mp m with z | m
  ·rw [z,(h.fr y my).1] at e1;cases e1
  rcases List.mem_cons.mp m with z | m
  ·rw [z,(h.fr y my).2] at e1;cases e1
  rcases List.mem_cons.mp m with z | m
  ·rw [z,h.f1] at e1;cases e1
  ·exact n m
 ·rcases mem_ m with z' | ⟨j,nj,ej⟩
  ·rw [z',a1,a3];exact h.fr y my
  ·exact h.fr z (List.mem_of_getElem? ej)
theorem LeI.dj(h:LeI H0 H g el c wl qs ll rs X0 X es eu ys cs){i:Nat}{y:Way}(ey:ys[i]?=some y):Dj y el c rs:=by
 obtain ⟨t1,t2,t3⟩:=h.tg.y i y ey
 have tc:=h.tg.c
 have te:=h.tg.e
 have ne:∀{a b:Addr},g a≠g b->a≠b:=λn z=>n (by rw [z])
 have nr:∀{a:Addr},g a≠5->a∉rs:=λn m=>n (h.tg.r _ m)
 unfold Dj
 simp only [List.nodup_cons,List.mem_cons,not_or]
 exact ⟨⟨ne (by omega),ne (by omega),ne (by omega),ne (by omega),nr (by omega)⟩,⟨ne (by omega),ne (by omega),ne (by omega),nr (by omega)⟩,⟨ne (by omega),ne (by omega),nr (by omega)⟩,⟨ne (by omega),nr (by omega)⟩,nr (by omega),h.rw.nd⟩
theorem LeI.held(h:LeI H0 H g el c wl qs ll rs X0 X es eu ys cs){sl:Addr}{p:Pa}{xs:List Stp}{t:Addr}{us:List V}(hp:p.2=((es.length:Nat):Int)+1)(ft:Fit X (nmF p es) (.pact p xs (aX xs 0 X).1) X')(nsl:H sl=none)(H1:Hp)(s:Same H H1)(hsl:H1 sl=some (.lst us))
  (r:Rows H' c rs X')(fe:H' el=some (.lst (eu++[.ref t])))(ent:EnA H' (.pact p xs (aX xs 0 X).1) (.ref t))(k:KpM (sl::el::rs) H1 H'):LeI H0 H' g el c wl qs ll rs X0 X' (es++[.pact p xs (aX xs 0 X).1]) (eu++[.ref t]) ys cs:=by
 have h1:=h.keep s
 have ts:=eM k (λb m=>by
  rcases List.mem_cons.mp m with z | m
  ·exact ⟨_,z▸hsl⟩
  rcases List.mem_cons.mp m with z | m
  ·exact ⟨_,z▸h1.fe⟩
  ·exact cD h1.rw b m)
 have out:∀a,H a≠none->g a≠0->g a≠5->a∉sl::el::rs:=λa n1 n3 n4 m=>by
  rcases List.mem_cons.mp m with z | m
  ·exact n1 (z▸nsl)
  rcases List.mem_cons.mp m with z | m
  ·exact n3 (z▸h.tg.e)
  ·exact n4 (h.tg.r a m)
 refine ⟨r,fe,(Paired.mapP h1.pe λ_ _ z=>z.keep ts).app (.cons ent .nil),k _ _ (out _ (λz=>by rw [h.fw] at z;cases z) (by rw [h.tg.w];decide) (by rw [h.tg.w];decide)) h1.fw,λy m=>?_,k _ _ (out _ (λz=>by have e:H qs=some _:=h.fq;rw [e] at z;cases z) (by rw [h.tg.q];decide) (by rw [h.tg.q];decide)) h1.fq,k _ _ (out _ (λz=>by rw [h.fl] at z;cases z) (by rw [h.tg.l];decide) (by rw [h.tg.l];decide)) h1.fl,Run.app h.run (by rw [List.nil_append];exact ft),λe' m=>?_,λy m=>?_,h.nms,h.l3,h.tg,λb o n e1=>?_,h.f1,h.fr⟩
 ·obtain ⟨i,e⟩:=List.getElem?_of_mem m
  obtain ⟨t1,t2,t3⟩:=h.tg.y i y e
  obtain ⟨l1,l2,l3⟩:=(h.wy y m).live
  exact (h1.wy y m).fr k ts (out _ l1 (by omega) (by omega)) (out _ l2 (by omega) (by omega)) (out _ l3 (by omega) (by omega))
 ·rw [List.length_append,List.length_singleton]
  rcases List.mem_append.mp m with m | m
  ·have:=h.nm e' m
   omega
  ·rw [List.mem_singleton.mp m]
   show p.2<=_
   omega
 ·obtain ⟨i,e⟩:=List.getElem?_of_mem m
  refine (h.iv y m).other ?_
  show p≠y.p
  rw [h.nms i y e]
  intro z
  rw [z] at hp
  have hp:(0:Int)=_:=hp
  omega
 ·refine k b o (λm=>?_) (h1.kp b o n e1)
  rcases List.mem_cons.mp m with z | m
  ·subst z
   have:=h.kp b o n e1
   rw [nsl] at this;cases this
  rcases List.mem_cons.mp m with z | m
  ·rw [z,h.f1] at e1;cases e1
  ·exact n m
end
def sf(K:PySem.W.Frag):Sp:=λvs H Q _=>∃sc ns c rs X0,vs=[.ref sc,.ref c]/\SqL K H sc ((ns:List Int).map V.int)/\ns.length<=63/\Rows H c rs X0/\rC (aO X0)/\∀el eu es X H',Rows H' c rs X->H' el=some (.lst eu)->Paired (EnA H') es eu->es.length<=36->Run [] es X0 X->KpM rs H H'->H el=none->Q (.ref el) H'
theorem xp(ns:List Int):∃cs:List Int,eB (ns.map V.int) (some 9) (some 45)=cs.map V.int/\cs.length<=36:=by
 have e1:HT.sIx (ns.map V.int).length 0 (some 9)=min 9 (ns.map V.int).length:=HT.dQ _ _ 9
 have e2:HT.sIx (ns.map V.int).length (ns.map V.int).length (some 45)=min 45 (ns.map V.int).length:=HT.dQ _ _ 45
 refine ⟨(ns.drop (min 9 (ns.map V.int).length)).take (min 45 (ns.map V.int).length-min 9 (ns.map V.int).length),?_,?_⟩
 ·unfold eB
  rw [e1,e2,List.map_take,List.map_drop]
 ·rw [List.length_take,List.length_drop]
  omega
theorem vI{X0:List (List Int)}{es:List En}{y:Way}(h:WIv X0 es y):y.ats.length<=es.length:=by
 rw [h.lf]
 unfold left
 rw [List.length_take]
 have h1:(br (nmF y.p es)).length<=(nmF y.p es).length:=List.length_filterMap_le _ _
 have h2:(nmF y.p es).length<=es.length:=List.length_filter_le _ _
 omega
theorem wX(F:Fun K "_law_entries" "_law_entries" bh f fd)(B:TxB mg)(GA:GF P w K mg base CX0 1 "_law_cell" ["_law_script","_law_k"] (lI K))(GN:GF P w K mg base CX0 4 "_law_new_way" ["_law_p","_law_cell_here","_law_sizes"] wt)(GS:GF P w K mg base CX0 3 "_law_steps" ["_law_cell_here","_law_many","_law_sizes"] pT)
  (GH:GF P w K mg base CX0 2 "_law_held" ["_law_p","_law_steps_here","_law_cells","_law_entries_here"] oK)(GW:GF P w K mg base CX0 2 "_law_walk" ["_law_way","_law_cells","_law_entries_here"] oE)(GB:GF P w K mg base CX0 2 "_law_back" ["_law_way","_law_cells","_law_entries_here"] wz):FnOk P w K mg base CX0 5 f fd ["_law_script","_law_cells"] (sf K):=by
 refine F.ok sc__law_entries (λvs H Q E h=>?_) (λcdv A outer s H vs Q E hr h=>?_)
 ·obtain ⟨sc,ns,c,rs,X0,rfl,_⟩:=h
  rfl
 obtain ⟨sc,ns,c,rs,X0,rfl,hS,l63,rw0,szo,q⟩:=h
 have nd:=sc__law_entries.nd
 have hz:(1000:Nat)<=sizeLine:=by decide
 have sm:Sml X0:=λm hm=>Int.le_trans (szo.2.2 m hm).2 (by decide)
 have lX:X0.length=(aO X0).length:=by unfold aO;rw [List.length_map]
 have lX5:=szo.2.1
 have lX1:=szo.1
 refine ⟨_,af (aI (i:=2) nd rfl (by first | exact Or.inl rfl | exact Or.inr rfl) (dR gU rfl (bL (pv 1)) (λ_ _ _ _=>bp) (λ_ _ _ _=>ay (r:=wG K) aD rfl B.len PySem.boot_len (aa (pv 0) ae))))
  (af (eI (iy:=3) gT rfl (bo rfl B.range (aa ag ae)) (λ_ _ _ _=>bp) (λ_ _ _ _=>pc GN hr (aa (aK (aa (pv 0) (aa ag ae))) (aa (pc GA hr (aa (pv 1) (aa (aF bc ag (pv 0)) ae))) (aa (pv 2) ae)))) nd rfl (Or.inl rfl))
  (af (aI (i:=4) nd rfl (Or.inl rfl) (cr ae))
  (af (cK PassesOwn.never rfl (bL (bQ eO (pv 0) (bu ag) (bu ag))) (aU (i:=5) nd rfl (Or.inl rfl))
   (aj (aJ (aw a9 (aF bn (pv 5) ag) ag (az _))
    (af (aI (i:=6) nd rfl (Or.inl rfl) (aK (aa (aF bn (aF g7 (pv 5) ag) (ay aD rfl B.len PySem.boot_len (aa (pv 2) ae))) (aa (aF bc (ay aD rfl B.len PySem.boot_len (aa (pv 4) ae)) ag) ae))))
    (aj (bq (pc GH hr (aa (pv 6) (aa (pc GS hr (aa (aF g7 (pv 5) ag) (aa (aF bc ag (aF bn (aF g7 (pv 5) ag) ag)) (aa (pv 2) ae)))) (aa (pv 1) (aa (pv 4) ae))))))))
    (aj (aJ (PW.pt (eF (bD (ak (r:=aN K) am (ak (r:=aN K) am (pv 3) (aF bn (pv 5) ag) (λ_ _=>rfl)) ag (λ_ _=>rfl))) (cX (aw a9 (aF bn (aF g7 (pv 5) ag) ag) ag (az _)))))
     (aj (bq (pc GB hr (aa (ak (r:=aN K) am (pv 3) (aF bn (pv 5) ag) (λ_ _=>rfl)) (aa (pv 1) (aa (pv 4) ae))))))
     (aj (bq (pc GW hr (aa (ak (r:=aN K) am (pv 3) (aF bn (pv 5) ag) (λ_ _=>rfl)) (aa (pv 1) (aa (pv 4) ae)))))))))))
  (aj (au (pv 4)))))),?_⟩
 refine ⟨_,rfl,c,rfl,⟨_,SqL.of rw0.l⟩,?_⟩
 refine qd rw0 (by omega) (λqs nqs=>?_)
 have s1:=ai (o:=.lst ((aO X0).map V.int)) nqs
 have hq1:Sz (upd H qs (.lst ((aO X0).map V.int))) qs (aO X0):=ac
 have rw1:=rw0.keep s1
 have hS1:=s1.seq hS
 have ncq:c≠qs:=ap rw0.l nqs
 generalize (upd H qs (.lst ((aO X0).map V.int)))=H1 at s1 hq1 rw1 hS1 ⊢
 have nrq:∀a∈rs,a≠qs:=λa m=>by
  obtain ⟨xs,e⟩:=rw0.at m
  exact ap e nqs
 have g0:WyI H H1 (λa=>if a=qs then 3 else if a=c then 1 else 5) c qs rs X0 []:=⟨rw1,hq1,(λy m=>by cases m),(λy m=>by cases m),(λi y e=>by cases e),(by show (if c=qs then 3 else if c=c then 1 else 5)=1;rw [if_neg ncq,if_pos rfl]),if_pos rfl,(λa m=>by
  show (if a=qs then 3 else if a=c then 1 else 5)=5
  rw [if_neg (nrq a m),if_neg (λ(z:a=c)=>rw0.nc (by rw [← z];exact m))]),(λi y e=>by cases e),(λy m=>by cases m),s1⟩
 refine ⟨_,rfl,by decide,by decide,?_⟩
 refine gi (n:=3) (λi vs H'=>∃ys g,vs=ys.map (λy:Way=>V.ref y.w)/\ys.length=i/\WyI H H' g c qs rs X0 ys) ⟨[],_,rfl,rfl,g0⟩ (by decide) ?_ ?_
 ·rintro i vs H2 hi ⟨ys,g,rfl,rfl,wi⟩
  refine eE ⟨_,rfl,(by show 2<=sizeLine;decide),λpa npa=>?_⟩
  have s2:=ai (o:=.tup [.int ((ys.length:Nat):Int),.int 0]) npa
  have hpa:(upd H2 pa (.tup [.int ((ys.length:Nat):Int),.int 0])) pa=some (.tup [.int ((ys.length:Nat):Int),.int 0]):=ac
  generalize (upd H2 pa (.tup [.int ((ys.length:Nat):Int),.int 0]))=H3 at s2 hpa ⊢
  have e6:(6:Int)+((ys.length:Nat):Int)=((6+ys.length:Nat):Int):=by omega
  refine ⟨_,rfl,_,rfl,_,_,rfl,rfl,sc,ns,6+ys.length,by show [V.ref sc,V.int (6+((ys.length:Nat):Int))]++[]=_;rw [e6];rfl,s2.seq (wi.sm.seq hS),_,rfl,pa,(((ys.length:Nat):Int),0),_,qs,aO X0,rfl,hpa,s2 _ _ wi.fq,szo,λy H4 a1 a2 a3 a4 a5 a6 wa ar th ne l12 nn n1 n2 n3 d1 d2 d3 s4=>?_⟩
  have fp:FitP true X0 y.xs:=⟨ar,ne,l12,λj hj x ex=>th x (List.mem_of_getElem? ex),λ_=>nn⟩
  exact ⟨ys++[y],_,by rw [List.map_append];rfl,by rw [List.length_append];rfl,wi.app (s2.trans s4) wa fp a3 a4 a5 a6 a2 (none_of s2 n1) (none_of s2 n2) (none_of s2 n3) d1 d2 d3⟩
 ·rintro vs H2 ⟨ys,g,rfl,l3,wi⟩ wl nwl
  have s3:=ai (o:=.lst (ys.map λy=>V.ref y.w)) nwl
  refine ⟨(by show 0<=sizeLine;decide),λel nel=>?_⟩
  have s4:=ai (o:=.lst []) nel
  obtain ⟨cs,ecs,lcs⟩:=xp ns
  have hS4:=(s3.trans s4).seq (wi.sm.seq hS)
  refine ⟨_,rfl,_,rfl,_,rfl,sc,_,rfl,hS4,λll nll=>?_⟩
  rw [ecs]
  have s5:=ai (o:=.lst (cs.map V.int)) nll
  have s25:=s3.trans (s4.trans s5)
  have nwe:wl≠el:=λz=>by rw [← z,ac] at nel;cases nel
  have nwll:wl≠ll:=λz=>by rw [← z,s4 _ _ ac] at nll;cases nll
  have nel2:el≠ll:=λz=>by rw [← z,ac] at nll;cases nll
  have old:∀a,H2 a≠none->a≠wl/\a≠el/\a≠ll:=λa z=>by
   cases ea:H2 a with
   | none=>exact absurd ea z
   | some o=>exact ⟨ap ea nwl,ap (s3 _ _ ea) nel,ap (s4 _ _ (s3 _ _ ea)) nll⟩
  obtain ⟨G,eG⟩:∃G:Addr->Nat,G=λa=>if a=wl then 2 else if a=el then 0 else if a=ll then 4 else g a:=⟨_,rfl⟩
  have oldG:∀a,H2 a≠none->G a=g a:=λa z=>by
   obtain ⟨o1,o2,o3⟩:=old a z
   rw [eG]
   show (if a=wl then 2 else if a=el then 0 else if a=ll then 4 else g a)=g a
   rw [if_neg o1,if_neg o2,if_neg o3]
  have tg:Tg G el c wl qs ll rs ys:=by
   refine ⟨?_,?_,?_,?_,?_,λa m=>?_,λi y e=>?_⟩
   ·rw [eG]
    show (if el=wl then 2 else if el=el then 0 else if el=ll then 4 else g el)=0
    rw [if_neg nwe.symm,if_pos rfl]
   ·rw [oldG c (λz=>by rw [wi.rw.l] at z;cases z)]
    exact wi.gc
   ·rw [eG]
    exact if_pos rfl
   ·rw [oldG qs (λz=>by have e:H2 qs=some _:=wi.fq;rw [e] at z;cases z)]
    exact wi.gq
   ·rw [eG]
    show (if ll=wl then 2 else if ll=el then 0 else if ll=ll then 4 else g ll)=4
    rw [if_neg nwll.symm,if_neg nel2.symm,if_pos rfl]
   ·rw [oldG a (λz=>by obtain ⟨xs,e⟩:=wi.rw.at m;rw [e] at z;cases z)]
    exact wi.gr a m
   ·obtain ⟨k1,k2,k3⟩:=(wi.wy y (List.mem_of_getElem? e)).live
    rw [oldG _ k1,oldG _ k2,oldG _ k3]
    exact wi.gy i y e
  have le0:LeI H (upd (upd (upd H2 wl (.lst (ys.map λy=>V.ref y.w))) el (.lst [])) ll (.lst (cs.map V.int))) G el c wl qs ll rs X0 X0 [] [] ys cs:=by
   refine ⟨wi.rw.keep s25,s5 _ _ ac,.nil,s5 _ _ (s4 _ _ ac),λy m=>(wi.wy y m).fr (S:=[]) (KpM.of s25) s25.ts (λm=>by cases m) (λm=>by cases m) (λm=>by cases m),s25 _ _ wi.fq,ac,rfl,(λe m=>by cases m),λy m=>?_,wi.nms,l3,tg,KpM.of (wi.sm.trans s25),none_of (wi.sm.trans s3) nel,λy m=>⟨(wi.fr y m).1,(wi.fr y m).2.2⟩⟩
   obtain ⟨f1,f2,f3,f4,f5⟩:=wi.iv y m
   exact ⟨f1,(λb m=>by cases m),f4,Nat.le_refl _,λ_=>⟨(λb m=>by cases m),.inl ⟨rfl,f2,f3⟩⟩,by rw [f2];exact Nat.zero_le _,(λj m=>by rw [f4] at m;cases m)⟩
  generalize (upd (upd (upd H2 wl (.lst (ys.map λy=>V.ref y.w))) el (.lst [])) ll (.lst (cs.map V.int)))=H5 at le0 ⊢
  refine ⟨ll,rfl,⟨_,SqL.of le0.fl⟩,?_⟩
  refine on (xs:=cs.map V.int) (λi σ H'=>∃y5 y6 X es eu ys,σ=[some (.ref sc),some (.ref c),some (.ref qs),some (.ref wl),some (.ref el),y5,y6]/\LeI H H' G el c wl qs ll rs X0 X es eu ys cs/\es.length<=i) ⟨none,none,X0,[],[],ys,rfl,le0,Nat.le_refl _⟩ (λi σ H' _ z=>by obtain ⟨_,_,_,_,_,_,_,z,_⟩:=z;exact SqL.of z.fl) ?_ ?_
  ·rintro i u σ H6 hu ⟨y5,y6,X,es,eu,ys,rfl,le,li⟩
   rw [List.getElem?_map] at hu
   obtain ⟨n,en,rfl⟩:=Option.map_eq_some_iff.mp hu
   have hi:i<36:=by have:=(List.getElem?_eq_some_iff.mp en).1;omega
   have szX:aO X=aO X0:=le.run.sz
   have smX:Sml X:=λm hm=>sm m (by rw [← szX];exact hm)
   have leu:es.length=eu.length:=le.pe.len
   refine ⟨_,rfl,_,_,rfl,rfl,(by show (0:Int)<4;decide),rfl,_,rfl,bb (λc1=>?_) (λc1=>?_)⟩
   ·have lsz:((aO X0).map V.int).length=(aO X0).length:=List.length_map _
    refine ⟨_,rfl,_,_,rfl,rfl,⟨by decide,by decide⟩,_,rfl,qs,_,rfl,.inl (SqL.of le.fq),_,_,rfl,rfl,by rw [lsz];omega,_,rfl,el,_,rfl,.inl (SqL.of le.fe),_,_,rfl,rfl,(by show 2<=sizeLine;decide),λpa npa=>?_⟩
    have s7:=ai (o:=.tup [.int (n/4%((((aO X0).map V.int).length:Nat):Int)),.int (((eu.length:Nat):Int)+1)]) npa
    have hpa:(upd H6 pa (.tup [.int (n/4%((((aO X0).map V.int).length:Nat):Int)),.int (((eu.length:Nat):Int)+1)])) pa=_:=ac
    have le7:=le.keep s7
    have e0:=Int.emod_nonneg (n/4) (show (5:Int)≠0 by decide)
    have e1:=Int.emod_lt_of_pos (n/4) (show (0:Int)<5 by decide)
    obtain ⟨m,em⟩:∃m:Nat,1+n/4%5=(m:Int):=⟨(1+n/4%5).toNat,by omega⟩
    refine ⟨_,rfl,_,rfl,_,_,rfl,rfl,⟨by decide,by decide⟩,_,rfl,_,_,rfl,rfl,⟨by decide,by decide⟩,_,_,rfl,rfl,(by show (0:Int)<5;decide),_,_,rfl,rfl,_,rfl,_,m,qs,aO X0,by show [V.int (n/20),V.int (1+n/4%5),V.ref qs]++[]=_;rw [em];rfl,by omega,le7.fq,szo,λsl us xs H8 s8 nsl hsl st lx ar th=>?_⟩
    have le8:=le7.keep s8
    refine ⟨_,rfl,_,rfl,pa,(n/4%((((aO X0).map V.int).length:Nat):Int),((eu.length:Nat):Int)+1),sl,us,xs,c,rs,X,el,eu,rfl,s8 _ _ hpa,hsl,st,ar,λx hx=>by rw [szX];exact th x hx,(λz=>by rw [z] at lx;simp at lx;omega),by omega,le8.rw,smX,le8.fe,by omega,?_,?_,?_,λxs' t H9 ar' al' ne' l12' ok' rw9 fe9 en9 k9=>?_⟩
    ·intro m'
     rcases List.mem_cons.mp m' with z | m'
     ·rw [z,le7.rw.l] at nsl;cases nsl
     ·obtain ⟨z,e⟩:=le7.rw.at m'
      rw [e] at nsl;cases nsl
    ·intro m'
     rcases List.mem_cons.mp m' with z | m'
     ·have:=le.tg.e
      rw [z,le.tg.c] at this
      cases this
     ·have:=le.tg.r _ m'
      rw [le.tg.e] at this
      cases this
    ·intro z
     rw [z,le7.fe] at nsl;cases nsl
    ·have ft:Fit X (nmF (n/4%((((aO X0).map V.int).length:Nat):Int),((eu.length:Nat):Int)+1) es) _ _:=ua (p:=(n/4%((((aO X0).map V.int).length:Nat):Int),((eu.length:Nat):Int)+1)) szX (λe m' z=>by
      have:=le.nm e m'
      rw [z] at this
      have:((eu.length:Nat):Int)+1<=_:=this
      omega) ar' al' ne' l12' ok'
     exact ⟨_,_,_,_,_,ys,rfl,le7.held (by show ((eu.length:Nat):Int)+1=_;omega) ft nsl H8 s8 hsl rw9 fe9 en9 k9,by rw [List.length_append,List.length_singleton];omega⟩
   ·have m0:=Int.emod_nonneg n (show (4:Int)≠0 by decide)
    have m4:=Int.emod_lt_of_pos n (show (0:Int)<4 by decide)
    have m3:n%4≠3:=λz=>c1 (decide_eq_true (congrArg V.int z))
    have l3':=le.l3
    obtain ⟨j,ej⟩:∃j:Nat,n%4=(j:Int):=⟨(n%4).toNat,by omega⟩
    obtain ⟨y,ey⟩:∃y,ys[j]?=some y:=⟨_,List.getElem?_eq_getElem (by omega)⟩
    have my:=List.mem_of_getElem? ey
    have wa:=le.wy y my
    have iv:=le.iv y my
    have aty:atI (ys.map λy=>V.ref y.w) (n%4)=some (.ref y.w):=by
     rw [ej]
     exact aB (by rw [List.getElem?_map,ey];rfl)
    have alX:mW X y.xs:=(mF szX iv.fp).all
    have lat:=vI iv
    refine ⟨_,rfl,_,rfl,_,_,rfl,rfl,(by show (0:Int)<4;decide),wl,_,_,_,rfl,rfl,SqL.of le.fw,aty,y.w,_,_,_,rfl,rfl,SqL.of wa.fw,at5,_,rfl,?_⟩
    cases hu:y.u with
    | true=>exact cO (cO ⟨_,rfl,_,rfl,_,_,rfl,rfl,(by show (0:Int)<4;decide),wl,_,_,_,rfl,rfl,SqL.of le.fw,aty,_,rfl,_,rfl,y,c,rs,X,el,eu,rfl,wa,le.rw,smX,le.fe,by omega,by omega,le.dj ey,iv.fp.1,alX,iv.fp.2.2.1,iv.ho,λH' s'=>⟨_,y6,X,es,eu,ys,rfl,le.keep s',by omega⟩,λr k x t H' ea hg ex rw' fe' en' wa' k'=>⟨_,y6,_,_,_,_,rfl,le.one ey rfl (iv.back (X:=X) szX ea hg ex).1 (iv.back (X:=X) szX ea hg ex).2 rfl rfl rfl rfl rw' fe' en' wa' k',by rw [List.length_append,List.length_singleton];omega⟩⟩)
    | false =>
     refine a8 ⟨_,rfl,_,_,rfl,rfl,⟨by decide,by decide⟩,_,_,rfl,rfl,(by show (0:Int)<5;decide),rfl,_,rfl,bb (λ_=>?_) (λ_=>?_)⟩
     ·exact ⟨_,rfl,_,rfl,_,_,rfl,rfl,(by show (0:Int)<4;decide),wl,_,_,_,rfl,rfl,SqL.of le.fw,aty,_,rfl,_,rfl,y,c,rs,X,el,eu,rfl,wa,le.rw,smX,le.fe,by omega,by omega,le.dj ey,iv.fp.1,alX,iv.fp.2.2.1,iv.ho,λH' s'=>⟨_,y6,X,es,eu,ys,rfl,le.keep s',by omega⟩,λr k x t H' ea hg ex rw' fe' en' wa' k'=>⟨_,y6,_,_,_,_,rfl,le.one ey rfl (iv.back (X:=X) szX ea hg ex).1 (iv.back (X:=X) szX ea hg ex).2 rfl rfl rfl rfl rw' fe' en' wa' k',by rw [List.length_append,List.length_singleton];omega⟩⟩
     ·exact ⟨_,rfl,_,rfl,_,_,rfl,rfl,(by show (0:Int)<4;decide),wl,_,_,_,rfl,rfl,SqL.of le.fw,aty,_,rfl,_,rfl,y,c,rs,X,el,eu,rfl,wa,le.rw,smX,le.fe,by omega,by omega,le.dj ey,iv.fp.1,alX,iv.fp.2.2.1,iv.la,λH' r' k'=>⟨_,y6,X,es,eu,ys,rfl,le.rows r' k',by omega⟩,λk cs' h X' t H' fw rw' fe' en' wa' k'=>⟨_,y6,_,_,_,_,rfl,le.one ey rfl (iv.walk szX hu fw).1 (iv.walk szX hu fw).2 rfl rfl rfl rfl rw' fe' en' wa' k',by rw [List.length_append,List.length_singleton];omega⟩⟩
  ·rintro σ H6 ⟨y5,y6,X,es,eu,ys,rfl,le,li⟩
   rw [List.length_map] at li
   exact ⟨_,rfl,q el eu es X H6 le.rw le.fe le.pe (by omega) le.run le.kp le.f1⟩
variable {P1 P2:Addr}
def lH(K:PySem.W.Frag):Sp:=λvs H Q _=>∃sc ns,vs=[.ref sc]/\SqL K H sc ((ns:List Int).map V.int)/\∀c rs X H',Rows H' c rs X->rC (aO X)->Same H H'->Q (.ref c) H'
theorem rR(X:List (List Int))(r:List Int):aO (X++[r])=aO X++[((r.length:Nat):Int)]:=by
 unfold aO
 rw [List.map_append]
 rfl
theorem tG(F:Fun K "_law_first" "_law_first" cC f fd)(B:TxB mg)(GA:GF P w K mg base CX0 1 "_law_cell" ["_law_script","_law_k"] (lI K))(GS:GF P w K mg base CX0 2 "_law_stream" ["_law_cell_here","_law_many"] pP)(GM:GF P w K mg base CX0 1 "_law_amount" ["_law_one","_law_other"] pV):FnOk P w K mg base CX0 3 f fd ["_law_script"] (lH K):=by
 refine F.ok sc__law_first (λvs H Q E h=>?_) (λcdv A outer s H vs Q E hr h=>?_)
 ·obtain ⟨sc,ns,rfl,_⟩:=h
  rfl
 obtain ⟨sc,ns,rfl,hS,q⟩:=h
 have nd:=sc__law_first.nd
 have hz:(1000:Nat)<=sizeLine:=by decide
 refine ⟨_,af (aI (i:=1) nd rfl (Or.inl rfl) (cr ae))
  (af (cK PassesOwn.never rfl (bo rfl B.range (aa (aF bc ag (aF bn (pc GA hr (aa (pv 0) (aa ag ae))) ag)) ae)) (aU (i:=2) nd rfl (Or.inl rfl))
   (af (aI (i:=3) nd rfl (by first | exact Or.inl rfl | exact Or.inr rfl) (pc GS hr (aa (pc GA hr (aa (pv 0) (aa (aF bc ag (pv 2)) ae))) (aa ag ae))))
   (aj (bq (cS PySem.F.plainAttrs_list PySem.F.slot_list_append PySem.F.type_list_append bX (pv 1) (aa (dR jo rfl (bL (bQ eO (pv 3) gW (bu (aF bc ag (aF bn (ak (r:=aN K) am (pv 3) ag (λ_ _=>rfl)) ag))))) (λ_ _ _ _=>bp) (λ_ _ _ _=>pc GM hr (aa (pv 0) (aa (ak (r:=aN K) am (pv 1) ag (λ_ _=>rfl)) ae)))) ae))))))
  (aj (au (pv 1)))),?_⟩
 refine ⟨(by show 0<=sizeLine;decide),λc nc=>?_⟩
 have s1:=ai (o:=.lst []) nc
 have e0:=Int.emod_nonneg (cG ns 0) (show (5:Int)≠0 by decide)
 have e1:=Int.emod_lt_of_pos (cG ns 0) (show (0:Int)<5 by decide)
 obtain ⟨n,en⟩:∃n:Nat,1+cG ns 0%5=(n:Int):=⟨(1+cG ns 0%5).toNat,by omega⟩
 have n1:1<=n:=by omega
 have n5:n<=5:=by omega
 refine ⟨_,rfl,sc,ns,0,rfl,s1.seq hS,_,_,rfl,rfl,(by show (0:Int)<5;decide),_,_,rfl,rfl,_,rfl,by omega,by omega,?_⟩
 have en':(1+cG ns 0%5).toNat=n:=by omega
 rw [en']
 refine bZ (n:=n) (λi σ H'=>∃y2 y3 rs X,σ=[some (.ref sc),some (.ref c),y2,y3]/\Rows H' c rs X/\X.length=i/\(∀m∈aO X,1<=m/\m<=8)/\Same H H') ⟨none,none,[],[],rfl,⟨ac,.nil,List.nodup_nil⟩,rfl,(λm hm=>by cases hm),s1⟩ ?_ ?_
 ·rintro i σ H2 hi ⟨y2,y3,rs,X,rfl,rw2,lx,hm,s2⟩
  have ei:(0:Int)+(i:Nat)=((i:Nat):Int):=Int.zero_add _
  rw [ei]
  have e1i:(1:Int)+((i:Nat):Int)=((1+i:Nat):Int):=by omega
  refine ⟨_,rfl,_,rfl,_,_,rfl,rfl,sc,ns,1+i,by show [V.ref sc,V.int (1+((i:Nat):Int))]++[]=_;rw [e1i];rfl,s2.seq hS,_,9,rfl,by decide,λxl zs H3 s3 nxl hxl l9 hin=>?_⟩
  obtain ⟨z8,ez8⟩:∃z8,zs[8]?=some z8:=⟨_,List.getElem?_eq_getElem (by omega)⟩
  have i8:=hin z8 (List.mem_of_getElem? ez8)
  have at8:atI (zs.map V.int) 8=some (.int z8):=aB (j:=8) (by rw [List.getElem?_map,ez8];rfl)
  have f0:=Int.emod_nonneg z8 (show (8:Int)≠0 by decide)
  have f1:=Int.emod_lt_of_pos z8 (show (0:Int)<8 by decide)
  obtain ⟨m,em⟩:∃m:Nat,1+z8%8=(m:Int):=⟨(1+z8%8).toNat,by omega⟩
  have rw3:=rw2.keep s3
  refine ⟨_,rfl,.inl ⟨rfl,_,SqL.of rw3.l⟩,_,rfl,_,rfl,xl,_,_,_,rfl,rfl,SqL.of hxl,at8,_,_,rfl,rfl,(by show (0:Int)<8;decide),_,_,rfl,rfl,_,rfl,xl,_,rfl,SqL.of hxl,λcl ncl=>?_⟩
  have ec:eB (zs.map V.int) none (some (1+z8%8))=(zs.take m).map V.int:=by
   rw [em,oq _ _ (by rw [List.length_map];omega),List.map_take]
  have s4:=ai (o:=.lst ((zs.take m).map V.int)) ncl
  have hc4:(upd H3 cl (.lst ((zs.take m).map V.int))) cl=some (.lst ((zs.take m).map V.int)):=ac
  refine ⟨cl,rfl,⟨(zs.take m).map V.int,SqL.of (by rw [ac,ec])⟩,?_⟩
  rw [ec]
  generalize (upd H3 cl (.lst ((zs.take m).map V.int)))=H4 at s4 hc4 ⊢
  have lt:(zs.take m).length=m:=by rw [List.length_take];omega
  refine dq (xs:=(zs.take m).map V.int) (λj ys H'=>H'=H4/\∃ws:List Int,ys=ws.map V.int/\ws.length=j) ⟨rfl,[],rfl,rfl⟩ (by rw [List.length_map];omega) (λj ys H' _ z=>by rw [z.1];exact SqL.of hc4) ?_ ?_
  ·rintro j u ys H' hu ⟨rfl,ws,rfl,lw⟩
   rw [List.getElem?_map] at hu
   obtain ⟨x,ex,rfl⟩:=Option.map_eq_some_iff.mp hu
   have ix:=hin x (List.mem_of_mem_take (List.mem_of_getElem? ex))
   exact eE ⟨_,rfl,_,rfl,xl,_,_,_,rfl,rfl,SqL.of (s4 _ _ hxl),at8,x,z8,rfl,ix,i8,λr hr=>⟨rfl,ws++[r],by rw [List.map_append];rfl,by rw [List.length_append,lw];rfl⟩⟩
  ·rintro ys H' ⟨rfl,ws,rfl,lw⟩ rl nrl
   rw [List.length_map,lt] at lw
   have s5:=ai (o:=.lst (ws.map V.int)) nrl
   have rw5:=(rw3.keep s4).keep s5
   have lrs:X.length=rs.length:=rw2.r.len
   refine ⟨c,_,_,rfl,rfl,rw5.l,by rw [List.length_map];omega,?_⟩
   have ncr:rl≠c:=λz=>by rw [z,(rw3.keep s4).l] at nrl;cases nrl
   have kc:KpM [c] (upd H' rl (.lst (ws.map V.int))) (upd (upd H' rl (.lst (ws.map V.int))) c (.lst (rs.map V.ref++[.ref rl]))):=KpM.upd List.mem_cons_self
   refine ⟨_,_,rs++[rl],X++[ws],rfl,⟨by rw [ac,List.map_append];rfl,?_,?_⟩,by rw [List.length_append,lx];rfl,λk hk=>?_,λb o e=>?_⟩
   ·refine Paired.app (eW rw5.r λx y my e=>kc _ _ (λz=>rw5.nc (by rw [← List.mem_singleton.mp z];exact my)) e) (.cons (kc _ _ (λz=>ncr (List.mem_singleton.mp z)) ac) .nil)
   ·rw [List.nodup_append]
    refine ⟨rw5.nd,by simp,λa ma b mb e=>?_⟩
    rw [e,List.mem_singleton.mp mb] at ma
    obtain ⟨z,ez⟩:=(rw3.keep s4).at ma
    rw [ez] at nrl;cases nrl
   ·rw [rR] at hk
    rcases List.mem_append.mp hk with hk | hk
    ·exact hm k hk
    ·rw [List.mem_singleton.mp hk,lw]
     omega
   ·refine kc _ _ (λz=>?_) (s5 _ _ (s4 _ _ (s3 _ _ (s2 _ _ e))))
    rw [List.mem_singleton.mp z,nc] at e
    cases e
 ·rintro σ H2 ⟨y2,y3,rs,X,rfl,rw2,lx,hm,s2⟩
  refine ⟨_,rfl,q c rs X H2 rw2 ⟨?_,?_,hm⟩ s2⟩
  ·unfold aO
   rw [List.length_map]
   omega
  ·unfold aO
   rw [List.length_map]
   omega
theorem sE{H:Hp}{a b:Addr}{n:Nat}{us vs:List V}(ha:H a=some (.lst us))(hb:H b=some (.lst vs))(h:Paired (λx y=>EqIs K n H x y true) us vs):mU K (n+1) H (.ref a) (.ref b) true:=by
 intro P w A s u v hA hok kin r1 r2
 cases r1
 cases r2
 obtain ⟨_,i1,n1,v1,p1⟩:=(show ObjOk P w H s.heap a (.lst us) from hok a _ ha)
 obtain ⟨_,i2,n2,v2,p2⟩:=(show ObjOk P w H s.heap b (.lst vs) from hok b _ hb)
 have l1:=v1.length
 have l2:=v2.length
 have l3:=h.len
 have q1:s.heap.IsList a i1.toArray:=⟨_,p1,rfl,_,rfl⟩
 have q2:s.heap.IsList b i2.toArray:=⟨_,p2,rfl,_,rfl⟩
 have z:=PySem.SeqAt.RcAt.lists (A:=A) (s:=s) (e:=λ_=>true) q1 q2 (by simp;omega) (by omega) (λj h1 h2=>by
  have h1':j<i1.length:=by simpa using h1
  have h2':j<i2.length:=by simpa using h2
  have e1:us[j]?=some us[j]:=List.getElem?_eq_getElem (by omega)
  obtain ⟨y,e2,ey⟩:=h.get1 e1
  obtain ⟨u,eu,ru⟩:=v1.get e1
  obtain ⟨v,ev,rv⟩:=v2.get e2
  have q:=ey P w A.in1 s u v (by show A.units+1+n<cLine;omega) hok kin ru rv
  have z1:i1.toArray[j]=u:=by
   rw [List.getElem?_eq_getElem h1'] at eu
   simpa using Option.some.inj eu
  have z2:i2.toArray[j]=v:=by
   rw [List.getElem?_eq_getElem h2'] at ev
   simpa using Option.some.inj ev
  rw [z1,z2]
  exact q)
 have ez:((List.range i1.toArray.size).all λ_=>true)=true:=by simp
 rw [ez] at z
 exact z
theorem pC{H:Hp}{a b:Addr}{n:Nat}{us vs:List V}(ha:H a=some (.lst us))(hb:H b=some (.lst vs))(h:Paired (λx y=>EqIs K n H x y true) us vs):EqIs K (n+1) H (.ref a) (.ref b) true:=oo (sE ha hb h) λ_ _ _ _ _ _=>rfl
theorem qf{H:Hp}:∀ns:List Int,Paired (λx y=>EqIs K 0 H x y true) (ns.map V.int) (ns.map V.int)
 | []=>.nil
 | n::r=>.cons (eq_int 0 n) (qf r)
theorem mf{H:Hp}:∀{X:List (List Int)} {rs qs:List Addr},Paired (λ(xs:List Int) a=>H a=some (.lst (xs.map V.int))) X rs->Paired (λ(xs:List Int) a=>H a=some (.lst (xs.map V.int))) X qs->Paired (λx y=>EqIs K 1 H x y true) (rs.map V.ref) (qs.map V.ref)
 | _,_,_,.nil,.nil=>.nil
 | _,_,_,.cons a r,.cons b t=>.cons (pC a b (qf _)) (mf r t)
def wA:Sp:=λvs H Q _=>∃a b rs qs X,vs=[.ref a,.ref b]/\Rows H a rs X/\Rows H b qs X/\X.length<=1000/\Q (.bl true) H
theorem yk(F:Fun K "_law_alike" "_law_alike" eS f fd)(B:TxB mg):FnOk P w K mg base CX0 1 f fd ["_law_found","_law_due"] wA:=by
 refine F.ok sc__law_alike (λvs H Q E h=>?_) (λcdv A outer s H vs Q E hr h=>?_)
 ·obtain ⟨a,b,rs,qs,X,rfl,_⟩:=h
  rfl
 obtain ⟨a,b,rs,qs,X,rfl,ra,rb,lx,q⟩:=h
 have nd:=sc__law_alike.nd
 have hz:(1000:Nat)<=sizeLine:=by decide
 have l1:X.length=rs.length:=ra.r.len
 have l2:X.length=qs.length:=rb.r.len
 refine ⟨_,af (aJ (PW.pt (eF (dv (bD (ay cz rfl B.isi PyProof.Rows.boot_isinstance (aa (pv 0) (aa (gs (v:=.ty "list") rfl B.list PyProof.Rows.boot_list rfl) ae))))) (cX (aw fY (ay aD rfl B.len PySem.boot_len (aa (pv 0) ae)) (ay aD rfl B.len PySem.boot_len (aa (pv 1) ae)) (az _))))) aH aA)
  (af (cK PassesOwn.never rfl (bo rfl B.range (aa (ay aD rfl B.len PySem.boot_len (aa (pv 1) ae)) ae)) (aU (i:=2) nd rfl (Or.inl rfl))
   (af (aJ (dv (bD (ay cz rfl B.isi PyProof.Rows.boot_isinstance (aa (ak (r:=aN K) am (pv 0) (pv 2) (λ_ _=>rfl)) (aa (gs (v:=.ty "list") rfl B.list PyProof.Rows.boot_list rfl) ae))))) aH aA)
   (aj (cK PassesOwn.never rfl (bL (ak (r:=aN K) am (pv 0) (pv 2) (λ_ _=>rfl))) (aU (i:=3) nd rfl (Or.inl rfl))
    (aj (aJ (PW.pt (eF (dv (bD (ay cz rfl B.isi PyProof.Rows.boot_isinstance (aa (pv 3) (aa (gs (v:=.ty "int") rfl B.int PyProof.Rows.boot_int rfl) ae))))) (cX (bD (ay cz rfl B.isi PyProof.Rows.boot_isinstance (aa (pv 3) (aa (gs (v:=.ty "bool") rfl B.bool PyProof.Rows.boot_bool rfl) ae))))))) aH aA))))))
  (aj (au (cn (mo 2 (Nat.lt_of_succ_lt (hun (c:=2) hr))) (pv 0) (pv 1) (az _))))),?_⟩
 refine ⟨_,rfl,_,_,_,_,rfl,TyOf.lst ra.l,tZ,_,rfl,a8 ?_⟩
 refine ⟨_,rfl,a,_,rfl,.inl (SqL.of ra.l),_,rfl,b,_,rfl,.inl (SqL.of rb.l),rfl,_,rfl,j7 (by rw [List.length_map,List.length_map,← l1,← l2]) ?_⟩
 refine ⟨_,rfl,b,_,rfl,.inl (SqL.of rb.l),_,rfl,by rw [List.length_map];omega,by rw [List.length_map];omega,?_⟩
 refine bZ (n:=(qs.map V.ref).length) (λi σ H'=>H'=H/\∃y2 y3,σ=[some (.ref a),some (.ref b),y2,y3]) ⟨rfl,none,none,rfl⟩ ?_ ?_
 ·rintro i σ H' hi ⟨rfl,y2,y3,rfl⟩
  have ei:(0:Int)+(i:Nat)=((i:Nat):Int):=Int.zero_add _
  rw [ei]
  rw [List.length_map] at hi
  obtain ⟨r,er⟩:∃r,rs[i]?=some r:=⟨_,List.getElem?_eq_getElem (by omega)⟩
  obtain ⟨xs,ex,hx⟩:=ra.r.get er
  have ar:atI (rs.map V.ref) ((i:Nat):Int)=some (.ref r):=aB (by rw [List.getElem?_map,er];rfl)
  refine ⟨_,rfl,_,rfl,a,_,_,_,rfl,rfl,SqL.of ra.l,ar,_,_,_,_,rfl,TyOf.lst hx,tZ,_,rfl,a8 ?_⟩
  refine ⟨_,rfl,_,rfl,a,_,_,_,rfl,rfl,SqL.of ra.l,ar,r,rfl,⟨_,SqL.of hx⟩,?_⟩
  refine on (xs:=xs.map V.int) (λj σ H1=>H1=H'/\∃y2 y3,σ=[some (.ref a),some (.ref b),y2,y3]) ⟨rfl,_,_,rfl⟩ (λj σ H1 _ z=>by rw [z.1];exact SqL.of hx) ?_ (fun σ H1 z=>z)
  rintro j u σ H1 hu ⟨rfl,y2,y3,rfl⟩
  rw [List.getElem?_map] at hu
  obtain ⟨n,en,rfl⟩:=Option.map_eq_some_iff.mp hu
  exact ⟨_,rfl,_,_,_,_,rfl,TyOf.int n,pd,_,rfl,a8 ⟨_,rfl,_,_,_,_,rfl,TyOf.int n,ph,_,rfl,a8 ⟨rfl,_,_,rfl⟩⟩⟩
 ·rintro σ H' ⟨rfl,y2,y3,rfl⟩
  exact ⟨_,rfl,_,rfl,sE ra.l rb.l (mf ra.r rb.r),q⟩
end
end K81
namespace L2
open PySem PySem.Spec PyProof.Rows PySem.W Lo
theorem o8{P:Program}{w:World}{K:Frag}{mg mb:Str->Option Value}{CX:CXT}{k:Nat}{fa a cc cd P1 P2:Addr}{fd:FuncData}{x:Str}{sp:Sp}{s₁:Shared}{vs:List Value}{ns:List Int}
  (KX:K.In s₁.heap)(hns:s₁.heap.Ns mainGlobals mg)(hb:s₁.heap.Ns builtinsNs mb)(hbb:∀x:Str,x≠"__name__"->mb x=bootBuiltins x)(hlim:s₁.heap.NoLimit)(hg:s₁.gens=#[])
  (ha:s₁.heap.get? a=some {cls:=.type "list",data:=.seq vs.toArray})(hi:IntsAre vs ns)(hl:ns.length<=sizeLine)(hr:Room k callerA)
  (hC:codeHdIn K cc P1=true)(hC2:codeHdIn K cd P2=true)(hT1:s₁.heap.get? P1=some (tabObj #[]))(hT2:s₁.heap.get? P2=some (tabObj #[]))(hK:noTabs K=true)(hB:BB mg s₁.heap)
  (F:∀base:Heap,K.In base->BB mg base->FnOk P w K mg base CX k fa fd [x] sp)(hbind:∀(s:Shared) (u:Value),BindsTo s fd ⟨[u],[]⟩ [(x,u)])
  (hsp:∀H:Hp,SqL K H a (ns.map V.int)->H P1=some (.tbl #[])->H P2=some (.tbl #[])->sp [.ref a] H (λv _=>v=.bl true) λ_ _ _=>False)
  (hCX:∀H e s',CX [] H s₁ (λ_ _ _=>False) e s'->False) :
  codeAny (model P w) callerA (.call (.ref fa) ⟨[.ref a],[]⟩) (λr s'=>r=.ok (.ret (.bool true))/\OldK s₁.heap s'.heap/\s'.os=s₁.os/\AllBare s'.gens) s₁:=by
 have rv:=ky hi
 have lenV:=hi.length
 have hT:∀{b:Addr},b=P1\/b=P2->s₁.heap.get? b=some (tabObj #[]):=λ{b} z=>by
  rcases z with z | z
  ·rw [z];exact hT1
  ·rw [z];exact hT2
 have naP:¬(a=P1\/a=P2):=λz=>by
  rw [hT z] at ha
  cases ha
 have kP:∀{b:Addr},b=P1\/b=P2->K.lookup b=none:=λ{b} z=>by
  cases q:K.lookup b with
  | none=>rfl
  | some o =>
   have h2:=List.all_eq_true.mp hK (b,o) (mem_of_lookupK q)
   have e:=KX _ _ q
   rw [hT z] at e
   cases e
   exact absurd (show false=true from h2) Bool.false_ne_true
 have tabC:∀{b:Addr},b=P1\/b=P2->∃cc,s₁.heap.TableAt cc b #[]:=λ{b} z=>by
  rcases z with z | z
  ·rw [z];exact ⟨cc,(codeHd_of_K KX hC).tab hT1⟩
  ·rw [z];exact ⟨cd,(codeHd_of_K KX hC2).tab hT2⟩
 have core:∀H:Hp,SqL K H a (ns.map V.int)->(∀b,b=P1\/b=P2->H b=some (.tbl #[]))->HOk P w H s₁.heap->(∀b,H b≠none->b=a\/(b=P1\/b=P2))->(H a≠none->K.lookup a=none)->(∀u,H a=some u->∃o xs,u=.frz o (.lst xs)) ->
   codeAny (model P w) callerA (.call (.ref fa) ⟨[.ref a],[]⟩) (λr s'=>r=.ok (.ret (.bool true))/\OldK s₁.heap s'.heap/\s'.os=s₁.os/\AllBare s'.gens) s₁:=by
  intro H hS hP hok hA hKa hfz
  have base_of:∀{b:Addr} {o:Obj},s₁.heap.get? b=some o->H b=none->(kt s₁.heap H).get? b=some o:=λe n=>t9 e n
  have noA:∀{b:Addr} {o:Obj},s₁.heap.get? b=some o->(o.cls≠.type "list")->o.cls≠.none->H b=none:=λ{b o} e d1 d2=>by
   cases q:H b with
   | none=>rfl
   | some u =>
    rcases hA b (by rw [q];simp) with e' | e'
    ·subst e'
     rw [ha] at e
     cases e
     exact absurd rfl d1
    ·rw [hT e'] at e
     cases e
     exact absurd rfl d2
  have noD:∀{b:Addr} {o:Obj} {es:Array DictEntry} {ep:Nat},s₁.heap.get? b=some o->o.data=.dict es ep->H b=none:=λ{b o es ep} e d=>by
   cases q:H b with
   | none=>rfl
   | some u =>
    rcases hA b (by rw [q];simp) with e' | e'
    ·subst e'
     rw [ha] at e
     cases e
     cases (show Data.seq vs.toArray _=Data.dict es ep from d)
    ·rw [hT e'] at e
     cases e
     cases (show Data.fields #[]=Data.dict es ep from d)
  have nsK:∀{b:Addr} {m:Str->Option Value},s₁.heap.Ns b m->(kt s₁.heap H).Ns b m:=λ{b m} ⟨o,es,ep,e,d,r⟩=>⟨o,es,ep,base_of e (noD e d),d,r⟩
  have hKb:K.In (kt s₁.heap H):=λb o e=>base_of (KX b o e) (by
   cases q:H b with
   | none=>rfl
   | some u =>
    rcases hA b (by rw [q];simp) with e' | e'
    ·subst e'
     rw [hKa (by rw [q];simp)] at e
     cases e
    ·rw [kP e'] at e
     cases e)
  have hM:Mod K mg (kt s₁.heap H):=⟨hKb,nsK hns,⟨mb,nsK hb,hbb⟩,let ⟨mc,h1,h2⟩:=hlim;⟨mc,nsK h1,h2⟩⟩
  have hBb:BB mg (kt s₁.heap H):=by
   obtain ⟨bm,ob,b1,b2,b3,b4,b5,b6⟩:=hB
   exact ⟨bm,ob,b1,b2,base_of b3 (noA b3 (by rw [b4];decide) (by rw [b4];nofun)),b4,b5,b6⟩
  have e0:Env0 P w K mg (kt s₁.heap H) callerA [] s₁ H:=⟨rfl,hM,λb o e=>vq e,Nat.le_of_eq (rh _ _),trivial,λb hb=>absurd (show b∈([]:List Addr) from hb) (by simp),hok,.of_eq hg⟩
  refine codeAny_mono ((F _ hKb hBb).run callerA [] s₁ H ⟨[.ref a],[]⟩ [.ref a] [.ref a] _ _ hr e0 (hbind s₁ (.ref a)) (.cons rfl .nil) (hsp H hS (hP _ (.inl rfl)) (hP _ (.inr rfl)))) λr s' h=>?_
  cases r with
  | error e=>exact (hCX H e s' h).elim
  | ok fl =>
   cases fl with
   | next=>exact False.elim h
   | brk=>exact False.elim h
   | cont=>exact False.elim h
   | ret u =>
    obtain ⟨v,H',os,bare,un,hok',r',q⟩:=h
    have q':v=.bl true:=q
    subst q'
    obtain rfl:u=Value.bool true:=r'
    have plain:∀b o,s₁.heap.get? b=some o->¬(b=P1\/b=P2)->s'.heap.get? b=some o:=λb o e nP=>by
     cases q:H b with
     | none=>exact un.keep b o e q (by intro z;exact absurd (show b∈([]:List Addr) from z) (by simp)) (by simp)
     | some u =>
      rcases hA b (by rw [q];simp) with e' | e'
      ·subst e'
       obtain ⟨ob,xs,rfl⟩:=hfz u q
       have z2:=un.frzs b ob _ q
       obtain ⟨e1,_⟩:=hok b _ q
       obtain ⟨e2,_⟩:=hok' b _ z2
       rw [e] at e1
       cases e1
       exact e2
      ·exact absurd e' nP
    have tP:∀{b:Addr},b=P1\/b=P2->∃more,s'.heap.get? b=some {cls:=.none,data:=.fields (#[]++more)}:=λ{b} z=>by
     obtain ⟨more,eP⟩:=un.tbls b #[] (hP b z)
     exact ⟨more,hok' b _ eP⟩
    refine ⟨rfl,⟨λb o e=>?_,λb o e=>?_⟩,os,bare⟩
    ·by_cases z:b=P1\/b=P2
     ·rw [hT z] at e
      cases e
      obtain ⟨more,t⟩:=tP z
      obtain ⟨_,tc⟩:=tabC z
      exact .inr (.inl ⟨tc.isCodeTable,rfl,#[],more,rfl,t⟩)
     ·exact .inl (plain b o e z)
    ·by_cases z:b=P1\/b=P2
     ·obtain ⟨more,t⟩:=tP z
      exact ⟨_,t⟩
     ·exact ⟨o,plain b o e z⟩
 cases hk:K.lookup a with
 | some o =>
  have e:=KX a o hk
  rw [ha] at e
  cases e
  refine core (λb=>if b=P1\/b=P2 then some (.tbl #[]) else none) (.inr ⟨_,vs.toArray,_,hk,rfl,rfl,rfl,by rw [List.size_toArray,lenV];exact hl,by simpa using rv⟩) (λb z=>if_pos z) (λb u z=>?_) (λb z=>?_) (λz=>absurd (if_neg naP) z) λu z=>?_
  ·by_cases hb:b=P1\/b=P2
   ·have z':=(if_pos hb).symm.trans z
    cases z'
    exact hT hb
   ·have z':=(if_neg hb).symm.trans z
    cases z'
  ·by_cases hb:b=P1\/b=P2
   ·exact .inr hb
   ·exact absurd (if_neg hb) z
  ·have z':=(if_neg naP).symm.trans z
   cases z'
 | none =>
  refine core (λb=>if b=P1\/b=P2 then some (.tbl #[]) else if b=a then some (.frz {cls:=.type "list",data:=.seq vs.toArray} (.lst (ns.map V.int))) else none) (.inl (.inr ⟨{cls:=.type "list",data:=.seq vs.toArray},(if_neg naP).trans (if_pos rfl)⟩)) (λb z=>if_pos z) (λb u z=>?_) (λb z=>?_) (λ_=>hk) λu z=>?_
  ·by_cases hb:b=P1\/b=P2
   ·have z':=(if_pos hb).symm.trans z
    cases z'
    exact hT hb
   ·have z1:=(if_neg hb).symm.trans z
    by_cases hb:b=a
    ·have z':=(if_pos hb).symm.trans z1
     cases z'
     subst hb
     exact ⟨ha,by rw [List.length_map];exact hl,vs,_,rv,ha⟩
    ·have z':=(if_neg hb).symm.trans z1
     cases z'
  ·by_cases hb:b=P1\/b=P2
   ·exact .inr hb
   ·by_cases hb':b=a
    ·exact .inl hb'
    ·exact absurd ((if_neg hb).trans (if_neg hb')) z
  ·have z1:=((if_neg naP).trans (if_pos rfl)).symm.trans z
   cases z1
   exact ⟨_,_,rfl⟩
theorem qu{l:OpenLaw}{n k:Nat}{q:Program}{loose:List Str}{XP:(Str->Option Value)->Heap->Prop}{YP:World->Heap->Prop}{d:DefRec}{K:Params->Frag}{sp:World->Addr->Addr->Sp}{x:Str}
  (hn:l.most=some n)(hn2:n<=sizeLine)(hdf:d.params.defaults=[])(hr:Room k callerA)(hY:∀(w:World) (h:Heap),YP w h->(K w.params).In h)
  (F:∀(w:World) (mg:Str->Option Value) (fa:Addr) (h:Heap),YP w h->(K w.params).In h->h.Ns mainGlobals mg->mg d.name=some (.ref fa) ->
   ∃(fd:FuncData) (cc cd P1 P2:Addr),(∀(s:Shared) (u:Value),BindsTo s fd ⟨[u],[]⟩ [(x,u)])/\codeHdIn (K w.params) cc P1=true/\codeHdIn (K w.params) cd P2=true/\P1≠P2/\h.get? P1=some (tabObj #[])/\h.get? P2=some (tabObj #[])/\noTabs (K w.params)=true /\
    ∀base:Heap,(K w.params).In base->BB mg base->FnOk l.prog w (K w.params) mg base CX0 k fa fd [x] (sp w P1 P2))
  (hsp:∀(w:World) (P1 P2:Addr) (H:Hp) (a:Addr) (ns:List Int),ns.length<=n->SqL (K w.params) H a (ns.map V.int)->P1≠P2->H P1=some (.tbl #[])->H P2=some (.tbl #[])->sp w P1 P2 [.ref a] H (λv _=>v=.bl true) λ_ _ _=>False) :
  WalkO q loose XP YP l.row.toRowW d [] (λf vs=>PySem.call f vs):=by
 refine Att.oy hn hdf λw s₀ s₁ mg mb fa o pm cd doc a vs ns G Y ho hd hcd hmg hobj hints hlen hg=>?_
 have KX:=hY w _ Y
 obtain ⟨fd,cc,cd2,P1,P2,hb,hC,hC2,hne,hT1,hT2,hK,hF⟩:=F w mg fa _ Y KX G.T.g hmg
 exact o8 KX G.T.g G.T.b G.T.builtins G.T.nolimit hg hobj hints (Nat.le_trans hlen hn2) hr hC hC2 hT1 hT2 hK G.T.bmain hF hb (λH hS h1 h2=>hsp w P1 P2 H a ns hlen hS hne h1 h2) λH e s' z=>z
end L2
namespace K81
open PySem L2 Lo St
section
variable {P:Program}{w:World}{K:PySem.W.Frag}{mg:Str->Option Value}{base:Heap}{f CL CS CP:Addr}{fd:FuncData}{C:Kd->Addr}{CW:Wd->Addr}
theorem u4{X:Cx}(n:Nat)(hu:X.A.units+n+1<cLine):OpR X (compareOp .NotEq) (λx y H Q=>∃a b us vs,x=.ref a/\y=.ref b/\SqL X.K H a us/\SqL X.K H b vs/\Paired (λx y=>EqIs X.K n H x y true) us vs/\Q (.bl false) H):=by
 intro pins s σ H x y v u Q I rx ry h
 obtain ⟨a,b,us,vs,rfl,rfl,ha,hb,hr,q⟩:=h
 cases rx
 cases ry
 obtain ⟨i1,v1,p1,_⟩:=I.list ha
 obtain ⟨i2,v2,p2,_⟩:=I.list hb
 have l1:=v1.length
 have l2:=v2.length
 have l3:=hr.len
 have z:=PySem.SeqAt.RcNeAt.lists (A:=X.A) (s:=s) (e:=λ_=>true) p1.isList p2.isList (by simp;omega) (by omega) (λj h1 h2=>by
  have h1':j<i1.length:=by simpa using h1
  have h2':j<i2.length:=by simpa using h2
  have e1:us[j]?=some us[j]:=List.getElem?_eq_getElem (by omega)
  obtain ⟨y,e2,ey⟩:=hr.get1 e1
  obtain ⟨u,eu,ru⟩:=v1.get e1
  obtain ⟨v,ev,rv⟩:=v2.get e2
  have q:=ey X.prog X.w X.A.in1 s u v (by show X.A.units+1+n<cLine;omega) I.hok I.kIn ru rv
  have z1:i1.toArray[j]=u:=by
   rw [List.getElem?_eq_getElem h1'] at eu
   simpa using Option.some.inj eu
  have z2:i2.toArray[j]=v:=by
   rw [List.getElem?_eq_getElem h2'] at ev
   simpa using Option.some.inj ev
  rw [z1,z2]
  exact q)
 have ez:(!(List.range i1.toArray.size).all λ_=>true)=false:=by simp
 rw [ez] at z
 exact z X.prog X.w X.xe _ ⟨.bl false,H,I,rfl,q⟩
variable {P1 P2:Addr}
structure LwI(P1 P2:Addr)(H:Hp)(c1 c2 c4 e4 hd el:Addr)(rs1 rs2 rs4:List Addr)(X0 X:List (List Int))(es:List En)(eu:List V):Prop where
 r1:Rows H c1 rs1 X0
 r2:Rows H c2 rs2 X
 r4:Rows H c4 rs4 X0
 f4:H e4=some (.lst eu)
 fe:H el=some (.lst eu)
 pe:Paired (EnA H) es eu
 fh:H hd=some (.lst [.ref c4,.ref e4])
 tb:Tbs P1 P2 H
theorem LwI.fr{H H':Hp}{c1 c2 c4 e4 hd el:Addr}{rs1 rs2 rs4 S:List Addr}{X0 X:List (List Int)}{es:List En}{eu:List V}(h:LwI P1 P2 H c1 c2 c4 e4 hd el rs1 rs2 rs4 X0 X es eu)(k:KpM (P1::P2::S) H H')(fs:∀a∈S,H a=none)(tb:Tbs P1 P2 H'):LwI P1 P2 H' c1 c2 c4 e4 hd el rs1 rs2 rs4 X0 X es eu:=by
 have out:∀{a:Addr} {o:HO},H a=some o->(∀z,o≠.tbl z)->a∉P1::P2::S:=λ{a o} e n m=>by
  rcases List.mem_cons.mp m with z | m
  ·exact kB h.tb.a e n z
  rcases List.mem_cons.mp m with z | m
  ·exact kB h.tb.b e n z
  ·rw [fs a m] at e;cases e
 have ol:∀{a:Addr} {us:List V},H a=some (.lst us)->a∉P1::P2::S:=λe=>out e λz y=>by cases y
 have ts:bf H H':=λb xs e=>k _ _ (out e λz y=>by cases y) e
 have orow:∀{c:Addr} {rs:List Addr} {X:List (List Int)},Rows H c rs X->Rows H' c rs X:=λ{c rs X} r=>r.fr k λb m=>by
  rcases List.mem_cons.mp m with z | m
  ·rw [z];exact ol r.l
  ·obtain ⟨xs,e⟩:=r.at m
   exact ol e
 exact ⟨orow h.r1,orow h.r2,orow h.r4,k _ _ (ol h.f4) h.f4,k _ _ (ol h.fe) h.fe,Paired.mapP h.pe λ_ _ z=>z.keep ts,k _ _ (ol h.fh) h.fh,tb⟩
theorem qh{H:Hp}:∀{es:List En} {eu:List V},Paired (EnA H) es eu->Paired (λx y=>EqIs K 1 H x y true) eu eu
 | _,_,.nil=>.nil
 | _,_,.cons a r=>by
  obtain ⟨t,_,_,rfl,_⟩:=a
  exact .cons (vz 1) (qh r)
def lG(K:PySem.W.Frag)(P1 P2:Addr):Sp:=λvs H Q _=>∃a ns,vs=[.ref a]/\SqL K H a ((ns:List Int).map V.int)/\ns.length<=63/\P1≠P2/\H P1=some (.tbl #[])/\H P2=some (.tbl #[])/\∀H',Q (.bl true) H'
theorem wW(F:Fun K "law" "law" jT f fd)(B:TxB mg)(GF1:GF P w K mg base CX0 3 "_law_first" ["_law_script"] (lH K))(GE:GF P w K mg base CX0 5 "_law_entries" ["_law_script","_law_cells"] (sf K))(GP:GF P w K mg base CX0 10 "played" ["cells","entries"] (jE P1 P2))(GA:GF P w K mg base CX0 1 "_law_alike" ["_law_found","_law_due"] wA):FnOk P w K mg base CX0 11 f fd ["_law_script"] (lG K P1 P2):=by
 refine F.ok sc_law (λvs H Q E h=>?_) (λcdv A outer s H vs Q E hr h=>?_)
 ·obtain ⟨a,ns,rfl,_⟩:=h
  rfl
 obtain ⟨sc,ns,rfl,hS,l63,ne,hP1,hP2,q⟩:=h
 have nd:=sc_law.nd
 have hz:(1000:Nat)<=sizeLine:=by decide
 refine ⟨_,af (aI (i:=1) nd rfl (Or.inl rfl) (pc GF1 hr (aa (pv 0) ae)))
  (af (eI (iy:=2) sk rfl (bL (pv 1)) (λ_ _ _ _=>bp) (λ_ _ _ _=>bK (r:=uQ K) cH rfl B.list PyProof.Rows.boot_list (aa (pv 0) ae)) nd rfl (Or.inl rfl))
  (af (aI (i:=3) nd rfl (Or.inl rfl) (pc GE hr (aa (pv 0) (aa (pv 2) ae))))
  (af (aI (i:=4) nd rfl (Or.inl rfl) (cr (aa (dR sj rfl (bL (pv 1)) (λ_ _ _ _=>bp) (λ_ _ _ _=>bK (r:=uQ K) cH rfl B.list PyProof.Rows.boot_list (aa (pv 0) ae))) (aa (bK cH rfl B.list PyProof.Rows.boot_list (aa (pv 3) ae)) ae))))
  (eg (u:=λD σ H4=>∃c1 c2 c4 e4 hd el rs1 rs2 rs4 X0 X es eu,σ=[some (.ref sc),some (.ref c1),some (.ref c2),some (.ref el),some (.ref hd),none]/\LwI P1 P2 H4 c1 c2 c4 e4 hd el rs1 rs2 rs4 X0 X es eu/\es.length<=36/\Run [] es X0 X/\rC (aO X0)/\∀H',D.rt (.bl true) H')
  (af (aI (i:=5) nd rfl (Or.inl rfl) (pc GP hr (aa (ak (r:=aN K) am (pv 4) ag (λ_ _=>rfl)) (aa (ak (r:=aN K) am (pv 4) ag (λ_ _=>rfl)) ae))))
  (af (aJ (PW.pt (eF (dv (bD (pc GA hr (aa (pv 5) (aa (pv 2) ae))))) (cX (aw (u4 2 (hun (c:=2) hr)) (pv 4) (cr (aa (pv 1) (aa (pv 3) ae))) (az _))))) aH aA)
  (af (cq (aF bc (ak (r:=aN K) am (ak (r:=aN K) am (pv 5) ag (λ_ _=>rfl)) ag (λ_ _=>rfl)) ag) (eh (ak (r:=aN K) am (pv 5) ag (λ_ _=>rfl)) ag ci))
  (af (bq (cS PySem.F.plainAttrs_list PySem.F.slot_list_append PySem.F.type_list_append bX (pv 5) (aa (cr ae) ae)))
  (aj (au (iO (pc GA hr (aa (pc GP hr (aa (ak (r:=aN K) am (pv 4) ag (λ_ _=>rfl)) (aa (ak (r:=aN K) am (pv 4) ag (λ_ _=>rfl)) ae))) (aa (pv 2) ae))) (fX (pc GA hr (aa (pc GP hr (aa (pv 1) (aa (cr ae) ae))) (aa (pv 1) ae))))))))))) ?s1)))),?_⟩
 ·rintro D σ H4 ⟨c1,c2,c4,e4,hd,el,rs1,rs2,rs4,X0,X,es,eu,rfl,li,les,run,szo,qq⟩
  have sm:Sml X0:=λm hm=>Int.le_trans (szo.2.2 m hm).2 (by decide)
  have lX:X0.length=(aO X0).length:=by unfold aO;rw [List.length_map]
  have lX5:=szo.2.1
  have szX:aO X=aO X0:=run.sz
  have lX':X.length=X0.length:=by
   have:=congrArg List.length szX
   unfold aO at this
   rw [List.length_map,List.length_map] at this
   exact this
  refine ⟨_,rfl,hd,_,_,_,rfl,rfl,SqL.of li.fh,St.at0,_,rfl,hd,_,_,_,rfl,rfl,SqL.of li.fh,St.at1,c4,rs4,X0,X,e4,eu,es,rfl,li.r4,li.tb,sm,by omega,li.f4,li.pe,by omega,run,λc5 rs5 H5 r5 tb5 f5 k5=>?_⟩
  have li5:=li.fr (S:=[]) k5 (λa m=>by cases m) tb5
  refine ⟨_,rfl,_,rfl,c5,c2,rs5,rs2,X,rfl,r5,li5.r2,by omega,_,rfl,a8 ?_⟩
  refine ⟨_,rfl,_,rfl,_,rfl,(by show 2<=sizeLine;decide),λl6 n6=>?_⟩
  have s6:=ai (o:=.lst [.ref c1,.ref el]) n6
  have li6:=li5.fr (S:=[]) (KpM.of s6) (λa m=>by cases m) (tb5.keep s6)
  have r56:=r5.keep s6
  refine ⟨hd,l6,_,_,rfl,rfl,SqL.of li6.fh,SqL.of ac,.cons (pC li6.r4.l li6.r1.l (mf li6.r4.r li6.r1.r)) (.cons (pC li6.f4 li6.fe (qh li6.pe)) .nil),_,rfl,a8 ?_⟩
  have tb6:=tb5.keep s6
  have k46:KpM [P1,P2] H4 (upd H5 l6 (.lst [.ref c1,.ref el])):=k5.trans (KpM.of s6)
  generalize (upd H5 l6 (.lst [.ref c1,.ref el]))=H6 at s6 li6 r56 tb6 k46 ⊢
  have hX1:1<=X.length:=by have:=szo.1;omega
  obtain ⟨xs,exs⟩:∃xs,X[0]?=some xs:=⟨_,List.getElem?_eq_getElem (by omega)⟩
  obtain ⟨r0,er0,hr0⟩:=r56.r.get1 exs
  have lxs:1<=xs.length:=by
   have m:((xs.length:Nat):Int)∈aO X:=List.mem_map.mpr ⟨xs,List.mem_of_getElem? exs,rfl⟩
   rw [szX] at m
   have:=(szo.2.2 _ m).1
   omega
  obtain ⟨z,zr,ez⟩:∃z zr,xs=z::zr:=by
   cases xs with
   | nil=>simp at lxs
   | cons z zr=>exact ⟨z,zr,rfl⟩
  have hr0':H6 r0=some (.lst (.int z::zr.map V.int)):=by rw [hr0,ez];rfl
  have at0r:atI (rs5.map V.ref) 0=some (.ref r0):=aB (j:=0) (by rw [List.getElem?_map,er0];rfl)
  have mr0:=List.mem_of_getElem? er0
  refine ⟨_,rfl,c5,_,_,_,rfl,rfl,SqL.of r56.l,at0r,r0,_,_,_,rfl,rfl,SqL.of hr0',St.at0,_,_,rfl,rfl,_,rfl,c5,_,_,_,rfl,rfl,SqL.of r56.l,at0r,r0,_,_,0,rfl,rfl,hr0',(by show ixN (zr.map V.int).length.succ ((0:Nat):Int)=some 0;exact gw (Nat.succ_pos _)),?_⟩
  have k7:KpM [r0] H6 (upd H6 r0 (.lst ((.int z::zr.map V.int).set 0 (.int (z+1))))):=KpM.upd List.mem_cons_self
  have tb7:=tb6.upd (o:=.lst ((.int z::zr.map V.int).set 0 (.int (z+1)))) hr0'
  have c57:(upd H6 r0 (.lst ((.int z::zr.map V.int).set 0 (.int (z+1))))) c5=some (.lst (rs5.map V.ref)):=k7 _ _ (λm=>r56.nc (by rw [List.mem_singleton.mp m];exact mr0)) r56.l
  have k47:KpM (P1::P2::c5::rs5) H4 (upd H6 r0 (.lst ((.int z::zr.map V.int).set 0 (.int (z+1))))):=λb o n e=>k7 b o (λm=>n (by rw [List.mem_singleton.mp m];exact List.mem_cons_of_mem _ (List.mem_cons_of_mem _ (List.mem_cons_of_mem _ mr0)))) (k46 b o (λm=>n (by
   rcases List.mem_cons.mp m with y | m
   ·rw [y];exact List.mem_cons_self
   ·rw [List.mem_singleton.mp m];exact List.mem_cons_of_mem _ List.mem_cons_self)) e)
  refine ⟨_,rfl,.inl ⟨rfl,_,SqL.of c57⟩,(by show 0<=sizeLine;decide),λl8 n8=>?_⟩
  have s8:=ai (o:=.lst []) n8
  have lrs:X.length=rs5.length:=r56.r.len
  refine ⟨c5,_,_,rfl,rfl,s8 _ _ c57,by rw [List.length_map];omega,?_⟩
  have tb9:=(tb7.keep s8).upd (o:=.lst (rs5.map V.ref++[.ref l8])) (s8 _ _ c57)
  have k49:KpM (P1::P2::c5::rs5) H4 (upd (upd (upd H6 r0 (.lst ((.int z::zr.map V.int).set 0 (.int (z+1))))) l8 (.lst [])) c5 (.lst (rs5.map V.ref++[.ref l8]))):=k47.trans ((KpM.of s8).trans (KpM.upd (List.mem_cons_of_mem _ (List.mem_cons_of_mem _ List.mem_cons_self))))
  have li9:=li.fr k49 f5 tb9
  refine ⟨_,rfl,hd,_,_,_,rfl,rfl,SqL.of li9.fh,St.at0,_,rfl,hd,_,_,_,rfl,rfl,SqL.of li9.fh,St.at1,c4,rs4,X0,X,e4,eu,es,rfl,li9.r4,li9.tb,sm,by omega,li9.f4,li9.pe,by omega,run,λca rsa Ha ra tba fa ka=>?_⟩
  have lia:=li9.fr (S:=[]) ka (λa m=>by cases m) tba
  refine ⟨_,rfl,ca,c2,rsa,rs2,X,rfl,ra,lia.r2,by omega,_,rfl,cO ?_⟩
  refine ⟨_,rfl,(by show 0<=sizeLine;decide),λlb nb=>?_⟩
  have sb:=ai (o:=.lst []) nb
  have lib:=lia.fr (S:=[]) (KpM.of sb) (λa m=>by cases m) (tba.keep sb)
  refine ⟨c1,rs1,X0,X0,lb,[],[],rfl,lib.r1,lib.tb,sm,by omega,ac,.nil,Nat.zero_le _,rfl,λcd rsd Hd rd tbd fd' kd=>?_⟩
  have lid:=lib.fr (S:=[]) kd (λa m=>by cases m) tbd
  exact ⟨_,rfl,cd,c1,rsd,rs1,X0,rfl,rd,lid.r1,by omega,qq _⟩
 refine ⟨_,rfl,sc,ns,rfl,hS,λc1 rs1 X0 H1 r1 szo s1=>?_⟩
 have tb1:Tbs P1 P2 H1:=⟨.inl (s1 _ _ hP1),.inl (s1 _ _ hP2),ne⟩
 have lX:X0.length=(aO X0).length:=by unfold aO;rw [List.length_map]
 have lX5:=szo.2.1
 refine ⟨_,rfl,c1,rfl,⟨_,SqL.of r1.l⟩,?_⟩
 refine mw r1 (by omega) λrs2 H2 s2 f2 nd2 p2 c2 nc2=>?_
 have s3:=ai (o:=.lst (rs2.map V.ref)) nc2
 have r2:Rows (upd H2 c2 (.lst (rs2.map V.ref))) c2 rs2 X0:=⟨ac,Paired.mapP p2 λ_ _ z=>s3 _ _ z,nd2⟩
 have s13:=s2.trans s3
 generalize (upd H2 c2 (.lst (rs2.map V.ref)))=H3 at s3 r2 s13 ⊢
 refine ⟨_,rfl,_,rfl,sc,ns,c2,rs2,X0,rfl,(s1.trans s13).seq hS,l63,r2,szo,λel eu es X H4 r4 fe pe les run k4 nel=>?_⟩
 have r13:=r1.keep s13
 have n12:∀b∈c1::rs1,b∉rs2:=λb m m2=>by
  rcases List.mem_cons.mp m with z | m
  ·have:=r1.l
   rw [← z,f2 b m2] at this
   cases this
  ·obtain ⟨xs,e⟩:=r1.at m
   rw [f2 b m2] at e;cases e
 have r14:=r13.fr k4 n12
 have tb4:Tbs P1 P2 H4:=(tb1.keep s13).rows r2 k4
 refine ⟨_,rfl,c1,rfl,⟨_,SqL.of r14.l⟩,?_⟩
 refine mw r14 (by omega) λrs4 H5 s5 f5 nd5 p5 c4 nc4=>?_
 have s6:=ai (o:=.lst (rs4.map V.ref)) nc4
 have r6:Rows (upd H5 c4 (.lst (rs4.map V.ref))) c4 rs4 X0:=⟨ac,Paired.mapP p5 λ_ _ z=>s6 _ _ z,nd5⟩
 have s46:=s5.trans s6
 generalize (upd H5 c4 (.lst (rs4.map V.ref)))=H6 at s6 r6 s46 ⊢
 refine ⟨_,rfl,el,_,rfl,.inl (SqL.of (s46 _ _ fe)),λe4 ne4=>⟨(by show 2<=sizeLine;decide),λhd nhd=>?_⟩⟩
 have s7:=ai (o:=.lst eu) ne4
 have s8:=ai (o:=.lst [.ref c4,.ref e4]) nhd
 have s68:=s7.trans s8
 have s48:=s46.trans s68
 exact ⟨c1,c2,c4,e4,hd,el,rs1,rs2,rs4,X0,X,es,eu,rfl,⟨r14.keep s48,r4.keep s48,r6.keep s68,s8 _ _ ac,s48 _ _ fe,Paired.mapP pe λ_ _ z=>z.keep s48.ts,ac,tb4.keep s48⟩,les,run,szo,q⟩
end
end K81
namespace K81
open PySem L2 Lo St
def kmk(a b c:Addr):Kd->Addr
 | .read=>a
 | .mean=>b
 | .change=>c
def wmk(a b c d e f g:Addr):Wd->Addr
 | .take=>a
 | .mean=>b
 | .sum=>c
 | .give=>d
 | .add=>e
 | .plus=>f
 | .need=>g
abbrev bmV:List Value:=[.type "ValueError",.type "Exception",.type "BaseException",.type "object"]
def FnX(K:PySem.W.Frag)(f:Addr)(x q:Str)(st:Stmt):Prop:=∃fd,Fun K x q st f fd
theorem fnx{K:PySem.W.Frag}{f:Addr}{x q:Str}{st:Stmt}{oc kV dc pm cd ct:Value}{od an:Option Addr}{sl:Array (Option Value)}(l:K.lookup f=some ⟨oc,od,.func (PySem.W.fnOf x q (defArgs st) (defBody st) (defScope st) .none kV dc pm an cd ct),sl⟩)(c:PySem.W.codeIn K cd q=true)(k:PySem.W.keepIn K (.ref f)=true):FnX K f x q st:=⟨_,pA l c k⟩
section
variable {K:PySem.W.Frag}{f:Addr}{x q:Str}{st:Stmt}{fd:FuncData}
abbrev BdF(x q:Str)(st:Stmt)(us:List Value)(ps:List Str):Prop:=∀(kV doc pm:Value) (an:Option Addr) (cdv ct:Value),bindArgs (PySem.W.fnOf x q (defArgs st) (defBody st) (defScope st) .none kV doc pm an cdv ct) ⟨us,[]⟩=pure (ps.zip us)
theorem _root_.L2.Fun.b1(F:Fun K x q st f fd)(p:Str)(h:∀u,BdF x q st [u] [p]):Binds K fd [p] []:=F.binds λa b c d e g us hl=>match us,hl with | [u],_=>h u a b c d e g
theorem _root_.L2.Fun.b2(F:Fun K x q st f fd)(p r:Str)(h:∀u v,BdF x q st [u,v] [p,r]):Binds K fd [p,r] []:=F.binds λa b c d e g us hl=>match us,hl with | [u,v],_=>h u v a b c d e g
theorem _root_.L2.Fun.b3(F:Fun K x q st f fd)(p r s:Str)(h:∀u v w,BdF x q st [u,v,w] [p,r,s]):Binds K fd [p,r,s] []:=F.binds λa b c d e g us hl=>match us,hl with | [u,v,w],_=>h u v w a b c d e g
theorem _root_.L2.Fun.b4(F:Fun K x q st f fd)(p r s t:Str)(h:∀u v w y,BdF x q st [u,v,w,y] [p,r,s,t]):Binds K fd [p,r,s,t] []:=F.binds λa b c d e g us hl=>match us,hl with | [u,v,w,y],_=>h u v w y a b c d e g
end
open PySem.W (readsIn findCls fnOf codeIn handedIn findIn nsIn keepIn isFn plainGet hasDictIn plainOver makesIn mroIn kitOne specialIn takesIn excIn mg_of mg_none_of codeHdIn tabObj noTabs)
theorem all_mk {l : PySem.W.OpenLaw} {w : World} {K : PySem.W.Frag} {h : Heap} {mg : Str → Option Value} {fa CR fkR CM fkM CC fkC fi ft CRd fri frp fra frb frn frx WA fxiY fxhY fxlA fxsZ fxdA fxbZ WB fxlB fxdB WD fxiD fxhD fxlD fxdD WE fxlE fxsE fxdE WF fxiF fxlF fxdF fxbF WG fxiG fxhZ fxlZ fxdG WN fxiN fxdN CY CP fpi fW1 fR1 fG1 fS1 fN1 fM1 fU1 fA3 fB3 fD3 fL3 fI3 fK3 fP4 fF4 fA4 fS4 fU4 fH4 fB4 fO4 fT4 fA2 fX2 fR2 fM2 fS2 fY2 fT2 fD2 fH2 fW2 fB2 fN2 fE2 fF2 fQ2 fZ aSh aMn CNo cc1 Pt1 cc2 Pt2 : Addr} (X : K.In h) (G : h.Ns mainGlobals mg) (hfa : mg "law" = some (.ref fa))
     {odU4 anU4 odO4 anO4:Option Addr} {slU4 slO4:Array (Option Value)} {ocU4 kVU4 dcU4 pmU4 cdU4 ctU4 ocO4 kVO4 dcO4 pmO4 cdO4 ctO4:Value} {t_MOST_FIGURES_things t_MOST_SIGNS t_MOST_DEEP t_LONGEST t_BLANK t_PERCENT t_TILDE t_MOST_FIGURES_steps t_MOST_STEPS:Tok} {esR:Array DictEntry} {epR:Nat} {dMn:Option Addr} {mn1 mn2:Tok} {nMn:Nat} {sMn:Array (Option Value)} {odC1:Option Addr} {slC1:Array (Option Value)} {vsC1:Array Value} {odC2:Option Addr} {slC2:Array (Option Value)} {vsC2:Array Value}
  (nR:nsIn K mainGlobals "Read"=some (some (.ref CR)))
  (pgR:plainGet K CR Str.empty=true)
  (hdR:hasDictIn K CR=true)
  (poR:plainOver K CR=true)
  (saR:findIn K (.ref CR) "__setattr__"=some (some (.builtin "object.__setattr__")))
  (mkR:makesIn K CR=true)
  (kcR:keepIn K (.ref CR)=true)
  (nFR:findIn K (.ref CR) "first"=some none)
  (nLR:findIn K (.ref CR) "last"=some none)
  (akR:findIn K (.ref CR) "kind"=some (some (.ref fkR)))
  (jkR:isFn K (.ref fkR)=true)
  (lkR:FnX K fkR "kind" "Read.kind" gb)
  (nM:nsIn K mainGlobals "Mean"=some (some (.ref CM)))
  (pgM:plainGet K CM Str.empty=true)
  (hdM:hasDictIn K CM=true)
  (poM:plainOver K CM=true)
  (saM:findIn K (.ref CM) "__setattr__"=some (some (.builtin "object.__setattr__")))
  (mkM:makesIn K CM=true)
  (kcM:keepIn K (.ref CM)=true)
  (nFM:findIn K (.ref CM) "first"=some none)
  (nLM:findIn K (.ref CM) "last"=some none)
  (akM:findIn K (.ref CM) "kind"=some (some (.ref fkM)))
  (jkM:isFn K (.ref fkM)=true)
  (lkM:FnX K fkM "kind" "Mean.kind" gf)
  (nC:nsIn K mainGlobals "Change"=some (some (.ref CC)))
  (pgC:plainGet K CC Str.empty=true)
  (hdC:hasDictIn K CC=true)
  (poC:plainOver K CC=true)
  (saC:findIn K (.ref CC) "__setattr__"=some (some (.builtin "object.__setattr__")))
  (mkC:makesIn K CC=true)
  (kcC:keepIn K (.ref CC)=true)
  (nFC:findIn K (.ref CC) "first"=some none)
  (nLC:findIn K (.ref CC) "last"=some none)
  (akC:findIn K (.ref CC) "kind"=some (some (.ref fkC)))
  (jkC:isFn K (.ref fkC)=true)
  (lkC:FnX K fkC "kind" "Change.kind" eA)
  (aiR:findIn K (.ref CR) "__init__"=some (some (.ref fi)))
  (aiM:findIn K (.ref CM) "__init__"=some (some (.ref fi)))
  (aiC:findIn K (.ref CC) "__init__"=some (some (.ref fi)))
  (ji:isFn K (.ref fi)=true)
  (li:FnX K fi "__init__" "Lock.__init__" gh)
  (atR:findIn K (.ref CR) "told"=some (some (.ref ft)))
  (atM:findIn K (.ref CM) "told"=some (some (.ref ft)))
  (atC:findIn K (.ref CC) "told"=some (some (.ref ft)))
  (jt:isFn K (.ref ft)=true)
  (lt:FnX K ft "told" "Lock.told" gg)
  (nrd:nsIn K mainGlobals "Reader"=some (some (.ref CRd)))
  (pgrd:plainGet K CRd Str.empty=true)
  (hdrd:hasDictIn K CRd=true)
  (pord:plainOver K CRd=true)
  (sard:findIn K (.ref CRd) "__setattr__"=some (some (.builtin "object.__setattr__")))
  (mkrd:makesIn K CRd=true)
  (kcrd:keepIn K (.ref CRd)=true)
  (nTx:findIn K (.ref CRd) "text"=some none)
  (nPl:findIn K (.ref CRd) "place"=some none)
  (ari:findIn K (.ref CRd) "__init__"=some (some (.ref fri)))
  (jri:isFn K (.ref fri)=true)
  (lri:FnX K fri "__init__" "Reader.__init__" gB)
  (arp:findIn K (.ref CRd) "passes"=some (some (.ref frp)))
  (jrp:isFn K (.ref frp)=true)
  (lrp:FnX K frp "passes" "Reader.passes" fj)
  (ara:findIn K (.ref CRd) "read_any"=some (some (.ref fra)))
  (jra:isFn K (.ref fra)=true)
  (lra:FnX K fra "read_any" "Reader.read_any" dU)
  (arb:findIn K (.ref CRd) "read_below"=some (some (.ref frb)))
  (jrb:isFn K (.ref frb)=true)
  (lrb:FnX K frb "read_below" "Reader.read_below" dk)
  (arn:findIn K (.ref CRd) "read_number"=some (some (.ref frn)))
  (jrn:isFn K (.ref frn)=true)
  (lrn:FnX K frn "read_number" "Reader.read_number" cT)
  (arx:findIn K (.ref CRd) "read_signs"=some (some (.ref frx)))
  (jrx:isFn K (.ref frx)=true)
  (lrx:FnX K frx "read_signs" "Reader.read_signs" dh)
  (nwA:nsIn K mainGlobals "TakeStep"=some (some (.ref WA)))
  (pgwA:plainGet K WA Str.empty=true)
  (hdwA:hasDictIn K WA=true)
  (powA:plainOver K WA=true)
  (sawA:findIn K (.ref WA) "__setattr__"=some (some (.builtin "object.__setattr__")))
  (mkwA:makesIn K WA=true)
  (kcwA:keepIn K (.ref WA)=true)
  (nWwA:findIn K (.ref WA) "where"=some none)
  (nCwA:findIn K (.ref WA) "cell"=some none)
  (nLwA:findIn K (.ref WA) "low"=some none)
  (nHwA:findIn K (.ref WA) "high"=some none)
  (nAwA:findIn K (.ref WA) "amount"=some none)
  (uxiYA:findIn K (.ref WA) "__init__"=some (some (.ref fxiY)))
  (jxiY:isFn K (.ref fxiY)=true)
  (lxiY:FnX K fxiY "__init__" "CellStep.__init__" df)
  (uxhYA:findIn K (.ref WA) "house"=some (some (.ref fxhY)))
  (jxhY:isFn K (.ref fxhY)=true)
  (lxhY:FnX K fxhY "house" "CellStep.house" cN)
  (uxlAA:findIn K (.ref WA) "lock"=some (some (.ref fxlA)))
  (jxlA:isFn K (.ref fxlA)=true)
  (lxlA:FnX K fxlA "lock" "TakeStep.lock" cY)
  (uxsZA:findIn K (.ref WA) "sure"=some (some (.ref fxsZ)))
  (jxsZ:isFn K (.ref fxsZ)=true)
  (lxsZ:FnX K fxsZ "sure" "Step.sure" f7)
  (uxdAA:findIn K (.ref WA) "step_done"=some (some (.ref fxdA)))
  (jxdA:isFn K (.ref fxdA)=true)
  (lxdA:FnX K fxdA "step_done" "TakeStep.step_done" bR)
  (uxbZA:findIn K (.ref WA) "back"=some (some (.ref fxbZ)))
  (jxbZ:isFn K (.ref fxbZ)=true)
  (lxbZ:FnX K fxbZ "back" "Step.back" f9)
  (nwB:nsIn K mainGlobals "MeanStep"=some (some (.ref WB)))
  (pgwB:plainGet K WB Str.empty=true)
  (hdwB:hasDictIn K WB=true)
  (powB:plainOver K WB=true)
  (sawB:findIn K (.ref WB) "__setattr__"=some (some (.builtin "object.__setattr__")))
  (mkwB:makesIn K WB=true)
  (kcwB:keepIn K (.ref WB)=true)
  (nWwB:findIn K (.ref WB) "where"=some none)
  (nCwB:findIn K (.ref WB) "cell"=some none)
  (nLwB:findIn K (.ref WB) "low"=some none)
  (nHwB:findIn K (.ref WB) "high"=some none)
  (nAwB:findIn K (.ref WB) "amount"=some none)
  (uxiYB:findIn K (.ref WB) "__init__"=some (some (.ref fxiY)))
  (uxhYB:findIn K (.ref WB) "house"=some (some (.ref fxhY)))
  (uxlBB:findIn K (.ref WB) "lock"=some (some (.ref fxlB)))
  (jxlB:isFn K (.ref fxlB)=true)
  (lxlB:FnX K fxlB "lock" "MeanStep.lock" c9)
  (uxsZB:findIn K (.ref WB) "sure"=some (some (.ref fxsZ)))
  (uxdBB:findIn K (.ref WB) "step_done"=some (some (.ref fxdB)))
  (jxdB:isFn K (.ref fxdB)=true)
  (lxdB:FnX K fxdB "step_done" "MeanStep.step_done" cU)
  (uxbZB:findIn K (.ref WB) "back"=some (some (.ref fxbZ)))
  (nwD:nsIn K mainGlobals "SumStep"=some (some (.ref WD)))
  (pgwD:plainGet K WD Str.empty=true)
  (hdwD:hasDictIn K WD=true)
  (powD:plainOver K WD=true)
  (sawD:findIn K (.ref WD) "__setattr__"=some (some (.builtin "object.__setattr__")))
  (mkwD:makesIn K WD=true)
  (kcwD:keepIn K (.ref WD)=true)
  (nWwD:findIn K (.ref WD) "where"=some none)
  (nCwD:findIn K (.ref WD) "cell"=some none)
  (nLwD:findIn K (.ref WD) "low"=some none)
  (nHwD:findIn K (.ref WD) "high"=some none)
  (nAwD:findIn K (.ref WD) "amount"=some none)
  (uxiDD:findIn K (.ref WD) "__init__"=some (some (.ref fxiD)))
  (jxiD:isFn K (.ref fxiD)=true)
  (lxiD:FnX K fxiD "__init__" "SumStep.__init__" dD)
  (uxhDD:findIn K (.ref WD) "house"=some (some (.ref fxhD)))
  (jxhD:isFn K (.ref fxhD)=true)
  (lxhD:FnX K fxhD "house" "SumStep.house" cZ)
  (uxlDD:findIn K (.ref WD) "lock"=some (some (.ref fxlD)))
  (jxlD:isFn K (.ref fxlD)=true)
  (lxlD:FnX K fxlD "lock" "SumStep.lock" dy)
  (uxsZD:findIn K (.ref WD) "sure"=some (some (.ref fxsZ)))
  (uxdDD:findIn K (.ref WD) "step_done"=some (some (.ref fxdD)))
  (jxdD:isFn K (.ref fxdD)=true)
  (lxdD:FnX K fxdD "step_done" "SumStep.step_done" be)
  (uxbZD:findIn K (.ref WD) "back"=some (some (.ref fxbZ)))
  (nwE:nsIn K mainGlobals "GiveStep"=some (some (.ref WE)))
  (pgwE:plainGet K WE Str.empty=true)
  (hdwE:hasDictIn K WE=true)
  (powE:plainOver K WE=true)
  (sawE:findIn K (.ref WE) "__setattr__"=some (some (.builtin "object.__setattr__")))
  (mkwE:makesIn K WE=true)
  (kcwE:keepIn K (.ref WE)=true)
  (nWwE:findIn K (.ref WE) "where"=some none)
  (nCwE:findIn K (.ref WE) "cell"=some none)
  (nLwE:findIn K (.ref WE) "low"=some none)
  (nHwE:findIn K (.ref WE) "high"=some none)
  (nAwE:findIn K (.ref WE) "amount"=some none)
  (uxiYE:findIn K (.ref WE) "__init__"=some (some (.ref fxiY)))
  (uxhYE:findIn K (.ref WE) "house"=some (some (.ref fxhY)))
  (uxlEE:findIn K (.ref WE) "lock"=some (some (.ref fxlE)))
  (jxlE:isFn K (.ref fxlE)=true)
  (lxlE:FnX K fxlE "lock" "GiveStep.lock" db)
  (uxsEE:findIn K (.ref WE) "sure"=some (some (.ref fxsE)))
  (jxsE:isFn K (.ref fxsE)=true)
  (lxsE:FnX K fxsE "sure" "GiveStep.sure" da)
  (uxdEE:findIn K (.ref WE) "step_done"=some (some (.ref fxdE)))
  (jxdE:isFn K (.ref fxdE)=true)
  (lxdE:FnX K fxdE "step_done" "GiveStep.step_done" bV)
  (uxbZE:findIn K (.ref WE) "back"=some (some (.ref fxbZ)))
  (nwF:nsIn K mainGlobals "AddStep"=some (some (.ref WF)))
  (pgwF:plainGet K WF Str.empty=true)
  (hdwF:hasDictIn K WF=true)
  (powF:plainOver K WF=true)
  (sawF:findIn K (.ref WF) "__setattr__"=some (some (.builtin "object.__setattr__")))
  (mkwF:makesIn K WF=true)
  (kcwF:keepIn K (.ref WF)=true)
  (nWwF:findIn K (.ref WF) "where"=some none)
  (nCwF:findIn K (.ref WF) "cell"=some none)
  (nLwF:findIn K (.ref WF) "low"=some none)
  (nHwF:findIn K (.ref WF) "high"=some none)
  (nAwF:findIn K (.ref WF) "amount"=some none)
  (uxiFF:findIn K (.ref WF) "__init__"=some (some (.ref fxiF)))
  (jxiF:isFn K (.ref fxiF)=true)
  (lxiF:FnX K fxiF "__init__" "AddStep.__init__" dF)
  (uxhYF:findIn K (.ref WF) "house"=some (some (.ref fxhY)))
  (uxlFF:findIn K (.ref WF) "lock"=some (some (.ref fxlF)))
  (jxlF:isFn K (.ref fxlF)=true)
  (lxlF:FnX K fxlF "lock" "AddStep.lock" dE)
  (uxsZF:findIn K (.ref WF) "sure"=some (some (.ref fxsZ)))
  (uxdFF:findIn K (.ref WF) "step_done"=some (some (.ref fxdF)))
  (jxdF:isFn K (.ref fxdF)=true)
  (lxdF:FnX K fxdF "step_done" "AddStep.step_done" ce)
  (uxbFF:findIn K (.ref WF) "back"=some (some (.ref fxbF)))
  (jxbF:isFn K (.ref fxbF)=true)
  (lxbF:FnX K fxbF "back" "AddStep.back" dH)
  (nwG:nsIn K mainGlobals "PlusStep"=some (some (.ref WG)))
  (pgwG:plainGet K WG Str.empty=true)
  (hdwG:hasDictIn K WG=true)
  (powG:plainOver K WG=true)
  (sawG:findIn K (.ref WG) "__setattr__"=some (some (.builtin "object.__setattr__")))
  (mkwG:makesIn K WG=true)
  (kcwG:keepIn K (.ref WG)=true)
  (nWwG:findIn K (.ref WG) "where"=some none)
  (nCwG:findIn K (.ref WG) "cell"=some none)
  (nLwG:findIn K (.ref WG) "low"=some none)
  (nHwG:findIn K (.ref WG) "high"=some none)
  (nAwG:findIn K (.ref WG) "amount"=some none)
  (uxiGG:findIn K (.ref WG) "__init__"=some (some (.ref fxiG)))
  (jxiG:isFn K (.ref fxiG)=true)
  (lxiG:FnX K fxiG "__init__" "PlusStep.__init__" c7)
  (uxhZG:findIn K (.ref WG) "house"=some (some (.ref fxhZ)))
  (jxhZ:isFn K (.ref fxhZ)=true)
  (lxhZ:FnX K fxhZ "house" "Step.house" eX)
  (uxlZG:findIn K (.ref WG) "lock"=some (some (.ref fxlZ)))
  (jxlZ:isFn K (.ref fxlZ)=true)
  (lxlZ:FnX K fxlZ "lock" "Step.lock" f8)
  (uxsZG:findIn K (.ref WG) "sure"=some (some (.ref fxsZ)))
  (uxdGG:findIn K (.ref WG) "step_done"=some (some (.ref fxdG)))
  (jxdG:isFn K (.ref fxdG)=true)
  (lxdG:FnX K fxdG "step_done" "PlusStep.step_done" bT)
  (uxbZG:findIn K (.ref WG) "back"=some (some (.ref fxbZ)))
  (nwN:nsIn K mainGlobals "NeedStep"=some (some (.ref WN)))
  (pgwN:plainGet K WN Str.empty=true)
  (hdwN:hasDictIn K WN=true)
  (powN:plainOver K WN=true)
  (sawN:findIn K (.ref WN) "__setattr__"=some (some (.builtin "object.__setattr__")))
  (mkwN:makesIn K WN=true)
  (kcwN:keepIn K (.ref WN)=true)
  (nWwN:findIn K (.ref WN) "where"=some none)
  (nCwN:findIn K (.ref WN) "cell"=some none)
  (nLwN:findIn K (.ref WN) "low"=some none)
  (nHwN:findIn K (.ref WN) "high"=some none)
  (nAwN:findIn K (.ref WN) "amount"=some none)
  (uxiNN:findIn K (.ref WN) "__init__"=some (some (.ref fxiN)))
  (jxiN:isFn K (.ref fxiN)=true)
  (lxiN:FnX K fxiN "__init__" "NeedStep.__init__" c8)
  (uxhZN:findIn K (.ref WN) "house"=some (some (.ref fxhZ)))
  (uxlZN:findIn K (.ref WN) "lock"=some (some (.ref fxlZ)))
  (uxsZN:findIn K (.ref WN) "sure"=some (some (.ref fxsZ)))
  (uxdNN:findIn K (.ref WN) "step_done"=some (some (.ref fxdN)))
  (jxdN:isFn K (.ref fxdN)=true)
  (lxdN:FnX K fxdN "step_done" "NeedStep.step_done" bU)
  (uxbZN:findIn K (.ref WN) "back"=some (some (.ref fxbZ)))
  (nCY:nsIn K mainGlobals "CellStep"=some (some (.ref CY)))
  (gaY:specialIn K (.ref CY) "__getattribute__"=some (some (.builtin "type.__getattribute__")))
  (rdY:readsIn K CY (.type "type")=true)
  (fcY:findCls K (.ref CY) (.type "type") "__init__"=some (.val (.ref fxiY)))
  (hiY:handedIn (.ref fxiY)=true)
  (hawA:findIn K (.ref WA) "__class__"=some (some (.builtin "object.__class__")))
  (hmwA:mroIn K WA (.type "object")=some true)
  (iNwA:kitOne K (.ref WA) (.ref WN)=some false)
  (hawB:findIn K (.ref WB) "__class__"=some (some (.builtin "object.__class__")))
  (hmwB:mroIn K WB (.type "object")=some true)
  (iNwB:kitOne K (.ref WB) (.ref WN)=some false)
  (hawD:findIn K (.ref WD) "__class__"=some (some (.builtin "object.__class__")))
  (hmwD:mroIn K WD (.type "object")=some true)
  (iNwD:kitOne K (.ref WD) (.ref WN)=some false)
  (hawE:findIn K (.ref WE) "__class__"=some (some (.builtin "object.__class__")))
  (hmwE:mroIn K WE (.type "object")=some true)
  (iNwE:kitOne K (.ref WE) (.ref WN)=some false)
  (hawF:findIn K (.ref WF) "__class__"=some (some (.builtin "object.__class__")))
  (hmwF:mroIn K WF (.type "object")=some true)
  (iNwF:kitOne K (.ref WF) (.ref WN)=some false)
  (hawG:findIn K (.ref WG) "__class__"=some (some (.builtin "object.__class__")))
  (hmwG:mroIn K WG (.type "object")=some true)
  (iNwG:kitOne K (.ref WG) (.ref WN)=some false)
  (hawN:findIn K (.ref WN) "__class__"=some (some (.builtin "object.__class__")))
  (hmwN:mroIn K WN (.type "object")=some true)
  (iNwN:kitOne K (.ref WN) (.ref WN)=some true)
  (hn:specialIn K (.builtin "object.__class__") "__get__"=some (some (.builtin "getset_descriptor.__get__")))
  (htk:takesIn K (.builtin "object.__class__")=some true)
  (nP:nsIn K mainGlobals "Pact"=some (some (.ref CP)))
  (pgP:plainGet K CP Str.empty=true)
  (hdP:hasDictIn K CP=true)
  (poP:plainOver K CP=true)
  (saP:findIn K (.ref CP) "__setattr__"=some (some (.builtin "object.__setattr__")))
  (mkP:makesIn K CP=true)
  (kcP:keepIn K (.ref CP)=true)
  (nPm:findIn K (.ref CP) "manner"=some none)
  (nPs:findIn K (.ref CP) "steps"=some none)
  (nPp:findIn K (.ref CP) "parts"=some none)
  (api:findIn K (.ref CP) "__init__"=some (some (.ref fpi)))
  (jpi:isFn K (.ref fpi)=true)
  (lpi:FnX K fpi "__init__" "Pact.__init__" gd)
  (aW1:nsIn K mainGlobals "is_whole"=some (some (.ref fW1)))
  (lW1:FnX K fW1 "is_whole" "is_whole" jU)
  (aR1:nsIn K mainGlobals "read_thing"=some (some (.ref fR1)))
  (lR1:FnX K fR1 "read_thing" "read_thing" gV)
  (aG1:nsIn K mainGlobals "is_sign"=some (some (.ref fG1)))
  (lG1:FnX K fG1 "is_sign" "is_sign" kH)
  (aS1:nsIn K mainGlobals "read_step"=some (some (.ref fS1)))
  (lS1:FnX K fS1 "read_step" "read_step" cP)
  (aN1:nsIn K mainGlobals "read_number"=some (some (.ref fN1)))
  (lN1:FnX K fN1 "read_number" "read_number" dW)
  (aM1:nsIn K mainGlobals "made_step"=some (some (.ref fM1)))
  (lM1:FnX K fM1 "made_step" "made_step" fM)
  (aU1:nsIn K mainGlobals "made_sum"=some (some (.ref fU1)))
  (lU1:FnX K fU1 "made_sum" "made_sum" gI)
  (aA3:nsIn K mainGlobals "read_part"=some (some (.ref fA3)))
  (lA3:FnX K fA3 "read_part" "read_part" fK)
  (aB3:nsIn K mainGlobals "read_pact"=some (some (.ref fB3)))
  (lB3:FnX K fB3 "read_pact" "read_pact" cQ)
  (aD3:nsIn K mainGlobals "turning"=some (some (.ref fD3)))
  (lD3:FnX K fD3 "turning" "turning" iK)
  (aL3:nsIn K mainGlobals "look"=some (some (.ref fL3)))
  (lL3:FnX K fL3 "look" "look" oN)
  (aI3:nsIn K mainGlobals "is_there"=some (some (.ref fI3)))
  (lI3:FnX K fI3 "is_there" "is_there" gJ)
  (aK3:nsIn K mainGlobals "look_behind"=some (some (.ref fK3)))
  (lK3:FnX K fK3 "look_behind" "look_behind" dX)
  (aP4:nsIn K mainGlobals "played"=some (some (.ref fP4)))
  (lP4:FnX K fP4 "played" "played" fL)
  (aF4:nsIn K mainGlobals "is_fit"=some (some (.ref fF4)))
  (lF4:FnX K fF4 "is_fit" "is_fit" fO)
  (aA4:nsIn K mainGlobals "is_pact_fit"=some (some (.ref fA4)))
  (lA4:FnX K fA4 "is_pact_fit" "is_pact_fit" dY)
  (aS4:nsIn K mainGlobals "is_step_fit"=some (some (.ref fS4)))
  (lS4:FnX K fS4 "is_step_fit" "is_step_fit" cj)
  (aU4:nsIn K mainGlobals "is_undo_fit"=some (some (.ref fU4)))
  (lU4:K.lookup fU4=some ⟨ocU4,odU4,.func (fnOf "is_undo_fit" "is_undo_fit" (defArgs aQ) (defBody aQ) (defScope aQ) .none kVU4 dcU4 pmU4 anU4 cdU4 ctU4),slU4⟩)
  (cU4:codeIn K cdU4 "is_undo_fit"=true)
  (eU4:keepIn K (.ref fU4)=true)
  (aH4:nsIn K mainGlobals "first_at_house"=some (some (.ref fH4)))
  (lH4:FnX K fH4 "first_at_house" "first_at_house" cJ)
  (aB4:nsIn K mainGlobals "hands_behind"=some (some (.ref fB4)))
  (lB4:FnX K fB4 "hands_behind" "hands_behind" dr)
  (aO4:nsIn K mainGlobals "step_on"=some (some (.ref fO4)))
  (lO4:K.lookup fO4=some ⟨ocO4,odO4,.func (fnOf "step_on" "step_on" (defArgs bW) (defBody bW) (defScope bW) .none kVO4 dcO4 pmO4 anO4 cdO4 ctO4),slO4⟩)
  (cO4:codeIn K cdO4 "step_on"=true)
  (eO4:keepIn K (.ref fO4)=true)
  (aT4:nsIn K mainGlobals "put"=some (some (.ref fT4)))
  (lT4:FnX K fT4 "put" "put" so)
  (aA2:nsIn K mainGlobals "_law_cell"=some (some (.ref fA2)))
  (lA2:FnX K fA2 "_law_cell" "_law_cell" fV)
  (aX2:nsIn K mainGlobals "_law_mixed"=some (some (.ref fX2)))
  (lX2:FnX K fX2 "_law_mixed" "_law_mixed" eR)
  (aR2:nsIn K mainGlobals "_law_stream"=some (some (.ref fR2)))
  (lR2:FnX K fR2 "_law_stream" "_law_stream" ck)
  (aM2:nsIn K mainGlobals "_law_amount"=some (some (.ref fM2)))
  (lM2:FnX K fM2 "_law_amount" "_law_amount" d0)
  (aS2:nsIn K mainGlobals "_law_step"=some (some (.ref fS2)))
  (lS2:FnX K fS2 "_law_step" "_law_step" fR)
  (aY2:nsIn K mainGlobals "_law_steps"=some (some (.ref fY2)))
  (lY2:FnX K fY2 "_law_steps" "_law_steps" cB)
  (aT2:nsIn K mainGlobals "_law_text"=some (some (.ref fT2)))
  (lT2:FnX K fT2 "_law_text" "_law_text" bO)
  (aD2:nsIn K mainGlobals "_law_done"=some (some (.ref fD2)))
  (lD2:FnX K fD2 "_law_done" "_law_done" fU)
  (aH2:nsIn K mainGlobals "_law_held"=some (some (.ref fH2)))
  (lH2:FnX K fH2 "_law_held" "_law_held" fT)
  (aW2:nsIn K mainGlobals "_law_walk"=some (some (.ref fW2)))
  (lW2:FnX K fW2 "_law_walk" "_law_walk" fQ)
  (aB2:nsIn K mainGlobals "_law_back"=some (some (.ref fB2)))
  (lB2:FnX K fB2 "_law_back" "_law_back" cR)
  (aN2:nsIn K mainGlobals "_law_new_way"=some (some (.ref fN2)))
  (lN2:FnX K fN2 "_law_new_way" "_law_new_way" du)
  (aE2:nsIn K mainGlobals "_law_entries"=some (some (.ref fE2)))
  (lE2:FnX K fE2 "_law_entries" "_law_entries" bh)
  (aF2:nsIn K mainGlobals "_law_first"=some (some (.ref fF2)))
  (lF2:FnX K fF2 "_law_first" "_law_first" cC)
  (aQ2:nsIn K mainGlobals "_law_alike"=some (some (.ref fQ2)))
  (lQ2:FnX K fQ2 "_law_alike" "_law_alike" eS)
  (aZ:nsIn K mainGlobals "law"=some (some (.ref fZ)))
  (lZ:FnX K fZ "law" "law" jT)
  (y_isinstance:nsIn K mainGlobals "isinstance"=some none)
  (y_int:nsIn K mainGlobals "int"=some none)
  (y_bool:nsIn K mainGlobals "bool"=some none)
  (y_str:nsIn K mainGlobals "str"=some none)
  (y_len:nsIn K mainGlobals "len"=some none)
  (y_range:nsIn K mainGlobals "range"=some none)
  (y_tuple:nsIn K mainGlobals "tuple"=some none)
  (y_list:nsIn K mainGlobals "list"=some none)
  (y_any:nsIn K mainGlobals "any"=some none)
  (y_all:nsIn K mainGlobals "all"=some none)
  (y_max:nsIn K mainGlobals "max"=some none)
  (y_sorted:nsIn K mainGlobals "sorted"=some none)
  (y_min:nsIn K mainGlobals "min"=some none)
  (y_sum:nsIn K mainGlobals "sum"=some none)
  (y_ord:nsIn K mainGlobals "ord"=some none)
  (q_MOST_FIGURES_things:nsIn K mainGlobals "MOST_FIGURES_things"=some (some (.int 400 t_MOST_FIGURES_things)))
  (q_MOST_SIGNS:nsIn K mainGlobals "MOST_SIGNS"=some (some (.int 2000 t_MOST_SIGNS)))
  (q_MOST_DEEP:nsIn K mainGlobals "MOST_DEEP"=some (some (.int 8 t_MOST_DEEP)))
  (q_LONGEST:nsIn K mainGlobals "LONGEST"=some (some (.int 100000 t_LONGEST)))
  (q_BLANK:nsIn K mainGlobals "BLANK"=some (some (.int 32 t_BLANK)))
  (q_PERCENT:nsIn K mainGlobals "PERCENT"=some (some (.int 37 t_PERCENT)))
  (q_TILDE:nsIn K mainGlobals "TILDE"=some (some (.int 126 t_TILDE)))
  (q_MOST_FIGURES_steps:nsIn K mainGlobals "MOST_FIGURES_steps"=some (some (.int 40 t_MOST_FIGURES_steps)))
  (q_MOST_STEPS:nsIn K mainGlobals "MOST_STEPS"=some (some (.int 12 t_MOST_STEPS)))
  (nSh:nsIn K mainGlobals "SHAPES"=some (some (.ref aSh)))
  (lSh:K.lookup aSh=some ⟨.type "dict",none,.dict esR epR,#[]⟩)
  (qSh:(aSh==sysModules)=false)
  (tSh:PyProof.Rows.KTD.rowsLook vD esR.toList ju=true)
  (nMnn:nsIn K mainGlobals "MANNERS"=some (some (.ref aMn)))
  (lMn:K.lookup aMn=some ⟨.type "tuple",dMn,.seq #[.str "held" mn1,.str "walked" mn2] nMn,sMn⟩)
  (nNo:nsIn K mainGlobals "NoThing"=some (some (.ref CNo)))
  (xNo:excIn K CNo bmV "ValueError.__new__"=true)
  (hcc1:cdO4=.ref cc1)
  (lC1:K.lookup cc1=some ⟨.type "code",odC1,.fields vsC1,slC1⟩)
  (hPt1:vsC1[11]?=some (.ref Pt1))
  (hC1:codeHdIn K cc1 Pt1=true)
  (hT1:h.get? Pt1=some (tabObj #[]))
  (hcc2:cdU4=.ref cc2)
  (lC2:K.lookup cc2=some ⟨.type "code",odC2,.fields vsC2,slC2⟩)
  (hPt2:vsC2[11]?=some (.ref Pt2))
  (hC2:codeHdIn K cc2 Pt2=true)
  (hT2:h.get? Pt2=some (tabObj #[]))
  (hNe:Pt1≠Pt2)
  (hN:noTabs K=true) :
  ∃(fd:FuncData) (cc cd P1 P2:Addr),(∀(s:Shared) (v:Value),BindsTo s fd ⟨[v],[]⟩ [("_law_script",v)])/\PySem.W.codeHdIn K cc P1=true/\PySem.W.codeHdIn K cd P2=true/\P1≠P2/\h.get? P1=some (PySem.W.tabObj #[])/\h.get? P2=some (PySem.W.tabObj #[])/\PySem.W.noTabs K=true/\∀base:Heap,K.In base->BB mg base->FnOk l.prog w K mg base CX0 11 fa fd ["_law_script"] (lG K P1 P2):=by
 have e:=hfa.symm.trans (PySem.W.mg_of X G aZ)
 cases e
 obtain ⟨dkR,FkR⟩:=lkR
 have ekR:=FkR.kp
 have bkR:=FkR.b1 "self" λ_ _ _ _ _ _ _=>rfl
 obtain ⟨dkM,FkM⟩:=lkM
 have ekM:=FkM.kp
 have bkM:=FkM.b1 "self" λ_ _ _ _ _ _ _=>rfl
 obtain ⟨dkC,FkC⟩:=lkC
 have ekC:=FkC.kp
 have bkC:=FkC.b1 "self" λ_ _ _ _ _ _ _=>rfl
 obtain ⟨di,Fi⟩:=li
 have ei:=Fi.kp
 have bi:=Fi.b3 "self" "first" "last" λ_ _ _ _ _ _ _ _ _=>rfl
 obtain ⟨dt,Ft⟩:=lt
 have et:=Ft.kp
 have bt:=Ft.b1 "self" λ_ _ _ _ _ _ _=>rfl
 have T:TxK K (kmk CR CM CC):=⟨λk=>match k with | .read=>⟨pgR,hdR,poR,saR⟩ | .mean=>⟨pgM,hdM,poM,saM⟩ | .change=>⟨pgC,hdC,poC,saC⟩,λk=>match k with | .read=>nFR | .mean=>nFM | .change=>nFC,λk=>match k with | .read=>nLR | .mean=>nLM | .change=>nLC⟩
 have mgC:∀k,mg (kdN k)=some (.ref (kmk CR CM CC k)):=λk=>match k with | .read=>mg_of X G nR | .mean=>mg_of X G nM | .change=>mg_of X G nC
 obtain ⟨dri,Fri⟩:=lri
 have eri:=Fri.kp
 have bri:=Fri.b2 "self" "text" λ_ _ _ _ _ _ _ _=>rfl
 obtain ⟨drp,Frp⟩:=lrp
 have erp:=Frp.kp
 have brp:=Frp.b2 "self" "sign" λ_ _ _ _ _ _ _ _=>rfl
 obtain ⟨dra,Fra⟩:=lra
 have era:=Fra.kp
 have bra:=Fra.b2 "self" "deep" λ_ _ _ _ _ _ _ _=>rfl
 obtain ⟨drb,Frb⟩:=lrb
 have erb:=Frb.kp
 have brb:=Frb.b1 "self" λ_ _ _ _ _ _ _=>rfl
 obtain ⟨drn,Frn⟩:=lrn
 have ern:=Frn.kp
 have brn:=Frn.b1 "self" λ_ _ _ _ _ _ _=>rfl
 obtain ⟨drx,Frx⟩:=lrx
 have erx:=Frx.kp
 have brx:=Frx.b2 "self" "many" λ_ _ _ _ _ _ _ _=>rfl
 obtain ⟨dxiY,FxiY⟩:=lxiY
 have exiY:=FxiY.kp
 have bxiY:=FxiY.b3 "self" "where" "cell" λ_ _ _ _ _ _ _ _ _=>rfl
 obtain ⟨dxhY,FxhY⟩:=lxhY
 have exhY:=FxhY.kp
 have bxhY:=FxhY.b1 "self" λ_ _ _ _ _ _ _=>rfl
 obtain ⟨dxlA,FxlA⟩:=lxlA
 have exlA:=FxlA.kp
 have bxlA:=FxlA.b1 "self" λ_ _ _ _ _ _ _=>rfl
 obtain ⟨dxsZ,FxsZ⟩:=lxsZ
 have exsZ:=FxsZ.kp
 have bxsZ:=FxsZ.b1 "self" λ_ _ _ _ _ _ _=>rfl
 obtain ⟨dxdA,FxdA⟩:=lxdA
 have exdA:=FxdA.kp
 have bxdA:=FxdA.b3 "self" "hand" "value_of" λ_ _ _ _ _ _ _ _ _=>rfl
 obtain ⟨dxbZ,FxbZ⟩:=lxbZ
 have exbZ:=FxbZ.kp
 have bxbZ:=FxbZ.b2 "self" "value_of" λ_ _ _ _ _ _ _ _=>rfl
 obtain ⟨dxlB,FxlB⟩:=lxlB
 have exlB:=FxlB.kp
 have bxlB:=FxlB.b1 "self" λ_ _ _ _ _ _ _=>rfl
 obtain ⟨dxdB,FxdB⟩:=lxdB
 have exdB:=FxdB.kp
 have bxdB:=FxdB.b3 "self" "hand" "value_of" λ_ _ _ _ _ _ _ _ _=>rfl
 obtain ⟨dxiD,FxiD⟩:=lxiD
 have exiD:=FxiD.kp
 have bxiD:=FxiD.b4 "self" "where" "low" "high" λ_ _ _ _ _ _ _ _ _ _=>rfl
 obtain ⟨dxhD,FxhD⟩:=lxhD
 have exhD:=FxhD.kp
 have bxhD:=FxhD.b1 "self" λ_ _ _ _ _ _ _=>rfl
 obtain ⟨dxlD,FxlD⟩:=lxlD
 have exlD:=FxlD.kp
 have bxlD:=FxlD.b1 "self" λ_ _ _ _ _ _ _=>rfl
 obtain ⟨dxdD,FxdD⟩:=lxdD
 have exdD:=FxdD.kp
 have bxdD:=FxdD.b3 "self" "hand" "value_of" λ_ _ _ _ _ _ _ _ _=>rfl
 obtain ⟨dxlE,FxlE⟩:=lxlE
 have exlE:=FxlE.kp
 have bxlE:=FxlE.b1 "self" λ_ _ _ _ _ _ _=>rfl
 obtain ⟨dxsE,FxsE⟩:=lxsE
 have exsE:=FxsE.kp
 have bxsE:=FxsE.b1 "self" λ_ _ _ _ _ _ _=>rfl
 obtain ⟨dxdE,FxdE⟩:=lxdE
 have exdE:=FxdE.kp
 have bxdE:=FxdE.b3 "self" "hand" "value_of" λ_ _ _ _ _ _ _ _ _=>rfl
 obtain ⟨dxiF,FxiF⟩:=lxiF
 have exiF:=FxiF.kp
 have bxiF:=FxiF.b4 "self" "where" "cell" "amount" λ_ _ _ _ _ _ _ _ _ _=>rfl
 obtain ⟨dxlF,FxlF⟩:=lxlF
 have exlF:=FxlF.kp
 have bxlF:=FxlF.b1 "self" λ_ _ _ _ _ _ _=>rfl
 obtain ⟨dxdF,FxdF⟩:=lxdF
 have exdF:=FxdF.kp
 have bxdF:=FxdF.b3 "self" "hand" "value_of" λ_ _ _ _ _ _ _ _ _=>rfl
 obtain ⟨dxbF,FxbF⟩:=lxbF
 have exbF:=FxbF.kp
 have bxbF:=FxbF.b2 "self" "value_of" λ_ _ _ _ _ _ _ _=>rfl
 obtain ⟨dxiG,FxiG⟩:=lxiG
 have exiG:=FxiG.kp
 have bxiG:=FxiG.b2 "self" "amount" λ_ _ _ _ _ _ _ _=>rfl
 obtain ⟨dxhZ,FxhZ⟩:=lxhZ
 have exhZ:=FxhZ.kp
 have bxhZ:=FxhZ.b1 "self" λ_ _ _ _ _ _ _=>rfl
 obtain ⟨dxlZ,FxlZ⟩:=lxlZ
 have exlZ:=FxlZ.kp
 have bxlZ:=FxlZ.b1 "self" λ_ _ _ _ _ _ _=>rfl
 obtain ⟨dxdG,FxdG⟩:=lxdG
 have exdG:=FxdG.kp
 have bxdG:=FxdG.b3 "self" "hand" "value_of" λ_ _ _ _ _ _ _ _ _=>rfl
 obtain ⟨dxiN,FxiN⟩:=lxiN
 have exiN:=FxiN.kp
 have bxiN:=FxiN.b2 "self" "amount" λ_ _ _ _ _ _ _ _=>rfl
 obtain ⟨dxdN,FxdN⟩:=lxdN
 have exdN:=FxdN.kp
 have bxdN:=FxdN.b3 "self" "hand" "value_of" λ_ _ _ _ _ _ _ _ _=>rfl
 have W:TxW K (wmk WA WB WD WE WF WG WN):=⟨λk=>match k with | .take=>⟨pgwA,hdwA,powA,sawA⟩ | .mean=>⟨pgwB,hdwB,powB,sawB⟩ | .sum=>⟨pgwD,hdwD,powD,sawD⟩ | .give=>⟨pgwE,hdwE,powE,sawE⟩ | .add=>⟨pgwF,hdwF,powF,sawF⟩ | .plus=>⟨pgwG,hdwG,powG,sawG⟩ | .need=>⟨pgwN,hdwN,powN,sawN⟩,λk=>match k with | .take=>nWwA | .mean=>nWwB | .sum=>nWwD | .give=>nWwE | .add=>nWwF | .plus=>nWwG | .need=>nWwN,λk=>match k with | .take=>nCwA | .mean=>nCwB | .sum=>nCwD | .give=>nCwE | .add=>nCwF | .plus=>nCwG | .need=>nCwN,λk=>match k with | .take=>nLwA | .mean=>nLwB | .sum=>nLwD | .give=>nLwE | .add=>nLwF | .plus=>nLwG | .need=>nLwN,λk=>match k with | .take=>nHwA | .mean=>nHwB | .sum=>nHwD | .give=>nHwE | .add=>nHwF | .plus=>nHwG | .need=>nHwN,λk=>match k with | .take=>nAwA | .mean=>nAwB | .sum=>nAwD | .give=>nAwE | .add=>nAwF | .plus=>nAwG | .need=>nAwN⟩
 have TN:TxN K mg (wmk WA WB WD WE WF WG WN):=⟨mg_of X G nwN,λk=>match k with | .take=>hawA | .mean=>hawB | .sum=>hawD | .give=>hawE | .add=>hawF | .plus=>hawG | .need=>hawN,hn,htk,λk=>match k with | .take=>hmwA | .mean=>hmwB | .sum=>hmwD | .give=>hmwE | .add=>hmwF | .plus=>hmwG | .need=>hmwN,λk=>match k with | .take=>iNwA | .mean=>iNwB | .sum=>iNwD | .give=>iNwE | .add=>iNwF | .plus=>iNwG | .need=>iNwN⟩
 obtain ⟨dpi,Fpi⟩:=lpi
 have epi:=Fpi.kp
 have bpi:=Fpi.b3 "self" "manner" "steps" λ_ _ _ _ _ _ _ _ _=>rfl
 have TP:TxP K CP:=⟨⟨pgP,hdP,poP,saP⟩,nPm,nPs,nPp⟩
 obtain ⟨dW1,FW1⟩:=lW1
 have eW1:=FW1.kp
 have bW1:=FW1.b1 "thing" λ_ _ _ _ _ _ _=>rfl
 have mW1:mg "is_whole"=some (.ref fW1):=mg_of X G aW1
 obtain ⟨dR1,FR1⟩:=lR1
 have eR1:=FR1.kp
 have bR1:=FR1.b1 "text" λ_ _ _ _ _ _ _=>rfl
 have mR1:mg "read_thing"=some (.ref fR1):=mg_of X G aR1
 obtain ⟨dG1,FG1⟩:=lG1
 have eG1:=FG1.kp
 have bG1:=FG1.b1 "sign" λ_ _ _ _ _ _ _=>rfl
 have mG1:mg "is_sign"=some (.ref fG1):=mg_of X G aG1
 obtain ⟨dS1,FS1⟩:=lS1
 have eS1:=FS1.kp
 have bS1:=FS1.b1 "text" λ_ _ _ _ _ _ _=>rfl
 have mS1:mg "read_step"=some (.ref fS1):=mg_of X G aS1
 obtain ⟨dN1,FN1⟩:=lN1
 have eN1:=FN1.kp
 have bN1:=FN1.b2 "word" "letter" λ_ _ _ _ _ _ _ _=>rfl
 have mN1:mg "read_number"=some (.ref fN1):=mg_of X G aN1
 obtain ⟨dM1,FM1⟩:=lM1
 have eM1:=FM1.kp
 have bM1:=FM1.b2 "word" "numbers" λ_ _ _ _ _ _ _ _=>rfl
 have mM1:mg "made_step"=some (.ref fM1):=mg_of X G aM1
 obtain ⟨dU1,FU1⟩:=lU1
 have eU1:=FU1.kp
 have bU1:=FU1.b3 "where" "low" "high" λ_ _ _ _ _ _ _ _ _=>rfl
 have mU1:mg "made_sum"=some (.ref fU1):=mg_of X G aU1
 obtain ⟨dA3,FA3⟩:=lA3
 have eA3:=FA3.kp
 have bA3:=FA3.b2 "text" "number" λ_ _ _ _ _ _ _ _=>rfl
 have mA3:mg "read_part"=some (.ref fA3):=mg_of X G aA3
 obtain ⟨dB3,FB3⟩:=lB3
 have eB3:=FB3.kp
 have bB3:=FB3.b1 "text" λ_ _ _ _ _ _ _=>rfl
 have mB3:mg "read_pact"=some (.ref fB3):=mg_of X G aB3
 obtain ⟨dD3,FD3⟩:=lD3
 have eD3:=FD3.kp
 have bD3:=FD3.b1 "pact" λ_ _ _ _ _ _ _=>rfl
 have mD3:mg "turning"=some (.ref fD3):=mg_of X G aD3
 obtain ⟨dL3,FL3⟩:=lL3
 have eL3:=FL3.kp
 have bL3:=FL3.b2 "pact" "sizes" λ_ _ _ _ _ _ _ _=>rfl
 have mL3:mg "look"=some (.ref fL3):=mg_of X G aL3
 obtain ⟨dI3,FI3⟩:=lI3
 have eI3:=FI3.kp
 have bI3:=FI3.b2 "step" "sizes" λ_ _ _ _ _ _ _ _=>rfl
 have mI3:mg "is_there"=some (.ref fI3):=mg_of X G aI3
 obtain ⟨dK3,FK3⟩:=lK3
 have eK3:=FK3.kp
 have bK3:=FK3.b1 "pact" λ_ _ _ _ _ _ _=>rfl
 have mK3:mg "look_behind"=some (.ref fK3):=mg_of X G aK3
 obtain ⟨dP4,FP4⟩:=lP4
 have eP4:=FP4.kp
 have bP4:=FP4.b2 "cells" "entries" λ_ _ _ _ _ _ _ _=>rfl
 have mP4:mg "played"=some (.ref fP4):=mg_of X G aP4
 obtain ⟨dF4,FF4⟩:=lF4
 have eF4:=FF4.kp
 have bF4:=FF4.b3 "cells" "before" "entry" λ_ _ _ _ _ _ _ _ _=>rfl
 have mF4:mg "is_fit"=some (.ref fF4):=mg_of X G aF4
 obtain ⟨dA4,FA4⟩:=lA4
 have eA4:=FA4.kp
 have bA4:=FA4.b4 "cells" "before" "entry" "pact" λ_ _ _ _ _ _ _ _ _ _=>rfl
 have mA4:mg "is_pact_fit"=some (.ref fA4):=mg_of X G aA4
 obtain ⟨dS4,FS4⟩:=lS4
 have eS4:=FS4.kp
 have bS4:=FS4.b4 "cells" "before" "entry" "pact" λ_ _ _ _ _ _ _ _ _ _=>rfl
 have mS4:mg "is_step_fit"=some (.ref fS4):=mg_of X G aS4
 have FU4:=pA (st:=aQ) lU4 cU4 eU4
 have bU4:=FU4.binds (ps:=["cells","before","entry","pact"]) λ_ _ _ _ _ _ us hl=>match us,hl with | [_,_,_,_],_=>rfl
 have mU4:mg "is_undo_fit"=some (.ref fU4):=mg_of X G aU4
 obtain ⟨dH4,FH4⟩:=lH4
 have eH4:=FH4.kp
 have bH4:=FH4.b2 "steps" "start" λ_ _ _ _ _ _ _ _=>rfl
 have mH4:mg "first_at_house"=some (.ref fH4):=mg_of X G aH4
 obtain ⟨dB4,FB4⟩:=lB4
 have eB4:=FB4.kp
 have bB4:=FB4.b3 "cells" "steps" "hand" λ_ _ _ _ _ _ _ _ _=>rfl
 have mB4:mg "hands_behind"=some (.ref fB4):=mg_of X G aB4
 have FO4:=pA (st:=bW) lO4 cO4 eO4
 have bO4:=FO4.binds (ps:=["cells","step","hand"]) λ_ _ _ _ _ _ us hl=>match us,hl with | [_,_,_],_=>rfl
 have mO4:mg "step_on"=some (.ref fO4):=mg_of X G aO4
 obtain ⟨dT4,FT4⟩:=lT4
 have eT4:=FT4.kp
 have bT4:=FT4.b3 "cells" "step" "changes" λ_ _ _ _ _ _ _ _ _=>rfl
 have mT4:mg "put"=some (.ref fT4):=mg_of X G aT4
 obtain ⟨dA2,FA2⟩:=lA2
 have eA2:=FA2.kp
 have bA2:=FA2.b2 "_law_script" "_law_k" λ_ _ _ _ _ _ _ _=>rfl
 have mA2:mg "_law_cell"=some (.ref fA2):=mg_of X G aA2
 obtain ⟨dX2,FX2⟩:=lX2
 have eX2:=FX2.kp
 have bX2:=FX2.b2 "_law_cell_here" "_law_k" λ_ _ _ _ _ _ _ _=>rfl
 have mX2:mg "_law_mixed"=some (.ref fX2):=mg_of X G aX2
 obtain ⟨dR2,FR2⟩:=lR2
 have eR2:=FR2.kp
 have bR2:=FR2.b2 "_law_cell_here" "_law_many" λ_ _ _ _ _ _ _ _=>rfl
 have mR2:mg "_law_stream"=some (.ref fR2):=mg_of X G aR2
 obtain ⟨dM2,FM2⟩:=lM2
 have eM2:=FM2.kp
 have bM2:=FM2.b2 "_law_one" "_law_other" λ_ _ _ _ _ _ _ _=>rfl
 have mM2:mg "_law_amount"=some (.ref fM2):=mg_of X G aM2
 obtain ⟨dS2,FS2⟩:=lS2
 have eS2:=FS2.kp
 have bS2:=FS2.b2 "_law_xs" "_law_sizes" λ_ _ _ _ _ _ _ _=>rfl
 have mS2:mg "_law_step"=some (.ref fS2):=mg_of X G aS2
 obtain ⟨dY2,FY2⟩:=lY2
 have eY2:=FY2.kp
 have bY2:=FY2.b3 "_law_cell_here" "_law_many" "_law_sizes" λ_ _ _ _ _ _ _ _ _=>rfl
 have mY2:mg "_law_steps"=some (.ref fY2):=mg_of X G aY2
 obtain ⟨dT2,FT2⟩:=lT2
 have eT2:=FT2.kp
 have bT2:=FT2.b2 "_law_manner" "_law_steps_here" λ_ _ _ _ _ _ _ _=>rfl
 have mT2:mg "_law_text"=some (.ref fT2):=mg_of X G aT2
 obtain ⟨dD2,FD2⟩:=lD2
 have eD2:=FD2.kp
 have bD2:=FD2.b3 "_law_step_here" "_law_hand" "_law_cells" λ_ _ _ _ _ _ _ _ _=>rfl
 have mD2:mg "_law_done"=some (.ref fD2):=mg_of X G aD2
 obtain ⟨dH2,FH2⟩:=lH2
 have eH2:=FH2.kp
 have bH2:=FH2.b4 "_law_p" "_law_steps_here" "_law_cells" "_law_entries_here" λ_ _ _ _ _ _ _ _ _ _=>rfl
 have mH2:mg "_law_held"=some (.ref fH2):=mg_of X G aH2
 obtain ⟨dW2,FW2⟩:=lW2
 have eW2:=FW2.kp
 have bW2:=FW2.b3 "_law_way" "_law_cells" "_law_entries_here" λ_ _ _ _ _ _ _ _ _=>rfl
 have mW2:mg "_law_walk"=some (.ref fW2):=mg_of X G aW2
 obtain ⟨dB2,FB2⟩:=lB2
 have eB2:=FB2.kp
 have bB2:=FB2.b3 "_law_way" "_law_cells" "_law_entries_here" λ_ _ _ _ _ _ _ _ _=>rfl
 have mB2:mg "_law_back"=some (.ref fB2):=mg_of X G aB2
 obtain ⟨dN2,FN2⟩:=lN2
 have eN2:=FN2.kp
 have bN2:=FN2.b3 "_law_p" "_law_cell_here" "_law_sizes" λ_ _ _ _ _ _ _ _ _=>rfl
 have mN2:mg "_law_new_way"=some (.ref fN2):=mg_of X G aN2
 obtain ⟨dE2,FE2⟩:=lE2
 have eE2:=FE2.kp
 have bE2:=FE2.b2 "_law_script" "_law_cells" λ_ _ _ _ _ _ _ _=>rfl
 have mE2:mg "_law_entries"=some (.ref fE2):=mg_of X G aE2
 obtain ⟨dF2,FF2⟩:=lF2
 have eF2:=FF2.kp
 have bF2:=FF2.b1 "_law_script" λ_ _ _ _ _ _ _=>rfl
 have mF2:mg "_law_first"=some (.ref fF2):=mg_of X G aF2
 obtain ⟨dQ2,FQ2⟩:=lQ2
 have eQ2:=FQ2.kp
 have bQ2:=FQ2.b2 "_law_found" "_law_due" λ_ _ _ _ _ _ _ _=>rfl
 have mQ2:mg "_law_alike"=some (.ref fQ2):=mg_of X G aQ2
 obtain ⟨dZ,FZ⟩:=lZ
 have eZ:=FZ.kp
 have B:TxB mg:=⟨mg_none_of X G y_isinstance,mg_none_of X G y_int,mg_none_of X G y_bool,mg_none_of X G y_str,mg_none_of X G y_len,mg_none_of X G y_range,mg_none_of X G y_tuple,mg_none_of X G y_list,mg_none_of X G y_any,mg_none_of X G y_all,mg_none_of X G y_max,mg_none_of X G y_sorted⟩
 have TT:K81T.Tx K mg CRd:=⟨⟨pgrd,hdrd,pord,sard⟩,nTx,nPl,mg_of X G nrd,mg_none_of X G y_isinstance,mg_none_of X G y_int,mg_none_of X G y_bool,mg_none_of X G y_str,mg_none_of X G y_len,mg_none_of X G y_ord,mg_none_of X G y_all,mg_none_of X G y_range,⟨_,mg_of X G q_MOST_FIGURES_things⟩,⟨_,mg_of X G q_MOST_SIGNS⟩,⟨_,mg_of X G q_MOST_DEEP⟩,⟨_,mg_of X G q_LONGEST⟩,⟨_,mg_of X G q_BLANK⟩,⟨_,mg_of X G q_PERCENT⟩,⟨_,mg_of X G q_TILDE⟩⟩
 have tM:∀H,SqT K H aMn [.str "held",.str "walked"]:=λH=>.inr ⟨_,_,_,lMn,rfl,rfl,(by show 2<=sizeLine;decide),.cons ⟨mn1,rfl⟩ (.cons ⟨mn2,rfl⟩ .nil)⟩
 refine ⟨dZ,cc1,cc2,Pt1,Pt2,(by obtain ⟨oc,od,kV,doc,pm,an,cdv,ct,osl,rfl,lk,hcd⟩:=FZ.ex;exact λs v=>.of_eq rfl),hC1,hC2,hNe,hT1,hT2,hN,λbase hKb hB=>?_⟩
 have GK:∀k,GM l.prog w K mg base CX0 1 (kmk CR CM CC k) "kind" ["self"] (jF k):=λk=>match k with | .read=>⟨fkR,_,xZ FkR,bkR,⟨akR,jkR,ekR⟩⟩ | .mean=>⟨fkM,_,ye FkM,bkM,⟨akM,jkM,ekM⟩⟩ | .change=>⟨fkC,_,yi FkC,bkC,⟨akC,jkC,ekC⟩⟩
 have Mk:∀k,Mk K (kmk CR CM CC k) fi:=λk=>match k with | .read=>⟨mkR,aiR,ji,kcR⟩ | .mean=>⟨mkM,aiM,ji,kcM⟩ | .change=>⟨mkC,aiC,ji,kcC⟩
 have Gt:∀k,GM l.prog w K mg base CX0 2 (kmk CR CM CC k) "told" ["self"] (gG (kmk CR CM CC)):=λk=>match k with | .read=>⟨ft,_,mq Ft T GK,bt,⟨atR,jt,et⟩⟩ | .mean=>⟨ft,_,mq Ft T GK,bt,⟨atM,jt,et⟩⟩ | .change=>⟨ft,_,mq Ft T GK,bt,⟨atC,jt,et⟩⟩
 have GI:=tD (P:=l.prog) (w:=w) (mg:=mg) (base:=base) Fi T
 have GCI:=tL (P:=l.prog) (w:=w) (mg:=mg) (base:=base) FxiY W
 have WI:∀wd,WI l.prog w K mg base (wmk WA WB WD WE WF WG WN) wd:=λwd=>match wd with | .take=>⟨fxiY,_,_,⟨mkwA,uxiYA,jxiY,kcwA⟩,(GCI.imp λ_ _ _ _ z=>mL rfl z).mono (by decide),bxiY,mg_of X G nwA⟩ | .mean=>⟨fxiY,_,_,⟨mkwB,uxiYB,jxiY,kcwB⟩,(GCI.imp λ_ _ _ _ z=>mL rfl z).mono (by decide),bxiY,mg_of X G nwB⟩ | .sum=>⟨fxiD,_,_,⟨mkwD,uxiDD,jxiD,kcwD⟩,(sT FxiD W).mono (by decide),bxiD,mg_of X G nwD⟩ | .give=>⟨fxiY,_,_,⟨mkwE,uxiYE,jxiY,kcwE⟩,(GCI.imp λ_ _ _ _ z=>mL rfl z).mono (by decide),bxiY,mg_of X G nwE⟩ | .add=>⟨fxiF,_,_,⟨mkwF,uxiFF,jxiF,kcwF⟩,tO FxiF W (mg_of X G nCY) ⟨gaY,rdY,fcY,hiY,exiY⟩ GCI bxiY,bxiF,mg_of X G nwF⟩ | .plus=>⟨fxiG,_,_,⟨mkwG,uxiGG,jxiG,kcwG⟩,(sZ FxiG W).mono (by decide),bxiG,mg_of X G nwG⟩ | .need=>⟨fxiN,_,_,⟨mkwN,uxiNN,jxiN,kcwN⟩,(tj FxiN W).mono (by decide),bxiN,mg_of X G nwN⟩
 have Hi:=K81T.vg (P:=l.prog) (w:=w) (mg:=mg) (base:=base) Fri TT
 have Hp:=K81T.u9 (P:=l.prog) (w:=w) (mg:=mg) (base:=base) Frp TT
 have Hn:=K81T.wR (P:=l.prog) (w:=w) (mg:=mg) (base:=base) Frn TT
 have Hx:=K81T.sU (P:=l.prog) (w:=w) (mg:=mg) (base:=base) Frx TT
 have Mrn:eL K CRd "read_number" frn:=⟨arn,jrn,ern⟩
 have Mrp:eL K CRd "passes" frp:=⟨arp,jrp,erp⟩
 have Mrb:eL K CRd "read_below" frb:=⟨arb,jrb,erb⟩
 have Mrx:eL K CRd "read_signs" frx:=⟨arx,jrx,erx⟩
 have Mra:eL K CRd "read_any" fra:=⟨ara,jra,era⟩
 have Hb:=K81T.tN Frb TT Hn brn Mrn
 have Ha:=K81T.wY Fra TT Hp brp Mrp Hb brb Mrb Hn brn Mrn Hx brx Mrx
 have HG1:=K81T.u6 (P:=l.prog) (w:=w) (mg:=mg) (base:=base) FG1 TT
 have HW:=K81T.sR (P:=l.prog) (w:=w) (mg:=mg) (base:=base) FW1 TT
 have GW1:GF l.prog w K mg base CX0 1 "is_whole" ["thing"] K81T.lA:=⟨fW1,_,HW,bW1,eW1,mW1⟩
 have GR1:GF l.prog w K mg base CX0 4 "read_thing" ["text"] K81T.oG:=⟨fR1,_,K81T.u8 FR1 TT ⟨mkrd,ari,jri,kcrd⟩ HG1 bG1 eG1 mG1 Hi bri Ha bra Mra,bR1,eR1,mR1⟩
 have GU1:GF l.prog w K mg base CX0 4 "made_sum" ["where","low","high"] (oJ (wmk WA WB WD WE WF WG WN)):=⟨fU1,_,vb FU1 (WI .sum),bU1,eU1,mU1⟩
 have GM1:GF l.prog w K mg base CX0 5 "made_step" ["word","numbers"] (St.oI (wmk WA WB WD WE WF WG WN)):=⟨fM1,_,tm FM1 WI GU1,bM1,eM1,mM1⟩
 have GN1:GF l.prog w K mg base CX0 5 "read_number" ["word","letter"] oH:=⟨fN1,_,u7 FN1 B (mg_of X G nNo) xNo (by decide +kernel) ⟨_,mg_of X G q_MOST_FIGURES_steps⟩ GR1 GW1,bN1,eN1,mN1⟩
 have GS1:GF l.prog w K mg base CX0 6 "read_step" ["text"] (lC (wmk WA WB WD WE WF WG WN)):=⟨fS1,_,sW FS1 B (mg_of X G nSh) (wb lSh qSh tSh) GN1 GM1,bS1,eS1,mS1⟩
 have HG:∀Bh:Heap,K.In Bh->∀wd,GM l.prog w K mg Bh CX0 1 ((wmk WA WB WD WE WF WG WN) wd) "house" ["self"] (cA (wmk WA WB WD WE WF WG WN) wd):=λBh _ wd=>match wd with | .take=>⟨fxhY,_,g8 (.inl rfl) FxhY W,bxhY,⟨uxhYA,jxhY,exhY⟩⟩ | .mean=>⟨fxhY,_,g8 (.inl rfl) FxhY W,bxhY,⟨uxhYB,jxhY,exhY⟩⟩ | .sum=>⟨fxhD,_,vh FxhD W,bxhD,⟨uxhDD,jxhD,exhD⟩⟩ | .give=>⟨fxhY,_,g8 (.inl rfl) FxhY W,bxhY,⟨uxhYE,jxhY,exhY⟩⟩ | .add=>⟨fxhY,_,g8 (.inr rfl) FxhY W,bxhY,⟨uxhYF,jxhY,exhY⟩⟩ | .plus=>⟨fxhZ,_,nN (.inl rfl) FxhZ,bxhZ,⟨uxhZG,jxhZ,exhZ⟩⟩ | .need=>⟨fxhZ,_,nN (.inr rfl) FxhZ,bxhZ,⟨uxhZN,jxhZ,exhZ⟩⟩
 have Gh:=HG base hKb
 have Gl:∀wd,GM l.prog w K mg base CX0 3 ((wmk WA WB WD WE WF WG WN) wd) "lock" ["self"] (dO (wmk WA WB WD WE WF WG WN) K wd):=λwd=>match wd with | .take=>⟨fxlA,_,tu FxlA W T mgC Mk GI bi Gt,bxlA,⟨uxlAA,jxlA,exlA⟩⟩ | .mean=>⟨fxlB,_,tw FxlB W T mgC Mk GI bi Gt,bxlB,⟨uxlBB,jxlB,exlB⟩⟩ | .sum=>⟨fxlD,_,vc FxlD W T mgC Mk GI bi Gt,bxlD,⟨uxlDD,jxlD,exlD⟩⟩ | .give=>⟨fxlE,_,tE FxlE W T mgC Mk GI bi Gt,bxlE,⟨uxlEE,jxlE,exlE⟩⟩ | .add=>⟨fxlF,_,vf FxlF W T mgC Mk GI bi Gt,bxlF,⟨uxlFF,jxlF,exlF⟩⟩ | .plus=>⟨fxlZ,_,(nK (.inl rfl) FxlZ).mono (by decide),bxlZ,⟨uxlZG,jxlZ,exlZ⟩⟩ | .need=>⟨fxlZ,_,(nK (.inr rfl) FxlZ).mono (by decide),bxlZ,⟨uxlZN,jxlZ,exlZ⟩⟩
 have Gu:∀wd,GM l.prog w K mg base CX0 1 ((wmk WA WB WD WE WF WG WN) wd) "sure" ["self"] (jD wd):=λwd=>match wd with | .take=>⟨fxsZ,_,eJ (by decide) FxsZ,bxsZ,⟨uxsZA,jxsZ,exsZ⟩⟩ | .mean=>⟨fxsZ,_,eJ (by decide) FxsZ,bxsZ,⟨uxsZB,jxsZ,exsZ⟩⟩ | .sum=>⟨fxsZ,_,eJ (by decide) FxsZ,bxsZ,⟨uxsZD,jxsZ,exsZ⟩⟩ | .give=>⟨fxsE,_,sV FxsE,bxsE,⟨uxsEE,jxsE,exsE⟩⟩ | .add=>⟨fxsZ,_,eJ (by decide) FxsZ,bxsZ,⟨uxsZF,jxsZ,exsZ⟩⟩ | .plus=>⟨fxsZ,_,eJ (by decide) FxsZ,bxsZ,⟨uxsZG,jxsZ,exsZ⟩⟩ | .need=>⟨fxsZ,_,eJ (by decide) FxsZ,bxsZ,⟨uxsZN,jxsZ,exsZ⟩⟩
 have GPI:=qQ (P:=l.prog) (w:=w) (mg:=mg) (base:=base) Fpi B TP
 have GA3:GF l.prog w K mg base CX0 7 "read_part" ["text","number"] (lD (wmk WA WB WD WE WF WG WN)):=⟨fA3,_,sX FA3 GS1,bA3,eA3,mA3⟩
 have GB3:GF l.prog w K mg base CX0 8 "read_pact" ["text"] (lE CP (wmk WA WB WD WE WF WG WN)):=⟨fB3,_,sY FB3 B (mg_of X G nMnn) tM ⟨_,mg_of X G q_MOST_STEPS⟩ ⟨mkP,api,jpi,kcP⟩ (mg_of X G nP) GPI bpi GA3,bB3,eB3,mB3⟩
 have GD3:GF l.prog w K mg base CX0 2 "turning" ["pact"] (oF CP (wmk WA WB WD WE WF WG WN)):=⟨fD3,_,oU FD3 B TP W Gu,bD3,eD3,mD3⟩
 have GI3:GF l.prog w K mg base CX0 4 "is_there" ["step","sizes"] (lB (wmk WA WB WD WE WF WG WN)):=⟨fI3,_,sS FI3 B W Gh Gl,bI3,eI3,mI3⟩
 have GK3:GF l.prog w K mg base CX0 3 "look_behind" ["pact"] (sd CP (wmk WA WB WD WE WF WG WN)):=⟨fK3,_,wV FK3 B TP W TN GD3,bK3,eK3,mK3⟩
 have GL3:GF l.prog w K mg base CX0 5 "look" ["pact","sizes"] (r8 CP (wmk WA WB WD WE WF WG WN)):=⟨fL3,_,ve FL3 B TP GI3 GK3,bL3,eL3,mL3⟩
 have GT4:GF l.prog w K mg base CX0 2 "put" ["cells","step","changes"] (pR (wmk WA WB WD WE WF WG WN)):=⟨fT4,_,wQ FT4 W Gh,bT4,eT4,mT4⟩
 have HSD:∀(wd:Wd) (val:Int->Int) (n:Nat) (Bh:Heap),n<=1000->K.In Bh->FnOk l.prog w K mg Bh CX0 5 ((wmk fxdA fxdB fxdD fxdE fxdF fxdG fxdN) wd) ((λwd:Wd=>match wd with | .take=>dxdA | .mean=>dxdB | .sum=>dxdD | .give=>dxdE | .add=>dxdF | .plus=>dxdG | .need=>dxdN) wd) ["self","hand","value_of"] (eN l.prog w K mg (wmk WA WB WD WE WF WG WN) val n wd Bh):=λwd val n Bh hn _=>match wd with | .take=>tH (.inl rfl) FxdA fu rfl rfl W | .mean=>tH (.inr rfl) FxdB fz rfl rfl W | .sum=>vk FxdD W B (mg_none_of X G y_sum) hn | .give=>tK FxdE W | .add=>vm FxdF W | .plus=>tI FxdG W | .need=>tJ FxdN W
 have mSD:∀wd,eL K ((wmk WA WB WD WE WF WG WN) wd) "step_done" ((wmk fxdA fxdB fxdD fxdE fxdF fxdG fxdN) wd):=λwd=>match wd with | .take=>⟨uxdAA,jxdA,exdA⟩ | .mean=>⟨uxdBB,jxdB,exdB⟩ | .sum=>⟨uxdDD,jxdD,exdD⟩ | .give=>⟨uxdEE,jxdE,exdE⟩ | .add=>⟨uxdFF,jxdF,exdF⟩ | .plus=>⟨uxdGG,jxdG,exdG⟩ | .need=>⟨uxdNN,jxdN,exdN⟩
 have bSD:∀wd,Binds K ((λwd:Wd=>match wd with | .take=>dxdA | .mean=>dxdB | .sum=>dxdD | .give=>dxdE | .add=>dxdF | .plus=>dxdG | .need=>dxdN) wd) ["self","hand","value_of"] []:=λwd=>match wd with | .take=>bxdA | .mean=>bxdB | .sum=>bxdD | .give=>bxdE | .add=>bxdF | .plus=>bxdG | .need=>bxdN
 have HBK:∀(wd:Wd) (val:Int->Int) (n:Nat) (Bh:Heap),n<=1000->K.In Bh->FnOk l.prog w K mg Bh CX0 5 ((wmk fxbZ fxbZ fxbZ fxbZ fxbF fxbZ fxbZ) wd) ((λwd:Wd=>match wd with | .take=>dxbZ | .mean=>dxbZ | .sum=>dxbZ | .give=>dxbZ | .add=>dxbF | .plus=>dxbZ | .need=>dxbZ) wd) ["self","value_of"] (jG l.prog w K mg (wmk WA WB WD WE WF WG WN) val n wd Bh):=λwd val n Bh hn _=>match wd with | .take=>iP (by decide) FxbZ | .mean=>iP (by decide) FxbZ | .sum=>iP (by decide) FxbZ | .give=>iP (by decide) FxbZ | .add=>vp FxbF W | .plus=>iP (by decide) FxbZ | .need=>iP (by decide) FxbZ
 have mBK:∀wd,eL K ((wmk WA WB WD WE WF WG WN) wd) "back" ((wmk fxbZ fxbZ fxbZ fxbZ fxbF fxbZ fxbZ) wd):=λwd=>match wd with | .take=>⟨uxbZA,jxbZ,exbZ⟩ | .mean=>⟨uxbZB,jxbZ,exbZ⟩ | .sum=>⟨uxbZD,jxbZ,exbZ⟩ | .give=>⟨uxbZE,jxbZ,exbZ⟩ | .add=>⟨uxbFF,jxbF,exbF⟩ | .plus=>⟨uxbZG,jxbZ,exbZ⟩ | .need=>⟨uxbZN,jxbZ,exbZ⟩
 have bBK:∀wd,Binds K ((λwd:Wd=>match wd with | .take=>dxbZ | .mean=>dxbZ | .sum=>dxbZ | .give=>dxbZ | .add=>dxbF | .plus=>dxbZ | .need=>dxbZ) wd) ["self","value_of"] []:=λwd=>match wd with | .take=>bxbZ | .mean=>bxbZ | .sum=>bxbZ | .give=>bxbZ | .add=>bxbF | .plus=>bxbZ | .need=>bxbZ
 have GO4:GF l.prog w K mg base CX0 6 "step_on" ["cells","step","hand"] (uJ Pt1 Pt2 (wmk WA WB WD WE WF WG WN)):=⟨fO4,_,yc (cc:=cc1) FO4 W hB hcc1 hC1 HG HSD mSD bSD GT4,bO4,eO4,mO4⟩
 have GB4:GF l.prog w K mg base CX0 7 "hands_behind" ["cells","steps","hand"] (uL Pt1 Pt2 (wmk WA WB WD WE WF WG WN)):=⟨fB4,_,yg FB4 B GO4,bB4,eB4,mB4⟩
 have GH4:GF l.prog w K mg base CX0 2 "first_at_house" ["steps","start"] (wx (wmk WA WB WD WE WF WG WN)):=⟨fH4,_,yh FH4 B W Gh,bH4,eH4,mH4⟩
 have GA4:GF l.prog w K mg base CX0 8 "is_pact_fit" ["cells","before","entry","pact"] (wr Pt1 Pt2 CP (wmk WA WB WD WE WF WG WN)):=⟨fA4,_,yb FA4 TP GB4,bA4,eA4,mA4⟩
 have GS4:GF l.prog w K mg base CX0 8 "is_step_fit" ["cells","before","entry","pact"] (wq Pt1 Pt2 CP (wmk WA WB WD WE WF WG WN)):=⟨fS4,_,xY FS4 B TP GH4 GB4 GO4,bS4,eS4,mS4⟩
 have GU4:GF l.prog w K mg base CX0 8 "is_undo_fit" ["cells","before","entry","pact"] (wo Pt1 Pt2 CP (wmk WA WB WD WE WF WG WN)):=⟨fU4,_,xX (cc:=cc2) FU4 B TP W hB hcc2 hC2 HG Gu HBK mBK bBK GT4,bU4,eU4,mU4⟩
 have GF4:GF l.prog w K mg base CX0 9 "is_fit" ["cells","before","entry"] (wv Pt1 Pt2):=⟨fF4,_,yf FF4 B TP GB3 GL3 GA4 GS4 GU4,bF4,eF4,mF4⟩
 have GP4:GF l.prog w K mg base CX0 10 "played" ["cells","entries"] (jE Pt1 Pt2):=⟨fP4,_,qP FP4 B GF4,bP4,eP4,mP4⟩
 have GA2:GF l.prog w K mg base CX0 1 "_law_cell" ["_law_script","_law_k"] (lI K):=⟨fA2,_,vo FA2 B,bA2,eA2,mA2⟩
 have GX2:GF l.prog w K mg base CX0 1 "_law_mixed" ["_law_cell_here","_law_k"] lF:=⟨fX2,_,tq FX2,bX2,eX2,mX2⟩
 have GR2:GF l.prog w K mg base CX0 2 "_law_stream" ["_law_cell_here","_law_many"] pP:=⟨fR2,_,qO FR2 B GX2,bR2,eR2,mR2⟩
 have GM2:GF l.prog w K mg base CX0 1 "_law_amount" ["_law_one","_law_other"] pV:=⟨fM2,_,qR FM2,bM2,eM2,mM2⟩
 have GS2:GF l.prog w K mg base CX0 2 "_law_step" ["_law_xs","_law_sizes"] wu:=⟨fS2,_,wU FS2 B (mg_none_of X G y_min) GM2,bS2,eS2,mS2⟩
 have GY2:GF l.prog w K mg base CX0 3 "_law_steps" ["_law_cell_here","_law_many","_law_sizes"] pT:=⟨fY2,_,vd FY2 B GR2 GS2,bY2,eY2,mY2⟩
 have GT2:GF l.prog w K mg base CX0 1 "_law_text" ["_law_manner","_law_steps_here"] rW:=⟨fT2,_,wT FT2 B,bT2,eT2,mT2⟩
 have GD2:GF l.prog w K mg base CX0 1 "_law_done" ["_law_step_here","_law_hand","_law_cells"] uK:=⟨fD2,_,tF FD2 B (mg_none_of X G y_sum),bD2,eD2,mD2⟩
 have GH2:GF l.prog w K mg base CX0 2 "_law_held" ["_law_p","_law_steps_here","_law_cells","_law_entries_here"] oK:=⟨fH2,_,vj FH2 B GD2 GT2,bH2,eH2,mH2⟩
 have GW2:GF l.prog w K mg base CX0 2 "_law_walk" ["_law_way","_law_cells","_law_entries_here"] oE:=⟨fW2,_,u5 FW2 B GD2 GT2,bW2,eW2,mW2⟩
 have GB2:GF l.prog w K mg base CX0 2 "_law_back" ["_law_way","_law_cells","_law_entries_here"] wz:=⟨fB2,_,yj FB2 B GT2,bB2,eB2,mB2⟩
 have GN2:GF l.prog w K mg base CX0 4 "_law_new_way" ["_law_p","_law_cell_here","_law_sizes"] wt:=⟨fN2,_,yd FN2 B GY2,bN2,eN2,mN2⟩
 have GE2:GF l.prog w K mg base CX0 5 "_law_entries" ["_law_script","_law_cells"] (sf K):=⟨fE2,_,wX FE2 B GA2 GN2 GY2 GH2 GW2 GB2,bE2,eE2,mE2⟩
 have GF2:GF l.prog w K mg base CX0 3 "_law_first" ["_law_script"] (lH K):=⟨fF2,_,tG FF2 B GA2 GR2 GM2,bF2,eF2,mF2⟩
 have GQ2:GF l.prog w K mg base CX0 1 "_law_alike" ["_law_found","_law_due"] wA:=⟨fQ2,_,yk FQ2 B,bQ2,eQ2,mQ2⟩
 exact wW FZ B GF2 GE2 GP4 GQ2
theorem walk{l:PySem.W.OpenLaw}{q:Program}{loose:List Str}{XP:(Str->Option Value)->Heap->Prop}{YP:World->Heap->Prop}{d:DefRec}{K:Params->PySem.W.Frag}(hn:l.most=some 63)(hdf:d.params.defaults=[])
  (hY:∀(w:World) (h:Heap),YP w h->(K w.params).In h)
  (F:∀(w:World) (mg:Str->Option Value) (fa:Addr) (h:Heap),YP w h->(K w.params).In h->h.Ns mainGlobals mg->mg d.name=some (.ref fa) ->
   ∃(fd:FuncData) (cc cd P1 P2:Addr),(∀(s:Shared) (u:Value),BindsTo s fd ⟨[u],[]⟩ [("_law_script",u)])/\PySem.W.codeHdIn (K w.params) cc P1=true/\PySem.W.codeHdIn (K w.params) cd P2=true/\P1≠P2/\h.get? P1=some (PySem.W.tabObj #[])/\h.get? P2=some (PySem.W.tabObj #[])/\PySem.W.noTabs (K w.params)=true /\
    ∀base:Heap,(K w.params).In base->BB mg base->FnOk l.prog w (K w.params) mg base CX0 11 fa fd ["_law_script"] (lG (K w.params) P1 P2)) :
  PySem.W.WalkO q loose XP YP l.row.toRowW d [] (λf vs=>PySem.call f vs) :=
 L2.qu (n:=63) (k:=11) (x:="_law_script") (sp:=λw P1 P2=>lG (K w.params) P1 P2) hn (by decide) hdf ⟨rfl,by decide,by decide⟩ hY F λw P1 P2 H a ns hl hS hne h1 h2=>⟨a,ns,rfl,hS,hl,hne,h1,h2,λ_=>rfl⟩
end K81
open PySem PySem.W PyProof.Rows
set_option maxRecDepth 100000 in
set_option maxHeartbeats 0 in
theorem PySem.Challenge.cw_pactroom_k81_papers_played_holds : PySem.Challenge.rw_pactroom_k81_papers_played.Holds := by
 w_on;o_law
 refine holds_open (q:=Q.qv) (loose:=Q.lo) (Xt:=Q.Xt) (XP:=XL Q.qv Q.lvv) (Yf:=Hook.obs (kmHook Q.Kf Q.Ka Q.ke [788,807])) (Ya:=Hook.val (kmHook Q.Kf Q.Ka Q.ke [788,807])) (YP:=Hook.says (kmHook Q.Kf Q.Ka Q.ke [788,807])) (N:=15738) Q.left (Hook.of (kmHook Q.Kf Q.Ka Q.ke [788,807])) (Hook.keeps (kmHook Q.Kf Q.Ka Q.ke [788,807])) (λs e=>xl_of s (Bool.and_eq_true_iff.mp e).1) XL.keeps (by rfl) (by rfl) (by rfl) (λs e=>recFacts_of (Bool.and_eq_true_iff.mp e).2) (by rfl) (by first | assumption | decide +kernel) (by decide +kernel) ⟨rfl,rfl,rfl,rfl,rfl,by decide +kernel⟩ ?hw ?hc
 (case hw=>w_witness2)
 k_fill
 refine K81.walk (l:=PySem.Challenge.rw_pactroom_k81_papers_played) rfl rfl (λw h Y=>PySem.W.km_in_of Y) ?F
 case F =>
  intro w mg fa h Y KX G hmg
  apply K81.all_mk KX G hmg
  all_goals first | (case hcc1=>exact rfl) | (case hPt1=>exact rfl) | (case hT1=>exact PySem.W.km_tabs_of Y _ (by k_mem)) | (case hcc2=>exact rfl) | (case hPt2=>exact rfl) | (case hT2=>exact PySem.W.km_tabs_of Y _ (by k_mem)) | (case hNe=>decide) | k_is | exact K81.fnx (by k_is) (by k_is) (by k_is) | kit_is | k_exc | kernel_rfl | skip
#print axioms PySem.Challenge.cw_pactroom_k81_papers_played_holds
