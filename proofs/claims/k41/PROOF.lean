import PyProof.Rows.All
import Wide.All
import OpenK.AllK
import Wide.FinOn
import Lean
import PyProof.EqAt
import PyProof.EqKinds
import PyProof.TupleCall
import PyProof.SetScanFacts
import PyProof.SetKind
import PyProof.TupleKey
import PyProof.Rows.SetFrom
import PyProof.WalksS
import PyProof.CollectWalk
import PyProof.DictRoadsH
import PyProof.MeetsDict
import KE.KLam
import KE.KMinKey
import KE.KRevSl
import PySem.Challenge.RW_pactroom_k41_steps_one_by_one
set_option Elab.async false
set_option linter.all false
set_option genSizeOf false
set_option maxHeartbeats 4000000
set_option maxRecDepth 100000
namespace L2
open PySem PySem.Spec PyProof.Rows
abbrev Key:=Sum Int Str
def kh:Key->Value->Bool
 | .inl k,v=>Value.isInt k v
 | .inr x,v=>Value.isStrOf x v
def z9(w:World):Key->Int
 | .inl k=>hashInt k
 | .inr x=>hashStr w x
theorem bi:∀{k:Key} {v:Value},kh k v=true->(∃i t,k=Sum.inl i/\v=Value.int i t)\/(∃x t,k=Sum.inr x/\v=Value.str x t)
 | .inl i,v,h=>by
  obtain ⟨t,e⟩:=Value.isInt_shape (k:=i) (v:=v) h
  exact .inl ⟨i,t,rfl,e⟩
 | .inr x,v,h=>by
  obtain ⟨t,e⟩:=Value.isStrOf_shape (x:=x) (v:=v) h
  exact .inr ⟨x,t,rfl,e⟩
theorem qR(i:Int)(t:Tok):kh (.inl i) (.int i t)=true:=by simp [kh,Value.isInt]
theorem qQ(x:Str)(t:Tok):kh (.inr x) (.str x t)=true:=by simp [kh,Value.isStrOf]
theorem yy(a b:Int):decide ((Sum.inl a:Key)=Sum.inl b)=(a==b):=by
 by_cases e:a=b
 ·subst e;simp
 ·have h:¬(Sum.inl a:Key)=Sum.inl b:=λq=>e (Sum.inl.inj q)
  rw [decide_eq_false h]
  exact (beq_eq_false_iff_ne.mpr e).symm
theorem yu(a b:Str):decide ((Sum.inr a:Key)=Sum.inr b)=decide (a=b):=by
 by_cases e:a=b
 ·subst e;simp
 ·have h:¬(Sum.inr a:Key)=Sum.inr b:=λq=>e (Sum.inr.inj q)
  rw [decide_eq_false h,decide_eq_false e]
theorem yx(a:Int)(b:Str):decide ((Sum.inl a:Key)=Sum.inr b)=false:=decide_eq_false (λq=>nomatch q)
theorem yw(a:Str)(b:Int):decide ((Sum.inr a:Key)=Sum.inl b)=false:=decide_eq_false (λq=>nomatch q)
def b9(prog:Program)(w:World):PySem.KeyKind prog w Key where
 is:=kh
 hash:=z9 w
 inj:=λv a b ha hb=>by
  rcases bi ha with ⟨i,t,rfl,rfl⟩ | ⟨x,t,rfl,rfl⟩
  ·rcases bi hb with ⟨j,u,rfl,e⟩ | ⟨y,u,rfl,e⟩
   ·injection e with e1 _;rw [e1]
   ·exact nomatch e
  ·rcases bi hb with ⟨j,u,rfl,e⟩ | ⟨y,u,rfl,e⟩
   ·exact nomatch e
   ·injection e with e1 _;rw [e1]
 byValue:=λk v h=>by
  rcases bi h with ⟨i,t,rfl,rfl⟩ | ⟨x,t,rfl,rfl⟩<;>rfl
 pyHash:=λhv h=>by
  rcases bi hv with ⟨i,t,rfl,rfl⟩ | ⟨x,t,rfl,rfl⟩
  ·exact wpAny_pyHash_int h
  ·exact wpAny_pyHash_str h
 eqBool:=λhu hv h=>by
  rcases bi hu with ⟨i,t,rfl,rfl⟩ | ⟨x,t,rfl,rfl⟩
  ·rcases bi hv with ⟨j,u,rfl,rfl⟩ | ⟨y,u,rfl,rfl⟩
   ·rw [yy] at h;exact wpAny_eqBool_int h
   ·rw [yx] at h;exact SeqAt.EqAt.int_str i t y u _ _ _ _ h
  ·rcases bi hv with ⟨j,u,rfl,rfl⟩ | ⟨y,u,rfl,rfl⟩
   ·rw [yw] at h;exact SeqAt.EqAt.str_int x t j u _ _ _ _ h
   ·rw [yu] at h;exact wpAny_eqBool_str h
 «strs» := fun k x t v h => by
  rcases bi h with ⟨i,u,rfl,e⟩ | ⟨y,u,rfl,e⟩
  ·exact nomatch e
  ·injection e with e1 _
   subst e1
   cases v<;>rfl
theorem mT(prog:Program)(w:World)(i:Int)(t:Tok):(b9 prog w).is (.inl i) (.int i t)=true:=qR i t
theorem mR(prog:Program)(w:World)(x:Str)(t:Tok):(b9 prog w).is (.inr x) (.str x t)=true:=qQ x t
end L2
namespace L2
open PySem PySem.Spec PyProof.Rows
inductive V where
 | non | bl (b:Bool) | int (i:Int) | str (x:Str) | byt (b:Array UInt8) | flt (b:UInt64) | ref (a:Addr) | ty (n:String)
 deriving DecidableEq
def RelV:V->Value->Prop
 | .non,u=>u=Value.none
 | .bl b,u=>u=Value.bool b
 | .int i,u=>∃t,u=Value.int i t
 | .str x,u=>∃t,u=Value.str x t
 | .byt b,u=>∃t,u=Value.bytes b t
 | .flt b,u=>∃t,u=Value.float b t
 | .ref a,u=>u=Value.ref a
 | .ty n,u=>u=Value.type n
abbrev Vals:List V->List Value->Prop:=Paired RelV
theorem Vals.length{xs:List V}{us:List Value}(r:Vals xs us):xs.length=us.length:=Paired.length r
theorem Vals.get:∀{xs:List V} {us:List Value} {i:Nat} {x:V},Vals xs us->xs[i]?=some x->∃u,us[i]?=some u/\RelV x u
 | _,_,_,_,.nil,e=>by simp at e
 | _,_,0,_,.cons r _,e=>by simp at e;subst e;exact ⟨_,rfl,r⟩
 | _,_,i+1,x,.cons _ t,e=>by
  obtain ⟨u,h1,h2⟩:=Vals.get (i:=i) (x:=x) t (by simpa using e)
  exact ⟨u,by simpa using h1,h2⟩
theorem Vals.append:∀{xs ys:List V} {us ws:List Value},Vals xs us->Vals ys ws->Vals (xs++ys) (us++ws)
 | _,_,_,_,.nil,s=>s
 | _,_,_,_,.cons r t,s=>.cons r (Vals.append t s)
theorem Vals.take:∀{xs:List V} {us:List Value} (n:Nat),Vals xs us->Vals (xs.take n) (us.take n)
 | _,_,0,_=>.nil
 | _,_,_+1,.nil=>.nil
 | _,_,n+1,.cons r t=>.cons r (Vals.take n t)
theorem Vals.drop:∀{xs:List V} {us:List Value} (n:Nat),Vals xs us->Vals (xs.drop n) (us.drop n)
 | _,_,0,r=>r
 | _,_,_+1,.nil=>.nil
 | _,_,n+1,.cons _ t=>Vals.drop n t
def RelO:Option V->Option Value->Prop
 | some v,some u=>RelV v u
 | none,none=>True
 | _,_=>False
def KV{κ:Type}:List (κ×V)->List (κ×Value)->Prop:=Paired λ(p:κ×V) (q:κ×Value)=>p.1=q.1/\RelV p.2 q.2
def kV:Key->V
 | .inl i=>.int i
 | .inr x=>.str x
inductive HO where
 | lst (xs:List V)
 | tup (xs:List V)
 | dK (kvs:List (Key×V)) | dT (kvs:List (List Key×V))
 | set (S:Int->Bool) (n:Nat)
 | ins (C dx:Addr) (fs:List (Str×V))
 | own (x:Addr)
 | xd (fs:List (Str×V))
 | met (f x:Addr)
 | rng (lo hi:Int)
 | frz (o:Obj) (u:HO)
 | tbl (ps:Array Value)
 | ext (φ:Heap->Prop)
abbrev Hp:=Addr->Option HO
def upd(H:Hp)(a:Addr)(o:HO):Hp:=λb=>if b=a then some o else H b
theorem ae{H:Hp}{a:Addr}{o:HO}:upd H a o a=some o:=by unfold upd;rw [if_pos rfl]
theorem aq{H:Hp}{a b:Addr}{o:HO}(h:b≠a):upd H a o b=H b:=by unfold upd;rw [if_neg h]
theorem bw{H:Hp}{a b:Addr}{o u:HO}(h:H a=some o)(h':H b=some u)(d:o≠u):a≠b:=by
 intro e;subst e;rw [h] at h';exact d (Option.some.inj h')
theorem ah{H:Hp}{a b:Addr}{o:HO}(h:H a=some o)(h':H b=none):a≠b:=by
 intro e;subst e;rw [h] at h';cases h'
section
variable (P:Program)(w:World)
def ObjOk(H:Hp)(h:Heap)(a:Addr):HO->Prop
 | .lst xs=>xs.length<=sizeLine/\∃(its:List Value) (n:Nat),Vals xs its/\h.get? a=some {cls:=.type "list",data:=.seq its.toArray n}
 | .tup xs=>xs.length<=sizeLine/\∃its:List Value,Vals xs its/\IsTup h a its.toArray
 | .dK kvs=>kvs.length<=sizeLine/\(a==sysModules)=false/\∃vs,KV kvs vs/\h.DictOf (b9 P w) a vs
 | .dT kvs=>kvs.length<=sizeLine/\(a==sysModules)=false/\∃xs:List (List Key×Addr×Value),
   Paired (λ(p:List Key×V) (q:List Key×Addr×Value)=>p.1=q.1/\H q.2.1=some (.tup (p.1.map kV))/\RelV p.2 q.2.2) kvs xs /\
   ∃o es ep,h.get? a=some o/\o.ExactDict/\o.data=.dict es ep/\es.toList=xs.map (entryOfKey (tupleKind (b9 P w)))/\(xs.map (·.1)).Nodup
 | .set S n=>h.SetOf (intKind P w) a S n
 | .ins C dx fs=>H dx=some (.own a)/\fs.length<=1000/\dx≠a/\h.get? a=some (PySem.W.instObj C dx) /\
   ∃mA,h.Ns1 dx mA/\(∀f,RelO (fs.lookup f) (mA f))/\PySem.Within mA (fs.map (·.1))
 | .own _=>∃o,h.get? a=some o
 | .xd fs=>∃mA,h.Ns1 a mA/\∀f,RelO (fs.lookup f) (mA f)
 | .rng lo hi=>∃t u v,h.get? a=some {cls:=.type "range",data:=.fields #[.int lo t,.int hi u,.int 1 v]}
 | .frz o u=>h.get? a=some o/\ObjOk H h a u
 | .tbl ps=>h.get? a=some {cls:=.none,data:=.fields ps}
 | .met f x=>h.get? a=some (PySem.W.methodObj (.ref f) (.ref x))
 | .ext φ=>φ h/\(∃o,h.get? a=some o)/\∀h1 h2:Heap,φ h1->(∀o,h1.get? a=some o->h2.get? a=some o)->φ h2
def HOk(H:Hp)(h:Heap):Prop:=∀a o,H a=some o->ObjOk P w H h a o
end
section
variable {P:Program}{w:World}{H H':Hp}{h h':Heap}{a:Addr}{o:HO}
theorem ObjOk.lt(x:ObjOk P w H h a o):a<h.objs.size:=by
 cases o with
 | lst xs=>obtain ⟨_,_,_,_,e⟩:=x;exact Heap.lt_size e
 | tup xs=>obtain ⟨_,_,_,p⟩:=x;exact p.lt
 | dK kvs=>obtain ⟨_,_,_,_,o,_,_,e,_⟩:=x;exact Heap.lt_size e
 | dT kvs=>obtain ⟨_,_,_,_,o,_,_,e,_⟩:=x;exact Heap.lt_size e
 | set S n=>obtain ⟨o,_,_,_,e,_⟩:=x;exact Heap.lt_size e
 | ins C dx fs=>obtain ⟨_,_,_,e,_⟩:=x;exact Heap.lt_size e
 | own y=>obtain ⟨_,e⟩:=x;exact Heap.lt_size e
 | xd fs=>obtain ⟨_,⟨_,_,_,e,_⟩,_⟩:=x;exact Heap.lt_size e
 | rng lo hi=>obtain ⟨_,_,_,e⟩:=x;exact Heap.lt_size e
 | frz ob u=>obtain ⟨e,_⟩:=x;exact Heap.lt_size e
 | tbl ps=>exact Heap.lt_size (show h.get? a=some _ from x)
 | met f y=>exact Heap.lt_size (show h.get? a=some _ from x)
 | ext φ=>obtain ⟨_,⟨_,e⟩,_⟩:=x;exact Heap.lt_size e
theorem Paired.mapP{α β:Type}{F G:α->β->Prop}:∀{l₁:List α} {l₂:List β},Paired F l₁ l₂->(∀a b,F a b->G a b)->Paired G l₁ l₂
 | _,_,.nil,_=>.nil
 | _,_,.cons r t,f=>.cons (f _ _ r) (Paired.mapP t f)
theorem ObjOk.stay(x:ObjOk P w H h a o)(k:∀b u,(b=a\/H b=some (.own a))->h.get? b=some u->h'.get? b=some u)
  (ho:∀b,H b=some (.own a)->H' b=some (.own a))(ht:∀b xs,H b=some (.tup xs)->H' b=some (.tup xs)):ObjOk P w H' h' a o:=by
 induction o with
 | lst xs=>obtain ⟨z,its,n,r,e⟩:=x;exact ⟨z,its,n,r,k _ _ (.inl rfl) e⟩
 | tup xs=>obtain ⟨z,its,r,ob,e,c⟩:=x;exact ⟨z,its,r,ob,k _ _ (.inl rfl) e,c⟩
 | dK kvs=>obtain ⟨z,y,vs,r,ob,es,ep,e,c⟩:=x;exact ⟨z,y,vs,r,ob,es,ep,k _ _ (.inl rfl) e,c⟩
 | dT kvs =>
  obtain ⟨z,y,xs,r,ob,es,ep,e,c⟩:=x
  exact ⟨z,y,xs,Paired.mapP r λp q z=>⟨z.1,ht _ _ z.2.1,z.2.2⟩,ob,es,ep,k _ _ (.inl rfl) e,c⟩
 | set S n=>obtain ⟨ob,es,ep,t,e,c⟩:=x;exact ⟨ob,es,ep,t,k _ _ (.inl rfl) e,c⟩
 | ins C dx fs =>
  obtain ⟨d,z,ne,e,mA,⟨od,es,ep,e2,c⟩,r⟩:=x
  exact ⟨ho _ d,z,ne,k _ _ (.inl rfl) e,mA,⟨od,es,ep,k _ _ (.inr d) e2,c⟩,r⟩
 | own y=>obtain ⟨ob,e⟩:=x;exact ⟨ob,k _ _ (.inl rfl) e⟩
 | xd fs=>obtain ⟨mA,⟨od,es,ep,e,c⟩,r⟩:=x;exact ⟨mA,⟨od,es,ep,k _ _ (.inl rfl) e,c⟩,r⟩
 | rng lo hi=>obtain ⟨t,u,v,e⟩:=x;exact ⟨t,u,v,k _ _ (.inl rfl) e⟩
 | frz ob u ih=>obtain ⟨e,q⟩:=x;exact ⟨k _ _ (.inl rfl) e,ih q⟩
 | tbl ps =>
  have e:h.get? a=some {cls:=.none,data:=.fields ps}:=x
  show h'.get? a=some {cls:=.none,data:=.fields ps}
  exact k a _ (.inl rfl) e
 | met f y =>
  have e:h.get? a=some (PySem.W.methodObj (.ref f) (.ref y)):=x
  show h'.get? a=some (PySem.W.methodObj (.ref f) (.ref y))
  exact k a _ (.inl rfl) e
 | ext φ=>obtain ⟨p,⟨o,e⟩,st⟩:=x;exact ⟨st _ _ p λo q=>k _ _ (.inl rfl) q,⟨o,k _ _ (.inl rfl) e⟩,st⟩
theorem HOk.lt(x:HOk P w H h)(e:H a=some o):a<h.objs.size:=(x a o e).lt
theorem HOk.fresh(x:HOk P w H h)(e:h.objs.size<=a):H a=none:=by
 cases q:H a with
 | none=>rfl
 | some u=>exact absurd (Nat.lt_of_lt_of_le (x.lt q) e) (Nat.lt_irrefl _)
theorem HOk.kept(x:HOk P w H h)(k:∀b u,h.get? b=some u->h'.get? b=some u):HOk P w H h':=λa o e =>
 (x a o e).stay (λb u _ q=>k b u q) (λ_ q=>q) λ_ _ q=>q
theorem HOk.laid(x:HOk P w H h)(k:∀b u,h.get? b=some u->h'.get? b=some u)(hp:h.objs.size<=a)(new:ObjOk P w (upd H a o) h' a o):HOk P w (upd H a o) h':=λb u e=>by
 have hn:=x.fresh hp
 by_cases hb:b=a
 ·subst hb;rw [ae] at e;cases e;exact new
 ·rw [aq hb] at e
  exact (x b u e).stay (λc v _ q=>k c v q) (λc q=>by rw [aq (ah q hn)];exact q) λc xs q=>by rw [aq (ah q hn)];exact q
end
def Rd(H:Hp)(a:Addr)(u:HO):Prop:=H a=some u\/∃o,H a=some (.frz o u)
theorem Rd.ok{P:Program}{w:World}{H:Hp}{h:Heap}{a:Addr}{u:HO}(r:Rd H a u)(x:HOk P w H h):ObjOk P w H h a u:=by
 rcases r with r | ⟨o,r⟩
 ·exact x a u r
 ·obtain ⟨_,q⟩:=x a _ r
  exact q
def Mut:Option HO->Prop
 | some (.lst _)=>True
 | some (.dK _)=>True
 | some (.dT _)=>True
 | some (.set _ _)=>True
 | some (.ins _ _ _)=>True
 | some (.ext _)=>True
 | _=>False
section
variable {P:Program}{w:World}{H:Hp}{h h':Heap}{x e:Addr}{o':HO}
theorem HOk.write(ok:HOk P w H h)(mu:Mut (H x))(he:e=x\/H e=some (.own x))(k:∀b u,b≠e->h.get? b=some u->h'.get? b=some u)(heo:∃u,h'.get? e=some u)
  (new:ObjOk P w (upd H x o') h' x o'):HOk P w (upd H x o') h':=λb u q=>by
 have nown:∀c y,H c=some (.own y)->c≠x:=λc y r z=>by subst z;rw [r] at mu;exact mu
 have ntup:∀c xs,H c=some (.tup xs)->c≠x:=λc xs r z=>by subst z;rw [r] at mu;exact mu
 by_cases hb:b=x
 ·subst hb;rw [ae] at q;cases q;exact new
 ·rw [aq hb] at q
  by_cases hbe:b=e
  ·have q':H b=some (.own x):=by
    rcases he with z | z
    ·exact absurd (hbe.trans z) hb
    ·rw [hbe];exact z
   rw [q] at q';cases q'
   obtain ⟨v,hv⟩:=heo
   exact ⟨v,by rw [hbe];exact hv⟩
  ·refine (ok b u q).stay (λc v hc r=>k c v ?_ r) (λc r=>by rw [aq (nown c b r)];exact r) λc xs r=>by rw [aq (ntup c xs r)];exact r
   rcases hc with rfl | hc
   ·exact hbe
   ·rintro rfl
    rcases he with z | z
    ·exact nown c b hc z
    ·rw [hc] at z;cases z;exact hb rfl
end
structure Un(fs ex:List Addr)(H H':Hp)(h h':Heap):Prop where
 keep:∀b o,h.get? b=some o->H b=none->b∉fs->b∉ex->h'.get? b=some o
 slot:∀b o,h.get? b=some o->H b=none->b∈fs->b∉ex->∃sl,h'.get? b=some {o with slots:=sl}
 free:∀b o,h.get? b=some o->H b=none->b∉ex->H' b=none
 there:∀b o,h.get? b=some o->b∉ex->∃o',h'.get? b=some o'
 tups:∀b xs,H b=some (.tup xs)->H' b=some (.tup xs)
 frzs:∀b o u,H b=some (.frz o u)->H' b=some (.frz o u)
 tbls:∀b ps,H b=some (.tbl ps)->∃more,H' b=some (.tbl (ps++more))
section
variable {fs fs' ex ex':List Addr}{H H1 H2:Hp}{h h1 h2 h':Heap}{a x e:Addr}{o:HO}
theorem Un.any(u:Un fs ex H H1 h h1){b:Addr}{ob:Obj}(q:h.get? b=some ob)(n:H b=none)(hx:b∉ex):∃sl,h1.get? b=some {ob with slots:=sl}:=by
 by_cases hb:b∈fs
 ·exact u.slot b ob q n hb hx
 ·exact ⟨ob.slots,u.keep b ob q n hb hx⟩
theorem Un.kept(k:∀b u,h.get? b=some u->h'.get? b=some u):Un fs ex H H h h' :=
 ⟨λb ob q _ _ _=>k b ob q,λb ob q _ _ _=>⟨ob.slots,k b ob q⟩,λ_ _ _ n _=>n,λb ob q _=>⟨ob,k b ob q⟩,λ_ _ q=>q,λ_ _ _ q=>q,λ_ ps q=>⟨#[],by rw [q];simp⟩⟩
theorem Un.refl:Un fs ex H H h h:=Un.kept λ_ _ q=>q
theorem Un.laid(k:∀b u,h.get? b=some u->h'.get? b=some u)(hp:h.objs.size<=a)(hn:H a=none):Un fs ex H (upd H a o) h h' where
 keep:=λb u q _ _ _=>k b u q
 slot:=λb u q _ _ _=>⟨u.slots,k b u q⟩
 free:=λb u q n _=>by rw [aq (Nat.ne_of_lt (Nat.lt_of_lt_of_le (Heap.lt_size q) hp))];exact n
 there:=λb u q _=>⟨u,k b u q⟩
 tups:=λb xs q=>by rw [aq (ah q hn)];exact q
 frzs:=λb u xs q=>by rw [aq (ah q hn)];exact q
 tbls:=λb ps q=>⟨#[],by rw [aq (ah q hn),q];simp⟩
theorem Un.write(mu:Mut (H x))(he:e=x\/H e=some (.own x))(k:∀b u,b≠e->h.get? b=some u->h'.get? b=some u)(heo:∃u,h'.get? e=some u):Un fs ex H (upd H x o) h h':=by
 have hx:∀b,H b=none->b≠x:=λb n z=>by subst z;rw [n] at mu;exact mu
 have hb:∀b,H b=none->b≠e:=λb n z=>by
  subst z
  rcases he with r | r
  ·exact hx b n r
  ·rw [n] at r;cases r
 have hm:∀b u,H b=some u->¬Mut (some u)->b≠x:=λb u q nm z=>by subst z;rw [q] at mu;exact nm mu
 refine ⟨λb u q n _ _=>k b u (hb b n) q,λb u q n _ _=>⟨u.slots,k b u (hb b n) q⟩,λb u q n _=>by rw [aq (hx b n)];exact n,λb u q _=>?_,
  λb xs q=>by rw [aq (hm b _ q λz=>z)];exact q,λb u xs q=>by rw [aq (hm b _ q λz=>z)];exact q,λb ps q=>⟨#[],by rw [aq (hm b _ q λz=>z),q];simp⟩⟩
 by_cases hbe:b=e
 ·subst hbe;exact heo
 ·exact ⟨u,k b u hbe q⟩
end
def trk(h:Heap)(H:Hp):List Addr:=(List.range h.objs.size).filter λa=>(H a).isSome
def lQ(h:Heap)(H:Hp):Heap:=PySem.W.hideAll h (trk h H)
theorem qX(h:Heap)(H:Hp):(lQ h H).objs.size=h.objs.size:=PySem.W.hideAll_size _ _
theorem um{h:Heap}{H:Hp}{b:Addr}{o:Obj}(e:h.get? b=some o)(n:H b=none):(lQ h H).get? b=some o :=
 PySem.W.hideAll_get _ e λhm=>by
  have q:(H b).isSome=true:=(List.mem_filter.mp hm).2
  rw [n] at q;simp at q
theorem v6{h:Heap}{H:Hp}{b:Addr}{o:Obj}(e:(lQ h H).get? b=some o):h.get? b=some o/\H b=none:=by
 have e':h.get? b=some o:=PySem.W.of_hideAll (trk h H) e
 refine ⟨e',?_⟩
 cases q:H b with
 | none=>rfl
 | some x =>
  have hm:b∈trk h H:=List.mem_filter.mpr ⟨List.mem_range.mpr (Heap.lt_size e'),by simp [q]⟩
  have z:(lQ h H).get? b=none:=PySem.W.hideAll_none (trk h H) hm
  rw [z] at e;cases e
end L2
namespace L2
open PySem PySem.Spec PyProof.Rows
structure Mod(K:PySem.W.Frag)(mg:Str->Option Value)(base:Heap):Prop where
 kin:K.In base
 glob:base.Ns mainGlobals mg
 blt:∃mb,base.Ns builtinsNs mb/\∀x:Str,x≠"__name__"->mb x=bootBuiltins x
 nolimit:base.NoLimit
structure Cx where
 prog:Program
 w:World
 K:PySem.W.Frag
 mg:Str->Option Value
 base:Heap
 A:Around
 N:List Str
 s₀:Shared
 H₀:Hp
 env:Env
 outer:List Env
 stack:List Env
 ex:List Addr
 fn:Str->Bool
 calm:Bool
 pn:List (Addr×Obj)
 xe:Value->Shared->Prop
def frs(l:List Env):List Addr:=l.filterMap (·.frame)
abbrev Cx.fs(X:Cx):List Addr:=frs X.outer
def Vis(sc:Scope)(x:Str):Prop:=sc.names.lookup x=some .local\/sc.names.lookup x=some .cell\/sc.names.lookup x=some .free
def Loc(sc:Scope)(x:Str):Prop:=sc.names.lookup x=some .local\/sc.names.lookup x=some .cell
def Aj(env:Env)(h:Heap)(m:Str->Option Value)(x:Str)(u:Value):Prop :=
 (env.kindOf x=some .local/\m x=some u)\/((env.kindOf x=some .cell\/env.kindOf x=some .free)/\∃c,env.cells.lookup x=some c/\h.IsCell c (some u))
structure Cx.Ok(X:Cx):Prop where
 mod:Mod X.K X.mg X.base
 kind:X.env.scope.kind=.function
 glob:X.env.globals=mainGlobals
 blt:X.env.builtins=builtinsNs
 above:X.s₀.heap.objs.size<=X.env.locals
 inj:∀x y c,X.env.cells.lookup x=some c->X.env.cells.lookup y=some c->x=y
 has:∀x,(X.env.kindOf x=some .cell\/X.env.kindOf x=some .free)->∃c,X.env.cells.lookup x=some c
 cab:∀x c,X.fn x=true->X.env.cells.lookup x=some c->X.s₀.heap.objs.size<=c
 hd:X.calm=true->X.A.handled=none
 frames:X.A.frames=some X.stack
 stk:X.stack=X.outer\/(X.stack=X.env::X.outer/\X.env.frame=some X.env.locals)
 exf:∀b∈X.ex,b≠X.env.locals/\∀x c,X.env.cells.lookup x=some c->c≠b
 bs:∀b o,X.base.get? b=some o->X.s₀.heap.get? b=some o/\X.H₀ b=none
 bsz:X.base.objs.size<=X.s₀.heap.objs.size
 noex:∀b o,X.base.get? b=some o->b∉X.ex
 exfs:∀b∈X.ex,b∉X.fs
 funs:X.s₀.heap.FunFrames X.base X.outer
 frf:∀b∈X.fs,X.H₀ b=none
structure Inv(X:Cx)(pins:List (Addr×Obj))(σ:List (Option V))(H:Hp)(s:Shared):Prop where
 ok:X.Ok
 os:s.os=X.s₀.os
 bare:AllBare s.gens
 base:Un X.fs X.ex X.H₀ H X.s₀.heap s.heap
 loc:∃m,s.heap.Ns X.env.locals m/\∀(i:Nat) (x:Str) (v:V),X.N[i]?=some x->σ[i]?=some (some v)->Vis X.env.scope x->∃u,RelV v u/\Aj X.env s.heap m x u
 cell:∀x c,X.env.cells.lookup x=some c->∃v,s.heap.IsCell c v
 free:H X.env.locals=none
 freeC:∀x c,X.env.cells.lookup x=some c->H c=none
 pin:∀p∈X.pn++pins,s.heap.get? p.1=some p.2/\H p.1=none/\p.1≠X.env.locals/\p.1∉X.fs/\∀v,p.2.data≠.cell v
 hok:HOk X.prog X.w H s.heap
 len:σ.length=X.N.length
section
variable {X:Cx}{pins:List (Addr×Obj)}{σ:List (Option V)}{H H':Hp}{s:Shared}{h':Heap}
theorem Cx.Ok.nofr(ok:X.Ok){b:Addr}{o:Obj}(e:X.base.get? b=some o):b∉X.fs:=λhb=>by
 have:=(ok.funs.mem hb).1
 rw [e] at this;cases this
theorem Inv.bs(I:Inv X pins σ H s):∀b o,X.base.get? b=some o->s.heap.get? b=some o/\H b=none:=λb o e =>
 ⟨I.base.keep b o (I.ok.bs b o e).1 (I.ok.bs b o e).2 (I.ok.nofr e) (I.ok.noex b o e),I.base.free b o (I.ok.bs b o e).1 (I.ok.bs b o e).2 (I.ok.noex b o e)⟩
theorem Inv.bk(I:Inv X pins σ H s):∀b o,X.base.get? b=some o->s.heap.get? b=some o:=λb o e=>(I.bs b o e).1
theorem Inv.mod(I:Inv X pins σ H s):Mod X.K X.mg X.base:=I.ok.mod
theorem Inv.kIn(I:Inv X pins σ H s):X.K.In s.heap:=I.ok.mod.kin.keeps I.bk
theorem Inv.lt(I:Inv X pins σ H s):X.env.locals<s.heap.objs.size:=let ⟨_,hn,_⟩:=I.loc;hn.lt
theorem Inv.sz(I:Inv X pins σ H s):X.s₀.heap.objs.size<=s.heap.objs.size:=Nat.le_trans I.ok.above (Nat.le_of_lt I.lt)
theorem Inv.nofs(I:Inv X pins σ H s){a:Addr}(h:s.heap.objs.size<=a):a∉X.fs:=λhb=>by
 obtain ⟨_,o,ho,_⟩:=I.ok.funs.mem hb
 exact absurd (Nat.lt_of_lt_of_le (Heap.lt_size ho) (Nat.le_trans I.sz h)) (Nat.lt_irrefl _)
theorem Inv.cne(I:Inv X pins σ H s):∀x c,X.env.cells.lookup x=some c->c≠X.env.locals:=λx c e z=>by
 obtain ⟨v,o,ho,hd⟩:=I.cell x c e
 obtain ⟨m,⟨o',es,ep,ho',hd',_⟩,_⟩:=I.loc
 rw [z,ho'] at ho;cases ho;rw [hd'] at hd;cases hd
theorem Inv.funs(I:Inv X pins σ H s):s.heap.FunFrames X.base X.outer:=by
 have all:∀(l:List Env),(∀b∈frs l,b∈X.fs)->X.s₀.heap.FunFrames X.base l->s.heap.FunFrames X.base l:=by
  intro l
  induction l with
  | nil=>intro _ _;trivial
  | cons env r ih =>
   intro hs hl
   obtain ⟨hk,⟨L,o,hf,hn,ho,hd⟩,hr⟩:=hl
   have hL:L∈X.fs:=hs L (by unfold frs;rw [List.filterMap_cons,hf];exact List.mem_cons_self)
   obtain ⟨sl,e⟩:=I.base.slot L o ho (I.ok.frf L hL) hL λz=>I.ok.exfs L z hL
   exact ⟨hk,⟨L,_,hf,hn,e,hd⟩,ih (λb hb=>hs b (by unfold frs;rw [List.filterMap_cons,hf];exact List.mem_cons_of_mem _ hb)) hr⟩
 exact all X.outer (λ_ hb=>hb) I.ok.funs
theorem Inv.stack(I:Inv X pins σ H s):s.heap.FunFrames X.base X.stack:=by
 rcases I.ok.stk with e | ⟨e,hf⟩
 ·rw [e];exact I.funs
 ·rw [e]
  obtain ⟨m,hn,_⟩:=I.loc
  refine .cons (by rw [I.ok.kind];decide) hf hn ?_ I.funs
  exact Heap.get?_none_of_le (Nat.le_trans I.ok.bsz I.ok.above)
theorem Inv.stkSub(I:Inv X pins σ H s):∀b∈frs X.stack,b∈X.env.locals::X.fs:=λb hb=>by
 rcases I.ok.stk with e | ⟨e,hf⟩
 ·rw [e] at hb;exact List.mem_cons_of_mem _ hb
 ·rw [e] at hb
  unfold frs at hb
  rw [List.filterMap_cons,hf] at hb
  exact hb
theorem Inv.stkFree(I:Inv X pins σ H s):∀b∈frs X.stack,H b=none:=λb hb=>by
 rcases List.mem_cons.mp (I.stkSub b hb) with e | hb
 ·rw [e];exact I.free
 ·obtain ⟨_,o,ho,_⟩:=I.ok.funs.mem hb
  exact I.base.free b o ho (I.ok.frf b hb) λz=>I.ok.exfs b z hb
theorem Inv.step{g':Array GenState}{t':Nat}{d':Drawn}{ch:List Addr}(I:Inv X pins σ H s)
  (hch:∀b∈ch,(b∈X.ex\/X.s₀.heap.objs.size<=b)/\b≠X.env.locals/\(∀x c,X.env.cells.lookup x=some c->c≠b)/\∀p∈X.pn++pins,p.1≠b)
  (keep:∀b o,b≠X.env.locals->b∉X.fs->b∉ch->s.heap.get? b=some o->H b=none->h'.get? b=some o)
  (slot:∀b o,b≠X.env.locals->b∈X.fs->b∉ch->s.heap.get? b=some o->H b=none->∃sl,h'.get? b=some {o with slots:=sl})(free:∀b o,b∉ch->s.heap.get? b=some o->H b=none->H' b=none)
  (there:∀b o,b∉ch->s.heap.get? b=some o->∃o',h'.get? b=some o')
  (tups:∀b xs,H b=some (.tup xs)->H' b=some (.tup xs))(frzs:∀b o u,H b=some (.frz o u)->H' b=some (.frz o u))(tbls:∀b ps,H b=some (.tbl ps)->∃more,H' b=some (.tbl (ps++more)))
  (ns:∀m,s.heap.Ns X.env.locals m->h'.Ns X.env.locals m)(hok:HOk X.prog X.w H' h')(hg:AllBare g') :
  Inv X pins σ H' {s with heap:=h',gens:=g',drawn:=d',toks:=t'}:=by
 have neL:∀b o,X.s₀.heap.get? b=some o->b≠X.env.locals:=λb o e=>Nat.ne_of_lt (Nat.lt_of_lt_of_le (Heap.lt_size e) I.ok.above)
 have neC:∀b o,X.s₀.heap.get? b=some o->b∉X.ex->b∉ch:=λb o e hx hb=>by
  rcases (hch b hb).1 with z | z
  ·exact hx z
  ·exact absurd (Nat.lt_of_lt_of_le (Heap.lt_size e) z) (Nat.lt_irrefl _)
 have cellK:∀x c,X.env.cells.lookup x=some c->∀v,s.heap.IsCell c v->h'.IsCell c v:=λx c e v ⟨o,ho,hd⟩=>by
  have nch:c∉ch:=λz=>(hch c z).2.2.1 x c e rfl
  by_cases hc:c∈X.fs
  ·obtain ⟨sl,q⟩:=slot c o (I.cne x c e) hc nch ho (I.freeC x c e)
   exact ⟨_,q,hd⟩
  ·exact ⟨o,keep c o (I.cne x c e) hc nch ho (I.freeC x c e),hd⟩
 refine ⟨I.ok,I.os,hg,⟨λb o e n hb hx=>?_,λb o e n hb hx=>?_,λb o e n hx=>?_,λb o e hx=>?_,λb xs e=>tups b xs (I.base.tups b xs e),λb o xs e=>frzs b o xs (I.base.frzs b o xs e),λb ps e=>?_⟩,?_,λx c e=>?_,?_,λx c e=>?_,λp hp=>?_,hok,I.len⟩
 ·exact keep b o (neL b o e) hb (neC b o e hx) (I.base.keep b o e n hb hx) (I.base.free b o e n hx)
 ·obtain ⟨sl,e1⟩:=I.base.slot b o e n hb hx
  obtain ⟨sl',e2⟩:=slot b _ (neL b o e) hb (neC b o e hx) e1 (I.base.free b o e n hx)
  exact ⟨sl',e2⟩
 ·obtain ⟨o',e1⟩:=I.base.there b o e hx
  exact free b o' (neC b o e hx) e1 (I.base.free b o e n hx)
 ·obtain ⟨o',e1⟩:=I.base.there b o e hx
  exact there b o' (neC b o e hx) e1
 ·obtain ⟨m1,e1⟩:=I.base.tbls b ps e
  obtain ⟨m2,e2⟩:=tbls b _ e1
  exact ⟨m1++m2,by rw [e2,Array.append_assoc]⟩
 ·obtain ⟨m,hn,hl⟩:=I.loc
  refine ⟨m,ns m hn,λi x v e1 e2 e3=>?_⟩
  obtain ⟨u,r,l⟩:=hl i x v e1 e2 e3
  refine ⟨u,r,?_⟩
  rcases l with l | ⟨k,c,e,z⟩
  ·exact .inl l
  ·exact .inr ⟨k,c,e,cellK x c e _ z⟩
 ·obtain ⟨v,z⟩:=I.cell x c e
  exact ⟨v,cellK x c e v z⟩
 ·obtain ⟨m,⟨o,_,_,ho,_⟩,_⟩:=I.loc
  exact free _ o (λz=>(hch _ z).2.1 rfl) ho I.free
 ·obtain ⟨v,o,ho,hd⟩:=I.cell x c e
  exact free c o (λz=>(hch c z).2.2.1 x c e rfl) ho (I.freeC x c e)
 ·obtain ⟨e,n,ne,nf,d⟩:=I.pin p hp
  have nch:p.1∉ch:=λz=>(hch p.1 z).2.2.2 p hp rfl
  exact ⟨keep p.1 p.2 ne nf nch e n,free p.1 p.2 nch e n,ne,nf,d⟩
theorem Inv.un{t':Nat}(I:Inv X pins σ H s)(u:Un X.fs [] H H' s.heap h')(hok:HOk X.prog X.w H' h'):Inv X pins σ H' {s with heap:=h',toks:=t'}:=by
 obtain ⟨m,⟨o,es,ep,ho,r⟩,_⟩:=id I.loc
 obtain ⟨sl,hL⟩:=u.any ho I.free (by simp)
 exact I.step (g':=s.gens) (d':=s.drawn) (ch:=[]) (λ_ z=>nomatch z) (λb o _ hb _ e n=>u.keep b o e n hb (by simp)) (λb o _ hb _ e n=>u.slot b o e n hb (by simp)) (λb o _ e n=>u.free b o e n (by simp)) (λb o _ e=>u.there b o e (by simp)) u.tups u.frzs u.tbls (λm' hm=>by
  obtain ⟨o',es',ep',ho',r'⟩:=hm
  rw [ho] at ho';cases ho'
  exact ⟨_,es',ep',hL,r'⟩) hok I.bare
theorem Inv.call{g':Array GenState}{t':Nat}{d':Drawn}{ch:List Addr}(I:Inv X pins σ H s)(u:Un (frs X.stack) ch H H' s.heap h')(hok:HOk X.prog X.w H' h')(hg:AllBare g')
  (hch:∀b∈ch,(b∈X.ex\/X.s₀.heap.objs.size<=b)/\b≠X.env.locals/\(∀x c,X.env.cells.lookup x=some c->c≠b)/\∀p∈X.pn++pins,p.1≠b) :
  Inv X pins σ H' {s with heap:=h',gens:=g',drawn:=d',toks:=t'}:=by
 obtain ⟨m,⟨o,es,ep,ho,r⟩,_⟩:=id I.loc
 obtain ⟨sl,hL⟩:=u.any ho I.free λz=>(hch _ z).2.1 rfl
 exact I.step (ch:=ch) hch (λb o hL hb hc e n=>u.keep b o e n (λz=>(List.mem_cons.mp (I.stkSub b z)).elim hL hb) hc) (λb o _ _ hc e n=>u.any e n hc) (λb o hc e n=>u.free b o e n hc) (λb o hc e=>u.there b o e hc) u.tups u.frzs u.tbls (λm' hm=>by
  obtain ⟨o',es',ep',ho',r'⟩:=hm
  rw [ho] at ho';cases ho'
  exact ⟨_,es',ep',hL,r'⟩) hok hg
theorem Inv.turned{t':Nat}{it:Addr}(I:Inv X pins σ H s)(k:∀b o,b≠it->s.heap.get? b=some o->h'.get? b=some o)(hn:H it=none)(hL:it≠X.env.locals)
  (h1:it∈X.ex\/X.s₀.heap.objs.size<=it)(h2:∀x c,X.env.cells.lookup x=some c->c≠it)(h3:∀p∈X.pn++pins,p.1≠it):Inv X pins σ H {s with heap:=h',toks:=t'}:=by
 have nit:∀b u,H b=some u->b≠it:=λb u e z=>by rw [z,hn] at e;cases e
 refine I.step (g':=s.gens) (d':=s.drawn) (ch:=[it]) (λb hb=>?_) (λb o _ _ hc e _=>k b o (λz=>hc (by simp [z])) e) (λb o _ _ hc e _=>⟨o.slots,k b o (λz=>hc (by simp [z])) e⟩) (λ_ _ _ _ n=>n)
  (λb o hc e=>⟨o,k b o (λz=>hc (by simp [z])) e⟩) (λ_ _ e=>e) (λ_ _ _ e=>e) (λb ps e=>⟨#[],by rw [e];simp⟩) (λm hm=>?_) (λb u e=>?_) I.bare
 ·have e:b=it:=by simpa using hb
  subst e
  exact ⟨h1,hL,h2,h3⟩
 ·obtain ⟨o,es,ep,ho,r⟩:=hm
  exact ⟨o,es,ep,k _ o (Ne.symm hL) ho,r⟩
 ·refine (I.hok b u e).stay (λc v hc q=>k c v ?_ q) (λ_ q=>q) λ_ _ q=>q
  rcases hc with z | z
  ·rw [z];exact nit b u e
  ·exact nit c _ z
theorem Inv.tok(I:Inv X pins σ H s)(t:Nat):Inv X pins σ H {s with toks:=t}:=I.un (h':=s.heap) (t':=t) Un.refl I.hok
theorem Inv.kept{t':Nat}(I:Inv X pins σ H s)(k:∀b u,s.heap.get? b=some u->h'.get? b=some u):Inv X pins σ H {s with heap:=h',toks:=t'}:=I.un (Un.kept k) (I.hok.kept k)
theorem Inv.laid{a:Addr}{o:HO}{t':Nat}(I:Inv X pins σ H s)(k:∀b u,s.heap.get? b=some u->h'.get? b=some u)(hp:s.heap.objs.size<=a)(new:ObjOk X.prog X.w (upd H a o) h' a o) :
  Inv X pins σ (upd H a o) {s with heap:=h',toks:=t'}:=I.un (Un.laid k hp (I.hok.fresh hp)) (I.hok.laid k hp new)
theorem Inv.write{x e:Addr}{o:HO}{t':Nat}(I:Inv X pins σ H s)(mu:Mut (H x))(he:e=x\/H e=some (.own x))(k:∀b u,b≠e->s.heap.get? b=some u->h'.get? b=some u)(heo:∃u,h'.get? e=some u)
  (new:ObjOk X.prog X.w (upd H x o) h' x o):Inv X pins σ (upd H x o) {s with heap:=h',toks:=t'}:=I.un (Un.write mu he k heo) (I.hok.write mu he k heo new)
theorem Inv.weak{σ':List (Option V)}(I:Inv X pins σ H s)(hl:σ'.length=σ.length)(w:∀(i:Nat) v,σ'[i]?=some (some v)->σ[i]?=some (some v)):Inv X pins σ' H s :=
 ⟨I.ok,I.os,I.bare,I.base,let ⟨m,hn,hl'⟩:=I.loc;⟨m,hn,λi x v e1 e2 e3=>hl' i x v e1 (w i v e2) e3⟩,I.cell,I.free,I.freeC,I.pin,I.hok,hl.trans I.len⟩
theorem Inv.pins_of{pins':List (Addr×Obj)}(I:Inv X pins σ H s)(h:∀p∈pins',s.heap.get? p.1=some p.2/\H p.1=none/\p.1≠X.env.locals/\p.1∉X.fs/\∀v,p.2.data≠.cell v):Inv X pins' σ H s :=
 ⟨I.ok,I.os,I.bare,I.base,I.loc,I.cell,I.free,I.freeC,λp hp=>(List.mem_append.mp hp).elim (λz=>I.pin p (List.mem_append_left _ z)) (h p),I.hok,I.len⟩
theorem mQ{N:List Str}(hN:N.Nodup){i j:Nat}{x:Str}(a:N[i]?=some x)(b:N[j]?=some x):i=j:=by
 obtain ⟨h1,e1⟩:=List.getElem?_eq_some_iff.mp a
 obtain ⟨h2,e2⟩:=List.getElem?_eq_some_iff.mp b
 exact (List.getElem_inj hN).mp (e1.trans e2.symm)
theorem qm{M:Model}{A:Around}{E:Value->Shared->Prop}{i:Nat}{x:Str}{v:V}{u:Value}{Q:Unit->Shared->Prop}(I:Inv X pins σ H s)(hN:X.N.Nodup)(hi:X.N[i]?=some x)(hx:Loc X.env.scope x)(r:RelV v u)
  (h:∀s',Inv X pins (σ.set i (some v)) H s'->(∃a,Heap.SameBut a s.heap s'.heap/\(a=X.env.locals\/X.env.cells.lookup x=some a))->Q () s')(hf:X.fn x=true\/X.env.scope.names.lookup x=some .local:=by first | exact .inl rfl | exact .inr rfl | assumption):wpAny M A (storeName X.env x u) Q E s:=by
 obtain ⟨m,hn,hl⟩:=id I.loc
 have hcls:(X.env.scope.kind==.class||(X.env.scope.kind==.module&&X.env.locals != X.env.globals))=false:=by rw [I.ok.kind];rfl
 have hiσ:i<σ.length:=by rw [I.len];exact (List.getElem?_eq_some_iff.mp hi).1
 have cne:=I.cne
 have tracked:∀{a:Addr} {h':Heap},(∃o,s.heap.get? a=some o/\H a=none)->Heap.SameBut a s.heap h'->HOk X.prog X.w H h':=λ{a h'} ha hs b ob e=>by
  obtain ⟨_,_,hfree⟩:=ha
  refine (I.hok b ob e).stay (λc w' hc q=>(hs.2 c ?_).trans q) (λ_ q=>q) λ_ _ q=>q
  rintro rfl
  rcases hc with rfl | hc
  ·rw [hfree] at e;cases e
  ·rw [hfree] at hc;cases hc
 rcases hx with hk | hk
 ·refine wpAny_storeName_local hk hn (λh' hn' hs=>?_) hcls
  obtain ⟨oL,_,_,hoL,_⟩:=id hn
  refine h _ ⟨I.ok,I.os,I.bare,⟨λb o e n hb hx=>?_,λb o e n hb hx=>?_,I.base.free,λb o e hx=>?_,I.base.tups,I.base.frzs,I.base.tbls⟩,⟨_,hn',λj y v' e1 e2 e3=>?_⟩,λy c e=>?_,I.free,I.freeC,λp hp=>?_,tracked ⟨oL,hoL,I.free⟩ hs,by simpa using I.len⟩ ⟨_,hs,.inl rfl⟩
  ·exact (hs.2 b (Nat.ne_of_lt (Nat.lt_of_lt_of_le (Heap.lt_size e) I.ok.above))).trans (I.base.keep b o e n hb hx)
  ·obtain ⟨sl,e1⟩:=I.base.slot b o e n hb hx
   exact ⟨sl,(hs.2 b (Nat.ne_of_lt (Nat.lt_of_lt_of_le (Heap.lt_size e) I.ok.above))).trans e1⟩
  ·obtain ⟨o',e1⟩:=I.base.there b o e hx
   exact ⟨o',(hs.2 b (Nat.ne_of_lt (Nat.lt_of_lt_of_le (Heap.lt_size e) I.ok.above))).trans e1⟩
  ·by_cases hj:j=i
   ·subst hj
    rw [hi] at e1;cases e1
    rw [List.getElem?_set_self hiσ] at e2
    cases e2
    exact ⟨u,r,.inl ⟨hk,by simp⟩⟩
   ·rw [List.getElem?_set_ne (Ne.symm hj)] at e2
    obtain ⟨u',r',q⟩:=hl j y v' e1 e2 e3
    refine ⟨u',r',?_⟩
    rcases q with ⟨k,e⟩ | ⟨k,c,e,z⟩
    ·refine .inl ⟨k,?_⟩
     have:y≠x:=λe=>hj (mQ hN e1 (e▸hi))
     simp [this,e]
    ·exact .inr ⟨k,c,e,z.sameBut hs (cne y c e)⟩
  ·obtain ⟨w',z⟩:=I.cell y c e
   exact ⟨w',z.sameBut hs (cne y c e)⟩
  ·obtain ⟨e,n,ne,nf,d⟩:=I.pin p hp
   exact ⟨(hs.2 p.1 ne).trans e,n,ne,nf,d⟩
 ·have hfn:X.fn x=true:=by
   rcases hf with z | z
   ·exact z
   ·rw [z] at hk;cases hk
  obtain ⟨c,hc⟩:=I.ok.has x (.inl hk)
  obtain ⟨w',z⟩:=I.cell x c hc
  refine wpAny_storeName_cell I.ok.kind hk hc z (λh' hc' hs=>?_)
  obtain ⟨oc,hoc,hocd⟩:=id z
  refine h {s with heap:=h'} ⟨I.ok,I.os,I.bare,⟨λb o e n hb hx=>?_,λb o e n hb hx=>?_,I.base.free,λb o e hx=>?_,I.base.tups,I.base.frzs,I.base.tbls⟩,⟨m,hn.sameBut hs (Ne.symm (cne x c hc)),λj y v' e1 e2 e3=>?_⟩,λy c' e=>?_,I.free,I.freeC,λp hp=>?_,tracked ⟨oc,hoc,I.freeC x c hc⟩ hs,by simpa using I.len⟩ ⟨c,hs,.inr hc⟩
  ·exact (hs.2 b (Nat.ne_of_lt (Nat.lt_of_lt_of_le (Heap.lt_size e) (I.ok.cab x c hfn hc)))).trans (I.base.keep b o e n hb hx)
  ·obtain ⟨sl,e1⟩:=I.base.slot b o e n hb hx
   exact ⟨sl,(hs.2 b (Nat.ne_of_lt (Nat.lt_of_lt_of_le (Heap.lt_size e) (I.ok.cab x c hfn hc)))).trans e1⟩
  ·obtain ⟨o',e1⟩:=I.base.there b o e hx
   exact ⟨o',(hs.2 b (Nat.ne_of_lt (Nat.lt_of_lt_of_le (Heap.lt_size e) (I.ok.cab x c hfn hc)))).trans e1⟩
  ·by_cases hj:j=i
   ·subst hj
    rw [hi] at e1;cases e1
    rw [List.getElem?_set_self hiσ] at e2
    cases e2
    exact ⟨u,r,.inr ⟨.inl hk,c,hc,hc'⟩⟩
   ·rw [List.getElem?_set_ne (Ne.symm hj)] at e2
    obtain ⟨u',r',q⟩:=hl j y v' e1 e2 e3
    refine ⟨u',r',?_⟩
    rcases q with q | ⟨k,c',e,z'⟩
    ·exact .inl q
    ·refine .inr ⟨k,c',e,z'.sameBut hs ?_⟩
     rintro rfl
     exact hj (mQ hN e1 (I.ok.inj _ _ _ e hc▸hi))
  ·by_cases hcc:c'=c
   ·subst hcc;exact ⟨_,hc'⟩
   ·obtain ⟨w2,z2⟩:=I.cell y c' e
    exact ⟨w2,z2.sameBut hs hcc⟩
  ·obtain ⟨e,n,ne,nf,d⟩:=I.pin p hp
   refine ⟨(hs.2 p.1 ?_).trans e,n,ne,nf,d⟩
   intro q
   rw [q,hoc] at e
   have q':oc=p.2:=Option.some.inj e
   exact d w' (by rw [← q'];exact hocd)
theorem i0{M:Model}{A:Around}{E:Value->Shared->Prop}{i:Nat}{x:Str}{v:V}{u:Value}{Q:Unit->Shared->Prop}(I:Inv X pins σ H s)(hN:X.N.Nodup)(hi:X.N[i]?=some x)(hx:Loc X.env.scope x)(r:RelV v u)
  (h:∀s',Inv X pins (σ.set i (some v)) H s'->Q () s')(hf:X.fn x=true\/X.env.scope.names.lookup x=some .local:=by first | exact .inl rfl | exact .inr rfl | assumption):wpAny M A (storeName X.env x u) Q E s :=
 qm I hN hi hx r (λs' I' _=>h s' I') hf
theorem Inv.call'{s':Shared}{ch:List Addr}(I:Inv X pins σ H s)(ho:s'.os=s.os)(u:Un (frs X.stack) ch H H' s.heap s'.heap)(hok:HOk X.prog X.w H' s'.heap)(hg:AllBare s'.gens)
  (hch:∀b∈ch,(b∈X.ex\/X.s₀.heap.objs.size<=b)/\b≠X.env.locals/\(∀x c,X.env.cells.lookup x=some c->c≠b)/\∀p∈X.pn++pins,p.1≠b):Inv X pins σ H' s':=by
 obtain ⟨h',g',d',t',o'⟩:=s'
 have e:o'=s.os:=ho
 subst e
 exact I.call (g':=g') (t':=t') (d':=d') u hok hg hch
end
abbrev XK:=Value->Option Addr->Hp->Prop
abbrev St:=List (Option V)
abbrev VK:=V->Hp->Prop
abbrev TE:=St->Hp->VK->Prop
abbrev TT:=St->Hp->(Bool->Hp->Prop)->Prop
abbrev TA:=St->Hp->(List V->Hp->Prop)->Prop
structure Ends where
 nx:St->Hp->Prop
 rt:VK
 bk:St->Hp->Prop:=λ_ _=>False
 ct:St->Hp->Prop:=λ_ _=>False
abbrev TS:=Ends->St->Hp->Prop
def EP(X:Cx)(pins:List (Addr×Obj))(σ:St)(Q:VK)(u:Value)(s':Shared):Prop:=∃v H',Inv X pins σ H' s'/\RelV v u/\Q v H'
def TP(X:Cx)(pins:List (Addr×Obj))(σ:St)(Q:Bool->Hp->Prop)(b:Bool)(s':Shared):Prop:=∃H',Inv X pins σ H' s'/\Q b H'
def AP(X:Cx)(pins:List (Addr×Obj))(σ:St)(Q:List V->Hp->Prop)(us:List Value)(s':Shared):Prop:=∃vs H',Inv X pins σ H' s'/\Vals vs us/\Q vs H'
def SP(X:Cx)(pins:List (Addr×Obj))(D:Ends)(f:Flow)(s':Shared):Prop :=
 match f with
 | .next=>∃σ' H',Inv X pins σ' H' s'/\D.nx σ' H'
 | .brk=>∃σ' H',Inv X pins σ' H' s'/\D.bk σ' H'
 | .cont=>∃σ' H',Inv X pins σ' H' s'/\D.ct σ' H'
 | .ret u=>∃v σ' H',Inv X pins σ' H' s'/\RelV v u/\D.rt v H'
def PE(X:Cx)(e:Expr)(t:TE):Prop :=
 ∀(pins:List (Addr×Obj)) (s:Shared) (σ:St) (H:Hp) (Q:VK),Inv X pins σ H s->t σ H Q->wpAny (model X.prog X.w) X.A (eval e X.env) (EP X pins σ Q) X.xe s
def PT(X:Cx)(e:Expr)(t:TT):Prop :=
 ∀(pins:List (Addr×Obj)) (s:Shared) (σ:St) (H:Hp) (Q:Bool->Hp->Prop),Inv X pins σ H s->t σ H Q->wpAny (model X.prog X.w) X.A (isTrue e X.env (eval e X.env)) (TP X pins σ Q) X.xe s
def PW(X:Cx)(e:Expr)(t:TT):Prop :=
 ∀(whole:Sem Value) (pins:List (Addr×Obj)) (s:Shared) (σ:St) (H:Hp) (Q:Bool->Hp->Prop),Inv X pins σ H s->t σ H Q->wpAny (model X.prog X.w) X.A (isTrue e X.env whole) (TP X pins σ Q) X.xe s
theorem PW.pt{X:Cx}{e:Expr}{t:TT}(h:PW X e t):PT X e t:=h _
def PA(X:Cx)(es:List Expr)(t:TA):Prop :=
 ∀(pos:Pos) (pins:List (Addr×Obj)) (s:Shared) (σ:St) (H:Hp) (Q:List V->Hp->Prop),Inv X pins σ H s->t σ H Q->wpAny (model X.prog X.w) X.A (spliced (backTo pos (starEach es X.env))) (AP X pins σ Q) X.xe s
def PS(X:Cx)(st:Stmt)(t:TS):Prop :=
 ∀(pins:List (Addr×Obj)) (s:Shared) (σ:St) (H:Hp) (D:Ends),Inv X pins σ H s->t D σ H->wpAny (model X.prog X.w) X.A (exec st X.env) (SP X pins D) X.xe s
def PSs(X:Cx)(st:List Stmt)(t:TS):Prop :=
 ∀(pins:List (Addr×Obj)) (s:Shared) (σ:St) (H:Hp) (D:Ends),Inv X pins σ H s->t D σ H->wpAny (model X.prog X.w) X.A (execs st X.env) (SP X pins D) X.xe s
theorem thn{α:Type}{t:Sem α}{Q Q':α->Shared->Prop}{M:Model}{A:Around}{E:Value->Shared->Prop}{s:Shared}(h:wpAny M A t Q E s)(hQ:∀a s,Q a s->Q' a s):wpAny M A t Q' E s:=wpAny_mono h hQ λ_ _ x=>x
end L2
namespace L2
open PySem PySem.Spec PyProof.Rows
section
variable {X:Cx}
def og(i:Nat):TE:=fun σ H Q=>∃v,σ[i]?=some (some v)/\Q v H
def tC(v:V):TE:=λ_ H Q=>Q v H
theorem sV{i:Nat}{x:Str}{pos:Pos}(hN:X.N[i]?=some x)(hv:Vis X.env.scope x)(hd:(x==("__debug__":Str))=false:=by decide)(hcd:(x==("__classdict__":Str))=false:=by decide):PE X (.Name x pos) (og i):=by
 intro pins s σ H Q I h
 obtain ⟨v,e,h⟩:=h
 obtain ⟨m,hn,hl⟩:=I.loc
 obtain ⟨u,r,l⟩:=hl i x v hN e hv
 have fin:EP X pins σ Q u s:=⟨v,H,I,r,h⟩
 rcases l with ⟨hk,hm⟩ | ⟨hk,c,hc,hcell⟩
 ·exact wpAny_Name (wpAny_loadName_local I.ok.kind hk hn hm fin) hd
 ·rcases hk with hk | hk
  ·exact wpAny_Name (wpAny_loadName_cell I.ok.kind hk hc hcell fin) hd
  ·exact wpAny_Name (wpAny_loadName_free I.ok.kind hk hc hcell fin hcd) hd
theorem aj{i j pos}:PE X (.Constant (.int i) j pos) (tC (.int i)):=λ_ _ _ H _ I h=>wpAny_Constant_int ⟨.int i,H,I.tok _,⟨_,rfl⟩,h⟩
theorem fu{b j pos}:PE X (.Constant (.bool b) j pos) (tC (.bl b)):=λ_ _ _ H _ I h=>Constant_bool ⟨.bl b,H,I,rfl,h⟩
theorem bb{j pos}:PE X (.Constant .none j pos) (tC .non):=λ_ _ _ H _ I h=>Constant_none ⟨.non,H,I,rfl,h⟩
theorem aB{x j pos}:PE X (.Constant (.str x) j pos) (tC (.str x)):=λ_ _ _ H _ I h=>Calls.Constant_str ⟨.str x,H,I.tok _,⟨_,rfl⟩,h⟩
def Gl(X:Cx)(x:Str):Prop:=X.env.kindOf x=some .globalImplicit
theorem gQ{E:Value->Shared->Prop}{pins:List (Addr×Obj)}{s:Shared}{σ:St}{H:Hp}{x:Str}{u:Value}{pos:Pos}{Q:Value->Shared->Prop}(I:Inv X pins σ H s)(hg:Gl X x)(hm:X.mg x=some u)(h:Q u s)
  (hd:(x==("__debug__":Str))=false:=by decide):wpAny (model X.prog X.w) X.A (eval (.Name x pos) X.env) Q E s :=
 Calls.Name_function_global I.ok.kind hg (Calls.loadGlobal_global (by rw [I.ok.glob];exact I.mod.glob.keeps I.bk) hm h) hd
theorem jv{E:Value->Shared->Prop}{pins:List (Addr×Obj)}{s:Shared}{σ:St}{H:Hp}{x:Str}{u:Value}{pos:Pos}{Q:Value->Shared->Prop}(I:Inv X pins σ H s)(hg:Gl X x)(hm:X.mg x=none)(hv:bootBuiltins x=some u)(h:Q u s)
  (hn:x≠"__name__":=by decide)(hd:(x==("__debug__":Str))=false:=by decide):wpAny (model X.prog X.w) X.A (eval (.Name x pos) X.env) Q E s:=by
 obtain ⟨mb,h1,h2⟩:=I.mod.blt
 exact Calls.Name_function_global I.ok.kind hg (Calls.loadGlobal_builtin (by rw [I.ok.glob];exact I.mod.glob.keeps I.bk) hm (by rw [I.ok.blt];exact h1.keeps I.bk) ((h2 x hn).trans hv) h) hd
theorem db{x:Str}{v:V}{u:Value}{pos:Pos}(hg:Gl X x)(hm:X.mg x=some u)(r:RelV v u)(hd:(x==("__debug__":Str))=false:=by decide):PE X (.Name x pos) (tC v) :=
 λ_ _ _ H _ I h=>gQ I hg hm ⟨v,H,I,r,h⟩ hd
theorem dH{x:Str}{v:V}{u:Value}{pos:Pos}(hg:Gl X x)(hm:X.mg x=none)(hv:bootBuiltins x=some u)(r:RelV v u)(hn:x≠"__name__":=by decide)(hd:(x==("__debug__":Str))=false:=by decide):PE X (.Name x pos) (tC v) :=
 λ_ _ _ H _ I h=>jv I hg hm hv ⟨v,H,I,r,h⟩ hn hd
variable {a b:Expr}{ta tb:TE}{pos:Pos}
def PC(X:Cx)(op:CmpOp)(a b:Expr)(t:TE):Prop :=
 ∀(pins:List (Addr×Obj)) (s:Shared) (σ:St) (H:Hp) (Q:VK),Inv X pins σ H s->t σ H Q ->
  wpAny (model X.prog X.w) X.A (eval a X.env) (λv s₁=>wpAny (model X.prog X.w) X.A (eval b X.env) (λu s₂=>wpAny (model X.prog X.w) X.A (compareOp op v u) (EP X pins σ Q) X.xe s₂) X.xe s₁) X.xe s
def tB(t:TE):TT:=fun σ H Q=>t σ H λx H1=>∃c,x=.bl c/\Q c H1
theorem xC{op:CmpOp}{t:TE}(h:PC X op a b t)(h1:behindInMarks op b=false:=by first | exact nobehind _ (by decide) (by decide) | rfl):PT X (.Compare a [op] [b] pos) (tB t):=by
 intro pins s σ H Q I hw
 refine wpAny_isTrue_Compare1 (thn (h pins s σ H _ I hw) λv s1 h1=>thn h1 λu s2 h2=>thn h2 λc s3 ⟨x,H1,I1,r1,q1⟩=>?_) h1
 obtain ⟨d,rfl,q⟩:=q1
 cases r1
 exact wpAny_truthy_bool ⟨H1,I1,q⟩
theorem bq{e:Expr}{t:TE}(h:PE X e t)(he:∀whole,isTrue e X.env whole=(do let v ← whole;standAt e.pos;holding [v] (truthy v)):=by intro _;rfl):PT X e (tB t):=by
 intro pins s σ H Q I hw
 refine isTrue_plain (thn (h pins s σ H _ I hw) λv s1 ⟨x,H1,I1,r1,q1⟩=>?_) (he _)
 obtain ⟨d,rfl,q⟩:=q1
 cases r1
 exact wpAny_truthy_bool ⟨H1,I1,q⟩
variable {tA tB':TT}{rest:List Expr}
def yZ(t u:TT):TT:=fun σ H Q=>t σ H λc H1=>if c=true then u σ H1 Q else Q false H1
def tOr(t u:TT):TT:=fun σ H Q=>t σ H λc H1=>if c=true then Q true H1 else u σ H1 Q
def zQ(t:TT):TT:=fun σ H Q=>t σ H λc H1=>Q (!c) H1
theorem da(ha:PT X a tA):PW X (.BoolOp .And [a] pos) tA:=by
 intro wh pins s σ H Q I h
 refine isTrue_and (thn (ha pins s σ H Q I h) λc s1 e=>?_)
 cases c with
 | true=>exact isTrue_and_nil e
 | false=>exact e
theorem gz(ha:PT X a tA):PW X (.BoolOp .Or [a] pos) tA:=by
 intro wh pins s σ H Q I h
 refine isTrue_or (thn (ha pins s σ H Q I h) λc s1 e=>?_)
 cases c with
 | false=>exact isTrue_or_nil e
 | true=>exact e
theorem dO(ha:PT X a tA)(hb:PW X (.BoolOp .And (b::rest) pos) tB'):PW X (.BoolOp .And (a::b::rest) pos) (yZ tA tB'):=by
 intro wh pins s σ H Q I h
 refine isTrue_and (thn (ha pins s σ H _ I h) λc s1 ⟨H1,I1,q1⟩=>?_)
 cases c with
 | true=>exact hb wh pins s1 σ H1 Q I1 q1
 | false=>exact ⟨H1,I1,q1⟩
theorem gK(ha:PT X a tA)(hb:PW X (.BoolOp .Or (b::rest) pos) tB'):PW X (.BoolOp .Or (a::b::rest) pos) (tOr tA tB'):=by
 intro wh pins s σ H Q I h
 refine isTrue_or (thn (ha pins s σ H _ I h) λc s1 ⟨H1,I1,q1⟩=>?_)
 cases c with
 | true=>exact ⟨H1,I1,q1⟩
 | false=>exact hb wh pins s1 σ H1 Q I1 q1
theorem dQ(ha:PT X a tA):PT X (.UnaryOp .Not a pos) (zQ tA):=by
 intro pins s σ H Q I h
 exact isTrue_not (ha pins s σ H (λc H1=>Q (!c) H1) I h)
def yY(ta tb:TE):TE:=fun σ H Q=>ta σ H λx H1=>∃c,x=.bl c/\if c=true then tb σ H1 Q else Q (.bl false) H1
def zP(ta tb:TE):TE:=fun σ H Q=>ta σ H λx H1=>∃c,x=.bl c/\if c=true then Q (.bl true) H1 else tb σ H1 Q
def yS(ta:TE):TE:=fun σ H Q=>ta σ H λx H1=>∃c,x=.bl c/\Q (.bl (!c)) H1
theorem jj{op}{t:TE}(h:PE X a t):PE X (.BoolOp op [a] pos) t:=λpins s σ H Q I hw=>BoolOp_one (h pins s σ H Q I hw)
theorem jm(ha:PE X a ta)(hb:PE X (.BoolOp .And (b::rest) pos) tb):PE X (.BoolOp .And (a::b::rest) pos) (yY ta tb):=by
 intro pins s σ H Q I h
 refine BoolOp_and (thn (ha pins s σ H _ I h) λv s1 ⟨x,H1,I1,r1,q1⟩=>?_)
 obtain ⟨c,rfl,q1⟩:=q1
 cases r1
 refine wpAny_truthy_bool ?_
 cases c with
 | true=>exact hb pins s1 σ H1 Q I1 q1
 | false=>exact ⟨.bl false,H1,I1,rfl,q1⟩
theorem zp(ha:PE X a ta)(hb:PE X (.BoolOp .Or (b::rest) pos) tb):PE X (.BoolOp .Or (a::b::rest) pos) (zP ta tb):=by
 intro pins s σ H Q I h
 refine BoolOp_or (thn (ha pins s σ H _ I h) λv s1 ⟨x,H1,I1,r1,q1⟩=>?_)
 obtain ⟨c,rfl,q1⟩:=q1
 cases r1
 refine wpAny_truthy_bool ?_
 cases c with
 | false=>exact hb pins s1 σ H1 Q I1 q1
 | true=>exact ⟨.bl true,H1,I1,rfl,q1⟩
theorem xJ(ha:PE X a ta):PE X (.UnaryOp .Not a pos) (yS ta):=by
 intro pins s σ H Q I h
 refine UnaryOp_ (thn (ha pins s σ H _ I h) λv s1 ⟨x,H1,I1,r1,q1⟩=>?_)
 obtain ⟨c,rfl,q1⟩:=q1
 cases r1
 exact not_of (wpAny_truthy_bool ⟨.bl (!c),H1,I1,rfl,q1⟩)
def tIf(t:TT)(ta tb:TE):TE:=fun σ H Q=>t σ H λc H1=>if c=true then ta σ H1 Q else tb σ H1 Q
theorem jk{c:Expr}(hc:PT X c tA)(ha:PE X a ta)(hb:PE X b tb):PE X (.IfExp c a b pos) (tIf tA ta tb):=by
 intro pins s σ H Q I h
 refine wpAny_IfExp (thn (hc pins s σ H _ I h) λd s1 ⟨H1,I1,q1⟩=>?_)
 cases d with
 | true=>exact ha pins s1 σ H1 Q I1 q1
 | false=>exact hb pins s1 σ H1 Q I1 q1
end
end L2
namespace L2
open PySem PySem.Spec PyProof.Rows
def SqL(K:PySem.W.Frag)(H:Hp)(a:Addr)(xs:List V):Prop :=
 Rd H a (.lst xs) \/
  ∃(o:Obj) (its:Array Value) (n:Nat),K.lookup a=some o/\o.cls=.type "list"/\o.dict=none/\o.data=.seq its n/\its.size<=sizeLine/\Vals xs its.toList
def SqT(K:PySem.W.Frag)(H:Hp)(a:Addr)(xs:List V):Prop :=
 Rd H a (.tup xs) \/
  ∃(o:Obj) (its:Array Value) (n:Nat),K.lookup a=some o/\o.cls=.type "tuple"/\o.data=.seq its n/\its.size<=sizeLine/\Vals xs its.toList
def Ag:Value->Option V
 | .none=>some .non
 | .bool b=>some (.bl b)
 | .int i _=>some (.int i)
 | .str x _=>some (.str x)
 | .bytes b _=>some (.byt b)
 | .float b _=>some (.flt b)
 | .ref a=>some (.ref a)
 | .type n=>some (.ty n)
 | _=>none
theorem RelV.abs{x:V}{u:Value}(r:RelV x u):Ag u=some x:=by
 cases x with
 | non=>cases r;rfl
 | bl _=>cases r;rfl
 | int _=>obtain ⟨t,rfl⟩:=r;rfl
 | str _=>obtain ⟨t,rfl⟩:=r;rfl
 | byt _=>obtain ⟨t,rfl⟩:=r;rfl
 | flt _=>obtain ⟨t,rfl⟩:=r;rfl
 | ref _=>cases r;rfl
 | ty _=>cases r;rfl
theorem RelV.inj{x y:V}{u:Value}(r:RelV x u)(q:RelV y u):x=y:=Option.some.inj (r.abs.symm.trans q.abs)
theorem Vals.inj:∀{xs ys:List V} {us:List Value},Vals xs us->Vals ys us->xs=ys
 | _,_,_,.nil,.nil=>rfl
 | _,_,_,.cons r t,.cons r' t'=>by rw [r.inj r',Vals.inj t t']
section
variable {X:Cx}{pins:List (Addr×Obj)}{σ:St}{H:Hp}{s:Shared}{a:Addr}{xs ys:List V}
theorem SqL.of{K:PySem.W.Frag}(h:H a=some (.lst xs)):SqL K H a xs:=.inl (.inl h)
theorem SqT.of{K:PySem.W.Frag}(h:H a=some (.tup xs)):SqT K H a xs:=.inl (.inl h)
theorem Inv.list(I:Inv X pins σ H s)(h:SqL X.K H a xs):∃its:List Value,Vals xs its/\PlainL s.heap a its.toArray/\xs.length<=sizeLine:=by
 rcases h with h | ⟨o,its,n,hk,hc,hd,hs,hz,r⟩
 ·obtain ⟨z,its,n,r,e⟩:=h.ok I.hok
  exact ⟨its,r,⟨_,n,e,rfl,rfl,rfl⟩,z⟩
 ·refine ⟨its.toList,r,⟨o,n,I.kIn a o hk,hc,hd,by simpa using hs⟩,?_⟩
  have e:=r.length
  simp only [Array.length_toList] at e
  omega
theorem Inv.tuple(I:Inv X pins σ H s)(h:SqT X.K H a xs):∃its:List Value,Vals xs its/\IsTup s.heap a its.toArray/\xs.length<=sizeLine:=by
 rcases h with h | ⟨o,its,n,hk,hc,hs,hz,r⟩
 ·obtain ⟨z,its,r,p⟩:=h.ok I.hok
  exact ⟨its,r,p,z⟩
 ·refine ⟨its.toList,r,⟨o,I.kIn a o hk,hc,n,by simpa using hs⟩,?_⟩
  have e:=r.length
  simp only [Array.length_toList] at e
  omega
theorem Inv.list_inj(I:Inv X pins σ H s)(h:SqL X.K H a xs)(h':SqL X.K H a ys):xs=ys:=by
 obtain ⟨its,r,⟨o,n,e,_,_,d⟩,_⟩:=I.list h
 obtain ⟨its',r',⟨o',n',e',_,_,d'⟩,_⟩:=I.list h'
 rw [e] at e';cases e'
 rw [d] at d'
 injection d' with d1 _
 have:its=its':=by simpa using congrArg Array.toList d1
 subst this
 exact r.inj r'
theorem Inv.tuple_inj(I:Inv X pins σ H s)(h:SqT X.K H a xs)(h':SqT X.K H a ys):xs=ys:=by
 obtain ⟨its,r,⟨o,e,_,n,d⟩,_⟩:=I.tuple h
 obtain ⟨its',r',⟨o',e',_,n',d'⟩,_⟩:=I.tuple h'
 rw [e] at e';cases e'
 rw [d] at d'
 injection d' with d1 _
 have:its=its':=by simpa using congrArg Array.toList d1
 subst this
 exact r.inj r'
end
abbrev Cx.wish(X:Cx)(E:Value->Shared->Prop):Cx:={X with xe:=E}
abbrev Cx.nox(X:Cx):Cx:=X.wish λ_ _=>False
theorem Cx.Ok.wish{X:Cx}(ok:X.Ok)(E:Value->Shared->Prop):(X.wish E).Ok :=
 ⟨ok.mod,ok.kind,ok.glob,ok.blt,ok.above,ok.inj,ok.has,ok.cab,ok.hd,ok.frames,ok.stk,ok.exf,ok.bs,ok.bsz,ok.noex,ok.exfs,ok.funs,ok.frf⟩
theorem Cx.Ok.unwish{X:Cx}{E:Value->Shared->Prop}(ok:(X.wish E).Ok):X.Ok :=
 ⟨ok.mod,ok.kind,ok.glob,ok.blt,ok.above,ok.inj,ok.has,ok.cab,ok.hd,ok.frames,ok.stk,ok.exf,ok.bs,ok.bsz,ok.noex,ok.exfs,ok.funs,ok.frf⟩
section
variable {X:Cx}{pins:List (Addr×Obj)}{σ:St}{H:Hp}{s:Shared}{E:Value->Shared->Prop}
theorem Inv.wish(I:Inv X pins σ H s)(E:Value->Shared->Prop):Inv (X.wish E) pins σ H s:=⟨I.ok.wish E,I.os,I.bare,I.base,I.loc,I.cell,I.free,I.freeC,I.pin,I.hok,I.len⟩
theorem Inv.unwish(I:Inv (X.wish E) pins σ H s):Inv X pins σ H s:=⟨I.ok.unwish,I.os,I.bare,I.base,I.loc,I.cell,I.free,I.freeC,I.pin,I.hok,I.len⟩
theorem SP.unwish{D:Ends}{f:Flow}{s':Shared}(h:SP (X.wish E) pins D f s'):SP X pins D f s':=by
 cases f with
 | next=>obtain ⟨σ',H',I,q⟩:=h;exact ⟨σ',H',I.unwish,q⟩
 | brk=>obtain ⟨σ',H',I,q⟩:=h;exact ⟨σ',H',I.unwish,q⟩
 | cont=>obtain ⟨σ',H',I,q⟩:=h;exact ⟨σ',H',I.unwish,q⟩
 | ret u=>obtain ⟨v,σ',H',I,r,q⟩:=h;exact ⟨v,σ',H',I.unwish,r,q⟩
theorem PSs.nox{st:List Stmt}{t:TS}(h:PSs X.nox st t):PSs X st t:=λpins s σ H D I hw =>
 wpAny_mono (h pins s σ H D (I.wish _) hw) (λ_ _ q=>q.unwish) λ_ _ z=>False.elim z
end
section
variable {X:Cx}{st:Stmt}{rest:List Stmt}{t u:TS}{e:Expr}{te:TE}{pos:Pos}
def yT:TS:=λD σ H=>D.nx σ H
def zN(t u:TS):TS:=λD σ H=>t {D with nx:=u D} σ H
theorem az:PSs X [] yT:=λ_ _ σ H _ I h=>wpAny_execs_nil ⟨σ,H,I,h⟩
theorem ad(h1:PS X st t)(h2:PSs X rest u):PSs X (st::rest) (zN t u):=by
 intro pins s σ H D I h
 refine wpAny_execs_cons (thn (h1 pins s σ H {D with nx:=u D} I h) λf s1 q=>?_)
 cases f with
 | next =>
  obtain ⟨σ',H',I',q⟩:=q
  exact h2 pins s1 σ' H' D I' q
 | ret v=>exact q
 | brk=>exact q
 | cont=>exact q
theorem af(h1:PS X st t):PSs X [st] t:=by
 intro pins s σ H D I h
 refine wpAny_execs_cons (thn (h1 pins s σ H D I h) λf s1 q=>?_)
 cases f with
 | next=>exact wpAny_execs_nil q
 | ret v=>exact q
 | brk=>exact q
 | cont=>exact q
theorem Inv.quiet{pins:List (Addr×Obj)}{σ:St}{H:Hp}{s:Shared}(I:Inv X pins σ H s):interactive X.env=false:=by simp [interactive,I.ok.kind]
def yV(te:TE):TS:=λD σ H=>te σ H λ_ H1=>D.nx σ H1
theorem cH(he:PE X e te)(hs:swapsWith e none pos.line X.env=pure false:=by rfl):PS X (.Expr e pos) (yV te):=by
 intro pins s σ H D I h
 exact wpAny_Expr_any (thn (he pins s σ H _ I h) λv s1 ⟨x,H1,I1,r1,q1⟩=>⟨σ,H1,I1,q1⟩) I.quiet hs
def zO(te:TE):TS:=λD σ H=>te σ H D.rt
theorem ao(he:PE X e te):PS X (.Return (some e) pos) (zO te):=by
 intro pins s σ H D I h
 exact wpAny_Return_some (thn (he pins s σ H _ I h) λv s1 ⟨x,H1,I1,r1,q1⟩=>⟨x,σ,H1,I1,r1,q1⟩)
def zS(c:TT)(t u:TS):TS:=λD σ H=>c σ H λb H1=>if b=true then t D σ H1 else u D σ H1
theorem aF{c:Expr}{a b:List Stmt}{tc:TT}(hc:PT X c tc)(ha:PSs X a t)(hb:PSs X b u):PS X (.If c a b pos) (zS tc t u):=by
 intro pins s σ H D I h
 refine wpAny_If (thn (hc pins s σ H _ I h) λd s1 ⟨H1,I1,q1⟩=>?_)
 cases d with
 | true=>exact ha pins s1 σ H1 D I1 q1
 | false=>exact hb pins s1 σ H1 D I1 q1
def xm:TS:=λ_ _ _=>False
theorem aE{sts:List Stmt}:PSs X sts xm:=λ_ _ _ _ _ _ h=>h.elim
end
abbrev TG:=V->St->Hp->(St->Hp->Prop)->Prop
abbrev TGs:=List V->St->Hp->(St->Hp->Prop)->Prop
def PG(X:Cx)(target:Expr)(t:TG):Prop :=
 ∀(pins:List (Addr×Obj)) (s:Shared) (σ:St) (H:Hp) (v:V) (u:Value) (Q:St->Hp->Prop),Inv X pins σ H s->RelV v u->t v σ H Q ->
  wpAny (model X.prog X.w) X.A (assign target X.env u) (λ_ s'=>∃σ' H',Inv X pins σ' H' s'/\Q σ' H') X.xe s
def PGs(X:Cx)(ts:List Expr)(t:TGs):Prop :=
 ∀(pins:List (Addr×Obj)) (s:Shared) (σ:St) (H:Hp) (vs:List V) (us:List Value) (Q:St->Hp->Prop),Inv X pins σ H s->Vals vs us->t vs σ H Q ->
  wpAny (model X.prog X.w) X.A (assignInOrder ((assignEach ts X.env).map (·.2)) us) (λ_ s'=>∃σ' H',Inv X pins σ' H' s'/\Q σ' H') X.xe s
section
variable {X:Cx}{pos:Pos}
def pX(i:Nat):TG:=λv σ H Q=>Q (σ.set i (some v)) H
theorem bc{i:Nat}{x:Str}(hN:X.N.Nodup)(hi:X.N[i]?=some x)(hx:Loc X.env.scope x)(hf:X.fn x=true\/X.env.scope.names.lookup x=some .local:=by first | exact .inl rfl | exact .inr rfl | assumption):PG X (.Name x pos) (pX i):=by
 intro pins s σ H v u Q I r h
 exact wpAny_assign_Name (i0 I hN hi hx r (λs' I'=>⟨_,H,I',h⟩) hf)
def Af:TGs:=λvs σ H Q=>vs=[]/\Q σ H
def zD(t:TG)(u:TGs):TGs:=λvs σ H Q=>∃v r,vs=v::r/\t v σ H fun σ' H'=>u r σ' H' Q
theorem gL:PGs X [] Af:=by
 intro pins s σ H vs us Q I r h
 obtain ⟨e,h⟩:=h
 subst e
 cases r
 exact assignInOrder_nil ⟨σ,H,I,h⟩
theorem be{e:Expr}{es:List Expr}{t:TG}{u:TGs}(h1:PG X e t)(h2:PGs X es u)
  (hs:(assignEach (e::es) X.env).map (·.2)=assign e X.env::(assignEach es X.env).map (·.2):=by rfl):PGs X (e::es) (zD t u):=by
 intro pins s σ H vs us Q I r h
 obtain ⟨v,vr,e1,h⟩:=h
 subst e1
 cases r with
 | cons r rr =>
  rw [hs]
  refine assignInOrder_cons (thn (h1 pins s σ H _ _ _ I r h) λ_ s1 ⟨σ1,H1,I1,q1⟩=>?_)
  exact h2 pins s1 σ1 H1 _ _ Q I1 rr q1
def Ae(K:PySem.W.Frag)(n:Nat)(t:TGs):TG:=λv σ H Q=>∃a xs,v=.ref a/\SqT K H a xs/\xs.length=n/\t xs σ H Q
theorem ji{es:List Expr}{k:Nat}{t:TGs}{n:Nat}(hc:X.calm=true)(h:PGs X es t)
  (hn:(assignEach es X.env).length=n:=by rfl)(hst:(assignEach es X.env).findIdx? (·.1)=none:=by rfl):PG X (.Tuple es k pos) (Ae X.K n t):=by
 intro pins s σ H v u Q I r hw
 obtain ⟨a,xs,e1,hq,hl,hw⟩:=hw
 subst e1
 cases r
 obtain ⟨its,rv,ht,hz⟩:=I.tuple hq
 refine assign_Tuple_tuple (I.ok.hd hc) ht (by simp [hn,← hl,rv.length]) hst λh' hx=>?_
 have I1:Inv X pins σ H {s with heap:=h'}:=I.kept (t':=s.toks) λb o e=>hx b o (Nat.ne_of_lt (Heap.lt_size e)) e
 exact h pins _ σ H xs _ Q I1 (by simpa using rv) hw
def yX(te:TE)(g:TG):TS:=λD σ H=>te σ H λx H1=>g x σ H1 D.nx
theorem lF{tg e:Expr}{te:TE}{g:TG}(he:PE X e te)(hg:PG X tg g)(hs:swapsWithSole [tg] e pos.line X.env=pure false:=by rfl)(hw:swappedStores [tg] e X.env=pure none:=by rfl)
  (h1:(assignEach [tg] X.env).map (·.2)=[assign tg X.env]:=by rfl):PS X (.Assign [tg] e pos) (yX te g):=by
 intro pins s σ H D I h
 refine wpAny_Assign_stores (thn (he pins s σ H _ I h) λv s1 ⟨x,H1,I1,r1,q1⟩=>?_) hs hw
 rw [h1]
 exact thn (hg pins s1 σ H1 x v _ I1 r1 q1) λ_ s2 q=>q
theorem aC{i:Nat}{x:Str}{e:Expr}{te:TE}{pos':Pos}(hN:X.N.Nodup)(hi:X.N[i]?=some x)(hx:Loc X.env.scope x)(he:PE X e te)(hs:swapsWith e (some (.Name x pos')) pos.line X.env=pure false:=by rfl)(hf:X.fn x=true\/X.env.scope.names.lookup x=some .local:=by first | exact .inl rfl | exact .inr rfl | assumption) :
  PS X (.Assign [.Name x pos'] e pos) (yX te (pX i)):=by
 intro pins s σ H D I h
 refine wpAny_Assign_Name (thn (he pins s σ H _ I h) λv s1 ⟨y,H1,I1,r1,q1⟩=>?_) hs
 exact i0 I1 hN hi hx r1 (λs2 I2=>⟨_,H1,I2,q1⟩) hf
end
section
variable {X:Cx}{pos:Pos}
def xk(c:TT)(tb:TS):TS:=λD σ H=>∃W:Nat->St->Hp->Prop,(∃m,W m σ H)/\∀m σ H,W m σ H ->
 c σ H λb H1=>if b=true then ∃N:St->Hp->Prop,(∀σ' H',N σ' H'->∃m',m'<m/\W m' σ' H')/\tb {D with nx:=N,ct:=N,bk:=D.nx} σ H1 else D.nx σ H1
theorem jg{c:Expr}{body:List Stmt}{tc:TT}{tb:TS}(hp:PassesOwn (model X.prog X.w) X.A X.env X.xe)(hc:PT X c tc)(hb:PSs X body tb):PS X (.While c body [] pos) (xk tc tb):=by
 intro pins s σ H D I h
 obtain ⟨W,⟨m0,w0⟩,turn⟩:=h
 refine wpAny_While (codeAny_whileLoop (λn s'=>∃σ' H',Inv X pins σ' H' s'/\W n σ' H') ?_ m0 ⟨σ,H,I,w0⟩)
 rintro n s1 ⟨σ1,H1,I1,w1⟩
 refine wpAny_passesOwn hp (thn (hc pins s1 σ1 H1 _ I1 (turn n σ1 H1 w1)) λb s2 ⟨H2,I2,q2⟩=>?_)
 cases b with
 | true =>
  obtain ⟨N,hN,q2⟩:=q2
  rw [if_pos rfl]
  refine wpAny_passesOwn hp (thn (hb pins s2 σ1 H2 _ I2 q2) λf s3 q3=>?_)
  cases f with
  | next =>
   obtain ⟨σ3,H3,I3,n3⟩:=q3
   obtain ⟨m',hm,w3⟩:=hN σ3 H3 n3
   exact ⟨m',hm,σ3,H3,I3,w3⟩
  | cont =>
   obtain ⟨σ3,H3,I3,n3⟩:=q3
   obtain ⟨m',hm,w3⟩:=hN σ3 H3 n3
   exact ⟨m',hm,σ3,H3,I3,w3⟩
  | brk=>exact q3
  | ret v=>exact q3
 | false =>
  rw [if_neg Bool.false_ne_true]
  exact wpAny_execs_nil ⟨σ1,H2,I2,q2⟩
end
structure It where
 go:Nat->Hp->Prop
 yld:Nat->Hp->V->Hp->Prop
 stop:Nat->Hp->Prop
def nU(X:Cx)(pins:List (Addr×Obj))(H:Hp)(b:Addr):Prop :=
 H b=none/\b≠X.env.locals/\b∉X.fs/\(b∈X.ex\/X.s₀.heap.objs.size<=b)/\(∀x c,X.env.cells.lookup x=some c->c≠b)/\∀p∈X.pn++pins,p.1≠b
theorem Inv.fpOk{X:Cx}{pins:List (Addr×Obj)}{σ:St}{H H':Hp}{s:Shared}{b:Addr}(I:Inv X pins σ H s)(hb:s.heap.objs.size<=b)(hn:H' b=none):nU X pins H' b:=by
 refine ⟨hn,Nat.ne_of_gt (Nat.lt_of_lt_of_le I.lt hb),I.nofs hb,.inr (Nat.le_trans I.sz hb),λx c e z=>?_,λp hp z=>?_⟩
 ·obtain ⟨v,q⟩:=I.cell x c e
  exact absurd (Nat.lt_of_lt_of_le q.lt (by rw [z];exact hb)) (Nat.lt_irrefl _)
 ·exact absurd (Nat.lt_of_lt_of_le (Heap.lt_size (I.pin p hp).1) (by rw [z];exact hb)) (Nat.lt_irrefl _)
structure rm(P:Program)(w:World)(K:PySem.W.Frag)(tg:Expr)(J:It)(fp:List Addr)(it:Addr)(tn:Nat->Heap->Prop):Prop where
 mem:it∈fp
 obj:∀i h,tn i h->∀b∈fp,∃o,h.get? b=some o/\∀v,o.data≠.cell v
 keep:∀i h h',tn i h->(∀b∈fp,∀o,h.get? b=some o->h'.get? b=some o)->tn i h'
 item:∀(X:Cx),X.prog=P->X.w=w->X.K=K->X.calm=true->∀(i:Nat) (pins:List (Addr×Obj)) (s:Shared) (σ:St) (H:Hp) (E:Value->Shared->Prop),Inv X pins σ H s->(∀b∈fp,nU X pins H b)->tn i s.heap->J.go i H ->
  wpAny (model P w) X.A (pyNext (.ref it)) (λr s1=>∃u,r=some u /\
   wpAny (model P w) X.A (letOwnedTupleGo tg (.ref it) u) (λ_ s2=>∃x H',Inv X pins σ H' s2/\RelV x u/\J.yld i H x H'/\tn (i+1) s2.heap/\∀b∈fp,H' b=none) E s1) E s
 done:∀(X:Cx),X.prog=P->X.w=w->X.K=K->X.calm=true->∀(i:Nat) (pins:List (Addr×Obj)) (s:Shared) (σ:St) (H:Hp) (E:Value->Shared->Prop),Inv X pins σ H s->(∀b∈fp,nU X pins H b)->tn i s.heap->J.stop i H ->
  wpAny (model P w) X.A (pyNext (.ref it)) (λr s1=>r=none/\Inv X pins σ H s1) E s
 self:∀(A:Around) (i:Nat) (s:Shared) (Q:Value->Shared->Prop) (E:Value->Shared->Prop),tn i s.heap->Q (.ref it) s->wpAny (model P w) A (pyIter (.ref it)) Q E s
abbrev TI:=St->Hp->(It->Hp->Prop)->Prop
def PIE(X:Cx)(pins:List (Addr×Obj))(σ:St)(tg:Expr)(R:It->Hp->Prop)(itv:Value)(s2:Shared):Prop :=
 ∃(it:Addr) (fp:List Addr) (tn:Nat->Heap->Prop) (J:It) (H':Hp),itv=.ref it/\Inv X pins σ H' s2/\rm X.prog X.w X.K tg J fp it tn/\tn 0 s2.heap/\(∀b∈fp,nU X pins H' b)/\R J H'
def PI(X:Cx)(tg iter:Expr)(wi:TI):Prop :=
 ∀(pins:List (Addr×Obj)) (s:Shared) (σ:St) (H:Hp) (R:It->Hp->Prop),Inv X pins σ H s->wi σ H R ->
  wpAny (model X.prog X.w) X.A (eval iter X.env) (λv s1=>wpAny (model X.prog X.w) X.A (pyIter v) (PIE X pins σ tg R) X.xe s1) X.xe s
theorem pW{M:Model}{A:Around}{E:Value->Shared->Prop}{s:Shared}{tg:Expr}{it:Addr}{u:Value}{o:Obj}{n:String}{vs:Array Value}{Q:Unit->Shared->Prop}(ho:s.heap.get? it=some o)(hc:o.cls=.type n)(hd:o.data=.fields vs)
  (hn:["enumerate","zip","dict_itemiterator","dict_reverseitemiterator","odict_iterator","itertools.zip_longest","itertools.pairwise"].contains n=false)(hQ:Q () s):wpAny M A (letOwnedTupleGo tg (.ref it) u) Q E s:=by
 unfold letOwnedTupleGo
 cases tg<;>first
  | exact wpAny_pure hQ
  | (cases u<;>first
    | exact wpAny_pure hQ
    | (refine wpAny_bind (wpAny_load ho ?_)
       rw [hc,hd]
       show wpAny M A (if (["enumerate","zip","dict_itemiterator","dict_reverseitemiterator","odict_iterator","itertools.zip_longest","itertools.pairwise"].contains n&&vs[0]?==some (rawInt _))=true then _ else _) Q E s
       rw [if_neg (by intro h;rw [hn,Bool.false_and] at h;cases h)]
       exact wpAny_pure hQ))
def Itl(K:PySem.W.Frag)(a:Addr):It :=
 ⟨λi H=>∃xs x,SqL K H a xs/\xs[i]?=some x,λi H x H'=>H'=H/\∀xs,SqL K H a xs->xs[i]?=some x,λi H=>∃xs,SqL K H a xs/\xs.length<=i⟩
def Itt(K:PySem.W.Frag)(a:Addr):It :=
 ⟨λi H=>∃xs x,SqT K H a xs/\xs[i]?=some x,λi H x H'=>H'=H/\∀xs,SqT K H a xs->xs[i]?=some x,λi H=>∃xs,SqT K H a xs/\xs.length<=i⟩
def Itr(lo:Int)(n:Nat):It:=⟨λi _=>i<n,λi H x H'=>H'=H/\x=.int (lo+i),λi _=>n<=i⟩
theorem qg{P:Program}{w:World}{K:PySem.W.Frag}{tg:Expr}(a it:Addr):rm P w K tg (Itl K a) [it] it (λi h=>h.IsListIter it a i) where
 mem:=by simp
 obj:=λi h st b hb=>by
  have e:b=it:=by simpa using hb
  subst e
  obtain ⟨o,e,c,d⟩:=st
  exact ⟨o,e,λv z=>by rw [d] at z;cases z⟩
 keep:=λi h h' st k=>st.at λo e=>k it (by simp) o e
 item:=by
  intro X hP hw hK hc i pins s σ H E I hf st hg
  subst hP hw hK
  obtain ⟨xs,x,hq,hx⟩:=hg
  obtain ⟨its,rv,p,hz⟩:=I.list hq
  obtain ⟨u,hu,ru⟩:=rv.get hx
  obtain ⟨f0,f1,f2,f3,f4,f5⟩:=hf it (by simp)
  refine wpAny_pyNext_list_item st p.isList (x:=u) (by simpa using hu) λh' st' sb=>?_
  have I1:Inv X pins σ H {s with heap:=h'}:=I.turned (t':=s.toks) (λb o hb e=>(sb.2 b hb).trans e) f0 f1 f3 f4 f5
  obtain ⟨o,e,c,d⟩:=id st'
  exact ⟨u,rfl,pW (s:={s with heap:=h'}) e c d (by decide) ⟨x,H,I1,ru,⟨rfl,λys hy=>by rw [I.list_inj hy hq];exact hx⟩,st',λb hb=>(hf b hb).1⟩⟩
 done:=by
  intro X hP hw hK hc i pins s σ H E I hf st hg
  subst hP hw hK
  obtain ⟨xs,hq,hx⟩:=hg
  obtain ⟨its,rv,p,hz⟩:=I.list hq
  obtain ⟨f0,f1,f2,f3,f4,f5⟩:=hf it (by simp)
  have hl:=rv.length
  exact wpAny_pyNext_list_end (I.ok.hd hc) st p.isList (by simp;omega) λh' eb=>⟨rfl,I.turned (t':=s.toks) (λb o hb e=>eb b o hb e) f0 f1 f3 f4 f5⟩
 self:=λ_ _ _ _ _ st h=>wpAny_pyIter_listiter st h
theorem nZ{P:Program}{w:World}{K:PySem.W.Frag}{tg:Expr}(a it:Addr):rm P w K tg (Itt K a) [it] it (λi h=>h.IsTupleIter it a i) where
 mem:=by simp
 obj:=λi h st b hb=>by
  have e:b=it:=by simpa using hb
  subst e
  obtain ⟨o,e,c,d⟩:=st
  exact ⟨o,e,λv z=>by rw [d] at z;cases z⟩
 keep:=λi h h' st k=>st.at λo e=>k it (by simp) o e
 item:=by
  intro X hP hw hK hc i pins s σ H E I hf st hg
  subst hP hw hK
  obtain ⟨xs,x,hq,hx⟩:=hg
  obtain ⟨its,rv,p,hz⟩:=I.tuple hq
  obtain ⟨u,hu,ru⟩:=rv.get hx
  obtain ⟨f0,f1,f2,f3,f4,f5⟩:=hf it (by simp)
  refine wpAny_pyNext_tuple_item st (show s.heap.IsTuple a its.toArray from p) (x:=u) (by simpa using hu) λh' st' sb=>?_
  have I1:Inv X pins σ H {s with heap:=h'}:=I.turned (t':=s.toks) (λb o hb e=>(sb.2 b hb).trans e) f0 f1 f3 f4 f5
  obtain ⟨o,e,c,d⟩:=id st'
  exact ⟨u,rfl,pW (s:={s with heap:=h'}) e c d (by decide) ⟨x,H,I1,ru,⟨rfl,λys hy=>by rw [I.tuple_inj hy hq];exact hx⟩,st',λb hb=>(hf b hb).1⟩⟩
 done:=by
  intro X hP hw hK hc i pins s σ H E I hf st hg
  subst hP hw hK
  obtain ⟨xs,hq,hx⟩:=hg
  obtain ⟨its,rv,p,hz⟩:=I.tuple hq
  obtain ⟨f0,f1,f2,f3,f4,f5⟩:=hf it (by simp)
  have hl:=rv.length
  exact wpAny_pyNext_tuple_end (I.ok.hd hc) st (show s.heap.IsTuple a its.toArray from p) (by simp;omega) λh' eb=>⟨rfl,I.turned (t':=s.toks) (λb o hb e=>eb b o hb e) f0 f1 f3 f4 f5⟩
 self:=λ_ _ _ _ _ st h=>wpAny_pyIter_tupleiter st h
theorem n8{P:Program}{w:World}{K:PySem.W.Frag}{tg:Expr}(it:Addr)(lo:Int)(n:Nat):rm P w K tg (Itr lo n) [it] it (λi h=>IsRangeIter h it (lo+(i:Nat)*1) ((n:Int)-(i:Nat)) 1) where
 mem:=by simp
 obj:=λi h st b hb=>by
  have e:b=it:=by simpa using hb
  subst e
  exact ⟨_,st,λv z=>by
   have z':Data.fields _=Data.cell v:=z
   cases z'⟩
 keep:=λi h h' st k=>k it (by simp) _ st
 item:=by
  intro X hP hw hK hc i pins s σ H E I hf st hg
  subst hP hw hK
  obtain ⟨f0,f1,f2,f3,f4,f5⟩:=hf it (by simp)
  have W:=Walks.range (prog:=X.prog) (w:=X.w) (I.ok.hd hc) it lo 1 n
  refine W.item i s _ _ hg st λv h' tk hv st' kk=>?_
  obtain ⟨t,rfl⟩:=hv
  have I1:Inv X pins σ H {s with heap:=h',toks:=tk}:=I.turned (λb o hb e=>kk b o (by simpa using hb) e) f0 f1 f3 f4 f5
  refine ⟨_,rfl,pW (s:={s with heap:=h',toks:=tk}) (n:="range_iterator") st' rfl rfl (by decide) ⟨.int (lo+i),H,I1,⟨t,?_⟩,⟨rfl,rfl⟩,st',λb hb=>(hf b hb).1⟩⟩
  rw [Int.mul_one]
 done:=by
  intro X hP hw hK hc i pins s σ H E I hf st hg
  subst hP hw hK
  obtain ⟨f0,f1,f2,f3,f4,f5⟩:=hf it (by simp)
  exact wpAny_pyNext_range_end (I.ok.hd hc) st (by have:n<=i:=hg;omega) λh' eb=>⟨rfl,I.turned (t':=s.toks) (λb o hb e=>eb b o hb e) f0 f1 f3 f4 f5⟩
 self:=λ_ _ _ _ _ st h=>wpAny_pyIter_rangeiter st h
end L2
namespace L2
open PySem PySem.Spec PyProof.Rows
section
variable {X:Cx}{tg:Expr}
def zy(K:PySem.W.Frag)(tl:TE):TI:=fun σ H R=>tl σ H λx H1=>∃a,x=.ref a/\(∃xs,SqL K H1 a xs)/\R (Itl K a) H1
def Ab(K:PySem.W.Frag)(tl:TE):TI:=fun σ H R=>tl σ H λx H1=>∃a,x=.ref a/\(∃xs,SqT K H1 a xs)/\R (Itt K a) H1
theorem eH{l:Expr}{tl:TE}(hl:PE X l tl):PI X tg l (zy X.K tl):=by
 intro pins s σ H R I h
 refine thn (hl pins s σ H _ I h) λv s1 ⟨x,H1,I1,r1,q1⟩=>?_
 obtain ⟨a,e,⟨xs,hq⟩,q⟩:=q1
 subst e
 cases r1
 obtain ⟨its,rv,p,hz⟩:=I1.list hq
 refine wpAny_pyIter_list p.isList ?_
 refine ⟨s1.heap.objs.size,[s1.heap.objs.size],_,_,H1,rfl,I1.kept (t':=s1.toks) λb o e=>Heap.get?_push_of_some _ e,qg a _,⟨_,Heap.get?_push_size _ rfl,rfl,rfl⟩,λb hb=>?_,q⟩
 have e:b=s1.heap.objs.size:=by simpa using hb
 subst e
 exact I1.fpOk (Nat.le_refl _) (I1.hok.fresh (Nat.le_refl _))
theorem sT{l:Expr}{tl:TE}(hl:PE X l tl):PI X tg l (Ab X.K tl):=by
 intro pins s σ H R I h
 refine thn (hl pins s σ H _ I h) λv s1 ⟨x,H1,I1,r1,q1⟩=>?_
 obtain ⟨a,e,⟨xs,hq⟩,q⟩:=q1
 subst e
 cases r1
 obtain ⟨its,rv,p,hz⟩:=I1.tuple hq
 refine wpAny_pyIter_tuple (show s1.heap.IsTuple a its.toArray from p) ?_
 refine ⟨s1.heap.objs.size,[s1.heap.objs.size],_,_,H1,rfl,I1.kept (t':=s1.toks) λb o e=>Heap.get?_push_of_some _ e,nZ a _,⟨_,Heap.get?_push_size _ rfl,rfl,rfl⟩,λb hb=>?_,q⟩
 have e:b=s1.heap.objs.size:=by simpa using hb
 subst e
 exact I1.fpOk (Nat.le_refl _) (I1.hok.fresh (Nat.le_refl _))
theorem sP{pins:List (Addr×Obj)}{σ:St}{H:Hp}{s:Shared}{R:It->Hp->Prop}{E:Value->Shared->Prop}{lo hi:Int}{t u v:Tok}{tk:Nat}(I:Inv X pins σ H s)(h1:-(2 ^ 62)<=lo)(h2:lo<2 ^ 62)(h3:-(2 ^ 62)<=hi)(h4:hi<2 ^ 62)
  (q:R (Itr lo (hi-lo).toNat) H):wpAny (model X.prog X.w) X.A (pyIter (.ref s.heap.objs.size)) (PIE X pins σ tg R) E {s with heap:=s.heap.push {cls:=.type "range",data:=.fields #[.int lo t,.int hi u,.int 1 v]},toks:=tk}:=by
 refine wpAny_pyIter_range (IsRange.new ..) (small_one h1 h2 h3 h4) ?_
 have I1:Inv X pins σ H {s with heap:=s.heap.push {cls:=.type "range",data:=.fields #[.int lo t,.int hi u,.int 1 v]},toks:=tk}:=I.kept λb o e=>Heap.get?_push_of_some _ e
 refine ⟨(s.heap.push {cls:=.type "range",data:=.fields #[.int lo t,.int hi u,.int 1 v]}).objs.size,[(s.heap.push {cls:=.type "range",data:=.fields #[.int lo t,.int hi u,.int 1 v]}).objs.size],_,_,H,rfl,
  I1.kept (t':=tk) λb o e=>Heap.get?_push_of_some _ e,n8 _ lo (hi-lo).toNat,?_,λb hb=>?_,q⟩
 ·have e1:lo+((0:Nat):Int)*1=lo:=by simp
  have e2:(((hi-lo).toNat:Nat):Int)-((0:Nat):Int)=Builtin.Range.rangeSize lo hi 1:=by rw [rangeSize_one];split<;>omega
  show IsRangeIter _ _ (lo+((0:Nat):Int)*1) ((((hi-lo).toNat:Nat):Int)-((0:Nat):Int)) 1
  rw [e1,e2]
  exact Heap.get?_push_size _ rfl
 ·have e:b=(s.heap.push {cls:=.type "range",data:=.fields #[.int lo t,.int hi u,.int 1 v]}).objs.size:=by simpa using hb
  subst e
  exact I1.fpOk (Nat.le_refl _) (I1.hok.fresh (Nat.le_refl _))
def zx(ta:TA):TI:=fun σ H R=>ta σ H λvs H1=>∃j:Int,vs=[.int j]/\-(2 ^ 62)<=j/\j<2 ^ 62/\R (Itr 0 j.toNat) H1
theorem ie{a:Expr}{ta:TA}{p pos:Pos}(hg:Gl X "range")(hm:X.mg "range"=none)(ha:PA X [a] ta)(hs:starEach [a] X.env=[(false,eval a X.env)]:=by rfl):PI X tg (.Call (.Name "range" p) [a] [] pos) (zx ta):=by
 intro pins s σ H R I h
 refine Call_ (jv I hg hm boot_range (PyProof.Rows.callWith_type1 (thn (ha pos pins s σ H _ I h) λus s1 ⟨vs,H1,I1,r1,q1⟩=>?_) hs rfl))
 obtain ⟨j,e,q1,q2,q⟩:=q1
 subst e
 cases r1 with
 | cons r rr =>
  cases rr
  obtain ⟨t,rfl⟩:=r
  exact call_range_1 (sP I1 (by omega) (by omega) q1 q2 (by simpa using q))
def zT(wi:TI)(g:TG)(tb:TS):TS:=λD σ H=>wi σ H λJ H1=>∃W:Nat->Nat->St->Hp->Prop,(∃m,W 0 m σ H1)/\∀i m σ H,W i m σ H ->
 (J.stop i H/\D.nx σ H)\/(J.go i H/\∃N:St->Hp->Prop,(∀σ' H',N σ' H'->∃m',m'<m/\W (i+1) m' σ' H')/\∀x H',J.yld i H x H'->g x σ H' fun σ2 H2=>tb {D with nx:=N,ct:=N,bk:=D.nx} σ2 H2)
def jh(fp:List Addr)(h:Heap):List (Addr×Obj):=fp.filterMap λb=>(h.get? b).map λo=>(b,o)
theorem eL{fp:List Addr}{h:Heap}{b:Addr}{o:Obj}(hb:b∈fp)(e:h.get? b=some o):(b,o)∈jh fp h:=List.mem_filterMap.mpr ⟨b,hb,by rw [e];rfl⟩
theorem qL{fp:List Addr}{h:Heap}{p:Addr×Obj}(hp:p∈jh fp h):p.1∈fp/\h.get? p.1=some p.2:=by
 obtain ⟨b,hb,e⟩:=List.mem_filterMap.mp hp
 cases q:h.get? b with
 | none=>rw [q] at e;cases e
 | some o =>
  rw [q] at e
  have e':(b,o)=p:=Option.some.inj e
  subst e'
  exact ⟨hb,q⟩
theorem Inv.pinned{pins:List (Addr×Obj)}{σ:St}{H:Hp}{s:Shared}{fp:List Addr}(I:Inv X pins σ H s)(hf:∀b∈fp,nU X pins H b)(ho:∀b∈fp,∃o,s.heap.get? b=some o/\∀v,o.data≠.cell v):Inv X (pins++jh fp s.heap) σ H s :=
 I.pins_of λp hp=>(List.mem_append.mp hp).elim (λz=>I.pin p (List.mem_append_right _ z)) λz=>by
  obtain ⟨hb,e⟩:=qL z
  obtain ⟨f0,f1,f2,_⟩:=hf p.1 hb
  obtain ⟨o,e',d⟩:=ho p.1 hb
  rw [e] at e';cases e'
  exact ⟨e,f0,f1,f2,d⟩
theorem Inv.unpinned{pins pl:List (Addr×Obj)}{σ:St}{H:Hp}{s:Shared}(I:Inv X (pins++pl) σ H s):Inv X pins σ H s:=I.pins_of λp hp=>I.pin p (List.mem_append_right _ (List.mem_append_left _ hp))
theorem lE{iter:Expr}{body:List Stmt}{wi:TI}{g:TG}{tb:TS}{pos:Pos}(hp:PassesOwn (model X.prog X.w) X.A X.env X.xe)(hc:X.calm=true)(hi:PI X tg iter wi)(hg:PG X tg g)(hb:PSs X body tb)
  (hs:∀x,foldedSetIterable iter X.env x=pure x:=by intro _;rfl):PS X (.For tg iter body [] pos) (zT wi g tb):=by
 intro pins s σ H D I h
 refine wpAny_For (thn (hi pins s σ H _ I h) λv s1 h1=>thn h1 λitv s2 h2=>?_) hs
 obtain ⟨it,fp,tn,J,H2,e,I2,T,st2,f2,W,⟨m0,w0⟩,turn⟩:=h2
 subst e
 have stat:∀{H':Hp},(∀b∈fp,H' b=none)->∀b∈fp,nU X pins H' b:=λhn b hb=>⟨hn b hb,(f2 b hb).2⟩
 refine codeAny_forLoop_any (λn s'=>∃i σ' H',Inv X pins σ' H' s'/\tn i s'.heap/\(∀b∈fp,H' b=none)/\W i n σ' H') ?_ m0 ⟨0,σ,H2,I2,st2,λb hb=>(f2 b hb).1,w0⟩
 rintro n s3 ⟨i,σ3,H3,I3,st3,fr3,w3⟩
 rcases turn i n σ3 H3 w3 with ⟨stop,qn⟩ | ⟨go,N,hN,step⟩
 ·refine wpAny_passesOwn hp (thn (T.done X rfl rfl rfl hc i pins s3 σ3 H3 X.xe I3 (stat fr3) st3 stop) λr s4 ⟨hr,I4⟩=>?_)
  subst hr
  exact wpAny_execs_nil ⟨σ3,H3,I4,qn⟩
 ·refine wpAny_passesOwn hp (thn (T.item X rfl rfl rfl hc i pins s3 σ3 H3 X.xe I3 (stat fr3) st3 go) λr s4 ⟨u,hr,h4⟩=>?_)
  subst hr
  refine wpAny_passesOwn hp (thn h4 λ_ s5 ⟨x,H5,I5,r5,y5,st5,fr5⟩=>?_)
  have I5':=I5.pinned (stat fr5) (T.obj _ _ st5)
  refine wpAny_passesOwn hp (thn (hg _ s5 σ3 H5 x u _ I5' r5 (step x H5 y5)) λ_ s6 ⟨σ6,H6,I6,q6⟩=>?_)
  refine wpAny_passesOwn hp (thn (hb _ s6 σ6 H6 _ I6 q6) λf s7 q7=>?_)
  have again:∀{σ7:St} {H7:Hp},Inv X (pins++jh fp s5.heap) σ7 H7 s7->N σ7 H7->∃m,m<n/\∃i σ' H',Inv X pins σ' H' s7/\tn i s7.heap/\(∀b∈fp,H' b=none)/\W i m σ' H':=λ{σ7 H7} I7 n7=>by
   obtain ⟨m',hm,w7⟩:=hN σ7 H7 n7
   refine ⟨m',hm,i+1,σ7,H7,I7.unpinned,T.keep _ _ _ st5 λb hb o e=>(I7.pin (b,o) (List.mem_append_right _ (List.mem_append_right _ (eL hb e)))).1,λb hb=>?_,w7⟩
   obtain ⟨o,e,d⟩:=T.obj _ _ st5 b hb
   exact (I7.pin (b,o) (List.mem_append_right _ (List.mem_append_right _ (eL hb e)))).2.1
  cases f with
  | next=>obtain ⟨σ7,H7,I7,n7⟩:=q7;exact again I7 n7
  | cont=>obtain ⟨σ7,H7,I7,n7⟩:=q7;exact again I7 n7
  | brk=>obtain ⟨σ7,H7,I7,q7⟩:=q7;exact ⟨σ7,H7,I7.unpinned,q7⟩
  | ret v=>obtain ⟨x7,σ7,H7,I7,r7,q7⟩:=q7;exact ⟨x7,σ7,H7,I7.unpinned,r7,q7⟩
end
theorem jD{K:PySem.W.Frag}{a:Addr}{xs:List V}{g:TG}{tb:TS}{D:Ends}{σ:St}{H:Hp}(Pv:Nat->St->Hp->Prop)(h0:Pv 0 σ H)(hl:∀i σ H,i<=xs.length->Pv i σ H->SqL K H a xs)
  (hs:∀i x σ H,xs[i]?=some x->Pv i σ H->g x σ H fun σ2 H2=>tb {D with nx:=Pv (i+1),ct:=Pv (i+1),bk:=D.nx} σ2 H2)(hd:∀σ H,Pv xs.length σ H->D.nx σ H) :
  ∃W:Nat->Nat->St->Hp->Prop,(∃m,W 0 m σ H)/\∀i m σ H,W i m σ H ->
   ((Itl K a).stop i H/\D.nx σ H)\/((Itl K a).go i H/\∃N:St->Hp->Prop,(∀σ' H',N σ' H'->∃m',m'<m/\W (i+1) m' σ' H')/\∀x H',(Itl K a).yld i H x H'->g x σ H' fun σ2 H2=>tb {D with nx:=N,ct:=N,bk:=D.nx} σ2 H2):=by
 refine ⟨λi m σ H=>m=xs.length-i/\i<=xs.length/\Pv i σ H,⟨xs.length,by simp,Nat.zero_le _,h0⟩,?_⟩
 rintro i m σ H ⟨rfl,hi,p⟩
 have q:=hl i σ H hi p
 by_cases hlt:i<xs.length
 ·refine .inr ⟨⟨xs,xs[i],q,by simp [hlt]⟩,Pv (i+1),fun σ' H' p'=>⟨xs.length-(i+1),by omega,rfl,hlt,p'⟩,λx H' y=>?_⟩
  obtain ⟨e,y⟩:=y
  subst e
  exact hs i x σ _ (y xs q) p
 ·have e:i=xs.length:=by omega
  subst e
  exact .inl ⟨⟨xs,q,Nat.le_refl _⟩,hd σ H p⟩
end L2
namespace L2
open PySem PySem.Spec PyProof.Rows
abbrev R2:=V->V->Hp->VK->Prop
def OpR(X:Cx)(f:Value->Value->Sem Value)(r:R2):Prop :=
 ∀(pins:List (Addr×Obj)) (s:Shared) (σ:St) (H:Hp) (x y:V) (v u:Value) (Q:VK),Inv X pins σ H s->RelV x v->RelV y u->r x y H Q ->
  wpAny (model X.prog X.w) X.A (f v u) (EP X pins σ Q) X.xe s
def UnR(X:Cx)(f:Value->Sem Value)(r:V->Hp->VK->Prop):Prop :=
 ∀(pins:List (Addr×Obj)) (s:Shared) (σ:St) (H:Hp) (x:V) (v:Value) (Q:VK),Inv X pins σ H s->RelV x v->r x H Q ->
  wpAny (model X.prog X.w) X.A (f v) (EP X pins σ Q) X.xe s
def dD(X:Cx)(f:Value)(r:List V->Hp->VK->Prop):Prop :=
 ∀(pins:List (Addr×Obj)) (s:Shared) (σ:St) (H:Hp) (xs:List V) (us:List Value) (Q:VK),Inv X pins σ H s->Vals xs us->r xs H Q ->
  wpAny (model X.prog X.w) X.A (call f us) (EP X pins σ Q) X.xe s
def Ai(X:Cx)(r:V->Hp->(Bool->Hp->Prop)->Prop):Prop :=
 ∀(pins:List (Addr×Obj)) (s:Shared) (σ:St) (H:Hp) (x:V) (v:Value) (Q:Bool->Hp->Prop),Inv X pins σ H s->RelV x v->r x H Q ->
  wpAny (model X.prog X.w) X.A (truthy v) (TP X pins σ Q) X.xe s
def tOp(r:R2)(ta tb:TE):TE:=fun σ H Q=>ta σ H λx H1=>tb σ H1 λy H2=>r x y H2 Q
def tUn(r:V->Hp->VK->Prop)(ta:TE):TE:=fun σ H Q=>ta σ H λx H1=>r x H1 Q
def rI(C:Int->Int->Prop)(g:Int->Int->V):R2:=λx y H Q=>∃i j,x=.int i/\y=.int j/\C i j/\Q (g i j) H
def rI0(g:Int->Int->V):R2:=λx y H Q=>∃i j,x=.int i/\y=.int j/\Q (g i j) H
def rU(g:Int->V):V->Hp->VK->Prop:=λx H Q=>∃i,x=.int i/\Q (g i) H
section
variable {X:Cx}{a b c:Expr}{ta tb tc:TE}{pos:Pos}
theorem yH(ha:PE X a ta)(hb:PE X b tb){pins:List (Addr×Obj)}{s:Shared}{σ:St}{H:Hp}{R:V->V->Hp->Prop}(I:Inv X pins σ H s)
  (h:ta σ H λx H1=>tb σ H1 λy H2=>R x y H2){Q:Value->Shared->Prop}{f:Value->Value->Sem Value}
  (hf:∀v u s2 x y H2,Inv X pins σ H2 s2->RelV x v->RelV y u->R x y H2->wpAny (model X.prog X.w) X.A (f v u) Q X.xe s2) :
  wpAny (model X.prog X.w) X.A (eval a X.env) (λv s₁=>wpAny (model X.prog X.w) X.A (eval b X.env) (λu s₂=>wpAny (model X.prog X.w) X.A (f v u) Q X.xe s₂) X.xe s₁) X.xe s:=by
 refine thn (ha pins s σ H _ I h) λv s1 ⟨x,H1,I1,r1,q1⟩=>?_
 refine thn (hb pins s1 σ H1 _ I1 q1) λu s2 ⟨y,H2,I2,r2,q2⟩=>?_
 exact hf v u s2 x y H2 I2 r1 r2 q2
theorem aD{op:Operator}{r:R2}(ho:OpR X (binaryOp op) r)(ha:PE X a ta)(hb:PE X b tb):PE X (.BinOp a op b pos) (tOp r ta tb):=by
 intro pins s σ H Q I h
 exact wpAny_BinOp (yH ha hb I h λv u s2 x y H2 I2 rx ry q=>ho pins s2 σ H2 x y v u Q I2 rx ry q)
theorem pQ{op:UnaryOp}{r:V->Hp->VK->Prop}(ho:UnR X (unaryOp op) r)(ha:PE X a ta):PE X (.UnaryOp op a pos) (tUn r ta):=by
 intro pins s σ H Q I h
 exact UnaryOp_ (thn (ha pins s σ H _ I h) λv s1 ⟨x,H1,I1,r1,q1⟩=>ho pins s1 σ H1 x v Q I1 r1 q1)
theorem opI{f:Value->Value->Sem Value}{C:Int->Int->Prop}{g:Int->Int->Int}
  (rule:∀(i j:Int) (t u:Tok) (s:Shared) (Q:Value->Shared->Prop) (E:Value->Shared->Prop),C i j->Q (.int (g i j) s.toks) {s with toks:=s.toks+1}->wpAny (model X.prog X.w) X.A (f (.int i t) (.int j u)) Q E s) :
  OpR X f (rI C λi j=>.int (g i j)):=by
 intro pins s σ H x y v u Q I rx ry h
 obtain ⟨i,j,rfl,rfl,hc,q⟩:=h
 obtain ⟨t,rfl⟩:=rx
 obtain ⟨t',rfl⟩:=ry
 exact rule i j t t' s _ _ hc ⟨.int (g i j),H,I.tok _,⟨_,rfl⟩,q⟩
theorem zq{f:Value->Value->Sem Value}{g:Int->Int->Int}
  (rule:∀(i j:Int) (t u:Tok) (s:Shared) (Q:Value->Shared->Prop) (E:Value->Shared->Prop),Q (.int (g i j) s.toks) {s with toks:=s.toks+1}->wpAny (model X.prog X.w) X.A (f (.int i t) (.int j u)) Q E s) :
  OpR X f (rI0 λi j=>.int (g i j)):=by
 intro pins s σ H x y v u Q I rx ry h
 obtain ⟨i,j,rfl,rfl,q⟩:=h
 obtain ⟨t,rfl⟩:=rx
 obtain ⟨t',rfl⟩:=ry
 exact rule i j t t' s _ _ ⟨.int (g i j),H,I.tok _,⟨_,rfl⟩,q⟩
theorem xO{f:Value->Value->Sem Value}{g:Int->Int->Bool}
  (rule:∀(i j:Int) (t u:Tok) (s:Shared) (Q:Value->Shared->Prop) (E:Value->Shared->Prop),Q (.bool (g i j)) s->wpAny (model X.prog X.w) X.A (f (.int i t) (.int j u)) Q E s) :
  OpR X f (rI0 λi j=>.bl (g i j)):=by
 intro pins s σ H x y v u Q I rx ry h
 obtain ⟨i,j,rfl,rfl,q⟩:=h
 obtain ⟨t,rfl⟩:=rx
 obtain ⟨t',rfl⟩:=ry
 exact rule i j t t' s _ _ ⟨.bl (g i j),H,I,rfl,q⟩
def Ao(i j:Int):Prop:=0<j/\j<1073741824
def An(i j:Int):Prop:=0<=j/\j<=1000000/\i.natAbs<2 ^ 64
def CMul(i j:Int):Prop:=(-(2 ^ 64)<i/\i<2 ^ 64)\/(-(2 ^ 64)<j/\j<2 ^ 64)
theorem CMul.ok{i j:Int}(h:CMul i j):IntMulOk i j:=by
 rcases h with ⟨h1,h2⟩ | ⟨h1,h2⟩
 ·exact .of_left (intBits_le_64 h1 h2)
 ·exact .of_right (intBits_le_64 h1 h2)
theorem dk:OpR X (binaryOp .Add) (rI0 λi j=>.int (i+j)):=zq λ_ _ _ _ _ _ _ q=>add_int q
theorem ik:OpR X (binaryOp .Sub) (rI0 λi j=>.int (i-j)):=zq λ_ _ _ _ _ _ _ q=>sub_int q
theorem xM:OpR X (binaryOp .Mult) (rI CMul λi j=>.int (i*j)):=opI λ_ _ _ _ _ _ _ hc q=>mul_int q hc.ok
theorem cq:OpR X (binaryOp .FloorDiv) (rI Ao λi j=>.int (i/j)):=opI λi j _ _ _ _ _ hc q=>by
 have h1:(0:Int)<j:=hc.1
 have h2:j<1073741824:=hc.2
 exact floordiv_int (by omega) (by rw [Int.fdiv_eq_ediv_of_nonneg i (by omega)];exact q) (.inl (PyProof.noPylong_small (by omega)))
theorem ca:OpR X (binaryOp .Mod) (rI (λ_ j=>0<j) λi j=>.int (i%j)):=opI λi j _ _ _ _ _ hc q=>by
 have h1:(0:Int)<j:=hc
 exact mod_int' (by omega) (by rw [Int.fmod_eq_emod_of_nonneg i (by omega)];exact q)
theorem lN:OpR X (binaryOp .Pow) (rI An λi j=>.int (i ^ j.toNat)):=opI λ_ _ _ _ _ _ _ hc q=>pow_int_small hc.1 hc.2.1 hc.2.2 q
theorem unI{f:Value->Sem Value}{g:Int->Int}
  (rule:∀(i:Int) (t:Tok) (s:Shared) (Q:Value->Shared->Prop) (E:Value->Shared->Prop),Q (.int (g i) s.toks) {s with toks:=s.toks+1}->wpAny (model X.prog X.w) X.A (f (.int i t)) Q E s) :
  UnR X f (rU λi=>.int (g i)):=by
 intro pins s σ H x v Q I rx h
 obtain ⟨i,rfl,q⟩:=h
 obtain ⟨t,rfl⟩:=rx
 exact rule i t s _ _ ⟨.int (g i),H,I.tok _,⟨_,rfl⟩,q⟩
theorem kL:UnR X (unaryOp .USub) (rU λi=>.int (-i)):=unI λ_ _ _ _ _ q=>neg_int q
end
def zg:V->V->Bool
 | .non,.non=>true | .non,.int _=>true | .int _,.non=>true | .non,.bl _=>true | .bl _,.non=>true | .non,.str _=>true | .str _,.non=>true
 | .int _,.int _=>true | .bl _,.bl _=>true | .str _,.str _=>true | .byt _,.byt _=>true
 | .int _,.str _=>true | .str _,.int _=>true | .bl _,.str _=>true | .str _,.bl _=>true
 | _,_=>false
def rEq:R2:=λx y H Q=>zg x y=true/\Q (.bl (decide (x=y))) H
def rNe:R2:=λx y H Q=>zg x y=true/\Q (.bl (!decide (x=y))) H
theorem iW{i j:Int}:decide (V.int i=V.int j)=(i==j):=by
 rw [Bool.eq_iff_iff]
 simp
theorem uE{i j:Bool}:decide (V.bl i=V.bl j)=(i==j):=by
 rw [Bool.eq_iff_iff]
 simp
theorem p6{i j:Str}:decide (V.str i=V.str j)=(i==j):=by
 rw [Bool.eq_iff_iff]
 simp
theorem p7{i j:Array UInt8}:decide (V.byt i=V.byt j)=(i.toList==j.toList):=by
 rw [Bool.eq_iff_iff]
 cases i
 cases j
 simp
section
variable {X:Cx}{a b c:Expr}{ta tb tc:TE}{pos:Pos}
theorem aN{pins:List (Addr×Obj)}{σ:St}{H:Hp}{s:Shared}{Q:VK}{k k':Bool}(I:Inv X pins σ H s)(q:Q (.bl k) H)(e:k=k'):EP X pins σ Q (.bool k') s:=by
 subst e
 exact ⟨.bl k,H,I,rfl,q⟩
theorem bf:OpR X (compareOp .Eq) rEq:=by
 intro pins s σ H x y v u Q I rx ry h
 obtain ⟨hs,q⟩:=h
 cases x with
 | non =>
  cases rx
  cases y with
  | non=>cases ry;exact PySem.EqNone.eq_none_none (aN I q (by simp))
  | bl j=>cases ry;exact PySem.EqNone.eq_none_bool (aN I q (by simp))
  | int j=>obtain ⟨t',rfl⟩:=ry;exact PySem.EqNone.eq_none_int (aN I q (by simp))
  | str j=>obtain ⟨t',rfl⟩:=ry;exact PySem.EqNone.eq_none_str (aN I q (by simp))
  | _=>exact absurd (show false=true from hs) Bool.false_ne_true
 | bl i =>
  cases rx
  cases y with
  | non=>cases ry;exact PySem.EqNone.eq_bool_none (aN I q (by simp))
  | bl j=>cases ry;exact eq_bool (aN I q uE)
  | str j=>obtain ⟨t',rfl⟩:=ry;exact PySem.EqMixed.eq_bool_str (aN I q (by simp))
  | _=>exact absurd (show false=true from hs) Bool.false_ne_true
 | int i =>
  obtain ⟨t,rfl⟩:=rx
  cases y with
  | non=>cases ry;exact PySem.EqNone.eq_int_none (aN I q (by simp))
  | int j=>obtain ⟨t',rfl⟩:=ry;exact eq_int (aN I q iW)
  | str j=>obtain ⟨t',rfl⟩:=ry;exact PySem.EqMixed.eq_int_str (aN I q (by simp))
  | _=>exact absurd (show false=true from hs) Bool.false_ne_true
 | str i =>
  obtain ⟨t,rfl⟩:=rx
  cases y with
  | non=>cases ry;exact PySem.EqNone.eq_str_none (aN I q (by simp))
  | bl j=>cases ry;exact PySem.EqMixed.eq_str_bool (aN I q (by simp))
  | int j=>obtain ⟨t',rfl⟩:=ry;exact PySem.EqMixed.eq_str_int (aN I q (by simp))
  | str j=>obtain ⟨t',rfl⟩:=ry;exact eq_str (aN I q p6)
  | _=>exact absurd (show false=true from hs) Bool.false_ne_true
 | byt i =>
  obtain ⟨t,rfl⟩:=rx
  cases y with
  | byt j=>obtain ⟨t',rfl⟩:=ry;exact PySem.W.eq_bytes (aN I q p7)
  | _=>exact absurd (show false=true from hs) Bool.false_ne_true
 | _=>cases y<;>exact absurd (show false=true from hs) Bool.false_ne_true
theorem kf:OpR X (compareOp .NotEq) rNe:=by
 intro pins s σ H x y v u Q I rx ry h
 obtain ⟨hs,q⟩:=h
 cases x with
 | non =>
  cases rx
  cases y with
  | non=>cases ry;exact PySem.EqNone.ne_none_none (aN I q (by simp))
  | bl j=>cases ry;exact PySem.EqNone.ne_none_bool (aN I q (by simp))
  | int j=>obtain ⟨t',rfl⟩:=ry;exact PySem.EqNone.ne_none_int (aN I q (by simp))
  | str j=>obtain ⟨t',rfl⟩:=ry;exact PySem.EqNone.ne_none_str (aN I q (by simp))
  | _=>exact absurd (show false=true from hs) Bool.false_ne_true
 | bl i =>
  cases rx
  cases y with
  | non=>cases ry;exact PySem.EqNone.ne_bool_none (aN I q (by simp))
  | bl j=>cases ry;exact ne_bool (aN I q (congrArg not uE))
  | str j=>obtain ⟨t',rfl⟩:=ry;exact PySem.EqMixed.ne_bool_str (aN I q (by simp))
  | _=>exact absurd (show false=true from hs) Bool.false_ne_true
 | int i =>
  obtain ⟨t,rfl⟩:=rx
  cases y with
  | non=>cases ry;exact PySem.EqNone.ne_int_none (aN I q (by simp))
  | int j=>obtain ⟨t',rfl⟩:=ry;exact ne_int (aN I q (congrArg not iW))
  | str j=>obtain ⟨t',rfl⟩:=ry;exact PySem.EqMixed.ne_int_str (aN I q (by simp))
  | _=>exact absurd (show false=true from hs) Bool.false_ne_true
 | str i =>
  obtain ⟨t,rfl⟩:=rx
  cases y with
  | non=>cases ry;exact PySem.EqNone.ne_str_none (aN I q (by simp))
  | bl j=>cases ry;exact PySem.EqMixed.ne_str_bool (aN I q (by simp))
  | int j=>obtain ⟨t',rfl⟩:=ry;exact PySem.EqMixed.ne_str_int (aN I q (by simp))
  | str j=>obtain ⟨t',rfl⟩:=ry;exact ne_str (aN I q (congrArg not p6))
  | _=>exact absurd (show false=true from hs) Bool.false_ne_true
 | byt i =>
  obtain ⟨t,rfl⟩:=rx
  cases y with
  | byt j=>obtain ⟨t',rfl⟩:=ry;exact PySem.W.ne_bytes (aN I q (congrArg not p7))
  | _=>exact absurd (show false=true from hs) Bool.false_ne_true
 | _=>cases y<;>exact absurd (show false=true from hs) Bool.false_ne_true
theorem gl:OpR X (compareOp .Lt) (rI0 λi j=>.bl (decide (i<j))):=xO λ_ _ _ _ _ _ _ q=>lt_int q
theorem wQ:OpR X (compareOp .LtE) (rI0 λi j=>.bl (decide (i<=j))):=xO λ_ _ _ _ _ _ _ q=>le_int q
theorem iD:OpR X (compareOp .Gt) (rI0 λi j=>.bl (decide (j<i))):=xO λ_ _ _ _ _ _ _ q=>gt_int q
theorem jp:OpR X (compareOp .Is) (λx y H Q=>y=.non/\Q (.bl (decide (x=.non))) H):=by
 intro pins s σ H x y v u Q I rx ry h
 obtain ⟨rfl,q⟩:=h
 cases ry
 refine is_none_gen (aN I q ?_)
 cases x<;>first
  | (cases rx;rfl)
  | (obtain ⟨t,rfl⟩:=rx;rfl)
theorem eJ:OpR X (compareOp .IsNot) (λx y H Q=>y=.non/\Q (.bl (!decide (x=.non))) H):=by
 intro pins s σ H x y v u Q I rx ry h
 obtain ⟨rfl,q⟩:=h
 cases ry
 refine isnot_none_gen (aN I q ?_)
 cases x<;>first
  | (cases rx;rfl)
  | (obtain ⟨t,rfl⟩:=rx;rfl)
theorem ay(b:Expr){op:CmpOp}(h:op≠.In:=by decide)(h2:op≠.NotIn:=by decide):behindInMarks op b=false:=by
 have e1:(op==CmpOp.In)=false:=by cases op<;>first | rfl | exact absurd rfl h
 have e2:(op==CmpOp.NotIn)=false:=by cases op<;>first | rfl | exact absurd rfl h2
 cases b<;>simp [behindInMarks,e1,e2]
theorem df{op:CmpOp}{r:R2}(ho:OpR X (compareOp op) r)(ha:PE X a ta)(hb:PE X b tb)(hm:behindInMarks op b=false):PE X (.Compare a [op] [b] pos) (tOp r ta tb):=by
 intro pins s σ H Q I h
 exact wpAny_Compare1 (yH ha hb I h λv u s2 x y H2 I2 rx ry q=>ho pins s2 σ H2 x y v u Q I2 rx ry q) hm
def wH(t:TE):TT:=fun σ H Q=>t σ H λx H'=>∃k,x=.bl k/\Q k H'
theorem ap{op:CmpOp}{r:R2}(ho:OpR X (compareOp op) r)(ha:PE X a ta)(hb:PE X b tb)(hm:behindInMarks op b=false):PT X (.Compare a [op] [b] pos) (wH (tOp r ta tb)):=by
 intro pins s σ H Q I h
 refine wpAny_isTrue_Compare1 (thn (ha pins s σ H _ I h) λv s1 ⟨x,H1,I1,r1,q1⟩=>thn (hb pins s1 σ H1 _ I1 q1) λu s2 ⟨y,H2,I2,r2,q2⟩ =>
  thn (ho pins s2 σ H2 x y v u _ I2 r1 r2 q2) λc s3 ⟨z,H3,I3,r3,k,e,q3⟩=>?_) hm
 subst e
 cases r3
 exact wpAny_truthy_bool ⟨H3,I3,q3⟩
def xr(r r':R2)(ta tb tc:TE):TE:=fun σ H Q=>ta σ H λx H1=>tb σ H1 λy H2=>r x y H2 λz H3=>∃k,z=.bl k /\
 (if k=true then tc σ H3 λw' H4=>r' y w' H4 Q else Q (.bl false) H3)
theorem sZ{op op':CmpOp}{r r':R2}(ho:OpR X (compareOp op) r)(ho':OpR X (compareOp op') r')(ha:PE X a ta)(hb:PE X b tb)(hc:PE X c tc)
  (hm:lastMarks [op,op'] [b,c]=false:=by with_unfolding_all rfl):PE X (.Compare a [op,op'] [b,c] pos) (xr r r' ta tb tc):=by
 intro pins s σ H Q I h
 refine Compare_chain (thn (ha pins s σ H _ I h) λv s1 ⟨x,H1,I1,r1,q1⟩=>chain_link (thn (hb pins s1 σ H1 _ I1 q1) λu s2 ⟨y,H2,I2,r2,q2⟩ =>
  thn (ho pins s2 σ H2 x y v u _ I2 r1 r2 q2) λd s3 ⟨z,H3,I3,r3,k,e,q3⟩=>?_)) hm
 subst e
 cases r3
 refine wpAny_truthy_bool ?_
 cases k with
 | false=>exact ite_ff ⟨.bl false,H3,I3,rfl,q3⟩
 | true=>exact ite_tt (chain_last (thn (hc pins s3 σ H3 _ I3 q3) λw' s4 ⟨z',H4,I4,r4,q4⟩=>ho' pins s4 σ H4 y z' u w' Q I4 r2 r4 q4))
def zH(K:PySem.W.Frag)(x:V)(H:Hp)(k:Bool):Prop :=
 match x with
 | .non=>k=false
 | .bl b=>k=b
 | .int i=>k=(i != 0)
 | .str y=>y.length<=sizeLine/\k=((y.length:Int) != 0)
 | .byt y=>y.size<=sizeLine/\k=((y.size:Int) != 0)
 | .ref p=>(∃xs,SqL K H p xs/\k=!xs.isEmpty)\/(∃xs,SqT K H p xs/\k=!xs.isEmpty)\/∃kvs,H p=some (.dK kvs)/\k=!kvs.isEmpty
 | _=>False
theorem oY{κ:Type}{kvs:List (κ×V)}{vs:List (κ×Value)}(r:KV kvs vs):(!vs.isEmpty)=!kvs.isEmpty:=by
 cases r<;>rfl
theorem jz{xs:List V}{its:List Value}(r:Vals xs its):(!its.toArray.isEmpty)=!xs.isEmpty:=by
 cases r<;>simp
theorem io:(sizeLine:Nat)<2 ^ 63:=by rw [sizeLine_eq];decide
theorem xi:Ai X (λx H Q=>∃k,zH X.K x H k/\Q k H):=by
 intro pins s σ H x v Q I rx h
 obtain ⟨k,e,q⟩:=h
 have hl:=io
 have hs:sizeLine=16777216:=sizeLine_eq
 cases x with
 | non =>
  cases rx
  have e':k=false:=e
  subst e'
  exact truthy_none ⟨H,I,q⟩
 | bl b =>
  cases rx
  have e':k=b:=e
  subst e'
  exact wpAny_truthy_bool ⟨H,I,q⟩
 | int i =>
  obtain ⟨t,rfl⟩:=rx
  have e':k=(i != 0):=e
  subst e'
  exact PySem.P.truthy_int ⟨H,I,q⟩
 | str y =>
  obtain ⟨t,rfl⟩:=rx
  obtain ⟨hy,e'⟩:y.length<=sizeLine/\k=((y.length:Int) != 0):=e
  subst e'
  exact PySem.P.truthy_str (by omega) ⟨H,I.tok _,q⟩
 | byt y =>
  obtain ⟨t,rfl⟩:=rx
  obtain ⟨hy,e'⟩:y.size<=sizeLine/\k=((y.size:Int) != 0):=e
  subst e'
  exact PySem.W.truthy_bytes (by omega) ⟨H,I.tok _,q⟩
 | ref p =>
  cases rx
  have e':(∃xs,SqL X.K H p xs/\k=!xs.isEmpty)\/(∃xs,SqT X.K H p xs/\k=!xs.isEmpty)\/∃kvs,H p=some (.dK kvs)/\k=!kvs.isEmpty:=e
  rcases e' with ⟨xs,hx,e'⟩ | ⟨xs,hx,e'⟩ | ⟨kvs,hx,e'⟩
  ·subst e'
   obtain ⟨its,r,pl,hz⟩:=I.list hx
   have hlen:=r.length
   exact wpAny_truthy_list pl.isList (by simp only [List.size_toArray];omega) ⟨H,I.tok _,by rw [jz r];exact q⟩
  ·subst e'
   obtain ⟨its,r,pl,hz⟩:=I.tuple hx
   have hlen:=r.length
   exact truthy_tuple pl (by simp only [List.size_toArray];omega) ⟨H,I.tok _,by rw [jz r];exact q⟩
  ·subst e'
   obtain ⟨hz,hS,vs,r,m⟩:kvs.length<=sizeLine/\(p==sysModules)=false/\∃vs,KV kvs vs/\s.heap.DictOf (b9 X.prog X.w) p vs:=I.hok p _ hx
   have hlen:kvs.length=vs.length:=Paired.length r
   exact wpAny_truthy_dict hS m (by omega) ⟨H,I.tok _,by rw [oY r];exact q⟩
 | _=>exact (show False from e).elim
theorem mC(ha:PE X a ta)(he:∀whole,isTrue a X.env whole=(do let v ← whole;standAt a.pos;holding [v] (truthy v))) :
  PT X a (fun σ H Q=>ta σ H λx H'=>∃k,zH X.K x H' k/\Q k H'):=by
 intro pins s σ H Q I h
 exact isTrue_plain (thn (ha pins s σ H _ I h) λv s1 ⟨x,H1,I1,r1,q1⟩=>xi pins s1 σ H1 x v Q I1 r1 q1) (he _)
theorem aP:OpR X (binaryOp .Add) (λx y H Q=>∃i j,x=.str i/\y=.str j/\i.length+j.length<=sizeLine/\Q (.str (i++j)) H):=by
 intro pins s σ H x y v u Q I rx ry h
 obtain ⟨i,j,rfl,rfl,hz,q⟩:=h
 obtain ⟨t,rfl⟩:=rx
 obtain ⟨t',rfl⟩:=ry
 exact add_str (λt' tk=>⟨.str (i++j),H,I.tok _,⟨_,rfl⟩,q⟩) hz
theorem cp{x:V}{us:List Value}(r:Vals [x] us):∃u,us=[u]/\RelV x u:=by
 cases r with
 | cons r1 r2=>cases r2;exact ⟨_,rfl,r1⟩
theorem wF{x y:V}{us:List Value}(r:Vals [x,y] us):∃u w',us=[u,w']/\RelV x u/\RelV y w':=by
 cases r with
 | cons r1 r2 =>
  cases r2 with
  | cons r3 r4=>cases r4;exact ⟨_,_,rfl,r1,r3⟩
theorem rj:dD X (.type "int") (λxs H Q=>(∃i,xs=[.int i]/\Q (.int i) H)\/∃k,xs=[.bl k]/\Q (.int (if k then 1 else 0)) H):=by
 intro pins s σ H xs us Q I r h
 rcases h with ⟨i,rfl,q⟩ | ⟨k,rfl,q⟩
 ·obtain ⟨u,rfl,t,rfl⟩:=cp r
  exact call_int_int ⟨.int i,H,I,⟨_,rfl⟩,q⟩
 ·obtain ⟨u,rfl,r1⟩:=cp r
  cases r1
  exact call_int_bool ⟨.int (if k then 1 else 0),H,I.tok _,⟨_,rfl⟩,q⟩
theorem bj:dD X (.type "str") (λxs H Q=>∃i,xs=[.int i]/\i.natAbs.log2<1920/\Q (.str (toString i)) H):=by
 intro pins s σ H xs us Q I r h
 obtain ⟨i,rfl,hz,q⟩:=h
 obtain ⟨u,rfl,t,rfl⟩:=cp r
 exact PySem.P.str_of_int hz ⟨.str _,H,I.tok _,⟨_,rfl⟩,q⟩
theorem uI:dD X (.builtin "ord") (λxs H Q=>∃x,xs=[.str x]/\x.length=1/\Q (.int (x.cps.getD 0 0:Nat)) H):=by
 intro pins s σ H xs us Q I r h
 obtain ⟨x,rfl,hz,q⟩:=h
 obtain ⟨u,rfl,t,rfl⟩:=cp r
 exact ord_of_one hz ⟨.int _,H,I.tok _,⟨_,rfl⟩,q⟩
end
end L2
namespace L2
open PySem PySem.Spec PyProof.Rows
structure ObjM(h:Heap)(x dx C:Addr)(mA:Str->Option Value):Prop where
 obj:h.get? x=some (PySem.W.instObj C dx)
 ns:h.Ns1 dx mA
 ne:dx≠x
theorem qP{h:Heap}{dx:Addr}{mA:Str->Option Value}(n:h.Ns1 dx mA):∃od,h.get? dx=some od/\∀name,PySem.W.lookIn name od=some (mA name):=by
 obtain ⟨o,es,ep,ho,hd,hk,_,hm⟩:=n
 refine ⟨o,ho,λname=>?_⟩
 have e:=hm name
 unfold nsFind findBy at e
 rw [← Array.find?_toList] at e
 unfold PySem.W.lookIn
 rw [hd]
 dsimp only
 split
 ·rename_i y q
  rw [q] at e
  exact congrArg some e
 ·rename_i q
  rw [q] at e
  have a:es.toList.any (·.refKey)=false:=by
   rw [List.any_eq_false]
   intro y hy
   obtain ⟨z,t,hkey⟩:=hk y (Array.mem_toList_iff.mp hy)
   simp [DictEntry.refKey,hkey]
  have a':¬es.toList.any (·.refKey)=true:=by rw [a];exact Bool.false_ne_true
  rw [if_neg a']
  exact congrArg some e
theorem ObjM.look{h:Heap}{x dx C:Addr}{mA:Str->Option Value}(I:ObjM h x dx C mA):∃od,PySem.W.InstAt h x (PySem.W.instObj C dx) C (some od)/\∀name,PySem.W.lookIn name od=some (mA name) :=
 let ⟨od,ho,hl⟩:=qP I.ns
 ⟨od,⟨I.obj,rfl,rfl,ho⟩,hl⟩
section
variable {prog:Program}{w:World}{A:Around}{E:Value->Shared->Prop}{s:Shared}{K:PySem.W.Frag}{x dx C f:Addr}{mA:Str->Option Value}{name:Str}{v:Value}
theorem wm{expr:Bool}{Q:Value->Shared->Prop}(X:K.In s.heap)(I:ObjM s.heap x dx C mA)(hg:PySem.W.plainGet K C name=true)(hh:PySem.W.hasDictIn K C=true)
  (ha:PySem.W.findIn K (.ref C) name=some none)(hv:mA name=some v)(hv':PySem.W.handedIn v=true)(h:Q v {s with toks:=s.toks+1}) :
  wpAny (model prog w) A (getAttr (.ref x) name expr) Q E s:=by
 obtain ⟨od,J,hl⟩:=I.look
 exact PySem.W.get_value X J (PySem.W.plainGet_of hg).1 (PySem.W.findObj_own hh ha rfl (by rw [hl,hv])) hv' h
theorem ut{pl:Sem Bool}{Q:Value×List Value->Shared->Prop}(X:K.In s.heap)(I:ObjM s.heap x dx C mA)(hg:PySem.W.plainGet K C name=true)
  (hf:PySem.W.findIn K (.ref C) name=some (some (.ref f)))(ht:PySem.W.isFn K (.ref f)=true)(hv:mA name=none)(h:Q (.ref f,[.ref x]) s) :
  wpAny (model prog w) A (getMethod (.ref x) name pl) Q E s:=by
 obtain ⟨od,J,hl⟩:=I.look
 exact PySem.W.method_fn X J (PySem.W.plainGet_of hg).1 (PySem.W.plainGet_of hg).2 hf (beq_iff_eq.mp ht) (by show (PySem.W.lookIn name od).map (·.isSome)=some false;rw [hl,hv];rfl) h
theorem vg{ns:List Str}{Q:Unit->Shared->Prop}(X:K.In s.heap)(I:ObjM s.heap x dx C mA)
  (hs:PySem.W.findIn K (.ref C) "__setattr__"=some (some (.builtin "object.__setattr__")))(hp:PySem.W.plainOver K C=true)(ht:PySem.W.takerIn K C name=some none)(hh:PySem.W.hasDictIn K C=true)
  (hw:PySem.Within mA ns)(hsz:ns.length<=sizeLine)
  (h:∀h',ObjM h' x dx C (λy=>if y=name then some v else mA y)->Heap.SameBut dx s.heap h'->Q () {s with heap:=h',toks:=s.toks+2}) :
  wpAny (model prog w) A (setAttr (.ref x) name v) Q E s:=by
 obtain ⟨od,J,hl⟩:=I.look
 refine PySem.W.set_plain X J hs (PySem.W.osa_open (s:={s with toks:=s.toks+1}) (r:=none) X J hp ht λb=>?_)
 obtain ⟨cd,hc,hd'⟩:=PySem.W.any_some hh
 have hx:s.heap.get? x=some ⟨.ref C,some dx,.plain,#[]⟩:=I.obj
 refine wpAny_bind (wpAny_pure (wpAny_bind (wpAny_bind (wpAny_loadPart hx (wpAny_bind (PySem.W.Looks.here (s:={s with toks:=s.toks+1}) (PySem.W.looks_clsIn X hc) ?_))))))
 rw [hd']
 refine wpAny_pure (a:=some dx) (wpAny_bind (wpAny_pure (wpAny_bind ?_)))
 refine wpAny_nsSet1 (s:={s with toks:=s.toks+1}) I.ns λh' hn2 hs2=>?_
 obtain ⟨oD,esD,epD,hoD,hdD,hcD⟩:=hn2.count (PySem.Within.cons name v hw)
 refine wpAny_bind (wpAny_lookBehind hoD (by rw [hdD];exact pastItsLine_dict (Nat.le_trans hcD (by rw [List.length_cons];omega))) ?_)
 exact wpAny_pure (h _ ⟨(hs2.2 _ (Ne.symm I.ne)).trans I.obj,hn2,I.ne⟩ hs2)
theorem ud{R:Result->Shared->Prop}{vs:List Value}{kw:List (Str×Value)}(X:K.In s.heap)(hm:PySem.W.makesIn K C=true)
  (hi:PySem.W.findIn K (.ref C) "__init__"=some (some (.ref f)))(hf:PySem.W.typeIn K (.ref f)=some (.type "function"))
  (h:codeAny (model prog w) (A.under (.builtin "type.__call__" ⟨.ref C::vs,kw⟩)) (.call (.ref f) ⟨.ref (s.heap.objs.size+1)::vs,kw⟩) (PySem.W.InitBack (s.heap.objs.size+1) R)
   {s with heap:=(s.heap.push PySem.W.emptyDict).push (PySem.W.instObj C s.heap.objs.size)}) :
  codeAny (model prog w) A (.call (.ref C) ⟨vs,kw⟩) R s:=by
 obtain ⟨hh,g,d,t,os⟩:=s
 exact PySem.W.make_core (PySem.W.makes_of X hm) (PySem.W.looks_findIn X hi) (λself=>PySem.W.bind_fn X self hf) (.inl rfl) h
end
def ak(f:Str)(v:V):List (Str×V)->List (Str×V)
 | []=>[(f,v)]
 | (g,x)::r=>if g=f then (g,v)::r else (g,x)::ak f v r
theorem aw(f g:Str)(v:V):∀fs:List (Str×V),(ak f v fs).lookup g=if g=f then some v else fs.lookup g
 | []=>by
  show List.lookup g [(f,v)]=_
  by_cases h:g=f
  ·have hb:(g==f)=true:=beq_iff_eq.mpr h
   simp only [List.lookup,hb,if_pos h]
  ·have hb:(g==f)=false:=beq_eq_false_iff_ne.mpr h
   simp only [List.lookup,hb,if_neg h]
 | (k,x)::r=>by
  have ih:=aw f g v r
  rw [show ak f v ((k,x)::r)=(if k=f then (k,v)::r else (k,x)::ak f v r) from rfl]
  by_cases hk:k=f
  ·rw [if_pos hk]
   by_cases h:g=k
   ·have hb:(g==k)=true:=beq_iff_eq.mpr h
    simp only [List.lookup,hb,if_pos (h.trans hk)]
   ·have hb:(g==k)=false:=beq_eq_false_iff_ne.mpr h
    simp only [List.lookup,hb,if_neg (λe:g=f=>h (e.trans hk.symm))]
  ·rw [if_neg hk]
   by_cases h:g=k
   ·have hb:(g==k)=true:=beq_iff_eq.mpr h
    simp only [List.lookup,hb,if_neg (λe:g=f=>hk (h.symm.trans e))]
   ·have hb:(g==k)=false:=beq_eq_false_iff_ne.mpr h
    simp only [List.lookup,hb]
    exact ih
theorem ip(f:Str)(v:V):∀fs:List (Str×V),f∈(ak f v fs).map (·.1)/\∀g,g∈fs.map (·.1)->g∈(ak f v fs).map (·.1)
 | []=>⟨by simp [ak],λg h=>by simp at h⟩
 | (k,x)::r=>by
  obtain ⟨i1,i2⟩:=ip f v r
  rw [show ak f v ((k,x)::r)=(if k=f then (k,v)::r else (k,x)::ak f v r) from rfl]
  by_cases hk:k=f
  ·rw [if_pos hk]
   subst hk
   exact ⟨by simp,λg h=>by simpa using h⟩
  ·rw [if_neg hk]
   refine ⟨?_,λg h=>?_⟩
   ·rw [List.map_cons]
    exact List.mem_cons_of_mem _ i1
   ·rw [List.map_cons] at h ⊢
    rcases List.mem_cons.mp h with e | e
    ·exact List.mem_cons.mpr (.inl e)
    ·exact List.mem_cons_of_mem _ (i2 g e)
theorem cn(f:Str)(v:V):∀fs:List (Str×V),(ak f v fs).length<=fs.length+1
 | []=>by simp [ak]
 | (k,x)::r=>by
  have ih:=cn f v r
  rw [show ak f v ((k,x)::r)=(if k=f then (k,v)::r else (k,x)::ak f v r) from rfl]
  by_cases hk:k=f
  ·rw [if_pos hk,List.length_cons,List.length_cons];omega
  ·rw [if_neg hk,List.length_cons,List.length_cons];omega
theorem RelO.some_of{v:V}{o:Option Value}(r:RelO (some v) o):∃u,o=some u/\RelV v u:=by
 cases o with
 | none=>exact (show False from r).elim
 | some u=>exact ⟨u,rfl,r⟩
theorem RelO.none_of{o:Option Value}(r:RelO none o):o=none:=by
 cases o with
 | none=>rfl
 | some u=>exact (show False from r).elim
theorem qY{v:V}{u:Value}(r:RelV v u):PySem.W.handedIn u=true:=by
 cases v with
 | non=>cases (show u=Value.none from r);rfl
 | bl b=>cases (show u=Value.bool b from r);rfl
 | int i=>obtain ⟨t,e⟩:=(show ∃t,u=Value.int i t from r);cases e;rfl
 | str x=>obtain ⟨t,e⟩:=(show ∃t,u=Value.str x t from r);cases e;rfl
 | byt b=>obtain ⟨t,e⟩:=(show ∃t,u=Value.bytes b t from r);cases e;rfl
 | flt b=>obtain ⟨t,e⟩:=(show ∃t,u=Value.float b t from r);cases e;rfl
 | ref a=>cases (show u=Value.ref a from r);rfl
 | ty n=>cases (show u=Value.type n from r);rfl
section
variable {P:Program}{w:World}{H H':Hp}{h h':Heap}{a C dx:Addr}{fs fs':List (Str×V)}
theorem iV(hok:HOk P w H h)(e:H a=some (.ins C dx fs)):∃mA,ObjM h a dx C mA/\(∀f,RelO (fs.lookup f) (mA f))/\PySem.Within mA (fs.map (·.1))/\fs.length<=1000/\H dx=some (.own a):=by
 obtain ⟨d,z,ne,ob,mA,n,r,q⟩:=(show ObjOk P w H h a (.ins C dx fs) from hok a _ e)
 exact ⟨mA,⟨ob,n,ne⟩,r,q,z,d⟩
end
structure Cls(K:PySem.W.Frag)(C:Addr):Prop where
 pg:PySem.W.plainGet K C Str.empty=true
 hd:PySem.W.hasDictIn K C=true
 po:PySem.W.plainOver K C=true
 sa:PySem.W.findIn K (.ref C) "__setattr__"=some (some (.builtin "object.__setattr__"))
theorem Cls.get{K:PySem.W.Frag}{C:Addr}(c:Cls K C)(f:Str):PySem.W.plainGet K C f=true:=c.pg
def NoAttr(K:PySem.W.Frag)(C:Addr)(f:Str):Prop:=PySem.W.findIn K (.ref C) f=some none
theorem NoAttr.taker{K:PySem.W.Frag}{C:Addr}{f:Str}(n:NoAttr K C f):PySem.W.takerIn K C f=some none:=by
 unfold PySem.W.takerIn
 rw [show PySem.W.findIn K (.ref C) f=some none from n]
 rfl
structure gj(K:PySem.W.Frag)(C:Addr)(m:Str)(f:Addr):Prop where
 at_:PySem.W.findIn K (.ref C) m=some (some (.ref f))
 fn:PySem.W.isFn K (.ref f)=true
 kp:PySem.W.keepIn K (.ref f)=true
section
variable {X:Cx}{pins:List (Addr×Obj)}{σ:St}{H:Hp}{s:Shared}{a C dx:Addr}{fs:List (Str×V)}{f:Str}{v:V}{A:Around}{E:Value->Shared->Prop}
theorem jA{b:Bool}{Q:Value->Shared->Prop}(I:Inv X pins σ H s)(e:H a=some (.ins C dx fs))(c:Cls X.K C)(n:NoAttr X.K C f)(l:fs.lookup f=some v)
  (h:∀u s',Inv X pins σ H s'->RelV v u->Q u s'):wpAny (model X.prog X.w) A (getAttr (.ref a) f b) Q E s:=by
 obtain ⟨mA,O,r,_,_,_⟩:=iV I.hok e
 obtain ⟨u,hu,ru⟩:=RelO.some_of (v:=v) (o:=mA f) (by rw [← l];exact r f)
 exact wm I.kIn O (c.get f) c.hd n hu (qY ru) (h u _ (I.tok _) ru)
theorem gE{m:Str}{g:Addr}{pl:Sem Bool}{Q:Value×List Value->Shared->Prop}(I:Inv X pins σ H s)(e:H a=some (.ins C dx fs))(c:Cls X.K C)(k:gj X.K C m g)(l:fs.lookup m=none)
  (h:Q (.ref g,[.ref a]) s):wpAny (model X.prog X.w) A (getMethod (.ref a) m pl) Q E s:=by
 obtain ⟨mA,O,r,_,_,_⟩:=iV I.hok e
 have hn:mA m=none:=RelO.none_of (by rw [← l];exact r m)
 exact ut I.kIn O (c.get m) k.at_ k.fn hn h
theorem i7{y:V}{u:Value}{Q:Unit->Shared->Prop}(I:Inv X pins σ H s)(e:H a=some (.ins C dx fs))(c:Cls X.K C)(n:NoAttr X.K C f)(hl:fs.length<1000)(ry:RelV y u)
  (h:∀s',Inv X pins σ (upd H a (.ins C dx (ak f y fs))) s'->Q () s'):wpAny (model X.prog X.w) A (setAttr (.ref a) f u) Q E s:=by
 obtain ⟨mA,O,r,wi,_,ho⟩:=iV I.hok e
 have hz:(fs.map (·.1)).length<=sizeLine:=by rw [List.length_map,sizeLine_eq];omega
 refine vg I.kIn O c.sa c.po n.taker c.hd wi hz λh' O' sb=>h _ ?_
 have hd:∃o,h'.get? dx=some o:=let ⟨o,_,_,e',_⟩:=O'.ns;⟨o,e'⟩
 refine I.write (x:=a) (e:=dx) (by rw [e];exact True.intro) (.inr ho) (λb q hb z=>(sb.2 b hb).trans z) hd ?_
 refine ⟨by rw [aq O.ne];exact ho,?_,O.ne,O'.obj,_,O'.ns,λg=>?_,λg hg=>?_⟩
 ·have:=cn f y fs;omega
 ·show RelO ((ak f y fs).lookup g) (if g=f then some u else mA g)
  rw [aw]
  by_cases q:g=f
  ·rw [if_pos q,if_pos q];exact ry
  ·rw [if_neg q,if_neg q];exact r g
 ·by_cases q:g=f
  ·rw [q];exact (ip f y fs).1
  ·refine (ip f y fs).2 g (wi g λz=>hg ?_)
   show (if g=f then some u else mA g)=none
   rw [if_neg q];exact z
theorem Inv.made(I:Inv X pins σ H s):Inv X pins σ (upd (upd H s.heap.objs.size (.own (s.heap.objs.size+1))) (s.heap.objs.size+1) (.ins C s.heap.objs.size []))
  {s with heap:=(s.heap.push PySem.W.emptyDict).push (PySem.W.instObj C s.heap.objs.size)}:=by
 have e1:(s.heap.push PySem.W.emptyDict).get? s.heap.objs.size=some PySem.W.emptyDict:=Heap.get?_push_size s.heap rfl
 have e2:((s.heap.push PySem.W.emptyDict).push (PySem.W.instObj C s.heap.objs.size)).get? (s.heap.objs.size+1)=some (PySem.W.instObj C s.heap.objs.size):=by
  have:=Heap.get?_push_size (s.heap.push PySem.W.emptyDict) (o:=PySem.W.instObj C s.heap.objs.size) rfl
  rwa [Heap.size_push] at this
 have e3:(s.heap.push PySem.W.emptyDict).Ns s.heap.objs.size (λ_=>none):=⟨PySem.W.emptyDict,#[],_,e1,rfl,(λe he=>absurd he (by simp)),λ_=>rfl⟩
 have I1:=I.laid (a:=s.heap.objs.size) (o:=.own (s.heap.objs.size+1)) (h':=s.heap.push PySem.W.emptyDict) (t':=s.toks) (λb u q=>Heap.get?_push_of_some _ q) (Nat.le_refl _) ⟨_,e1⟩
 refine I1.laid (a:=s.heap.objs.size+1) (o:=.ins C s.heap.objs.size []) (t':=s.toks) (λb u q=>Heap.get?_push_of_some _ q) (Nat.le_of_eq (Heap.size_push _ _)) ?_
 have ne:s.heap.objs.size≠s.heap.objs.size+1:=Nat.ne_of_lt (Nat.lt_succ_self _)
 refine ⟨by rw [aq ne,ae],Nat.zero_le _,ne,e2,λ_=>none,(Heap.Ns1.of_empty e3).at λo q=>Heap.get?_push_of_some _ q,λ_=>True.intro,λy hy=>absurd rfl hy⟩
theorem wA{prog:Program}{w:World}{env:Env}{e:Expr}{f:Str}{pos:Pos}{s:Shared}{Q:Value->Shared->Prop}(hb:attributeBase e f env (eval e env)=eval e env)
  (h:wpAny (model prog w) A (eval e env) (λo s₁=>wpAny (model prog w) A (getAttr o f true) Q E s₁) E s):wpAny (model prog w) A (eval (.Attribute e f pos) env) Q E s :=
 Attribute_any_ h (by rw [arm_eval_Attribute,hb])
end
def qk(K:PySem.W.Frag)(ta:TE)(f:Str):TE:=fun σ H Q=>ta σ H λx H1=>∃a C dx fs v,x=.ref a/\H1 a=some (.ins C dx fs)/\Cls K C/\NoAttr K C f/\fs.lookup f=some v/\Q v H1
def zW(K:PySem.W.Frag)(ta tv:TE)(f:Str):TS:=λD σ H=>tv σ H λy H1=>ta σ H1 λx H2=>∃a C dx fs,x=.ref a/\H2 a=some (.ins C dx fs)/\Cls K C/\NoAttr K C f/\fs.length<1000 /\
 D.nx σ (upd H2 a (.ins C dx (ak f y fs)))
def zK(X:Cx)(op:Operator)(rd:V->V->Hp->VK->Prop):Prop :=
 ∀(pins:List (Addr×Obj)) (s:Shared) (σ:St) (H:Hp) (x y:V) (u v:Value) (Q:VK),Inv X pins σ H s->RelV x u->RelV y v->rd x y H Q->wpAny (model X.prog X.w) X.A (inplaceOp op u v) (EP X pins σ Q) X.xe s
def vm(K:PySem.W.Frag)(ta tv:TE)(rd:V->V->Hp->VK->Prop)(f:Str):TS:=λD σ H=>ta σ H λx H1=>∃a C dx fs v,x=.ref a/\H1 a=some (.ins C dx fs)/\Cls K C/\NoAttr K C f/\fs.lookup f=some v /\
 tv σ H1 λy H2=>rd v y H2 λz H3=>∃dx' fs',H3 a=some (.ins C dx' fs')/\fs'.length<1000/\D.nx σ (upd H3 a (.ins C dx' (ak f z fs')))
section
variable {X:Cx}{o e value:Expr}{f:Str}{pos pos' tpos:Pos}{ta tv:TE}
theorem aA(he:PE X e ta)(hb:attributeBase e f X.env (eval e X.env)=eval e X.env):PE X (.Attribute e f pos) (qk X.K ta f):=by
 intro pins s σ H Q I h
 refine wA hb (thn (he pins s σ H _ I h) λu s1 ⟨x,H1,I1,rx,a,C,dx,fs,v,ex,ea,c,n,l,q⟩=>?_)
 subst ex
 obtain rfl:u=Value.ref a:=rx
 exact jA I1 ea c n l λu' s2 I2 ru=>⟨v,H1,I2,ru,q⟩
theorem aJ(ha:PE X o ta)(hv:PE X value tv)(hs:swapsWith value (some (.Attribute o f pos')) pos.line X.env=pure false):PS X (.Assign [.Attribute o f pos'] value pos) (zW X.K ta tv f):=by
 intro pins s σ H D I h
 refine plainObj_wpAny_Assign_Attribute (thn (hv pins s σ H _ I h) λu s1 ⟨y,H1,I1,ry,q⟩=>thn (ha pins s1 σ H1 _ I1 q) λov s2 ⟨x,H2,I2,rx,a,C,dx,fs,ex,ea,c,n,l,q2⟩=>?_) hs
 subst ex
 obtain rfl:ov=Value.ref a:=rx
 exact i7 I2 ea c n l ry λs3 I3=>⟨σ,_,I3,q2⟩
theorem ib{op:Operator}{rd:V->V->Hp->VK->Prop}(ha:PE X o ta)(hv:PE X value tv)(hop:zK X op rd):PS X (.AugAssign (.Attribute o f tpos) op value pos) (vm X.K ta tv rd f):=by
 intro pins s σ H D I h
 refine wpAny_AugAssign_AttributeAny (thn (ha pins s σ H _ I h) λov s1 ⟨x,H1,I1,rx,a,C,dx,fs,v,ex,ea,c,n,l,q⟩=>?_)
 subst ex
 obtain rfl:ov=Value.ref a:=rx
 refine jA I1 ea c n l λu s2 I2 ru=>thn (hv pins s2 σ H1 _ I2 q) λw3 s3 ⟨y,H2,I3,ry,q3⟩=>thn (hop pins s3 σ H2 v y u w3 _ I3 ru ry q3) λw4 s4 ⟨z,H3,I4,rz,dx',fs',ea',l',q4⟩=>?_
 exact i7 I4 ea' c n l' rz λs5 I5=>⟨σ,_,I5,q4⟩
def zZ:V->V->Hp->VK->Prop:=λx y H Q=>∃i j,x=.int i/\y=.int j/\Q (.int (i+j)) H
theorem o6:zK X .Add zZ:=by
 rintro pins s σ H x y u v Q I rx ry ⟨i,j,rfl,rfl,q⟩
 obtain ⟨t,rfl⟩:=(show ∃t,u=Value.int i t from rx)
 obtain ⟨t',rfl⟩:=(show ∃t',v=Value.int j t' from ry)
 exact PyProof.Rows.iadd_int ⟨.int (i+j),H,I.tok _,⟨_,rfl⟩,q⟩
end
section
variable {X:Cx}{pins:List (Addr×Obj)}{σ:St}{H:Hp}{s:Shared}{A:Around}{E:Value->Shared->Prop}{Q:Value->Shared->Prop}{c:Value}{b:Bool}
inductive TyOf (K:PySem.W.Frag) (H:Hp):V->Value->Prop where
 | non:TyOf K H .non (.type "NoneType")
 | bl (x:Bool):TyOf K H (.bl x) (.type "bool")
 | int (i:Int):TyOf K H (.int i) (.type "int")
 | str (x:Str):TyOf K H (.str x) (.type "str")
 | flt (x:UInt64):TyOf K H (.flt x) (.type "float")
 | lst {a:Addr} {xs:List V} (e:H a=some (.lst xs)):TyOf K H (.ref a) (.type "list")
 | frz {a:Addr} {o:Obj} {xs:List V} (e:H a=some (.frz o (.lst xs))):TyOf K H (.ref a) (.type "list")
 | tup {a:Addr} {xs:List V} (e:H a=some (.tup xs)):TyOf K H (.ref a) (.type "tuple")
 | dK {a:Addr} {kvs:List (Key×V)} (e:H a=some (.dK kvs)):TyOf K H (.ref a) (.type "dict")
 | dT {a:Addr} {kvs:List (List Key×V)} (e:H a=some (.dT kvs)):TyOf K H (.ref a) (.type "dict")
 | ins {a C dx:Addr} {fs:List (Str×V)} (e:H a=some (.ins C dx fs)) (cl:Cls K C) (ha:PySem.W.findIn K (.ref C) "__class__"=some (some (.builtin "object.__class__")))
   (hn:PySem.W.specialIn K (.builtin "object.__class__") "__get__"=some (some (.builtin "getset_descriptor.__get__"))) (htk:PySem.W.takesIn K (.builtin "object.__class__")=some true)
   (hm:PySem.W.mroIn K C (.type "object")=some true):TyOf K H (.ref a) (.ref C)
theorem qT{x:V}{u t:Value}(I:Inv X pins σ H s)(rx:RelV x u)(ty:TyOf X.K H x t)(e:PySem.W.kitOne X.K t c=some b)(h:∀tk,Q (.bool b) {s with toks:=tk}) :
  wpAny (model X.prog X.w) A (call (.builtin "isinstance") [u,c]) Q E s:=by
 cases ty with
 | non=>cases (show u=Value.none from rx);exact PySem.W.kia_one PySem.W.kitx_none I.kIn True.intro e (λz=>nomatch z) h
 | bl y=>cases (show u=Value.bool y from rx);exact PySem.W.kia_one PySem.W.kitx_bool I.kIn True.intro e (λz=>nomatch z) h
 | int i=>obtain ⟨t,q⟩:=(show ∃t,u=Value.int i t from rx);cases q;exact PySem.W.kia_one PySem.W.kitx_int I.kIn True.intro e (λz=>nomatch z) h
 | str y=>obtain ⟨t,q⟩:=(show ∃t,u=Value.str y t from rx);cases q;exact PySem.W.kia_one PySem.W.kitx_str I.kIn True.intro e (λz=>nomatch z) h
 | flt y=>obtain ⟨t,q⟩:=(show ∃t,u=Value.float y t from rx);cases q;exact PySem.W.kia_one PySem.W.kitx_float I.kIn True.intro e (λz=>nomatch z) h
 | @lst a xs ea =>
  cases (show u=Value.ref a from rx)
  obtain ⟨_,_,n,_,h1⟩:=(show ObjOk X.prog X.w H s.heap a (.lst xs) from I.hok a _ ea)
  exact PySem.W.kia_one PySem.W.kitx_list I.kIn ⟨_,h1,rfl⟩ e (λz=>nomatch z) h
 | @frz a ob xs ea =>
  cases (show u=Value.ref a from rx)
  obtain ⟨_,_,_,n,_,h1⟩:=(show ObjOk X.prog X.w H s.heap a (.frz ob (.lst xs)) from I.hok a _ ea)
  exact PySem.W.kia_one PySem.W.kitx_list I.kIn ⟨_,h1,rfl⟩ e (λz=>nomatch z) h
 | @tup a xs ea =>
  cases (show u=Value.ref a from rx)
  obtain ⟨_,_,_,p⟩:=(show ObjOk X.prog X.w H s.heap a (.tup xs) from I.hok a _ ea)
  obtain ⟨o,h1,h2,_⟩:=p
  exact PySem.W.kia_one PySem.W.kitx_tuple I.kIn ⟨o,h1,h2⟩ e (λz=>nomatch z) h
 | @dK a kvs ea =>
  cases (show u=Value.ref a from rx)
  obtain ⟨_,_,vs,_,p⟩:=(show ObjOk X.prog X.w H s.heap a (.dK kvs) from I.hok a _ ea)
  obtain ⟨o,es,ep,h1,h2,_⟩:=p
  exact PySem.W.kia_one PySem.W.kitx_dict I.kIn ⟨o,h1,h2.1⟩ e (λz=>nomatch z) h
 | @dT a kvs ea =>
  cases (show u=Value.ref a from rx)
  obtain ⟨_,_,xs,_,o,es,ep,h1,h2,_⟩:=(show ObjOk X.prog X.w H s.heap a (.dT kvs) from I.hok a _ ea)
  exact PySem.W.kia_one PySem.W.kitx_dict I.kIn ⟨o,h1,h2.1⟩ e (λz=>nomatch z) h
 | @ins a C dx fs ea cl ha hn htk hm =>
  cases (show u=Value.ref a from rx)
  obtain ⟨mA,O,_⟩:=iV I.hok ea
  obtain ⟨od,J,_⟩:=O.look
  exact PySem.W.kia_one (PySem.W.kitx_own (cl.get _) cl.hd ha hn htk hm) I.kIn J e (λz=>nomatch z) h
end
end L2
namespace L2
open PySem PySem.Spec PyProof.Rows
structure Room(k:Nat)(A:Around):Prop where
 hd:A.handled=none
 dp:A.depth+3*k+5<recursionLimit
 un:A.units+16*k+200<cLine
theorem Room.mono{j k:Nat}{A:Around}(r:Room k A)(h:j<=k):Room j A:=⟨r.hd,by have:=r.dp;omega,by have:=r.un;omega⟩
theorem Room.deeper{k:Nat}{A:Around}(r:Room (k+1) A)(env:Env):Room k (A.deeper env) :=
 ⟨r.hd,by have:=r.dp;show A.depth+1+3*k+5<_;omega,by have:=r.un;show A.units+3+16*k+200<_;omega⟩
theorem oP{A:Around}{C:Addr}{us:List Value}{kw:List (Str×Value)}:(A.under (.builtin "type.__call__" ⟨.ref C::us,kw⟩)).depth=A.depth+1:=by
 first | rfl | simp [Around.under,Code.weight,Code.isCreation,Code.isGuard,Code.isCaller,Code.frames,Code.isFrame,guardIds]
theorem oO{A:Around}{C:Addr}{us:List Value}{kw:List (Str×Value)}:(A.under (.builtin "type.__call__" ⟨.ref C::us,kw⟩)).units=A.units+1:=by
 first | rfl | simp [Around.under,Code.cUnits,Code.frames,Code.isFrame]
theorem Room.make{k:Nat}{A:Around}(r:Room (k+1) A)(C:Addr)(us:List Value)(kw:List (Str×Value)):Room k (A.under (.builtin "type.__call__" ⟨.ref C::us,kw⟩)) :=
 ⟨r.hd,by have:=r.dp;rw [oP];omega,by have:=r.un;rw [oO];omega⟩
theorem Room.depth{k:Nat}{A:Around}(r:Room k A):A.depth<recursionLimit:=by have:=r.dp;omega
theorem Room.units{k:Nat}{A:Around}(r:Room k A):A.units+64<cLine:=by have:=r.un;omega
def uY:TA:=λ_ H Q=>Q [] H
def wI(ta:TE)(tr:TA):TA:=fun σ H Q=>ta σ H λx H1=>tr σ H1 λxs H2=>Q (x::xs) H2
section
variable {X:Cx}{e:Expr}{es:List Expr}{te:TE}{t:TA}{pos:Pos}
theorem ac:PA X [] uY:=λ_ _ _ _ H Q I h=>Calls.spliced_nil ⟨[],H,I,.nil,h⟩
theorem aa(ha:PE X e te)(hr:PA X es t)(hs:starEach (e::es) X.env=(false,eval e X.env)::starEach es X.env:=by rfl):PA X (e::es) (wI te t):=by
 intro pos pins s σ H Q I h
 rw [hs]
 show wpAny _ _ (spliced ((false,eval e X.env)::backTo pos (starEach es X.env))) _ _ s
 refine Calls.spliced_cons (thn (ha pins s σ H _ I h) λu s1 ⟨x,H1,I1,r1,q1⟩=>?_)
 exact thn (hr pos pins s1 σ H1 _ I1 q1) λus s2 ⟨xs,H2,I2,r2,q2⟩=>⟨x::xs,H2,I2,.cons r1 r2,q2⟩
def zM(t:TA):TE:=fun σ H Q=>t σ H λxs H1=>xs.length<=sizeLine/\∀p,H1 p=none->Q (.ref p) (upd H1 p (.tup xs))
def zR(t:TA):TE:=fun σ H Q=>t σ H λxs H1=>xs.length<=sizeLine/\∀p,H1 p=none->Q (.ref p) (upd H1 p (.lst xs))
theorem ba{x1}(h:PA X es t):PE X (.Tuple es x1 pos) (zM t):=by
 intro pins s σ H Q I hq
 refine wpAny_Tuple_spliced (thn (h pos pins s σ H _ I hq) λus s1 ⟨xs,H1,I1,r,z,q⟩=>⟨by rw [← r.length];exact z,?_⟩)
 have hf:H1 s1.heap.objs.size=none:=I1.hok.fresh (Nat.le_refl _)
 refine ⟨.ref s1.heap.objs.size,upd H1 s1.heap.objs.size (.tup xs),I1.laid (t':=s1.toks) (λb u e=>Heap.get?_push_of_some _ e) (Nat.le_refl _) ?_,rfl,q _ hf⟩
 exact ⟨z,us,r,⟨_,Heap.get?_push_size _ rfl,rfl,_,rfl⟩⟩
theorem aT(h:PA X es t):PE X (.List es pos) (zR t):=by
 intro pins s σ H Q I hq
 refine wpAny_List_spliced (thn (h pos pins s σ H _ I hq) λus s1 ⟨xs,H1,I1,r,z,q⟩=>⟨by rw [← r.length];exact z,?_⟩)
 have hf:H1 s1.heap.objs.size=none:=I1.hok.fresh (Nat.le_refl _)
 refine ⟨.ref s1.heap.objs.size,upd H1 s1.heap.objs.size (.lst xs),I1.laid (t':=s1.toks) (λb u e=>Heap.get?_push_of_some _ e) (Nat.le_refl _) ?_,rfl,q _ hf⟩
 exact ⟨z,us,0,r,Heap.get?_push_size _ rfl⟩
end
abbrev Sp:=List V->Hp->VK->XK->Prop
abbrev CXT:=List Env->Hp->Shared->XK->Value->Shared->Prop
structure Env0(P:Program)(w:World)(K:PySem.W.Frag)(mg:Str->Option Value)(base:Heap)(A:Around)(outer:List Env)(s:Shared)(H:Hp):Prop where
 frames:A.frames=some outer
 mod:Mod K mg base
 bs:∀b o,base.get? b=some o->s.heap.get? b=some o/\H b=none
 bsz:base.objs.size<=s.heap.objs.size
 funs:s.heap.FunFrames base outer
 frf:∀b∈frs outer,H b=none
 hok:HOk P w H s.heap
 bare:AllBare s.gens
def CE(outer:List Env)(P:Program)(w:World)(H:Hp)(s:Shared)(Q:VK)(u:Value)(s':Shared):Prop :=
 ∃v H',s'.os=s.os/\AllBare s'.gens/\Un (frs outer) [] H H' s.heap s'.heap/\HOk P w H' s'.heap/\RelV v u/\Q v H'
def CR(CX:CXT)(outer:List Env)(P:Program)(w:World)(H:Hp)(s:Shared)(Q:VK)(E:XK)(r:Result)(s':Shared):Prop :=
 match r with
 | .ok (.ret u)=>CE outer P w H s Q u s'
 | .ok _=>False
 | .error e=>CX outer H s E e s'
structure FnOk(P:Program)(w:World)(K:PySem.W.Frag)(mg:Str->Option Value)(base:Heap)(CX:CXT)(k:Nat)(f:Addr)(fd:FuncData)(ps:List Str)(sp:Sp):Prop where
 len:∀vs H Q E,sp vs H Q E->vs.length=ps.length
 run:∀(A:Around) (outer:List Env) (s:Shared) (H:Hp) (args:Args) (us:List Value) (vs:List V) (Q:VK) (E:XK),Room k A->Env0 P w K mg base A outer s H->BindsTo s fd args (ps.zip us)->Vals vs us->sp vs H Q E ->
  codeAny (model P w) A (.call (.ref f) args) (CR CX outer P w H s Q E) s
theorem FnOk.mono{P:Program}{w:World}{K:PySem.W.Frag}{mg:Str->Option Value}{base:Heap}{CX:CXT}{j k:Nat}{f:Addr}{fd:FuncData}{ps:List Str}{sp:Sp}(F:FnOk P w K mg base CX j f fd ps sp)(h:j<=k) :
  FnOk P w K mg base CX k f fd ps sp:=⟨F.len,λA outer s H args us vs Q E hr=>F.run A outer s H args us vs Q E (hr.mono h)⟩
theorem FnOk.imp{P:Program}{w:World}{K:PySem.W.Frag}{mg:Str->Option Value}{base:Heap}{CX:CXT}{k:Nat}{f:Addr}{fd:FuncData}{ps:List Str}{sp sp':Sp}(F:FnOk P w K mg base CX k f fd ps sp)
  (h:∀vs H Q E,sp' vs H Q E->sp vs H Q E):FnOk P w K mg base CX k f fd ps sp' :=
 ⟨λvs H Q E q=>F.len vs H Q E (h _ _ _ _ q),λA outer s H args us vs Q E hr he hb hv hs=>F.run A outer s H args us vs Q E hr he hb hv (h _ _ _ _ hs)⟩
theorem Env0.make{P:Program}{w:World}{K:PySem.W.Frag}{mg:Str->Option Value}{base:Heap}{A:Around}{outer:List Env}{s:Shared}{H:Hp}(e:Env0 P w K mg base A outer s H)(C:Addr)(us:List Value)(kw:List (Str×Value)) :
  Env0 P w K mg base (A.under (.builtin "type.__call__" ⟨.ref C::us,kw⟩)) outer s H:=⟨by first | exact e.frames | (simpa [Around.under,Code.envs,Code.isFrame,pushEnvs] using e.frames),e.mod,e.bs,e.bsz,e.funs,e.frf,e.hok,e.bare⟩
section
variable {X:Cx}{pins:List (Addr×Obj)}{σ:St}{H:Hp}{s s':Shared}
theorem Inv.env0(I:Inv X pins σ H s):Env0 X.prog X.w X.K X.mg X.base X.A X.stack s H :=
 ⟨I.ok.frames,I.ok.mod,I.bs,Nat.le_trans I.ok.bsz I.sz,I.stack,I.stkFree,I.hok,I.bare⟩
theorem Inv.after{Q:VK}{u:Value}(I:Inv X pins σ H s)(h:CE X.stack X.prog X.w H s Q u s'):EP X pins σ Q u s':=by
 obtain ⟨v,H',os,bare,un,hok,r,q⟩:=h
 obtain ⟨hh,g,d,t,os'⟩:=s'
 obtain rfl:os'=s.os:=os
 exact ⟨v,H',I.call (h':=hh) (g':=g) (d':=d) (t':=t) (ch:=[]) un hok bare (λb z=>absurd z (by simp)),r,q⟩
end
def rO(sp:Sp)(dvs:List V)(E:XK)(t:TA):TE:=fun σ H Q=>t σ H λvs H1=>sp (vs++dvs) H1 Q E
def pr(C:Addr)(m:Str)(sp:Sp)(dvs:List V)(E:XK)(ta:TE)(t:TA):TE:=fun σ H Q=>ta σ H λx H1=>∃a dx fs,x=.ref a/\H1 a=some (.ins C dx fs)/\fs.lookup m=none /\
 t σ H1 λvs H2=>sp (x::(vs++dvs)) H2 Q E
def yU(C:Addr)(sp:Sp)(dvs:List V)(E:XK)(t:TA):TE:=fun σ H Q=>t σ H λvs H1=>∀x dx,H1 x=none->H1 dx=none->dx≠x ->
 sp (.ref x::(vs++dvs)) (upd (upd H1 dx (.own x)) x (.ins C dx [])) (λv H2=>v=.non/\Q (.ref x) H2) E
def Binds(K:PySem.W.Frag)(fd:FuncData)(ps:List Str)(ds:List Value):Prop :=
 ∀(s:Shared) (us:List Value),K.In s.heap->(us++ds).length=ps.length->BindsTo s fd ⟨us,[]⟩ (ps.zip (us++ds))
theorem Binds.all{K:PySem.W.Frag}{fd:FuncData}{ps:List Str}(h:∀us:List Value,us.length=ps.length->bindArgs fd ⟨us,[]⟩=pure (ps.zip us)):Binds K fd ps []:=λs us _ hl=>by
 rw [List.append_nil] at hl ⊢
 exact .of_eq (h us hl)
def dz(CX:CXT)(X:Cx)(E:XK):Prop:=∀(pins:List (Addr×Obj)) (σ:St) (H:Hp) (s:Shared) (e:Value) (s':Shared),Inv X pins σ H s->CX X.stack H s E e s'->X.xe e s'
section
variable {X:Cx}{CX:CXT}{k:Nat}{f C:Addr}{fd:FuncData}{ps:List Str}{sp:Sp}{dvs:List V}{ds:List Value}{E:XK}{x m:Str}{p pos apos:Pos}{e o:Expr}{es:List Expr}{ta:TE}{t:TA}
theorem lC{pins:List (Addr×Obj)}{σ:St}{H:Hp}{s:Shared}{Q:VK}{us:List Value}{vs:List V}(F:FnOk X.prog X.w X.K X.mg X.base CX k f fd ps sp)(hr:Room k X.A)(hb:Binds X.K fd ps ds)(hd:Vals dvs ds)(hx:dz CX X E)
  (I:Inv X pins σ H s)(r:Vals vs us)(h:sp (vs++dvs) H Q E):wpAny (model X.prog X.w) X.A (call (.ref f) us) (EP X pins σ Q) X.xe s:=by
 have r2:Vals (vs++dvs) (us++ds):=r.append hd
 have hl:(us++ds).length=ps.length:=by rw [← r2.length];exact F.len _ _ _ _ h
 refine wpAny_call (codeAny_mono (F.run X.A X.stack s H ⟨us,[]⟩ (us++ds) (vs++dvs) Q E hr I.env0 (hb s us I.kIn hl) r2 h) λr s' hq=>?_)
 cases r with
 | error e=>exact hx pins σ H s e s' I hq
 | ok fl =>
  cases fl with
  | ret u=>exact I.after hq
  | next=>exact False.elim hq
  | brk=>exact False.elim hq
  | cont=>exact False.elim hq
theorem lJ(F:FnOk X.prog X.w X.K X.mg X.base CX k f fd ps sp)(hr:Room k X.A)(hg:Gl X x)(hm:X.mg x=some (.ref f))(hk:PySem.W.keepIn X.K (.ref f)=true)(hb:Binds X.K fd ps ds)(hd:Vals dvs ds)(hx:dz CX X E)
  (ha:PA X (e::es) t)(hdb:(x==("__debug__":Str))=false:=by decide)(he:starEach (e::es) X.env=(false,eval e X.env)::starEach es X.env:=by rfl)(hpl:(backTo pos (starEach es X.env)).any (·.1)=false:=by rfl) :
  PE X (.Call (.Name x p) (e::es) [] pos) (rO sp dvs E t):=by
 intro pins s σ H Q I h
 refine wpAny_Call_Name_kw (gQ I hg hm ?_ hdb)
 refine PySem.W.callWith_K (h₀:=X.base) I.ok.mod.kin hk (thn (ha pos pins s σ H _ I h) λus s1 ⟨vs,H1,I1,r,q⟩=>⟨I1.kIn,?_⟩) he hpl
 exact lC F hr hb hd hx I1 r q
theorem f6{pl:Sem Bool}(he:PE X o ta)(c:Cls X.K C)(hm:gj X.K C m f)(F:FnOk X.prog X.w X.K X.mg X.base CX k f fd ps sp)(hr:Room k X.A)(hb:Binds X.K fd ps ds)(hd:Vals dvs ds)(hx:dz CX X E)(ha:PA X (e::es) t)
  (hst:starEach (e::es) X.env=(false,eval e X.env)::starEach es X.env:=by rfl)(hpl:(backTo pos (starEach es X.env)).any (·.1)=false:=by rfl)
  (ht:eval (.Call (.Attribute o m apos) (e::es) [] pos) X.env=(do
   let ov ← eval o X.env
   standAt apos.atName
   let (f,first) ← holding [ov] (getMethod ov m pl)
   callWith pos f first (backTo pos (starEach (e::es) X.env)) (backToKw pos (keywordEach [] X.env))):=by rfl) :
  PE X (.Call (.Attribute o m apos) (e::es) [] pos) (pr C m sp dvs E ta t):=by
 intro pins s σ H Q I h
 refine PySem.W.methodCall_KW (pl:=pl) (thn (he pins s σ H _ I h) λu s1 ⟨x,H1,I1,rx,a,dx,fs,ex,ea,l,q⟩=>?_) ht
 subst ex
 obtain rfl:u=Value.ref a:=rx
 refine gE I1 ea c hm l ?_
 refine PySem.W.callWith_K (first:=[.ref a]) (h₀:=X.base) I.ok.mod.kin hm.kp (thn (ha pos pins s1 σ H1 _ I1 q) λus s2 ⟨vs,H2,I2,r,q2⟩=>⟨I2.kIn,?_⟩) hst hpl
 exact lC (us:=.ref a::us) (vs:=.ref a::vs) F hr hb hd hx I2 (.cons rfl r) q2
theorem gM{pl:Sem Bool}(he:PE X o ta)(c:Cls X.K C)(hm:gj X.K C m f)(F:FnOk X.prog X.w X.K X.mg X.base CX k f fd ps sp)(hr:Room k X.A)(hb:Binds X.K fd ps ds)(hd:Vals dvs ds)(hx:dz CX X E)
  (ht:eval (.Call (.Attribute o m apos) [] [] pos) X.env=(do
   let ov ← eval o X.env
   standAt apos.atName
   let (f,first) ← holding [ov] (getMethod ov m pl)
   callWith pos f first (backTo pos (starEach [] X.env)) (backToKw pos (keywordEach [] X.env))):=by rfl) :
  PE X (.Call (.Attribute o m apos) [] [] pos) (pr C m sp dvs E ta uY):=by
 intro pins s σ H Q I h
 refine PySem.W.methodCall_KW (pl:=pl) (thn (he pins s σ H _ I h) λu s1 ⟨x,H1,I1,rx,a,dx,fs,ex,ea,l,q⟩=>?_) ht
 subst ex
 obtain rfl:u=Value.ref a:=rx
 refine gE I1 ea c hm l ?_
 exact PySem.W.callWith_K0 (first:=[.ref a]) I1.kIn hm.kp (lC (us:=[.ref a]) (vs:=[.ref a]) F hr hb hd hx I1 (.cons rfl .nil) q)
structure Mk(K:PySem.W.Frag)(C f:Addr):Prop where
 makes:PySem.W.makesIn K C=true
 init:PySem.W.findIn K (.ref C) "__init__"=some (some (.ref f))
 fn:PySem.W.isFn K (.ref f)=true
 kp:PySem.W.keepIn K (.ref C)=true
theorem sJ{pins:List (Addr×Obj)}{σ:St}{H:Hp}{s:Shared}{Q:VK}{us:List Value}{vs:List V}(M:Mk X.K C f)(F:FnOk X.prog X.w X.K X.mg X.base CX k f fd ps sp)(hr:Room (k+1) X.A)(hb:Binds X.K fd ps ds)(hd:Vals dvs ds)
  (hx:dz CX X E)(I:Inv X pins σ H s)(r:Vals vs us)
  (h:∀x dx,H x=none->H dx=none->dx≠x->sp (.ref x::(vs++dvs)) (upd (upd H dx (.own x)) x (.ins C dx [])) (λv H2=>v=.non/\Q (.ref x) H2) E) :
  wpAny (model X.prog X.w) X.A (call (.ref C) us) (EP X pins σ Q) X.xe s:=by
 have hq:=h (s.heap.objs.size+1) s.heap.objs.size (I.hok.fresh (Nat.le_succ _)) (I.hok.fresh (Nat.le_refl _)) (Nat.ne_of_lt (Nat.lt_succ_self _))
 have I2:=Inv.made (C:=C) I
 have r2:Vals (V.ref (s.heap.objs.size+1)::(vs++dvs)) (Value.ref (s.heap.objs.size+1)::(us++ds)):=.cons rfl (r.append hd)
 have hl:(Value.ref (s.heap.objs.size+1)::us++ds).length=ps.length:=by
  have e:=r2.length
  rw [F.len _ _ _ _ hq] at e
  exact e.symm
 refine wpAny_call (ud (f:=f) I.kIn M.makes M.init (beq_iff_eq.mp M.fn) (codeAny_mono (F.run _ X.stack _ _ ⟨Value.ref (s.heap.objs.size+1)::us,[]⟩ (Value.ref (s.heap.objs.size+1)::(us++ds)) _ _ E (hr.make C us [])
  (I2.env0.make C us []) (hb _ (Value.ref (s.heap.objs.size+1)::us) I2.kIn hl) r2 hq) λr s' hq'=>?_))
 cases r with
 | error e=>exact hx pins σ _ _ e s' I2 hq'
 | ok fl =>
  cases fl with
  | ret u =>
   obtain ⟨v,H',I3,rv,ev,q3⟩:=I2.after hq'
   subst ev
   exact ⟨rv,⟨V.ref (s.heap.objs.size+1),H',I3,rfl,q3⟩⟩
  | next=>exact False.elim hq'
  | brk=>exact False.elim hq'
  | cont=>exact False.elim hq'
theorem bZ(M:Mk X.K C f)(F:FnOk X.prog X.w X.K X.mg X.base CX k f fd ps sp)(hr:Room (k+1) X.A)(hg:Gl X x)(hm:X.mg x=some (.ref C))(hb:Binds X.K fd ps ds)(hd:Vals dvs ds)(hx:dz CX X E)
  (ha:PA X (e::es) t)(hdb:(x==("__debug__":Str))=false:=by decide)(he:starEach (e::es) X.env=(false,eval e X.env)::starEach es X.env:=by rfl)(hpl:(backTo pos (starEach es X.env)).any (·.1)=false:=by rfl) :
  PE X (.Call (.Name x p) (e::es) [] pos) (yU C sp dvs E t):=by
 intro pins s σ H Q I h
 refine wpAny_Call_Name_kw (gQ I hg hm ?_ hdb)
 refine PySem.W.callWith_K (h₀:=X.base) I.ok.mod.kin M.kp (thn (ha pos pins s σ H _ I h) λus s1 ⟨vs,H1,I1,r,q⟩=>⟨I1.kIn,?_⟩) he hpl
 exact sJ M F hr hb hd hx I1 r q
end
structure al(N P:List Str)(sc:Scope):Prop where
 kind:sc.kind=.function
 co:sc.isCoroutine=false
 gen:sc.isGenerator=false
 nd:N.Nodup
 pre:N.take P.length=P
 par:∀x∈P,sc.names.lookup x=some .local\/sc.names.lookup x=some .cell
 nofree:∀y∈sc.names,y.2≠.free
theorem kD{kindOf:Str->Option NameKind}{x:Str}:∀{binds:List (Str×Value)} {m:Str->Option Value},(∀v,(x,v)∉binds)->bindL kindOf binds m x=m x
 | [],_,_=>rfl
 | (n,v)::r,m,h=>by
  unfold bindL
  rw [kD λw hw=>h w (List.mem_cons_of_mem _ hw)]
  split
  ·have:x≠n:=by rintro rfl;exact h v List.mem_cons_self
   simp [this]
  ·rfl
theorem kH{kindOf:Str->Option NameKind}{x:Str}:∀{binds:List (Str×Value)} {m:Str->Option Value},(∀v,(x,v)∉binds)->bindC kindOf binds m x=m x
 | [],_,_=>rfl
 | (n,v)::r,m,h=>by
  unfold bindC
  rw [kH λw hw=>h w (List.mem_cons_of_mem _ hw)]
  split
  ·rfl
  ·have:x≠n:=by rintro rfl;exact h v List.mem_cons_self
   simp [this]
theorem kE{kindOf:Str->Option NameKind}{x:Str}{v:Value}:∀{P:List Str} {vs:List Value} {i:Nat} {m:Str->Option Value},P.Nodup->P[i]?=some x->vs[i]?=some v->kindOf x=some .local ->
  bindL kindOf (P.zip vs) m x=some v
 | [],_,_,_,_,h,_,_=>by simp at h
 | _::_,[],_,_,_,_,h,_=>by simp at h
 | p::P,w::vs,0,m,nd,h1,h2,hk=>by
  simp at h1 h2;subst h1;subst h2
  show bindL kindOf ((p,w)::P.zip vs) m p=_
  unfold bindL
  rw [kD λv hv=>(List.nodup_cons.mp nd).1 (List.of_mem_zip hv).1,if_pos hk]
  simp
 | p::P,w::vs,i+1,m,nd,h1,h2,hk=>by
  show bindL kindOf ((p,w)::P.zip vs) m x=_
  unfold bindL
  exact kE (i:=i) (List.nodup_cons.mp nd).2 (by simpa using h1) (by simpa using h2) hk
theorem kI{kindOf:Str->Option NameKind}{x:Str}{v:Value}:∀{P:List Str} {vs:List Value} {i:Nat} {m:Str->Option Value},P.Nodup->P[i]?=some x->vs[i]?=some v->kindOf x≠some .local ->
  bindC kindOf (P.zip vs) m x=some v
 | [],_,_,_,_,h,_,_=>by simp at h
 | _::_,[],_,_,_,_,h,_=>by simp at h
 | p::P,w::vs,0,m,nd,h1,h2,hk=>by
  simp at h1 h2;subst h1;subst h2
  show bindC kindOf ((p,w)::P.zip vs) m p=_
  unfold bindC
  rw [kH λv hv=>(List.nodup_cons.mp nd).1 (List.of_mem_zip hv).1,if_neg hk]
  simp
 | p::P,w::vs,i+1,m,nd,h1,h2,hk=>by
  show bindC kindOf ((p,w)::P.zip vs) m x=_
  unfold bindC
  exact kI (i:=i) (List.nodup_cons.mp nd).2 (by simpa using h1) (by simpa using h2) hk
def start(N:List Str)(vs:List V):St:=vs.map some++List.replicate (N.length-vs.length) none
def nD(CX:CXT)(P:Program)(w:World)(K:PySem.W.Frag)(mg:Str->Option Value)(base:Heap)(N:List Str)(qual:Str)(scope:Scope)(f:Addr)(cd:Value)(A:Around)(outer:List Env)(s:Shared)(H:Hp)(E:XK):Cx where
 prog:=P
 w:=w
 K:=K
 mg:=mg
 base:=base
 A:=A.deeper (envOfC qual scope s.heap.objs.size f cd)
 N:=N
 s₀:=s
 H₀:=H
 env:=envOfC qual scope s.heap.objs.size f cd
 outer:=outer
 stack:=envOfC qual scope s.heap.objs.size f cd::outer
 ex:=[]
 calm:=true
 fn:=λ_=>true
 pn:=[]
 xe:=λe s'=>wpAny (model P w) (A.deeper (envOfC qual scope s.heap.objs.size f cd)) (leaving (envOfC qual scope s.heap.objs.size f cd) e) (λ_ s''=>CX outer H s E e s'') (λe' s''=>CX outer H s E e' s'') s'
theorem nF{sc:Scope}{n:Nat}{x:Str}(h:sc.names.lookup x=some .cell):∃c,(cellsFrom n sc.names []).lookup x=some c:=by
 have q:=PySem.W.cellsFrom_some sc.names n [] (.inl h)
 exact Option.isSome_iff_exists.mp q
theorem qU{CX:CXT}{P:Program}{w:World}{K:PySem.W.Frag}{mg:Str->Option Value}{base:Heap}{N ps:List Str}{qual:Str}{scope:Scope}{f:Addr}{cd:Value}{A:Around}{outer:List Env}{s s1:Shared}{H:Hp}{E:XK}{us:List Value}{vs:List V}
  (S:al N ps scope)(hd:A.handled=none)(e0:Env0 P w K mg base A outer s H)(hl:vs.length=ps.length)(r:Vals vs us)
  (x:InCallC s s.heap.objs.size (bindL (envOfC qual scope s.heap.objs.size f cd).kindOf (ps.zip us) λ_=>none) (cellsFrom (s.heap.objs.size+1) scope.names []) (bindC (envOfC qual scope s.heap.objs.size f cd).kindOf (ps.zip us) λ_=>none) s1) :
  Inv (nD CX P w K mg base N qual scope f cd A outer s H E) [] (start N vs) H s1:=by
 have hpl:ps.length<=N.length:=by have:=congrArg List.length S.pre;rw [List.length_take] at this;omega
 obtain ⟨h1,tk,rfl,hk⟩:=x.done
 have noA:∀b:Addr,b∉(nD CX P w K mg base N qual scope f cd A outer s H E).ex:=λb z=>absurd (show b∈([]:List Addr) from z) (by simp)
 refine ⟨⟨e0.mod,S.kind,rfl,rfl,Nat.le_refl _,λy z c h1 h2=>?_,λy hy=>?_,λy c _ h=>?_,λ_=>hd,Around.frames_deeper e0.frames,.inr ⟨rfl,rfl⟩,λb z=>absurd z (noA b),e0.bs,e0.bsz,λb _ _=>noA b,λb z=>absurd z (noA b),e0.funs,e0.frf⟩,
  rfl,e0.bare,Un.kept hk,⟨_,x.toInCall.ns,λi y v h1 h2 h3=>?_⟩,λy c h=>⟨_,x.cell y c h⟩,e0.hok.fresh (Nat.le_refl _),λy c h=>?_,λp hp=>absurd (show p∈([]:List (Addr×Obj)) from hp) (by simp),e0.hok.kept hk,?_⟩
 ·exact name_of_addr x.apart (PySem.mem_of_lookup h1) (PySem.mem_of_lookup h2)
 ·have hy:scope.names.lookup y=some .cell\/scope.names.lookup y=some .free:=hy
  rcases hy with hy | hy
  ·exact nF hy
  ·exact absurd rfl (S.nofree _ (PySem.mem_of_lookup hy))
 ·exact Nat.le_of_lt (x.above y c (PySem.mem_of_lookup h))
 ·have hi:i<vs.length:=by
   unfold start at h2
   by_cases hi:i<vs.length
   ·exact hi
   ·rw [List.getElem?_append_right (by simpa using hi)] at h2
    rw [List.getElem?_replicate] at h2
    split at h2<;>cases h2
  have ha:vs[i]?=some v:=by
   unfold start at h2
   rw [List.getElem?_append_left (by simpa using hi),List.getElem?_map] at h2
   cases e:vs[i]? with
   | none=>rw [e] at h2;cases h2
   | some a=>rw [e] at h2;cases h2;rfl
  obtain ⟨u,hu,rv⟩:=r.get ha
  have hp:ps[i]?=some y:=by
   rw [← S.pre,List.getElem?_take_of_lt (by omega)];exact h1
  have ndP:ps.Nodup:=by rw [← S.pre];exact S.nd.sublist (List.take_sublist _ _)
  refine ⟨u,rv,?_⟩
  rcases S.par y (List.mem_of_getElem? hp) with k | k
  ·exact .inl ⟨k,kE ndP hp hu k⟩
  ·obtain ⟨c,e⟩:=nF (n:=s.heap.objs.size+1) k
   refine .inr ⟨.inl k,c,e,?_⟩
   have q:=x.cell y c e
   rw [kI ndP hp hu (by show scope.names.lookup y≠_;rw [k];decide)] at q
   exact q
 ·exact e0.hok.fresh (Nat.le_of_lt (x.above y c (PySem.mem_of_lookup h)))
 ·unfold start
  show _=N.length
  rw [List.length_append,List.length_map,List.length_replicate]
  omega
theorem w6{CX:CXT}{P:Program}{w:World}{K:PySem.W.Frag}{mg:Str->Option Value}{base:Heap}{k:Nat}{f:Addr}{name qual:Str}{params:Arguments}{body:List Stmt}{scope:Scope}{dV kV doc pm cdv ct oc:Value}{an od:Option Addr}
  {osl:Array (Option Value)}{N ps:List Str}{sp:Sp}(lk:K.lookup f=some ⟨oc,od,.func (PySem.W.fnOf name qual params body scope dV kV doc pm an cdv ct),osl⟩)(hcd:PySem.W.codeIn K cdv qual=true)(S:al N ps scope)
  (len:∀vs H Q E,sp vs H Q E->vs.length=ps.length)
  (hbody:∀(A:Around) (outer:List Env) (s:Shared) (H:Hp) (vs:List V) (Q:VK) (E:XK),Room k (A.deeper (envOfC qual scope s.heap.objs.size f cdv))->sp vs H Q E ->
   ∃t,PSs (nD CX P w K mg base N qual scope f cdv A outer s H E) body t/\t {nx:=λ_ H'=>Q .non H',rt:=Q} (start N vs) H) :
  FnOk P w K mg base CX (k+1) f (PySem.W.fnOf name qual params body scope dV kV doc pm an cdv ct) ps sp:=by
 refine ⟨len,λA outer s H args us vs Q E hr e0 hb r hsp=>?_⟩
 have hl:=len _ _ _ _ hsp
 have KX:K.In s.heap:=e0.mod.kin.keeps λb o e=>(e0.bs b o e).1
 have lim:s.heap.NoLimit:=e0.mod.nolimit.keeps λb o e=>(e0.bs b o e).1
 have hkind:∀y∈ps.zip us,scope.names.lookup y.1=some .local\/(scope.names.lookup y.1=some .cell/\((cellsFrom (s.heap.objs.size+1) scope.names []).lookup y.1).isSome=true):=λ⟨n,v⟩ hy=>by
  rcases S.par n (List.of_mem_zip hy).1 with q | q
  ·exact .inl q
  ·exact .inr ⟨q,PySem.W.cellsFrom_some _ _ _ (.inl q)⟩
 refine codeAny_call_function hr.depth (KX _ _ lk) rfl S.co S.gen rfl (PySem.W.codeRec_of KX hcd) (hb _ _ _ _ ?_)
 refine wpAny_newFunctionEnv_cells S.kind hkind λenv he s1 x=>?_
 subst he
 refine ⟨lim.keeps x.toInCall.keep,codeAny_func ?_⟩
 obtain ⟨t,ht,hq⟩:=hbody A outer s H vs Q E (hr.deeper _) hsp
 have I:Inv (nD CX P w K mg base N qual scope f cdv A outer s H E) [] (start N vs) H s1:=qU S hr.hd e0 hl r x
 refine wpAny_mono (ht [] s1 (start N vs) H _ I hq) (λfl s' hs=>?_) λe s' hs=>hs
 have fin:∀{σ':St} {H':Hp} {v:V} {u:Value},Inv (nD CX P w K mg base N qual scope f cdv A outer s H E) [] σ' H' s'->RelV v u->Q v H'->CE outer P w H s Q u s' :=
  λ{σ' H' v u} J rv q=>⟨v,H',J.os,J.bare,J.base,J.hok,rv,q⟩
 cases fl with
 | ret u =>
  obtain ⟨v,σ',H',J,rv,q⟩:=hs
  exact fin J rv q
 | next =>
  obtain ⟨σ',H',J,q⟩:=hs
  exact fin (v:=V.non) (u:=Value.none) J rfl q
 | brk =>
  obtain ⟨_,_,_,q⟩:=hs
  exact False.elim q
 | cont =>
  obtain ⟨_,_,_,q⟩:=hs
  exact False.elim q
end L2
namespace L2
open PySem PySem.Spec PyProof.Rows
section
variable {X:Cx}{x:Str}{p pos:Pos}{e:Expr}{es:List Expr}{t:TA}{id T:String}{r:List V->Hp->VK->Prop}
def tCB(r:List V->Hp->VK->Prop)(t:TA):TE:=fun σ H Q=>t σ H λvs H1=>r vs H1 Q
theorem au(hc:dD X (.builtin id) r)(hg:Gl X x)(hm:X.mg x=none)(hv:bootBuiltins x=some (.builtin id))(ha:PA X (e::es) t)(hn:x≠"__name__":=by decide)(hdb:(x==("__debug__":Str))=false:=by decide)
  (he:starEach (e::es) X.env=(false,eval e X.env)::starEach es X.env:=by rfl)(hpl:(backTo pos (starEach es X.env)).any (·.1)=false:=by rfl):PE X (.Call (.Name x p) (e::es) [] pos) (tCB r t):=by
 intro pins s σ H Q I h
 refine wpAny_Call_Name_kw (jv I hg hm hv ?_ hn hdb)
 exact PyProof.Rows.callWith_builtin1 (thn (ha pos pins s σ H _ I h) λus s1 ⟨vs,H1,I1,r1,q1⟩=>hc pins s1 σ H1 vs us Q I1 r1 q1) he hpl
theorem aO(hc:dD X (.type T) r)(hg:Gl X x)(hm:X.mg x=none)(hv:bootBuiltins x=some (.type T))(ha:PA X (e::es) t)(hn:x≠"__name__":=by decide)(hdb:(x==("__debug__":Str))=false:=by decide)
  (he:starEach (e::es) X.env=(false,eval e X.env)::starEach es X.env:=by rfl)(hpl:(backTo pos (starEach es X.env)).any (·.1)=false:=by rfl):PE X (.Call (.Name x p) (e::es) [] pos) (tCB r t):=by
 intro pins s σ H Q I h
 refine wpAny_Call_Name_kw (jv I hg hm hv ?_ hn hdb)
 exact PyProof.Rows.callWith_type1 (thn (ha pos pins s σ H _ I h) λus s1 ⟨vs,H1,I1,r1,q1⟩=>hc pins s1 σ H1 vs us Q I1 r1 q1) he hpl
end
end L2
namespace HT
open PySem PyProof.Rows
def d8:List Int->List Int->Bool
 | [],[]=>false
 | [],_::_=>true
 | _::_,[]=>false
 | x::xs,y::ys=>if x=y then d8 xs ys else decide (x<y)
theorem oS(x y:Int)(xs ys:List Int):d8 (x::xs) (y::ys)=if x=y then d8 xs ys else decide (x<y):=rfl
theorem jU:d8 [] []=false:=rfl
theorem jt(y:Int)(ys:List Int):d8 [] (y::ys)=true:=rfl
theorem ju(x:Int)(xs:List Int):d8 (x::xs) []=false:=rfl
theorem uA(A:Around)(s:Shared)(a:Int)(t:Tok)(c:Int)(u:Tok):∃e,SeqAt.EqAt A s (.int a t) (.int c u) e/\(e=true↔a=c) :=
 ⟨(a==c),SeqAt.EqAt.int_int a t c u,by simp⟩
theorem sO(A:Around)(s:Shared)(a:Int)(t:Tok)(c:Int)(u:Tok)(prog:Program)(w:World)(E:Value->Shared->Prop)(Q:Value->Shared->Prop)(h:Q (.bool (decide (a<c))) s) :
  wpAny (model prog w) A (richCompare .Lt (.int a t) (.int c u)) Q E s :=
 (PyProof.Rows.lt_int h:wpAny (model prog w) A (compareOp .Lt (.int a t) (.int c u)) Q E s)
section
open PySem.SeqAt
open PySem.AutoSeq1 (wpAny_loadPart')
open PySem.MeetsSeq PySem.MeetsSeq2 PySem.MeetsSeq3
theorem jL(l b:Addr)(items items2:Array Value)(n n2:Nat)(dd dd2:Option Addr)(sl sl2:Array (Option Value))(ns ms:List Int)(hi:IntsAre items.toList ns)(hj:IntsAre items2.toList ms) :
  Meets (Builtin.«tuple.__lt__» ⟨[.ref l, .ref b], []⟩)
   (λ_ R s=>s.heap.get? l=some {cls:=.type "tuple",dict:=dd,data:=.seq items n,slots:=sl}/\s.heap.get? b=some {cls:=.type "tuple",dict:=dd2,data:=.seq items2 n2,slots:=sl2} /\
    R (.ok (.ret (.bool (d8 ns ms)))) s) :=
 .of_wp λprog w A R s h=>by
  obtain ⟨hp,g,d,tk,os⟩:=s;obtain ⟨hl,hb,h⟩:=h
  have f2:=AutoSeq1.sub_tuple_tuple
  have z1:items.size=ns.length:=by rw [← hi.length];simp
  have z2:items2.size=ms.length:=by rw [← hj.length];simp
  wp_walk using wpAny_loadPart' hl,wpAny_loadPart' hb,wpAny_forIn_list _ (λrest b s'=>b.1=none/\s'=⟨hp,g,d,tk,os⟩/\∃(vs ws:List Value) (ns' ms':List Int),rest=vs.zip ws /\
   IntsAre vs ns'/\IntsAre ws ms'/\ns'.length+items2.size=ms'.length+items.size/\R (.ok (.ret (.bool (d8 ns' ms')))) ⟨hp,g,d,tk,os⟩) _
  case turn =>
   rintro ⟨y,x⟩ rest b s' ⟨hb',rfl,vs,ws,ns',ms',hz,hvi,hwi,hlen,hR⟩
   cases hvi with
   | nil=>rw [List.zip_nil_left] at hz;cases hz
   | cons a t hvi' =>
    cases hwi with
    | nil=>rw [List.zip_nil_right] at hz;cases hz
    | cons c u hwi' =>
     rw [List.zip_cons_cons] at hz
     injection hz with hyx hrest
     injection hyx with hy hx
     subst hy hx
     rw [oS] at hR
     simp only [List.length_cons] at hlen
     obtain ⟨e,he,hiff⟩:=uA A.in1 ⟨hp,g,d,tk,os⟩ a t c u
     refine wpAny_bind (he prog w _ _ ?_)
     cases e with
     | true =>
      rw [if_pos (hiff.mp rfl)] at hR
      wp_walk
      exact ⟨rfl,rfl,_,_,_,_,hrest,hvi',hwi',by omega,hR⟩
     | false =>
      rw [if_neg (λq=>absurd (hiff.mpr q) Bool.false_ne_true)] at hR
      have hri:=sO A.in1 ⟨hp,g,d,tk,os⟩ a t c u prog w
      wp_walk using hri
      exact ⟨_,rfl,by simpa using hR⟩
  case fin =>
   rintro ⟨b1,b2⟩ s' ⟨hb',rfl,vs,ws,ns',ms',hz,hvi,hwi,hlen,hR⟩
   simp only at hb'
   subst hb'
   have hv:d8 ns' ms'=decide (items.size<items2.size):=by
    cases hvi with
    | nil =>
     cases hwi with
     | nil =>
      simp only [List.length_nil] at hlen
      rw [jU]
      exact (decide_eq_false (by omega)).symm
     | cons c u hw =>
      simp only [List.length_nil,List.length_cons] at hlen
      rw [jt]
      exact (decide_eq_true (by omega)).symm
    | cons a t hv =>
     cases hwi with
     | nil =>
      simp only [List.length_nil,List.length_cons] at hlen
      rw [ju]
      exact (decide_eq_false (by omega)).symm
     | cons c u hw =>
      rw [List.zip_cons_cons] at hz
      cases hz
   rw [hv] at hR
   wp_walk
   exact ⟨_,rfl,by simpa [Builtin.Tuple.tupleCompareSizes] using hR⟩
  case h =>
   exact ⟨rfl,rfl,items.toList,items2.toList,ns,ms,rfl,hi,hj,by omega,h⟩
end
section
variable {prog:Program}{w:World}{A:Around}{E:Value->Shared->Prop}{s:Shared}
theorem oQ{l b:Addr}{items items2:Array Value}{ns ms:List Int}{Q:Value->Shared->Prop}(hl:IsTup s.heap l items)(hb:IsTup s.heap b items2)(hi:IntsAre items.toList ns)(hj:IntsAre items2.toList ms)
  (hu:A.units<cLine)(h:Q (.bool (d8 ns ms)) s):wpAny (model prog w) A (compareOp .Lt (.ref l) (.ref b)) Q E s:=by
 obtain ⟨⟨cls,dd,data,sl⟩,ho,hc,n,hd⟩:=id hl
 obtain ⟨⟨cls2,dd2,data2,sl2⟩,ho2,hc2,n2,hd2⟩:=id hb
 simp only at hc hd hc2 hd2
 subst hc hd hc2 hd2
 exact richCompare_meets_room (op:=.Lt) ⟨_,ho,rfl⟩ ⟨_,ho2,rfl⟩ PySem.F.slot_tuple_lt PySem.F.entry_tuple_lt (PySem.F.args_tuple_lt_2 _ _) (jL l b items items2 n n2 dd dd2 sl sl2 ns ms hi hj)
  ⟨ho,ho2,show Value.bool (d8 ns ms)≠Value.notImplemented/\Q (.bool (d8 ns ms)) s from ⟨(λx=>nomatch x),h⟩⟩ hu
theorem ww{t b:Addr}{vs ws:List Value}{Q:Value->Shared->Prop}(ht:IsTup s.heap t vs.toArray)(hb:IsTup s.heap b ws.toArray)(hv:vs≠[])
  (h1:ws=[]->Q (.ref t) s)(h2:ws≠[]->Q (.ref s.heap.objs.size) {s with heap:=s.heap.push {cls:=.type "tuple",data:=.seq (vs++ws).toArray}})
  (hsz:vs.length+ws.length<=sizeLine):wpAny (model prog w) A (binaryOp .Add (.ref t) (.ref b)) Q E s:=by
 obtain ⟨⟨cls,dd,data,sl⟩,ho,hc,n,hd⟩:=id ht
 obtain ⟨⟨cls2,dd2,data2,sl2⟩,ho2,hc2,n2,hd2⟩:=id hb
 simp only at hc hd hc2 hd2
 subst hc hd hc2 hd2
 have e:vs.toArray++ws.toArray=(vs++ws).toArray:=by simp
 by_cases hw:ws=[]
 ·exact concat_meets ⟨_,ho,rfl⟩ ⟨_,ho2,rfl⟩ noFill_tuple_add seq_tuple_add PySem.F.slot_tuple_add PySem.F.entry_tuple_add (PySem.F.args_tuple_add_2 _ _)
   (tuple_addW1 t b vs.toArray ws.toArray n n2 dd dd2 sl sl2 (by simpa using hv) (by simp [hw])) ⟨ho,ho2,h1 hw⟩
 ·refine concat_meets ⟨_,ho,rfl⟩ ⟨_,ho2,rfl⟩ noFill_tuple_add seq_tuple_add PySem.F.slot_tuple_add PySem.F.entry_tuple_add (PySem.F.args_tuple_add_2 _ _)
   (tuple_addW2 t b vs.toArray ws.toArray n n2 dd dd2 sl sl2 (by simpa using hv) (by simpa using hw) (by rw [List.size_toArray,List.size_toArray];exact hsz)) ⟨ho,ho2,?_⟩
  rw [e]
  exact h2 hw
def sIx(n d:Nat):Option Int->Nat
 | none=>d
 | some v=>if v<0 then (v+(n:Int)).toNat else min v.toNat n
theorem sH(n d:Nat):sIx n d none=d:=rfl
theorem vk(n d k:Nat):sIx n d (some (k:Int))=min k n:=by
 show (if (k:Int)<0 then ((k:Int)+(n:Int)).toNat else min (k:Int).toNat n)=min k n
 rw [if_neg (by omega),Int.toNat_natCast]
end
end HT
namespace L2
open PySem PySem.Spec PyProof.Rows
abbrev TO:=St->Hp->(Option Int->Hp->Prop)->Prop
def PO(X:Cx)(e:Option Expr)(t:TO):Prop :=
 ∀(pins:List (Addr×Obj)) (s:Shared) (σ:St) (H:Hp) (Q:Option Int->Hp->Prop),Inv X pins σ H s->t σ H Q ->
  wpAny (model X.prog X.w) X.A (evalPart e X.env) (λu s'=>∃o H',Inv X pins σ H' s'/\IsPart u o/\Q o H') X.xe s
def uX:TO:=λ_ H Q=>Q none H
def yR(t:TE):TO:=fun σ H Q=>t σ H λx H1=>∃i,x=.int i/\Q (some i) H1
theorem oZ{ns:List Int}:∀{us:List Value},Vals (ns.map V.int) us->IntsAre us ns:=by
 induction ns with
 | nil=>intro us r;rw [List.map_nil] at r;cases r;exact .nil
 | cons n ns ih =>
  intro us r
  rw [List.map_cons] at r
  cases r with
  | cons r1 r2 =>
   obtain ⟨t,e⟩:=r1
   subst e
   exact .cons n t (ih r2)
section
variable {X:Cx}{e:Expr}{te:TE}{lo hi:Option Expr}{tl th:TO}{pos p2:Pos}
theorem pO:PO X none uX:=by
 intro pins s σ H Q I h
 rw [evalPart_none]
 exact wpAny_pure ⟨none,H,I,.none,h⟩
theorem dF(h:PE X e te):PO X (some e) (yR te):=by
 intro pins s σ H Q I hw
 rw [evalPart_some]
 refine thn (h pins s σ H _ I hw) λu s1 ⟨x,H1,I1,r1,q1⟩=>?_
 obtain ⟨i,rfl,q⟩:=q1
 obtain ⟨t,rfl⟩:=r1
 exact ⟨some i,H1,I1,.int i t,q⟩
def SlR(X:Cx)(r:V->Option Int->Option Int->Hp->VK->Prop):Prop :=
 ∀(pins:List (Addr×Obj)) (s:Shared) (σ:St) (H:Hp) (x:V) (v vl vu:Value) (lo hi:Option Int) (sl:Addr) (Q:VK),Inv X pins σ H s->RelV x v->s.heap.IsSliceOf sl vl vu .none->IsPart vl lo->IsPart vu hi->r x lo hi H Q ->
  ∃T id,typeLookup (.type T) "__getitem__"=pure (some (.builtin id))/\s.TypeIs v T/\wpAny (model X.prog X.w) X.A (getItem v (.ref sl)) (EP X pins σ Q) X.xe s
def tSl(r:V->Option Int->Option Int->Hp->VK->Prop)(te:TE)(tl th:TO):TE:=fun σ H Q=>te σ H λx H1=>tl σ H1 λl H2=>th σ H2 λu H3=>r x l u H3 Q
theorem ft{r:V->Option Int->Option Int->Hp->VK->Prop}(hr:SlR X r)(he:PE X e te)(hl:PO X lo tl)(hu:PO X hi th):PE X (.Subscript e (.Slice lo hi none p2) pos) (tSl r te tl th):=by
 intro pins s σ H Q I h
 refine Subscript_ (thn (he pins s σ H _ I h) λv s1 ⟨x,H1,I1,r1,q1⟩=>?_)
 refine wpAny_Slice (thn (hl pins s1 σ H1 _ I1 q1) λvl s2 ⟨l,H2,I2,pl,q2⟩=>thn (hu pins s2 σ H2 _ I2 q2) λvu s3 ⟨u,H3,I3,pu,q3⟩=>?_)
 rw [evalPart_none]
 refine wpAny_pure ?_
 have I4:Inv X pins σ H3 {s3 with heap:=s3.heap.push {cls:=.type "slice",data:=.fields #[vl,vu,.none]}}:=I3.kept (t':=s3.toks) λb ob q=>Heap.get?_push_of_some _ q
 obtain ⟨T,id,hT,ht,hg⟩:=hr pins {s3 with heap:=s3.heap.push {cls:=.type "slice",data:=.fields #[vl,vu,.none]}} σ H3 x v vl vu l u s3.heap.objs.size Q I4 r1 (Heap.IsSliceOf.new ..) pl pu q3
 show wpAny (model X.prog X.w) X.A (subscriptTail e (.Slice lo hi none p2) v (.ref s3.heap.objs.size)) (EP X pins σ Q) X.xe {s3 with heap:=s3.heap.push {cls:=.type "slice",data:=.fields #[vl,vu,.none]}}
 exact tail_any (ops:=[.ref s3.heap.objs.size,v]) ht hT hg (by with_unfolding_all rfl)
def gi(xs:List V)(lo hi:Option Int):List V:=(xs.drop (HT.sIx xs.length 0 lo)).take (HT.sIx xs.length xs.length hi-HT.sIx xs.length 0 lo)
theorem nE(xs:List V)(lo hi:Option Int):(gi xs lo hi).length<=xs.length:=by
 unfold gi
 rw [List.length_take,List.length_drop]
 omega
def wP(K:PySem.W.Frag):R2:=λx y H Q=>∃a b xs ys,x=.ref a/\y=.ref b/\SqT K H a xs/\SqT K H b ys/\xs≠[]/\xs.length+ys.length<=sizeLine /\
 (ys=[]->Q (.ref a) H)/\(ys≠[]->∀p,H p=none->Q (.ref p) (upd H p (.tup (xs++ys))))
theorem Vals.nil_iff{xs:List V}{us:List Value}(r:Vals xs us):us=[]↔xs=[]:=by
 cases r with
 | nil=>simp
 | cons _ _=>simp
theorem vE:OpR X (binaryOp .Add) (wP X.K):=by
 intro pins s σ H x y v u Q I rx ry h
 obtain ⟨a,b,xs,ys,rfl,rfl,ha,hb,hx,hz,q1,q2⟩:=h
 cases rx
 cases ry
 obtain ⟨its,r1,p1,_⟩:=I.tuple ha
 obtain ⟨its2,r2,p2,_⟩:=I.tuple hb
 refine HT.ww p1 p2 (λz=>hx (r1.nil_iff.mp z)) (λz=>⟨.ref a,H,I,rfl,q1 (r2.nil_iff.mp z)⟩) (λz=>?_) (by rw [← r1.length,← r2.length];exact hz)
 refine ⟨.ref s.heap.objs.size,_,I.laid (t':=s.toks) (o:=.tup (xs++ys)) (λb ob q=>Heap.get?_push_of_some _ q) (Nat.le_refl _) ?_,rfl,q2 (λw=>z (r2.nil_iff.mpr w)) _ (I.hok.fresh (Nat.le_refl _))⟩
 exact ⟨by rw [List.length_append];exact hz,_,r1.append r2,IsTup.new _ _⟩
end
end L2
namespace L2
open PySem PySem.Spec PyProof.Rows
def ixN(n:Nat)(i:Int):Option Nat:=if 0<=i then (if i<n then some i.toNat else none) else if -(n:Int)<=i then some (i+n).toNat else none
def atI{α:Type}(xs:List α)(i:Int):Option α:=(ixN xs.length i).bind λj=>xs[j]?
theorem we{n:Nat}{i:Int}{j:Nat}(h:ixN n i=some j):seqIndex? i n=some j/\j<n/\-(n:Int)<=i/\i<n:=by
 unfold ixN at h
 by_cases h0:0<=i
 ·rw [if_pos h0] at h
  by_cases h1:i<n
  ·rw [if_pos h1] at h
   have e:i.toNat=j:=Option.some.inj h
   exact ⟨by rw [seqIndex_of h0 h1,e],by omega,by omega,h1⟩
  ·rw [if_neg h1] at h;cases h
 ·rw [if_neg h0] at h
  by_cases h1:-(n:Int)<=i
  ·rw [if_pos h1] at h
   have e:(i+n).toNat=j:=Option.some.inj h
   exact ⟨by rw [seqIndex_neg (by omega) h1,e],by omega,h1,by omega⟩
  ·rw [if_neg h1] at h;cases h
theorem l8{α:Type}{xs:List α}{i:Int}{v:α}(h:atI xs i=some v):∃j,seqIndex? i xs.length=some j/\xs[j]?=some v/\j<xs.length/\-(xs.length:Int)<=i/\i<xs.length:=by
 unfold atI at h
 cases e:ixN xs.length i with
 | none=>rw [e] at h;cases h
 | some j =>
  rw [e] at h
  obtain ⟨h1,h2,h3,h4⟩:=we e
  exact ⟨j,h1,h,h2,h3,h4⟩
theorem bn{α:Type}{xs:List α}{j:Nat}{v:α}(h:xs[j]?=some v):atI xs (j:Int)=some v:=by
 have hj:j<xs.length:=(List.getElem?_eq_some_iff.mp h).1
 have e:ixN xs.length (j:Int)=some j:=by
  unfold ixN
  rw [if_pos (by omega),if_pos (by omega)];simp
 unfold atI;rw [e];exact h
theorem jK{α:Type}(xs:List α)(v:α):atI (xs++[v]) (-1)=some v:=by
 have hl:(xs++[v]).length=xs.length+1:=by simp
 have e:ixN (xs++[v]).length (-1)=some xs.length:=by
  unfold ixN
  rw [hl,if_neg (by decide),if_pos (by omega)]
  congr 1
  omega
 unfold atI
 rw [e]
 show (xs++[v])[xs.length]?=some v
 simp
def qb(b:Expr):Prop:=∀o i,subscripted b false o i=operate [o,i] (getItem o i)
def IxR(X:Cx)(r:R2):Prop :=
 ∀(value slice:Expr) (pins:List (Addr×Obj)) (s:Shared) (σ:St) (H:Hp) (x y:V) (v u:Value) (Q:VK),Inv X pins σ H s->RelV x v->RelV y u->r x y H Q ->
  subscripted slice false v u=operate [v,u] (getItem v u)->wpAny (model X.prog X.w) X.A (subscriptTail value slice v u) (EP X pins σ Q) X.xe s
def MtR(X:Cx)(id:String)(r:V->List V->Hp->VK->Prop):Prop :=
 ∀(pins:List (Addr×Obj)) (s:Shared) (σ:St) (H:Hp) (x:V) (xs:List V) (v:Value) (us:List Value) (Q:VK),Inv X pins σ H s->RelV x v->Vals xs us->r x xs H Q ->
  wpAny (model X.prog X.w) X.A (call (.builtin id) (v::us)) (EP X pins σ Q) X.xe s
section
variable {X:Cx}{a b:Expr}{ta tb:TE}{pos:Pos}
theorem aG{r:R2}(hr:IxR X r)(ha:PE X a ta)(hb:PE X b tb)(hs:qb b):PE X (.Subscript a b pos) (tOp r ta tb):=by
 intro pins s σ H Q I h
 exact Subscript_ (yH ha hb I h λv u s2 x y H2 I2 rx ry q=>hr a b pins s2 σ H2 x y v u Q I2 rx ry q (hs _ _))
def cA(K:PySem.W.Frag):R2:=λx y H Q=>∃p xs i v,x=.ref p/\y=.int i/\SqL K H p xs/\atI xs i=some v/\Q v H
def cS(K:PySem.W.Frag):R2:=λx y H Q=>∃p xs i v,x=.ref p/\y=.int i/\SqT K H p xs/\atI xs i=some v/\Q v H
def zn:R2:=λx y H Q=>∃z i c,x=.str z/\y=.int i/\z.length<=sizeLine/\atI z.cps.toList i=some c/\Q (.str ⟨#[c]⟩) H
theorem aK:IxR X (cA X.K):=by
 intro value slice pins s σ H x y v u Q I rx ry h hs
 obtain ⟨p,xs,i,z,rfl,rfl,hq,he,q⟩:=h
 cases rx
 obtain ⟨t,rfl⟩:=ry
 obtain ⟨its,r,pl,hz⟩:=I.list hq
 obtain ⟨j,h1,h2,h3,h4,h5⟩:=l8 he
 obtain ⟨w,ew,rw'⟩:=r.get h2
 have hl:=r.length
 have hn:=io
 have fin:EP X pins σ Q w s:=⟨z,H,I,rw',q⟩
 by_cases h0:0<=i
 ·have hj:i.toNat=j:=by
   rw [seqIndex_of h0 h5] at h1
   exact Option.some.inj h1
  exact item_listR pl.isList h0 (by omega) (by rw [hj];simpa using ew) fin hs
 ·have hj:(i+(its.toArray.size:Int)).toNat=j:=by
   rw [seqIndex_neg (by omega) h4] at h1
   rw [List.size_toArray,← hl]
   exact Option.some.inj h1
  exact subscriptTail_builtinR (x:=w) pl.isList.typeIs slot_list_getitem.lookup
   (wpAny_getItem_list_neg (Q:=λr s'=>r=w/\EP X pins σ Q r s') pl.isList (by omega) (by rw [List.size_toArray]<;>omega) (by omega) (by rw [hj];simpa using ew) ⟨rfl,fin⟩) hs
theorem aV:IxR X (cS X.K):=by
 intro value slice pins s σ H x y v u Q I rx ry h hs
 obtain ⟨p,xs,i,z,rfl,rfl,hq,he,q⟩:=h
 cases rx
 obtain ⟨t,rfl⟩:=ry
 obtain ⟨its,r,pl,hz⟩:=I.tuple hq
 obtain ⟨j,h1,h2,h3,h4,h5⟩:=l8 he
 obtain ⟨w,ew,rw'⟩:=r.get h2
 have hl:=r.length
 have hn:=io
 have fin:EP X pins σ Q w s:=⟨z,H,I,rw',q⟩
 exact subscriptTail_builtinR (x:=w) pl.typeIs slot_tuple_getitem.lookup
  (getItem_tuple (j:=j) (Q:=λr s'=>r=w/\EP X pins σ Q r s') pl (by omega) (by omega) (by rw [List.size_toArray,← hl];exact h1) (by simpa using ew) ⟨rfl,fin⟩) hs
theorem uk:IxR X zn:=by
 intro value slice pins s σ H x y v u Q I rx ry h hs
 obtain ⟨z,i,c,rfl,rfl,hz,he,q⟩:=h
 obtain ⟨t,rfl⟩:=rx
 obtain ⟨t',rfl⟩:=ry
 obtain ⟨j,h1,h2,h3,h4,h5⟩:=l8 he
 have hl:z.cps.toList.length=z.length:=by simp [Str.length]
 rw [hl] at h1 h4 h5
 have hn:=io
 exact tail_any (typeIs_str s z t) slot_str_getitem.lookup (getItem_str (c:=c) (by
  have e1:decide (i < -(2 ^ 63:Int))=false:=decide_eq_false (by omega)
  have e2:decide (i≥2 ^ 63)=false:=decide_eq_false (by omega)
  rw [e1,e2,Bool.or_false]) (by rw [h1];simpa using h2) ⟨.str ⟨#[c]⟩,H,I.tok _,⟨_,rfl⟩,q⟩) hs
theorem k9(lo hi:Option Int)(n:Nat):(sliceBounds lo hi none n).1=((HT.sIx n 0 lo:Nat):Int)/\(sliceBounds lo hi none n).2.1=((HT.sIx n n hi:Nat):Int)/\(sliceBounds lo hi none n).2.2=1:=by
 refine ⟨?_,?_,rfl⟩
 ·cases lo with
  | none=>simp [sliceBounds,HT.sIx]
  | some i =>
   simp only [sliceBounds,HT.sIx,Option.getD_none,show (1:Int)>0 by decide,if_true]
   by_cases h:i<0
   ·simp only [h,if_true]<;>omega
   ·simp only [h,if_false]<;>omega
 ·cases hi with
  | none=>simp [sliceBounds,HT.sIx]
  | some i =>
   simp only [sliceBounds,HT.sIx,Option.getD_none,show (1:Int)>0 by decide,if_true]
   by_cases h:i<0
   ·simp only [h,if_true]<;>omega
   ·simp only [h,if_false]<;>omega
theorem jM(its:List Value)(lo hi:Option Int):slicePick its.toArray lo hi none=((its.drop (HT.sIx its.length 0 lo)).take (HT.sIx its.length its.length hi-HT.sIx its.length 0 lo)).toArray:=by
 obtain ⟨h1,h2,h3⟩:=k9 lo hi its.toArray.size
 unfold slicePick
 rw [h1,h2,h3]
 simp only [sliceRange_one,pick_run,List.size_toArray]<;>rfl
def zX(K:PySem.W.Frag):V->Option Int->Option Int->Hp->VK->Prop:=λx lo hi H Q=>∃a xs,x=.ref a/\SqL K H a xs/\∀p,H p=none->Q (.ref p) (upd H p (.lst (gi xs lo hi)))
theorem lc:SlR X (zX X.K):=by
 intro pins s σ H x v vl vu lo hi sl Q I rx hs pl pu h
 obtain ⟨a,xs,rfl,hx,q⟩:=h
 cases rx
 obtain ⟨its,r,ht,hz⟩:=I.list hx
 have hlen:=r.length
 refine ⟨"list",_,slot_list_getitem.lookup,ht.isList.typeIs,?_⟩
 refine wpAny_getItem_list_slice ht.isList hs pl pu .none (by simp) ?_ (by rw [List.size_toArray]<;>omega)
 rw [jM,← hlen]
 refine ⟨.ref s.heap.objs.size,_,I.laid (t':=s.toks) (o:=.lst (gi xs lo hi)) (λb ob q=>Heap.get?_push_of_some _ q) (Nat.le_refl _) ?_,rfl,q _ (I.hok.fresh (Nat.le_refl _))⟩
 exact ⟨Nat.le_trans (nE xs lo hi) hz,_,0,(r.drop (HT.sIx xs.length 0 lo)).take (HT.sIx xs.length xs.length hi-HT.sIx xs.length 0 lo),Heap.get?_push_size _ rfl⟩
theorem av:dD X (.builtin "len") (λxs H Q=>∃p ys,xs=[.ref p]/\(SqL X.K H p ys\/SqT X.K H p ys)/\Q (.int ys.length) H):=by
 intro pins s σ H xs us Q I r h
 obtain ⟨p,ys,rfl,hq,q⟩:=h
 obtain ⟨u,rfl,rx⟩:=cp r
 cases rx
 have hn:=io
 rcases hq with hq | hq
 ·obtain ⟨its,r',pl,hz⟩:=I.list hq
  have hlen:=r'.length
  exact Calls.call_len_list pl.isList (by simp only [List.size_toArray]<;>omega) ⟨.int ys.length,H,I.tok _,⟨s.toks+1,by rw [List.size_toArray,hlen]⟩,q⟩
 ·obtain ⟨its,r',pl,hz⟩:=I.tuple hq
  have hlen:=r'.length
  exact len_tuple pl (by simp only [List.size_toArray]<;>omega) ⟨.int ys.length,H,I.tok _,⟨s.toks+1,by rw [List.size_toArray,hlen]⟩,q⟩
theorem aW:dD X (.builtin "len") (λxs H Q=>∃z,xs=[.str z]/\z.length<=sizeLine/\Q (.int z.length) H):=by
 intro pins s σ H xs us Q I r h
 obtain ⟨z,rfl,hz,q⟩:=h
 obtain ⟨u,rfl,t,rfl⟩:=cp r
 have hn:=io
 exact len_str (by omega) ⟨.int z.length,H,I.tok _,⟨_,rfl⟩,q⟩
theorem eT:dD X (.type "list") (λxs H Q=>∃p ys,xs=[.ref p]/\(SqL X.K H p ys\/SqT X.K H p ys)/\∀l,H l=none->Q (.ref l) (upd H l (.lst ys))):=by
 intro pins s σ H xs us Q I r h
 obtain ⟨p,ys,rfl,hq,q⟩:=h
 obtain ⟨u,rfl,rx⟩:=cp r
 cases rx
 have fin:∀(its:List Value),Vals ys its->ys.length<=sizeLine->∀(h':Heap) (c':Nat),(∀b o',s.heap.get? b=some o'->h'.get? b=some o') ->
   h'.get? s.heap.objs.size=some {cls:=.type "list",dict:=none,data:=.seq its.toArray c',slots:=#[]}->EP X pins σ Q (.ref s.heap.objs.size) {s with heap:=h'}:=λits r' hz h' c' kp e =>
  ⟨.ref s.heap.objs.size,_,I.laid (t':=s.toks) kp (Nat.le_refl _) (show ObjOk X.prog X.w _ h' _ (.lst ys) from ⟨hz,its,c',r',e⟩),rfl,q _ (I.hok.fresh (Nat.le_refl _))⟩
 rcases hq with hq | hq
 ·obtain ⟨its,r',pl,hz⟩:=I.list hq
  have hlen:=r'.length
  obtain ⟨o,ho,hc,n,hd⟩:=pl.isList
  exact call_list_seq p (.inl rfl) ho hc hd (λh' c' kp e=>fin its r' hz h' c' kp e) (by simp only [List.size_toArray]<;>omega)
 ·obtain ⟨its,r',pl,hz⟩:=I.tuple hq
  have hlen:=r'.length
  obtain ⟨o,ho,hc,n,hd⟩:=pl
  exact call_list_seq p (.inr rfl) ho hc hd (λh' c' kp e=>fin its r' hz h' c' kp e) (by simp only [List.size_toArray]<;>omega)
theorem dX:dD X (.type "tuple") (λxs H Q=>∃p ys,xs=[.ref p]/\((SqL X.K H p ys/\∀l,H l=none->Q (.ref l) (upd H l (.tup ys)))\/(SqT X.K H p ys/\Q (.ref p) H))):=by
 intro pins s σ H xs us Q I r h
 obtain ⟨p,ys,rfl,h⟩:=h
 obtain ⟨u,rfl,rx⟩:=cp r
 cases rx
 rcases h with ⟨hq,q⟩ | ⟨hq,q⟩
 ·obtain ⟨its,r',pl,hz⟩:=I.list hq
  have hlen:=r'.length
  refine call_tuple_list pl.isList (λh' kp=>?_) (by simp only [List.size_toArray]<;>omega)
  have I1:Inv X pins σ H {s with heap:=h'}:=I.kept (t':=s.toks) kp
  have I2:Inv X pins σ (upd H h'.objs.size (.tup ys)) {s with heap:=h'.push {cls:=.type "tuple",data:=.seq its.toArray}} :=
   I1.laid (t':=s.toks) (λb o e=>Heap.get?_push_of_some _ e) (Nat.le_refl _) (show ObjOk X.prog X.w _ _ _ (.tup ys) from ⟨hz,its,r',IsTup.new _ _⟩)
  exact ⟨.ref h'.objs.size,_,I2,rfl,q _ (I1.hok.fresh (Nat.le_refl _))⟩
 ·obtain ⟨its,r',pl,hz⟩:=I.tuple hq
  exact call_tuple_same pl ⟨.ref p,H,I,rfl,q⟩
def tyV(K:PySem.W.Frag)(T:String)(x:V)(H:Hp):Prop:=match x with
 | .str _=>T="str"
 | .int _=>T="int"
 | .ref p=>(T="list"/\∃xs,SqL K H p xs)\/(T="tuple"/\∃o,K.lookup p=some o/\o.cls=.type "tuple"/\o.dict=none) \/
   (T="dict"/\((∃kvs,H p=some (.dK kvs))\/∃kvs,H p=some (.dT kvs)))\/(T="set"/\∃S n,H p=some (.set S n))
 | _=>False
theorem nX{pins:List (Addr×Obj)}{σ:St}{H:Hp}{s:Shared}{T:String}{x:V}{v:Value}(I:Inv X pins σ H s)(r:RelV x v)(ty:tyV X.K T x H) :
  s.TypeIs v T/\∀a,v=.ref a->∃ob,s.heap.get? a=some ob/\ob.dict=none:=by
 cases x with
 | str z =>
  obtain ⟨t,rfl⟩:=r
  cases (show T="str" from ty)
  exact ⟨typeIs_str s z t,λ_ e=>nomatch e⟩
 | int i =>
  obtain ⟨t,rfl⟩:=r
  cases (show T="int" from ty)
  exact ⟨typeIs_int s i t,λ_ e=>nomatch e⟩
 | ref p =>
  cases r
  rcases ty with ⟨rfl,xs,hq⟩ | ⟨rfl,o,hk,hc,hd⟩ | ⟨rfl,hk⟩ | ⟨rfl,S,n,hk⟩
  ·obtain ⟨its,_,pl,_⟩:=I.list hq
   refine ⟨pl.isList.typeIs,λa e=>?_⟩
   cases e
   obtain ⟨o,n,e,c,hd,_⟩:=pl
   exact ⟨o,e,hd⟩
  ·refine ⟨⟨o,I.kIn p o hk,hc⟩,λa e=>?_⟩
   cases e
   exact ⟨o,I.kIn _ o hk,hd⟩
  ·have z:∃o,s.heap.get? p=some o/\o.ExactDict:=by
    rcases hk with ⟨kvs,hk⟩ | ⟨kvs,hk⟩
    ·obtain ⟨_,_,_,_,o,_,_,e,ex,_⟩:=I.hok p _ hk
     exact ⟨o,e,ex⟩
    ·obtain ⟨_,_,_,_,o,_,_,e,ex,_⟩:=I.hok p _ hk
     exact ⟨o,e,ex⟩
   obtain ⟨o,e,ex⟩:=z
   refine ⟨⟨o,e,ex.1⟩,λa e2=>?_⟩
   cases e2
   exact ⟨o,e,ex.2.1⟩
  ·obtain ⟨o,_,_,_,e,ex,_⟩:=I.hok p _ hk
   refine ⟨⟨o,e,ex.1⟩,λa e2=>?_⟩
   cases e2
   exact ⟨o,e,ex.2.1⟩
 | _=>exact False.elim ty
def yW(K:PySem.W.Frag)(T:String)(r:V->List V->Hp->VK->Prop)(to:TE):TE:=fun σ H Q=>to σ H λx H1=>tyV K T x H1/\r x [] H1 Q
def tBM(K:PySem.W.Frag)(T:String)(r:V->List V->Hp->VK->Prop)(to:TE)(t:TA):TE:=fun σ H Q=>to σ H λx H1=>tyV K T x H1/\t σ H1 λxs H2=>r x xs H2 Q
variable {o e:Expr}{es:List Expr}{to:TE}{t:TA}{name:Str}{apos cpos:Pos}{T id:String}{r:V->List V->Hp->VK->Prop}
theorem xK(pa:PlainAttrs T)(slot:Slot T name id)(hty:typeOf (.builtin id)=pure (.type "method_descriptor"))(hm:MtR X id r)(ho:PE X o to)
  (hbase:attributeBase o name X.env (eval o X.env)=eval o X.env:=by rfl)(hline:(apos.endLine==cpos.line)=true:=by rfl):PE X (.Call (.Attribute o name apos) [] [] cpos) (yW X.K T r to):=by
 intro pins s σ H Q I h
 refine wpAny_Call_method0_late hbase hline (thn (ho pins s σ H _ I h) λv s1 ⟨x,H1,I1,r1,ty,q1⟩=>?_)
 obtain ⟨h1,h2⟩:=nX I1 r1 ty
 exact ⟨T,id,pa,slot,hty,h1,h2,Calls.callWith_builtin rfl (PySem.evalArgs_none (hm pins s1 σ H1 x [] v [] Q I1 r1 .nil q1))⟩
theorem d0(pa:PlainAttrs T)(slot:Slot T name id)(hty:typeOf (.builtin id)=pure (.type "method_descriptor"))(hm:MtR X id r)(ho:PE X o to)(ha:PA X (e::es) t)
  (hbase:attributeBase o name X.env (eval o X.env)=eval o X.env:=by rfl)
  (hfew:((backTo cpos (starEach (e::es) X.env)).all (λx=>!x.1)&&(backToKw cpos (keywordEach [] X.env)).all (λx=>x.1.isSome)
   && decide ((e::es).length+([]:List Keyword).length+(if ([]:List Keyword).isEmpty then 0 else 1)<30))=true:=by rfl)
  (hline:(apos.endLine==cpos.line)=true:=by rfl) (hs:starEach (e::es) X.env=(false,eval e X.env)::starEach es X.env:=by rfl) (hplain:(backTo cpos (starEach es X.env)).any (·.1)=false:=by rfl) :
  PE X (.Call (.Attribute o name apos) (e::es) [] cpos) (tBM X.K T r to t):=by
 intro pins s σ H Q I h
 refine wpAny_Call_method_late hbase hfew hline rfl (thn (ho pins s σ H _ I h) λv s1 ⟨x,H1,I1,r1,ty,q1⟩=>?_)
 obtain ⟨h1,h2⟩:=nX I1 r1 ty
 refine ⟨T,id,pa,slot,hty,h1,h2,?_⟩
 have hA:=ha cpos pins s1 σ H1 _ I1 q1
 rw [hs] at hA ⊢
 refine Calls.callWith_builtin (by show (false||(backTo cpos (starEach es X.env)).any (·.1))=false;rw [hplain]<;>rfl) (Calls.evalArgs_plain ?_)
 exact thn hA λus s2 ⟨vs,H2,I2,r2,q2⟩=>hm pins s2 σ H2 x vs v us Q I2 r1 r2 q2
end
end L2
namespace L2
open PySem PySem.Spec PyProof.Rows
def MtM(X:Cx)(id:String)(r:V->List V->Hp->VK->Prop):Prop :=
 ∀(pins:List (Addr×Obj)) (s:Shared) (σ:St) (H:Hp) (x:V) (xs:List V) (v:Value) (us:List Value) (Q:VK),Inv X pins σ H s->RelV x v->Vals xs us->r x xs H Q ->
  wpAny (model X.prog X.w) X.A (call (.builtin id) (v::us)) (EP X pins σ Q) X.xe s
theorem Vals.one:∀{x:V} {us:List Value},Vals [x] us->∃u,us=[u]/\RelV x u
 | _,_,.cons r .nil=>⟨_,rfl,r⟩
theorem Vals.two:∀{x y:V} {us:List Value},Vals [x,y] us->∃u v,us=[u,v]/\RelV x u/\RelV y v
 | _,_,_,.cons r (.cons q .nil)=>⟨_,_,rfl,r,q⟩
section
variable {X:Cx}{pins:List (Addr×Obj)}{σ:St}{H:Hp}{s:Shared}{l b:Addr}{xs ys zs:List V}
theorem Inv.lset{its its':List Value}{n:Nat}{f:Array Value->Array Value}{t':Nat}(I:Inv X pins σ H s)(hH:H l=some (.lst xs))
  (e:s.heap.get? l=some {cls:=.type "list",data:=.seq its.toArray n})(hf:f its.toArray=its'.toArray)(hv:Vals ys its')(hz:ys.length<=sizeLine) :
  Inv X pins σ (upd H l (.lst ys)) {s with heap:=s.heap.update l (Obj.mapSeq f),toks:=t'}:=by
 have q:=PySem.IsL.update e f
 rw [hf] at q
 refine I.write (x:=l) (e:=l) (by rw [hH];exact trivial) (.inl rfl) (λb' u hb hu=>(Heap.get?_update_other s.heap (Obj.mapSeq f) (Ne.symm hb)).trans hu) ⟨_,q⟩ ?_
 exact ⟨hz,its',_,hv,q⟩
theorem Inv.lnew{its:List Value}{t':Nat}(I:Inv X pins σ H s)(hv:Vals ys its)(hz:ys.length<=sizeLine) :
  Inv X pins σ (upd H s.heap.objs.size (.lst ys)) {s with heap:=s.heap.push {cls:=.type "list",data:=.seq its.toArray},toks:=t'} :=
 I.laid (λ_ _ q=>Heap.get?_push_of_some _ q) (Nat.le_refl _) ⟨hz,its,0,hv,Heap.get?_push_size _ rfl⟩
theorem Inv.fresh(I:Inv X pins σ H s):H s.heap.objs.size=none:=I.hok.fresh (Nat.le_refl _)
theorem Inv.lstM(I:Inv X pins σ H s)(hH:H l=some (.lst xs)):xs.length<=sizeLine/\∃(its:List Value) (n:Nat),Vals xs its/\xs.length=its.length/\s.heap.get? l=some {cls:=.type "list",data:=.seq its.toArray n}:=by
 obtain ⟨z,its,n,r,e⟩:=I.hok l _ hH
 exact ⟨z,its,n,r,r.length,e⟩
end
section
variable {X:Cx}
def vq:V->List V->Hp->VK->Prop:=λx vs H Q=>∃l xs y,x=.ref l/\vs=[y]/\H l=some (.lst xs)/\xs.length<sizeLine/\Q .non (upd H l (.lst (xs++[y])))
theorem dg:MtM X "list.append" vq:=by
 intro pins s σ H x vs v us Q I rx rv h
 obtain ⟨l,xs,y,rfl,rfl,hH,hz,q⟩:=h
 cases rx
 obtain ⟨u,rfl,ru⟩:=rv.one
 obtain ⟨z,its,n,r,hl,e⟩:=I.lstM hH
 refine call_meets F.slot_list_append ⟨_,e,rfl⟩ F.entry_list_append (F.args_list_append_2 _ _) (PySem.list_append l its.toArray n u (by rw [List.size_toArray];omega)) ⟨e,?_⟩
 refine ⟨.non,_,I.lset (its':=its++[u]) hH e (by simp) (r.append (.cons ru .nil)) ?_,rfl,q⟩
 rw [List.length_append,List.length_singleton]
 omega
def zY:R2:=λx y H Q=>∃l b xs zs,x=.ref l/\y=.ref b/\H l=some (.lst xs)/\H b=some (.lst zs)/\xs.length+zs.length<=sizeLine/\∀p,H p=none->Q (.ref p) (upd H p (.lst (xs++zs)))
theorem ti:OpR X (binaryOp .Add) zY:=by
 intro pins s σ H x y v u Q I rx ry h
 obtain ⟨l,b,xs,zs,rfl,rfl,hH,hB,hz,q⟩:=h
 cases rx
 cases ry
 obtain ⟨z,its,n,r,hl,e⟩:=I.lstM hH
 obtain ⟨z2,its2,n2,r2,hl2,e2⟩:=I.lstM hB
 refine PySem.P.add_list e e2 ?_ (by rw [List.size_toArray,List.size_toArray];omega)
 have ea:its.toArray++its2.toArray=(its++its2).toArray:=by simp
 rw [ea]
 exact ⟨.ref _,_,I.lnew (t':=s.toks) (r.append r2) (by rw [List.length_append];omega),rfl,q _ I.fresh⟩
end
end L2
namespace Att
open PySem PySem.W PySem.Calls PyProof.Rows
theorem iM{P:Params}{h:Heap}:∀(ns:List Int) (vs:List Value),WellAll P h vs (ns.map WData.int)->IntsAre vs ns:=by
 intro ns
 induction ns with
 | nil =>
  intro vs w
  rw [List.map_nil] at w
  cases w
  exact .nil
 | cons n ns ih =>
  intro vs w
  rw [List.map_cons] at w
  cases w with
  | cons a b =>
   cases a
   exact .cons _ _ (ih _ b)
theorem qw{l:OpenLaw}{n:Nat}(hn:l.most=some n){P:Params}{h:Heap}{args:List WData}{vals:List Value}
  (hpre:l.row.toRowW.claim.pre args=true)(hwl:WellAll P h vals args) :
  ∃a vs ns,vals=[Value.ref a]/\args=[WData.list (ns.map WData.int)]/\h.get? a=some {cls:=.type "list",data:=.seq vs.toArray}/\IntsAre vs ns/\ns.length<=n:=by
 have hsh:WShape.hasAll [] args [.list .int]=true:=(pre_splitW hpre).1
 have hc:l.pre.holds [] {args:=args}=true:=(pre_splitW hpre).2
 obtain ⟨d,r,rfl,h1,h2⟩:=hasAllW_cons hsh
 obtain rfl:=hasAllW_nil h2
 obtain ⟨xs,rfl,h3⟩:=hasW_list h1
 obtain ⟨ns,rfl⟩:=items_int h3
 have hlen:ns.length<=n:=by
  unfold OpenLaw.pre at hc
  have h4:(WTm.not (.lt (.lit (.int (n:Int))) (.len (.arg 0)))).holds [] {args:=[.list (ns.map .int)]}=true:=by
   have h4:=(holds_andW hc).1
   rw [hn] at h4
   exact h4
  have h5:=condW_of h4 (w_not (w_lt w_lit (w_len_list (w_arg rfl))))
  rw [List.length_map] at h5
  refine Nat.le_of_not_lt λq=>?_
  have q':(n:Int)<((ns.length:Nat):Int):=by omega
  first
   | (rw [decide_eq_true q'] at h5;exact absurd h5 (by decide))
   | (simp at h5;omega)
 cases hwl with
 | cons w1 w2 =>
  cases w2
  cases w1 with
  | list ho hall=>exact ⟨_,_,ns,rfl,rfl,ho,iM ns _ hall,hlen⟩
theorem qC(l:OpenLaw)(args:List WData):l.row.toRowW.claim.post args (.bool true) args=true :=
 postW_of (r:=l.row.toRowW) (X:=(true==true))
  (show WShape.has [] (.bool true) .bool=true by first | rfl | decide | simp [WShape.has,WShape.arms,WShape.armsAll])
  (show (WTm.eq .res (.lit (.bool true))).value [] {args:=args,res:=some (.bool true),after:=args}=some (.bool (true==true)) from w_eq_bool (w_res rfl) w_lit) rfl
theorem nJ{l:OpenLaw}{n:Nat}{q:Program}{loose:List Str}{XP:(Str->Option Value)->Heap->Prop}{YP:World->Heap->Prop}{d:DefRec}
  (hn:l.most=some n)(hdf:d.params.defaults=[])
  (call:∀(w:World) (s₀ s₁:Shared) (mg mb:Str->Option Value) (fa:Addr) (o:Obj) (pm cd doc:Value) (a:Addr) (vs:List Value) (ns:List Int),
   Ground q loose [] XP w s₀ mg mb s₁.heap->YP w s₁.heap ->
   s₁.heap.get? fa=some o->o.data=.func (docDef d.name d.params d.body d.scope pm cd doc)->s₁.heap.CodeRec cd d.name->mg d.name=some (.ref fa) ->
   s₁.heap.get? a=some {cls:=.type "list",data:=.seq vs.toArray}->IntsAre vs ns->ns.length<=n->s₁.gens=#[] ->
   codeAny (model l.prog w) callerA (.call (.ref fa) ⟨[.ref a],[]⟩) (λr s'=>r=.ok (.ret (.bool true))/\OldK s₁.heap s'.heap/\s'.os=s₁.os/\AllBare s'.gens) s₁) :
  WalkO q loose XP YP l.row.toRowW d [] (λf vs=>PySem.call f vs):=by
 intro w s₀ s₁ mg mb G Y fa o pm cd doc dV kV ho hd hcd hD hmg hg args vals as hpre hlay hrd hwl hlo
 obtain rfl:dV=.none:=Dflts.none hD hdf
 obtain rfl:kV=.none:=Dflts.noKw hD
 obtain ⟨a,vs,ns,rfl,rfl,hobj,hints,hlen⟩:=qw hn hpre hwl
 refine enter_call (codeAny_mono (call w s₀ s₁ mg mb fa o pm cd doc a vs ns G Y ho (fd_plain hd) hcd hmg hobj hints hlen hg) λr s' hq=>?_)
 obtain ⟨rfl,h2,h3,h4⟩:=hq
 exact ⟨.inl ⟨.bool true,.bool true,[],rfl,λ_=>rfl,.bool true,qC l _,λ_=>⟨List.Pairwise.nil,λ_ hm=>(nomatch hm)⟩⟩,h2,h3,h4⟩
section
variable {prog:Program}{w:World}{A:Around}{E:Value->Shared->Prop}{s:Shared}{K:Frag}
def fy(h:Heap):Heap:={h with objs:=#[]}
theorem eK(h:Heap)(b:Addr):(fy h).get? b=none:=by
 cases e:(fy h).get? b with
 | none=>rfl
 | some o=>exact absurd (Heap.lt_size e) (Nat.not_lt_zero _)
def gC(h:Heap)(L d:Addr):List (Addr×Obj):=(List.range h.objs.size).filterMap λa=>if a=L\/a=d then none else (h.get? a).map λo=>(a,o)
theorem mem_ledger{h:Heap}{L d a:Addr}{o:Obj}:(a,o)∈gC h L d↔a≠L/\a≠d/\h.get? a=some o:=by
 unfold gC
 rw [List.mem_filterMap]
 constructor
 ·rintro ⟨b,_,e⟩
  split at e
  ·cases e
  ·rename_i hb
   obtain ⟨o',ho,e'⟩:=Option.map_eq_some_iff.mp e
   cases e'
   exact ⟨λq=>hb (.inl q),λq=>hb (.inr q),ho⟩
 ·rintro ⟨n1,n2,ho⟩
  refine ⟨a,List.mem_range.mpr (Heap.lt_size ho),?_⟩
  rw [if_neg (show ¬(a=L\/a=d) from λq=>q.elim n1 n2),ho]<;>rfl
theorem yD{h:Heap}{L:Addr}{m:Str->Option Value}(n:h.Ns L m):Fr (fy h) L h m :=
 ⟨n,λb o e=>(by rw [eK] at e;cases e),Nat.zero_le _⟩
end
end Att
namespace L2
open PySem PySem.Spec PyProof.Rows
theorem fT:∀{vs:List Value} {ns:List Int},IntsAre vs ns->Vals (ns.map V.int) vs
 | _,_,.nil=>.nil
 | _,_,.cons n t h=>.cons ⟨t,rfl⟩ (fT h)
def yJ(H:Hp):Prop:=∀b,H b=none\/∃o xs,H b=some (.frz o (.lst xs))
theorem uh{P:Program}{w:World}{K:PySem.W.Frag}{mg mb:Str->Option Value}{CX:CXT}{k:Nat}{fa a:Addr}{fd:FuncData}{x:Str}{sp:Sp}{s₁:Shared}{vs:List Value}{ns:List Int}
  (KX:K.In s₁.heap)(hns:s₁.heap.Ns mainGlobals mg)(hb:s₁.heap.Ns builtinsNs mb)(hbb:∀x:Str,x≠"__name__"->mb x=bootBuiltins x)(hlim:s₁.heap.NoLimit)(hg:s₁.gens=#[])
  (ha:s₁.heap.get? a=some {cls:=.type "list",data:=.seq vs.toArray})(hi:IntsAre vs ns)(hl:ns.length<=sizeLine)(hr:Room k callerA)
  (F:∀base:Heap,K.In base->base.Ns mainGlobals mg->FnOk P w K mg base CX k fa fd [x] sp)(hbind:∀(s:Shared) (u:Value),BindsTo s fd ⟨[u],[]⟩ [(x,u)])
  (hsp:∀H:Hp,yJ H->SqL K H a (ns.map V.int)->sp [.ref a] H (λv _=>v=.bl true) λ_ _ _=>False)
  (hCX:∀H e s',CX [] H s₁ (λ_ _ _=>False) e s'->False) :
  codeAny (model P w) callerA (.call (.ref fa) ⟨[.ref a],[]⟩) (λr s'=>r=.ok (.ret (.bool true))/\OldK s₁.heap s'.heap/\s'.os=s₁.os/\AllBare s'.gens) s₁:=by
 have rv:=fT hi
 have lenV:=hi.length
 have core:∀H:Hp,yJ H->SqL K H a (ns.map V.int)->HOk P w H s₁.heap->(∀b,H b≠none->b=a)->(H a≠none->K.lookup a=none) ->
   codeAny (model P w) callerA (.call (.ref fa) ⟨[.ref a],[]⟩) (λr s'=>r=.ok (.ret (.bool true))/\OldK s₁.heap s'.heap/\s'.os=s₁.os/\AllBare s'.gens) s₁:=by
  intro H hO hS hok hA hK
  have base_of:∀{b:Addr} {o:Obj},s₁.heap.get? b=some o->H b=none->(lQ s₁.heap H).get? b=some o:=λe n=>um e n
  have noA:∀{b:Addr} {o:Obj} {es:Array DictEntry} {ep:Nat},s₁.heap.get? b=some o->o.data=.dict es ep->H b=none:=λ{b o es ep} e d=>by
   cases q:H b with
   | none=>rfl
   | some u =>
    have e':b=a:=hA b (by rw [q];simp)
    subst e'
    rw [ha] at e;cases e
    have d':Data.seq vs.toArray _=Data.dict es ep:=d
    cases d'
  have nsK:∀{b:Addr} {m:Str->Option Value},s₁.heap.Ns b m->(lQ s₁.heap H).Ns b m:=λ{b m} ⟨o,es,ep,e,d,r⟩=>⟨o,es,ep,base_of e (noA e d),d,r⟩
  have hKb:K.In (lQ s₁.heap H):=λb o e=>base_of (KX b o e) (by
   cases q:H b with
   | none=>rfl
   | some u =>
    have e':b=a:=hA b (by rw [q];simp)
    subst e'
    rw [hK (by rw [q];simp)] at e;cases e)
  have hM:Mod K mg (lQ s₁.heap H):=⟨hKb,nsK hns,⟨mb,nsK hb,hbb⟩,let ⟨mc,h1,h2⟩:=hlim;⟨mc,nsK h1,h2⟩⟩
  have e0:Env0 P w K mg (lQ s₁.heap H) callerA [] s₁ H:=⟨rfl,hM,λb o e=>v6 e,Nat.le_of_eq (qX _ _),trivial,λb hb=>absurd (show b∈([]:List Addr) from hb) (by simp),hok,.of_eq hg⟩
  refine codeAny_mono ((F _ hKb (nsK hns)).run callerA [] s₁ H ⟨[.ref a],[]⟩ [.ref a] [.ref a] _ _ hr e0 (hbind s₁ (.ref a)) (.cons rfl .nil) (hsp H hO hS)) λr s' h=>?_
  cases r with
  | error e=>exact (hCX H e s' h).elim
  | ok fl =>
   cases fl with
   | next=>exact False.elim h
   | brk=>exact False.elim h
   | cont=>exact False.elim h
   | ret u =>
    obtain ⟨v,H',os,bare,un,hok',r',q⟩:=h
    have q':v=.bl true:=q
    subst q'
    obtain rfl:u=Value.bool true:=r'
    refine ⟨rfl,OldK.of_keep λb o e=>?_,os,bare⟩
    cases q:H b with
    | none=>exact un.keep b o e q (by intro z;exact absurd (show b∈([]:List Addr) from z) (by simp)) (by simp)
    | some u =>
     rcases hO b with z | ⟨ob,xs,z⟩
     ·rw [q] at z;cases z
     ·have z2:=un.frzs b ob _ z
      obtain ⟨e1,_⟩:=hok b _ z
      obtain ⟨e2,_⟩:=hok' b _ z2
      rw [e] at e1;cases e1
      exact e2
 cases hk:K.lookup a with
 | some o =>
  have e:=KX a o hk
  rw [ha] at e
  cases e
  refine core (λ_=>none) (λ_=>.inl rfl) (.inr ⟨_,vs.toArray,_,hk,rfl,rfl,rfl,by rw [List.size_toArray,lenV];exact hl,by simpa using rv⟩) (λb u z=>by have z':(none:Option HO)=some u:=z;cases z') (λb z=>absurd rfl z) λz=>absurd rfl z
 | none =>
  refine core (λb=>if b=a then some (.frz {cls:=.type "list",data:=.seq vs.toArray} (.lst (ns.map V.int))) else none) (λb=>?_) (.inl (.inr ⟨{cls:=.type "list",data:=.seq vs.toArray},if_pos rfl⟩)) (λb u z=>?_) (λb z=>?_) λ_=>hk
  ·by_cases hb:b=a
   ·exact .inr ⟨_,_,if_pos hb⟩
   ·exact .inl (if_neg hb)
  ·by_cases hb:b=a
   ·have z':=(if_pos hb).symm.trans z
    cases z'
    subst hb
    exact ⟨ha,by rw [List.length_map];exact hl,vs,_,rv,ha⟩
   ·have z':=(if_neg hb).symm.trans z
    cases z'
  ·by_cases hb:b=a
   ·exact hb
   ·exact absurd (if_neg hb) z
end L2
namespace L2
open PySem PySem.Spec PyProof.Rows
theorem uS{l:PySem.W.OpenLaw}{n k:Nat}{q:Program}{loose:List Str}{XP:(Str->Option Value)->Heap->Prop}{YP:World->Heap->Prop}{d:DefRec}{K:Params->PySem.W.Frag}{CX:World->CXT}{sp:World->Sp}{x:Str}
  (hn:l.most=some n)(hn2:n<=sizeLine)(hdf:d.params.defaults=[])(hr:Room k callerA)
  (hY:∀(w:World) (h:Heap),YP w h->(K w.params).In h)
  (F:∀(w:World) (mg:Str->Option Value) (fa:Addr) (h:Heap),(K w.params).In h->h.Ns mainGlobals mg->mg d.name=some (.ref fa) ->
   ∃fd:FuncData,(∀(s:Shared) (u:Value),BindsTo s fd ⟨[u],[]⟩ [(x,u)]) /\
    ∀base:Heap,(K w.params).In base->base.Ns mainGlobals mg->FnOk l.prog w (K w.params) mg base (CX w) k fa fd [x] (sp w))
  (hsp:∀(w:World) (H:Hp) (a:Addr) (ns:List Int),ns.length<=n->yJ H->SqL (K w.params) H a (ns.map V.int)->sp w [.ref a] H (λv _=>v=.bl true) λ_ _ _=>False)
  (hCX:∀(w:World) (H:Hp) (s:Shared) (e:Value) (s':Shared),CX w [] H s (λ_ _ _=>False) e s'->False) :
  PySem.W.WalkO q loose XP YP l.row.toRowW d [] (λf vs=>PySem.call f vs):=by
 refine Att.nJ hn hdf λw s₀ s₁ mg mb fa o pm cd doc a vs ns G Y ho hd hcd hmg hobj hints hlen hg=>?_
 have KX:=hY w _ Y
 obtain ⟨fd,hb,hF⟩:=F w mg fa _ KX G.T.g hmg
 exact uh KX G.T.g G.T.b G.T.builtins G.T.nolimit hg hobj hints (Nat.le_trans hlen hn2) hr hF hb (λH hO hS=>hsp w H a ns hlen hO hS) λH e s'=>hCX w H s₁ e s'
end L2
namespace L2
open PySem PySem.Spec PyProof.Rows
def inClass(s:Stmt)(j:Nat):Stmt:=match s with
 | .ClassDef _ _ _ body _ _ _ _ _ _ _=>body.getD j (.Pass ⟨0,0,0,0⟩)
 | _=>.Pass ⟨0,0,0,0⟩
def defArgs(s:Stmt):Arguments:=match s with
 | .FunctionDef _ a _ _ _ _ _ _ _ _=>a
 | _=>{posonlyargs:=[],args:=[],vararg:=none,kwonlyargs:=[],kw_defaults:=[],kwarg:=none,defaults:=[]}
def defBody(s:Stmt):List Stmt:=match s with
 | .FunctionDef _ _ b _ _ _ _ _ _ _=>b
 | _=>[]
def defScope(s:Stmt):Scope:=match s with
 | .FunctionDef _ _ _ _ _ _ sc _ _ _=>sc
 | _=>{kind:=.function,names:=[],isGenerator:=false,isCoroutine:=false}
abbrev CX0:CXT:=λ_ _ _ _ _ _=>False
abbrev E0:XK:=λ_ _ _=>False
theorem br{X:Cx}:dz CX0 X E0:=λ_ _ _ _ _ _ _ h=>h.elim
structure Fun(K:PySem.W.Frag)(x qual:Str)(st:Stmt)(f:Addr)(fd:FuncData):Prop where
 ex:∃(oc:Value) (od:Option Addr) (kV doc pm:Value) (an:Option Addr) (cdv ct:Value) (osl:Array (Option Value)),
  fd=PySem.W.fnOf x qual (defArgs st) (defBody st) (defScope st) .none kV doc pm an cdv ct/\K.lookup f=some ⟨oc,od,.func fd,osl⟩/\PySem.W.codeIn K cdv qual=true
 kp:PySem.W.keepIn K (.ref f)=true
section
variable {P:Program}{w:World}{K:PySem.W.Frag}{mg:Str->Option Value}{base:Heap}
theorem Fun.ok{x qual:Str}{st:Stmt}{f:Addr}{fd:FuncData}{N ps:List Str}{k:Nat}{sp:Sp}(F:Fun K x qual st f fd)(S:al N ps (defScope st))(len:∀vs H Q E,sp vs H Q E->vs.length=ps.length)
  (hbody:∀(cdv:Value) (A:Around) (outer:List Env) (s:Shared) (H:Hp) (vs:List V) (Q:VK) (E:XK),Room k (A.deeper (envOfC qual (defScope st) s.heap.objs.size f cdv))->sp vs H Q E ->
   ∃t,PSs (nD CX0 P w K mg base N qual (defScope st) f cdv A outer s H E).nox (defBody st) t/\t {nx:=λ_ H'=>Q .non H',rt:=Q} (start N vs) H):FnOk P w K mg base CX0 (k+1) f fd ps sp:=by
 obtain ⟨oc,od,kV,doc,pm,an,cdv,ct,osl,rfl,lk,hcd⟩:=F.ex
 refine w6 lk hcd S len λA outer s H vs Q E hr hsp=>?_
 obtain ⟨t,h,q⟩:=hbody cdv A outer s H vs Q E hr hsp
 exact ⟨t,h.nox,q⟩
theorem Fun.binds{x qual:Str}{st:Stmt}{f:Addr}{fd:FuncData}{ps:List Str}(F:Fun K x qual st f fd)
  (h:∀(kV doc pm:Value) (an:Option Addr) (cdv ct:Value) (us:List Value),us.length=ps.length->bindArgs (PySem.W.fnOf x qual (defArgs st) (defBody st) (defScope st) .none kV doc pm an cdv ct) ⟨us,[]⟩=pure (ps.zip us)):Binds K fd ps []:=by
 obtain ⟨oc,od,kV,doc,pm,an,cdv,ct,osl,rfl,lk,hcd⟩:=F.ex
 exact .all (h kV doc pm an cdv ct)
theorem yC{x qual:Str}{st:Stmt}{f:Addr}{oc:Value}{od an:Option Addr}{osl:Array (Option Value)}{kV doc pm cdv ct:Value}(l:K.lookup f=some ⟨oc,od,.func (PySem.W.fnOf x qual (defArgs st) (defBody st) (defScope st) .none kV doc pm an cdv ct),osl⟩)
  (c:PySem.W.codeIn K cdv qual=true)(k:PySem.W.keepIn K (.ref f)=true):Fun K x qual st f (PySem.W.fnOf x qual (defArgs st) (defBody st) (defScope st) .none kV doc pm an cdv ct):=⟨⟨oc,od,kV,doc,pm,an,cdv,ct,osl,rfl,l,c⟩,k⟩
end
theorem cz{n:Nat}(h:n<=1000):n<sizeLine:=Nat.lt_of_le_of_lt h (by decide)
section
variable {X:Cx}
theorem pv(i:Nat){x:Str}{pos:Pos}(hN:X.N[i]?=some x:=by rfl)(hv:Vis X.env.scope x:=by first | exact Or.inl rfl | exact Or.inr (Or.inl rfl) | exact Or.inr (Or.inr rfl))(hd:(x==("__debug__":Str))=false:=by decide)
  (hcd:(x==("__classdict__":Str))=false:=by decide):PE X (.Name x pos) (og i):=sV hN hv hd hcd
end
theorem aI{A B:Prop}(h:B):if false=true then A else B:=by
 rw [if_neg Bool.false_ne_true]
 exact h
theorem bU{A B:Prop}(h:A):if true=true then A else B:=by
 rw [if_pos rfl]
 exact h
theorem bz{c A B:Prop} [Decidable c](h1:c->A)(h2:¬c->B):if c then A else B:=by
 by_cases h:c
 ·rw [if_pos h]
  exact h1 h
 ·rw [if_neg h]
  exact h2 h
theorem ul{c A B:Prop} [Decidable c](hc:c)(h:B):if (!decide c)=true then A else B:=by
 rw [decide_eq_true hc]
 exact aI h
def Same(H H':Hp):Prop:=∀b o,H b=some o->H' b=some o
theorem Same.refl(H:Hp):Same H H:=λ_ _ h=>h
theorem Same.trans{H H1 H2:Hp}(a:Same H H1)(b:Same H1 H2):Same H H2:=λc o h=>b c o (a c o h)
theorem Same.seq{K:PySem.W.Frag}{H H':Hp}{a:Addr}{xs:List V}(e:Same H H')(h:SqL K H a xs):SqL K H' a xs:=by
 rcases h with (h | ⟨o,h⟩) | h
 ·exact .inl (.inl (e _ _ h))
 ·exact .inl (.inr ⟨o,e _ _ h⟩)
 ·exact .inr h
end L2
section
set_option maxHeartbeats 0
open PySem PySem.W PyProof.Rows
lay_quick PySem.Challenge.pw_pactroom_k41_steps_one_by_one
namespace Q
noncomputable section
noncomputable abbrev vT:Value:=Value.bool true
noncomputable abbrev vF:Value:=Value.bool false
noncomputable abbrev A{α:Type}(l:List α):Array α:=Array.mk l
noncomputable abbrev E{α:Type}:Array α:=Array.mk []
noncomputable abbrev vn:Value:=Value.none
noncomputable abbrev vr(n:Nat):Value:=Value.ref n
noncomputable abbrev sr(n:Nat):Option Value:=some (Value.ref n)
noncomputable abbrev vi(a:Int)(n:Nat):Value:=Value.int a n
noncomputable abbrev vs(q:Str)(n:Nat):Value:=Value.str q n
noncomputable abbrev de(P:Params)(q:Str)(n:Nat)(v:Value):DictEntry:=DictEntry.mk (PyData.keyHash P q) (Value.str q n) v
noncomputable abbrev nd(o:Obj)(a b:BT):BT:=.node o a b
noncomputable abbrev l1(o:Obj):BT:=.node o .nil .nil
noncomputable abbrev S(l:List Nat):Str:=@Str.mk (Array.mk l)
abbrev q0:=S [60,109,111,100,117,108,101,62]
abbrev q1:=S [47,99,108,97,105,109,47,99,117,116,46,112,121]
abbrev q2:=S [95,95,109,97,105,110,95,95]
abbrev q3:=S [95,95,110,97,109,101,95,95]
abbrev q4:=S [112,97,99,116,114,111,111,109,46,108,101,97,100,115]
abbrev q5:=S [95,95,100,111,99,95,95]
abbrev q6:=S [95,95,112,97,99,107,97,103,101,95,95]
abbrev q7:=S [95,95,108,111,97,100,101,114,95,95]
abbrev q8:=S [95,95,115,112,101,99,95,95]
abbrev q9:=S [95,95,97,110,110,111,116,97,116,105,111,110,115,95,95]
abbrev q10:=S [95,95,98,117,105,108,116,105,110,115,95,95]
abbrev q11:=S [95,95,102,105,108,101,95,95]
abbrev q12:=S [95,95,99,97,99,104,101,100,95,95]
abbrev q13:=S [95,119,97,108,108]
abbrev q14:=S [80,97,99,116,69,114,114,111,114]
abbrev q15:=S [78,111,84,104,105,110,103]
abbrev q16:=S [78,111,78,101,101,100]
abbrev q17:=S [78,111,84,101,120,116]
abbrev q18:=S [77,79,83,84,95,70,73,71,85,82,69,83,95,116,104,105,110,103,115]
abbrev q19:=S [77,79,83,84,95,83,73,71,78,83]
abbrev q20:=S [77,79,83,84,95,80,65,82,84,83]
abbrev q21:=S [77,79,83,84,95,68,69,69,80]
abbrev q22:=S [76,79,78,71,69,83,84]
abbrev q23:=S [66,76,65,78,75]
abbrev q24:=S [80,69,82,67,69,78,84]
abbrev q25:=S [84,73,76,68,69]
abbrev q26:=S [105,115,95,119,104,111,108,101]
abbrev q27:=S [115,104,111,119,110]
abbrev q28:=S [114,101,97,100,95,116,104,105,110,103]
abbrev q29:=S [105,115,95,115,105,103,110]
abbrev q30:=S [82,101,97,100,101,114]
abbrev q31:=S [77,79,83,84,95,70,73,71,85,82,69,83,95,115,116,101,112,115]
abbrev q32:=S [83,72,65,80,69,83]
abbrev q33:=S [83,116,101,112]
abbrev q34:=S [67,101,108,108,83,116,101,112]
abbrev q35:=S [84,97,107,101,83,116,101,112]
abbrev q36:=S [77,101,97,110,83,116,101,112]
abbrev q37:=S [83,117,109,83,116,101,112]
abbrev q38:=S [71,105,118,101,83,116,101,112]
abbrev q39:=S [65,100,100,83,116,101,112]
abbrev q40:=S [80,108,117,115,83,116,101,112]
abbrev q41:=S [78,101,101,100,83,116,101,112]
abbrev q42:=S [115,112,101,108,108]
abbrev q43:=S [114,101,97,100,95,115,116,101,112]
abbrev q44:=S [114,101,97,100,95,110,117,109,98,101,114]
abbrev q45:=S [109,97,100,101,95,115,116,101,112]
abbrev q46:=S [109,97,100,101,95,115,117,109]
abbrev q47:=S [77,65,78,78,69,82,83]
abbrev q48:=S [77,79,83,84,95,83,84,69,80,83]
abbrev q49:=S [80,97,99,116]
abbrev q50:=S [114,101,97,100,95,112,97,99,116]
abbrev q51:=S [114,101,97,100,95,112,97,114,116]
abbrev q52:=S [104,111,117,115,101,115,95,111,102]
abbrev q53:=S [80,65,84,73,69,78,67,69]
abbrev q54:=S [76,101,97,100]
abbrev q55:=S [107]
abbrev q56:=S [95,95,109,111,100,117,108,101,95,95]
abbrev q57:=S [112,97,99,116,114,111,111,109,46,101,114,114,111,114,115]
abbrev q58:=S [95,95,113,117,97,108,110,97,109,101,95,95]
abbrev q59:=S [95,95,102,105,114,115,116,108,105,110,101,110,111,95,95]
abbrev q60:=S [95,95,115,116,97,116,105,99,95,97,116,116,114,105,98,117,116,101,115,95,95]
abbrev q61:=S [95,95,119,101,97,107,114,101,102,95,95]
abbrev q62:=S [95,95,105,110,105,116,95,95]
abbrev q63:=S [115,101,108,102]
abbrev q64:=S [97,116]
abbrev q65:=S [78,111,84,101,120,116,46,95,95,105,110,105,116,95,95]
abbrev q66:=S [116,104,105,110,103]
abbrev q67:=S [112,97,99,116,114,111,111,109,46,116,104,105,110,103,115]
abbrev q68:=S [115,105,103,110]
abbrev q69:=S [110,117,109,98,101,114]
abbrev q70:=S [112,97,115,115,101,115]
abbrev q71:=S [114,101,97,100,95,97,110,121]
abbrev q72:=S [114,101,97,100,95,112,97,114,116,115]
abbrev q73:=S [114,101,97,100,95,98,101,108,111,119]
abbrev q74:=S [114,101,97,100,95,115,105,103,110,115]
abbrev q75:=S [116,101,120,116]
abbrev q76:=S [82,101,97,100,101,114,46,95,95,105,110,105,116,95,95]
abbrev q77:=S [82,101,97,100,101,114,46,112,97,115,115,101,115]
abbrev q78:=S [100,101,101,112]
abbrev q79:=S [82,101,97,100,101,114,46,114,101,97,100,95,97,110,121]
abbrev q80:=S [112,97,114,116,115]
abbrev q81:=S [82,101,97,100,101,114,46,114,101,97,100,95,112,97,114,116,115]
abbrev q82:=S [82,101,97,100,101,114,46,114,101,97,100,95,98,101,108,111,119]
abbrev q83:=S [115,116,97,114,116]
abbrev q84:=S [102,105,103,117,114,101,115]
abbrev q85:=S [82,101,97,100,101,114,46,114,101,97,100,95,110,117,109,98,101,114]
abbrev q86:=S [109,97,110,121]
abbrev q87:=S [98,101,104,105,110,100]
abbrev q88:=S [115,105,103,110,115]
abbrev q89:=S [82,101,97,100,101,114,46,114,101,97,100,95,115,105,103,110,115]
abbrev q90:=S [112,108,97,99,101]
abbrev q91:=S [95,95,100,105,99,116,95,95]
abbrev q92:=S [116,97,107,101]
abbrev q93:=S [72,67]
abbrev q94:=S [109,101,97,110]
abbrev q95:=S [115,117,109]
abbrev q96:=S [72,65,66]
abbrev q97:=S [103,105,118,101]
abbrev q98:=S [97,100,100]
abbrev q99:=S [72,67,86]
abbrev q100:=S [112,108,117,115]
abbrev q101:=S [86]
abbrev q102:=S [110,101,101,100]
abbrev q103:=S [112,97,99,116,114,111,111,109,46,115,116,101,112,115]
abbrev q104:=S [104,111,117,115,101]
abbrev q105:=S [108,111,99,107]
abbrev q106:=S [115,116,101,112,95,100,111,110,101]
abbrev q107:=S [98,97,99,107]
abbrev q108:=S [115,117,114,101]
abbrev q109:=S [115,112,101,108,108,101,100]
abbrev q110:=S [83,116,101,112,46,104,111,117,115,101]
abbrev q111:=S [83,116,101,112,46,108,111,99,107]
abbrev q112:=S [104,97,110,100]
abbrev q113:=S [118,97,108,117,101,95,111,102]
abbrev q114:=S [83,116,101,112,46,115,116,101,112,95,100,111,110,101]
abbrev q115:=S [83,116,101,112,46,98,97,99,107]
abbrev q116:=S [83,116,101,112,46,115,117,114,101]
abbrev q117:=S [83,116,101,112,46,115,112,101,108,108,101,100]
abbrev q118:=S [119,104,101,114,101]
abbrev q119:=S [99,101,108,108]
abbrev q120:=S [67,101,108,108,83,116,101,112,46,95,95,105,110,105,116,95,95]
abbrev q121:=S [67,101,108,108,83,116,101,112,46,104,111,117,115,101]
abbrev q122:=S [84,97,107,101,83,116,101,112,46,108,111,99,107]
abbrev q123:=S [84,97,107,101,83,116,101,112,46,115,116,101,112,95,100,111,110,101]
abbrev q124:=S [84,97,107,101,83,116,101,112,46,115,112,101,108,108,101,100]
abbrev q125:=S [77,101,97,110,83,116,101,112,46,108,111,99,107]
abbrev q126:=S [77,101,97,110,83,116,101,112,46,115,116,101,112,95,100,111,110,101]
abbrev q127:=S [77,101,97,110,83,116,101,112,46,115,112,101,108,108,101,100]
abbrev q128:=S [108,111,119]
abbrev q129:=S [104,105,103,104]
abbrev q130:=S [83,117,109,83,116,101,112,46,95,95,105,110,105,116,95,95]
abbrev q131:=S [83,117,109,83,116,101,112,46,104,111,117,115,101]
abbrev q132:=S [83,117,109,83,116,101,112,46,108,111,99,107]
abbrev q133:=S [83,117,109,83,116,101,112,46,115,116,101,112,95,100,111,110,101]
abbrev q134:=S [83,117,109,83,116,101,112,46,115,112,101,108,108,101,100]
abbrev q135:=S [71,105,118,101,83,116,101,112,46,108,111,99,107]
abbrev q136:=S [71,105,118,101,83,116,101,112,46,115,116,101,112,95,100,111,110,101]
abbrev q137:=S [71,105,118,101,83,116,101,112,46,115,117,114,101]
abbrev q138:=S [71,105,118,101,83,116,101,112,46,115,112,101,108,108,101,100]
abbrev q139:=S [97,109,111,117,110,116]
abbrev q140:=S [65,100,100,83,116,101,112,46,95,95,105,110,105,116,95,95]
abbrev q141:=S [65,100,100,83,116,101,112,46,108,111,99,107]
abbrev q142:=S [65,100,100,83,116,101,112,46,115,116,101,112,95,100,111,110,101]
abbrev q143:=S [65,100,100,83,116,101,112,46,98,97,99,107]
abbrev q144:=S [65,100,100,83,116,101,112,46,115,112,101,108,108,101,100]
abbrev q145:=S [80,108,117,115,83,116,101,112,46,95,95,105,110,105,116,95,95]
abbrev q146:=S [80,108,117,115,83,116,101,112,46,115,116,101,112,95,100,111,110,101]
abbrev q147:=S [80,108,117,115,83,116,101,112,46,115,112,101,108,108,101,100]
abbrev q148:=S [78,101,101,100,83,116,101,112,46,95,95,105,110,105,116,95,95]
abbrev q149:=S [78,101,101,100,83,116,101,112,46,115,116,101,112,95,100,111,110,101]
abbrev q150:=S [78,101,101,100,83,116,101,112,46,115,112,101,108,108,101,100]
abbrev q151:=S [119,111,114,100]
abbrev q152:=S [108,101,116,116,101,114]
abbrev q153:=S [110,117,109,98,101,114,115]
abbrev q154:=S [104,101,108,100]
abbrev q155:=S [119,97,108,107,101,100]
abbrev q156:=S [112,97,99,116,114,111,111,109,46,112,97,99,116,115]
abbrev q157:=S [109,97,110,110,101,114]
abbrev q158:=S [115,116,101,112,115]
abbrev q159:=S [80,97,99,116,46,95,95,105,110,105,116,95,95]
abbrev q160:=S [80,97,99,116,46,115,112,101,108,108,101,100]
abbrev q161:=S [103,111]
abbrev q162:=S [116,117,114,110]
abbrev q163:=S [101,110,100]
abbrev q164:=S [99,97,109,101]
abbrev q165:=S [103,111,95,97,104,101,97,100]
abbrev q166:=S [103,111,95,102,114,111,109,95,101,110,100]
abbrev q167:=S [103,111,95,98,101,104,105,110,100]
abbrev q168:=S [110,97,109,105,110,103]
abbrev q169:=S [111,119,110,95,115,116,101,112,115,95,100,111,110,101]
abbrev q170:=S [110,101,120,116,95,104,111,117,115,101]
abbrev q171:=S [112,114,101,115,101,110,116,95,104,97,110,100]
abbrev q172:=S [115,101,110,100,95,115,116,101,112]
abbrev q173:=S [105,115,95,97,110,115,119,101,114]
abbrev q174:=S [110,97,109,101]
abbrev q175:=S [112,97,99,116]
abbrev q176:=S [76,101,97,100,46,95,95,105,110,105,116,95,95]
abbrev q177:=S [115,104,101,101,116]
abbrev q178:=S [76,101,97,100,46,103,111]
abbrev q179:=S [76,101,97,100,46,116,117,114,110]
abbrev q180:=S [111,117,116,99,111,109,101]
abbrev q181:=S [76,101,97,100,46,101,110,100]
abbrev q182:=S [115,101,110,100,101,114]
abbrev q183:=S [109,111,114,101]
abbrev q184:=S [76,101,97,100,46,99,97,109,101]
abbrev q185:=S [76,101,97,100,46,103,111,95,97,104,101,97,100]
abbrev q186:=S [76,101,97,100,46,103,111,95,102,114,111,109,95,101,110,100]
abbrev q187:=S [76,101,97,100,46,103,111,95,98,101,104,105,110,100]
abbrev q188:=S [76,101,97,100,46,110,97,109,105,110,103]
abbrev q189:=S [115,116,101,112]
abbrev q190:=S [76,101,97,100,46,111,119,110,95,115,116,101,112,115,95,100,111,110,101]
abbrev q191:=S [76,101,97,100,46,110,101,120,116,95,104,111,117,115,101]
abbrev q192:=S [76,101,97,100,46,112,114,101,115,101,110,116,95,104,97,110,100]
abbrev q193:=S [76,101,97,100,46,115,101,110,100,95,115,116,101,112]
abbrev q194:=S [76,101,97,100,46,105,115,95,97,110,115,119,101,114]
abbrev q195:=S [99,108,111,115,101,100]
abbrev q196:=S [104,97,110,100,115]
abbrev q197:=S [104,111,117,115,101,115]
abbrev q198:=S [110,97,109,101,100]
abbrev q199:=S [116,117,114,110,115]
abbrev q200:=S [108,97,119,95,112,97,99,116,114,111,111,109,95,107,52,49,95,115,116,101,112,115,95,111,110,101,95,98,121,95,111,110,101]
abbrev q201:=S [72,101,108,100,76,101,97,100]
abbrev q202:=S [110,111,95,118,97,108,117,101]
abbrev q203:=S [83,104,101,101,116]
abbrev q204:=S [83,116,97,110,100]
abbrev q205:=S [95,108,97,119,95,99,101,108,108,95,97,116]
abbrev q206:=S [95,108,97,119,95,97,109,111,117,110,116]
abbrev q207:=S [95,108,97,119,95,115,116,101,112]
abbrev q208:=S [95,108,97,119,95,108,97,115,116]
abbrev q209:=S [95,108,97,119,95,112,108,97,105,110]
abbrev q210:=S [95,108,97,119,95,115,97,109,101]
abbrev q211:=S [95,108,97,119,95,100,117,101]
abbrev q212:=S [95,108,97,119,95,111,116,104,101,114]
abbrev q213:=S [95,108,97,119,95,115,116,114,97,110,103,101]
abbrev q214:=S [95,108,97,119,95,104,111,117,115,101,100]
abbrev q215:=S [95,108,97,119,95,109,97,100,101]
abbrev q216:=S [108,97,119]
abbrev q217:=S [115,105,108,101,110,116]
abbrev q218:=S [100,111,110,101,95,105,102,95,97,108,108,95,97,103,114,101,101]
abbrev q219:=S [72,101,108,100,76,101,97,100,46,95,95,105,110,105,116,95,95]
abbrev q220:=S [72,101,108,100,76,101,97,100,46,103,111,95,97,104,101,97,100]
abbrev q221:=S [72,101,108,100,76,101,97,100,46,99,97,109,101]
abbrev q222:=S [72,101,108,100,76,101,97,100,46,115,105,108,101,110,116]
abbrev q223:=S [72,101,108,100,76,101,97,100,46,100,111,110,101,95,105,102,95,97,108,108,95,97,103,114,101,101]
abbrev q224:=S [72,101,108,100,76,101,97,100,46,103,111,95,102,114,111,109,95,101,110,100]
abbrev q225:=S [72,101,108,100,76,101,97,100,46,103,111,95,98,101,104,105,110,100]
abbrev q226:=S [97,103,114,101,101,100]
abbrev q227:=S [112,97,99,116,114,111,111,109,46,115,104,101,101,116,115]
abbrev q228:=S [114,111,119]
abbrev q229:=S [115,101,110,100]
abbrev q230:=S [114,111,119,115,95,116,111,108,100]
abbrev q231:=S [108,101,116,116,101,114,115,95,116,111,108,100]
abbrev q232:=S [115,116,97,110,100]
abbrev q233:=S [83,104,101,101,116,46,95,95,105,110,105,116,95,95]
abbrev q234:=S [83,104,101,101,116,46,114,111,119]
abbrev q235:=S [116,111]
abbrev q236:=S [112]
abbrev q237:=S [83,104,101,101,116,46,115,101,110,100]
abbrev q238:=S [83,104,101,101,116,46,114,111,119,115,95,116,111,108,100]
abbrev q239:=S [83,104,101,101,116,46,108,101,116,116,101,114,115,95,116,111,108,100]
abbrev q240:=S [108,97,116,101,115,116]
abbrev q241:=S [114,111,119,115]
abbrev q242:=S [115,101,110,116]
abbrev q243:=S [112,97,99,116,114,111,111,109,46,115,116,97,110,100,115]
abbrev q244:=S [107,101,101,112]
abbrev q245:=S [99,104,97,110,103,101,115,95,111,102]
abbrev q246:=S [99,101,108,108,95,97,116]
abbrev q247:=S [99,101,108,108,115,95,116,111,108,100]
abbrev q248:=S [110,101,119,115]
abbrev q249:=S [98,111,117,110,100]
abbrev q250:=S [108,111,115,116]
abbrev q251:=S [98,101,103,117,110]
abbrev q252:=S [119,97,108,107,101,100,95,97,116]
abbrev q253:=S [105,115,95,111,118,101,114]
abbrev q254:=S [99,101,108,108,115]
abbrev q255:=S [83,116,97,110,100,46,95,95,105,110,105,116,95,95]
abbrev q256:=S [83,116,97,110,100,46,107,101,101,112]
abbrev q257:=S [83,116,97,110,100,46,99,104,97,110,103,101,115,95,111,102]
abbrev q258:=S [83,116,97,110,100,46,99,101,108,108,95,97,116]
abbrev q259:=S [83,116,97,110,100,46,99,101,108,108,115,95,116,111,108,100]
abbrev q260:=S [83,116,97,110,100,46,111,117,116,99,111,109,101]
abbrev q261:=S [83,116,97,110,100,46,110,101,119,115]
abbrev q262:=S [83,116,97,110,100,46,98,111,117,110,100]
abbrev q263:=S [83,116,97,110,100,46,108,111,115,116]
abbrev q264:=S [83,116,97,110,100,46,98,101,103,117,110]
abbrev q265:=S [105]
abbrev q266:=S [83,116,97,110,100,46,119,97,108,107,101,100,95,97,116]
abbrev q267:=S [83,116,97,110,100,46,105,115,95,111,118,101,114]
abbrev q268:=S [98,101,103,105,110,115]
abbrev q269:=S [101,110,100,115]
abbrev q270:=S [111,118,101,114,115]
abbrev q271:=S [114,101,97,100,105,101,115]
abbrev q272:=S [119,97,108,107,115]
abbrev q273:=S [119,111,114,107,101,100]
abbrev q274:=S [95,108,97,119,95,115,99,114,105,112,116]
abbrev q275:=S [95,108,97,119,95,107]
abbrev q276:=S [95,108,97,119,95,110,117,109,98,101,114]
abbrev q277:=S [95,108,97,119,95,104,111,117,115,101]
abbrev q278:=S [95,108,97,119,95,99,101,108,108]
abbrev q279:=S [95,108,97,119,95,104,105,103,104]
abbrev q280:=S [95,108,97,119,95,97,109,111,117,110,116,95,104,101,114,101]
abbrev q281:=S [95,108,97,119,95,119,97,121]
abbrev q282:=S [95,108,97,119,95,104,101,97,100]
abbrev q283:=S [95,108,97,119,95,116,101,120,116]
abbrev q284:=S [95,108,97,119,95,104,97,110,100,115]
abbrev q285:=S [95,108,97,119,95,115,116,101,112,115]
abbrev q286:=S [95,108,97,119,95,119,111,114,100]
abbrev q287:=S [95,108,97,119,95,102,111,117,110,100]
abbrev q288:=S [95,108,97,119,95,100,117,101,95,104,101,114,101]
abbrev q289:=S [95,108,97,119,95,111,110,101]
abbrev q290:=S [95,108,97,119,95,108,101,116,116,101,114]
abbrev q291:=S [95,108,97,119,95,110,97,109,101]
abbrev q292:=S [95,108,97,119,95,97,116]
abbrev q293:=S [95,108,97,119,95,111,116,104,101,114,95,104,101,114,101]
noncomputable abbrev y0:Value:=(@Value.type SL.s2766695959194262286x5)
noncomputable abbrev y1:Value:=(@Value.type SL.s5856160107412720595x4)
noncomputable abbrev y2:Value:=(@Value.type SL.s658472552662922059x5)
noncomputable abbrev y3:Value:=(@Value.type SL.s14018661285674007319x4)
noncomputable abbrev y4:Value:=(@Value.builtin SL.s7097527257260152453x26)
noncomputable abbrev y5:Value:=(@Value.type SL.s7174869446012820540x8)
noncomputable abbrev y6:Value:=(@Value.type SL.s6070975301684473832x10)
noncomputable abbrev y7:Value:=(@Value.type SL.s11030030927630378310x26)
noncomputable abbrev y8:Value:=(@Value.builtin SL.s10062305145149207511x16)
noncomputable abbrev y9:Value:=(@Value.type SL.s17162191345867700912x4)
noncomputable abbrev y10:Value:=(@Value.type SL.s5946037652744460706x9)
noncomputable abbrev y11:Value:=(@Value.type SL.s4278001404047624695x13)
noncomputable abbrev y12:Value:=(@Value.type SL.s2742458400755230247x6)
noncomputable abbrev y13:Value:=(@Value.builtin SL.s4209523147560561109x18)
noncomputable abbrev y14:Value:=(@Value.type SL.s14755015743595814543x17)
noncomputable abbrev y15:Value:=(@Value.builtin SL.s10220274742760427390x26)
noncomputable abbrev y16:Value:=(@Value.type SL.s4290257624100764138x5)
noncomputable abbrev y17:Value:=(@Value.builtin SL.s4860613602091757760x24)
noncomputable abbrev y18:Value:=(@Value.builtin SL.s11443829558043349243x14)
noncomputable abbrev y19:Value:=(@Value.builtin SL.s6511155373996960695x17)
noncomputable abbrev y20:Value:=(@Value.builtin SL.s12411053484034534018x21)
noncomputable abbrev p0:Program:=PySem.Challenge.pw_pactroom_k41_steps_one_by_one
noncomputable abbrev pq:Program:=PySem.W.Fast.tw12590760632852667913
theorem pe:p0=pq:=PySem.W.Fast.te12590760632852667913
noncomputable def B(i:Nat):Stmt:=pq.main.body.getD i (.Pass ⟨0,0,0,0⟩)
noncomputable def T(i:Nat):Stmt:=p0.main.body.getD i (.Pass ⟨0,0,0,0⟩)
noncomputable def M(k j:Nat):Stmt:=L2.inClass (B k) j
noncomputable def N(k j:Nat):Stmt:=L2.inClass (T k) j
noncomputable abbrev fk(a b:Str)(s:Stmt):=FuncData.mk a b (L2.defArgs s) (.stmts (L2.defBody s)) (L2.defScope s)
section
variable (P:Params)
def a11:=Obj.mk y0 none (Data.seq E 0) E
def a12:=Obj.mk vn none (Data.fields E) E
def m0(x0:Str)(x1:Nat)(x2:Nat)(x3:Nat)(x4:Int)(x5:Nat)(x6:Nat)(x7:Int)(x8:Nat):=Obj.mk y1 none (Data.fields (A [vs x0 x1,vs x0 x2,vs q1 x3,vi x4 0,vi 0 0,vi 0 0,vi 0 0,vi 0 0,vr x5,vF,vi 181 0,vr x6,vn,vn,vn,vn,vi x7 0,vi x4 0,vs q1 x8])) E
def a13:=m0 q0 182 183 184 1 11 12 185 186
def m1(x0:Nat)(x1:Nat)(x2:Str)(x3:Nat):=Obj.mk y2 none Data.plain (A [sr x0,sr 3,sr x1,none,some (vs x2 x3),none,sr 0])
def a14:=m1 13 3 q2 164
def u0:=nd (boot_o_0 P) (nd (boot_o_1 P) (nd (boot_o_3 P) (l1 (boot_o_7 P)) (l1 a11)) (nd (boot_o_5 P) (l1 (boot_o_9 P)) (l1 a13))) (nd (boot_o_2 P) (nd (boot_o_4 P) (l1 (boot_o_8 P)) (l1 a12)) (nd (boot_o_6 P) (l1 (boot_o_10 P)) (l1 a14)))
def ta:=u0 P
def tb:=u0 P
def c0_3:=Obj.mk y3 none (Data.dict (A [de P q3 165 (vs q4 947),de P q5 166 vn,de P q6 167 vn,de P q7 168 y4,de P q8 169 vn,de P q9 170 (vr 6),de P q10 171 (vr 4),de P q11 173 (vs q1 172),de P q12 174 vn,de P q13 193 (vr 21),de P q14 213 (vr 31),de P q15 229 (vr 44),de P q16 245 (vr 56),de P q17 270 (vr 75),de P q18 274 (vi 400 273),de P q19 276 (vi 2000 275),de P q20 278 (vi 2000 277),de P q21 280 (vi 8 279),de P q22 282 (vi 100000 281),de P q23 284 (vi 32 283),de P q24 286 (vi 37 285),de P q25 288 (vi 126 287),de P q26 295 (vr 84),de P q27 301 (vr 89),de P q28 307 (vr 94),de P q29 315 (vr 101),de P q30 398 (vr 160),de P q31 402 (vi 40 401),de P q32 424 (vr 165),de P q33 489 (vr 217),de P q34 523 (vr 245),de P q35 562 (vr 278),de P q36 601 (vr 311),de P q37 657 (vr 356),de P q38 703 (vr 396),de P q39 761 (vr 443),de P q40 802 (vr 476),de P q41 843 (vr 509),de P q42 849 (vr 516),de P q43 855 (vr 521),de P q44 864 (vr 528),de P q45 872 (vr 535),de P q46 881 (vr 542),de P q47 886 (vr 543),de P q48 888 (vi 12 887),de P q49 926 (vr 565),de P q50 932 (vr 574),de P q51 940 (vr 581),de P q52 946 (vr 586),de P q53 950 (vi 4 949),de P q54 1095 (vr 694)]) 51) E
def c0_12:=Obj.mk vn none (Data.fields (A [vi 1 0,vi 0 0,vr 20,vi 5 0,vi 0 0,vr 27,vi 7 0,vi 0 0,vr 40,vi 9 0,vi 0 0,vr 52,vi 11 0,vi 0 0,vr 64,vi 24 0,vi 0 0,vr 83,vi 26 0,vi 0 0,vr 88,vi 32 0,vi 0 0,vr 93,vi 42 0,vi 0 0,vr 100,vi 45 0,vi 0 0,vr 107,vi 112 0,vi 0 0,vr 171,vi 131 0,vi 0 0,vr 227,vi 139 0,vi 0 0,vr 253,vi 149 0,vi 0 0,vr 286,vi 159 0,vi 0 0,vr 319,vi 177 0,vi 0 0,vr 364,vi 190 0,vi 0 0,vr 404,vi 207 0,vi 0 0,vr 451,vi 217 0,vi 0 0,vr 484,vi 229 0,vi 0 0,vr 515,vi 231 0,vi 0 0,vr 520,vi 237 0,vi 0 0,vr 527,vi 247 0,vi 0 0,vr 534,vi 261 0,vi 0 0,vr 541,vi 268 0,vi 0 0,vr 549,vi 277 0,vi 0 0,vr 573,vi 285 0,vi 0 0,vr 580,vi 290 0,vi 0 0,vr 585,vi 294 0,vi 0 0,vr 592])) E
def m2(x0:Str)(x1:Nat):=Obj.mk y0 none (Data.seq (A [vs x0 x1]) 0) E
def c0_17:=m2 q55 190
def m3(x0:Str)(x1:Str)(x2:Stmt):=Obj.mk vn none (Data.func (fk x0 x1 x2 0 [] vn vn vn vn none vn vn 0)) E
def c0_19:=m3 q13 q13 (B 0)
def m4(x0:Str)(x1:Nat)(x2:Str)(x3:Nat)(x4:Nat)(x5:Int)(x6:Int)(x7:Nat)(x8:Nat)(x9:Nat)(x10:Nat)(x11:Nat)(x12:Int)(x13:Nat):=Obj.mk y1 none (Data.fields (A [vs x0 x1,vs x2 x3,vs q1 x4,vi x5 0,vi x6 0,vi 0 0,vi 0 0,vi 3 0,vr x7,vT,vi 181 0,vr x8,vn,vr x9,vr x10,vr x11,vi x12 0,vi x5 0,vs q1 x13])) E
def c0_20:=m4 q13 187 q13 188 189 1 1 15 16 17 18 19 191 192
def m5(x0:Str)(x1:Str)(x2:Stmt)(x3:Str)(x4:Nat)(x5:Nat):=Obj.mk y5 none (Data.func (fk x0 x1 x2 3 [] vn vn vn (vs x3 x4) none (vr x5) vn 0)) E
def c0_21:=m5 q13 q13 (B 0) q2 164 20
def c0_22:=Obj.mk y0 none (Data.seq (A [y6]) 0) E
def c0_23:=Obj.mk y7 none (Data.fields (A [y8,y9])) E
def m6(x0:Nat)(x1:Nat)(x2:Str)(x3:Nat)(x4:Nat)(x5:Int)(x6:Nat)(x7:Nat)(x8:Nat):=Obj.mk y3 none (Data.dict (A [de P q56 x0 (vs q57 194),de P q58 x1 (vs x2 x3),de P q59 x4 (vi x5 x6),de P q60 x7 (vr x8)]) 4) E
def c0_24:=m6 P 203 205 q14 204 207 5 206 208 29
def c0_27:=m0 q14 198 199 200 5 25 26 201 202
def c0_28:=m1 27 24 q57 194
def c0_30:=Obj.mk y3 none (Data.dict (A [de P q56 203 (vs q57 194),de P q59 207 (vi 5 206),de P q60 208 (vr 29),de P q61 210 (vr 32),de P q5 211 vn]) 3) E
def c0_31:=Obj.mk y9 none (Data.cls (ClassData.mk q14 [y6] [vr 31,y6,y10,y11,y12] 30 q14 true [] [vr 44,vr 56,vr 75] false none false)) (A [sr 22,none,some (vs q14 196),some (vs q14 204),some y13,some vT])
def m7(x0:Nat)(x1:Nat):=Obj.mk y14 none (Data.fields (A [vs q61 x0,vr x1,y15,vn])) E
def c0_32:=m7 209 31
def m8(x0:Nat):=Obj.mk y16 none (Data.fields (A [vr x0,vr x0,vr x0])) E
def c0_33:=m8 31
def m9(x0:Nat):=Obj.mk y7 none (Data.fields (A [y17,vr x0])) E
def c0_34:=m9 31
def m10(x0:Nat):=Obj.mk y0 none (Data.seq (A [vr x0]) 0) E
def c0_35:=m10 31
def c0_37:=m6 P 221 223 q15 222 225 7 224 226 42
def c0_40:=m0 q15 216 217 218 7 38 39 219 220
def c0_41:=m1 40 37 q57 194
def c0_43:=Obj.mk y3 none (Data.dict (A [de P q56 221 (vs q57 194),de P q59 225 (vi 7 224),de P q60 226 (vr 42),de P q5 227 vn]) 2) E
def c0_44:=Obj.mk y9 none (Data.cls (ClassData.mk q15 [vr 31] [vr 44,vr 31,y6,y10,y11,y12] 43 q15 true [] [] false none false)) (A [sr 35,none,some (vs q15 214),some (vs q15 222),some y13,some vT])
def c0_45:=m8 44
def c0_46:=m9 44
def c0_49:=m6 P 237 239 q16 238 241 9 240 242 54
def c0_52:=m0 q16 232 233 234 9 50 51 235 236
def c0_53:=m1 52 49 q57 194
def c0_55:=Obj.mk y3 none (Data.dict (A [de P q56 237 (vs q57 194),de P q59 241 (vi 9 240),de P q60 242 (vr 54),de P q5 243 vn]) 2) E
def c0_56:=Obj.mk y9 none (Data.cls (ClassData.mk q16 [vr 31] [vr 56,vr 31,y6,y10,y11,y12] 55 q16 true [] [] false none false)) (A [sr 47,none,some (vs q16 230),some (vs q16 238),some y13,some vT])
def c0_57:=m8 56
def c0_58:=m9 56
def c0_61:=Obj.mk y3 none (Data.dict (A [de P q56 253 (vs q57 194),de P q58 255 (vs q17 254),de P q59 257 (vi 11 256),de P q62 265 (vr 72),de P q60 267 (vr 73)]) 5) E
def c0_63:=Obj.mk vn none (Data.fields (A [vi 13 0,vi 4 0,vr 71])) E
def c0_64:=m0 q17 248 249 250 11 62 63 251 252
def c0_65:=m1 64 61 q57 194
def m11(x0:Str)(x1:Nat)(x2:Str)(x3:Nat):=Obj.mk y0 none (Data.seq (A [vs x0 x1,vs x2 x3]) 0) E
def c0_68:=m11 q63 261 q64 262
def c0_70:=m3 q62 q65 (M 5 0)
def c0_71:=m4 q62 258 q65 259 260 13 2 66 67 68 69 70 263 264
def c0_72:=m5 q62 q65 (M 5 0) q57 194 71
def c0_73:=m2 q64 266
def c0_74:=Obj.mk y3 none (Data.dict (A [de P q56 253 (vs q57 194),de P q59 257 (vi 11 256),de P q62 265 (vr 72),de P q60 267 (vr 73),de P q5 268 vn]) 2) E
def c0_75:=Obj.mk y9 none (Data.cls (ClassData.mk q17 [vr 31] [vr 75,vr 31,y6,y10,y11,y12] 74 q17 true [] [] false none false)) (A [sr 59,none,some (vs q17 246),some (vs q17 254),some y13,some vT])
def c0_76:=m8 75
def c0_77:=m9 75
def c0_80:=m2 q66 292
def c0_82:=m3 q26 q26 (B 15)
def c0_83:=m4 q26 289 q26 290 291 24 1 78 79 80 81 82 293 294
def c0_84:=m5 q26 q26 (B 15) q67 271 83
def c0_87:=m3 q27 q27 (B 16)
def m12(x0:Str)(x1:Nat)(x2:Str)(x3:Nat)(x4:Nat)(x5:Int)(x6:Int)(x7:Nat)(x8:Nat)(x9:Nat)(x10:Int)(x11:Nat):=Obj.mk y1 none (Data.fields (A [vs x0 x1,vs x2 x3,vs q1 x4,vi x5 0,vi x6 0,vi 0 0,vi 0 0,vi 3 0,vr x7,vT,vi 181 0,vr x8,vn,vn,vn,vr x9,vi x10 0,vi x5 0,vs q1 x11])) E
def c0_88:=m12 q27 296 q27 297 298 26 1 85 86 87 299 300
def c0_89:=m5 q27 q27 (B 16) q67 271 88
def c0_92:=m3 q28 q28 (B 17)
def c0_93:=m12 q28 302 q28 303 304 32 1 90 91 92 305 306
def c0_94:=m5 q28 q28 (B 17) q67 271 93
def c0_97:=m11 q68 311 q69 312
def c0_99:=m3 q29 q29 (B 18)
def c0_100:=m4 q29 308 q29 309 310 42 1 95 96 97 98 99 313 314
def c0_101:=m5 q29 q29 (B 18) q67 271 100
def c0_104:=Obj.mk y3 none (Data.dict (A [de P q56 323 (vs q67 271),de P q58 325 (vs q30 324),de P q59 327 (vi 45 326),de P q62 335 (vr 115),de P q70 343 (vr 122),de P q71 352 (vr 129),de P q72 361 (vr 136),de P q73 369 (vr 143),de P q44 378 (vr 150),de P q74 388 (vr 157),de P q60 391 (vr 158)]) 11) E
def c0_106:=Obj.mk vn none (Data.fields (A [vi 47 0,vi 4 0,vr 114,vi 51 0,vi 4 0,vr 121,vi 57 0,vi 4 0,vr 128,vi 67 0,vi 4 0,vr 135,vi 81 0,vi 4 0,vr 142,vi 87 0,vi 4 0,vr 149,vi 100 0,vi 4 0,vr 156])) E
def c0_107:=m0 q30 318 319 320 45 105 106 321 322
def c0_108:=m1 107 104 q67 271
def c0_111:=m11 q63 331 q75 332
def c0_113:=m3 q62 q76 (M 19 0)
def c0_114:=m4 q62 328 q76 329 330 47 2 109 110 111 112 113 333 334
def c0_115:=m5 q62 q76 (M 19 0) q67 271 114
def c0_118:=m11 q63 339 q68 340
def c0_120:=m3 q70 q77 (M 19 1)
def c0_121:=m4 q70 336 q77 337 338 51 2 116 117 118 119 120 341 342
def c0_122:=m5 q70 q77 (M 19 1) q67 271 121
def m13(x0:Str)(x1:Nat)(x2:Str)(x3:Nat)(x4:Str)(x5:Nat):=Obj.mk y0 none (Data.seq (A [vs x0 x1,vs x2 x3,vs x4 x5]) 0) E
def c0_125:=m13 q63 347 q78 348 q69 349
def c0_127:=m3 q71 q79 (M 19 2)
def c0_128:=m4 q71 344 q79 345 346 57 2 123 124 125 126 127 350 351
def c0_129:=m5 q71 q79 (M 19 2) q67 271 128
def c0_132:=m13 q63 356 q78 357 q80 358
def c0_134:=m3 q72 q81 (M 19 3)
def c0_135:=m4 q72 353 q81 354 355 67 2 130 131 132 133 134 359 360
def c0_136:=m5 q72 q81 (M 19 3) q67 271 135
def c0_139:=m11 q63 365 q69 366
def c0_141:=m3 q73 q82 (M 19 4)
def c0_142:=m4 q73 362 q82 363 364 81 1 137 138 139 140 141 367 368
def c0_143:=m5 q73 q82 (M 19 4) q67 271 142
def c0_146:=m13 q63 373 q83 374 q84 375
def c0_148:=m3 q44 q85 (M 19 5)
def c0_149:=m4 q44 370 q85 371 372 87 1 144 145 146 147 148 376 377
def c0_150:=m5 q44 q85 (M 19 5) q67 271 149
def m14(x0:Str)(x1:Nat)(x2:Str)(x3:Nat)(x4:Str)(x5:Nat)(x6:Str)(x7:Nat):=Obj.mk y0 none (Data.seq (A [vs x0 x1,vs x2 x3,vs x4 x5,vs x6 x7]) 0) E
def c0_153:=m14 q63 382 q86 383 q87 384 q88 385
def c0_155:=m3 q74 q89 (M 19 6)
def c0_156:=m4 q74 379 q89 380 381 100 2 151 152 153 154 155 386 387
def c0_157:=m5 q74 q89 (M 19 6) q67 271 156
def c0_158:=m11 q90 389 q75 390
def c0_159:=Obj.mk y3 none (Data.dict (A [de P q56 323 (vs q67 271),de P q59 327 (vi 45 326),de P q62 335 (vr 115),de P q70 343 (vr 122),de P q71 352 (vr 129),de P q72 361 (vr 136),de P q73 369 (vr 143),de P q44 378 (vr 150),de P q74 388 (vr 157),de P q60 391 (vr 158),de P q91 393 (vr 161),de P q61 395 (vr 162),de P q5 396 vn]) 4) E
def c0_160:=Obj.mk y9 none (Data.cls (ClassData.mk q30 [y12] [vr 160,y12] 159 q30 true [] [] false none false)) (A [none,none,some (vs q30 316),some (vs q30 324),some y18,some vT])
def m15(x0:Nat)(x1:Nat):=Obj.mk y14 none (Data.fields (A [vs q91 x0,vr x1,y19,y20])) E
def c0_161:=m15 392 160
def c0_162:=m7 394 160
def c0_163:=m8 160
def c0_164:=m9 160
def c0_165:=Obj.mk y3 none (Data.dict (A [de P q92 403 (vs q93 404),de P q94 405 (vs q93 406),de P q95 407 (vs q96 408),de P q97 409 (vs q93 410),de P q98 411 (vs q99 412),de P q100 413 (vs q101 414),de P q102 415 (vs q101 416)]) 7) E
def c0_168:=Obj.mk y3 none (Data.dict (A [de P q56 432 (vs q103 399),de P q58 434 (vs q33 433),de P q59 436 (vi 112 435),de P q104 443 (vr 179),de P q105 450 (vr 186),de P q106 459 (vr 193),de P q107 467 (vr 200),de P q108 474 (vr 207),de P q109 481 (vr 214),de P q60 482 (vr 215)]) 10) E
def c0_170:=Obj.mk vn none (Data.fields (A [vi 114 0,vi 4 0,vr 178,vi 117 0,vi 4 0,vr 185,vi 120 0,vi 4 0,vr 192,vi 123 0,vi 4 0,vr 199,vi 126 0,vi 4 0,vr 206,vi 129 0,vi 4 0,vr 213])) E
def c0_171:=m0 q33 427 428 429 112 169 170 430 431
def c0_172:=m1 171 168 q103 399
def c0_175:=m2 q63 440
def c0_177:=m3 q104 q110 (M 23 0)
def c0_178:=m4 q104 437 q110 438 439 114 1 173 174 175 176 177 441 442
def c0_179:=m5 q104 q110 (M 23 0) q103 399 178
def c0_182:=m2 q63 447
def c0_184:=m3 q105 q111 (M 23 1)
def c0_185:=m4 q105 444 q111 445 446 117 1 180 181 182 183 184 448 449
def c0_186:=m5 q105 q111 (M 23 1) q103 399 185
def c0_189:=m13 q63 454 q112 455 q113 456
def c0_191:=m3 q106 q114 (M 23 2)
def c0_192:=m4 q106 451 q114 452 453 120 3 187 188 189 190 191 457 458
def c0_193:=m5 q106 q114 (M 23 2) q103 399 192
def c0_196:=m11 q63 463 q113 464
def c0_198:=m3 q107 q115 (M 23 3)
def c0_199:=m4 q107 460 q115 461 462 123 2 194 195 196 197 198 465 466
def c0_200:=m5 q107 q115 (M 23 3) q103 399 199
def c0_203:=m2 q63 471
def c0_205:=m3 q108 q116 (M 23 4)
def c0_206:=m4 q108 468 q116 469 470 126 1 201 202 203 204 205 472 473
def c0_207:=m5 q108 q116 (M 23 4) q103 399 206
def c0_210:=m2 q63 478
def c0_212:=m3 q109 q117 (M 23 5)
def c0_213:=m4 q109 475 q117 476 477 129 1 208 209 210 211 212 479 480
def c0_214:=m5 q109 q117 (M 23 5) q103 399 213
def c0_216:=Obj.mk y3 none (Data.dict (A [de P q56 432 (vs q103 399),de P q59 436 (vi 112 435),de P q104 443 (vr 179),de P q105 450 (vr 186),de P q106 459 (vr 193),de P q107 467 (vr 200),de P q108 474 (vr 207),de P q109 481 (vr 214),de P q60 482 (vr 215),de P q91 484 (vr 218),de P q61 486 (vr 219),de P q5 487 vn]) 4) E
def c0_217:=Obj.mk y9 none (Data.cls (ClassData.mk q33 [y12] [vr 217,y12] 216 q33 true [] [vr 245,vr 356,vr 476,vr 509] false none false)) (A [none,none,some (vs q33 425),some (vs q33 433),some y18,some vT])
def c0_218:=m15 483 217
def c0_219:=m7 485 217
def c0_220:=m8 217
def c0_221:=m9 217
def c0_222:=m10 217
def c0_224:=Obj.mk y3 none (Data.dict (A [de P q56 497 (vs q103 399),de P q58 499 (vs q34 498),de P q59 501 (vi 131 500),de P q62 510 (vr 235),de P q104 517 (vr 242),de P q60 520 (vr 243)]) 6) E
def c0_226:=Obj.mk vn none (Data.fields (A [vi 133 0,vi 4 0,vr 234,vi 137 0,vi 4 0,vr 241])) E
def c0_227:=m0 q34 492 493 494 131 225 226 495 496
def c0_228:=m1 227 224 q103 399
def c0_231:=m13 q63 505 q118 506 q119 507
def c0_233:=m3 q62 q120 (M 24 0)
def c0_234:=m4 q62 502 q120 503 504 133 3 229 230 231 232 233 508 509
def c0_235:=m5 q62 q120 (M 24 0) q103 399 234
def c0_238:=m2 q63 514
def c0_240:=m3 q104 q121 (M 24 1)
def c0_241:=m4 q104 511 q121 512 513 137 1 236 237 238 239 240 515 516
def c0_242:=m5 q104 q121 (M 24 1) q103 399 241
def c0_243:=m11 q119 518 q118 519
def c0_244:=Obj.mk y3 none (Data.dict (A [de P q56 497 (vs q103 399),de P q59 501 (vi 131 500),de P q62 510 (vr 235),de P q104 517 (vr 242),de P q60 520 (vr 243),de P q5 521 vn]) 2) E
def c0_245:=Obj.mk y9 none (Data.cls (ClassData.mk q34 [vr 217] [vr 245,vr 217,y12] 244 q34 true [] [vr 278,vr 311,vr 396,vr 443] false none false)) (A [sr 222,none,some (vs q34 490),some (vs q34 498),some y18,some vT])
def c0_246:=m8 245
def c0_247:=m9 245
def c0_248:=m10 245
def m16(x0:Nat)(x1:Nat)(x2:Str)(x3:Nat)(x4:Nat)(x5:Int)(x6:Nat)(x7:Str)(x8:Nat)(x9:Nat)(x10:Nat)(x11:Nat)(x12:Nat)(x13:Nat)(x14:Nat)(x15:Nat):=Obj.mk y3 none (Data.dict (A [de P q56 x0 (vs q103 399),de P q58 x1 (vs x2 x3),de P q59 x4 (vi x5 x6),de P x7 x8 (vr x9),de P q106 x10 (vr x11),de P q109 x12 (vr x13),de P q60 x14 (vr x15)]) 7) E
def c0_250:=m16 P 531 533 q35 532 535 139 534 q105 542 261 551 268 558 275 559 276
def m17(x0:Int)(x1:Nat)(x2:Int)(x3:Nat)(x4:Int)(x5:Nat):=Obj.mk vn none (Data.fields (A [vi x0 0,vi 4 0,vr x1,vi x2 0,vi 4 0,vr x3,vi x4 0,vi 4 0,vr x5])) E
def c0_252:=m17 141 260 144 267 147 274
def c0_253:=m0 q35 526 527 528 139 251 252 529 530
def c0_254:=m1 253 250 q103 399
def c0_257:=m2 q63 539
def c0_259:=m3 q105 q122 (M 25 0)
def c0_260:=m4 q105 536 q122 537 538 141 1 255 256 257 258 259 540 541
def c0_261:=m5 q105 q122 (M 25 0) q103 399 260
def c0_264:=m13 q63 546 q112 547 q113 548
def c0_266:=m3 q106 q123 (M 25 1)
def c0_267:=m4 q106 543 q123 544 545 144 3 262 263 264 265 266 549 550
def c0_268:=m5 q106 q123 (M 25 1) q103 399 267
def c0_271:=m2 q63 555
def c0_273:=m3 q109 q124 (M 25 2)
def c0_274:=m4 q109 552 q124 553 554 147 1 269 270 271 272 273 556 557
def c0_275:=m5 q109 q124 (M 25 2) q103 399 274
def m18(x0:Nat)(x1:Nat)(x2:Int)(x3:Nat)(x4:Str)(x5:Nat)(x6:Nat)(x7:Nat)(x8:Nat)(x9:Nat)(x10:Nat)(x11:Nat)(x12:Nat)(x13:Nat):=Obj.mk y3 none (Data.dict (A [de P q56 x0 (vs q103 399),de P q59 x1 (vi x2 x3),de P x4 x5 (vr x6),de P q106 x7 (vr x8),de P q109 x9 (vr x10),de P q60 x11 (vr x12),de P q5 x13 vn]) 2) E
def c0_277:=m18 P 531 535 139 534 q105 542 261 551 268 558 275 559 276 560
def c0_278:=Obj.mk y9 none (Data.cls (ClassData.mk q35 [vr 245] [vr 278,vr 245,vr 217,y12] 277 q35 true [] [] false none false)) (A [sr 248,none,some (vs q35 524),some (vs q35 532),some y18,some vT])
def c0_279:=m8 278
def c0_280:=m9 278
def c0_283:=m16 P 570 572 q36 571 574 149 573 q105 581 294 590 301 597 308 598 309
def c0_285:=m17 151 293 154 300 157 307
def c0_286:=m0 q36 565 566 567 149 284 285 568 569
def c0_287:=m1 286 283 q103 399
def c0_290:=m2 q63 578
def c0_292:=m3 q105 q125 (M 26 0)
def c0_293:=m4 q105 575 q125 576 577 151 1 288 289 290 291 292 579 580
def c0_294:=m5 q105 q125 (M 26 0) q103 399 293
def c0_297:=m13 q63 585 q112 586 q113 587
def c0_299:=m3 q106 q126 (M 26 1)
def c0_300:=m4 q106 582 q126 583 584 154 3 295 296 297 298 299 588 589
def c0_301:=m5 q106 q126 (M 26 1) q103 399 300
def c0_304:=m2 q63 594
def c0_306:=m3 q109 q127 (M 26 2)
def c0_307:=m4 q109 591 q127 592 593 157 1 302 303 304 305 306 595 596
def c0_308:=m5 q109 q127 (M 26 2) q103 399 307
def c0_310:=m18 P 570 574 149 573 q105 581 294 590 301 597 308 598 309 599
def c0_311:=Obj.mk y9 none (Data.cls (ClassData.mk q36 [vr 245] [vr 311,vr 245,vr 217,y12] 310 q36 true [] [] false none false)) (A [sr 281,none,some (vs q36 563),some (vs q36 571),some y18,some vT])
def c0_312:=m8 311
def c0_313:=m9 311
def c0_316:=Obj.mk y3 none (Data.dict (A [de P q56 609 (vs q103 399),de P q58 611 (vs q37 610),de P q59 613 (vi 159 612),de P q62 623 (vr 327),de P q104 630 (vr 334),de P q105 637 (vr 341),de P q106 643 (vr 346),de P q109 650 (vr 353),de P q60 654 (vr 354)]) 9) E
def m19(x0:Int)(x1:Nat)(x2:Int)(x3:Nat)(x4:Int)(x5:Nat)(x6:Int)(x7:Nat)(x8:Int)(x9:Nat):=Obj.mk vn none (Data.fields (A [vi x0 0,vi 4 0,vr x1,vi x2 0,vi 4 0,vr x3,vi x4 0,vi 4 0,vr x5,vi x6 0,vi 4 0,vr x7,vi x8 0,vi 4 0,vr x9])) E
def c0_318:=m19 161 326 166 333 169 340 172 345 175 352
def c0_319:=m0 q37 604 605 606 159 317 318 607 608
def c0_320:=m1 319 316 q103 399
def c0_323:=m14 q63 617 q118 618 q128 619 q129 620
def c0_325:=m3 q62 q130 (M 27 0)
def c0_326:=m4 q62 614 q130 615 616 161 4 321 322 323 324 325 621 622
def c0_327:=m5 q62 q130 (M 27 0) q103 399 326
def c0_330:=m2 q63 627
def c0_332:=m3 q104 q131 (M 27 1)
def c0_333:=m4 q104 624 q131 625 626 166 1 328 329 330 331 332 628 629
def c0_334:=m5 q104 q131 (M 27 1) q103 399 333
def c0_337:=m2 q63 634
def c0_339:=m3 q105 q132 (M 27 2)
def c0_340:=m4 q105 631 q132 632 633 169 1 335 336 337 338 339 635 636
def c0_341:=m5 q105 q132 (M 27 2) q103 399 340
def c0_344:=m3 q106 q133 (M 27 3)
def c0_345:=m12 q106 638 q133 639 640 172 3 342 343 344 641 642
def c0_346:=m5 q106 q133 (M 27 3) q103 399 345
def c0_349:=m2 q63 647
def c0_351:=m3 q109 q134 (M 27 4)
def c0_352:=m4 q109 644 q134 645 646 175 1 347 348 349 350 351 648 649
def c0_353:=m5 q109 q134 (M 27 4) q103 399 352
def c0_354:=m13 q129 651 q128 652 q118 653
def c0_355:=Obj.mk y3 none (Data.dict (A [de P q56 609 (vs q103 399),de P q59 613 (vi 159 612),de P q62 623 (vr 327),de P q104 630 (vr 334),de P q105 637 (vr 341),de P q106 643 (vr 346),de P q109 650 (vr 353),de P q60 654 (vr 354),de P q5 655 vn]) 2) E
def c0_356:=Obj.mk y9 none (Data.cls (ClassData.mk q37 [vr 217] [vr 356,vr 217,y12] 355 q37 true [] [] false none false)) (A [sr 314,none,some (vs q37 602),some (vs q37 610),some y18,some vT])
def c0_357:=m8 356
def c0_358:=m9 356
def c0_361:=Obj.mk y3 none (Data.dict (A [de P q56 665 (vs q103 399),de P q58 667 (vs q38 666),de P q59 669 (vi 177 668),de P q105 676 (vr 372),de P q106 685 (vr 379),de P q108 692 (vr 386),de P q109 699 (vr 393),de P q60 700 (vr 394)]) 8) E
def c0_363:=Obj.mk vn none (Data.fields (A [vi 179 0,vi 4 0,vr 371,vi 182 0,vi 4 0,vr 378,vi 185 0,vi 4 0,vr 385,vi 188 0,vi 4 0,vr 392])) E
def c0_364:=m0 q38 660 661 662 177 362 363 663 664
def c0_365:=m1 364 361 q103 399
def c0_368:=m2 q63 673
def c0_370:=m3 q105 q135 (M 28 0)
def c0_371:=m4 q105 670 q135 671 672 179 1 366 367 368 369 370 674 675
def c0_372:=m5 q105 q135 (M 28 0) q103 399 371
def c0_375:=m13 q63 680 q112 681 q113 682
def c0_377:=m3 q106 q136 (M 28 1)
def c0_378:=m4 q106 677 q136 678 679 182 3 373 374 375 376 377 683 684
def c0_379:=m5 q106 q136 (M 28 1) q103 399 378
def c0_382:=m2 q63 689
def c0_384:=m3 q108 q137 (M 28 2)
def c0_385:=m4 q108 686 q137 687 688 185 1 380 381 382 383 384 690 691
def c0_386:=m5 q108 q137 (M 28 2) q103 399 385
def c0_389:=m2 q63 696
def c0_391:=m3 q109 q138 (M 28 3)
def c0_392:=m4 q109 693 q138 694 695 188 1 387 388 389 390 391 697 698
def c0_393:=m5 q109 q138 (M 28 3) q103 399 392
def c0_395:=Obj.mk y3 none (Data.dict (A [de P q56 665 (vs q103 399),de P q59 669 (vi 177 668),de P q105 676 (vr 372),de P q106 685 (vr 379),de P q108 692 (vr 386),de P q109 699 (vr 393),de P q60 700 (vr 394),de P q5 701 vn]) 2) E
def c0_396:=Obj.mk y9 none (Data.cls (ClassData.mk q38 [vr 245] [vr 396,vr 245,vr 217,y12] 395 q38 true [] [] false none false)) (A [sr 359,none,some (vs q38 658),some (vs q38 666),some y18,some vT])
def c0_397:=m8 396
def c0_398:=m9 396
def c0_401:=Obj.mk y3 none (Data.dict (A [de P q56 711 (vs q103 399),de P q58 713 (vs q39 712),de P q59 715 (vi 190 714),de P q62 725 (vr 412),de P q105 732 (vr 419),de P q106 741 (vr 426),de P q107 749 (vr 433),de P q109 756 (vr 440),de P q60 758 (vr 441)]) 9) E
def c0_403:=m19 192 411 196 418 199 425 202 432 205 439
def c0_404:=m0 q39 706 707 708 190 402 403 709 710
def c0_405:=m1 404 401 q103 399
def c0_408:=m14 q63 719 q118 720 q119 721 q139 722
def c0_410:=m3 q62 q140 (M 29 0)
def c0_411:=m4 q62 716 q140 717 718 192 4 406 407 408 409 410 723 724
def c0_412:=m5 q62 q140 (M 29 0) q103 399 411
def c0_415:=m2 q63 729
def c0_417:=m3 q105 q141 (M 29 1)
def c0_418:=m4 q105 726 q141 727 728 196 1 413 414 415 416 417 730 731
def c0_419:=m5 q105 q141 (M 29 1) q103 399 418
def c0_422:=m13 q63 736 q112 737 q113 738
def c0_424:=m3 q106 q142 (M 29 2)
def c0_425:=m4 q106 733 q142 734 735 199 3 420 421 422 423 424 739 740
def c0_426:=m5 q106 q142 (M 29 2) q103 399 425
def c0_429:=m11 q63 745 q113 746
def c0_431:=m3 q107 q143 (M 29 3)
def c0_432:=m4 q107 742 q143 743 744 202 2 427 428 429 430 431 747 748
def c0_433:=m5 q107 q143 (M 29 3) q103 399 432
def c0_436:=m2 q63 753
def c0_438:=m3 q109 q144 (M 29 4)
def c0_439:=m4 q109 750 q144 751 752 205 1 434 435 436 437 438 754 755
def c0_440:=m5 q109 q144 (M 29 4) q103 399 439
def c0_441:=m2 q139 757
def c0_442:=Obj.mk y3 none (Data.dict (A [de P q56 711 (vs q103 399),de P q59 715 (vi 190 714),de P q62 725 (vr 412),de P q105 732 (vr 419),de P q106 741 (vr 426),de P q107 749 (vr 433),de P q109 756 (vr 440),de P q60 758 (vr 441),de P q5 759 vn]) 2) E
def c0_443:=Obj.mk y9 none (Data.cls (ClassData.mk q39 [vr 245] [vr 443,vr 245,vr 217,y12] 442 q39 true [] [] false none false)) (A [sr 399,none,some (vs q39 704),some (vs q39 712),some y18,some vT])
def c0_444:=m8 443
def c0_445:=m9 443
def c0_448:=m16 P 769 771 q40 770 773 207 772 q62 781 459 790 466 797 473 799 474
def c0_450:=m17 209 458 212 465 215 472
def c0_451:=m0 q40 764 765 766 207 449 450 767 768
def c0_452:=m1 451 448 q103 399
def c0_455:=m11 q63 777 q139 778
def c0_457:=m3 q62 q145 (M 30 0)
def c0_458:=m4 q62 774 q145 775 776 209 2 453 454 455 456 457 779 780
def c0_459:=m5 q62 q145 (M 30 0) q103 399 458
def c0_462:=m13 q63 785 q112 786 q113 787
def c0_464:=m3 q106 q146 (M 30 1)
def c0_465:=m4 q106 782 q146 783 784 212 3 460 461 462 463 464 788 789
def c0_466:=m5 q106 q146 (M 30 1) q103 399 465
def c0_469:=m2 q63 794
def c0_471:=m3 q109 q147 (M 30 2)
def c0_472:=m4 q109 791 q147 792 793 215 1 467 468 469 470 471 795 796
def c0_473:=m5 q109 q147 (M 30 2) q103 399 472
def c0_474:=m2 q139 798
def c0_475:=m18 P 769 773 207 772 q62 781 459 790 466 797 473 799 474 800
def c0_476:=Obj.mk y9 none (Data.cls (ClassData.mk q40 [vr 217] [vr 476,vr 217,y12] 475 q40 true [] [] false none false)) (A [sr 446,none,some (vs q40 762),some (vs q40 770),some y18,some vT])
def c0_477:=m8 476
def c0_478:=m9 476
def c0_481:=m16 P 810 812 q41 811 814 217 813 q62 822 492 831 499 838 506 840 507
def c0_483:=m17 219 491 222 498 227 505
def c0_484:=m0 q41 805 806 807 217 482 483 808 809
def c0_485:=m1 484 481 q103 399
def c0_488:=m11 q63 818 q139 819
def c0_490:=m3 q62 q148 (M 31 0)
def c0_491:=m4 q62 815 q148 816 817 219 2 486 487 488 489 490 820 821
def c0_492:=m5 q62 q148 (M 31 0) q103 399 491
def c0_495:=m13 q63 826 q112 827 q113 828
def c0_497:=m3 q106 q149 (M 31 1)
def c0_498:=m4 q106 823 q149 824 825 222 3 493 494 495 496 497 829 830
def c0_499:=m5 q106 q149 (M 31 1) q103 399 498
def c0_502:=m2 q63 835
def c0_504:=m3 q109 q150 (M 31 2)
def c0_505:=m4 q109 832 q150 833 834 227 1 500 501 502 503 504 836 837
def c0_506:=m5 q109 q150 (M 31 2) q103 399 505
def c0_507:=m2 q139 839
def c0_508:=m18 P 810 814 217 813 q62 822 492 831 499 838 506 840 507 841
def c0_509:=Obj.mk y9 none (Data.cls (ClassData.mk q41 [vr 217] [vr 509,vr 217,y12] 508 q41 true [] [] false none false)) (A [sr 479,none,some (vs q41 803),some (vs q41 811),some y18,some vT])
def c0_510:=m8 509
def c0_511:=m9 509
def c0_514:=m3 q42 q42 (B 32)
def c0_515:=m12 q42 844 q42 845 846 229 2 512 513 514 847 848
def c0_516:=m5 q42 q42 (B 32) q103 399 515
def c0_519:=m3 q43 q43 (B 33)
def c0_520:=m12 q43 850 q43 851 852 231 1 517 518 519 853 854
def c0_521:=m5 q43 q43 (B 33) q103 399 520
def c0_524:=m13 q151 859 q152 860 q69 861
def c0_526:=m3 q44 q44 (B 34)
def c0_527:=m4 q44 856 q44 857 858 237 2 522 523 524 525 526 862 863
def c0_528:=m5 q44 q44 (B 34) q103 399 527
def c0_531:=m11 q151 868 q153 869
def c0_533:=m3 q45 q45 (B 35)
def c0_534:=m4 q45 865 q45 866 867 247 2 529 530 531 532 533 870 871
def c0_535:=m5 q45 q45 (B 35) q103 399 534
def c0_538:=m13 q118 876 q128 877 q129 878
def c0_540:=m3 q46 q46 (B 36)
def c0_541:=m4 q46 873 q46 874 875 261 3 536 537 538 539 540 879 880
def c0_542:=m5 q46 q46 (B 36) q103 399 541
def c0_543:=m11 q154 884 q155 885
def c0_546:=Obj.mk y3 none (Data.dict (A [de P q56 896 (vs q156 882),de P q58 898 (vs q49 897),de P q59 900 (vi 268 899),de P q62 909 (vr 557),de P q109 915 (vr 562),de P q60 919 (vr 563)]) 6) E
def c0_548:=Obj.mk vn none (Data.fields (A [vi 270 0,vi 4 0,vr 556,vi 275 0,vi 4 0,vr 561])) E
def c0_549:=m0 q49 891 892 893 268 547 548 894 895
def c0_550:=m1 549 546 q156 882
def c0_553:=m13 q63 904 q157 905 q158 906
def c0_555:=m3 q62 q159 (M 40 0)
def c0_556:=m4 q62 901 q159 902 903 270 3 551 552 553 554 555 907 908
def c0_557:=m5 q62 q159 (M 40 0) q156 882 556
def c0_560:=m3 q109 q160 (M 40 1)
def c0_561:=m12 q109 910 q160 911 912 275 1 558 559 560 913 914
def c0_562:=m5 q109 q160 (M 40 1) q156 882 561
def c0_563:=m13 q157 916 q80 917 q158 918
def c0_564:=Obj.mk y3 none (Data.dict (A [de P q56 896 (vs q156 882),de P q59 900 (vi 268 899),de P q62 909 (vr 557),de P q109 915 (vr 562),de P q60 919 (vr 563),de P q91 921 (vr 566),de P q61 923 (vr 567),de P q5 924 vn]) 4) E
def c0_565:=Obj.mk y9 none (Data.cls (ClassData.mk q49 [y12] [vr 565,y12] 564 q49 true [] [] false none false)) (A [none,none,some (vs q49 889),some (vs q49 897),some y18,some vT])
def c0_566:=m15 920 565
def c0_567:=m7 922 565
def c0_568:=m8 565
def c0_569:=m9 565
def c0_572:=m3 q50 q50 (B 41)
def c0_573:=m12 q50 927 q50 928 929 277 1 570 571 572 930 931
def c0_574:=m5 q50 q50 (B 41) q156 882 573
def c0_577:=m11 q75 936 q69 937
def c0_579:=m3 q51 q51 (B 42)
def c0_580:=m4 q51 933 q51 934 935 285 2 575 576 577 578 579 938 939
def c0_581:=m5 q51 q51 (B 42) q156 882 580
def c0_584:=m3 q52 q52 (B 43)
def c0_585:=m12 q52 941 q52 942 943 290 1 582 583 584 944 945
def c0_586:=m5 q52 q52 (B 43) q156 882 585
def c0_589:=Obj.mk y3 none (Data.dict (A [de P q56 958 (vs q4 947),de P q58 960 (vs q54 959),de P q59 962 (vi 294 961),de P q62 971 (vr 600),de P q161 979 (vr 607),de P q162 987 (vr 614),de P q163 996 (vr 621),de P q164 1007 (vr 628),de P q165 1015 (vr 635),de P q166 1023 (vr 642),de P q167 1031 (vr 649),de P q168 1039 (vr 656),de P q169 1047 (vr 663),de P q170 1054 (vr 670),de P q171 1061 (vr 677),de P q172 1072 (vr 684),de P q173 1080 (vr 691),de P q60 1088 (vr 692)]) 18) E
def c0_591:=Obj.mk vn none (Data.fields (A [vi 296 0,vi 4 0,vr 599,vi 305 0,vi 4 0,vr 606,vi 315 0,vi 4 0,vr 613,vi 322 0,vi 4 0,vr 620,vi 329 0,vi 4 0,vr 627,vi 332 0,vi 4 0,vr 634,vi 335 0,vi 4 0,vr 641,vi 338 0,vi 4 0,vr 648,vi 341 0,vi 4 0,vr 655,vi 345 0,vi 4 0,vr 662,vi 354 0,vi 4 0,vr 669,vi 359 0,vi 4 0,vr 676,vi 362 0,vi 4 0,vr 683,vi 367 0,vi 4 0,vr 690])) E
def c0_592:=m0 q54 953 954 955 294 590 591 956 957
def c0_593:=m1 592 589 q4 947
def c0_596:=m13 q63 966 q174 967 q175 968
def c0_598:=m3 q62 q176 (M 46 0)
def c0_599:=m4 q62 963 q176 964 965 296 3 594 595 596 597 598 969 970
def c0_600:=m5 q62 q176 (M 46 0) q4 947 599
def c0_603:=m11 q63 975 q177 976
def c0_605:=m3 q161 q178 (M 46 1)
def c0_606:=m4 q161 972 q178 973 974 305 2 601 602 603 604 605 977 978
def c0_607:=m5 q161 q178 (M 46 1) q4 947 606
def c0_610:=m11 q63 983 q177 984
def c0_612:=m3 q162 q179 (M 46 2)
def c0_613:=m4 q162 980 q179 981 982 315 2 608 609 610 611 612 985 986
def c0_614:=m5 q162 q179 (M 46 2) q4 947 613
def c0_617:=m13 q63 991 q177 992 q180 993
def c0_619:=m3 q163 q181 (M 46 3)
def c0_620:=m4 q163 988 q181 989 990 322 3 615 616 617 618 619 994 995
def c0_621:=m5 q163 q181 (M 46 3) q4 947 620
def m20(x0:Str)(x1:Nat)(x2:Str)(x3:Nat)(x4:Str)(x5:Nat)(x6:Str)(x7:Nat)(x8:Str)(x9:Nat):=Obj.mk y0 none (Data.seq (A [vs x0 x1,vs x2 x3,vs x4 x5,vs x6 x7,vs x8 x9]) 0) E
def c0_624:=m20 q63 1000 q177 1001 q151 1002 q182 1003 q183 1004
def c0_626:=m3 q164 q184 (M 46 4)
def c0_627:=m4 q164 997 q184 998 999 329 5 622 623 624 625 626 1005 1006
def c0_628:=m5 q164 q184 (M 46 4) q4 947 627
def c0_631:=m11 q63 1011 q177 1012
def c0_633:=m3 q165 q185 (M 46 5)
def c0_634:=m4 q165 1008 q185 1009 1010 332 2 629 630 631 632 633 1013 1014
def c0_635:=m5 q165 q185 (M 46 5) q4 947 634
def c0_638:=m11 q63 1019 q177 1020
def c0_640:=m3 q166 q186 (M 46 6)
def c0_641:=m4 q166 1016 q186 1017 1018 335 2 636 637 638 639 640 1021 1022
def c0_642:=m5 q166 q186 (M 46 6) q4 947 641
def c0_645:=m11 q63 1027 q177 1028
def c0_647:=m3 q167 q187 (M 46 7)
def c0_648:=m4 q167 1024 q187 1025 1026 338 2 643 644 645 646 647 1029 1030
def c0_649:=m5 q167 q187 (M 46 7) q4 947 648
def c0_652:=m11 q63 1035 q180 1036
def c0_654:=m3 q168 q188 (M 46 8)
def c0_655:=m4 q168 1032 q188 1033 1034 341 2 650 651 652 653 654 1037 1038
def c0_656:=m5 q168 q188 (M 46 8) q4 947 655
def c0_659:=m11 q63 1043 q189 1044
def c0_661:=m3 q169 q190 (M 46 9)
def c0_662:=m4 q169 1040 q190 1041 1042 345 1 657 658 659 660 661 1045 1046
def c0_663:=m5 q169 q190 (M 46 9) q4 947 662
def c0_666:=m2 q63 1051
def c0_668:=m3 q170 q191 (M 46 10)
def c0_669:=m4 q170 1048 q191 1049 1050 354 1 664 665 666 667 668 1052 1053
def c0_670:=m5 q170 q191 (M 46 10) q4 947 669
def c0_673:=m2 q63 1058
def c0_675:=m3 q171 q192 (M 46 11)
def c0_676:=m4 q171 1055 q192 1056 1057 359 1 671 672 673 674 675 1059 1060
def c0_677:=m5 q171 q192 (M 46 11) q4 947 676
def c0_680:=m20 q63 1065 q177 1066 q151 1067 q69 1068 q75 1069
def c0_682:=m3 q172 q193 (M 46 12)
def c0_683:=m4 q172 1062 q193 1063 1064 362 3 678 679 680 681 682 1070 1071
def c0_684:=m5 q172 q193 (M 46 12) q4 947 683
def c0_687:=m11 q63 1076 q183 1077
def c0_689:=m3 q173 q194 (M 46 13)
def c0_690:=m4 q173 1073 q194 1074 1075 367 2 685 686 687 688 689 1078 1079
def c0_691:=m5 q173 q194 (M 46 13) q4 947 690
def c0_692:=Obj.mk y0 none (Data.seq (A [vs q195 1081,vs q196 1082,vs q197 1083,vs q174 1084,vs q198 1085,vs q158 1086,vs q199 1087]) 0) E
def c0_693:=Obj.mk y3 none (Data.dict (A [de P q56 958 (vs q4 947),de P q59 962 (vi 294 961),de P q62 971 (vr 600),de P q161 979 (vr 607),de P q162 987 (vr 614),de P q163 996 (vr 621),de P q164 1007 (vr 628),de P q165 1015 (vr 635),de P q166 1023 (vr 642),de P q167 1031 (vr 649),de P q168 1039 (vr 656),de P q169 1047 (vr 663),de P q170 1054 (vr 670),de P q171 1061 (vr 677),de P q172 1072 (vr 684),de P q173 1080 (vr 691),de P q60 1088 (vr 692),de P q91 1090 (vr 695),de P q61 1092 (vr 696),de P q5 1093 vn]) 4) E
def c0_694:=Obj.mk y9 none (Data.cls (ClassData.mk q54 [y12] [vr 694,y12] 693 q54 true [] [] false none false)) (A [none,none,some (vs q54 951),some (vs q54 959),some y18,some vT])
def c0_695:=m15 1089 694
def c0_696:=m7 1091 694
def c0_697:=m8 694
def c0_698:=m9 694
def tc0_:=nd (boot_o_0 P) (nd (boot_o_1 P) (nd (c0_3 P) (nd (boot_o_7 P) (nd a11 (nd c0_31 (nd c0_63 (nd c0_127 (nd a11 (l1 c0_511) .nil) (nd a11 (l1 a11) .nil)) (nd c0_191 (nd c0_319 (l1 a11) .nil) (l1 c0_23))) (nd a11 (nd (c0_159 P) (nd c0_287 (l1 c0_543) .nil) (nd c0_415 (l1 a11) .nil)) (nd c0_23 (nd c0_351 (l1 c0_607) .nil) (l1 c0_222)))) (nd c0_35 (nd a12 (nd c0_143 (nd c0_271 (l1 c0_527) .nil) (nd c0_248 (l1 c0_655) .nil)) (nd c0_207 (nd a11 (l1 c0_591) .nil) (l1 a11))) (nd c0_111 (nd c0_175 (nd a12 (l1 a12) .nil) (nd c0_431 (l1 c0_687) .nil)) (nd a11 (nd a12 (l1 a12) .nil) (l1 c0_495))))) (nd c0_23 (nd a12 (nd c0_71 (nd c0_135 (nd a12 (l1 c0_519) .nil) (nd c0_391 (l1 c0_647) .nil)) (nd c0_199 (nd c0_327 (l1 a12) .nil) (l1 c0_455))) (nd c0_23 (nd c0_23 (nd a11 (l1 a11) .nil) (nd a11 (l1 a12) .nil)) (nd c0_231 (nd c0_248 (l1 a11) .nil) (l1 a12)))) (nd (c0_55 P) (nd c0_87 (nd a11 (nd c0_279 (l1 c0_535) .nil) (nd a12 (l1 c0_663) .nil)) (nd a11 (nd a12 (l1 c0_599) .nil) (l1 c0_471))) (nd a11 (nd a11 (nd c0_311 (l1 c0_567) .nil) (nd c0_439 (l1 c0_695) .nil)) (nd c0_247 (nd c0_375 (l1 c0_631) .nil) (l1 a11)))))) (nd a11 (nd c0_19 (nd c0_35 (nd a12 (nd a12 (nd c0_259 (l1 c0_515) .nil) (nd a11 (l1 a11) .nil)) (nd a12 (nd c0_323 (l1 c0_579) .nil) (l1 c0_451))) (nd c0_99 (nd c0_163 (nd a11 (l1 a11) .nil) (nd c0_419 (l1 c0_675) .nil)) (nd c0_227 (nd (c0_355 P) (l1 a11) .nil) (l1 c0_483)))) (nd a12 (nd c0_83 (nd a11 (nd c0_275 (l1 c0_531) .nil) (nd c0_403 (l1 c0_659) .nil)) (nd a11 (nd c0_339 (l1 a12) .nil) (l1 a11))) (nd c0_115 (nd c0_179 (nd c0_307 (l1 c0_563) .nil) (nd a12 (l1 c0_691) .nil)) (nd c0_243 (nd c0_371 (l1 c0_627) .nil) (l1 c0_499))))) (nd c0_27 (nd (c0_43 P) (nd c0_75 (nd c0_139 (nd c0_267 (l1 a12) .nil) (nd (c0_395 P) (l1 a12) .nil)) (nd c0_203 (nd a11 (l1 a11) .nil) (l1 c0_459))) (nd c0_107 (nd c0_171 (nd c0_299 (l1 c0_555) .nil) (nd a11 (l1 c0_683) .nil)) (nd c0_235 (nd c0_363 (l1 c0_619) .nil) (l1 c0_491)))) (nd c0_35 (nd a12 (nd c0_155 (nd (c0_283 P) (l1 a11) .nil) (nd c0_411 (l1 a11) .nil)) (nd c0_219 (nd a11 (l1 c0_603) .nil) (l1 (c0_475 P)))) (nd a11 (nd a11 (nd c0_23 (l1 a12) .nil) (l1 c0_443)) (nd a11 (nd c0_379 (l1 c0_635) .nil) (l1 c0_507))))))) (nd (boot_o_5 P) (nd (boot_o_9 P) (nd c0_17 (nd c0_33 (nd c0_65 (nd c0_129 (nd c0_257 (l1 a12) .nil) (nd c0_385 (l1 c0_641) .nil)) (nd c0_193 (nd a11 (l1 c0_577) .nil) (l1 a11))) (nd c0_97 (nd c0_161 (nd a12 (l1 c0_23) .nil) (nd c0_417 (l1 c0_673) .nil)) (nd a11 (nd c0_353 (l1 a12) .nil) (l1 (c0_481 P))))) (nd (c0_49 P) (nd a11 (nd a12 (nd c0_273 (l1 a11) .nil) (nd (c0_401 P) (l1 a11) .nil)) (nd a12 (nd c0_337 (l1 c0_593) .nil) (l1 c0_465))) (nd c0_113 (nd c0_177 (nd a11 (l1 c0_561) .nil) (nd c0_433 (l1 c0_689) .nil)) (nd c0_241 (nd a11 (l1 a11) .nil) (l1 c0_497))))) (nd a11 (nd c0_41 (nd c0_73 (nd a11 (nd a11 (l1 c0_521) .nil) (nd c0_393 (l1 c0_649) .nil)) (nd a11 (nd a12 (l1 c0_585) .nil) (l1 c0_457))) (nd a11 (nd a11 (nd c0_297 (l1 c0_553) .nil) (nd c0_425 (l1 a11) .nil)) (nd c0_233 (nd (c0_361 P) (l1 c0_617) .nil) (l1 a11)))) (nd c0_57 (nd c0_89 (nd c0_153 (nd c0_248 (l1 a12) .nil) (nd a11 (l1 a12) .nil)) (nd c0_217 (nd c0_345 (l1 a11) .nil) (l1 c0_473))) (nd c0_121 (nd c0_185 (nd c0_313 (l1 c0_569) .nil) (nd c0_441 (l1 c0_697) .nil)) (nd c0_23 (nd c0_377 (l1 c0_633) .nil) (l1 c0_505)))))) (nd a13 (nd c0_21 (nd (c0_37 P) (nd a11 (nd a11 (nd c0_261 (l1 a11) .nil) (nd c0_389 (l1 c0_645) .nil)) (nd a11 (nd c0_325 (l1 c0_581) .nil) (l1 a11))) (nd c0_101 (nd (c0_165 P) (nd c0_293 (l1 c0_549) .nil) (nd a12 (l1 c0_677) .nil)) (nd a11 (nd c0_357 (l1 c0_613) .nil) (l1 c0_485)))) (nd c0_53 (nd a11 (nd c0_149 (nd (c0_277 P) (l1 c0_533) .nil) (nd c0_405 (l1 c0_661) .nil)) (nd c0_213 (nd c0_341 (l1 a11) .nil) (l1 c0_469))) (nd a12 (nd a12 (nd a11 (l1 c0_565) .nil) (nd a11 (l1 (c0_693 P)) .nil)) (nd c0_245 (nd a11 (l1 a11) .nil) (l1 a12))))) (nd a11 (nd c0_45 (nd c0_77 (nd c0_141 (nd a11 (l1 a11) .nil) (nd c0_397 (l1 a11) .nil)) (nd c0_205 (nd c0_333 (l1 (c0_589 P)) .nil) (l1 a12))) (nd a11 (nd a11 (nd c0_301 (l1 c0_557) .nil) (nd c0_429 (l1 a11) .nil)) (nd a12 (nd c0_365 (l1 c0_621) .nil) (l1 a11)))) (nd (c0_61 P) (nd c0_93 (nd c0_157 (nd c0_285 (l1 c0_541) .nil) (nd a11 (l1 c0_669) .nil)) (nd c0_221 (nd c0_349 (l1 c0_605) .nil) (l1 c0_477))) (nd c0_125 (nd c0_189 (nd a11 (l1 c0_573) .nil) (l1 c0_445)) (nd c0_253 (nd a12 (l1 a12) .nil) (l1 c0_509)))))))) (nd (boot_o_2 P) (nd (boot_o_4 P) (nd (boot_o_8 P) (nd a12 (nd c0_32 (nd c0_64 (nd c0_128 (nd a12 (l1 a11) .nil) (nd c0_384 (l1 c0_640) .nil)) (nd c0_192 (nd c0_320 (l1 a12) .nil) (l1 (c0_448 P)))) (nd a12 (nd c0_160 (nd a11 (l1 a11) .nil) (nd a11 (l1 a12) .nil)) (nd (c0_224 P) (nd c0_352 (l1 a11) .nil) (l1 c0_23)))) (nd c0_23 (nd c0_80 (nd a11 (nd a11 (l1 c0_528) .nil) (nd c0_23 (l1 c0_656) .nil)) (nd a11 (nd a12 (l1 c0_592) .nil) (l1 c0_464))) (nd a11 (nd a11 (nd c0_304 (l1 c0_560) .nil) (nd c0_432 (l1 a11) .nil)) (nd c0_240 (nd c0_368 (l1 c0_624) .nil) (l1 a11))))) (nd (c0_24 P) (nd c0_40 (nd c0_72 (nd c0_136 (nd c0_264 (l1 c0_520) .nil) (nd c0_392 (l1 c0_648) .nil)) (nd c0_200 (nd a11 (l1 c0_584) .nil) (l1 a11))) (nd (c0_104 P) (nd (c0_168 P) (nd a12 (l1 a12) .nil) (nd c0_424 (l1 c0_680) .nil)) (nd a11 (nd c0_23 (l1 a12) .nil) (l1 c0_488)))) (nd c0_56 (nd c0_88 (nd a12 (nd c0_280 (l1 a11) .nil) (nd c0_408 (l1 a11) .nil)) (nd (c0_216 P) (nd c0_344 (l1 c0_600) .nil) (l1 c0_472))) (nd c0_120 (nd c0_184 (nd c0_312 (l1 c0_568) .nil) (nd c0_440 (l1 c0_696) .nil)) (nd c0_248 (nd a11 (l1 a11) .nil) (l1 c0_504)))))) (nd c0_12 (nd c0_20 (nd c0_23 (nd c0_68 (nd c0_132 (nd c0_260 (l1 c0_516) .nil) (nd a12 (l1 a12) .nil)) (nd c0_196 (nd a11 (l1 c0_580) .nil) (l1 c0_452))) (nd c0_100 (nd c0_164 (nd c0_292 (l1 c0_548) .nil) (nd a11 (l1 c0_676) .nil)) (nd c0_228 (nd c0_356 (l1 c0_612) .nil) (l1 c0_484)))) (nd c0_52 (nd c0_84 (nd c0_148 (nd a11 (l1 a11) .nil) (nd c0_404 (l1 a11) .nil)) (nd c0_212 (nd c0_340 (l1 c0_596) .nil) (l1 a12))) (nd a11 (nd a11 (nd c0_308 (l1 (c0_564 P)) .nil) (nd c0_436 (l1 c0_692) .nil)) (nd (c0_244 P) (nd c0_372 (l1 c0_628) .nil) (l1 a11))))) (nd c0_28 (nd c0_44 (nd c0_76 (nd a11 (nd c0_268 (l1 c0_524) .nil) (nd c0_396 (l1 c0_652) .nil)) (nd a11 (nd c0_332 (l1 c0_23) .nil) (l1 a11))) (nd c0_108 (nd c0_172 (nd c0_300 (l1 c0_556) .nil) (nd a12 (l1 c0_684) .nil)) (nd a11 (nd c0_364 (l1 c0_620) .nil) (l1 c0_492)))) (nd c0_23 (nd c0_92 (nd c0_156 (nd a11 (l1 c0_540) .nil) (nd c0_412 (l1 c0_668) .nil)) (nd c0_220 (nd a12 (l1 a11) .nil) (l1 c0_476))) (nd a12 (nd a12 (nd (c0_316 P) (l1 c0_572) .nil) (l1 c0_444)) (nd c0_252 (nd a11 (l1 a11) .nil) (l1 (c0_508 P)))))))) (nd (boot_o_6 P) (nd (boot_o_10 P) (nd a11 (nd c0_34 (nd a11 (nd a11 (nd a11 (l1 c0_514) .nil) (nd c0_386 (l1 c0_642) .nil)) (nd a11 (nd a12 (l1 a11) .nil) (l1 c0_450))) (nd a11 (nd c0_162 (nd c0_290 (l1 (c0_546 P)) .nil) (nd c0_418 (l1 a11) .nil)) (nd c0_226 (nd c0_354 (l1 c0_610) .nil) (l1 a11)))) (nd a11 (nd c0_82 (nd c0_146 (nd c0_274 (l1 a12) .nil) (nd a11 (l1 a12) .nil)) (nd c0_210 (nd a11 (l1 a11) .nil) (l1 c0_466))) (nd c0_114 (nd c0_178 (nd c0_306 (l1 c0_562) .nil) (nd a11 (l1 c0_690) .nil)) (nd c0_242 (nd c0_370 (l1 c0_626) .nil) (l1 c0_498))))) (nd a12 (nd a11 (nd (c0_74 P) (nd a12 (nd c0_266 (l1 a11) .nil) (nd a11 (l1 a11) .nil)) (nd a12 (nd c0_330 (l1 c0_586) .nil) (l1 c0_458))) (nd c0_106 (nd c0_170 (nd a11 (l1 a11) .nil) (nd c0_426 (l1 c0_682) .nil)) (nd c0_234 (nd a11 (l1 a11) .nil) (l1 c0_490)))) (nd c0_58 (nd a11 (nd a11 (nd c0_23 (l1 c0_538) .nil) (nd c0_410 (l1 c0_666) .nil)) (nd c0_218 (nd c0_346 (l1 a12) .nil) (l1 c0_474))) (nd c0_122 (nd c0_186 (nd c0_222 (l1 a11) .nil) (nd (c0_442 P) (l1 c0_698) .nil)) (nd (c0_250 P) (nd c0_378 (l1 c0_634) .nil) (l1 c0_506)))))) (nd a14 (nd c0_22 (nd a11 (nd c0_70 (nd c0_134 (nd a11 (l1 a12) .nil) (nd a11 (l1 a11) .nil)) (nd c0_198 (nd c0_326 (l1 a11) .nil) (l1 a12))) (nd a11 (nd a11 (nd c0_294 (l1 c0_550) .nil) (nd c0_422 (l1 a11) .nil)) (nd a12 (nd c0_358 (l1 c0_614) .nil) (l1 a11)))) (nd a11 (nd a12 (nd c0_150 (nd c0_278 (l1 c0_534) .nil) (nd a11 (l1 c0_662) .nil)) (nd c0_214 (nd a11 (l1 c0_598) .nil) (l1 a11))) (nd c0_118 (nd c0_182 (nd (c0_310 P) (l1 c0_566) .nil) (nd c0_438 (l1 c0_694) .nil)) (nd c0_246 (nd a12 (l1 a12) .nil) (l1 c0_502))))) (nd (c0_30 P) (nd c0_46 (nd a11 (nd c0_142 (nd a12 (l1 c0_526) .nil) (nd c0_398 (l1 c0_654) .nil)) (nd c0_206 (nd c0_334 (l1 a11) .nil) (l1 c0_462))) (nd a12 (nd a12 (nd a11 (l1 a11) .nil) (nd a11 (l1 a12) .nil)) (nd c0_238 (nd a11 (l1 a11) .nil) (l1 a12)))) (nd a11 (nd c0_94 (nd c0_158 (nd c0_286 (l1 c0_542) .nil) (nd a12 (l1 c0_670) .nil)) (nd c0_222 (nd a11 (l1 c0_606) .nil) (l1 c0_478))) (nd a11 (nd a11 (nd c0_318 (l1 c0_574) .nil) (l1 c0_222)) (nd c0_254 (nd c0_382 (l1 c0_638) .nil) (l1 c0_510))))))))
def c1_3:=Obj.mk y3 none (Data.dict (A [de P q3 165 (vs q200 1366),de P q5 166 vn,de P q6 167 vn,de P q7 168 y4,de P q8 169 vn,de P q9 170 (vr 6),de P q10 171 (vr 4),de P q11 173 (vs q1 172),de P q12 174 vn,de P q13 193 (vr 21),de P q14 213 (vr 31),de P q15 229 (vr 44),de P q16 245 (vr 56),de P q17 270 (vr 75),de P q18 274 (vi 400 273),de P q19 276 (vi 2000 275),de P q20 278 (vi 2000 277),de P q21 280 (vi 8 279),de P q22 282 (vi 100000 281),de P q23 284 (vi 32 283),de P q24 286 (vi 37 285),de P q25 288 (vi 126 287),de P q26 295 (vr 84),de P q27 301 (vr 89),de P q28 307 (vr 94),de P q29 315 (vr 101),de P q30 398 (vr 160),de P q31 402 (vi 40 401),de P q32 424 (vr 165),de P q33 489 (vr 217),de P q34 523 (vr 245),de P q35 562 (vr 278),de P q36 601 (vr 311),de P q37 657 (vr 356),de P q38 703 (vr 396),de P q39 761 (vr 443),de P q40 802 (vr 476),de P q41 843 (vr 509),de P q42 849 (vr 516),de P q43 855 (vr 521),de P q44 864 (vr 528),de P q45 872 (vr 535),de P q46 881 (vr 542),de P q47 886 (vr 543),de P q48 888 (vi 12 887),de P q49 926 (vr 565),de P q50 932 (vr 574),de P q51 940 (vr 581),de P q52 946 (vr 586),de P q53 950 (vi 4 949),de P q54 1095 (vr 694),de P q201 1171 (vr 755),de P q202 1178 (vr 764),de P q203 1244 (vr 807),de P q204 1365 (vr 905),de P q205 1375 (vr 916),de P q206 1382 (vr 923),de P q207 1396 (vr 930),de P q208 1403 (vr 937),de P q209 1415 (vr 944),de P q210 1426 (vr 951),de P q211 1439 (vr 958),de P q212 1448 (vr 965),de P q213 1456 (vr 972),de P q214 1462 (vr 977),de P q215 1468 (vr 982),de P q216 1474 (vr 987)]) 67) E
def c1_12:=Obj.mk vn none (Data.fields (A [vi 1 0,vi 0 0,vr 20,vi 5 0,vi 0 0,vr 27,vi 7 0,vi 0 0,vr 40,vi 9 0,vi 0 0,vr 52,vi 11 0,vi 0 0,vr 64,vi 24 0,vi 0 0,vr 83,vi 26 0,vi 0 0,vr 88,vi 32 0,vi 0 0,vr 93,vi 42 0,vi 0 0,vr 100,vi 45 0,vi 0 0,vr 107,vi 112 0,vi 0 0,vr 171,vi 131 0,vi 0 0,vr 227,vi 139 0,vi 0 0,vr 253,vi 149 0,vi 0 0,vr 286,vi 159 0,vi 0 0,vr 319,vi 177 0,vi 0 0,vr 364,vi 190 0,vi 0 0,vr 404,vi 207 0,vi 0 0,vr 451,vi 217 0,vi 0 0,vr 484,vi 229 0,vi 0 0,vr 515,vi 231 0,vi 0 0,vr 520,vi 237 0,vi 0 0,vr 527,vi 247 0,vi 0 0,vr 534,vi 261 0,vi 0 0,vr 541,vi 268 0,vi 0 0,vr 549,vi 277 0,vi 0 0,vr 573,vi 285 0,vi 0 0,vr 580,vi 290 0,vi 0 0,vr 585,vi 294 0,vi 0 0,vr 592,vi 369 0,vi 0 0,vr 704,vi 407 0,vi 0 0,vr 763,vi 410 0,vi 0 0,vr 770,vi 431 0,vi 0 0,vr 817,vi 475 0,vi 0 0,vr 915,vi 479 0,vi 0 0,vr 922,vi 481 0,vi 0 0,vr 929,vi 500 0,vi 0 0,vr 936,vi 504 0,vi 0 0,vr 943,vi 514 0,vi 0 0,vr 950,vi 524 0,vi 0 0,vr 957,vi 529 0,vi 0 0,vr 964,vi 534 0,vi 0 0,vr 971,vi 538 0,vi 0 0,vr 976,vi 540 0,vi 0 0,vr 981,vi 544 0,vi 0 0,vr 986])) E
def c1_694:=Obj.mk y9 none (Data.cls (ClassData.mk q54 [y12] [vr 694,y12] 693 q54 true [] [vr 755] false none false)) (A [none,none,some (vs q54 951),some (vs q54 959),some y18,some vT])
def c1_699:=m10 694
def c1_701:=Obj.mk y3 none (Data.dict (A [de P q56 1103 (vs q4 947),de P q58 1105 (vs q201 1104),de P q59 1107 (vi 369 1106),de P q62 1116 (vr 712),de P q165 1125 (vr 719),de P q164 1136 (vr 726),de P q217 1142 (vr 731),de P q218 1149 (vr 738),de P q166 1158 (vr 745),de P q167 1166 (vr 752),de P q60 1168 (vr 753)]) 11) E
def c1_703:=Obj.mk vn none (Data.fields (A [vi 371 0,vi 4 0,vr 711,vi 375 0,vi 4 0,vr 718,vi 383 0,vi 4 0,vr 725,vi 394 0,vi 4 0,vr 730,vi 397 0,vi 4 0,vr 737,vi 400 0,vi 4 0,vr 744,vi 405 0,vi 4 0,vr 751])) E
def c1_704:=m0 q201 1098 1099 1100 369 702 703 1101 1102
def c1_705:=m1 704 701 q4 947
def c1_708:=m13 q63 1111 q174 1112 q175 1113
def c1_710:=m3 q62 q219 (M 47 0)
def c1_711:=m4 q62 1108 q219 1109 1110 371 3 706 707 708 709 710 1114 1115
def c1_712:=m5 q62 q219 (M 47 0) q4 947 711
def c1_715:=m13 q63 1120 q177 1121 q104 1122
def c1_717:=m3 q165 q220 (M 47 1)
def c1_718:=m4 q165 1117 q220 1118 1119 375 2 713 714 715 716 717 1123 1124
def c1_719:=m5 q165 q220 (M 47 1) q4 947 718
def c1_722:=m20 q63 1129 q177 1130 q151 1131 q182 1132 q183 1133
def c1_724:=m3 q164 q221 (M 47 2)
def c1_725:=m4 q164 1126 q221 1127 1128 383 5 720 721 722 723 724 1134 1135
def c1_726:=m5 q164 q221 (M 47 2) q4 947 725
def c1_729:=m3 q217 q222 (M 47 3)
def c1_730:=m12 q217 1137 q222 1138 1139 394 1 727 728 729 1140 1141
def c1_731:=m5 q217 q222 (M 47 3) q4 947 730
def c1_734:=m2 q63 1146
def c1_736:=m3 q218 q223 (M 47 4)
def c1_737:=m4 q218 1143 q223 1144 1145 397 1 732 733 734 735 736 1147 1148
def c1_738:=m5 q218 q223 (M 47 4) q4 947 737
def c1_741:=m13 q63 1153 q177 1154 q104 1155
def c1_743:=m3 q166 q224 (M 47 5)
def c1_744:=m4 q166 1150 q224 1151 1152 400 2 739 740 741 742 743 1156 1157
def c1_745:=m5 q166 q224 (M 47 5) q4 947 744
def c1_748:=m11 q63 1162 q177 1163
def c1_750:=m3 q167 q225 (M 47 6)
def c1_751:=m4 q167 1159 q225 1160 1161 405 2 746 747 748 749 750 1164 1165
def c1_752:=m5 q167 q225 (M 47 6) q4 947 751
def c1_753:=m2 q226 1167
def c1_754:=Obj.mk y3 none (Data.dict (A [de P q56 1103 (vs q4 947),de P q59 1107 (vi 369 1106),de P q62 1116 (vr 712),de P q165 1125 (vr 719),de P q164 1136 (vr 726),de P q217 1142 (vr 731),de P q218 1149 (vr 738),de P q166 1158 (vr 745),de P q167 1166 (vr 752),de P q60 1168 (vr 753),de P q5 1169 vn]) 2) E
def c1_755:=Obj.mk y9 none (Data.cls (ClassData.mk q201 [vr 694] [vr 755,vr 694,y12] 754 q201 true [] [] false none false)) (A [sr 699,none,some (vs q201 1096),some (vs q201 1104),some y18,some vT])
def c1_756:=m8 755
def c1_757:=m9 755
def c1_760:=m2 q119 1175
def c1_762:=m3 q202 q202 (B 48)
def c1_763:=m4 q202 1172 q202 1173 1174 407 1 758 759 760 761 762 1176 1177
def c1_764:=m5 q202 q202 (B 48) q4 947 763
def c1_767:=Obj.mk y3 none (Data.dict (A [de P q56 1188 (vs q227 1179),de P q58 1190 (vs q203 1189),de P q59 1192 (vi 410 1191),de P q62 1200 (vr 778),de P q228 1208 (vr 785),de P q229 1219 (vr 792),de P q230 1226 (vr 799),de P q231 1232 (vr 804),de P q60 1237 (vr 805)]) 9) E
def c1_769:=m19 412 777 418 784 421 791 424 798 427 803
def c1_770:=m0 q203 1183 1184 1185 410 768 769 1186 1187
def c1_771:=m1 770 767 q227 1179
def c1_774:=m11 q63 1196 q232 1197
def c1_776:=m3 q62 q233 (M 50 0)
def c1_777:=m4 q62 1193 q233 1194 1195 412 2 772 773 774 775 776 1198 1199
def c1_778:=m5 q62 q233 (M 50 0) q227 1179 777
def c1_781:=m11 q63 1204 q228 1205
def c1_783:=m3 q228 q234 (M 50 1)
def c1_784:=m4 q228 1201 q234 1202 1203 418 2 779 780 781 782 783 1206 1207
def c1_785:=m5 q228 q234 (M 50 1) q227 1179 784
def c1_788:=m20 q63 1212 q235 1213 q151 1214 q236 1215 q183 1216
def c1_790:=m3 q229 q237 (M 50 2)
def c1_791:=m4 q229 1209 q237 1210 1211 421 5 786 787 788 789 790 1217 1218
def c1_792:=m5 q229 q237 (M 50 2) q227 1179 791
def c1_795:=m2 q63 1223
def c1_797:=m3 q230 q238 (M 50 3)
def c1_798:=m4 q230 1220 q238 1221 1222 424 1 793 794 795 796 797 1224 1225
def c1_799:=m5 q230 q238 (M 50 3) q227 1179 798
def c1_802:=m3 q231 q239 (M 50 4)
def c1_803:=m12 q231 1227 q239 1228 1229 427 1 800 801 802 1230 1231
def c1_804:=m5 q231 q239 (M 50 4) q227 1179 803
def c1_805:=m14 q240 1233 q241 1234 q242 1235 q232 1236
def c1_806:=Obj.mk y3 none (Data.dict (A [de P q56 1188 (vs q227 1179),de P q59 1192 (vi 410 1191),de P q62 1200 (vr 778),de P q228 1208 (vr 785),de P q229 1219 (vr 792),de P q230 1226 (vr 799),de P q231 1232 (vr 804),de P q60 1237 (vr 805),de P q91 1239 (vr 808),de P q61 1241 (vr 809),de P q5 1242 vn]) 4) E
def c1_807:=Obj.mk y9 none (Data.cls (ClassData.mk q203 [y12] [vr 807,y12] 806 q203 true [] [] false none false)) (A [none,none,some (vs q203 1181),some (vs q203 1189),some y18,some vT])
def c1_808:=m15 1238 807
def c1_809:=m7 1240 807
def c1_810:=m8 807
def c1_811:=m9 807
def c1_814:=Obj.mk y3 none (Data.dict (A [de P q56 1254 (vs q243 1245),de P q58 1256 (vs q204 1255),de P q59 1258 (vi 431 1257),de P q62 1266 (vr 825),de P q244 1274 (vr 832),de P q245 1282 (vr 839),de P q246 1290 (vr 846),de P q247 1297 (vr 853),de P q180 1305 (vr 860),de P q248 1312 (vr 867),de P q249 1319 (vr 874),de P q250 1326 (vr 881),de P q251 1333 (vr 888),de P q252 1342 (vr 895),de P q253 1350 (vr 902),de P q60 1358 (vr 903)]) 16) E
def c1_816:=Obj.mk vn none (Data.fields (A [vi 433 0,vi 4 0,vr 824,vi 442 0,vi 4 0,vr 831,vi 445 0,vi 4 0,vr 838,vi 448 0,vi 4 0,vr 845,vi 451 0,vi 4 0,vr 852,vi 454 0,vi 4 0,vr 859,vi 457 0,vi 4 0,vr 866,vi 460 0,vi 4 0,vr 873,vi 463 0,vi 4 0,vr 880,vi 466 0,vi 4 0,vr 887,vi 469 0,vi 4 0,vr 894,vi 472 0,vi 4 0,vr 901])) E
def c1_817:=m0 q204 1249 1250 1251 431 815 816 1252 1253
def c1_818:=m1 817 814 q243 1245
def c1_821:=m11 q63 1262 q254 1263
def c1_823:=m3 q62 q255 (M 52 0)
def c1_824:=m4 q62 1259 q255 1260 1261 433 2 819 820 821 822 823 1264 1265
def c1_825:=m5 q62 q255 (M 52 0) q243 1245 824
def c1_828:=m11 q63 1270 q228 1271
def c1_830:=m3 q244 q256 (M 52 1)
def c1_831:=m4 q244 1267 q256 1268 1269 442 2 826 827 828 829 830 1272 1273
def c1_832:=m5 q244 q256 (M 52 1) q243 1245 831
def c1_835:=m11 q63 1278 q228 1279
def c1_837:=m3 q245 q257 (M 52 2)
def c1_838:=m4 q245 1275 q257 1276 1277 445 2 833 834 835 836 837 1280 1281
def c1_839:=m5 q245 q257 (M 52 2) q243 1245 838
def c1_842:=m11 q63 1286 q119 1287
def c1_844:=m3 q246 q258 (M 52 3)
def c1_845:=m4 q246 1283 q258 1284 1285 448 2 840 841 842 843 844 1288 1289
def c1_846:=m5 q246 q258 (M 52 3) q243 1245 845
def c1_849:=m2 q63 1294
def c1_851:=m3 q247 q259 (M 52 4)
def c1_852:=m4 q247 1291 q259 1292 1293 451 1 847 848 849 850 851 1295 1296
def c1_853:=m5 q247 q259 (M 52 4) q243 1245 852
def c1_856:=m11 q63 1301 q236 1302
def c1_858:=m3 q180 q260 (M 52 5)
def c1_859:=m4 q180 1298 q260 1299 1300 454 2 854 855 856 857 858 1303 1304
def c1_860:=m5 q180 q260 (M 52 5) q243 1245 859
def c1_863:=m2 q63 1309
def c1_865:=m3 q248 q261 (M 52 6)
def c1_866:=m4 q248 1306 q261 1307 1308 457 1 861 862 863 864 865 1310 1311
def c1_867:=m5 q248 q261 (M 52 6) q243 1245 866
def c1_870:=m2 q63 1316
def c1_872:=m3 q249 q262 (M 52 7)
def c1_873:=m4 q249 1313 q262 1314 1315 460 1 868 869 870 871 872 1317 1318
def c1_874:=m5 q249 q262 (M 52 7) q243 1245 873
def c1_877:=m2 q63 1323
def c1_879:=m3 q250 q263 (M 52 8)
def c1_880:=m4 q250 1320 q263 1321 1322 463 1 875 876 877 878 879 1324 1325
def c1_881:=m5 q250 q263 (M 52 8) q243 1245 880
def c1_884:=m2 q63 1330
def c1_886:=m3 q251 q264 (M 52 9)
def c1_887:=m4 q251 1327 q264 1328 1329 466 1 882 883 884 885 886 1331 1332
def c1_888:=m5 q251 q264 (M 52 9) q243 1245 887
def c1_891:=m13 q63 1337 q236 1338 q265 1339
def c1_893:=m3 q252 q266 (M 52 10)
def c1_894:=m4 q252 1334 q266 1335 1336 469 3 889 890 891 892 893 1340 1341
def c1_895:=m5 q252 q266 (M 52 10) q243 1245 894
def c1_898:=m11 q63 1346 q236 1347
def c1_900:=m3 q253 q267 (M 52 11)
def c1_901:=m4 q253 1343 q267 1344 1345 472 2 896 897 898 899 900 1348 1349
def c1_902:=m5 q253 q267 (M 52 11) q243 1245 901
def c1_903:=Obj.mk y0 none (Data.seq (A [vs q268 1351,vs q254 1352,vs q269 1353,vs q270 1354,vs q271 1355,vs q272 1356,vs q273 1357]) 0) E
def c1_904:=Obj.mk y3 none (Data.dict (A [de P q56 1254 (vs q243 1245),de P q59 1258 (vi 431 1257),de P q62 1266 (vr 825),de P q244 1274 (vr 832),de P q245 1282 (vr 839),de P q246 1290 (vr 846),de P q247 1297 (vr 853),de P q180 1305 (vr 860),de P q248 1312 (vr 867),de P q249 1319 (vr 874),de P q250 1326 (vr 881),de P q251 1333 (vr 888),de P q252 1342 (vr 895),de P q253 1350 (vr 902),de P q60 1358 (vr 903),de P q91 1360 (vr 906),de P q61 1362 (vr 907),de P q5 1363 vn]) 4) E
def c1_905:=Obj.mk y9 none (Data.cls (ClassData.mk q204 [y12] [vr 905,y12] 904 q204 true [] [] false none false)) (A [none,none,some (vs q204 1247),some (vs q204 1255),some y18,some vT])
def c1_906:=m15 1359 905
def c1_907:=m7 1361 905
def c1_908:=m8 905
def c1_909:=m9 905
def c1_912:=m11 q274 1371 q275 1372
def c1_914:=m3 q205 q205 (B 54)
def c1_915:=m4 q205 1368 q205 1369 1370 475 2 910 911 912 913 914 1373 1374
def c1_916:=m5 q205 q205 (B 54) q200 1366 915
def c1_919:=m2 q276 1379
def c1_921:=m3 q206 q206 (B 55)
def c1_922:=m4 q206 1376 q206 1377 1378 479 1 917 918 919 920 921 1380 1381
def c1_923:=m5 q206 q206 (B 55) q200 1366 922
def c1_926:=Obj.mk y0 none (Data.seq (A [vs q276 1386,vs q277 1387,vs q278 1388,vs q279 1389,vs q280 1390,vs q281 1391,vs q282 1392,vs q283 1393]) 0) E
def c1_928:=m3 q207 q207 (B 56)
def c1_929:=m4 q207 1383 q207 1384 1385 481 1 924 925 926 927 928 1394 1395
def c1_930:=m5 q207 q207 (B 56) q200 1366 929
def c1_933:=m2 q284 1400
def c1_935:=m3 q208 q208 (B 57)
def c1_936:=m4 q208 1397 q208 1398 1399 500 1 931 932 933 934 935 1401 1402
def c1_937:=m5 q208 q208 (B 57) q200 1366 936
def c1_940:=Obj.mk y0 none (Data.seq (A [vs q285 1407,vs q284 1408,vs q286 1409,vs q277 1410,vs q283 1411,vs q280 1412]) 0) E
def c1_942:=m3 q209 q209 (B 58)
def c1_943:=m4 q209 1404 q209 1405 1406 504 2 938 939 940 941 942 1413 1414
def c1_944:=m5 q209 q209 (B 58) q200 1366 943
def c1_947:=m20 q287 1419 q288 1420 q289 1421 q290 1422 q276 1423
def c1_949:=m3 q210 q210 (B 59)
def c1_950:=m4 q210 1416 q210 1417 1418 514 2 945 946 947 948 949 1424 1425
def c1_951:=m5 q210 q210 (B 59) q200 1366 950
def c1_954:=Obj.mk y0 none (Data.seq (A [vs q291 1430,vs q285 1431,vs q284 1432,vs q286 1433,vs q277 1434,vs q283 1435,vs q280 1436]) 0) E
def c1_956:=m3 q211 q211 (B 60)
def c1_957:=m4 q211 1427 q211 1428 1429 524 3 952 953 954 955 956 1437 1438
def c1_958:=m5 q211 q211 (B 60) q200 1366 957
def c1_961:=m13 q276 1443 q292 1444 q293 1445
def c1_963:=m3 q212 q212 (B 61)
def c1_964:=m4 q212 1440 q212 1441 1442 529 2 959 960 961 962 963 1446 1447
def c1_965:=m5 q212 q212 (B 61) q200 1366 964
def c1_968:=m11 q276 1452 q292 1453
def c1_970:=m3 q213 q213 (B 62)
def c1_971:=m4 q213 1449 q213 1450 1451 534 2 966 967 968 969 970 1454 1455
def c1_972:=m5 q213 q213 (B 62) q200 1366 971
def c1_975:=m3 q214 q214 (B 63)
def c1_976:=m12 q214 1457 q214 1458 1459 538 1 973 974 975 1460 1461
def c1_977:=m5 q214 q214 (B 63) q200 1366 976
def c1_980:=m3 q215 q215 (B 64)
def c1_981:=m12 q215 1463 q215 1464 1465 540 1 978 979 980 1466 1467
def c1_982:=m5 q215 q215 (B 64) q200 1366 981
def c1_985:=m3 q216 q216 (B 65)
def c1_986:=m12 q216 1469 q216 1470 1471 544 1 983 984 985 1472 1473
def c1_987:=m5 q216 q216 (B 65) q200 1366 986
def u1:=nd (boot_o_0 P) (nd (boot_o_1 P) (nd (c1_3 P) (nd (boot_o_7 P) (nd a11 (nd c0_31 (nd c0_63 (nd c0_127 (nd a11 (l1 c0_511) (l1 (c1_767 P))) (nd a11 (l1 a11) (l1 c1_895))) (nd c0_191 (nd c0_319 (l1 a11) (l1 c1_831)) (nd c0_23 (l1 c1_703) (l1 a11)))) (nd a11 (nd (c0_159 P) (nd c0_287 (l1 c0_543) (l1 c1_799)) (nd c0_415 (l1 a11) (l1 a11))) (nd c0_23 (nd c0_351 (l1 c0_607) (l1 c1_863)) (nd c0_222 (l1 a11) .nil)))) (nd c0_35 (nd a12 (nd c0_143 (nd c0_271 (l1 c0_527) (l1 c1_783)) (nd c0_248 (l1 c0_655) (l1 a12))) (nd c0_207 (nd a11 (l1 c0_591) (l1 a11)) (nd a11 (l1 c1_719) (l1 c1_975)))) (nd c0_111 (nd c0_175 (nd a12 (l1 a12) (l1 a11)) (nd c0_431 (l1 c0_687) (l1 c1_943))) (nd a11 (nd a12 (l1 a12) (l1 c1_879)) (nd c0_495 (l1 c1_751) .nil))))) (nd c0_23 (nd a12 (nd c0_71 (nd c0_135 (nd a12 (l1 c0_519) (l1 a11)) (nd c0_391 (l1 c0_647) (l1 c1_903))) (nd c0_199 (nd c0_327 (l1 a12) (l1 c1_839)) (nd c0_455 (l1 c1_711) (l1 a12)))) (nd c0_23 (nd c0_23 (nd a11 (l1 a11) (l1 c1_807)) (nd a11 (l1 a12) (l1 c1_935))) (nd c0_231 (nd c0_248 (l1 a11) (l1 a11)) (nd a12 (l1 c1_743) .nil)))) (nd (c0_55 P) (nd c0_87 (nd a11 (nd c0_279 (l1 c0_535) (l1 c1_791)) (nd a12 (l1 c0_663) (l1 c1_919))) (nd a11 (nd a12 (l1 c0_599) (l1 a12)) (nd c0_471 (l1 a11) (l1 a11)))) (nd a11 (nd a11 (nd c0_311 (l1 c0_567) (l1 c1_823)) (nd c0_439 (l1 c0_695) (l1 c1_951))) (nd c0_247 (nd c0_375 (l1 c0_631) (l1 c1_887)) (nd a11 (l1 a12) .nil)))))) (nd a11 (nd c0_19 (nd c0_35 (nd a12 (nd a12 (nd c0_259 (l1 c0_515) (l1 c1_771)) (nd a11 (l1 a11) (l1 a11))) (nd a12 (nd c0_323 (l1 c0_579) (l1 c1_835)) (nd c0_451 (l1 a12) (l1 c1_963)))) (nd c0_99 (nd c0_163 (nd a11 (l1 a11) (l1 c1_803)) (nd c0_419 (l1 c0_675) (l1 a11))) (nd c0_227 (nd (c0_355 P) (l1 a11) (l1 c1_867)) (nd c0_483 (l1 a11) .nil)))) (nd a12 (nd c0_83 (nd a11 (nd c0_275 (l1 c0_531) (l1 a12)) (nd c0_403 (l1 c0_659) (l1 c1_915))) (nd a11 (nd c0_339 (l1 a12) (l1 c1_851)) (nd a11 (l1 a11) (l1 a12)))) (nd c0_115 (nd c0_179 (nd c0_307 (l1 c0_563) (l1 a11)) (nd a12 (l1 c0_691) (l1 c1_947))) (nd c0_243 (nd c0_371 (l1 c0_627) (l1 a12)) (nd c0_499 (l1 c1_755) .nil))))) (nd c0_27 (nd (c0_43 P) (nd c0_75 (nd c0_139 (nd c0_267 (l1 a12) (l1 a11)) (nd (c0_395 P) (l1 a12) (l1 c1_907))) (nd c0_203 (nd a11 (l1 a11) (l1 a11)) (nd c0_459 (l1 c1_715) (l1 c1_971)))) (nd c0_107 (nd c0_171 (nd c0_299 (l1 c0_555) (l1 c1_811)) (nd a11 (l1 c0_683) (l1 a12))) (nd c0_235 (nd c0_363 (l1 c0_619) (l1 a11)) (nd c0_491 (l1 a12) .nil)))) (nd c0_35 (nd a12 (nd c0_155 (nd (c0_283 P) (l1 a11) (l1 c1_795)) (nd c0_411 (l1 a11) (l1 c1_923))) (nd c0_219 (nd a11 (l1 c0_603) (l1 c1_859)) (nd (c0_475 P) (l1 c1_731) (l1 c1_987)))) (nd a11 (nd a11 (nd c0_23 (l1 a12) (l1 a12)) (nd c0_443 (l1 c1_699) (l1 a11))) (nd a11 (nd c0_379 (l1 c0_635) (l1 c1_891)) (nd c0_507 (l1 c1_763) .nil))))))) (nd (boot_o_5 P) (nd (boot_o_9 P) (nd c0_17 (nd c0_33 (nd c0_65 (nd c0_129 (nd c0_257 (l1 a12) (l1 c1_769)) (nd c0_385 (l1 c0_641) (l1 a12))) (nd c0_193 (nd a11 (l1 c0_577) (l1 a11)) (nd a11 (l1 c1_705) (l1 c1_961)))) (nd c0_97 (nd c0_161 (nd a12 (l1 c0_23) (l1 a12)) (nd c0_417 (l1 c0_673) (l1 c1_929))) (nd a11 (nd c0_353 (l1 a12) (l1 c1_865)) (nd (c0_481 P) (l1 c1_737) .nil)))) (nd (c0_49 P) (nd a11 (nd a12 (nd c0_273 (l1 a11) (l1 c1_785)) (nd (c0_401 P) (l1 a11) (l1 a11))) (nd a12 (nd c0_337 (l1 c0_593) (l1 c1_849)) (nd c0_465 (l1 a12) (l1 c1_977)))) (nd c0_113 (nd c0_177 (nd a11 (l1 c0_561) (l1 c1_817)) (nd c0_433 (l1 c0_689) (l1 a11))) (nd c0_241 (nd a11 (l1 a11) (l1 c1_881)) (nd c0_497 (l1 c1_753) .nil))))) (nd a11 (nd c0_41 (nd c0_73 (nd a11 (nd a11 (l1 c0_521) (l1 c1_777)) (nd c0_393 (l1 c0_649) (l1 c1_905))) (nd a11 (nd a12 (l1 c0_585) (l1 a12)) (nd c0_457 (l1 a11) (l1 a11)))) (nd a11 (nd a11 (nd c0_297 (l1 c0_553) (l1 c1_809)) (nd c0_425 (l1 a11) (l1 c1_937))) (nd c0_233 (nd (c0_361 P) (l1 c0_617) (l1 c1_873)) (nd a11 (l1 c1_745) .nil)))) (nd c0_57 (nd c0_89 (nd c0_153 (nd c0_248 (l1 a12) (l1 a11)) (nd a11 (l1 a12) (l1 c1_921))) (nd c0_217 (nd c0_345 (l1 a11) (l1 a11)) (nd c0_473 (l1 c1_729) (l1 c1_985)))) (nd c0_121 (nd c0_185 (nd c0_313 (l1 c0_569) (l1 c1_825)) (nd c0_441 (l1 c0_697) (l1 a12))) (nd c0_23 (nd c0_377 (l1 c0_633) (l1 a11)) (nd c0_505 (l1 a11) .nil)))))) (nd a13 (nd c0_21 (nd (c0_37 P) (nd a11 (nd a11 (nd c0_261 (l1 a11) (l1 a12)) (nd c0_389 (l1 c0_645) (l1 c1_901))) (nd a11 (nd c0_325 (l1 c0_581) (l1 c1_837)) (nd a11 (l1 a11) (l1 c1_965)))) (nd c0_101 (nd (c0_165 P) (nd c0_293 (l1 c0_549) (l1 c1_805)) (nd a12 (l1 c0_677) (l1 c1_933))) (nd a11 (nd c0_357 (l1 c0_613) (l1 a12)) (nd c0_485 (l1 c1_741) .nil)))) (nd c0_53 (nd a11 (nd c0_149 (nd (c0_277 P) (l1 c0_533) (l1 a11)) (nd c0_405 (l1 c0_661) (l1 a11))) (nd c0_213 (nd c0_341 (l1 a11) (l1 c1_853)) (nd c0_469 (l1 c1_725) (l1 c1_981)))) (nd a12 (nd a12 (nd a11 (l1 c0_565) (l1 c1_821)) (nd a11 (l1 (c0_693 P)) (l1 c1_949))) (nd c0_245 (nd a11 (l1 a11) (l1 a11)) (nd a12 (l1 c1_757) .nil))))) (nd a11 (nd c0_45 (nd c0_77 (nd c0_141 (nd a11 (l1 a11) (l1 c1_781)) (nd c0_397 (l1 a11) (l1 c1_909))) (nd c0_205 (nd c0_333 (l1 (c0_589 P)) (l1 c1_845)) (nd a12 (l1 c1_717) (l1 a11)))) (nd a11 (nd a11 (nd c0_301 (l1 c0_557) (l1 c0_23)) (nd c0_429 (l1 a11) (l1 a11))) (nd a12 (nd c0_365 (l1 c0_621) (l1 c1_877)) (nd a11 (l1 a11) .nil)))) (nd (c0_61 P) (nd c0_93 (nd c0_157 (nd c0_285 (l1 c0_541) (l1 c1_797)) (nd a11 (l1 c0_669) (l1 a12))) (nd c0_221 (nd c0_349 (l1 c0_605) (l1 a11)) (nd c0_477 (l1 a12) .nil))) (nd c0_125 (nd c0_189 (nd a11 (l1 c0_573) (l1 a11)) (nd c0_445 (l1 (c1_701 P)) (l1 c1_957))) (nd c0_253 (nd a12 (l1 a12) (l1 c1_893)) (nd c0_509 (l1 a11) .nil)))))))) (nd (boot_o_2 P) (nd (boot_o_4 P) (nd (boot_o_8 P) (nd a12 (nd c0_32 (nd c0_64 (nd c0_128 (nd a12 (l1 a11) (l1 a11)) (nd c0_384 (l1 c0_640) (l1 a11))) (nd c0_192 (nd c0_320 (l1 a12) (l1 c1_832)) (nd (c0_448 P) (l1 c1_704) (l1 a12)))) (nd a12 (nd c0_160 (nd a11 (l1 a11) (l1 a11)) (nd a11 (l1 a12) (l1 c1_928))) (nd (c0_224 P) (nd c0_352 (l1 a11) (l1 a11)) (nd c0_23 (l1 c1_736) .nil)))) (nd c0_23 (nd c0_80 (nd a11 (nd a11 (l1 c0_528) (l1 c1_784)) (nd c0_23 (l1 c0_656) (l1 c1_912))) (nd a11 (nd a12 (l1 c0_592) (l1 a12)) (nd c0_464 (l1 a11) (l1 c1_976)))) (nd a11 (nd a11 (nd c0_304 (l1 c0_560) (l1 c1_816)) (nd c0_432 (l1 a11) (l1 c1_944))) (nd c0_240 (nd c0_368 (l1 c0_624) (l1 c1_880)) (nd a11 (l1 c1_752) .nil))))) (nd (c0_24 P) (nd c0_40 (nd c0_72 (nd c0_136 (nd c0_264 (l1 c0_520) (l1 c1_776)) (nd c0_392 (l1 c0_648) (l1 (c1_904 P)))) (nd c0_200 (nd a11 (l1 c0_584) (l1 a11)) (nd a11 (l1 c1_712) (l1 c1_968)))) (nd (c0_104 P) (nd (c0_168 P) (nd a12 (l1 a12) (l1 c1_808)) (nd c0_424 (l1 c0_680) (l1 c1_936))) (nd a11 (nd c0_23 (l1 a12) (l1 c1_872)) (nd c0_488 (l1 c1_744) .nil)))) (nd c0_56 (nd c0_88 (nd a12 (nd c0_280 (l1 a11) (l1 c1_792)) (nd c0_408 (l1 a11) (l1 a11))) (nd (c0_216 P) (nd c0_344 (l1 c0_600) (l1 c1_856)) (nd c0_472 (l1 a12) (l1 a12)))) (nd c0_120 (nd c0_184 (nd c0_312 (l1 c0_568) (l1 c1_824)) (nd c0_440 (l1 c0_696) (l1 a11))) (nd c0_248 (nd a11 (l1 a11) (l1 c1_888)) (nd c0_504 (l1 c1_760) .nil)))))) (nd c1_12 (nd c0_20 (nd c0_23 (nd c0_68 (nd c0_132 (nd c0_260 (l1 c0_516) (l1 a11)) (nd a12 (l1 a12) (l1 c1_900))) (nd c0_196 (nd a11 (l1 c0_580) (l1 a11)) (nd c0_452 (l1 c1_708) (l1 c1_964)))) (nd c0_100 (nd c0_164 (nd c0_292 (l1 c0_548) (l1 c1_804)) (nd a11 (l1 c0_676) (l1 a12))) (nd c0_228 (nd c0_356 (l1 c0_612) (l1 a11)) (nd c0_484 (l1 a12) .nil)))) (nd c0_52 (nd c0_84 (nd c0_148 (nd a11 (l1 a11) (l1 c1_788)) (nd c0_404 (l1 a11) (l1 c1_916))) (nd c0_212 (nd c0_340 (l1 c0_596) (l1 c1_852)) (nd a12 (l1 c1_724) (l1 c1_980)))) (nd a11 (nd a11 (nd c0_308 (l1 (c0_564 P)) (l1 a12)) (nd c0_436 (l1 c0_692) (l1 a11))) (nd (c0_244 P) (nd c0_372 (l1 c0_628) (l1 c1_884)) (nd a11 (l1 c1_756) .nil))))) (nd c0_28 (nd c0_44 (nd c0_76 (nd a11 (nd c0_268 (l1 c0_524) (l1 a12)) (nd c0_396 (l1 c0_652) (l1 c1_908))) (nd a11 (nd c0_332 (l1 c0_23) (l1 c1_844)) (nd a11 (l1 a11) (l1 c1_972)))) (nd c0_108 (nd c0_172 (nd c0_300 (l1 c0_556) (l1 a11)) (nd a12 (l1 c0_684) (l1 c1_940))) (nd a11 (nd c0_364 (l1 c0_620) (l1 a12)) (nd c0_492 (l1 c1_748) .nil)))) (nd c0_23 (nd c0_92 (nd c0_156 (nd a11 (l1 c0_540) (l1 a11)) (nd c0_412 (l1 c0_668) (l1 a11))) (nd c0_220 (nd a12 (l1 a11) (l1 c1_860)) (nd c0_476 (l1 a11) .nil))) (nd a12 (nd a12 (nd (c0_316 P) (l1 c0_572) (l1 c1_828)) (nd c0_444 (l1 c0_23) (l1 c1_956))) (nd c0_252 (nd a11 (l1 a11) (l1 a11)) (nd (c0_508 P) (l1 c1_764) .nil))))))) (nd (boot_o_6 P) (nd (boot_o_10 P) (nd a11 (nd c0_34 (nd a11 (nd a11 (nd a11 (l1 c0_514) (l1 c1_770)) (nd c0_386 (l1 c0_642) (l1 c1_898))) (nd a11 (nd a12 (l1 a11) (l1 a12)) (nd c0_450 (l1 a11) (l1 a11)))) (nd a11 (nd c0_162 (nd c0_290 (l1 (c0_546 P)) (l1 c1_802)) (nd c0_418 (l1 a11) (l1 c1_930))) (nd c0_226 (nd c0_354 (l1 c0_610) (l1 c1_866)) (nd a11 (l1 c1_738) .nil)))) (nd a11 (nd c0_82 (nd c0_146 (nd c0_274 (l1 a12) (l1 a11)) (nd a11 (l1 a12) (l1 c1_914))) (nd c0_210 (nd a11 (l1 a11) (l1 a11)) (nd c0_466 (l1 c1_722) (l1 a11)))) (nd c0_114 (nd c0_178 (nd c0_306 (l1 c0_562) (l1 c1_818)) (nd a11 (l1 c0_690) (l1 a12))) (nd c0_242 (nd c0_370 (l1 c0_626) (l1 a11)) (nd c0_498 (l1 (c1_754 P)) .nil))))) (nd a12 (nd a11 (nd (c0_74 P) (nd a12 (nd c0_266 (l1 a11) (l1 c1_778)) (nd a11 (l1 a11) (l1 c1_906))) (nd a12 (nd c0_330 (l1 c0_586) (l1 c1_842)) (nd c0_458 (l1 a12) (l1 c1_970)))) (nd c0_106 (nd c0_170 (nd a11 (l1 a11) (l1 c1_810)) (nd c0_426 (l1 c0_682) (l1 a11))) (nd c0_234 (nd a11 (l1 a11) (l1 c1_874)) (nd c0_490 (l1 a11) .nil)))) (nd c0_58 (nd a11 (nd a11 (nd c0_23 (l1 c0_538) (l1 a12)) (nd c0_410 (l1 c0_666) (l1 c1_922))) (nd c0_218 (nd c0_346 (l1 a12) (l1 c1_858)) (nd c0_474 (l1 c1_730) (l1 c1_986)))) (nd c0_122 (nd c0_186 (nd c0_222 (l1 a11) (l1 a11)) (nd (c0_442 P) (l1 c0_698) (l1 c1_954))) (nd (c0_250 P) (nd c0_378 (l1 c0_634) (l1 a12)) (nd c0_506 (l1 c1_762) .nil)))))) (nd a14 (nd c0_22 (nd a11 (nd c0_70 (nd c0_134 (nd a11 (l1 a12) (l1 c1_774)) (nd a11 (l1 a11) (l1 c1_902))) (nd c0_198 (nd c0_326 (l1 a11) (l1 c1_838)) (nd a12 (l1 c1_710) (l1 a11)))) (nd a11 (nd a11 (nd c0_294 (l1 c0_550) (l1 (c1_806 P))) (nd c0_422 (l1 a11) (l1 a11))) (nd a12 (nd c0_358 (l1 c0_614) (l1 c1_870)) (nd a11 (l1 a11) .nil)))) (nd a11 (nd a12 (nd c0_150 (nd c0_278 (l1 c0_534) (l1 c1_790)) (nd a11 (l1 c0_662) (l1 a12))) (nd c0_214 (nd a11 (l1 c0_598) (l1 a11)) (nd a11 (l1 c1_726) (l1 c1_982)))) (nd c0_118 (nd c0_182 (nd (c0_310 P) (l1 c0_566) (l1 a11)) (nd c0_438 (l1 c1_694) (l1 c1_950))) (nd c0_246 (nd a12 (l1 a12) (l1 c1_886)) (nd c0_502 (l1 a11) .nil))))) (nd (c0_30 P) (nd c0_46 (nd a11 (nd c0_142 (nd a12 (l1 c0_526) (l1 a11)) (nd c0_398 (l1 c0_654) (l1 a11))) (nd c0_206 (nd c0_334 (l1 a11) (l1 c1_846)) (nd c0_462 (l1 c1_718) (l1 a12)))) (nd a12 (nd a12 (nd a11 (l1 a11) (l1 (c1_814 P))) (nd a11 (l1 a12) (l1 c1_942))) (nd c0_238 (nd a11 (l1 a11) (l1 a11)) (nd a12 (l1 c1_750) .nil)))) (nd a11 (nd c0_94 (nd c0_158 (nd c0_286 (l1 c0_542) (l1 c1_798)) (nd a12 (l1 c0_670) (l1 c1_926))) (nd c0_222 (nd a11 (l1 c0_606) (l1 a12)) (nd c0_478 (l1 c1_734) .nil))) (nd a11 (nd a11 (nd c0_318 (l1 c0_574) (l1 c1_830)) (nd c0_222 (l1 a11) (l1 c1_958))) (nd c0_254 (nd c0_382 (l1 c0_638) (l1 c1_894)) (nd c0_510 (l1 c0_23) .nil))))))))
def tc1_:=u1 P
def tz:=u1 P
end
noncomputable def sa(w:World)(os:OsState):SharedT:=SharedT.mk (ta w.params) 15 (@Life.mk [] [] [] 0 [] [] false E [] 0 false false false 0 [2000,10,10] false 0 true [] [] 0 false) E (@Drawn.mk 0 0 0 0) 187 os
noncomputable def sb(w:World)(os:OsState):SharedT:=SharedT.mk (tb w.params) 15 (@Life.mk [] [] [] 0 [] [] false E [] 0 false false false 0 [2000,10,10] false 0 true [] [] 0 false) E (@Drawn.mk 0 0 0 0) 187 os
noncomputable def sc0_(w:World)(os:OsState):SharedT:=SharedT.mk (tc0_ w.params) 699 (@Life.mk [] [] [] 0 [] [] false E [] 0 false false false 0 [2000,10,10] false 0 true [] [] 0 false) E (@Drawn.mk 0 0 0 0) 1096 os
noncomputable def sc1_(w:World)(os:OsState):SharedT:=SharedT.mk (tc1_ w.params) 988 (@Life.mk [] [] [] 0 [] [] false E [] 0 false false false 0 [2000,10,10] false 0 true [] [] 0 false) E (@Drawn.mk 0 0 0 0) 1475 os
noncomputable def sz(w:World)(os:OsState):SharedT:=SharedT.mk (tz w.params) 988 (@Life.mk [] [] [] 0 [] [] false E [] 0 false false false 0 [2000,10,10] false 0 true [] [] 0 false) E (@Drawn.mk 0 0 0 0) 1475 os
noncomputable abbrev e0:Env:={scope:=p0.main.scope,locals:=mainNs,globals:=mainNs,cells:=[],code:=(vr 13),frame:=some 14}
noncomputable abbrev en:Env:={scope:=pq.main.scope,locals:=mainNs,globals:=mainNs,cells:=[],code:=(vr 13),frame:=some 14}
theorem bs:behindTheImports p0=((p0.main.body.drop 0).take 47++((p0.main.body.drop 47).take 19++[])):=by kernel_rfl
theorem pre_l(w:World)(os:OsState):topGo treeTable p0 w 11 (sr 6) 12 ⟨boot_heap w.params,Array.mk [],boot_drawn,boot_toks,os⟩ (topStub p0)=some ((sa w os).abs,⟨denote treeTable (Code.body (behindTheImports p0) e0),Code.body (behindTheImports p0) e0,(@Pos.mk 0 0 0 0),[topFrame (@Pos.mk 0 0 0 0)]⟩):=by
 rw [PySem.W.Fast.te15667345088766844465,PySem.W.Fast.te14364793385576792824,PySem.W.Fast.te11892475500146522536,pe]
 kernel_rfl
theorem blk_l(w:World)(os:OsState):segRun treeTable p0 w 11 (sr 6) 1 1 (sa w os).abs (blockOf (behindTheImports p0) e0 (Code.body (behindTheImports p0) e0) (@Pos.mk 0 0 0 0) [topFrame (@Pos.mk 0 0 0 0)])=some (Flow.next,(sb w os).abs,Code.body (behindTheImports p0) e0,(@Pos.mk 0 0 0 0)):=by
 refine segRun_of ?_
 rw [PySem.W.Fast.te10110043849684766642,PySem.W.Fast.te14364793385576792824,pe]
 kernel_rfl
theorem g0(p:Program)(b:List Stmt):∀w:World,(λos=>PySem.W.Fast.tw10110043849684766642 PySem.W.Fast.tw14364793385576792824 p w 11 (sr 6) 1 5844 (sb w os) (piecesOf ((pq.main.body.drop 0).take 47) en (Code.body b en) (@Pos.mk 0 0 0 0) [topFrame (@Pos.mk 0 0 0 0)]))=(λos=>some (Flow.next,sc0_ w os,Code.body b en,(@Pos.mk 294 0 368 75))):=byRow2 "special-get-raises" (P:=λw=>(λos=>PySem.W.Fast.tw10110043849684766642 PySem.W.Fast.tw14364793385576792824 p w 11 (sr 6) 1 5844 (sb w os) (piecesOf ((pq.main.body.drop 0).take 47) en (Code.body b en) (@Pos.mk 0 0 0 0) [topFrame (@Pos.mk 0 0 0 0)]))=(λos=>some (Flow.next,sc0_ w os,Code.body b en,(@Pos.mk 294 0 368 75)))) (λw=>by kernel_rfl) (λw=>by kernel_rfl)
theorem h0(b:List Stmt)(w:World)(os:OsState):segRun treeTable p0 w 11 (sr 6) 1 5844 (sb w os).abs (piecesOf ((p0.main.body.drop 0).take 47) e0 (Code.body b e0) (@Pos.mk 0 0 0 0) [topFrame (@Pos.mk 0 0 0 0)])=some (Flow.next,(sc0_ w os).abs,Code.body b e0,(@Pos.mk 294 0 368 75)):=by
 refine segRun_of ?_
 rw [PySem.W.Fast.te10110043849684766642,PySem.W.Fast.te14364793385576792824,pe]
 exact congrFun (g0 pq b w) os
theorem g1(p:Program)(b:List Stmt):∀w:World,(λos=>PySem.W.Fast.tw10110043849684766642 PySem.W.Fast.tw14364793385576792824 p w 11 (sr 6) 1 1787 (sc0_ w os) (piecesOf ((pq.main.body.drop 47).take 19) en (Code.body b en) (@Pos.mk 294 0 368 75) [topFrame (@Pos.mk 0 0 0 0)]))=(λos=>some (Flow.next,sc1_ w os,Code.body b en,(@Pos.mk 544 0 577 15))):=λw=>by kernel_rfl
theorem h1(b:List Stmt)(w:World)(os:OsState):segRun treeTable p0 w 11 (sr 6) 1 1787 (sc0_ w os).abs (piecesOf ((p0.main.body.drop 47).take 19) e0 (Code.body b e0) (@Pos.mk 294 0 368 75) [topFrame (@Pos.mk 0 0 0 0)])=some (Flow.next,(sc1_ w os).abs,Code.body b e0,(@Pos.mk 544 0 577 15)):=by
 refine segRun_of ?_
 rw [PySem.W.Fast.te10110043849684766642,PySem.W.Fast.te14364793385576792824,pe]
 exact congrFun (g1 pq b w) os
noncomputable abbrev H1:Params->Heap:=λP=>absHeap (tz P) 988 (@Life.mk [] [] [] 0 [] [] false E [] 0 false false false 0 [2000,10,10] false 0 true [] [] 0 false)
theorem fin_l(b:List Stmt)(w:World)(os:OsState):topRun treeTable p0 w 11 (sr 6) 2 (sc1_ w os).abs ⟨doneF .next,Code.body b e0,(@Pos.mk 544 0 577 15),[topFrame (@Pos.mk 0 0 0 0)]⟩=some ⟨H1 w.params,Array.mk [],(@Drawn.mk 0 0 0 0),1475,os⟩:=by
 rw [PySem.W.Fast.te14082659384304107361,PySem.W.Fast.te14364793385576792824,pe]
 kernel_rfl
theorem run_l(w:World)(os:OsState):topRun treeTable p0 w 11 (sr 6) (12+(1+(5844+(1787+2)))) ⟨boot_heap w.params,Array.mk [],boot_drawn,boot_toks,os⟩ (topStub p0)=some ⟨H1 w.params,Array.mk [],(@Drawn.mk 0 0 0 0),1475,os⟩:=by
 refine go_top (pre_l w os) (piece_block (blk_l w os) ?k)
 rw [bs]
 exact piece_app (h0 _ w os) (piece_app (h1 _ w os) (piece_nil (fin_l _ w os)))
abbrev kF(a b:String)(s:Stmt)(m:String)(n v:Nat):Params->Obj:=λP=>(Obj.mk (@Value.type "function") none (Data.func (fk (@Str.ofString a) (@Str.ofString b) s 3 [] vn vn vn (@Value.str (@Str.ofString m) n) none (vr v) vn 0)) E)
abbrev k21:=kF "_wall" "_wall" (T 0) "__main__" 164 20
abbrev k72:=kF "__init__" "NoText.__init__" (N 5 0) "pactroom.errors" 194 71
abbrev k84:=kF "is_whole" "is_whole" (T 15) "pactroom.things" 271 83
abbrev k89:=kF "shown" "shown" (T 16) "pactroom.things" 271 88
abbrev k94:=kF "read_thing" "read_thing" (T 17) "pactroom.things" 271 93
abbrev k101:=kF "is_sign" "is_sign" (T 18) "pactroom.things" 271 100
abbrev k115:=kF "__init__" "Reader.__init__" (N 19 0) "pactroom.things" 271 114
abbrev k122:=kF "passes" "Reader.passes" (N 19 1) "pactroom.things" 271 121
abbrev k129:=kF "read_any" "Reader.read_any" (N 19 2) "pactroom.things" 271 128
abbrev k136:=kF "read_parts" "Reader.read_parts" (N 19 3) "pactroom.things" 271 135
abbrev k143:=kF "read_below" "Reader.read_below" (N 19 4) "pactroom.things" 271 142
abbrev k150:=kF "read_number" "Reader.read_number" (N 19 5) "pactroom.things" 271 149
abbrev k157:=kF "read_signs" "Reader.read_signs" (N 19 6) "pactroom.things" 271 156
abbrev k179:=kF "house" "Step.house" (N 23 0) "pactroom.steps" 399 178
abbrev k186:=kF "lock" "Step.lock" (N 23 1) "pactroom.steps" 399 185
abbrev k193:=kF "step_done" "Step.step_done" (N 23 2) "pactroom.steps" 399 192
abbrev k200:=kF "back" "Step.back" (N 23 3) "pactroom.steps" 399 199
abbrev k207:=kF "sure" "Step.sure" (N 23 4) "pactroom.steps" 399 206
abbrev k214:=kF "spelled" "Step.spelled" (N 23 5) "pactroom.steps" 399 213
abbrev k235:=kF "__init__" "CellStep.__init__" (N 24 0) "pactroom.steps" 399 234
abbrev k242:=kF "house" "CellStep.house" (N 24 1) "pactroom.steps" 399 241
abbrev k261:=kF "lock" "TakeStep.lock" (N 25 0) "pactroom.steps" 399 260
abbrev k268:=kF "step_done" "TakeStep.step_done" (N 25 1) "pactroom.steps" 399 267
abbrev k275:=kF "spelled" "TakeStep.spelled" (N 25 2) "pactroom.steps" 399 274
abbrev k294:=kF "lock" "MeanStep.lock" (N 26 0) "pactroom.steps" 399 293
abbrev k301:=kF "step_done" "MeanStep.step_done" (N 26 1) "pactroom.steps" 399 300
abbrev k308:=kF "spelled" "MeanStep.spelled" (N 26 2) "pactroom.steps" 399 307
abbrev k327:=kF "__init__" "SumStep.__init__" (N 27 0) "pactroom.steps" 399 326
abbrev k334:=kF "house" "SumStep.house" (N 27 1) "pactroom.steps" 399 333
abbrev k341:=kF "lock" "SumStep.lock" (N 27 2) "pactroom.steps" 399 340
abbrev k346:=kF "step_done" "SumStep.step_done" (N 27 3) "pactroom.steps" 399 345
abbrev k353:=kF "spelled" "SumStep.spelled" (N 27 4) "pactroom.steps" 399 352
abbrev k372:=kF "lock" "GiveStep.lock" (N 28 0) "pactroom.steps" 399 371
abbrev k379:=kF "step_done" "GiveStep.step_done" (N 28 1) "pactroom.steps" 399 378
abbrev k386:=kF "sure" "GiveStep.sure" (N 28 2) "pactroom.steps" 399 385
abbrev k393:=kF "spelled" "GiveStep.spelled" (N 28 3) "pactroom.steps" 399 392
abbrev k412:=kF "__init__" "AddStep.__init__" (N 29 0) "pactroom.steps" 399 411
abbrev k419:=kF "lock" "AddStep.lock" (N 29 1) "pactroom.steps" 399 418
abbrev k426:=kF "step_done" "AddStep.step_done" (N 29 2) "pactroom.steps" 399 425
abbrev k433:=kF "back" "AddStep.back" (N 29 3) "pactroom.steps" 399 432
abbrev k440:=kF "spelled" "AddStep.spelled" (N 29 4) "pactroom.steps" 399 439
abbrev k459:=kF "__init__" "PlusStep.__init__" (N 30 0) "pactroom.steps" 399 458
abbrev k466:=kF "step_done" "PlusStep.step_done" (N 30 1) "pactroom.steps" 399 465
abbrev k473:=kF "spelled" "PlusStep.spelled" (N 30 2) "pactroom.steps" 399 472
abbrev k492:=kF "__init__" "NeedStep.__init__" (N 31 0) "pactroom.steps" 399 491
abbrev k499:=kF "step_done" "NeedStep.step_done" (N 31 1) "pactroom.steps" 399 498
abbrev k506:=kF "spelled" "NeedStep.spelled" (N 31 2) "pactroom.steps" 399 505
abbrev k516:=kF "spell" "spell" (T 32) "pactroom.steps" 399 515
abbrev k521:=kF "read_step" "read_step" (T 33) "pactroom.steps" 399 520
abbrev k528:=kF "read_number" "read_number" (T 34) "pactroom.steps" 399 527
abbrev k535:=kF "made_step" "made_step" (T 35) "pactroom.steps" 399 534
abbrev k542:=kF "made_sum" "made_sum" (T 36) "pactroom.steps" 399 541
abbrev k557:=kF "__init__" "Pact.__init__" (N 40 0) "pactroom.pacts" 882 556
abbrev k562:=kF "spelled" "Pact.spelled" (N 40 1) "pactroom.pacts" 882 561
abbrev k574:=kF "read_pact" "read_pact" (T 41) "pactroom.pacts" 882 573
abbrev k581:=kF "read_part" "read_part" (T 42) "pactroom.pacts" 882 580
abbrev k586:=kF "houses_of" "houses_of" (T 43) "pactroom.pacts" 882 585
abbrev k600:=kF "__init__" "Lead.__init__" (N 46 0) "pactroom.leads" 947 599
abbrev k607:=kF "go" "Lead.go" (N 46 1) "pactroom.leads" 947 606
abbrev k614:=kF "turn" "Lead.turn" (N 46 2) "pactroom.leads" 947 613
abbrev k621:=kF "end" "Lead.end" (N 46 3) "pactroom.leads" 947 620
abbrev k628:=kF "came" "Lead.came" (N 46 4) "pactroom.leads" 947 627
abbrev k635:=kF "go_ahead" "Lead.go_ahead" (N 46 5) "pactroom.leads" 947 634
abbrev k642:=kF "go_from_end" "Lead.go_from_end" (N 46 6) "pactroom.leads" 947 641
abbrev k649:=kF "go_behind" "Lead.go_behind" (N 46 7) "pactroom.leads" 947 648
abbrev k656:=kF "naming" "Lead.naming" (N 46 8) "pactroom.leads" 947 655
abbrev k663:=kF "own_steps_done" "Lead.own_steps_done" (N 46 9) "pactroom.leads" 947 662
abbrev k670:=kF "next_house" "Lead.next_house" (N 46 10) "pactroom.leads" 947 669
abbrev k677:=kF "present_hand" "Lead.present_hand" (N 46 11) "pactroom.leads" 947 676
abbrev k684:=kF "send_step" "Lead.send_step" (N 46 12) "pactroom.leads" 947 683
abbrev k691:=kF "is_answer" "Lead.is_answer" (N 46 13) "pactroom.leads" 947 690
abbrev k712:=kF "__init__" "HeldLead.__init__" (N 47 0) "pactroom.leads" 947 711
abbrev k719:=kF "go_ahead" "HeldLead.go_ahead" (N 47 1) "pactroom.leads" 947 718
abbrev k726:=kF "came" "HeldLead.came" (N 47 2) "pactroom.leads" 947 725
abbrev k731:=kF "silent" "HeldLead.silent" (N 47 3) "pactroom.leads" 947 730
abbrev k738:=kF "done_if_all_agree" "HeldLead.done_if_all_agree" (N 47 4) "pactroom.leads" 947 737
abbrev k745:=kF "go_from_end" "HeldLead.go_from_end" (N 47 5) "pactroom.leads" 947 744
abbrev k752:=kF "go_behind" "HeldLead.go_behind" (N 47 6) "pactroom.leads" 947 751
abbrev k764:=kF "no_value" "no_value" (T 48) "pactroom.leads" 947 763
abbrev k778:=kF "__init__" "Sheet.__init__" (N 50 0) "pactroom.sheets" 1179 777
abbrev k785:=kF "row" "Sheet.row" (N 50 1) "pactroom.sheets" 1179 784
abbrev k792:=kF "send" "Sheet.send" (N 50 2) "pactroom.sheets" 1179 791
abbrev k799:=kF "rows_told" "Sheet.rows_told" (N 50 3) "pactroom.sheets" 1179 798
abbrev k804:=kF "letters_told" "Sheet.letters_told" (N 50 4) "pactroom.sheets" 1179 803
abbrev k825:=kF "__init__" "Stand.__init__" (N 52 0) "pactroom.stands" 1245 824
abbrev k832:=kF "keep" "Stand.keep" (N 52 1) "pactroom.stands" 1245 831
abbrev k839:=kF "changes_of" "Stand.changes_of" (N 52 2) "pactroom.stands" 1245 838
abbrev k846:=kF "cell_at" "Stand.cell_at" (N 52 3) "pactroom.stands" 1245 845
abbrev k853:=kF "cells_told" "Stand.cells_told" (N 52 4) "pactroom.stands" 1245 852
abbrev k860:=kF "outcome" "Stand.outcome" (N 52 5) "pactroom.stands" 1245 859
abbrev k867:=kF "news" "Stand.news" (N 52 6) "pactroom.stands" 1245 866
abbrev k874:=kF "bound" "Stand.bound" (N 52 7) "pactroom.stands" 1245 873
abbrev k881:=kF "lost" "Stand.lost" (N 52 8) "pactroom.stands" 1245 880
abbrev k888:=kF "begun" "Stand.begun" (N 52 9) "pactroom.stands" 1245 887
abbrev k895:=kF "walked_at" "Stand.walked_at" (N 52 10) "pactroom.stands" 1245 894
abbrev k902:=kF "is_over" "Stand.is_over" (N 52 11) "pactroom.stands" 1245 901
abbrev k916:=kF "_law_cell_at" "_law_cell_at" (T 54) "law_pactroom_k41_steps_one_by_one" 1366 915
abbrev k923:=kF "_law_amount" "_law_amount" (T 55) "law_pactroom_k41_steps_one_by_one" 1366 922
abbrev k930:=kF "_law_step" "_law_step" (T 56) "law_pactroom_k41_steps_one_by_one" 1366 929
abbrev k937:=kF "_law_last" "_law_last" (T 57) "law_pactroom_k41_steps_one_by_one" 1366 936
abbrev k944:=kF "_law_plain" "_law_plain" (T 58) "law_pactroom_k41_steps_one_by_one" 1366 943
abbrev k951:=kF "_law_same" "_law_same" (T 59) "law_pactroom_k41_steps_one_by_one" 1366 950
abbrev k958:=kF "_law_due" "_law_due" (T 60) "law_pactroom_k41_steps_one_by_one" 1366 957
abbrev k965:=kF "_law_other" "_law_other" (T 61) "law_pactroom_k41_steps_one_by_one" 1366 964
abbrev k972:=kF "_law_strange" "_law_strange" (T 62) "law_pactroom_k41_steps_one_by_one" 1366 971
abbrev k977:=kF "_law_housed" "_law_housed" (T 63) "law_pactroom_k41_steps_one_by_one" 1366 976
abbrev k982:=kF "_law_made" "_law_made" (T 64) "law_pactroom_k41_steps_one_by_one" 1366 981
abbrev k987:=kF "law" "law" (T 65) "law_pactroom_k41_steps_one_by_one" 1366 986
noncomputable def Kf:Params->Frag:=λP=>(nat_lit 2,boot_o_2 P)::(nat_lit 3,c1_3 P)::(nat_lit 15,a11)::(nat_lit 17,c0_17)::(nat_lit 18,a11)::(nat_lit 20,c0_20)::(nat_lit 21,k21 P)::(nat_lit 22,c0_22)::(nat_lit 29,a11)::(nat_lit 30,c0_30 P)::(nat_lit 31,c0_31)::(nat_lit 32,c0_32)::(nat_lit 35,c0_35)::(nat_lit 42,a11)::(nat_lit 43,c0_43 P)::(nat_lit 44,c0_44)::(nat_lit 47,c0_35)::(nat_lit 54,a11)::(nat_lit 55,c0_55 P)::(nat_lit 56,c0_56)::(nat_lit 59,c0_35)::(nat_lit 66,a11)::(nat_lit 68,c0_68)::(nat_lit 69,a11)::(nat_lit 71,c0_71)::(nat_lit 72,k72 P)::(nat_lit 73,c0_73)::(nat_lit 74,c0_74 P)::(nat_lit 75,c0_75)::(nat_lit 78,a11)::(nat_lit 80,c0_80)::(nat_lit 81,a11)::(nat_lit 83,c0_83)::(nat_lit 84,k84 P)::(nat_lit 85,a11)::(nat_lit 88,c0_88)::(nat_lit 89,k89 P)::(nat_lit 90,a11)::(nat_lit 93,c0_93)::(nat_lit 94,k94 P)::(nat_lit 95,a11)::(nat_lit 97,c0_97)::(nat_lit 98,a11)::(nat_lit 100,c0_100)::(nat_lit 101,k101 P)::(nat_lit 109,a11)::(nat_lit 111,c0_111)::(nat_lit 112,a11)::(nat_lit 114,c0_114)::(nat_lit 115,k115 P)::(nat_lit 116,a11)::(nat_lit 118,c0_118)::(nat_lit 119,a11)::(nat_lit 121,c0_121)::(nat_lit 122,k122 P)::(nat_lit 123,a11)::(nat_lit 125,c0_125)::(nat_lit 126,a11)::(nat_lit 128,c0_128)::(nat_lit 129,k129 P)::(nat_lit 130,a11)::(nat_lit 132,c0_132)::(nat_lit 133,a11)::(nat_lit 135,c0_135)::(nat_lit 136,k136 P)::(nat_lit 137,a11)::(nat_lit 139,c0_139)::(nat_lit 140,a11)::(nat_lit 142,c0_142)::(nat_lit 143,k143 P)::(nat_lit 144,a11)::(nat_lit 146,c0_146)::(nat_lit 147,a11)::(nat_lit 149,c0_149)::(nat_lit 150,k150 P)::(nat_lit 151,a11)::(nat_lit 153,c0_153)::(nat_lit 154,a11)::(nat_lit 156,c0_156)::(nat_lit 157,k157 P)::(nat_lit 158,c0_158)::(nat_lit 159,c0_159 P)::(nat_lit 160,c0_160)::(nat_lit 161,c0_161)::(nat_lit 162,c0_162)::(nat_lit 165,c0_165 P)::(nat_lit 173,a11)::(nat_lit 175,c0_175)::(nat_lit 176,a11)::(nat_lit 178,c0_178)::(nat_lit 179,k179 P)::(nat_lit 180,a11)::(nat_lit 182,c0_182)::(nat_lit 183,a11)::(nat_lit 185,c0_185)::(nat_lit 186,k186 P)::(nat_lit 187,a11)::(nat_lit 189,c0_189)::(nat_lit 190,a11)::(nat_lit 192,c0_192)::(nat_lit 193,k193 P)::(nat_lit 194,a11)::(nat_lit 196,c0_196)::(nat_lit 197,a11)::(nat_lit 199,c0_199)::(nat_lit 200,k200 P)::(nat_lit 201,a11)::(nat_lit 203,c0_203)::(nat_lit 204,a11)::(nat_lit 206,c0_206)::(nat_lit 207,k207 P)::(nat_lit 208,a11)::(nat_lit 210,c0_210)::(nat_lit 211,a11)::(nat_lit 213,c0_213)::(nat_lit 214,k214 P)::(nat_lit 215,a11)::(nat_lit 216,c0_216 P)::(nat_lit 217,c0_217)::(nat_lit 218,c0_218)::(nat_lit 219,c0_219)::(nat_lit 222,c0_222)::(nat_lit 229,a11)::(nat_lit 231,c0_231)::(nat_lit 232,a11)::(nat_lit 234,c0_234)::(nat_lit 235,k235 P)::(nat_lit 236,a11)::(nat_lit 238,c0_238)::(nat_lit 239,a11)::(nat_lit 241,c0_241)::(nat_lit 242,k242 P)::(nat_lit 243,c0_243)::(nat_lit 244,c0_244 P)::(nat_lit 245,c0_245)::(nat_lit 248,c0_248)::(nat_lit 255,a11)::(nat_lit 257,c0_257)::(nat_lit 258,a11)::(nat_lit 260,c0_260)::(nat_lit 261,k261 P)::(nat_lit 262,a11)::(nat_lit 264,c0_264)::(nat_lit 265,a11)::(nat_lit 267,c0_267)::(nat_lit 268,k268 P)::(nat_lit 269,a11)::(nat_lit 271,c0_271)::(nat_lit 272,a11)::(nat_lit 274,c0_274)::(nat_lit 275,k275 P)::(nat_lit 276,a11)::(nat_lit 277,c0_277 P)::(nat_lit 278,c0_278)::(nat_lit 281,c0_248)::(nat_lit 288,a11)::(nat_lit 290,c0_290)::(nat_lit 291,a11)::(nat_lit 293,c0_293)::(nat_lit 294,k294 P)::(nat_lit 295,a11)::(nat_lit 297,c0_297)::(nat_lit 298,a11)::(nat_lit 300,c0_300)::(nat_lit 301,k301 P)::(nat_lit 302,a11)::(nat_lit 304,c0_304)::(nat_lit 305,a11)::(nat_lit 307,c0_307)::(nat_lit 308,k308 P)::(nat_lit 309,a11)::(nat_lit 310,c0_310 P)::(nat_lit 311,c0_311)::(nat_lit 314,c0_222)::(nat_lit 321,a11)::(nat_lit 323,c0_323)::(nat_lit 324,a11)::(nat_lit 326,c0_326)::(nat_lit 327,k327 P)::(nat_lit 328,a11)::(nat_lit 330,c0_330)::(nat_lit 331,a11)::(nat_lit 333,c0_333)::(nat_lit 334,k334 P)::(nat_lit 335,a11)::(nat_lit 337,c0_337)::(nat_lit 338,a11)::(nat_lit 340,c0_340)::(nat_lit 341,k341 P)::(nat_lit 342,a11)::(nat_lit 345,c0_345)::(nat_lit 346,k346 P)::(nat_lit 347,a11)::(nat_lit 349,c0_349)::(nat_lit 350,a11)::(nat_lit 352,c0_352)::(nat_lit 353,k353 P)::(nat_lit 354,c0_354)::(nat_lit 355,c0_355 P)::(nat_lit 356,c0_356)::(nat_lit 359,c0_248)::(nat_lit 366,a11)::(nat_lit 368,c0_368)::(nat_lit 369,a11)::(nat_lit 371,c0_371)::(nat_lit 372,k372 P)::(nat_lit 373,a11)::(nat_lit 375,c0_375)::(nat_lit 376,a11)::(nat_lit 378,c0_378)::(nat_lit 379,k379 P)::(nat_lit 380,a11)::(nat_lit 382,c0_382)::(nat_lit 383,a11)::(nat_lit 385,c0_385)::(nat_lit 386,k386 P)::(nat_lit 387,a11)::(nat_lit 389,c0_389)::(nat_lit 390,a11)::(nat_lit 392,c0_392)::(nat_lit 393,k393 P)::(nat_lit 394,a11)::(nat_lit 395,c0_395 P)::(nat_lit 396,c0_396)::(nat_lit 399,c0_248)::(nat_lit 406,a11)::(nat_lit 408,c0_408)::(nat_lit 409,a11)::(nat_lit 411,c0_411)::(nat_lit 412,k412 P)::(nat_lit 413,a11)::(nat_lit 415,c0_415)::(nat_lit 416,a11)::(nat_lit 418,c0_418)::(nat_lit 419,k419 P)::(nat_lit 420,a11)::(nat_lit 422,c0_422)::(nat_lit 423,a11)::(nat_lit 425,c0_425)::(nat_lit 426,k426 P)::(nat_lit 427,a11)::(nat_lit 429,c0_429)::(nat_lit 430,a11)::(nat_lit 432,c0_432)::(nat_lit 433,k433 P)::(nat_lit 434,a11)::(nat_lit 436,c0_436)::(nat_lit 437,a11)::(nat_lit 439,c0_439)::(nat_lit 440,k440 P)::(nat_lit 441,c0_441)::(nat_lit 442,c0_442 P)::(nat_lit 443,c0_443)::(nat_lit 446,c0_222)::(nat_lit 453,a11)::(nat_lit 455,c0_455)::(nat_lit 456,a11)::(nat_lit 458,c0_458)::(nat_lit 459,k459 P)::(nat_lit 460,a11)::(nat_lit 462,c0_462)::(nat_lit 463,a11)::(nat_lit 465,c0_465)::(nat_lit 466,k466 P)::(nat_lit 467,a11)::(nat_lit 469,c0_469)::(nat_lit 470,a11)::(nat_lit 472,c0_472)::(nat_lit 473,k473 P)::(nat_lit 474,c0_474)::(nat_lit 475,c0_475 P)::(nat_lit 476,c0_476)::(nat_lit 479,c0_222)::(nat_lit 486,a11)::(nat_lit 488,c0_488)::(nat_lit 489,a11)::(nat_lit 491,c0_491)::(nat_lit 492,k492 P)::(nat_lit 493,a11)::(nat_lit 495,c0_495)::(nat_lit 496,a11)::(nat_lit 498,c0_498)::(nat_lit 499,k499 P)::(nat_lit 500,a11)::(nat_lit 502,c0_502)::(nat_lit 503,a11)::(nat_lit 505,c0_505)::(nat_lit 506,k506 P)::(nat_lit 507,c0_507)::(nat_lit 508,c0_508 P)::(nat_lit 509,c0_509)::(nat_lit 512,a11)::(nat_lit 515,c0_515)::(nat_lit 516,k516 P)::(nat_lit 517,a11)::(nat_lit 520,c0_520)::(nat_lit 521,k521 P)::(nat_lit 522,a11)::(nat_lit 524,c0_524)::(nat_lit 525,a11)::(nat_lit 527,c0_527)::(nat_lit 528,k528 P)::(nat_lit 529,a11)::(nat_lit 531,c0_531)::(nat_lit 532,a11)::(nat_lit 534,c0_534)::(nat_lit 535,k535 P)::(nat_lit 536,a11)::(nat_lit 538,c0_538)::(nat_lit 539,a11)::(nat_lit 541,c0_541)::(nat_lit 542,k542 P)::(nat_lit 543,c0_543)::(nat_lit 551,a11)::(nat_lit 553,c0_553)::(nat_lit 554,a11)::(nat_lit 556,c0_556)::(nat_lit 557,k557 P)::(nat_lit 558,a11)::(nat_lit 561,c0_561)::(nat_lit 562,k562 P)::(nat_lit 563,c0_563)::(nat_lit 564,c0_564 P)::(nat_lit 565,c0_565)::(nat_lit 566,c0_566)::(nat_lit 567,c0_567)::(nat_lit 570,a11)::(nat_lit 573,c0_573)::(nat_lit 574,k574 P)::(nat_lit 575,a11)::(nat_lit 577,c0_577)::(nat_lit 578,a11)::(nat_lit 580,c0_580)::(nat_lit 581,k581 P)::(nat_lit 582,a11)::(nat_lit 585,c0_585)::(nat_lit 586,k586 P)::(nat_lit 594,a11)::(nat_lit 596,c0_596)::(nat_lit 597,a11)::(nat_lit 599,c0_599)::(nat_lit 600,k600 P)::(nat_lit 601,a11)::(nat_lit 603,c0_603)::(nat_lit 604,a11)::(nat_lit 606,c0_606)::(nat_lit 607,k607 P)::(nat_lit 608,a11)::(nat_lit 610,c0_610)::(nat_lit 611,a11)::(nat_lit 613,c0_613)::(nat_lit 614,k614 P)::(nat_lit 615,a11)::(nat_lit 617,c0_617)::(nat_lit 618,a11)::(nat_lit 620,c0_620)::(nat_lit 621,k621 P)::(nat_lit 622,a11)::(nat_lit 624,c0_624)::(nat_lit 625,a11)::(nat_lit 627,c0_627)::(nat_lit 628,k628 P)::(nat_lit 629,a11)::(nat_lit 631,c0_631)::(nat_lit 632,a11)::(nat_lit 634,c0_634)::(nat_lit 635,k635 P)::(nat_lit 636,a11)::(nat_lit 638,c0_638)::(nat_lit 639,a11)::(nat_lit 641,c0_641)::(nat_lit 642,k642 P)::(nat_lit 643,a11)::(nat_lit 645,c0_645)::(nat_lit 646,a11)::(nat_lit 648,c0_648)::(nat_lit 649,k649 P)::(nat_lit 650,a11)::(nat_lit 652,c0_652)::(nat_lit 653,a11)::(nat_lit 655,c0_655)::(nat_lit 656,k656 P)::(nat_lit 657,a11)::(nat_lit 659,c0_659)::(nat_lit 660,a11)::(nat_lit 662,c0_662)::(nat_lit 663,k663 P)::(nat_lit 664,a11)::(nat_lit 666,c0_666)::(nat_lit 667,a11)::(nat_lit 669,c0_669)::(nat_lit 670,k670 P)::(nat_lit 671,a11)::(nat_lit 673,c0_673)::(nat_lit 674,a11)::(nat_lit 676,c0_676)::(nat_lit 677,k677 P)::(nat_lit 678,a11)::(nat_lit 680,c0_680)::(nat_lit 681,a11)::(nat_lit 683,c0_683)::(nat_lit 684,k684 P)::(nat_lit 685,a11)::(nat_lit 687,c0_687)::(nat_lit 688,a11)::(nat_lit 690,c0_690)::(nat_lit 691,k691 P)::(nat_lit 692,c0_692)::(nat_lit 693,c0_693 P)::(nat_lit 694,c1_694)::(nat_lit 695,c0_695)::(nat_lit 696,c0_696)::(nat_lit 699,c1_699)::(nat_lit 706,a11)::(nat_lit 708,c1_708)::(nat_lit 709,a11)::(nat_lit 711,c1_711)::(nat_lit 712,k712 P)::(nat_lit 713,a11)::(nat_lit 715,c1_715)::(nat_lit 716,a11)::(nat_lit 718,c1_718)::(nat_lit 719,k719 P)::(nat_lit 720,a11)::(nat_lit 722,c1_722)::(nat_lit 723,a11)::(nat_lit 725,c1_725)::(nat_lit 726,k726 P)::(nat_lit 727,a11)::(nat_lit 730,c1_730)::(nat_lit 731,k731 P)::(nat_lit 732,a11)::(nat_lit 734,c1_734)::(nat_lit 735,a11)::(nat_lit 737,c1_737)::(nat_lit 738,k738 P)::(nat_lit 739,a11)::(nat_lit 741,c1_741)::(nat_lit 742,a11)::(nat_lit 744,c1_744)::(nat_lit 745,k745 P)::(nat_lit 746,a11)::(nat_lit 748,c1_748)::(nat_lit 749,a11)::(nat_lit 751,c1_751)::(nat_lit 752,k752 P)::(nat_lit 753,c1_753)::(nat_lit 754,c1_754 P)::(nat_lit 755,c1_755)::(nat_lit 758,a11)::(nat_lit 760,c1_760)::(nat_lit 761,a11)::(nat_lit 763,c1_763)::(nat_lit 764,k764 P)::(nat_lit 772,a11)::(nat_lit 774,c1_774)::(nat_lit 775,a11)::(nat_lit 777,c1_777)::(nat_lit 778,k778 P)::(nat_lit 779,a11)::(nat_lit 781,c1_781)::(nat_lit 782,a11)::(nat_lit 784,c1_784)::(nat_lit 785,k785 P)::(nat_lit 786,a11)::(nat_lit 788,c1_788)::(nat_lit 789,a11)::(nat_lit 791,c1_791)::(nat_lit 792,k792 P)::(nat_lit 793,a11)::(nat_lit 795,c1_795)::(nat_lit 796,a11)::(nat_lit 798,c1_798)::(nat_lit 799,k799 P)::(nat_lit 800,a11)::(nat_lit 803,c1_803)::(nat_lit 804,k804 P)::(nat_lit 805,c1_805)::(nat_lit 806,c1_806 P)::(nat_lit 807,c1_807)::(nat_lit 808,c1_808)::(nat_lit 809,c1_809)::(nat_lit 819,a11)::(nat_lit 821,c1_821)::(nat_lit 822,a11)::(nat_lit 824,c1_824)::(nat_lit 825,k825 P)::(nat_lit 826,a11)::(nat_lit 828,c1_828)::(nat_lit 829,a11)::(nat_lit 831,c1_831)::(nat_lit 832,k832 P)::(nat_lit 833,a11)::(nat_lit 835,c1_835)::(nat_lit 836,a11)::(nat_lit 838,c1_838)::(nat_lit 839,k839 P)::(nat_lit 840,a11)::(nat_lit 842,c1_842)::(nat_lit 843,a11)::(nat_lit 845,c1_845)::(nat_lit 846,k846 P)::(nat_lit 847,a11)::(nat_lit 849,c1_849)::(nat_lit 850,a11)::(nat_lit 852,c1_852)::(nat_lit 853,k853 P)::(nat_lit 854,a11)::(nat_lit 856,c1_856)::(nat_lit 857,a11)::(nat_lit 859,c1_859)::(nat_lit 860,k860 P)::(nat_lit 861,a11)::(nat_lit 863,c1_863)::(nat_lit 864,a11)::(nat_lit 866,c1_866)::(nat_lit 867,k867 P)::(nat_lit 868,a11)::(nat_lit 870,c1_870)::(nat_lit 871,a11)::(nat_lit 873,c1_873)::(nat_lit 874,k874 P)::(nat_lit 875,a11)::(nat_lit 877,c1_877)::(nat_lit 878,a11)::(nat_lit 880,c1_880)::(nat_lit 881,k881 P)::(nat_lit 882,a11)::(nat_lit 884,c1_884)::(nat_lit 885,a11)::(nat_lit 887,c1_887)::(nat_lit 888,k888 P)::(nat_lit 889,a11)::(nat_lit 891,c1_891)::(nat_lit 892,a11)::(nat_lit 894,c1_894)::(nat_lit 895,k895 P)::(nat_lit 896,a11)::(nat_lit 898,c1_898)::(nat_lit 899,a11)::(nat_lit 901,c1_901)::(nat_lit 902,k902 P)::(nat_lit 903,c1_903)::(nat_lit 904,c1_904 P)::(nat_lit 905,c1_905)::(nat_lit 906,c1_906)::(nat_lit 907,c1_907)::(nat_lit 910,a11)::(nat_lit 912,c1_912)::(nat_lit 913,a11)::(nat_lit 915,c1_915)::(nat_lit 916,k916 P)::(nat_lit 917,a11)::(nat_lit 919,c1_919)::(nat_lit 920,a11)::(nat_lit 922,c1_922)::(nat_lit 923,k923 P)::(nat_lit 924,a11)::(nat_lit 926,c1_926)::(nat_lit 927,a11)::(nat_lit 929,c1_929)::(nat_lit 930,k930 P)::(nat_lit 931,a11)::(nat_lit 933,c1_933)::(nat_lit 934,a11)::(nat_lit 936,c1_936)::(nat_lit 937,k937 P)::(nat_lit 938,a11)::(nat_lit 940,c1_940)::(nat_lit 941,a11)::(nat_lit 943,c1_943)::(nat_lit 944,k944 P)::(nat_lit 945,a11)::(nat_lit 947,c1_947)::(nat_lit 948,a11)::(nat_lit 950,c1_950)::(nat_lit 951,k951 P)::(nat_lit 952,a11)::(nat_lit 954,c1_954)::(nat_lit 955,a11)::(nat_lit 957,c1_957)::(nat_lit 958,k958 P)::(nat_lit 959,a11)::(nat_lit 961,c1_961)::(nat_lit 962,a11)::(nat_lit 964,c1_964)::(nat_lit 965,k965 P)::(nat_lit 966,a11)::(nat_lit 968,c1_968)::(nat_lit 969,a11)::(nat_lit 971,c1_971)::(nat_lit 972,k972 P)::(nat_lit 973,a11)::(nat_lit 976,c1_976)::(nat_lit 977,k977 P)::(nat_lit 978,a11)::(nat_lit 981,c1_981)::(nat_lit 982,k982 P)::(nat_lit 983,a11)::(nat_lit 986,c1_986)::(nat_lit 987,k987 P)::[]
noncomputable def Ka:List Addr:=[2,3,15,17,18,20,21,22,29,30,31,32,35,42,43,44,47,54,55,56,59,66,68,69,71,72,73,74,75,78,80,81,83,84,85,88,89,90,93,94,95,97,98,100,101,109,111,112,114,115,116,118,119,121,122,123,125,126,128,129,130,132,133,135,136,137,139,140,142,143,144,146,147,149,150,151,153,154,156,157,158,159,160,161,162,165,173,175,176,178,179,180,182,183,185,186,187,189,190,192,193,194,196,197,199,200,201,203,204,206,207,208,210,211,213,214,215,216,217,218,219,222,229,231,232,234,235,236,238,239,241,242,243,244,245,248,255,257,258,260,261,262,264,265,267,268,269,271,272,274,275,276,277,278,281,288,290,291,293,294,295,297,298,300,301,302,304,305,307,308,309,310,311,314,321,323,324,326,327,328,330,331,333,334,335,337,338,340,341,342,345,346,347,349,350,352,353,354,355,356,359,366,368,369,371,372,373,375,376,378,379,380,382,383,385,386,387,389,390,392,393,394,395,396,399,406,408,409,411,412,413,415,416,418,419,420,422,423,425,426,427,429,430,432,433,434,436,437,439,440,441,442,443,446,453,455,456,458,459,460,462,463,465,466,467,469,470,472,473,474,475,476,479,486,488,489,491,492,493,495,496,498,499,500,502,503,505,506,507,508,509,512,515,516,517,520,521,522,524,525,527,528,529,531,532,534,535,536,538,539,541,542,543,551,553,554,556,557,558,561,562,563,564,565,566,567,570,573,574,575,577,578,580,581,582,585,586,594,596,597,599,600,601,603,604,606,607,608,610,611,613,614,615,617,618,620,621,622,624,625,627,628,629,631,632,634,635,636,638,639,641,642,643,645,646,648,649,650,652,653,655,656,657,659,660,662,663,664,666,667,669,670,671,673,674,676,677,678,680,681,683,684,685,687,688,690,691,692,693,694,695,696,699,706,708,709,711,712,713,715,716,718,719,720,722,723,725,726,727,730,731,732,734,735,737,738,739,741,742,744,745,746,748,749,751,752,753,754,755,758,760,761,763,764,772,774,775,777,778,779,781,782,784,785,786,788,789,791,792,793,795,796,798,799,800,803,804,805,806,807,808,809,819,821,822,824,825,826,828,829,831,832,833,835,836,838,839,840,842,843,845,846,847,849,850,852,853,854,856,857,859,860,861,863,864,866,867,868,870,871,873,874,875,877,878,880,881,882,884,885,887,888,889,891,892,894,895,896,898,899,901,902,903,904,905,906,907,910,912,913,915,916,917,919,920,922,923,924,926,927,929,930,931,933,934,936,937,938,940,941,943,944,945,947,948,950,951,952,954,955,957,958,959,961,962,964,965,966,968,969,971,972,973,976,977,978,981,982,983,986,987]
theorem ke(P:Params):Ka=(Kf P).map (·.1):=by kernel_rfl
noncomputable abbrev HK:Hook:=kHook Kf Ka ke
noncomputable abbrev R:RowW:=PySem.Challenge.rw_pactroom_k41_steps_one_by_one.row.toRowW
noncomputable abbrev lo:List Str:=[Str.ofString "SHAPES"]
noncomputable abbrev lvv:List (Str×WData):=[]
noncomputable def qv:Program:={p0 with main:={p0.main with body:=[T 0,T 2,T 3,T 4,T 5,T 7,T 8,T 9,T 10,T 11,T 12,T 13,T 14,T 15,T 16,T 17,T 18,T 19,T 21,T 22,T 23,T 24,T 25,T 26,T 27,T 28,T 29,T 30,T 31,T 32,T 33,T 34,T 35,T 36,T 38,T 39,T 40,T 41,T 42,T 43,T 45,T 46,T 47,T 48,T 50,T 52,T 54,T 55,T 56,T 57,T 58,T 59,T 60,T 61,T 62,T 63,T 64,T 65]}}
noncomputable abbrev Xt:Shared->Bool:=λs=>xlAt qv lvv s&&recOk (RowW.records R) s
theorem size_l(w:World):((boot_heap w.params).isNs mainGlobals&&(A []:Array GenState).size==0,(boot_heap w.params).objs.size,(boot_heap w.params).nsMap mainGlobals "__annotations__")=(true,11,(sr 6)):=by kernel_rfl
theorem look1(w:World)(os:OsState):(staticsOk (importedModules p0.main.body) (boot_heap w.params) (H1 w.params)&&namesBound p0 (H1 w.params)&&gensDone ⟨H1 w.params,Array.mk [],(@Drawn.mk 0 0 0 0),1475,os⟩&&laidKept (boot_heap w.params) (H1 w.params))=true:=by kernel_rfl
theorem look2(w:World)(os:OsState):openSeen qv lo (importedModules p0.main.body) Xt true ⟨H1 w.params,Array.mk [],(@Drawn.mk 0 0 0 0),1475,os⟩=openGood qv lo:=by kernel_rfl
theorem look3(w:World)(os:OsState):Hook.obs HK ⟨H1 w.params,Array.mk [],(@Drawn.mk 0 0 0 0),1475,os⟩=Hook.val HK w:=by kernel_rfl
theorem left:LeftO p0 qv lo Xt (Hook.obs HK) (Hook.val HK) 15384:=LeftO.of_pieces (boot_open (by kernel_rfl) (by kernel_rfl) (λs=>by kernel_rfl)) size_l run_l (by decide) λw=>funext λos=>looks_pair (look1 w os) (looks_pair (look2 w os) (look3 w os))
end
end Q
end
namespace L2
open PySem PySem.Spec PyProof.Rows
section
variable {X:Cx}
theorem bx:dD X (.builtin "isinstance") (λxs H Q=>∃x t n b,xs=[x,.ty n]/\TyOf X.K H x t/\PySem.W.kitOne X.K t (.type n)=some b/\Q (.bl b) H):=by
 intro pins s σ H xs us Q I r h
 obtain ⟨x,t,n,b,rfl,ty,e,q⟩:=h
 obtain ⟨u,u2,rfl,rx,r2⟩:=wF r
 cases (show u2=Value.type n from r2)
 exact qT I rx ty e λtk=>⟨.bl b,H,I.tok _,rfl,q⟩
theorem jq:MtR X "str.startswith" (λx vs H Q=>∃z y i,x=.str z/\vs=[.str y,.int i]/\Q (.bl (Txt.startswith3 z y i)) H):=by
 intro pins s σ H x xs v us Q I rx r h
 obtain ⟨z,y,i,rfl,rfl,q⟩:=h
 obtain ⟨t,rfl⟩:=rx
 obtain ⟨u,u2,rfl,⟨t1,rfl⟩,⟨t2,rfl⟩⟩:=wF r
 exact SC.startswith3 ⟨.bl _,H,I,rfl,q⟩
theorem jT:MtR X "str.startswith" (λx vs H Q=>∃z y,x=.str z/\vs=[.str y]/\Q (.bl (Txt.startswith z y)) H):=by
 intro pins s σ H x xs v us Q I rx r h
 obtain ⟨z,y,rfl,rfl,q⟩:=h
 obtain ⟨t,rfl⟩:=rx
 obtain ⟨u,rfl,⟨t1,rfl⟩⟩:=cp r
 exact SC.startswith ⟨.bl _,H,I,rfl,q⟩
theorem oN:MtR X "str.isdigit" (λx vs H Q=>∃z,x=.str z/\vs=[]/\Q (.bl (Txt.isdigit z)) H):=by
 intro pins s σ H x xs v us Q I rx r h
 obtain ⟨z,rfl,rfl,q⟩:=h
 obtain ⟨t,rfl⟩:=rx
 cases r
 exact SC.isdigit ⟨.bl _,H,I,rfl,q⟩
theorem jX:dD X (.type "int") (λxs H Q=>∃z n,xs=[.str z]/\PySem.intText? z=some n/\z.length<=640/\Q (.int n) H):=by
 intro pins s σ H xs us Q I r h
 obtain ⟨z,n,rfl,e,hl,q⟩:=h
 obtain ⟨u,rfl,⟨t,rfl⟩⟩:=cp r
 exact PySem.W.KIN.call_text e hl ⟨.int n,H,I.tok _,⟨_,rfl⟩,q⟩
theorem su:SlR X (λx lo hi H Q=>∃z,x=.str z/\z.length<=sizeLine/\Q (.str (Txt.slice z lo hi)) H):=by
 intro pins s σ H x v vl vu lo hi sl Q I rx hs pl pu h
 obtain ⟨z,rfl,hz,q⟩:=h
 obtain ⟨t,rfl⟩:=rx
 refine ⟨"str",_,F.slot_str_getitem.lookup,typeIs_str _ _ _,?_⟩
 cases pl<;>cases pu
 ·exact wpAny_getItem_str_slice (l:=none) (u:=none) (st:=none) hs rfl (post_val_or_str ⟨Nat.le_trans (Txt.slice_le z _ _) hz,λt' k=>⟨.str _,H,I.tok _,⟨_,rfl⟩,q⟩⟩)
 ·exact wpAny_getItem_str_slice (l:=none) (u:=some (_,_)) (st:=none) hs rfl (post_val_or_str ⟨Nat.le_trans (Txt.slice_le z _ _) hz,λt' k=>⟨.str _,H,I.tok _,⟨_,rfl⟩,q⟩⟩)
 ·exact wpAny_getItem_str_slice (l:=some (_,_)) (u:=none) (st:=none) hs rfl (post_val_or_str ⟨Nat.le_trans (Txt.slice_le z _ _) hz,λt' k=>⟨.str _,H,I.tok _,⟨_,rfl⟩,q⟩⟩)
 ·exact wpAny_getItem_str_slice (l:=some (_,_)) (u:=some (_,_)) (st:=none) hs rfl (post_val_or_str ⟨Nat.le_trans (Txt.slice_le z _ _) hz,λt' k=>⟨.str _,H,I.tok _,⟨_,rfl⟩,q⟩⟩)
theorem nG(hc:X.calm=true):dD X (.builtin "all") (λxs H Q=>∃(p:Addr) (bs:List Bool),xs=[.ref p]/\SqL X.K H p (bs.map V.bl)/\Q (.bl (bs.all id)) H):=by
 intro pins s σ H xs us Q I r h
 obtain ⟨p,bs,rfl,hq,q⟩:=h
 obtain ⟨u,rfl,rx⟩:=cp r
 cases (show u=Value.ref p from rx)
 obtain ⟨its,rv,pl,hz⟩:=I.list hq
 have hl:=pl.isList
 have hlt:p<s.heap.objs.size:=by obtain ⟨_,e,_⟩:=hl;exact Heap.lt_size e
 have hh:X.A.handled=none:=I.ok.hd hc
 have hlen:bs.length=its.length:=by have:=rv.length;rw [List.length_map] at this;exact this
 refine call_all_walk (wpAny_pyIter_list hl ?_)
 refine ⟨s.heap.objs.size,[s.heap.objs.size,p],[s.heap.objs.size],its.toArray.size,_,_,λi=>(bs[i]?).getD true,rfl,Walks.list (A:=X.A.in1) hh _ p (Nat.ne_of_lt hlt) its.toArray,
  ⟨⟨_,Heap.get?_push_size _ rfl,rfl,rfl⟩,hl.push _⟩,λi v s' Q' E' hP hQ=>?_,λh' tk hk=>?_⟩
 ·have hP':its[i]?=some v:=by simpa using hP
  have hi:i<its.length:=(List.getElem?_eq_some_iff.mp hP').1
  have hb:(bs.map V.bl)[i]?=some (V.bl (bs[i]'(by omega))):=by rw [List.getElem?_map,List.getElem?_eq_getElem (by omega)];rfl
  obtain ⟨u',e1,e2⟩:=rv.get hb
  rw [hP'] at e1
  cases e1
  cases (show v=Value.bool _ from e2)
  have hQ':Q' ((bs[i]?).getD true) s':=hQ
  rw [List.getElem?_eq_getElem (by omega)] at hQ'
  exact wpAny_truthy_bool hQ'
 ·have e:((List.range its.toArray.size).all λi=>(bs[i]?).getD true)=bs.all id:=by
   rw [List.size_toArray,← hlen];exact LSm.range_all bs
  rw [e]
  exact ⟨.bl _,H,I.kept (LSm.kept_iter hk),rfl,q⟩
end
end L2
namespace L2
open PySem PySem.Spec PyProof.Rows
def cR(env:Env):List (Str×NameKind)->List (Str×Addr)->List (Str×Addr)
 | [],cs=>cs
 | (n,k)::r,cs=>cR env r (if k==.free then match env.cells.lookup n with | some a=>(n,a)::cs | none=>cs else cs)
theorem iN{scope:Scope}{env:Env}(h:∀y∈scope.names,y.2=.free->∃c,env.cells.lookup y.1=some c):closureFor scope env=pure (cR env scope.names []):=by
 have key:∀(l:List (Str×NameKind)) (cs:List (Str×Addr)),(∀y∈l,y.2=.free->∃c,env.cells.lookup y.1=some c) ->
   (forIn l cs (λ(x:Str×NameKind) (r:List (Str×Addr))=>(if (x.2==NameKind.free)=true then (do let a ← cellOf env x.1;pure (ForInStep.yield ((x.1,a)::r))) else pure (ForInStep.yield r):Sem (ForInStep (List (Str×Addr))))))=(pure (cR env l cs):Sem _):=by
  intro l
  induction l with
  | nil=>intro cs _;rfl
  | cons y r ih =>
   intro cs hy
   obtain ⟨n,k⟩:=y
   have hr:∀z∈r,z.2=.free->∃c,env.cells.lookup z.1=some c:=λz hz=>hy z (List.mem_cons_of_mem _ hz)
   rw [List.forIn_cons]
   by_cases hk:(k==NameKind.free)=true
   ·obtain ⟨c,hc⟩:=hy (n,k) List.mem_cons_self (by simpa using hk)
    have e:cellOf env n=pure c:=by unfold cellOf;rw [hc]
    simp only [hk,if_true,e,pure_bind,cR,hc]
    exact ih _ hr
   ·have hk':(k==NameKind.free)=false:=by simpa using hk
    simp only [hk',Bool.false_eq_true,if_false,pure_bind,cR]
    exact ih _ hr
 have e:closureFor scope env=(forIn scope.names ([]:List (Str×Addr)) (λ(x:Str×NameKind) (r:List (Str×Addr))=>(if (x.2==NameKind.free)=true then (do let a ← cellOf env x.1;pure (ForInStep.yield ((x.1,a)::r))) else pure (ForInStep.yield r):Sem (ForInStep (List (Str×Addr))))) >>= λcs=>pure cs):=by
  unfold closureFor
  rfl
 rw [e,key scope.names [] h]
 all_goals rfl
theorem ix{env:Env}:∀(l:List (Str×NameKind)) (cs:List (Str×Addr)),(∀p∈cs,env.cells.lookup p.1=some p.2)->∀p∈cR env l cs,env.cells.lookup p.1=some p.2
 | [],cs,h,p,hp=>h p hp
 | (n,k)::r,cs,h,p,hp=>by
  unfold cR at hp
  refine ix r _ ?_ p hp
  split
  ·split
   ·rename_i a ea
    intro q hq
    rcases List.mem_cons.mp hq with e | hq
    ·rw [e];exact ea
    ·exact h q hq
   ·exact h
  ·exact h
theorem iF{env:Env}:∀(l:List (Str×NameKind)) (cs:List (Str×Addr)) {y:Str},(∃p∈cs,p.1=y)->∃p∈cR env l cs,p.1=y
 | [],cs,y,h=>h
 | (n,k)::r,cs,y,⟨p,hp,e⟩=>by
  unfold cR
  refine iF r _ ?_
  split
  ·split
   ·exact ⟨p,List.mem_cons_of_mem _ hp,e⟩
   ·exact ⟨p,hp,e⟩
  ·exact ⟨p,hp,e⟩
theorem kC{env:Env}:∀(l:List (Str×NameKind)) (cs:List (Str×Addr)) {y:Str} {c:Addr},(y,NameKind.free)∈l->env.cells.lookup y=some c->∃p∈cR env l cs,p.1=y
 | (n,k)::r,cs,y,c,hm,hc=>by
  unfold cR
  rcases List.mem_cons.mp hm with e | hm
  ·cases e
   refine iF r _ ?_
   rw [if_pos (by rfl),hc]
   exact ⟨_,List.mem_cons_self,rfl⟩
  ·exact kC r _ hm hc
theorem gn{α:Type}:∀{l:List (Str×α)} {p:Str×α},p∈l->∃c,l.lookup p.1=some c
 | q::l,p,h=>by
  obtain ⟨n,a⟩:=q
  rw [List.lookup_cons]
  split
  ·exact ⟨_,rfl⟩
  ·rename_i hne
   rcases List.mem_cons.mp h with e | h
   ·subst e;simp at hne
   ·exact gn h
theorem gU{env:Env}{l:List (Str×NameKind)}{y:Str}{c:Addr}(hm:(y,NameKind.free)∈l)(hc:env.cells.lookup y=some c):(cR env l []).lookup y=some c:=by
 obtain ⟨p,hp,e⟩:=kC l [] hm hc
 obtain ⟨c',e'⟩:=gn hp
 rw [e] at e'
 have q:=ix l [] (λ_ z=>nomatch z) _ (PySem.mem_of_lookup e')
 rw [hc] at q
 rw [e']
 exact q.symm
theorem cG{env:Env}{l:List (Str×NameKind)}{y:Str}{c:Addr}(h:(cR env l []).lookup y=some c):env.cells.lookup y=some c :=
 ix l [] (λ_ z=>nomatch z) _ (PySem.mem_of_lookup h)
theorem eF{env:Env}:∀{names:List (Str×NameKind)} {x:Str} {k:NameKind},(names.map λ(n,k)=>if (k==NameKind.free&&env.scope.kind==.function&&env.kindOf n==some .cell) then (n,NameKind.cell) else (n,k)).lookup x=some k ->
  ∃k',names.lookup x=some k'/\(k'=k\/k'=.free)
 | [],_,_,h=>by simp at h
 | (n,k0)::r,x,k,h=>by
  have ih:=@eF env r x k
  have h:List.lookup x ((if (k0==NameKind.free&&env.scope.kind==.function&&env.kindOf n==some .cell)=true then (n,NameKind.cell) else (n,k0))::_)=some k:=h
  cases hx:x==n with
  | true =>
   refine ⟨k0,by simp only [List.lookup_cons,hx],?_⟩
   by_cases hc:(k0==NameKind.free&&env.scope.kind==.function&&env.kindOf n==some .cell)=true
   ·refine .inr ?_
    simp only [Bool.and_eq_true] at hc
    exact beq_iff_eq.mp hc.1.1
   ·rw [if_neg hc] at h
    simp only [List.lookup_cons,hx] at h
    exact .inl (Option.some.inj h)
  | false =>
   have h2:List.lookup x (r.map λ(n,k)=>if (k==NameKind.free&&env.scope.kind==.function&&env.kindOf n==some .cell) then (n,NameKind.cell) else (n,k))=some k:=by
    by_cases hc:(k0==NameKind.free&&env.scope.kind==.function&&env.kindOf n==some .cell)=true
    ·rw [if_pos hc] at h;simp only [List.lookup_cons,hx] at h;exact h
    ·rw [if_neg hc] at h;simp only [List.lookup_cons,hx] at h;exact h
   obtain ⟨k',e1,e2⟩:=ih h2
   exact ⟨k',by simp only [List.lookup_cons,hx];exact e1,e2⟩
theorem eU{env:Env}:∀{names:List (Str×NameKind)} {x:Str},names.lookup x=some .free ->
  (names.map λ(n,k)=>if (k==NameKind.free&&env.scope.kind==.function&&env.kindOf n==some .cell) then (n,NameKind.cell) else (n,k)).lookup x=some .cell \/
  (names.map λ(n,k)=>if (k==NameKind.free&&env.scope.kind==.function&&env.kindOf n==some .cell) then (n,NameKind.cell) else (n,k)).lookup x=some .free
 | [],_,h=>by simp at h
 | (n,k0)::r,x,h=>by
  have ih:=@eU env r x
  show List.lookup x ((if (k0==NameKind.free&&env.scope.kind==.function&&env.kindOf n==some .cell)=true then (n,NameKind.cell) else (n,k0))::_)=some .cell\/List.lookup x ((if (k0==NameKind.free&&env.scope.kind==.function&&env.kindOf n==some .cell)=true then (n,NameKind.cell) else (n,k0))::_)=some .free
  cases hx:x==n with
  | true =>
   simp only [List.lookup_cons,hx] at h
   by_cases hc:(k0==NameKind.free&&env.scope.kind==.function&&env.kindOf n==some .cell)=true
   ·rw [if_pos hc];simp only [List.lookup_cons,hx];simp
   ·rw [if_neg hc];simp only [List.lookup_cons,hx];exact .inr (by rw [Option.some.inj h])
  | false =>
   simp only [List.lookup_cons,hx] at h
   by_cases hc:(k0==NameKind.free&&env.scope.kind==.function&&env.kindOf n==some .cell)=true
   ·rw [if_pos hc];simp only [List.lookup_cons,hx];exact ih h
   ·rw [if_neg hc];simp only [List.lookup_cons,hx];exact ih h
def Its(z:Str):It:=⟨λi _=>i<z.length,λi H x H'=>H'=H/\∃c,z.cps.toList[i]?=some c/\x=.str ⟨#[c]⟩,λi _=>z.length<=i⟩
structure StrIt(P:Program)(w:World)(it:Addr)(ty:String)(z:Str)(t:Tok):Prop where
 W:∀A':Around,A'.handled=none->Walks P w A' it [it] [it] z.cps.size (SignAt z) (λi h=>h.IsStrIter it ty z t i)
 en:∀(A:Around) (i:Nat) (s:Shared) (Q:Option Value->Shared->Prop) (E:Value->Shared->Prop),A.handled=none->s.heap.IsStrIter it ty z t i->z.cps[i]?=none ->
  (∀h',Heap.ExtBut it s.heap h'->Q none {s with heap:=h'})->wpAny (model P w) A (pyNext (.ref it)) Q E s
 me:∀(A:Around) (i:Nat) (s:Shared) (Q:Value->Shared->Prop) (E:Value->Shared->Prop),s.heap.IsStrIter it ty z t i->Q (.ref it) s->wpAny (model P w) A (pyIter (.ref it)) Q E s
 ne:["enumerate","zip","dict_itemiterator","dict_reverseitemiterator","odict_iterator","itertools.zip_longest","itertools.pairwise"].contains ty=false
theorem StrIt.ascii{P:Program}{w:World}(it:Addr)(z:Str)(t:Tok):StrIt P w it "str_ascii_iterator" z t :=
 ⟨λ_ hA=>Walks.strAscii hA it z t,λ_ _ _ _ _ hA st hx hQ=>wpAny_pyNext_ascii_end hA st hx hQ,λ_ _ _ _ _ st h=>wpAny_pyIter_striter_ascii st h,by decide⟩
theorem StrIt.wide{P:Program}{w:World}(it:Addr)(z:Str)(t:Tok):StrIt P w it "str_iterator" z t :=
 ⟨λ_ hA=>Walks.strWide hA it z t,λ_ _ _ _ _ hA st hx hQ=>wpAny_pyNext_wide_end hA st hx hQ,λ_ _ _ _ _ st h=>wpAny_pyIter_striter_wide st h,by decide⟩
theorem rL{P:Program}{w:World}{K:PySem.W.Frag}{tg:Expr}{z:Str}{t:Tok}{it:Addr}{ty:String}(S:StrIt P w it ty z t) :
  rm P w K tg (Its z) [it] it (λi h=>h.IsStrIter it ty z t i) where
 mem:=by simp
 obj:=λi h st b hb=>by
  have e:b=it:=by simpa using hb
  subst e
  obtain ⟨o,e,c,d⟩:=st
  exact ⟨o,e,λv q=>by rw [d] at q;cases q⟩
 keep:=λi h h' st k=>by
  obtain ⟨o,e,r⟩:=st
  exact ⟨o,k it (by simp) o e,r⟩
 item:=by
  intro X hP hw hK hc i pins s σ H E I hf st hg
  subst hP hw hK
  obtain ⟨f0,f1,f2,f3,f4,f5⟩:=hf it (by simp)
  refine (S.W X.A (I.ok.hd hc)).item i s _ _ hg st λv h' tk hv st' kk=>?_
  obtain ⟨c,u,hc',rfl⟩:=hv
  have I1:Inv X pins σ H {s with heap:=h',toks:=tk}:=I.turned (λb o hb e=>kk b o (by simpa using hb) e) f0 f1 f3 f4 f5
  obtain ⟨o,e,c1,d1⟩:=id st'
  exact ⟨_,rfl,pW (s:={s with heap:=h',toks:=tk}) e c1 d1 S.ne ⟨.str ⟨#[c]⟩,H,I1,⟨u,rfl⟩,⟨rfl,c,by rw [Array.getElem?_toList];exact hc',rfl⟩,st',λb hb=>(hf b hb).1⟩⟩
 done:=by
  intro X hP hw hK hc i pins s σ H E I hf st hg
  subst hP hw hK
  obtain ⟨f0,f1,f2,f3,f4,f5⟩:=hf it (by simp)
  refine S.en X.A i s _ _ (I.ok.hd hc) st ?_ λh' eb=>⟨rfl,I.turned (t':=s.toks) (λb o hb e=>eb b o hb e) f0 f1 f3 f4 f5⟩
  exact Array.getElem?_eq_none hg
 self:=λA i s Q E st h=>S.me A i s Q E st h
def Ac(tl:TE):TI:=fun σ H R=>tl σ H λx H1=>∃z,x=.str z/\R (Its z) H1
theorem xE{X:Cx}{tg l:Expr}{tl:TE}(hl:PE X l tl):PI X tg l (Ac tl):=by
 intro pins s σ H R I h
 refine thn (hl pins s σ H _ I h) λv s1 ⟨x,H1,I1,r1,q1⟩=>?_
 obtain ⟨z,rfl,q⟩:=q1
 obtain ⟨t,rfl⟩:=r1
 have fin:∀(o:Obj) (ty:String),StrIt X.prog X.w s1.heap.objs.size ty z t->(s1.heap.push o).IsStrIter s1.heap.objs.size ty z t 0->PIE X pins σ tg R (.ref s1.heap.objs.size) {s1 with heap:=s1.heap.push o}:=λo ty S st=>by
  refine ⟨s1.heap.objs.size,[s1.heap.objs.size],_,Its z,H1,rfl,I1.kept (t':=s1.toks) λb o e=>Heap.get?_push_of_some _ e,rL S,st,λb hb=>?_,q⟩
  have e:b=s1.heap.objs.size:=by simpa using hb
  subst e
  exact I1.fpOk (Nat.le_refl _) (I1.hok.fresh (Nat.le_refl _))
 cases ha:z.cps.all (·<128)
 ·exact wpAny_pyIter_wide ha (fin _ _ (.wide _ z t) ⟨_,Heap.get?_push_size _ rfl,rfl,rfl⟩)
 ·exact wpAny_pyIter_ascii ha (fin _ _ (.ascii _ z t) ⟨_,Heap.get?_push_size _ rfl,rfl,rfl⟩)
def Cx.blk(X:Cx)(N':List Str)(scope:Scope)(C:Addr)(fp:List Addr)(s:Shared)(H:Hp):Cx :=
 {X with N:=N',s₀:=s,H₀:=H,env:=compEnvC scope (cR X.env scope.names []) C X.env,outer:=X.stack,ex:=fp,fn:=λ_=>false,pn:=[],xe:=λ_ _=>False}
structure bE(N:List Str)(sc scope:Scope)(x:Str)(N':List Str)(fv:List Nat):Prop where
 nocell:∀y∈scope.names,y.2≠.cell
 kind:scope.kind=.function
 names:∀y∈scope.names,y.2=.local->scope.names.lookup y.1=some .local
 loc:scope.names.lookup x=some .local
 free:∀y∈scope.names,y.2=.free->sc.names.lookup y.1=some .cell\/sc.names.lookup y.1=some .free
 nd:N'.Nodup
 hd:N'[0]?=some x
 len:N'.length=fv.length+1
 at_:∀j,j<fv.length->(N'[j+1]?).isSome=true/\N'[j+1]?=(fv[j]?).bind (λi=>N[i]?)/\(N'[j+1]?).bind (λy=>scope.names.lookup y)=some .free
def bH(fv:List Nat)(σ:St):St:=fv.map λk=>(σ[k]?).join
abbrev kM(ifs:List Expr)(env:Env):Sem Bool:=forIn ifs true λc r=>if r=true then do let ok ← isTrue c env (eval c env);pure (ForInStep.yield ok) else pure (ForInStep.yield r)
def PTs(X:Cx)(ifs:List Expr)(t:TT):Prop :=
 ∀(pins:List (Addr×Obj)) (s:Shared) (σ:St) (H:Hp) (Q:Bool->Hp->Prop),Inv X pins σ H s->t σ H Q->wpAny (model X.prog X.w) X.A (kM ifs X.env) (TP X pins σ Q) X.xe s
def u6:TT:=λ_ H Q=>Q true H
theorem eG{X:Cx}:PTs X [] u6:=λpins s σ H Q I h=>wpAny_pure ⟨H,I,h⟩
theorem lD{X:Cx}{c:Expr}{t:TT}(hc:PT X c t):PTs X [c] t:=by
 intro pins s σ H Q I h
 have e:kM [c] X.env=(isTrue c X.env (eval c X.env) >>= λok=>pure ok):=by
  unfold kM
  rw [List.forIn_cons]
  simp
 rw [e]
 exact wpAny_bind (thn (hc pins s σ H Q I h) λb s1 q=>wpAny_pure q)
def tLC(wi:TI)(fv:List Nat)(tt:TT)(te:TE):TE:=fun σ H Q=>wi σ H λJ H1=>∃(W:Nat->List V->Hp->Prop) (n:Nat),W 0 [] H1/\n<=sizeLine/\∀i ys H,W i ys H ->
 (J.stop i H/\∀p,H p=none->Q (.ref p) (upd H p (.lst ys))) \/
 (J.go i H/\i<n/\∀x H',J.yld i H x H'->tt (some x::bH fv σ) H' λc H2=>if c=true then te (some x::bH fv σ) H2 λy H3=>W (i+1) (ys++[y]) H3 else W (i+1) ys H2)
section
variable {X:Cx}{N':List Str}{scope:Scope}{x:Str}{fv:List Nat}
theorem wx{pins:List (Addr×Obj)}{σ:St}{H:Hp}{s:Shared}{fp:List Addr}{C:Addr}{h1:Heap}{m:Str->Option Value}{tk:Nat}{pl:List (Addr×Obj)}(S:bE X.N X.env.scope scope x N' fv)(I:Inv X pins σ H s)
  (hf:∀b∈fp,nU X pins H b)(hfo:∀b∈fp,b<s.heap.objs.size)(hC:s.heap.objs.size<=C)(kp:∀b o,s.heap.get? b=some o->h1.get? b=some o)(hn:h1.Ns C m)
  (hpl:∀p∈pl,h1.get? p.1=some p.2/\s.heap.objs.size<=p.1/\p.1≠C/\∀v,p.2.data≠.cell v) :
  Inv (X.blk N' scope C fp s H) pl (none::bH fv σ) H {s with heap:=h1,toks:=tk}:=by
 have clo:∀y c,(cR X.env scope.names []).lookup y=some c->X.env.cells.lookup y=some c:=λy c e=>cG e
 have cell:∀y c,(cR X.env scope.names []).lookup y=some c->∃v,s.heap.IsCell c v:=λy c e=>I.cell y c (clo y c e)
 have lt:∀y c,(cR X.env scope.names []).lookup y=some c->c<s.heap.objs.size:=λy c e=>by obtain ⟨v,q⟩:=cell y c e;exact q.lt
 have kc:∀c v,s.heap.IsCell c v->h1.IsCell c v:=λc v q=>by obtain ⟨o,e,d⟩:=q;exact ⟨o,kp _ _ e,d⟩
 refine ⟨⟨I.ok.mod,S.kind,I.ok.glob,I.ok.blt,hC,λy z c e1 e2=>I.ok.inj y z c (clo y c e1) (clo z c e2),λy hy=>?_,λy c e=>?_,I.ok.hd,I.ok.frames,.inl rfl,λb hb=>⟨?_,λy c e z=>(hf b hb).2.2.2.2.1 y c (clo y c e) z⟩,λb o e=>I.bs b o e,Nat.le_trans I.ok.bsz I.sz,λb o e hb=>?_,λb hb hb2=>?_,I.stack,I.stkFree⟩,
  rfl,I.bare,Un.kept kp,⟨m,hn,λi y v h1' h2 h3=>?_⟩,λy c e=>?_,I.hok.fresh hC,λy c e=>I.freeC y c (clo y c e),λp hp=>?_,I.hok.kept kp,?_⟩
 ·have hy':∃k,scope.names.lookup y=some k/\k=.free:=by
   rcases hy with hy | hy
   ·obtain ⟨k',e1,e2⟩:=eF (env:=X.env) (names:=scope.names) (x:=y) (k:=.cell) hy
    rcases e2 with e2 | e2
    ·exact absurd e2 (S.nocell _ (PySem.mem_of_lookup e1))
    ·exact ⟨k',e1,e2⟩
   ·obtain ⟨k',e1,e2⟩:=eF (env:=X.env) (names:=scope.names) (x:=y) (k:=.free) hy
    rcases e2 with e2 | e2
    ·exact ⟨k',e1,e2⟩
    ·exact ⟨k',e1,e2⟩
  obtain ⟨k,e,rfl⟩:=hy'
  have hm:=PySem.mem_of_lookup e
  obtain ⟨c,hc⟩:=I.ok.has y (S.free _ hm rfl)
  exact ⟨c,gU hm hc⟩
 ·exact (Bool.false_ne_true (show false=true from e)).elim
 ·exact Nat.ne_of_lt (Nat.lt_of_lt_of_le (hfo b hb) hC)
 ·have e':=e
  rcases (hf b hb).2.2.2.1 with z | z
  ·exact I.ok.noex b o e z
  ·exact absurd (Nat.lt_of_lt_of_le (Heap.lt_size e) (Nat.le_trans I.ok.bsz z)) (Nat.lt_irrefl _)
 ·have q:=I.stkSub b hb2
  rcases List.mem_cons.mp q with z | z
  ·exact (hf b hb).2.1 z
  ·exact (hf b hb).2.2.1 z
 ·cases i with
  | zero =>
   have z:(none:Option V)=some v:=Option.some.inj h2
   cases z
  | succ j =>
   have h2':(bH fv σ)[j]?=some (some v):=h2
   unfold bH at h2'
   rw [List.getElem?_map] at h2'
   cases ej:fv[j]? with
   | none=>rw [ej] at h2';cases h2'
   | some k =>
    rw [ej] at h2'
    have h4:(σ[k]?).join=some v:=Option.some.inj h2'
    have h5:σ[k]?=some (some v):=by
     cases es:σ[k]? with
     | none=>rw [es] at h4;cases h4
     | some w'=>rw [es] at h4;rw [show w'=some v from h4]
    have hj:j<fv.length:=(List.getElem?_eq_some_iff.mp ej).1
    obtain ⟨_,a1,a2⟩:=S.at_ j hj
    have h1'':N'[j+1]?=some y:=h1'
    rw [h1''] at a1 a2
    rw [ej] at a1
    have a3:X.N[k]?=some y:=a1.symm
    have a4:scope.names.lookup y=some .free:=a2
    have hm:=PySem.mem_of_lookup a4
    have kd:X.env.kindOf y=some .cell\/X.env.kindOf y=some .free:=S.free _ hm rfl
    obtain ⟨mX,_,hlX⟩:=I.loc
    obtain ⟨u,ru,lk⟩:=hlX k y v a3 h5 (kd.elim (λz=>.inr (.inl z)) λz=>.inr (.inr z))
    refine ⟨u,ru,.inr ?_⟩
    rcases lk with ⟨z,_⟩ | ⟨_,c,hc,hcell⟩
    ·rcases kd with z' | z'<;>rw [z'] at z<;>cases z
    ·exact ⟨eU (env:=X.env) a4,c,gU hm hc,kc _ _ hcell⟩
 ·obtain ⟨v,q⟩:=cell y c e
  exact ⟨v,kc _ _ q⟩
 ·have hp':p∈pl:=hp
  obtain ⟨e,l1,l2,d⟩:=hpl p hp'
  exact ⟨e,I.hok.fresh l1,l2,λz=>absurd (I.stkSub _ z) (λq=>by
   rcases List.mem_cons.mp q with q | q
   ·exact absurd I.lt (by rw [← q];exact Nat.not_lt.mpr l1)
   ·exact I.nofs l1 q),d⟩
 ·show (none::bH fv σ).length=N'.length
  rw [S.len]
  unfold bH
  simp
end
end L2
namespace L2
open PySem PySem.Spec PyProof.Rows
theorem nox{α:Type}{t:Sem α}{Q Q':α->Shared->Prop}{M:Model}{A:Around}{E:Value->Shared->Prop}{s:Shared}(h:wpAny M A t Q (λ_ _=>False) s)(hQ:∀a s,Q a s->Q' a s):wpAny M A t Q' E s:=wpAny_mono h hQ λ_ _ f=>f.elim
set_option maxHeartbeats 1600000 in
theorem gk{X:Cx}{elt iter:Expr}{x:Str}{px:Pos}{ifs:List Expr}{scope:Scope}{pos:Pos}{N':List Str}{fv:List Nat}{wi:TI}{tt:TT}{te:TE}
  (S:bE X.N X.env.scope scope x N' fv)(hc:X.calm=true)(hi:PI X (.Name x px) iter wi)
  (ht:∀C fp s H,PTs (X.blk N' scope C fp s H) ifs tt)(he:∀C fp s H,PE (X.blk N' scope C fp s H) elt te)
  (hs:∀x,foldedSetIterable iter X.env x=pure x:=by intro _;rfl) :
  PE X (.ListComp elt [⟨.Name x px,iter,ifs,0⟩] scope pos) (tLC wi fv tt te):=by
 intro pins s σ H Q I h
 rw [eval_ListComp]
 refine wpAny_comprehension_free (use:=none) rfl hs (iN λy hy hk=>I.ok.has y.1 (S.free y hy hk)) S.kind S.names
  (wpAny_mono (hi pins s σ H _ I h) (λxv s1 h1=>wpAny_mono h1 (λitv s2 h2=>?_) λ_ _ e=>e) λ_ _ e=>e)
 obtain ⟨it,fp,tn,J,H2,rfl,I2,T,st2,f2,W,n,w0,hn,turn⟩:=h2
 refine wpAny_newObj_type (wpAny_newFunctionEnv S.nocell (by intro y hy;simp at hy) (λh1 hns hsb=>?_) S.kind)
 dsimp only at hns hsb ⊢
 generalize hH:s2.heap.push {cls:=.type "list",dict:=none,data:=.seq ([]:List Value).toArray}=G at hns hsb ⊢
 have hG:G.objs.size=s2.heap.objs.size+1:=by rw [← hH,Heap.size_push]
 have kpG:∀b o,s2.heap.get? b=some o->G.get? b=some o:=λb o e=>hH▸Heap.get?_push_of_some _ e
 have kp1:∀b o,b<G.objs.size->G.get? b=some o->h1.get? b=some o:=λb o lt e=>hsb.extBut b o (Nat.ne_of_lt lt) (Heap.get?_push_of_some _ e)
 have kp:∀b o,s2.heap.get? b=some o->h1.get? b=some o:=λb o e=>kp1 b o (by rw [hG];exact Nat.lt_succ_of_lt (Heap.lt_size e)) (kpG b o e)
 have hD:h1.PlainList s2.heap.objs.size #[]:=⟨_,kp1 _ _ (by rw [hG];exact Nat.lt_succ_self _) (hH▸Heap.get?_push_size _ rfl)⟩
 have hDC:s2.heap.objs.size≠G.objs.size:=by rw [hG];exact Nat.ne_of_lt (Nat.lt_succ_self _)
 have hC:s2.heap.objs.size<=G.objs.size:=by rw [hG];exact Nat.le_succ _
 have hfo:∀b∈fp,b<s2.heap.objs.size:=λb hb=>by obtain ⟨o,e,_⟩:=T.obj 0 _ st2 b hb;exact Heap.lt_size e
 have stat:∀{H':Hp} {pl:List (Addr×Obj)},(∀b∈fp,H' b=none)->(∀p∈pl,p.1∉fp)->∀b∈fp,nU (X.blk N' scope G.objs.size fp s2 H2) pl H' b:=λ{H' pl} hn hpl b hb=>by
  obtain ⟨_,g1,g2,g3,g4,g5⟩:=f2 b hb
  refine ⟨hn b hb,Nat.ne_of_lt (Nat.lt_of_lt_of_le (hfo b hb) hC),λz=>?_,.inl hb,λy c e=>g4 y c (cG e),λp hp e=>?_⟩
  ·rcases List.mem_cons.mp (I2.stkSub b z) with q | q
   ·exact g1 q
   ·exact g2 q
  ·exact hpl p hp (e▸hb)
 have hDf:s2.heap.objs.size∉fp:=λz=>absurd (hfo _ z) (Nat.lt_irrefl _)
 have hlc:(X.blk N' scope G.objs.size fp s2 H2).env.scope.names.lookup x=some .local:=lookup_relabel_local S.loc
 have hcl:∀y c,(X.blk N' scope G.objs.size fp s2 H2).env.cells.lookup y=some c->c≠s2.heap.objs.size:=λy c e z=>by
  obtain ⟨v,q⟩:=I2.cell y c (cG e)
  exact absurd q.lt (by rw [z];exact Nat.lt_irrefl _)
 have pin1:∀{s':Shared} {H':Hp} {ob:Obj} {i:Nat} {ys:List V},Inv (X.blk N' scope G.objs.size fp s2 H2) [] (none::bH fv σ) H' s'->s'.heap.get? s2.heap.objs.size=some ob->(∀v,ob.data≠.cell v)->H' s2.heap.objs.size=none ->
   Inv (X.blk N' scope G.objs.size fp s2 H2) [(s2.heap.objs.size,ob)] (none::bH fv σ) H' s':=λ{s' H' ob i ys} J1 e d f=>J1.pins_of λp hp=>by
  have z:p=(s2.heap.objs.size,ob):=by simpa using hp
  subst z
  refine ⟨e,f,hDC,λz=>?_,d⟩
  rcases List.mem_cons.mp (I2.stkSub _ z) with q | q
  ·exact absurd I2.lt (by rw [← q];exact Nat.lt_irrefl _)
  ·exact I2.nofs (Nat.le_refl _) q
 have loop:∀s3:Shared,s3={s2 with heap:=h1,toks:=s2.toks+([]:List (Str×Value)).length} ->
   codeAny (model X.prog X.w) X.A (.compLoop (.ListComp elt [⟨.Name x px,iter,ifs,0⟩] scope pos) 0 (.ref it) (.ref s2.heap.objs.size) (X.blk N' scope G.objs.size fp s2 H2).env)
    (compPost (model X.prog X.w) X.A X.xe none (EP X pins σ Q) (.ref s2.heap.objs.size) G.objs.size) s3:=by
  rintro s3 rfl
  refine codeAny_compLoop_tests (λk s'=>∃i ys H' its,k=n+1-i/\i<=n/\ys.length<=i/\Vals ys its/\s'.heap.PlainList s2.heap.objs.size its.toArray /\
   Inv (X.blk N' scope G.objs.size fp s2 H2) [] (none::bH fv σ) H' s'/\H' s2.heap.objs.size=none/\tn i s'.heap/\(∀b∈fp,H' b=none)/\W i ys H') ?_ (n+1)
   ⟨0,[],H2,[],rfl,Nat.zero_le _,Nat.le_refl _,.nil,hD,wx S I2 f2 hfo hC kp hns (λp hp=>nomatch hp),I2.hok.fresh (Nat.le_refl _),T.keep _ _ _ st2 λb _ o e=>kp b o e,λb hb=>(f2 b hb).1,w0⟩
  rintro k s4 ⟨i,ys,H4,its,rfl,hin,hyi,rv,pl4,I4,fD4,st4,ff4,w4⟩
  obtain ⟨cnt,eD⟩:=id pl4
  have I4p:=pin1 (i:=i) (ys:=ys) I4 eD (λv z=>by cases z) fD4
  have np:∀p∈[(s2.heap.objs.size,({cls:=.type "list",data:=.seq its.toArray cnt}:Obj))],p.1∉fp:=λp hp=>by
   have z:p=(s2.heap.objs.size,({cls:=.type "list",data:=.seq its.toArray cnt}:Obj)):=by simpa using hp
   subst z;exact hDf
  rcases turn i ys H4 w4 with ⟨stop,fin⟩ | ⟨go,hi2,step⟩
  ·refine wpAny_mono (T.done (X.blk N' scope G.objs.size fp s2 H2) rfl rfl rfl hc i _ s4 _ H4 _ I4p (stat ff4 np) st4 stop) (λr s5 ⟨hr,I5⟩=>?_) λ_ _ e=>e
   subst hr
   obtain ⟨m5,hm5,_⟩:=I5.loc
   have eD5:s5.heap.get? s2.heap.objs.size=some {cls:=.type "list",data:=.seq its.toArray cnt}:=(I5.pin _ (List.mem_append_right _ List.mem_cons_self)).1
   refine ⟨m5,hm5,λh' sb=>⟨.ref s2.heap.objs.size,upd H4 s2.heap.objs.size (.lst ys),?_,rfl,fin _ fD4⟩⟩
   have ltC:∀{b:Addr} {o:Obj},s2.heap.get? b=some o->b≠G.objs.size:=λ{b o} e=>Nat.ne_of_lt (Nat.lt_of_lt_of_le (Heap.lt_size e) hC)
   have fD2:H2 s2.heap.objs.size=none:=I2.hok.fresh (Nat.le_refl _)
   have ltD:∀{b:Addr} {o:Obj},s2.heap.get? b=some o->b≠s2.heap.objs.size:=λ{b o} e=>Nat.ne_of_lt (Heap.lt_size e)
   have B:=I5.base
   refine I2.call' (s':={s5 with heap:=h'}) (ch:=fp) I5.os ⟨λb o e nb hb hx=>?_,λb o e nb hb hx=>?_,λb o e nb hx=>?_,λb o e hx=>?_,λb xs e=>?_,λb o u e=>?_,λb ps e=>?_⟩ ?_ I5.bare λb hb=>?_
   ·exact sb.extBut b o (ltC e) (B.keep b o e nb hb hx)
   ·obtain ⟨sl,q⟩:=B.slot b o e nb hb hx
    exact ⟨sl,sb.extBut b _ (ltC e) q⟩
   ·rw [aq (ltD e)];exact B.free b o e nb hx
   ·obtain ⟨o',q⟩:=B.there b o e hx
    exact ⟨o',sb.extBut b o' (ltC e) q⟩
   ·have e':H2 b=some (.tup xs):=e
    rw [aq (ah e' fD2)];exact B.tups b xs e
   ·have e':H2 b=some (.frz o u):=e
    rw [aq (ah e' fD2)];exact B.frzs b o u e
   ·have e':H2 b=some (.tbl ps):=e
    rw [aq (ah e' fD2)];exact B.tbls b ps e
   ·intro b u e
    by_cases hb:b=s2.heap.objs.size
    ·subst hb
     rw [ae] at e
     cases e
     exact ⟨Nat.le_trans hyi (Nat.le_trans hin hn),its,cnt,rv,sb.extBut _ _ hDC eD5⟩
    ·rw [aq hb] at e
     have fC:H4 G.objs.size=none:=I5.free
     refine (I5.hok b u e).stay (λc v hc' q=>sb.extBut c v ?_ q) (λc q=>by rw [aq (ah q fD4)];exact q) λc xs q=>by rw [aq (ah q fD4)];exact q
     rcases hc' with z | z
     ·subst z;exact ah e fC
     ·exact ah z fC
   ·obtain ⟨_,g1,g2,g3,g4,g5⟩:=f2 b hb
    exact ⟨g3,g1,g4,g5⟩
  ·refine wpAny_mono (T.item (X.blk N' scope G.objs.size fp s2 H2) rfl rfl rfl hc i _ s4 _ H4 _ I4p (stat ff4 np) st4 go) (λr s5 ⟨u,hr,h5⟩=>?_) λ_ _ e=>e
   subst hr
   show wpAny _ _ (letOwnedTupleGo (.Name x px) (.ref it) u >>= λ_=>assign (.Name x px) (X.blk N' scope G.objs.size fp s2 H2).env u) _ _ s5
   refine wpAny_bind (wpAny_mono h5 (λ_ s6 ⟨xv,H6,I6,r6,y6,st6,ff6⟩=>?_) λ_ _ e=>e)
   have I6':=I6.pinned (stat ff6 np) (T.obj _ _ st6)
   have out:∀{σ':St} {H':Hp} {s':Shared},Inv (X.blk N' scope G.objs.size fp s2 H2) ([(s2.heap.objs.size,({cls:=.type "list",data:=.seq its.toArray cnt}:Obj))]++jh fp s6.heap) σ' H' s' ->
     s'.heap.PlainList s2.heap.objs.size its.toArray/\H' s2.heap.objs.size=none/\(∀b∈fp,H' b=none)/\(∀b∈fp,∀o,s6.heap.get? b=some o->s'.heap.get? b=some o):=λ{σ' H' s'} J1=>by
    have q:=J1.pin (s2.heap.objs.size,({cls:=.type "list",data:=.seq its.toArray cnt}:Obj)) (List.mem_append_right _ (List.mem_append_left _ List.mem_cons_self))
    refine ⟨⟨cnt,q.1⟩,q.2.1,λb hb=>?_,λb hb o e=>(J1.pin (b,o) (List.mem_append_right _ (List.mem_append_right _ (eL hb e)))).1⟩
    obtain ⟨o,e,d⟩:=T.obj _ _ st6 b hb
    exact (J1.pin (b,o) (List.mem_append_right _ (List.mem_append_right _ (eL hb e)))).2.1
   refine nox ((bc (X:=X.blk N' scope G.objs.size fp s2 H2) (i:=0) S.nd S.hd (.inl hlc) (.inr hlc)) _ s6 _ H6 xv u (fun σ' H'=>σ'=some xv::bH fv σ/\H'=H6) I6' r6 ⟨rfl,rfl⟩) λ_ s7 ⟨σ7,H7,I7,e7,e7'⟩=>?_
   subst e7 e7'
   refine nox (ht _ _ _ _ _ s7 _ H7 _ I7 (step xv H7 y6)) λok s8 ⟨H8,I8,q8⟩=>?_
   cases ok with
   | false =>
    obtain ⟨o1,o2,o3,o4⟩:=out I8
    exact ⟨n+1-(i+1),by omega,i+1,ys,H8,its,rfl,hi2,Nat.le_succ_of_le hyi,rv,o1,(I8.pins_of (pins':=[]) λp hp=>nomatch hp).weak (σ':=none::bH fv σ) rfl (λj v e=>by
     cases j with
     | zero=>cases (show (none:Option V)=some v from Option.some.inj e)
     | succ j=>exact e),o2,T.keep _ _ _ st6 o4,o3,q8⟩
   | true =>
    refine nox (he _ _ _ _ _ s8 _ H8 _ I8 q8) λyv s9 ⟨y,H9,I9,r9,q9⟩=>?_
    obtain ⟨o1,o2,o3,o4⟩:=out I9
    have hlen:=rv.length
    refine wpAny_list_append_plain (hsz:=by rw [List.size_toArray,← hlen];exact Nat.le_trans hyi (Nat.le_trans hin hn)) o1 λh' pl' sb'=>?_
    have I9':Inv (X.blk N' scope G.objs.size fp s2 H2) [] (some xv::bH fv σ) H9 {s9 with heap:=h'} :=
     (I9.pins_of (pins':=[]) λp hp=>nomatch hp).turned (t':=s9.toks) (it:=s2.heap.objs.size) (λb o hb e=>sb'.extBut b o hb e) o2 hDC (.inr (Nat.le_refl _)) hcl (λp hp=>nomatch hp)
    refine ⟨n+1-(i+1),by omega,i+1,ys++[y],H9,its++[yv],rfl,hi2,by rw [List.length_append];exact Nat.succ_le_succ hyi,rv.append (.cons r9 .nil),?_,I9'.weak (σ':=none::bH fv σ) rfl (λj v e=>by
     cases j with
     | zero=>cases (show (none:Option V)=some v from Option.some.inj e)
     | succ j=>exact e),o2,T.keep _ _ _ st6 λb hb o e=>sb'.extBut b o (λz=>hDf (z▸hb)) (o4 b hb o e),o3,q9⟩
    have e9:(its++[yv]).toArray=its.toArray.push yv:=by simp
    rw [e9]
    exact pl'
 exact codeAny_compStart_list (loop _ rfl) (T.self _ 0 _ _ _ (T.keep _ _ _ st2 λb _ o e=>kp b o e) (loop _ rfl))
end L2
namespace L2
open PySem PySem.Spec PyProof.Rows
theorem oh{ys:List Str}:∀{us:List Value},Vals (ys.map V.str) us->StrsAre us ys:=by
 induction ys with
 | nil=>intro us r;rw [List.map_nil] at r;cases r;exact .nil
 | cons y ys ih =>
  intro us r
  rw [List.map_cons] at r
  cases r with
  | cons r1 r2 =>
   obtain ⟨t,e⟩:=r1
   subst e
   exact .cons y t (ih r2)
theorem pU{X:Cx}:MtR X "str.join" (λx vs H Q=>∃(sep:Str) (p:Addr) (ys:List Str),x=.str sep/\vs=[.ref p]/\SqL X.K H p (ys.map V.str)/\(ys.map (·.length)).sum+ys.length*sep.length<=16777216/\Q (.str (Str.join sep ys)) H):=by
 intro pins s σ H x xs v us Q I rx r h
 obtain ⟨sep,p,ys,rfl,rfl,hq,hok,q⟩:=h
 obtain ⟨t,rfl⟩:=rx
 obtain ⟨u,rfl,rp⟩:=cp r
 cases (show u=Value.ref p from rp)
 obtain ⟨its,rv,pl,hz⟩:=I.list hq
 refine join_list pl.isList (by simpa using oh rv) hok λt' k=>⟨.str _,H,I.tok _,⟨_,rfl⟩,?_⟩
 rw [eq_of_beq (join_closes (sep:=sep) (sep':=sep) (ys:=ys) rfl)]
 exact q
end L2
namespace L2
open PySem PySem.Spec PyProof.Rows
end L2
namespace L2
open PySem PySem.Spec PyProof.Rows
open Builtin Builtin.Str
theorem ki(c:Nat):∀ys:List Str,ys.length<=(Str.join ⟨#[c]⟩ ys).length+1
 | []=>Nat.zero_le _
 | [y]=>by simp
 | y::u::ys=>by
  have ih:=ki c (u::ys)
  rw [join_cons_cons]
  have e:(y++(⟨#[c]⟩:Str)++Str.join ⟨#[c]⟩ (u::ys)).length=y.length+1+(Str.join ⟨#[c]⟩ (u::ys)).length:=by
   show ((y.cps++#[c])++(Str.join ⟨#[c]⟩ (u::ys)).cps).size=_
   rw [Array.size_append,Array.size_append]
   rfl
  rw [e,List.length_cons]
  omega
theorem gZ:∀(l:List (Str×Tok)),Vals ((l.map (·.1)).map V.str) (strValues l)
 | []=>.nil
 | p::l=>.cons ⟨p.2,rfl⟩ (gZ l)
section
variable {X:Cx}
theorem qO:MtR X "str.split" (λx vs H Q=>∃(z:Str) (c:Nat),x=.str z/\vs=[.str ⟨#[c]⟩]/\z.length<=1000000/\∀p,H p=none->Q (.ref p) (upd H p (.lst ((Txt.split z ⟨#[c]⟩).map V.str)))):=by
 intro pins s σ H x xs v us Q I rx r h
 obtain ⟨z,c,rfl,rfl,hz,q⟩:=h
 obtain ⟨t,rfl⟩:=rx
 obtain ⟨u,rfl,⟨t1,rfl⟩⟩:=cp r
 have hs:(1000002:Nat)<=sizeLine:=by decide
 have many:(Txt.split z ⟨#[c]⟩).length<=sizeLine:=by
  have:=ki c (Txt.split z ⟨#[c]⟩)
  rw [StrLaws.join_split] at this
  omega
 have fin:∀(l:List (Str×Tok)) (k:Nat),l.map (·.1)=Txt.split z ⟨#[c]⟩->EP X pins σ Q (.ref s.heap.objs.size) {s with toks:=k,heap:=s.heap.push {cls:=.type "list",data:=.seq (strValues l).toArray}}:=λl k el =>
  ⟨.ref s.heap.objs.size,_,I.laid (t':=k) (o:=.lst ((Txt.split z ⟨#[c]⟩).map V.str)) (λb o e=>Heap.get?_push_of_some _ e) (Nat.le_refl _)
   (show ObjOk X.prog X.w _ _ _ (.lst ((Txt.split z ⟨#[c]⟩).map V.str)) from ⟨by rw [List.length_map];exact many,strValues l,0,el▸gZ l,Heap.get?_push_size _ rfl⟩),rfl,q _ (I.hok.fresh (Nat.le_refl _))⟩
 have hy:((⟨#[c]⟩:Str).length==0)=false:=rfl
 cases h1:(decide (z.length<(⟨#[c]⟩:Str).length)||decide (strKind z<strKind ⟨#[c]⟩)) with
 | true =>
  have es:Txt.split z ⟨#[c]⟩=[z]:=by unfold Txt.split;rw [if_pos h1]
  exact call_meets F.slot_str_split (typeIs_str _ _ _) F.entry_str_split (F.args_str_split_2 _ _) (meets_str_split_cannot_occur z ⟨#[c]⟩ t t1 h1) (fin [(z,t)] s.toks es.symm)
 | false =>
  cases hf:(occurrences z ⟨#[c]⟩ 0 z.length (z.length+1)).isEmpty with
  | true =>
   have es:Txt.split z ⟨#[c]⟩=[z]:=by unfold Txt.split;rw [if_neg (by rw [h1];decide),if_pos hf]
   exact call_meets F.slot_str_split (typeIs_str _ _ _) F.entry_str_split (F.args_str_split_2 _ _) (meets_str_split_not_found z ⟨#[c]⟩ t t1 h1 hy hf) (fin [(z,t)] s.toks es.symm)
  | false =>
   have es:Txt.split z ⟨#[c]⟩=partsBetween z (occurrences z ⟨#[c]⟩ 0 z.length (z.length+1)) (⟨#[c]⟩:Str).length:=by unfold Txt.split;rw [if_neg (by rw [h1];decide),if_neg (by rw [hf];decide)]
   refine call_meets F.slot_str_split (typeIs_str _ _ _) F.entry_str_split (F.args_str_split_2 _ _) (meets_str_split_sep z ⟨#[c]⟩ t t1 h1 hy hf (by omega) (by rw [← es];exact many)) ?_
   rw [strsFrom_eq]
   exact fin _ _ ((numbered_texts _ _).trans es.symm)
theorem vt{body:List Stmt}{h₀:ExceptHandler}{hs:List ExceptHandler}{pos:Pos}{t:TS}(hb:PSs X.nox body t):PS X (.Try body (h₀::hs) [] [] pos) t:=by
 intro pins s σ H D I h
 refine wpAny_Try_except (wpAny_mono (hb pins s σ H D (I.wish _) h) (λf s1 q=>?_) λ_ _ e=>e.elim)
 cases f with
 | next=>exact wpAny_execs_nil (SP.unwish (f:=.next) q)
 | brk=>exact SP.unwish (f:=.brk) q
 | cont=>exact SP.unwish (f:=.cont) q
 | ret v=>exact SP.unwish (f:=.ret v) q
end
end L2
namespace L2
open PySem PySem.Spec PyProof.Rows
end L2
namespace L2
open PySem PySem.Spec PyProof.Rows
end L2
namespace L2
open PySem PySem.Spec PyProof.Rows
def Cov(l:List Env)(h0:Heap)(H:Hp)(B h:Heap):Prop:=∀b o,h.get? b=some o->b∉frs l->(H b≠none\/∃o0,h0.get? b=some o0)->B.get? b=some o
def Fly(l:List Env)(h0:Heap)(H:Hp)(ea C:Addr)(h:Heap):Prop:=∃B a0,Heap.FlyingW B l ea (.ref C) a0 h/\Cov l h0 H B h
def CXE(P:Program)(w:World):CXT:=λouter H s E e s'=>∃ea C H',e=.ref ea/\s'.os=s.os/\AllBare s'.gens/\Un (frs outer) [] H H' s.heap s'.heap/\HOk P w H' s'.heap/\Fly outer s.heap H' ea C s'.heap/\E e (some C) H'
theorem ObjOk.there{P:Program}{w:World}{H:Hp}{h:Heap}{a:Addr}{o:HO}(x:ObjOk P w H h a o):∃ob,h.get? a=some ob:=by
 cases o with
 | lst xs=>obtain ⟨_,_,_,_,e⟩:=x;exact ⟨_,e⟩
 | tup xs=>obtain ⟨_,_,_,o,e,_⟩:=x;exact ⟨_,e⟩
 | dK kvs=>obtain ⟨_,_,_,_,o,_,_,e,_⟩:=x;exact ⟨_,e⟩
 | dT kvs=>obtain ⟨_,_,_,_,o,_,_,e,_⟩:=x;exact ⟨_,e⟩
 | set S n=>obtain ⟨o,_,_,_,e,_⟩:=x;exact ⟨_,e⟩
 | ins C dx fs=>obtain ⟨_,_,_,e,_⟩:=x;exact ⟨_,e⟩
 | own y=>obtain ⟨_,e⟩:=x;exact ⟨_,e⟩
 | xd fs=>obtain ⟨_,⟨_,_,_,e,_⟩,_⟩:=x;exact ⟨_,e⟩
 | rng lo hi=>obtain ⟨_,_,_,e⟩:=x;exact ⟨_,e⟩
 | frz ob u=>obtain ⟨e,_⟩:=x;exact ⟨_,e⟩
 | tbl ps=>exact ⟨_,(show h.get? a=some _ from x)⟩
 | met f y=>exact ⟨_,(show h.get? a=some _ from x)⟩
 | ext φ=>obtain ⟨_,⟨_,e⟩,_⟩:=x;exact ⟨_,e⟩
section
variable {l:List Env}{H:Hp}{B h h' hc:Heap}{P:Program}{w:World}
theorem Cov.stay(c:Cov l hc H B h)(st:B.StaysIn h'):∀b o,h.get? b=some o->b∉frs l->(H b≠none\/∃o0,hc.get? b=some o0)->h'.get? b=some o:=λb o e nb hb=>st b o (c b o e nb hb)
theorem HOk.moved(x:HOk P w H h)(c:Cov l hc H B h)(st:B.StaysIn h')(fr:∀b∈frs l,H b=none):HOk P w H h':=λa o e=>by
 refine (x a o e).stay (λb u hb q=>?_) (λb q=>q) λb xs q=>q
 have tr:H b≠none:=by
  rcases hb with rfl | hb
  ·rw [e];intro z;cases z
  ·rw [hb];intro z;cases z
 exact c.stay st b u q (λz=>tr (fr b z)) (.inl tr)
theorem Un.moved{fs:List Addr}{H0:Hp}{h0:Heap}(u:Un fs [] H0 H h0 h)(c:Cov l hc H B h)(st:B.StaysIn h')(sm:h.UpToSlots h')(ff:h.FunFrames B l)(hn:∀b o,h0.get? b=some o->∃o',hc.get? b=some o')
  (hf:∀b∈fs,b∈frs l)(hl:∀b o,h0.get? b=some o->b∈frs l->b∈fs):Un fs [] H0 H h0 h':=by
 have kp:∀b o0 o,h0.get? b=some o0->b∉fs->h.get? b=some o->h'.get? b=some o:=λb o0 o e0 nb e=>c.stay st b o e (λz=>nb (hl b o0 e0 z)) (.inr (hn b o0 e0))
 have sl:∀b o,b∈fs->h.get? b=some o->∃sl,h'.get? b=some {o with slots:=sl}:=λb o hb e=>by
  obtain ⟨_,o',e',d⟩:=ff.mem (show b∈l.filterMap (·.frame) from hf b hb)
  rw [e] at e'
  cases e'
  exact sm b o e d
 refine ⟨λb o e z nb hx=>kp b o o e nb (u.keep b o e z nb hx),λb o e z hb hx=>?_,u.free,λb o e hx=>?_,u.tups,u.frzs,u.tbls⟩
 ·obtain ⟨s1,q⟩:=u.slot b o e z hb hx
  obtain ⟨s2,q2⟩:=sl b _ hb q
  exact ⟨s2,q2⟩
 ·obtain ⟨o1,q⟩:=u.there b o e hx
  by_cases hb:b∈fs
  ·obtain ⟨s2,q2⟩:=sl b _ hb q
   exact ⟨_,q2⟩
  ·exact ⟨o1,kp b o o1 e hb q⟩
theorem Cov.moved{h0:Heap}{l':List Env}{fs:List Addr}{H0:Hp}(c:Cov l hc H B h)(st:B.StaysIn h')(x:HOk P w H h)(u:Un fs [] H0 H h0 h)(hn:∀b o,h0.get? b=some o->∃o',hc.get? b=some o')
  (hl:∀b,b∉frs l'->(H b≠none\/∃o0,h0.get? b=some o0)->b∉frs l):Cov l' h0 H B h':=λb o e nb hb=>by
 have nl:=hl b nb hb
 have hb':H b≠none\/∃o0,hc.get? b=some o0:=hb.imp id λ⟨o0,z⟩=>hn b o0 z
 have ex:∃o1,h.get? b=some o1:=by
  rcases hb with z | ⟨o0,z⟩
  ·cases q:H b with
   | none=>exact absurd q z
   | some u1=>exact (x b u1 q).there
  ·exact u.there b o0 z (by simp)
 obtain ⟨o1,q⟩:=ex
 have q2:=c b o1 q nl hb'
 have q3:=st b o1 q2
 rw [e] at q3
 cases q3
 exact q2
end
structure Cx.Def(X:Cx)(E:XK):Prop where
 stk:X.stack=X.env::X.outer
 fr:X.env.frame=some X.env.locals
 ex:X.ex=[]
 xe:X.xe=λe s'=>wpAny (model X.prog X.w) X.A (leaving X.env e) (λ_ s''=>CXE X.prog X.w X.outer X.H₀ X.s₀ E e s'') (λe' s''=>CXE X.prog X.w X.outer X.H₀ X.s₀ E e' s'') s'
section
variable {X:Cx}{E:XK}{pins:List (Addr×Obj)}{σ:St}{H H':Hp}{s s':Shared}
theorem jB(D:X.stack=X.env::X.outer)(fr:X.env.frame=some X.env.locals):frs X.stack=X.env.locals::frs X.outer:=by
 rw [D]
 show List.filterMap _ (X.env::X.outer)=_
 rw [List.filterMap_cons,fr]
 rfl
theorem Inv.leaves{B h2 hc:Heap}{ea C:Addr}{a0:Value}(D:X.Def E)(I:Inv X pins σ H s)(c:Cov X.stack hc H B s.heap)(hc0:∀b o,X.s₀.heap.get? b=some o->∃o',hc.get? b=some o')(ff:s.heap.FunFrames B X.stack)
  (fl:Heap.FlyingW B X.outer ea (.ref C) a0 h2)(sm:s.heap.UpToSlots h2)(q:E (.ref ea) (some C) H):CXE X.prog X.w X.outer X.H₀ X.s₀ E (.ref ea) {s with heap:=h2}:=by
 have st:=fl.1
 have fc:=jB D.stk D.fr
 have b0:Un X.fs [] X.H₀ H X.s₀.heap s.heap:=by have:=I.base;rw [D.ex] at this;exact this
 have nL:∀b o,X.s₀.heap.get? b=some o->b≠X.env.locals:=λb o e z=>absurd (Heap.lt_size e) (by rw [z];exact Nat.not_lt.mpr I.ok.above)
 refine ⟨ea,C,H,rfl,I.os,I.bare,b0.moved c st sm ff hc0 (λb hb=>by rw [fc];exact List.mem_cons_of_mem _ hb) (λb o e hb=>?_),I.hok.moved c st I.stkFree,⟨B,a0,fl,c.moved st I.hok b0 hc0 λb nb hb=>?_⟩,q⟩
 ·rw [fc] at hb
  rcases List.mem_cons.mp hb with z | z
  ·exact absurd z (nL b o e)
  ·exact z
 ·rw [fc]
  intro z
  rcases List.mem_cons.mp z with z | z
  ·subst z
   rcases hb with y | ⟨o0,y⟩
   ·exact y I.free
   ·exact nL _ o0 y rfl
  ·exact nb z
theorem Inv.came{e:Value}{E':XK}(I:Inv X pins σ H s)(h:CXE X.prog X.w X.stack H s E' e s'):∃ea C H',e=.ref ea/\Inv X pins σ H' s'/\Fly X.stack s.heap H' ea C s'.heap/\E' e (some C) H':=by
 obtain ⟨ea,C,H',rfl,os,bare,un,hok,fl,q⟩:=h
 obtain ⟨hh,g,d,t,os'⟩:=s'
 obtain rfl:os'=s.os:=os
 exact ⟨ea,C,H',rfl,I.call (h':=hh) (g':=g) (d':=d) (t':=t) (ch:=[]) un hok bare (λb z=>absurd z (by simp)),fl,q⟩
theorem xB(D:X.Def E){h1:Heap}{ea C:Addr}{vs:List Value}(I:Inv X pins σ H s)(hx:Heap.MadeExcOf s.heap h1 ea (.ref C) vs)(q:E (.ref ea) (some C) H):X.xe (.ref ea) {s with heap:=h1}:=by
 rw [D.xe]
 have hfr:X.A.frames=some (X.env::X.outer):=by rw [I.ok.frames,D.stk]
 have ff:s.heap.FunFrames (PySem.W.hideAll s.heap (frs X.stack)) (X.env::X.outer):=by
  have:=I.stack
  rw [D.stk] at this ⊢
  exact PySem.W.funFrames_hide this λenv he b hb=>List.mem_filterMap.mpr ⟨env,he,hb⟩
 refine wpAny_leaves_madeW (s:={s with heap:=h1}) hfr D.fr (λb o e=>PySem.W.of_hideAll _ e) ff hx λh2 t fl _ _ sm=>?_
 have c:Cov X.stack s.heap H (PySem.W.hideAll s.heap (frs X.stack)) s.heap:=λb o e nb _=>PySem.W.hideAll_get _ e nb
 have sub:∀b o,X.s₀.heap.get? b=some o->∃o',s.heap.get? b=some o':=λb o e=>I.base.there b o e (by rw [D.ex];simp)
 have ff':s.heap.FunFrames (PySem.W.hideAll s.heap (frs X.stack)) X.stack:=by rw [D.stk] at ff ⊢;exact ff
 exact I.leaves (s:=s) D c sub ff' fl ((Heap.UpToSlots.of_keeps hx.keeps).trans sm) q
end
theorem yF{P:Program}{w:World}{K:PySem.W.Frag}{mg:Str->Option Value}{base:Heap}{N:List Str}{qual:Str}{scope:Scope}{f:Addr}{cd:Value}{A:Around}{outer:List Env}{s:Shared}{H:Hp}{E:XK} :
  (nD (CXE P w) P w K mg base N qual scope f cd A outer s H E).Def E:=⟨rfl,rfl,rfl,rfl⟩
section
variable {P:Program}{w:World}{K:PySem.W.Frag}{mg:Str->Option Value}{base:Heap}
theorem Fun.okE{x qual:Str}{st:Stmt}{f:Addr}{fd:FuncData}{N ps:List Str}{k:Nat}{sp:Sp}(F:Fun K x qual st f fd)(S:al N ps (defScope st))(len:∀vs H Q E,sp vs H Q E->vs.length=ps.length)
  (hbody:∀(cdv:Value) (A:Around) (outer:List Env) (s:Shared) (H:Hp) (vs:List V) (Q:VK) (E:XK),Room k (A.deeper (envOfC qual (defScope st) s.heap.objs.size f cdv))->sp vs H Q E ->
   ∃t,PSs (nD (CXE P w) P w K mg base N qual (defScope st) f cdv A outer s H E) (defBody st) t/\t {nx:=λ_ H'=>Q .non H',rt:=Q} (start N vs) H):FnOk P w K mg base (CXE P w) (k+1) f fd ps sp:=by
 obtain ⟨oc,od,kV,doc,pm,an,cdv,ct,osl,rfl,lk,hcd⟩:=F.ex
 exact w6 lk hcd S len λA outer s H vs Q E hr hsp=>hbody cdv A outer s H vs Q E hr hsp
end
end L2
namespace L2
open PySem PySem.Spec PyProof.Rows
theorem oJ{K:PySem.W.Frag}{h:Heap}{mg:Str->Option Value}{x:Str}{C:Addr}{bm:List Value}{new:String}(kin:K.In h)(hm:mg x=some (.ref C))(q:PySem.W.excIn K C bm new=true):OwnCls x C bm new mg h:=by
 have key:∀o,K.lookup C=some o->∃tl N nm qn bs hdct sn sub ab col dd k0 k1 k2 k3 k5 mN,h.get? C=some (excClassObj nm qn C N bs tl hdct sn sub ab col dd k0 k1 k2 k3 k5 new)/\h.Ns N mN/\mN "__init__"=none/\OwnTail h bm tl:=λo lk=>by
  unfold PySem.W.excIn at q
  rw [lk] at q
  obtain ⟨oc,od,odt,osl⟩:=o
  split at q
  ·rename_i dd cd sl e0
   cases (Option.some.inj e0)
   obtain ⟨nm,bs,mro,ns,qn,hd,sn,sub,ab,col,del⟩:=cd
   split at q
   ·rename_i C2 tl k0 k1 k2 k3 n2 k5 em es
    dsimp only at em q
    simp only [Bool.and_eq_true,beq_iff_eq,Bool.not_eq_true'] at q
    obtain ⟨⟨⟨⟨⟨q1,q2⟩,q3⟩,q4⟩,q5⟩,q6⟩:=q
    subst q1 q2 q3 em
    have esl:osl=#[k0,k1,k2,k3,some (.builtin n2),k5]:=Array.toList_inj.mp es
    subst esl
    exact ⟨tl,ns,nm,qn,bs,hd,sn,sub,ab,col,od,k0,k1,k2,k3,k5,_,kin _ _ lk,.of_isNs (PySem.W.isNs_of_in kin q5),PySem.W.nsMap_none_of_in kin q5 q6,PySem.W.tail_of_in kin q4⟩
   ·cases q
  ·cases q
 refine ⟨hm,?_⟩
 cases lk:K.lookup C with
 | none=>unfold PySem.W.excIn at q;rw [lk] at q;cases q
 | some o=>exact key o lk
section
variable {X:Cx}{E:XK}
def xl(C:Addr)(E:XK)(ta:TA):TS:=λ_ σ H=>ta σ H λvs H1=>vs.length<=1/\∀ea,E (.ref ea) (some C) H1
theorem sS{x:Str}{C:Addr}{bm:List Value}{B new init:String}{e:Expr}{ta:TA}{np cpos pos:Pos}(D:X.Def E)(hc:X.calm=true)(hg:Gl X x)(hm:X.mg x=some (.ref C))
  (q:PySem.W.excIn X.K C bm new=true)(FB:ExcBaseFacts B new init bm)(he:PA X [e] ta)
  (hst:starEach [e] X.env=[(false,eval e X.env)]:=by rfl)(hd:(x==("__debug__":Str))=false:=by decide) :
  PS X (.Raise (some (.Call (.Name x np) [e] [] cpos)) none pos) (xl C E ta):=by
 intro pins s σ H D' I h
 obtain ⟨tl,N,nm,qn,bs,hdct,sn,sub,ab,col,dd,k0,k1,k2,k3,k5,mN,hC,hN,hni,T⟩:=(oJ I.ok.mod.kin hm q).obj
 refine wpAny_Raise_call_subT (C:=C) (nm:=nm) (q:=qn) (N:=N) (bs:=bs) (bm:=tl) (hdct:=hdct) (sn:=sn) (sub:=sub) (ab:=ab) (col:=col) (dd:=dd) (k0:=k0) (k1:=k1) (k2:=k2) (k3:=k3) (k5:=k5)
  FB (mN:=mN) (T.hasType FB.hasBase) (I.ok.hd hc) (by rw [hst];rfl) hni (gQ I hg hm ⟨rfl,?_⟩ hd)
 have hsp:=he cpos pins s σ H _ I h
 rw [hst] at hsp ⊢
 refine Calls.evalArgs_plain (wpAny_mono hsp (λus s2 ⟨vs,H2,I2,r,hl,q2⟩=>?_) λ_ _ y=>y)
 have kb:∀b o,X.base.get? b=some o->s2.heap.get? b=some o:=I2.bk
 refine ⟨rfl,?_,kb _ _ hC,hN.keeps kb,T.keeps kb,λh' e' hx=>xB D I2 hx (q2 e')⟩
 have:=r.length
 have h0:(1:Nat)<=sizeLine:=by decide
 show us.length<=sizeLine
 omega
end
end L2
namespace L2
open PySem PySem.Spec PyProof.Rows
def wE(ea C:Addr):HO:=.ext λh=>∃o,h.get? ea=some o/\o.cls=.ref C
abbrev Cx.hnd(X:Cx)(ev:Value):Cx:={X with A:=X.A.mark (some ev),calm:=false,xe:=λ_ _=>False}
section
variable {X:Cx}{pins:List (Addr×Obj)}{σ:St}{H H1:Hp}{s s1:Shared}{ev:Value}
theorem Cx.Ok.hnd(ok:X.Ok)(ev:Value):(X.hnd ev).Ok :=
 ⟨ok.mod,ok.kind,ok.glob,ok.blt,ok.above,ok.inj,ok.has,ok.cab,λh=>(by cases h),ok.frames,ok.stk,ok.exf,ok.bs,ok.bsz,ok.noex,ok.exfs,ok.funs,ok.frf⟩
theorem Inv.hnd(I:Inv X pins σ H s)(ev:Value):Inv (X.hnd ev) pins σ H s:=⟨I.ok.hnd ev,I.os,I.bare,I.base,I.loc,I.cell,I.free,I.freeC,I.pin,I.hok,I.len⟩
theorem Inv.unhnd(ok:X.Ok)(I:Inv (X.hnd ev) pins σ H s):Inv X pins σ H s:=⟨ok,I.os,I.bare,I.base,I.loc,I.cell,I.free,I.freeC,I.pin,I.hok,I.len⟩
theorem SP.unhnd{D:Ends}{f:Flow}{s':Shared}(ok:X.Ok)(h:SP (X.hnd ev) pins D f s'):SP X pins D f s':=by
 cases f with
 | next=>obtain ⟨σ',H',I',q⟩:=h;exact ⟨σ',H',I'.unhnd ok,q⟩
 | brk=>obtain ⟨σ',H',I',q⟩:=h;exact ⟨σ',H',I'.unhnd ok,q⟩
 | cont=>obtain ⟨σ',H',I',q⟩:=h;exact ⟨σ',H',I'.unhnd ok,q⟩
 | ret v=>obtain ⟨x,σ',H',I',r,q⟩:=h;exact ⟨x,σ',H',I'.unhnd ok,r,q⟩
theorem UpToSlots.isCell{h h':Heap}{c:Addr}{v:Option Value}(sm:h.UpToSlots h')(x:h.IsCell c v):h'.IsCell c v:=by
 obtain ⟨o,e,d⟩:=x
 obtain ⟨sl,e2⟩:=sm c o e λvs q=>by rw [d] at q;cases q
 exact ⟨_,e2,d⟩
theorem Inv.moved{B h2:Heap}(I1:Inv X pins σ H1 s1)(I:Inv X pins σ H s)(hst:X.stack=X.env::X.outer)(fr:X.env.frame=some X.env.locals)(hex:X.ex=[])(c:Cov X.stack s1.heap H B s.heap)(st:B.StaysIn h2)(sm:s.heap.UpToSlots h2)
  (ff:s.heap.FunFrames B X.stack):Inv X pins σ H {s with heap:=h2}:=by
 have fc:=jB hst fr
 have b0:Un X.fs [] X.H₀ H X.s₀.heap s.heap:=by have:=I.base;rw [hex] at this;exact this
 have sub:∀b o,X.s₀.heap.get? b=some o->∃o',s1.heap.get? b=some o':=λb o e=>I1.base.there b o e (by rw [hex];simp)
 have nL:∀b o,X.s₀.heap.get? b=some o->b≠X.env.locals:=λb o e z=>absurd (Heap.lt_size e) (by rw [z];exact Nat.not_lt.mpr I.ok.above)
 refine ⟨I.ok,I.os,I.bare,?_,?_,λx cc e=>?_,I.free,I.freeC,λp hp=>?_,I.hok.moved c st I.stkFree,I.len⟩
 ·rw [hex]
  refine b0.moved c st sm ff sub (λb hb=>by rw [fc];exact List.mem_cons_of_mem _ hb) λb o e hb=>?_
  rw [fc] at hb
  rcases List.mem_cons.mp hb with z | z
  ·exact absurd z (nL b o e)
  ·exact z
 ·obtain ⟨m,hn,hl⟩:=I.loc
  refine ⟨m,sm.ns hn,λi x v a b cc=>?_⟩
  obtain ⟨u,r,lk⟩:=hl i x v a b cc
  refine ⟨u,r,?_⟩
  rcases lk with z | ⟨z,cl,e,ic⟩
  ·exact .inl z
  ·exact .inr ⟨z,cl,e,UpToSlots.isCell sm ic⟩
 ·obtain ⟨v,q⟩:=I.cell x cc e
  exact ⟨v,UpToSlots.isCell sm q⟩
 ·obtain ⟨e,f,nl,nf,d⟩:=I.pin p hp
  refine ⟨c.stay st p.1 p.2 e (λz=>?_) (.inr ⟨_,(I1.pin p hp).1⟩),f,nl,nf,d⟩
  rw [fc] at z
  rcases List.mem_cons.mp z with z | z
  ·exact nl z
  ·exact nf z
theorem Inv.exc{ea C:Addr}{oe:Obj}(I:Inv X pins σ H s)(hx:H ea=none)(ho:s.heap.get? ea=some oe)(hc:oe.cls=.ref C)(h0:X.s₀.heap.get? ea=none)(hL:ea≠X.env.locals)(hcl:∀y c,X.env.cells.lookup y=some c->c≠ea)
  (hp:∀p∈X.pn++pins,p.1≠ea):Inv X pins σ (upd H ea (wE ea C)) s:=by
 refine ⟨I.ok,I.os,I.bare,⟨I.base.keep,I.base.slot,λb o e z nx=>?_,I.base.there,λb xs e=>?_,λb o u e=>?_,λb ps e=>?_⟩,I.loc,I.cell,?_,λy c e=>?_,λp hp'=>?_,λb u e=>?_,I.len⟩
 ·rw [aq (λz2=>by rw [z2,h0] at e;cases e)];exact I.base.free b o e z nx
 ·have q:=I.base.tups b xs e
  rw [aq (ah q hx)];exact q
 ·have q:=I.base.frzs b o u e
  rw [aq (ah q hx)];exact q
 ·obtain ⟨more,q⟩:=I.base.tbls b ps e
  exact ⟨more,by rw [aq (ah q hx)];exact q⟩
 ·rw [aq hL.symm];exact I.free
 ·rw [aq (hcl y c e)];exact I.freeC y c e
 ·obtain ⟨e,f,r⟩:=I.pin p hp'
  exact ⟨e,by rw [aq (hp p hp')];exact f,r⟩
 ·by_cases hb:b=ea
  ·subst hb
   rw [ae] at e
   cases e
   exact ⟨⟨oe,ho,hc⟩,⟨oe,ho⟩,λh1 h2 ⟨o,e,c⟩ k=>⟨o,k o e,c⟩⟩
  ·rw [aq hb] at e
   exact (I.hok b u e).stay (λc v _ q=>q) (λc q=>by rw [aq (ah q hx)];exact q) λc xs q=>by rw [aq (ah q hx)];exact q
def nQ(X:Cx)(C CB:Addr):Prop:=∀(A:Around) (s:Shared) (ea:Addr) (ob:Obj) (Q:Bool->Shared->Prop) (E:Value->Shared->Prop),X.K.In s.heap->s.heap.get? ea=some ob->ob.cls=.ref C->Q true s->wpAny (model X.prog X.w) A (excMatches (.ref ea) (.ref CB)) Q E s
theorem n9{x:Str}{C:Addr}{bm:List Value}{new:String}(hm:X.mg x=some (.ref C))(qx:PySem.W.excIn X.K C bm new=true)(hb:bm.contains (.type "BaseException")=true):nQ X C C:=by
 intro A s ea ob Q E k ho hc q
 obtain ⟨tl,N,nm,q',bs,hdct,sn,sub,ab,col,dd,k0,k1,k2,k3,k5,mN,hC,hN,hni,T⟩:=(oJ k hm qx).obj
 obtain ⟨h,g,d,t,os⟩:=s
 exact wpAny_excMatches_sub_self hC ho hc (T.hasType hb) q
theorem wV{ea C CB:Addr}{cx:Str}{np hpos:Pos}{b₀:Stmt}{suite:List Stmt}{rest:List ExceptHandler}{D:Ends}{th:TS}{E:Value->Shared->Prop}(I1:Inv X pins σ H1 s1)(I:Inv X pins σ H s)(hst:X.stack=X.env::X.outer)(fr:X.env.frame=some X.env.locals)(hex:X.ex=[])
  (fly:Fly X.stack s1.heap H ea C s.heap)(hg:Gl X cx)(hm:X.mg cx=some (.ref CB))(tk:nQ X C CB)(hs:∀ev,PSs (X.hnd ev) (b₀::suite) th)(q:H ea=none->th D σ (upd H ea (wE ea C)))(hd:(cx==("__debug__":Str))=false) :
  wpAny (model X.prog X.w) X.A (noteFrame (.ref ea) X.env) (λ_ s₂=>wpAny (model X.prog X.w) X.A (setFlight (.ref ea) none) (λ_ s₃ =>
   wpAny (model X.prog X.w) X.A (handleBy (.ref ea) X.env (.ExceptHandler (some (.Name cx np)) none (b₀::suite) hpos::rest)) (SP X pins D) E s₃) E s₂) E s:=by
 obtain ⟨B,a0,fl,c⟩:=fly
 have hfr:X.A.frames=some (X.env::X.outer):=by rw [I.ok.frames,hst]
 have ff:=fl.2.2.1
 have fl':Heap.FlyingW B (X.env::X.outer) ea (.ref C) a0 s.heap:=by rw [← hst];exact fl
 refine wpAny_looks_onW hfr fr fl' λh₄ held₄ sm₄=>?_
 refine wpAny_landsW held₄ λh₅ fl₅ sm₅=>?_
 have I5:=Inv.moved I1 I hst fr hex c fl₅.1 (sm₄.trans sm₅) ff
 obtain ⟨ob,hob,hobc⟩:=fl₅.there
 refine wpAny_handleBy_cons (codeAny_handlers_test (gQ (X:=X.hnd (.ref ea)) (I5.hnd (.ref ea)) hg hm ?_ hd)) (by intro z;cases z)
 refine tk _ _ ea ob _ _ I5.kIn hob hobc (codeAny_handlers_suite ?_)
 refine lands_againW (s:={s with heap:=h₅}) fl₅ λh₆ fl₆ sm₆=>?_
 have I6:=Inv.moved I1 I hst fr hex c fl₆.1 ((sm₄.trans sm₅).trans sm₆) ff
 obtain ⟨oe,ws,hoe,hoec,hoed,hoe0⟩:=fl₆.first
 have nfr:ea∉frs X.stack:=λz=>by
  have ff6:=fl₆.2.2.1
  rw [← hst] at ff6
  obtain ⟨_,o',e',d'⟩:=ff6.mem (show ea∈X.stack.filterMap (·.frame) from z)
  rw [hoe] at e'
  cases e'
  exact d' ws hoed
 obtain ⟨o1,e1,_⟩:=fl.there
 have hB:=fl.2.1
 have hHe:H ea=none:=by
  cases z:H ea with
  | none=>rfl
  | some u =>
   have:=c ea o1 e1 nfr (.inl (by rw [z];intro y;cases y))
   rw [hB] at this;cases this
 have h1e:s1.heap.get? ea=none:=by
  cases z:s1.heap.get? ea with
  | none=>rfl
  | some u =>
   have:=c ea o1 e1 nfr (.inr ⟨u,z⟩)
   rw [hB] at this;cases this
 have h0e:X.s₀.heap.get? ea=none:=by
  cases z:X.s₀.heap.get? ea with
  | none=>rfl
  | some u =>
   obtain ⟨o',e'⟩:=I1.base.there ea u z (by rw [hex];simp)
   rw [h1e] at e';cases e'
 have I6x:=I6.exc hHe hoe hoec h0e (λz=>nfr (by rw [jB hst fr,z];exact List.mem_cons_self)) (λy cc e z=>by
  obtain ⟨v,o,e',_⟩:=I1.cell y cc e
  rw [z,h1e] at e';cases e') λp hp z=>by
   have:=(I1.pin p hp).1
   rw [z,h1e] at this;cases this
 exact wpAny_mono (hs (.ref ea) pins _ σ _ D (I6x.hnd _) (q hHe)) (λf s7 h7=>SP.unhnd I.ok h7) λ_ _ z=>z.elim
abbrev TX:=St->Hp->VK->XK->Prop
def XP(X:Cx)(pins:List (Addr×Obj))(σ:St)(E:XK)(ev:Value)(s':Shared):Prop:=∃s1 H1 ea C H',Inv X pins σ H1 s1/\ev=.ref ea/\Inv X pins σ H' s'/\Fly X.stack s1.heap H' ea C s'.heap/\E ev (some C) H'
def PEX(X:Cx)(e:Expr)(t:TX):Prop :=
 ∀(pins:List (Addr×Obj)) (s:Shared) (σ:St) (H:Hp) (Q:VK) (E:XK),Inv X pins σ H s->t σ H Q E->wpAny (model X.prog X.w) X.A (eval e X.env) (EP X pins σ Q) (XP X pins σ E) s
end
section
variable {X:Cx}{k:Nat}{f C:Addr}{fd:FuncData}{ps:List Str}{sp:Sp}{dvs:List V}{ds:List Value}{x:Str}{p pos:Pos}{e:Expr}{es:List Expr}{t:TA}
theorem vo{pins:List (Addr×Obj)}{σ:St}{H:Hp}{s:Shared}{Q:VK}{E:XK}{us:List Value}{vs:List V}(F:FnOk X.prog X.w X.K X.mg X.base (CXE X.prog X.w) k f fd ps sp)(hr:Room k X.A)(hb:Binds X.K fd ps ds)(hd:Vals dvs ds)
  (I:Inv X pins σ H s)(r:Vals vs us)(h:sp (vs++dvs) H Q E):wpAny (model X.prog X.w) X.A (call (.ref f) us) (EP X pins σ Q) (XP X pins σ E) s:=by
 have r2:Vals (vs++dvs) (us++ds):=r.append hd
 have hl:(us++ds).length=ps.length:=by rw [← r2.length];exact F.len _ _ _ _ h
 refine wpAny_call (codeAny_mono (F.run X.A X.stack s H ⟨us,[]⟩ (us++ds) (vs++dvs) Q E hr I.env0 (hb s us I.kIn hl) r2 h) λr s' hq=>?_)
 cases r with
 | error e =>
  obtain ⟨ea,C,H',e1,I',fl,q⟩:=I.came hq
  exact ⟨s,H,ea,C,H',I,e1,I',fl,q⟩
 | ok fl =>
  cases fl with
  | ret u=>exact I.after hq
  | next=>exact False.elim hq
  | brk=>exact False.elim hq
  | cont=>exact False.elim hq
end
section
variable {X:Cx}{e:Expr}{t:TX}{C CB:Addr}{cx y:Str}{np hpos pos py apos:Pos}{b₀:Stmt}{suite:List Stmt}{th:TS}{j:Nat}
def uW(j:Nat)(C:Addr)(t:TX)(th:TS):TS:=λD σ H=>t σ H (λv H1=>D.nx (σ.set j (some v)) H1) λev c H1=>∃ea,ev=.ref ea/\c=some C/\(H1 ea=none->th D σ (upd H1 ea (wE ea C)))
theorem qB(hst:X.stack=X.env::X.outer)(fr:X.env.frame=some X.env.locals)(hex:X.ex=[])(hN:X.N.Nodup)(hj:X.N[j]?=some y)(hy:Loc X.env.scope y)(he:PEX X e t)(hg:Gl X cx)(hm:X.mg cx=some (.ref CB))(tk:nQ X C CB)
  (hs:∀ev,PSs (X.hnd ev) (b₀::suite) th)(hd:(cx==("__debug__":Str))=false:=by decide)(hsw:swapsWith e (some (.Name y py)) apos.line X.env=pure false:=by rfl)
  (hf:X.fn y=true\/X.env.scope.names.lookup y=some .local:=by first | exact .inl rfl | exact .inr rfl | assumption) :
  PS X (.Try [.Assign [.Name y py] e apos] [.ExceptHandler (some (.Name cx np)) none (b₀::suite) hpos] [] [] pos) (uW j C t th):=by
 intro pins s σ H D I h
 refine wpAny_Try_except (wpAny_execs_cons (wpAny_mono (wpAny_Assign_Name (Q:=λf s1=>f=.next/\SP X pins D .next s1) (wpAny_mono (he pins s σ H _ _ I h) (λv s1 ⟨y1,H1,I1,r1,q1⟩=>?_) λev s1 hx=>?_) hsw) (λf s1 hq=>?_) λ_ _ z=>z))
 ·exact i0 I1 hN hj hy r1 (λs2 I2=>⟨rfl,_,H1,I2,q1⟩) hf
 ·obtain ⟨s0,H0,ea,C',H',I0,rfl,I',fl,ea2,e2,rfl',q⟩:=hx
  cases e2
  obtain rfl:C'=C:=Option.some.inj rfl'
  exact wV I0 I' hst fr hex fl hg hm tk hs q hd
 ·obtain ⟨rfl,hq⟩:=hq
  exact wpAny_execs_nil (wpAny_execs_nil hq)
def rN(C:Addr)(t:TX)(th:TS):TS:=λD σ H=>t σ H (λ_ H1=>D.nx σ H1) λev c H1=>∃ea,ev=.ref ea/\c=some C/\(H1 ea=none->th D σ (upd H1 ea (wE ea C)))
end
end L2
namespace L2
open PySem PySem.Spec PyProof.Rows PySem.Builtin PySem.Builtin.ObjectAttr PySem.Builtin.Getset_descriptor
end L2
namespace L2
open PySem PySem.Spec PyProof.Rows
section
variable {X:Cx}{pins:List (Addr×Obj)}{σ:St}{H H1:Hp}{s s1:Shared}{ev:Value}
theorem qj{x y:Str}{C CB:Addr}{bm bm2:List Value}{new new2:String}(hm:X.mg x=some (.ref C))(qx:PySem.W.excIn X.K C bm new=true)(hmB:X.mg y=some (.ref CB))(qxB:PySem.W.excIn X.K CB bm2 new2=true)(hb:bm2.contains (.type "BaseException")=true)
  (hs:PySem.W.mroIn X.K C (.ref CB)=some true):nQ X C CB:=by
 intro A s ea ob Q E k ho hc q
 obtain ⟨tl,N,nm,q',bs,hdct,sn,sub,ab,col,dd,k0,k1,k2,k3,k5,mN,hC,hN,hni,T⟩:=(oJ k hmB qxB).obj
 obtain ⟨h,g,d,t,os⟩:=s
 have he:=ho
 have hcls:=hc
 have hbase:=T.hasType hb
 have hcB:(Value.ref CB::tl).contains (.type "BaseException")=true:=by rw [List.contains_cons,hbase,Bool.or_true]
 have f:=tc_notTuple
 have L1:=PySem.W.looks_mroIn (M:=model X.prog X.w) k hs
 unfold excMatches
 repeat (first | (with_reducible refine wpAny_loadPart_at he ?_;rw [hcls]) | with_reducible refine wpAny_loadPart_at hC ?_ | (with_reducible refine wpAny_isSubtype_exc hC ?_;rw [hcB]) | (with_reducible refine PySem.W.Looks.at (by assumption) ?_) | wp_step)
 exact q
end
end L2
namespace L2
open PySem PySem.Spec PyProof.Rows
section
variable {P:Program}{w:World}{K:PySem.W.Frag}{H:Hp}{h:Heap}{a b:Addr}{xs ys:List V}
theorem iP(hok:HOk P w H h)(kin:K.In h)(q:SqT K H a xs):∃its:List Value,Vals xs its/\IsTup h a its.toArray/\xs.length<=sizeLine:=by
 rcases q with q | ⟨o,its,n,hk,hc,hs,hz,r⟩
 ·obtain ⟨z,its,r,p⟩:=q.ok hok
  exact ⟨its,r,p,z⟩
 ·refine ⟨its.toList,r,⟨o,kin a o hk,hc,n,by simpa using hs⟩,?_⟩
  have e:=r.length
  simp only [Array.length_toList] at e
  omega
theorem u9(hok:HOk P w H h)(kin:K.In h)(q:SqT K H a xs)(q':SqT K H a ys):xs=ys:=by
 obtain ⟨its,r,⟨o,e,_,n,d⟩,_⟩:=iP hok kin q
 obtain ⟨its',r',⟨o',e',_,n',d'⟩,_⟩:=iP hok kin q'
 rw [e] at e';cases e'
 rw [d] at d'
 injection d' with d1 _
 have:its=its':=by simpa using congrArg Array.toList d1
 subst this
 exact r.inj r'
def SqU(K:PySem.W.Frag)(H:Hp)(a:Addr)(xs:List V):Prop :=
 H a=some (.tup xs)\/∃(o:Obj) (its:Array Value) (n:Nat),K.lookup a=some o/\o.cls=.type "tuple"/\o.data=.seq its n/\its.size<=sizeLine/\Vals xs its.toList
theorem SqU.sq(q:SqU K H a xs):SqT K H a xs:=q.elim (λz=>.inl (.inl z)) .inr
def bD(H H':Hp):Prop:=∀b xs,H b=some (.tup xs)->H' b=some (.tup xs)
theorem Same.ts{H H':Hp}(e:Same H H'):bD H H':=λb xs h=>e b _ h
theorem SqU.keep{H':Hp}(e:bD H H')(q:SqU K H a xs):SqU K H' a xs:=q.elim (λz=>.inl (e _ _ z)) .inr
end
def EqIs(K:PySem.W.Frag)(n:Nat)(H:Hp)(x y:V)(b:Bool):Prop :=
 ∀(P:Program) (w:World) (A:Around) (s:Shared) (u v:Value),A.units+n<cLine->HOk P w H s.heap->K.In s.heap->RelV x u->RelV y v->SeqAt.EqAt A s u v b
def wB(K:PySem.W.Frag)(n:Nat)(H:Hp)(x y:V)(b:Bool):Prop :=
 ∀(P:Program) (w:World) (A:Around) (s:Shared) (u v:Value),A.units+n<cLine->HOk P w H s.heap->K.In s.heap->RelV x u->RelV y v->SeqAt.RcAt A s u v b
def rB(K:PySem.W.Frag)(n:Nat)(H:Hp)(x y:V)(b:Bool):Prop :=
 ∀(P:Program) (w:World) (A:Around) (s:Shared) (u v:Value),A.units+n<cLine->HOk P w H s.heap->K.In s.heap->RelV x u->RelV y v->SeqAt.RcNeAt A s u v (!b)
section
variable {K:PySem.W.Frag}{H:Hp}{a b:Addr}{n m:Nat}{x y:V}{r:Bool}
theorem EqIs.mono(h:EqIs K n H x y r)(le:n<=m):EqIs K m H x y r:=λP w A s u v hA=>h P w A s u v (by omega)
theorem wG{us vs:List V}{e:Nat->Bool}(ha:SqT K H a us)(hb:SqT K H b vs)(hl:us.length=vs.length)(he:∀(j:Nat) x y,us[j]?=some x->vs[j]?=some y->EqIs K n H x y (e j)) :
  wB K (n+1) H (.ref a) (.ref b) ((List.range us.length).all e)/\rB K (n+1) H (.ref a) (.ref b) ((List.range us.length).all e):=by
 have main:∀(P:Program) (w:World) (A:Around) (s:Shared) (u v:Value),A.units+(n+1)<cLine->HOk P w H s.heap->K.In s.heap->RelV (.ref a) u->RelV (.ref b) v ->
   SeqAt.RcAt A s u v ((List.range us.length).all e)/\SeqAt.RcNeAt A s u v (!(List.range us.length).all e):=by
  intro P w A s u v hA hok kin r1 r2
  cases r1
  cases r2
  obtain ⟨i1,v1,p1,_⟩:=iP hok kin ha
  obtain ⟨i2,v2,p2,_⟩:=iP hok kin hb
  have l1:=v1.length
  have l2:=v2.length
  have items:∀j (h1:j<i1.toArray.size) (h2:j<i2.toArray.size),SeqAt.EqAt A.in1 s i1.toArray[j] i2.toArray[j] (e j):=λj h1 h2=>by
   have h1':j<i1.length:=by simpa using h1
   have h2':j<i2.length:=by simpa using h2
   have e1:us[j]?=some us[j]:=List.getElem?_eq_getElem (by omega)
   have e2:vs[j]?=some vs[j]:=List.getElem?_eq_getElem (by omega)
   obtain ⟨u,eu,ru⟩:=v1.get e1
   obtain ⟨v,ev,rv⟩:=v2.get e2
   have q:=he j _ _ e1 e2 P w A.in1 s u v (by show A.units+1+n<cLine;omega) hok kin ru rv
   have z1:i1.toArray[j]=u:=by
    rw [List.getElem?_eq_getElem h1'] at eu
    simpa using Option.some.inj eu
   have z2:i2.toArray[j]=v:=by
    rw [List.getElem?_eq_getElem h2'] at ev
    simpa using Option.some.inj ev
   rw [z1,z2]
   exact q
  have ez:((List.range (min i1.toArray.size i2.toArray.size)).all e&&i1.toArray.size==i2.toArray.size)=(List.range us.length).all e:=by
   have s1:i1.toArray.size=us.length:=by simp [l1]
   have s2:i2.toArray.size=us.length:=by simp [← l2,hl]
   rw [s1,s2,Nat.min_self]
   simp
  constructor
  ·have q:=SeqAt.RcAt.tuples (A:=A) (s:=s) (e:=e) p1 p2 (by omega) items
   rw [ez] at q
   exact q
  ·have q:=SeqAt.RcNeAt.tuples (A:=A) (s:=s) (e:=e) p1 p2 (by omega) items
   rw [ez] at q
   exact q
 exact ⟨λP w A s u v h1 h2 h3 h4 h5=>(main P w A s u v h1 h2 h3 h4 h5).1,λP w A s u v h1 h2 h3 h4 h5=>(main P w A s u v h1 h2 h3 h4 h5).2⟩
theorem nt(h:wB K n H (.ref a) (.ref b) r)(hs:∀(P:Program) (w:World) (h:Heap),HOk P w H h->K.In h->a=b->r=true):EqIs K n H (.ref a) (.ref b) r:=by
 intro P w A s u v hA hok kin r1 r2
 have q:=h P w A s u v hA hok kin r1 r2
 cases r1
 cases r2
 by_cases e:a=b
 ·rw [hs P w s.heap hok kin e,e]
  exact SeqAt.EqAt.same _
 ·exact SeqAt.EqAt.of_refs e q
end
structure Cod(α:Type) [DecidableEq α] where
 n:Nat
 rp:PySem.W.Frag->Hp->α->V->Prop
 inj:∀{P:Program} {w:World} {K:PySem.W.Frag} {H:Hp} {h:Heap} {x y:α} {v:V},HOk P w H h->K.In h->rp K H x v->rp K H y v->x=y
 eq:∀{K:PySem.W.Frag} {H:Hp} {x y:α} {u v:V},rp K H x u->rp K H y v->EqIs K n H u v (decide (x=y))
 rc:∀{K:PySem.W.Frag} {H:Hp} {x y:α} {u v:V},rp K H x u->rp K H y v->wB K n H u v (decide (x=y))
 ne:∀{K:PySem.W.Frag} {H:Hp} {x y:α} {u v:V},rp K H x u->rp K H y v->rB K n H u v (decide (x=y))
 keep:∀{K:PySem.W.Frag} {H H':Hp} {x:α} {v:V},bD H H'->rp K H x v->rp K H' x v
def cInt:Cod Int where
 n:=0
 rp _ _ i v:=v=.int i
 inj _ _ h1 h2:=by
  rw [h1] at h2
  exact V.int.inj h2
 eq h1 h2:=by
  intro P w A s u v _ _ _ r1 r2
  subst h1 h2
  obtain ⟨t,rfl⟩:=r1
  obtain ⟨t',rfl⟩:=r2
  rw [← Bool.beq_eq_decide_eq]
  exact SeqAt.EqAt.int_int _ t _ t'
 rc h1 h2:=by
  intro P w A s u v _ _ _ r1 r2
  subst h1 h2
  obtain ⟨t,rfl⟩:=r1
  obtain ⟨t',rfl⟩:=r2
  rw [← Bool.beq_eq_decide_eq]
  exact SeqAt.RcAt.int_int _ t _ t'
 ne h1 h2:=by
  intro P w A s u v _ _ _ r1 r2
  subst h1 h2
  obtain ⟨t,rfl⟩:=r1
  obtain ⟨t',rfl⟩:=r2
  rw [← Bool.beq_eq_decide_eq]
  exact SeqAt.RcNeAt.int_int _ t _ t'
 keep _ h:=h
theorem cI(x y:Str):decide (x=y)=(x==y):=by
 rw [Bool.eq_iff_iff]
 simp
def cStr:Cod Str where
 n:=0
 rp _ _ i v:=v=.str i
 inj _ _ h1 h2:=by
  rw [h1] at h2
  exact V.str.inj h2
 eq h1 h2:=by
  intro P w A s u v _ _ _ r1 r2
  subst h1 h2
  obtain ⟨t,rfl⟩:=r1
  obtain ⟨t',rfl⟩:=r2
  rw [cI]
  exact SeqAt.EqAt.str_str _ t _ t'
 rc h1 h2:=by
  intro P w A s u v _ _ _ r1 r2
  subst h1 h2
  obtain ⟨t,rfl⟩:=r1
  obtain ⟨t',rfl⟩:=r2
  rw [cI]
  exact SeqAt.RcAt.str_str _ t _ t'
 ne h1 h2:=by
  intro P w A s u v _ _ _ r1 r2
  subst h1 h2
  obtain ⟨t,rfl⟩:=r1
  obtain ⟨t',rfl⟩:=r2
  rw [cI]
  exact SeqAt.RcNeAt.str_str _ t _ t'
 keep _ h:=h
section
variable {α β γ:Type} [DecidableEq α] [DecidableEq β] [DecidableEq γ]
def rT2(c:Cod α)(d:Cod β)(K:PySem.W.Frag)(H:Hp)(x:α×β)(v:V):Prop:=∃a u w,v=.ref a/\SqU K H a [u,w]/\c.rp K H x.1 u/\d.rp K H x.2 w
theorem pN{c:Cod α}{d:Cod β}{P:Program}{w:World}{K:PySem.W.Frag}{H:Hp}{h:Heap}{x y:α×β}{v:V}(hok:HOk P w H h)(kin:K.In h)(h1:rT2 c d K H x v)(h2:rT2 c d K H y v):x=y:=by
 obtain ⟨a,u,t,rfl,ha,hu,ht⟩:=h1
 obtain ⟨b,u',t',e,hb,hu',ht'⟩:=h2
 cases e
 have z:=u9 hok kin ha.sq hb.sq
 cases z
 exact Prod.ext (c.inj hok kin hu hu') (d.inj hok kin ht ht')
theorem oH{c:Cod α}{d:Cod β}{K:PySem.W.Frag}{H:Hp}{x y:α×β}{u v:V}(h1:rT2 c d K H x u)(h2:rT2 c d K H y v) :
  wB K (max c.n d.n+1) H u v (decide (x=y))/\rB K (max c.n d.n+1) H u v (decide (x=y)):=by
 obtain ⟨a,u,t,rfl,ha,hu,ht⟩:=h1
 obtain ⟨b,u',t',rfl,hb,hu',ht'⟩:=h2
 have T:=wG (n:=max c.n d.n) (e:=λj=>if j=0 then decide (x.1=y.1) else decide (x.2=y.2)) ha.sq hb.sq rfl (λj p q e1 e2=>by
  match j,e1,e2 with
  | 0,e1,e2=>cases e1;cases e2;exact (c.eq hu hu').mono (Nat.le_max_left _ _)
  | 1,e1,e2=>cases e1;cases e2;exact (d.eq ht ht').mono (Nat.le_max_right _ _))
 have e:((List.range ([u,t]:List V).length).all λj=>if j=0 then decide (x.1=y.1) else decide (x.2=y.2))=decide (x=y):=by
  show (decide (x.1=y.1)&&(decide (x.2=y.2)&&true))=decide (x=y)
  rw [Bool.and_true,← Bool.decide_and]
  exact decide_eq_decide.mpr (Prod.ext_iff (x:=x) (y:=y)).symm
 rw [e] at T
 exact T
def cT2(c:Cod α)(d:Cod β):Cod (α×β) where
 n:=max c.n d.n+1
 rp:=rT2 c d
 inj:=pN
 rc h1 h2:=(oH h1 h2).1
 ne h1 h2:=(oH h1 h2).2
 eq {K H x y u v} h1 h2:=by
  have r:=(oH h1 h2).1
  have i:=λP w h hok kin=>pN (c:=c) (d:=d) (P:=P) (w:=w) (K:=K) (H:=H) (h:=h) (x:=x) (y:=y) (v:=v) hok kin
  obtain ⟨a,_,_,rfl,_⟩:=id h1
  obtain ⟨b,_,_,rfl,_⟩:=id h2
  refine nt r λP w h hok kin e=>?_
  subst e
  exact decide_eq_true (i P w h hok kin h1 h2)
 keep e h:=let ⟨a,u,w,h1,h2,h3,h4⟩:=h;⟨a,u,w,h1,h2.keep e,c.keep e h3,d.keep e h4⟩
end
section
variable {α:Type} [DecidableEq α] {K:PySem.W.Frag}{H:Hp}
theorem _root_.PySem.Paired.get{β γ:Type}{R:β->γ->Prop}:∀{xs:List β} {us:List γ},Paired R xs us->∀{j:Nat} {u:γ},us[j]?=some u->∃x,xs[j]?=some x/\R x u
 | _,_,.nil,j,u,e=>by simp at e
 | _,_,.cons r t,0,u,e=>by simp at e;subst e;exact ⟨_,rfl,r⟩
 | _,_,.cons r t,j+1,u,e=>PySem.Paired.get t (j:=j) (by simpa using e)
theorem _root_.PySem.Paired.get1{β γ:Type}{R:β->γ->Prop}:∀{xs:List β} {us:List γ},Paired R xs us->∀{j:Nat} {x:β},xs[j]?=some x->∃u,us[j]?=some u/\R x u
 | _,_,.nil,j,u,e=>by simp at e
 | _,_,.cons r t,0,u,e=>by simp at e;subst e;exact ⟨_,rfl,r⟩
 | _,_,.cons r t,j+1,u,e=>PySem.Paired.get1 t (j:=j) (by simpa using e)
theorem _root_.PySem.Paired.len{β γ:Type}{R:β->γ->Prop}:∀{xs:List β} {us:List γ},Paired R xs us->xs.length=us.length
 | _,_,.nil=>rfl
 | _,_,.cons r t=>by simp [PySem.Paired.len t]
theorem _root_.PySem.Paired.app{β γ:Type}{R:β->γ->Prop}:∀{xs ys:List β} {us vs:List γ},Paired R xs us->Paired R ys vs->Paired R (xs++ys) (us++vs)
 | _,_,_,_,.nil,s=>s
 | _,_,_,_,.cons r t,s=>.cons r (PySem.Paired.app t s)
end
section
variable {X:Cx}{α:Type} [DecidableEq α]
theorem hun{c:Nat}{k:Nat}{A:Around}(hr:Room k A)(h:c<=60:=by decide):A.units+c+1<cLine:=by
 have:=hr.units
 omega
noncomputable def eqR(c:Cod α)(K:PySem.W.Frag)(H:Hp)(a:α)(u:Value):Bool:=@decide (∃v,RelV v u/\c.rp K H a v) (Classical.propDecidable _)
theorem uz{c:Cod α}{P:Program}{w:World}{K:PySem.W.Frag}{H:Hp}{h:Heap}{a z:α}{v:V}{u:Value}(hok:HOk P w H h)(kin:K.In h)(r:RelV v u)(q:c.rp K H z v):eqR c K H a u=decide (z=a):=by
 unfold eqR
 by_cases e:z=a
 ·subst e
  rw [decide_eq_true (show z=z from rfl)]
  exact @decide_eq_true _ (Classical.propDecidable _) ⟨v,r,q⟩
 ·rw [decide_eq_false e]
  refine @decide_eq_false _ (Classical.propDecidable _) λ⟨v',r',q'⟩=>e ?_
  have:=r.inj r'
  subst this
  exact c.inj hok kin q q'
theorem l9{c:Cod α}{P:Program}{w:World}{K:PySem.W.Frag}{H:Hp}{h:Heap}{a:α}(hok:HOk P w H h)(kin:K.In h):∀{xs:List α} {us:List V} {its:List Value},Paired (c.rp K H) xs us->Vals us its->its.any (eqR c K H a)=decide (a∈xs)
 | _,_,_,.nil,.nil=>by simp
 | x::xs,_,_,.cons p t,.cons r s=>by
  rw [List.any_cons,uz hok kin r p,l9 hok kin t s,Bool.eq_iff_iff]
  simp only [Bool.or_eq_true,decide_eq_true_eq,List.mem_cons]
  exact ⟨λz=>z.elim (λe=>.inl e.symm) .inr,λz=>z.elim (λe=>.inl e.symm) .inr⟩
theorem lP{c:Cod α}{P:Program}{w:World}{A:Around}{s:Shared}{K:PySem.W.Frag}{H:Hp}{a:α}{x:V}{v:Value}(hok:HOk P w H s.heap)(kin:K.In s.heap)(hA:A.units+c.n<cLine)(rx:RelV x v)(qx:c.rp K H a x) :
  ∀{xs:List α} {us:List V} {its:List Value},Paired (c.rp K H) xs us->Vals us its->∀u∈its,SeqAt.EqAt A s u v (eqR c K H a u)
 | _,_,_,.nil,.nil=>λu hu=>by cases hu
 | _,_,_,.cons p t,.cons r q=>λu' hu=>by
  rcases List.mem_cons.mp hu with rfl | hu
  ·rw [uz hok kin r p]
   exact c.eq p qx P w A s _ v hA hok kin r rx
  ·exact lP hok kin hA rx qx t q u' hu
def zm(c:Cod α)(K:PySem.W.Frag):R2:=λx y H Q=>∃a p us xs,c.rp K H a x/\y=.ref p/\(SqL K H p us\/SqT K H p us)/\Paired (c.rp K H) xs us/\Q (.bl (!decide (a∈xs))) H
theorem qF(c:Cod α)(hu:X.A.units+c.n+1<cLine):OpR X (compareOp .NotIn) (zm c X.K):=by
 intro pins s σ H x y v u Q I rx ry h
 obtain ⟨a,p,us,xs,ha,rfl,hq,px,q⟩:=h
 cases ry
 rcases hq with hq | hq
 ·obtain ⟨its,r,pl,hz⟩:=I.list hq
  refine SeqAt.notIn_listAt (eqR c X.K H a) pl.isList (λw hw=>lP I.hok I.kIn (by show X.A.units+1+c.n<cLine;omega) rx ha px r w (by simpa using hw)) ⟨.bl _,H,I,rfl,?_⟩
  rw [show its.toArray.any (eqR c X.K H a)=its.any (eqR c X.K H a) by simp,l9 I.hok I.kIn px r]
  exact q
 ·obtain ⟨its,r,pl,hz⟩:=I.tuple hq
  refine SeqAt.notIn_tupleAt (eqR c X.K H a) pl (λw hw=>lP I.hok I.kIn (by show X.A.units+1+c.n<cLine;omega) rx ha px r w (by simpa using hw)) ⟨.bl _,H,I,rfl,?_⟩
  rw [show its.toArray.any (eqR c X.K H a)=its.any (eqR c X.K H a) by simp,l9 I.hok I.kIn px r]
  exact q
end
end L2
namespace L2
open PySem PySem.Spec PyProof.Rows
end L2
namespace L2
open PySem PySem.Spec PyProof.Rows
section
variable {X:Cx}
def wu:KTD.Dat->Value->Bool
 | .flat d,v=>KTD.flatLooks d v
 | _,_=>false
theorem wt{h:Heap}:∀(d:KTD.Dat) (v:Value),wu d v=true->d.At h v
 | .flat d,v,e=>KTD.flat_of_looks (d:=d) e
 | .float _,_,e=>by cases e
 | .nums _,_,e=>by cases e
 | .words _,_,e=>by cases e
 | .tup _,_,e=>by cases e
 | .tab _,_,e=>by cases e
def TabK(K:PySem.W.Frag)(a:Addr)(D:List (Str×KTD.Dat)):Prop:=KTD.tabLook wu (λb=>K.lookup b) a D=true
theorem TabK.at{K:PySem.W.Frag}{a:Addr}{D:List (Str×KTD.Dat)}{h:Heap}(t:TabK K a D)(kin:K.In h):KTD.TextTab h a D:=KTD.tab_of_look wt (λa o e=>kin a o e) t
theorem p4{h₀:Heap}{k:Str}{Pr:Value->Prop}:∀{D:List (Str×KTD.Dat)} {d:KTD.Dat},KTD.datumAt k D=some d->KTD.Opened h₀ Pr d->KTD.EachL h₀ k Pr D
 | [],_,e,_=>by cases e
 | (x,d')::D,d,e,o=>by
  have e':(if decide (k=x)=true then some d' else KTD.datumAt k D)=some d:=e
  by_cases hx:k=x
  ·rw [if_pos (decide_eq_true hx)] at e'
   cases e'
   exact KTD.eachL_hit hx o
  ·rw [if_neg (by simp [hx])] at e'
   exact KTD.eachL_miss hx (p4 e' o)
end
section
variable {X:Cx}{α:Type} [DecidableEq α]
theorem pfK(K:PySem.W.Frag)(i:Nat){x f:Str}{px pos:Pos}(hK:X.K=K:=by rfl)(hN:X.N[i]?=some x:=by rfl)(hv:Vis X.env.scope x:=by first | exact Or.inl rfl | exact Or.inr (Or.inl rfl) | exact Or.inr (Or.inr rfl))(hd:(x==("__debug__":Str))=false:=by decide)
  (hcd:(x==("__classdict__":Str))=false:=by decide)(hb:attributeBase (.Name x px) f X.env (eval (.Name x px) X.env)=eval (.Name x px) X.env:=by rfl):PE X (.Attribute (.Name x px) f pos) (qk K (og i) f):=by
 subst hK
 exact aA (sV hN hv hd hcd) hb
end
structure GF(P:Program)(w:World)(K:PySem.W.Frag)(mg:Str->Option Value)(base:Heap)(CX:CXT)(k:Nat)(x:Str)(ps:List Str)(sp:Sp) where
 f:Addr
 fd:FuncData
 ok:FnOk P w K mg base CX k f fd ps sp
 bd:Binds K fd ps []
 kp:PySem.W.keepIn K (.ref f)=true
 mgx:mg x=some (.ref f)
structure GM(P:Program)(w:World)(K:PySem.W.Frag)(mg:Str->Option Value)(base:Heap)(CX:CXT)(k:Nat)(C:Addr)(m:Str)(ps:List Str)(sp:Sp) where
 f:Addr
 fd:FuncData
 ok:FnOk P w K mg base CX k f fd ps sp
 bd:Binds K fd ps []
 me:gj K C m f
section
variable {X:Cx}{CX:CXT}{j k:Nat}{x m:Str}{ps:List Str}{sp:Sp}{E:XK}{p pos apos:Pos}{e o:Expr}{es:List Expr}{t:TA}{ta:TE}{C:Addr}
theorem pc(G:GF X.prog X.w X.K X.mg X.base CX j x ps sp)(hr:Room k X.A)(ha:PA X (e::es) t)(hx:dz CX X E:=by exact br)(hk:j<=k:=by decide)(hg:Gl X x:=by rfl)
  (hdb:(x==("__debug__":Str))=false:=by decide)(he:starEach (e::es) X.env=(false,eval e X.env)::starEach es X.env:=by rfl)(hpl:(backTo pos (starEach es X.env)).any (·.1)=false:=by rfl) :
  PE X (.Call (.Name x p) (e::es) [] pos) (rO sp [] E t):=lJ G.ok (hr.mono hk) hg G.mgx G.kp G.bd .nil hx ha hdb he hpl
theorem pm{pl:Sem Bool}(G:GM X.prog X.w X.K X.mg X.base CX j C m ps sp)(ho:PE X o ta)(cl:Cls X.K C)(hr:Room k X.A)(ha:PA X (e::es) t)(hx:dz CX X E:=by exact br)(hk:j<=k:=by decide)
  (hst:starEach (e::es) X.env=(false,eval e X.env)::starEach es X.env:=by rfl)(hpl:(backTo pos (starEach es X.env)).any (·.1)=false:=by rfl)
  (ht:eval (.Call (.Attribute o m apos) (e::es) [] pos) X.env=(do
   let ov ← eval o X.env
   standAt apos.atName
   let (f,first) ← holding [ov] (getMethod ov m pl)
   callWith pos f first (backTo pos (starEach (e::es) X.env)) (backToKw pos (keywordEach [] X.env))):=by rfl) :
  PE X (.Call (.Attribute o m apos) (e::es) [] pos) (pr C m sp [] E ta t):=f6 ho cl G.me G.ok (hr.mono hk) G.bd .nil hx ha hst hpl ht
theorem pm0{pl:Sem Bool}(G:GM X.prog X.w X.K X.mg X.base CX j C m ps sp)(ho:PE X o ta)(cl:Cls X.K C)(hr:Room k X.A)(hx:dz CX X E:=by exact br)(hk:j<=k:=by decide)
  (ht:eval (.Call (.Attribute o m apos) [] [] pos) X.env=(do
   let ov ← eval o X.env
   standAt apos.atName
   let (f,first) ← holding [ov] (getMethod ov m pl)
   callWith pos f first (backTo pos (starEach [] X.env)) (backToKw pos (keywordEach [] X.env))):=by rfl) :
  PE X (.Call (.Attribute o m apos) [] [] pos) (pr C m sp [] E ta uY):=gM ho cl G.me G.ok (hr.mono hk) G.bd .nil hx ht
end
end L2
namespace L2
open PySem PySem.Spec PyProof.Rows
section
variable {K:PySem.W.Frag}{a:Addr}{xs:List V}{tt:TT}{te:TE}{bl:St}{Fin:List V->Hp->Prop}{H:Hp}
theorem iU(Pv:Nat->List V->Hp->Prop)(h0:Pv 0 [] H)(hn:xs.length<=sizeLine)(hl:∀i ys H,i<=xs.length->Pv i ys H->SqL K H a xs)
  (hs:∀i x ys H,xs[i]?=some x->Pv i ys H->tt (some x::bl) H λc H2=>if c=true then te (some x::bl) H2 λy H3=>Pv (i+1) (ys++[y]) H3 else Pv (i+1) ys H2)
  (hd:∀ys H,Pv xs.length ys H->Fin ys H) :
  ∃(W:Nat->List V->Hp->Prop) (n:Nat),W 0 [] H/\n<=sizeLine/\∀i ys H,W i ys H->((Itl K a).stop i H/\Fin ys H) \/
   ((Itl K a).go i H/\i<n/\∀x H',(Itl K a).yld i H x H'->tt (some x::bl) H' λc H2=>if c=true then te (some x::bl) H2 λy H3=>W (i+1) (ys++[y]) H3 else W (i+1) ys H2):=by
 refine ⟨λi ys H=>i<=xs.length/\Pv i ys H,xs.length,⟨Nat.zero_le _,h0⟩,hn,?_⟩
 rintro i ys H ⟨hi,p⟩
 have q:=hl i ys H hi p
 by_cases hlt:i<xs.length
 ·refine .inr ⟨⟨xs,xs[i],q,by simp [hlt]⟩,hlt,λx H' y=>?_⟩
  obtain ⟨e,y⟩:=y
  subst e
  have z:=hs i x ys _ (y xs q) p
  have e1:(λ(c:Bool) (H2:Hp)=>if c=true then te (some x::bl) H2 λy H3=>i+1<=xs.length/\Pv (i+1) (ys++[y]) H3 else i+1<=xs.length/\Pv (i+1) ys H2)=λc H2=>if c=true then te (some x::bl) H2 λy H3=>Pv (i+1) (ys++[y]) H3 else Pv (i+1) ys H2:=by
   have e2:(i+1<=xs.length)=True:=eq_true hlt
   funext c H2
   simp only [e2,true_and]
  show tt _ _ _
  rw [e1]
  exact z
 ·have e:i=xs.length:=by omega
  subst e
  exact .inl ⟨⟨xs,q,Nat.le_refl _⟩,hd ys H p⟩
theorem j6{σ:St}{A B:Hp->Prop}(h:A H):u6 σ H (λc H2=>if c=true then A H2 else B H2):=by
 show if true=true then A H else B H
 exact @bU (A H) (B H) h
theorem ug(Pv:Nat->List V->Hp->Prop)(h0:Pv 0 [] H)(hn:xs.length<=sizeLine)(hl:∀i ys H,i<=xs.length->Pv i ys H->SqT K H a xs)
  (hs:∀i x ys H,xs[i]?=some x->Pv i ys H->tt (some x::bl) H λc H2=>if c=true then te (some x::bl) H2 λy H3=>Pv (i+1) (ys++[y]) H3 else Pv (i+1) ys H2)
  (hd:∀ys H,Pv xs.length ys H->Fin ys H) :
  ∃(W:Nat->List V->Hp->Prop) (n:Nat),W 0 [] H/\n<=sizeLine/\∀i ys H,W i ys H->((Itt K a).stop i H/\Fin ys H) \/
   ((Itt K a).go i H/\i<n/\∀x H',(Itt K a).yld i H x H'->tt (some x::bl) H' λc H2=>if c=true then te (some x::bl) H2 λy H3=>W (i+1) (ys++[y]) H3 else W (i+1) ys H2):=by
 refine ⟨λi ys H=>i<=xs.length/\Pv i ys H,xs.length,⟨Nat.zero_le _,h0⟩,hn,?_⟩
 rintro i ys H ⟨hi,p⟩
 have q:=hl i ys H hi p
 by_cases hlt:i<xs.length
 ·refine .inr ⟨⟨xs,xs[i],q,by simp [hlt]⟩,hlt,λx H' y=>?_⟩
  obtain ⟨e,y⟩:=y
  subst e
  have z:=hs i x ys _ (y xs q) p
  have e1:(λ(c:Bool) (H2:Hp)=>if c=true then te (some x::bl) H2 λy H3=>i+1<=xs.length/\Pv (i+1) (ys++[y]) H3 else i+1<=xs.length/\Pv (i+1) ys H2)=λc H2=>if c=true then te (some x::bl) H2 λy H3=>Pv (i+1) (ys++[y]) H3 else Pv (i+1) ys H2:=by
   have e2:(i+1<=xs.length)=True:=eq_true hlt
   funext c H2
   simp only [e2,true_and]
  show tt _ _ _
  rw [e1]
  exact z
 ·have e:i=xs.length:=by omega
  subst e
  exact .inl ⟨⟨xs,q,Nat.le_refl _⟩,hd ys H p⟩
theorem jw{n:Nat}(Pv:Nat->List V->Hp->Prop)(h0:Pv 0 [] H)(hn:n<=sizeLine)
  (hs:∀(i:Nat) ys H,i<n->Pv i ys H->tt (some (.int i)::bl) H λc H2=>if c=true then te (some (.int i)::bl) H2 λy H3=>Pv (i+1) (ys++[y]) H3 else Pv (i+1) ys H2)
  (hd:∀ys H,Pv n ys H->Fin ys H) :
  ∃(W:Nat->List V->Hp->Prop) (m:Nat),W 0 [] H/\m<=sizeLine/\∀i ys H,W i ys H->((Itr 0 n).stop i H/\Fin ys H) \/
   ((Itr 0 n).go i H/\i<m/\∀x H',(Itr 0 n).yld i H x H'->tt (some x::bl) H' λc H2=>if c=true then te (some x::bl) H2 λy H3=>W (i+1) (ys++[y]) H3 else W (i+1) ys H2):=by
 refine ⟨λi ys H=>i<=n/\Pv i ys H,n,⟨Nat.zero_le _,h0⟩,hn,?_⟩
 rintro i ys H ⟨hi,p⟩
 by_cases hlt:i<n
 ·refine .inr ⟨hlt,hlt,λx H' y=>?_⟩
  obtain ⟨e,y⟩:=y
  subst e
  rw [Int.zero_add] at y
  subst y
  have z:=hs i ys _ hlt p
  have e1:(λ(c:Bool) (H2:Hp)=>if c=true then te (some (.int i)::bl) H2 λy H3=>i+1<=n/\Pv (i+1) (ys++[y]) H3 else i+1<=n/\Pv (i+1) ys H2)=λc H2=>if c=true then te (some (.int i)::bl) H2 λy H3=>Pv (i+1) (ys++[y]) H3 else Pv (i+1) ys H2:=by
   have e2:(i+1<=n)=True:=eq_true hlt
   funext c H2
   simp only [e2,true_and]
  show tt _ _ _
  rw [e1]
  exact z
 ·have e:i=n:=by omega
  subst e
  exact .inl ⟨Nat.le_refl _,hd ys H p⟩
end
end L2
namespace Lo
open PySem L2
abbrev Pa:=Int×Int
def cPa:Cod Pa:=cT2 cInt cInt
theorem ai{H:Hp}{p:Addr}{o:HO}(h:H p=none):Same H (upd H p o):=λb u e=>by
 rw [aq (ah e h)]
 exact e
def Kp(p:Addr)(H H':Hp):Prop:=∀b o,b≠p->H b=some o->H' b=some o
theorem Kp.of{p:Addr}{H H':Hp}(h:Same H H'):Kp p H H':=λb o _ e=>h b o e
theorem Kp.trans{p:Addr}{H H1 H2:Hp}(a:Kp p H H1)(b:Kp p H1 H2):Kp p H H2:=λc o n e=>b c o n (a c o n e)
theorem bp{p:Addr}{H:Hp}{o:HO}:Kp p H (upd H p o):=λb u n e=>by
 rw [aq n]
 exact e
theorem pp{F:α->β->Prop}{G:α->β->Prop}{xs:List α}{ys:List β}(h:Paired F xs ys)(f:∀a b,F a b->G a b):Paired G xs ys:=Paired.mapP h f
end Lo
namespace Lo
open PySem L2
theorem lT{X:Cx}{x:Str}{i:Int}{pos:Pos}(hm:∃t,X.mg x=some (.int i t))(hg:Gl X x)(hd:(x==("__debug__":Str))=false:=by decide):PE X (.Name x pos) (tC (.int i)):=by
 obtain ⟨t,e⟩:=hm
 exact db hg e ⟨t,rfl⟩ hd
structure TxB(mg:Str->Option Value):Prop where
 isi:mg "isinstance"=none
 int:mg "int"=none
 bool:mg "bool"=none
 str:mg "str"=none
 len:mg "len"=none
 range:mg "range"=none
 tuple:mg "tuple"=none
 list:mg "list"=none
 any:mg "any"=none
 all:mg "all"=none
 max:mg "max"=none
 sorted:mg "sorted"=none
theorem xj{K:PySem.W.Frag}{a:Addr}{es:Array DictEntry}{n:Nat}{D:List (Str×PyProof.Rows.KTD.Dat)}(h:K.lookup a=some ⟨.type "dict",none,.dict es n,#[]⟩)(z:(a==sysModules)=false)(r:PyProof.Rows.KTD.rowsLook wu es.toList D=true):TabK K a D:=by
 unfold TabK PyProof.Rows.KTD.tabLook
 rw [z]
 show (true&&(match K.lookup a with | some o=>_ | none=>false))=true
 rw [h]
 simp [r]
theorem zc{n:Nat}(h:n<=1000):n<=sizeLine:=Nat.le_of_lt (cz h)
def bv(ns:List Int)(k:Nat):Int:=(ns[k]?).getD 0
def ou(K:PySem.W.Frag):Sp:=λvs H Q _=>∃a ns k,vs=[.ref a,.int (k:Nat)]/\SqL K H a ((ns:List Int).map V.int)/\Q (.int (bv ns k)) H
end Lo
namespace Lo
open PySem L2
end Lo
namespace Lo
open PySem L2
section
variable {K:PySem.W.Frag}
theorem oT:PySem.W.kitOne K (.type "int") (.type "int")=some true:=rfl
theorem ui:PySem.W.kitOne K (.type "tuple") (.type "tuple")=some true:=rfl
theorem yq:PySem.W.kitOne K (.type "list") (.type "list")=some true:=rfl
theorem oU:PySem.W.kitOne K (.type "int") (.type "bool")=some false:=by kernel_rfl
end
def pF(K:PySem.W.Frag):Sp:=λvs H Q _=>∃a ns,vs=[.ref a]/\SqL K H a ((ns:List Int).map V.int)/\ns.length<=63/\∀H',Q (.bl true) H'
end Lo
namespace Lo
open PySem L2
theorem bY{X:Cx}{st:List Stmt}{t:TS}(u:TS)(h:PSs X st t)(hw:∀D σ H,u D σ H->t D σ H):PSs X st u:=λpins s σ H D I q=>h pins s σ H D I (hw D σ H q)
end Lo
namespace Lo
open PySem L2
end Lo
namespace Lo
open PySem L2
end Lo
namespace Lo
open PySem L2
theorem uF(ns:List Int)(lo hi:Option Int):∃cs:List Int,gi (ns.map V.int) lo hi=cs.map V.int/\cs.length<=ns.length:=by
 refine ⟨(ns.drop (HT.sIx (ns.map V.int).length 0 lo)).take (HT.sIx (ns.map V.int).length (ns.map V.int).length hi-HT.sIx (ns.map V.int).length 0 lo),?_,?_⟩
 ·unfold gi
  rw [List.map_take,List.map_drop]
 ·rw [List.length_take,List.length_drop]
  omega
end Lo
namespace Lo
open PySem L2
end Lo
namespace Lo
open PySem L2
end Lo
namespace Lo
open PySem L2
end Lo
namespace Lo
open PySem L2
end Lo
namespace Lo
open PySem L2
end Lo
namespace L2
open PySem PySem.Spec PyProof.Rows
section
variable {κ:Type} [DecidableEq κ]
def g6(kvs:List (κ×V))(k:κ):Option V:=(kvs.find? λkv=>decide (kv.1=k)).map (·.2)
theorem iY{p:κ×V}{r:List (κ×V)}{k:κ}(e:p.1=k):g6 (p::r) k=some p.2:=by simp [g6,List.find?_cons,e]
theorem iZ{p:κ×V}{r:List (κ×V)}{k:κ}(e:¬p.1=k):g6 (p::r) k=g6 r k:=by simp [g6,List.find?_cons,e]
theorem RelO.isSome_eq{o:Option V}{u:Option Value}(r:RelO o u):o.isSome=u.isSome:=by
 cases o with
 | none=>cases u with
  | none=>rfl
  | some _=>exact (show False from r).elim
 | some _=>cases u with
  | none=>exact (show False from r).elim
  | some _=>rfl
theorem KV.val{kvs:List (κ×V)}{vs:List (κ×Value)}(r:KV kvs vs)(k:κ):RelO (g6 kvs k) (valueAt vs k):=by
 unfold KV at r
 induction r with
 | nil=>exact True.intro
 | @cons p q ps qs h t ih =>
  obtain ⟨h1,h2⟩:=h
  by_cases e:p.1=k
  ·have e':q.1=k:=h1.symm.trans e
   have b:valueAt (q::qs) k=some q.2:=by simp [valueAt,List.find?_cons,e']
   rw [iY e,b];exact h2
  ·have e':¬q.1=k:=λz=>e (h1.trans z)
   have b:valueAt (q::qs) k=valueAt qs k:=by simp [valueAt,List.find?_cons,e']
   rw [iZ e,b];exact ih
end
theorem wW{P:Program}{w:World}{k:Key}{u:Value}(r:RelV (kV k) u):(b9 P w).is k u=true:=by
 cases k with
 | inl i=>obtain ⟨t,e⟩:=(show ∃t,u=Value.int i t from r);subst e;exact mT P w i t
 | inr x=>obtain ⟨t,e⟩:=(show ∃t,u=Value.str x t from r);subst e;exact mR P w x t
theorem kn{P:Program}{w:World}:∀{ks:List Key} {us:List Value},Vals (ks.map kV) us->ItemsAre (b9 P w) ks us
 | [],_,r=>by rw [List.map_nil] at r;cases r;exact .nil
 | k::ks,_,r=>by
  rw [List.map_cons] at r
  cases r with
  | cons h t=>exact .cons (wW h) (kn t)
abbrev KT(H:Hp):List (List Key×V)->List (List Key×Addr×Value)->Prop:=Paired λp q=>p.1=q.1/\H q.2.1=some (.tup (p.1.map kV))/\RelV p.2 q.2.2
theorem KT.val{H:Hp}{kvs:List (List Key×V)}{xs:List (List Key×Addr×Value)}(r:KT H kvs xs)(k:List Key):RelO (g6 kvs k) ((atKey xs k).map (·.2)):=by
 induction r with
 | nil=>exact True.intro
 | @cons p q ps qs h t ih =>
  obtain ⟨h1,_,h2⟩:=h
  by_cases e:p.1=k
  ·have e':q.1=k:=h1.symm.trans e
   have b:atKey (q::qs) k=some q.2:=by simp [atKey,List.find?_cons,e']
   rw [iY e,b];exact h2
  ·have e':¬q.1=k:=λz=>e (h1.trans z)
   have b:atKey (q::qs) k=atKey qs k:=by simp [atKey,List.find?_cons,e']
   rw [iZ e,b];exact ih
section
variable {P:Program}{w:World}{H:Hp}{h:Heap}{a:Addr}
theorem wO{u:HO}(ok:HOk P w H h)(e:Rd H a u):ObjOk P w H h a u:=e.ok ok
theorem w9{kvs:List (Key×V)}(ok:HOk P w H h)(e:Rd H a (.dK kvs)):kvs.length<=sizeLine/\(a==sysModules)=false/\∃vs,KV kvs vs/\h.DictOf (b9 P w) a vs :=
 show ObjOk P w H h a (.dK kvs) from wO ok e
theorem uj{ks:List Key}(ok:HOk P w H h)(e:H a=some (.tup (ks.map kV))):(tupleKind (b9 P w)).is h ks a:=by
 obtain ⟨_,its,r,o,h1,h2,n,h3⟩:=(show ObjOk P w H h a (.tup (ks.map kV)) from ok a _ e)
 exact ⟨o,its.toArray,n,h1,h2,h3,by simpa using kn r⟩
theorem w8{kvs:List (List Key×V)}(ok:HOk P w H h)(e:Rd H a (.dT kvs)):kvs.length<=sizeLine/\(a==sysModules)=false /\
  ∃xs,KT H kvs xs/\h.DictOfH (tupleKind (b9 P w)) a xs:=by
 obtain ⟨z,y,xs,r,o,es,ep,h1,h2,h3,h4,h5⟩:=(show ObjOk P w H h a (.dT kvs) from wO ok e)
 refine ⟨z,y,xs,r,o,es,ep,h1,h2,h3,h4,λx hx=>?_,h5⟩
 have all:∀{l:List (List Key×V)} {m:List (List Key×Addr×Value)},KT H l m->∀x∈m,(tupleKind (b9 P w)).is h x.1 x.2.1:=by
  intro l m q
  induction q with
  | nil=>intro x hx;exact nomatch hx
  | @cons p q ps qs hq t ih =>
   intro x hx
   rcases List.mem_cons.mp hx with e | hx
   ·subst e
    exact uj ok (by rw [← hq.1];exact hq.2.1)
   ·exact ih x hx
 exact all r x hx
end
def DGet(H:Hp)(a:Addr)(y:V)(r:Option V):Prop :=
 (∃kvs k,Rd H a (.dK kvs)/\y=kV k/\r=g6 kvs k)\/∃kvs k b,Rd H a (.dT kvs)/\y=.ref b/\H b=some (.tup (k.map kV))/\r=g6 kvs k
theorem DGet.k{H:Hp}{a:Addr}{kvs:List (Key×V)}{k:Key}(e:H a=some (.dK kvs)):DGet H a (kV k) (g6 kvs k):=.inl ⟨kvs,k,.inl e,rfl,rfl⟩
section
variable {X:Cx}{pins:List (Addr×Obj)}{σ:St}{H:Hp}{s:Shared}{a:Addr}{y v:V}{u r:Value}{o:Option V}{A:Around}{E:Value->Shared->Prop}
theorem Inv.big(I:Inv X pins σ H s):sysModules<s.heap.objs.size:=by
 have h:mainGlobals<s.heap.objs.size:=(I.mod.glob.keeps I.bk).lt
 exact Nat.lt_trans (by decide) h
theorem wv{Q:Value->Shared->Prop}(hu:A.units+1<cLine)(I:Inv X pins σ H s)(g:DGet H a y o)(ry:RelV y u)(h:∀s',Inv X pins σ H s'->Q (.bool (!o.isSome)) s') :
  wpAny (model X.prog X.w) A (compareOp .NotIn u (.ref a)) Q E s:=by
 rcases g with ⟨kvs,k,e,ey,l⟩ | ⟨kvs,k,b,e,ey,eb,l⟩
 ·subst ey
  obtain ⟨z,hd,vs,rel,dd⟩:=w9 I.hok e
  refine wpAny_notIn_of (wW ry) hd dd.mapOf ?_
  rw [← (rel.val k).isSome_eq,← l]
  exact h _ (I.tok _)
 ·subst ey
  cases (show u=Value.ref b from ry)
  obtain ⟨z,hd,xs,rel,dd⟩:=w8 I.hok e
  refine wpAny_notIn_heap (tupleKind_room_in1 hu) (uj I.hok eb) hd dd ?_
  have q:=(rel.val k).isSome_eq
  rw [Option.isSome_map] at q
  rw [← q,← l]
  exact h _ (I.tok _)
end
def uZ(ty td:TE):TE:=fun σ H Q=>ty σ H λy H1=>td σ H1 λx H2=>∃a o,x=.ref a/\DGet H2 a y o/\Q (.bl (!o.isSome)) H2
section
variable {X:Cx}{o i e value:Expr}{pos pos' tpos:Pos}{td ty tv:TE}
theorem qE(hu:X.A.units+1<cLine)(hi:PE X i ty)(ho:PE X o td):PC X .NotIn i o (uZ ty td):=by
 intro pins s σ H Q I h
 refine thn (hi pins s σ H _ I h) λiv s1 ⟨y,H1,I1,ry,q1⟩=>thn (ho pins s1 σ H1 _ I1 q1) λu s2 ⟨x,H2,I2,rx,a,ov,ex,g,q2⟩=>?_
 subst ex
 obtain rfl:u=Value.ref a:=rx
 exact wv hu I2 g ry λs3 I3=>⟨.bl (!ov.isSome),H2,I3,rfl,q2⟩
end
theorem uD{P:Program}{w:World}{H:Hp}(h:Heap)(hb:sysModules<h.objs.size):ObjOk P w H (h.push {cls:=.type "dict",data:=.dict #[]}) h.objs.size (.dK []) :=
 ⟨Nat.zero_le _,beq_eq_false_iff_ne.mpr (Ne.symm (Nat.ne_of_lt hb)),[],.nil,Heap.DictOf.new h⟩
theorem uC{P:Program}{w:World}{H:Hp}(h:Heap)(hb:sysModules<h.objs.size):ObjOk P w H (h.push {cls:=.type "dict",data:=.dict #[]}) h.objs.size (.dT []) :=
 ⟨Nat.zero_le _,beq_eq_false_iff_ne.mpr (Ne.symm (Nat.ne_of_lt hb)),[],.nil,_,#[],0,Heap.get?_push_size _ rfl,⟨rfl,rfl,rfl⟩,rfl,rfl,List.nodup_nil⟩
def xq:TE:=λ_ H Q=>∀p,H p=none->Q (.ref p) (upd H p (.dK []))
def xo:TE:=λ_ H Q=>∀p,H p=none->Q (.ref p) (upd H p (.dT []))
section
variable {X:Cx}{pos:Pos}
theorem sY:PE X (.Dict [] [] pos) xq:=λpins s σ H Q I h =>
 wpAny_Dict_empty ⟨.ref s.heap.objs.size,_,I.laid (a:=s.heap.objs.size) (o:=.dK []) (t':=s.toks) (λ_ _ q=>Heap.get?_push_of_some _ q) (Nat.le_refl _) (uD s.heap I.big),rfl,h _ (I.hok.fresh (Nat.le_refl _))⟩
theorem gN:PE X (.Dict [] [] pos) xo:=λpins s σ H Q I h =>
 wpAny_Dict_empty ⟨.ref s.heap.objs.size,_,I.laid (a:=s.heap.objs.size) (o:=.dT []) (t':=s.toks) (λ_ _ q=>Heap.get?_push_of_some _ q) (Nat.le_refl _) (uC s.heap I.big),rfl,h _ (I.hok.fresh (Nat.le_refl _))⟩
end
structure M1(X:Cx)(o:Expr)(m:Str)(apos:Pos)(e:Expr)(cpos:Pos):Prop where
 base:attributeBase o m X.env (eval o X.env)=eval o X.env
 few:((backTo cpos (starEach [e] X.env)).all (λx=>!x.1)&&(backToKw cpos (keywordEach [] X.env)).all (λx=>x.1.isSome)
  && decide (([e]:List Expr).length+([]:List Keyword).length+(if ([]:List Keyword).isEmpty then 0 else 1)<30))=true
 line:(apos.endLine==cpos.line)=true
 trees:backTo cpos (starEach [e] X.env)=[(false,eval e X.env)]
def IsD(H:Hp)(a:Addr):Prop:=(∃kvs,Rd H a (.dK kvs))\/∃kvs,Rd H a (.dT kvs)
theorem yA{X:Cx}{pins:List (Addr×Obj)}{σ:St}{H:Hp}{s:Shared}{a:Addr}(I:Inv X pins σ H s)(d:IsD H a) :
  s.TypeIs (.ref a) "dict"/\(∀b,Value.ref a=.ref b->∃ob,s.heap.get? b=some ob/\ob.dict=none)/\(a==sysModules)=false:=by
 rcases d with ⟨kvs,e⟩ | ⟨kvs,e⟩
 ·obtain ⟨_,hd,vs,_,dd⟩:=w9 I.hok e
  refine ⟨dd.typeIs,λb q=>?_,hd⟩
  cases q
  obtain ⟨ob,_,_,h1,h2,_⟩:=dd
  exact ⟨ob,h1,h2.2.1⟩
 ·obtain ⟨_,hd,xs,_,dd⟩:=w8 I.hok e
  refine ⟨dd.typeIs,λb q=>?_,hd⟩
  cases q
  obtain ⟨ob,_,_,h1,h2,_⟩:=dd
  exact ⟨ob,h1,h2.2.1⟩
end L2
namespace Lo
open PySem L2
def sPa(_:PySem.W.Frag)(H:Hp)(x:Pa)(v:V):Prop:=∃a,v=.ref a/\H a=some (.tup [.int x.1,.int x.2])
theorem sPa.keep{K:PySem.W.Frag}{H H':Hp}{x:Pa}{v:V}(e:bD H H')(h:sPa K H x v):sPa K H' x v:=by
 obtain ⟨a,rfl,q⟩:=h
 exact ⟨a,rfl,e _ _ q⟩
def pk(x:Pa):List Key:=[.inl x.1,.inl x.2]
end Lo
namespace L2
open PySem PySem.Spec PyProof.Rows
open Builtin Builtin.Str
theorem jy{y:Str}(hy:1<=y.length):∀ys:List Str,ys.length<=(Str.join y ys).length+1
 | []=>Nat.zero_le _
 | [_]=>by simp
 | a::u::ys=>by
  have ih:=jy hy (u::ys)
  rw [join_cons_cons]
  have e:(a++y++Str.join y (u::ys)).length=a.length+y.length+(Str.join y (u::ys)).length:=by
   show ((a.cps++y.cps)++(Str.join y (u::ys)).cps).size=_
   rw [Array.size_append,Array.size_append]
   rfl
  rw [e,List.length_cons]
  omega
section
variable {X:Cx}
theorem qN:MtR X "str.split" (λx vs H Q=>∃(z y:Str),x=.str z/\vs=[.str y]/\1<=y.length/\z.length<=1000000/\∀p,H p=none->Q (.ref p) (upd H p (.lst ((Txt.split z y).map V.str)))):=by
 intro pins s σ H x xs v us Q I rx r h
 obtain ⟨z,y,rfl,rfl,h1y,hz,q⟩:=h
 obtain ⟨t,rfl⟩:=rx
 obtain ⟨u,rfl,⟨t1,rfl⟩⟩:=cp r
 have hs:(1000002:Nat)<=sizeLine:=by decide
 have many:(Txt.split z y).length<=sizeLine:=by
  have:=jy h1y (Txt.split z y)
  rw [StrLaws.join_split] at this
  omega
 have fin:∀(l:List (Str×Tok)) (k:Nat),l.map (·.1)=Txt.split z y->EP X pins σ Q (.ref s.heap.objs.size) {s with toks:=k,heap:=s.heap.push {cls:=.type "list",data:=.seq (strValues l).toArray}}:=λl k el =>
  ⟨.ref s.heap.objs.size,_,I.laid (t':=k) (o:=.lst ((Txt.split z y).map V.str)) (λb o e=>Heap.get?_push_of_some _ e) (Nat.le_refl _)
   (show ObjOk X.prog X.w _ _ _ (.lst ((Txt.split z y).map V.str)) from ⟨by rw [List.length_map];exact many,strValues l,0,el▸gZ l,Heap.get?_push_size _ rfl⟩),rfl,q _ (I.hok.fresh (Nat.le_refl _))⟩
 have hy:(y.length==0)=false:=by
  cases e:y.length with
  | zero=>omega
  | succ n=>rfl
 cases h1:(decide (z.length<y.length)||decide (strKind z<strKind y)) with
 | true =>
  have es:Txt.split z y=[z]:=by unfold Txt.split;rw [if_pos h1]
  exact call_meets F.slot_str_split (typeIs_str _ _ _) F.entry_str_split (F.args_str_split_2 _ _) (meets_str_split_cannot_occur z y t t1 h1) (fin [(z,t)] s.toks es.symm)
 | false =>
  cases hf:(occurrences z y 0 z.length (z.length+1)).isEmpty with
  | true =>
   have es:Txt.split z y=[z]:=by unfold Txt.split;rw [if_neg (by rw [h1];decide),if_pos hf]
   exact call_meets F.slot_str_split (typeIs_str _ _ _) F.entry_str_split (F.args_str_split_2 _ _) (meets_str_split_not_found z y t t1 h1 hy hf) (fin [(z,t)] s.toks es.symm)
  | false =>
   have es:Txt.split z y=partsBetween z (occurrences z y 0 z.length (z.length+1)) y.length:=by unfold Txt.split;rw [if_neg (by rw [h1];decide),if_neg (by rw [hf];decide)]
   refine call_meets F.slot_str_split (typeIs_str _ _ _) F.entry_str_split (F.args_str_split_2 _ _) (meets_str_split_sep z y t t1 h1 hy hf (by omega) (by rw [← es];exact many)) ?_
   rw [strsFrom_eq]
   exact fin _ _ ((numbered_texts _ _).trans es.symm)
theorem v8:MtR X "str.partition" (λx vs H Q=>∃(z y:Str),x=.str z/\vs=[.str y]/\(y.length==0)=false/\z.length<=sizeLine /\
  ∀p,H p=none->Q (.ref p) (upd H p (.tup [.str (Txt.partition z y).1,.str (Txt.partition z y).2.1,.str (Txt.partition z y).2.2]))):=by
 intro pins s σ H x xs v us Q I rx r h
 obtain ⟨z,y,rfl,rfl,hy,hz,q⟩:=h
 obtain ⟨t,rfl⟩:=rx
 obtain ⟨u,rfl,⟨t1,rfl⟩⟩:=cp r
 have fin:∀(a b c:Str) (ta tb tc:Tok) (k:Nat),(∀p,H p=none->Q (.ref p) (upd H p (.tup [.str a,.str b,.str c]))) ->
   EP X pins σ Q (.ref s.heap.objs.size) {s with toks:=k,heap:=s.heap.push {cls:=.type "tuple",data:=.seq [Value.str a ta,Value.str b tb,Value.str c tc].toArray}}:=λa b c ta tb tc k hq =>
  ⟨.ref s.heap.objs.size,_,I.laid (t':=k) (o:=.tup [.str a,.str b,.str c]) (λb o e=>Heap.get?_push_of_some _ e) (Nat.le_refl _)
   (show ObjOk X.prog X.w _ _ _ (.tup [.str a,.str b,.str c]) from ⟨by show 3<=sizeLine;decide,_,.cons ⟨ta,rfl⟩ (.cons ⟨tb,rfl⟩ (.cons ⟨tc,rfl⟩ .nil)),IsTup.new _ _⟩),rfl,hq _ (I.hok.fresh (Nat.le_refl _))⟩
 refine call_meets F.slot_str_partition (typeIs_str _ _ _) F.entry_str_partition (F.args_str_partition_2 _ _) (meets_str_partition z y t t1 hy hz) ?_
 unfold Txt.partition at q
 cases e:occurrences z y 0 z.length 1 with
 | nil=>rw [e] at q;exact fin _ _ _ _ _ _ _ q
 | cons i r=>rw [e] at q;exact fin _ _ _ _ _ _ _ q
end
end L2
namespace Km
open PySem PySem.NumText PyProof.Rows
def ni(c:Nat):Bool:=decide (48<=c)&&decide (c<=57)
def oK(c:Nat):Bool:=decide (32<=c)&&decide (c<=126)&&decide (c≠37)
def aY(m:Nat):List Nat:=(Nat.toDigits 10 m).map Char.toNat
def bJ(n:Int):List Nat:=if n<0 then 45::aY n.natAbs else aY n.natAbs
theorem gT(m:Nat):AllDigits (aY m):=by
 intro c hc
 obtain ⟨ch,hch,e⟩:=List.mem_map.mp hc
 have r:=digit_range (Nat.isDigit_of_mem_toDigits (by decide) (by decide) hch)
 rw [← e]
 exact r
theorem lW(m:Nat):aY m≠[]:=by
 intro e
 have h:=toDigits_len_ge 10 m
 rw [List.map_eq_nil_iff.mp e] at h
 exact absurd h (by decide)
theorem gR(m:Nat):digitsVal (aY m)=m:=PySem.W.KIN.val_back m
theorem re:aY 0=[48]:=rfl
theorem rg(m:Nat)(h:m≠0):∀c r,aY m=c::r->c≠48:=by
 induction m using Nat.strongRecOn with
 | _ m ih =>
  intro c r e
  by_cases hm:m<10
  ·unfold aY at e
   rw [Nat.toDigits_of_lt_base hm] at e
   have hc:(Nat.digitChar m).toNat=c:=by simpa using (List.cons.inj e).1
   have key:∀d:Nat,d<10->d≠0->(Nat.digitChar d).toNat≠48:=by decide
   rw [← hc]
   exact key m hm h
  ·have t:Nat.toDigits 10 (m/10)++Nat.toDigits 10 (m%10)=Nat.toDigits 10 (10*(m/10)+m%10):=Nat.toDigits_append_toDigits (by decide) (by omega) (Nat.mod_lt m (by decide))
   rw [Nat.div_add_mod] at t
   have e2:aY m=aY (m/10)++aY (m%10):=by unfold aY;rw [← t,List.map_append]
   cases q:aY (m/10) with
   | nil=>exact absurd q (lW _)
   | cons c' r' =>
    rw [e2,q] at e
    have:c'=c:=(List.cons.inj e).1
    rw [← this]
    exact ih (m/10) (by omega) (by omega) c' r' q
theorem gS{m k:Nat}(hk:1<=k)(h:m<10 ^ k):(aY m).length<=k:=by
 induction k generalizing m with
 | zero=>omega
 | succ k ih =>
  by_cases hm:m<10
  ·unfold aY
   rw [Nat.toDigits_of_lt_base hm]
   simp
  ·have hk1:1<=k:=by
    cases k with
    | zero=>exfalso;simp at h;omega
    | succ k=>omega
   have t:Nat.toDigits 10 (m/10)++Nat.toDigits 10 (m%10)=Nat.toDigits 10 (10*(m/10)+m%10):=Nat.toDigits_append_toDigits (by decide) (by omega) (Nat.mod_lt m (by decide))
   rw [Nat.div_add_mod] at t
   have e2:aY m=aY (m/10)++aY (m%10):=by unfold aY;rw [← t,List.map_append]
   have e3:aY (m%10)=[(Nat.digitChar (m%10)).toNat]:=by unfold aY;rw [Nat.toDigits_of_lt_base (Nat.mod_lt m (by decide))];rfl
   have h2:m/10<10 ^ k:=by
    rw [Nat.pow_succ] at h
    exact Nat.div_lt_of_lt_mul (by rw [Nat.mul_comm];exact h)
   have:=ih hk1 h2
   rw [e2,e3,List.length_append]
   simpa using this
theorem iO(n:Int):(Str.ofString (toString n)).cps.toList=bJ n:=by
 cases n with
 | ofNat m =>
  unfold bJ
  rw [if_neg (show ¬Int.ofNat m<0 from Int.not_lt.mpr (Int.natCast_nonneg m))]
  exact PySem.W.KIN.signs_num m
 | negSucc m =>
  unfold bJ
  rw [if_pos (by omega)]
  have e:toString (Int.negSucc m)="-"++Nat.repr (m+1):=rfl
  rw [e,signs_ofString,String.toList_append,List.map_append,Nat.toList_repr]
  rfl
theorem yh{n:Int}(h:n.natAbs<10 ^ 400):n.natAbs.log2<1920:=by
 by_cases h0:n.natAbs=0
 ·rw [h0];decide
 ·exact (Nat.log2_lt h0).mpr (Nat.lt_of_lt_of_le h (by decide +kernel))
end Km
namespace Km
open PySem PySem.NumText L2
end Km
namespace Km
open PySem PySem.NumText L2 PyProof.Rows
def bO(c:Nat):List (List Nat)->List Nat
 | []=>[]
 | [x]=>x
 | x::y::r=>x++c::bO c (y::r)
theorem bM(c:Nat):∀ys:List Str,(Str.join ⟨#[c]⟩ ys).cps.toList=bO c (ys.map λy=>y.cps.toList)
 | []=>rfl
 | [y]=>rfl
 | y::u::ys=>by
  have ih:=bM c (u::ys)
  rw [join_cons_cons]
  show ((y.cps++#[c])++(Str.join ⟨#[c]⟩ (u::ys)).cps).toList=_
  rw [Array.toList_append,Array.toList_append,ih]
  simp [bO]
theorem kz{c:Nat}{a b a' b':List Nat}(ha:c∉a)(ha':c∉a')(e:a++c::b=a'++c::b'):a=a'/\b=b':=by
 induction a generalizing a' with
 | nil =>
  cases a' with
  | nil=>exact ⟨rfl,(List.cons.inj e).2⟩
  | cons x a'=>exact absurd (List.mem_cons.mpr (.inl (List.cons.inj e).1)) ha'
 | cons x a ih =>
  cases a' with
  | nil=>exact absurd (List.mem_cons.mpr (.inl (List.cons.inj e).1.symm)) ha
  | cons y a' =>
   obtain ⟨e1,e2⟩:=List.cons.inj e
   obtain ⟨r1,r2⟩:=ih (λh=>ha (List.mem_cons_of_mem _ h)) (λh=>ha' (List.mem_cons_of_mem _ h)) e2
   exact ⟨by rw [e1,r1],r2⟩
theorem km{c:Nat}:∀{xs ys:List (List Nat)},xs≠[]->ys≠[]->(∀x∈xs,c∉x)->(∀y∈ys,c∉y)->bO c xs=bO c ys->xs=ys
 | [],_,h,_,_,_,_=>absurd rfl h
 | _::_,[],_,h,_,_,_=>absurd rfl h
 | [x],[y],_,_,_,_,e=>by rw [show x=y from e]
 | [x],y::u::ys,_,_,hx,_,e=>by
  have e':x=y++c::bO c (u::ys):=e
  exact absurd (by rw [e'];simp) (hx x List.mem_cons_self)
 | x::u::xs,[y],_,_,_,hy,e=>by
  have e':x++c::bO c (u::xs)=y:=e
  exact absurd (by rw [← e'];simp) (hy y List.mem_cons_self)
 | x::u::xs,y::v::ys,_,_,hx,hy,e=>by
  have e':x++c::bO c (u::xs)=y++c::bO c (v::ys):=e
  obtain ⟨e1,e2⟩:=kz (hx x List.mem_cons_self) (hy y List.mem_cons_self) e'
  rw [e1,km (by simp) (by simp) (λz hz=>hx z (List.mem_cons_of_mem _ hz)) (λz hz=>hy z (List.mem_cons_of_mem _ hz)) e2]
theorem rR{z:Str}{c:Nat}{ps:List (List Nat)}(ez:z.cps.toList=bO c ps)(h0:ps≠[])(hp:∀p∈ps,c∉p):Txt.split z ⟨#[c]⟩=ps.map λp=>(⟨p.toArray⟩:Str):=by
 have e1:=bM c (Txt.split z ⟨#[c]⟩)
 rw [StrLaws.join_split,ez] at e1
 have n1:(Txt.split z ⟨#[c]⟩).map (λy=>y.cps.toList)≠[]:=by
  intro e
  have:=split_pos z ⟨#[c]⟩
  rw [List.map_eq_nil_iff.mp e] at this
  exact absurd this (by decide)
 have e2:=km h0 n1 hp (λy hy=>by
  obtain ⟨p,hp',rfl⟩:=List.mem_map.mp hy
  exact StrLaws.split_free z c p hp') e1
 rw [e2,List.map_map]
 have e3:((λp:List Nat=>(⟨p.toArray⟩:Str))∘λy:Str=>y.cps.toList)=id:=by
  funext y
  obtain ⟨a⟩:=y
  simp
 rw [e3,List.map_id]
end Km
namespace St
open PySem L2 Lo Km PySem.NumText
inductive Wd where
 | take | mean | sum | give | add | plus | need
 deriving DecidableEq
def wS:Wd->Str
 | .take=>"take" | .mean=>"mean" | .sum=>"sum" | .give=>"give" | .add=>"add" | .plus=>"plus" | .need=>"need"
def wN:Wd->Str
 | .take=>"TakeStep" | .mean=>"MeanStep" | .sum=>"SumStep" | .give=>"GiveStep" | .add=>"AddStep" | .plus=>"PlusStep" | .need=>"NeedStep"
def inN(i:Int):Prop:=0<=i/\i<10 ^ 40
def inV(i:Int):Prop:=i.natAbs<10 ^ 40
theorem inN.v{i:Int}(h:inN i):inV i:=by
 unfold inN at h
 unfold inV
 omega
def Ar:Wd->List Int->Prop
 | .take,[h,c]=>inN h/\inN c
 | .mean,[h,c]=>inN h/\inN c
 | .give,[h,c]=>inN h/\inN c
 | .sum,[h,a,b]=>inN h/\inN a/\inN b/\a<=b
 | .add,[h,c,v]=>inN h/\inN c/\inV v
 | .plus,[v]=>inV v
 | .need,[v]=>inV v
 | _,_=>False
theorem Ar.all{w:Wd}{ns:List Int}(h:Ar w ns):∀i∈ns,inV i:=by
 unfold Ar at h
 split at h
 ·intro i hi;simp only [List.mem_cons,List.mem_nil_iff,or_false] at hi;rcases hi with rfl | rfl<;>first | exact h.1.v | exact h.2.v
 ·intro i hi;simp only [List.mem_cons,List.mem_nil_iff,or_false] at hi;rcases hi with rfl | rfl<;>first | exact h.1.v | exact h.2.v
 ·intro i hi;simp only [List.mem_cons,List.mem_nil_iff,or_false] at hi;rcases hi with rfl | rfl<;>first | exact h.1.v | exact h.2.v
 ·intro i hi;simp only [List.mem_cons,List.mem_nil_iff,or_false] at hi;rcases hi with rfl | rfl | rfl<;>first | exact h.1.v | exact h.2.1.v | exact h.2.2.1.v
 ·intro i hi;simp only [List.mem_cons,List.mem_nil_iff,or_false] at hi;rcases hi with rfl | rfl | rfl<;>first | exact h.1.v | exact h.2.1.v | exact h.2.2
 ·intro i hi;simp only [List.mem_cons,List.mem_nil_iff,or_false] at hi;rcases hi with rfl;exact h
 ·intro i hi;simp only [List.mem_cons,List.mem_nil_iff,or_false] at hi;rcases hi with rfl;exact h
 ·exact h.elim
def iS(i:Int):Str:=Str.ofString (toString i)
theorem gD{i:Int}(h:inV i):(iS i).length<=41:=by
 have e:(iS i).length=(bJ i).length:=by
  unfold iS
  rw [← iO]
  simp [Str.length]
 rw [e]
 unfold bJ
 have:=gS (k:=40) (by decide) h
 split
 ·rw [List.length_cons];omega
 ·omega
theorem ye(i:Int):32∉bJ i:=by
 have hd:∀m,32∉aY m:=λm hm=>by
  have:=gT m
  have h:=this 32 hm
  omega
 unfold bJ
 split
 ·intro hm
  rcases List.mem_cons.mp hm with e | e
  ·cases e
  ·exact hd _ e
 ·exact hd _
def txt(w:Wd)(ns:List Int):Str:=Str.join (Str.ofString " ") (wS w::ns.map iS)
theorem yN(w:Wd):32∉(wS w).cps.toList:=by cases w<;>decide +kernel
theorem rF(w:Wd):(wS w).length<=4:=by cases w<;>decide +kernel
theorem fe:(Str.ofString " ")=⟨#[32]⟩:=by decide +kernel
theorem qo(w:Wd)(ns:List Int):Txt.split (txt w ns) ⟨#[32]⟩=wS w::ns.map iS:=by
 have e:=bM 32 (wS w::ns.map iS)
 have e2:(txt w ns).cps.toList=bO 32 ((wS w::ns.map iS).map λy=>y.cps.toList):=by
  unfold txt
  rw [fe]
  exact e
 rw [rR e2 (by simp) (λp hp=>?_)]
 ·rw [List.map_map]
  have e3:((λp:List Nat=>(⟨p.toArray⟩:Str))∘λy:Str=>y.cps.toList)=id:=by
   funext y
   obtain ⟨a⟩:=y
   simp
  rw [e3,List.map_id]
 ·obtain ⟨y,hy,rfl⟩:=List.mem_map.mp hp
  rcases List.mem_cons.mp hy with e | hy
  ·rw [e];exact yN w
  ·obtain ⟨i,_,rfl⟩:=List.mem_map.mp hy
   have e4:(iS i).cps.toList=bJ i:=iO i
   rw [e4]
   exact ye i
theorem Ar.len{w:Wd}{ns:List Int}(h:Ar w ns):1<=ns.length/\ns.length<=3:=by
 unfold Ar at h
 split at h<;>first | exact h.elim | (constructor<;>simp)
theorem rQ{ys:List Str}{k:Nat}(h:∀y∈ys,y.length<=k):(ys.map (·.length)).sum<=ys.length*k:=by
 induction ys with
 | nil=>simp
 | cons y ys ih =>
  have h1:=h y List.mem_cons_self
  have h2:=ih λy hy=>h y (List.mem_cons_of_mem _ hy)
  rw [List.map_cons,List.sum_cons,List.length_cons,Nat.succ_mul]
  omega
theorem rD{w:Wd}{ns:List Int}(h:Ar w ns):∀y∈wS w::ns.map iS,y.length<=41:=λy hy=>by
 rcases List.mem_cons.mp hy with e | hy
 ·rw [e];exact Nat.le_trans (rF w) (by decide)
 ·obtain ⟨i,hi,rfl⟩:=List.mem_map.mp hy
  exact gD (h.all i hi)
theorem gX{w:Wd}{ns:List Int}(h:Ar w ns):((wS w::ns.map iS).map (·.length)).sum+(wS w::ns.map iS).length*(Str.ofString " ").length<=1000:=by
 have h1:=rQ (rD h)
 have h2:=h.len
 have h3:(Str.ofString " ").length=1:=by decide +kernel
 rw [h3]
 have h4:(wS w::ns.map iS).length<=4:=by rw [List.length_cons,List.length_map];omega
 have h5:(wS w::ns.map iS).length*41<=4*41:=Nat.mul_le_mul_right _ h4
 omega
def uw:Wd->List Int->List (Str×V)
 | .take,[h,c]=>ak "cell" (.int c) (ak "where" (.int h) [])
 | .mean,[h,c]=>ak "cell" (.int c) (ak "where" (.int h) [])
 | .give,[h,c]=>ak "cell" (.int c) (ak "where" (.int h) [])
 | .sum,[h,a,b]=>ak "high" (.int b) (ak "low" (.int a) (ak "where" (.int h) []))
 | .add,[h,c,v]=>ak "amount" (.int v) (ak "cell" (.int c) (ak "where" (.int h) []))
 | .plus,[v]=>ak "amount" (.int v) []
 | .need,[v]=>ak "amount" (.int v) []
 | _,_=>[]
def StO(C:Wd->Addr)(H:Hp)(w:Wd)(ns:List Int)(v:V):Prop:=∃a dx,v=.ref a/\H a=some (.ins (C w) dx (uw w ns))
theorem StO.keep{C:Wd->Addr}{H H':Hp}{w:Wd}{ns:List Int}{v:V}(e:Same H H')(h:StO C H w ns v):StO C H' w ns v:=by
 obtain ⟨a,dx,rfl,q⟩:=h
 exact ⟨a,dx,rfl,e _ _ q⟩
def aH:Wd->List Int->V
 | .plus,_=>.non
 | .need,_=>.non
 | _,h::_=>.int h
 | _,[]=>.non
end St
namespace L2
open PySem PySem.Spec PyProof.Rows
section
variable {X:Cx}{CX:CXT}{E:XK}{k:Nat}{C f:Addr}{fd:FuncData}{ps:List Str}{sp:Sp}{m:Str}{o e:Expr}{es:List Expr}{t:TA}{ty:TE}{pos apos cpos p:Pos}{mc:Value}
structure uR(K:PySem.W.Frag)(C:Addr)(m:Str)(f:Addr):Prop where
 ga:PySem.W.specialIn K (.ref C) "__getattribute__"=some (some (.builtin "type.__getattribute__"))
 rd:PySem.W.readsIn K C (.type "type")=true
 fc:PySem.W.findCls K (.ref C) (.type "type") m=some (.val (.ref f))
 hi:PySem.W.handedIn (.ref f)=true
 kp:PySem.W.keepIn K (.ref f)=true
theorem pS{pl:Sem Bool}(ho:PE X o (tC (.ref C)))(c:uR X.K C m f)(F:FnOk X.prog X.w X.K X.mg X.base CX k f fd ps sp)(hr:Room k X.A)(hb:Binds X.K fd ps [])(hx:dz CX X E)(ha:PA X (e::es) t)
  (hst:starEach (e::es) X.env=(false,eval e X.env)::starEach es X.env:=by rfl)(hpl:(backTo pos (starEach es X.env)).any (·.1)=false:=by rfl)
  (ht:eval (.Call (.Attribute o m apos) (e::es) [] pos) X.env=(do
   let ov ← eval o X.env
   standAt apos.atName
   let (f,first) ← holding [ov] (getMethod ov m pl)
   callWith pos f first (backTo pos (starEach (e::es) X.env)) (backToKw pos (keywordEach [] X.env))):=by rfl) :
  PE X (.Call (.Attribute o m apos) (e::es) [] pos) (rO sp [] E t):=by
 intro pins s σ H Q I h
 refine PySem.W.methodCall_KW (pl:=pl) (thn (ho pins s σ H (λx H1=>x=.ref C/\t σ H1 λvs H2=>sp (vs++[]) H2 Q E) I ⟨rfl,h⟩) λu s1 ⟨x,H1,I1,rx,ex,q⟩=>?_) ht
 subst ex
 obtain rfl:u=Value.ref C:=rx
 refine PySem.W.method_cls I1.kIn c.ga (PySem.W.cls_value I1.kIn c.rd c.fc c.hi ?_)
 have I2:Inv X pins σ H1 {s1 with toks:=s1.toks+1}:=I1.tok _
 refine PySem.W.callWith_K (first:=[]) (h₀:=X.base) I.ok.mod.kin c.kp (thn (ha pos pins _ σ H1 _ I2 q) λus s2 ⟨vs,H2,I3,r,q2⟩=>⟨I3.kIn,?_⟩) hst hpl
 exact lC (us:=us) (vs:=vs) F hr hb .nil hx I3 r q2
theorem vv{a:Addr}{D:List (Str×KTD.Dat)}(ho:PE X o (tC (.ref a)))(he:PE X e ty)(mm:M1 X o "get" apos e cpos)(ht:TabK X.K a D) :
  PE X (.Call (.Attribute o "get" apos) [e] [] cpos) (fun σ H Q=>ty σ H λy H1=>∃k z,y=.str k/\KTD.datumAt k D=some (.flat (.str z))/\Q (.str z) H1):=by
 intro pins s σ H Q I h
 refine wpAny_Call_method mm.base mm.few mm.line PySem.F.plainAttrs_dict PySem.F.slot_dict_get PySem.F.type_dict_get (thn (ho pins s σ H (λx H1=>x=.ref a/\ty σ H1 λy H1=>∃k z,y=.str k/\KTD.datumAt k D=some (.flat (.str z))/\Q (.str z) H1) I ⟨rfl,h⟩) λu s1 ⟨x,H1,I1,rx,ex,q1⟩=>?_)
 subst ex
 obtain rfl:u=Value.ref a:=rx
 have T1:KTD.Here s1.heap s1.heap a D:=⟨ht.at I1.kIn,λ_ _ e=>e⟩
 refine ⟨T1.typeIs,T1.noDict,?_⟩
 rw [mm.trees]
 refine Calls.callWith_builtin rfl (Calls.evalArgs_plain (Calls.spliced_cons (thn (he pins s1 σ H1 _ I1 q1) λiv s2 ⟨y,H2,I2,ry,k,z,ek,hd,q2⟩=>Calls.spliced_nil ?_)))
 subst ek
 obtain ⟨tk,rfl⟩:=ry
 refine KTD.get1_textL (h₀:=s2.heap) ⟨ht.at I2.kIn,λ_ _ e=>e⟩ ?_ (p4 hd (KTD.opened_str λt'=>⟨.str z,H2,I2.tok _,⟨_,rfl⟩,q2⟩))
 rw [← KTD.isSome_datumAt,hd]
 rfl
theorem oM:MtR X "str.lstrip" (λx vs H Q=>∃z y,x=.str z/\vs=[.str y]/\z.length<=sizeLine/\Q (.str (Txt.lstripChars z y)) H):=by
 intro pins s σ H x xs v us Q I rx r h
 obtain ⟨z,y,rfl,rfl,hz,q⟩:=h
 obtain ⟨t,rfl⟩:=rx
 obtain ⟨u,rfl,⟨t1,rfl⟩⟩:=cp r
 exact SC.lstripChars (λt' k=>⟨.str _,H,I.tok _,⟨_,rfl⟩,q⟩) hz
theorem xF{te:TE}(h:PE X.nox e te):PEX X e (fun σ H Q _=>te σ H Q):=by
 intro pins s σ H Q E I q
 exact nox (h pins s σ H _ (I.wish _) q) λv s1 ⟨x,H1,I1,r,q1⟩=>⟨x,H1,I1.unwish,r,q1⟩
end
end L2
namespace St
open PySem L2 Lo Km PySem.NumText
structure TxW(K:PySem.W.Frag)(CW:Wd->Addr):Prop where
 cl:∀w,Cls K (CW w)
 nW:∀w,NoAttr K (CW w) "where"
 nC:∀w,NoAttr K (CW w) "cell"
 nL:∀w,NoAttr K (CW w) "low"
 nH:∀w,NoAttr K (CW w) "high"
 nA:∀w,NoAttr K (CW w) "amount"
def isC:Wd->Bool
 | .take=>true | .mean=>true | .give=>true | _=>false
theorem bu{f:Str}{v:V}{fs:List (Str×V)}:(ak f v fs).lookup f=some v:=by rw [aw,if_pos rfl]
theorem aU{f g:Str}{v:V}{fs:List (Str×V)}(h:¬g=f):(ak f v fs).lookup g=fs.lookup g:=by rw [aw,if_neg h]
section
variable (CW:Wd->Addr)
def fV(w:Wd):Sp:=λvs H Q _=>∃a dx ns,vs=.ref a::(ns:List Int).map V.int/\Ar w ns/\H a=some (.ins (CW w) dx [])/\∀H',H' a=some (.ins (CW w) dx (uw w ns))->Kp a H H'->Q .non H'
def kY:Sp:=λvs H Q _=>∃a dx w h c,vs=[.ref a,.int h,.int c]/\H a=some (.ins (CW w) dx [])/\∀H',H' a=some (.ins (CW w) dx (ak "cell" (.int c) (ak "where" (.int h) [])))->Kp a H H'->Q .non H'
def fX(w:Wd):Sp:=λvs H Q _=>∃v ns,vs=[v]/\Ar w ns/\StO CW H w ns v/\Q (aH w ns) H
def bQ(w:Wd):Sp:=λvs H Q _=>∃v ns,vs=[v]/\Ar w ns/\StO CW H w ns v/\∀H',Same H H'->Q (.str (txt w ns)) H'
end
def c9:Sp:=λvs H Q _=>∃w q ns,vs=[.str (wS w),.ref q]/\H q=some (.lst ((ns:List Int).map V.int))/\Ar w ns/\∀H',Same H H'->Q (.str (txt w ns)) H'
theorem jr{i:Int}(h:inV i):i.natAbs.log2<1920:=by
 by_cases h0:i.natAbs=0
 ·rw [h0];decide
 ·exact (Nat.log2_lt h0).mpr (Nat.lt_trans h (by decide +kernel))
theorem Ar.c{w:Wd}{ns:List Int}(hw:isC w=true)(h:Ar w ns):∃a b,ns=[a,b]/\inN a/\inN b/\uw w ns=ak "cell" (.int b) (ak "where" (.int a) []):=by
 cases w<;>first | cases hw | skip
 all_goals
  match ns,h with
  | [a,b],h=>exact ⟨a,b,rfl,h.1,h.2,rfl⟩
theorem Ar.s{ns:List Int}(h:Ar .sum ns):∃a b c,ns=[a,b,c]/\inN a/\inN b/\inN c/\b<=c:=by
 match ns,h with
 | [a,b,c],h=>exact ⟨a,b,c,rfl,h⟩
theorem Ar.a{ns:List Int}(h:Ar .add ns):∃a b c,ns=[a,b,c]/\inN a/\inN b/\inV c:=by
 match ns,h with
 | [a,b,c],h=>exact ⟨a,b,c,rfl,h⟩
theorem Ar.p{ns:List Int}(h:Ar .plus ns):∃a,ns=[a]/\inV a:=by
 match ns,h with
 | [a],h=>exact ⟨a,rfl,h⟩
theorem Ar.n{ns:List Int}(h:Ar .need ns):∃a,ns=[a]/\inV a:=by
 match ns,h with
 | [a],h=>exact ⟨a,rfl,h⟩
end St
namespace St
open PySem PySem.Spec PyProof.Rows L2 Lo Km PySem.NumText
section
variable {K:PySem.W.Frag}{H:Hp}{a:Addr}{bl:L2.St}{te:TE}{Fin:List V->Hp->Prop}
theorem wb{g:Int->V}{ns:List Int}(hq:SqL K H a (ns.map V.int))(hn:ns.length<=sizeLine)
  (he:∀i H1 (Q:VK),i∈ns->Same H H1->(∀H2,Same H1 H2->Q (g i) H2)->te (some (.int i)::bl) H1 Q)
  (hd:∀H1,Same H H1->Fin (ns.map g) H1) :
  ∃(W:Nat->List V->Hp->Prop) (n:Nat),W 0 [] H/\n<=sizeLine/\∀i ys H,W i ys H->((Itl K a).stop i H/\Fin ys H) \/
   ((Itl K a).go i H/\i<n/\∀x H',(Itl K a).yld i H x H'->u6 (some x::bl) H' λc H2=>if c=true then te (some x::bl) H2 λy H3=>W (i+1) (ys++[y]) H3 else W (i+1) ys H2):=by
 refine iU (tt:=u6) (xs:=ns.map V.int) (λi ys H1=>Same H H1/\ys=(ns.take i).map g) ⟨Same.refl _,rfl⟩ (by rw [List.length_map];exact hn) (λi ys H1 _ z=>z.1.seq hq) ?_ ?_
 ·rintro i x ys H1 hx ⟨s1,rfl⟩
  rw [List.getElem?_map] at hx
  obtain ⟨n,hn,rfl⟩:=Option.map_eq_some_iff.mp hx
  refine j6 (he n H1 _ (List.mem_of_getElem? hn) s1 λH2 s2=>⟨s1.trans s2,?_⟩)
  rw [List.take_add_one,hn]
  simp
 ·rintro ys H1 ⟨s1,rfl⟩
  rw [List.length_map,List.take_length]
  exact hd H1 s1
end
theorem at0{x:V}{xs:List V}:atI (x::xs) 0=some x:=bn (j:=0) rfl
theorem at1{x y:V}{xs:List V}:atI (x::y::xs) 1=some y:=bn (j:=1) rfl
theorem at2{x y z:V}{xs:List V}:atI (x::y::z::xs) 2=some z:=bn (j:=2) rfl
theorem xh{a b:Wd}(h:wS a=wS b):a=b:=by
 cases a<;>cases b<;>first | rfl | exact absurd h (by decide +kernel)
theorem iX{a b:Wd}(c:decide (V.str (wS a)=V.str (wS b))=true):a=b:=xh (V.str.inj (of_decide_eq_true c))
theorem gY{a b:Wd}(c:¬decide (V.str (wS a)=V.str (wS b))=true):a≠b:=λe=>c (by rw [e];exact decide_eq_true rfl)
theorem xg{a:Wd}(h1:a≠.take)(h2:a≠.mean)(h3:a≠.sum)(h4:a≠.give)(h5:a≠.add)(h6:a≠.plus):a=.need:=by
 cases a<;>first | rfl | contradiction
def shp:Wd->Str
 | .take=>"HC" | .mean=>"HC" | .sum=>"HAB" | .give=>"HC" | .add=>"HCV" | .plus=>"V" | .need=>"V"
def iT:List (Str×PyProof.Rows.KTD.Dat):=[("take",.flat (.str "HC")),("mean",.flat (.str "HC")),("sum",.flat (.str "HAB")),("give",.flat (.str "HC")),("add",.flat (.str "HCV")),("plus",.flat (.str "V")),("need",.flat (.str "V"))]
theorem sA(w:Wd):PyProof.Rows.KTD.datumAt (wS w) iT=some (.flat (.str (shp w))):=by
 cases w<;>kernel_rfl
theorem ve{w:Wd}{ns:List Int}(h:Ar w ns):(shp w).length=ns.length:=by
 unfold Ar at h
 split at h<;>first | exact h.elim | kernel_rfl
theorem i6(w:Wd):(shp w).length<=sizeLine:=by cases w<;>decide +kernel
theorem dq{i:Int}{p:Prop}(h:inN i):i<0->p:=λz=>absurd z (by unfold inN at h;omega)
theorem xu{w:Wd}{ns:List Int}{k:Nat}{i:Int}(h:Ar w ns)(hi:ns[k]?=some i):∃c,(shp w).cps.toList[k]?=some c/\(i<0->c=86):=by
 unfold Ar at h
 split at h
 ·rcases k with _ | _ | k
  ·cases hi;exact ⟨72,by decide +kernel,dq h.1⟩
  ·cases hi;exact ⟨67,by decide +kernel,dq h.2⟩
  ·simp at hi
 ·rcases k with _ | _ | k
  ·cases hi;exact ⟨72,by decide +kernel,dq h.1⟩
  ·cases hi;exact ⟨67,by decide +kernel,dq h.2⟩
  ·simp at hi
 ·rcases k with _ | _ | k
  ·cases hi;exact ⟨72,by decide +kernel,dq h.1⟩
  ·cases hi;exact ⟨67,by decide +kernel,dq h.2⟩
  ·simp at hi
 ·rcases k with _ | _ | _ | k
  ·cases hi;exact ⟨72,by decide +kernel,dq h.1⟩
  ·cases hi;exact ⟨65,by decide +kernel,dq h.2.1⟩
  ·cases hi;exact ⟨66,by decide +kernel,dq h.2.2.1⟩
  ·simp at hi
 ·rcases k with _ | _ | _ | k
  ·cases hi;exact ⟨72,by decide +kernel,dq h.1⟩
  ·cases hi;exact ⟨67,by decide +kernel,dq h.2.1⟩
  ·cases hi;exact ⟨86,by decide +kernel,λ_=>rfl⟩
  ·simp at hi
 ·rcases k with _ | k
  ·cases hi;exact ⟨86,by decide +kernel,λ_=>rfl⟩
  ·simp at hi
 ·rcases k with _ | k
  ·cases hi;exact ⟨86,by decide +kernel,λ_=>rfl⟩
  ·simp at hi
 ·exact h.elim
theorem nk(i:Int):(iS i).cps.toList=bJ i:=iO i
theorem t9{i:Int}{c:Nat}(h:c∈bJ i):c=45\/(48<=c/\c<=57):=by
 have hd:∀m,c∈aY m->48<=c/\c<=57:=λm hm=>gT m c hm
 unfold bJ at h
 split at h
 ·rcases List.mem_cons.mp h with e | e
  ·exact .inl e
  ·exact .inr (hd _ e)
 ·exact .inr (hd _ h)
theorem oR{i:Int}(h:inV i):(Txt.lstripChars (iS i) (Str.ofString "-")).length<=40:=by
 have e:(Str.ofString "-")=⟨#[45]⟩:=by decide +kernel
 have hd:=gS (k:=40) (by decide) h
 have hs:(iS i).cps.size=(bJ i).length:=by rw [← nk];simp
 rw [e]
 unfold Txt.lstripChars
 rw [stripBy_eq]
 generalize hL:stripLo ((⟨#[45]⟩:Str).cps.contains) true (iS i)=lo
 show ((iS i).cps.extract lo (iS i).length).size<=40
 rw [Array.size_extract]
 by_cases hi:i<0
 ·have h1:1<=lo:=by
   rw [← hL]
   show 1<=((iS i).cps.toList.takeWhile (λc=>(⟨#[45]⟩:Str).cps.contains c)).length
   rw [nk]
   unfold bJ
   rw [if_pos hi,List.takeWhile_cons,if_pos (by decide +kernel)]
   simp
  have h2:(bJ i).length<=41:=by
   unfold bJ
   rw [if_pos hi,List.length_cons]
   omega
  omega
 ·have h2:(bJ i).length<=40:=by
   unfold bJ
   rw [if_neg hi]
   exact hd
  omega
theorem wl{i:Int}(h:inV i):(iS i).length<=100000:=Nat.le_trans (gD h) (by decide)
theorem iq(c:Nat):∀ls:List (List Nat),(bO c ls).length<=(ls.map (·.length)).sum+ls.length
 | []=>Nat.zero_le _
 | [x]=>by simp [bO]
 | x::y::r=>by
  have h:=iq c (y::r)
  show (x++c::bO c (y::r)).length<=_
  rw [List.length_append,List.length_cons,List.map_cons,List.sum_cons,List.length_cons (a:=x)]
  omega
theorem uV{wd:Wd}{ns:List Int}(h:Ar wd ns):(txt wd ns).length<=1000000:=by
 have e2:(txt wd ns).cps.toList=bO 32 ((wS wd::ns.map iS).map λy=>y.cps.toList):=by
  unfold txt
  rw [fe]
  exact bM 32 _
 have e3:(txt wd ns).length=(txt wd ns).cps.toList.length:=by simp [Str.length]
 have h1:=iq 32 ((wS wd::ns.map iS).map λy=>y.cps.toList)
 have h2:=gX h
 have e4:((wS wd::ns.map iS).map λy=>y.cps.toList).map (·.length)=(wS wd::ns.map iS).map (·.length):=by
  rw [List.map_map]
  refine List.map_congr_left λy _=>?_
  simp [Str.length]
 have e5:(Str.ofString " ").length=1:=by decide +kernel
 rw [e4,List.length_map] at h1
 rw [e5,Nat.mul_one] at h2
 rw [e3,e2]
 omega
theorem Ar.home{w:Wd}{ns:List Int}(h1:w≠.plus)(h2:w≠.need)(h:Ar w ns):∃x r,ns=x::r/\aH w ns=.int x:=by
 unfold Ar at h
 split at h<;>first | contradiction | exact h.elim | exact ⟨_,_,rfl,rfl⟩
theorem Ar.homeless{w:Wd}{ns:List Int}(h1:w=.plus\/w=.need):aH w ns=.non:=by
 rcases h1 with rfl | rfl<;>rfl
theorem pY{m:Str}(h1:¬m="where")(h2:¬m="cell")(h3:¬m="low")(h4:¬m="high")(h5:¬m="amount")(w:Wd)(ns:List Int):(uw w ns).lookup m=none:=by
 unfold uw
 split<;>simp only [aU h1,aU h2,aU h3,aU h4,aU h5,List.lookup_nil]
theorem fz{H H':Hp}{x dx:Addr}{o1 o2:HO}(nx:H x=none)(nd:H dx=none)(k:Kp x (upd (upd H dx o1) x o2) H'):Same H H':=λb o e=>by
 have hx:b≠x:=λz=>by rw [z,nx] at e;cases e
 have hd:b≠dx:=λz=>by rw [z,nd] at e;cases e
 exact k b o hx (by rw [aq hx,aq hd];exact e)
structure WI(P:Program)(w:World)(K:PySem.W.Frag)(mg:Str->Option Value)(base:Heap)(CW:Wd->Addr)(wd:Wd) where
 fI:Addr
 dI:FuncData
 ps:List Str
 M:Mk K (CW wd) fI
 ok:FnOk P w K mg base CX0 2 fI dI ps (fV CW wd)
 b:Binds K dI ps []
 m:mg (wN wd)=some (.ref (CW wd))
section
variable (CW:Wd->Addr)
def gq:Sp:=λvs H Q _=>∃wd q ns,vs=[.str (wS wd),.ref q]/\H q=some (.lst ((ns:List Int).map V.int))/\Ar wd ns/\∀v H',Same H H'->StO CW H' wd ns v->Q v H'
def oo:Sp:=λvs H Q _=>∃x y z,vs=[.int x,.int y,.int z]/\Ar .sum [x,y,z]/\∀v H',Same H H'->StO CW H' .sum [x,y,z] v->Q v H'
def kQ:Sp:=λvs H Q _=>∃wd ns,vs=[.str (txt wd ns)]/\Ar wd ns/\∀v H',Same H H'->StO CW H' wd ns v->Q v H'
end
def om:Sp:=λvs H Q _=>∃i c,vs=[.str (iS i),.str ⟨#[c]⟩]/\inV i/\(i<0->c=86)/\∀H',Same H H'->Q (.int i) H'
end St
namespace Km
open PySem PySem.NumText L2 PyProof.Rows
open Builtin Builtin.Str
def d9(c d:Nat):List (List Nat)->List Nat
 | []=>[]
 | [x]=>x
 | x::y::r=>x++c::d::d9 c d (y::r)
theorem fM(c d:Nat):∀ys:List Str,(Str.join ⟨#[c,d]⟩ ys).cps.toList=d9 c d (ys.map λy=>y.cps.toList)
 | []=>rfl
 | [y]=>rfl
 | y::u::ys=>by
  have ih:=fM c d (u::ys)
  rw [join_cons_cons]
  show ((y.cps++#[c,d])++(Str.join ⟨#[c,d]⟩ (u::ys)).cps).toList=_
  rw [Array.toList_append,Array.toList_append,ih]
  simp [d9]
theorem kj{c d:Nat}:∀{xs ys:List (List Nat)},xs≠[]->ys≠[]->(∀x∈xs,c∉x)->(∀y∈ys,c∉y)->d9 c d xs=d9 c d ys->xs=ys
 | [],_,h,_,_,_,_=>absurd rfl h
 | _::_,[],_,h,_,_,_=>absurd rfl h
 | [x],[y],_,_,_,_,e=>by rw [show x=y from e]
 | [x],y::u::ys,_,_,hx,_,e=>by
  have e':x=y++c::d::d9 c d (u::ys):=e
  exact absurd (by rw [e'];simp) (hx x List.mem_cons_self)
 | x::u::xs,[y],_,_,_,hy,e=>by
  have e':x++c::d::d9 c d (u::xs)=y:=e
  exact absurd (by rw [← e'];simp) (hy y List.mem_cons_self)
 | x::u::xs,y::v::ys,_,_,hx,hy,e=>by
  have e':x++c::d::d9 c d (u::xs)=y++c::d::d9 c d (v::ys):=e
  obtain ⟨e1,e2⟩:=kz (hx x List.mem_cons_self) (hy y List.mem_cons_self) e'
  rw [e1,kj (by simp) (by simp) (λz hz=>hx z (List.mem_cons_of_mem _ hz)) (λz hz=>hy z (List.mem_cons_of_mem _ hz)) (List.cons.inj e2).2]
def yK(c d:Nat)(l:List Nat):Prop:=∀k,l[k]?=some c->l[k+1]?=some d
theorem kr{c d:Nat}(hcd:c≠d):∀{ps:List (List Nat)},(∀p∈ps,c∉p)->yK c d (d9 c d ps)
 | [],_,k,h=>by cases h
 | [x],hp,k,h=>absurd (List.mem_of_getElem? h) (hp x List.mem_cons_self)
 | x::y::r,hp,k,h=>by
  have ih:=kr hcd (ps:=y::r) λp hp'=>hp p (List.mem_cons_of_mem _ hp')
  have h':(x++c::d::d9 c d (y::r))[k]?=some c:=h
  show (x++c::d::d9 c d (y::r))[k+1]?=some d
  by_cases h1:k<x.length
  ·rw [List.getElem?_append_left h1] at h'
   exact absurd (List.mem_of_getElem? h') (hp x List.mem_cons_self)
  ·rw [List.getElem?_append_right (by omega)] at h' ⊢
   obtain ⟨m,hm⟩:∃m,k=x.length+m:=⟨k-x.length,by omega⟩
   subst hm
   rw [Nat.add_sub_cancel_left] at h'
   rw [show x.length+m+1-x.length=m+1 from by omega]
   match m,h' with
   | 0,_=>rfl
   | 1,h'=>exact absurd (Option.some.inj h').symm hcd
   | m+2,h'=>exact ih m h'
theorem ql(x:Str)(c d i:Nat):(i+(⟨#[c,d]⟩:Str).length<=x.length/\subAt x ⟨#[c,d]⟩ i=true)↔(x.cps.toList[i]?=some c/\x.cps.toList[i+1]?=some d):=by
 rw [StrLaws.subAt_eq]
 have hl:x.length=x.cps.toList.length:=by simp [Str.length]
 have e2:(⟨#[c,d]⟩:Str).length=2:=rfl
 rw [e2,hl]
 generalize x.cps.toList=l
 show (i+2<=l.length/\(((l.drop i).take 2)==[c,d])=true)↔_
 rw [beq_iff_eq]
 constructor
 ·rintro ⟨h1,h2⟩
  have a0:((l.drop i).take 2)[0]?=l[i]?:=by rw [List.getElem?_take_of_lt (by omega),List.getElem?_drop,Nat.add_zero]
  have a1:((l.drop i).take 2)[1]?=l[i+1]?:=by rw [List.getElem?_take_of_lt (by omega),List.getElem?_drop]
  rw [h2] at a0 a1
  exact ⟨a0.symm,a1.symm⟩
 ·rintro ⟨h1,h2⟩
  have hb:=(List.getElem?_eq_some_iff.mp h2).1
  refine ⟨by omega,?_⟩
  have e:=List.drop_eq_getElem_cons (l:=l) (i:=i) (by omega)
  have e':=List.drop_eq_getElem_cons (l:=l) (i:=i+1) (by omega)
  rw [e,e',(List.getElem?_eq_some_iff.mp h1).2,(List.getElem?_eq_some_iff.mp h2).2]
  rfl
section
variable {x:Str}{c d:Nat}(hF:yK c d x.cps.toList)
include hF
theorem zG{k:Nat}(h:x.cps.toList[k]?=some c):StrLaws.At x ⟨#[c,d]⟩ x.length k:=(ql x c d k).mpr ⟨h,hF k h⟩
theorem gA(a b:Nat)(hb:b<=x.length)(hn:∀k,a<=k->k<b->¬StrLaws.At x ⟨#[c,d]⟩ x.length k):c∉(strSub x a b).cps.toList:=by
 intro hm
 rw [StrLaws.strSub_toList] at hm
 obtain ⟨j,hj⟩:=List.getElem?_of_mem hm
 have hlt:j<b-a:=by
  have h1:j<((x.cps.toList.drop a).take (b-a)).length:=(List.getElem?_eq_some_iff.mp hj).1
  rw [List.length_take] at h1
  omega
 rw [List.getElem?_take_of_lt hlt,List.getElem?_drop] at hj
 exact hn (a+j) (by omega) (by omega) (zG hF hj)
theorem iB:∀(cuts:List Nat) (a f:Nat),StrLaws.ChainG x ⟨#[c,d]⟩ x.length a cuts f->(∀k,f<=k->¬StrLaws.At x ⟨#[c,d]⟩ x.length k)->∀p∈StrLaws.partsFrom x (⟨#[c,d]⟩:Str).length a cuts,c∉p.cps.toList
 | [],a,f,h,hn,p,hp=>by
  have e:f=a:=h
  subst e
  rw [List.mem_singleton.mp hp]
  exact gA hF f x.length (Nat.le_refl _) λk h1 _=>hn k h1
 | i::r,a,f,h,hn,p,hp=>by
  rcases List.mem_cons.mp hp with rfl | hp'
  ·exact gA hF a i (by have:=h.2.1.1;omega) h.2.2.1
  ·exact iB r _ f h.2.2.2 hn p hp'
theorem mo(hk:Builtin.Str.strKind x<Builtin.Str.strKind ⟨#[c,d]⟩->False):∀p∈Txt.split x ⟨#[c,d]⟩,c∉p.cps.toList:=by
 obtain ⟨f,hG,hn⟩:=StrLaws.occ_tight x ⟨#[c,d]⟩ (by show 1<=2;decide)
 unfold Txt.split
 split
 ·rename_i hc
  intro p hp
  rw [List.mem_singleton.mp hp]
  intro hm
  obtain ⟨j,hj⟩:=List.getElem?_of_mem hm
  have hA:=zG hF hj
  rw [Bool.or_eq_true,decide_eq_true_eq,decide_eq_true_eq] at hc
  rcases hc with h | h
  ·have:=hA.1;omega
  ·exact hk h
 ·split
  ·rename_i he
   intro p hp
   rw [List.mem_singleton.mp hp]
   have e0:occurrences x ⟨#[c,d]⟩ 0 x.length (x.length+1)=[]:=List.isEmpty_iff.mp he
   rw [e0] at hG
   have ef:f=0:=hG
   subst ef
   rw [← StrLaws.sub_whole x]
   exact gA hF 0 x.length (Nat.le_refl _) λk h1 _=>hn k h1
  ·rw [StrLaws.partsBetween_eq]
   exact iB hF _ 0 f hG hn
end
theorem oV{c d:Nat}(hc:c<256)(hd:d<256)(x:Str):¬Builtin.Str.strKind x<Builtin.Str.strKind ⟨#[c,d]⟩:=by
 have k1:(#[c,d]:Array Nat).all (·<256)=true:=by simp [hc,hd]
 unfold Builtin.Str.strKind
 rw [if_pos k1]
 split
 ·omega
 ·split<;>omega
theorem qp{z:Str}{c d:Nat}{ps:List (List Nat)}(hcd:c≠d)(hc:c<256)(hd:d<256)(ez:z.cps.toList=d9 c d ps)(h0:ps≠[])(hp:∀p∈ps,c∉p):Txt.split z ⟨#[c,d]⟩=ps.map λp=>(⟨p.toArray⟩:Str):=by
 have e1:=fM c d (Txt.split z ⟨#[c,d]⟩)
 rw [StrLaws.join_split,ez] at e1
 have n1:(Txt.split z ⟨#[c,d]⟩).map (λy=>y.cps.toList)≠[]:=by
  intro e
  have:=split_pos z ⟨#[c,d]⟩
  rw [List.map_eq_nil_iff.mp e] at this
  exact absurd this (by decide)
 have hF:yK c d z.cps.toList:=by rw [ez];exact kr hcd hp
 have e2:=kj h0 n1 hp (λy hy=>by
  obtain ⟨p,hp',rfl⟩:=List.mem_map.mp hy
  exact mo hF (oV hc hd z) p hp') e1
 rw [e2,List.map_map]
 have e3:((λp:List Nat=>(⟨p.toArray⟩:Str))∘λy:Str=>y.cps.toList)=_root_.id:=by
  funext y
  obtain ⟨a⟩:=y
  simp
 rw [e3,List.map_id]
theorem vw{z x y:Str}{c:Nat}(ez:z.cps.toList=x.cps.toList++c::y.cps.toList)(hx:c∉x.cps.toList):Txt.partition z ⟨#[c]⟩=(x,⟨#[c]⟩,y):=by
 have lx:x.length=x.cps.toList.length:=by simp [Str.length]
 have hl:z.length=x.length+1+y.length:=by
  have e1:z.length=z.cps.toList.length:=by simp [Str.length]
  have e2:y.length=y.cps.toList.length:=by simp [Str.length]
  rw [e1,ez,e2,lx,List.length_append,List.length_cons]
  omega
 have ha:z.cps.toList[x.length]?=some c:=by rw [ez,lx,List.getElem?_append_right (Nat.le_refl _),Nat.sub_self];rfl
 have hA:=(StrLaws.subAt_one z c x.length).mpr ha
 have no:∀k,k<x.length->¬StrLaws.At z ⟨#[c]⟩ z.length k:=λk hk hAk=>by
  have e:=(StrLaws.subAt_one z c k).mp hAk
  rw [ez,List.getElem?_append_left (by omega)] at e
  exact hx (List.mem_of_getElem? e)
 obtain ⟨i,r,e,hi,hk⟩:∃i r,occurrences z ⟨#[c]⟩ 0 z.length 1=i::r/\StrLaws.At z ⟨#[c]⟩ z.length i/\∀k,k<i->¬StrLaws.At z ⟨#[c]⟩ z.length k :=
  (StrLaws.occ_head z ⟨#[c]⟩ 1 (Nat.le_refl _)).resolve_left λh=>h.2 _ hA
 have ei:i=x.length:=by
  rcases Nat.lt_trichotomy i x.length with h | h | h
  ·exact absurd hi (no _ h)
  ·exact h
  ·exact absurd hA (hk _ h)
 subst ei
 unfold Txt.partition
 rw [e]
 have ea:z.cps=(x.cps.toList++c::y.cps.toList).toArray:=by
  apply Array.toList_inj.mp
  rw [ez]
 have e1:strSub z 0 x.length=x:=by
  unfold strSub
  rw [ea,lx]
  obtain ⟨xs⟩:=x
  congr 1
  apply Array.toList_inj.mp
  simp
 have e2:strSub z (x.length+(⟨#[c]⟩:Str).length) z.length=y:=by
  unfold strSub
  rw [ea,hl]
  have e3:(⟨#[c]⟩:Str).length=1:=rfl
  rw [e3]
  obtain ⟨xs⟩:=x
  obtain ⟨ys⟩:=y
  congr 1
  apply Array.toList_inj.mp
  simp [Str.length]
  have e4:xs.toList++c::ys.toList=(xs.toList++[c])++ys.toList:=by simp
  rw [e4,List.drop_left' (by simp)]
  exact List.take_of_length_le (by simp)
 show (strSub z 0 x.length,(⟨#[c]⟩:Str),strSub z (x.length+(⟨#[c]⟩:Str).length) z.length)=_
 rw [e1,e2]
end Km
namespace Tb
open PySem PySem.SetTable
theorem lR(xs:Array Nat)(j:Nat):∀fuel lo hi:Nat,hi-lo<=fuel->lo<=hi->hi<=xs.size->(∀(i k a b:Nat),i<=k->xs[i]?=some a->xs[k]?=some b->a<=b)->(∀(i a:Nat),i<lo->xs[i]?=some a->a<j)->(∀(i a:Nat),hi<=i->xs[i]?=some a->j<=a) ->
  below.go xs j fuel lo hi<=xs.size/\(∀(i a:Nat),i<below.go xs j fuel lo hi->xs[i]?=some a->a<j)/\∀(i a:Nat),below.go xs j fuel lo hi<=i->xs[i]?=some a->j<=a
 | 0,lo,hi,hf,hl,hh,_,h1,h2=>by
  have e:lo=hi:=by omega
  subst e
  exact ⟨hh,h1,h2⟩
 | fuel+1,lo,hi,hf,hl,hh,hm,h1,h2=>by
  unfold below.go
  by_cases hlt:lo<hi
  ·rw [if_pos hlt]
   have hmid:(lo+hi)/2<xs.size:=by omega
   have e:xs[(lo+hi)/2]?=some xs[(lo+hi)/2]:=Array.getElem?_eq_getElem hmid
   have eg:xs.getD ((lo+hi)/2) j=xs[(lo+hi)/2]:=by simp [Array.getD,hmid]
   dsimp only
   rw [eg]
   by_cases hc:xs[(lo+hi)/2]<j
   ·rw [if_pos hc]
    refine lR xs j fuel _ hi (by omega) (by omega) hh hm (λi a hi' ea=>?_) h2
    exact Nat.lt_of_le_of_lt (hm i _ a _ (by omega) ea e) hc
   ·rw [if_neg hc]
    refine lR xs j fuel lo _ (by omega) (by omega) (by omega) hm h1 (λi a hi' ea=>?_)
    exact Nat.le_trans (Nat.not_lt.mp hc) (hm _ i _ a hi' e ea)
  ·rw [if_neg hlt]
   have e:lo=hi:=by omega
   subst e
   exact ⟨hh,h1,h2⟩
def Rs(l:List Nat):Prop:=l.Pairwise (·<·)
theorem Rs.mono{xs:Array Nat}(h:Rs xs.toList):∀(i k a b:Nat),i<=k->xs[i]?=some a->xs[k]?=some b->a<=b:=by
 intro i k a b hik ea eb
 rcases Nat.lt_or_eq_of_le hik with hlt | rfl
 ·rw [← Array.getElem?_toList] at ea eb
  obtain ⟨h1,e1⟩:=List.getElem?_eq_some_iff.mp ea
  obtain ⟨h2,e2⟩:=List.getElem?_eq_some_iff.mp eb
  have:=List.pairwise_iff_getElem.mp h i k h1 h2 hlt
  rw [← e1,← e2]
  exact Nat.le_of_lt this
 ·rw [ea] at eb;cases eb;exact Nat.le_refl _
theorem dy{xs:Array Nat}(h:Rs xs.toList)(j:Nat):below xs j<=xs.size/\(∀a∈xs.toList.take (below xs j),a<j)/\∀a∈xs.toList.drop (below xs j),j<=a:=by
 obtain ⟨h1,h2,h3⟩:=lR xs j xs.size 0 xs.size (by omega) (Nat.zero_le _) (Nat.le_refl _) h.mono (λi a hi=>absurd hi (by omega)) (λi a hi e=>by rw [Array.getElem?_eq_none hi] at e;cases e)
 refine ⟨h1,λa ha=>?_,λa ha=>?_⟩
 ·obtain ⟨i,hi⟩:=List.getElem?_of_mem ha
  rw [List.getElem?_take] at hi
  split at hi
  ·rename_i hlt
   exact h2 i a hlt (by rw [← Array.getElem?_toList];exact hi)
  ·cases hi
 ·obtain ⟨i,hi⟩:=List.getElem?_of_mem ha
  rw [List.getElem?_drop] at hi
  exact h3 (below xs j+i) a (by show below xs j<=_;omega) (by rw [← Array.getElem?_toList];exact hi)
theorem uK{xs:Array Nat}(h:Rs xs.toList){j:Nat}(hj:j∈xs.toList):xs[below xs j]?=some j:=by
 obtain ⟨h1,h2,h3⟩:=dy h j
 have hj':j∈xs.toList.take (below xs j)++xs.toList.drop (below xs j):=by rw [List.take_append_drop];exact hj
 rcases List.mem_append.mp hj' with z | z
 ·exact absurd (h2 j z) (Nat.lt_irrefl _)
 ·cases e:xs.toList.drop (below xs j) with
  | nil=>rw [e] at z;cases z
  | cons b r =>
   have eb:xs.toList[below xs j]?=some b:=by
    have:(xs.toList.drop (below xs j))[0]?=some b:=by rw [e];rfl
    rw [List.getElem?_drop] at this
    simpa using this
   have hb:j<=b:=h3 b (by rw [e];exact List.mem_cons_self)
   have:b=j:=by
    rw [e] at z
    rcases List.mem_cons.mp z with rfl | z
    ·rfl
    ·have hs:Rs (b::r):=by
      have:Rs (xs.toList.drop (below xs j)):=List.Pairwise.sublist (List.drop_sublist _ _) h
      rw [e] at this;exact this
     have:=(List.pairwise_cons.mp hs).1 j z
     omega
   rw [← Array.getElem?_toList,eb,this]
theorem uJ{xs:Array Nat}(h:Rs xs.toList){j:Nat}(hj:j∉xs.toList):(xs[below xs j]?==some j)=false:=by
 refine beq_eq_false_iff_ne.mpr λe=>hj ?_
 rw [← Array.getElem?_toList] at e
 exact List.mem_of_getElem? e
theorem qV{xs:Array Nat}(h:Rs xs.toList){j:Nat}(hj:j∉xs.toList):Rs (insertAt xs (below xs j) j).toList:=by
 obtain ⟨h1,h2,h3⟩:=dy h j
 rw [toList_insertAt]
 refine List.pairwise_append.mpr ⟨List.Pairwise.sublist (List.take_sublist _ _) h,List.pairwise_cons.mpr ⟨λa ha=>?_,List.Pairwise.sublist (List.drop_sublist _ _) h⟩,λa ha b hb=>?_⟩
 ·have:=h3 a ha
  have hne:a≠j:=λe=>hj (e▸List.mem_of_mem_drop ha)
  omega
 ·have ha':=h2 a ha
  rcases List.mem_cons.mp hb with rfl | hb
  ·exact ha'
  ·exact Nat.lt_of_lt_of_le ha' (h3 b hb)
theorem pb{xs:Array Nat}(h:Rs xs.toList){k p:Nat}(hp:xs[k]?=some p):below xs (p+1)=k+1:=by
 obtain ⟨h1,h2,h3⟩:=dy h (p+1)
 have hk:k<xs.size:=(Array.getElem?_eq_some_iff.mp hp).1
 have hp':xs.toList[k]?=some p:=by rw [Array.getElem?_toList];exact hp
 have lo:k<below xs (p+1):=by
  refine Nat.lt_of_not_le λhle=>?_
  have:p∈xs.toList.drop (below xs (p+1)):=by
   refine List.mem_of_getElem? (i:=k-below xs (p+1)) ?_
   rw [List.getElem?_drop]
   rw [show below xs (p+1)+(k-below xs (p+1))=k by omega]
   exact hp'
  have:=h3 p this
  omega
 refine Nat.le_antisymm (Nat.le_of_not_lt λhlt=>?_) lo
 have hk1:k+1<xs.toList.length:=by rw [Array.length_toList];omega
 have e1:xs.toList[k+1]?=some xs.toList[k+1]:=List.getElem?_eq_getElem hk1
 have m:xs.toList[k+1]∈xs.toList.take (below xs (p+1)):=by
  refine List.mem_of_getElem? (i:=k+1) ?_
  rw [List.getElem?_take,if_pos hlt]
  exact e1
 have a1:=h2 _ m
 obtain ⟨g1,g2⟩:=List.getElem?_eq_some_iff.mp hp'
 have a2:=List.pairwise_iff_getElem.mp h k (k+1) g1 hk1 (Nat.lt_succ_self _)
 rw [g2] at a2
 omega
theorem o9{xs:Array Nat}(h:Rs xs.toList):below xs 0=0:=by
 obtain ⟨h1,h2,h3⟩:=dy h 0
 refine Nat.eq_zero_of_not_pos λhpos=>?_
 have hl:0<xs.toList.length:=by rw [Array.length_toList];omega
 have:xs.toList[0]∈xs.toList.take (below xs 0):=by
  refine List.mem_of_getElem? (i:=0) ?_
  rw [List.getElem?_take,if_pos hpos]
  exact List.getElem?_eq_getElem hl
 exact absurd (h2 _ this) (Nat.not_lt_zero _)
end Tb
namespace Tb
open PySem PySem.SetTable
def adv(t:SetTable)(p:Probe):Nat->Probe
 | 0=>p
 | n+1=>adv t (t.advance p) n
def wk(t:SetTable)(p:Probe):Nat->List Nat
 | 0=>[]
 | n+1=>p.j::wk t (t.advance p) n
theorem p9(t:SetTable):∀(m n:Nat) (p:Probe),adv t p (m+n)=adv t (adv t p m) n
 | 0,n,p=>by rw [Nat.zero_add];rfl
 | m+1,n,p=>by rw [show m+1+n=(m+n)+1 by omega];exact p9 t m n (t.advance p)
theorem kK(t:SetTable):∀(m n:Nat) (p:Probe),wk t p (m+n)=wk t p m++wk t (adv t p m) n
 | 0,n,p=>by rw [Nat.zero_add];rfl
 | m+1,n,p=>by
  rw [show m+1+n=(m+n)+1 by omega]
  show p.j::wk t (t.advance p) (m+n)=p.j::(wk t (t.advance p) m++_)
  rw [kK t m n (t.advance p)]
  rfl
theorem rE{t:SetTable}{p:Probe}{m n:Nat}(h:m<=n){s:Nat}(hs:s∈wk t p m):s∈wk t p n:=by
 obtain ⟨d,rfl⟩:∃d,n=m+d:=⟨n-m,by omega⟩
 rw [kK]
 exact List.mem_append_left _ hs
theorem kJ(t:SetTable):∀(n:Nat) (p:Probe),(adv t p n).dummy=p.dummy
 | 0,_=>rfl
 | n+1,p=>by
  show (adv t (t.advance p) n).dummy=_
  rw [kJ t n]
  unfold advance
  split<;>rfl
def gV(mask i q:Nat):Probe:={j:=i,more:=runEnd mask i-i,i:=i,perturb:=q,dummy:=none}
theorem fU(t:SetTable)(h:Int):t.probeStart h=gV t.mask (bits h%(t.mask+1)) (bits h):=rfl
theorem h9(t:SetTable):∀(m:Nat) (p:Probe),p.more=m->p.dummy=none->wk t p (m+1)=List.range' p.j (m+1)/\adv t p (m+1)=gV t.mask (leap t.mask p.i p.perturb).1 (leap t.mask p.i p.perturb).2
 | 0,p,hm,hd=>by
  refine ⟨rfl,?_⟩
  show t.advance p=_
  unfold advance
  rw [if_neg (by omega)]
  unfold gV
  simp only [hd]
 | m+1,p,hm,hd=>by
  have e:t.advance p={p with j:=p.j+1,more:=m}:=by
   unfold advance
   rw [if_pos (by omega),hm]
   rfl
  obtain ⟨h1,h2⟩:=h9 t m {p with j:=p.j+1,more:=m} rfl hd
  constructor
  ·show p.j::wk t (t.advance p) (m+1)=List.range' p.j (m+1+1)
   rw [e,h1]
   exact (List.range'_succ ..).symm
  ·show adv t (t.advance p) (m+1)=_
   rw [e,h2]
theorem qy(mask i:Nat):runEnd mask i-i<=9:=by
 unfold runEnd
 split<;>omega
def rq(h:Int)(n:Nat):Nat:=bits h/32 ^ n
def ri(mask:Nat)(h:Int):Nat->Nat
 | 0=>bits h%(mask+1)
 | n+1=>(ri mask h n*5+1+rq h (n+1))%(mask+1)
theorem uL(t:SetTable)(h:Int):∀n:Nat,∃l,l<=10*n/\adv t (t.probeStart h) l=gV t.mask (ri t.mask h n) (rq h n)
 | 0=>⟨0,Nat.le_refl _,by rw [fU];unfold rq;rw [Nat.pow_zero,Nat.div_one];rfl⟩
 | n+1=>by
  obtain ⟨l,hl,e⟩:=uL t h n
  obtain ⟨_,h2⟩:=h9 t (runEnd t.mask (ri t.mask h n)-ri t.mask h n) (gV t.mask (ri t.mask h n) (rq h n)) rfl rfl
  have:=qy t.mask (ri t.mask h n)
  refine ⟨l+(runEnd t.mask (ri t.mask h n)-ri t.mask h n+1),by omega,?_⟩
  rw [p9,e,h2]
  have eq:(gV t.mask (ri t.mask h n) (rq h n)).perturb/32=rq h (n+1):=by
   show bits h/32 ^ n/32=bits h/32 ^ (n+1)
   rw [Nat.div_div_eq_div_mul,← Nat.pow_succ]
  unfold leap
  rw [eq]
  rfl
theorem xA(t:SetTable)(h:Int)(n:Nat):ri t.mask h n∈wk t (t.probeStart h) (10*n+1):=by
 obtain ⟨l,hl,e⟩:=uL t h n
 refine rE (m:=l+1) (by omega) ?_
 rw [kK,e]
 exact List.mem_append_right _ List.mem_cons_self
theorem wz(h:Int):bits h<2 ^ 64:=by
 unfold bits
 have h1:0<=h%(2 ^ 64:Int):=Int.emod_nonneg _ (by decide)
 have h2:h%(2 ^ 64:Int)<2 ^ 64:=Int.emod_lt_of_pos _ (by decide)
 omega
theorem vp(h:Int){n:Nat}(hn:13<=n):rq h n=0:=by
 unfold rq
 refine Nat.div_eq_of_lt (Nat.lt_of_lt_of_le (wz h) ?_)
 exact Nat.le_trans (by decide:2 ^ 64<=32 ^ 13) (Nat.pow_le_pow_right (by decide) hn)
def cyc(m:Nat):Nat->Nat
 | 0=>0
 | n+1=>(cyc m n*5+1)%m
def jZ(mask:Nat):Prop:=mask=7\/mask=31\/mask=127
theorem lX{mask:Nat}(g:jZ mask):(∀s,s<mask+1->∃n,n<mask+1/\cyc (mask+1) n=s)/\cyc (mask+1) (mask+1)=0:=by
 rcases g with rfl | rfl | rfl<;>exact ⟨by decide +kernel,by decide +kernel⟩
theorem nB{mask:Nat}(g:jZ mask):∀n,cyc (mask+1) (mask+1+n)=cyc (mask+1) n
 | 0=>(lX g).2
 | n+1=>by show (cyc (mask+1) (mask+1+n)*5+1)%(mask+1)=_;rw [nB g n];rfl
theorem oE{mask:Nat}(h:Int){a:Nat}(ha:ri mask h 12=cyc (mask+1) a):∀n,ri mask h (12+n)=cyc (mask+1) (a+n)
 | 0=>ha
 | n+1=>by
  show (ri mask h (12+n)*5+1+rq h (12+n+1))%(mask+1)=(cyc (mask+1) (a+n)*5+1)%(mask+1)
  rw [oE h ha n,vp h (by omega),Nat.add_zero]
theorem zk(mask:Nat)(h:Int):∀n,ri mask h n<mask+1
 | 0=>Nat.mod_lt _ (Nat.succ_pos _)
 | _+1=>Nat.mod_lt _ (Nat.succ_pos _)
theorem zA{mask:Nat}(g:jZ mask)(h:Int){s:Nat}(hs:s<=mask):∃n,n<=12+mask/\ri mask h n=s:=by
 obtain ⟨a,ha,ea⟩:=(lX g).1 (ri mask h 12) (zk mask h 12)
 obtain ⟨b,hb,eb⟩:=(lX g).1 s (by omega)
 by_cases hab:a<=b
 ·refine ⟨12+(b-a),by omega,?_⟩
  rw [oE h ea.symm,show a+(b-a)=b by omega,eb]
 ·refine ⟨12+(mask+1+b-a),by omega,?_⟩
  rw [oE h ea.symm,show a+(mask+1+b-a)=mask+1+b by omega,nB g,eb]
theorem yG{t:SetTable}(g:jZ t.mask)(h:Int){s:Nat}(hs:s<=t.mask):s∈wk t (t.probeStart h) (10*(t.mask+14)):=by
 obtain ⟨n,hn,e⟩:=zA g h hs
 refine rE (m:=10*n+1) (by omega) ?_
 rw [← e]
 exact xA t h n
theorem jC{l:List Nat}{mask:Nat}(hl:l.length<=mask):∃s,s<=mask/\s∉l:=by
 refine Classical.byContradiction λhc=>?_
 have all:∀s,s<=mask->s∈l:=λs hs=>Classical.byContradiction λz=>hc ⟨s,hs,z⟩
 have:(List.range (mask+1)).length<=l.length:=List.Nodup.length_le_of_subset List.nodup_range λs hs=>all s (by have:=List.mem_range.mp hs;omega)
 rw [List.length_range] at this
 omega
theorem qZ{l path:List Nat}(h:∃s,s∈path/\s∉l):∃pre e post,path=pre++e::post/\(∀s∈pre,s∈l)/\e∉l:=by
 induction path with
 | nil=>obtain ⟨s,hs,_⟩:=h;cases hs
 | cons a r ih =>
  by_cases ha:a∈l
  ·obtain ⟨s,hs,hn⟩:=h
   rcases List.mem_cons.mp hs with rfl | hs
   ·exact absurd ha hn
   ·obtain ⟨pre,e,post,e1,e2,e3⟩:=ih ⟨s,hs,hn⟩
    exact ⟨a::pre,e,post,by rw [e1];rfl,λs hs=>(List.mem_cons.mp hs).elim (λz=>z▸ha) (e2 s),e3⟩
  ·exact ⟨[],a,r,rfl,λ_ hs=>(nomatch hs),ha⟩
section
variable {t:SetTable}
theorem nq(j:Nat):has #[] j=false:=rfl
theorem qu(h:Rs t.place.toList){j:Nat}(hj:j∈t.place.toList):t.slot j=.live (below t.place j):=by
 unfold slot
 dsimp only
 rw [uK h hj,if_pos (by simp)]
theorem ox(h:Rs t.place.toList)(hd:t.dummies=#[]){j:Nat}(hj:j∉t.place.toList):t.slot j=.empty:=by
 unfold slot
 dsimp only
 rw [uJ h hj,hd,nq]
 rfl
theorem mD{hashAt:Nat->Int}{h:Int}(hr:Rs t.place.toList)(hd:t.dummies=#[]):∀(pre:List Nat) (e:Nat) (post:List Nat) (fuel:Nat) (p:Probe),wk t p fuel=pre++e::post->(∀s∈pre,s∈t.place.toList)->e∉t.place.toList->p.dummy=none ->
  ((∀s∈pre,(hashAt (below t.place s)==h)=false)/\probe.go t hashAt h fuel p=some (.empty e none)) \/
  ∃pre1 j pre2,pre=pre1++j::pre2/\(∀s∈pre1,(hashAt (below t.place s)==h)=false)/\(hashAt (below t.place j)==h)=true/\probe.go t hashAt h fuel p=some (.candidate j (below t.place j) (adv t p (pre1.length+1)))
 | [],e,post,0,p,hw,_,_,_=>by cases hw
 | _::_,e,post,0,p,hw,_,_,_=>by cases hw
 | [],e,post,fuel+1,p,hw,_,he,hp=>by
  have e1:p.j=e:=(List.cons.inj hw).1
  refine .inl ⟨(λ_ hs=>nomatch hs),?_⟩
  unfold probe.go
  rw [e1,ox hr hd he,hp]
 | a::pre,e,post,fuel+1,p,hw,ha,he,hp=>by
  obtain ⟨e1,e2⟩:=List.cons.inj hw
  have ha':a∈t.place.toList:=ha a List.mem_cons_self
  unfold probe.go
  rw [show p.j=a from e1,qu hr ha']
  dsimp only
  cases hc:hashAt (below t.place a)==h with
  | true =>
   refine .inr ⟨[],a,pre,rfl,(λ_ hs=>nomatch hs),hc,?_⟩
   rfl
  | false =>
   have hp':(t.advance p).dummy=none:=by have:=kJ t 1 p;rw [hp] at this;exact this
   rcases mD hr hd pre e post fuel (t.advance p) e2 (λs hs=>ha s (List.mem_cons_of_mem _ hs)) he hp' with ⟨h1,h2⟩ | ⟨pre1,j,pre2,h1,h2,h3,h4⟩
   ·refine .inl ⟨λs hs=>(List.mem_cons.mp hs).elim (λz=>z▸hc) (h1 s),?_⟩
    rw [if_neg (by decide)]
    exact h2
   ·refine .inr ⟨a::pre1,j,pre2,by rw [h1];rfl,λs hs=>(List.mem_cons.mp hs).elim (λz=>z▸hc) (h2 s),h3,?_⟩
    rw [if_neg (by decide),h4]
    rfl
end
end Tb
namespace Tb
open PySem PySem.SetTable
theorem jY{t t':SetTable}(e:t.mask=t'.mask)(p:Probe):t.advance p=t'.advance p:=by
 unfold advance
 rw [e]
theorem mh{t t':SetTable}(e:t.mask=t'.mask):∀(n:Nat) (p:Probe),wk t p n=wk t' p n
 | 0,_=>rfl
 | n+1,p=>by show p.j::_=p.j::_;rw [jY e,mh e n]
theorem mj{t t':SetTable}(e:t.mask=t'.mask)(h:Int):t.probeStart h=t'.probeStart h:=by rw [fU,fU,e]
def Rch(t:SetTable)(P:List Nat)(h:Int)(s:Nat):Prop:=∃n pre post,wk t (t.probeStart h) n=pre++s::post/\∀a∈pre,a∈P
theorem Rch.mono{t t':SetTable}{P P':List Nat}{h:Int}{s:Nat}(e:t.mask=t'.mask)(hs:∀a∈P,a∈P')(r:Rch t P h s):Rch t' P' h s:=by
 obtain ⟨n,pre,post,e1,e2⟩:=r
 exact ⟨n,pre,post,by rw [← mh e,← mj e];exact e1,λa ha=>hs a (e2 a ha)⟩
structure TOk(t:SetTable)(es:List (Int×Value)):Prop where
 gd:jZ t.mask
 rs:Rs t.place.toList
 du:t.dummies=#[]
 sz:t.place.toList.length=es.length
 fl:es.length<=t.mask
 rc:∀x∈t.place.toList.zip es,Rch t t.place.toList x.2.1 x.1
theorem qi(f m:Nat)(led:Bool):TOk (.fresh f m led) []:=⟨.inl rfl,.nil,rfl,rfl,Nat.zero_le _,λx hx=>nomatch hx⟩
section
variable {t:SetTable}{es:List (Int×Value)}
theorem TOk.fits(k:TOk t es){n:Nat}(hn:es.length=n):t.fits n=true:=by
 unfold SetTable.fits fill
 have h1:=k.sz
 have h2:=k.fl
 rw [Array.length_toList] at h1
 rw [k.du]
 simp
 omega
theorem TOk.free(k:TOk t es)(h:Int):∃pre e post,wk t (t.probeStart h) (10*turns t.mask)=pre++e::post/\(∀s∈pre,s∈t.place.toList)/\e∉t.place.toList:=by
 obtain ⟨s,hs,hn⟩:=jC (l:=t.place.toList) (mask:=t.mask) (by rw [k.sz];exact k.fl)
 refine qZ ⟨s,rE (m:=10*(t.mask+14)) (by show _<=10*(t.mask+15);omega) (yG k.gd h hs),hn⟩
theorem TOk.freeSlot(k:TOk t es)(h:Int):∃e,t.freeSlot h=some (e,false)/\e∉t.place.toList/\Rch t t.place.toList h e:=by
 obtain ⟨pre,e,post,ew,hp,he⟩:=k.free h
 refine ⟨e,?_,he,⟨_,pre,post,ew,hp⟩⟩
 unfold SetTable.freeSlot probe
 rcases mD (hashAt:=λ_=>h+1) (h:=h) k.rs k.du pre e post _ _ ew hp he rfl with ⟨_,q⟩ | ⟨_,j,_,_,_,hj,_⟩
 ·rw [q];rfl
 ·have:h+1=h:=by simpa using hj
  omega
theorem sR(k:TOk t es)(s:Nat):t.put s=({t with place:=insertAt t.place (below t.place s) s},below t.place s):=by
 unfold put
 dsimp only
 rw [k.du,nq]
 cases t
 have:=k.du
 simp only at this
 subst this
 rfl
theorem TOk.put(k:TOk t es){s:Nat}{h:Int}{x:Value}(hs:s∉t.place.toList)(r:Rch t t.place.toList h s)(hl:es.length+1<=t.mask){ea:Array (Int×Value)}(ee:ea.toList=es) :
  TOk (t.put s).1 (insertAt ea (t.put s).2 (h,x)).toList:=by
 rw [sR k]
 have hb:=(dy k.rs s).1
 have el:(insertAt ea (below t.place s) (h,x)).toList=es.take (below t.place s)++(h,x)::es.drop (below t.place s):=by rw [toList_insertAt,ee]
 have pl:(insertAt t.place (below t.place s) s).toList=t.place.toList.take (below t.place s)++s::t.place.toList.drop (below t.place s):=toList_insertAt ..
 have sub:∀a∈t.place.toList,a∈(insertAt t.place (below t.place s) s).toList:=λa ha=>by
  rw [pl]
  have ha':a∈t.place.toList.take (below t.place s)++t.place.toList.drop (below t.place s):=by rw [List.take_append_drop];exact ha
  rcases List.mem_append.mp ha' with z | z
  ·exact List.mem_append_left _ z
  ·exact List.mem_append_right _ (List.mem_cons_of_mem _ z)
 refine ⟨k.gd,qV k.rs hs,k.du,?_,?_,λy hy=>?_⟩
 ·show (insertAt t.place (below t.place s) s).toList.length=_
  have h1:=k.sz
  rw [pl,el]
  simp only [List.length_append,List.length_cons,List.length_take,List.length_drop]
  omega
 ·show (insertAt ea (below t.place s) (h,x)).toList.length<=t.mask
  rw [el]
  simp only [List.length_append,List.length_cons,List.length_take,List.length_drop]
  omega
 ·have hy':y∈(insertAt t.place (below t.place s) s).toList.zip (insertAt ea (below t.place s) (h,x)).toList:=hy
  rw [pl,el,List.zip_append (by simp only [List.length_take];rw [k.sz])] at hy'
  have mn:∀{g a},Rch t t.place.toList g a->Rch {t with place:=insertAt t.place (below t.place s) s} (insertAt t.place (below t.place s) s).toList g a:=λz=>Rch.mono (t:=t) rfl sub z
  rcases List.mem_append.mp hy' with z | z
  ·exact mn (k.rc y (by
    have e1:t.place.toList=t.place.toList.take (below t.place s)++t.place.toList.drop (below t.place s):=(List.take_append_drop _ _).symm
    have e2:es=es.take (below t.place s)++es.drop (below t.place s):=(List.take_append_drop _ _).symm
    rw [e1,e2,List.zip_append (by simp only [List.length_take];rw [k.sz])]
    exact List.mem_append_left _ z))
  ·rcases List.mem_cons.mp (show y∈(s,(h,x))::_ from z) with rfl | z
   ·exact mn r
   ·exact mn (k.rc y (by
     have e1:t.place.toList=t.place.toList.take (below t.place s)++t.place.toList.drop (below t.place s):=(List.take_append_drop _ _).symm
     have e2:es=es.take (below t.place s)++es.drop (below t.place s):=(List.take_append_drop _ _).symm
     rw [e1,e2,List.zip_append (by simp only [List.length_take];rw [k.sz])]
     exact List.mem_append_right _ z))
end
end Tb
namespace Tb
open PySem PySem.SetTable
def rn(mask:Nat):Nat->Nat×Nat->Nat×Nat
 | 0,s=>s
 | m+1,s=>rn mask m (leap mask s.1 s.2)
theorem pM(mask:Nat):∀(m:Nat) (s:Nat×Nat),rn mask (m+1) s=leap mask (rn mask m s).1 (rn mask m s).2
 | 0,_=>rfl
 | m+1,s=>by show rn mask (m+1) (leap mask s.1 s.2)=_;rw [pM mask m];rfl
theorem sK(mask:Nat)(h:Int):∀m,rn mask m (bits h%(mask+1),bits h)=(ri mask h m,rq h m)
 | 0=>by unfold rq;rw [Nat.pow_zero,Nat.div_one];rfl
 | m+1=>by
  rw [pM,sK mask h m]
  show ((ri mask h m*5+1+rq h m/32)%(mask+1),rq h m/32)=_
  have e:rq h m/32=rq h (m+1):=by
   show bits h/32 ^ m/32=bits h/32 ^ (m+1)
   rw [Nat.div_div_eq_div_mul,← Nat.pow_succ]
  rw [e]
  rfl
def Tk(owner:Array (Option Nat))(j:Nat):Prop:=∃i,owner[j]?=some (some i)
theorem rM{owner:Array (Option Nat)}{j:Nat}(hj:j<owner.size):(owner.getD j (some 0)).isNone=true\/Tk owner j:=by
 have e:owner[j]?=some owner[j]:=Array.getElem?_eq_getElem hj
 have eg:owner.getD j (some 0)=owner[j]:=by simp [Array.getD,hj]
 rw [eg]
 cases q:owner[j] with
 | none=>exact .inl rfl
 | some i=>exact .inr ⟨i,by rw [e,q]⟩
theorem mO{owner:Array (Option Nat)}{j:Nat}(h:(owner.getD j (some 0)).isNone=true):j<owner.size/\¬Tk owner j/\owner[j]?=some none:=by
 by_cases hj:j<owner.size
 ·have e:owner[j]?=some owner[j]:=Array.getElem?_eq_getElem hj
  have eg:owner.getD j (some 0)=owner[j]:=by simp [Array.getD,hj]
  rw [eg] at h
  have q:owner[j]=none:=Option.isNone_iff_eq_none.mp h
  refine ⟨hj,λ⟨i,z⟩=>?_,by rw [e,q]⟩
  rw [e,q] at z
  cases z
 ·have eg:owner.getD j (some 0)=some 0:=by simp [Array.getD,hj]
  rw [eg] at h
  cases h
theorem j9{mask i:Nat}(h:i<=mask):runEnd mask i<=mask/\i<=runEnd mask i:=by
 unfold runEnd
 split<;>omega
theorem ux(t:SetTable)(owner:Array (Option Nat))(ho:owner.size=t.mask+1):∀(n fuel i q:Nat),n<fuel->i<=t.mask->(∃m,m<=n/\¬Tk owner (rn t.mask m (i,q)).1/\(rn t.mask m (i,q)).1<=t.mask) ->
  ∃l pre j post,layClean.free t.mask owner fuel i q=some j/\wk t (gV t.mask i q) l=pre++j::post/\(∀a∈pre,Tk owner a)/\owner[j]?=some none:=by
 intro n
 induction n with
 | zero =>
  intro fuel i q hf hi ⟨m,hm,hn,_⟩
  obtain rfl:m=0:=by omega
  obtain ⟨fuel,rfl⟩:∃f,fuel=f+1:=⟨fuel-1,by omega⟩
  have h0:(owner.getD i (some 0)).isNone=true:=(rM (by omega)).resolve_right hn
  refine ⟨1,[],i,[],?_,rfl,(λ_ h=>nomatch h),(mO h0).2.2⟩
  unfold layClean.free
  obtain ⟨r1,r2⟩:=j9 hi
  have e:runEnd t.mask i+1-i=(runEnd t.mask i-i)+1:=by omega
  rw [e,List.range_succ_eq_map,List.find?_cons]
  simp only [Nat.add_zero,h0]
 | succ n ih =>
  intro fuel i q hf hi ⟨m,hm,hn,hk⟩
  obtain ⟨fuel,rfl⟩:∃f,fuel=f+1:=⟨fuel-1,by omega⟩
  obtain ⟨r1,r2⟩:=j9 hi
  obtain ⟨w1,w2⟩:=h9 t (runEnd t.mask i-i) (gV t.mask i q) rfl rfl
  have el:runEnd t.mask i+1-i=runEnd t.mask i-i+1:=by omega
  unfold layClean.free
  cases hf2:(List.range (runEnd t.mask i+1-i)).find? λk=>(owner.getD (i+k) (some 0)).isNone with
  | some k =>
   obtain ⟨hp,as,bs,e1,e2⟩:=List.find?_eq_some_iff_append.mp hf2
   refine ⟨runEnd t.mask i-i+1,as.map (i+·),i+k,bs.map (i+·),rfl,?_,λa ha=>?_,(mO hp).2.2⟩
   ·rw [w1]
    show List.range' i (runEnd t.mask i-i+1)=_
    rw [List.range'_eq_map_range,← el,e1,List.map_append,List.map_cons]
   ·obtain ⟨b,hb,rfl⟩:=List.mem_map.mp ha
    have hb2:b∈List.range (runEnd t.mask i+1-i):=by rw [e1];exact List.mem_append_left _ hb
    have:=List.mem_range.mp hb2
    rcases rM (owner:=owner) (j:=i+b) (by omega) with z | z
    ·have:=e2 b hb
     rw [z] at this
     cases this
    ·exact z
  | none =>
   dsimp only
   have all:∀k,k<runEnd t.mask i+1-i->Tk owner (i+k):=λk hk=>by
    have:=List.find?_eq_none.mp hf2 k (List.mem_range.mpr hk)
    exact (rM (by omega)).resolve_left this
   cases m with
   | zero=>exact absurd (all 0 (by omega)) hn
   | succ m =>
    obtain ⟨l,pre,j,post,h1,h2,h3,h4⟩:=ih fuel (leap t.mask i q).1 (leap t.mask i q).2 (by omega) (by have:=Nat.mod_lt (i*5+1+q/32) (show 0<t.mask+1 by omega);show (i*5+1+q/32)%(t.mask+1)<=t.mask;omega) ⟨m,by omega,hn,hk⟩
    refine ⟨runEnd t.mask i-i+1+l,List.range' i (runEnd t.mask i-i+1)++pre,j,post,h1,?_,λa ha=>?_,h4⟩
    ·rw [kK,w1,w2]
     show List.range' i (runEnd t.mask i-i+1)++wk t (gV t.mask (leap t.mask i q).1 (leap t.mask i q).2) l=_
     rw [h2,List.append_assoc]
    ·rcases List.mem_append.mp ha with z | z
     ·obtain ⟨h5,h6⟩:=List.mem_range'_1.mp z
      have:=all (a-i) (by omega)
      rw [show i+(a-i)=a by omega] at this
      exact this
     ·exact h3 a z
structure Own(t:SetTable)(hs:List Int)(owner:Array (Option Nat))(A:List (Nat×Nat))(k:Nat):Prop where
 sz:owner.size=t.mask+1
 iff:∀j i,owner[j]?=some (some i)↔(j,i)∈A
 sn:A.map (·.2)=List.range k
 nd:(A.map (·.1)).Nodup
 rc:∀x∈A,∃h,hs[x.2]?=some h/\Rch t (A.map (·.1)) h x.1
theorem vx(t:SetTable)(hs:List Int):Own t hs (Array.replicate (t.mask+1) none) [] 0:=by
 refine ⟨by simp,λj i=>⟨λh=>?_,λh=>nomatch h⟩,rfl,.nil,λx hx=>nomatch hx⟩
 rw [Array.getElem?_replicate] at h
 split at h<;>cases h
theorem fw{t:SetTable}{hs:List Int}{owner:Array (Option Nat)}{A:List (Nat×Nat)}{k:Nat}{h:Int}(g:jZ t.mask)(o:Own t hs owner A k)(hh:hs[k]?=some h)(hk:k<=t.mask) :
  ∃j,layClean.free t.mask owner (turns t.mask) (bits h%(t.mask+1)) (bits h)=some j/\Own t hs (owner.setIfInBounds j (some k)) (A++[(j,k)]) (k+1):=by
 have la:A.length=k:=by
  have:=congrArg List.length o.sn
  simpa using this
 have tkA:∀a,Tk owner a↔a∈A.map (·.1):=λa=>⟨λ⟨i,z⟩=>List.mem_map.mpr ⟨(a,i),(o.iff a i).mp z,rfl⟩,λz=>by
  obtain ⟨x,hx,rfl⟩:=List.mem_map.mp z
  exact ⟨x.2,(o.iff x.1 x.2).mpr hx⟩⟩
 obtain ⟨s,hs1,hs2⟩:=jC (l:=A.map (·.1)) (mask:=t.mask) (by rw [List.length_map];omega)
 obtain ⟨m,hm,em⟩:=zA g h hs1
 obtain ⟨l,pre,j,post,h1,h2,h3,h4⟩:=ux t owner o.sz (12+t.mask) (turns t.mask) (bits h%(t.mask+1)) (bits h) (by show 12+t.mask<t.mask+15;omega) (by have:=Nat.mod_lt (bits h) (show 0<t.mask+1 by omega);omega)
  ⟨m,hm,by rw [sK,em,tkA];exact hs2,by rw [sK,em];exact hs1⟩
 have hj:j<owner.size:=(Array.getElem?_eq_some_iff.mp h4).1
 have nj:j∉A.map (·.1):=λz=>by
  obtain ⟨i,e⟩:=(tkA j).mpr z
  rw [h4] at e
  cases e
 refine ⟨j,h1,⟨by rw [Array.size_setIfInBounds];exact o.sz,λa i=>?_,?_,?_,λx hx=>?_⟩⟩
 ·rw [Array.getElem?_setIfInBounds]
  by_cases ea:j=a
  ·subst ea
   rw [if_pos rfl,if_pos hj]
   constructor
   ·intro e
    cases e
    exact List.mem_append_right _ List.mem_cons_self
   ·intro e
    rcases List.mem_append.mp e with z | z
    ·exact absurd (List.mem_map.mpr ⟨_,z,rfl⟩) nj
    ·cases List.mem_singleton.mp z
     rfl
  ·rw [if_neg ea,o.iff]
   constructor
   ·exact λz=>List.mem_append_left _ z
   ·intro e
    rcases List.mem_append.mp e with z | z
    ·exact z
    ·cases List.mem_singleton.mp z
     exact absurd rfl ea
 ·rw [List.map_append,o.sn,List.range_succ]
  rfl
 ·rw [List.map_append]
  refine List.nodup_append.mpr ⟨o.nd,by simp,λa ha b hb e=>?_⟩
  have:b=j:=by simpa using hb
  rw [e,this] at ha
  exact nj ha
 ·have up:∀a∈A.map (·.1),a∈(A++[(j,k)]).map (·.1):=λa ha=>by rw [List.map_append];exact List.mem_append_left _ ha
  rcases List.mem_append.mp hx with z | z
  ·obtain ⟨h',e1,e2⟩:=o.rc x z
   exact ⟨h',e1,e2.mono rfl up⟩
  ·cases List.mem_singleton.mp z
   exact ⟨h,hh,l,pre,post,by rw [fU];exact h2,λa ha=>up a ((tkA a).mp (h3 a ha))⟩
theorem mH{t:SetTable}{hs:List Int}(g:jZ t.mask)(hl:hs.length<=t.mask+1):∀(r:List Int) (owner:Array (Option Nat)) (A:List (Nat×Nat)) (k:Nat),hs.drop k=r->Own t hs owner A k ->
  ∃owner' A',r.foldl (λacc h=>do
   let (owner,k) ← acc
   let j ← layClean.free t.mask owner (turns t.mask) (bits h%(t.mask+1)) (bits h)
   pure (owner.setIfInBounds j (some k),k+1)) (some (owner,k))=some (owner',k+r.length)/\Own t hs owner' A' (k+r.length)
 | [],owner,A,k,_,o=>⟨owner,A,rfl,o⟩
 | h::r,owner,A,k,hd,o=>by
  have hh:hs[k]?=some h:=by
   have:(hs.drop k)[0]?=some h:=by rw [hd];rfl
   rw [List.getElem?_drop] at this
   simpa using this
  have hk:k<hs.length:=(List.getElem?_eq_some_iff.mp hh).1
  obtain ⟨j,e1,o1⟩:=fw g o hh (by omega)
  have hd1:hs.drop (k+1)=r:=by rw [← List.drop_drop,hd];rfl
  obtain ⟨owner',A',e2,o2⟩:=mH g hl r _ _ (k+1) hd1 o1
  refine ⟨owner',A',?_,by rw [List.length_cons,show k+(r.length+1)=k+1+r.length by omega];exact o2⟩
  rw [List.foldl_cons]
  show List.foldl _ ((layClean.free t.mask owner (turns t.mask) (bits h%(t.mask+1)) (bits h)).bind λj=>some (owner.setIfInBounds j (some k),k+1)) r=_
  rw [e1]
  show List.foldl _ (some (owner.setIfInBounds j (some k),k+1)) r=_
  rw [e2,List.length_cons,show k+(r.length+1)=k+1+r.length by omega]
end Tb
namespace Tb
open PySem PySem.SetTable
theorem wc{mask f m:Nat}{led plain:Bool}{hashes:Array Int}{es:List (Int×Value)}(g:jZ mask)(hh:hashes.toList=es.map (·.1))(hl:es.length<=mask) :
  ∃t order,laid mask f m led plain hashes=some (t,order)/\t.mask=mask/\t.led=led/\t.plain=plain/\order.toList.Perm (List.range es.length)/\TOk t (order.toList.filterMap (es[·]?)):=by
 let t0:SetTable:={mask:=mask,place:=#[],dummies:=#[],finger:=f,led:=led,moves:=m,plain:=plain}
 have hn:hashes.toList.length=es.length:=by rw [hh,List.length_map]
 obtain ⟨owner,A,e,o⟩:=mH (t:=t0) (hs:=hashes.toList) g (by rw [hn];show es.length<=mask+1;omega) hashes.toList _ [] 0 rfl (vx t0 hashes.toList)
 rw [Nat.zero_add,hn] at e o
 have ec:layClean mask hashes=some owner:=by
  unfold layClean
  rw [← Array.foldl_toList]
  have e':=congrArg (Option.map (·.1)) e
  exact e'
 let Lv:List (Nat×Nat):=(List.range (mask+1)).filterMap λj=>(owner.getD j none).map (j,·)
 have mem:∀x,x∈Lv↔x∈A:=λx=>by
  obtain ⟨j,i⟩:=x
  rw [← o.iff]
  constructor
  ·intro hx
   obtain ⟨a,ha,ea⟩:=List.mem_filterMap.mp hx
   obtain ⟨b,eb,ex⟩:=Option.map_eq_some_iff.mp ea
   cases ex
   by_cases hj:j<owner.size
   ·have:owner.getD j none=owner[j]:=by simp [Array.getD,hj]
    rw [this] at eb
    rw [Array.getElem?_eq_getElem hj,eb]
   ·have:owner.getD j none=none:=by simp [Array.getD,hj]
    rw [this] at eb
    cases eb
  ·intro hx
   obtain ⟨hj,eb⟩:=Array.getElem?_eq_some_iff.mp hx
   refine List.mem_filterMap.mpr ⟨j,List.mem_range.mpr (by have:=o.sz;show j<t0.mask+1;omega),?_⟩
   have:owner.getD j none=owner[j]:=by simp [Array.getD,hj]
   rw [this,eb]
   rfl
 have rs:(Lv.map (·.1)).Pairwise (·<·):=by
  rw [List.pairwise_map,List.pairwise_filterMap]
  refine List.pairwise_lt_range.imp ?_
  intro a b hab x hx y hy
  obtain ⟨_,_,rfl⟩:=Option.map_eq_some_iff.mp hx
  obtain ⟨_,_,rfl⟩:=Option.map_eq_some_iff.mp hy
  exact hab
 have ndL:Lv.Nodup:=(List.pairwise_map.mp rs).imp λh e=>by rw [e] at h;exact Nat.lt_irrefl _ h
 have ndA:A.Nodup:=(List.pairwise_map.mp (show (A.map (·.1)).Pairwise (·≠·) from o.nd)).imp λh e=>h (by rw [e])
 have perm:Lv.Perm A:=(List.perm_ext_iff_of_nodup ndL ndA).mpr mem
 have p2:(Lv.map (·.2)).Perm (List.range es.length):=by rw [← o.sn];exact perm.map _
 have inr:∀x∈Lv,x.2<es.length:=λx hx=>List.mem_range.mp (p2.mem_iff.mp (List.mem_map.mpr ⟨x,hx,rfl⟩))
 refine ⟨{mask:=mask,place:=(Lv.map (·.1)).toArray,dummies:=#[],finger:=f,led:=led,moves:=m,plain:=plain},(Lv.map (·.2)).toArray,?_,rfl,rfl,rfl,by simpa using p2,?_⟩
 ·unfold laid
  rw [ec]
  rfl
 ·have es':((Lv.map (·.2)).toArray.toList.filterMap (es[·]?))=Lv.map λx=>(es[x.2]?).getD (0,.none):=by
   show (Lv.map (·.2)).filterMap (es[·]?)=_
   rw [List.filterMap_map]
   clear perm mem ndL p2 rs
   generalize Lv=L at inr
   induction L with
   | nil=>rfl
   | cons x r ih =>
    have hx:=inr x List.mem_cons_self
    have ex:es[x.2]?=some es[x.2]:=List.getElem?_eq_getElem hx
    rw [List.filterMap_cons_some (f:=(λx=>es[x]?)∘λx:Nat×Nat=>x.2) (a:=x) (b:=es[x.2]) ex,ih λy hy=>inr y (List.mem_cons_of_mem _ hy),List.map_cons,ex]
    rfl
  rw [es']
  have pl:(Lv.map (·.1)).toArray.toList=Lv.map (·.1):=rfl
  have ll:Lv.length=es.length:=by
   have:=p2.length_eq
   simpa using this
  refine ⟨g,rs,rfl,by rw [pl,List.length_map,List.length_map],by rw [List.length_map,ll];exact hl,λy hy=>?_⟩
  have hy':y∈(Lv.map (·.1)).zip (Lv.map λx=>(es[x.2]?).getD (0,.none)):=hy
  rw [List.zip_map'] at hy'
  obtain ⟨x,hx,rfl⟩:=List.mem_map.mp hy'
  obtain ⟨h,e1,e2⟩:=o.rc x ((mem x).mp hx)
  have e3:((es[x.2]?).getD (0,.none)).1=h:=by
   rw [hh,List.getElem?_map] at e1
   obtain ⟨z,ez,rfl⟩:=Option.map_eq_some_iff.mp e1
   rw [ez]
   rfl
  show Rch _ _ ((es[x.2]?).getD (0,.none)).1 x.1
  rw [e3]
  exact Rch.mono (t:=t0) rfl (λa ha=>(perm.map (·.1)).mem_iff.mpr ha) e2
structure SOk(t:SetTable)(es:List (Int×Value)):Prop where
 ok:TOk t es
 nf:es.length*5<t.mask*3
theorem qt(f m:Nat)(led:Bool):SOk (.fresh f m led) []:=⟨qi f m led,by show 0*5<7*3;decide⟩
theorem SOk.room{t:SetTable}{es:List (Int×Value)}(k:SOk t es):es.length+1<=t.mask:=by
 have:=k.nf
 rcases k.ok.gd with h | h | h<;>omega
theorem uv{t:SetTable}{es:List (Int×Value)}(k:TOk t es):t.tooFull=decide (t.mask*3<=es.length*5):=by
 unfold tooFull fill
 have h1:=k.sz
 rw [Array.length_toList] at h1
 rw [k.du,h1]
 rfl
theorem ur{mask n:Nat}(g:jZ mask)(hf:mask*3<=n*5)(hp:(n-1)*5<mask*3)(hn:n<=76):jZ (sizeAbove (grown n)-1)/\n*5<(sizeAbove (grown n)-1)*3/\n<=sizeAbove (grown n)-1/\sizeAbove (grown n)<=128:=by
 rcases g with h | h | h
 ·have:n=5:=by omega
  subst this
  exact ⟨.inr (.inl (by decide +kernel)),by decide +kernel,by decide +kernel,by decide +kernel⟩
 ·have:n=19:=by omega
  subst this
  exact ⟨.inr (.inr (by decide +kernel)),by decide +kernel,by decide +kernel,by decide +kernel⟩
 ·omega
theorem qz{t:SetTable}{ea:Array (Int×Value)}(k:TOk t ea.toList)(hf:t.mask*3<=ea.size*5)(hp:(ea.size-1)*5<t.mask*3)(hn:ea.size<=76) :
  ∃t' order,t.relaid (ea.map (·.1)) (grown ea.size)=some (t',order)/\t'.led=t.led/\t'.plain=t.plain/\order.toList.Perm (List.range ea.size)/\SOk t' (order.filterMap (ea[·]?)).toList:=by
 obtain ⟨g1,g2,g3,_⟩:=ur k.gd hf hp hn
 obtain ⟨t',order,e1,e2,e3,e4,e5,e6⟩:=wc (f:=t.finger) (m:=t.movedTo (sizeAbove (grown ea.size)-1)) (led:=t.led) (plain:=t.plain) (hashes:=ea.map (·.1)) (es:=ea.toList) g1 (by simp) (by rw [Array.length_toList];exact g3)
 rw [Array.length_toList] at e5
 have e7:(order.filterMap (ea[·]?)).toList=order.toList.filterMap (ea.toList[·]?):=by
  rw [Array.toList_filterMap]
  congr 1
  funext i
  exact (Array.getElem?_toList ..).symm
 refine ⟨t',order,e1,e3,e4,e5,?_⟩
 rw [e7]
 refine ⟨e6,?_⟩
 have hlen:(order.toList.filterMap (ea.toList[·]?)).length=ea.size:=by
  have:=(e5.filterMap (ea.toList[·]?)).length_eq
  rw [this]
  have:=filterMap_getElem?_range ea
  have e8:(λi:Nat=>ea.toList[i]?)=λi:Nat=>ea[i]?:=by funext i;exact Array.getElem?_toList ..
  rw [e8,this,Array.length_toList]
 rw [hlen,e2]
 exact g2
end Tb
namespace Tb
open PySem PySem.SetTable
end Tb
namespace Tb
open PySem PySem.SetTable
section
variable {prog:Program}{w:World}{K:Type} [DecidableEq K] {knd:KeyKind prog w K}{A:Around}{E:Value->Shared->Prop}{s:Shared}
theorem qA{t:SetTable}{es:List (Int×Value)}(k:TOk t es)(e:Nat):(t.put e).1.plain=t.plain/\(t.put e).1.led=t.led/\(t.put e).1.mask=t.mask:=by
 rw [sR k]
 exact ⟨rfl,rfl,rfl⟩
end
end Tb
namespace Tb
open PySem PySem.SetTable
theorem yl{t:SetTable}{ea:Array (Int×Value)}(k:SOk t ea.toList)(h:Int)(x:Value) :
  ∃e,e∉t.place.toList/\Rch t t.place.toList h e/\TOk (t.put e).1 (insertAt ea (t.put e).2 (h,x)).toList/\layNew t ea h x=(insertAt ea (t.put e).2 (h,x),(t.put e).1,false,false):=by
 obtain ⟨e,e1,e2,e3⟩:=k.ok.freeSlot h
 have k1:TOk (t.put e).1 (insertAt ea (t.put e).2 (h,x)).toList:=k.ok.put e2 e3 k.room rfl
 have hf:=k1.fits (n:=(insertAt ea (t.put e).2 (h,x)).size) (Array.length_toList ..)
 refine ⟨e,e2,e3,k1,?_⟩
 unfold layNew
 rw [e1]
 dsimp only
 unfold SetTable.orStandIn
 rw [if_pos hf,hf]
 rfl
theorem sM{t:SetTable}{ea:Array (Int×Value)}(k:TOk t ea.toList)(hf:t.mask*3<=ea.size*5)(hp:(ea.size-1)*5<t.mask*3)(hn:ea.size<=76) :
  ∃t' es',relayAll t ea (grown ea.size)=(es',t',false)/\t'.led=t.led/\t'.plain=t.plain/\es'.toList.Perm ea.toList/\SOk t' es'.toList:=by
 obtain ⟨t',order,r1,r2,r3,r4,r5⟩:=qz k hf hp hn
 have r6:(order.filterMap (ea[·]?)).toList.Perm ea.toList:=by
  rw [Array.toList_filterMap]
  exact (r4.filterMap _).trans (by rw [filterMap_getElem?_range])
 refine ⟨t',_,?_,r2,r3,r6,r5⟩
 unfold relayAll
 rw [r1]
 dsimp only
 have c1:coversAll order ea.size=true:=by
  unfold coversAll
  exact List.isPerm_iff.mpr r4
 rw [c1,r5.ok.fits (n:=(order.filterMap (ea[·]?)).size) (Array.length_toList ..)]
 rfl
section
variable {prog:Program}{w:World}{K:Type} [DecidableEq K] {knd:KeyKind prog w K}{A:Around}{E:Value->Shared->Prop}{s:Shared}
def VSet(knd:KeyKind prog w K)(h:Heap)(a:Addr)(led:Bool)(vs:List (K×Value)):Prop :=
 ∃o es ep t,h.get? a=some o/\o.ExactSet/\o.data=.set es ep t/\SOk t es.toList/\t.led=led/\t.plain=true/\es.toList.Perm (vs.map λx=>(knd.hash x.1,x.2))/\(vs.map (·.1)).Nodup/\∀x∈vs,knd.is x.1 x.2=true/\x.2.scannable=true/\plainKind x.2=true
def pi(vs:List (K×Value))(k:K)(x:Value):List (K×Value):=if k∈vs.map (·.1) then vs else vs++[(k,x)]
theorem rG{a:Addr}{x:Value}{led:Bool}{k:K}{vs:List (K×Value)}{Q:Bool->Shared->Prop}(hS:VSet knd s.heap a led vs)(hkey:knd.is k x=true)(hsc:x.scannable=true)(hpk:plainKind x=true)(hn:vs.length<=60)
  (q:∀b h',Heap.SameBut a s.heap h'->VSet knd h' a led (pi vs k x)->Q b {s with heap:=h'}):wpAny (model prog w) A (setAddHashed a x (knd.hash k)) Q E s:=by
 have hS0:=hS
 obtain ⟨o,es,ep,t,ho,hex,hd,hk,hl,hpl,hp,hnd,hx⟩:=hS
 have hsz:es.size=vs.length:=by have:=hp.length_eq;rw [Array.length_toList,List.length_map] at this;exact this
 have hf:=hk.ok.fits (n:=es.size) (Array.length_toList ..)
 have hel:ElemsOf knd es.toList:=λe he=>by
  obtain ⟨y,hy,rfl⟩:=List.mem_map.mp (hp.mem_iff.mp he)
  exact ⟨⟨y.1,(hx y hy).1,rfl⟩,(hx y hy).2.1⟩
 have sb:(64:Nat)<=scanBound:=by decide
 have hb:es.size<scanBound:=by omega
 unfold setAddHashed setAddHashedIn
 refine wpAny_holding (wpAny_bind (wpAny_setState_of ho hd hf ?_))
 dsimp only
 rw [byScan_of hsc hb hel]
 simp only [↓reduceIte]
 unfold setAddByScan
 refine wpAny_bind ?_
 refine wpAny_bind (wpAny_rule ?_)
 refine wpAny_bind (wpAny_setScan_of hkey ho hd hf hel ?_)
 cases hr:List.findIdx? (λe=>knd.is k e.2) es.toList with
 | some j =>
  dsimp only
  obtain ⟨hj,hpj,_⟩:=List.findIdx?_eq_some_iff_getElem.mp hr
  obtain ⟨y,hy,ey⟩:=List.mem_map.mp (hp.mem_iff.mp (List.getElem_mem hj))
  have hin:k∈vs.map (·.1):=by
   have h2:knd.is k y.2=true:=by rw [← ey] at hpj;exact hpj
   exact List.mem_map.mpr ⟨y,hy,(knd.inj y.2 k y.1 h2 (hx y hy).1).symm⟩
  refine wpAny_pure (wpAny_pure ?_)
  have e1:s={s with heap:=s.heap}:=by cases s;rfl
  rw [e1]
  refine q _ s.heap (Heap.SameBut.refl a s.heap) ?_
  unfold pi
  rw [if_pos hin]
  exact hS0
 | none =>
  dsimp only
  have hni:k∉vs.map (·.1):=λhin=>by
   obtain ⟨y,hy,ey⟩:=List.mem_map.mp hin
   have:=List.findIdx?_eq_none_iff.mp hr (knd.hash y.1,y.2) (hp.mem_iff.mpr (List.mem_map.mpr ⟨y,hy,rfl⟩))
   rw [← ey,(hx y hy).1] at this
   cases this
  obtain ⟨e,he,hrc,k1,el⟩:=yl hk (knd.hash k) x
  rw [el]
  dsimp only
  obtain ⟨p1,p2,p3⟩:=qA hk.ok e
  refine wpAny_bind (wpAny_pure ?_)
  rw [p1,hpl,if_pos rfl]
  refine wpAny_bind ?_
  rw [hashByValue_scannable 8 hsc,hpk]
  refine wpAny_pure ?_
  rw [if_pos rfl]
  have hp1:(insertAt es (t.put e).2 (knd.hash k,x)).toList.Perm ((vs++[(k,x)]).map λx=>(knd.hash x.1,x.2)):=by
   refine (insertAt_perm ..).trans ?_
   rw [Array.toList_push,List.map_append]
   exact hp.append_right _
  generalize hE:insertAt es (t.put e).2 (knd.hash k,x)=es1 at k1 hp1 ⊢
  have hsz1:es1.size=vs.length+1:=by have:=hp1.length_eq;rw [Array.length_toList,List.length_map,List.length_append] at this;exact this
  have sl:es1.size<=sizeLine:=by rw [sizeLine_eq];omega
  refine wpAny_bind (wpAny_storeSet_of ho hd ?_ sl)
  have g1:(s.heap.update a (Obj.putSet es1 (t.put e).1)).get? a=some {o with data:=.set es1 (ep+1) (t.put e).1}:=by
   have:=Heap.get?_update_self (Obj.putSet es1 (t.put e).1) ho (by rw [putSet_of es1 (t.put e).1 hd];rfl)
   rw [putSet_of es1 (t.put e).1 hd] at this;exact this
  have sb1:=Heap.SameBut.update s.heap a (Obj.putSet es1 (t.put e).1)
  have ax:pi vs k x=vs++[(k,x)]:=if_neg hni
  have nd1:((vs++[(k,x)]).map (·.1)).Nodup:=by
   rw [List.map_append]
   refine List.nodup_append.mpr ⟨hnd,by simp,λu hu1 v hv e5=>?_⟩
   have:v=k:=by simpa using hv
   exact hni (by rw [← this,← e5];exact hu1)
  have keys:∀y∈vs++[(k,x)],knd.is y.1 y.2=true/\y.2.scannable=true/\plainKind y.2=true:=λy hy=>by
   rcases List.mem_append.mp hy with z | z
   ·exact hx y z
   ·cases List.mem_singleton.mp z
    exact ⟨hkey,hsc,hpk⟩
  have full:=uv k1
  rw [Array.length_toList,hsz1,p3] at full
  rw [Bool.not_false,Bool.true_and,full]
  have nf:=hk.nf
  rw [Array.length_toList,hsz] at nf
  by_cases hfull:t.mask*3<=(vs.length+1)*5
  ·rw [decide_eq_true hfull,if_pos rfl]
   obtain ⟨t',es2,r1,r2,r3,r4,r5⟩:=sM (t:=(t.put e).1) (ea:=es1) k1 (by rw [p3,hsz1];exact hfull) (by rw [p3,hsz1];omega) (by omega)
   rw [r1]
   dsimp only
   have r7:es2.size=es1.size:=by have:=r4.length_eq;rw [Array.length_toList,Array.length_toList] at this;exact this
   refine wpAny_bind (wpAny_pure ?_)
   refine wpAny_bind (wpAny_storeSet_of g1 rfl ?_ (by rw [r7];exact sl))
   have g2:((s.heap.update a (Obj.putSet es1 (t.put e).1)).update a (Obj.putSet es2 t')).get? a=some {o with data:=.set es2 (ep+1+1) t'}:=by
    have:=Heap.get?_update_self (Obj.putSet es2 t') g1 (by rw [putSet_of es2 t' rfl];rfl)
    rw [putSet_of es2 t' rfl] at this;exact this
   have sb2:=sb1.trans (Heap.SameBut.update (s.heap.update a (Obj.putSet es1 (t.put e).1)) a (Obj.putSet es2 t'))
   refine wpAny_pure (wpAny_pure (q _ _ sb2 ?_))
   rw [ax]
   exact ⟨_,es2,ep+1+1,t',g2,hex,rfl,r5,by rw [r2,p2];exact hl,by rw [r3,p1];exact hpl,r4.trans hp1,nd1,keys⟩
  ·rw [decide_eq_false hfull,if_neg (by decide)]
   refine wpAny_pure (wpAny_pure (q _ _ sb1 ?_))
   rw [ax]
   exact ⟨_,es1,ep+1,(t.put e).1,g1,hex,rfl,⟨k1,by rw [Array.length_toList,hsz1,p3];omega⟩,by rw [p2];exact hl,by rw [p1];exact hpl,hp1,nd1,keys⟩
end
end Tb
namespace Tb
open PySem PySem.SetTable
theorem slot_sin:Slot "set_iterator" "__next__" "set_iterator.__next__" :=
 .of (owner:="set_iterator") (n:="__next__") (by rw [typeLookup_type,builtinLookup_eq_fast];kernel_rfl) (by decide +kernel) (by decide +kernel) (by decide +kernel) (.inl (by decide +kernel)) (by rw [isSubtype_type];kernel_rfl)
theorem mt:Slot "set_iterator" "__iter__" "set_iterator.__iter__" :=
 .of (owner:="set_iterator") (n:="__iter__") (by rw [typeLookup_type,builtinLookup_eq_fast];kernel_rfl) (by decide +kernel) (by decide +kernel) (by decide +kernel) (.inl (by decide +kernel)) (by rw [isSubtype_type];kernel_rfl)
theorem ku : entryFor table "set_iterator.__next__" = some Builtin.«set_iterator.__next__» := entryFor_of_tree (by kernel_rfl)
theorem rb : entryFor table "set_iterator.__iter__" = some Builtin.«dict_keyiterator.__iter__» :=
 entryFor_alias (id':="dict_keyiterator.__iter__") (by kernel_rfl) rfl (by decide +kernel) (by kernel_rfl)
theorem nu : entryFor table "set.__iter__" = some Builtin.«frozenset.__iter__» :=
 entryFor_alias (id':="frozenset.__iter__") (by kernel_rfl) rfl (by decide +kernel) (by kernel_rfl)
theorem mF:Manifest.owners.lookup (String.ofList ("set_iterator".toList.reverse).reverse)=some Manifest.sig_set_iterator:=by kernel_rfl
theorem nK(a:Value):argsOk "set_iterator.__next__" ⟨[a],[]⟩:=by
 unfold argsOk;rw [signature?_of (id:="set_iterator.__next__") (n:="__next__".toList.reverse) (o:="set_iterator".toList.reverse) (by kernel_rfl) mF];kernel_rfl
theorem uM(a:Value):argsOk "set_iterator.__iter__" ⟨[a],[]⟩:=by
 unfold argsOk;rw [signature?_of (id:="set_iterator.__iter__") (n:="__iter__".toList.reverse) (o:="set_iterator".toList.reverse) (by kernel_rfl) mF];kernel_rfl
theorem jE{α:Type}:∀(l:List α) (i:Nat) (h:i<l.length),(l[i]::l.eraseIdx i).Perm l
 | _::_,0,_=>List.Perm.refl _
 | a::l,i+1,h=>(List.Perm.swap a _ _).trans ((jE l i (Nat.lt_of_succ_lt_succ h)).cons a)
theorem pP{α:Type}(next:Nat->Nat):∀(fuel k:Nat) (left:List α) (out:Array α),left.length=fuel->(pickOrder.go next fuel k left out).toList.Perm (out.toList++left)
 | 0,k,left,out,h=>by
  rw [List.length_eq_zero_iff.mp h,List.append_nil]
  exact List.Perm.refl _
 | fuel+1,k,left,out,h=>by
  have hi:next k%left.length<left.length:=Nat.mod_lt _ (by omega)
  have e:left[next k%left.length]?=some left[next k%left.length]:=List.getElem?_eq_getElem hi
  unfold pickOrder.go
  rw [e]
  dsimp only
  refine (pP next fuel (k+1) _ _ (by rw [List.length_eraseIdx_of_lt hi];omega)).trans ?_
  rw [Array.toList_push,List.append_assoc]
  exact List.Perm.append_left _ (jE left _ hi)
theorem qD{α:Type}(next:Nat->Nat)(xs:Array α):(pickOrder next xs).toList.Perm xs.toList:=by
 have:=pP next xs.size 0 xs.toList #[] (Array.length_toList ..)
 simpa [pickOrder] using this
def zJ(h:Heap)(a:Addr)(es:Array (Int×Value))(ep:Nat)(t:SetTable):Prop:=∃o,h.get? a=some o/\o.ExactSet/\o.data=.set es ep t
def dh(P:Params)(a ep:Nat)(es:Array (Int×Value)):Array (Int×Value):=if P.followText "set-order"=true then pickOrder (P.setOrder a ep) es else es
theorem j0(P:Params)(a ep:Nat)(es:Array (Int×Value)):(dh P a ep es).toList.Perm es.toList:=by
 unfold dh
 split
 ·exact qD _ _
 ·exact List.Perm.refl _
theorem fR(P:Params)(a ep:Nat)(es:Array (Int×Value)):(dh P a ep es).size=es.size:=by
 have:=(j0 P a ep es).length_eq
 rw [Array.length_toList,Array.length_toList] at this
 exact this
def SetIt(P:Params)(h:Heap)(it a:Addr)(t:SetTable)(i n ep:Nat):Prop:=∃slot:Nat,h.get? it=some {cls:=.type "set_iterator",dict:=none,data:=.fields #[.int (slot:Int) 0,.int (i:Int) 0,.ref a,.int (n:Int) 0,.int (ep:Int) 0],slots:=#[]}/\(P.followText "set-order"=false->below t.place slot=i)
section
variable {prog:Program}{w:World}{A:Around}{E:Value->Shared->Prop}{s:Shared}{a it:Addr}{es:Array (Int×Value)}{ep i:Nat}{t:SetTable}
theorem l7{Q:Bool->Shared->Prop}(h:Q (w.params.followText "set-order") s):wpAny (model prog w) A setsByText Q E s:=by
 unfold setsByText
 exact wpAny_bind (wpAny_askSetting (wpAny_pure h))
theorem mv{Q:Option (Value×Nat)->Shared->Prop}{slot:Nat}(hS:zJ s.heap a es ep t)(hk:SOk t es.toList)(hl:t.led=!w.params.followText "set-order")(hp:t.plain=true)(hb:w.params.followText "set-order"=false->below t.place slot=i)
  (q:∀nx:Nat,(w.params.followText "set-order"=false->i<es.size->below t.place nx=i+1)->Q (((dh w.params a ep es)[i]?).map λe=>(e.2,nx)) s):wpAny (model prog w) A (setNext a slot i ep) Q E s:=by
 obtain ⟨o,ho,hx,hd⟩:=hS
 have hf:=hk.ok.fits (n:=es.size) (Array.length_toList ..)
 unfold setNext
 refine wpAny_bind (wpAny_setState_of ho hd hf (wpAny_bind (l7 ?_)))
 dsimp only
 cases hT:w.params.followText "set-order" with
 | true =>
  rw [if_pos rfl,bne_self_eq_false,if_neg (by decide)]
  unfold setWalk
  refine wpAny_bind (wpAny_bind (wpAny_setState_of ho hd hf (wpAny_bind (l7 ?_))))
  rw [hT,if_pos rfl]
  refine wpAny_bind (wpAny_askSetting (wpAny_pure (wpAny_pure ?_)))
  have:=q slot (λz=>by rw [hT] at z;cases z)
  unfold dh at this
  rw [hT,if_pos rfl] at this
  exact this
 | false =>
  rw [if_neg (by decide)]
  have hl1:t.led=true:=by rw [hl,hT];rfl
  split
  ·rename_i z
   have z1:(!t.plain&&decide (es.size>1))=true:=z
   rw [hp] at z1
   cases z1
  ·refine wpAny_bind (show wpAny _ _ (if (!t.led&&!es.isEmpty)=true then unsupported "set:maker-not-led" else pure ()) _ _ _ from ?_)
   rw [hl1,if_neg (by simp)]
   refine wpAny_pure (wpAny_pure ?_)
   rw [hb hT]
   have ew:dh w.params a ep es=es:=by unfold dh;rw [hT,if_neg (by decide)]
   rw [ew] at q
   by_cases hi:i<es.size
   ·have h1:=hk.ok.sz
    rw [Array.length_toList,Array.length_toList] at h1
    have hj:i<t.place.size:=by omega
    have e1:es[i]?=some es[i]:=Array.getElem?_eq_getElem hi
    have e2:t.place[i]?=some t.place[i]:=Array.getElem?_eq_getElem hj
    have:=q (t.place[i]+1) (λ_ _=>pb hk.ok.rs e2)
    rw [e1] at this ⊢
    rw [e2]
    exact this
   ·have e1:es[i]?=none:=Array.getElem?_eq_none (by omega)
    have:=q 0 (λ_ z=>absurd z hi)
    rw [e1] at this ⊢
    exact this
end
end Tb
namespace Tb
open PySem PySem.SetTable
section
variable {prog:Program}{w:World}{A:Around}{E:Value->Shared->Prop}{s:Shared}{a it:Addr}{es:Array (Int×Value)}{ep i:Nat}{t:SetTable}
theorem sy{P:Params}{n:Nat}(h:SetIt P s.heap it a t i n ep):s.TypeIs (.ref it) "set_iterator":=let ⟨_,e,_⟩:=h;⟨_,e,rfl⟩
structure WOk(P:Params)(h:Heap)(a:Addr)(es:Array (Int×Value))(ep:Nat)(t:SetTable):Prop where
 raw:zJ h a es ep t
 sok:SOk t es.toList
 led:t.led=!P.followText "set-order"
 pl:t.plain=true
theorem WOk.at{P:Params}{h h':Heap}(x:WOk P h a es ep t)(k:∀o,h.get? a=some o->h'.get? a=some o):WOk P h' a es ep t:=⟨let ⟨o,e,r⟩:=x.raw;⟨o,k o e,r⟩,x.sok,x.led,x.pl⟩
theorem SetIt.at{P:Params}{h h':Heap}{n:Nat}(x:SetIt P h it a t i n ep)(k:∀o,h.get? it=some o->h'.get? it=some o):SetIt P h' it a t i n ep:=let ⟨sl,e,r⟩:=x;⟨sl,k _ e,r⟩
theorem vc{e:Int×Value}{Q:Option Value->Shared->Prop}(hit:SetIt w.params s.heap it a t i es.size ep)(hw:WOk w.params s.heap a es ep t)(hx:(dh w.params a ep es)[i]?=some e)
  (hQ:∀h',SetIt w.params h' it a t (i+1) es.size ep->Heap.SameBut it s.heap h'->Q (some e.2) {s with heap:=h'}):wpAny (model prog w) A (pyNext (.ref it)) Q E s:=by
 have ty:=sy hit
 obtain ⟨slot,h1,hb⟩:=hit
 obtain ⟨o,ho,hex,hd⟩:=id hw.raw
 have hf:=hw.sok.ok.fits (n:=es.size) (Array.length_toList ..)
 have hi:i<es.size:=by rw [← fR w.params a ep es];exact (Array.getElem?_eq_some_iff.mp hx).1
 unfold pyNext
 refine wpAny_bind (wpAny_attempt (wpAny_callSpecial?_slot (name:=Str.ofString "__next__") ty slot_sin (wpAny_call_entry slot_sin ty ku ?_ (nK _))))
 unfold Builtin.«set_iterator.__next__»
 refine wpAny_bind (wpAny_pure ?_)
 try dsimp only
 refine wpAny_bind (wpAny_fieldsOf h1 rfl ?_)
 try dsimp only
 refine wpAny_bind (wpAny_setEntries_of ho hd hf ?_)
 rw [if_neg (by simp)]
 try dsimp only
 rw [Int.toNat_natCast,Int.toNat_natCast,Int.toNat_natCast]
 refine wpAny_bind (mv (i:=i) hw.raw hw.sok hw.led hw.pl hb λnx hnx=>?_)
 rw [hx]
 dsimp only [Option.map]
 refine wpAny_bind (wpAny_setField_rec h1 (by simp) λh2 e2 s2=>wpAny_bind (wpAny_setField_rec e2 (by simp) λh3 e3 s3=>?_))
 refine wpAny_pure ⟨_,rfl,wpAny_pure (hQ h3 ⟨nx,?_,λz=>hnx z hi⟩ (s2.trans s3))⟩
 have z:((i+1:Nat):Int)=(i:Int)+1:=by omega
 rw [z]
 simpa [rawInt] using e3
theorem xt{Q:Option Value->Shared->Prop}(hh:A.handled=none)(hit:SetIt w.params s.heap it a t i es.size ep)(hw:WOk w.params s.heap a es ep t)(hx:(dh w.params a ep es)[i]?=none)
  (hQ:∀h',Heap.ExtBut it s.heap h'->Q none {s with heap:=h'}):wpAny (model prog w) A (pyNext (.ref it)) Q E s:=by
 have ty:=sy hit
 obtain ⟨slot,h1,hb⟩:=hit
 obtain ⟨o,ho,hex,hd⟩:=id hw.raw
 have hf:=hw.sok.ok.fits (n:=es.size) (Array.length_toList ..)
 unfold pyNext
 refine wpAny_bind (wpAny_attempt (wpAny_callSpecial?_slot (name:=Str.ofString "__next__") ty slot_sin (wpAny_call_entry slot_sin ty ku ?_ (nK _))))
 unfold Builtin.«set_iterator.__next__»
 refine wpAny_bind (wpAny_pure ?_)
 try dsimp only
 refine wpAny_bind (wpAny_fieldsOf h1 rfl ?_)
 try dsimp only
 refine wpAny_bind (wpAny_setEntries_of ho hd hf ?_)
 rw [if_neg (by simp)]
 try dsimp only
 rw [Int.toNat_natCast,Int.toNat_natCast,Int.toNat_natCast]
 refine wpAny_bind (mv (i:=i) hw.raw hw.sok hw.led hw.pl hb λnx hnx=>?_)
 rw [hx]
 dsimp only [Option.map]
 refine wpAny_bind (wpAny_setField h1 rfl (by simp) ?_)
 show wpAny _ _ (newExc (.type "StopIteration") [] >>= λ_=>_) _ _ _
 refine wpAny_bind ?_
 simp only [newExc,newTuple]
 refine wpAny_bind (wpAny_newObj_type (wpAny_bind (m:=firstArgMember _ _) (wpAny_of_eq (a:=Value.none) (by first | rfl | (simp only [firstArgMember];rfl)) (wpAny_newObj_type ?_ (by size_fits)))) (by size_fits))
 simp only [raiseNew]
 refine wpAny_bind (wpAny_handled ?_)
 rw [show A.in1.handled=none from hh]
 refine wpAny_bind (wpAny_pure (wpAny_throw ?_));refine wpAny_bind (wpAny_isInstance (T:="StopIteration") (b:=true) ⟨_,Heap.get?_push_size _ rfl,rfl⟩ isSubtype_stop ?_)
 exact wpAny_pure (hQ _ (((Heap.SameBut.update ..).extBut.push _).push _))
theorem vb{n:Nat}{P:Params}{Q:Value->Shared->Prop}(hit:SetIt P s.heap it a t i n ep)(h:Q (.ref it) s):wpAny (model prog w) A (pyIter (.ref it)) Q E s:=by
 have ty:=sy hit
 refine wpAny_pyIter_slot ty mt (wpAny_call_entry mt ty rb ?_ (uM _))
 exact wpAny_pure ⟨_,rfl,"set_iterator",_,ty,slot_sin.lookup,h⟩
theorem vd{Q:Value->Shared->Prop}(hw:WOk w.params s.heap a es ep t)(hQ:∀h',h'=s.heap.push {cls:=.type "set_iterator",dict:=none,data:=.fields #[.int ((0:Nat):Int) 0,.int ((0:Nat):Int) 0,.ref a,.int (es.size:Int) 0,.int (ep:Int) 0],slots:=#[]}->SetIt w.params h' s.heap.objs.size a t 0 es.size ep->Q (.ref s.heap.objs.size) {s with heap:=h'}) :
  wpAny (model prog w) A (pyIter (.ref a)) Q E s:=by
 obtain ⟨o,ho,hex,hd⟩:=id hw.raw
 have ty:s.TypeIs (.ref a) "set":=⟨o,ho,hex.1⟩
 have hf:=hw.sok.ok.fits (n:=es.size) (Array.length_toList ..)
 refine wpAny_pyIter_slot ty F.slot_set_iter (wpAny_call_entry F.slot_set_iter ty nu ?_ (F.args_set_iter_1 _))
 unfold Builtin.«frozenset.__iter__» Builtin.Frozenset.slot0 slotArgs
 simp only [List.isEmpty_nil,Bool.not_true,Bool.false_eq_true,↓reduceIte,bind_assoc,List.length_nil,bne_self_eq_false]
 unfold Builtin.Frozenset.addrOf Builtin.Frozenset.sizeOf
 refine wpAny_bind (wpAny_pure (wpAny_bind (wpAny_pure (wpAny_bind (wpAny_bind (wpAny_setEntries_of ho hd hf (wpAny_pure ?_)))))))
 unfold setDrawn
 refine wpAny_bind (wpAny_bind (wpAny_setState_of ho hd hf (wpAny_bind (l7 (wpAny_pure ?_)))))
 rw [if_neg (show ¬_ from λz=>by
  have z1:(!w.params.followText "set-order"&&(!t.plain&&decide (es.size>1)))=true:=z
  rw [hw.pl] at z1
  simp at z1)]
 refine wpAny_bind (wpAny_pure (wpAny_bind (wpAny_setEpoch_of ho hd hf (wpAny_bind ?_))))
 refine wpAny_newObj_type (wpAny_pure ⟨_,rfl,"set_iterator",_,⟨_,Heap.get?_push_size _ rfl,rfl⟩,slot_sin.lookup,hQ _ rfl ⟨0,Heap.get?_push_size _ rfl,λ_=>o9 hw.sok.ok.rs⟩⟩)
theorem sw(hh:A.handled=none)(hne:a≠it):Walks prog w A it [it,a] [it] es.size (λi v=>∃e,(dh w.params a ep es)[i]?=some e/\v=e.2) (λi h=>SetIt w.params h it a t i es.size ep/\WOk w.params h a es ep t) where
 sub:=λb hb=>by simp at hb;simp [hb]
 frame:=λ_ _ _ st hk=>⟨st.1.at λo e=>hk it (by simp) o e,st.2.at λo e=>hk a (by simp) o e⟩
 item:=λi s Q E hi st hQ=>by
  have hz:=fR w.params a ep es
  have hx:(dh w.params a ep es)[i]?=some (dh w.params a ep es)[i]:=Array.getElem?_eq_getElem (by omega)
  refine vc st.1 st.2 hx λh' hit' hs'=>?_
  exact hQ _ h' s.toks ⟨_,hx,rfl⟩ ⟨hit',st.2.at λo e=>(hs'.2 a hne).trans e⟩ λb o hb e=>hs'.extBut b o (λh=>hb (by simp [h])) e
 done:=λs Q E st hQ=>xt hh st.1 st.2 (Array.getElem?_eq_none (by rw [fR];exact Nat.le_refl _)) λh' he'=>hQ h' s.toks λb o hb e=>he' b o (λh=>hb (by simp [h])) e
 self:=λ_ _ _ _ st hQ=>vb st.1 hQ
end
end Tb
namespace Tb
open PySem PySem.SetTable
theorem oW{M:Model}{A:Around}{α:Type}{c:Prop} [Decidable c]{x y:Sem α}{Q:α->Shared->Prop}{E:Value->Shared->Prop}{s:Shared}(h1:c->wpAny M A x Q E s)(h2:¬c->wpAny M A y Q E s):wpAny M A (if c then x else y) Q E s:=by
 by_cases h:c
 ·rw [if_pos h];exact h1 h
 ·rw [if_neg h];exact h2 h
section
variable {prog:Program}{w:World}{A:Around}{E:Value->Shared->Prop}{s:Shared}{a:Addr}{es:Array (Int×Value)}{ep:Nat}{t:SetTable}
theorem sB{Q:Bool->Shared->Prop}(ty:s.TypeIs (.ref a) "set")(h:Q false s):wpAny (model prog w) A (Builtin.List.listLengthHint (.ref a)) Q E s:=by
 unfold Builtin.List.listLengthHint
 refine wpAny_bind (wpAny_specialOf ty PySem.F.slot_set_len.lookup ?_)
 generalize hid:("set.__len__":String)=id0
 wp_delta
 rw [show splitId id0=some ("set","__len__") from by subst hid;decide +kernel]
 subst hid
 refine wpAny_bind (wpAny_isInstance (T:="set") (b:=true) ty (by rw [isSubtype_type];kernel_rfl) ?_)
 refine oW (λz=>absurd z (by decide)) (λ_=>oW (λ_=>?_) (λz=>absurd (by decide +kernel) z))
 exact wpAny_bind (wpAny_typeOf ty (wpAny_pure h))
theorem mw{R:List Value->Shared->Prop}(hh:A.handled=none)(hw:WOk w.params s.heap a es ep t)(hn:es.size<=sizeLine)
  (hR:∀(h':Heap) (tk:Nat),(∀b o,s.heap.get? b=some o->h'.get? b=some o)->R ((dh w.params a ep es).toList.map (·.2)) {s with heap:=h',toks:=tk}):wpAny (model prog w) A (collect (.ref a)) R E s:=by
 obtain ⟨o,ho,hex,hd⟩:=id hw.raw
 have la:a<s.heap.objs.size:=Heap.lt_size ho
 unfold collect
 refine wpAny_bind (wpAny_runValue (codeAny_builtin PySem.F.entry_proto_collect ?_))
 rw [Around.under_plainId PySem.F.plain_proto_collect _]
 show wpAny _ A.in1 (newList [] >>= λl=>again (.builtin "list.__iadd__" (Args.mk [l,.ref a] []))) _ _ s
 refine wpAny_bind (wpAny_newObj_type (wpAny_pure ⟨plainId_quiet PySem.F.plain_list_iadd _,codeAny_builtin PySem.F.entry_list_iadd ?_⟩))
 rw [Around.under_plainId PySem.F.plain_list_iadd _]
 show wpAny _ A.in1 (Builtin.List.listExtendWith (.ref s.heap.objs.size) (.ref a) (.ref s.heap.objs.size)) _ _ _
 have hw1:WOk w.params (s.heap.push {cls:=.type "list",data:=.seq ([]:List Value).toArray}) a es ep t:=hw.at λo e=>Heap.get?_push_of_some _ e
 have ty1:Shared.TypeIs {s with heap:=s.heap.push {cls:=.type "list",data:=.seq ([]:List Value).toArray}} (.ref a) "set":=⟨o,Heap.get?_push_of_some _ ho,hex.1⟩
 unfold Builtin.List.listExtendWith
 refine wpAny_bind (wpAny_typeOf (T:="set") ty1 ?_)
 have b1:Builtin.List.listSameRef (.ref s.heap.objs.size) (.ref a)=false:=by simp only [Builtin.List.listSameRef,beq_eq_false_iff_ne];exact Nat.ne_of_gt la
 rw [b1,if_neg (by decide)]
 refine wpAny_bind (vd (s:={s with heap:=s.heap.push {cls:=.type "list",data:=.seq ([]:List Value).toArray}}) hw1 λh2 e2 it2=>?_)
 have k2:∀b o,(s.heap.push {cls:=.type "list",data:=.seq ([]:List Value).toArray}).get? b=some o->h2.get? b=some o:=λb o e=>by rw [e2];exact Heap.get?_push_of_some _ e
 have hw2:WOk w.params h2 a es ep t:=hw1.at λo e=>k2 _ _ e
 have eI:(s.heap.push {cls:=.type "list",data:=.seq ([]:List Value).toArray}).objs.size=s.heap.objs.size+1:=Heap.size_push ..
 refine wpAny_bind (wpAny_holding (sB (s:={s with heap:=h2}) ⟨o,k2 _ _ (Heap.get?_push_of_some _ ho),hex.1⟩ ?_))
 refine oW (λ_=>?_) (λz=>absurd (by decide +kernel) z)
 refine wpAny_bind (wpAny_rule (wpAny_bind ?_))
 have eS:h2.get? s.heap.objs.size=some {cls:=.type "list",data:=.seq ([]:List Value).toArray}:=k2 _ _ (Heap.get?_push_size _ rfl)
 show wpAny _ _ (updateSeq s.heap.objs.size (·.push .none) >>= λ_=>updateSeq s.heap.objs.size (·.pop)) _ _ _
 have eS2:=Heap.get?_update_self (Obj.mapSeq (·.push Value.none)) eS rfl
 have eS3:=Heap.get?_update_self (Obj.mapSeq (·.pop)) eS2 rfl
 have up:∀b o,b≠s.heap.objs.size->h2.get? b=some o->((h2.update s.heap.objs.size (Obj.mapSeq (·.push Value.none))).update s.heap.objs.size (Obj.mapSeq (·.pop))).get? b=some o:=λb o nb e=>(Heap.get?_update_other _ _ (Ne.symm nb)).trans ((Heap.get?_update_other _ _ (Ne.symm nb)).trans e)
 have W:=(sw (prog:=prog) (w:=w) (A:=A.in1) (a:=a) (it:=(s.heap.push {cls:=.type "list",data:=.seq ([]:List Value).toArray}).objs.size) (es:=es) (ep:=ep) (t:=t) hh (by rw [eI];exact Nat.ne_of_lt (Nat.lt_succ_of_lt la))).toS
 refine wpAny_bind (wpAny_updateSeq eS rfl (wpAny_updateSeq (hz:=by seq_fits) eS2 rfl (wpAny_pure ⟨plainId_quiet PySem.F.plain_extend_loop _,?_⟩)))
 refine codeAny_extend_loopS W hn s.heap.objs.size (by rw [eI];simp only [List.mem_cons,List.not_mem_nil,or_false,not_or];exact ⟨Nat.ne_of_lt (Nat.lt_succ_self _),Nat.ne_of_gt la⟩) _ es.size 0 _ _ _ (Nat.sub_zero _) (Nat.zero_le _) ⟨it2.at λo e=>up _ _ (by rw [eI];exact Nat.ne_of_gt (Nat.lt_succ_self _)) e,hw2.at λo e=>up _ _ (Nat.ne_of_lt la) e⟩ eS3 (ItemsOf.nil _) λs' acc c hm hS ia=>?_
 obtain ⟨h',g',d',tk',os'⟩:=s'
 obtain rfl:g'=s.gens:=hm.gens
 obtain rfl:d'=s.drawn:=hm.drawn
 obtain rfl:os'=s.os:=hm.os
 show wpAny _ A (load s.heap.objs.size >>= λ_=>_) _ _ _
 refine wpAny_bind (wpAny_load hS (wpAny_pure ?_))
 have ea:acc.toList=(dh w.params a ep es).toList.map (·.2):=by
  apply List.ext_getElem?
  intro j
  rw [List.getElem?_map,Array.getElem?_toList,Array.getElem?_toList]
  cases hj:acc[j]? with
  | some v =>
   obtain ⟨e,e1,rfl⟩:=ia.2 j v hj
   rw [e1]
   rfl
  | none =>
   have h1:=Array.getElem?_eq_none_iff.mp hj
   rw [ia.1] at h1
   rw [Array.getElem?_eq_none (by rw [fR];exact h1)]
   rfl
 show R acc.toList _
 rw [ea]
 refine hR h' tk' λb o e=>hm.heap b o ?_ (up b o (Nat.ne_of_lt (Heap.lt_size e)) (k2 b o (Heap.get?_push_of_some _ e)))
 have lb:=Heap.lt_size e
 rw [eI]
 simp only [List.mem_cons,List.not_mem_nil,or_false,not_or]
 exact ⟨Nat.ne_of_lt lb,Nat.ne_of_lt (Nat.lt_succ_of_lt lb)⟩
end
end Tb
namespace Tb
open PySem PySem.SetTable
end Tb
namespace Tb
open PySem PySem.SetTable
abbrev dw(P:Params):Obj:={cls:=.type "set",dict:=none,data:=.set #[] 0 (.fresh 0 0 (!P.followText "set-order"))}
section
variable {prog:Program}{w:World}{K:Type} [DecidableEq K] {knd:KeyKind prog w K}{A:Around}{E:Value->Shared->Prop}{s:Shared}
theorem vf(x:Value){Q:Value->Shared->Prop}(q:Q (.ref s.heap.objs.size) {s with heap:=s.heap.push (dw w.params)}) :
  codeAny (model prog w) A (.call (.builtin "set.__new__") ⟨[.type "set",x],[]⟩) (wants Q E) s:=by
 refine codeAny_of_tree (show wpAny _ A.in1 (do checkBuiltinCall "set.__new__" ⟨[.type "set",x],[]⟩;again (.builtin "set.__new__" ⟨[.type "set",x],[]⟩)) _ _ s from ?_)
 refine wpAny_bind (wpAny_of_eq (PySem.F.newCall_set_1 x) (wpAny_pure ⟨plainId_quiet PySem.F.plain_set_new _,codeAny_builtin PySem.F.entry_set_new ?_⟩))
 rw [Around.under_plainId PySem.F.plain_set_new _]
 unfold Builtin.«set.__new__» Builtin.Frozenset.newClass
 have hsub:=sub_set_self
 obtain ⟨hp,g,d,tk,os⟩:=s
 dsimp only
 wp_walk
 refine wpAny_askSetting (wpAny_pure ?_)
 dsimp only
 simp only [newObj]
 exact wpAny_bind (wpAny_alloc (wpAny_pure (wpAny_pure q)))
end
end Tb
namespace Tb
open PySem PySem.SetTable
section
variable {prog:Program}{w:World}{K:Type} [DecidableEq K] {knd:KeyKind prog w K}{A:Around}{E:Value->Shared->Prop}{s:Shared}
def iL(l:List (K×Value)):List (K×Value):=l.foldl (λvs x=>pi vs x.1 x.2) []
theorem il(l:List (K×Value))(x:K×Value):iL (l++[x])=pi (iL l) x.1 x.2:=by
 unfold iL
 rw [List.foldl_append]
 rfl
theorem mV:∀(n:Nat) (l:List (K×Value)),l.length=n->(iL l).length<=n
 | 0,l,h=>by rw [List.length_eq_zero_iff.mp h];exact Nat.le_refl _
 | n+1,l,h=>by
  obtain ⟨r,x,rfl⟩:∃r x,l=r++[x]:=⟨l.dropLast,l.getLast (by intro z;rw [z] at h;cases h),(List.dropLast_concat_getLast _).symm⟩
  have h2:=mV n r (by rw [List.length_append] at h;exact Nat.succ.inj h)
  rw [il]
  unfold pi
  split
  ·omega
  ·rw [List.length_append];exact Nat.succ_le_succ h2
theorem mU:∀(n:Nat) (l:List (K×Value)),l.length=n->∀k,k∈(iL l).map (·.1)↔k∈l.map (·.1)
 | 0,l,h=>by rw [List.length_eq_zero_iff.mp h];exact λk=>Iff.rfl
 | n+1,l,h=>by
  obtain ⟨r,x,rfl⟩:∃r x,l=r++[x]:=⟨l.dropLast,l.getLast (by intro z;rw [z] at h;cases h),(List.dropLast_concat_getLast _).symm⟩
  have ih:=mU n r (by rw [List.length_append] at h;exact Nat.succ.inj h)
  intro k
  rw [il,List.map_append,List.mem_append]
  unfold pi
  split
  ·rename_i hin
   rw [ih]
   refine ⟨.inl,λz=>z.elim id λz=>?_⟩
   rw [show k=x.1 by simpa using z]
   exact (ih x.1).mp hin
  ·rw [List.map_append,List.mem_append,ih]
theorem VSet.at{h h':Heap}{a:Addr}{led:Bool}{vs:List (K×Value)}(S:VSet knd h a led vs)(k:∀o,h.get? a=some o->h'.get? a=some o):VSet knd h' a led vs:=by
 obtain ⟨o,es,ep,t,ho,r⟩:=S
 exact ⟨o,es,ep,t,k o ho,r⟩
def uQ(knd:KeyKind prog w K)(items:List (K×Value)):Prop:=∀x∈items,knd.is x.1 x.2=true/\x.2.scannable=true/\plainKind x.2=true
theorem qd{R:Result->Shared->Prop}{I:Addr}{fp wr:List Addr}{G:Array GenState->Array GenState->Prop}{P:Nat->Value->Prop}{St:Nat->Shared->Prop}{items:List (K×Value)}(W:WalksS prog w A.in1 I fp wr G items.length P St)(S:Addr)(hSf:S∉fp)(led:Bool)
  (hval:∀i v,P i v->∃x,items[i]?=some x/\v=x.2)(hb:items.length<=60)(hc:uQ knd items) :
  ∀(k i:Nat) (s:Shared),items.length-i=k->i<=items.length->St i s->VSet knd s.heap S led (iL (items.take i)) ->
   (∀s',Moved (S::wr) G s s'->VSet knd s'.heap S led (iL items)->R (.ok (.ret .none)) s') ->
   codeAny (model prog w) A (.builtin "set.update.loop" (Args.mk [.ref S,.ref I] [])) R s:=by
 have nw:S∉wr:=λh=>hSf (W.sub _ h)
 have up:∀b∈wr,b∈S::wr:=λb hb=>List.mem_cons_of_mem _ hb
 intro k
 induction k with
 | zero =>
  intro i s hk hi hst hS hR
  obtain rfl:i=items.length:=by omega
  refine codeAny_builtin PyProof.Rows.F.entry_set_update_loop ?_
  rw [Around.under_plainId PyProof.Rows.F.plain_set_update_loop _]
  show wpAny _ A.in1 (pyNext (.ref I) >>= λ_=>_) _ _ s
  refine wpAny_bind (W.done s _ _ hst λs' hm=>?_)
  rw [List.take_length] at hS
  exact wpAny_pure (hR s' (hm.mono up) (hS.at λo e=>hm.heap S _ nw e))
 | succ k ih =>
  intro i s hk hi hst hS hR
  have hlt:i<items.length:=by omega
  refine codeAny_builtin PyProof.Rows.F.entry_set_update_loop ?_
  rw [Around.under_plainId PyProof.Rows.F.plain_set_update_loop _]
  show wpAny _ A.in1 (pyNext (.ref I) >>= λ_=>_) _ _ s
  refine wpAny_bind (W.item i s _ _ hlt hst λv s' hP hst' hm=>?_)
  obtain ⟨x,hx,rfl⟩:=hval i v hP
  obtain ⟨c1,c2,c3⟩:=hc x (List.mem_of_getElem? hx)
  have hS':VSet knd s'.heap S led (iL (items.take i)):=hS.at λo e=>hm.heap S _ nw e
  show wpAny _ A.in1 (holding [x.2] (setAdd S x.2) >>= λ_=>_) _ _ s'
  refine wpAny_bind (wpAny_holding ?_)
  unfold setAdd
  refine wpAny_holding (wpAny_bind (knd.pyHash c1 ?_))
  have ml:=mV _ (items.take i) rfl
  rw [List.length_take] at ml
  refine rG (s:={s' with toks:=s'.toks+1}) hS' c1 c2 c3 (by omega) λb h' hsb hS2=>?_
  have et:items.take (i+1)=items.take i++[x]:=by rw [List.take_add_one,hx];rfl
  have hS3:VSet knd h' S led (iL (items.take (i+1))):=by rw [et,il];exact hS2
  have kp:∀c o,c≠S->s'.heap.get? c=some o->h'.get? c=some o:=λc o nc e=>(hsb.2 c nc).trans e
  refine wpAny_pure ⟨plainId_quiet PyProof.Rows.F.plain_set_update_loop _,ih (i+1) _ (by omega) hlt (W.frame _ s' _ _ hst' (Nat.le_add_right _ _) λc hc0 o e=>kp c o (λz=>hSf (z▸hc0)) e) hS3 λs'' hm'' hS''=>?_⟩
  exact hR s'' (Moved.trans W.gtrans ((hm.mono up).then_heap (Nat.le_add_right _ _) λc o hc0 e=>kp c o (λz=>hc0 (by rw [z];exact List.mem_cons_self)) e) hm'') hS''
theorem nV{h:Heap}{a:Addr}(P:Params)(e:h.get? a=some (dw P)):VSet knd h a (!P.followText "set-order") [] :=
 ⟨_,#[],0,_,e,⟨rfl,rfl,rfl⟩,rfl,qt 0 0 _,rfl,rfl,List.Perm.refl _,.nil,λ_ hx=>nomatch hx⟩
set_option maxHeartbeats 3200000 in
theorem jW{l:Addr}{vs:Array Value}{items:List (K×Value)}{Q:Value->Shared->Prop}(hh:A.handled=none)(hl:s.heap.IsList l vs)(hi:vs.toList=items.map λx=>x.2)(hb:items.length<=60)(hc:uQ knd items)
  (q:∀(h':Heap) (tk:Nat),VSet knd h' s.heap.objs.size (!w.params.followText "set-order") (iL items)->(∀b o,b<s.heap.objs.size->s.heap.get? b=some o->h'.get? b=some o)->Q (.ref s.heap.objs.size) {s with heap:=h',toks:=tk}) :
  wpAny (model prog w) A (call (.type "set") [.ref l]) Q E s:=by
 obtain ⟨c,tl,hmro⟩:=PySem.F.called_set.mro
 have hmade:=PySem.F.called_set.made
 have hsub:=PySem.F.called_set.sub
 refine wpAny_call (codeAny_of_tree (show wpAny _ _ (callAny (.type "set") _) _ _ _ from ?_))
 refine wpAny_pure ⟨Code.quiet_builtin _ (by decide +kernel),codeAny_builtin PySem.F.entry_type_call ?_⟩
 rw [Around.under_plain (weight_type_call_type "set" [.ref l] []) rfl]
 have h1:=PySem.F.called_set.notType
 have h2:=PySem.F.called_set.canCreate
 have hct:=PySem.F.typeCall_set_1 (.ref l)
 repeat (any_goals (first | assumption | wp_step))
 refine codeAny_mono (vf (.ref l) (E:=E) (Q:=λobj s₁=>obj=.ref s.heap.objs.size/\s₁={s with heap:=s.heap.push (dw w.params)}) ⟨rfl,rfl⟩) λr s₁ hr=>?_
 cases r with
 | error e=>exact hr
 | ok fl =>
  cases fl with
  | ret obj =>
   obtain ⟨rfl,rfl⟩:=hr
   have eS:(s.heap.push (dw w.params)).get? s.heap.objs.size=some (dw w.params):=Heap.get?_push_size _ rfl
   have hT:Shared.TypeIs {s with heap:=s.heap.push (dw w.params)} (.ref s.heap.objs.size) "set":=⟨_,eS,rfl⟩
   have hli:=PySem.F.called_set.init.lookup
   have hbi:=PySem.F.called_set.init.bind (.ref s.heap.objs.size)
   repeat (any_goals (first | assumption | wp_step))
   refine codeAny_mono (codeAny_call_builtin (R:=wants (λr s₂=>r=.none/\∃h' tk,s₂={s with heap:=h',toks:=tk}/\VSet knd h' s.heap.objs.size (!w.params.followText "set-order") (iL items) /\
     (∀b o,b<s.heap.objs.size->s.heap.get? b=some o->h'.get? b=some o)) E) PySem.F.called_set.init.plain PySem.F.entry_set_init (check_set_init_1 hT ?_)) λr₂ s₂ hr₂=>?_
   ·obtain ⟨ol,e0,hcl,nl,hdl⟩:=hl
    obtain ⟨ocls,odict,odata,oslots⟩:=ol
    simp only at hcl hdl
    subst hcl;subst hdl
    have e1:(s.heap.push (dw w.params)).get? l=some {cls:=.type "list",dict:=odict,data:=.seq vs nl,slots:=oslots}:=Heap.get?_push_of_some _ e0
    have hsls:=PySem.F.sub_list_set
    have hslf:=PySem.F.sub_list_frozenset
    have nd:(Value.type "list"==Value.type "dict")=false:=by decide
    have l1:(s.heap.push (dw w.params)).IsList l vs:=⟨_,e1,rfl,nl,rfl⟩
    unfold Builtin.«set.__init__» noKeywords Builtin.Frozenset.updateFrom
    generalize hJ:pyIter=J0
    wp_walk
    subst hJ
    refine wpAny_pyIter_list l1 (wpAny_bind (wpAny_runValue ?_))
    have lS:l<s.heap.objs.size:=Heap.lt_size e0
    have h3:A.in1.in1.in1.handled=none:=by simp [hh]
    have eI:(s.heap.push (dw w.params)).objs.size=s.heap.objs.size+1:=Heap.size_push ..
    have nI:l≠(s.heap.push (dw w.params)).objs.size:=by rw [eI];exact Nat.ne_of_lt (Nat.lt_succ_of_lt lS)
    have nS:s.heap.objs.size∉[(s.heap.push (dw w.params)).objs.size,l]:=by
     rw [eI]
     simp only [List.mem_cons,List.not_mem_nil,or_false,not_or]
     exact ⟨Nat.ne_of_lt (Nat.lt_succ_self _),Nat.ne_of_gt lS⟩
    have sz:vs.size=items.length:=by rw [← Array.length_toList,hi,List.length_map]
    have W:=(Walks.list (prog:=prog) (w:=w) h3 _ l nI vs).toS
    rw [sz] at W
    refine qd (knd:=knd) (items:=items) W s.heap.objs.size nS (!w.params.followText "set-order") (λi v hv=>?_) hb hc items.length 0 _ (Nat.sub_zero _) (Nat.zero_le _)
     ⟨⟨_,Heap.get?_push_size _ rfl,rfl,rfl⟩,l1.push _⟩ (nV w.params (Heap.get?_push_of_some _ eS)) λs' hm hS'=>?_
    ·have hv':vs.toList[i]?=some v:=by rw [Array.getElem?_toList];exact hv
     rw [hi,List.getElem?_map] at hv'
     obtain ⟨x,ex,rfl⟩:=Option.map_eq_some_iff.mp hv'
     exact ⟨x,ex,rfl⟩
    ·obtain ⟨h',g',d',tk',os'⟩:=s'
     obtain rfl:g'=s.gens:=hm.gens
     obtain rfl:d'=s.drawn:=hm.drawn
     obtain rfl:os'=s.os:=hm.os
     show wpAny _ _ _ _ _ _
     refine wpAny_pure (show wpAny _ _ (ret Value.none) _ _ _ from wpAny_pure ⟨rfl,h',tk',rfl,hS',λb o hb0 e=>?_⟩)
     refine hm.heap b o ?_ (Heap.get?_push_of_some _ (Heap.get?_push_of_some _ e))
     rw [eI]
     simp only [List.mem_cons,List.not_mem_nil,or_false,not_or]
     exact ⟨Nat.ne_of_lt hb0,Nat.ne_of_lt (Nat.lt_succ_of_lt hb0)⟩
   ·cases r₂ with
    | error e=>exact hr₂
    | ok fl₂ =>
     cases fl₂ with
     | ret r =>
      obtain ⟨rfl,h',tk,rfl,hS',hk'⟩:=hr₂
      repeat (any_goals (first | assumption | wp_step))
      exact q _ _ hS' hk'
     | _=>exact hr₂.elim
  | _=>exact hr.elim
end
end Tb
namespace L2
open PySem PySem.Spec PyProof.Rows PySem.W Tb
section
variable {X:Cx}{pins:List (Addr×Obj)}{σ:St}{H:Hp}{s:Shared}
def xa(ns ns':List Int):Prop:=ns'.Perm ns/\ns'.Pairwise (·<=·)
theorem kZ{vs:List Value}{ns:List Int}{Q:VK}{E:Value->Shared->Prop}(I:Inv X pins σ H s)(hI:IntsAre vs ns)(h64:vs.length<64)
  (q:∀l ns',H l=none->xa ns ns'->Q (.ref l) (upd H l (.lst (ns'.map V.int)))) :
  wpAny (model X.prog X.w) X.A.in1 (newList vs >>= λl=>holding [l] (call (.builtin "list.sort") [l] []) >>= λ_=>ret l) (λfin s'=>∃v,fin=.done (.ret v)/\EP X pins σ Q v s') E s:=by
 have zl:vs.length<=sizeLine:=by rw [sizeLine_eq];omega
 refine wpAny_bind (wpAny_newList ?_ zl)
 have oL:(s.heap.push (seqObj "list" vs.toArray 0)).get? s.heap.objs.size=some (seqObj "list" vs.toArray 0):=Heap.get?_push_size _ rfl
 have hnone:H s.heap.objs.size=none:=I.hok.fresh (Nat.le_refl _)
 refine wpAny_bind (wpAny_holding (wpAny_call_entry slot_list_sort ⟨_,oL,rfl⟩ entry_list_sort (list_sort_tree (s:={s with heap:=s.heap.push (seqObj "list" vs.toArray 0)}) oL hI h64 λout ns' a1 a2 a3=>⟨_,rfl,?_⟩) (args_list_sort _)))
 refine wpAny_pure ⟨_,rfl,?_⟩
 obtain ⟨e,he⟩:=sortedHeap_at (out:=out) oL
 have lv:vs.length=ns.length:=by have:=(fT hI).length;rw [List.length_map] at this;exact this.symm
 refine ⟨.ref s.heap.objs.size,_,I.laid (a:=s.heap.objs.size) (o:=.lst (ns'.map V.int)) (t':=s.toks) (λb o eb=>?_) (Nat.le_refl _) ?_,rfl,q _ ns' hnone ⟨a2,a3⟩⟩
 ·have lt:=Heap.lt_size eb
  rw [sortedHeap_old (Nat.ne_of_lt lt) (by rw [Heap.size_push];exact Nat.lt_succ_of_lt lt)]
  exact Heap.get?_push_of_some _ eb
 ·exact ⟨by rw [List.length_map,a2.length_eq,sizeLine_eq];omega,out.toList,e,fT a1,he⟩
end
def Fq(a:Addr)(o:Obj):HO:=.ext λh=>h.get? a=some o
def zI(P:Program)(w:World)(o:Obj)(xs:List (Int×Value)):Prop :=
 ∃es ep t,o.ExactSet/\o.data=.set es ep t/\SOk t es.toList/\t.led=!w.params.followText "set-order"/\t.plain=true/\es.toList.Perm (xs.map λx=>((intKind P w).hash x.1,x.2))/\(xs.map (·.1)).Nodup/\∀x∈xs,∃t,x.2=Value.int x.1 t
section
variable {X:Cx}
theorem rh(hc:X.calm=true):dD X (.type "set") (λxs H Q=>∃(p:Addr) (ns:List Int),xs=[.ref p]/\SqL X.K H p (ns.map V.int)/\ns.length<=60 /\
  ∀a o ys,H a=none->zI X.prog X.w o ys->(∀n,n∈ys.map (·.1)↔n∈ns)->Q (.ref a) (upd H a (Fq a o))):=by
 intro pins s σ H xs us Q I r h
 obtain ⟨p,ns,rfl,hq,h60,q⟩:=h
 obtain ⟨u,rfl,rx⟩:=cp r
 cases (show u=Value.ref p from rx)
 obtain ⟨its,rv,pl,hz⟩:=I.list hq
 obtain ⟨items,ei,en,hi⟩:∃items:List (Int×Value),its=items.map (·.2)/\ns=items.map (·.1)/\∀x∈items,∃t,x.2=Value.int x.1 t:=by
  clear pl hz hq q h60 r
  induction ns generalizing its with
  | nil=>cases rv;exact ⟨[],rfl,rfl,λx hx=>nomatch hx⟩
  | cons n ns ih =>
   cases rv with
   | cons r1 r2 =>
    obtain ⟨t,rfl⟩:=r1
    obtain ⟨items,e1,e2,h3⟩:=ih _ r2
    exact ⟨(n,.int n t)::items,by rw [e1];rfl,by rw [e2];rfl,λx hx=>(List.mem_cons.mp hx).elim (λz=>⟨t,by rw [z]⟩) (h3 x)⟩
 have hcm:uQ (intKind X.prog X.w) items:=λx hx=>by
  obtain ⟨t,e⟩:=hi x hx
  rw [e]
  exact ⟨intKind_is _ _ _ _,rfl,rfl⟩
 refine jW (knd:=intKind X.prog X.w) (items:=items) (I.ok.hd hc) pl.isList ei (by rw [en,List.length_map] at h60;exact h60) hcm λh' tk hS hk=>?_
 obtain ⟨o,es,ep,t,ho,hex,hd,hk1,hl,hp,h1,h2,h3⟩:=hS
 have hn:H s.heap.objs.size=none:=I.hok.fresh (Nat.le_refl _)
 refine ⟨.ref s.heap.objs.size,_,I.laid (a:=s.heap.objs.size) (o:=Fq s.heap.objs.size o) (t':=tk) (λb ob e=>hk b ob (Heap.lt_size e) e) (Nat.le_refl _) ⟨ho,⟨_,ho⟩,λg1 g2 p k=>k _ p⟩,rfl,q _ o (iL items) hn ⟨es,ep,t,hex,hd,hk1,hl,hp,h1,h2,λx hx=>?_⟩ λn=>?_⟩
 ·exact Value.isInt_shape (h3 x hx).1
 ·rw [en]
  exact mU _ items rfl n
theorem mE{α β:Type}(f:α->β):∀{xs:List α} {l:List β},l.Perm (xs.map f)->∃ys:List α,ys.Perm xs/\l=ys.map f
 | [],l,h=>⟨[],List.Perm.refl _,List.Perm.eq_nil h⟩
 | x::xs,l,h=>by
  have hm:f x∈l:=h.symm.mem_iff.mp List.mem_cons_self
  obtain ⟨s,t,rfl⟩:=List.append_of_mem hm
  have h2:(s++t).Perm (xs.map f):=List.Perm.cons_inv (List.perm_middle.symm.trans h)
  obtain ⟨ys,p,e⟩:=mE f h2
  have e1:(ys.take s.length).map f=s:=by rw [List.map_take,← e,List.take_left]
  have e2:(ys.drop s.length).map f=t:=by rw [List.map_drop,← e,List.drop_left]
  refine ⟨ys.take s.length++x::ys.drop s.length,?_,by rw [List.map_append,List.map_cons,e1,e2]⟩
  refine List.perm_middle.trans (List.Perm.cons x ?_)
  rw [List.take_append_drop]
  exact p
theorem jV(hc:X.calm=true):dD X (.builtin "sorted") (λxs H Q=>∃a o items,xs=[.ref a]/\H a=some (Fq a o)/\zI X.prog X.w o items/\items.length<64/\∀l ns',H l=none->xa (items.map (·.1)) ns'->Q (.ref l) (upd H l (.lst (ns'.map V.int)))):=by
 intro pins s σ H xs us Q I r h
 obtain ⟨a,o,items,rfl,ha,⟨es,ep,t,hex,hd,hk,hl,hp,pm,ndp,hv⟩,h64,q⟩:=h
 obtain ⟨u,rfl,rx⟩:=cp r
 cases (show u=Value.ref a from rx)
 obtain ⟨ho,_⟩:=(show ObjOk X.prog X.w H s.heap a (Fq a o) from I.hok a _ ha)
 have hsz:es.size=items.length:=by have:=pm.length_eq;rw [Array.length_toList,List.length_map] at this;exact this
 refine Calls.call_function_entry kind_sorted plain_sorted entry_sorted (args_sorted1 _) ?_
 unfold Builtin.«sorted»
 refine wpAny_bind (m:=checkCount "sorted" 1 1 _) (wpAny_pure (wpAny_bind (mw (A:=X.A.in1) (I.ok.hd hc) ⟨⟨o,ho,hex,hd⟩,hk,hl,hp⟩ (by rw [hsz,sizeLine_eq];omega) λh' tk k'=>?_)))
 obtain ⟨ys,p1,e1⟩:=mE (λx:Int×Value=>((intKind X.prog X.w).hash x.1,x.2)) ((j0 X.w.params a ep es).trans pm)
 have e2:(dh X.w.params a ep es).toList.map (·.2)=ys.map (·.2):=by rw [e1,List.map_map];rfl
 rw [e2]
 have rv:Vals ((ys.map (·.1)).map V.int) (ys.map (·.2)):=by
  have hy:∀x∈ys,∃t,x.2=Value.int x.1 t:=λx hx=>hv x (p1.mem_iff.mp hx)
  clear e1 e2 p1
  induction ys with
  | nil=>exact .nil
  | cons y r ih=>exact .cons (hy y List.mem_cons_self) (ih λx hx=>hy x (List.mem_cons_of_mem _ hx))
 refine kZ (I.kept (t':=tk) k') (oZ rv) (by rw [List.length_map,p1.length_eq];exact h64) λl ns' hl2 hs=>q l ns' hl2 ⟨hs.1.trans (p1.map _),hs.2⟩
end
end L2
namespace St
open PySem PySem.Spec PyProof.Rows L2 Lo Km PySem.NumText
def tEx{ι:Type}(t:ι->TE):TE:=fun σ H Q=>∃i,t i σ H Q
theorem pR{X:Cx}{e:Expr}{ι:Type}{t:ι->TE}(h:∀i,PE X e (t i)):PE X e (tEx t):=λpins s σ H Q I q=>by
 obtain ⟨i,q⟩:=q
 exact h i pins s σ H Q I q
abbrev Stp:=Wd×List Int
def StsP(CW:Wd->Addr)(H:Hp)(xs:List Stp)(us:List V):Prop:=Paired (λ(x:Stp) v=>StO CW H x.1 x.2 v) xs us
theorem StsP.keep{CW:Wd->Addr}{H H':Hp}{xs:List Stp}{us:List V}(e:Same H H')(h:StsP CW H xs us):StsP CW H' xs us:=Paired.mapP h λ_ _ z=>z.keep e
def ArS(xs:List Stp):Prop:=∀x∈xs,Ar x.1 x.2
def sx(x:Stp):Str:=txt x.1 x.2
def pf(m:Str)(sl tp:Addr):List (Str×V):=ak "parts" (.ref tp) (ak "steps" (.ref sl) (ak "manner" (.str m) []))
theorem zo(m:Str)(sl tp:Addr):(pf m sl tp).lookup ("parts":Str)=some (.ref tp):=bu
structure PaU(CP:Addr)(CW:Wd->Addr)(H:Hp)(m:Str)(xs:List Stp)(a dx sl tp:Addr)(us:List V):Prop where
 ins:H a=some (.ins CP dx (pf m sl tp))
 sl:H sl=some (.lst us)
 tp:H tp=some (.tup us)
 st:StsP CW H xs us
theorem PaU.keep{CP:Addr}{CW:Wd->Addr}{H H':Hp}{m:Str}{xs:List Stp}{a dx sl tp:Addr}{us:List V}(e:Same H H')(h:PaU CP CW H m xs a dx sl tp us):PaU CP CW H' m xs a dx sl tp us:=⟨e _ _ h.ins,e _ _ h.sl,e _ _ h.tp,h.st.keep e⟩
def PaO(CP:Addr)(CW:Wd->Addr)(H:Hp)(m:Str)(xs:List Stp)(v:V):Prop:=∃a dx sl tp us,v=.ref a/\PaU CP CW H m xs a dx sl tp us
structure TxP(K:PySem.W.Frag)(CP:Addr):Prop where
 cl:Cls K CP
 nm:NoAttr K CP "manner"
 ns:NoAttr K CP "steps"
 np:NoAttr K CP "parts"
def ptx(m:Str)(xs:List Stp):Str:=m++Str.ofString " "++Str.join (Str.ofString "; ") (xs.map sx)
theorem qf{x:Stp}(h:Ar x.1 x.2):(sx x).length<=1000:=by
 obtain ⟨wd,ns⟩:=x
 have e2:(txt wd ns).cps.toList=bO 32 ((wS wd::ns.map iS).map λy=>y.cps.toList):=by
  unfold txt
  rw [fe]
  exact bM 32 _
 have e3:(txt wd ns).length=(txt wd ns).cps.toList.length:=by simp [Str.length]
 have h1:=iq 32 ((wS wd::ns.map iS).map λy=>y.cps.toList)
 have h2:=gX (w:=wd) (ns:=ns) h
 have e4:((wS wd::ns.map iS).map λy=>y.cps.toList).map (·.length)=(wS wd::ns.map iS).map (·.length):=by
  rw [List.map_map]
  refine List.map_congr_left λy _=>?_
  simp [Str.length]
 have e5:(Str.ofString " ").length=1:=by decide +kernel
 rw [e4,List.length_map] at h1
 rw [e5,Nat.mul_one] at h2
 show (txt wd ns).length<=1000
 rw [e3,e2]
 omega
theorem ng(y:Str):∀ys:List Str,(Str.join y ys).length<=(ys.map (·.length)).sum+ys.length*y.length
 | []=>Nat.zero_le _
 | [x]=>by simp [Str.join]
 | a::u::ys=>by
  have ih:=ng y (u::ys)
  rw [join_cons_cons]
  have e:(a++y++Str.join y (u::ys)).length=a.length+y.length+(Str.join y (u::ys)).length:=by
   show ((a.cps++y.cps)++(Str.join y (u::ys)).cps).size=_
   rw [Array.size_append,Array.size_append]
   rfl
  rw [e,List.map_cons,List.sum_cons,List.length_cons (a:=a),Nat.succ_mul]
  omega
theorem zV:Str.ofString "; "=⟨#[59,32]⟩:=by decide +kernel
theorem rP{xs:List Stp}(h:ArS xs):((xs.map sx).map (·.length)).sum<=xs.length*1000:=by
 have:=rQ (ys:=xs.map sx) (k:=1000) λy hy=>by
  obtain ⟨x,hx,rfl⟩:=List.mem_map.mp hy
  exact qf (h x hx)
 rw [List.length_map] at this
 exact this
theorem jx{xs:List Stp}(h:ArS xs)(hl:xs.length<=20):(Str.join (Str.ofString "; ") (xs.map sx)).length<=30000:=by
 have h1:=ng (Str.ofString "; ") (xs.map sx)
 have h2:=rP h
 have e:(Str.ofString "; ").length=2:=by decide +kernel
 rw [e,List.length_map] at h1
 omega
theorem za(x:Stp):59∉(sx x).cps.toList:=by
 obtain ⟨wd,ns⟩:=x
 have e2:(txt wd ns).cps.toList=bO 32 ((wS wd::ns.map iS).map λy=>y.cps.toList):=by
  unfold txt
  rw [fe]
  exact bM 32 _
 show 59∉(txt wd ns).cps.toList
 rw [e2]
 have key:∀ls:List (List Nat),(∀l∈ls,59∉l)->59∉bO 32 ls:=by
  intro ls
  induction ls with
  | nil=>intro _ h;cases h
  | cons a r ih =>
   intro h hm
   cases r with
   | nil=>exact h a List.mem_cons_self hm
   | cons b r =>
    rcases List.mem_append.mp (show 59∈a++32::bO 32 (b::r) from hm) with z | z
    ·exact h a List.mem_cons_self z
    ·rcases List.mem_cons.mp z with z | z
     ·cases z
     ·exact ih (λl hl=>h l (List.mem_cons_of_mem _ hl)) z
 refine key _ λl hl=>?_
 obtain ⟨y,hy,rfl⟩:=List.mem_map.mp hl
 rcases List.mem_cons.mp hy with rfl | hy
 ·cases wd<;>decide +kernel
 ·obtain ⟨i,_,rfl⟩:=List.mem_map.mp hy
  rw [nk]
  intro z
  rcases t9 z with z | z<;>omega
theorem qq{xs:List Stp}(h0:xs≠[]):Txt.split (Str.join (Str.ofString "; ") (xs.map sx)) (Str.ofString "; ")=xs.map sx:=by
 rw [zV]
 rw [qp (c:=59) (d:=32) (ps:=(xs.map sx).map λy=>y.cps.toList) (by decide) (by decide) (by decide) (fM 59 32 _) (by simp [h0]) λp hp=>by
  obtain ⟨y,hy,rfl⟩:=List.mem_map.mp hp
  obtain ⟨x,_,rfl⟩:=List.mem_map.mp hy
  exact za x]
 rw [List.map_map]
 have e3:((λp:List Nat=>(⟨p.toArray⟩:Str))∘λy:Str=>y.cps.toList)=id:=by
  funext y
  obtain ⟨a⟩:=y
  simp
 rw [e3,List.map_id]
def mS(b:Bool):Str:=if b then "walked" else "held"
theorem zt(b:Bool):32∉(mS b).cps.toList:=by cases b<;>decide +kernel
theorem yg(b:Bool):(mS b).length<=6:=by cases b<;>decide +kernel
theorem tf(b:Bool)(xs:List Stp):Txt.partition (ptx (mS b) xs) (Str.ofString " ")=(mS b,Str.ofString " ",Str.join (Str.ofString "; ") (xs.map sx)):=by
 rw [fe]
 have e:(ptx (mS b) xs).cps.toList=(mS b).cps.toList++32::(Str.join (Str.ofString "; ") (xs.map sx)).cps.toList:=by
  unfold ptx
  rw [fe]
  show (((mS b).cps++#[32])++(Str.join (Str.ofString "; ") (xs.map sx)).cps).toList=_
  rw [Array.toList_append,Array.toList_append]
  simp
 rw [vw e (zt b)]
section
variable (CP:Addr)(CW:Wd->Addr)
def pD:Sp:=λvs H Q _=>∃l dx m q us,vs=[.ref l,.str m,.ref q]/\H l=some (.ins CP dx [])/\H q=some (.lst us)/\∀sl tp H',H' l=some (.ins CP dx (pf m sl tp))->H' sl=some (.lst us)->H' tp=some (.tup us)->H sl=none->H tp=none->Kp l H H'->Q .non H'
def kR:Sp:=λvs H Q _=>∃x k,vs=[.str (sx x),.int k]/\Ar x.1 x.2/\∀v H',Same H H'->StO CW H' x.1 x.2 v->Q v H'
def kS:Sp:=λvs H Q _=>∃b xs,vs=[.str (ptx (mS b) xs)]/\ArS xs/\xs≠[]/\xs.length<=12/\∀a dx sl tp us H',Same H H'->H sl=none->PaU CP CW H' (mS b) xs a dx sl tp us->Q (.ref a) H'
def hvI:V->Option Int
 | .int i=>some i
 | _=>none
def ir(xs:List Stp):List Int:=xs.filterMap λx=>hvI (aH x.1 x.2)
def wD(xs:List Stp)(ns:List Int):Prop:=ns.Nodup/\ns.Pairwise (·<=·)/\∀n,n∈ns↔n∈ir xs
def i5:Sp:=λvs H Q _=>∃v b xs,vs=[v]/\PaO CP CW H (mS b) xs v/\ArS xs/\xs.length<=20/\∀t ns H',Same H H'->H' t=some (.tup (ns.map V.int))->wD xs ns->Q (.ref t) H'
end
end St
namespace L2
open PySem
abbrev rC:=(Int×Int)×Int
theorem qh{h:Heap}{a:Addr}{xs ys:Array Value}(p:h.IsTuple a xs)(q:h.IsTuple a ys):xs=ys:=by
 obtain ⟨o,e,_,n,d⟩:=p
 obtain ⟨o',e',_,n',d'⟩:=q
 cases e.symm.trans e'
 rw [d] at d'
 injection d'
variable {prog:Program}{w:World}{A:Around}{E:Value->Shared->Prop}{s:Shared}
def uc(k:rC):Int:=reduceHash (Builtin.Tuple.tupleHashOf [reduceHash (Builtin.Tuple.tupleHashOf [hashInt k.1.1,hashInt k.1.2]),hashInt k.2])
theorem rJ{α:Type}{a b:α}{j:Nat}(h:j<(#[a,b]:Array α).size):(j=0/\(#[a,b]:Array α)[j]=a)\/(j=1/\(#[a,b]:Array α)[j]=b):=by
 have h':j<2:=h
 match j,h' with
 | 0,_=>exact .inl ⟨rfl,rfl⟩
 | 1,_=>exact .inr ⟨rfl,rfl⟩
theorem qM{b c:Addr}{i j i' j':Int}{t u t' u':Tok}(hu:A.units<cLine)(p:s.heap.IsTuple b #[.int i t,.int j u])(q:s.heap.IsTuple c #[.int i' t',.int j' u']) :
  SeqAt.EqAt A s (.ref b) (.ref c) (decide (i=i')&&decide (j=j')):=by
 by_cases e:b=c
 ·subst e
  have e2:=qh p q
  simp only [Array.mk.injEq,List.cons.injEq,Value.int.injEq,and_true] at e2
  rw [decide_eq_true e2.1.1,decide_eq_true e2.2.1]
  exact SeqAt.EqAt.same _
 ·refine SeqAt.EqAt.of_refs e ?_
  have z:=SeqAt.RcAt.tuples (A:=A) (s:=s) (e:=λn=>if n=0 then decide (i=i') else decide (j=j')) p q hu (λn h1 h2=>by
   rcases rJ h1 with ⟨n0,e1⟩ | ⟨n0,e1⟩<;>rcases rJ h2 with ⟨m0,e2⟩ | ⟨m0,e2⟩<;>first | (exfalso;omega) | skip
   ·rw [e1,e2];subst n0;show SeqAt.EqAt _ _ _ _ (decide (i=i'));rw [← Bool.beq_eq_decide_eq];exact SeqAt.EqAt.int_int _ t _ t'
   ·rw [e1,e2];subst n0;show SeqAt.EqAt _ _ _ _ (decide (j=j'));rw [← Bool.beq_eq_decide_eq];exact SeqAt.EqAt.int_int _ u _ u')
  have ez:((List.range (min (#[Value.int i t,.int j u]:Array Value).size (#[Value.int i' t',.int j' u']:Array Value).size)).all (λn=>if n=0 then decide (i=i') else decide (j=j'))&&(#[Value.int i t,.int j u]:Array Value).size==(#[Value.int i' t',.int j' u']:Array Value).size)=(decide (i=i')&&decide (j=j')):=by
   show ((decide (i=i')&&(decide (j=j')&&true))&&true)=_
   rw [Bool.and_true,Bool.and_true]
  rw [ez] at z
  exact z
end L2
namespace L2
open PySem PySem.Spec PyProof.Rows
def NKeyAt(H:Hp)(k:rC)(b:Addr):Prop:=∃c,H b=some (.tup [.ref c,.int k.2])/\H c=some (.tup [.int k.1.1,.int k.1.2])
theorem NKeyAt.keep{H H':Hp}{k:rC}{b:Addr}(e:bD H H')(h:NKeyAt H k b):NKeyAt H' k b:=by
 obtain ⟨c,h1,h2⟩:=h
 exact ⟨c,e _ _ h1,e _ _ h2⟩
abbrev nR:=rC×Addr×Addr
def z8(xs:List nR):List (rC×Addr×Value):=xs.map λx=>(x.1,x.2.1,Value.ref x.2.2)
def yf(a:Addr)(xs:List nR)(h:Heap):Prop:=(a==sysModules)=false/\∃o es ep,h.get? a=some o/\o.ExactDict/\o.data=.dict es ep/\es.toList=(z8 xs).map λx=>⟨uc x.1,.ref x.2.1,x.2.2⟩
def NDt(a:Addr)(xs:List nR):HO:=.ext (yf a xs)
def NOk(H:Hp)(xs:List nR):Prop:=(∀x∈xs,NKeyAt H x.1 x.2.1)/\(xs.map (·.1)).Nodup
theorem NOk.keep{H H':Hp}{xs:List nR}(e:bD H H')(h:NOk H xs):NOk H' xs:=⟨λx hx=>(h.1 x hx).keep e,h.2⟩
section
variable {X:Cx}{pins:List (Addr×Obj)}{σ:St}{H:Hp}{s:Shared}{a b r:Addr}{xs:List nR}{k:rC}{A:Around}{E:Value->Shared->Prop}
theorem v7{a:Addr}{xs:List nR}:∀h1 h2:Heap,yf a xs h1->(∀o,h1.get? a=some o->h2.get? a=some o)->yf a xs h2:=λh1 h2 q k=>by
 obtain ⟨h0,o,es,ep,e,r⟩:=q
 exact ⟨h0,o,es,ep,k _ e,r⟩
end
def xp:TE:=λ_ H Q=>∀p,H p=none->Q (.ref p) (upd H p (NDt p []))
section
variable {X:Cx}{o e f i value:Expr}{apos cpos pos pos':Pos}{td ty tx tv:TE}
theorem sX:PE X (.Dict [] [] pos) xp:=λpins s σ H Q I h =>
 wpAny_Dict_empty ⟨.ref s.heap.objs.size,_,I.laid (a:=s.heap.objs.size) (o:=NDt s.heap.objs.size []) (t':=s.toks) (λ_ _ q=>Heap.get?_push_of_some _ q) (Nat.le_refl _)
  ⟨⟨beq_eq_false_iff_ne.mpr (Ne.symm (Nat.ne_of_lt I.big)),_,#[],0,Heap.get?_push_size _ rfl,⟨rfl,rfl,rfl⟩,rfl,rfl⟩,⟨_,Heap.get?_push_size _ rfl⟩,v7⟩,rfl,h _ (I.hok.fresh (Nat.le_refl _))⟩
end
section
variable {X:Cx}
theorem jo(hu:X.A.units<cLine):OpR X (compareOp .NotEq) (λx y H Q=>∃a b us,x=.ref a/\y=.ref b/\SqL X.K H a us/\SqL X.K H b []/\Q (.bl (!decide (us=[]))) H):=by
 intro pins s σ H x y v u Q I rx ry h
 obtain ⟨a,b,us,rfl,rfl,ha,hb,q⟩:=h
 cases rx
 cases ry
 obtain ⟨i1,v1,p1,_⟩:=I.list ha
 obtain ⟨i2,v2,p2,_⟩:=I.list hb
 cases v2
 have l1:=v1.length
 by_cases e:us=[]
 ·subst e
  cases v1
  have z:=SeqAt.RcNeAt.lists (A:=X.A) (s:=s) (e:=λ_=>true) p1.isList p2.isList rfl hu (λj h1 h2=>by cases h1)
  rw [decide_eq_true rfl] at q
  exact z X.prog X.w X.xe _ ⟨.bl false,H,I,rfl,q⟩
 ·have hsz:(i1.toArray.size != ([]:List Value).toArray.size)=true:=by
   have:i1.length≠0:=λz=>e (List.length_eq_zero_iff.mp (by rw [l1];exact z))
   simpa using this
  rw [decide_eq_false e] at q
  exact SeqAt.RcNeAt.lists_lengths p1.isList p2.isList hsz hu X.prog X.w X.xe _ ⟨.bl true,H,I,rfl,q⟩
end
end L2
namespace Lo
open PySem L2
def ChAt(K:PySem.W.Frag)(H:Hp)(ch:List Pa)(v:V):Prop:=∃d us,v=.ref d/\SqU K H d us/\Paired (cPa.rp K H) ch us
theorem ChAt.keep{K:PySem.W.Frag}{H H':Hp}{ch:List Pa}{v:V}(e:bD H H')(h:ChAt K H ch v):ChAt K H' ch v:=by
 obtain ⟨d,us,rfl,h1,h2⟩:=h
 exact ⟨d,us,rfl,h1.keep e,pp h2 λ_ _ z=>cPa.keep e z⟩
inductive Rw where
 | beg (p:Pa) (t:Str) | work (p:Pa) | ready (p:Pa) (ch:List Pa) | fin (p:Pa) (o:Str) | over (p:Pa)
 | walk (p:Pa) (i:Int) (ch:List Pa) | undo (p:Pa) (i:Int) (ch:List Pa) | void (p:Pa) (i:Int)
def Rw.nm:Rw->Pa
 | .beg p _=>p
 | .work p=>p
 | .ready p _=>p
 | .fin p _=>p
 | .over p=>p
 | .walk p _ _=>p
 | .undo p _ _=>p
 | .void p _=>p
def Rw.wd:Rw->Str
 | .beg _ _=>"begin"
 | .work _=>"work"
 | .ready _ _=>"ready"
 | .fin _ _=>"end"
 | .over _=>"over"
 | .walk _ _ _=>"walked"
 | .undo _ _ _=>"undone"
 | .void _ _=>"void"
def Rw.more(K:PySem.W.Frag)(H:Hp):Rw->List V->Prop
 | .beg _ t,us=>us=[.str t]
 | .work _,us=>us=[]
 | .ready _ ch,us=>∃a b d,us=[a,b,d]/\ChAt K H ch d
 | .fin _ o,us=>∃a,us=[.str o,a]
 | .over _,us=>us=[]
 | .walk _ i ch,us=>∃c h,us=[.int i,c,h]/\ChAt K H ch c
 | .undo _ i ch,us=>∃c,us=[.int i,c]/\ChAt K H ch c
 | .void _ i,us=>us=[.int i]
def RwAt(K:PySem.W.Frag)(H:Hp)(w:Rw)(r:Addr):Prop:=∃pv us,H r=some (.tup (.str w.wd::pv::us))/\sPa K H w.nm pv/\w.more K H us
theorem RwAt.keep{K:PySem.W.Frag}{H H':Hp}{w:Rw}{r:Addr}(e:bD H H')(h:RwAt K H w r):RwAt K H' w r:=by
 obtain ⟨pv,us,h1,h2,h3⟩:=h
 refine ⟨pv,us,e _ _ h1,h2.keep e,?_⟩
 cases w with
 | beg p t=>exact h3
 | work p=>exact h3
 | ready p ch=>obtain ⟨a,b,d,e1,e2⟩:=h3;exact ⟨a,b,d,e1,e2.keep e⟩
 | fin p o=>exact h3
 | over p=>exact h3
 | walk p i ch=>obtain ⟨a,b,e1,e2⟩:=h3;exact ⟨a,b,e1,e2.keep e⟩
 | undo p i ch=>obtain ⟨a,e1,e2⟩:=h3;exact ⟨a,e1,e2.keep e⟩
 | void p i=>exact h3
structure Sd where
 cells:List Int
 begins:List (Pa×Str)
 worked:List Pa
 ready:List (Pa×Addr×List Pa)
 ends:List (Pa×Str)
 walks:List nR
 overs:List Pa
def Sd.new(cs:List Int):Sd:=⟨cs,[],[],[],[],[],[]⟩
def dW(ps:List Pa):List (List Key×V):=ps.map λp=>(pk p,V.bl true)
def dR(rs:List (Pa×Addr×List Pa)):List (List Key×V):=rs.map λx=>(pk x.1,V.ref x.2.1)
def dE(es:List (Pa×Str)):List (List Key×V):=es.map λx=>(pk x.1,V.str x.2)
structure Ad where
 (l dx cl bg wk rd en wa ov:Addr)
def Ad.own(A:Ad):List Addr:=[A.cl,A.bg,A.wk,A.rd,A.en,A.wa,A.ov]
def sf(A:Ad):List (Str×V):=ak "overs" (.ref A.ov) (ak "walks" (.ref A.wa) (ak "ends" (.ref A.en) (ak "readies" (.ref A.rd) (ak "worked" (.ref A.wk) (ak "begins" (.ref A.bg) (ak "cells" (.ref A.cl) []))))))
theorem zf(A:Ad):(sf A).lookup ("ends":Str)=some (.ref A.en):=by
 unfold sf
 rw [aw,if_neg (by decide +kernel),aw,if_neg (by decide +kernel),aw,if_pos rfl]
theorem ze{A:Ad}{m:Str}(h:decide (m∈(["overs","walks","ends","readies","worked","begins","cells"]:List Str))=false):(sf A).lookup m=none:=by
 have h':m∉(["overs","walks","ends","readies","worked","begins","cells"]:List Str):=of_decide_eq_false h
 simp only [List.mem_cons,List.not_mem_nil,or_false,not_or] at h'
 obtain ⟨h1,h2,h3,h4,h5,h6,h7⟩:=h'
 unfold sf
 rw [aw,if_neg h1,aw,if_neg h2,aw,if_neg h3,aw,if_neg h4,aw,if_neg h5,aw,if_neg h6,aw,if_neg h7]
 rfl
def sPB(_:PySem.W.Frag)(H:Hp)(x:Pa×Str)(v:V):Prop:=∃a b,v=.ref a/\H a=some (.tup [.ref b,.str x.2])/\H b=some (.tup [.int x.1.1,.int x.1.2])
theorem sPB.keep{K:PySem.W.Frag}{H H':Hp}{x:Pa×Str}{v:V}(e:bD H H')(h:sPB K H x v):sPB K H' x v:=by
 obtain ⟨a,b,rfl,h1,h2⟩:=h
 exact ⟨a,b,rfl,e _ _ h1,e _ _ h2⟩
def kB(A:Ad)(us:List V)(d:Sd):List (Addr×HO):=[(A.cl,.lst (d.cells.map V.int)),(A.bg,.lst us),(A.wk,.dT (dW d.worked)),(A.rd,.dT (dR d.ready)),(A.en,.dT (dE d.ends)),(A.wa,NDt A.wa d.walks),(A.ov,.dT (dW d.overs))]
structure StU(CS:Addr)(K:PySem.W.Frag)(H:Hp)(A:Ad)(d:Sd)(us:List V):Prop where
 ins:H A.l=some (.ins CS A.dx (sf A))
 co:∀x∈kB A us d,H x.1=some x.2
 bg:Paired (sPB K H) d.begins us
 rd:∀x∈d.ready,RwAt K H (.ready x.1 x.2.2) x.2.1
 wa:NOk H d.walks
 nd:A.own.Nodup
def St(CS:Addr)(K:PySem.W.Frag)(H:Hp)(A:Ad)(d:Sd):Prop:=∃us,StU CS K H A d us
section
variable {CS:Addr}{K:PySem.W.Frag}{H H':Hp}{A:Ad}{d:Sd}{us:List V}
theorem StU.en(h:StU CS K H A d us):H A.en=some (.dT (dE d.ends)):=h.co (A.en,_) (by simp [kB])
theorem StU.own(h:StU CS K H A d us){b:Addr}(hb:b∈A.own):∃o,H b=some o/\(∀xs,o≠.tup xs)/\(∀C dx fs,o≠.ins C dx fs):=by
 have hb':b∈(kB A us d).map (·.1):=hb
 obtain ⟨x,hx,rfl⟩:=List.mem_map.mp hb'
 refine ⟨_,h.co x hx,λxs=>?_,λC dx fs=>?_⟩
 ·simp only [kB,List.mem_cons,List.not_mem_nil,or_false] at hx
  rcases hx with e | e | e | e | e | e | e<;>subst e<;>exact λz=>nomatch z
 ·simp only [kB,List.mem_cons,List.not_mem_nil,or_false] at hx
  rcases hx with e | e | e | e | e | e | e<;>subst e<;>exact λz=>nomatch z
theorem StU.keep(h:StU CS K H A d us)(e:Same H H'):StU CS K H' A d us :=
 ⟨e _ _ h.ins,λx hx=>e _ _ (h.co x hx),pp h.bg λ_ _ z=>z.keep e.ts,λx hx=>(h.rd x hx).keep e.ts,h.wa.keep e.ts,h.nd⟩
theorem St.keep(h:St CS K H A d)(e:Same H H'):St CS K H' A d:=let ⟨us,q⟩:=h;⟨us,q.keep e⟩
theorem St.ins(h:St CS K H A d):H A.l=some (.ins CS A.dx (sf A)):=let ⟨_,q⟩:=h;q.ins
end
structure TxD(K:PySem.W.Frag)(CS:Addr):Prop where
 cl:Cls K CS
 nc:NoAttr K CS "cells"
 nb:NoAttr K CS "begins"
 nw:NoAttr K CS "worked"
 nr:NoAttr K CS "readies"
 ne:NoAttr K CS "ends"
 na:NoAttr K CS "walks"
 no:NoAttr K CS "overs"
section
variable (CS:Addr)(K:PySem.W.Frag)
def pC:Sp:=λvs H Q _=>∃l dx c cs,vs=[.ref l,.ref c]/\H l=some (.ins CS dx [])/\H c=some (.lst ((cs:List Int).map V.int))/\cs.length<=1000 /\
 ∀A H',A.l=l->St CS K H' A (Sd.new cs)->(∀b∈A.own,H b=none)->Kp l H H'->Q .non H'
end
theorem St.kp{CS q:Addr}{K:PySem.W.Frag}{H H':Hp}{A:Ad}{d:Sd}(h:St CS K H A d)(k:Kp q H H')(n:q∉A.own)(t:bD H H')(nl:A.l≠q):St CS K H' A d:=by
 obtain ⟨us,h⟩:=h
 refine ⟨us,k _ _ nl h.ins,λx hx=>k _ _ (λz=>n ?_) (h.co x hx),pp h.bg λ_ _ z=>z.keep t,λx hx=>(h.rd x hx).keep t,h.wa.keep t,h.nd⟩
 rw [← z]
 exact List.mem_map.mpr ⟨x,hx,rfl⟩
def Scr(K:PySem.W.Frag)(H:Hp)(a:Addr)(xs:List V)(N:List Addr):Prop:=(∀H',SqL K H' a xs)\/∃o,H a=some o/\a∉N/\∀H',H' a=some o->SqL K H' a xs
section
variable {K:PySem.W.Frag}{H H':Hp}{a q:Addr}{xs:List V}{N:List Addr}
theorem Scr.seq(h:Scr K H a xs N):SqL K H a xs:=h.elim (λz=>z H) λ⟨_,e,_,z⟩=>z H e
theorem Scr.mk(h:SqL K H a xs)(hN:∀b∈N,H b=none):Scr K H a xs N:=by
 rcases h with (h | ⟨o,h⟩) | h
 ·exact .inr ⟨_,h,(λz=>by rw [hN a z] at h;cases h),λH' e=>.inl (.inl e)⟩
 ·exact .inr ⟨_,h,(λz=>by rw [hN a z] at h;cases h),λH' e=>.inl (.inr ⟨o,e⟩)⟩
 ·exact .inl λH'=>.inr h
theorem Scr.kp(h:Scr K H a xs N)(k:∀b o,b∉N->H b=some o->H' b=some o):Scr K H' a xs N:=h.elim .inl λ⟨o,e,n,z⟩=>.inr ⟨o,k _ _ n e,n,z⟩
theorem Scr.same(h:Scr K H a xs N)(e:Same H H'):Scr K H' a xs N:=h.kp λb o _ z=>e b o z
end
theorem cE{f:Str}{v:V}{fs:List (Str×V)}{n:Nat}(h:fs.length<n):(ak f v fs).length<n+1:=by
 have:=cn f v fs
 omega
theorem cy{H:Hp}{l p dx C:Addr}{fs fs':List (Str×V)}{o:HO}(hl:H l=some (.ins C dx fs))(hp:H p=none) :
  (upd H p o) l=some (.ins C dx fs)/\(upd (upd H p o) l (.ins C dx fs')) l=some (.ins C dx fs')/\(upd (upd H p o) l (.ins C dx fs')) p=some o/\Kp l H (upd (upd H p o) l (.ins C dx fs')):=by
 have n:l≠p:=ah hl hp
 exact ⟨by rw [aq n];exact hl,ae,by rw [aq (Ne.symm n),ae],λb u hb e=>by rw [aq hb,aq (ah e hp)];exact e⟩
theorem ck{H H':Hp}{l b:Addr}{o:HO}(k:Kp l H H')(hl:H' l=some o)(hb:H' b=none):H b=none:=by
 cases e:H b with
 | none=>rfl
 | some u =>
  have n:b≠l:=λz=>by rw [z,hl] at hb;cases hb
  rw [k b u n e] at hb
  cases hb
theorem qW{k:Nat}{A:Around}(hr:Room k A):A.units+1<cLine:=hun (c:=0) hr
theorem at0{x:V}{us:List V}:atI (x::us) (0:Int)=some x:=bn (j:=0) rfl
theorem at1{x y:V}{us:List V}:atI (x::y::us) (1:Int)=some y:=bn (j:=1) rfl
end Lo
namespace L2
open PySem PySem.Spec PyProof.Rows
end L2
namespace L2
open PySem PySem.Spec PyProof.Rows PySem.W
inductive KAll (n:Nat) {α:Type} (P:α->Prop):KasT α->Prop
 | ret {a:α}:P a->KAll n P (.ret a)
 | ask {i j:Nat} {k:Bool->KasT α}:i<n->j<n->(∀b,KAll n P (k b))->KAll n P (.ask i j k)
def mz{α:Type}(lt:Nat->Nat->Bool):KasT α->α
 | .ret a=>a
 | .ask i j k=>mz lt (k (lt i j))
theorem KAll.bind{n:Nat}{α β:Type}{P:α->Prop}{R:β->Prop}{f:α->KasT β}:∀{t:KasT α},KAll n P t->(∀a,P a->KAll n R (f a))->KAll n R (t.bind f)
 | _,.ret h,g=>g _ h
 | _,.ask h1 h2 h3,g=>.ask h1 h2 λb=>KAll.bind (h3 b) g
theorem KAll.wp{n:Nat}{α:Type}{P:α->Prop}{cmp:Nat->Nat->(Bool->Shared->Prop)->Shared->Prop}{lt:Nat->Nat->Bool}{s:Shared}(hc:∀i j (C:Bool->Shared->Prop),i<n->j<n->C (lt i j) s->cmp i j C s){Q:α->Shared->Prop} :
  ∀{t:KasT α},KAll n P t->(P (mz lt t)->Q (mz lt t) s)->t.kasWp cmp Q s
 | _,.ret h,q=>q h
 | _,.ask (i:=i) (j:=j) h1 h2 h3,q=>hc i j _ h1 h2 (KAll.wp hc (h3 (lt i j)) q)
def InP(n:Nat)(p:Array Nat):Prop:=p.size=n/\∀x∈p,x<n
theorem InP.get{n:Nat}{p:Array Nat}(h:InP n p)(h0:0<n)(i:Nat):p.getD i 0<n:=by
 rw [Array.getD_eq_getD_getElem?]
 cases e:p[i]? with
 | none=>exact h0
 | some x=>exact h.2 x (Array.mem_of_getElem? e)
theorem InP.perm{n:Nat}{p q:Array Nat}(h:InP n p)(e:q.Perm p):InP n q:=⟨e.size_eq.trans h.1,λx hx=>h.2 x (e.mem_iff.mp hx)⟩
theorem InP.rev{n:Nat}{p:Array Nat}(h:InP n p)(i j:Nat):InP n (kas_rev p i j):=h.perm (mirror_perm _ _ _ _)
theorem mf{n:Nat}{p:Array Nat}(h:InP n p)(h0:0<n):∀f m,KAll n (λ_=>True) (kas_asc p f m)
 | 0,_=>.ret trivial
 | f+1,m=>.ask (h.get h0 _) (h.get h0 _) λb=>by
  cases b with
  | true=>exact .ret trivial
  | false=>exact mf h h0 f (m+1)
theorem gW{n:Nat}(h0:0<n):∀f (p:Array Nat) m q,InP n p->KAll n (λr=>InP n r.1) (kas_desc f p m q)
 | 0,_,_,_,h=>.ret h
 | f+1,p,m,q,h=>.ask (h.get h0 _) (h.get h0 _) λb=>by
  cases b with
  | true =>
   show KAll n _ (if q>0 then kas_desc f (kas_rev p (m-(q+1)) m) (m+1) 0 else kas_desc f p (m+1) 0)
   split
   ·exact gW h0 f _ _ _ (h.rev _ _)
   ·exact gW h0 f _ _ _ h
  | false =>
   refine .ask (h.get h0 _) (h.get h0 _) λc=>?_
   cases c with
   | true=>exact .ret h
   | false=>exact gW h0 f _ _ _ h
theorem nM{n:Nat}{p:Array Nat}(h:InP n p)(h0:0<n)(m k:Nat):KAll n (λr=>InP n r.2) (kas_tail3 m k p):=(mf (h.rev 0 m) h0 _ _).bind λ_ _=>.ret (h.rev 0 m)
theorem nO{n:Nat}{p:Array Nat}(h:InP n p)(h0:0<n)(m k:Nat):KAll n (λr=>InP n r.2) (kas_descPart m k p):=(gW h0 _ _ _ _ h).bind λr hr=>by
 split
 ·exact nM (hr.rev _ _) h0 _ _
 ·exact nM hr h0 _ _
theorem rk{n:Nat}{p:Array Nat}(h:InP n p)(h0:0<n)(k:Nat):KAll n (λr=>InP n r.2) (kas_count k p):=(mf h h0 _ _).bind λm _=>by
 split
 ·exact .ret h
 ·split
  ·refine .ask (h.get h0 _) (h.get h0 _) λc=>?_
   cases c with
   | true=>exact .ret h
   | false=>exact nO (h.rev _ _) h0 _ _
  ·exact nO h h0 _ _
theorem iz{n:Nat}{p:Array Nat}(h:InP n p)(h0:0<n)(k:Nat):∀f l r,KAll n (λ_=>True) (kas_place p k f l r)
 | 0,_,_=>.ret trivial
 | f+1,l,r=>by
  show KAll n _ (if l≥r then .ret l else .ask (p.getD k 0) (p.getD ((l+r)/2) 0) λc=>if c=true then kas_place p k f l ((l+r)/2) else kas_place p k f ((l+r)/2+1) r)
  split
  ·exact .ret trivial
  ·refine .ask (h.get h0 _) (h.get h0 _) λc=>?_
   cases c with
   | true=>exact iz h h0 k f _ _
   | false=>exact iz h h0 k f _ _
theorem p8{n:Nat}(h0:0<n):∀f (p:Array Nat) k,InP n p->KAll n (InP n) (kas_bin f p k)
 | 0,_,_,h=>.ret h
 | f+1,p,k,h=>(iz h h0 k k 0 k).bind λl _=>p8 h0 f _ _ (h.perm (bubble_perm _ _ _))
theorem nN{n:Nat}(h0:0<n):KAll n (InP n) (kas_sort n):=by
 have h:InP n (List.toArray (List.range n)):=⟨by simp,λx hx=>by simpa using hx⟩
 refine (rk h h0 n).bind λr hr=>?_
 split
 ·exact p8 h0 _ _ _ hr
 ·exact .ret hr
def qc(h:Heap)(x:(Int×Int)×Str)(v:Value):Prop:=∃a b t1 t2 t3,v=.ref a/\h.IsTuple a #[.ref b,.str x.2 t3]/\h.IsTuple b #[.int x.1.1 t1,.int x.1.2 t2]
def ltE(x y:(Int×Int)×Str):Bool:=if x.1=y.1 then (if x.2=y.2 then false else decide (x.2.cps.toList<y.2.cps.toList)) else HT.d8 [x.1.1,x.1.2] [y.1.1,y.1.2]
section
variable {prog:Program}{w:World}{A:Around}{E:Value->Shared->Prop}{s:Shared}
theorem yE{x y:(Int×Int)×Str}{u v:Value}{Q:Bool->Shared->Prop}(hu:A.units+1<cLine)(h1:qc s.heap x u)(h2:qc s.heap y v)(q:Q (ltE x y) s):wpAny (model prog w) A (keyLt' (tuples' false) u v) Q E s:=by
 obtain ⟨a,b,t1,t2,t3,rfl,p1,p2⟩:=h1
 obtain ⟨c,d,u1,u2,u3,rfl,q1,q2⟩:=h2
 obtain ⟨o1,e1,_,n1,d1⟩:=id p1
 obtain ⟨o2,e2,_,n2,d2⟩:=id q1
 refine kat_lt e1 d1 e2 d2 (kat_cons (qM (by omega) p2 q2 _ _ _ _ ?_))
 have dn:(decide (x.1.1=y.1.1)&&decide (x.1.2=y.1.2))=decide (x.1=y.1):=by
  rw [← Bool.decide_and]
  exact decide_eq_decide.mpr ⟨λz=>Prod.ext z.1 z.2,λz=>by rw [z];exact ⟨rfl,rfl⟩⟩
 rw [dn]
 unfold ltE at q
 by_cases en:x.1=y.1
 ·rw [if_pos en] at q
  rw [decide_eq_true en]
  refine kat_yes (kat_cons (SeqAt.EqAt.str_str _ t3 _ u3 _ _ _ _ ?_))
  by_cases es:x.2=y.2
  ·rw [if_pos es] at q
   rw [← cI,decide_eq_true es]
   exact kat_yes (kat_nil q)
  ·rw [if_neg es] at q
   rw [← cI,decide_eq_false es]
   exact kat_no (kat_one _ _ (lt_str q))
 ·rw [if_neg en] at q
  rw [decide_eq_false en]
  exact kat_no (kat_one _ _ (HT.oQ p2 q2 (.cons _ _ (.cons _ _ .nil)) (.cons _ _ (.cons _ _ .nil)) (by omega) q))
abbrev Ents(h:Heap)(es:List ((Int×Int)×Str))(vs:List Value):Prop:=Paired (qc h) es vs
theorem Ents.tups{h:Heap}:∀{es:List ((Int×Int)×Str)} {vs:List Value},Ents h es vs->∃fs,KatTups h vs fs/\fs.length=vs.length/\∀v∈fs,∀M:Model,Looks M h (typeOf v) (.type "tuple")
 | _,_,.nil=>⟨[],KatTups.nil,rfl,λ_ hv=>nomatch hv⟩
 | _,_,.cons r t=>by
  obtain ⟨fs,k,l,ty⟩:=Ents.tups t
  obtain ⟨a,b,t1,t2,t3,rfl,⟨o,e,c,n,d⟩,⟨o',e',c',_⟩⟩:=r
  refine ⟨.ref b::fs,KatTups.cons e c d rfl k,by rw [List.length_cons,List.length_cons,l],λv hv M=>?_⟩
  rcases List.mem_cons.mp hv with z | hv
  ·subst z
   rw [← c']
   exact (Looks.ld e').andThen .now
  ·exact ty v hv M
def iA{α:Type} [Inhabited α](lt:α->α->Bool)(xs:List α):List α:=((mz (λi j=>lt (xs.getD i default) (xs.getD j default)) (kas_sort xs.length)).toList).map λi=>xs.getD i default
theorem lH{α β:Type}{R:α->β->Prop}{xs:List α}{ys:List β}(h:Paired R xs ys){i:Nat}(hi:i<xs.length)(a:α)(b:β):R (xs.getD i a) (ys.getD i b):=by
 have hi':i<ys.length:=by rw [← h.len];exact hi
 obtain ⟨u,eu,ru⟩:=h.get1 (List.getElem?_eq_getElem hi)
 rw [List.getElem?_eq_getElem hi'] at eu
 cases eu
 rw [List.getD_eq_getElem?_getD,List.getD_eq_getElem?_getD,List.getElem?_eq_getElem hi,List.getElem?_eq_getElem hi']
 exact ru
theorem lG{α β:Type}{R:α->β->Prop}{xs:List α}{ys:List β}(h:Paired R xs ys)(a:α)(b:β):∀{p:List Nat},(∀i∈p,i<xs.length)->Paired R (p.map λi=>xs.getD i a) (p.map λi=>ys.getD i b)
 | [],_=>.nil
 | i::p,hp=>.cons (lH h (hp i List.mem_cons_self) a b) (lG h a b λj hj=>hp j (List.mem_cons_of_mem _ hj))
instance:Inhabited ((Int×Int)×Str):=⟨((0,0),Str.empty)⟩
theorem u8{α:Type} [Inhabited α](lt:α->α->Bool)(xs:List α)(h:0<xs.length):(iA lt xs).length=xs.length/\∀i∈(mz (λi j=>lt (xs.getD i default) (xs.getD j default)) (kas_sort xs.length)).toList,i<xs.length:=by
 have:InP xs.length (mz (λi j=>lt (xs.getD i default) (xs.getD j default)) (kas_sort xs.length)):=by
  have g:∀{t:KasT (Array Nat)},KAll xs.length (InP xs.length) t->InP xs.length (mz (λi j=>lt (xs.getD i default) (xs.getD j default)) t):=by
   intro t k
   induction k with
   | ret h=>exact h
   | ask _ _ _ ih=>exact ih _
  exact g (nN h)
 refine ⟨?_,λi hi=>this.2 i (Array.mem_toList_iff.mp hi)⟩
 unfold iA
 rw [List.length_map,Array.length_toList]
 exact this.1
section
variable {prog:Program}{w:World}{A:Around}{E:Value->Shared->Prop}{s:Shared}{h₀:Heap}{L:Addr}{m:Str->Option Value}{news:List (Addr×Obj)}
theorem ra{es:List ((Int×Int)×Str)}{vs:List Value}{a n:Nat}{P:PySem.Fin->Shared->Prop}(hu:A.units+1<cLine)(F:Fr h₀ L s.heap m)(N:News h₀ L s.heap news)(ho:s.heap.get? a=some (seqObj "list" vs.toArray n))(haL:a≠L)(ha0:h₀.get? a=none)(hna:∀p∈news,p.1≠a)
  (he:∀h',(∀b o,(b,o)∈news->h'.get? b=some o)->Ents h' es vs)(h2:2<=vs.length)(h64:vs.length<64)
  (q:∀h' c,Fr h₀ L h' m->News h₀ L h' ((a,PySem.W.listOf (List.toArray ((mz (λi j=>ltE (es.getD i default) (es.getD j default)) (kas_sort es.length)).toList.map λi=>vs.getD i Value.none)) c)::news)->P (.done (.ret .none)) {s with heap:=h'}) :
  wpAny (model prog w) A (Builtin.«list.sort» ⟨[.ref a], []⟩) P E s := by
 refine kat_list_sort F N ho haL ha0 hna h2 h64 λe1 h' F' N'=>?_
 have en:Ents h' es vs:=he h' λb o hb=>(N' (b,o) (List.mem_cons_of_mem _ hb)).1
 have hl:=en.len
 obtain ⟨fs,kt,lf,ty⟩:=en.tups
 refine kat_kind (s:={s with heap:=h'}) kt (by omega) (λv hv=>ty v hv _) rfl ?_
 have e0:(Value.type "tuple" != Value.type "tuple")=false:=by decide
 rw [e0,← hl]
 refine KAll.wp (lt:=λi j=>ltE (es.getD i default) (es.getD j default)) (λi j C hi hj hC=>?_) (nN (by omega)) λhp=>?_
 ·exact yE (s:={s with heap:=h'}) hu (lH en hi default Value.none) (lH en hj default Value.none) hC
 ·exact KasFin.intro (s:={s with heap:=h'}) F' N' (.head hna) λh2 c F2 N2=>q h2 c F2 N2
end
end
end L2
namespace L2
open PySem PySem.Spec PyProof.Rows PySem.W
section
variable {prog:Program}{w:World}{A:Around}{E:Value->Shared->Prop}{s:Shared}{h₀:Heap}{L:Addr}{m:Str->Option Value}{news:List (Addr×Obj)}
theorem uy{vs:List Value}{a n:Nat}{P:PySem.Fin->Shared->Prop}(F:Fr h₀ L s.heap m)(N:News h₀ L s.heap news)(ho:s.heap.get? a=some (seqObj "list" vs.toArray n))(haL:a≠L)(ha0:h₀.get? a=none)(hna:∀p∈news,p.1≠a)(h2:vs.length<2)
  (q:∀h' c,Fr h₀ L h' m->News h₀ L h' ((a,PySem.W.listOf vs.toArray c)::news)->P (.done (.ret .none)) {s with heap:=h'}) :
  wpAny (model prog w) A (Builtin.«list.sort» ⟨[.ref a], []⟩) P E s := by
 have z0:vs.length<=sizeLine:=by rw [sizeLine_eq];omega
 have sb1:=Heap.SameBut.update s.heap a (Obj.mapSeq λ_=>(#[]:Array Value))
 obtain ⟨c1,o1⟩:∃c,(s.heap.update a (Obj.mapSeq λ_=>(#[]:Array Value))).get? a=some (seqObj "list" #[] c):=⟨_,get?_update_seq ho λ_=>#[]⟩
 rw [list_sort_plain]
 refine wpAny_bind (listItems_at ho rfl (wpAny_bind (listUpdate_at ho rfl ?_ (by rw [List.size_toArray];exact z0) (Nat.zero_le _))))
 refine wpAny_bind (seqEpoch_at o1 rfl (wpAny_bind (wpAny_newTuple ?_ (by show vs.length<=_;exact z0))))
 refine wpAny_bind (wpAny_newList (wpAny_holding ?_) (Nat.zero_le _))
 have lt2:vs.toArray.size<2:=by rw [List.size_toArray];exact h2
 dsimp only
 rw [if_pos lt2,if_pos lt2]
 refine wpAny_bind (wpAny_pure (wpAny_bind (wpAny_pure ?_)))
 have o2:=Heap.get?_push_of_some (seqObj "list" #[] 0) (Heap.get?_push_of_some (seqObj "tuple" vs.toArray 0) o1)
 refine wpAny_bind (seqEpoch_at o2 rfl ?_)
 have ez:(arrOf (SortSt.mk' general' (vs.toArray.zip vs.toArray) #[] 7 none)).map (·.2)=vs.toArray:=by
  show (vs.toArray.zip vs.toArray).map (·.2)=vs.toArray
  have zz:∀l:List Value,(l.zip l).map (·.2)=l:=λl=>by
   induction l with
   | nil=>rfl
   | cons x r ih=>rw [List.zip_cons_cons,List.map_cons,ih]
  apply Array.toList_inj.mp
  simpa using zz vs
 rw [ez]
 refine wpAny_bind (listUpdate_at o2 rfl ?_ (Nat.zero_le _) (by rw [List.size_toArray];exact Nat.le_succ_of_le z0))
 simp only [bne_self_eq_false,Bool.false_eq_true,if_false]
 obtain ⟨c2,o3⟩:∃c,((((s.heap.update a (Obj.mapSeq λ_=>(#[]:Array Value))).push (seqObj "tuple" vs.toArray 0)).push (seqObj "list" #[] 0)).update a (Obj.mapSeq λ_=>vs.toArray)).get? a=some (seqObj "list" vs.toArray c):=⟨_,get?_update_seq o2 λ_=>vs.toArray⟩
 refine wpAny_pure (q _ c2 ?_ ?_)
 ·exact kas_fr (((kas_fr F sb1 haL ha0).push _).push _) (Heap.SameBut.update _ _ _) haL ha0
 ·intro p hp
  rcases List.mem_cons.mp hp with z | hp
  ·subst z
   exact ⟨o3,haL,ha0⟩
  ·exact kas_news ((kas_news N sb1 hna).grown λb x e=>Heap.get?_push_of_some _ (Heap.get?_push_of_some _ e)) (Heap.SameBut.update _ _ _) hna p hp
end
def sPS(K:PySem.W.Frag)(H:Hp)(x:(Int×Int)×Str)(v:V):Prop:=∃a b,v=.ref a/\H a=some (.tup [.ref b,.str x.2])/\H b=some (.tup [.int x.1.1,.int x.1.2])
theorem sPS.keep{K:PySem.W.Frag}{H H':Hp}{x:(Int×Int)×Str}{v:V}(e:bD H H')(h:sPS K H x v):sPS K H' x v:=by
 obtain ⟨a,b,rfl,h1,h2⟩:=h
 exact ⟨a,b,rfl,e _ _ h1,e _ _ h2⟩
theorem sPS.ent{P:Program}{w:World}{K:PySem.W.Frag}{H:Hp}{h:Heap}{x:(Int×Int)×Str}{v:V}{u:Value}(ok:HOk P w H h)(q:sPS K H x v)(r:RelV v u):qc h x u:=by
 obtain ⟨a,b,rfl,h1,h2⟩:=q
 cases (show u=Value.ref a from r)
 obtain ⟨_,its,r1,p⟩:=(show ObjOk P w H h a (.tup [.ref b,.str x.2]) from ok a _ h1)
 obtain ⟨_,its',r2,p'⟩:=(show ObjOk P w H h b (.tup [.int x.1.1,.int x.1.2]) from ok b _ h2)
 obtain ⟨u1,u2,rfl,e1,e2⟩:=r1.two
 obtain ⟨v1,v2,rfl,e3,e4⟩:=r2.two
 cases (show u1=Value.ref b from e1)
 obtain ⟨t,rfl⟩:=e2
 obtain ⟨t1,rfl⟩:=e3
 obtain ⟨t2,rfl⟩:=e4
 exact ⟨a,b,t1,t2,t,rfl,p,p'⟩
theorem pZ{P:Program}{w:World}{K:PySem.W.Frag}{H:Hp}{h:Heap}(ok:HOk P w H h):∀{es:List ((Int×Int)×Str)} {us:List V} {vs:List Value},Paired (sPS K H) es us->Vals us vs->Ents h es vs
 | _,_,_,.nil,.nil=>.nil
 | _,_,_,.cons a t,.cons r q=>.cons (a.ent ok r) (pZ ok t q)
theorem qe{us:List V}{vs:List Value}(h:Vals us vs)(p:List Nat)(hp:∀i∈p,i<us.length):Vals (p.map λi=>us.getD i .non) (p.map λi=>vs.getD i Value.none):=lG h _ _ hp
section
variable {X:Cx}{pins:List (Addr×Obj)}{σ:St}{H:Hp}{s:Shared}
theorem mr{vs:List Value}{us:List V}{es:List ((Int×Int)×Str)}{Q:VK}{E:Value->Shared->Prop}(hu:X.A.units+4<cLine)(I:Inv X pins σ H s)(rv:Vals us vs)(pe:Paired (sPS X.K H) es us)(h64:es.length<64)
  (q:∀l ys,H l=none->Paired (sPS X.K (upd H l (.lst ys))) (iA ltE es) ys->Q (.ref l) (upd H l (.lst ys))) :
  wpAny (model X.prog X.w) X.A.in1 (newList vs >>= λl=>holding [l] (call (.builtin "list.sort") [l] []) >>= λ_=>ret l) (λfin s'=>∃v,fin=.done (.ret v)/\EP X pins σ Q v s') E s:=by
 have hl1:us.length=vs.length:=rv.length
 have hl2:es.length=us.length:=pe.len
 have zl:vs.length<=sizeLine:=by rw [sizeLine_eq];omega
 refine wpAny_bind (wpAny_newList ?_ zl)
 obtain ⟨m,hn,_⟩:=id I.loc
 have N:News (Att.fy s.heap) X.env.locals s.heap (Att.gC s.heap X.env.locals X.env.locals):=λ⟨c,o⟩ hp=>by
  obtain ⟨n1,_,e⟩:=Att.mem_ledger.mp hp
  exact ⟨e,n1,Att.eK _ _⟩
 have led:∀c o,c≠X.env.locals->s.heap.get? c=some o->(c,o)∈Att.gC s.heap X.env.locals X.env.locals:=λc o n1 e=>Att.mem_ledger.mpr ⟨n1,n1,e⟩
 have up:∀b o,s.heap.get? b=some o->(s.heap.push (seqObj "list" vs.toArray 0)).get? b=some o:=λb o e=>Heap.get?_push_of_some _ e
 have F1:Fr (Att.fy s.heap) X.env.locals (s.heap.push (seqObj "list" vs.toArray 0)) m:=(Att.yD hn).kept up
 have N1:News (Att.fy s.heap) X.env.locals (s.heap.push (seqObj "list" vs.toArray 0)) (Att.gC s.heap X.env.locals X.env.locals):=N.grown up
 have oL:(s.heap.push (seqObj "list" vs.toArray 0)).get? s.heap.objs.size=some (seqObj "list" vs.toArray 0):=Heap.get?_push_size _ rfl
 have nL:s.heap.objs.size≠X.env.locals:=Nat.ne_of_gt I.lt
 have na:∀p∈Att.gC s.heap X.env.locals X.env.locals,p.1≠s.heap.objs.size:=λp hp=>Nat.ne_of_lt (Heap.lt_size (N p hp).1)
 have hnone:H s.heap.objs.size=none:=I.hok.fresh (Nat.le_refl _)
 have fin:∀(out:List Value) (ys:List V),Vals ys out->ys.length<=sizeLine->Q (.ref s.heap.objs.size) (upd H s.heap.objs.size (.lst ys))->∀h' c,Fr (Att.fy s.heap) X.env.locals h' m ->
   News (Att.fy s.heap) X.env.locals h' ((s.heap.objs.size,PySem.W.listOf (List.toArray out) c)::Att.gC s.heap X.env.locals X.env.locals)->EP X pins σ Q (.ref s.heap.objs.size) {s with heap:=h'}:=λout ys ro hz hQ h' c F2 N2=>by
  have keep:∀b o,b≠X.env.locals->s.heap.get? b=some o->h'.get? b=some o:=λb o n1 e=>(N2 (b,o) (List.mem_cons_of_mem _ (led b o n1 e))).1
  have eD:h'.get? s.heap.objs.size=some (PySem.W.listOf (List.toArray out) c):=(N2 _ List.mem_cons_self).1
  refine ⟨.ref s.heap.objs.size,upd H s.heap.objs.size (.lst ys),?_,rfl,hQ⟩
  have fresh:∀b o,s.heap.get? b=some o->b≠s.heap.objs.size:=λb o e=>Nat.ne_of_lt (Heap.lt_size e)
  show Inv X pins σ (upd H s.heap.objs.size (.lst ys)) {s with heap:=h'}
  refine I.step (h':=h') (g':=s.gens) (d':=s.drawn) (t':=s.toks) (ch:=[]) (λ_ z=>nomatch z) (λb o n1 _ _ e _=>keep b o n1 e) (λb o n1 _ _ e _=>⟨o.slots,keep b o n1 e⟩) (λb o _ e n=>by rw [aq (fresh b o e)];exact n)
   (λb o _ e=>?_) (λb xs e=>by rw [aq (ah e hnone)];exact e) (λb o u e=>by rw [aq (ah e hnone)];exact e) (λb ps e=>⟨#[],by rw [aq (ah e hnone),e];simp⟩) (λm' hm'=>?_) (λb o e=>?_) I.bare
  ·by_cases hb:b=X.env.locals
   ·obtain ⟨o',_,_,e',_⟩:=F2.ns
    exact ⟨o',hb▸e'⟩
   ·exact ⟨o,keep b o hb e⟩
  ·have e:m'=m:=funext λname=>hm'.agree hn name
   rw [e]
   exact F2.ns
  ·by_cases hb:b=s.heap.objs.size
   ·subst hb
    rw [ae] at e
    cases e
    exact ⟨hz,out,c,ro,eD⟩
   ·rw [aq hb] at e
    have nL':b≠X.env.locals:=λz=>by rw [z,I.free] at e;cases e
    refine (I.hok b o e).stay (λd v hd q=>keep d v (λz=>?_) q) (λd q=>by rw [aq (ah q hnone)];exact q) λd xs q=>by rw [aq (ah q hnone)];exact q
    rcases hd with hd | hd
    ·exact nL' (hd.symm.trans z)
    ·rw [z,I.free] at hd;cases hd
 have tsL:∀ys,bD H (upd H s.heap.objs.size (.lst ys)):=λys b xs e=>by rw [aq (ah e hnone)];exact e
 refine wpAny_bind (wpAny_holding (wpAny_call_entry slot_list_sort ⟨_,oL,rfl⟩ entry_list_sort ?body (args_list_sort _)))
 case body =>
  by_cases h2:vs.length<2
  ·refine uy (s:={s with heap:=s.heap.push (seqObj "list" vs.toArray 0)}) F1 N1 oL nL (Att.eK _ _) na h2 λh' c F2 N2=>⟨_,rfl,wpAny_pure ⟨_,rfl,fin vs us rv (by omega) (q _ us hnone ?_) h' c F2 N2⟩⟩
   have es2:iA ltE es=es:=by
    match es,(by omega:es.length<2) with
    | [],_=>rfl
    | [x],_=>rfl
   rw [es2]
   exact Paired.mapP pe λ_ _ z=>z.keep (tsL us)
  ·have h0:0<es.length:=by omega
   obtain ⟨hsl,hsi⟩:=u8 ltE es h0
   refine ra (s:={s with heap:=s.heap.push (seqObj "list" vs.toArray 0)}) (es:=es) (by show X.A.units+1+1+1<cLine;omega) F1 N1 oL nL (Att.eK _ _) na (λh' hk=>?_) (by omega) (by omega) λh' c F2 N2=>⟨_,rfl,wpAny_pure ⟨_,rfl,fin _ _ (qe rv _ (λi hi=>by rw [← hl2];exact hsi i hi)) ?_ (q _ _ hnone ?_) h' c F2 N2⟩⟩
   ·have ok':HOk X.prog X.w H h':=λb o e=>by
     have nL':b≠X.env.locals:=λz=>by rw [z,I.free] at e;cases e
     refine (I.hok b o e).stay (λd v hd q=>hk d v (led d v (λz=>?_) q)) (λ_ q=>q) λ_ _ q=>q
     rcases hd with hd | hd
     ·exact nL' (hd.symm.trans z)
     ·rw [z,I.free] at hd;cases hd
    exact pZ ok' pe rv
   ·rw [List.length_map]
    unfold iA at hsl
    rw [List.length_map] at hsl
    rw [hsl]
    omega
   ·exact lG (Paired.mapP pe λ_ _ z=>z.keep (tsL _)) _ _ hsi
end
end L2
namespace L2
open PySem PySem.Spec PyProof.Rows PySem.W
abbrev eW(own:Value)(f:Bool)(d:Addr)(i n ep:Nat)(ok ov:Value):Obj:={cls:=.type "dict_itemiterator",dict:=none,data:=.fields #[own,.bool f,.ref d,.int i 0,.int n 0,.int ep 0,ok,ov],slots:=#[]}
def uP(h:Heap)(it d:Addr)(i n ep:Nat):Prop:=∃own f ok ov,h.get? it=some (eW own f d i n ep ok ov)/\(own=.none\/∃a oa,own=rawInt (a:Nat)/\a≠it/\h.get? a=some oa)
def RawD(h:Heap)(d:Addr)(es:Array DictEntry)(ep:Nat):Prop:=∃od,h.get? d=some od/\od.ExactDict/\od.data=.dict es ep
section
variable {prog:Program}{w:World}{A:Around}{E:Value->Shared->Prop}{s:Shared}{it d:Addr}{i ep:Nat}{es:Array DictEntry}
theorem RawD.at{h h':Heap}(x:RawD h d es ep)(k:∀o,h.get? d=some o->h'.get? d=some o):RawD h' d es ep:=let ⟨od,e,r⟩:=x;⟨od,k _ e,r⟩
theorem wX{own ok ov:Value}{f:Bool}{n:Nat}(hit:s.heap.get? it=some (eW own f d i n ep ok ov)):s.TypeIs (.ref it) "dict_itemiterator":=⟨_,hit,rfl⟩
theorem lK:Builtin.Dict_items.ownsTuple "dict_itemiterator"=true:=by decide
theorem wf{n:Nat}{own ok ov key val:Value}{f:Bool}{Q:Value->Shared->Prop}(hit:s.heap.get? it=some (eW own f d i n ep ok ov))(how:own=.none\/∃a oa,own=rawInt (a:Nat)/\a≠it/\s.heap.get? a=some oa)
  (hQ:∀h',uP h' it d i n ep->h'.get? s.heap.objs.size=some {cls:=.type "tuple",data:=.seq #[key,val]}->h'.objs.size=s.heap.objs.size+1->(∀b o,b≠it->s.heap.get? b=some o->h'.get? b=some o)->Q (.ref s.heap.objs.size) {s with heap:=h'}) :
  wpAny (model prog w) A (Builtin.Dict_items.pairFromOwner (.ref it) 6 key val) Q E s:=by
 obtain ⟨hp,g,dr,tk,os⟩:=s
 unfold Builtin.Dict_items.pairFromOwner
 refine wpAny_bind (wpAny_newTuple ?_)
 have hlt:it<hp.objs.size:=Heap.lt_size hit
 have hit1:(hp.push {cls:=.type "tuple",data:=.seq #[key,val]}).get? it=some (eW own f d i n ep ok ov):=Heap.get?_push_of_some _ hit
 have ht1:(hp.push {cls:=.type "tuple",data:=.seq #[key,val]}).get? hp.objs.size=some {cls:=.type "tuple",data:=.seq #[key,val]}:=Heap.get?_push_size _ rfl
 have hz1:(hp.push {cls:=.type "tuple",data:=.seq #[key,val]}).objs.size=hp.objs.size+1:=Heap.size_push ..
 have hk1:∀b o,hp.get? b=some o->(hp.push {cls:=.type "tuple",data:=.seq #[key,val]}).get? b=some o:=λb o e=>Heap.get?_push_of_some _ e
 generalize (hp.push {cls:=.type "tuple",data:=.seq #[key,val]})=G at hit1 ht1 hz1 hk1
 have nit:hp.objs.size≠it:=Nat.ne_of_gt hlt
 unfold Builtin.Dict_items.ownedTupleIsFree
 rcases how with z | ⟨a,oa,z,na,ha⟩
 ·subst z
  refine wpAny_bind (wpAny_bind (wpAny_field hit1 rfl (x:=.none) rfl (wpAny_pure ?_)))
  simp only [if_true]
  refine wpAny_bind (wpAny_field hit1 rfl (x:=ok) rfl (wpAny_bind (wpAny_field hit1 rfl (x:=ov) rfl ?_)))
  refine wpAny_bind (wpAny_setField_rec hit1 (by simp) λh2 e2 s2=>wpAny_bind (wpAny_setField_rec e2 (by simp) λh3 e3 s3=>wpAny_bind (wpAny_setField_rec e3 (by simp) λh4 e4 s4=>wpAny_bind (wpAny_setField_rec e4 (by simp) λh5 e5 s5=>?_))))
  have kk:∀b o,b≠it->G.get? b=some o->h5.get? b=some o:=λb o nb e=>s5.extBut b o nb (s4.extBut b o nb (s3.extBut b o nb (s2.extBut b o nb e)))
  refine wpAny_bind (wpAny_letGo (wpAny_pure (hQ h5 ⟨_,_,_,_,e5,.inr ⟨hp.objs.size,_,rfl,nit,kk _ _ nit ht1⟩⟩ (kk _ _ nit ht1) ?_ λb o nb e=>kk b o nb (hk1 b o e))))
  show h5.objs.size=hp.objs.size+1
  rw [s5.1,s4.1,s3.1,s2.1]
  exact hz1
 ·subst z
  have ha1:=hk1 _ _ ha
  refine wpAny_bind (wpAny_bind (wpAny_field hit1 rfl (x:=rawInt (a:Nat)) rfl ?_))
  show wpAny _ _ (loadIfAlive ((a:Int).toNat) >>= λ_=>_) _ _ _
  rw [Int.toNat_natCast]
  refine wpAny_bind (kdx_alive ha1 ?_)
  simp only [Option.isNone_some,Bool.false_eq_true,if_false]
  refine wpAny_bind (wpAny_field hit1 rfl (x:=.bool f) rfl ?_)
  cases f with
  | true =>
   rw [if_neg (show ¬((Value.bool true != Value.bool true)=true) by decide)]
   refine wpAny_pure ?_
   simp only [Bool.false_eq_true,if_false]
   exact wpAny_pure (hQ G ⟨_,_,_,_,hit1,.inr ⟨a,oa,rfl,na,ha1⟩⟩ ht1 hz1 λb o _ e=>hk1 b o e)
  | false =>
   rw [if_pos (show (Value.bool false != Value.bool true)=true by decide)]
   refine wpAny_bind (wpAny_setField_rec hit1 (by simp) λh2 e2 s2=>wpAny_pure ?_)
   simp only [Bool.false_eq_true,if_false]
   exact wpAny_pure (hQ h2 ⟨_,_,_,_,e2,.inr ⟨a,oa,rfl,na,s2.extBut _ _ na ha1⟩⟩ (s2.extBut _ _ nit ht1) (by show h2.objs.size=_;rw [s2.1];exact hz1) λb o nb e=>s2.extBut b o nb (hk1 b o e))
theorem wg{e:DictEntry}{Q:Option Value->Shared->Prop}(hit:uP s.heap it d i es.size ep)(hd:RawD s.heap d es ep)(hx:es[i]?=some e)
  (hQ:∀h',uP h' it d (i+1) es.size ep->h'.get? s.heap.objs.size=some {cls:=.type "tuple",data:=.seq #[e.key,e.val]}->h'.objs.size=s.heap.objs.size+1->(∀b o,b≠it->s.heap.get? b=some o->h'.get? b=some o)->Q (some (.ref s.heap.objs.size)) {s with heap:=h'}) :
  wpAny (model prog w) A (pyNext (.ref it)) Q E s:=by
 obtain ⟨own,f,ok,ov,h1,how⟩:=hit
 obtain ⟨od,hod,_,hdd⟩:=hd
 have ty:=wX h1
 unfold pyNext
 refine wpAny_bind (wpAny_attempt (wpAny_callSpecial?_slot (name:=Str.ofString "__next__") ty PySem.F.slot_dict_itemiterator_next (wpAny_call_entry PySem.F.slot_dict_itemiterator_next ty PySem.F.entry_dict_itemiterator_next ?_ (PySem.F.args_dict_itemiterator_next_1 _))))
 refine wpAny_bind (wpAny_pure (wpAny_bind (wpAny_bind ?_)))
 first | refine wpAny_bind (wpAny_typeNameOfWhole_itemiter ty (wpAny_pure ?_)) | refine wpAny_bind (wpAny_typeNameOf_itemiter ty (wpAny_pure ?_))
 refine wpAny_bind (wpAny_fieldsOf h1 rfl ?_)
 simp only [lK,if_true]
 show wpAny _ _ (if (Value.ref d==Value.none)=true then _ else (_:Sem (Option (Array DictEntry×Int)))) _ _ s
 rw [if_neg (show ¬((Value.ref d==Value.none)=true) by intro z;cases z)]
 refine wpAny_bind (wpAny_pure (wpAny_bind (wpAny_dictEntries hod hdd ?_)))
 rw [if_neg (by simp)]
 refine wpAny_bind (wpAny_pure (wpAny_bind (wpAny_dictEpoch hod hdd ?_)))
 rw [if_neg (by simp)]
 refine wpAny_pure ?_
 have hlt:i<es.size:=(Array.getElem?_eq_some_iff.mp hx).1
 simp only [show ¬((i:Int)<0) by omega,if_false,Int.toNat_natCast,hx]
 refine wpAny_bind ?_
 first | refine wpAny_bind (wpAny_typeNameOfWhole_itemiter ty (wpAny_pure ?_)) | refine wpAny_bind (wpAny_typeNameOf_itemiter ty (wpAny_pure ?_))
 refine wpAny_bind (wpAny_isOneOf_itemiter ty ?_)
 show wpAny _ _ (setField (.ref it) 3 (rawInt ((i:Int)+1)) >>= λ_=>_) _ _ s
 refine wpAny_bind (wpAny_setField_rec h1 (by simp) λh2 e2 s2=>?_)
 have e2':h2.get? it=some (eW own f d (i+1) es.size ep ok ov):=by
  have z:((i+1:Nat):Int)=(i:Int)+1:=by omega
  unfold eW
  rw [z]
  simpa [rawInt] using e2
 have ty2:Shared.TypeIs {s with heap:=h2} (.ref it) "dict_itemiterator":=⟨_,e2',rfl⟩
 refine wpAny_bind (wpAny_holding (wpAny_bind (wpAny_isOneOf_itemiter ty2 (wpAny_bind (wpAny_isOneOf_itemiter ty2 ?_)))))
 have how2:own=.none\/∃a oa,own=rawInt (a:Nat)/\a≠it/\h2.get? a=some oa:=how.imp id λ⟨a,oa,z1,z2,z3⟩=>⟨a,oa,z1,z2,s2.extBut a oa z2 z3⟩
 refine wf (s:={s with heap:=h2}) e2' how2 λh3 i3 t3 z3 k3=>wpAny_pure ⟨_,rfl,wpAny_pure ?_⟩
 have zz:h2.objs.size=s.heap.objs.size:=s2.1
 have q3:=hQ h3 i3 (by rw [← zz];exact t3) (by rw [← zz];exact z3) λb o nb x=>k3 b o nb (s2.extBut b o nb x)
 show Q (some (.ref h2.objs.size)) _
 rw [zz]
 exact q3
theorem yz{Q:Option Value->Shared->Prop}(hh:A.handled=none)(hit:uP s.heap it d i es.size ep)(hd:RawD s.heap d es ep)(hx:es.size<=i)
  (hQ:∀h',Heap.ExtBut it s.heap h'->Q none {s with heap:=h'}):wpAny (model prog w) A (pyNext (.ref it)) Q E s:=by
 obtain ⟨own,f,ok,ov,h1,how⟩:=hit
 obtain ⟨od,hod,_,hdd⟩:=hd
 have ty:=wX h1
 unfold pyNext
 refine wpAny_bind (wpAny_attempt (wpAny_callSpecial?_slot (name:=Str.ofString "__next__") ty PySem.F.slot_dict_itemiterator_next (wpAny_call_entry PySem.F.slot_dict_itemiterator_next ty PySem.F.entry_dict_itemiterator_next ?_ (PySem.F.args_dict_itemiterator_next_1 _))))
 refine wpAny_bind (wpAny_pure (wpAny_bind (wpAny_bind ?_)))
 first | refine wpAny_bind (wpAny_typeNameOfWhole_itemiter ty (wpAny_pure ?_)) | refine wpAny_bind (wpAny_typeNameOf_itemiter ty (wpAny_pure ?_))
 refine wpAny_bind (wpAny_fieldsOf h1 rfl ?_)
 simp only [lK,if_true]
 show wpAny _ _ (if (Value.ref d==Value.none)=true then _ else (_:Sem (Option (Array DictEntry×Int)))) _ _ s
 rw [if_neg (show ¬((Value.ref d==Value.none)=true) by intro z;cases z)]
 refine wpAny_bind (wpAny_pure (wpAny_bind (wpAny_dictEntries hod hdd ?_)))
 rw [if_neg (by simp)]
 refine wpAny_bind (wpAny_pure (wpAny_bind (wpAny_dictEpoch hod hdd ?_)))
 rw [if_neg (by simp)]
 refine wpAny_pure ?_
 simp only [show ¬((i:Int)<0) by omega,if_false,Int.toNat_natCast,Array.getElem?_eq_none hx]
 refine wpAny_bind ?_
 first | refine wpAny_bind (wpAny_typeNameOfWhole_itemiter ty (wpAny_pure ?_)) | refine wpAny_bind (wpAny_typeNameOf_itemiter ty (wpAny_pure ?_))
 show wpAny _ _ (setField (.ref it) 2 .none >>= λ_=>_) _ _ s
 refine wpAny_bind (wpAny_setField h1 rfl (by simp) ?_)
 show wpAny _ _ (newExc (.type "StopIteration") [] >>= λ_=>_) _ _ _
 refine wpAny_bind ?_
 simp only [newExc,newTuple]
 refine wpAny_bind (wpAny_newObj_type (wpAny_bind (m:=firstArgMember _ _) (wpAny_of_eq (a:=Value.none) (by first | rfl | (simp only [firstArgMember];rfl)) (wpAny_newObj_type ?_ (by size_fits)))) (by size_fits))
 simp only [raiseNew]
 refine wpAny_bind (wpAny_handled ?_)
 rw [show A.in1.handled=none from hh]
 refine wpAny_bind (wpAny_pure (wpAny_throw ?_));refine wpAny_bind (wpAny_isInstance (T:="StopIteration") (b:=true) ⟨_,Heap.get?_push_size _ rfl,rfl⟩ isSubtype_stop ?_)
 exact wpAny_pure (hQ _ (((Heap.SameBut.update ..).extBut.push _).push _))
def rA(h:Heap)(es:Array DictEntry)(as:List Addr):Prop:=∀(j:Nat) (a:Addr),as[j]?=some a->∃e,es[j]?=some e/\h.get? a=some {cls:=.type "tuple",data:=.seq #[e.key,e.val]}
theorem pV{S:Addr}{R:Result->Shared->Prop}{h1:Heap}(hh:A.handled=none)(nSI:S≠it)(ndS:d≠S)(ndI:d≠it)(hn:es.size<=sizeLine)(res:Value)
  (hR:∀h' tk acc c as,(∀b o,b≠S->b≠it->h1.get? b=some o->h'.get? b=some o)->h'.get? S=some {cls:=.type "list",dict:=none,data:=.seq acc c,slots:=#[]}->as.length=es.size->rA h' es as->(∀a∈as,h1.objs.size<=a/\a≠S/\a≠it)->as.Nodup ->
   acc.toList=as.map Value.ref->R (.ok (.ret res)) {s with heap:=h',toks:=tk}) :
  ∀(k i:Nat) (h:Heap) (tk c:Nat) (acc:Array Value) (as:List Addr),es.size-i=k->i<=es.size->uP h it d i es.size ep->RawD h d es ep->(∀b o,b≠S->b≠it->h1.get? b=some o->h.get? b=some o) ->
   h.get? S=some {cls:=.type "list",dict:=none,data:=.seq acc c,slots:=#[]}->acc.toList=as.map Value.ref->as.length=i->rA h es as->(∀a∈as,h1.objs.size<=a/\a≠S/\a≠it/\a<h.objs.size)->as.Nodup->h1.objs.size<=h.objs.size ->
   codeAny (model prog w) A (.builtin "list.extend.loop" ⟨[.ref S,.ref it,res],[]⟩) R {s with heap:=h,toks:=tk}
 | 0,i,h,tk,c,acc,as,hk,hi,hit,hd,kp,hS,ha,hl,tu,ab,ndp,hz=>by
  refine codeAny_builtin PySem.F.entry_extend_loop ?_
  rw [Around.under_plainId PySem.F.plain_extend_loop _]
  show wpAny _ A.in1 (pyNext (.ref it) >>= λ_=>_) _ _ _
  refine wpAny_bind (yz (s:={s with heap:=h,toks:=tk}) (A:=A.in1) hh hit hd (by omega) λh' xb=>?_)
  exact wpAny_pure (hR h' tk acc c as (λb o n1 n2 e=>xb b o n2 (kp b o n1 n2 e)) (xb S _ nSI hS) (by omega) (λj a hj=>by
   obtain ⟨e,e1,e2⟩:=tu j a hj
   exact ⟨e,e1,xb a _ (ab a (List.mem_of_getElem? hj)).2.2.1 e2⟩) (λa hm=>⟨(ab a hm).1,(ab a hm).2.1,(ab a hm).2.2.1⟩) ndp ha)
 | k+1,i,h,tk,c,acc,as,hk,hi,hit,hd,kp,hS,ha,hl,tu,ab,ndp,hz=>by
  have hlt:i<es.size:=by omega
  have hx:es[i]?=some es[i]:=Array.getElem?_eq_getElem hlt
  have hsz:acc.size=i:=by rw [← Array.length_toList,ha,List.length_map,hl]
  have lS:S<h.objs.size:=Heap.lt_size hS
  have lI:it<h.objs.size:=by obtain ⟨_,_,_,_,e,_⟩:=hit;exact Heap.lt_size e
  refine codeAny_builtin PySem.F.entry_extend_loop ?_
  rw [Around.under_plainId PySem.F.plain_extend_loop _]
  show wpAny _ A.in1 (pyNext (.ref it) >>= λ_=>_) _ _ _
  refine wpAny_bind (wg (s:={s with heap:=h,toks:=tk}) hit hd hx λh' hit' ht z' k'=>?_)
  have z'':h'.objs.size=h.objs.size+1:=z'
  have hS':=k' S _ nSI hS
  have up:∀b o,b≠S->h'.get? b=some o->(h'.update S (Obj.mapSeq (·.push (Value.ref h.objs.size)))).get? b=some o:=λb o nb e=>(Heap.get?_update_other _ _ (Ne.symm nb)).trans e
  have zu:(h'.update S (Obj.mapSeq (·.push (Value.ref h.objs.size)))).objs.size=h.objs.size+1:=by rw [Heap.size_update];exact z''
  show wpAny _ A.in1 (updateSeq S (·.push (Value.ref h.objs.size)) >>= λ_=>_) _ _ _
  refine wpAny_bind (wpAny_updateSeq hS' rfl (wpAny_pure ⟨plainId_quiet PySem.F.plain_extend_loop _,?_⟩) (by rw [hsz];omega) (by show (acc.push (Value.ref h.objs.size)).size<=sizeLine+1;rw [Array.size_push,hsz];omega))
  refine pV hh nSI ndS ndI hn res hR k (i+1) _ tk _ (acc.push (Value.ref h.objs.size)) (as++[h.objs.size]) (by omega) hlt ?_ (hd.at λo e=>up d o ndS (k' d o ndI e)) (λb o n1 n2 e=>up b o n1 (k' b o n2 (kp b o n1 n2 e)))
   (Heap.get?_update_self _ hS' rfl) (by rw [Array.toList_push,ha,List.map_append];rfl) (by rw [List.length_append,hl];rfl) ?_ ?_ ?_ (by rw [zu];omega)
  ·obtain ⟨own,f,ok,ov,e1,how⟩:=hit'
   refine ⟨own,f,ok,ov,up it _ (Ne.symm nSI) e1,how.imp id λ⟨a,oa,w1,w2,w3⟩=>?_⟩
   by_cases aS:a=S
   ·subst aS
    exact ⟨a,_,w1,w2,Heap.get?_update_self _ hS' rfl⟩
   ·exact ⟨a,oa,w1,w2,up a oa aS w3⟩
  ·intro j a hj
   by_cases hja:j<as.length
   ·rw [List.getElem?_append_left hja] at hj
    obtain ⟨e,e1,e2⟩:=tu j a hj
    obtain ⟨_,n1,n2,_⟩:=ab a (List.mem_of_getElem? hj)
    exact ⟨e,e1,up a _ n1 (k' a _ n2 e2)⟩
   ·rw [List.getElem?_append_right (by omega)] at hj
    have hj0:j-as.length=0:=by
     cases q:j-as.length with
     | zero=>rfl
     | succ n=>rw [q] at hj;simp at hj
    rw [hj0] at hj
    have ea:h.objs.size=a:=by simpa using hj
    subst ea
    have ej:j=i:=by omega
    subst ej
    exact ⟨_,hx,up _ _ (Nat.ne_of_gt lS) ht⟩
  ·intro a hm
   rw [zu]
   rcases List.mem_append.mp hm with hm | hm
   ·obtain ⟨m1,m2,m3,m4⟩:=ab a hm
    exact ⟨m1,m2,m3,Nat.lt_succ_of_lt m4⟩
   ·have:=List.mem_singleton.mp hm
    subst this
    exact ⟨hz,Nat.ne_of_gt lS,Nat.ne_of_gt lI,Nat.lt_succ_self _⟩
  ·rw [List.nodup_append]
   refine ⟨ndp,by simp,λx hx' y hy z=>?_⟩
   have ey:y=h.objs.size:=List.mem_singleton.mp hy
   exact Nat.ne_of_lt (ab x hx').2.2.2 (z.trans ey)
theorem wj{v:Addr}{Q:Value->Shared->Prop}(hv:s.heap.IsItemsView v d)(hd:RawD s.heap d es ep)(hn:es.size<=sizeLine)
  (hQ:Q (.ref s.heap.objs.size) {s with heap:=s.heap.push (eW .none false d 0 es.size ep .none .none)}):wpAny (model prog w) A (pyIter (.ref v)) Q E s:=by
 obtain ⟨ov,e1,c1,d1⟩:=id hv
 obtain ⟨od,e2,_,d2⟩:=hd
 refine wpAny_pyIter_slot hv.typeIs PySem.F.slot_dict_items_iter (wpAny_call_entry PySem.F.slot_dict_items_iter hv.typeIs PySem.F.entry_dict_items_iter ?_ (PySem.F.args_dict_items_iter_1 _))
 unfold Builtin.«dict_items.__iter__»
 refine wpAny_bind (wpAny_pure (wpAny_bind ?_))
 unfold Builtin.Dict_items.dictOf
 refine wpAny_bind (wpAny_field e1 d1 (x:=.ref d) rfl (wpAny_pure (wpAny_bind ?_)))
 unfold Builtin.Dict_items.newIterator
 refine wpAny_bind (wpAny_dictEntries e2 d2 (wpAny_bind (wpAny_dictEpoch e2 d2 ?_)))
 simp only [lK,if_true]
 refine wpAny_newObj_type (wpAny_pure ⟨_,rfl,"dict_itemiterator",_,⟨_,Heap.get?_push_size _ rfl,rfl⟩,PySem.F.slot_dict_itemiterator_next.lookup,?_⟩) (by simp only [sizeOk,Builtin.Dict_items.ownedTupleFields,List.size_toArray,List.length_append,List.length_cons,List.length_nil,sizeLine_eq];omega)
 simpa [eW,rawInt,Builtin.Dict_items.ownedTupleFields] using hQ
theorem qS{v S:Addr}{c0:Nat}{R:Result->Shared->Prop}(hh:A.handled=none)(hv:s.heap.IsItemsView v d)(hd:RawD s.heap d es ep)(hn:es.size<=sizeLine)(nSv:S≠v)(ndS:d≠S)(res:Value)(hS:s.heap.get? S=some {cls:=.type "list",data:=.seq #[] c0})
  (hR:∀h' tk acc c as,(∀b o,b≠S->s.heap.get? b=some o->h'.get? b=some o)->h'.get? S=some {cls:=.type "list",dict:=none,data:=.seq acc c,slots:=#[]}->as.length=es.size->rA h' es as->(∀a∈as,s.heap.objs.size<=a)->as.Nodup->acc.toList=as.map Value.ref->R (.ok (.ret res)) {s with heap:=h',toks:=tk}) :
  wpAny (model prog w) A.in1 (Builtin.List.listExtendWith (.ref S) (.ref v) res) (λfin s'=>match fin with | .done f=>R (.ok f) s' | .again c'=>c'.quiet=true/\codeAny (model prog w) A c' R s') (λe s'=>R (.error e) s') s:=by
 have lS:S<s.heap.objs.size:=Heap.lt_size hS
 have ld:d<s.heap.objs.size:=let ⟨_,e,_⟩:=hd;Heap.lt_size e
 have go:∀(h:Heap) (c tk:Nat),(∀b o,b≠S->(s.heap.push (eW .none false d 0 es.size ep .none .none)).get? b=some o->h.get? b=some o)->h.get? S=some {cls:=.type "list",data:=.seq #[] c}->s.heap.objs.size<=h.objs.size ->
   codeAny (model prog w) A (.builtin "list.extend.loop" ⟨[.ref S,.ref s.heap.objs.size,res],[]⟩) R {s with heap:=h,toks:=tk}:=by
  intro h c tk kp eS zh
  have eI:=kp s.heap.objs.size _ (Nat.ne_of_gt lS) (Heap.get?_push_size _ rfl)
  refine pV (s:=s) (it:=s.heap.objs.size) (d:=d) (ep:=ep) (es:=es) (h1:=s.heap) hh (Nat.ne_of_lt lS) ndS (Nat.ne_of_lt ld) hn res (λh' tk' acc c' as k' eS' l' t' ab n' a'=>hR h' tk' acc c' as (λb o nb e=>k' b o nb (Nat.ne_of_lt (Heap.lt_size e)) e) eS' l' t' (λa ha=>(ab a ha).1) n' a')
   es.size 0 h tk c #[] [] (Nat.sub_zero _) (Nat.zero_le _) ⟨_,_,_,_,eI,.inl rfl⟩ (hd.at λo e=>kp d o ndS (Heap.get?_push_of_some _ e)) (λb o nb _ e=>kp b o nb (Heap.get?_push_of_some _ e)) eS rfl rfl (λj a hj=>by simp at hj) (λa ha=>nomatch ha) List.nodup_nil zh
 unfold Builtin.List.listExtendWith
 refine wpAny_bind (wpAny_typeOf (T:="dict_items") hv.typeIs ?_)
 have b1:Builtin.List.listSameRef (.ref S) (.ref v)=false:=by simp [Builtin.List.listSameRef,nSv]
 have b2:(Value.type "dict_items"==Value.type "list")=false/\(Value.type "dict_items"==Value.type "tuple")=false:=⟨by decide,by decide⟩
 simp only [b1,b2.1,b2.2,Bool.or_false,Bool.false_eq_true,if_false]
 have eS1:=Heap.get?_push_of_some (eW .none false d 0 es.size ep .none .none) hS
 have zS1:s.heap.objs.size<=(s.heap.push (eW .none false d 0 es.size ep .none .none)).objs.size:=by rw [Heap.size_push];exact Nat.le_succ _
 refine wpAny_bind (wj hv hd hn (wpAny_bind (wpAny_holding (kdx_hint (let ⟨o,e,c,_⟩:=hv;⟨o,Heap.get?_push_of_some _ e,c⟩) ?_))))
 refine wpAny_ite_split (λ_=>?_) (λ_=>wpAny_pure ⟨plainId_quiet PySem.F.plain_extend_loop _,go _ c0 _ (λb o _ e=>e) eS1 zS1⟩)
 refine wpAny_bind (wpAny_rule (wpAny_bind ?_))
 show wpAny _ _ (updateSeq S (·.push .none) >>= λ_=>updateSeq S (·.pop)) _ _ {s with heap:=s.heap.push (eW .none false d 0 es.size ep .none .none)}
 have eS2:=Heap.get?_update_self (Obj.mapSeq (·.push Value.none)) eS1 rfl
 have eS3:=Heap.get?_update_self (Obj.mapSeq (·.pop)) eS2 rfl
 refine wpAny_bind (wpAny_updateSeq eS1 rfl (wpAny_updateSeq (hz:=by seq_fits) eS2 rfl (wpAny_pure ⟨plainId_quiet PySem.F.plain_extend_loop _,go _ _ _ (λb o nb e=>?_) eS3 ?_⟩)))
 ·exact (Heap.get?_update_other _ _ (Ne.symm nb)).trans ((Heap.get?_update_other _ _ (Ne.symm nb)).trans e)
 ·rw [Heap.size_update,Heap.size_update]
  exact zS1
theorem oX{v:Addr}{R:List Value->Shared->Prop}(hh:A.handled=none)(hv:s.heap.IsItemsView v d)(hd:RawD s.heap d es ep)(hn:es.size<=sizeLine)
  (hR:∀(h':Heap) (tk:Nat) (as:List Addr),(∀b o,s.heap.get? b=some o->h'.get? b=some o)->as.length=es.size->rA h' es as->(∀a∈as,s.heap.objs.size<=a)->as.Nodup->R (as.map Value.ref) {s with heap:=h',toks:=tk}) :
  wpAny (model prog w) A (collect (.ref v)) R E s:=by
 have lv:v<s.heap.objs.size:=let ⟨_,e,_⟩:=hv;Heap.lt_size e
 have ld:d<s.heap.objs.size:=let ⟨_,e,_⟩:=hd;Heap.lt_size e
 unfold collect
 refine wpAny_bind (wpAny_runValue (codeAny_builtin entry_proto_collect' ?_))
 rw [Around.under_plainId PySem.F.plain_proto_collect _]
 show wpAny _ A.in1 (newList [] >>= λl=>again (.builtin "list.__iadd__" (Args.mk [l,.ref v] []))) _ _ s
 refine wpAny_bind (wpAny_newObj_type (wpAny_pure ⟨plainId_quiet PySem.F.plain_list_iadd _,codeAny_builtin entry_list_iadd' ?_⟩))
 rw [Around.under_plainId PySem.F.plain_list_iadd _]
 have eS:(s.heap.push {cls:=.type "list",data:=.seq ([]:List Value).toArray}).get? s.heap.objs.size=some {cls:=.type "list",data:=.seq #[] 0}:=Heap.get?_push_size _ rfl
 have key:=qS (prog:=prog) (w:=w) (A:=A) (s:={s with heap:=s.heap.push {cls:=.type "list",data:=.seq ([]:List Value).toArray}}) (v:=v) (S:=s.heap.objs.size) (d:=d) (es:=es) (ep:=ep)
  (R:=λ(q:Result) (s':Shared)=>∃(h':Heap) (tk:Nat) (acc:Array Value) (c:Nat) (as:List Addr),q=.ok (.ret (.ref s.heap.objs.size))/\s'={s with heap:=h',toks:=tk}/\(∀b o,s.heap.get? b=some o->h'.get? b=some o) /\
   h'.get? s.heap.objs.size=some {cls:=.type "list",dict:=none,data:=.seq acc c,slots:=#[]}/\as.length=es.size/\rA h' es as/\(∀a∈as,s.heap.objs.size<=a)/\as.Nodup/\acc.toList=as.map Value.ref)
  hh (let ⟨o,e,r⟩:=hv;⟨o,Heap.get?_push_of_some _ e,r⟩) (hd.at λo e=>Heap.get?_push_of_some _ e) hn (Nat.ne_of_gt lv) (Nat.ne_of_lt ld) (.ref s.heap.objs.size) eS
  (λh' tk acc c as k' eS' l' t' ab n' a'=>⟨h',tk,acc,c,as,rfl,rfl,λb o e=>k' b o (Nat.ne_of_lt (Heap.lt_size e)) (Heap.get?_push_of_some _ e),eS',l',t',λa ha=>Nat.le_of_succ_le (by have:=ab a ha;rw [Heap.size_push] at this;exact this),n',a'⟩)
 have fin:∀(q:Result) (s':Shared),(∃(h':Heap) (tk:Nat) (acc:Array Value) (c:Nat) (as:List Addr),q=.ok (.ret (.ref s.heap.objs.size))/\s'={s with heap:=h',toks:=tk}/\(∀b o,s.heap.get? b=some o->h'.get? b=some o) /\
   h'.get? s.heap.objs.size=some {cls:=.type "list",dict:=none,data:=.seq acc c,slots:=#[]}/\as.length=es.size/\rA h' es as/\(∀a∈as,s.heap.objs.size<=a)/\as.Nodup/\acc.toList=as.map Value.ref) ->
   ∃h' tk,q=.ok (.ret (.ref s.heap.objs.size))/\s'={s with heap:=h',toks:=tk}/\wpAny (model prog w) A (load s.heap.objs.size >>= λo=>match o.data with | .seq xs _=>pure xs.toList | _=>unsupported "internal:collect") R E {s with heap:=h',toks:=tk}:=by
  rintro q s' ⟨h',tk,acc,c,as,rfl,rfl,k',eS',l',t',ab,n',a'⟩
  refine ⟨h',tk,rfl,rfl,wpAny_bind (wpAny_load eS' (wpAny_pure ?_))⟩
  show R acc.toList _
  rw [a']
  exact hR h' tk as k' l' t' ab n'
 refine wpAny_mono key (λf s' x=>?_) λe s' x=>?_
 ·cases f with
  | done fl =>
   obtain ⟨h',tk,e1,e2,g⟩:=fin _ _ x
   cases e1
   subst e2
   exact g
  | again c1 =>
   refine ⟨x.1,codeAny_mono x.2 λq s2 y=>?_⟩
   obtain ⟨h',tk,e1,e2,g⟩:=fin _ _ y
   subst e1 e2
   exact g
 ·obtain ⟨h',tk,e1,_⟩:=fin _ _ x
  cases e1
end
end L2
namespace L2
open PySem PySem.Spec PyProof.Rows PySem.W
end L2
namespace L2
open PySem PySem.Spec PyProof.Rows PySem.W
end L2
namespace L2
open PySem PySem.Spec PyProof.Rows PySem.W
def Vw(v d:Addr):HO:=.ext λh=>h.IsItemsView v d
def xn(td:TE):TE:=fun σ H Q=>td σ H λx H1=>∃a kvs,x=.ref a/\H1 a=some (.dT kvs)/\∀v,H1 v=none->Q (.ref v) (upd H1 v (Vw v a))
theorem sW{X:Cx}{o:Expr}{apos cpos:Pos}{td:TE}(ho:PE X o td)(hbase:attributeBase o "items" X.env (eval o X.env)=eval o X.env:=by rfl)(hline:(apos.endLine==cpos.line)=true:=by rfl) :
  PE X (.Call (.Attribute o "items" apos) [] [] cpos) (xn td):=by
 intro pins s σ H Q I h
 refine wpAny_Call_method0_late hbase hline (thn (ho pins s σ H _ I h) λu s1 ⟨x,H1,I1,rx,a,kvs,ex,e,q⟩=>?_)
 subst ex
 obtain rfl:u=Value.ref a:=rx
 obtain ⟨t1,t2,hs⟩:=yA I1 (.inr ⟨kvs,.inl e⟩)
 refine ⟨"dict","dict.items",PySem.F.plainAttrs_dict,PySem.F.slot_dict_items,PySem.F.type_dict_items,t1,t2,Calls.callWith_builtin rfl (PySem.evalArgs_none ?_)⟩
 refine wpAny_call_entry PySem.F.slot_dict_items t1 PySem.F.entry_dict_items ?_ (PySem.F.args_dict_items_1 _)
 unfold Builtin.«dict.items» Builtin.Dict.noArgs
 refine wpAny_bind (wpAny_bind (wpAny_notOrdered_dict t1 (wpAny_pure ?_)))
 show wpAny _ _ (Builtin.Dict.showsAll a >>= λ_=>_) _ _ s1
 unfold Builtin.Dict.showsAll
 rw [if_neg (by rw [hs];exact Bool.false_ne_true)]
 refine wpAny_bind (wpAny_pure (wpAny_bind (wpAny_newObj_type (wpAny_pure ⟨_,rfl,?_⟩))))
 refine ⟨.ref s1.heap.objs.size,_,I1.laid (a:=s1.heap.objs.size) (o:=Vw s1.heap.objs.size a) (t':=s1.toks) (λ_ _ z=>Heap.get?_push_of_some _ z) (Nat.le_refl _) ⟨⟨_,Heap.get?_push_size _ rfl,rfl,rfl⟩,⟨_,Heap.get?_push_size _ rfl⟩,λg1 g2 ⟨ob,p,r⟩ k=>⟨ob,k _ p,r⟩⟩,rfl,q _ (I1.hok.fresh (Nat.le_refl _))⟩
theorem ig{α β:Type}{F:α->β->Prop}:∀{xs:List α} {ys:List β},xs.length=ys.length->(∀(i:Nat) x y,xs[i]?=some x->ys[i]?=some y->F x y)->Paired F xs ys
 | [],[],_,_=>.nil
 | x::xs,y::ys,h,f=>.cons (f 0 x y rfl rfl) (ig (Nat.succ.inj h) λi a b e1 e2=>f (i+1) a b e1 e2)
def iG(H:Hp)(ts:List (Addr×List V)):Hp:=λb=>match ts.find? (λp=>decide (p.1=b)) with | some p=>some (.tup p.2) | none=>H b
theorem uT{H:Hp}{ts:List (Addr×List V)}(nd:(ts.map (·.1)).Nodup){p:Addr×List V}(hp:p∈ts):iG H ts p.1=some (.tup p.2):=by
 unfold iG
 have:ts.find? (λq=>decide (q.1=p.1))=some p:=by
  induction ts with
  | nil=>cases hp
  | cons x r ih =>
   rw [List.map_cons,List.nodup_cons] at nd
   rw [List.find?_cons]
   by_cases e:x.1=p.1
   ·rw [decide_eq_true e]
    rcases List.mem_cons.mp hp with z | z
    ·rw [z]
    ·exact absurd (List.mem_map.mpr ⟨p,z,e.symm⟩) nd.1
   ·rw [decide_eq_false e]
    rcases List.mem_cons.mp hp with z | z
    ·exact absurd (by rw [z]) e
    ·exact ih nd.2 z
 rw [this]
theorem pj{H:Hp}{ts:List (Addr×List V)}{b:Addr}(h:∀p∈ts,p.1≠b):iG H ts b=H b:=by
 unfold iG
 have:ts.find? (λq=>decide (q.1=b))=none:=List.find?_eq_none.mpr λp hp c=>h p hp (of_decide_eq_true c)
 rw [this]
theorem rH{H:Hp}{ts:List (Addr×List V)}{b:Addr}{o:HO}(h:iG H ts b=some o):(∃p∈ts,p.1=b/\o=.tup p.2)\/((∀p∈ts,p.1≠b)/\H b=some o):=by
 unfold iG at h
 cases e:ts.find? (λq=>decide (q.1=b)) with
 | none =>
  rw [e] at h
  exact .inr ⟨λp hp z=>List.find?_eq_none.mp e p hp (decide_eq_true z),h⟩
 | some p =>
  rw [e] at h
  exact .inl ⟨p,List.mem_of_find?_eq_some e,by simpa using List.find?_some e,(Option.some.inj h).symm⟩
section
variable {X:Cx}{pins:List (Addr×Obj)}{σ:St}{H:Hp}{s:Shared}
theorem zw{h':Heap}{tk:Nat}{ts:List (Addr×List V)}(I:Inv X pins σ H s)(k:∀b o,s.heap.get? b=some o->h'.get? b=some o)(new:∀p∈ts,s.heap.objs.size<=p.1)
  (ok:∀p∈ts,p.2.length<=sizeLine/\∃its,Vals p.2 its/\IsTup h' p.1 (List.toArray its)):Inv X pins σ (iG H ts) {s with heap:=h',toks:=tk}:=by
 have old:∀b o,s.heap.get? b=some o->iG H ts b=H b:=λb o e=>pj λp hp z=>by
  subst z
  exact Nat.not_le_of_gt (Heap.lt_size e) (new p hp)
 have oldH:∀b o,H b=some o->iG H ts b=H b:=λb o e=>by
  obtain ⟨ob,e'⟩:=(I.hok b o e).there
  exact old b ob e'
 refine I.step (h':=h') (g':=s.gens) (d':=s.drawn) (t':=tk) (ch:=[]) (λ_ z=>nomatch z) (λb o _ _ _ e _=>k b o e) (λb o _ _ _ e _=>⟨o.slots,k b o e⟩) (λb o _ e n=>by rw [old b o e];exact n)
  (λb o _ e=>⟨o,k b o e⟩) (λb xs e=>by rw [oldH b _ e];exact e) (λb o u e=>by rw [oldH b _ e];exact e) (λb ps e=>⟨#[],by rw [oldH b _ e,e];simp⟩) (λm hm=>?_) (λb o e=>?_) I.bare
 ·obtain ⟨ob,es,ep,ho',r⟩:=hm
  exact ⟨ob,es,ep,k _ ob ho',r⟩
 ·rcases rH e with ⟨p,hp,rfl,rfl⟩ | ⟨hn,e'⟩
  ·exact ok p hp
  ·exact (I.hok b o e').stay (λd v _ q=>k d v q) (λd q=>by rw [oldH d _ q];exact q) λd xs q=>by rw [oldH d _ q];exact q
end
theorem l4{X:Cx}(hc:X.calm=true)(hu:X.A.units+4<cLine):dD X (.builtin "sorted") (λxs H Q=>∃v d es,xs=[.ref v]/\H v=some (Vw v d)/\H d=some (.dT (List.map (λx:(Int×Int)×Str=>([.inl x.1.1,.inl x.1.2],V.str x.2)) es))/\es.length<64 /\
  ∀H' l ys,Same H H'->H' l=none->Paired (sPS X.K (upd H' l (.lst ys))) (iA ltE es) ys->Q (.ref l) (upd H' l (.lst ys))):=by
 intro pins s σ H xs us Q I r h
 obtain ⟨v,d,es,rfl,hv,hd,h64,q⟩:=h
 obtain ⟨u,rfl,rx⟩:=cp r
 cases (show u=Value.ref v from rx)
 obtain ⟨hw,_⟩:=(show ObjOk X.prog X.w H s.heap v (Vw v d) from I.hok v _ hv)
 obtain ⟨z,_,xs,rel,o,en,ep,h1,h2,h3,h4,h5⟩:=(show ObjOk X.prog X.w H s.heap d (.dT _) from I.hok d _ hd)
 have lx:es.length=xs.length:=by rw [← Paired.length rel,List.length_map]
 have ln:en.size=xs.length:=size_of_entries h4
 refine Calls.call_function_entry kind_sorted plain_sorted entry_sorted (args_sorted1 _) ?_
 unfold Builtin.«sorted»
 refine wpAny_bind (m:=checkCount "sorted" 1 1 _) (wpAny_pure (wpAny_bind (oX (A:=X.A.in1) (I.ok.hd hc) hw ⟨o,h1,h2,h3⟩ (by rw [ln,← lx,sizeLine_eq];omega) λh' tk as k' la tu ab nd=>?_)))
 let ts:List (Addr×List V):=(as.zip (es.zip xs)).map λt=>(t.1,[.ref t.2.2.2.1,.str t.2.1.2])
 have lt:(as.zip (es.zip xs)).length=as.length:=by rw [List.length_zip,List.length_zip];omega
 have fst:ts.map (·.1)=as:=by
  show ((as.zip (es.zip xs)).map λt=>(t.1,([.ref t.2.2.2.1,.str t.2.1.2]:List V))).map (·.1)=as
  rw [List.map_map]
  show (as.zip (es.zip xs)).map Prod.fst=as
  rw [List.map_fst_zip]
  rw [List.length_zip]
  omega
 have at3:∀(i:Nat) (a:Addr) (x:(Int×Int)×Str),as[i]?=some a->es[i]?=some x->∃y:List Key×Addr×Value,xs[i]?=some y/\(a,[V.ref y.2.1,.str x.2])∈ts/\H y.2.1=some (.tup [.int x.1.1,.int x.1.2])/\RelV (.str x.2) y.2.2:=λi a x ea ex=>by
  obtain ⟨y,ey,ry⟩:=rel.get1 (j:=i) (x:=([.inl x.1.1,.inl x.1.2],V.str x.2)) (by rw [List.getElem?_map,ex];rfl)
  refine ⟨y,ey,List.mem_map.mpr ⟨(a,x,y),List.mem_of_getElem? (i:=i) ?_,rfl⟩,ry.2.1,ry.2.2⟩
  rw [List.getElem?_zip_eq_some,List.getElem?_zip_eq_some]
  exact ⟨ea,ex,ey⟩
 have new:∀p∈ts,s.heap.objs.size<=p.1:=λp hp=>ab p.1 (by rw [← fst];exact List.mem_map.mpr ⟨p,hp,rfl⟩)
 have I1:Inv X pins σ (iG H ts) {s with heap:=h',toks:=tk}:=zw I k' new λp hp=>by
  obtain ⟨t,ht,rfl⟩:=List.mem_map.mp hp
  obtain ⟨i,hi⟩:=List.getElem?_of_mem ht
  rw [List.getElem?_zip_eq_some,List.getElem?_zip_eq_some] at hi
  obtain ⟨ea,ex,ey⟩:=hi
  obtain ⟨e,ee,eh⟩:=tu i t.1 ea
  obtain ⟨y,ey',_,_,rv⟩:=at3 i t.1 t.2.1 ea ex
  rw [ey] at ey'
  cases ey'
  have ek:en[i]?=some (entryOfKey (tupleKind (b9 X.prog X.w)) t.2.2):=by rw [entry_at h4,ey];rfl
  rw [ee] at ek
  cases ek
  exact ⟨by show 2<=sizeLine;decide,[.ref t.2.2.2.1,t.2.2.2.2],.cons rfl (.cons rv .nil),_,eh,rfl,_,rfl⟩
 have same:Same H (iG H ts):=λb ob e=>by
  obtain ⟨ob',e'⟩:=(I.hok b ob e).there
  rw [pj λp hp z=>by subst z;exact Nat.not_le_of_gt (Heap.lt_size e') (new p hp)]
  exact e
 have pe:Paired (sPS X.K (iG H ts)) es (as.map V.ref):=ig (by rw [List.length_map];omega) λi x y ex ey=>by
  rw [List.getElem?_map] at ey
  obtain ⟨a,ea,rfl⟩:=Option.map_eq_some_iff.mp ey
  obtain ⟨w,ew,hm,hk,_⟩:=at3 i a x ea ex
  exact ⟨a,w.2.1,rfl,uT (by rw [fst];exact nd) hm,same _ _ hk⟩
 have rv:Vals (as.map V.ref) (as.map Value.ref):=ig (by rw [List.length_map,List.length_map]) λi x y ex ey=>by
  rw [List.getElem?_map] at ex ey
  obtain ⟨a,ea,rfl⟩:=Option.map_eq_some_iff.mp ex
  rw [ea] at ey
  cases ey
  rfl
 exact mr hu I1 rv pe h64 λl ys hl hp=>q _ l ys same hl hp
end L2
namespace Lo
open PySem L2
def NwAt(K:PySem.W.Frag)(H:Hp)(es:List (Pa×Str))(v:V):Prop:=∃t ys,v=.ref t/\H t=some (.tup ys)/\Paired (sPS K H) (iA ltE es) ys
theorem NwAt.keep{K:PySem.W.Frag}{H H':Hp}{es:List (Pa×Str)}{v:V}(e:bD H H')(h:NwAt K H es v):NwAt K H' es v:=by
 obtain ⟨t,ys,rfl,h1,h2⟩:=h
 exact ⟨t,ys,rfl,e _ _ h1,Paired.mapP h2 λ_ _ z=>z.keep e⟩
section
variable (CS:Addr)(K:PySem.W.Frag)
def on:Sp:=λvs H Q _=>∃A d,vs=[.ref A.l]/\St CS K H A d/\d.ends.length<64/\∀v H',Same H H'->NwAt K H' d.ends v->Q v H'
end
end Lo
namespace L2
open PySem PySem.Spec PyProof.Rows
def Itz(K:PySem.W.Frag)(a b:Addr):It :=
 ⟨λi H=>∃xs ys x y,SqL K H a xs/\SqL K H b ys/\xs[i]?=some x/\ys[i]?=some y,λi H x H'=>∃t u v,x=.ref t/\H t=none/\H'=upd H t (.tup [u,v])/\∀xs ys,SqL K H a xs->SqL K H b ys->xs[i]?=some u/\ys[i]?=some v,
  λi H=>∃xs ys,SqL K H a xs/\SqL K H b ys/\xs.length<=i⟩
theorem rK{P:Program}{w:World}{K:PySem.W.Frag}{elts:List Expr}{kk:Nat}{pos:Pos}(a b n:Addr)(ha:a<n)(hb:b<n) :
  rm P w K (.Tuple elts kk pos) (Itz K a b) [n+4,n+2,n+3,n,n+1] (n+4) (λi h=>IsZip h (n+4) (n+2) (n+3) .none/\IsPair h (n+2) (.ref n) (.ref (n+1))/\(∃u v,IsPair h (n+3) u v)/\h.IsListIter n a i/\h.IsListIter (n+1) b i) where
 mem:=by simp
 obj:=λi h st c hc=>by
  obtain ⟨e1,e2,⟨u,v,e3⟩,⟨o4,e4,_,d4⟩,⟨o5,e5,_,d5⟩⟩:=st
  simp only [List.mem_cons,List.not_mem_nil,or_false] at hc
  rcases hc with z | z | z | z | z
  ·subst z;exact ⟨_,e1,λv z=>by have z':Data.fields _=Data.cell v:=z;cases z'⟩
  ·subst z;exact ⟨_,e2,λv z=>by have z':Data.seq _ _=Data.cell v:=z;cases z'⟩
  ·subst z;exact ⟨_,e3,λv z=>by have z':Data.seq _ _=Data.cell v:=z;cases z'⟩
  ·subst z;exact ⟨o4,e4,λv z=>by rw [d4] at z;cases z⟩
  ·subst z;exact ⟨o5,e5,λv z=>by rw [d5] at z;cases z⟩
 keep:=λi h h' st k=>by
  obtain ⟨e1,e2,⟨u,v,e3⟩,e4,e5⟩:=st
  exact ⟨k _ (by simp) _ e1,k _ (by simp) _ e2,⟨u,v,k _ (by simp) _ e3⟩,e4.at λo e=>k n (by simp) o e,e5.at λo e=>k (n+1) (by simp) o e⟩
 item:=by
  intro X hP hw hK hc i pins s σ H E I hf st hg
  subst hP hw hK
  obtain ⟨e1,e2,⟨u0,v0,e3⟩,e4,e5⟩:=st
  obtain ⟨xs,ys,x,y,hq,hr,hx,hy⟩:=hg
  obtain ⟨i1,r1,p1,_⟩:=I.list hq
  obtain ⟨i2,r2,p2,_⟩:=I.list hr
  obtain ⟨u1,hu1,ru1⟩:=r1.get hx
  obtain ⟨u2,hu2,ru2⟩:=r2.get hy
  refine wpAny_pyNext_zip_item (zipApart_new ha hb) e1 e2 e3 e4 e5 p1.isList p2.isList (x:=u1) (y:=u2) (by simpa using hu1) (by simpa using hu2) λh1 z1 t1 l1 l2 hT hsz hk=>⟨_,rfl,?_⟩
  refine wpAny_letOwnedTupleGo_zip z1 λh2 z2 hs2=>?_
  have hn:H s.heap.objs.size=none:=I.hok.fresh (Nat.le_refl _)
  have lz:n+4<s.heap.objs.size:=Heap.lt_size e1
  have ne:∀k:Nat,k<4->n+k≠n+4:=λk hk z=>Nat.ne_of_lt hk (Nat.add_left_cancel z)
  have kp:∀c o,c∉[n+4,n+2,n+3,n,n+1]->s.heap.get? c=some o->h2.get? c=some o:=λc o hc e=>by
   simp only [List.mem_cons,List.not_mem_nil,or_false,not_or] at hc
   exact (hs2.2 c hc.1).trans (hk c o hc.1 hc.2.2.1 hc.2.2.2.1 hc.2.2.2.2 e)
  have hT2:h2.get? s.heap.objs.size=some {cls:=.type "tuple",data:=.seq #[u1,u2]}:=(hs2.2 _ (Nat.ne_of_gt lz)).trans hT
  have nb:∀c o,H c=some o->c∉[n+4,n+2,n+3,n,n+1]:=λc o e hc=>by rw [(hf c hc).1] at e;cases e
  have tI:IsPair h1 (n+2) (.ref n) (.ref (n+1)):=hk _ _ (ne 2 (by decide)) (λz=>absurd (Nat.add_left_cancel z:(2:Nat)=3) (by decide)) (λz=>absurd (Nat.add_left_cancel (k:=0) (m:=2) (n:=n) z) (by decide)) (λz=>absurd (Nat.add_left_cancel z:(2:Nat)=1) (by decide)) e2
  refine ⟨.ref s.heap.objs.size,upd H s.heap.objs.size (.tup [x,y]),?_,rfl,⟨_,x,y,rfl,hn,rfl,λzs ws h1 h2=>by rw [I.list_inj h1 hq,I.list_inj h2 hr];exact ⟨hx,hy⟩⟩,
   ⟨z2,(hs2.2 _ (ne 2 (by decide))).trans tI,⟨_,_,(hs2.2 _ (ne 3 (by decide))).trans t1⟩,l1.at λo e=>(hs2.2 _ (ne 0 (by decide))).trans e,l2.at λo e=>(hs2.2 _ (ne 1 (by decide))).trans e⟩,λc hc=>?_⟩
  ·show Inv X pins σ (upd H s.heap.objs.size (.tup [x,y])) {s with heap:=h2,gens:=s.gens,drawn:=s.drawn,toks:=s.toks}
   refine I.step (h':=h2) (g':=s.gens) (d':=s.drawn) (t':=s.toks) (ch:=[n+4,n+2,n+3,n,n+1]) (λc hc=>?_) (λc o _ _ hc e _=>kp c o hc e) (λc o _ _ hc e _=>⟨o.slots,kp c o hc e⟩) (λc o hc e m=>?_)
    (λc o hc e=>⟨o,kp c o hc e⟩) (λc zs e=>?_) (λc o v e=>?_) (λc ps e=>⟨#[],?_⟩) (λm hm=>?_) (λc v e=>?_) I.bare
   ·obtain ⟨f0,f1,f2,f3,f4,f5⟩:=hf c hc
    exact ⟨f3,f1,f4,f5⟩
   ·rw [aq (Nat.ne_of_lt (Heap.lt_size e))];exact m
   ·rw [aq (ah e hn)];exact e
   ·rw [aq (ah e hn)];exact e
   ·rw [aq (ah e hn),e];simp
   ·obtain ⟨o,es,ep,ho',r⟩:=hm
    exact ⟨o,es,ep,kp _ o (λhc=>(hf _ hc).2.1 rfl) ho',r⟩
   ·by_cases hc:c=s.heap.objs.size
    ·subst hc
     rw [ae] at e
     cases e
     exact ⟨by show 2<=sizeLine;decide,[u1,u2],.cons ru1 (.cons ru2 .nil),_,hT2,rfl,_,rfl⟩
    ·rw [aq hc] at e
     refine (I.hok c v e).stay (λd o hd q=>?_) (λd q=>?_) λd zs q=>?_
     ·rcases hd with z | z
      ·subst z;exact kp _ o (nb _ _ e) q
      ·exact kp _ o (nb _ _ z) q
     ·rw [aq (ah q hn)];exact q
     ·rw [aq (ah q hn)];exact q
  ·have hc':c<s.heap.objs.size:=by
    simp only [List.mem_cons,List.not_mem_nil,or_false] at hc
    rcases hc with z | z | z | z | z
    ·rw [z];exact lz
    ·rw [z];exact Nat.lt_trans (Nat.add_lt_add_left (by decide) n) lz
    ·rw [z];exact Nat.lt_trans (Nat.add_lt_add_left (by decide) n) lz
    ·rw [z];exact Nat.lt_of_le_of_lt (Nat.le_add_right n 4) lz
    ·rw [z];exact Nat.lt_trans (Nat.add_lt_add_left (by decide) n) lz
   rw [aq (Nat.ne_of_lt hc')]
   exact (hf c hc).1
 done:=by
  intro X hP hw hK hc i pins s σ H E I hf st hg
  subst hP hw hK
  obtain ⟨e1,e2,⟨u0,v0,e3⟩,e4,e5⟩:=st
  obtain ⟨xs,ys,hq,hr,hx⟩:=hg
  obtain ⟨i1,r1,p1,_⟩:=I.list hq
  obtain ⟨i2,r2,p2,_⟩:=I.list hr
  have l1:=r1.length
  refine wpAny_pyNext_zip_end (I.ok.hd hc) (zipApart_new ha hb) e1 e2 e3 e4 e5 p1.isList p2.isList (.inl (by simp;omega)) λh' kk=>⟨rfl,?_⟩
  have kp:∀c o,c∉[n+4,n+2,n+3,n,n+1]->s.heap.get? c=some o->h'.get? c=some o:=λc o hc e=>by
   simp only [List.mem_cons,List.not_mem_nil,or_false,not_or] at hc
   exact kk c o hc.1 hc.2.2.1 hc.2.2.2.1 hc.2.2.2.2 e
  have nb:∀c o,H c=some o->c∉[n+4,n+2,n+3,n,n+1]:=λc o e hc=>by rw [(hf c hc).1] at e;cases e
  have th:∀c o,s.heap.get? c=some o->c∈[n+4,n+2,n+3,n,n+1]\/c∉[n+4,n+2,n+3,n,n+1]:=λc o _=>Decidable.em _
  show Inv X pins σ H {s with heap:=h',gens:=s.gens,drawn:=s.drawn,toks:=s.toks}
  refine I.step (h':=h') (g':=s.gens) (d':=s.drawn) (t':=s.toks) (ch:=[n+4,n+2,n+3,n,n+1]) (λc hc=>?_) (λc o _ _ hc e _=>kp c o hc e) (λc o _ _ hc e _=>⟨o.slots,kp c o hc e⟩) (λc o hc e m=>m)
   (λc o hc e=>⟨o,kp c o hc e⟩) (λc zs e=>e) (λc o v e=>e) (λc ps e=>⟨#[],by rw [e];simp⟩) (λm hm=>?_) (λc v e=>?_) I.bare
  ·obtain ⟨f0,f1,f2,f3,f4,f5⟩:=hf c hc
   exact ⟨f3,f1,f4,f5⟩
  ·obtain ⟨o,es,ep,ho',r⟩:=hm
   exact ⟨o,es,ep,kp _ o (λhc=>(hf _ hc).2.1 rfl) ho',r⟩
  ·refine (I.hok c v e).stay (λd o hd q=>?_) (λd q=>q) λd zs q=>q
   rcases hd with z | z
   ·subst z;exact kp _ o (nb _ _ e) q
   ·exact kp _ o (nb _ _ z) q
 self:=λ_ _ _ _ _ st h=>wpAny_pyIter_zip st.1 h
def Aa(K:PySem.W.Frag)(ta:TA):TI:=fun σ H R=>ta σ H λvs H1=>∃a b,vs=[.ref a,.ref b]/\(∃xs,SqL K H1 a xs)/\(∃ys,SqL K H1 b ys)/\R (Itz K a b) H1
theorem xD{X:Cx}{elts:List Expr}{kk:Nat}{tpos:Pos}{a b:Expr}{ta:TA}{p pos:Pos}(hg:Gl X "zip")(hm:X.mg "zip"=none)(ha:PA X [a,b] ta)
  (he:starEach [a,b] X.env=(false,eval a X.env)::starEach [b] X.env:=by rfl)(hpl:(backTo pos (starEach [b] X.env)).any (·.1)=false:=by rfl) :
  PI X (.Tuple elts kk tpos) (.Call (.Name "zip" p) [a,b] [] pos) (Aa X.K ta):=by
 intro pins s σ H R I h
 refine wpAny_Call_Name_kw (jv I hg hm boot_zip (PyProof.Rows.callWith_type1 (thn (ha pos pins s σ H _ I h) λus s1 ⟨vs,H1,I1,r1,q1⟩=>?_) he hpl) (by decide) (by decide))
 obtain ⟨l,m,e,⟨xs,hq⟩,⟨ys,hr⟩,q⟩:=q1
 subst e
 obtain ⟨u,v,rfl,ru,rv⟩:=r1.two
 cases (show u=Value.ref l from ru)
 cases (show v=Value.ref m from rv)
 obtain ⟨i1,_,p1,_⟩:=I1.list hq
 obtain ⟨i2,_,p2,_⟩:=I1.list hr
 have l1:l<s1.heap.objs.size:=let ⟨_,e,_⟩:=p1.isList;Heap.lt_size e
 have l2:m<s1.heap.objs.size:=let ⟨_,e,_⟩:=p2.isList;Heap.lt_size e
 refine call_zip_2 p1.isList p2.isList λh' z1 z2 z3 z4 z5 hz hk=>wpAny_pyIter_zip z1 ?_
 refine ⟨s1.heap.objs.size+4,[s1.heap.objs.size+4,s1.heap.objs.size+2,s1.heap.objs.size+3,s1.heap.objs.size,s1.heap.objs.size+1],_,Itz X.K l m,H1,rfl,I1.kept (t':=s1.toks) hk,rK l m s1.heap.objs.size l1 l2,⟨z1,z2,⟨_,_,z3⟩,z4,z5⟩,λb hb=>?_,q⟩
 have hb':s1.heap.objs.size<=b:=by
  simp only [List.mem_cons,List.not_mem_nil,or_false] at hb
  rcases hb with z | z | z | z | z<;>rw [z]
  ·exact Nat.le_add_right _ _
  ·exact Nat.le_add_right _ _
  ·exact Nat.le_add_right _ _
  ·exact Nat.le_refl _
  ·exact Nat.le_add_right _ _
 exact I1.fpOk hb' (I1.hok.fresh hb')
theorem wn{K:PySem.W.Frag}{a b:Addr}{xs ys:List V}{g:TG}{tb:TS}{D:Ends}{σ:St}{H:Hp}(Pv:Nat->St->Hp->Prop)(hlen:xs.length=ys.length)(h0:Pv 0 σ H)(hl:∀i σ H,i<=xs.length->Pv i σ H->SqL K H a xs/\SqL K H b ys)
  (hs:∀i x y t σ H,xs[i]?=some x->ys[i]?=some y->Pv i σ H->H t=none->g (.ref t) σ (upd H t (.tup [x,y])) fun σ2 H2=>tb {D with nx:=Pv (i+1),ct:=Pv (i+1),bk:=D.nx} σ2 H2)(hd:∀σ H,Pv xs.length σ H->D.nx σ H) :
  ∃W:Nat->Nat->St->Hp->Prop,(∃m,W 0 m σ H)/\∀i m σ H,W i m σ H ->
   ((Itz K a b).stop i H/\D.nx σ H)\/((Itz K a b).go i H/\∃N:St->Hp->Prop,(∀σ' H',N σ' H'->∃m',m'<m/\W (i+1) m' σ' H')/\∀x H',(Itz K a b).yld i H x H'->g x σ H' fun σ2 H2=>tb {D with nx:=N,ct:=N,bk:=D.nx} σ2 H2):=by
 refine ⟨λi m σ H=>m=xs.length-i/\i<=xs.length/\Pv i σ H,⟨xs.length,by simp,Nat.zero_le _,h0⟩,?_⟩
 rintro i m σ H ⟨rfl,hi,p⟩
 obtain ⟨q1,q2⟩:=hl i σ H hi p
 by_cases hlt:i<xs.length
 ·have hlt2:i<ys.length:=by omega
  refine .inr ⟨⟨xs,ys,xs[i],ys[i],q1,q2,by simp [hlt],by simp [hlt2]⟩,Pv (i+1),fun σ' H' p'=>⟨xs.length-(i+1),by omega,rfl,hlt,p'⟩,λx H' y=>?_⟩
  obtain ⟨t,z,z',e1,e2,e3,y⟩:=y
  subst e1 e3
  obtain ⟨y1,y2⟩:=y xs ys q1 q2
  exact hs i z z' t σ _ y1 y2 p e2
 ·have e:i=xs.length:=by omega
  subst e
  exact .inl ⟨⟨xs,ys,q1,q2,Nat.le_refl _⟩,hd σ H p⟩
theorem wo{K:PySem.W.Frag}{H:Hp}{a:Addr}(n:Nat):EqIs K n H (.ref a) (.ref a) true:=λP w A s u v hA hok kin r1 r2=>by
 cases r1
 cases r2
 exact SeqAt.EqAt.same _
theorem eq_int{K:PySem.W.Frag}{H:Hp}(n:Nat)(i:Int):EqIs K n H (.int i) (.int i) true:=by
 have z:=(cInt.eq (K:=K) (H:=H) (x:=i) (y:=i) rfl rfl).mono (Nat.zero_le n)
 rwa [decide_eq_true rfl] at z
theorem eq_str{K:PySem.W.Frag}{H:Hp}(n:Nat)(i:Str):EqIs K n H (.str i) (.str i) true:=by
 have z:=(cStr.eq (K:=K) (H:=H) (x:=i) (y:=i) rfl rfl).mono (Nat.zero_le n)
 rwa [decide_eq_true rfl] at z
theorem lU{K:PySem.W.Frag}{H:Hp}{a b:Addr}{n:Nat}{us vs:List V}(ha:SqT K H a us)(hb:SqT K H b vs)(h:Paired (λx y=>EqIs K n H x y true) us vs):EqIs K (n+1) H (.ref a) (.ref b) true/\rB K (n+1) H (.ref a) (.ref b) true:=by
 obtain ⟨z1,z2⟩:=wG (e:=λ_=>true) ha hb h.len λj x y e1 e2=>by
  obtain ⟨v,ev,rv⟩:=h.get1 e1
  rw [e2] at ev
  cases ev
  exact rv
 have e:((List.range us.length).all λ_=>true)=true:=by simp
 rw [e] at z1 z2
 exact ⟨nt z1 λ_ _ _ _ _ _=>rfl,z2⟩
theorem xL{X:Cx}(n:Nat)(hu:X.A.units+n<cLine):OpR X (compareOp .NotEq) (λx y H Q=>rB X.K n H x y true/\Q (.bl false) H):=by
 intro pins s σ H x y v u Q I rx ry h
 exact h.1 X.prog X.w X.A s v u hu I.hok I.kIn rx ry X.prog X.w X.xe _ ⟨.bl false,H,I,rfl,h.2⟩
end L2
namespace Lo
open PySem L2
structure TxH(K:PySem.W.Frag)(CH:Addr):Prop where
 cl:Cls K CH
 ht:NoAttr K CH "stand"
 hw:NoAttr K CH "rows"
 hs:NoAttr K CH "sent"
 hl:NoAttr K CH "latest"
structure Ah where
 (l dx rw sn:Addr)
def hf(S:Addr)(h:Ah)(v:V):List (Str×V):=ak "latest" v (ak "sent" (.ref h.sn) (ak "rows" (.ref h.rw) (ak "stand" (.ref S) [])))
theorem wZ(S:Addr)(h:Ah)(v:V):(hf S h v).lookup ("latest":Str)=some v:=by
 unfold hf
 rw [aw,if_pos rfl]
theorem wY(S:Addr)(h:Ah)(v:V):(hf S h v).lookup ("sent":Str)=some (.ref h.sn):=by
 unfold hf
 rw [aw,if_neg (by decide +kernel),aw,if_pos rfl]
theorem zC(S:Addr)(h:Ah)(v:V):(hf S h v).lookup ("rows":Str)=some (.ref h.rw):=by
 unfold hf
 rw [aw,if_neg (by decide +kernel),aw,if_neg (by decide +kernel),aw,if_pos rfl]
theorem zB(S:Addr)(h:Ah)(v:V):(hf S h v).lookup ("stand":Str)=some (.ref S):=by
 unfold hf
 rw [aw,if_neg (by decide +kernel),aw,if_neg (by decide +kernel),aw,if_neg (by decide +kernel),aw,if_pos rfl]
theorem kq{S:Addr}{h:Ah}{v:V}{m:Str}(q:decide (m∈(["latest","sent","rows","stand"]:List Str))=false):(hf S h v).lookup m=none:=by
 have h':m∉(["latest","sent","rows","stand"]:List Str):=of_decide_eq_false q
 simp only [List.mem_cons,List.not_mem_nil,or_false,not_or] at h'
 obtain ⟨h1,h2,h3,h4⟩:=h'
 unfold hf
 rw [aw,if_neg h1,aw,if_neg h2,aw,if_neg h3,aw,if_neg h4]
 rfl
abbrev Ws:=Int×Str×Addr×Addr
def WsAt(H:Hp)(x:Ws)(u:V):Prop:=∃t t2,u=.ref t/\H t=some (.tup [.int x.1,.ref t2])/\H t2=some (.tup [.str x.2.1,.ref x.2.2.1,.ref x.2.2.2])
theorem WsAt.keep{H H':Hp}{x:Ws}{u:V}(e:bD H H')(h:WsAt H x u):WsAt H' x u:=by
 obtain ⟨t,t2,rfl,h1,h2⟩:=h
 exact ⟨t,t2,rfl,e _ _ h1,e _ _ h2⟩
def LtAt(K:PySem.W.Frag)(H:Hp)(es:List (Pa×Str))(x:Ws)(u:V):Prop:=∃t t2 nv,u=.ref t/\H t=some (.tup [.int x.1,.ref t2])/\H t2=some (.tup [.str x.2.1,.ref x.2.2.1,.ref x.2.2.2,nv])/\NwAt K H es nv
theorem LtAt.keep{K:PySem.W.Frag}{H H':Hp}{es:List (Pa×Str)}{x:Ws}{u:V}(e:bD H H')(h:LtAt K H es x u):LtAt K H' es x u:=by
 obtain ⟨t,t2,nv,rfl,h1,h2,h3⟩:=h
 exact ⟨t,t2,nv,rfl,e _ _ h1,e _ _ h2,h3.keep e⟩
def Ah.own(h:Ah)(A:Ad):List Addr:=h.l::h.rw::h.sn::A.own
def KpH(A:Ad)(h:Ah)(H H':Hp):Prop:=∀b o,b∉h.own A->H b=some o->H' b=some o
structure ShA(CS CH:Addr)(K:PySem.W.Frag)(H:Hp)(A:Ad)(h:Ah)(d:Sd)(rs:List Addr)(ws:List Ws)(v:V):Prop where
 st:St CS K H A d
 ins:H h.l=some (.ins CH h.dx (hf A.l h v))
 rws:H h.rw=some (.lst (rs.map V.ref))
 snt:∃us,H h.sn=some (.lst us)/\Paired (WsAt H) ws us
 lat:v=.non\/NwAt K H d.ends v
 n1:h.l∉A.own
 n2:h.rw∉A.own
 n3:h.sn∉A.own
 n4:h.rw≠h.sn
 n5:A.l≠h.l
section
variable {CS CH:Addr}{K:PySem.W.Frag}{H H':Hp}{A:Ad}{h:Ah}{d:Sd}{rs:List Addr}{ws:List Ws}{v:V}
theorem ShA.keep(q:ShA CS CH K H A h d rs ws v)(e:Same H H'):ShA CS CH K H' A h d rs ws v:=by
 obtain ⟨us,h1,h2⟩:=q.snt
 exact ⟨q.st.keep e,e _ _ q.ins,e _ _ q.rws,⟨us,e _ _ h1,Paired.mapP h2 λ_ _ z=>z.keep e.ts⟩,q.lat.imp id λz=>z.keep e.ts,q.n1,q.n2,q.n3,q.n4,q.n5⟩
theorem ShA.own(q:ShA CS CH K H A h d rs ws v){b:Addr}(hb:b∈h.own A):∃o,H b=some o/\∀xs,o≠.tup xs:=by
 simp only [Ah.own,List.mem_cons] at hb
 rcases hb with z | z | z | z
 ·subst z;exact ⟨_,q.ins,λxs e=>by cases e⟩
 ·subst z;exact ⟨_,q.rws,λxs e=>by cases e⟩
 ·subst z;obtain ⟨us,e,_⟩:=q.snt;exact ⟨_,e,λxs e=>by cases e⟩
 ·obtain ⟨us,stu⟩:=q.st
  obtain ⟨o,e,n,_⟩:=stu.own z
  exact ⟨o,e,n⟩
theorem ShA.ts(q:ShA CS CH K H A h d rs ws v)(k:KpH A h H H'):bD H H':=λb xs e=>k b _ (λhb=>by
 obtain ⟨o,e1,n⟩:=q.own hb
 rw [e] at e1
 cases e1
 exact n xs rfl) e
end
section
variable (CS CH:Addr)(K:PySem.W.Frag)
def pH:Sp:=λvs H Q _=>∃l dx A d,vs=[.ref l,.ref A.l]/\H l=some (.ins CH dx [])/\St CS K H A d/\A.l≠l/\∀h H',h.l=l->ShA CS CH K H' A h d [] [] .non->H h.rw=none->H h.sn=none->Kp l H H'->Q .non H'
def iR:Sp:=λvs H Q _=>∃A h d rs ws v x,vs=[.ref h.l,.int x.1,.str x.2.1,.ref x.2.2.1,.ref x.2.2.2]/\ShA CS CH K H A h d rs ws v/\ws.length<=900 /\
 ∀H',ShA CS CH K H' A h d rs (ws++[x]) v->KpH A h H H'->Q .non H'
def kX:Sp:=λvs H Q _=>∃A h d rs ws v,vs=[.ref h.l]/\ShA CS CH K H A h d rs ws v/\∀p H',Same H H'->H p=none->H' p=some (.lst (rs.map V.ref))->Q (.ref p) H'
def oq:Sp:=λvs H Q _=>∃A h d rs ws v,vs=[.ref h.l]/\ShA CS CH K H A h d rs ws v/\d.ends.length<64/\ws.length<=900/\∀p us H',Same H H'->H p=none->H' p=some (.lst us)->Paired (LtAt K H' d.ends) ws us->Q (.ref p) H'
end
end Lo
namespace L2
open PySem PySem.Spec PyProof.Rows PySem.W Lo
end L2
namespace HT
open PySem PyProof.Rows
section
open PySem.SeqAt
open PySem.AutoSeq1 (wpAny_loadPart')
open PySem.MeetsSeq PySem.MeetsSeq2 PySem.MeetsSeq3
end
end HT
namespace L2
open PySem PySem.Spec PyProof.Rows PySem.W Lo
end L2
namespace L2
open PySem PySem.Spec PyProof.Rows PySem.W Lo
end L2
namespace L2
open PySem PySem.Spec PyProof.Rows PySem.W Lo
end L2
namespace L2
open PySem PySem.Spec PyProof.Rows PySem.W Lo
end L2
namespace L2
open PySem PySem.Spec PyProof.Rows Lo
end L2
namespace L2
open PySem PySem.Spec PyProof.Rows Lo
section
variable {X:Cx}{k:Nat}{f C:Addr}{fd:FuncData}{ps:List Str}{sp:Sp}{m:Str}{o e:Expr}{es:List Expr}{ta:TE}{t:TA}{pos apos:Pos}
def yL(C:Addr)(m:Str)(sp:Sp)(ta:TE)(t:TA):TX:=fun σ H Q E=>ta σ H λx H1=>∃a dx fs,x=.ref a/\H1 a=some (.ins C dx fs)/\fs.lookup m=none/\t σ H1 λvs H2=>sp (x::vs) H2 Q E
theorem sU{pl:Sem Bool}(ho:PE X.nox o ta)(c:Cls X.K C)(hm:gj X.K C m f)(F:FnOk X.prog X.w X.K X.mg X.base (CXE X.prog X.w) k f fd ps sp)(hr:Room k X.A)(hb:Binds X.K fd ps [])(ha:PA X.nox (e::es) t)
  (hst:starEach (e::es) X.env=(false,eval e X.env)::starEach es X.env:=by rfl)(hpl:(backTo pos (starEach es X.env)).any (·.1)=false:=by rfl)
  (ht:eval (.Call (.Attribute o m apos) (e::es) [] pos) X.env=(do
   let ov ← eval o X.env
   standAt apos.atName
   let (f,first) ← holding [ov] (getMethod ov m pl)
   callWith pos f first (backTo pos (starEach (e::es) X.env)) (backToKw pos (keywordEach [] X.env))):=by rfl) :
  PEX X (.Call (.Attribute o m apos) (e::es) [] pos) (yL C m sp ta t):=by
 intro pins s σ H Q E I h
 refine PySem.W.methodCall_KW (pl:=pl) (nox (ho pins s σ H _ (I.wish _) h) λu s1 ⟨x,H1,I1,rx,a,dx,fs,ex,ea,l,q⟩=>?_) ht
 subst ex
 obtain rfl:u=Value.ref a:=rx
 refine gE I1.unwish ea c hm l ?_
 refine PySem.W.callWith_K (first:=[.ref a]) (h₀:=X.base) I.ok.mod.kin hm.kp (nox (ha pos pins s1 σ H1 _ I1 q) λus s2 ⟨vs,H2,I2,r,q2⟩=>⟨I2.unwish.kIn,?_⟩) hst hpl
 exact vo (us:=.ref a::us) (vs:=.ref a::vs) (dvs:=[]) (ds:=[]) F hr hb .nil I2.unwish (.cons rfl r) (by rw [List.append_nil];exact q2)
end
end L2
namespace L2
open PySem PySem.Spec PyProof.Rows
section
variable {X:Cx}{a b o e:Expr}{tx:TX}{tb to:TE}{pos apos cpos:Pos}{name:Str}{T id:String}{r:V->List V->Hp->VK->Prop}
theorem xH{ι:Type}{t:ι->TX}(h:∀i,PEX X e (t i)):PEX X e (fun σ H Q E=>∃i,t i σ H Q E):=λpins s σ H Q E I ⟨i,q⟩=>h i pins s σ H Q E I q
theorem xG{r:R2}(hr:IxR X.nox r)(ha:PEX X a tx)(hb:PE X.nox b tb)(hs:qb b):PEX X (.Subscript a b pos) (fun σ H Q E=>tx σ H (λx H1=>tb σ H1 λy H2=>r x y H2 Q) E):=by
 intro pins s σ H Q E I h
 exact Subscript_ (wpAny_mono (ha pins s σ H _ _ I h) (λv s1 ⟨x,H1,I1,r1,q1⟩=>nox (hb pins s1 σ H1 _ (I1.wish _) q1) λu s2 ⟨y,H2,I2,r2,q2⟩=>nox (hr a b pins s2 σ H2 x y v u _ I2 r1 r2 q2 (hs _ _)) λw s3 ⟨z,H3,I3,r3,q3⟩=>⟨z,H3,I3.unwish,r3,q3⟩) λ_ _ z=>z)
theorem xI(pa:PlainAttrs T)(slot:Slot T name id)(hty:typeOf (.builtin id)=pure (.type "method_descriptor"))(hm:MtR X.nox id r)(ho:PE X.nox o to)(he:PEX X e tx)
  (hbase:attributeBase o name X.env (eval o X.env)=eval o X.env:=by rfl)
  (hfew:((backTo cpos (starEach [e] X.env)).all (λx=>!x.1)&&(backToKw cpos (keywordEach [] X.env)).all (λx=>x.1.isSome)
   && decide (([e]:List Expr).length+([]:List Keyword).length+(if ([]:List Keyword).isEmpty then 0 else 1)<30))=true:=by rfl)
  (hline:(apos.endLine==cpos.line)=true:=by rfl) (hs:starEach [e] X.env=(false,eval e X.env)::starEach [] X.env:=by rfl) (hplain:(backTo cpos (starEach [] X.env)).any (·.1)=false:=by rfl) :
  PEX X (.Call (.Attribute o name apos) [e] [] cpos) (fun σ H Q E=>to σ H λx H1=>tyV X.K T x H1/\tx σ H1 (λv H2=>r x [v] H2 Q) E):=by
 intro pins s σ H Q E I h
 refine wpAny_Call_method_late hbase hfew hline rfl (nox (ho pins s σ H _ (I.wish _) h) λv s1 ⟨x,H1,I1,r1,ty,q1⟩=>?_)
 obtain ⟨h1,h2⟩:=nX I1 r1 ty
 refine ⟨T,id,pa,slot,hty,h1,h2,?_⟩
 rw [hs]
 refine Calls.callWith_builtin (by show (false||(backTo cpos (starEach [] X.env)).any (·.1))=false;rw [hplain]<;>rfl) (Calls.evalArgs_plain ?_)
 show wpAny _ _ (spliced ((false,eval e X.env)::backTo cpos (starEach [] X.env))) _ _ _
 refine Calls.spliced_cons (wpAny_mono (he pins s1 σ H1 _ _ I1.unwish q1) (λu s2 ⟨y,H2,I2,r2,q2⟩=>?_) λ_ _ z=>z)
 refine nox ((ac (X:=X.nox)) cpos pins s2 σ H2 (λxs H3=>xs=[]/\H3=H2) (I2.wish _) ⟨rfl,rfl⟩) λus s3 ⟨xs,H3,I3,r3,e1,e2⟩=>?_
 subst e1 e2
 cases r3
 exact nox (hm pins s3 σ _ x [y] v [u] _ I3 r1 (.cons r2 .nil) q2) λw s4 ⟨z,H4,I4,r4,q4⟩=>⟨z,H4,I4.unwish,r4,q4⟩
end
section
variable {X:Cx}{e:Expr}{t:TX}{C CB:Addr}{cx:Str}{np hpos pos apos:Pos}{b₀:Stmt}{suite:List Stmt}{th:TS}
theorem oI(hst:X.stack=X.env::X.outer)(fr:X.env.frame=some X.env.locals)(hex:X.ex=[])(he:PEX X e t)(hg:Gl X cx)(hm:X.mg cx=some (.ref CB))(tk:nQ X C CB)
  (hs:∀ev,PSs (X.hnd ev) (b₀::suite) th)(hd:(cx==("__debug__":Str))=false:=by decide)(hsw:swapsWith e none apos.line X.env=pure false:=by rfl) :
  PS X (.Try [.Expr e apos] [.ExceptHandler (some (.Name cx np)) none (b₀::suite) hpos] [] [] pos) (rN C t th):=by
 intro pins s σ H D I h
 refine wpAny_Try_except (wpAny_execs_cons (wpAny_mono (wpAny_Expr_any (Q:=λf s1=>f=.next/\SP X pins D .next s1) (wpAny_mono (he pins s σ H _ _ I h) (λv s1 ⟨y1,H1,I1,r1,q1⟩=>⟨rfl,σ,H1,I1,q1⟩) λev s1 hx=>?_) I.quiet hsw) (λf s1 hq=>?_) λ_ _ z=>z))
 ·obtain ⟨s0,H0,ea,C',H',I0,rfl,I',fl,ea2,e2,rfl',q⟩:=hx
  cases e2
  obtain rfl:C'=C:=Option.some.inj rfl'
  exact wV I0 I' hst fr hex fl hg hm tk hs q hd
 ·obtain ⟨rfl,hq⟩:=hq
  exact wpAny_execs_nil (wpAny_execs_nil hq)
end
end L2
namespace K41
open PySem L2 Lo
def top(i:Nat):Stmt:=PySem.Challenge.pw_pactroom_k41_steps_one_by_one.main.body.getD i (.Pass ⟨0,0,0,0⟩)
abbrev jf:Stmt:=top 15
abbrev pK:Stmt:=top 16
abbrev gJ:Stmt:=top 17
abbrev j8:Stmt:=top 18
abbrev gm:Stmt:=inClass (top 19) 0
abbrev eV:Stmt:=inClass (top 19) 1
abbrev dJ:Stmt:=inClass (top 19) 2
abbrev c8:Stmt:=inClass (top 19) 4
abbrev cQ:Stmt:=inClass (top 19) 5
abbrev cZ:Stmt:=inClass (top 19) 6
abbrev eM:Stmt:=inClass (top 23) 0
abbrev cY:Stmt:=inClass (top 24) 0
abbrev cD:Stmt:=inClass (top 24) 1
abbrev fD:Stmt:=inClass (top 25) 1
abbrev cb:Stmt:=inClass (top 25) 2
abbrev fF:Stmt:=inClass (top 26) 1
abbrev ci:Stmt:=inClass (top 26) 2
abbrev dt:Stmt:=inClass (top 27) 0
abbrev cT:Stmt:=inClass (top 27) 1
abbrev gg:Stmt:=inClass (top 27) 3
abbrev cr:Stmt:=inClass (top 27) 4
abbrev fK:Stmt:=inClass (top 28) 1
abbrev cj:Stmt:=inClass (top 28) 3
abbrev dv:Stmt:=inClass (top 29) 0
abbrev gh:Stmt:=inClass (top 29) 2
abbrev cw:Stmt:=inClass (top 29) 4
abbrev cU:Stmt:=inClass (top 30) 0
abbrev bK:Stmt:=inClass (top 30) 1
abbrev ce:Stmt:=inClass (top 30) 2
abbrev cV:Stmt:=inClass (top 31) 0
abbrev bL:Stmt:=inClass (top 31) 1
abbrev cg:Stmt:=inClass (top 31) 2
abbrev gI:Stmt:=top 32
abbrev cK:Stmt:=top 33
abbrev dL:Stmt:=top 34
abbrev fj:Stmt:=top 35
abbrev gx:Stmt:=top 36
abbrev fE:Stmt:=inClass (top 40) 0
abbrev cL:Stmt:=top 41
abbrev fi:Stmt:=top 42
abbrev cN:Stmt:=top 43
abbrev fJ:Stmt:=inClass (top 46) 0
abbrev im:Stmt:=inClass (top 46) 1
abbrev fH:Stmt:=inClass (top 46) 2
abbrev dU:Stmt:=inClass (top 46) 8
abbrev bF:Stmt:=inClass (top 46) 9
abbrev cv:Stmt:=inClass (top 46) 10
abbrev bR:Stmt:=inClass (top 46) 11
abbrev cB:Stmt:=inClass (top 46) 12
abbrev cC:Stmt:=inClass (top 46) 13
abbrev cW:Stmt:=inClass (top 47) 0
abbrev bT:Stmt:=inClass (top 47) 1
abbrev cX:Stmt:=inClass (top 47) 2
abbrev bh:Stmt:=inClass (top 47) 3
abbrev aR:Stmt:=inClass (top 47) 4
abbrev oB:Stmt:=top 48
abbrev eR:Stmt:=inClass (top 50) 0
abbrev eQ:Stmt:=inClass (top 50) 2
abbrev cu:Stmt:=inClass (top 50) 3
abbrev aQ:Stmt:=inClass (top 50) 4
abbrev eP:Stmt:=inClass (top 52) 0
abbrev eO:Stmt:=inClass (top 52) 6
abbrev dj:Stmt:=top 54
abbrev dM:Stmt:=top 55
abbrev fm:Stmt:=top 56
abbrev fq:Stmt:=top 57
abbrev eC:Stmt:=top 58
abbrev fo:Stmt:=top 59
abbrev gy:Stmt:=top 60
abbrev eE:Stmt:=top 61
abbrev di:Stmt:=top 62
abbrev bV:Stmt:=top 63
abbrev cO:Stmt:=top 64
abbrev my:Stmt:=top 65
theorem jN:al ["self"] ["self"] (defScope eM):=⟨rfl,rfl,rfl,by decide +kernel,rfl,by decide +kernel,by decide +kernel⟩
theorem hX:al ["self","where","cell"] ["self","where","cell"] (defScope cY):=⟨rfl,rfl,rfl,by decide +kernel,rfl,by decide +kernel,by decide +kernel⟩
theorem gH:al ["self"] ["self"] (defScope cD):=⟨rfl,rfl,rfl,by decide +kernel,rfl,by decide +kernel,by decide +kernel⟩
theorem f8:al ["self"] ["self"] (defScope cb):=⟨rfl,rfl,rfl,by decide +kernel,rfl,by decide +kernel,by decide +kernel⟩
theorem gc:al ["self"] ["self"] (defScope ci):=⟨rfl,rfl,rfl,by decide +kernel,rfl,by decide +kernel,by decide +kernel⟩
theorem iJ:al ["self","where","low","high"] ["self","where","low","high"] (defScope dt):=⟨rfl,rfl,rfl,by decide +kernel,rfl,by decide +kernel,by decide +kernel⟩
theorem g8:al ["self"] ["self"] (defScope cT):=⟨rfl,rfl,rfl,by decide +kernel,rfl,by decide +kernel,by decide +kernel⟩
theorem gr:al ["self"] ["self"] (defScope cr):=⟨rfl,rfl,rfl,by decide +kernel,rfl,by decide +kernel,by decide +kernel⟩
theorem gf:al ["self"] ["self"] (defScope cj):=⟨rfl,rfl,rfl,by decide +kernel,rfl,by decide +kernel,by decide +kernel⟩
theorem iK:al ["self","where","cell","amount"] ["self","where","cell","amount"] (defScope dv):=⟨rfl,rfl,rfl,by decide +kernel,rfl,by decide +kernel,by decide +kernel⟩
theorem gw:al ["self"] ["self"] (defScope cw):=⟨rfl,rfl,rfl,by decide +kernel,rfl,by decide +kernel,by decide +kernel⟩
theorem g9:al ["self","amount"] ["self","amount"] (defScope cU):=⟨rfl,rfl,rfl,by decide +kernel,rfl,by decide +kernel,by decide +kernel⟩
theorem eX:al ["self","hand","value_of"] ["self","hand","value_of"] (defScope bK):=⟨rfl,rfl,rfl,by decide +kernel,rfl,by decide +kernel,by decide +kernel⟩
theorem f9:al ["self"] ["self"] (defScope ce):=⟨rfl,rfl,rfl,by decide +kernel,rfl,by decide +kernel,by decide +kernel⟩
theorem hU:al ["self","amount"] ["self","amount"] (defScope cV):=⟨rfl,rfl,rfl,by decide +kernel,rfl,by decide +kernel,by decide +kernel⟩
theorem fb:al ["self","hand","value_of"] ["self","hand","value_of"] (defScope bL):=⟨rfl,rfl,rfl,by decide +kernel,rfl,by decide +kernel,by decide +kernel⟩
theorem gb:al ["self"] ["self"] (defScope cg):=⟨rfl,rfl,rfl,by decide +kernel,rfl,by decide +kernel,by decide +kernel⟩
theorem sC:al ["word","numbers"] ["word","numbers"] (defScope gI):=⟨rfl,rfl,rfl,by decide +kernel,rfl,by decide +kernel,by decide +kernel⟩
def o8:Scope:=match defBody gI with
 | .Return (some (.Call _ [(.BinOp _ _ (.ListComp _ _ sc _) _)] _ _)) _::_=>sc
 | _=>default
theorem oA:bE ["word","numbers"] (defScope gI) o8 "number" ["number"] []:=⟨by decide +kernel,rfl,by decide +kernel,rfl,by decide +kernel,by decide +kernel,rfl,rfl,λj h=>absurd h (Nat.not_lt_zero j)⟩
theorem sc_read_step:al ["text","words","shape"] ["text"] (defScope cK):=⟨rfl,rfl,rfl,by decide +kernel,rfl,by decide +kernel,by decide +kernel⟩
def jG:Scope:=match defBody cK with
 | _::_::_::.Return (some (.Call _ [_,.ListComp _ _ sc _] _ _)) _::_=>sc
 | _=>default
theorem jb:bE ["text","words","shape"] (defScope cK) jG "k" ["k","words","shape"] [1,2]:=⟨by decide +kernel,rfl,by decide +kernel,rfl,by decide +kernel,by decide +kernel,rfl,rfl,by decide +kernel⟩
theorem sc_read_number:al ["word","letter","number"] ["word","letter"] (defScope dL):=⟨rfl,rfl,rfl,by decide +kernel,rfl,by decide +kernel,by decide +kernel⟩
theorem lm:al ["word","numbers"] ["word","numbers"] (defScope fj):=⟨rfl,rfl,rfl,by decide +kernel,rfl,by decide +kernel,by decide +kernel⟩
theorem mx:al ["where","low","high"] ["where","low","high"] (defScope gx):=⟨rfl,rfl,rfl,by decide +kernel,rfl,by decide +kernel,by decide +kernel⟩
theorem lu:al ["self","manner","steps"] ["self","manner","steps"] (defScope fE):=⟨rfl,rfl,rfl,by decide +kernel,rfl,by decide +kernel,by decide +kernel⟩
theorem sc_read_pact:al ["text","pieces","texts"] ["text"] (defScope cL):=⟨rfl,rfl,rfl,by decide +kernel,rfl,by decide +kernel,by decide +kernel⟩
def jH:Scope:=match defBody cL with
 | _::_::_::_::.Return (some (.Call _ [_,.ListComp _ _ sc _] _ _)) _::_=>sc
 | _=>default
theorem jc:bE ["text","pieces","texts"] (defScope cL) jH "k" ["k","texts"] [2]:=⟨by decide +kernel,rfl,by decide +kernel,rfl,by decide +kernel,by decide +kernel,rfl,rfl,by decide +kernel⟩
theorem lj:al ["text","number"] ["text","number"] (defScope fi):=⟨rfl,rfl,rfl,by decide +kernel,rfl,by decide +kernel,by decide +kernel⟩
theorem lp:al ["pact"] ["pact"] (defScope cN):=⟨rfl,rfl,rfl,by decide +kernel,rfl,by decide +kernel,by decide +kernel⟩
def jI:Scope:=match defBody cN with
 | .Return (some (.Call _ [(.Call _ [(.Call _ [.ListComp _ _ sc _] _ _)] _ _)] _ _)) _::_=>sc
 | _=>default
theorem jd:bE ["pact"] (defScope cN) jI "step" ["step"] []:=⟨by decide +kernel,rfl,by decide +kernel,rfl,by decide +kernel,by decide +kernel,rfl,rfl,λj h=>absurd h (Nat.not_lt_zero j)⟩
theorem lB:al ["self","name","pact"] ["self","name","pact"] (defScope fJ):=⟨rfl,rfl,rfl,by decide +kernel,rfl,by decide +kernel,by decide +kernel⟩
theorem oz:al ["self","sheet"] ["self","sheet"] (defScope im):=⟨rfl,rfl,rfl,by decide +kernel,rfl,by decide +kernel,by decide +kernel⟩
theorem lA:al ["self","sheet"] ["self","sheet"] (defScope fH):=⟨rfl,rfl,rfl,by decide +kernel,rfl,by decide +kernel,by decide +kernel⟩
theorem ja:al ["self","outcome"] ["self","outcome"] (defScope dU):=⟨rfl,rfl,rfl,by decide +kernel,rfl,by decide +kernel,by decide +kernel⟩
theorem sc_Lead_own_steps_done:al ["self","step"] ["self"] (defScope bF):=⟨rfl,rfl,rfl,by decide +kernel,rfl,by decide +kernel,by decide +kernel⟩
theorem gu:al ["self"] ["self"] (defScope cv):=⟨rfl,rfl,rfl,by decide +kernel,rfl,by decide +kernel,by decide +kernel⟩
theorem fg:al ["self"] ["self"] (defScope bR):=⟨rfl,rfl,rfl,by decide +kernel,rfl,by decide +kernel,by decide +kernel⟩
theorem sc_Lead_send_step:al ["self","sheet","word","number","text"] ["self","sheet","word"] (defScope cB):=⟨rfl,rfl,rfl,by decide +kernel,rfl,by decide +kernel,by decide +kernel⟩
theorem gG:al ["self","more"] ["self","more"] (defScope cC):=⟨rfl,rfl,rfl,by decide +kernel,rfl,by decide +kernel,by decide +kernel⟩
theorem hV:al ["self","name","pact"] ["self","name","pact"] (defScope cW):=⟨rfl,rfl,rfl,by decide +kernel,rfl,by decide +kernel,by decide +kernel⟩
theorem sc_HeldLead_go_ahead:al ["self","sheet","house"] ["self","sheet"] (defScope bT):=⟨rfl,rfl,rfl,by decide +kernel,rfl,by decide +kernel,by decide +kernel⟩
theorem hW:al ["self","sheet","word","sender","more"] ["self","sheet","word","sender","more"] (defScope cX):=⟨rfl,rfl,rfl,by decide +kernel,rfl,by decide +kernel,by decide +kernel⟩
theorem gv:al ["self"] ["self"] (defScope bh):=⟨rfl,rfl,rfl,by decide +kernel,rfl,by decide +kernel,by decide +kernel⟩
def fQ:Scope:=match defBody bh with
 | .Return (some (.ListComp _ _ sc _)) _::_=>sc
 | _=>default
theorem fh:bE ["self"] (defScope bh) fQ "house" ["house","self"] [0]:=⟨by decide +kernel,rfl,by decide +kernel,rfl,by decide +kernel,by decide +kernel,rfl,rfl,by decide +kernel⟩
theorem cJ:al ["self"] ["self"] (defScope aR):=⟨rfl,rfl,rfl,by decide +kernel,rfl,by decide +kernel,by decide +kernel⟩
theorem jR:al ["self","stand"] ["self","stand"] (defScope eR):=⟨rfl,rfl,rfl,by decide +kernel,rfl,by decide +kernel,by decide +kernel⟩
theorem jQ:al ["self","to","word","p","more"] ["self","to","word","p","more"] (defScope eQ):=⟨rfl,rfl,rfl,by decide +kernel,rfl,by decide +kernel,by decide +kernel⟩
theorem gs:al ["self"] ["self"] (defScope cu):=⟨rfl,rfl,rfl,by decide +kernel,rfl,by decide +kernel,by decide +kernel⟩
theorem sc_Sheet_letters_told:al ["self","news"] ["self"] (defScope aQ):=⟨rfl,rfl,rfl,by decide +kernel,rfl,by decide +kernel,by decide +kernel⟩
def eB:Scope:=match defBody aQ with
 | _::.Return (some (.ListComp _ _ sc _)) _::_=>sc
 | _=>default
theorem dY:bE ["self","news"] (defScope aQ) eB "pair" ["pair","news"] [1]:=⟨by decide +kernel,rfl,by decide +kernel,rfl,by decide +kernel,by decide +kernel,rfl,rfl,by decide +kernel⟩
theorem jP:al ["self","cells"] ["self","cells"] (defScope eP):=⟨rfl,rfl,rfl,by decide +kernel,rfl,by decide +kernel,by decide +kernel⟩
theorem jO:al ["self"] ["self"] (defScope eO):=⟨rfl,rfl,rfl,by decide +kernel,rfl,by decide +kernel,by decide +kernel⟩
theorem iI:al ["_law_script","_law_k"] ["_law_script","_law_k"] (defScope dj):=⟨rfl,rfl,rfl,by decide +kernel,rfl,by decide +kernel,by decide +kernel⟩
theorem i9:al ["_law_number"] ["_law_number"] (defScope dM):=⟨rfl,rfl,rfl,by decide +kernel,rfl,by decide +kernel,by decide +kernel⟩
theorem sc__law_step:al ["_law_number","_law_house","_law_cell","_law_high","_law_amount_here","_law_way","_law_head","_law_text"] ["_law_number"] (defScope fm):=⟨rfl,rfl,rfl,by decide +kernel,rfl,by decide +kernel,by decide +kernel⟩
theorem lq:al ["_law_hands"] ["_law_hands"] (defScope fq):=⟨rfl,rfl,rfl,by decide +kernel,rfl,by decide +kernel,by decide +kernel⟩
theorem sc__law_plain:al ["_law_steps","_law_hands","_law_word","_law_house","_law_text","_law_amount_here"] ["_law_steps","_law_hands"] (defScope eC):=⟨rfl,rfl,rfl,by decide +kernel,rfl,by decide +kernel,by decide +kernel⟩
theorem sc__law_same:al ["_law_found","_law_due_here","_law_one","_law_letter","_law_number"] ["_law_found","_law_due_here"] (defScope fo):=⟨rfl,rfl,rfl,by decide +kernel,rfl,by decide +kernel,by decide +kernel⟩
theorem sc__law_due:al ["_law_name","_law_steps","_law_hands","_law_word","_law_house","_law_text","_law_amount_here"] ["_law_name","_law_steps","_law_hands"] (defScope gy):=⟨rfl,rfl,rfl,by decide +kernel,rfl,by decide +kernel,by decide +kernel⟩
theorem sc__law_other:al ["_law_number","_law_at","_law_other_here"] ["_law_number","_law_at"] (defScope eE):=⟨rfl,rfl,rfl,by decide +kernel,rfl,by decide +kernel,by decide +kernel⟩
theorem iH:al ["_law_number","_law_at"] ["_law_number","_law_at"] (defScope di):=⟨rfl,rfl,rfl,by decide +kernel,rfl,by decide +kernel,by decide +kernel⟩
theorem i8:al ["_law_steps"] ["_law_steps"] (defScope bV):=⟨rfl,rfl,rfl,by decide +kernel,rfl,by decide +kernel,by decide +kernel⟩
def iw:Scope:=match defBody bV with
 | .Return (some (.Compare (.ListComp _ _ sc _) _ _ _)) _::_=>sc
 | _=>default
theorem hZ:bE ["_law_steps"] (defScope bV) iw "_law_step_here" ["_law_step_here"] []:=⟨by decide +kernel,rfl,by decide +kernel,rfl,by decide +kernel,by decide +kernel,rfl,rfl,λj h=>absurd h (Nat.not_lt_zero j)⟩
theorem sc__law_made:al ["_law_script","_law_name","_law_many"] ["_law_script"] (defScope cO):=⟨rfl,rfl,rfl,by decide +kernel,rfl,by decide +kernel,by decide +kernel⟩
def jJ:Scope:=match defBody cO with
 | _::_::.Return (some (.Tuple [_,.ListComp _ _ sc _] _ _)) _::_=>sc
 | _=>default
theorem je:bE ["_law_script","_law_name","_law_many"] (defScope cO) jJ "_law_k" ["_law_k","_law_script"] [0]:=⟨by decide +kernel,rfl,by decide +kernel,rfl,by decide +kernel,by decide +kernel,rfl,rfl,by decide +kernel⟩
theorem sc_law:al ["_law_script","_law_name","_law_steps","_law_lead","_law_sheet","_law_hands","_law_turns","_law_sent","_law_fate","_law_moved","_law_number","_law_due_here","_law_way","_law_hand","_law_word","_law_other_here"] ["_law_script"] (defScope my):=⟨rfl,rfl,rfl,by decide +kernel,rfl,by decide +kernel,by decide +kernel⟩
def uH:Scope:=match defBody my with
 | _::.Assign _ (.Call _ [_,(.Call _ [(.BinOp _ _ (.Call _ [.ListComp _ _ sc _] _ _) _)] _ _)] _ _) _::_=>sc
 | _=>default
theorem sD:bE ["_law_script","_law_name","_law_steps","_law_lead","_law_sheet","_law_hands","_law_turns","_law_sent","_law_fate","_law_moved","_law_number","_law_due_here","_law_way","_law_hand","_law_word","_law_other_here"] (defScope my) uH "_law_step_here" ["_law_step_here"] []:=⟨by decide +kernel,rfl,by decide +kernel,rfl,by decide +kernel,by decide +kernel,rfl,rfl,λj h=>absurd h (Nat.not_lt_zero j)⟩
end K41
namespace K41T
open PySem L2 Km PySem.NumText
abbrev sE:Stmt:=K41.jf
abbrev sG:Stmt:=K41.pK
abbrev pL:Stmt:=K41.gJ
abbrev wK:Stmt:=K41.j8
abbrev wM:Stmt:=K41.gm
abbrev wL:Stmt:=K41.eV
abbrev zj:Stmt:=K41.dJ
abbrev sI:Stmt:=K41.c8
abbrev zi:Stmt:=K41.cQ
abbrev sF:Stmt:=K41.cZ
theorem tp:¬(("text":Str)="place"):=by decide +kernel
def rf(z:Str)(k:Int):List (Str×V):=ak "place" (.int k) (ak "text" (.str z) [])
theorem sL(z:Str)(k:Int):rf z k=([("text",V.str z),("place",V.int k)]:List (Str×V)):=by
 show (if ("text":Str)="place" then [(("text":Str),V.int k)] else (("text":Str),V.str z)::ak "place" (V.int k) [])=([("text",V.str z),("place",V.int k)]:List (Str×V))
 rw [if_neg tp]
 all_goals rfl
theorem fY(z:Str)(k:Int):(rf z k).lookup ("text":Str)=some (.str z):=by
 unfold rf
 rw [aw,if_neg tp,aw,if_pos rfl]
theorem bX(z:Str)(k:Int):(rf z k).lookup ("place":Str)=some (.int k):=by
 unfold rf
 rw [aw,if_pos rfl]
theorem ka(z:Str)(k:Int){m:Str}(h1:¬m="place")(h2:¬m="text"):(rf z k).lookup m=none:=by
 unfold rf
 rw [aw,if_neg h1,aw,if_neg h2]
 all_goals rfl
theorem oF(z:Str)(k j:Int):ak "place" (.int j) (rf z k)=rf z j:=by
 rw [sL,sL]
 show (if ("text":Str)="place" then _ else (("text":Str),V.str z)::(if ("place":Str)="place" then [(("place":Str),V.int j)] else _))=([("text",V.str z),("place",V.int j)]:List (Str×V))
 rw [if_neg tp,if_pos rfl]
theorem oG(z:Str)(k:Int):(rf z k).length=2:=by rw [sL];rfl
structure Tx(K:PySem.W.Frag)(mg:Str->Option Value)(C:Addr):Prop where
 cl:Cls K C
 nT:NoAttr K C "text"
 nP:NoAttr K C "place"
 mgC:mg "Reader"=some (.ref C)
 isi:mg "isinstance"=none
 int:mg "int"=none
 bool:mg "bool"=none
 str:mg "str"=none
 len:mg "len"=none
 ord:mg "ord"=none
 all:mg "all"=none
 range:mg "range"=none
 cFig:∃t,mg "MOST_FIGURES_things"=some (.int 400 t)
 cSig:∃t,mg "MOST_SIGNS"=some (.int 2000 t)
 cDeep:∃t,mg "MOST_DEEP"=some (.int 8 t)
 cLong:∃t,mg "LONGEST"=some (.int 100000 t)
 cBl:∃t,mg "BLANK"=some (.int 32 t)
 cPc:∃t,mg "PERCENT"=some (.int 37 t)
 cTi:∃t,mg "TILDE"=some (.int 126 t)
theorem lT{X:Cx}{x:Str}{i:Int}{pos:Pos}(hm:∃t,X.mg x=some (.int i t))(hg:Gl X x)(hd:(x==("__debug__":Str))=false:=by decide):PE X (.Name x pos) (tC (.int i)):=by
 obtain ⟨t,e⟩:=hm
 exact db hg e ⟨t,rfl⟩ hd
section
variable {K:PySem.W.Frag}
theorem oT:PySem.W.kitOne K (.type "int") (.type "int")=some true:=rfl
theorem yn:PySem.W.kitOne K (.type "str") (.type "str")=some true:=rfl
theorem yt:PySem.W.kitOne K (.type "bool") (.type "bool")=some true:=rfl
theorem oU:PySem.W.kitOne K (.type "int") (.type "bool")=some false:=by kernel_rfl
theorem yo:PySem.W.kitOne K (.type "str") (.type "int")=some false:=by kernel_rfl
theorem yr:PySem.W.kitOne K (.type "bool") (.type "int")=some true:=by kernel_rfl
theorem yp:PySem.W.kitOne K (.type "NoneType") (.type "int")=some false:=by kernel_rfl
theorem ym:PySem.W.kitOne K (.type "tuple") (.type "int")=some false:=by kernel_rfl
end
section
variable {P:Program}{w:World}{K:PySem.W.Frag}{mg:Str->Option Value}{base:Heap}{f C:Addr}{fd:FuncData}
def xc(H:Hp):V->Option Bool
 | .int _=>some true
 | .str _=>some false
 | .bl _=>some false
 | .non=>some false
 | .ref a=>match H a with
  | some (.tup _)=>some false
  | _=>none
 | _=>none
def iQ:Sp:=λvs H Q _=>∃x b,vs=[x]/\xc H x=some b/\Q (.bl b) H
theorem vh:al ["thing"] ["thing"] (defScope sE):=⟨rfl,rfl,rfl,by decide +kernel,rfl,by decide +kernel,by decide +kernel⟩
theorem tj(F:Fun K "is_whole" "is_whole" sE f fd)(T:Tx K mg C):FnOk P w K mg base CX0 1 f fd ["thing"] iQ:=by
 refine F.ok vh (λvs H Q E h=>?_) (λcdv A outer s H vs Q E hr h=>?_)
 ·obtain ⟨x,b,rfl,_⟩:=h
  rfl
 obtain ⟨x,b,rfl,hb,q⟩:=h
 refine ⟨_,af (ao (jm (au bx rfl T.isi PyProof.Rows.boot_isinstance (aa (pv 0) (aa (dH (v:=.ty "int") rfl T.int PyProof.Rows.boot_int rfl) ac)))
  (jj (xJ (au bx rfl T.isi PyProof.Rows.boot_isinstance (aa (pv 0) (aa (dH (v:=.ty "bool") rfl T.bool PyProof.Rows.boot_bool rfl) ac))))))),?_⟩
 cases x with
 | int i =>
  cases (Option.some.inj hb)
  refine ⟨_,rfl,_,_,_,_,rfl,TyOf.int i,oT,_,rfl,bU ?_⟩
  exact ⟨_,rfl,_,_,_,_,rfl,TyOf.int i,oU,_,rfl,q⟩
 | str z =>
  cases (Option.some.inj hb)
  exact ⟨_,rfl,_,_,_,_,rfl,TyOf.str z,yo,_,rfl,aI q⟩
 | bl c =>
  cases (Option.some.inj hb)
  refine ⟨_,rfl,_,_,_,_,rfl,TyOf.bl c,yr,_,rfl,bU ?_⟩
  exact ⟨_,rfl,_,_,_,_,rfl,TyOf.bl c,yt,_,rfl,q⟩
 | non =>
  cases (Option.some.inj hb)
  exact ⟨_,rfl,_,_,_,_,rfl,TyOf.non,yp,_,rfl,aI q⟩
 | ref a =>
  have hb':(match H a with | some (.tup _)=>some false | _=>none)=some b:=hb
  cases e:H a with
  | none=>rw [e] at hb';cases hb'
  | some o =>
   rw [e] at hb'
   cases o with
   | tup xs =>
    cases (Option.some.inj hb')
    exact ⟨_,rfl,_,_,_,_,rfl,TyOf.tup e,ym,_,rfl,aI q⟩
   | _=>cases hb'
 | _=>cases hb
def shS(z:Str):Str:=Str.ofString (toString ((z.length:Nat):Int))++Str.ofString ":"++z
def kO:Sp:=λvs H Q _=>(∃i,vs=[.int i]/\i.natAbs.log2<1920/\Q (.str (Str.ofString (toString i))) H)\/(∃z,vs=[.str z]/\z.length<=100000/\Q (.str (shS z)) H)
theorem vj:al ["thing"] ["thing"] (defScope sG):=⟨rfl,rfl,rfl,by decide +kernel,rfl,by decide +kernel,by decide +kernel⟩
theorem v9{n:Nat}(h:n<=100000):(Str.ofString (toString ((n:Nat):Int))).length<=20:=by
 have e:(Str.ofString (toString ((n:Nat):Int))).cps.toList.length<=6:=by
  rw [iO]
  unfold bJ
  rw [if_neg (by omega)]
  exact gS (by decide) (by omega)
 have e2:(Str.ofString (toString ((n:Nat):Int))).length=(Str.ofString (toString ((n:Nat):Int))).cps.toList.length:=by simp [Str.length]
 omega
theorem zE{x y:Str}:(x++y).length=x.length+y.length:=by
 show (x.cps++y.cps).size=_
 rw [Array.size_append]
 rfl
theorem fL:1000000<=sizeLine:=by decide
theorem tE{fW:Addr}{dW:FuncData}(F:Fun K "shown" "shown" sG f fd)(T:Tx K mg C)(GW:FnOk P w K mg base CX0 1 fW dW ["thing"] iQ)(bW:Binds K dW ["thing"] [])(kW:PySem.W.keepIn K (.ref fW)=true)(mW:mg "is_whole"=some (.ref fW)) :
  FnOk P w K mg base CX0 2 f fd ["thing"] kO:=by
 refine F.ok vj (λvs H Q E h=>?_) (λcdv A outer s H vs Q E hr h=>?_)
 ·rcases h with ⟨i,rfl,_⟩ | ⟨z,rfl,_⟩<;>rfl
 refine ⟨_,ad (aF (bq (lJ GW hr rfl mW kW bW .nil br (aa (pv 0) ac))) (af (ao (aO bj rfl T.str PyProof.Rows.boot_str (aa (pv 0) ac)))) az)
  (ad (aF (bq (au bx rfl T.isi PyProof.Rows.boot_isinstance (aa (pv 0) (aa (dH (v:=.ty "str") rfl T.str PyProof.Rows.boot_str rfl) ac))))
   (af (ao (aD aP (aD aP (aO bj rfl T.str PyProof.Rows.boot_str (aa (au aW rfl T.len PySem.boot_len (aa (pv 0) ac)) ac)) aB) (pv 0)))) az)
  aE),?_⟩
 rcases h with ⟨i,rfl,hl,q⟩ | ⟨z,rfl,hl,q⟩
 ·exact ⟨_,rfl,_,_,rfl,rfl,_,rfl,bU ⟨_,rfl,_,rfl,hl,q⟩⟩
 ·refine ⟨_,rfl,_,_,rfl,rfl,_,rfl,aI ?_⟩
  refine ⟨_,rfl,_,_,_,_,rfl,TyOf.str z,yn,_,rfl,bU ?_⟩
  have h1:=v9 hl
  have h0:=fL
  refine ⟨_,rfl,_,rfl,by omega,_,rfl,?_,_,_,rfl,rfl,?_,_,rfl,_,_,rfl,rfl,?_,q⟩
  ·exact yh (by
    exact Nat.lt_of_le_of_lt hl (by decide +kernel))
  ·have:(Str.ofString ":").length=1:=rfl
   omega
  ·have:(Str.ofString ":").length=1:=rfl
   have e:(Str.ofString (toString ((z.length:Nat):Int))++Str.ofString ":").length=(Str.ofString (toString ((z.length:Nat):Int))).length+(Str.ofString ":").length:=by rw [zE]
   omega
def rV:Sp:=λvs H Q _=>∃c:Nat,vs=[.str ⟨#[c]⟩]/\Q (.bl (oK c)) H
theorem scSign:al ["sign","number"] ["sign"] (defScope wK):=⟨rfl,rfl,rfl,by decide +kernel,rfl,by decide +kernel,by decide +kernel⟩
theorem vH(F:Fun K "is_sign" "is_sign" wK f fd)(T:Tx K mg C):FnOk P w K mg base CX0 1 f fd ["sign"] rV:=by
 refine F.ok scSign (λvs H Q E h=>?_) (λcdv A outer s H vs Q E hr h=>?_)
 ·obtain ⟨c,rfl,_⟩:=h
  rfl
 obtain ⟨c,rfl,q⟩:=h
 refine ⟨_,ad (aC (i:=1) scSign.nd rfl (Or.inl rfl) (au uI rfl T.ord PyProof.Rows.boot_ord (aa (pv 0) ac)))
  (af (ao (jm (sZ wQ wQ (lT T.cBl rfl) (pv 1) (lT T.cTi rfl)) (jj (df kf (pv 1) (lT T.cPc rfl) (ay _)))))),?_⟩
 refine ⟨_,rfl,_,rfl,rfl,?_⟩
 refine ⟨_,rfl,_,_,rfl,rfl,_,rfl,?_⟩
 have e0:((({cps:=#[c]}:Str).cps.getD 0 0:Nat):Int)=(c:Int):=rfl
 unfold oK at q
 by_cases h1:32<=c
 ·have d1:decide ((32:Int)<=(({cps:=#[c]}:Str).cps.getD 0 0:Nat))=true:=decide_eq_true (by rw [e0];omega)
  rw [d1]
  refine bU ⟨_,_,rfl,rfl,_,rfl,?_⟩
  by_cases h2:c<=126
  ·have d2:decide (((({cps:=#[c]}:Str).cps.getD 0 0:Nat):Int)<=126)=true:=decide_eq_true (by rw [e0];omega)
   rw [d2]
   refine bU ⟨_,rfl,rfl,?_⟩
   have e3:(!decide (V.int (({cps:=#[c]}:Str).cps.getD 0 0:Nat)=V.int 37))=(decide (32<=c)&&decide (c<=126)&&decide (c≠37)):=by
    rw [decide_eq_true h1,decide_eq_true h2,iW,e0]
    by_cases h3:c=37
    ·subst h3;rfl
    ·have:((c:Int)==37)=false:=beq_eq_false_iff_ne.mpr (by omega)
     rw [this,decide_eq_true h3];rfl
   rw [e3]
   exact q
  ·have d2:decide (((({cps:=#[c]}:Str).cps.getD 0 0:Nat):Int)<=126)=false:=decide_eq_false (by rw [e0];omega)
   rw [d2]
   refine aI ?_
   rw [decide_eq_false h2,Bool.and_false,Bool.false_and] at q
   exact q
 ·have d1:decide ((32:Int)<=(({cps:=#[c]}:Str).cps.getD 0 0:Nat))=false:=decide_eq_false (by rw [e0];omega)
  rw [d1]
  refine aI ⟨_,rfl,aI ?_⟩
  rw [decide_eq_false h1,Bool.false_and,Bool.false_and] at q
  exact q
def si(C:Addr):Sp:=λvs H Q _=>∃p dx z,vs=[.ref p,.str z]/\H p=some (.ins C dx [])/\Q .non (upd (upd H p (.ins C dx (ak "text" (.str z) []))) p (.ins C dx (rf z 0)))
theorem xy:al ["self","text"] ["self","text"] (defScope wM):=⟨rfl,rfl,rfl,by decide +kernel,rfl,by decide +kernel,by decide +kernel⟩
theorem vU(F:Fun K "__init__" "Reader.__init__" wM f fd)(T:Tx K mg C):FnOk P w K mg base CX0 1 f fd ["self","text"] (si C):=by
 refine F.ok xy (λvs H Q E h=>?_) (λcdv A outer s H vs Q E hr h=>?_)
 ·obtain ⟨p,dx,z,rfl,_⟩:=h
  rfl
 obtain ⟨p,dx,z,rfl,hp,q⟩:=h
 refine ⟨_,ad (aJ (pv 0) (pv 1) rfl) (af (aJ (pv 0) aj rfl)),?_⟩
 exact ⟨_,rfl,_,rfl,p,C,dx,[],rfl,hp,T.cl,T.nT,(by show 0<1000;decide),_,rfl,p,C,dx,_,rfl,ae,T.cl,T.nP,(by show 1<1000;decide),q⟩
theorem i4(z:Str)(c k:Nat):Txt.startswith3 z ⟨#[c]⟩ (k:Int)=decide (z.cps.toList[k]?=some c):=by
 have e1:fromIndex z.length (k:Int)=k:=by
  unfold fromIndex
  rw [if_neg (by omega)]
  omega
 unfold Txt.startswith3
 rw [e1]
 have e2:(({cps:=#[c]}:Str)).length=1:=rfl
 rw [e2]
 by_cases h:k<z.length
 ·have h':k<z.cps.size:=h
  have e3:Builtin.Str.subAt z ⟨#[c]⟩ k=(z.cps[k]==c):=by
   unfold Builtin.Str.subAt
   rw [e2]
   have e4:z.cps.extract k (k+1)=#[z.cps[k]]:=by
    apply Array.ext
    ·simp;omega
    ·intro i h1 h2
     have:i=0:=by simp at h2;omega
     subst this
     simp
   rw [e4]
   simp
  rw [e3]
  have e5:decide (k+1<=z.length)=true:=decide_eq_true h
  rw [e5,Bool.true_and]
  have e6:z.cps.toList[k]?=some z.cps[k]:=by rw [Array.getElem?_toList];exact Array.getElem?_eq_getElem h'
  rw [e6]
  simp [Bool.beq_eq_decide_eq]
 ·have e5:decide (k+1<=z.length)=false:=decide_eq_false (by omega)
  rw [e5,Bool.false_and]
  have e6:z.cps.toList[k]?=none:=by rw [Array.getElem?_toList];exact Array.getElem?_eq_none (by show z.length<=k;omega)
  rw [e6]
  simp
def rX(C:Addr):Sp:=λvs H Q _=>∃p dx z c,∃k:Nat,vs=[.ref p,.str ⟨#[c]⟩]/\H p=some (.ins C dx (rf z k)) /\
 (if z.cps.toList[k]?=some c then Q (.bl true) (upd H p (.ins C dx (rf z ((k+1:Nat):Int)))) else Q (.bl false) H)
theorem xx:al ["self","sign"] ["self","sign"] (defScope wL):=⟨rfl,rfl,rfl,by decide +kernel,rfl,by decide +kernel,by decide +kernel⟩
theorem vM(F:Fun K "passes" "Reader.passes" wL f fd)(T:Tx K mg C):FnOk P w K mg base CX0 1 f fd ["self","sign"] (rX C):=by
 refine F.ok xx (λvs H Q E h=>?_) (λcdv A outer s H vs Q E hr h=>?_)
 ·obtain ⟨p,dx,z,c,k,rfl,_⟩:=h
  rfl
 obtain ⟨p,dx,z,c,k,rfl,hp,q⟩:=h
 refine ⟨_,ad (aF (dQ (bq (d0 PySem.F.plainAttrs_str PySem.F.slot_str_startswith PySem.F.type_str_startswith jq (aA (pv 0) rfl) (aa (pv 1) (aa (aA (pv 0) rfl) ac))))) (af (ao fu)) az)
  (ad (ib (pv 0) aj o6) (af (ao fu))),?_⟩
 refine ⟨_,rfl,p,C,dx,_,_,rfl,hp,T.cl,T.nT,fY _ _,rfl,_,rfl,_,rfl,p,C,dx,_,_,rfl,hp,T.cl,T.nP,bX _ _,_,_,_,rfl,rfl,_,rfl,?_⟩
 rw [i4]
 by_cases hk:z.cps.toList[k]?=some c
 ·rw [if_pos hk] at q
  rw [decide_eq_true hk]
  refine aI ?_
  refine ⟨_,rfl,p,C,dx,_,_,rfl,hp,T.cl,T.nP,bX _ _,_,_,rfl,rfl,dx,_,hp,(by rw [oG];decide),?_⟩
  rw [oF]
  have e:((k:Int)+1)=((k+1:Nat):Int):=by omega
  rw [e]
  exact q
 ·rw [if_neg hk] at q
  rw [decide_eq_false hk]
  exact bU q
end
theorem gF{x y:Str}(h:x.cps.toList=y.cps.toList):x=y:=by
 obtain ⟨a⟩:=x
 obtain ⟨b⟩:=y
 have:a=b:=Array.toList_inj.mp h
 rw [this]
theorem gP(z:Str):z.length=z.cps.toList.length:=by simp [Str.length]
theorem j7{z:Str}{pre ds post:List Nat}(e:z.cps.toList=pre++ds++post):Txt.slice z (some ((pre.length:Nat):Int)) (some (((pre.length+ds.length:Nat)):Int))=⟨ds.toArray⟩:=by
 have hl:z.cps.toList.length=pre.length+ds.length+post.length:=by rw [e];simp;omega
 have q:=PyProof.Rows.slice_closes (x:=z) (i:=((pre.length:Nat):Int)) (j:=((pre.length+ds.length:Nat):Int)) ⟨by omega,by omega,by omega⟩
 rw [eq_of_beq q]
 refine gF ?_
 have e1:(((pre.length+ds.length:Nat):Int)-((pre.length:Nat):Int)).toNat=ds.length:=by omega
 have e2:(((pre.length:Nat):Int)).toNat=pre.length:=by omega
 rw [e1,e2,e,List.append_assoc,List.drop_left,List.take_left]
theorem oy{z:Str}{pre ds post:List Nat}{i j:Int}(e:z.cps.toList=pre++ds++post)(hi:i=((pre.length:Nat):Int))(hj:j=((pre.length+ds.length:Nat):Int)):Txt.slice z (some i) (some j)=⟨ds.toArray⟩:=by
 subst hi hj
 exact j7 e
theorem uU:∀c:Nat,c<128->Unicode.isDigit c=ni c:=by decide +kernel
theorem iE{c:Nat}(h:c<128):Txt.isdigit ⟨#[c]⟩=ni c:=by
 rw [← uU c h]
 unfold Txt.isdigit
 simp [Str.length]
def uO(ds:List Nat):Prop:=AllDigits ds/\ds≠[]/\ds.length<=400/\(ds=[48]\/∀c r,ds=c::r->c≠48)
def qa(post:List Nat):Prop:=∀c r,post=c::r->c<128/\ni c=false
def But(p:Addr)(H H':Hp):Prop:=∀b o,H b=some o->b≠p->H' b=some o
theorem But.refl(p:Addr)(H:Hp):But p H H:=λ_ _ e _=>e
theorem But.upd{p:Addr}{H H':Hp}(h:But p H H')(o:HO):But p H (L2.upd H' p o):=λb u e n=>by rw [aq n];exact h b u e n
theorem But.trans{p:Addr}{H H1 H2:Hp}(a:But p H H1)(b:But p H1 H2):But p H H2:=λc o e n=>b c o (a c o e n) n
theorem u7(x y:Str):Txt.startswith x y=Txt.startswith3 x y ((0:Nat):Int):=by
 unfold Txt.startswith Txt.startswith3
 have e:fromIndex x.length ((0:Nat):Int)=0:=by unfold fromIndex;simp
 rw [e]
section
variable {P:Program}{w:World}{K:PySem.W.Frag}{mg:Str->Option Value}{base:Heap}{f C:Addr}{fd:FuncData}
def r8(C:Addr):Sp:=λvs H Q _=>∃p dx z pre ds post,vs=[.ref p]/\z.cps.toList=pre++ds++post/\H p=some (.ins C dx (rf z (pre.length:Nat)))/\z.length<=100000/\uO ds/\qa post /\
 ∀H',H' p=some (.ins C dx (rf z ((pre.length+ds.length:Nat):Int)))->But p H H'->Q (.int (digitsVal ds:Nat)) H'
theorem scNum:al ["self","start","figures"] ["self"] (defScope zi):=⟨rfl,rfl,rfl,by decide +kernel,rfl,by decide +kernel,by decide +kernel⟩
theorem wq:(Str.ofString "")=⟨#[]⟩:=by decide +kernel
theorem uB:(Str.ofString "0")=⟨#[48]⟩:=by decide +kernel
def mi(K:PySem.W.Frag):TT:=yZ (wH (tOp (rI0 λi j=>.bl (decide (i<j))) (qk K (og 0) "place") (tCB (λxs H Q=>∃z,xs=[.str z]/\z.length<=sizeLine/\Q (.int z.length) H) (wI (qk K (og 0) "text") uY))))
 (tB (yW K "str" (λx vs H Q=>∃z,x=.str z/\vs=[]/\Q (.bl (Txt.isdigit z)) H) (tOp zn (qk K (og 0) "text") (qk K (og 0) "place"))))
theorem t8{p dx:Addr}{z:Str}{pre ds post:List Nat}{j:Nat}{σ:St}{H1:Hp}{R:Bool->Hp->Prop}(T:Tx K mg C)(ez:z.cps.toList=pre++ds++post)(hz:z.length<=100000)(d1:AllDigits ds)(hpo:qa post)(hj:j<=ds.length)
  (e0:σ[0]?=some (some (.ref p)))(hp1:H1 p=some (.ins C dx (rf z ((pre.length+j:Nat):Int))))(h:R (decide (j<ds.length)) H1):mi K σ H1 R:=by
 have hu:=fL
 have lz:z.length=pre.length+ds.length+post.length:=by rw [gP,ez];simp;omega
 refine ⟨_,e0,p,C,dx,_,_,rfl,hp1,T.cl,T.nP,bX _ _,_,e0,p,C,dx,_,_,rfl,hp1,T.cl,T.nT,fY _ _,_,rfl,by omega,_,_,rfl,rfl,_,rfl,?_⟩
 by_cases hlt:(pre.length+j:Nat)<z.length
 ·rw [decide_eq_true (show (((pre.length+j:Nat)):Int)<((z.length:Nat):Int) by omega)]
  have hlt':pre.length+j<z.cps.toList.length:=by rw [← gP];exact hlt
  obtain ⟨c,hc⟩:∃c,z.cps.toList[pre.length+j]?=some c:=⟨_,List.getElem?_eq_getElem hlt'⟩
  refine bU ⟨_,e0,p,C,dx,_,_,rfl,hp1,T.cl,T.nT,fY _ _,_,e0,p,C,dx,_,_,rfl,hp1,T.cl,T.nP,bX _ _,z,_,c,rfl,rfl,by omega,bn hc,rfl,_,rfl,rfl,_,rfl,?_⟩
  by_cases hjd:j<ds.length
  ·have ec:ds[j]?=some c:=by
    rw [ez,List.append_assoc,List.getElem?_append_right (by omega),List.getElem?_append_left (by omega)] at hc
    rw [← hc];congr 1;omega
   have dc:48<=c/\c<=57:=d1 c (List.mem_of_getElem? ec)
   have e1:Txt.isdigit ⟨#[c]⟩=true:=by rw [iE (by omega)];unfold ni;rw [decide_eq_true dc.1,decide_eq_true dc.2];rfl
   rw [decide_eq_true hjd] at h
   rw [e1]
   exact h
  ·have hjd':j=ds.length:=by omega
   have ec:post[0]?=some c:=by
    rw [ez,List.getElem?_append_right (by rw [List.length_append];omega)] at hc
    rw [← hc];congr 1;rw [List.length_append];omega
   have hp2:c<128/\ni c=false:=by
    cases post with
    | nil=>cases ec
    | cons a r=>exact hpo c r (by rw [show a=c by simpa using ec])
   have e1:Txt.isdigit ⟨#[c]⟩=false:=by rw [iE hp2.1];exact hp2.2
   rw [decide_eq_false hjd] at h
   rw [e1]
   exact h
 ·rw [decide_eq_false (show ¬(((pre.length+j:Nat)):Int)<((z.length:Nat):Int) by omega)]
  rw [decide_eq_false (show ¬j<ds.length by omega)] at h
  exact aI h
theorem xU(F:Fun K "read_number" "Reader.read_number" zi f fd)(T:Tx K mg C):FnOk P w K mg base CX0 1 f fd ["self"] (r8 C):=by
 refine F.ok scNum (λvs H Q E h=>?_) (λcdv A outer s H vs Q E hr h=>?_)
 ·obtain ⟨p,dx,z,pre,ds,post,rfl,_⟩:=h
  rfl
 obtain ⟨p,dx,z,pre,ds,post,rfl,ez,hp,hz,hds,hpo,q⟩:=h
 obtain ⟨d1,d2,d3,d4⟩:=hds
 have hu:=fL
 have lz:z.length=pre.length+ds.length+post.length:=by rw [gP,ez];simp;omega
 refine ⟨_,ad (aC (i:=1) scNum.nd rfl (Or.inl rfl) (aA (pv 0) rfl))
  (ad (jg (tc:=mi K) PassesOwn.never (PW.pt (dO (ap gl (aA (pv 0) rfl) (au aW rfl T.len PySem.boot_len (aa (aA (pv 0) rfl) ac)) (ay _))
    (da (bq (xK PySem.F.plainAttrs_str PySem.F.slot_str_isdigit PySem.F.type_str_isdigit oN (aG uk (aA (pv 0) rfl) (aA (pv 0) rfl) (λ_ _=>rfl)))))))
   (af (ib (pv 0) aj o6)))
  (ad (aC (i:=2) scNum.nd rfl (Or.inl rfl) (ft su (aA (pv 0) rfl) (dF (pv 1)) (dF (aA (pv 0) rfl))))
  (ad (aF (ap bf (pv 2) aB (ay _)) aE az)
  (ad (aF (ap iD (au aW rfl T.len PySem.boot_len (aa (pv 2) ac)) (lT T.cFig rfl) (ay _)) aE az)
  (ad (aF (PW.pt (dO (bq (d0 PySem.F.plainAttrs_str PySem.F.slot_str_startswith PySem.F.type_str_startswith jT (pv 2) (aa aB ac))) (da (ap kf (pv 2) aB (ay _))))) aE az)
  (af (ao (aO jX rfl T.int PyProof.Rows.boot_int (aa (pv 2) ac))))))))),?_⟩
 refine ⟨_,rfl,p,C,dx,_,_,rfl,hp,T.cl,T.nP,bX _ _,?_⟩
 refine ⟨λm σ H1=>∃j,m=ds.length-j/\j<=ds.length/\σ=[some (.ref p),some (.int (pre.length:Nat)),none]/\H1 p=some (.ins C dx (rf z ((pre.length+j:Nat):Int)))/\But p H H1,
  ⟨ds.length,0,rfl,Nat.zero_le _,rfl,hp,But.refl p H⟩,?_⟩
 rintro m σ H1 ⟨j,rfl,hj,rfl,hp1,bt⟩
 refine t8 T ez hz d1 hpo hj rfl hp1 ?_
 by_cases hjd:j<ds.length
 ·rw [decide_eq_true hjd]
  refine bU ⟨_,fun σ' H' h=>h,?_⟩
  refine ⟨_,rfl,p,C,dx,_,_,rfl,hp1,T.cl,T.nP,bX _ _,_,_,rfl,rfl,dx,_,hp1,(by rw [oG];decide),?_⟩
  refine ⟨ds.length-(j+1),by omega,j+1,rfl,hjd,rfl,?_,bt.upd _⟩
  rw [ae,oF]
  have e:(((pre.length+j:Nat)):Int)+1=((pre.length+(j+1):Nat):Int):=by omega
  rw [e]
 ·rw [decide_eq_false hjd]
  obtain rfl:j=ds.length:=by omega
  refine aI ?_
  refine ⟨_,rfl,p,C,dx,_,_,rfl,hp1,T.cl,T.nT,fY _ _,_,rfl,_,rfl,_,rfl,p,C,dx,_,_,rfl,hp1,T.cl,T.nP,bX _ _,_,rfl,z,rfl,by omega,?_⟩
  rw [j7 ez]
  have dl:(({cps:=ds.toArray}:Str)).length=ds.length:=by simp [Str.length]
  refine ⟨_,rfl,rfl,_,rfl,?_⟩
  have n1:¬(V.str ({cps:=ds.toArray}:Str)=V.str (Str.ofString "")):=by
   intro e
   have e':(({cps:=ds.toArray}:Str))=Str.ofString "":=by injection e
   rw [wq] at e'
   have e2:=congrArg (λs:Str=>s.cps.toList) e'
   exact d2 (by simpa using e2)
  rw [decide_eq_false n1]
  refine aI ?_
  refine ⟨_,rfl,_,rfl,by omega,_,_,rfl,rfl,_,rfl,?_⟩
  rw [decide_eq_false (show ¬((400:Int)<((({cps:=ds.toArray}:Str)).length:Nat)) by rw [dl];omega)]
  refine aI ?_
  have it:PySem.intText? ({cps:=ds.toArray}:Str)=some ((digitsVal ds:Nat):Int):=by
   have:=intText_digits (x:=({cps:=ds.toArray}:Str)) (by simpa using d1) (by simpa using d2) (by rw [dl];omega)
   simpa using this
  refine ⟨_,rfl,rfl,_,_,rfl,rfl,_,rfl,?_⟩
  have hs:Txt.startswith ({cps:=ds.toArray}:Str) (Str.ofString "0")=decide (ds[0]?=some 48):=by
   rw [uB,u7,i4]
  rw [hs]
  rcases d4 with e4 | h4
  ·subst e4
   refine bU ⟨_,rfl,rfl,_,rfl,?_⟩
   have n3:V.str ({cps:=([48]:List Nat).toArray}:Str)=V.str (Str.ofString "0"):=by rw [uB]
   rw [decide_eq_true n3]
   exact aI ⟨_,rfl,_,_,rfl,it,by rw [dl];omega,q H1 hp1 bt⟩
  ·have n4:¬ds[0]?=some 48:=by
    cases ds with
    | nil=>exact absurd rfl d2
    | cons c r=>intro e;exact h4 c r rfl (by simpa using e)
   rw [decide_eq_false n4]
   exact aI (aI ⟨_,rfl,_,_,rfl,it,by rw [dl];omega,q H1 hp1 bt⟩)
def pB(C:Addr):Sp:=λvs H Q _=>∃p dx z pre ws post,vs=[.ref p,.int ((ws:List Nat).length:Nat)]/\z.cps.toList=pre++ws++post/\H p=some (.ins C dx (rf z (pre.length:Nat)))/\z.length<=100000/\ws.length<=2000 /\
 ∀H',H' p=some (.ins C dx (rf z ((pre.length+ws.length:Nat):Int)))->But p H H'->Q (.str ⟨ws.toArray⟩) H'
theorem scSigns:al ["self","many","behind","signs"] ["self","many"] (defScope sF):=⟨rfl,rfl,rfl,by decide +kernel,rfl,by decide +kernel,by decide +kernel⟩
theorem tD(F:Fun K "read_signs" "Reader.read_signs" sF f fd)(T:Tx K mg C):FnOk P w K mg base CX0 1 f fd ["self","many"] (pB C):=by
 refine F.ok scSigns (λvs H Q E h=>?_) (λcdv A outer s H vs Q E hr h=>?_)
 ·obtain ⟨p,dx,z,pre,ws,post,rfl,_⟩:=h
  rfl
 obtain ⟨p,dx,z,pre,ws,post,rfl,ez,hp,hz,hw,q⟩:=h
 have hu:=fL
 have lz:z.length=pre.length+ws.length+post.length:=by rw [gP,ez];simp;omega
 refine ⟨_,ad (aC (i:=2) scSigns.nd rfl (Or.inl rfl) (aD dk (aA (pv 0) rfl) (pv 1)))
  (ad (aF (ap iD (pv 1) (lT T.cSig rfl) (ay _)) aE az)
  (ad (aF (ap iD (pv 2) (au aW rfl T.len PySem.boot_len (aa (aA (pv 0) rfl) ac)) (ay _)) aE az)
  (ad (aC (i:=3) scSigns.nd rfl (Or.inl rfl) (ft su (aA (pv 0) rfl) (dF (aA (pv 0) rfl)) (dF (pv 2))))
  (ad (aJ (pv 0) (pv 2) rfl)
  (af (ao (pv 3))))))),?_⟩
 refine ⟨_,rfl,p,C,dx,_,_,rfl,hp,T.cl,T.nP,bX _ _,_,rfl,_,_,rfl,rfl,?_⟩
 refine ⟨_,rfl,_,_,rfl,rfl,_,rfl,?_⟩
 rw [decide_eq_false (show ¬((2000:Int)<((ws.length:Nat):Int)) by omega)]
 refine aI ⟨_,rfl,_,rfl,p,C,dx,_,_,rfl,hp,T.cl,T.nT,fY _ _,z,rfl,by omega,_,_,rfl,rfl,_,rfl,?_⟩
 have eb:((pre.length:Nat):Int)+((ws.length:Nat):Int)=((pre.length+ws.length:Nat):Int):=by omega
 rw [eb]
 rw [decide_eq_false (show ¬(((z.length:Nat):Int)<((pre.length+ws.length:Nat):Int)) by omega)]
 refine aI ⟨_,rfl,p,C,dx,_,_,rfl,hp,T.cl,T.nT,fY _ _,_,rfl,p,C,dx,_,_,rfl,hp,T.cl,T.nP,bX _ _,_,rfl,_,rfl,_,rfl,z,rfl,by omega,?_⟩
 rw [oy ez rfl eb]
 refine ⟨_,rfl,_,rfl,p,C,dx,_,rfl,hp,T.cl,T.nP,(by rw [oG];decide),_,rfl,?_⟩
 refine q _ ?_ ((But.refl p H).upd _)
 rw [ae,← eb]
 exact congrArg (λl=>some (HO.ins C dx l)) (oF z _ _)
def pI(C:Addr):Sp:=λvs H Q _=>∃p dx z pre ds post,vs=[.ref p]/\z.cps.toList=pre++ds++post/\H p=some (.ins C dx (rf z (pre.length:Nat)))/\z.length<=100000/\uO ds/\qa post/\digitsVal ds≠0 /\
 ∀H',H' p=some (.ins C dx (rf z ((pre.length+ds.length:Nat):Int)))->But p H H'->Q (.int (-((digitsVal ds:Nat):Int))) H'
theorem scBelow:al ["self","number"] ["self"] (defScope sI):=⟨rfl,rfl,rfl,by decide +kernel,rfl,by decide +kernel,by decide +kernel⟩
theorem t6{fN:Addr}{dN:FuncData}(F:Fun K "read_below" "Reader.read_below" sI f fd)(T:Tx K mg C)(GN:FnOk P w K mg base CX0 1 fN dN ["self"] (r8 C))(bN:Binds K dN ["self"] [])(mN:gj K C "read_number" fN) :
  FnOk P w K mg base CX0 2 f fd ["self"] (pI C):=by
 refine F.ok scBelow (λvs H Q E h=>?_) (λcdv A outer s H vs Q E hr h=>?_)
 ·obtain ⟨p,dx,z,pre,ds,post,rfl,_⟩:=h
  rfl
 obtain ⟨p,dx,z,pre,ds,post,rfl,ez,hp,hz,hds,hpo,hne,q⟩:=h
 refine ⟨_,ad (aC (i:=1) scBelow.nd rfl (Or.inl rfl) (gM (pv 0) T.cl mN GN hr bN .nil br))
  (ad (aF (ap bf (pv 1) aj (ay _)) aE az)
  (af (ao (pQ kL (pv 1))))),?_⟩
 refine ⟨_,rfl,p,dx,_,rfl,hp,ka _ _ (by decide +kernel) (by decide +kernel),p,dx,z,pre,ds,post,rfl,ez,hp,hz,hds,hpo,λH1 hp1 bt=>?_⟩
 refine ⟨_,rfl,rfl,_,rfl,?_⟩
 have n1:¬(V.int ((digitsVal ds:Nat):Int)=V.int 0):=by intro e;injection e with e;omega
 rw [decide_eq_false n1]
 exact aI ⟨_,rfl,_,rfl,q H1 hp1 bt⟩
end
inductive wC:List Nat->V->Prop where
 | num (n:Int) (h:n.natAbs<10 ^ 400):wC (bJ n) (.int n)
 | txt (ws:List Nat) (h:ws.length<=2000):wC (aY ws.length++58::ws) (.str ⟨ws.toArray⟩)
def Ends(post:List Nat):Prop:=∀c r,post=c::r->c=32\/c=41
theorem jF(m:Nat)(h:m<10 ^ 400):uO (aY m):=by
 refine ⟨gT m,lW m,gS (by decide) h,?_⟩
 by_cases h0:m=0
 ·subst h0;exact .inl re
 ·exact .inr (rg m h0)
theorem Ends.stops{post:List Nat}(h:Ends post):qa post:=λc r e=>by
 rcases h c r e with rfl | rfl<;>exact ⟨by decide,by decide⟩
theorem o7:(Str.ofString "(")=⟨#[40]⟩:=by decide +kernel
theorem lV:(Str.ofString "-")=⟨#[45]⟩:=by decide +kernel
theorem p5:(Str.ofString ":")=⟨#[58]⟩:=by decide +kernel
theorem ph{z:Str}{pre rest:List Nat}(e:z.cps.toList=pre++rest):z.cps.toList[pre.length]?=rest[0]?:=by
 rw [e,List.getElem?_append_right (Nat.le_refl _),Nat.sub_self]
theorem ky(m:Nat):∃c r,aY m=c::r/\48<=c/\c<=57:=by
 cases e:aY m with
 | nil=>exact absurd e (lW m)
 | cons c r =>
  have h:=gT m
  rw [e] at h
  exact ⟨c,r,rfl,h.head⟩
section
variable {P:Program}{w:World}{K:PySem.W.Frag}{mg:Str->Option Value}{base:Heap}{f C:Addr}{fd:FuncData}
def wJ(C:Addr):Sp:=λvs H Q _=>∃p dx z pre it post v d,vs=[.ref p,d]/\z.cps.toList=pre++it++post/\H p=some (.ins C dx (rf z ((pre:List Nat).length:Nat)))/\z.length<=100000/\wC it v/\Ends post /\
 ∀H',H' p=some (.ins C dx (rf z ((pre.length+it.length:Nat):Int)))->But p H H'->Q v H'
theorem scAny:al ["self","deep","number"] ["self","deep"] (defScope zj):=⟨rfl,rfl,rfl,by decide +kernel,rfl,by decide +kernel,by decide +kernel⟩
theorem yc{fP fB fN fS:Addr}{dP dB dN dS:FuncData}(F:Fun K "read_any" "Reader.read_any" zj f fd)(T:Tx K mg C)
  (GP:FnOk P w K mg base CX0 1 fP dP ["self","sign"] (rX C))(bP:Binds K dP ["self","sign"] [])(mP:gj K C "passes" fP)
  (GB:FnOk P w K mg base CX0 2 fB dB ["self"] (pI C))(bB:Binds K dB ["self"] [])(mB:gj K C "read_below" fB)
  (GN:FnOk P w K mg base CX0 1 fN dN ["self"] (r8 C))(bN:Binds K dN ["self"] [])(mN:gj K C "read_number" fN)
  (GS:FnOk P w K mg base CX0 1 fS dS ["self","many"] (pB C))(bS:Binds K dS ["self","many"] [])(mS:gj K C "read_signs" fS) :
  FnOk P w K mg base CX0 3 f fd ["self","deep"] (wJ C):=by
 refine F.ok scAny (λvs H Q E h=>?_) (λcdv A outer s H vs Q E hr h=>?_)
 ·obtain ⟨p,dx,z,pre,it,post,v,d,rfl,_⟩:=h
  rfl
 obtain ⟨p,dx,z,pre,it,post,v,d,rfl,ez,hp,hz,hit,hen,q⟩:=h
 have hr1:=hr.mono (show 1<=2 by decide)
 have np:∀(k:Int),(rf z k).lookup ("passes":Str)=none:=λk=>ka _ _ (by decide +kernel) (by decide +kernel)
 have nn:∀(k:Int),(rf z k).lookup ("read_number":Str)=none:=λk=>ka _ _ (by decide +kernel) (by decide +kernel)
 have nb:∀(k:Int),(rf z k).lookup ("read_below":Str)=none:=λk=>ka _ _ (by decide +kernel) (by decide +kernel)
 have ns:∀(k:Int),(rf z k).lookup ("read_signs":Str)=none:=λk=>ka _ _ (by decide +kernel) (by decide +kernel)
 refine ⟨_,ad (aF (bq (f6 (pv 0) T.cl mP GP hr1 bP .nil br (aa aB ac))) aE az)
  (ad (aF (bq (f6 (pv 0) T.cl mP GP hr1 bP .nil br (aa aB ac))) (af (ao (gM (pv 0) T.cl mB GB hr bB .nil br))) az)
  (ad (aC (i:=2) scAny.nd rfl (Or.inl rfl) (gM (pv 0) T.cl mN GN hr1 bN .nil br))
  (ad (aF (bq (f6 (pv 0) T.cl mP GP hr1 bP .nil br (aa aB ac))) (af (ao (f6 (pv 0) T.cl mS GS hr1 bS .nil br (aa (pv 2) ac)))) az)
  (af (ao (pv 2)))))),?_⟩
 have ez':z.cps.toList=pre++(it++post):=by rw [ez,List.append_assoc]
 have h0:=ph ez'
 cases hit with
 | num n hn =>
  by_cases hneg:n<0
  ·have en:bJ n=45::aY n.natAbs:=by unfold bJ;rw [if_pos hneg]
   rw [en] at ez ez' q h0
   have h0':z.cps.toList[pre.length]?=some 45:=h0
   refine ⟨_,rfl,p,dx,_,rfl,hp,np _,p,dx,z,40,pre.length,(by rw [o7];rfl),hp,?_⟩
   rw [if_neg (by rw [h0'];decide)]
   refine ⟨_,rfl,aI ?_⟩
   refine ⟨_,rfl,p,dx,_,rfl,hp,np _,p,dx,z,45,pre.length,(by rw [lV];rfl),hp,?_⟩
   rw [if_pos h0']
   refine ⟨_,rfl,bU ?_⟩
   refine ⟨_,rfl,p,dx,_,rfl,ae,nb _,p,dx,z,pre++[45],aY n.natAbs,post,rfl,(by rw [ez];simp),(by rw [ae];simp),hz,jF _ hn,hen.stops,(by rw [gR];omega),λH' hp' bt=>?_⟩
   have e1:(-((digitsVal (aY n.natAbs):Nat):Int))=n:=by rw [gR];omega
   rw [e1]
   refine q H' ?_ (((But.refl p H).upd _).trans bt)
   rw [hp']
   have e2:(pre++[45]).length+(aY n.natAbs).length=pre.length+(45::aY n.natAbs).length:=by simp;omega
   rw [e2]
  ·have en:bJ n=aY n.natAbs:=by unfold bJ;rw [if_neg hneg]
   rw [en] at ez ez' q h0
   obtain ⟨c,r,ec,hc⟩:=ky n.natAbs
   have h0':z.cps.toList[pre.length]?=some c:=by rw [h0,ec];rfl
   refine ⟨_,rfl,p,dx,_,rfl,hp,np _,p,dx,z,40,pre.length,(by rw [o7];rfl),hp,?_⟩
   rw [if_neg (by rw [h0'];intro e;injection e with e;omega)]
   refine ⟨_,rfl,aI ?_⟩
   refine ⟨_,rfl,p,dx,_,rfl,hp,np _,p,dx,z,45,pre.length,(by rw [lV];rfl),hp,?_⟩
   rw [if_neg (by rw [h0'];intro e;injection e with e;omega)]
   refine ⟨_,rfl,aI ?_⟩
   refine ⟨_,rfl,p,dx,_,rfl,hp,nn _,p,dx,z,pre,aY n.natAbs,post,rfl,ez,hp,hz,jF _ hn,hen.stops,λH1 hp1 bt=>?_⟩
   have h1:z.cps.toList[pre.length+(aY n.natAbs).length]?=post[0]?:=by
    have:=ph (z:=z) (pre:=pre++aY n.natAbs) (rest:=post) ez
    rw [List.length_append] at this
    exact this
   refine ⟨_,rfl,p,dx,_,rfl,hp1,np _,p,dx,z,58,pre.length+(aY n.natAbs).length,(by rw [p5];rfl),hp1,?_⟩
   rw [if_neg (by
    rw [h1]
    intro e
    cases post with
    | nil=>cases e
    | cons a r' =>
     have:=hen a r' rfl
     have ea:a=58:=by simpa using e
     omega)]
   refine ⟨_,rfl,aI ⟨_,rfl,?_⟩⟩
   have e1:((digitsVal (aY n.natAbs):Nat):Int)=n:=by rw [gR];omega
   rw [e1]
   exact q H1 hp1 bt
 | txt ws hw =>
  obtain ⟨c,r,ec,hc⟩:=ky ws.length
  have h0':z.cps.toList[pre.length]?=some c:=by rw [h0,ec];rfl
  refine ⟨_,rfl,p,dx,_,rfl,hp,np _,p,dx,z,40,pre.length,(by rw [o7];rfl),hp,?_⟩
  rw [if_neg (by rw [h0'];intro e;injection e with e;omega)]
  refine ⟨_,rfl,aI ?_⟩
  refine ⟨_,rfl,p,dx,_,rfl,hp,np _,p,dx,z,45,pre.length,(by rw [lV];rfl),hp,?_⟩
  rw [if_neg (by rw [h0'];intro e;injection e with e;omega)]
  refine ⟨_,rfl,aI ?_⟩
  have hl:ws.length<10 ^ 400:=Nat.lt_of_le_of_lt hw (by decide +kernel)
  have ez2:z.cps.toList=pre++aY ws.length++(58::(ws++post)):=by rw [ez];simp
  refine ⟨_,rfl,p,dx,_,rfl,hp,nn _,p,dx,z,pre,aY ws.length,58::(ws++post),rfl,ez2,hp,hz,jF _ hl,λc' r' e=>(by cases e;exact ⟨by decide,by decide⟩),λH1 hp1 bt=>?_⟩
  have h1:z.cps.toList[pre.length+(aY ws.length).length]?=some 58:=by
   have:=ph (z:=z) (pre:=pre++aY ws.length) (rest:=58::(ws++post)) ez2
   rw [List.length_append] at this
   exact this
  refine ⟨_,rfl,p,dx,_,rfl,hp1,np _,p,dx,z,58,pre.length+(aY ws.length).length,(by rw [p5];rfl),hp1,?_⟩
  rw [if_pos h1]
  refine ⟨_,rfl,bU ?_⟩
  have el:(pre++aY ws.length++[58]).length=pre.length+(aY ws.length).length+1:=by simp;omega
  refine ⟨_,rfl,p,dx,_,rfl,ae,ns _,_,rfl,p,dx,z,pre++aY ws.length++[58],ws,post,(by rw [gR];rfl),(by rw [ez2];simp),(by rw [ae,el]),hz,hw,λH2 hp2 bt2=>?_⟩
  refine q H2 ?_ ((bt.upd _).trans bt2)
  rw [hp2]
  have e2:(pre++aY ws.length++[58]).length+ws.length=pre.length+(aY ws.length++58::ws).length:=by simp;omega
  rw [e2]
def oj:Sp:=λvs H Q _=>∃z v,vs=[.str z]/\wC z.cps.toList v/\(∀c∈z.cps.toList,oK c=true)/\z.length<=100000/\∀H',Same H H'->Q v H'
theorem scRead:al ["text","reader","thing"] ["text"] (defScope pL):=⟨rfl,rfl,rfl,by decide +kernel,rfl,by decide +kernel,by decide +kernel⟩
def sN:Scope:=match defBody pL with
 | _::.If (.UnaryOp _ (.Call _ [.ListComp _ _ sc _] _ _) _) _ _ _::_=>sc
 | _=>default
theorem xz:bE ["text","reader","thing"] (defScope pL) sN "sign" ["sign"] []:=⟨by decide +kernel,rfl,by decide +kernel,rfl,by decide +kernel,by decide +kernel,rfl,rfl,λj h=>absurd h (Nat.not_lt_zero j)⟩
theorem vK{fG fI fA:Addr}{dG dI dA:FuncData}(F:Fun K "read_thing" "read_thing" pL f fd)(T:Tx K mg C)(M:Mk K C fI)
  (GG:FnOk P w K mg base CX0 1 fG dG ["sign"] rV)(bG:Binds K dG ["sign"] [])(kG:PySem.W.keepIn K (.ref fG)=true)(mG:mg "is_sign"=some (.ref fG))
  (GI:FnOk P w K mg base CX0 1 fI dI ["self","text"] (si C))(bI:Binds K dI ["self","text"] [])
  (GA:FnOk P w K mg base CX0 3 fA dA ["self","deep"] (wJ C))(bA:Binds K dA ["self","deep"] [])(mA:gj K C "read_any" fA) :
  FnOk P w K mg base CX0 4 f fd ["text"] oj:=by
 refine F.ok scRead (λvs H Q E h=>?_) (λcdv A outer s H vs Q E hr h=>?_)
 ·obtain ⟨z,v,rfl,_⟩:=h
  rfl
 obtain ⟨z,v,rfl,hit,hok,hz,q⟩:=h
 have hr1:=hr.mono (show 1<=3 by decide)
 have hr2:=hr.mono (show 2<=3 by decide)
 have hu:=fL
 refine ⟨_,ad (aF (ap iD (au aW rfl T.len PySem.boot_len (aa (pv 0) ac)) (lT T.cLong rfl) (ay _)) aE az)
  (ad (aF (dQ (bq (au (nG rfl) rfl T.all PyProof.Rows.boot_all (aa (gk xz rfl (xE (pv 0)) (λ_ _ _ _=>eG) (λ_ _ _ _=>lJ GG hr1 rfl mG kG bG .nil br (aa (pv 0) ac))) ac)))) aE az)
  (ad (aC (i:=1) scRead.nd rfl (Or.inl rfl) (bZ M GI hr2 rfl T.mgC bI .nil br (aa (pv 0) ac)))
  (ad (aC (i:=2) scRead.nd rfl (Or.inl rfl) (f6 (pv 1) T.cl mA GA hr bA .nil br (aa (lT T.cDeep rfl) ac)))
  (ad (aF (ap kf (aA (pv 1) rfl) (au aW rfl T.len PySem.boot_len (aa (pv 0) ac)) (ay _)) aE az)
  (af (ao (pv 2))))))),?_⟩
 refine ⟨_,rfl,z,rfl,by omega,_,_,rfl,rfl,_,rfl,?_⟩
 rw [decide_eq_false (show ¬((100000:Int)<((z.length:Nat):Int)) by omega)]
 refine aI ?_
 refine ⟨_,rfl,z,rfl,λi ys H1=>i<=z.length/\ys=List.replicate i (V.bl true)/\H1=H,z.length,⟨Nat.zero_le _,rfl,rfl⟩,by omega,?_⟩
 rintro i ys H1 ⟨hi,rfl,rfl⟩
 by_cases hlt:i<z.length
 ·refine .inr ⟨hlt,hlt,?_⟩
  rintro x H2 ⟨rfl,c,hc,rfl⟩
  refine ⟨_,rfl,c,rfl,hlt,?_,rfl⟩
  rw [hok c (List.mem_of_getElem? hc),List.replicate_succ']
 refine .inl ⟨by show z.length<=i;omega,λl hl=>?_⟩
 have e0:List.replicate i (V.bl true)=(List.replicate i true).map V.bl:=by simp
 refine ⟨l,List.replicate i true,rfl,SqL.of (by rw [ae,e0]),_,rfl,?_⟩
 have e1:(List.replicate i true).all id=true:=by simp
 rw [e1]
 refine aI ?_
 have sl:Same H1 (upd H1 l (.lst (List.replicate i (V.bl true)))):=λb o e=>by rw [aq (ah e hl)];exact e
 refine ⟨_,rfl,λx dx nx ndx nex=>⟨x,dx,z,rfl,ae,rfl,?_⟩⟩
 refine ⟨_,rfl,x,dx,_,rfl,ae,ka _ _ (by decide +kernel) (by decide +kernel),x,dx,z,[],z.cps.toList,[],v,_,rfl,(by simp),ae,hz,hit,(λc r e=>nomatch e),λH3 hx3 bt3=>?_⟩
 refine ⟨_,rfl,x,C,dx,_,_,rfl,hx3,T.cl,T.nP,bX _ _,_,rfl,z,rfl,by omega,rfl,_,rfl,?_⟩
 have e2:V.int ((([]:List Nat).length+z.cps.toList.length:Nat):Int)=V.int ((z.length:Nat):Int):=by rw [gP];simp
 rw [decide_eq_true e2]
 refine aI ⟨_,rfl,q H3 λb o e=>?_⟩
 have e3:=sl b o e
 have nb1:b≠x:=ah e3 nx
 have nb2:b≠dx:=ah e3 ndx
 refine bt3 b o ?_ nb1
 rw [aq nb1,aq nb1,aq nb1,aq nb2]
 exact e3
end
end K41T
namespace K41
open PySem L2 Lo St
section
variable {P:Program}{w:World}{K:PySem.W.Frag}{mg:Str->Option Value}{base:Heap}{f CL CS CP:Addr}{fd:FuncData}{C:Kd->Addr}{CW:Wd->Addr}
theorem kp2{a:Addr}{H:Hp}{o1 o2:HO}:Kp a H (upd (upd H a o1) a o2):=λb o n e=>by rw [aq n,aq n];exact e
theorem tZ(F:Fun K "__init__" "CellStep.__init__" cY f fd)(T:TxW K CW):FnOk P w K mg base CX0 1 f fd ["self","where","cell"] (kY CW):=by
 refine F.ok hX (λvs H Q E h=>?_) (λcdv A outer s H vs Q E hr h=>?_)
 ·obtain ⟨a,dx,wd,x,y,rfl,_⟩:=h
  rfl
 obtain ⟨a,dx,wd,x,y,rfl,ha,q⟩:=h
 refine ⟨_,ad (aJ (pv 0) (pv 1) rfl) (af (aJ (pv 0) (pv 2) rfl)),?_⟩
 exact ⟨_,rfl,_,rfl,a,CW wd,dx,[],rfl,ha,T.cl wd,T.nW wd,(by show 0<1000;decide),_,rfl,_,rfl,a,CW wd,dx,_,rfl,ae,T.cl wd,T.nC wd,(by show 1<1000;decide),q _ ae kp2⟩
theorem l0{wd:Wd}(hw:isC wd=true){vs:List V}{H:Hp}{Q:VK}{E:XK}(h:fV CW wd vs H Q E):kY CW vs H Q E:=by
 obtain ⟨a,dx,ns,rfl,ar,ha,q⟩:=h
 obtain ⟨x,y,rfl,_,_,e⟩:=ar.c hw
 exact ⟨a,dx,wd,x,y,rfl,ha,λH' h1 h2=>q H' (by rw [e];exact h1) h2⟩
theorem tw(F:Fun K "__init__" "SumStep.__init__" dt f fd)(T:TxW K CW):FnOk P w K mg base CX0 1 f fd ["self","where","low","high"] (fV CW .sum):=by
 refine F.ok iJ (λvs H Q E h=>?_) (λcdv A outer s H vs Q E hr h=>?_)
 ·obtain ⟨a,dx,ns,rfl,ar,_⟩:=h
  obtain ⟨x,y,z,rfl,_⟩:=ar.s
  rfl
 obtain ⟨a,dx,ns,rfl,ar,ha,q⟩:=h
 obtain ⟨x,y,z,rfl,_⟩:=ar.s
 refine ⟨_,ad (aJ (pv 0) (pv 1) rfl) (ad (aJ (pv 0) (pv 2) rfl) (af (aJ (pv 0) (pv 3) rfl))),?_⟩
 exact ⟨_,rfl,_,rfl,a,CW .sum,dx,[],rfl,ha,T.cl _,T.nW _,(by show 0<1000;decide),_,rfl,_,rfl,a,CW .sum,dx,_,rfl,ae,T.cl _,T.nL _,(by show 1<1000;decide),_,rfl,_,rfl,a,CW .sum,dx,_,rfl,ae,T.cl _,T.nH _,Nat.lt_of_le_of_lt (cn _ _ _) (by show 1+1<1000;decide),q _ ae λb o n e=>by rw [aq n,aq n,aq n];exact e⟩
theorem t7{CC fC:Addr}{dC:FuncData}(F:Fun K "__init__" "AddStep.__init__" dv f fd)(T:TxW K CW)(mgC:mg "CellStep"=some (.ref CC))(cf:uR K CC "__init__" fC)(GC:FnOk P w K mg base CX0 1 fC dC ["self","where","cell"] (kY CW))(bC:Binds K dC ["self","where","cell"] []) :
  FnOk P w K mg base CX0 2 f fd ["self","where","cell","amount"] (fV CW .add):=by
 refine F.ok iK (λvs H Q E h=>?_) (λcdv A outer s H vs Q E hr h=>?_)
 ·obtain ⟨a,dx,ns,rfl,ar,_⟩:=h
  obtain ⟨x,y,z,rfl,_⟩:=ar.a
  rfl
 obtain ⟨a,dx,ns,rfl,ar,ha,q⟩:=h
 obtain ⟨x,y,z,rfl,_⟩:=ar.a
 refine ⟨_,ad (cH (pS (db (v:=.ref CC) rfl mgC rfl) cf GC hr bC br (aa (pv 0) (aa (pv 1) (aa (pv 2) ac))))) (af (aJ (pv 0) (pv 3) rfl)),?_⟩
 refine ⟨_,rfl,_,rfl,_,rfl,a,dx,.add,x,y,rfl,ha,λH' h1 h2=>?_⟩
 exact ⟨_,rfl,_,rfl,a,CW .add,dx,_,rfl,h1,T.cl _,T.nA _,Nat.lt_of_le_of_lt (cn _ _ _) (by show 1+1<1000;decide),q _ ae λb o n e=>by rw [aq n];exact h2 b o n e⟩
theorem tO(F:Fun K "__init__" "PlusStep.__init__" cU f fd)(T:TxW K CW):FnOk P w K mg base CX0 1 f fd ["self","amount"] (fV CW .plus):=by
 refine F.ok g9 (λvs H Q E h=>?_) (λcdv A outer s H vs Q E hr h=>?_)
 ·obtain ⟨a,dx,ns,rfl,ar,_⟩:=h
  obtain ⟨x,rfl,_⟩:=ar.p
  rfl
 obtain ⟨a,dx,ns,rfl,ar,ha,q⟩:=h
 obtain ⟨x,rfl,_⟩:=ar.p
 refine ⟨_,af (aJ (pv 0) (pv 1) rfl),?_⟩
 exact ⟨_,rfl,_,rfl,a,CW .plus,dx,[],rfl,ha,T.cl _,T.nA _,(by show 0<1000;decide),q _ ae bp⟩
theorem tR(F:Fun K "__init__" "NeedStep.__init__" cV f fd)(T:TxW K CW):FnOk P w K mg base CX0 1 f fd ["self","amount"] (fV CW .need):=by
 refine F.ok hU (λvs H Q E h=>?_) (λcdv A outer s H vs Q E hr h=>?_)
 ·obtain ⟨a,dx,ns,rfl,ar,_⟩:=h
  obtain ⟨x,rfl,_⟩:=ar.n
  rfl
 obtain ⟨a,dx,ns,rfl,ar,ha,q⟩:=h
 obtain ⟨x,rfl,_⟩:=ar.n
 refine ⟨_,af (aJ (pv 0) (pv 1) rfl),?_⟩
 exact ⟨_,rfl,_,rfl,a,CW .need,dx,[],rfl,ha,T.cl _,T.nA _,(by show 0<1000;decide),q _ ae bp⟩
theorem mL{wd:Wd}(hw:wd=.plus\/wd=.need)(F:Fun K "house" "Step.house" eM f fd):FnOk P w K mg base CX0 1 f fd ["self"] (fX CW wd):=by
 refine F.ok jN (λvs H Q E h=>?_) (λcdv A outer s H vs Q E hr h=>?_)
 ·obtain ⟨v,ns,rfl,_⟩:=h
  rfl
 obtain ⟨v,ns,rfl,ar,st,q⟩:=h
 refine ⟨_,af (ao bb),?_⟩
 rcases hw with rfl | rfl<;>exact q
theorem gO{wd:Wd}(hw:isC wd=true\/wd=.add)(F:Fun K "house" "CellStep.house" cD f fd)(T:TxW K CW):FnOk P w K mg base CX0 1 f fd ["self"] (fX CW wd):=by
 refine F.ok gH (λvs H Q E h=>?_) (λcdv A outer s H vs Q E hr h=>?_)
 ·obtain ⟨v,ns,rfl,_⟩:=h
  rfl
 obtain ⟨v,ns,rfl,ar,⟨a,dx,rfl,ha⟩,q⟩:=h
 refine ⟨_,af (ao (aA (pv 0) rfl)),?_⟩
 rcases hw with hw | rfl
 ·obtain ⟨x,y,rfl,_,_,e⟩:=ar.c hw
  rw [e] at ha
  refine ⟨_,rfl,a,CW wd,dx,_,_,rfl,ha,T.cl _,T.nW _,by rw [aU (by decide +kernel),bu],?_⟩
  cases wd<;>first | exact q | cases hw
 ·obtain ⟨x,y,z,rfl,_⟩:=ar.a
  exact ⟨_,rfl,a,CW .add,dx,_,_,rfl,ha,T.cl _,T.nW _,(by show (ak "amount" _ (ak "cell" _ (ak "where" _ []))).lookup _=_;rw [aU (by decide +kernel),aU (by decide +kernel),bu];rfl),q⟩
theorem vV(F:Fun K "house" "SumStep.house" cT f fd)(T:TxW K CW):FnOk P w K mg base CX0 1 f fd ["self"] (fX CW .sum):=by
 refine F.ok g8 (λvs H Q E h=>?_) (λcdv A outer s H vs Q E hr h=>?_)
 ·obtain ⟨v,ns,rfl,_⟩:=h
  rfl
 obtain ⟨v,ns,rfl,ar,⟨a,dx,rfl,ha⟩,q⟩:=h
 obtain ⟨x,y,z,rfl,_⟩:=ar.s
 refine ⟨_,af (ao (aA (pv 0) rfl)),?_⟩
 exact ⟨_,rfl,a,CW .sum,dx,_,_,rfl,ha,T.cl _,T.nW _,(by show (ak "high" _ (ak "low" _ (ak "where" _ []))).lookup _=_;rw [aU (by decide +kernel),aU (by decide +kernel),bu];rfl),q⟩
theorem iu{x:Stp}(h:Ar x.1 x.2):(aH x.1 x.2=.non/\hvI (aH x.1 x.2)=none)\/∃i,aH x.1 x.2=.int i:=by
 by_cases hw:x.1=.plus\/x.1=.need
 ·rw [Ar.homeless hw]
  exact .inl ⟨rfl,rfl⟩
 ·obtain ⟨i,r,e,eh⟩:=h.home (λz=>hw (.inl z)) (λz=>hw (.inr z))
  exact .inr ⟨i,eh⟩
theorem tH(F:Fun K "read_pact" "read_pact" cL f fd)(B:TxB mg){aM:Addr}(mM:mg "MANNERS"=some (.ref aM))(tM:∀H,SqT K H aM [.str "held",.str "walked"])(cM:∃t,mg "MOST_STEPS"=some (.int 12 t)){fI:Addr}{dI:FuncData}(MP:Mk K CP fI)(mgP:mg "Pact"=some (.ref CP))
  (GI:FnOk P w K mg base CX0 1 fI dI ["self","manner","steps"] (pD CP))(bI:Binds K dI ["self","manner","steps"] [])(GR:GF P w K mg base CX0 7 "read_part" ["text","number"] (kR CW)):FnOk P w K mg base CX0 8 f fd ["text"] (kS CP CW):=by
 refine F.ok sc_read_pact (λvs H Q E h=>?_) (λcdv A outer s H vs Q E hr h=>?_)
 ·obtain ⟨b,xs,rfl,_⟩:=h
  rfl
 obtain ⟨b,xs,rfl,ar,h0,hl,q⟩:=h
 obtain ⟨tM0,cM⟩:=cM
 have nd:=sc_read_pact.nd
 have hr1:Room (1+1) _:=hr.mono (by decide)
 refine ⟨_,ad (aC (i:=1) nd rfl (Or.inl rfl) (d0 PySem.F.plainAttrs_str PySem.F.slot_str_partition PySem.F.type_str_partition v8 (pv 0) (aa aB ac)))
  (ad (aF (PW.pt (gK (ap (qF cStr (hun hr)) (aG (r:=cS K) aV (pv 1) aj (λ_ _=>rfl)) (db (v:=.ref aM) rfl mM rfl) rfl) (gz (ap bf (aG (r:=cS K) aV (pv 1) aj (λ_ _=>rfl)) aB (ay _))))) aE az)
  (ad (aC (i:=2) nd rfl (Or.inr rfl) (d0 PySem.F.plainAttrs_str PySem.F.slot_str_split PySem.F.type_str_split qN (aG (r:=cS K) aV (pv 1) aj (λ_ _=>rfl)) (aa aB ac)))
  (ad (aF (ap iD (au av rfl B.len PySem.boot_len (aa (pv 2) ac)) (db (v:=.int 12) rfl cM ⟨_,rfl⟩) (ay _)) aE az)
  (af (ao (bZ MP GI hr1 rfl mgP bI .nil br (aa (aG (r:=cS K) aV (pv 1) aj (λ_ _=>rfl)) (aa (gk jc rfl (ie rfl B.range (aa (au av rfl B.len PySem.boot_len (aa (pv 2) ac)) ac)) (λ_ _ _ _=>eG)
   (λ_ _ _ _=>pc GR hr (aa (aG (r:=cA K) aK (pv 1) (pv 0) (λ_ _=>rfl)) (aa (pv 0) ac)))) ac)))))))),?_⟩
 have js:=jx ar (by omega)
 have ml:=yg b
 have l1:(Str.ofString " ").length=1:=by decide +kernel
 have hs:(100000:Nat)<=sizeLine:=by decide
 have pl:(ptx (mS b) xs).length<=40000:=by
  have:(ptx (mS b) xs).length=(mS b).length+(Str.ofString " ").length+(Str.join (Str.ofString "; ") (xs.map sx)).length:=by
   show (((mS b).cps++(Str.ofString " ").cps)++(Str.join (Str.ofString "; ") (xs.map sx)).cps).size=_
   rw [Array.size_append,Array.size_append]
   rfl
  omega
 refine ⟨_,rfl,rfl,_,_,rfl,rfl,(by decide +kernel),(by omega),λp hp=>?_⟩
 rw [tf]
 have s1:=ai (o:=.tup [.str (mS b),.str (Str.ofString " "),.str (Str.join (Str.ofString "; ") (xs.map sx))]) hp
 have hp1:(upd H p (.tup [.str (mS b),.str (Str.ofString " "),.str (Str.join (Str.ofString "; ") (xs.map sx))])) p=some (.tup [.str (mS b),.str (Str.ofString " "),.str (Str.join (Str.ofString "; ") (xs.map sx))]):=ae
 generalize (upd H p (HO.tup [.str (mS b),.str (Str.ofString " "),.str (Str.join (Str.ofString "; ") (xs.map sx))]))=H1 at s1 hp1 ⊢
 refine ⟨_,rfl,p,_,_,_,rfl,rfl,SqT.of hp1,St.at0,mS b,aM,_,["held","walked"],rfl,rfl,.inr (tM H1),.cons rfl (.cons rfl .nil),_,rfl,?_⟩
 have hin:mS b∈(["held","walked"]:List Str):=by cases b<;>decide +kernel
 refine bz (λc=>absurd hin (of_decide_eq_false (by simpa using c))) (λ_=>?_)
 refine ⟨_,rfl,p,_,_,_,rfl,rfl,SqT.of hp1,St.at1,rfl,_,rfl,bz (λc=>absurd (V.str.inj (of_decide_eq_true c)) (by decide +kernel)) (λ_=>?_)⟩
 refine ⟨_,rfl,p,_,_,_,rfl,rfl,SqT.of hp1,St.at2,rfl,_,_,rfl,rfl,(by decide +kernel),(by omega),λtl htl=>?_⟩
 rw [qq h0]
 have s2:=ai (o:=.lst ((xs.map sx).map V.str)) htl
 have ht2:(upd H1 tl (.lst ((xs.map sx).map V.str))) tl=some (.lst ((xs.map sx).map V.str)):=ae
 have hp2:=s2 _ _ hp1
 generalize (upd H1 tl (HO.lst ((xs.map sx).map V.str)))=H2 at s2 ht2 hp2 ⊢
 have s02:=s1.trans s2
 have ll:((xs.map sx).map V.str).length=xs.length:=by rw [List.length_map,List.length_map]
 refine ⟨_,rfl,tl,_,rfl,.inl (SqL.of ht2),_,_,rfl,rfl,_,rfl,bz (λc=>absurd (of_decide_eq_true c) (by rw [ll];omega)) (λ_=>?_)⟩
 refine ⟨_,rfl,p,_,_,_,rfl,rfl,SqT.of hp2,St.at0,?_⟩
 refine ⟨_,rfl,tl,_,rfl,.inl (SqL.of ht2),_,rfl,by omega,by rw [ll];omega,?_⟩
 have e0:((((xs.map sx).map V.str).length:Nat):Int).toNat=xs.length:=by rw [ll];rfl
 rw [e0]
 refine jw (n:=xs.length) (λi ys H'=>Same H2 H'/\StsP CW H' (xs.take i) ys) ⟨Same.refl _,.nil⟩ (by omega) ?_ ?_
 ·rintro i ys H3 hi ⟨s3,ps⟩
  have hx:xs[i]?=some xs[i]:=List.getElem?_eq_getElem hi
  refine j6 ⟨_,rfl,_,rfl,tl,_,_,_,rfl,rfl,SqL.of (s3 _ _ ht2),bn (by rw [List.getElem?_map,List.getElem?_map,hx];rfl),_,rfl,xs[i],_,rfl,ar _ (List.getElem_mem hi),λv H4 s4 sv=>⟨s3.trans s4,?_⟩⟩
  have e2:xs.take (i+1)=xs.take i++[xs[i]]:=by
   rw [List.take_add_one,hx]
   rfl
  rw [e2]
  exact (ps.keep s4).app (.cons sv .nil)
 ·rintro ys H3 ⟨s3,ps⟩ l hl3
  rw [List.take_length] at ps
  have s4:=ai (o:=.lst ys) hl3
  have h4:(upd H3 l (.lst ys)) l=some (.lst ys):=ae
  have ps4:=ps.keep s4
  generalize (upd H3 l (HO.lst ys))=H4 at s4 h4 ps4 ⊢
  intro x dx nx ndx nex
  refine ⟨x,dx,_,l,ys,rfl,ae,(by rw [aq (ah h4 nx),aq (ah h4 ndx)];exact h4),λsl tp H5 e1 e2 e3 n1 n2 k=>⟨rfl,?_⟩⟩
  have s5:=fz nx ndx k
  have z4:H4 sl=none:=by
   cases e:H4 sl with
   | none=>rfl
   | some u =>
    rw [aq (ah e nx),aq (ah e ndx),e] at n1
    cases n1
  have z0:H sl=none:=by
   cases e:H sl with
   | none=>rfl
   | some u =>
    rw [(s02.trans (s3.trans s4)) _ _ e] at z4
    cases z4
  exact q x dx sl tp ys H5 (s02.trans (s3.trans (s4.trans s5))) z0 ⟨e1,e2,e3,ps4.keep s5⟩
theorem qJ(F:Fun K "houses_of" "houses_of" cN f fd)(B:TxB mg)(mSet:mg "set"=none)(T:TxP K CP)(W:TxW K CW)(GH:∀wd,GM P w K mg base CX0 1 (CW wd) "house" ["self"] (fX CW wd)):FnOk P w K mg base CX0 2 f fd ["pact"] (i5 CP CW):=by
 refine F.ok lp (λvs H Q E h=>?_) (λcdv A outer s H vs Q E hr h=>?_)
 ·obtain ⟨v,b,xs,rfl,_⟩:=h
  rfl
 obtain ⟨v,b,xs,rfl,⟨a,dx,sl,tp,us,rfl,pa⟩,ar,hl,q⟩:=h
 refine ⟨_,af (ao (aO dX rfl B.tuple PyProof.Rows.boot_tuple (aa (au (jV rfl) rfl B.sorted PyProof.Rows.boot_sorted (aa (aO (rh rfl) rfl mSet PyProof.Rows.boot_set (aa
  (gk jd rfl (sT (aA (pv 0) rfl)) (λ_ _ _ _=>lD (ap eJ (pR λwd=>pm0 (GH wd) (pv 0) (W.cl wd) hr) bb (ay _))) (λ_ _ _ _=>pR λwd=>pm0 (GH wd) (pv 0) (W.cl wd) hr)) ac)) ac)) ac))),?_⟩
 have hs:(100000:Nat)<=sizeLine:=by decide
 have pl:xs.length=us.length:=pa.st.len
 refine ⟨_,rfl,a,CP,dx,_,_,rfl,pa.ins,T.cl,T.np,zo _ _ _,tp,rfl,⟨_,SqT.of pa.tp⟩,?_⟩
 refine ug (xs:=us) (λi ys H1=>H1=H/\ys=(ir (xs.take i)).map V.int) ⟨rfl,rfl⟩ (by omega) (λi ys H1 _ z=>by rw [z.1];exact SqT.of pa.tp) ?_ ?_
 ·rintro i u ys H1 hu ⟨rfl,rfl⟩
  obtain ⟨x,ex,sa,sdx,rfl,hsa⟩:=pa.st.get hu
  have hx:=List.mem_of_getElem? ex
  have f1:=pY (m:="house") (by decide +kernel) (by decide +kernel) (by decide +kernel) (by decide +kernel) (by decide +kernel) x.1 x.2
  have et:xs.take (i+1)=xs.take i++[x]:=by rw [List.take_add_one,ex];rfl
  have eh:ir (xs.take (i+1))=ir (xs.take i)++ir [x]:=by rw [et];exact List.filterMap_append
  refine ⟨x.1,_,rfl,sa,sdx,_,rfl,hsa,f1,_,x.2,rfl,ar x hx,⟨sa,sdx,rfl,hsa⟩,rfl,_,rfl,?_⟩
  rcases iu (ar x hx) with ⟨e1,e2⟩ | ⟨n,e1⟩
  ·rw [e1,decide_eq_true rfl]
   refine aI ⟨rfl,?_⟩
   have:ir [x]=[]:=by
    unfold ir
    rw [List.filterMap_cons,e2]
    rfl
   rw [eh,this,List.append_nil]
  ·have ne:¬aH x.1 x.2=.non:=λz=>by rw [e1] at z;cases z
   rw [decide_eq_false ne]
   refine bU ⟨x.1,_,rfl,sa,sdx,_,rfl,hsa,f1,_,x.2,rfl,ar x hx,⟨sa,sdx,rfl,hsa⟩,rfl,?_⟩
   have:ir [x]=[n]:=by
    unfold ir
    rw [List.filterMap_cons,e1]
    rfl
   rw [eh,this,List.map_append,e1]
   rfl
 ·rintro ys H1 ⟨rfl,rfl⟩ l hl1
  rw [← pl,List.take_length]
  have s1:=ai (o:=.lst ((ir xs).map V.int)) hl1
  have lh:(ir xs).length<=xs.length:=List.length_filterMap_le _ _
  refine ⟨l,ir xs,rfl,SqL.of ae,by omega,λa2 o2 is2 ha2 sd2 m2=>?_⟩
  have s2:=ai (o:=Fq a2 o2) ha2
  obtain ⟨_,_,_,_,_,_,_,_,_,nd2,_⟩:=id sd2
  refine ⟨a2,o2,is2,rfl,ae,sd2,?_,λl3 ns3 hl3 so3=>?_⟩
  ·have:(is2.map (·.1)).length<=(ir xs).length:=List.Nodup.length_le_of_subset nd2 λn hn=>(m2 n).mp hn
   rw [List.length_map] at this
   omega
  have s3:=ai (o:=.lst (ns3.map V.int)) hl3
  refine ⟨l3,_,rfl,.inl ⟨SqL.of ae,λt ht=>?_⟩⟩
  exact q t ns3 _ (s1.trans (s2.trans (s3.trans (ai ht)))) ae ⟨so3.1.symm.nodup nd2,so3.2,λn=>so3.1.mem_iff.trans (m2 n)⟩
end
end K41
namespace K41
open PySem L2 Lo
section
variable {P:Program}{w:World}{K:PySem.W.Frag}{mg:Str->Option Value}{base:Heap}{f CL CS CP:Addr}{fd:FuncData}{C:Kd->Addr}{CW:Wd->Addr}
theorem qG(F:Fun K "__init__" "Stand.__init__" eP f fd)(B:TxB mg)(D:TxD K CS):FnOk P w K mg base CX0 1 f fd ["self","cells"] (pC CS K):=by
 refine F.ok jP (λvs H Q E h=>?_) (λcdv A outer s H vs Q E hr h=>?_)
 ·obtain ⟨l,dx,c,cs,rfl,_⟩:=h
  rfl
 obtain ⟨l,dx,c,cs,rfl,hl,hc,hz,q⟩:=h
 refine ⟨_,ad (aJ (pv 0) (aO eT rfl B.list PyProof.Rows.boot_list (aa (pv 1) ac)) rfl)
  (ad (aJ (pv 0) (aT ac) rfl) (ad (aJ (pv 0) gN rfl) (ad (aJ (pv 0) gN rfl) (ad (aJ (pv 0) gN rfl) (ad (aJ (pv 0) sX rfl) (af (aJ (pv 0) gN rfl))))))),?_⟩
 refine ⟨_,rfl,c,_,rfl,.inl (SqL.of hc),λcl n1=>?_⟩
 obtain ⟨a1,a2,a3,k1⟩:=cy (o:=.lst (cs.map V.int)) (fs':=ak "cells" (.ref cl) []) hl n1
 refine ⟨_,rfl,l,CS,dx,_,rfl,a1,D.cl,D.nc,(by show 0<1000;decide),?_⟩
 have z1:cl≠l:=bw a3 a2 (by intro z;cases z)
 generalize (upd (upd H cl (.lst (cs.map V.int))) l (.ins CS dx (ak "cells" (.ref cl) [])))=H1 at a2 a3 k1 ⊢
 refine ⟨(by show 0<=sizeLine;decide),λbg n2=>?_⟩
 obtain ⟨b1,b2,b3,k2⟩:=cy (o:=.lst []) (fs':=ak "begins" (.ref bg) (ak "cells" (.ref cl) [])) a2 n2
 refine ⟨_,rfl,l,CS,dx,_,rfl,b1,D.cl,D.nb,(cE (n:=999) (by show 0<999;decide)),?_⟩
 have z2:bg≠l:=bw b3 b2 (by intro z;cases z)
 generalize (upd (upd H1 bg (.lst [])) l (.ins CS dx (ak "begins" (.ref bg) (ak "cells" (.ref cl) []))))=H2 at b2 b3 k2 ⊢
 refine λwk n3=>?_
 obtain ⟨c1,c2,c3,k3⟩:=cy (o:=.dT []) (fs':=ak "worked" (.ref wk) (ak "begins" (.ref bg) (ak "cells" (.ref cl) []))) b2 n3
 refine ⟨_,rfl,l,CS,dx,_,rfl,c1,D.cl,D.nw,(cE (n:=999) (cE (n:=998) (by show 0<998;decide))),?_⟩
 have z3:wk≠l:=bw c3 c2 (by intro z;cases z)
 generalize (upd (upd H2 wk (.dT [])) l (.ins CS dx (ak "worked" (.ref wk) (ak "begins" (.ref bg) (ak "cells" (.ref cl) [])))))=H3 at c2 c3 k3 ⊢
 refine λrd n4=>?_
 obtain ⟨d1,d2,d3,k4⟩:=cy (o:=.dT []) (fs':=ak "readies" (.ref rd) (ak "worked" (.ref wk) (ak "begins" (.ref bg) (ak "cells" (.ref cl) [])))) c2 n4
 refine ⟨_,rfl,l,CS,dx,_,rfl,d1,D.cl,D.nr,(cE (n:=999) (cE (n:=998) (cE (n:=997) (by show 0<997;decide)))),?_⟩
 have z4:rd≠l:=bw d3 d2 (by intro z;cases z)
 generalize (upd (upd H3 rd (.dT [])) l (.ins CS dx (ak "readies" (.ref rd) (ak "worked" (.ref wk) (ak "begins" (.ref bg) (ak "cells" (.ref cl) []))))))=H4 at d2 d3 k4 ⊢
 refine λen n5=>?_
 obtain ⟨e1,e2,e3,k5⟩:=cy (o:=.dT []) (fs':=ak "ends" (.ref en) (ak "readies" (.ref rd) (ak "worked" (.ref wk) (ak "begins" (.ref bg) (ak "cells" (.ref cl) []))))) d2 n5
 refine ⟨_,rfl,l,CS,dx,_,rfl,e1,D.cl,D.ne,(cE (n:=999) (cE (n:=998) (cE (n:=997) (cE (n:=996) (by show 0<996;decide))))),?_⟩
 have z5:en≠l:=bw e3 e2 (by intro z;cases z)
 generalize (upd (upd H4 en (.dT [])) l (.ins CS dx (ak "ends" (.ref en) (ak "readies" (.ref rd) (ak "worked" (.ref wk) (ak "begins" (.ref bg) (ak "cells" (.ref cl) [])))))))=H5 at e2 e3 k5 ⊢
 refine λwa n6=>?_
 obtain ⟨f1,f2,f3,k6⟩:=cy (o:=NDt wa []) (fs':=ak "walks" (.ref wa) (ak "ends" (.ref en) (ak "readies" (.ref rd) (ak "worked" (.ref wk) (ak "begins" (.ref bg) (ak "cells" (.ref cl) [])))))) e2 n6
 refine ⟨_,rfl,l,CS,dx,_,rfl,f1,D.cl,D.na,(cE (n:=999) (cE (n:=998) (cE (n:=997) (cE (n:=996) (cE (n:=995) (by show 0<995;decide)))))),?_⟩
 have z6:wa≠l:=bw f3 f2 (by intro z;cases z)
 generalize (upd (upd H5 wa (NDt wa [])) l (.ins CS dx (ak "walks" (.ref wa) (ak "ends" (.ref en) (ak "readies" (.ref rd) (ak "worked" (.ref wk) (ak "begins" (.ref bg) (ak "cells" (.ref cl) []))))))))=H6 at f2 f3 k6 ⊢
 refine λov n7=>?_
 obtain ⟨g1,g2,g3,k7⟩:=cy (o:=.dT []) (fs':=sf ⟨l,dx,cl,bg,wk,rd,en,wa,ov⟩) f2 n7
 refine ⟨_,rfl,l,CS,dx,_,rfl,g1,D.cl,D.no,(cE (n:=999) (cE (n:=998) (cE (n:=997) (cE (n:=996) (cE (n:=995) (cE (n:=994) (by show 0<994;decide))))))),?_⟩
 have z7:ov≠l:=bw g3 g2 (by intro z;cases z)
 have a4:=k2 _ _ z1 a3
 have a5:=k3 _ _ z1 a4
 have a6:=k4 _ _ z1 a5
 have a7:=k5 _ _ z1 a6
 have a8:=k6 _ _ z1 a7
 have a9:=k7 _ _ z1 a8
 have b4:=k3 _ _ z2 b3
 have b5:=k4 _ _ z2 b4
 have b6:=k5 _ _ z2 b5
 have b7:=k6 _ _ z2 b6
 have b8:=k7 _ _ z2 b7
 have c4:=k4 _ _ z3 c3
 have c5:=k5 _ _ z3 c4
 have c6:=k6 _ _ z3 c5
 have c7:=k7 _ _ z3 c6
 have d4:=k5 _ _ z4 d3
 have d5:=k6 _ _ z4 d4
 have d6:=k7 _ _ z4 d5
 have e4:=k6 _ _ z5 e3
 have e5:=k7 _ _ z5 e4
 have f4:=k7 _ _ z6 f3
 refine q ⟨l,dx,cl,bg,wk,rd,en,wa,ov⟩ _ rfl ⟨[],g2,?_,.nil,(λx hx=>nomatch hx),⟨(λx hx=>nomatch hx),List.nodup_nil⟩,?_⟩ ?_ ((((((k1.trans k2).trans k3).trans k4).trans k5).trans k6).trans k7)
 ·intro x hx
  simp only [kB,List.mem_cons,List.not_mem_nil,or_false] at hx
  rcases hx with e | e | e | e | e | e | e<;>subst e
  ·exact a9
  ·exact b8
  ·exact c7
  ·exact d6
  ·exact e5
  ·exact f4
  ·exact g3
 ·show [cl,bg,wk,rd,en,wa,ov].Nodup
  have y12:cl≠bg:=ah a3 n2
  have y13:cl≠wk:=ah a4 n3
  have y14:cl≠rd:=ah a5 n4
  have y15:cl≠en:=ah a6 n5
  have y16:cl≠wa:=ah a7 n6
  have y17:cl≠ov:=ah a8 n7
  have y23:bg≠wk:=ah b3 n3
  have y24:bg≠rd:=ah b4 n4
  have y25:bg≠en:=ah b5 n5
  have y26:bg≠wa:=ah b6 n6
  have y27:bg≠ov:=ah b7 n7
  have y34:wk≠rd:=ah c3 n4
  have y35:wk≠en:=ah c4 n5
  have y36:wk≠wa:=ah c5 n6
  have y37:wk≠ov:=ah c6 n7
  have y45:rd≠en:=ah d3 n5
  have y46:rd≠wa:=ah d4 n6
  have y47:rd≠ov:=ah d5 n7
  have y56:en≠wa:=ah e3 n6
  have y57:en≠ov:=ah e4 n7
  have y67:wa≠ov:=ah f3 n7
  simp [*]
 ·intro b hb
  have hb':b∈[cl,bg,wk,rd,en,wa,ov]:=hb
  simp only [List.mem_cons,List.not_mem_nil,or_false] at hb'
  rcases hb' with e | e | e | e | e | e | e<;>subst e
  ·exact n1
  ·exact ck k1 a2 n2
  ·exact ck (k1.trans k2) b2 n3
  ·exact ck ((k1.trans k2).trans k3) c2 n4
  ·exact ck (((k1.trans k2).trans k3).trans k4) d2 n5
  ·exact ck ((((k1.trans k2).trans k3).trans k4).trans k5) e2 n6
  ·exact ck (((((k1.trans k2).trans k3).trans k4).trans k5).trans k6) f2 n7
theorem vP(F:Fun K "news" "Stand.news" eO f fd)(B:TxB mg)(D:TxD K CS):FnOk P w K mg base CX0 1 f fd ["self"] (on CS K):=by
 refine F.ok jO (λvs H Q E h=>?_) (λcdv A outer s H vs Q E hr h=>?_)
 ·obtain ⟨A,d,rfl,_⟩:=h
  rfl
 obtain ⟨S,d,rfl,⟨us0,st⟩,h64,q⟩:=h
 refine ⟨_,af (ao (aO dX rfl B.tuple PyProof.Rows.boot_tuple (aa (au (l4 rfl (hun (c:=3) hr)) rfl B.sorted PyProof.Rows.boot_sorted (aa (sW (aA (pv 0) rfl)) ac)) ac))),?_⟩
 refine ⟨_,rfl,S.l,CS,S.dx,_,_,rfl,st.ins,D.cl,D.ne,zf S,S.en,_,rfl,st.en,λv hv=>?_⟩
 have s1:=ai (o:=Vw v S.en) hv
 refine ⟨v,S.en,d.ends,rfl,ae,s1 _ _ st.en,h64,λH' l ys s2 hl hp=>?_⟩
 have s3:=ai (o:=.lst ys) hl
 refine ⟨l,ys,rfl,.inl ⟨SqL.of ae,λt ht=>?_⟩⟩
 have s4:=ai (o:=.tup ys) ht
 exact q _ _ (s1.trans (s2.trans (s3.trans s4))) ⟨t,ys,rfl,ae,Paired.mapP hp λ_ _ z=>z.keep s4.ts⟩
variable {CH:Addr}
theorem tW(F:Fun K "__init__" "Sheet.__init__" eR f fd)(DH:TxH K CH):FnOk P w K mg base CX0 1 f fd ["self","stand"] (pH CS CH K):=by
 refine F.ok jR (λvs H Q E h=>?_) (λcdv A outer s H vs Q E hr h=>?_)
 ·obtain ⟨l,dx,A,d,rfl,_⟩:=h
  rfl
 obtain ⟨l,dx,S,d,rfl,hl,st,nSl,q⟩:=h
 refine ⟨_,ad (aJ (pv 0) (pv 1) rfl) (ad (aJ (pv 0) (aT ac) rfl) (ad (aJ (pv 0) (aT ac) rfl) (af (aJ (pv 0) bb rfl)))),?_⟩
 refine ⟨_,rfl,_,rfl,l,CH,dx,_,rfl,hl,DH.cl,DH.ht,(by show 0<1000;decide),?_⟩
 have k1:Kp l H (upd H l (.ins CH dx (ak "stand" (.ref S.l) []))):=bp
 have h1:(upd H l (.ins CH dx (ak "stand" (.ref S.l) []))) l=some (.ins CH dx (ak "stand" (.ref S.l) [])):=ae
 generalize (upd H l (HO.ins CH dx (ak "stand" (.ref S.l) [])))=H1 at k1 h1 ⊢
 refine ⟨(by show 0<=sizeLine;decide),λrw' n1=>?_⟩
 obtain ⟨b1,b2,b3,k2⟩:=cy (o:=.lst []) (fs':=ak "rows" (.ref rw') (ak "stand" (.ref S.l) [])) h1 n1
 refine ⟨_,rfl,l,CH,dx,_,rfl,b1,DH.cl,DH.hw,(cE (n:=999) (by show 0<999;decide)),?_⟩
 have z2:rw'≠l:=bw b3 b2 (by intro z;cases z)
 generalize (upd (upd H1 rw' (.lst [])) l (.ins CH dx (ak "rows" (.ref rw') (ak "stand" (.ref S.l) []))))=H2 at b2 b3 k2 ⊢
 refine ⟨(by show 0<=sizeLine;decide),λsn n2=>?_⟩
 obtain ⟨c1,c2,c3,k3⟩:=cy (o:=.lst []) (fs':=ak "sent" (.ref sn) (ak "rows" (.ref rw') (ak "stand" (.ref S.l) []))) b2 n2
 refine ⟨_,rfl,l,CH,dx,_,rfl,c1,DH.cl,DH.hs,(cE (n:=999) (cE (n:=998) (by show 0<998;decide))),?_⟩
 have z3:sn≠l:=bw c3 c2 (by intro z;cases z)
 have b4:=k3 _ _ z2 b3
 generalize (upd (upd H2 sn (.lst [])) l (.ins CH dx (ak "sent" (.ref sn) (ak "rows" (.ref rw') (ak "stand" (.ref S.l) [])))))=H3 at c2 c3 k3 b4 ⊢
 refine ⟨_,rfl,l,CH,dx,_,rfl,c2,DH.cl,DH.hl,(cE (n:=999) (cE (n:=998) (cE (n:=997) (by show 0<997;decide)))),?_⟩
 have k4:Kp l H3 (upd H3 l (.ins CH dx (hf S.l ⟨l,dx,rw',sn⟩ .non))):=bp
 have h4:(upd H3 l (.ins CH dx (hf S.l ⟨l,dx,rw',sn⟩ .non))) l=some (.ins CH dx (hf S.l ⟨l,dx,rw',sn⟩ .non)):=ae
 have kA:Kp l H (upd H3 l (.ins CH dx (hf S.l ⟨l,dx,rw',sn⟩ .non))):=k1.trans (k2.trans (k3.trans k4))
 have r0:H rw'=none:=ck k1 h1 n1
 have s0:H sn=none:=ck (k1.trans k2) b2 n2
 have no:∀{b:Addr},H b=none->b∉S.own:=λ{b} hb hm=>by
  obtain ⟨us0,stu⟩:=st
  obtain ⟨o,e,_⟩:=stu.own hm
  rw [hb] at e
  cases e
 have lo:l∉S.own:=λhm=>by
  obtain ⟨us0,stu⟩:=st
  obtain ⟨o,e,_,n⟩:=stu.own hm
  rw [hl] at e
  cases e
  exact n _ _ _ rfl
 have ts:bD H (upd H3 l (.ins CH dx (hf S.l ⟨l,dx,rw',sn⟩ .non))):=λb xs e=>kA b _ (λz=>by rw [z,hl] at e;cases e) e
 exact q ⟨l,dx,rw',sn⟩ _ rfl ⟨st.kp kA lo ts nSl,h4,k4 _ _ z2 b4,⟨[],k4 _ _ z3 c3,.nil⟩,.inl rfl,lo,no r0,no s0,ah b3 n2,nSl⟩ r0 s0 kA
theorem tU(F:Fun K "send" "Sheet.send" eQ f fd)(DH:TxH K CH):FnOk P w K mg base CX0 1 f fd ["self","to","word","p","more"] (iR CS CH K):=by
 refine F.ok jQ (λvs H Q E h=>?_) (λcdv A outer s H vs Q E hr h=>?_)
 ·obtain ⟨A,h,d,rs,ws,v,x,rfl,_⟩:=h
  rfl
 obtain ⟨S,h,d,rs,ws,v,x,rfl,sh,hz,q⟩:=h
 obtain ⟨us,hsn,pws⟩:=sh.snt
 refine ⟨_,af (cH (d0 PySem.F.plainAttrs_list PySem.F.slot_list_append PySem.F.type_list_append dg (aA (pv 0) rfl) (aa (ba (aa (pv 1) (aa (ba (aa (pv 2) (aa (pv 3) (aa (pv 4) ac)))) ac))) ac))),?_⟩
 refine ⟨_,rfl,h.l,CH,h.dx,_,_,rfl,sh.ins,DH.cl,DH.hs,wY _ _ _,.inl ⟨rfl,_,SqL.of hsn⟩,_,rfl,_,rfl,_,rfl,_,rfl,(by show 3<=sizeLine;decide),λt2 ht2=>⟨(by show 2<=sizeLine;decide),λt ht=>?_⟩⟩
 have s1:=ai (o:=.tup [.str x.2.1,.ref x.2.2.1,.ref x.2.2.2]) ht2
 have s2:=ai (o:=.tup [.int x.1,.ref t2]) ht
 have hw:WsAt (upd (upd H t2 (.tup [.str x.2.1,.ref x.2.2.1,.ref x.2.2.2])) t (.tup [.int x.1,.ref t2])) x (.ref t):=⟨t,t2,rfl,ae,s2 _ _ ae⟩
 have s12:=s1.trans s2
 have sh2:=sh.keep s12
 have hsn2:=s12 _ _ hsn
 generalize (upd (upd H t2 (HO.tup [.str x.2.1,.ref x.2.2.1,.ref x.2.2.2])) t (HO.tup [.int x.1,.ref t2]))=H2 at s12 sh2 hsn2 hw ⊢
 refine ⟨h.sn,us,_,rfl,rfl,hsn2,cz (by rw [← pws.len];omega),?_⟩
 have kp3:Kp h.sn H2 (upd H2 h.sn (.lst (us++[.ref t]))):=bp
 have ts3:bD H2 (upd H2 h.sn (.lst (us++[.ref t]))):=λb xs e=>kp3 b _ (λz=>by rw [z,hsn2] at e;cases e) e
 refine q _ ⟨sh2.st.kp kp3 sh.n3 ts3 (λz=>by have e:=sh2.st.ins;rw [z,hsn2] at e;cases e),kp3 _ _ (bw sh2.ins hsn2 (by intro z;cases z)) sh2.ins,kp3 _ _ sh.n4 sh2.rws,⟨_,ae,(Paired.mapP pws λ_ _ z=>(z.keep s12.ts).keep ts3).app (.cons (hw.keep ts3) .nil)⟩,sh2.lat.imp id λz=>z.keep ts3,sh.n1,sh.n2,sh.n3,sh.n4,sh.n5⟩ λb o nb e=>?_
 simp only [Ah.own,List.mem_cons,not_or] at nb
 exact kp3 _ _ nb.2.2.1 (s12 _ _ e)
theorem tV(F:Fun K "rows_told" "Sheet.rows_told" cu f fd)(B:TxB mg)(DH:TxH K CH):FnOk P w K mg base CX0 1 f fd ["self"] (kX CS CH K):=by
 refine F.ok gs (λvs H Q E h=>?_) (λcdv A outer s H vs Q E hr h=>?_)
 ·obtain ⟨A,h,d,rs,ws,v,rfl,_⟩:=h
  rfl
 obtain ⟨S,h,d,rs,ws,v,rfl,sh,q⟩:=h
 refine ⟨_,af (ao (aO eT rfl B.list PyProof.Rows.boot_list (aa (aA (pv 0) rfl) ac))),?_⟩
 exact ⟨_,rfl,h.l,CH,h.dx,_,_,rfl,sh.ins,DH.cl,DH.hw,zC _ _ _,h.rw,_,rfl,.inl (SqL.of sh.rws),λp hp=>q p _ (ai hp) hp ae⟩
variable {CH:Addr}
def zL(CS CH:Addr)(K:PySem.W.Frag):TS:=λD σ H=>∃S h d rs ws v nv,σ=[some (.ref (h:Ah).l),some nv]/\ShA CS CH K H S h d rs ws v/\ws.length<=900/\NwAt K H d.ends nv/\∀p us H',Same H H'->H p=none->H' p=some (.lst us)->Paired (LtAt K H' d.ends) ws us->D.rt (.ref p) H'
theorem vW(F:Fun K "letters_told" "Sheet.letters_told" aQ f fd)(D:TxD K CS)(DH:TxH K CH)(GW:GM P w K mg base CX0 1 CS "news" ["self"] (on CS K)) :
  FnOk P w K mg base CX0 2 f fd ["self"] (oq CS CH K):=by
 refine F.ok sc_Sheet_letters_told (λvs H Q E h=>?_) (λcdv A outer s H vs Q E hr h=>?_)
 ·obtain ⟨A,h,d,rs,ws,v,rfl,_⟩:=h
  rfl
 obtain ⟨S,h,d,rs,ws,v,rfl,sh,hen,hz,q⟩:=h
 have nd:=sc_Sheet_letters_told.nd
 refine ⟨_,ad (aC (i:=1) nd rfl (Or.inr rfl) (jk (ap jp (aA (pv 0) rfl) bb (ay _)) (pm0 GW (aA (pv 0) rfl) D.cl hr) (aA (pv 0) rfl)))
  (bY (zL CS CH K) (af (ao (gk dY rfl (eH (aA (pv 0) rfl)) (λ_ _ _ _=>eG) (λ_ _ _ _=>ba (aa (aG (r:=cS K) aV (pv 0) aj (λ_ _=>rfl)) (aa (aD (r:=wP K) vE (aG (r:=cS K) aV (pv 0) aj (λ_ _=>rfl)) (ba (aa (pv 1) ac))) ac)))))) ?v1),?_⟩
 case v1 =>
  rintro D0 σ H ⟨S,h,d,rs,ws,v,nv,rfl,sh,hz,hnv,q⟩
  obtain ⟨us,hsn,pws⟩:=sh.snt
  refine ⟨_,rfl,h.l,CH,h.dx,_,_,rfl,sh.ins,DH.cl,DH.hs,wY _ _ _,h.sn,rfl,⟨_,SqL.of hsn⟩,?_⟩
  refine iU (xs:=us) (λi ys H'=>Same H H'/\Paired (LtAt K H' d.ends) (ws.take i) ys) ⟨Same.refl _,.nil⟩ (zc (by rw [← pws.len];omega)) (λi ys H' _ z=>SqL.of (z.1 _ _ hsn)) ?_ ?_
  ·rintro i u ys H1 hu ⟨s1,py⟩
   obtain ⟨x,ex,t,t2,rfl,ht,ht2⟩:=pws.get hu
   have et:ws.take (i+1)=ws.take i++[x]:=by rw [List.take_succ,ex];rfl
   refine j6 ⟨_,rfl,t,_,_,_,rfl,rfl,SqT.of (s1 _ _ ht),at0,_,rfl,t,_,_,_,rfl,rfl,SqT.of (s1 _ _ ht),at1,_,rfl,(by show 1<=sizeLine;decide),λt3 ht3=>?_⟩
   have s3:=ai (o:=.tup [nv]) ht3
   refine ⟨t2,t3,_,_,rfl,rfl,SqT.of (s3 _ _ (s1 _ _ ht2)),SqT.of ae,(λz=>by cases z),(by show 4<=sizeLine;decide),(λz=>by cases z),λ_ t4 ht4=>⟨(by show 2<=sizeLine;decide),λt5 ht5=>?_⟩⟩
   have s4:=ai (o:=.tup ([.str x.2.1,.ref x.2.2.1,.ref x.2.2.2]++[nv])) ht4
   have s5:=ai (o:=.tup [.int x.1,.ref t4]) ht5
   have s15:=s1.trans (s3.trans (s4.trans s5))
   rw [et]
   exact ⟨s15,(Paired.mapP py λ_ _ z=>z.keep (s3.trans (s4.trans s5)).ts).app (.cons ⟨t5,t4,nv,rfl,ae,s5 _ _ ae,hnv.keep s15.ts⟩ .nil)⟩
  ·rintro ys H1 ⟨s1,py⟩ p hp
   rw [← pws.len,List.take_length] at py
   have s2:=ai (o:=.lst ys) hp
   have hp0:H p=none:=by
    cases e:H p with
    | none=>rfl
    | some o=>rw [s1 _ _ e] at hp;cases hp
   exact q p ys _ (s1.trans s2) hp0 ae (Paired.mapP py λ_ _ z=>z.keep s2.ts)
 refine ⟨_,rfl,h.l,CH,h.dx,_,_,rfl,sh.ins,DH.cl,DH.hl,wZ _ _ _,rfl,_,rfl,?_⟩
 by_cases e:v=.non
 ·refine bz (λ_=>?_) (λc=>absurd (decide_eq_true e) c)
  refine ⟨_,rfl,h.l,CH,h.dx,_,_,rfl,sh.ins,DH.cl,DH.ht,zB _ _ _,S.l,S.dx,_,rfl,sh.st.ins,ze (by decide +kernel),S,d,rfl,sh.st,hen,λnv H1 s1 nw=>?_⟩
  exact ⟨S,h,d,rs,ws,v,nv,rfl,sh.keep s1,hz,nw,λp us H' s' hp=>q p us H' (s1.trans s') (by
   cases e:H p with
   | none=>rfl
   | some o=>rw [s1 _ _ e] at hp;cases hp)⟩
 ·refine bz (λc=>absurd (of_decide_eq_true c) e) (λ_=>?_)
  refine ⟨_,rfl,h.l,CH,h.dx,_,_,rfl,sh.ins,DH.cl,DH.hl,wZ _ _ _,?_⟩
  exact ⟨S,h,d,rs,ws,v,v,rfl,sh,hz,sh.lat.resolve_left e,q⟩
end
end K41
namespace K41
open PySem L2 Lo St
section
variable {P:Program}{w:World}{K:PySem.W.Frag}{mg:Str->Option Value}{base:Heap}{f CL CS CP:Addr}{fd:FuncData}{C:Kd->Addr}{CW:Wd->Addr}
theorem tq(F:Fun K "spell" "spell" gI f fd)(GS:GF P w K mg base CX0 2 "shown" ["thing"] K41T.kO):FnOk P w K mg base CX0 3 f fd ["word","numbers"] c9:=by
 refine F.ok sC (λvs H Q E h=>?_) (λcdv A outer s H vs Q E hr h=>?_)
 ·obtain ⟨wd,b,ns,rfl,_⟩:=h
  rfl
 obtain ⟨wd,b,ns,rfl,hb,ar,q⟩:=h
 have hl3:=ar.len
 refine ⟨_,af (ao (d0 PySem.F.plainAttrs_str PySem.F.slot_str_join PySem.F.type_str_join pU aB (aa (aD ti (aT (aa (pv 0) ac)) (gk oA rfl (eH (pv 1)) (λ_ _ _ _=>eG) (λ_ _ _ _=>pc GS hr (aa (pv 0) ac)))) ac))),?_⟩
 refine ⟨rfl,_,rfl,(by show 1<=sizeLine;decide),λl hl=>?_⟩
 have s1:Same H _:=ai (o:=.lst [.str (wS wd)]) hl
 refine ⟨_,rfl,b,rfl,⟨_,SqL.of (s1 _ _ hb)⟩,?_⟩
 refine wb (g:=λi=>V.str (iS i)) (ns:=ns) (SqL.of (s1 _ _ hb)) (Nat.le_trans hl3.2 (by decide)) (λi H1 Q hi s2 h=>?_) (λH1 s2 p hp=>?_)
 ·exact ⟨_,rfl,.inl ⟨i,rfl,jr (ar.all i hi),h H1 (Same.refl _)⟩⟩
 ·have el:H1 l=some (.lst [.str (wS wd)]):=s2 _ _ ae
  refine ⟨l,p,_,_,rfl,rfl,ai hp _ _ el,ae,?_,λp2 hp2=>?_⟩
  ·have h5:(ns.map λi=>V.str (iS i)).length=ns.length:=List.length_map _
   have h6:([V.str (wS wd)]:List V).length=1:=rfl
   have h7:(4:Nat)<=sizeLine:=by decide
   omega
  ·have e:([V.str (wS wd)]++ns.map λi=>V.str (iS i))=(wS wd::ns.map iS).map V.str:=by simp
   refine ⟨_,p2,wS wd::ns.map iS,rfl,rfl,SqL.of (by rw [ae,e]),Nat.le_trans (gX ar) (by decide),?_⟩
   exact q _ (s1.trans (s2.trans ((ai hp).trans (ai hp2))))
theorem tJ(F:Fun K "spelled" "TakeStep.spelled" cb f fd)(W:TxW K CW)(GP:GF P w K mg base CX0 3 "spell" ["word","numbers"] c9):FnOk P w K mg base CX0 4 f fd ["self"] (bQ CW .take):=by
 refine F.ok f8 (λvs H Q E h=>?_) (λcdv A outer s H vs Q E hr h=>?_)
 ·obtain ⟨v,ns,rfl,_⟩:=h
  rfl
 obtain ⟨v,ns,rfl,ar,⟨a,dx,rfl,ha⟩,q⟩:=h
 obtain ⟨x,y,rfl,_,_,e⟩:=ar.c rfl
 rw [e] at ha
 refine ⟨_,af (ao (pc GP hr (aa aB (aa (aT (aa (aA (pv 0) rfl) (aa (aA (pv 0) rfl) ac))) ac)))),?_⟩
 refine ⟨_,rfl,a,_,dx,_,_,rfl,ha,W.cl _,W.nW _,(by show (ak "cell" _ (ak "where" _ [])).lookup _=_;rw [aU (by decide +kernel),bu]),_,rfl,a,_,dx,_,_,rfl,ha,W.cl _,W.nC _,(by show (ak "cell" _ (ak "where" _ [])).lookup _=_;rw [bu]),(by show 2<=sizeLine;decide),λl hl=>?_⟩
 exact ⟨.take,l,_,rfl,ae,ar,λH' s'=>q H' ((ai hl).trans s')⟩
theorem tN(F:Fun K "spelled" "MeanStep.spelled" ci f fd)(W:TxW K CW)(GP:GF P w K mg base CX0 3 "spell" ["word","numbers"] c9):FnOk P w K mg base CX0 4 f fd ["self"] (bQ CW .mean):=by
 refine F.ok gc (λvs H Q E h=>?_) (λcdv A outer s H vs Q E hr h=>?_)
 ·obtain ⟨v,ns,rfl,_⟩:=h
  rfl
 obtain ⟨v,ns,rfl,ar,⟨a,dx,rfl,ha⟩,q⟩:=h
 obtain ⟨x,y,rfl,_,_,e⟩:=ar.c rfl
 rw [e] at ha
 refine ⟨_,af (ao (pc GP hr (aa aB (aa (aT (aa (aA (pv 0) rfl) (aa (aA (pv 0) rfl) ac))) ac)))),?_⟩
 refine ⟨_,rfl,a,_,dx,_,_,rfl,ha,W.cl _,W.nW _,(by show (ak "cell" _ (ak "where" _ [])).lookup _=_;rw [aU (by decide +kernel),bu]),_,rfl,a,_,dx,_,_,rfl,ha,W.cl _,W.nC _,(by show (ak "cell" _ (ak "where" _ [])).lookup _=_;rw [bu]),(by show 2<=sizeLine;decide),λl hl=>?_⟩
 exact ⟨.mean,l,_,rfl,ae,ar,λH' s'=>q H' ((ai hl).trans s')⟩
theorem tQ(F:Fun K "spelled" "GiveStep.spelled" cj f fd)(W:TxW K CW)(GP:GF P w K mg base CX0 3 "spell" ["word","numbers"] c9):FnOk P w K mg base CX0 4 f fd ["self"] (bQ CW .give):=by
 refine F.ok gf (λvs H Q E h=>?_) (λcdv A outer s H vs Q E hr h=>?_)
 ·obtain ⟨v,ns,rfl,_⟩:=h
  rfl
 obtain ⟨v,ns,rfl,ar,⟨a,dx,rfl,ha⟩,q⟩:=h
 obtain ⟨x,y,rfl,_,_,e⟩:=ar.c rfl
 rw [e] at ha
 refine ⟨_,af (ao (pc GP hr (aa aB (aa (aT (aa (aA (pv 0) rfl) (aa (aA (pv 0) rfl) ac))) ac)))),?_⟩
 refine ⟨_,rfl,a,_,dx,_,_,rfl,ha,W.cl _,W.nW _,(by show (ak "cell" _ (ak "where" _ [])).lookup _=_;rw [aU (by decide +kernel),bu]),_,rfl,a,_,dx,_,_,rfl,ha,W.cl _,W.nC _,(by show (ak "cell" _ (ak "where" _ [])).lookup _=_;rw [bu]),(by show 2<=sizeLine;decide),λl hl=>?_⟩
 exact ⟨.give,l,_,rfl,ae,ar,λH' s'=>q H' ((ai hl).trans s')⟩
theorem vL(F:Fun K "spelled" "SumStep.spelled" cr f fd)(W:TxW K CW)(GP:GF P w K mg base CX0 3 "spell" ["word","numbers"] c9):FnOk P w K mg base CX0 4 f fd ["self"] (bQ CW .sum):=by
 refine F.ok gr (λvs H Q E h=>?_) (λcdv A outer s H vs Q E hr h=>?_)
 ·obtain ⟨v,ns,rfl,_⟩:=h
  rfl
 obtain ⟨v,ns,rfl,ar,⟨a,dx,rfl,ha⟩,q⟩:=h
 obtain ⟨x,y,z0,rfl,_⟩:=ar.s
 refine ⟨_,af (ao (pc GP hr (aa aB (aa (aT (aa (aA (pv 0) rfl) (aa (aA (pv 0) rfl) (aa (aA (pv 0) rfl) ac)))) ac)))),?_⟩
 refine ⟨_,rfl,a,_,dx,_,_,rfl,ha,W.cl _,W.nW _,(by show (ak "high" _ (ak "low" _ (ak "where" _ []))).lookup _=_;rw [aU (by decide +kernel),aU (by decide +kernel),bu]),_,rfl,a,_,dx,_,_,rfl,ha,W.cl _,W.nL _,(by show (ak "high" _ (ak "low" _ (ak "where" _ []))).lookup _=_;rw [aU (by decide +kernel),bu]),_,rfl,a,_,dx,_,_,rfl,ha,W.cl _,W.nH _,(by show (ak "high" _ (ak "low" _ (ak "where" _ []))).lookup _=_;rw [bu]),(by show 3<=sizeLine;decide),λl hl=>?_⟩
 exact ⟨.sum,l,_,rfl,ae,ar,λH' s'=>q H' ((ai hl).trans s')⟩
theorem vN(F:Fun K "spelled" "AddStep.spelled" cw f fd)(W:TxW K CW)(GP:GF P w K mg base CX0 3 "spell" ["word","numbers"] c9):FnOk P w K mg base CX0 4 f fd ["self"] (bQ CW .add):=by
 refine F.ok gw (λvs H Q E h=>?_) (λcdv A outer s H vs Q E hr h=>?_)
 ·obtain ⟨v,ns,rfl,_⟩:=h
  rfl
 obtain ⟨v,ns,rfl,ar,⟨a,dx,rfl,ha⟩,q⟩:=h
 obtain ⟨x,y,z0,rfl,_⟩:=ar.a
 refine ⟨_,af (ao (pc GP hr (aa aB (aa (aT (aa (aA (pv 0) rfl) (aa (aA (pv 0) rfl) (aa (aA (pv 0) rfl) ac)))) ac)))),?_⟩
 refine ⟨_,rfl,a,_,dx,_,_,rfl,ha,W.cl _,W.nW _,(by show (ak "amount" _ (ak "cell" _ (ak "where" _ []))).lookup _=_;rw [aU (by decide +kernel),aU (by decide +kernel),bu]),_,rfl,a,_,dx,_,_,rfl,ha,W.cl _,W.nC _,(by show (ak "amount" _ (ak "cell" _ (ak "where" _ []))).lookup _=_;rw [aU (by decide +kernel),bu]),_,rfl,a,_,dx,_,_,rfl,ha,W.cl _,W.nA _,(by show (ak "amount" _ (ak "cell" _ (ak "where" _ []))).lookup _=_;rw [bu]),(by show 3<=sizeLine;decide),λl hl=>?_⟩
 exact ⟨.add,l,_,rfl,ae,ar,λH' s'=>q H' ((ai hl).trans s')⟩
theorem tK(F:Fun K "spelled" "PlusStep.spelled" ce f fd)(W:TxW K CW)(GP:GF P w K mg base CX0 3 "spell" ["word","numbers"] c9):FnOk P w K mg base CX0 4 f fd ["self"] (bQ CW .plus):=by
 refine F.ok f9 (λvs H Q E h=>?_) (λcdv A outer s H vs Q E hr h=>?_)
 ·obtain ⟨v,ns,rfl,_⟩:=h
  rfl
 obtain ⟨v,ns,rfl,ar,⟨a,dx,rfl,ha⟩,q⟩:=h
 obtain ⟨x,rfl,_⟩:=ar.p
 refine ⟨_,af (ao (pc GP hr (aa aB (aa (aT (aa (aA (pv 0) rfl) ac)) ac)))),?_⟩
 refine ⟨_,rfl,a,_,dx,_,_,rfl,ha,W.cl _,W.nA _,(by show (ak "amount" _ []).lookup _=_;rw [bu]),(by show 1<=sizeLine;decide),λl hl=>?_⟩
 exact ⟨.plus,l,_,rfl,ae,ar,λH' s'=>q H' ((ai hl).trans s')⟩
theorem tL(F:Fun K "spelled" "NeedStep.spelled" cg f fd)(W:TxW K CW)(GP:GF P w K mg base CX0 3 "spell" ["word","numbers"] c9):FnOk P w K mg base CX0 4 f fd ["self"] (bQ CW .need):=by
 refine F.ok gb (λvs H Q E h=>?_) (λcdv A outer s H vs Q E hr h=>?_)
 ·obtain ⟨v,ns,rfl,_⟩:=h
  rfl
 obtain ⟨v,ns,rfl,ar,⟨a,dx,rfl,ha⟩,q⟩:=h
 obtain ⟨x,rfl,_⟩:=ar.n
 refine ⟨_,af (ao (pc GP hr (aa aB (aa (aT (aa (aA (pv 0) rfl) ac)) ac)))),?_⟩
 refine ⟨_,rfl,a,_,dx,_,_,rfl,ha,W.cl _,W.nA _,(by show (ak "amount" _ []).lookup _=_;rw [bu]),(by show 1<=sizeLine;decide),λl hl=>?_⟩
 exact ⟨.need,l,_,rfl,ae,ar,λH' s'=>q H' ((ai hl).trans s')⟩
theorem vQ(F:Fun K "made_sum" "made_sum" gx f fd)(I:WI P w K mg base CW .sum):FnOk P w K mg base CX0 4 f fd ["where","low","high"] (oo CW):=by
 refine F.ok mx (λvs H Q E h=>?_) (λcdv A outer s H vs Q E hr h=>?_)
 ·obtain ⟨x,y,z,rfl,_⟩:=h
  rfl
 obtain ⟨x,y,z,rfl,ar,q⟩:=h
 have hr1:Room (2+1) _:=hr
 refine ⟨_,ad (aF (ap iD (pv 1) (pv 2) (ay _)) aE az) (af (ao (bZ I.M I.ok hr1 rfl I.m I.b .nil br (aa (pv 0) (aa (pv 1) (aa (pv 2) ac)))))),?_⟩
 have hle:y<=z:=ar.2.2.2
 refine ⟨_,rfl,_,rfl,_,_,rfl,rfl,_,rfl,bz (λc=>absurd (of_decide_eq_true c) (show ¬z<y by omega)) (λ_=>?_)⟩
 exact ⟨_,rfl,_,rfl,_,rfl,λp dp np ndp nep=>⟨p,dp,[x,y,z],rfl,ar,ae,λH' h1 h2=>⟨rfl,q _ H' (fz np ndp h2) ⟨p,dp,rfl,h1⟩⟩⟩⟩
theorem tT(F:Fun K "made_step" "made_step" fj f fd)(I:∀wd,WI P w K mg base CW wd)(GS:GF P w K mg base CX0 4 "made_sum" ["where","low","high"] (oo CW)):FnOk P w K mg base CX0 5 f fd ["word","numbers"] (gq CW):=by
 refine F.ok lm (λvs H Q E h=>?_) (λcdv A outer s H vs Q E hr h=>?_)
 ·obtain ⟨wd,b,ns,rfl,_⟩:=h
  rfl
 obtain ⟨wd,b,ns,rfl,hb,ar,q⟩:=h
 have hr1:Room (2+1) _:=hr.mono (by decide)
 refine ⟨_,(ad (aF (ap bf (pv 0) aB (ay _)) (af (ao (bZ (I .take).M (I .take).ok hr1 rfl (I .take).m (I .take).b .nil br (aa (aG (r:=cA K) aK (pv 1) aj (λ_ _=>rfl)) (aa (aG (r:=cA K) aK (pv 1) aj (λ_ _=>rfl)) ac))))) az)
  (ad (aF (ap bf (pv 0) aB (ay _)) (af (ao (bZ (I .mean).M (I .mean).ok hr1 rfl (I .mean).m (I .mean).b .nil br (aa (aG (r:=cA K) aK (pv 1) aj (λ_ _=>rfl)) (aa (aG (r:=cA K) aK (pv 1) aj (λ_ _=>rfl)) ac))))) az)
  (ad (aF (ap bf (pv 0) aB (ay _)) (af (ao (pc GS hr (aa (aG (r:=cA K) aK (pv 1) aj (λ_ _=>rfl)) (aa (aG (r:=cA K) aK (pv 1) aj (λ_ _=>rfl)) (aa (aG (r:=cA K) aK (pv 1) aj (λ_ _=>rfl)) ac)))))) az)
  (ad (aF (ap bf (pv 0) aB (ay _)) (af (ao (bZ (I .give).M (I .give).ok hr1 rfl (I .give).m (I .give).b .nil br (aa (aG (r:=cA K) aK (pv 1) aj (λ_ _=>rfl)) (aa (aG (r:=cA K) aK (pv 1) aj (λ_ _=>rfl)) ac))))) az)
  (ad (aF (ap bf (pv 0) aB (ay _)) (af (ao (bZ (I .add).M (I .add).ok hr1 rfl (I .add).m (I .add).b .nil br (aa (aG (r:=cA K) aK (pv 1) aj (λ_ _=>rfl)) (aa (aG (r:=cA K) aK (pv 1) aj (λ_ _=>rfl)) (aa (aG (r:=cA K) aK (pv 1) aj (λ_ _=>rfl)) ac)))))) az)
  (ad (aF (ap bf (pv 0) aB (ay _)) (af (ao (bZ (I .plus).M (I .plus).ok hr1 rfl (I .plus).m (I .plus).b .nil br (aa (aG (r:=cA K) aK (pv 1) aj (λ_ _=>rfl)) ac)))) az)
  (af (ao (bZ (I .need).M (I .need).ok hr1 rfl (I .need).m (I .need).b .nil br (aa (aG (r:=cA K) aK (pv 1) aj (λ_ _=>rfl)) ac)))))))))),?_⟩
 refine ⟨_,rfl,rfl,_,rfl,bz (λc=>?_) (λc0=>?_)⟩
 ·obtain rfl:wd=.take:=iX c
  obtain ⟨x,y,rfl,_⟩:=ar.c rfl
  exact ⟨_,rfl,b,_,_,_,rfl,rfl,SqL.of hb,rfl,_,rfl,b,_,_,_,rfl,rfl,SqL.of hb,rfl,λp dp np ndp nep=>⟨p,dp,[x,y],rfl,ar,ae,λH' h1 h2=>⟨rfl,q _ H' (fz np ndp h2) ⟨p,dp,rfl,h1⟩⟩⟩⟩
 refine ⟨_,rfl,rfl,_,rfl,bz (λc=>?_) (λc1=>?_)⟩
 ·obtain rfl:wd=.mean:=iX c
  obtain ⟨x,y,rfl,_⟩:=ar.c rfl
  exact ⟨_,rfl,b,_,_,_,rfl,rfl,SqL.of hb,rfl,_,rfl,b,_,_,_,rfl,rfl,SqL.of hb,rfl,λp dp np ndp nep=>⟨p,dp,[x,y],rfl,ar,ae,λH' h1 h2=>⟨rfl,q _ H' (fz np ndp h2) ⟨p,dp,rfl,h1⟩⟩⟩⟩
 refine ⟨_,rfl,rfl,_,rfl,bz (λc=>?_) (λc2=>?_)⟩
 ·obtain rfl:wd=.sum:=iX c
  obtain ⟨x,y,z,rfl,_⟩:=ar.s
  exact ⟨_,rfl,b,_,_,_,rfl,rfl,SqL.of hb,rfl,_,rfl,b,_,_,_,rfl,rfl,SqL.of hb,rfl,_,rfl,b,_,_,_,rfl,rfl,SqL.of hb,rfl,x,y,z,rfl,ar,q⟩
 refine ⟨_,rfl,rfl,_,rfl,bz (λc=>?_) (λc3=>?_)⟩
 ·obtain rfl:wd=.give:=iX c
  obtain ⟨x,y,rfl,_⟩:=ar.c rfl
  exact ⟨_,rfl,b,_,_,_,rfl,rfl,SqL.of hb,rfl,_,rfl,b,_,_,_,rfl,rfl,SqL.of hb,rfl,λp dp np ndp nep=>⟨p,dp,[x,y],rfl,ar,ae,λH' h1 h2=>⟨rfl,q _ H' (fz np ndp h2) ⟨p,dp,rfl,h1⟩⟩⟩⟩
 refine ⟨_,rfl,rfl,_,rfl,bz (λc=>?_) (λc4=>?_)⟩
 ·obtain rfl:wd=.add:=iX c
  obtain ⟨x,y,z,rfl,_⟩:=ar.a
  exact ⟨_,rfl,b,_,_,_,rfl,rfl,SqL.of hb,rfl,_,rfl,b,_,_,_,rfl,rfl,SqL.of hb,rfl,_,rfl,b,_,_,_,rfl,rfl,SqL.of hb,rfl,λp dp np ndp nep=>⟨p,dp,[x,y,z],rfl,ar,ae,λH' h1 h2=>⟨rfl,q _ H' (fz np ndp h2) ⟨p,dp,rfl,h1⟩⟩⟩⟩
 refine ⟨_,rfl,rfl,_,rfl,bz (λc=>?_) (λc5=>?_)⟩
 ·obtain rfl:wd=.plus:=iX c
  obtain ⟨x,rfl,_⟩:=ar.p
  exact ⟨_,rfl,b,_,_,_,rfl,rfl,SqL.of hb,rfl,λp dp np ndp nep=>⟨p,dp,[x],rfl,ar,ae,λH' h1 h2=>⟨rfl,q _ H' (fz np ndp h2) ⟨p,dp,rfl,h1⟩⟩⟩⟩
 obtain rfl:wd=.need:=xg (gY (b:=.take) c0) (gY (b:=.mean) c1) (gY (b:=.sum) c2) (gY (b:=.give) c3) (gY (b:=.add) c4) (gY (b:=.plus) c5)
 obtain ⟨x,rfl,_⟩:=ar.n
 exact ⟨_,rfl,b,_,_,_,rfl,rfl,SqL.of hb,rfl,λp dp np ndp nep=>⟨p,dp,[x],rfl,ar,ae,λH' h1 h2=>⟨rfl,q _ H' (fz np ndp h2) ⟨p,dp,rfl,h1⟩⟩⟩⟩
theorem vJ{CN:Addr}{bm:List Value}{new:String}(F:Fun K "read_number" "read_number" dL f fd)(B:TxB mg)(mN:mg "NoThing"=some (.ref CN))(xN:PySem.W.excIn K CN bm new=true)(hb:bm.contains (.type "BaseException")=true)
  (cF:∃t,mg "MOST_FIGURES_steps"=some (.int 40 t))(GR:GF P w K mg base CX0 4 "read_thing" ["text"] K41T.oj)(GW:GF P w K mg base CX0 1 "is_whole" ["thing"] K41T.iQ):FnOk P w K mg base CX0 5 f fd ["word","letter"] om:=by
 refine F.ok sc_read_number (λvs H Q E h=>?_) (λcdv A outer s H vs Q E hr h=>?_)
 ·obtain ⟨i,c,rfl,_⟩:=h
  rfl
 obtain ⟨i,c,rfl,hi,hneg,q⟩:=h
 have nd:=sc_read_number.nd
 refine ⟨_,ad (qB (j:=2) (C:=CN) rfl rfl rfl nd rfl (Or.inl rfl) (xF (pc GR hr (aa (pv 0) ac))) rfl mN (n9 mN xN hb) (λ_=>aE))
  (ad (aF (PW.pt (gK (dQ (bq (pc GW hr (aa (pv 2) ac)))) (gz (ap iD (au aW rfl B.len PySem.boot_len (aa (d0 PySem.F.plainAttrs_str PySem.F.slot_str_lstrip PySem.F.type_str_lstrip oM (pv 0) (aa aB ac)) ac)) (lT cF rfl) (ay _))))) aE az)
  (ad (aF (PW.pt (dO (ap gl (pv 2) aj (ay _)) (da (ap kf (pv 1) aB (ay _))))) aE az)
  (af (ao (pv 2))))),?_⟩
 have hl:=wl hi
 have h1:(100000:Nat)<=sizeLine:=by decide
 have hL:=oR hi
 refine ⟨_,rfl,iS i,.int i,rfl,(by rw [nk];exact .num i (Nat.lt_trans hi (by decide +kernel))),(λd hd=>?_),hl,λH1 s1=>?_⟩
 ·rw [nk] at hd
  rcases t9 hd with rfl | ⟨a1,a2⟩
  ·decide
  ·show (decide _&&decide _&&_)=true
   simp
   omega
 refine ⟨_,rfl,_,_,rfl,rfl,_,rfl,aI ?_⟩
 refine ⟨_,rfl,rfl,iS i,_,rfl,rfl,by omega,_,rfl,Nat.le_trans hL (by decide),_,_,rfl,rfl,_,rfl,bz (λc=>absurd (of_decide_eq_true c) (λz=>?_)) (λ_=>?_)⟩
 ·have z':(40:Int)<(((Txt.lstripChars (iS i) (Str.ofString "-")).length:Nat):Int):=z
  omega
 refine ⟨_,rfl,_,_,rfl,rfl,_,rfl,bz (λcc=>?_) (λ_=>⟨_,rfl,q H1 s1⟩)⟩
 have hc:c=86:=hneg (of_decide_eq_true cc)
 subst hc
 exact ⟨_,rfl,rfl,_,rfl,ul (congrArg V.str (by decide +kernel)) ⟨_,rfl,q H1 s1⟩⟩
theorem tF(F:Fun K "read_step" "read_step" cK f fd)(B:TxB mg){aS:Addr}(mS:mg "SHAPES"=some (.ref aS))(tS:TabK K aS iT)(GN:GF P w K mg base CX0 5 "read_number" ["word","letter"] om)
  (GS:GF P w K mg base CX0 5 "made_step" ["word","numbers"] (gq CW)):FnOk P w K mg base CX0 6 f fd ["text"] (kQ CW):=by
 refine F.ok sc_read_step (λvs H Q E h=>?_) (λcdv A outer s H vs Q E hr h=>?_)
 ·obtain ⟨wd,ns,rfl,_⟩:=h
  rfl
 obtain ⟨wd,ns,rfl,ar,q⟩:=h
 have nd:=sc_read_step.nd
 have hl3:=ar.len
 have el:=ve ar
 refine ⟨_,ad (aC (i:=1) nd rfl (Or.inr rfl) (d0 PySem.F.plainAttrs_str PySem.F.slot_str_split PySem.F.type_str_split qO (pv 0) (aa aB ac)))
  (ad (aC (i:=2) nd rfl (Or.inr rfl) (vv (D:=iT) (db (v:=.ref aS) rfl mS rfl) (aG (r:=cA K) aK (pv 1) aj (λ_ _=>rfl)) ⟨rfl,rfl,rfl,rfl⟩ tS))
  (ad (aF (PW.pt (gK (ap jp (pv 2) bb (ay _)) (gz (ap kf (au av rfl B.len PySem.boot_len (aa (pv 1) ac)) (aD dk (au aW rfl B.len PySem.boot_len (aa (pv 2) ac)) aj) (ay _))))) aE az)
  (af (ao (pc GS hr (aa (aG (r:=cA K) aK (pv 1) aj (λ_ _=>rfl)) (aa (gk jb rfl (ie rfl B.range (aa (au aW rfl B.len PySem.boot_len (aa (pv 2) ac)) ac)) (λ_ _ _ _=>eG)
   (λ_ _ _ _=>pc GN hr (aa (aG (r:=cA K) aK (pv 1) (aD dk (pv 0) aj) (λ_ _=>rfl)) (aa (aG uk (pv 2) (pv 0) (λ_ _=>rfl)) ac)))) ac))))))),?_⟩
 refine ⟨_,rfl,rfl,txt wd ns,32,rfl,congrArg (λz=>[V.str z]) fe,uV ar,λp hp=>?_⟩
 rw [qo]
 have s1:Same H _:=ai (o:=.lst ((wS wd::ns.map iS).map V.str)) hp
 have hp1:(upd H p (.lst ((wS wd::ns.map iS).map V.str))) p=some (.lst ((wS wd::ns.map iS).map V.str)):=ae
 generalize (upd H p _)=H1 at s1 hp1 ⊢
 refine ⟨_,rfl,p,_,_,_,rfl,rfl,SqL.of hp1,St.at0,wS wd,shp wd,rfl,sA wd,?_⟩
 refine ⟨_,rfl,rfl,_,rfl,bz (λc=>absurd (of_decide_eq_true c) (by intro z;cases z)) (λ_=>?_)⟩
 refine ⟨_,rfl,p,_,rfl,.inl (SqL.of hp1),_,rfl,_,rfl,i6 wd,_,_,rfl,rfl,rfl,_,rfl,ul ?_ ?_⟩
 ·rw [el]
  simp
 refine ⟨_,rfl,p,_,_,_,rfl,rfl,SqL.of hp1,St.at0,?_⟩
 refine ⟨_,rfl,_,rfl,i6 wd,_,rfl,by omega,by rw [el];omega,?_⟩
 have e0:(((shp wd).length:Nat):Int).toNat=ns.length:=by rw [el];rfl
 rw [e0]
 refine jw (n:=ns.length) (λi ys H'=>Same H1 H'/\ys=(ns.take i).map V.int) ⟨Same.refl _,rfl⟩ (Nat.le_trans hl3.2 (by decide)) ?_ ?_
 ·rintro i ys H2 hi ⟨s2,rfl⟩
  have hn:ns[i]?=some ns[i]:=List.getElem?_eq_getElem hi
  obtain ⟨c,hc,hneg⟩:=xu ar hn
  refine j6 ⟨_,rfl,_,rfl,_,_,rfl,rfl,p,_,_,_,rfl,rfl,SqL.of (s2 _ _ hp1),?_,_,rfl,_,rfl,_,_,_,rfl,rfl,i6 wd,bn hc,ns[i],c,rfl,ar.all _ (List.getElem_mem hi),hneg,λH3 s3=>⟨s2.trans s3,?_⟩⟩
  ·have e1:((i:Nat):Int)+1=((i+1:Nat):Int):=rfl
   rw [e1]
   refine bn ?_
   rw [List.map_cons,List.getElem?_cons_succ,List.map_map,List.getElem?_map,hn]
   rfl
  ·have e2:ns.take (i+1)=ns.take i++[ns[i]]:=by
    rw [List.take_add_one,hn]
    rfl
   rw [e2,List.map_append]
   rfl
 ·rintro ys H2 ⟨s2,rfl⟩ p2 hp2
  rw [List.take_length]
  exact ⟨wd,p2,ns,rfl,ae,ar,λv H3 s3 st=>q v H3 (s1.trans (s2.trans ((ai hp2).trans s3))) st⟩
theorem qH(F:Fun K "__init__" "Pact.__init__" fE f fd)(B:TxB mg)(T:TxP K CP):FnOk P w K mg base CX0 1 f fd ["self","manner","steps"] (pD CP):=by
 refine F.ok lu (λvs H Q E h=>?_) (λcdv A outer s H vs Q E hr h=>?_)
 ·obtain ⟨l,dx,m,q,us,rfl,_⟩:=h
  rfl
 obtain ⟨l,dx,m,q,us,rfl,hl,hq,qr⟩:=h
 refine ⟨_,ad (aJ (pv 0) (pv 1) rfl) (ad (aJ (pv 0) (aO eT rfl B.list PyProof.Rows.boot_list (aa (pv 2) ac)) rfl)
  (af (aJ (pv 0) (aO dX rfl B.tuple PyProof.Rows.boot_tuple (aa (pv 2) ac)) rfl))),?_⟩
 have nlq:q≠l:=λz=>by rw [z,hl] at hq;cases hq
 refine ⟨_,rfl,_,rfl,l,CP,dx,[],rfl,hl,T.cl,T.nm,(by show 0<1000;decide),?_⟩
 have k1:Kp l H (upd H l (.ins CP dx (ak "manner" (.str m) []))):=bp
 have hl1:(upd H l (.ins CP dx (ak "manner" (.str m) []))) l=some (.ins CP dx (ak "manner" (.str m) [])):=ae
 have hq1:=k1 _ _ nlq hq
 generalize (upd H l (HO.ins CP dx (ak "manner" (.str m) [])))=H1 at k1 hl1 hq1 ⊢
 refine ⟨_,rfl,q,us,rfl,.inl (SqL.of hq1),λsl hsl=>?_⟩
 have s2:=ai (o:=.lst us) hsl
 have nl:l≠sl:=ah hl1 hsl
 refine ⟨_,rfl,l,CP,dx,_,rfl,s2 _ _ hl1,T.cl,T.ns,(by show 1<1000;decide),?_⟩
 have k2:Kp l H1 (upd (upd H1 sl (.lst us)) l (.ins CP dx (ak "steps" (.ref sl) (ak "manner" (.str m) [])))):=(Kp.of s2).trans bp
 have hl2:(upd (upd H1 sl (.lst us)) l (.ins CP dx (ak "steps" (.ref sl) (ak "manner" (.str m) [])))) l=some (.ins CP dx (ak "steps" (.ref sl) (ak "manner" (.str m) []))):=ae
 have hs2:(upd (upd H1 sl (.lst us)) l (.ins CP dx (ak "steps" (.ref sl) (ak "manner" (.str m) [])))) sl=some (.lst us):=by rw [aq (Ne.symm nl)];exact ae
 have hq2:=k2 _ _ nlq hq1
 generalize (upd (upd H1 sl (.lst us)) l (HO.ins CP dx (ak "steps" (.ref sl) (ak "manner" (.str m) []))))=H2 at k2 hl2 hs2 hq2 ⊢
 refine ⟨_,rfl,q,us,rfl,.inl ⟨SqL.of hq2,λtp htp=>?_⟩⟩
 have s3:=ai (o:=.tup us) htp
 have nl3:l≠tp:=ah hl2 htp
 refine ⟨_,rfl,l,CP,dx,_,rfl,s3 _ _ hl2,T.cl,T.np,Nat.lt_of_le_of_lt (cn _ _ _) (by show 1+1<1000;decide),?_⟩
 have k3:Kp l H2 (upd (upd H2 tp (.tup us)) l (.ins CP dx (pf m sl tp))):=(Kp.of s3).trans bp
 refine qr sl tp _ ae (k3 _ _ (Ne.symm nl) hs2) (by rw [aq (Ne.symm nl3)];exact ae) ?_ ?_ ((k1.trans k2).trans k3)
 ·cases e:H sl with
  | none=>rfl
  | some o=>rw [k1 _ _ (Ne.symm nl) e] at hsl;cases hsl
 ·cases e:H tp with
  | none=>rfl
  | some o=>rw [(k1.trans k2) _ _ (Ne.symm nl3) e] at htp;cases htp
theorem tG(F:Fun K "read_part" "read_part" fi f fd)(GS:GF P w K mg base CX0 6 "read_step" ["text"] (kQ CW)):FnOk P w K mg base CX0 7 f fd ["text","number"] (kR CW):=by
 refine F.ok lj (λvs H Q E h=>?_) (λcdv A outer s H vs Q E hr h=>?_)
 ·obtain ⟨x,k,rfl,_⟩:=h
  rfl
 obtain ⟨x,k,rfl,ar,q⟩:=h
 exact ⟨_,af (vt (af (ao (pc GS hr (aa (pv 0) ac))))),_,rfl,x.1,x.2,rfl,ar,q⟩
structure Al where
 (l dx na tp ho hd:Addr)
def lf(A:Al)(tn:Int)(nm:V)(cl:Bool)(ex:List (Str×V)):List (Str×V):=("name",.ref A.na)::("steps",.ref A.tp)::("houses",.ref A.ho)::("hands",.ref A.hd)::("turns",.int tn)::("named",nm)::("closed",.bl cl)::ex
abbrev lfN:List Str:=["name","steps","houses","hands","turns","named","closed"]
section
variable {A:Al}{tn:Int}{nm:V}{cl:Bool}{ex:List (Str×V)}
theorem wT:(lf A tn nm cl ex).lookup ("name":Str)=some (.ref A.na):=by kernel_rfl
theorem mY:(lf A tn nm cl ex).lookup ("steps":Str)=some (.ref A.tp):=by kernel_rfl
theorem wU:(lf A tn nm cl ex).lookup ("houses":Str)=some (.ref A.ho):=by kernel_rfl
theorem gp:(lf A tn nm cl ex).lookup ("hands":Str)=some (.ref A.hd):=by kernel_rfl
theorem wR:(lf A tn nm cl ex).lookup ("turns":Str)=some (.int tn):=by kernel_rfl
theorem ue:(lf A tn nm cl ex).lookup ("named":Str)=some nm:=by kernel_rfl
theorem zv:(lf A tn nm cl ex).lookup ("closed":Str)=some (.bl cl):=by kernel_rfl
theorem uf{m:Str}(h:decide (m∈lfN)=false):(lf A tn nm cl ex).lookup m=ex.lookup m:=by
 have h':m∉lfN:=of_decide_eq_false h
 simp only [lfN,List.mem_cons,List.not_mem_nil,or_false,not_or] at h'
 obtain ⟨h1,h2,h3,h4,h5,h6,h7⟩:=h'
 unfold lf
 simp only [List.lookup_cons,beq_false_of_ne h1,beq_false_of_ne h2,beq_false_of_ne h3,beq_false_of_ne h4,beq_false_of_ne h5,beq_false_of_ne h6,beq_false_of_ne h7]
theorem yi(n:Int):ak "turns" (.int n) (lf A tn nm cl ex)=lf A n nm cl ex:=by kernel_rfl
theorem yj(v:V):ak "named" v (lf A tn nm cl ex)=lf A tn v cl ex:=by kernel_rfl
end
structure TxA(K:PySem.W.Frag)(CL:Addr):Prop where
 cl:Cls K CL
 na:NoAttr K CL "name"
 tp:NoAttr K CL "steps"
 ho:NoAttr K CL "houses"
 hd:NoAttr K CL "hands"
 tn:NoAttr K CL "turns"
 nm:NoAttr K CL "named"
 cd:NoAttr K CL "closed"
structure Ld(CL:Addr)(CW:Wd->Addr)(H:Hp)(A:Al)(p:Pa)(xs:List Stp)(hs ys:List Int)(tn:Int)(nm:V)(cl:Bool)(ex:List (Str×V)):Prop where
 ins:H A.l=some (.ins CL A.dx (lf A tn nm cl ex))
 nam:H A.na=some (.tup [.int p.1,.int p.2])
 stp:∃us,H A.tp=some (.tup us)/\StsP CW H xs us
 hou:H A.ho=some (.tup (hs.map V.int))
 han:H A.hd=some (.lst (ys.map V.int))
 ar:ArS xs
 le:ys.length<=xs.length
 lx:xs.length<=12
 fx:ex.length<=9
section
variable {CL:Addr}{CW:Wd->Addr}{H H':Hp}{A:Al}{p:Pa}{xs:List Stp}{hs ys:List Int}{tn:Int}{nm:V}{cl:Bool}{ex:List (Str×V)}
theorem Ld.keep(q:Ld CL CW H A p xs hs ys tn nm cl ex)(e:Same H H'):Ld CL CW H' A p xs hs ys tn nm cl ex:=by
 obtain ⟨us,h1,h2⟩:=q.stp
 exact ⟨e _ _ q.ins,e _ _ q.nam,⟨us,e _ _ h1,h2.keep e⟩,e _ _ q.hou,e _ _ q.han,q.ar,q.le,q.lx,q.fx⟩
theorem Ld.few(q:Ld CL CW H A p xs hs ys tn nm cl ex):(lf A tn nm cl ex).length<1000:=by
 have:=q.fx
 unfold lf
 simp only [List.length_cons]
 omega
theorem Ld.upd(q:Ld CL CW H A p xs hs ys tn nm cl ex){tn':Int}{nm':V}{cl':Bool}(hC:∀wd,CW wd≠CL):Ld CL CW (upd H A.l (.ins CL A.dx (lf A tn' nm' cl' ex))) A p xs hs ys tn' nm' cl' ex:=by
 obtain ⟨us,h1,h2⟩:=q.stp
 have k:Kp A.l H (L2.upd H A.l (.ins CL A.dx (lf A tn' nm' cl' ex))):=bp
 refine ⟨ae,k _ _ (bw q.nam q.ins (by intro z;cases z)) q.nam,⟨us,k _ _ (bw h1 q.ins (by intro z;cases z)) h1,Paired.mapP h2 λx v z=>?_⟩,k _ _ (bw q.hou q.ins (by intro z;cases z)) q.hou,k _ _ (bw q.han q.ins (by intro z;cases z)) q.han,q.ar,q.le,q.lx,q.fx⟩
 obtain ⟨a,dx,rfl,e⟩:=z
 exact ⟨a,dx,rfl,k _ _ (λz=>by rw [z,q.ins] at e;exact hC _ (HO.ins.inj (Option.some.inj e)).1.symm) e⟩
end
def aX(xs:List Stp)(ys:List Int):V:=match xs[ys.length]? with | none=>.non | some x=>aH x.1 x.2
def aL(ys:List Int):Int:=ys.getLast?.getD 0
section
variable (CL:Addr)(CW:Wd->Addr)
def g7:Sp:=λvs H Q _=>∃A p xs hs ys tn nm cl ex,vs=[.ref (A:Al).l]/\Ld CL CW H A p xs hs ys tn nm cl ex/\Q (aX xs ys) H
def kU:Sp:=λvs H Q _=>∃A p xs hs ys tn nm cl ex,vs=[.ref (A:Al).l]/\Ld CL CW H A p xs hs ys tn nm cl ex/\Q (.int (aL ys)) H
def sg:Sp:=λvs H Q _=>∃A p xs hs ys tn nm cl ex m i us,vs=[.ref (A:Al).l,.ref m]/\Ld CL CW H A p xs hs ys tn nm cl ex/\ex.lookup ("next_house":Str)=none/\H m=some (.tup (.int i::us))/\Q (.bl (!decide (aX xs ys=.non)&&decide (i=(ys.length:Nat)))) H
def pE:Sp:=λvs H Q _=>∃A p xs hs ys tn nm cl ex o,vs=[.ref (A:Al).l,.str o]/\Ld CL CW H A p xs hs ys tn nm cl ex/\Q (.str o) (upd H A.l (.ins CL A.dx (lf A tn (.str o) cl ex)))
end
theorem vO(F:Fun K "next_house" "Lead.next_house" cv f fd)(B:TxB mg)(T:TxA K CL)(W:TxW K CW)(GH:∀wd,GM P w K mg base CX0 1 (CW wd) "house" ["self"] (fX CW wd)):FnOk P w K mg base CX0 2 f fd ["self"] (g7 CL CW):=by
 refine F.ok gu (λvs H Q E h=>?_) (λcdv A outer s H vs Q E hr h=>?_)
 ·obtain ⟨A,p,xs,hs,ys,tn,nm,cl,ex,rfl,_⟩:=h
  rfl
 obtain ⟨A,p,xs,hs,ys,tn,nm,cl,ex,rfl,ld,q⟩:=h
 refine ⟨_,ad (aF (ap bf (au av rfl B.len PySem.boot_len (aa (aA (pv 0) rfl) ac)) (au av rfl B.len PySem.boot_len (aa (aA (pv 0) rfl) ac)) (ay _)) (af (ao bb)) az)
  (af (ao (pR λwd=>pm0 (GH wd) (aG (r:=cS K) aV (aA (pv 0) rfl) (au av rfl B.len PySem.boot_len (aa (aA (pv 0) rfl) ac)) (λ_ _=>rfl)) (W.cl wd) hr))),?_⟩
 obtain ⟨us,h1,h2⟩:=ld.stp
 have pl:xs.length=us.length:=h2.len
 have hy:(ys.map V.int).length=ys.length:=List.length_map _
 refine ⟨_,rfl,A.l,CL,A.dx,_,_,rfl,ld.ins,T.cl,T.hd,gp,A.hd,_,rfl,.inl (SqL.of ld.han),_,rfl,A.l,CL,A.dx,_,_,rfl,ld.ins,T.cl,T.tp,mY,A.tp,_,rfl,.inr (SqT.of h1),rfl,_,rfl,?_⟩
 rw [hy]
 by_cases e:ys.length=us.length
 ·have e2:aX xs ys=.non:=by unfold aX;rw [List.getElem?_eq_none (by omega)]
  rw [e2] at q
  exact bz (λ_=>q) (λc=>absurd (decide_eq_true (by rw [e])) c)
 ·refine bz (λc=>absurd (of_decide_eq_true c) (λz=>e (by have:=V.int.inj z;omega))) (λ_=>?_)
  have hk:ys.length<us.length:=by have:=ld.le;omega
  obtain ⟨x,ex',sa,sdx,e3,hsa⟩:=h2.get (List.getElem?_eq_getElem hk)
  have e2:aX xs ys=aH x.1 x.2:=by unfold aX;rw [ex']
  rw [e2] at q
  have f1:=pY (m:="house") (by decide +kernel) (by decide +kernel) (by decide +kernel) (by decide +kernel) (by decide +kernel) x.1 x.2
  exact ⟨x.1,_,rfl,A.l,CL,A.dx,_,_,rfl,ld.ins,T.cl,T.tp,mY,_,rfl,A.l,CL,A.dx,_,_,rfl,ld.ins,T.cl,T.hd,gp,A.hd,_,rfl,.inl (SqL.of ld.han),A.tp,_,_,_,rfl,rfl,SqT.of h1,bn (by rw [hy,List.getElem?_eq_getElem hk,e3]),sa,sdx,_,rfl,hsa,f1,_,x.2,rfl,ld.ar x (List.mem_of_getElem? ex'),⟨sa,sdx,rfl,hsa⟩,q⟩
theorem vX(F:Fun K "present_hand" "Lead.present_hand" bR f fd)(T:TxA K CL):FnOk P w K mg base CX0 1 f fd ["self"] (kU CL CW):=by
 refine F.ok fg (λvs H Q E h=>?_) (λcdv A outer s H vs Q E hr h=>?_)
 ·obtain ⟨A,p,xs,hs,ys,tn,nm,cl,ex,rfl,_⟩:=h
  rfl
 obtain ⟨A,p,xs,hs,ys,tn,nm,cl,ex,rfl,ld,q⟩:=h
 refine ⟨_,af (ao (jk (mC (aA (pv 0) rfl) (λ_=>rfl)) (aG (r:=cA K) aK (aA (pv 0) rfl) (pQ kL aj) (λ_ _=>rfl)) aj)),?_⟩
 refine ⟨_,rfl,A.l,CL,A.dx,_,_,rfl,ld.ins,T.cl,T.hd,gp,_,.inl ⟨_,SqL.of ld.han,rfl⟩,?_⟩
 rcases List.eq_nil_or_concat ys with rfl | ⟨zs,z,rfl⟩
 ·exact aI q
 ·have e:(!List.isEmpty ((zs.concat z).map V.int))=true:=by simp
  rw [e]
  refine bU ⟨_,rfl,A.l,CL,A.dx,_,_,rfl,ld.ins,T.cl,T.hd,gp,_,rfl,A.hd,_,_,_,rfl,rfl,SqL.of ld.han,?_,q⟩
  have e2:aL (zs.concat z)=z:=by unfold aL;simp
  rw [e2,List.concat_eq_append,List.map_append]
  exact jK _ _
theorem xY(F:Fun K "is_answer" "Lead.is_answer" cC f fd)(B:TxB mg)(T:TxA K CL)(GN:GM P w K mg base CX0 2 CL "next_house" ["self"] (g7 CL CW)):FnOk P w K mg base CX0 3 f fd ["self","more"] (sg CL CW):=by
 refine F.ok gG (λvs H Q E h=>?_) (λcdv A outer s H vs Q E hr h=>?_)
 ·obtain ⟨A,p,xs,hs,ys,tn,nm,cl,ex,m,i,us,rfl,_⟩:=h
  rfl
 obtain ⟨A,p,xs,hs,ys,tn,nm,cl,ex,m,i,us,rfl,ld,nx,hm,q⟩:=h
 refine ⟨_,af (ao (jm (df eJ (pm0 GN (pv 0) T.cl hr) bb (ay _)) (jj (df bf (aG (r:=cS K) aV (pv 1) aj (λ_ _=>rfl)) (au av rfl B.len PySem.boot_len (aa (aA (pv 0) rfl) ac)) (ay _))))),?_⟩
 have hy:(ys.map V.int).length=ys.length:=List.length_map _
 refine ⟨_,rfl,A.l,A.dx,_,rfl,ld.ins,(by rw [uf (by decide +kernel)];exact nx),A,p,xs,hs,ys,tn,nm,cl,ex,rfl,ld,rfl,_,rfl,?_⟩
 by_cases e:aX xs ys=.non
 ·rw [decide_eq_true e] at q ⊢
  exact aI q
 ·rw [decide_eq_false e] at q ⊢
  refine bU ⟨_,rfl,m,_,_,_,rfl,rfl,SqT.of hm,St.at0,_,rfl,A.l,CL,A.dx,_,_,rfl,ld.ins,T.cl,T.hd,gp,A.hd,_,rfl,.inl (SqL.of ld.han),rfl,?_⟩
  have e2:decide (V.int i=V.int (((ys.map V.int).length:Nat):Int))=decide (i=(ys.length:Nat)):=by rw [hy,iW];rfl
  rw [e2]
  exact q
theorem xV(F:Fun K "naming" "Lead.naming" dU f fd)(T:TxA K CL):FnOk P w K mg base CX0 1 f fd ["self","outcome"] (pE CL CW):=by
 refine F.ok ja (λvs H Q E h=>?_) (λcdv A outer s H vs Q E hr h=>?_)
 ·obtain ⟨A,p,xs,hs,ys,tn,nm,cl,ex,o,rfl,_⟩:=h
  rfl
 obtain ⟨A,p,xs,hs,ys,tn,nm,cl,ex,o,rfl,ld,q⟩:=h
 refine ⟨_,ad (aJ (pv 0) (pv 1) rfl) (af (ao (pv 1))),?_⟩
 refine ⟨_,rfl,_,rfl,A.l,CL,A.dx,_,rfl,ld.ins,T.cl,T.nm,ld.few,?_⟩
 rw [yj]
 exact ⟨_,rfl,q⟩
variable {CH:Addr}
theorem zU{H H':Hp}{A:Ad}{h:Ah}{d:Sd}{rs:List Addr}{ws:List Ws}{v:V}(q:ShA CS CH K H A h d rs ws v)(k:∀b u,b∈A.l::h.own A->H b=some u->H' b=some u)(t:bD H H'):ShA CS CH K H' A h d rs ws v:=by
 obtain ⟨us,stu⟩:=q.st
 obtain ⟨us2,h1,h2⟩:=q.snt
 have kk:∀b u,b∈h.own A->H b=some u->H' b=some u:=λb u hb=>k b u (List.mem_cons_of_mem _ hb)
 have own:∀x∈A.own,x∈h.own A:=λx hx=>.tail _ (.tail _ (.tail _ hx))
 refine ⟨⟨us,k _ _ List.mem_cons_self stu.ins,λx hx=>kk _ _ (own _ (List.mem_map.mpr ⟨x,hx,rfl⟩)) (stu.co x hx),pp stu.bg λ_ _ z=>z.keep t,λx hx=>(stu.rd x hx).keep t,stu.wa.keep t,stu.nd⟩,kk _ _ (.head _) q.ins,kk _ _ (.tail _ (.head _)) q.rws,⟨us2,kk _ _ (.tail _ (.tail _ (.head _))) h1,Paired.mapP h2 λ_ _ z=>z.keep t⟩,q.lat.imp id λz=>z.keep t,q.n1,q.n2,q.n3,q.n4,q.n5⟩
theorem xw{a:Addr}{o:HO}{H H':Hp}{A:Ad}{h:Ah}{d:Sd}{rs:List Addr}{ws:List Ws}{v:V}(q:ShA CS CH K H A h d rs ws v)(k:Kp a H H')(n:a∉A.l::h.own A)(e:H a=some o)(ht:∀xs,o≠.tup xs):ShA CS CH K H' A h d rs ws v :=
 zU q (λb u hb=>k b u (λz=>n (z▸hb))) (λb xs e2=>k b _ (λz=>by rw [z,e] at e2;exact ht xs (Option.some.inj e2)) e2)
theorem zd{H:Hp}{A:Ad}{h:Ah}{d:Sd}{rs:List Addr}{ws:List Ws}{v:V}(q:ShA CS CH K H A h d rs ws v){b c dx:Addr}{fs:List (Str×V)}(e:H b=some (.ins c dx fs))(hc:c≠CH):b∉h.own A:=λhb=>by
 simp only [Ah.own,List.mem_cons] at hb
 rcases hb with z | z | z | z
 ·rw [z,q.ins] at e
  exact hc (HO.ins.inj (Option.some.inj e)).1.symm
 ·rw [z,q.rws] at e
  cases e
 ·obtain ⟨us,e',_⟩:=q.snt
  rw [z,e'] at e
  cases e
 ·obtain ⟨us,stu⟩:=q.st
  obtain ⟨o,e',_,n2⟩:=stu.own z
  rw [e] at e'
  cases e'
  exact n2 _ _ _ rfl
abbrev exH(ag:Addr):List (Str×V):=[("agreed",.ref ag)]
theorem bo{A:Al}{tn:Int}{nm:V}{cl:Bool}{ag:Addr}{m:Str}(h:decide (m∈("agreed":Str)::lfN)=false):(lf A tn nm cl (exH ag)).lookup m=none:=by
 have h':m∉("agreed":Str)::lfN:=of_decide_eq_false h
 rw [uf (decide_eq_false λz=>h' (.tail _ z))]
 show List.lookup m [(_,_)]=none
 have e:(m==("agreed":Str))=false:=beq_false_of_ne λz=>h' (by rw [z];exact .head _)
 rw [List.lookup_cons,e]
 rfl
def agK(as:List Int):List (Key×V):=as.map λn=>(.inl n,.bl true)
def li(hs as:List Int):List Int:=hs.filter λn=>decide (n∉as)
def fO(A:Al)(ag:Addr)(S:Ad)(h:Ah):List Addr:=A.l::A.hd::ag::h.own S
def KpA(A:Al)(ag:Addr)(S:Ad)(h:Ah)(H H':Hp):Prop:=∀b o,b∉fO A ag S h->H b=some o->H' b=some o
theorem KpA.trans{A:Al}{ag:Addr}{S:Ad}{h:Ah}{H H1 H2:Hp}(a:KpA A ag S h H H1)(b:KpA A ag S h H1 H2):KpA A ag S h H H2:=λc o n e=>b c o n (a c o n e)
theorem KpA.of{A:Al}{ag:Addr}{S:Ad}{h:Ah}{H H1:Hp}(a:Same H H1):KpA A ag S h H H1:=λc o _ e=>a c o e
theorem KpA.sh{A:Al}{ag:Addr}{S:Ad}{h:Ah}{H H1:Hp}(a:KpH S h H H1):KpA A ag S h H H1:=λc o n e=>a c o (λz=>n (.tail _ (.tail _ (.tail _ z)))) e
theorem KpA.up{A:Al}{ag a:Addr}{S:Ad}{h:Ah}{H:Hp}{o:HO}(m:a∈fO A ag S h):KpA A ag S h H (upd H a o):=λc u n e=>by
 rw [aq (λ(z:c=a)=>n (by rw [z];exact m))]
 exact e
structure TxC(K:PySem.W.Frag)(CW:Wd->Addr)(CL CH:Addr):Prop where
 t:TxA K CL
 ag:NoAttr K CL "agreed"
 n1:∀wd,CW wd≠CL
 n2:∀wd,CW wd≠CH
 n3:CL≠CH
structure LSh(CL CS CH:Addr)(CW:Wd->Addr)(K:PySem.W.Frag)(H:Hp)(A:Al)(ag:Addr)(S:Ad)(h:Ah)(p:Pa)(xs:List Stp)(hs ys:List Int)(tn:Int)(nm:V)(cl:Bool)(as:List Int)(d:Sd)(rs:List Addr)(ws:List Ws)(v:V):Prop where
 ld:Ld CL CW H A p xs hs ys tn nm cl (exH ag)
 agr:H ag=some (.dK (agK as))
 sh:ShA CS CH K H S h d rs ws v
 m1:A.l∉S.l::h.own S
 m2:A.hd∉S.l::h.own S
 m3:ag∉S.l::h.own S
 hl:hs.length<=12
section
variable {H H':Hp}{A:Al}{ag:Addr}{S:Ad}{h:Ah}{p:Pa}{xs:List Stp}{hs ys:List Int}{tn:Int}{nm:V}{cl:Bool}{as:List Int}{d:Sd}{rs:List Addr}{ws:List Ws}{v:V}
theorem LSh.keep(q:LSh CL CS CH CW K H A ag S h p xs hs ys tn nm cl as d rs ws v)(e:Same H H'):LSh CL CS CH CW K H' A ag S h p xs hs ys tn nm cl as d rs ws v:=⟨q.ld.keep e,e _ _ q.agr,q.sh.keep e,q.m1,q.m2,q.m3,q.hl⟩
theorem LSh.sent(q:LSh CL CS CH CW K H A ag S h p xs hs ys tn nm cl as d rs ws v)(T:TxC K CW CL CH){ws':List Ws}{d':Sd}{rs':List Addr}{v':V}(sh:ShA CS CH K H' S h d' rs' ws' v')(k:KpH S h H H'):LSh CL CS CH CW K H' A ag S h p xs hs ys tn nm cl as d' rs' ws' v':=by
 obtain ⟨us,h1,h2⟩:=q.ld.stp
 have t:=q.sh.ts k
 have no:∀{a:Addr},a∉S.l::h.own S->a∉h.own S:=λn z=>n (.tail _ z)
 exact ⟨⟨k _ _ (no q.m1) q.ld.ins,t _ _ q.ld.nam,⟨us,t _ _ h1,Paired.mapP h2 λx u ⟨a,dx,e,z⟩=>⟨a,dx,e,k _ _ (zd q.sh z (T.n2 _)) z⟩⟩,t _ _ q.ld.hou,k _ _ (no q.m2) q.ld.han,q.ld.ar,q.ld.le,q.ld.lx,q.ld.fx⟩,k _ _ (no q.m3) q.agr,sh,q.m1,q.m2,q.m3,q.hl⟩
theorem LSh.set(q:LSh CL CS CH CW K H A ag S h p xs hs ys tn nm cl as d rs ws v)(T:TxC K CW CL CH)(tn':Int)(nm':V)(cl':Bool):LSh CL CS CH CW K (upd H A.l (.ins CL A.dx (lf A tn' nm' cl' (exH ag)))) A ag S h p xs hs ys tn' nm' cl' as d rs ws v :=
 ⟨q.ld.upd T.n1,bp _ _ (bw q.agr q.ld.ins (by intro z;cases z)) q.agr,xw q.sh bp q.m1 q.ld.ins (λ_ z=>by cases z),q.m1,q.m2,q.m3,q.hl⟩
theorem zb{a:Addr}{o:HO}{us:List V}(k:Kp a H H')(e:H a=some o)(ho:∀c dx fs,o≠.ins c dx fs)(h:StsP CW H xs us):StsP CW H' xs us:=Paired.mapP h λx u ⟨b,dx,e2,z⟩=>⟨b,dx,e2,k _ _ (λy=>by rw [y,e] at z;exact ho _ _ _ (Option.some.inj z)) z⟩
theorem LSh.more(q:LSh CL CS CH CW K H A ag S h p xs hs ys tn nm cl as d rs ws v)(n:Int)(hn:ys.length<xs.length):LSh CL CS CH CW K (upd H A.hd (.lst (ys.map V.int++[.int n]))) A ag S h p xs hs (ys++[n]) tn nm cl as d rs ws v:=by
 obtain ⟨us,h1,h2⟩:=q.ld.stp
 have k:Kp A.hd H (upd H A.hd (.lst (ys.map V.int++[.int n]))):=bp
 have ne:∀{b:Addr} {o:HO},H b=some o->o≠.lst (ys.map V.int)->b≠A.hd:=λe n=>bw e q.ld.han n
 exact ⟨⟨k _ _ (ne q.ld.ins (by intro z;cases z)) q.ld.ins,k _ _ (ne q.ld.nam (by intro z;cases z)) q.ld.nam,⟨us,k _ _ (ne h1 (by intro z;cases z)) h1,zb k q.ld.han (λ_ _ _ z=>by cases z) h2⟩,k _ _ (ne q.ld.hou (by intro z;cases z)) q.ld.hou,by rw [ae,List.map_append];rfl,q.ld.ar,by rw [List.length_append];exact hn,q.ld.lx,q.ld.fx⟩,
  k _ _ (ne q.agr (by intro z;cases z)) q.agr,xw q.sh k q.m2 q.ld.han (λ_ z=>by cases z),q.m1,q.m2,q.m3,q.hl⟩
end
theorem yI(as:List Int)(n:Int):g6 (agK as) (.inl n)=if n∈as then some (.bl true) else none:=by
 induction as with
 | nil=>rfl
 | cons a r ih =>
  by_cases e:a=n
  ·rw [if_pos (e▸List.mem_cons_self)]
   exact iY (congrArg Sum.inl e)
  ·have:g6 (agK (a::r)) (.inl n)=g6 (agK r) (.inl n):=iZ λz=>e (Sum.inl.inj z)
   rw [this,ih]
   by_cases m:n∈r
   ·rw [if_pos m,if_pos (List.mem_cons_of_mem _ m)]
   ·rw [if_neg m,if_neg (λz=>(List.mem_cons.mp z).elim (λy=>e y.symm) m)]
variable {CH CN:Addr}
structure Sg where
 (A:Al)(ag:Addr)(S:Ad)(h:Ah)(p:Pa)(xs:List Stp)(hs ys:List Int)(tn:Int)(nm:V)(cl:Bool)(as:List Int)(d:Sd)(rs:List Addr)(ws:List Ws)(v:V)
abbrev Lg(CL CS CH:Addr)(CW:Wd->Addr)(K:PySem.W.Frag)(H:Hp)(g:Sg):Prop:=LSh CL CS CH CW K H g.A g.ag g.S g.h g.p g.xs g.hs g.ys g.tn g.nm g.cl g.as g.d g.rs g.ws g.v
abbrev KpG(g:Sg)(H H':Hp):Prop:=KpA g.A g.ag g.S g.h H H'
def jS(na ho:Addr)(ns:List Int):List Ws:=ns.map λn=>(n,("ready":Str),na,ho)
def Sg.sil(g:Sg):List Int:=li g.hs g.as
def pw:Bool->Wd
 | true=>.plus
 | false=>.need
def ij(x:Stp)(n:Int):Int:=match x.1,x.2 with | .plus,[a]=>n+a | _,_=>n
def dm(x:Stp)(n:Int):Bool:=match x.1,x.2 with | .need,[a]=>decide (n<a) | _,_=>false
def gB(xs:List Stp):Nat->List Int->List Int×Bool
 | 0,ys=>(ys,true)
 | k+1,ys=>match xs[ys.length]? with
  | none=>(ys,true)
  | some x=>if aH x.1 x.2=V.non then (if dm x (aL ys)=true then (ys,false) else gB xs k (ys++[ij x (aL ys)])) else (ys,true)
def own(xs:List Stp)(ys:List Int):List Int×Bool:=gB xs (xs.length-ys.length) ys
theorem f7(xs:List Stp)(k:Nat)(ys:List Int):gB xs (k+1) ys=match xs[ys.length]? with | none=>(ys,true) | some x=>if aH x.1 x.2=V.non then (if dm x (aL ys)=true then (ys,false) else gB xs k (ys++[ij x (aL ys)])) else (ys,true):=rfl
theorem ii{xs:List Stp}{ys:List Int}(k:Nat)(h:xs[ys.length]?=none):gB xs (k+1) ys=(ys,true):=by rw [f7,h]
theorem lL{xs:List Stp}{ys:List Int}{x:Stp}(k:Nat)(h:xs[ys.length]?=some x)(e:aH x.1 x.2=.non)(f:dm x (aL ys)=false):gB xs (k+1) ys=gB xs k (ys++[ij x (aL ys)]):=by
 rw [f7,h]
 show (if aH x.1 x.2=V.non then (if dm x (aL ys)=true then (ys,false) else gB xs k (ys++[ij x (aL ys)])) else (ys,true))=_
 rw [if_pos e,f]
 rfl
theorem jn{xs:List Stp}{ys:List Int}{x:Stp}(k:Nat)(h:xs[ys.length]?=some x)(e:aH x.1 x.2=.non)(f:dm x (aL ys)=true):gB xs (k+1) ys=(ys,false):=by
 rw [f7,h]
 show (if aH x.1 x.2=V.non then (if dm x (aL ys)=true then (ys,false) else gB xs k (ys++[ij x (aL ys)])) else (ys,true))=_
 rw [if_pos e,if_pos f]
theorem lM{xs:List Stp}{ys:List Int}{x:Stp}(k:Nat)(h:xs[ys.length]?=some x)(e:aH x.1 x.2≠.non):gB xs (k+1) ys=(ys,true):=by
 rw [f7,h]
 exact if_neg e
theorem d7{xs:List Stp}{ys:List Int}(h:aX xs ys≠.non\/xs.length<=ys.length):own xs ys=(ys,true):=by
 unfold own
 cases e:xs.length-ys.length with
 | zero=>rfl
 | succ k =>
  cases ex:xs[ys.length]? with
  | none=>exact ii k ex
  | some x =>
   refine lM k ex ?_
   have h':=h.resolve_right (by omega)
   unfold aX at h'
   rw [ex] at h'
   exact h'
theorem pT{xs:List Stp}{ys:List Int}{x:Stp}(hx:xs[ys.length]?=some x)(hh:aH x.1 x.2=.non)(f:dm x (aL ys)=true):own xs ys=(ys,false):=by
 have hl:=(List.getElem?_eq_some_iff.mp hx).1
 unfold own
 obtain ⟨k,ek⟩:∃k,xs.length-ys.length=k+1:=⟨xs.length-ys.length-1,by omega⟩
 rw [ek]
 exact jn k hx hh f
theorem fw{xs:List Stp}{ys:List Int}{x:Stp}(hx:xs[ys.length]?=some x)(hh:aH x.1 x.2=.non)(f:dm x (aL ys)=false):own xs ys=own xs (ys++[ij x (aL ys)]):=by
 have hl:=(List.getElem?_eq_some_iff.mp hx).1
 unfold own
 have e2:(ys++[ij x (aL ys)]).length=ys.length+1:=by rw [List.length_append];rfl
 have e:xs.length-ys.length=(xs.length-(ys++[ij x (aL ys)]).length)+1:=by rw [e2];omega
 rw [e]
 exact lL _ hx hh f
theorem uq(ys:List Int)(n:Int):aL (ys++[n])=n:=by unfold aL;simp
theorem mI(xs:List Stp)(R:List Int->Prop)(hs:∀ys x,xs[ys.length]?=some x->aH x.1 x.2=.non->dm x (aL ys)=false->R ys->R (ys++[ij x (aL ys)])):∀k ys,R ys->R (gB xs k ys).1
 | 0,_,r=>r
 | k+1,ys,r=>by
  cases ex:xs[ys.length]? with
  | none=>rw [ii k ex];exact r
  | some x =>
   by_cases e:aH x.1 x.2=.non
   ·cases f:dm x (aL ys) with
    | true=>rw [jn k ex e f];exact r
    | false=>rw [lL k ex e f];exact mI xs R hs k _ (hs ys x ex e f r)
   ·rw [lM k ex e];exact r
theorem vy{xs:List Stp}{ys:List Int}(h:ys.length<=xs.length):(own xs ys).1.length<=xs.length:=mI xs (λys=>ys.length<=xs.length) (λys x hx _ _ _=>by
 have:=(List.getElem?_eq_some_iff.mp hx).1
 rw [List.length_append]
 exact this) _ ys h
theorem mJ(xs:List Stp):∀k ys,xs.length-ys.length=k->(gB xs k ys).2=true->aX xs (gB xs k ys).1≠.non\/xs.length<=(gB xs k ys).1.length
 | 0,ys,h,_=>.inr (by show xs.length<=ys.length;omega)
 | k+1,ys,h,t=>by
  cases ex:xs[ys.length]? with
  | none=>rw [ii k ex];exact .inr (List.getElem?_eq_none_iff.mp ex)
  | some x =>
   by_cases e:aH x.1 x.2=.non
   ·cases f:dm x (aL ys) with
    | true=>rw [jn k ex e f] at t;cases t
    | false =>
     rw [lL k ex e f] at t ⊢
     refine mJ xs k _ ?_ t
     have e2:(ys++[ij x (aL ys)]).length=ys.length+1:=by rw [List.length_append];rfl
     omega
   ·rw [lM k ex e]
    exact .inl (by unfold aX;rw [ex];exact e)
theorem vz{xs:List Stp}{ys:List Int}(t:(own xs ys).2=true):aX xs (own xs ys).1≠.non\/xs.length<=(own xs ys).1.length:=mJ xs _ ys rfl t
section
variable (CL CS CH CN:Addr)(CW:Wd->Addr)(K:PySem.W.Frag)
def va(b:Bool):Sp:=λvs H Q E=>∃v ns n u,vs=[v,.int n,u]/\Ar (pw b) ns/\StO CW H (pw b) ns v/\(dm (pw b,ns) n=false->∀t t2 H',Same H H'->H' t=some (.tup [.int (ij (pw b,ns) n),.ref t2])->Q (.ref t) H')/\(dm (pw b,ns) n=true->∀ea,E (.ref ea) (some CN) H)
def StQ(wd:Str)(H:Hp)(g:Sg)(Q:V->Hp->Prop):Prop:=∃x n,g.xs[g.ys.length]?=some x/\aH x.1 x.2=.int n/\g.ws.length<=900 /\
 ∀t H',Lg CL CS CH CW K H' {g with ws:=g.ws++[(n,wd,g.A.na,t)]}->H' t=some (.tup [.int (g.ys.length:Nat),.int (aL g.ys),.str (sx x)])->KpG g H H'->Q .non H'
def kP:Sp:=λvs H Q _=>∃g wd,vs=[.ref (g:Sg).A.l,.ref g.h.l,.str wd]/\Lg CL CS CH CW K H g/\StQ CL CS CH CW K wd H g Q
def Sg.own(g:Sg):Sg:={g with ys:=(K41.own g.xs g.ys).1}
def rY:Sp:=λvs H Q _=>∃g,vs=[.ref (g:Sg).A.l]/\Lg CL CS CH CW K H g/\∀H',Lg CL CS CH CW K H' g.own->KpG g H H'->Q (.bl (own g.xs g.ys).2) H'
end
structure TxN(K:PySem.W.Frag)(mg:Str->Option Value)(CN:Addr):Prop where
 mN:mg "NoNeed"=some (.ref CN)
 xN:PySem.W.excIn K CN [.type "ValueError",.type "Exception",.type "BaseException",.type "object"] "ValueError.__new__"=true
 sub:PySem.W.mroIn K CN (.ref CN)=some true
theorem tX(F:Fun K "step_done" "PlusStep.step_done" bK f fd)(W:TxW K CW):FnOk P w K mg base (CXE P w) 1 f fd ["self","hand","value_of"] (va CN CW true):=by
 refine F.okE eX (λvs H Q E h=>?_) (λcdv A outer s H vs Q E hr h=>?_)
 ·obtain ⟨v,ns,n,u,rfl,_⟩:=h
  rfl
 obtain ⟨v,ns,n,u,rfl,ar,⟨a,dx,rfl,ha⟩,q,_⟩:=h
 obtain ⟨b,rfl,_⟩:=Ar.p ar
 have ha:H a=some (.ins (CW .plus) dx (ak "amount" (.int b) [])):=ha
 refine ⟨_,af (ao (ba (aa (aD dk (pv 1) (aA (pv 0) rfl)) (aa (ba ac) ac)))),?_⟩
 refine ⟨_,rfl,_,rfl,a,CW .plus,dx,_,_,rfl,ha,W.cl _,W.nA _,bu,_,_,rfl,rfl,(by show 0<=sizeLine;decide),λt2 ht2=>⟨(by show 2<=sizeLine;decide),λt ht=>?_⟩⟩
 exact q rfl t t2 _ ((ai ht2).trans (ai ht)) ae
theorem tY(F:Fun K "step_done" "NeedStep.step_done" bL f fd)(W:TxW K CW)(N:TxN K mg CN):FnOk P w K mg base (CXE P w) 1 f fd ["self","hand","value_of"] (va CN CW false):=by
 refine F.okE fb (λvs H Q E h=>?_) (λcdv A outer s H vs Q E hr h=>?_)
 ·obtain ⟨v,ns,n,u,rfl,_⟩:=h
  rfl
 obtain ⟨v,ns,n,u,rfl,ar,⟨a,dx,rfl,ha⟩,q,qn⟩:=h
 obtain ⟨b,rfl,_⟩:=Ar.n ar
 have ha:H a=some (.ins (CW .need) dx (ak "amount" (.int b) [])):=ha
 refine ⟨_,ad (aF (ap gl (pv 1) (aA (pv 0) rfl) (ay _)) (af (sS yF rfl rfl N.mN N.xN PySem.F.excBase_ValueError (aa aB ac))) az) (af (ao (ba (aa (pv 1) (aa (ba ac) ac))))),?_⟩
 refine ⟨_,rfl,_,rfl,a,CW .need,dx,_,_,rfl,ha,W.cl _,W.nA _,bu,_,_,rfl,rfl,_,rfl,bz (λc=>?_) (λc=>?_)⟩
 ·exact ⟨Nat.le_refl _,qn (show decide (n<b)=true from c)⟩
 ·have c':decide (n<b)=false:=by
   cases e:decide (n<b) with
   | false=>rfl
   | true=>exact absurd e c
  refine ⟨_,rfl,(by show 0<=sizeLine;decide),λt2 ht2=>⟨(by show 2<=sizeLine;decide),λt ht=>?_⟩⟩
  exact q c' t t2 _ ((ai ht2).trans (ai ht)) ae
theorem xS{fN:Addr}(F:Fun K "own_steps_done" "Lead.own_steps_done" bF f fd)(B:TxB mg)(T:TxC K CW CL CH)(W:TxW K CW)(N:TxN K mg CN)(mN:mg "no_value"=some (.ref fN))(GN:GM P w K mg base CX0 2 CL "next_house" ["self"] (g7 CL CW))(GA:GM P w K mg base CX0 1 CL "present_hand" ["self"] (kU CL CW))
  (GD:∀b,GM P w K mg base (CXE P w) 1 (CW (pw b)) "step_done" ["self","hand","value_of"] (va CN CW b)):FnOk P w K mg base CX0 3 f fd ["self"] (rY CL CS CH CW K):=by
 refine F.ok sc_Lead_own_steps_done (λvs H Q E h=>?_) (λcdv A outer s H vs Q E hr h=>?_)
 ·obtain ⟨g,rfl,_⟩:=h
  rfl
 obtain ⟨g,rfl,lg,q⟩:=h
 have nd:=sc_Lead_own_steps_done.nd
 refine ⟨_,ad (jg PassesOwn.never (PW.pt (dO (ap gl (au av rfl B.len PySem.boot_len (aa (aA (pv 0) rfl) ac)) (au av rfl B.len PySem.boot_len (aa (aA (pv 0) rfl) ac)) (ay _)) (da (ap jp (pm0 GN (pv 0) T.t.cl hr) bb (ay _)))))
   (ad (aC (i:=1) nd rfl (Or.inl rfl) (aG (r:=cS K) aV (aA (pv 0) rfl) (au av rfl B.len PySem.boot_len (aa (aA (pv 0) rfl) ac)) (λ_ _=>rfl)))
   (af (oI (C:=CN) rfl rfl rfl (xI PySem.F.plainAttrs_list PySem.F.slot_list_append PySem.F.type_list_append dg (aA (pv 0) rfl) (xG (r:=cS K) aV (xH λb=>sU (pv 1) (W.cl _) (GD b).me (GD b).ok (hr.mono (by decide)) (GD b).bd (aa (pm0 GA (pv 0) T.t.cl hr) (aa (db (v:=.ref fN) rfl mN rfl) ac))) aj (λ_ _=>rfl))) rfl N.mN (qj N.mN N.xN N.mN N.xN (by decide +kernel) N.sub) (λev=>af (ao fu))))))
  (af (ao fu)),?_⟩
 refine ⟨λm σ' H'=>∃y1 ys,σ'=[some (.ref g.A.l),y1]/\Lg CL CS CH CW K H' {g with ys:=ys}/\KpG g H H'/\own g.xs ys=own g.xs g.ys/\m=g.xs.length-ys.length,⟨_,none,g.ys,rfl,lg,λb o _ e=>e,rfl,rfl⟩,?_⟩
 rintro m σ' H1 ⟨y1,ys,rfl,lg1,k1,eo,rfl⟩
 have ld:=lg1.ld
 obtain ⟨us,hu1,hu2⟩:=ld.stp
 have pl:g.xs.length=us.length:=hu2.len
 have hy:(ys.map V.int).length=ys.length:=List.length_map _
 have n12:g.xs.length<=12:=ld.lx
 have to:∀{H2:Hp} {b:Bool},Lg CL CS CH CW K H2 {g with ys:=ys}->KpG g H H2->own g.xs ys=(ys,b)->Q (.bl b) H2:=λ{H2 b} l2 k2 e=>by
  have e2:own g.xs g.ys=(ys,b):=eo.symm.trans e
  have z:=q H2 (by
   show LSh _ _ _ _ _ _ _ _ _ _ _ _ _ (own g.xs g.ys).1 _ _ _ _ _ _ _ _
   rw [e2]
   exact l2) k2
  rw [e2] at z
  exact z
 have fin:aX g.xs ys≠.non\/g.xs.length<=ys.length->Q (.bl true) H1:=λz=>to lg1 k1 (d7 z)
 refine ⟨_,rfl,g.A.l,CL,g.A.dx,_,_,rfl,ld.ins,T.t.cl,T.t.hd,gp,g.A.hd,_,rfl,.inl (SqL.of ld.han),_,rfl,g.A.l,CL,g.A.dx,_,_,rfl,ld.ins,T.t.cl,T.t.tp,mY,g.A.tp,_,rfl,.inr (SqT.of hu1),_,_,rfl,rfl,_,rfl,?_⟩
 rw [hy]
 refine bz (λc=>?_) (λc=>aI (fin (.inr ?_)))
 ·have c':ys.length<g.xs.length:=by have z:=of_decide_eq_true c;omega
  refine ⟨_,rfl,g.A.l,g.A.dx,_,rfl,ld.ins,bo (by decide +kernel),g.A,g.p,g.xs,g.hs,ys,g.tn,g.nm,g.cl,_,rfl,ld,rfl,_,rfl,?_⟩
  by_cases en:aX g.xs ys=.non
  ·rw [decide_eq_true en]
   refine bU ?_
   obtain ⟨x,ex⟩:∃x,g.xs[ys.length]?=some x:=⟨_,List.getElem?_eq_getElem c'⟩
   have hh:aH x.1 x.2=.non:=by unfold aX at en;rw [ex] at en;exact en
   have arx:=ld.ar x (List.mem_of_getElem? ex)
   obtain ⟨b,eb⟩:∃b,x.1=pw b:=by
    by_cases w1:x.1=.plus
    ·exact ⟨true,w1⟩
    by_cases w2:x.1=.need
    ·exact ⟨false,w2⟩
    obtain ⟨i,r,_,e2⟩:=arx.home w1 w2
    rw [e2] at hh
    cases hh
   obtain ⟨u,eu,sa,sdx,rfl,hsa⟩:=hu2.get1 ex
   obtain ⟨wd,ns⟩:=x
   cases (show wd=pw b from eb)
   have f1:=pY (m:="step_done") (by decide +kernel) (by decide +kernel) (by decide +kernel) (by decide +kernel) (by decide +kernel) (pw b) ns
   refine ⟨fun σ' H'=>∃y1 ys',σ'=[some (.ref g.A.l),y1]/\Lg CL CS CH CW K H' {g with ys:=ys'}/\KpG g H H'/\own g.xs ys'=own g.xs g.ys/\ys'.length=ys.length+1,fun σ' H' ⟨y1,ys',e1,e2,e3,e4,e6⟩=>⟨g.xs.length-ys'.length,by omega,y1,ys',e1,e2,e3,e4,rfl⟩,?_⟩
   refine ⟨_,rfl,g.A.l,CL,g.A.dx,_,_,rfl,ld.ins,T.t.cl,T.t.tp,mY,_,rfl,g.A.l,CL,g.A.dx,_,_,rfl,ld.ins,T.t.cl,T.t.hd,gp,g.A.hd,_,rfl,.inl (SqL.of ld.han),g.A.tp,_,_,_,rfl,rfl,SqT.of hu1,bn (by rw [hy];exact eu),?_⟩
   refine ⟨_,rfl,g.A.l,CL,g.A.dx,_,_,rfl,ld.ins,T.t.cl,T.t.hd,gp,.inl ⟨rfl,_,SqL.of ld.han⟩,b,_,rfl,sa,sdx,_,rfl,hsa,f1,_,rfl,g.A.l,g.A.dx,_,rfl,ld.ins,bo (by decide +kernel),g.A,g.p,g.xs,g.hs,ys,g.tn,g.nm,g.cl,_,rfl,ld,_,ns,_,_,rfl,arx,⟨sa,sdx,rfl,hsa⟩,λnf t t2 H2 s2 ht=>?_,λnf ea=>⟨ea,rfl,rfl,λhe=>?_⟩⟩
   ·have lg2:=lg1.keep s2
    refine ⟨t,_,_,_,rfl,rfl,SqT.of ht,St.at0,g.A.hd,_,_,rfl,rfl,lg2.ld.han,cz (by rw [hy];omega),?_⟩
    have lg3:=lg2.more (ij (pw b,ns) (aL ys)) c'
    have e3:own g.xs (ys++[ij (pw b,ns) (aL ys)])=own g.xs g.ys:=(fw ex hh nf).symm.trans eo
    exact ⟨_,_,rfl,lg3,(k1.trans (KpA.of s2)).trans (KpA.up (.tail _ (.head _))),e3,by rw [List.length_append];rfl⟩
   ·exact to (lg1.keep (ai he)) (k1.trans (KpA.of (ai he))) (pT ex hh nf)
  ·rw [decide_eq_false en]
   exact aI (fin (.inl en))
 ·have z:¬((ys.length:Nat):Int)<((us.length:Nat):Int):=λz=>c (decide_eq_true z)
  omega
theorem tm(F:Fun K "send_step" "Lead.send_step" cB f fd)(B:TxB mg)(T:TxC K CW CL CH)(W:TxW K CW)(DH:TxH K CH)(GP:∀wd,GM P w K mg base CX0 4 (CW wd) "spelled" ["self"] (bQ CW wd))(GN:GM P w K mg base CX0 2 CL "next_house" ["self"] (g7 CL CW))(GA:GM P w K mg base CX0 1 CL "present_hand" ["self"] (kU CL CW))
  (GS:GM P w K mg base CX0 1 CH "send" ["self","to","word","p","more"] (iR CS CH K)):FnOk P w K mg base CX0 5 f fd ["self","sheet","word"] (kP CL CS CH CW K):=by
 refine F.ok sc_Lead_send_step (λvs H Q E h=>?_) (λcdv A outer s H vs Q E hr h=>?_)
 ·obtain ⟨g,wd,rfl,_⟩:=h
  rfl
 obtain ⟨g,wd,rfl,lg,x,n,hx,hh,hw,q⟩:=h
 have nd:=sc_Lead_send_step.nd
 refine ⟨_,ad (aC (i:=3) nd rfl (Or.inl rfl) (au av rfl B.len PySem.boot_len (aa (aA (pv 0) rfl) ac)))
  (ad (aC (i:=4) nd rfl (Or.inl rfl) (pR λwd=>pm0 (GP wd) (aG (r:=cS K) aV (aA (pv 0) rfl) (pv 3) (λ_ _=>rfl)) (W.cl wd) hr))
  (af (cH (pm GS (pv 1) DH.cl hr (aa (pm0 GN (pv 0) T.t.cl hr) (aa (pv 2) (aa (aA (pv 0) rfl) (aa (ba (aa (pv 3) (aa (pm0 GA (pv 0) T.t.cl hr) (aa (pv 4) ac)))) ac)))))))),?_⟩
 have ld:=lg.ld
 obtain ⟨us,h1,h2⟩:=ld.stp
 have hy:(g.ys.map V.int).length=g.ys.length:=List.length_map _
 obtain ⟨u,eu,sa,sdx,rfl,hsa⟩:=h2.get1 hx
 have f1:=pY (m:="spelled") (by decide +kernel) (by decide +kernel) (by decide +kernel) (by decide +kernel) (by decide +kernel) x.1 x.2
 refine ⟨_,rfl,g.A.l,CL,g.A.dx,_,_,rfl,ld.ins,T.t.cl,T.t.hd,gp,g.A.hd,_,rfl,.inl (SqL.of ld.han),?_⟩
 rw [hy]
 refine ⟨x.1,_,rfl,g.A.l,CL,g.A.dx,_,_,rfl,ld.ins,T.t.cl,T.t.tp,mY,_,rfl,g.A.tp,_,_,_,rfl,rfl,SqT.of h1,bn eu,sa,sdx,_,rfl,hsa,f1,_,x.2,rfl,ld.ar x (List.mem_of_getElem? hx),⟨sa,sdx,rfl,hsa⟩,λH1 s1=>?_⟩
 have lg1:=lg.keep s1
 have ld1:=lg1.ld
 have e2:aX g.xs g.ys=.int n:=by unfold aX;rw [hx];exact hh
 refine ⟨_,rfl,g.h.l,g.h.dx,_,rfl,lg1.sh.ins,kq (by decide +kernel),_,rfl,g.A.l,g.A.dx,_,rfl,ld1.ins,(bo (by decide +kernel)),g.A,g.p,g.xs,g.hs,g.ys,g.tn,g.nm,g.cl,_,rfl,ld1,?_⟩
 rw [e2]
 refine ⟨_,rfl,_,rfl,g.A.l,CL,g.A.dx,_,_,rfl,ld1.ins,T.t.cl,T.t.na,wT,_,rfl,_,rfl,g.A.l,g.A.dx,_,rfl,ld1.ins,(bo (by decide +kernel)),g.A,g.p,g.xs,g.hs,g.ys,g.tn,g.nm,g.cl,_,rfl,ld1,_,rfl,(by show 3<=sizeLine;decide),λt ht=>?_⟩
 have s2:=ai (o:=.tup [.int (g.ys.length:Nat),.int (aL g.ys),.str (sx x)]) ht
 have lg2:=lg1.keep s2
 have ht2:(upd H1 t (.tup [.int (g.ys.length:Nat),.int (aL g.ys),.str (sx x)])) t=some (.tup [.int (g.ys.length:Nat),.int (aL g.ys),.str (sx x)]):=ae
 refine ⟨g.S,g.h,g.d,g.rs,g.ws,g.v,(n,wd,g.A.na,t),rfl,lg2.sh,hw,λH3 sh3 k3=>?_⟩
 exact q t H3 (lg2.sent T sh3 k3) (lg2.sh.ts k3 _ _ ht2) (((KpA.of s1).trans (KpA.of s2)).trans (KpA.sh k3))
variable {CH CN:Addr}
theorem sQ{X:Cx}{e:Expr}:PW X e (λ_ _ _=>False):=λ_ _ _ _ _ _ _ h=>h.elim
section
variable (CL CS CH:Addr)(CW:Wd->Addr)(K:PySem.W.Frag)
def pA:Sp:=λvs H Q _=>∃g,vs=[.ref (g:Sg).A.l]/\Lg CL CS CH CW K H g/\∀l H',Same H H'->H l=none->H' l=some (.lst (g.sil.map V.int))->Q (.ref l) H'
def DnQ(H:Hp)(g:Sg)(Q:V->Hp->Prop):Prop:=(g.sil≠[]/\∀H',Same H H'->Q .non H')\/(g.sil=[]/\∀H',Lg CL CS CH CW K H' {g with nm:=.str "done"}->KpG g H H'->Q (.str "done") H')
def ot:Sp:=λvs H Q _=>∃g,vs=[.ref (g:Sg).A.l]/\Lg CL CS CH CW K H g/\DnQ CL CS CH CW K H g Q
def GoQ(H:Hp)(g:Sg)(Q:V->Hp->Prop):Prop:=StQ CL CS CH CW K "work" H g Q\/(g.ys.length=g.xs.length/\g.ws.length<=880/\((g.sil≠[]/\∀H',Lg CL CS CH CW K H' {g with ws:=g.ws++jS g.A.na g.A.ho g.sil}->KpG g H H'->Q .non H')\/(g.sil=[]/\∀H',Lg CL CS CH CW K H' {g with ws:=g.ws++jS g.A.na g.A.ho g.sil,nm:=.str "done"}->KpG g H H'->Q (.str "done") H')))
def sk:Sp:=λvs H Q _=>∃g,vs=[.ref (g:Sg).A.l,.ref g.h.l]/\Lg CL CS CH CW K H g/\GoQ CL CS CH CW K H g Q
def GgQ(H:Hp)(g:Sg)(Q:V->Hp->Prop):Prop:=g.cl=false/\g.nm=.non/\∀H',Lg CL CS CH CW K H' g.own->KpG g H H'->((own g.xs g.ys).2=false/\∀H2,Lg CL CS CH CW K H2 {g.own with nm:=.str "broken"}->KpG g H' H2->Q (.str "broken") H2)\/((own g.xs g.ys).2=true/\GoQ CL CS CH CW K H' g.own Q)
def so:Sp:=λvs H Q _=>∃g,vs=[.ref (g:Sg).A.l,.ref g.h.l]/\Lg CL CS CH CW K H g/\GgQ CL CS CH CW K H g Q
def kN:Sp:=λvs H Q _=>∃g,vs=[.ref (g:Sg).A.l,.ref g.h.l]/\Lg CL CS CH CW K H g/\g.nm=.non/\g.tn+1≠4/\∀H',Lg CL CS CH CW K H' {g with tn:=g.tn+1}->KpG g H H'->GgQ CL CS CH CW K H' {g with tn:=g.tn+1} Q
def ow:Sp:=λvs H Q _=>∃g wd sd m,vs=[.ref (g:Sg).A.l,.ref g.h.l,.str wd,sd,.ref m]/\Lg CL CS CH CW K H g/\g.nm=.non/\(
 (wd="did"/\∃i n,H m=some (.tup [.int i,.int n]) /\
  ((i=(g.ys.length:Nat)/\aX g.xs g.ys≠.non/\∀H',Lg CL CS CH CW K H' {g with ys:=g.ys++[n]}->KpG g H H'->GgQ CL CS CH CW K H' {g with ys:=g.ys++[n]} Q) \/
   (¬(i=(g.ys.length:Nat)/\aX g.xs g.ys≠.non)/\Q .non H))) \/
 (wd="went"/\Q .non H))
end
theorem xQ(F:Fun K "silent" "HeldLead.silent" bh f fd)(T:TxC K CW CL CH):FnOk P w K mg base CX0 1 f fd ["self"] (pA CL CS CH CW K):=by
 refine F.ok gv (λvs H Q E h=>?_) (λcdv A outer s H vs Q E hr h=>?_)
 ·obtain ⟨g,rfl,_⟩:=h
  rfl
 obtain ⟨g,rfl,lg,q⟩:=h
 refine ⟨_,af (ao (gk fh rfl (sT (aA (pv 0) rfl)) (λ_ _ _ _=>lD (xC (qE (qW hr) (pv 0) (pfK K 1)))) (λ_ _ _ _=>pv 0))),?_⟩
 have ld:=lg.ld
 have hs12:=lg.hl
 have hz:(100000:Nat)<=sizeLine:=by decide
 refine ⟨_,rfl,g.A.l,CL,g.A.dx,_,_,rfl,ld.ins,T.t.cl,T.t.ho,wU,g.A.ho,rfl,⟨_,SqT.of ld.hou⟩,?_⟩
 refine ug (xs:=g.hs.map V.int) (λi ys H1=>H1=H/\ys=(li (g.hs.take i) g.as).map V.int) ⟨rfl,rfl⟩ (by rw [List.length_map];omega) (λi ys H1 _ z=>by rw [z.1];exact SqT.of ld.hou) ?_ ?_
 ·rintro i u ys H1 hu ⟨rfl,rfl⟩
  rw [List.getElem?_map] at hu
  obtain ⟨n,en,rfl⟩:=Option.map_eq_some_iff.mp hu
  have et:g.hs.take (i+1)=g.hs.take i++[n]:=by rw [List.take_add_one,en];rfl
  have es:li (g.hs.take (i+1)) g.as=li (g.hs.take i) g.as++li [n] g.as:=by rw [et];exact List.filter_append _ _
  refine ⟨_,rfl,_,rfl,g.A.l,CL,g.A.dx,_,_,rfl,ld.ins,T.t.cl,T.ag,by rw [uf (by decide +kernel)];kernel_rfl,g.ag,_,rfl,DGet.k (k:=.inl n) lg.agr,_,rfl,?_⟩
  rw [yI]
  by_cases e:n∈g.as
  ·rw [if_pos e]
   have:li [n] g.as=[]:=by unfold li;rw [List.filter_cons,if_neg (by simpa using e)];rfl
   refine aI ⟨rfl,?_⟩
   rw [es,this,List.append_nil]
  ·rw [if_neg e]
   have:li [n] g.as=[n]:=by unfold li;rw [List.filter_cons,if_pos (by simpa using e)];rfl
   refine bU ⟨_,rfl,rfl,?_⟩
   rw [es,this,List.map_append]
   rfl
 ·rintro ys H1 ⟨rfl,rfl⟩ l hl
  rw [List.length_map,List.take_length]
  exact q l _ (ai hl) hl ae
theorem vY(F:Fun K "done_if_all_agree" "HeldLead.done_if_all_agree" aR f fd)(T:TxC K CW CL CH)(GL:GM P w K mg base CX0 1 CL "silent" ["self"] (pA CL CS CH CW K))(GM':GM P w K mg base CX0 1 CL "naming" ["self","outcome"] (pE CL CW)):FnOk P w K mg base CX0 2 f fd ["self"] (ot CL CS CH CW K):=by
 refine F.ok cJ (λvs H Q E h=>?_) (λcdv A outer s H vs Q E hr h=>?_)
 ·obtain ⟨g,rfl,_⟩:=h
  rfl
 obtain ⟨g,rfl,lg,q⟩:=h
 refine ⟨_,af (ao (jk (mC (pm0 GL (pv 0) T.t.cl hr) (λ_=>rfl)) bb (pm GM' (pv 0) T.t.cl hr (aa aB ac)))),?_⟩
 refine ⟨_,rfl,g.A.l,g.A.dx,_,rfl,lg.ld.ins,bo (by decide +kernel),g,rfl,lg,λl H1 s1 nl hl=>⟨_,.inl ⟨_,SqL.of hl,rfl⟩,?_⟩⟩
 have lg1:=lg.keep s1
 rcases q with ⟨e,q⟩ | ⟨e,q⟩
 ·have:(!List.isEmpty (g.sil.map V.int))=true:=by
   cases h:g.sil with
   | nil=>exact absurd h e
   | cons a r=>rfl
  rw [this]
  exact bU (q _ s1)
 ·rw [e]
  refine aI ⟨_,rfl,g.A.l,g.A.dx,_,rfl,lg1.ld.ins,bo (by decide +kernel),g.A,g.p,g.xs,g.hs,g.ys,g.tn,g.nm,g.cl,_,_,rfl,lg1.ld,?_⟩
  exact q _ (lg1.set T g.tn (.str "done") g.cl) ((KpA.of s1).trans (KpA.up (.head _)))
theorem kg{xs:List Stp}{ys:List Int}(h:ys.length=xs.length):aX xs ys=.non:=by
 unfold aX
 rw [List.getElem?_eq_none (by omega)]
theorem ya(F:Fun K "go_ahead" "HeldLead.go_ahead" bT f fd)(T:TxC K CW CL CH)(DH:TxH K CH)(GN:GM P w K mg base CX0 2 CL "next_house" ["self"] (g7 CL CW))(GT:GM P w K mg base CX0 5 CL "send_step" ["self","sheet","word"] (kP CL CS CH CW K))(GL:GM P w K mg base CX0 1 CL "silent" ["self"] (pA CL CS CH CW K))(GD:GM P w K mg base CX0 2 CL "done_if_all_agree" ["self"] (ot CL CS CH CW K))
  (GS:GM P w K mg base CX0 1 CH "send" ["self","to","word","p","more"] (iR CS CH K)):FnOk P w K mg base CX0 6 f fd ["self","sheet"] (sk CL CS CH CW K):=by
 refine F.ok sc_HeldLead_go_ahead (λvs H Q E h=>?_) (λcdv A outer s H vs Q E hr h=>?_)
 ·obtain ⟨g,rfl,_⟩:=h
  rfl
 obtain ⟨g,rfl,lg,q⟩:=h
 have nd:=sc_HeldLead_go_ahead.nd
 refine ⟨_,ad (aF (ap eJ (pm0 GN (pv 0) T.t.cl hr) bb (ay _)) (ad (cH (pm GT (pv 0) T.t.cl hr (aa (pv 1) (aa aB ac)))) (af (ao bb))) az)
  (ad (lE PassesOwn.never rfl (eH (pm0 GL (pv 0) T.t.cl hr)) (bc (i:=2) nd rfl (Or.inl rfl)) (af (cH (pm GS (pv 1) DH.cl hr (aa (pv 2) (aa aB (aa (aA (pv 0) rfl) (aa (aA (pv 0) rfl) ac))))))))
  (af (ao (pm0 GD (pv 0) T.t.cl hr)))),?_⟩
 refine ⟨_,rfl,g.A.l,g.A.dx,_,rfl,lg.ld.ins,bo (by decide +kernel),g.A,g.p,g.xs,g.hs,g.ys,g.tn,g.nm,g.cl,_,rfl,lg.ld,rfl,_,rfl,?_⟩
 rcases q with ⟨x,n,hx,hh,hw,q⟩ | ⟨el,hw,q⟩
 ·have e2:aX g.xs g.ys=.int n:=by unfold aX;rw [hx];exact hh
  rw [e2]
  refine bU ⟨_,rfl,g.A.l,g.A.dx,_,rfl,lg.ld.ins,bo (by decide +kernel),_,rfl,g,_,rfl,lg,x,n,hx,hh,hw,λt H' lg' ht k=>?_⟩
  exact q t H' lg' ht k
 ·rw [kg el]
  refine aI ?_
  refine ⟨_,rfl,g.A.l,g.A.dx,_,rfl,lg.ld.ins,bo (by decide +kernel),g,rfl,lg,λl H1 s1 nl hl=>⟨l,rfl,⟨_,SqL.of hl⟩,?_⟩⟩
  have lg1:=lg.keep s1
  have lo:l∉fO g.A g.ag g.S g.h:=λhb=>by
   rcases List.mem_cons.mp hb with z | hb
   ·rw [z,lg.ld.ins] at nl;cases nl
   rcases List.mem_cons.mp hb with z | hb
   ·rw [z,lg.ld.han] at nl;cases nl
   rcases List.mem_cons.mp hb with z | hb
   ·rw [z,lg.agr] at nl;cases nl
   obtain ⟨o,e1,_⟩:=lg.sh.own hb
   rw [nl] at e1
   cases e1
  have sl:g.sil.length<=12:=Nat.le_trans (List.length_filter_le _ _) lg.hl
  refine jD (xs:=g.sil.map V.int) (λi σ H'=>∃x2,σ=[some (.ref g.A.l),some (.ref g.h.l),x2]/\Lg CL CS CH CW K H' {g with ws:=g.ws++jS g.A.na g.A.ho (g.sil.take i)}/\KpG g H1 H') ⟨none,rfl,by show LSh _ _ _ _ _ _ _ _ _ _ _ _ _ _ _ _ _ _ _ _ (g.ws++[]) _;rw [List.append_nil];exact lg1,λb o _ e=>e⟩ (λi σ H' _ z=>by obtain ⟨_,_,_,k⟩:=z;exact SqL.of (k _ _ lo hl)) ?_ ?_
  ·rintro i u σ H2 hu ⟨x2,rfl,lg2,k2⟩
   rw [List.getElem?_map] at hu
   obtain ⟨n,en,rfl⟩:=Option.map_eq_some_iff.mp hu
   have et:g.sil.take (i+1)=g.sil.take i++[n]:=by rw [List.take_add_one,en];rfl
   refine ⟨_,rfl,g.h.l,g.h.dx,_,rfl,lg2.sh.ins,kq (by decide +kernel),_,rfl,_,rfl,g.A.l,CL,g.A.dx,_,_,rfl,lg2.ld.ins,T.t.cl,T.t.na,wT,_,rfl,g.A.l,CL,g.A.dx,_,_,rfl,lg2.ld.ins,T.t.cl,T.t.ho,wU,g.S,g.h,g.d,g.rs,_,g.v,(n,("ready":Str),g.A.na,g.A.ho),rfl,lg2.sh,?_,λH3 sh3 k3=>?_⟩
   ·rw [List.length_append]
    unfold jS
    rw [List.length_map,List.length_take]
    omega
   ·refine ⟨_,rfl,?_,k2.trans (KpA.sh k3)⟩
    have z:=lg2.sent T sh3 k3
    have e:(g.ws++jS g.A.na g.A.ho (g.sil.take i))++[(n,("ready":Str),g.A.na,g.A.ho)]=g.ws++jS g.A.na g.A.ho (g.sil.take (i+1)):=by
     rw [et]
     unfold jS
     rw [List.map_append,List.append_assoc]
     rfl
    rw [e] at z
    exact z
  ·rintro σ H2 ⟨x2,rfl,lg2,k2⟩
   rw [List.length_map,List.take_length] at lg2
   refine ⟨_,rfl,g.A.l,g.A.dx,_,rfl,lg2.ld.ins,bo (by decide +kernel),{g with ws:=g.ws++jS g.A.na g.A.ho g.sil},rfl,lg2,?_⟩
   rcases q with ⟨ns,q⟩ | ⟨ns,q⟩
   ·exact .inl ⟨ns,λH3 s3=>q H3 (lg2.keep s3) (((KpA.of s1).trans k2).trans (KpA.of s3))⟩
   ·exact .inr ⟨ns,λH3 lg3 k3=>q H3 lg3 (((KpA.of s1).trans k2).trans k3)⟩
theorem zr(F:Fun K "go" "Lead.go" im f fd)(T:TxC K CW CL CH)(GO:GM P w K mg base CX0 3 CL "own_steps_done" ["self"] (rY CL CS CH CW K))(GM':GM P w K mg base CX0 1 CL "naming" ["self","outcome"] (pE CL CW))(GA:GM P w K mg base CX0 6 CL "go_ahead" ["self","sheet"] (sk CL CS CH CW K)):FnOk P w K mg base CX0 7 f fd ["self","sheet"] (so CL CS CH CW K):=by
 refine F.ok oz (λvs H Q E h=>?_) (λcdv A outer s H vs Q E hr h=>?_)
 ·obtain ⟨g,rfl,_⟩:=h
  rfl
 obtain ⟨g,rfl,lg,ec,en,q⟩:=h
 refine ⟨_,ad (aF (bq (aA (pv 0) rfl)) aE az)
  (ad (aF (ap eJ (aA (pv 0) rfl) bb (ay _)) (af (ao bb)) az)
  (ad (aF (dQ (bq (pm0 GO (pv 0) T.t.cl hr))) (af (ao (pm GM' (pv 0) T.t.cl hr (aa aB ac)))) az)
  (af (ao (pm GA (pv 0) T.t.cl hr (aa (pv 1) ac)))))),?_⟩
 refine ⟨_,rfl,g.A.l,CL,g.A.dx,_,_,rfl,lg.ld.ins,T.t.cl,T.t.cd,zv,_,rfl,?_⟩
 rw [ec]
 refine aI ⟨_,rfl,g.A.l,CL,g.A.dx,_,_,rfl,lg.ld.ins,T.t.cl,T.t.nm,ue,rfl,_,rfl,?_⟩
 rw [en]
 refine aI ⟨_,rfl,g.A.l,g.A.dx,_,rfl,lg.ld.ins,bo (by decide +kernel),g,rfl,lg,λH1 lg1 k1=>⟨_,rfl,?_⟩⟩
 rcases q H1 lg1 k1 with ⟨e,q⟩ | ⟨e,q⟩
 ·rw [e]
  refine bU ⟨_,rfl,g.A.l,g.A.dx,_,rfl,lg1.ld.ins,bo (by decide +kernel),g.A,g.p,g.xs,g.hs,g.own.ys,g.tn,g.nm,g.cl,_,_,rfl,lg1.ld,?_⟩
  exact q _ (lg1.set T g.tn (.str "broken") g.cl) (KpA.up (.head _))
 ·rw [e]
  exact aI ⟨_,rfl,g.A.l,g.A.dx,_,rfl,lg1.ld.ins,bo (by decide +kernel),_,rfl,g.own,rfl,lg1,q⟩
theorem vG(F:Fun K "turn" "Lead.turn" fH f fd)(T:TxC K CW CL CH)(cP:∃t,mg "PATIENCE"=some (.int 4 t))(GG:GM P w K mg base CX0 7 CL "go" ["self","sheet"] (so CL CS CH CW K)):FnOk P w K mg base CX0 8 f fd ["self","sheet"] (kN CL CS CH CW K):=by
 refine F.ok lA (λvs H Q E h=>?_) (λcdv A outer s H vs Q E hr h=>?_)
 ·obtain ⟨g,rfl,_⟩:=h
  rfl
 obtain ⟨g,rfl,lg,en,e4,q⟩:=h
 obtain ⟨tP,cP⟩:=cP
 refine ⟨_,ad (aF (ap jp (aA (pv 0) rfl) bb (ay _)) (ad (ib (pv 0) aj o6) (af (aF (ap bf (aA (pv 0) rfl) (db (v:=.int 4) rfl cP ⟨_,rfl⟩) (ay _)) aE az))) az)
  (af (ao (pm GG (pv 0) T.t.cl hr (aa (pv 1) ac)))),?_⟩
 refine ⟨_,rfl,g.A.l,CL,g.A.dx,_,_,rfl,lg.ld.ins,T.t.cl,T.t.nm,ue,rfl,_,rfl,?_⟩
 rw [decide_eq_true en]
 refine bU ⟨_,rfl,g.A.l,CL,g.A.dx,_,_,rfl,lg.ld.ins,T.t.cl,T.t.tn,wR,_,_,rfl,rfl,_,_,lg.ld.ins,lg.ld.few,?_⟩
 rw [yi]
 have lg1:=lg.set T (g.tn+1) g.nm g.cl
 have k1:KpG g H (upd H g.A.l (.ins CL g.A.dx (lf g.A (g.tn+1) g.nm g.cl (exH g.ag)))):=KpA.up (.head _)
 generalize (upd H g.A.l (HO.ins CL g.A.dx (lf g.A (g.tn+1) g.nm g.cl (exH g.ag))))=H1 at lg1 k1 ⊢
 refine ⟨_,rfl,g.A.l,CL,g.A.dx,_,_,rfl,lg1.ld.ins,T.t.cl,T.t.tn,wR,rfl,_,rfl,?_⟩
 rw [decide_eq_false (λz=>e4 (V.int.inj z))]
 exact aI ⟨_,rfl,g.A.l,g.A.dx,_,rfl,lg1.ld.ins,bo (by decide +kernel),_,rfl,{g with tn:=g.tn+1},rfl,lg1,q H1 lg1 k1⟩
theorem v4(F:Fun K "came" "HeldLead.came" cX f fd)(T:TxC K CW CL CH)(GI:GM P w K mg base CX0 3 CL "is_answer" ["self","more"] (sg CL CW))(GG:GM P w K mg base CX0 7 CL "go" ["self","sheet"] (so CL CS CH CW K)) :
  FnOk P w K mg base CX0 8 f fd ["self","sheet","word","sender","more"] (ow CL CS CH CW K):=by
 refine F.ok hW (λvs H Q E h=>?_) (λcdv A outer s H vs Q E hr h=>?_)
 ·obtain ⟨g,wd,sd,m,rfl,_⟩:=h
  rfl
 obtain ⟨g,wd,sd,m,rfl,lg,en,q⟩:=h
 refine ⟨_,ad (aF (ap eJ (aA (pv 0) rfl) bb (ay _)) (af (ao bb)) az)
  (ad (aF (PW.pt (dO (ap bf (pv 2) aB (ay _)) (da (bq (pm GI (pv 0) T.t.cl hr (aa (pv 4) ac))))))
   (ad (cH (d0 PySem.F.plainAttrs_list PySem.F.slot_list_append PySem.F.type_list_append dg (aA (pv 0) rfl) (aa (aG (r:=cS K) aV (pv 4) aj (λ_ _=>rfl)) ac))) (af (ao (pm GG (pv 0) T.t.cl hr (aa (pv 1) ac))))) az)
  (ad (aF (PW.pt (dO (ap bf (pv 2) aB (ay _)) sQ)) aE az)
  (af (ao bb)))),?_⟩
 have ld:=lg.ld
 have hy:(g.ys.map V.int).length=g.ys.length:=List.length_map _
 have l12:=ld.lx
 have le:=ld.le
 refine ⟨_,rfl,g.A.l,CL,g.A.dx,_,_,rfl,ld.ins,T.t.cl,T.t.nm,ue,rfl,_,rfl,?_⟩
 rw [decide_eq_true en]
 refine aI ?_
 rcases q with ⟨rfl,i,n,hm,q⟩ | ⟨rfl,q⟩
 ·refine ⟨_,rfl,rfl,_,rfl,bU ?_⟩
  refine ⟨_,rfl,g.A.l,g.A.dx,_,rfl,ld.ins,bo (by decide +kernel),_,rfl,g.A,g.p,g.xs,g.hs,g.ys,g.tn,g.nm,g.cl,_,m,i,_,rfl,ld,by kernel_rfl,hm,_,rfl,?_⟩
  rcases q with ⟨e1,e2,q⟩ | ⟨ne,q⟩
  ·rw [decide_eq_false e2,decide_eq_true e1]
   refine bU ?_
   have hlt:g.ys.length<g.xs.length:=by
    by_cases z:g.ys.length=g.xs.length
    ·exact absurd (kg z) e2
    ·omega
   refine ⟨_,rfl,g.A.l,CL,g.A.dx,_,_,rfl,ld.ins,T.t.cl,T.t.hd,gp,.inl ⟨rfl,_,SqL.of ld.han⟩,_,rfl,m,_,_,_,rfl,rfl,SqT.of hm,St.at1,g.A.hd,_,_,rfl,rfl,ld.han,cz (by rw [hy];omega),?_⟩
   have lg1:=lg.more n hlt
   have k1:KpG g H (upd H g.A.hd (.lst (g.ys.map V.int++[.int n]))):=KpA.up (.tail _ (.head _))
   generalize (upd H g.A.hd (HO.lst (g.ys.map V.int++[.int n])))=H1 at lg1 k1 ⊢
   exact ⟨_,rfl,g.A.l,g.A.dx,_,rfl,lg1.ld.ins,bo (by decide +kernel),_,rfl,{g with ys:=g.ys++[n]},rfl,lg1,q H1 lg1 k1⟩
  ·have e3:(!decide (aX g.xs g.ys=.non)&&decide (i=(g.ys.length:Nat)))=false:=by
    by_cases a:aX g.xs g.ys=.non
    ·rw [decide_eq_true a];rfl
    ·rw [decide_eq_false a,decide_eq_false λz=>ne ⟨z,a⟩];rfl
   rw [e3]
   exact aI ⟨_,rfl,rfl,_,rfl,aI (aI q)⟩
 ·refine ⟨_,rfl,rfl,_,rfl,aI (aI ?_)⟩
  exact ⟨_,rfl,rfl,_,rfl,aI (aI q)⟩
def pG(CL CP:Addr)(CW:Wd->Addr):Sp:=λvs H Q _=>∃l dx na v p b xs,vs=[.ref l,.ref na,v]/\H l=some (.ins CL dx [])/\H na=some (.tup [.int (p:Pa).1,.int p.2])/\PaO CP CW H (mS b) xs v/\ArS xs/\xs.length<=12 /\
 ∀A hs H',(A:Al).l=l->A.na=na->Ld CL CW H' A p xs hs [] 0 .non false []->wD xs hs->H A.hd=none->Kp l H H'->Q .non H'
theorem qI(F:Fun K "__init__" "Lead.__init__" fJ f fd)(T:TxA K CL)(TP:TxP K CP)(hC:∀wd,CW wd≠CL)(GH:GF P w K mg base CX0 2 "houses_of" ["pact"] (i5 CP CW)):FnOk P w K mg base CX0 3 f fd ["self","name","pact"] (pG CL CP CW):=by
 refine F.ok lB (λvs H Q E h=>?_) (λcdv A outer s H vs Q E hr h=>?_)
 ·obtain ⟨l,dx,na,v,p,b,xs,rfl,_⟩:=h
  rfl
 obtain ⟨l,dx,na,v,p,b,xs,rfl,hl,hna,⟨a,adx,sl,tp,us,rfl,pa⟩,ar,lx,q⟩:=h
 refine ⟨_,ad (aJ (pv 0) (pv 1) rfl) (ad (aJ (pv 0) (aA (pv 2) rfl) rfl) (ad (aJ (pv 0) (pc GH hr (aa (pv 2) ac)) rfl)
  (ad (aJ (pv 0) (aT ac) rfl) (ad (aJ (pv 0) aj rfl) (ad (aJ (pv 0) bb rfl) (af (aJ (pv 0) fu rfl))))))),?_⟩
 have nal:a≠l:=λz=>by have e:=pa.ins;rw [z,hl] at e;cases e
 have ntl:tp≠l:=bw pa.tp hl (by intro z;cases z)
 have nnl:na≠l:=bw hna hl (by intro z;cases z)
 have kpP:∀{H':Hp},Kp l H H'->PaU CP CW H' (mS b) xs a adx sl tp us:=λk=>⟨k _ _ nal pa.ins,k _ _ (bw pa.sl hl (by intro z;cases z)) pa.sl,k _ _ ntl pa.tp,Paired.mapP pa.st λx u ⟨c,cdx,e,z⟩=>⟨c,cdx,e,k _ _ (λy=>by rw [y,hl] at z;exact hC _ (HO.ins.inj (Option.some.inj z)).1.symm) z⟩⟩
 refine ⟨_,rfl,_,rfl,l,CL,dx,_,rfl,hl,T.cl,T.na,(by show 0<1000;decide),?_⟩
 have k1:Kp l H (upd H l (.ins CL dx (ak "name" (.ref na) []))):=bp
 have h1:(upd H l (.ins CL dx (ak "name" (.ref na) []))) l=some (.ins CL dx [("name",.ref na)]):=ae
 generalize (upd H l (HO.ins CL dx (ak "name" (.ref na) [])))=H1 at k1 h1 ⊢
 refine ⟨_,rfl,a,CP,adx,_,_,rfl,(kpP k1).ins,TP.cl,TP.np,zo _ _ _,_,rfl,l,CL,dx,_,rfl,h1,T.cl,T.tp,(by show 1<1000;decide),?_⟩
 have k2:Kp l H1 (upd H1 l (.ins CL dx (ak "steps" (.ref tp) [("name",.ref na)]))):=bp
 have h2:(upd H1 l (.ins CL dx (ak "steps" (.ref tp) [("name",.ref na)]))) l=some (.ins CL dx [("name",.ref na),("steps",.ref tp)]):=by rw [ae];kernel_rfl
 generalize (upd H1 l (HO.ins CL dx (ak "steps" (.ref tp) [("name",.ref na)])))=H2 at k2 h2 ⊢
 have k02:=k1.trans k2
 refine ⟨_,rfl,_,b,xs,rfl,⟨a,adx,sl,tp,us,rfl,kpP k02⟩,ar,by omega,λho hs H3 s3 hho his=>?_⟩
 have h3:=s3 _ _ h2
 have k03:=k02.trans (Kp.of s3)
 refine ⟨_,rfl,l,CL,dx,_,rfl,h3,T.cl,T.ho,(by show 2<1000;decide),?_⟩
 have k4:Kp l H3 (upd H3 l (.ins CL dx (ak "houses" (.ref ho) [("name",.ref na),("steps",.ref tp)]))):=bp
 have h4:(upd H3 l (.ins CL dx (ak "houses" (.ref ho) [("name",.ref na),("steps",.ref tp)]))) l=some (.ins CL dx [("name",.ref na),("steps",.ref tp),("houses",.ref ho)]):=by rw [ae];kernel_rfl
 have hho4:=k4 _ _ (bw hho h3 (by intro z;cases z)) hho
 generalize (upd H3 l (HO.ins CL dx (ak "houses" (.ref ho) [("name",.ref na),("steps",.ref tp)])))=H4 at k4 h4 hho4 ⊢
 have k04:=k03.trans k4
 refine ⟨(by show 0<=sizeLine;decide),λhd n5=>?_⟩
 obtain ⟨b1,b2,b3,k5⟩:=cy (o:=.lst []) (fs':=ak "hands" (.ref hd) [("name",.ref na),("steps",.ref tp),("houses",.ref ho)]) h4 n5
 refine ⟨_,rfl,l,CL,dx,_,rfl,b1,T.cl,T.hd,(by show 3<1000;decide),?_⟩
 have z5:hd≠l:=bw b3 b2 (by intro z;cases z)
 have hho5:=k5 _ _ (bw hho4 h4 (by intro z;cases z)) hho4
 generalize (upd (upd H4 hd _) l _)=H5 at b2 b3 k5 hho5 ⊢
 have k05:=k04.trans k5
 have h5:H5 l=some (.ins CL dx [("name",.ref na),("steps",.ref tp),("houses",.ref ho),("hands",.ref hd)]):=by rw [b2];kernel_rfl
 refine ⟨_,rfl,l,CL,dx,_,rfl,h5,T.cl,T.tn,(by show 4<1000;decide),?_⟩
 have k6:Kp l H5 (upd H5 l (.ins CL dx (ak "turns" (.int 0) [("name",.ref na),("steps",.ref tp),("houses",.ref ho),("hands",.ref hd)]))):=bp
 have h6:(upd H5 l (.ins CL dx (ak "turns" (.int 0) [("name",.ref na),("steps",.ref tp),("houses",.ref ho),("hands",.ref hd)]))) l=some (.ins CL dx [("name",.ref na),("steps",.ref tp),("houses",.ref ho),("hands",.ref hd),("turns",.int 0)]):=by rw [ae];kernel_rfl
 generalize (upd H5 l _)=H6 at k6 h6 ⊢
 refine ⟨_,rfl,l,CL,dx,_,rfl,h6,T.cl,T.nm,(by show 5<1000;decide),?_⟩
 have k7:Kp l H6 (upd H6 l (.ins CL dx (ak "named" .non [("name",.ref na),("steps",.ref tp),("houses",.ref ho),("hands",.ref hd),("turns",.int 0)]))):=bp
 have h7:(upd H6 l (.ins CL dx (ak "named" .non [("name",.ref na),("steps",.ref tp),("houses",.ref ho),("hands",.ref hd),("turns",.int 0)]))) l=some (.ins CL dx [("name",.ref na),("steps",.ref tp),("houses",.ref ho),("hands",.ref hd),("turns",.int 0),("named",.non)]):=by rw [ae];kernel_rfl
 generalize (upd H6 l _)=H7 at k7 h7 ⊢
 refine ⟨_,rfl,l,CL,dx,_,rfl,h7,T.cl,T.cd,(by show 6<1000;decide),?_⟩
 have k8:Kp l H7 (upd H7 l (.ins CL dx (ak "closed" (.bl false) [("name",.ref na),("steps",.ref tp),("houses",.ref ho),("hands",.ref hd),("turns",.int 0),("named",.non)]))):=bp
 have h8:(upd H7 l (.ins CL dx (ak "closed" (.bl false) [("name",.ref na),("steps",.ref tp),("houses",.ref ho),("hands",.ref hd),("turns",.int 0),("named",.non)]))) l=some (.ins CL dx (lf ⟨l,dx,na,tp,ho,hd⟩ 0 .non false [])):=by rw [ae];kernel_rfl
 generalize (upd H7 l _)=H8 at k8 h8 ⊢
 have k58:=k6.trans (k7.trans k8)
 have k08:=k05.trans k58
 have nhl:ho≠l:=bw hho5 h5 (by intro z;cases z)
 refine q ⟨l,dx,na,tp,ho,hd⟩ hs H8 rfl rfl ⟨h8,k08 _ _ nnl hna,⟨us,(kpP k08).tp,(kpP k08).st⟩,k58 _ _ nhl hho5,k58 _ _ z5 b3,ar,Nat.zero_le _,lx,Nat.zero_le _⟩ his ?_ k08
 cases e:H hd with
 | none=>rfl
 | some u =>
  rw [k04 _ _ z5 e] at n5
  cases n5
def mq(CL CP:Addr)(CW:Wd->Addr):Sp:=λvs H Q _=>∃l dx na v p b xs,vs=[.ref l,.ref na,v]/\H l=some (.ins CL dx [])/\H na=some (.tup [.int (p:Pa).1,.int p.2])/\PaO CP CW H (mS b) xs v/\ArS xs/\xs.length<=12 /\
 ∀A ag hs H',(A:Al).l=l->A.na=na->Ld CL CW H' A p xs hs [] 0 .non false (exH ag)->H' ag=some (.dK [])->wD xs hs->H A.hd=none->H ag=none->Kp l H H'->Q .non H'
theorem qK{CA fA:Addr}{dA:FuncData}(F:Fun K "__init__" "HeldLead.__init__" cW f fd)(T:TxC K CW CL CH)(mgA:mg "Lead"=some (.ref CA))(cf:uR K CA "__init__" fA)(GA:FnOk P w K mg base CX0 3 fA dA ["self","name","pact"] (pG CL CP CW))(bA:Binds K dA ["self","name","pact"] []) :
  FnOk P w K mg base CX0 4 f fd ["self","name","pact"] (mq CL CP CW):=by
 refine F.ok hV (λvs H Q E h=>?_) (λcdv A outer s H vs Q E hr h=>?_)
 ·obtain ⟨l,dx,na,v,p,b,xs,rfl,_⟩:=h
  rfl
 obtain ⟨l,dx,na,v,p,b,xs,rfl,hl,hna,pa,ar,lx,q⟩:=h
 refine ⟨_,ad (cH (pS (db (v:=.ref CA) rfl mgA rfl) cf GA hr bA br (aa (pv 0) (aa (pv 1) (aa (pv 2) ac))))) (af (aJ (pv 0) sY rfl)),?_⟩
 refine ⟨_,rfl,_,rfl,_,rfl,l,dx,na,v,p,b,xs,rfl,hl,hna,pa,ar,lx,λA hs H1 eA eN ld his nhd k1=>?_⟩
 refine λag n2=>?_
 have hi:=ld.ins
 obtain ⟨b1,b2,b3,k2⟩:=cy (o:=.dK []) (fs':=ak "agreed" (.ref ag) (lf A 0 .non false [])) hi n2
 subst eA
 refine ⟨_,rfl,A.l,CL,A.dx,_,rfl,b1,T.t.cl,T.ag,(by show 7<1000;decide),?_⟩
 have z2:ag≠A.l:=bw b3 b2 (by intro z;cases z)
 generalize (upd (upd H1 ag _) A.l _)=H2 at b2 b3 k2 ⊢
 obtain ⟨us,e1,e2⟩:=ld.stp
 have ne:∀{c:Addr} {o:HO},H1 c=some o->(∀c d e,o≠.ins c d e)->c≠A.l:=λe n=>bw e hi (n _ _ _)
 refine q A ag hs H2 rfl eN ⟨by rw [b2];kernel_rfl,k2 _ _ (ne ld.nam (λ_ _ _ z=>by cases z)) ld.nam,⟨us,k2 _ _ (ne e1 (λ_ _ _ z=>by cases z)) e1,Paired.mapP e2 λx u ⟨c,cdx,e,z⟩=>⟨c,cdx,e,k2 _ _ (λy=>by rw [y,hi] at z;exact T.n1 _ (HO.ins.inj (Option.some.inj z)).1.symm) z⟩⟩,k2 _ _ (ne ld.hou (λ_ _ _ z=>by cases z)) ld.hou,k2 _ _ (ne ld.han (λ_ _ _ z=>by cases z)) ld.han,ar,Nat.zero_le _,lx,by show 1<=9;decide⟩ b3 his nhd ?_ (k1.trans k2)
 cases e:H ag with
 | none=>rfl
 | some u =>
  rw [k1 _ _ z2 e] at n2
  cases n2
end
end K41
namespace L2
open PySem PySem.Spec PyProof.Rows PySem.W
end L2
namespace L2
open PySem PySem.Spec PyProof.Rows PySem.W Lo
end L2
namespace L2
open PySem PySem.Spec PyProof.Rows PySem.W Lo Tb
end L2
namespace L2
open PySem PySem.Spec PyProof.Rows
section
variable {X:Cx}
theorem mK(hu:X.A.units<cLine):OpR X (compareOp .Eq) (λx y H Q=>∃a b us,x=.ref a/\y=.ref b/\SqL X.K H a us/\SqL X.K H b []/\Q (.bl (decide (us=[]))) H):=by
 intro pins s σ H x y v u Q I rx ry h
 obtain ⟨a,b,us,rfl,rfl,ha,hb,q⟩:=h
 cases rx
 cases ry
 obtain ⟨i1,v1,p1,_⟩:=I.list ha
 obtain ⟨i2,v2,p2,_⟩:=I.list hb
 cases v2
 have l1:=v1.length
 by_cases e:us=[]
 ·subst e
  cases v1
  have z:=PySem.SeqAt.RcAt.lists (A:=X.A) (s:=s) (e:=λ_=>true) p1.isList p2.isList rfl hu (λj h1 h2=>by cases h1)
  rw [decide_eq_true rfl] at q
  exact z X.prog X.w X.xe _ ⟨.bl true,H,I,rfl,q⟩
 ·have hsz:(i1.toArray.size != ([]:List Value).toArray.size)=true:=by
   have:i1.length≠0:=λz=>e (List.length_eq_zero_iff.mp (by rw [l1];exact z))
   simpa using this
  rw [decide_eq_false e] at q
  exact PySem.SeqAt.RcAt.lists_lengths p1.isList p2.isList hsz hu X.prog X.w X.xe _ ⟨.bl false,H,I,rfl,q⟩
end
end L2
namespace Lo
open PySem L2
end Lo
namespace L2
open PySem PySem.Spec PyProof.Rows Lo
end L2
namespace K41
open PySem L2 Lo St
section
variable {P:Program}{w:World}{K:PySem.W.Frag}{mg:Str->Option Value}{base:Heap}{f CL CS CP:Addr}{fd:FuncData}{C:Kd->Addr}{CW:Wd->Addr}
variable {CH:Addr}
theorem uN(a b:Str):(a++b).length=a.length+b.length:=by
 show (a.cps++b.cps).size=_
 rw [Array.size_append]
 rfl
theorem acs(a b:Str):(a++b).cps.toList=a.cps.toList++b.cps.toList:=by
 show (a.cps++b.cps).toList=_
 rw [Array.toList_append]
theorem gF{a b:Str}(h:a.cps.toList=b.cps.toList):a=b:=by
 obtain ⟨a⟩:=a
 obtain ⟨b⟩:=b
 have:a=b:=Array.toList_inj.mp h
 rw [this]
theorem rS:(Str.ofString " ").cps.toList=[32]:=by decide +kernel
theorem nY(wd:Wd)(ns:List Int):(txt wd ns).cps.toList=Km.bO 32 ((wS wd::ns.map iS).map λy=>y.cps.toList):=by
 unfold txt
 rw [fe]
 exact Km.bM 32 _
theorem yP(wd:Wd)(a b:Int):wS wd++Str.ofString " "++iS a++Str.ofString " "++iS b=txt wd [a,b]:=by
 refine gF ?_
 rw [nY]
 simp only [acs,rS,List.map_cons,List.map_nil,Km.bO]
 simp
theorem yO(wd:Wd)(a b c:Int):txt wd [a,b]++Str.ofString " "++iS c=txt wd [a,b,c]:=by
 refine gF ?_
 simp only [acs,nY,rS,List.map_cons,List.map_nil,Km.bO]
 simp
theorem yQ(wd:Wd)(a:Int):wS wd++Str.ofString " "++iS a=txt wd [a]:=by
 refine gF ?_
 rw [nY]
 simp only [acs,rS,List.map_cons,List.map_nil,Km.bO]
 simp
theorem xf(i:Int)(h0:0<=i)(h5:i<5):∃w,w≠.plus/\w≠.need/\(i=2↔w=.sum)/\(i=4↔w=.add)/\atI ([.str "take",.str "mean",.str "sum",.str "give",.str "add"]:List V) i=some (.str (wS w)):=by
 have:i=0\/i=1\/i=2\/i=3\/i=4:=by omega
 rcases this with rfl | rfl | rfl | rfl | rfl
 ·exact ⟨.take,by decide,by decide,by decide,by decide,rfl⟩
 ·exact ⟨.mean,by decide,by decide,by decide,by decide,rfl⟩
 ·exact ⟨.sum,by decide,by decide,by decide,by decide,rfl⟩
 ·exact ⟨.give,by decide,by decide,by decide,by decide,rfl⟩
 ·exact ⟨.add,by decide,by decide,by decide,by decide,rfl⟩
def pJ:Sp:=λvs H Q _=>∃c,vs=[.int c]/\∀r,inV r->Q (.int r) H
theorem yd(F:Fun K "_law_amount" "_law_amount" dM f fd):FnOk P w K mg base CX0 1 f fd ["_law_number"] pJ:=by
 refine F.ok i9 (λvs H Q E h=>?_) (λcdv A outer s H vs Q E hr h=>?_)
 ·obtain ⟨c,rfl,_⟩:=h
  rfl
 obtain ⟨c,rfl,q⟩:=h
 refine ⟨_,af (ao (aD ik (aD ca (pv 0) (aD ik (aD xM aj (aD lN aj aj)) aj)) (aD ik (aD lN aj aj) aj))),?_⟩
 refine ⟨_,rfl,_,_,rfl,rfl,⟨by decide,by decide,by decide⟩,_,_,rfl,rfl,.inl ⟨by decide,by decide⟩,_,_,rfl,rfl,_,_,rfl,rfl,(by show (0:Int)<2*10 ^ 40-1;decide +kernel),_,_,rfl,rfl,⟨by decide,by decide,by decide⟩,_,_,rfl,rfl,_,_,rfl,rfl,q _ ?_⟩
 show (c%(2*10 ^ 40-1)-(10 ^ 40-1):Int).natAbs<10 ^ 40
 have h0:0<=c%(2*10 ^ 40-1:Int):=Int.emod_nonneg _ (by decide +kernel)
 have h1:c%(2*10 ^ 40-1:Int)<2*10 ^ 40-1:=Int.emod_lt_of_pos _ (by decide +kernel)
 generalize c%(2*10 ^ 40-1:Int)=m at h0 h1 ⊢
 omega
def AmO(x:Stp)(am:Int):Prop:=(x.1=.plus\/x.1=.need)->x.2=[am]
def StT(H:Hp)(x:Stp)(u:V):Prop:=∃t am,u=.ref t/\H t=some (.tup [.str (wS x.1),aH x.1 x.2,.str (sx x),.int am])/\Ar x.1 x.2/\AmO x am
theorem StT.keep{H H':Hp}{x:Stp}{u:V}(s:bD H H')(h:StT H x u):StT H' x u:=by
 obtain ⟨t,am,rfl,h1,h2⟩:=h
 exact ⟨t,am,rfl,s _ _ h1,h2⟩
def se:Sp:=λvs H Q _=>∃c,vs=[.int c]/\∀u x H',Same H H'->StT H' x u->Q u H'
def uL1:TS:=λD σ H=>∃c home a b r wy,σ=[some (.int c),some (.int home),some (.int a),some (.int b),some (.int r),some (.int wy),none,none]/\0<=home/\home<5/\0<=a/\a<=b/\b<8/\inV r/\0<=wy/\wy<7/\∀u x H',Same H H'->StT H' x u->D.rt u H'
def uL2:TS:=λD σ H=>∃y0 y1 y2 y3 r y5 y6 y7,σ=[y0,y1,y2,y3,some (.int r),y5,y6,y7]/\inV r/\∀u x H',Same H H'->StT H' x u->D.rt u H'
theorem xW(F:Fun K "_law_step" "_law_step" fm f fd)(B:TxB mg)(GAm:GF P w K mg base CX0 1 "_law_amount" ["_law_number"] pJ):FnOk P w K mg base CX0 2 f fd ["_law_number"] se:=by
 refine F.ok sc__law_step (λvs H Q E h=>?_) (λcdv A outer s H vs Q E hr h=>?_)
 ·obtain ⟨c,rfl,_⟩:=h
  rfl
 obtain ⟨c,rfl,q⟩:=h
 have nd:=sc__law_step.nd
 have hz:(1000:Nat)<=sizeLine:=by decide
 refine ⟨_,ad (aC (i:=1) nd rfl (Or.inl rfl) (aD ca (aD cq (pv 0) aj) aj))
  (ad (aC (i:=2) nd rfl (Or.inl rfl) (aD ca (aD cq (pv 0) aj) aj))
  (ad (aC (i:=3) nd rfl (Or.inl rfl) (aD dk (pv 2) (aD ca (aD cq (pv 0) aj) (aD ik aj (pv 2)))))
  (ad (aC (i:=4) nd rfl (Or.inl rfl) (pc GAm hr (aa (aD cq (pv 0) aj) ac)))
  (ad (aC (i:=5) nd rfl (Or.inl rfl) (aD ca (pv 0) aj))
  (bY uL1 (ad (aF (ap bf (pv 5) aj (ay _)) (af (ao (ba (aa aB (aa bb (aa (aD aP aB (aO bj rfl B.str PyProof.Rows.boot_str (aa (pv 4) ac))) (aa (pv 4) ac))))))) az)
  (ad (aF (ap bf (pv 5) aj (ay _)) (ad (aF (ap iD (aD ca (aD cq (pv 0) aj) aj) aj (ay _)) (af (aC (i:=4) nd rfl (Or.inl rfl) (aD ik aj (aD lN aj aj)))) az)
   (bY uL2 (af (ao (ba (aa aB (aa bb (aa (aD aP aB (aO bj rfl B.str PyProof.Rows.boot_str (aa (pv 4) ac))) (aa (pv 4) ac))))))) ?v2)) az)
  (ad (aC (i:=6) nd rfl (Or.inl rfl) (aG (r:=cA K) aK (aT (aa aB (aa aB (aa aB (aa aB (aa aB ac)))))) (pv 5) (λ_ _=>rfl)))
  (ad (aC (i:=7) nd rfl (Or.inl rfl) (aD aP (aD aP (aD aP (aD aP (pv 6) aB) (aO bj rfl B.str PyProof.Rows.boot_str (aa (pv 1) ac))) aB) (aO bj rfl B.str PyProof.Rows.boot_str (aa (pv 2) ac))))
  (ad (aF (ap bf (pv 5) aj (ay _)) (af (aC (i:=7) nd rfl (Or.inl rfl) (aD aP (aD aP (pv 7) aB) (aO bj rfl B.str PyProof.Rows.boot_str (aa (pv 3) ac))))) az)
  (ad (aF (ap bf (pv 5) aj (ay _)) (af (aC (i:=7) nd rfl (Or.inl rfl) (aD aP (aD aP (pv 7) aB) (aO bj rfl B.str PyProof.Rows.boot_str (aa (pv 4) ac))))) az)
  (af (ao (ba (aa (pv 6) (aa (pv 1) (aa (pv 7) (aa (pv 4) ac))))))))))))) ?v1))))),?_⟩
 case v2 =>
  rintro D0 σ H ⟨y0,y1,y2,y3,r,y5,y6,y7,rfl,nr,q⟩
  have l5:(Str.ofString "need ").length=5:=by decide +kernel
  have lr:=gD nr
  have en:Str.ofString "need "=wS .need++Str.ofString " ":=by decide +kernel
  have need:Str.ofString "need "++iS r=txt .need [r]:=by rw [en];exact yQ .need r
  refine ⟨_,rfl,r,rfl,jr nr,_,_,rfl,rfl,(by show (Str.ofString "need ").length+(iS r).length<=sizeLine;omega),_,rfl,(by show 4<=sizeLine;decide),λt ht=>?_⟩
  refine q _ (.need,[r]) _ (ai ht) ⟨t,r,rfl,?_,nr,λ_=>rfl⟩
  rw [ae]
  show some (HO.tup [_,_,.str (Str.ofString "need "++iS r),_])=_
  rw [need]
  rfl
 case v1 =>
  rintro D0 σ H ⟨c,home,a,b,r,wy,rfl,o0,o5,a0,ab,b8,nr,w0,w7,q⟩
  have nh:inN home:=⟨o0,by omega⟩
  have na:inN a:=⟨a0,by omega⟩
  have nb:inN b:=⟨by omega,by omega⟩
  refine ⟨_,rfl,rfl,_,rfl,bz (λk=>?_) (λk=>⟨_,rfl,rfl,_,rfl,bz (λk6=>?_) (λk6=>?_)⟩)⟩
  ·have l6:(Str.ofString "plus ").length=5:=by decide +kernel
   have lr:=gD nr
   have ep:Str.ofString "plus "=wS .plus++Str.ofString " ":=by decide +kernel
   have plus:Str.ofString "plus "++iS r=txt .plus [r]:=by rw [ep];exact yQ .plus r
   refine ⟨_,rfl,r,rfl,jr nr,_,_,rfl,rfl,(by show (Str.ofString "plus ").length+(iS r).length<=sizeLine;omega),_,rfl,(by show 4<=sizeLine;decide),λt ht=>?_⟩
   refine q _ (.plus,[r]) _ (ai ht) ⟨t,r,rfl,?_,nr,λ_=>rfl⟩
   rw [ae]
   show some (HO.tup [_,_,.str (Str.ofString "plus "++iS r),_])=_
   rw [plus]
   rfl
  ·refine ⟨_,rfl,_,_,rfl,rfl,⟨by decide,by decide⟩,_,_,rfl,rfl,(by show (0:Int)<4;decide),_,_,rfl,rfl,_,rfl,bz (λ_=>?_) (λ_=>?_)⟩
   ·refine ⟨_,_,rfl,rfl,⟨by decide,by decide,by decide⟩,_,_,rfl,rfl,_,_,_,_,_,_,_,_,rfl,?_,q⟩
    show (1-10 ^ 40:Int).natAbs<10 ^ 40
    decide +kernel
   ·exact ⟨_,_,_,_,_,_,_,_,rfl,nr,q⟩
  have w5:wy<5:=by
   have z:wy≠5:=λz=>k (decide_eq_true (congrArg V.int z))
   have z':wy≠6:=λz=>k6 (decide_eq_true (congrArg V.int z))
   omega
  obtain ⟨wd,w1,w2,w3,w4,hw⟩:=xf wy w0 w5
  refine ⟨(by show 5<=sizeLine;decide),λl hl=>?_⟩
  have s1:Same H _:=ai (o:=.lst [.str "take",.str "mean",.str "sum",.str "give",.str "add"]) hl
  refine ⟨_,rfl,l,_,_,_,rfl,rfl,SqL.of ae,hw,?_⟩
  generalize (upd H l _)=H1 at s1 ⊢
  have l1:=rF wd
  have l2:=gD nh.v
  have l3:=gD na.v
  have ls:(Str.ofString " ").length=1:=by decide +kernel
  have lt:(txt wd [home,a]).length<=100:=by rw [← yP];simp only [uN];omega
  refine ⟨_,rfl,_,_,rfl,rfl,?_,_,rfl,home,rfl,jr nh.v,_,_,rfl,rfl,?_,_,_,rfl,rfl,?_,_,rfl,a,rfl,jr na.v,_,_,rfl,rfl,?_,?_⟩
  ·show (wS wd).length+(Str.ofString " ").length<=sizeLine
   omega
  ·show (wS wd++Str.ofString " ").length+(iS home).length<=sizeLine
   simp only [uN];omega
  ·show (wS wd++Str.ofString " "++iS home).length+(Str.ofString " ").length<=sizeLine
   simp only [uN];omega
  ·show (wS wd++Str.ofString " "++iS home++Str.ofString " ").length+(iS a).length<=sizeLine
   simp only [uN];omega
  have et:=yP wd home a
  have fin:∀(x:Int),inV x->(txt wd [home,a]++Str.ofString " ").length+(iS x).length<=sizeLine:=λx hx=>by
   have:=gD hx
   simp only [uN]
   omega
  erw [et]
  have out:∀(ns:List Int) (t:Addr),H1 t=none->Ar wd ns->aH wd ns=.int home->StT (upd H1 t (.tup [.str (wS wd),.int home,.str (txt wd ns),.int r])) (wd,ns) (.ref t):=λns t ht ar hv=>⟨t,r,rfl,by rw [ae];show some (HO.tup [_,_,_,_])=some (HO.tup [_,_,_,_]);rw [hv];rfl,ar,λz=>z.elim (λy=>absurd y w1) λy=>absurd y w2⟩
  refine ⟨_,rfl,rfl,_,rfl,bz (λk2=>?_) (λk2=>?_)⟩
  ·have e7:wy=2:=V.int.inj (of_decide_eq_true k2)
   obtain rfl:wd=.sum:=w3.mp e7
   refine ⟨_,rfl,_,_,rfl,rfl,(by show (txt .sum [home,a]).length+(Str.ofString " ").length<=sizeLine;omega),_,rfl,b,rfl,jr nb.v,_,_,rfl,rfl,fin _ nb.v,?_⟩
   have e3:=yO .sum home a b
   erw [e3]
   have e8:decide (V.int wy=V.int 4)=false:=decide_eq_false λz=>by have:=V.int.inj z;omega
   refine ⟨_,rfl,rfl,_,rfl,?_⟩
   erw [e8]
   refine aI ⟨_,rfl,_,rfl,_,rfl,_,rfl,(by show 4<=sizeLine;decide),λt ht=>?_⟩
   exact q _ (.sum,[home,a,b]) _ (s1.trans (ai ht)) (out [home,a,b] t ht ⟨nh,na,nb,by omega⟩ rfl)
  ·have n2:wd≠.sum:=λz=>k2 (decide_eq_true (congrArg V.int (w3.mpr z)))
   refine ⟨_,rfl,rfl,_,rfl,bz (λk4=>?_) (λk4=>?_)⟩
   ·have e7:wy=4:=V.int.inj (of_decide_eq_true k4)
    obtain rfl:wd=.add:=w4.mp e7
    refine ⟨_,rfl,_,_,rfl,rfl,(by show (txt .add [home,a]).length+(Str.ofString " ").length<=sizeLine;omega),_,rfl,r,rfl,jr nr,_,_,rfl,rfl,fin _ nr,?_⟩
    have e3:=yO .add home a r
    erw [e3]
    refine ⟨_,rfl,_,rfl,_,rfl,_,rfl,(by show 4<=sizeLine;decide),λt ht=>?_⟩
    exact q _ (.add,[home,a,r]) _ (s1.trans (ai ht)) (out [home,a,r] t ht ⟨nh,na,nr⟩ rfl)
   ·have n4:wd≠.add:=λz=>k4 (decide_eq_true (congrArg V.int (w4.mpr z)))
    refine ⟨_,rfl,_,rfl,_,rfl,_,rfl,(by show 4<=sizeLine;decide),λt ht=>?_⟩
    refine q _ (wd,[home,a]) _ (s1.trans (ai ht)) (out [home,a] t ht ?_ ?_)
    ·cases wd<;>first | contradiction | exact ⟨nh,na⟩
    ·cases wd<;>first | contradiction | rfl
 have o0:0<=c/7%5:=Int.emod_nonneg _ (by decide)
 have o5:c/7%5<5:=Int.emod_lt_of_pos _ (by decide)
 have a0:0<=c/35%8:=Int.emod_nonneg _ (by decide)
 have a1:c/35%8<8:=Int.emod_lt_of_pos _ (by decide)
 have ma:(0:Int)<8-c/35%8:=by omega
 have b0:0<=c/280%(8-c/35%8):=Int.emod_nonneg _ (by omega)
 have b1:c/280%(8-c/35%8)<8-c/35%8:=Int.emod_lt_of_pos _ ma
 have w0:0<=c%7:=Int.emod_nonneg _ (by decide)
 have w7:c%7<7:=Int.emod_lt_of_pos _ (by decide)
 refine ⟨_,rfl,_,_,rfl,rfl,⟨by decide,by decide⟩,_,_,rfl,rfl,(by show (0:Int)<5;decide),_,rfl,_,_,rfl,rfl,⟨by decide,by decide⟩,_,_,rfl,rfl,(by show (0:Int)<8;decide),_,rfl,_,rfl,_,_,rfl,rfl,⟨by decide,by decide⟩,_,rfl,_,_,rfl,rfl,_,_,rfl,rfl,ma,_,_,rfl,rfl,_,rfl,_,_,rfl,rfl,⟨by decide,by decide⟩,_,rfl,λr nr=>⟨_,rfl,_,_,rfl,rfl,(by show (0:Int)<7;decide),?_⟩⟩
 exact ⟨c,c/7%5,c/35%8,c/35%8+c/280%(8-c/35%8),r,c%7,rfl,o0,o5,a0,by omega,by omega,nr,w0,w7,q⟩
def gq(K:PySem.W.Frag):Sp:=λvs H Q _=>∃a ns,vs=[.ref a]/\SqL K H a ((ns:List Int).map V.int)/\∀t na sl p xs us H',Same H H'->H' t=some (.tup [.ref na,.ref sl])->H' na=some (.tup [.int (p:Pa).1,.int p.2])->H' sl=some (.lst us)->Paired (StT H') xs us->1<=xs.length->xs.length<=12->Q (.ref t) H'
theorem vR(F:Fun K "_law_made" "_law_made" cO f fd)(B:TxB mg)(GA:GF P w K mg base CX0 1 "_law_cell_at" ["_law_script","_law_k"] (ou K))(GS:GF P w K mg base CX0 2 "_law_step" ["_law_number"] se):FnOk P w K mg base CX0 3 f fd ["_law_script"] (gq K):=by
 refine F.ok sc__law_made (λvs H Q E h=>?_) (λcdv A outer s H vs Q E hr h=>?_)
 ·obtain ⟨a,ns,rfl,_⟩:=h
  rfl
 obtain ⟨a,ns,rfl,hS,q⟩:=h
 have nd:=sc__law_made.nd
 refine ⟨_,ad (aC (i:=1) nd rfl (Or.inl rfl) (ba (aa (aD ca (pc GA hr (aa (pv 0) (aa aj ac))) aj) (aa (aD ca (aD cq (pc GA hr (aa (pv 0) (aa aj ac))) aj) (aD lN aj aj)) ac))))
  (ad (aC (i:=2) nd rfl (Or.inl rfl) (aD dk aj (aD ca (pc GA hr (aa (pv 0) (aa aj ac))) aj)))
  (af (ao (ba (aa (pv 1) (aa (gk je rfl (ie rfl B.range (aa (pv 2) ac)) (λ_ _ _ _=>eG) (λ_ _ _ _=>pc GS hr (aa (pc GA hr (aa (pv 1) (aa (aD dk aj (pv 0)) ac))) ac))) ac)))))),?_⟩
 have m0:0<=bv ns 1%12:=Int.emod_nonneg _ (by decide)
 have m1:bv ns 1%12<12:=Int.emod_lt_of_pos _ (by decide)
 have hz:(100000:Nat)<=sizeLine:=by decide
 refine ⟨_,rfl,a,ns,0,rfl,hS,_,_,rfl,rfl,(by show (0:Int)<5;decide),_,rfl,a,ns,0,rfl,hS,_,_,rfl,rfl,⟨by decide,by decide⟩,_,_,rfl,rfl,⟨by decide,by decide,by decide⟩,_,_,rfl,rfl,(by show (0:Int)<10 ^ 9;decide +kernel),(by show 2<=sizeLine;decide),λna hna=>?_⟩
 have s1:=ai (o:=.tup [.int (bv ns 0%5),.int (bv ns 0/5%10 ^ 9)]) hna
 have na1:(upd H na (.tup [.int (bv ns 0%5),.int (bv ns 0/5%10 ^ 9)])) na=some (.tup [.int (bv ns 0%5),.int (bv ns 0/5%10 ^ 9)]):=ae
 refine ⟨_,rfl,a,ns,1,rfl,s1.seq hS,_,_,rfl,rfl,(by show (0:Int)<12;decide),_,_,rfl,rfl,?_⟩
 obtain ⟨m,em⟩:∃m:Nat,(1+bv ns 1%12:Int)=m:=⟨(1+bv ns 1%12).toNat,by omega⟩
 show pX 2 (V.int (1+bv ns 1%12)) _ _ _
 rw [em]
 refine ⟨_,rfl,_,rfl,_,rfl,by omega,by omega,?_⟩
 have e0:((m:Nat):Int).toNat=m:=rfl
 rw [e0]
 refine jw (n:=m) (λi ys H'=>Same (upd H na (.tup [.int (bv ns 0%5),.int (bv ns 0/5%10 ^ 9)])) H'/\∃xs,Paired (StT H') xs ys/\xs.length=i) ⟨Same.refl _,[],.nil,rfl⟩ (by omega) ?_ ?_
 ·rintro i ys H2 hi ⟨s2,xs,px,lx⟩
  refine j6 ⟨_,rfl,_,rfl,_,_,rfl,rfl,a,ns,2+i,rfl,(s1.trans s2).seq hS,_,rfl,λu x H3 s3 st=>⟨s2.trans s3,xs++[x],(Paired.mapP px λ_ _ z=>z.keep s3.ts).app (.cons st .nil),by rw [List.length_append,lx];rfl⟩⟩
 ·rintro ys H2 ⟨s2,xs,px,lx⟩ sl hsl
  have s3:=ai (o:=.lst ys) hsl
  have h3:(upd H2 sl (.lst ys)) sl=some (.lst ys):=ae
  have px3:=Paired.mapP px λ_ _ z=>StT.keep s3.ts z
  generalize (upd H2 sl (HO.lst ys))=H3 at s3 h3 px3 ⊢
  refine ⟨(by show 2<=sizeLine;decide),λt ht=>?_⟩
  have s4:=ai (o:=.tup [.ref na,.ref sl]) ht
  exact q t na sl (bv ns 0%5,bv ns 0/5%10 ^ 9) xs ys _ (s1.trans (s2.trans (s3.trans s4))) ae (s4 _ _ (s3 _ _ (s2 _ _ na1))) (s4 _ _ h3) (Paired.mapP px3 λ_ _ z=>z.keep s4.ts) (by omega) (by omega)
theorem vZ(F:Fun K "_law_cell_at" "_law_cell_at" dj f fd)(B:TxB mg):FnOk P w K mg base CX0 1 f fd ["_law_script","_law_k"] (ou K):=by
 refine F.ok iI (λvs H Q E h=>?_) (λcdv A outer s H vs Q E hr h=>?_)
 ·obtain ⟨a,ns,k,rfl,_⟩:=h
  rfl
 obtain ⟨a,ns,k,rfl,hS,q⟩:=h
 refine ⟨_,ad (aF (ap gl (pv 1) (au av rfl B.len PySem.boot_len (aa (pv 0) ac)) (ay _)) (af (ao (aG aK (pv 0) (pv 1) (λ_ _=>rfl)))) az)
  (af (ao aj)),?_⟩
 refine ⟨_,rfl,_,rfl,a,_,rfl,.inl hS,_,_,rfl,rfl,_,rfl,?_⟩
 refine bz (λc=>?_) (λc=>?_)
 ·have c':(k:Int)<(((ns.map V.int).length:Nat):Int):=of_decide_eq_true c
  rw [List.length_map] at c'
  have hk:k<ns.length:=by omega
  have q1:atI (ns.map V.int) ((k:Nat):Int)=some (.int ns[k]):=bn (by rw [List.getElem?_map,List.getElem?_eq_getElem hk]<;>rfl)
  have e:bv ns k=ns[k]:=by unfold bv;rw [List.getElem?_eq_getElem hk];rfl
  rw [e] at q
  exact ⟨_,rfl,_,rfl,a,_,_,_,rfl,rfl,hS,q1,q⟩
 ·have c':¬(k:Int)<(((ns.map V.int).length:Nat):Int):=λz=>c (decide_eq_true z)
  rw [List.length_map] at c'
  have e:bv ns k=0:=by unfold bv;rw [List.getElem?_eq_none (by omega)];rfl
  rw [e] at q
  exact q
def kT(K:PySem.W.Frag):Sp:=λvs H Q _=>∃hl ls,vs=[.ref hl]/\H hl=some (.lst ((ls:List Int).map V.int))/\∀H',Same H H'->Q (.int (aL ls)) H'
theorem vS(F:Fun K "_law_last" "_law_last" fq f fd):FnOk P w K mg base CX0 1 f fd ["_law_hands"] (kT K):=by
 refine F.ok lq (λvs H Q E h=>?_) (λcdv A outer s H vs Q E hr h=>?_)
 ·obtain ⟨hl,ls,rfl,_⟩:=h
  rfl
 obtain ⟨hl,ls,rfl,hh,q⟩:=h
 refine ⟨_,ad (aF (ap (mK (Nat.lt_of_succ_lt (qW hr))) (pv 0) (aT ac) (ay _)) (af (ao aj)) az) (af (ao (aG (r:=cA K) aK (pv 0) (pQ kL aj) (λ_ _=>rfl)))),?_⟩
 refine ⟨_,rfl,(by show 0<=sizeLine;decide),λe he=>?_⟩
 have s1:=ai (o:=.lst []) he
 refine ⟨hl,e,_,rfl,rfl,SqL.of (s1 _ _ hh),SqL.of ae,_,rfl,?_⟩
 rcases List.eq_nil_or_concat ls with rfl | ⟨zs,z,rfl⟩
 ·exact bU (q _ s1)
 ·rw [decide_eq_false (λy=>by have y':=List.map_eq_nil_iff.mp y;rw [List.concat_eq_append] at y';exact absurd y' (by simp))]
  refine aI ⟨_,rfl,_,rfl,hl,_,_,_,rfl,rfl,SqL.of (s1 _ _ hh),?_,q _ s1⟩
  have e2:aL (zs.concat z)=z:=by rw [List.concat_eq_append];exact uq zs z
  rw [e2,List.concat_eq_append,List.map_append]
  exact jK _ _
variable {CH:Addr}
def rW(K:PySem.W.Frag):Sp:=λvs H Q _=>∃sl hl xs us ls,vs=[.ref sl,.ref hl]/\H sl=some (.lst us)/\Paired (StT H) xs us/\H hl=some (.lst ((ls:List Int).map V.int))/\ls.length<=xs.length/\xs.length<=12/\sl≠hl/\∀H',Kp hl H H'->H' hl=some (.lst ((own xs ls).1.map V.int))->Q (.bl (own xs ls).2) H'
theorem yM{a b:Wd}(h:a≠b):decide (V.str (wS a)=V.str (wS b))=false:=decide_eq_false λz=>h (iX (b:=b) (decide_eq_true z))
theorem xR(F:Fun K "_law_plain" "_law_plain" eC f fd)(B:TxB mg)(GL:GF P w K mg base CX0 1 "_law_last" ["_law_hands"] (kT K)):FnOk P w K mg base CX0 2 f fd ["_law_steps","_law_hands"] (rW K):=by
 refine F.ok sc__law_plain (λvs H Q E h=>?_) (λcdv A outer s H vs Q E hr h=>?_)
 ·obtain ⟨sl,hl,xs,us,ls,rfl,_⟩:=h
  rfl
 obtain ⟨sl,hl,xs,us,ls,rfl,hsl,px,hhl,le,l12,ne,q⟩:=h
 have nd:=sc__law_plain.nd
 refine ⟨_,ad (jg PassesOwn.never (PW.pt (dO (ap gl (au av rfl B.len PySem.boot_len (aa (pv 1) ac)) (au av rfl B.len PySem.boot_len (aa (pv 0) ac)) (ay _)) (da (ap jp (aG (r:=cS K) aV (aG (r:=cA K) aK (pv 0) (au av rfl B.len PySem.boot_len (aa (pv 1) ac)) (λ_ _=>rfl)) aj (λ_ _=>rfl)) bb (ay _)))))
   (ad (lF (aG (r:=cA K) aK (pv 0) (au av rfl B.len PySem.boot_len (aa (pv 1) ac)) (λ_ _=>rfl)) (ji (n:=4) rfl (be (bc (i:=2) nd rfl (Or.inl rfl)) (be (bc (i:=3) nd rfl (Or.inl rfl)) (be (bc (i:=4) nd rfl (Or.inl rfl)) (be (bc (i:=5) nd rfl (Or.inl rfl)) gL))))))
   (ad (aF (PW.pt (dO (ap bf (pv 2) aB (ay _)) (da (ap gl (pc GL hr (aa (pv 1) ac)) (pv 5) (ay _))))) (af (ao fu)) az)
   (af (aF (ap bf (pv 2) aB (ay _))
    (af (cH (d0 PySem.F.plainAttrs_list PySem.F.slot_list_append PySem.F.type_list_append dg (pv 1) (aa (aD dk (pc GL hr (aa (pv 1) ac)) (pv 5)) ac))))
    (af (cH (d0 PySem.F.plainAttrs_list PySem.F.slot_list_append PySem.F.type_list_append dg (pv 1) (aa (pc GL hr (aa (pv 1) ac)) ac)))))))))
  (af (ao fu)),?_⟩
 have pl:xs.length=us.length:=px.len
 refine ⟨λm σ H'=>∃y2 y3 y4 y5 ys,σ=[some (.ref sl),some (.ref hl),y2,y3,y4,y5]/\Kp hl H H'/\H' hl=some (.lst ((ys:List Int).map V.int))/\own xs ys=own xs ls/\ys.length<=xs.length/\m=xs.length-ys.length,⟨_,none,none,none,none,ls,rfl,λb o _ e=>e,hhl,rfl,le,rfl⟩,?_⟩
 rintro m σ H1 ⟨y2,y3,y4,y5,ys,rfl,k1,h1,eo,ly,rfl⟩
 have hy:(ys.map V.int).length=ys.length:=List.length_map _
 have t1:bD H H1:=λb zs e=>k1 b _ (λz=>by rw [z,hhl] at e;cases e) e
 have hsl1:=k1 _ _ ne hsl
 refine ⟨_,rfl,hl,_,rfl,.inl (SqL.of h1),_,rfl,sl,_,rfl,.inl (SqL.of hsl1),_,_,rfl,rfl,_,rfl,?_⟩
 rw [hy]
 have to:∀{H2:Hp} {b:Bool},Same H1 H2->own xs ys=(ys,b)->Q (.bl b) H2:=λ{H2 b} s2 e=>by
  have e2:own xs ls=(ys,b):=eo.symm.trans e
  have z:=q H2 (k1.trans (Kp.of s2)) (by rw [e2];exact s2 _ _ h1)
  rw [e2] at z
  exact z
 have fin:aX xs ys≠.non\/xs.length<=ys.length->Q (.bl true) H1:=λz=>to (Same.refl _) (d7 z)
 refine bz (λc=>?_) (λc=>aI (fin (.inr ?_)))
 ·have c':ys.length<xs.length:=by have z:=of_decide_eq_true c;omega
  obtain ⟨x,ex⟩:∃x,xs[ys.length]?=some x:=⟨_,List.getElem?_eq_getElem c'⟩
  obtain ⟨u,eu,t,am,rfl,ht,arx,amx⟩:=px.get1 ex
  have ht1:=t1 _ _ ht
  refine ⟨_,rfl,_,rfl,hl,_,rfl,.inl (SqL.of h1),sl,_,_,_,rfl,rfl,SqL.of hsl1,bn (by rw [hy];exact eu),t,_,_,_,rfl,rfl,SqT.of ht1,St.at1,rfl,_,rfl,?_⟩
  by_cases en:aH x.1 x.2=.non
  ·rw [decide_eq_true en]
   refine bU ⟨fun σ' H'=>∃y2 y3 y4 y5 ys',σ'=[some (.ref sl),some (.ref hl),y2,y3,y4,y5]/\Kp hl H H'/\H' hl=some (.lst ((ys':List Int).map V.int))/\own xs ys'=own xs ls/\ys'.length=ys.length+1,fun σ' H' ⟨y2,y3,y4,y5,ys',e1,e2,e3,e4,e5⟩=>⟨xs.length-ys'.length,by omega,y2,y3,y4,y5,ys',e1,e2,e3,e4,by omega,rfl⟩,?_⟩
   refine ⟨_,rfl,_,rfl,hl,_,rfl,.inl (SqL.of h1),sl,_,_,_,rfl,rfl,SqL.of hsl1,bn (by rw [hy];exact eu),t,_,rfl,SqT.of ht1,rfl,_,_,rfl,_,_,rfl,_,_,rfl,_,_,rfl,rfl,?_⟩
   have pn:x.1=.plus\/x.1=.need:=by
    by_cases w1:x.1=.plus
    ·exact .inl w1
    by_cases w2:x.1=.need
    ·exact .inr w2
    obtain ⟨i,r,_,e2⟩:=arx.home w1 w2
    rw [e2] at en
    cases en
   have ea:=amx pn
   obtain ⟨wd,ns⟩:=x
   cases (show ns=[am] from ea)
   rcases pn with pn | pn
   ·cases (show wd=.plus from pn)
    have f0:dm (.plus,[am]) (aL ys)=false:=rfl
    refine ⟨_,rfl,rfl,_,rfl,?_⟩
    have e1:decide (V.str (wS .plus)=V.str (Str.ofString "need"))=false:=yM (a:=.plus) (b:=.need) (by decide)
    erw [e1]
    refine aI (aI ⟨_,rfl,rfl,_,rfl,?_⟩)
    have e2:decide (V.str (wS .plus)=V.str (Str.ofString "plus"))=true:=decide_eq_true rfl
    erw [e2]
    refine bU ⟨_,rfl,.inl ⟨rfl,_,SqL.of h1⟩,_,rfl,hl,ys,rfl,h1,λH2 s2=>?_⟩
    refine ⟨_,rfl,_,_,rfl,rfl,hl,_,_,rfl,rfl,s2 _ _ h1,cz (by rw [hy];omega),?_⟩
    exact ⟨_,_,_,_,ys++[aL ys+am],rfl,(k1.trans (Kp.of s2)).trans bp,by rw [ae,List.map_append];rfl,(fw ex en f0).symm.trans eo,by rw [List.length_append];rfl⟩
   ·cases (show wd=.need from pn)
    refine ⟨_,rfl,rfl,_,rfl,?_⟩
    have e1:decide (V.str (wS .need)=V.str (Str.ofString "need"))=true:=decide_eq_true rfl
    erw [e1]
    refine bU ⟨_,rfl,hl,ys,rfl,h1,λH2 s2=>⟨_,rfl,_,_,rfl,rfl,_,rfl,bz (λcf=>?_) (λcf=>?_)⟩⟩
    ·exact to s2 (pT ex en cf)
    ·have f0:dm (.need,[am]) (aL ys)=false:=by
      show decide (aL ys<am)=false
      cases e:decide (aL ys<am) with
      | false=>rfl
      | true=>exact absurd e cf
     refine ⟨_,rfl,rfl,_,rfl,?_⟩
     have e2:decide (V.str (wS .need)=V.str (Str.ofString "plus"))=false:=yM (a:=.need) (b:=.plus) (by decide)
     erw [e2]
     refine aI ⟨_,rfl,.inl ⟨rfl,_,SqL.of (s2 _ _ h1)⟩,_,rfl,hl,ys,rfl,s2 _ _ h1,λH3 s3=>?_⟩
     have s23:=s2.trans s3
     refine ⟨hl,_,_,rfl,rfl,s23 _ _ h1,cz (by rw [hy];omega),?_⟩
     exact ⟨_,_,_,_,ys++[aL ys],rfl,(k1.trans (Kp.of s23)).trans bp,by rw [ae,List.map_append];rfl,(fw ex en f0).symm.trans eo,by rw [List.length_append];rfl⟩
  ·rw [decide_eq_false en]
   exact aI (fin (.inl (by unfold aX;rw [ex];exact en)))
 ·have z:¬((ys.length:Nat):Int)<((us.length:Nat):Int):=λz=>c (decide_eq_true z)
  omega
def Ak(H:Hp)(na:Addr)(n:Int)(ls:List Int)(x:Stp)(u:V):Prop:=∃t t2 m e,u=.ref t/\H t=some (.tup [.int n,.ref t2])/\H t2=some (.tup [.str "work",.ref na,.ref m,.ref e])/\H m=some (.tup [.int (ls.length:Nat),.int (aL ls),.str (sx x)])/\H e=some (.tup [])
def Am(H:Hp)(na:Addr)(xs:List Stp)(ls:List Int)(ds:List V):Prop:=(ls.length=xs.length/\ds=[])\/∃x n u,xs[ls.length]?=some x/\aH x.1 x.2=.int n/\ds=[u]/\Ak H na n ls x u
def ss(K:PySem.W.Frag):Sp:=λvs H Q _=>∃na sl hl xs us ls,vs=[.ref na,.ref sl,.ref hl]/\H sl=some (.lst us)/\Paired (StT H) xs us/\H hl=some (.lst ((ls:List Int).map V.int))/\ls.length<=xs.length/\(aX xs ls≠.non\/xs.length<=ls.length)/\∀l ds H',Same H H'->H l=none->H' l=some (.lst ds)->Am H' na xs ls ds->Q (.ref l) H'
theorem yb(F:Fun K "_law_due" "_law_due" gy f fd)(B:TxB mg)(GL:GF P w K mg base CX0 1 "_law_last" ["_law_hands"] (kT K)):FnOk P w K mg base CX0 2 f fd ["_law_name","_law_steps","_law_hands"] (ss K):=by
 refine F.ok sc__law_due (λvs H Q E h=>?_) (λcdv A outer s H vs Q E hr h=>?_)
 ·obtain ⟨na,sl,hl,xs,us,ls,rfl,_⟩:=h
  rfl
 obtain ⟨na,sl,hl,xs,us,ls,rfl,hsl,px,hhl,le,nx,q⟩:=h
 have nd:=sc__law_due.nd
 refine ⟨_,ad (aF (ap bf (au av rfl B.len PySem.boot_len (aa (pv 2) ac)) (au av rfl B.len PySem.boot_len (aa (pv 1) ac)) (ay _)) (af (ao (aT ac))) az)
  (ad (lF (aG (r:=cA K) aK (pv 1) (au av rfl B.len PySem.boot_len (aa (pv 2) ac)) (λ_ _=>rfl)) (ji (n:=4) rfl (be (bc (i:=3) nd rfl (Or.inl rfl)) (be (bc (i:=4) nd rfl (Or.inl rfl)) (be (bc (i:=5) nd rfl (Or.inl rfl)) (be (bc (i:=6) nd rfl (Or.inl rfl)) gL))))))
  (af (ao (aT (aa (ba (aa (pv 4) (aa (ba (aa aB (aa (pv 0) (aa (ba (aa (au av rfl B.len PySem.boot_len (aa (pv 2) ac)) (aa (pc GL hr (aa (pv 2) ac)) (aa (pv 5) ac)))) (aa (ba ac) ac))))) ac))) ac))))),?_⟩
 have pl:xs.length=us.length:=px.len
 have hy:(ls.map V.int).length=ls.length:=List.length_map _
 refine ⟨_,rfl,hl,_,rfl,.inl (SqL.of hhl),_,rfl,sl,_,rfl,.inl (SqL.of hsl),rfl,_,rfl,?_⟩
 rw [hy]
 by_cases e:ls.length=us.length
 ·refine bz (λ_=>?_) (λc=>absurd (decide_eq_true (by rw [e])) c)
  exact ⟨(by show 0<=sizeLine;decide),λl hl'=>q l [] _ (ai hl') hl' ae (.inl ⟨by omega,rfl⟩)⟩
 ·refine bz (λc=>absurd (V.int.inj (of_decide_eq_true c)) (by omega)) (λ_=>?_)
  have c':ls.length<xs.length:=by omega
  obtain ⟨x,ex⟩:∃x,xs[ls.length]?=some x:=⟨_,List.getElem?_eq_getElem c'⟩
  obtain ⟨u,eu,t,am,rfl,ht,arx,okx⟩:=px.get1 ex
  have hne:aH x.1 x.2≠.non:=by
   have:=nx.resolve_right (by omega)
   unfold aX at this
   rw [ex] at this
   exact this
  obtain ⟨n,hv⟩:∃n,aH x.1 x.2=.int n:=by
   rcases iu arx with ⟨z,_⟩ | z
   ·exact absurd z hne
   ·exact z
  rw [hv] at ht
  refine ⟨_,rfl,_,rfl,hl,_,rfl,.inl (SqL.of hhl),sl,_,_,_,rfl,rfl,SqL.of hsl,bn (by rw [hy];exact eu),t,_,rfl,SqT.of ht,rfl,_,_,rfl,_,_,rfl,_,_,rfl,_,_,rfl,rfl,?_⟩
  refine ⟨_,rfl,_,rfl,_,rfl,hl,_,rfl,.inl (SqL.of hhl),_,rfl,hl,ls,rfl,hhl,λH1 s1=>?_⟩
  refine ⟨_,rfl,(by show 3<=sizeLine;decide),λm hm=>⟨(by show 0<=sizeLine;decide),λe' he=>⟨(by show 4<=sizeLine;decide),λt2 ht2=>⟨(by show 2<=sizeLine;decide),λt' ht'=>⟨(by show 1<=sizeLine;decide),λl hl'=>?_⟩⟩⟩⟩⟩
  rw [hy] at *
  have z1:=ai (o:=.tup [.int (ls.length:Nat),.int (aL ls),.str (sx x)]) hm
  have z2:=ai (o:=.tup []) he
  have z3:=ai (o:=.tup [.str "work",.ref na,.ref m,.ref e']) ht2
  have z4:=ai (o:=.tup [.int n,.ref t2]) ht'
  have z5:=ai (o:=.lst [.ref t']) hl'
  refine q l [.ref t'] _ (s1.trans (z1.trans (z2.trans (z3.trans (z4.trans z5))))) ?_ ae (.inr ⟨x,n,_,ex,hv,rfl,t',t2,m,e',rfl,z5 _ _ ae,z5 _ _ (z4 _ _ ae),z5 _ _ (z4 _ _ (z3 _ _ (z2 _ _ ae))),z5 _ _ (z4 _ _ (z3 _ _ ae))⟩)
  cases eh:H l with
  | none=>rfl
  | some o=>rw [(s1.trans (z1.trans (z2.trans (z3.trans z4)))) _ _ eh] at hl';cases hl'
variable {CH:Addr}
def DuA(H:Hp)(x:Ws)(u:V):Prop:=∃t t2 m e i j y,u=.ref t/\H t=some (.tup [.int x.1,.ref t2])/\H t2=some (.tup [.str x.2.1,.ref x.2.2.1,.ref m,.ref e])/\H x.2.2.2=some (.tup [.int i,.int j,.str y])/\H m=some (.tup [.int i,.int j,.str y])/\H e=some (.tup [])
theorem DuA.keep{H H':Hp}{x:Ws}{u:V}(s:bD H H')(h:DuA H x u):DuA H' x u:=by
 obtain ⟨t,t2,m,e,i,j,y,rfl,h1,h2,h3,h4,h5⟩:=h
 exact ⟨t,t2,m,e,i,j,y,rfl,s _ _ h1,s _ _ h2,s _ _ h3,s _ _ h4,s _ _ h5⟩
theorem ub{H:Hp}{nv:V}(h:NwAt K H [] nv):∃t,nv=.ref t/\H t=some (.tup []):=by
 obtain ⟨t,zs,rfl,h3,pz⟩:=h
 have e:iA ltE ([]:List (Pa×Str))=[]:=rfl
 rw [e] at pz
 cases pz
 exact ⟨t,rfl,h3⟩
theorem yk{H:Hp}{x:Ws}{u v:V}(a:LtAt K H [] x u)(b:DuA H x v):rB K 3 H u v true:=by
 obtain ⟨tt,t2,nv,rfl,h1,h2,hn⟩:=a
 obtain ⟨t3,rfl,h3⟩:=ub hn
 obtain ⟨r,r2,mm,e,i1,j1,y1,rfl,g1,g2,g3,g4,g5⟩:=b
 have e0:=(lU (K:=K) (n:=0) (SqT.of g3) (SqT.of g4) (.cons (eq_int 0 _) (.cons (eq_int 0 _) (.cons (eq_str 0 _) .nil)))).1
 have e1:=(lU (K:=K) (n:=0) (SqT.of h3) (SqT.of g5) .nil).1
 have e2:=(lU (K:=K) (n:=1) (SqT.of h2) (SqT.of g2) (.cons (eq_str 1 _) (.cons (wo 1) (.cons e0 (.cons e1 .nil))))).1
 exact (lU (K:=K) (n:=2) (SqT.of h1) (SqT.of g1) (.cons (eq_int 2 _) (.cons e2 .nil))).2
def oi(K:PySem.W.Frag):Sp:=λvs H Q _=>∃fl dl us vs' ws,vs=[.ref fl,.ref dl]/\H fl=some (.lst us)/\H dl=some (.lst vs')/\Paired (LtAt K H []) ws us/\Paired (DuA H) ws vs'/\∀H',Same H H'->Q (.bl true) H'
theorem vI(F:Fun K "_law_same" "_law_same" fo f fd)(B:TxB mg)(mZ:mg "zip"=none):FnOk P w K mg base CX0 1 f fd ["_law_found","_law_due_here"] (oi K):=by
 refine F.ok sc__law_same (λvs H Q E h=>?_) (λcdv A outer s H vs Q E hr h=>?_)
 ·obtain ⟨fl,dl,us,vs',ws,rfl,_⟩:=h
  rfl
 obtain ⟨fl,dl,us,ys,ws,rfl,hp,hq,pu,py,q⟩:=h
 have nd:=sc__law_same.nd
 have hl:us.length=ys.length:=by rw [← pu.len,py.len]
 refine ⟨_,ad (aF (PW.pt (gK (dQ (bq (au bx rfl B.isi PyProof.Rows.boot_isinstance (aa (pv 0) (aa (dH (v:=.ty "list") rfl B.list PyProof.Rows.boot_list rfl) ac))))) (gz (ap kf (au av rfl B.len PySem.boot_len (aa (pv 0) ac)) (au av rfl B.len PySem.boot_len (aa (pv 1) ac)) (ay _))))) aE az)
  (ad (lE PassesOwn.never rfl (xD rfl mZ (aa (pv 0) (aa (pv 1) ac))) (ji rfl (be (bc (i:=2) nd rfl (Or.inl rfl)) (be (bc (i:=3) nd rfl (Or.inl rfl)) gL)))
   (ad (aF (PW.pt (gK (ap (xL 3 (hun (c:=2) hr)) (pv 2) (pv 3) (ay _)) (gK (dQ (bq (au bx rfl B.isi PyProof.Rows.boot_isinstance (aa (pv 2) (aa (dH (v:=.ty "tuple") rfl B.tuple PyProof.Rows.boot_tuple rfl) ac))))) (gz (dQ (bq (au bx rfl B.isi PyProof.Rows.boot_isinstance (aa (aG (r:=cS K) aV (pv 2) aj (λ_ _=>rfl)) (aa (dH (v:=.ty "tuple") rfl B.tuple PyProof.Rows.boot_tuple rfl) ac))))))))) aE az)
   (af (lE PassesOwn.never rfl (eH (aT (aa (aG (r:=cS K) aV (pv 2) aj (λ_ _=>rfl)) (aa (aG (r:=cS K) aV (aG (r:=cS K) aV (aG (r:=cS K) aV (pv 2) aj (λ_ _=>rfl)) aj (λ_ _=>rfl)) aj (λ_ _=>rfl)) (aa (aG (r:=cS K) aV (aG (r:=cS K) aV (aG (r:=cS K) aV (pv 2) aj (λ_ _=>rfl)) aj (λ_ _=>rfl)) aj (λ_ _=>rfl)) ac))))) (bc (i:=4) nd rfl (Or.inl rfl))
    (af (aF (PW.pt (gK (dQ (bq (au bx rfl B.isi PyProof.Rows.boot_isinstance (aa (pv 4) (aa (dH (v:=.ty "int") rfl B.int PyProof.Rows.boot_int rfl) ac))))) (gz (bq (au bx rfl B.isi PyProof.Rows.boot_isinstance (aa (pv 4) (aa (dH (v:=.ty "bool") rfl B.bool PyProof.Rows.boot_bool rfl) ac))))))) aE az))))))
  (af (ao fu))),?_⟩
 refine ⟨_,rfl,_,_,_,_,rfl,TyOf.lst hp,yq,_,rfl,aI ?_⟩
 refine ⟨_,rfl,fl,_,rfl,.inl (SqL.of hp),_,rfl,dl,_,rfl,.inl (SqL.of hq),rfl,_,rfl,ul (by rw [hl]) ?_⟩
 refine ⟨_,rfl,_,rfl,fl,dl,rfl,⟨_,SqL.of hp⟩,⟨_,SqL.of hq⟩,?_⟩
 refine wn (xs:=us) (ys:=ys) (λi σ H'=>Same H H'/\∃x2 x3 x4,σ=[some (.ref fl),some (.ref dl),x2,x3,x4]) hl ⟨Same.refl _,none,none,none,rfl⟩ (λi σ H' _ z=>⟨SqL.of (z.1 _ _ hp),SqL.of (z.1 _ _ hq)⟩) ?_ ?_
 ·rintro i u v t σ H1 hu hv ⟨s1,x2,x3,x4,rfl⟩ ht
  obtain ⟨x,ex,lt⟩:=pu.get hu
  obtain ⟨x',ex',du⟩:=py.get hv
  rw [ex] at ex'
  cases ex'
  have s2:=ai (o:=.tup [u,v]) ht
  have s12:=s1.trans s2
  have lt2:=lt.keep s12.ts
  have du2:=du.keep s12.ts
  have gt:(upd H1 t (.tup [u,v])) t=some (.tup [u,v]):=ae
  generalize (upd H1 t (HO.tup [u,v]))=H2 at s12 lt2 du2 gt ⊢
  have nn:=yk lt2 du2
  obtain ⟨t1,t2,nv',rfl,g1,g2,_⟩:=lt2
  obtain ⟨_,_,_,_,i1,j1,y1,_,_,_,g3,_⟩:=du2
  refine ⟨t,_,rfl,SqT.of gt,rfl,_,_,rfl,_,_,rfl,rfl,?_⟩
  refine ⟨_,rfl,_,rfl,nn,_,rfl,aI ?_⟩
  refine ⟨_,rfl,_,_,_,_,rfl,TyOf.tup g1,ui,_,rfl,aI ?_⟩
  refine ⟨_,rfl,t1,_,_,_,rfl,rfl,SqT.of g1,St.at1,_,_,_,_,rfl,TyOf.tup g2,ui,_,rfl,aI ?_⟩
  refine ⟨_,rfl,t1,_,_,_,rfl,rfl,SqT.of g1,St.at0,_,rfl,t1,_,_,_,rfl,rfl,SqT.of g1,St.at1,t2,_,_,_,rfl,rfl,SqT.of g2,St.at2,_,_,_,_,rfl,rfl,SqT.of g3,St.at0,_,rfl,t1,_,_,_,rfl,rfl,SqT.of g1,St.at1,t2,_,_,_,rfl,rfl,SqT.of g2,St.at2,_,_,_,_,rfl,rfl,SqT.of g3,St.at1,(by show 3<=sizeLine;decide),λnl hnl=>?_⟩
  have s3:=ai (o:=.lst [.int x.1,.int i1,.int j1]) hnl
  have hn:(upd H2 nl (.lst [.int x.1,.int i1,.int j1])) nl=some (.lst ([x.1,i1,j1].map V.int)):=ae
  generalize (upd H2 nl (HO.lst [.int x.1,.int i1,.int j1]))=H3 at s3 hn ⊢
  refine ⟨nl,rfl,⟨_,SqL.of hn⟩,?_⟩
  refine jD (xs:=[x.1,i1,j1].map V.int) (λi σ H'=>H'=H3/\∃x2 x3 x4,σ=[some (.ref fl),some (.ref dl),x2,x3,x4]) ⟨rfl,_,_,_,rfl⟩ (λi σ H' _ z=>by rw [z.1];exact SqL.of hn) ?_ ?_
  ·rintro k uu σ H4 hk ⟨rfl,x2,x3,x4,rfl⟩
   rw [List.getElem?_map] at hk
   obtain ⟨n,en,rfl⟩:=Option.map_eq_some_iff.mp hk
   refine ⟨_,rfl,_,_,_,_,rfl,TyOf.int _,oT,_,rfl,aI ?_⟩
   exact ⟨_,rfl,_,_,_,_,rfl,TyOf.int _,oU,_,rfl,aI ⟨rfl,_,_,_,rfl⟩⟩
  ·rintro σ H4 ⟨rfl,x2,x3,x4,rfl⟩
   exact ⟨s12.trans s3,_,_,_,rfl⟩
 ·rintro σ H' ⟨s1,x2,x3,x4,rfl⟩
  exact q _ s1
def rZ:Sp:=λvs H Q _=>∃n i,vs=[.int n,.int i]/\∀o,o≠i->Q (.int o) H
theorem xT(F:Fun K "_law_other" "_law_other" eE f fd):FnOk P w K mg base CX0 1 f fd ["_law_number","_law_at"] rZ:=by
 refine F.ok sc__law_other (λvs H Q E h=>?_) (λcdv A outer s H vs Q E hr h=>?_)
 ·obtain ⟨n,i,rfl,_⟩:=h
  rfl
 obtain ⟨n,i,rfl,q⟩:=h
 have nd:=sc__law_other.nd
 refine ⟨_,ad (aC (i:=2) nd rfl (Or.inl rfl) (aD ca (pv 0) aj)) (ad (aF (ap bf (pv 2) (pv 1) (ay _)) (af (ao (aD ca (aD dk (pv 2) aj) aj))) az) (af (ao (pv 2)))),?_⟩
 refine ⟨_,rfl,_,_,rfl,rfl,(by show (0:Int)<13;decide),_,rfl,_,rfl,rfl,_,rfl,bz (λc=>?_) (λc=>?_)⟩
 ·have e:n%13=i:=V.int.inj (of_decide_eq_true c)
  refine ⟨_,rfl,_,_,rfl,rfl,_,_,rfl,rfl,(by show (0:Int)<13;decide),q _ ?_⟩
  show (n%13+1)%13≠i
  omega
 ·exact ⟨_,rfl,q _ λz=>c (decide_eq_true (congrArg V.int z))⟩
def rT:Sp:=λvs H Q _=>∃n i,vs=[.int n,.int i]/\∀t wd o H',Same H H'->H' t=some (.tup [.str wd,.int o])->(wd="went"\/wd="did"/\o≠i)->Q (.ref t) H'
theorem xP(F:Fun K "_law_strange" "_law_strange" di f fd)(GO:GF P w K mg base CX0 1 "_law_other" ["_law_number","_law_at"] rZ):FnOk P w K mg base CX0 2 f fd ["_law_number","_law_at"] rT:=by
 refine F.ok iH (λvs H Q E h=>?_) (λcdv A outer s H vs Q E hr h=>?_)
 ·obtain ⟨n,i,rfl,_⟩:=h
  rfl
 obtain ⟨n,i,rfl,q⟩:=h
 refine ⟨_,ad (aF (ap bf (aD ca (pv 0) aj) aj (ay _)) (af (ao (ba (aa aB (aa (pv 1) ac))))) az) (af (ao (ba (aa aB (aa (pc GO hr (aa (pv 0) (aa (pv 1) ac))) ac))))),?_⟩
 refine ⟨_,rfl,_,_,rfl,rfl,(by show (0:Int)<4;decide),rfl,_,rfl,bz (λc=>?_) (λc=>?_)⟩
 ·exact ⟨_,rfl,(by show 2<=sizeLine;decide),λt ht=>q t _ _ _ (ai ht) ae (.inl rfl)⟩
 ·exact ⟨_,rfl,_,rfl,n,i,rfl,λo ho=>⟨(by show 2<=sizeLine;decide),λt ht=>q t _ _ _ (ai ht) ae (.inr ⟨rfl,ho⟩)⟩⟩
def sj(K:PySem.W.Frag):Sp:=λvs H Q _=>∃sl xs us,vs=[.ref sl]/\H sl=some (.lst us)/\Paired (StT H) xs us/\xs.length<=12/\(∃x∈xs,aH x.1 x.2≠.non)/\∀H',Same H H'->Q (.bl true) H'
theorem xZ(F:Fun K "_law_housed" "_law_housed" bV f fd):FnOk P w K mg base CX0 1 f fd ["_law_steps"] (sj K):=by
 refine F.ok i8 (λvs H Q E h=>?_) (λcdv A outer s H vs Q E hr h=>?_)
 ·obtain ⟨sl,xs,us,rfl,_⟩:=h
  rfl
 obtain ⟨sl,xs,us,rfl,hsl,px,l12,⟨x0,hx0,nx0⟩,q⟩:=h
 refine ⟨_,af (ao (df (jo (Nat.lt_of_succ_lt (qW hr))) (gk hZ rfl (eH (pv 0)) (λ_ _ _ _=>lD (ap eJ (aG (r:=cS K) aV (pv 0) aj (λ_ _=>rfl)) bb (ay _))) (λ_ _ _ _=>pv 0)) (aT ac) (ay _))),?_⟩
 have pl:=px.len
 have hz:(100000:Nat)<=sizeLine:=by decide
 refine ⟨_,rfl,sl,rfl,⟨_,SqL.of hsl⟩,?_⟩
 refine iU (xs:=us) (λi ys H'=>H'=H/\((∃x∈xs.take i,aH x.1 x.2≠.non)->ys≠[])) ⟨rfl,λ⟨x,hx,_⟩=>by cases hx⟩ (by omega) (λi ys H' _ z=>by rw [z.1];exact SqL.of hsl) ?_ ?_
 ·rintro i u ys H' hu ⟨rfl,iy⟩
  obtain ⟨x,ex,tt,am,rfl,h1,_⟩:=px.get hu
  have et:xs.take (i+1)=xs.take i++[x]:=by rw [List.take_add_one,ex];rfl
  refine ⟨_,rfl,tt,_,_,_,rfl,rfl,SqT.of h1,St.at1,rfl,_,rfl,?_⟩
  by_cases e:aH x.1 x.2=.non
  ·rw [decide_eq_true e]
   refine aI ⟨rfl,λ⟨y,hy,ny⟩=>iy ⟨y,?_,ny⟩⟩
   rw [et] at hy
   rcases List.mem_append.mp hy with z | z
   ·exact z
   ·rw [List.mem_singleton.mp z] at ny
    exact absurd e ny
  ·rw [decide_eq_false e]
   exact bU ⟨_,rfl,rfl,λ_ z=>by simp at z⟩
 ·rintro ys H' ⟨rfl,iy⟩ l hl
  have ny:ys≠[]:=iy ⟨x0,by rw [← pl,List.take_length];exact hx0,nx0⟩
  have s1:=ai (o:=.lst ys) hl
  refine ⟨(by show 0<=sizeLine;decide),λe he=>?_⟩
  have s2:=ai (o:=.lst []) he
  refine ⟨l,e,ys,rfl,rfl,SqL.of (s2 _ _ ae),SqL.of ae,?_⟩
  rw [decide_eq_false ny]
  exact q _ (s1.trans s2)
variable {CH:Addr}
theorem iC{α β:Type}{R:α->β->Prop}:∀(k:Nat) {xs:List α} {ys:List β},Paired R xs ys->Paired R (xs.drop k) (ys.drop k)
 | 0,_,_,h=>h
 | _+1,_,_,.nil=>.nil
 | k+1,_,_,.cons _ r=>iC k r
theorem uG(xs:List V)(k:Nat)(h:k<=xs.length):gi xs (some (k:Int)) none=xs.drop k:=by
 unfold gi
 rw [HT.vk,HT.sH,Nat.min_eq_left h,← List.length_drop,List.take_length]
theorem none_of{H H':Hp}{b:Addr}(s:Same H H')(n:H' b=none):H b=none:=by
 cases e:H b with
 | none=>rfl
 | some o=>rw [s _ _ e] at n;cases n
theorem lO{H:Hp}{x dx:Addr}{o1 o2:HO}(nx:H x=none)(nd:H dx=none):Same H (upd (upd H dx o1) x o2):=λb o e=>by rw [aq (ah e nx),aq (ah e nd)];exact e
theorem ko{H:Hp}{g:Sg}(lg:Lg CL CS CH CW K H g){l:Addr}(nl:H l=none):l∉fO g.A g.ag g.S g.h:=λhb=>by
 rcases List.mem_cons.mp hb with z | hb
 ·rw [z,lg.ld.ins] at nl;cases nl
 rcases List.mem_cons.mp hb with z | hb
 ·rw [z,lg.ld.han] at nl;cases nl
 rcases List.mem_cons.mp hb with z | hb
 ·rw [z,lg.agr] at nl;cases nl
 obtain ⟨o,e1,_⟩:=lg.sh.own hb
 rw [nl] at e1
 cases e1
theorem ua{xs:List Stp}{ys:List Int}(ar:ArS xs)(h:aX xs ys≠.non\/xs.length<=ys.length)(hl:ys.length<xs.length):∃x n,xs[ys.length]?=some x/\aH x.1 x.2=.int n:=by
 obtain ⟨x,ex⟩:∃x,xs[ys.length]?=some x:=⟨_,List.getElem?_eq_getElem hl⟩
 have z:=h.resolve_right (by omega)
 unfold aX at z
 rw [ex] at z
 rcases iu (ar x (List.mem_of_getElem? ex)) with ⟨y,_⟩ | ⟨n,y⟩
 ·exact absurd y z
 ·exact ⟨x,n,ex,y⟩
theorem LSh.kpb{H H':Hp}{A:Al}{ag:Addr}{S:Ad}{h:Ah}{p:Pa}{xs:List Stp}{hs ys:List Int}{tn:Int}{nm:V}{cl:Bool}{as:List Int}{d:Sd}{rs:List Addr}{ws:List Ws}{v:V}(q:LSh CL CS CH CW K H A ag S h p xs hs ys tn nm cl as d rs ws v){b:Addr}{zs:List V}(k:Kp b H H')(e:H b=some (.lst zs))(n:b∉fO A ag S h):LSh CL CS CH CW K H' A ag S h p xs hs ys tn nm cl as d rs ws v:=by
 obtain ⟨us,h1,h2⟩:=q.ld.stp
 have ne:∀{c:Addr} {o:HO},H c=some o->(∀z,o≠.lst z)->c≠b:=λe' n'=>bw e' e (n' _)
 have n1:A.l≠b:=λz=>n (by rw [← z];exact .head _)
 have n2:A.hd≠b:=λz=>n (by rw [← z];exact .tail _ (.head _))
 have n3:ag≠b:=λz=>n (by rw [← z];exact .tail _ (.tail _ (.head _)))
 refine ⟨⟨k _ _ n1 q.ld.ins,k _ _ (ne q.ld.nam (λ_ z=>by cases z)) q.ld.nam,⟨us,k _ _ (ne h1 (λ_ z=>by cases z)) h1,zb k e (λ_ _ _ z=>by cases z) h2⟩,k _ _ (ne q.ld.hou (λ_ z=>by cases z)) q.ld.hou,k _ _ n2 q.ld.han,q.ld.ar,q.ld.le,q.ld.lx,q.ld.fx⟩,k _ _ n3 q.agr,xw q.sh k (λhb=>?_) e (λ_ z=>by cases z),q.m1,q.m2,q.m3,q.hl⟩
 rcases List.mem_cons.mp hb with z | z
 ·have e2:=q.sh.st.ins
  rw [← z,e] at e2
  cases e2
 ·exact n (.tail _ (.tail _ (.tail _ z)))
def KpX(hl:Addr)(g:Sg)(H H':Hp):Prop:=∀b o,b∉hl::fO g.A g.ag g.S g.h->H b=some o->H' b=some o
theorem KpX.trans{hl:Addr}{g:Sg}{H H1 H2:Hp}(a:KpX hl g H H1)(b:KpX hl g H1 H2):KpX hl g H H2:=λc o n e=>b c o n (a c o n e)
theorem KpX.of{hl:Addr}{g:Sg}{H H1:Hp}(a:KpG g H H1):KpX hl g H H1:=λc o n e=>a c o (λz=>n (.tail _ z)) e
theorem KpX.same{hl:Addr}{g:Sg}{H H1:Hp}(a:Same H H1):KpX hl g H H1:=λc o _ e=>a c o e
theorem KpX.kp{hl:Addr}{g:Sg}{H H1:Hp}(a:Kp hl H H1):KpX hl g H H1:=λc o n e=>a c o (λz=>n (by rw [z];exact .head _)) e
structure JB(CL CS CH:Addr)(CW:Wd->Addr)(K:PySem.W.Frag)(H:Hp)(a:Addr)(zs:List Int)(g:Sg)(hl sl:Addr)(us:List V)(ls:List Int):Prop where
 lg:Lg CL CS CH CW K H g
 scr:Scr K H a (zs.map V.int) (hl::fO g.A g.ag g.S g.h)
 hz:H sl=some (.lst us)
 nz:sl∉hl::fO g.A g.ag g.S g.h
 st:Paired (StT H) g.xs us
 hh:H hl=some (.lst (ls.map V.int))
 nh:hl∉fO g.A g.ag g.S g.h
 en:g.d.ends=[]
 er:g.rs=[]
 ea:g.as=[]
 hi:wD g.xs g.hs
section
variable {H H':Hp}{a:Addr}{zs:List Int}{g:Sg}{hl sl:Addr}{us:List V}{ls:List Int}
theorem JB.ts(j:JB CL CS CH CW K H a zs g hl sl us ls)(k:KpX hl g H H'):bD H H':=λb xs e=>k b _ (λhb=>by
 rcases List.mem_cons.mp hb with z | hb
 ·rw [z,j.hh] at e;cases e
 rcases List.mem_cons.mp hb with z | hb
 ·rw [z,j.lg.ld.ins] at e;cases e
 rcases List.mem_cons.mp hb with z | hb
 ·rw [z,j.lg.ld.han] at e;cases e
 rcases List.mem_cons.mp hb with z | hb
 ·rw [z,j.lg.agr] at e;cases e
 obtain ⟨o,e1,n⟩:=j.lg.sh.own hb
 rw [e] at e1
 exact n xs (Option.some.inj e1).symm) e
theorem JB.to(j:JB CL CS CH CW K H a zs g hl sl us ls)(k:KpX hl g H H'){ys:List Int}{tn:Int}{nm:V}{ws:List Ws}{ls':List Int}(lg:Lg CL CS CH CW K H' {g with ys:=ys,tn:=tn,nm:=nm,ws:=ws})(hh:H' hl=some (.lst (ls'.map V.int))) :
  JB CL CS CH CW K H' a zs {g with ys:=ys,tn:=tn,nm:=nm,ws:=ws} hl sl us ls' :=
 ⟨lg,j.scr.kp k,k _ _ j.nz j.hz,j.nz,Paired.mapP j.st λ_ _ z=>z.keep (j.ts k),hh,j.nh,j.en,j.er,j.ea,j.hi⟩
theorem JB.keep(j:JB CL CS CH CW K H a zs g hl sl us ls)(s:Same H H'):JB CL CS CH CW K H' a zs g hl sl us ls:=j.to (KpX.same s) (j.lg.keep s) (s _ _ j.hh)
theorem JB.ne(j:JB CL CS CH CW K H a zs g hl sl us ls):sl≠hl:=λz=>j.nz (by rw [z];exact .head _)
theorem JB.housed(j:JB CL CS CH CW K H a zs g hl sl us ls)(h:g.sil≠[]):∃x∈g.xs,aH x.1 x.2≠.non:=by
 obtain ⟨n,hn⟩:=List.exists_mem_of_ne_nil _ h
 have hn':n∈g.hs:=(List.mem_filter.mp hn).1
 obtain ⟨x,hx,ex⟩:=List.mem_filterMap.mp ((j.hi.2.2 n).mp hn')
 exact ⟨x,hx,λz=>by rw [z] at ex;cases ex⟩
end
def Pend(H:Hp)(g:Sg)(k:Nat)(m:Bool):Prop:=(g.ws.drop k=[]/\m=false)\/(m=true/\∃x n t,g.xs[g.ys.length]?=some x/\aH x.1 x.2=.int n/\g.ws.drop k=[(n,("work":Str),g.A.na,t)]/\H t=some (.tup [.int (g.ys.length:Nat),.int (aL g.ys),.str (sx x)]))
theorem Pend.keep{H H':Hp}{g:Sg}{k:Nat}{m:Bool}(s:bD H H')(h:Pend H g k m):Pend H' g k m:=h.imp id λ⟨e,x,n,t,h1,h2,h3,h4⟩=>⟨e,x,n,t,h1,h2,h3,s _ _ h4⟩
def Stb(g:Sg):Prop:=aX g.xs g.ys≠.non\/g.xs.length<=g.ys.length
structure Md(g:Sg)(t:Int)(i:Nat):Prop where
 stb:Stb g
 lt:g.ys.length<g.xs.length
 ec:g.cl=false
 en:g.nm=.non
 et:g.tn=t
 t0:0<=t
 t3:t<=3
 lw:g.ws.length<=i
abbrev s41(a:Addr)(g:Sg)(sl hl:Addr)(t:Int)(k:Nat)(f:V)(m:Bool)(y10 y11 y12 y13 y14 y15:Option V):L2.St:=[some (.ref a),some (.ref g.A.na),some (.ref sl),some (.ref g.A.l),some (.ref g.h.l),some (.ref hl),some (.int t),some (.int (k:Nat)),some f,some (.bl m),y10,y11,y12,y13,y14,y15]
theorem oC{a sl hl:Addr}{g g':Sg}{t:Int}{k:Nat}{f:V}{m:Bool}{y10 y11 y12 y13 y14 y15:Option V}(eA:g'.A=g.A)(eh:g'.h=g.h):s41 a g sl hl t k f m y10 y11 y12 y13 y14 y15=s41 a g' sl hl t k f m y10 y11 y12 y13 y14 y15:=by
 unfold s41
 rw [eA,eh]
def Hd(H:Hp)(g:Sg)(ls:List Int)(t:Int)(k:Nat)(f:V)(m:Bool)(i:Nat):Prop:=g.ys=(own g.xs ls).1/\ls.length<=g.xs.length /\
 (((own g.xs ls).2=false/\f=.str "broken"/\k=g.ws.length/\g.ws.length<=i) \/
  ((own g.xs ls).2=true/\g.ys.length=g.xs.length/\(f=.str "done"\/(f=.non/\∃x∈g.xs,aH x.1 x.2≠.non))) \/
  ((own g.xs ls).2=true/\f=.non/\k<=g.ws.length/\Pend H g k m/\Md g t i))
theorem Hd.keep{H H':Hp}{g:Sg}{ls:List Int}{t:Int}{k:Nat}{f:V}{m:Bool}{i:Nat}(s:bD H H')(h:Hd H g ls t k f m i):Hd H' g ls t k f m i:=⟨h.1,h.2.1,h.2.2.imp id λz=>z.imp id λ⟨a,b,c,d,e⟩=>⟨a,b,c,d.keep s,e⟩⟩
section
variable (CL CS CH:Addr)(CW:Wd->Addr)(K:PySem.W.Frag)
def Pv(a:Addr)(zs:List Int)(hl sl el:Addr)(us cs:List V)(i:Nat)(σ:L2.St)(H:Hp):Prop:=∃y10 y11 y12 y13 y14 y15 g ls t k f m,σ=s41 a g sl hl t k f m y10 y11 y12 y13 y14 y15/\JB CL CS CH CW K H a zs g hl sl us ls/\Hd H g ls t k f m (2+i)/\H el=some (.lst cs)/\el∉hl::fO g.A g.ag g.S g.h
def u3:TS:=λD σ H=>∃a zs g hl sl el us cs t k m n i y11 y12 y13 y14 y15,σ=s41 a g sl hl t k .non m (some (.int n)) y11 y12 y13 y14 y15/\JB CL CS CH CW K H a zs g hl sl us g.ys/\k<=g.ws.length/\Pend H g k m/\Md g t (2+i)/\H el=some (.lst cs)/\el∉hl::fO g.A g.ag g.S g.h/\i<60/\∀σ' H',Pv CL CS CH CW K a zs hl sl el us cs (i+1) σ' H'->D.nx σ' H'
def u5:TS:=λD σ H=>∃a zs g hl sl el us cs t k m n i dn ds y12 y13 y14 y15,σ=s41 a g sl hl t k .non m (some (.int n)) (some (.ref dn)) y12 y13 y14 y15/\JB CL CS CH CW K H a zs g hl sl us g.ys/\k<=g.ws.length/\H dn=some (.lst ds)/\Paired (DuA H) (g.ws.drop k) ds/\Md g t (2+i)/\H el=some (.lst cs)/\el∉hl::fO g.A g.ag g.S g.h/\i<60/\∀σ' H',Pv CL CS CH CW K a zs hl sl el us cs (i+1) σ' H'->D.nx σ' H'
def u4(b:Bool):TS:=λD σ H=>∃a zs g hl sl el us cs t n i y11 y13 y14 y15,σ=s41 a g sl hl t (g:Sg).ws.length .non (decide (n%6<3)) (some (.int n)) y11 (some (.int (n%6))) y13 y14 y15/\(b=true->¬n%6<3)/\JB CL CS CH CW K H a zs g hl sl us g.ys/\Md g t (2+i)/\H el=some (.lst cs)/\el∉hl::fO g.A g.ag g.S g.h/\i<60/\∀σ' H',Pv CL CS CH CW K a zs hl sl el us cs (i+1) σ' H'->D.nx σ' H'
def u1:TS:=λD σ H=>∃a zs g hl sl us ls f,σ=s41 a g sl hl 0 0 f true none none none none none none/\JB CL CS CH CW K H a zs g hl sl us ls/\Hd H g ls 0 0 f true 2/\zs.length<=63/\∀H',D.rt (.bl true) H'
end
theorem zF(ns:List Int):(gi (ns.map V.int) (some 2) (some 42)).length<=40:=by
 unfold gi
 rw [List.length_take]
 show min (min 42 _-min 2 _) _<=40
 omega
theorem uo(xs:List Stp):Str.ofString "held "++Str.join (Str.ofString "; ") (xs.map sx)=ptx (mS false) xs:=by
 have e:Str.ofString "held "=mS false++Str.ofString " ":=by decide +kernel
 rw [e]
 rfl
theorem yB{H:Hp}{a:Addr}{zs:List Int}{g:Sg}{hl sl:Addr}{us:List V}{ls0 ls:List Int}{Q:V->Hp->Prop}{H0:Hp}(j:JB CL CS CH CW K H0 a zs g hl sl us ls0)(k0:KpX hl g H0 H)(hh:H hl=some (.lst (ls0.map V.int)))(ec:g.cl=false)(en:g.nm=.non)(hw:g.ws.length<=800)(le:ls.length<=g.xs.length){t:Int}{i:Nat}(et:g.tn=t)(t0:0<=t)(t3:t<=3)(lw:g.ws.length<=i)
  (q:∀f g' H',JB CL CS CH CW K H' a zs g' hl sl us ls0->g'.A=g.A->g'.h=g.h->g'.S=g.S->g'.ag=g.ag->Hd H' g' ls t g.ws.length f true (i+1)->KpX hl g H0 H'->Q f H'):GgQ CL CS CH CW K H {g with ys:=ls} Q:=by
 have ar:=j.lg.ld.ar
 refine ⟨ec,en,λH1 lg1 k1=>?_⟩
 have kk1:KpX hl g H0 H1:=k0.trans (KpX.of k1)
 have hh1:=k1 _ _ j.nh hh
 have lY:(own g.xs ls).1.length<=g.xs.length:=vy le
 cases e:(own g.xs ls).2 with
 | false =>
  refine .inl ⟨rfl,λH2 lg2 k2=>?_⟩
  exact q (.str "broken") {g with ys:=(own g.xs ls).1,nm:=.str "broken"} H2 (j.to (kk1.trans (KpX.of k2)) lg2 (k2 _ _ j.nh hh1)) rfl rfl rfl rfl ⟨rfl,le,.inl ⟨e,rfl,rfl,by show g.ws.length<=i+1;omega⟩⟩ (kk1.trans (KpX.of k2))
 | true =>
  refine .inr ⟨rfl,?_⟩
  have eY:=vz e
  by_cases el:(own g.xs ls).1.length=g.xs.length
  ·have l12:=j.lg.hl
   refine .inr ⟨el,by show g.ws.length<=880;omega,?_⟩
   by_cases es:({g with ys:=(own g.xs ls).1}:Sg).sil=[]
   ·refine .inr ⟨es,λH2 lg2 k2=>?_⟩
    exact q (.str "done") _ H2 (j.to (kk1.trans (KpX.of k2)) (ys:=(own g.xs ls).1) (tn:=g.tn) (nm:=.str "done") (ws:=g.ws++jS g.A.na g.A.ho g.sil) lg2 (k2 _ _ j.nh hh1)) rfl rfl rfl rfl ⟨rfl,le,.inr (.inl ⟨e,el,.inl rfl⟩)⟩ (kk1.trans (KpX.of k2))
   ·refine .inl ⟨es,λH2 lg2 k2=>?_⟩
    exact q .non _ H2 (j.to (kk1.trans (KpX.of k2)) (ys:=(own g.xs ls).1) (tn:=g.tn) (nm:=g.nm) (ws:=g.ws++jS g.A.na g.A.ho g.sil) lg2 (k2 _ _ j.nh hh1)) rfl rfl rfl rfl ⟨rfl,le,.inr (.inl ⟨e,el,.inr ⟨rfl,j.housed es⟩⟩)⟩ (kk1.trans (KpX.of k2))
  ·have lt:(own g.xs ls).1.length<g.xs.length:=by omega
   obtain ⟨x,nn,ex,hv⟩:=ua ar eY lt
   refine .inl ⟨x,nn,ex,hv,by show g.ws.length<=900;omega,λt' H2 lg2 ht2 k2=>?_⟩
   refine q .non _ H2 (j.to (kk1.trans (KpX.of k2)) (ys:=(own g.xs ls).1) (tn:=g.tn) (nm:=g.nm) (ws:=g.ws++[(nn,("work":Str),g.A.na,t')]) lg2 (k2 _ _ j.nh hh1)) rfl rfl rfl rfl ⟨rfl,le,.inr (.inr ⟨e,rfl,?_,.inr ⟨rfl,x,nn,t',ex,hv,?_,ht2⟩,⟨eY,lt,ec,en,et,t0,t3,?_⟩⟩)⟩ (kk1.trans (KpX.of k2))
   ·show g.ws.length<=(g.ws++_).length
    rw [List.length_append]
    omega
   ·show (g.ws++_).drop g.ws.length=_
    rw [List.drop_left]
   ·show (g.ws++_).length<=i+1
    rw [List.length_append]
    show g.ws.length+1<=i+1
    omega
variable {CH:Addr}
theorem xX{fSI fHI fLI:Addr}{dSI dHI dLI:FuncData}(F:Fun K "law" "law" my f fd)(B:TxB mg)(T:TxC K CW CL CH)(D:TxD K CS)(DH:TxH K CH)
  (MS:Mk K CS fSI)(mgS:mg "Stand"=some (.ref CS))(GSI:FnOk P w K mg base CX0 1 fSI dSI ["self","cells"] (pC CS K))(bSI:Binds K dSI ["self","cells"] [])
  (MH:Mk K CH fHI)(mgH:mg "Sheet"=some (.ref CH))(GHI:FnOk P w K mg base CX0 1 fHI dHI ["self","stand"] (pH CS CH K))(bHI:Binds K dHI ["self","stand"] [])
  (ML:Mk K CL fLI)(mgL:mg "HeldLead"=some (.ref CL))(GLI:FnOk P w K mg base CX0 4 fLI dLI ["self","name","pact"] (mq CL CP CW))(bLI:Binds K dLI ["self","name","pact"] [])
  (GRP:GF P w K mg base CX0 8 "read_pact" ["text"] (kS CP CW))(GMd:GF P w K mg base CX0 3 "_law_made" ["_law_script"] (gq K))(GPl:GF P w K mg base CX0 2 "_law_plain" ["_law_steps","_law_hands"] (rW K))(GHs:GF P w K mg base CX0 1 "_law_housed" ["_law_steps"] (sj K))
  (GDu:GF P w K mg base CX0 2 "_law_due" ["_law_name","_law_steps","_law_hands"] (ss K))(GSm:GF P w K mg base CX0 1 "_law_same" ["_law_found","_law_due_here"] (oi K))(GAm:GF P w K mg base CX0 1 "_law_amount" ["_law_number"] pJ)(GSt:GF P w K mg base CX0 2 "_law_strange" ["_law_number","_law_at"] rT)
  (GRT:GM P w K mg base CX0 1 CH "rows_told" ["self"] (kX CS CH K))(GLT:GM P w K mg base CX0 2 CH "letters_told" ["self"] (oq CS CH K))(GG:GM P w K mg base CX0 7 CL "go" ["self","sheet"] (so CL CS CH CW K))(GT:GM P w K mg base CX0 8 CL "turn" ["self","sheet"] (kN CL CS CH CW K))(GC:GM P w K mg base CX0 8 CL "came" ["self","sheet","word","sender","more"] (ow CL CS CH CW K)) :
  FnOk P w K mg base CX0 9 f fd ["_law_script"] (pF K):=by
 refine F.ok sc_law (λvs H Q E h=>?_) (λcdv A outer s H vs Q E hr h=>?_)
 ·obtain ⟨a,ns,rfl,_⟩:=h
  rfl
 obtain ⟨a,ns,rfl,hS,hl0,q⟩:=h
 have nd:=sc_law.nd
 have hr1:Room (1+1) _:=hr.mono (by decide)
 have hr4:Room (4+1) _:=hr.mono (by decide)
 refine ⟨_,ad (lF (pc GMd hr (aa (pv 0) ac)) (ji (n:=2) rfl (be (bc (i:=1) nd rfl (Or.inl rfl)) (be (bc (i:=2) nd rfl (Or.inl rfl)) gL))))
  (ad (aC (i:=3) nd rfl (Or.inl rfl) (bZ ML GLI hr4 rfl mgL bLI .nil br (aa (pv 1) (aa (pc GRP hr (aa (aD aP aB (d0 PySem.F.plainAttrs_str PySem.F.slot_str_join PySem.F.type_str_join pU aB (aa (gk sD rfl (eH (pv 2)) (λ_ _ _ _=>eG) (λ_ _ _ _=>aG (r:=cS K) aV (pv 0) aj (λ_ _=>rfl))) ac))) ac)) ac))))
  (ad (aC (i:=4) nd rfl (Or.inl rfl) (bZ MH GHI hr1 rfl mgH bHI .nil br (aa (bZ MS GSI hr1 rfl mgS bSI .nil br (aa (aT (aa aj ac)) ac)) ac)))
  (ad (aC (i:=5) nd rfl (Or.inl rfl) (aT ac))
  (ad (aC (i:=6) nd rfl (Or.inl rfl) aj)
  (ad (aC (i:=7) nd rfl (Or.inl rfl) aj)
  (ad (aC (i:=8) nd rfl (Or.inl rfl) (pm GG (pv 3) T.t.cl hr (aa (pv 4) ac)))
  (ad (aC (i:=9) nd rfl (Or.inl rfl) fu)
  (bY (u1 CL CS CH CW K)
  (ad (lE PassesOwn.never rfl (eH (aD ti (ft lc (pv 0) (dF aj) (dF aj)) (aT (aa aj ac)))) (bc (i:=10) nd rfl (Or.inl rfl))
   (ad (aF (dQ (bq (pc GPl hr (aa (pv 2) (aa (pv 5) ac)))))
    (af (ao (jm (df bf (pv 8) aB (ay _)) (jm (df bf (au av rfl B.len PySem.boot_len (aa (pm0 GLT (pv 4) DH.cl hr) ac)) (pv 7) (ay _)) (jj (df (mK (Nat.lt_of_succ_lt (qW hr))) (pm0 GRT (pv 4) DH.cl hr) (aT ac) (ay _))))))) az)
   (ad (aF (ap bf (au av rfl B.len PySem.boot_len (aa (pv 5) ac)) (au av rfl B.len PySem.boot_len (aa (pv 2) ac)) (ay _)) (af (ao (zp (df bf (pv 8) aB (ay _)) (jj (pc GHs hr (aa (pv 2) ac)))))) az)
   (bY (u3 CL CS CH CW K)
   (ad (aC (i:=11) nd rfl (Or.inl rfl) (ft lc (pc GDu hr (aa (pv 1) (aa (pv 2) (aa (pv 5) ac)))) pO (dF (aO rj rfl B.int PyProof.Rows.boot_int (aa (pv 9) ac)))))
   (bY (u5 CL CS CH CW K)
   (ad (aF (PW.pt (gK (ap eJ (pv 8) bb (ay _)) (gK (dQ (bq (pc GSm hr (aa (ft lc (pm0 GLT (pv 4) DH.cl hr) (dF (pv 7)) pO) (aa (pv 11) ac))))) (gz (ap (jo (Nat.lt_of_succ_lt (qW hr))) (pm0 GRT (pv 4) DH.cl hr) (aT ac) (ay _)))))) aE az)
   (ad (aC (i:=7) nd rfl (Or.inl rfl) (aD dk (pv 7) (au av rfl B.len PySem.boot_len (aa (pv 11) ac))))
   (ad (aC (i:=12) nd rfl (Or.inl rfl) (aD ca (pv 10) aj))
   (ad (aC (i:=9) nd rfl (Or.inl rfl) (df gl (pv 12) aj (ay _)))
   (bY (u4 CL CS CH CW K false)
   (af (aF (ap gl (pv 12) aj (ay _))
    (ad (aC (i:=13) nd rfl (Or.inl rfl) (pc GAm hr (aa (aD cq (pv 10) aj) ac)))
    (ad (aC (i:=8) nd rfl (Or.inl rfl) (pm GC (pv 3) T.t.cl hr (aa (pv 4) (aa aB (aa (aG (r:=cS K) aV (aG (r:=cA K) aK (pv 2) (au av rfl B.len PySem.boot_len (aa (pv 5) ac)) (λ_ _=>rfl)) aj (λ_ _=>rfl)) (aa (ba (aa (au av rfl B.len PySem.boot_len (aa (pv 5) ac)) (aa (pv 13) ac))) ac))))))
    (af (cH (d0 PySem.F.plainAttrs_list PySem.F.slot_list_append PySem.F.type_list_append dg (pv 5) (aa (pv 13) ac))))))
    (bY (u4 CL CS CH CW K true) (af (aF (PW.pt (dO (ap bf (pv 12) aj (ay _)) (da (ap gl (pv 6) aj (ay _)))))
     (ad (aC (i:=6) nd rfl (Or.inl rfl) (aD dk (pv 6) aj)) (ad (aC (i:=9) nd rfl (Or.inl rfl) fu) (af (aC (i:=8) nd rfl (Or.inl rfl) (pm GT (pv 3) T.t.cl hr (aa (pv 4) ac))))))
     (bY (u4 CL CS CH CW K true) (af (aF (PW.pt (dO (ap bf (pv 12) aj (ay _)) (da (ap (jo (Nat.lt_of_succ_lt (qW hr))) (pv 5) (aT ac) (ay _)))))
      (af (aC (i:=8) nd rfl (Or.inl rfl) (pm GC (pv 3) T.t.cl hr (aa (pv 4) (aa aB (aa (aD ca (aD cq (pv 10) aj) aj) (aa (ba (aa (aD ik (au av rfl B.len PySem.boot_len (aa (pv 5) ac)) aj) (aa (aG (r:=cA K) aK (pv 5) (pQ kL aj) (λ_ _=>rfl)) ac))) ac)))))))
      (bY (u4 CL CS CH CW K true) (ad (lF (pc GSt hr (aa (aD cq (pv 10) aj) (aa (au av rfl B.len PySem.boot_len (aa (pv 5) ac)) ac))) (ji (n:=2) rfl (be (bc (i:=14) nd rfl (Or.inl rfl)) (be (bc (i:=15) nd rfl (Or.inl rfl)) gL))))
       (af (aC (i:=8) nd rfl (Or.inl rfl) (pm GC (pv 3) T.t.cl hr (aa (pv 4) (aa (pv 14) (aa (aD ca (aD cq (pv 10) aj) aj) (aa (ba (aa (pv 15) (aa (pc GAm hr (aa (aD cq (pv 10) aj) ac)) ac))) ac)))))))) ?vD))) ?vC))) ?vB))) ?vA))))) ?v5)) ?v3))))
  (af (ao fu))) ?v1)))))))),?_⟩
 case v1 =>
  rintro D0 σ H ⟨a,zs,g,hl,sl,us,ls,f,rfl,j,hd,hz63,q⟩
  have hz:(100000:Nat)<=sizeLine:=by decide
  obtain ⟨cs,ecs,_⟩:=uF zs (some 2) (some 42)
  have l40:=zF zs
  rw [ecs,List.length_map] at l40
  refine ⟨_,rfl,_,rfl,_,rfl,a,_,rfl,j.scr.seq,λo1 ho1=>⟨(by show 1<=sizeLine;decide),λo2 ho2=>⟨o1,o2,_,_,rfl,rfl,ai ho2 _ _ ae,ae,?_,λel hel=>?_⟩⟩⟩
  ·rw [ecs,List.length_map]
   show cs.length+1<=sizeLine
   omega
  have s3:=(ai (o:=.lst (gi (zs.map V.int) (some 2) (some 42))) ho1).trans (ai (o:=.lst [.int 5]) ho2)
  have e1:(gi (zs.map V.int) (some 2) (some 42)++[.int 5]:List V)=(cs++[5]).map V.int:=by rw [ecs,List.map_append];rfl
  rw [e1]
  have j3:=j.keep s3
  have nel:el∉hl::fO g.A g.ag g.S g.h:=λz=>(List.mem_cons.mp z).elim (λy=>ah j3.hh hel y.symm) (ko j3.lg hel)
  have s4:=ai (o:=.lst ((cs++[5]).map V.int)) hel
  have j4:=j3.keep s4
  have hd4:=hd.keep (s3.trans s4).ts
  have el4:=ae (H:=(upd (upd H o1 (.lst (gi (zs.map V.int) (some 2) (some 42)))) o2 (.lst [.int 5]))) (a:=el) (o:=.lst ((cs++[5]).map V.int))
  generalize (upd (upd (upd H o1 (HO.lst (gi (zs.map V.int) (some 2) (some 42)))) o2 (HO.lst [.int 5])) el (HO.lst ((cs++[5]).map V.int)))=H4 at s4 j4 hd4 el4 ⊢
  refine ⟨el,rfl,⟨_,SqL.of el4⟩,?_⟩
  refine jD (xs:=(cs++[5]).map V.int) (Pv CL CS CH CW K a zs hl sl el us ((cs++[5]).map V.int)) ⟨none,none,none,none,none,none,g,ls,0,0,f,true,rfl,j4,hd4,el4,nel⟩ (λi σ H' _ z=>by obtain ⟨_,_,_,_,_,_,_,_,_,_,_,_,_,_,_,z,_⟩:=z;exact SqL.of z) ?_ (fun σ H' _=>q H')
  rintro i u σ H5 hu ⟨y10,y11,y12,y13,y14,y15,g,ls,t,k,f,m,rfl,j,⟨eo,lle,hd⟩,hel5,nel5⟩
  rw [List.getElem?_map] at hu
  obtain ⟨n,en',rfl⟩:=Option.map_eq_some_iff.mp hu
  have hi:i<60:=by
   have:=(List.getElem?_eq_some_iff.mp en').1
   rw [List.length_append] at this
   have h1:([5]:List Int).length=1:=rfl
   omega
  have n12:=j.lg.ld.lx
  have le:=j.lg.ld.le
  have pl:g.xs.length=us.length:=j.st.len
  refine ⟨_,rfl,_,rfl,sl,hl,g.xs,us,ls,rfl,j.hz,j.st,j.hh,lle,n12,j.ne,λH1 k1 hh1=>⟨_,rfl,?_⟩⟩
  have kx:KpX hl g H5 H1:=KpX.kp k1
  have lg1:=LSh.kpb j.lg k1 j.hh j.nh
  rw [← eo] at hh1
  have j1:JB CL CS CH CW K H1 a zs g hl sl us g.ys:=j.to kx lg1 hh1
  have t1:=j.ts kx
  have hel1:=kx _ _ nel5 hel5
  have hy:(g.ys.map V.int).length=g.ys.length:=List.length_map _
  rcases hd with ⟨eb,rfl,rfl,lw⟩ | ⟨eb,e1,hf⟩ | ⟨eb,rfl,kl,pe,md⟩
  ·rw [eb]
   refine bU ⟨_,rfl,rfl,_,rfl,?_⟩
   refine bU ⟨_,rfl,g.h.l,g.h.dx,_,rfl,j1.lg.sh.ins,kq (by decide +kernel),g.S,g.h,g.d,g.rs,g.ws,g.v,rfl,j1.lg.sh,by rw [j1.en];decide,by omega,λfl lt H2 s2 nfl hfl pll=>⟨fl,_,rfl,.inl (SqL.of hfl),_,rfl,rfl,_,rfl,?_⟩⟩
   have ll:g.ws.length=lt.length:=pll.len
   refine bz (λ_=>?_) (λc=>absurd (decide_eq_true (by rw [ll])) c)
   have j2:=j1.keep s2
   refine ⟨_,rfl,g.h.l,g.h.dx,_,rfl,j2.lg.sh.ins,kq (by decide +kernel),g.S,g.h,g.d,g.rs,g.ws,g.v,rfl,j2.lg.sh,λrl H4 s4 nrl hrl=>⟨(by show 0<=sizeLine;decide),λe5 he5=>?_⟩⟩
   rw [j.er] at hrl
   refine ⟨rl,e5,_,rfl,rfl,SqL.of (ai he5 _ _ hrl),SqL.of ae,?_⟩
   exact q _
  ·rw [eb]
   refine aI ⟨_,rfl,hl,_,rfl,.inl (SqL.of j1.hh),_,rfl,sl,_,rfl,.inl (SqL.of j1.hz),rfl,_,rfl,?_⟩
   rw [hy]
   refine bz (λ_=>?_) (λc=>absurd (decide_eq_true (congrArg V.int (by omega))) c)
   rcases hf with rfl | ⟨rfl,hx⟩
   ·exact ⟨_,rfl,rfl,_,rfl,bU (q _)⟩
   ·exact ⟨_,rfl,rfl,_,rfl,aI ⟨_,rfl,sl,g.xs,us,rfl,j1.hz,j1.st,n12,hx,λH2 s2=>q _⟩⟩
  ·rw [eb]
   have lt:=md.lt
   refine aI ⟨_,rfl,hl,_,rfl,.inl (SqL.of j1.hh),_,rfl,sl,_,rfl,.inl (SqL.of j1.hz),rfl,_,rfl,?_⟩
   rw [hy]
   refine bz (λc=>absurd (V.int.inj (of_decide_eq_true c)) (by omega)) (λ_=>?_)
   exact ⟨a,zs,g,hl,sl,el,us,_,t,k,m,n,i,_,_,_,_,_,rfl,j1,kl,pe.keep t1,md,hel1,nel5,hi,fun σ' H' z=>z⟩
 case v3 =>
  rintro D0 σ H ⟨a,zs,g,hl,sl,el,us,cs,t,k,m,n,i,y11,y12,y13,y14,y15,rfl,j,kl,pe,md,hel,nel,hi,nx⟩
  have le:=j.lg.ld.le
  refine ⟨_,rfl,_,rfl,_,rfl,g.A.na,sl,hl,g.xs,us,g.ys,rfl,j.hz,j.st,j.hh,le,md.stb,λdn ds H1 s1 ndn hdn dl=>?_⟩
  refine ⟨_,rfl,.inr ⟨m,rfl,?_⟩⟩
  rcases dl with ⟨z,_⟩ | ⟨x',n',u,ex',hv',rfl,tt',t2,mm,e,rfl,h1,h2,h3,h4⟩
  ·exact absurd z (Nat.ne_of_lt md.lt)
  cases m with
  | false =>
   refine ⟨_,rfl,dn,_,rfl,SqL.of hdn,λdl hdl=>?_⟩
   have s2:=ai (o:=.lst (gi [.ref tt'] none (some 0))) hdl
   have s12:=s1.trans s2
   refine ⟨a,zs,g,hl,sl,el,us,cs,t,k,false,n,i,dl,[],_,_,_,_,rfl,j.keep s12,kl,ae,?_,md,s12 _ _ hel,nel,hi,nx⟩
   rcases pe with ⟨e0,_⟩ | ⟨z,_⟩
   ·rw [e0];exact .nil
   ·cases z
  | true =>
   refine ⟨_,rfl,dn,_,rfl,SqL.of hdn,λdl hdl=>?_⟩
   have s2:=ai (o:=.lst (gi [.ref tt'] none (some 1))) hdl
   have s12:=s1.trans s2
   refine ⟨a,zs,g,hl,sl,el,us,cs,t,k,true,n,i,dl,[.ref tt'],_,_,_,_,rfl,j.keep s12,kl,ae,?_,md,s12 _ _ hel,nel,hi,nx⟩
   rcases pe with ⟨_,z⟩ | ⟨_,x,nn,tt,ex,hv,ed,ht⟩
   ·cases z
   ·rw [ex] at ex'
    cases ex'
    rw [hv] at hv'
    cases hv'
    rw [ed]
    exact .cons ⟨tt',t2,mm,e,_,_,_,rfl,s2 _ _ h1,s2 _ _ h2,s12 _ _ ht,s2 _ _ h3,s2 _ _ h4⟩ .nil
 case v5 =>
  rintro D0 σ H ⟨a,zs,g,hl,sl,el,us,cs,t,k,m,n,i,dn,ds,y12,y13,y14,y15,rfl,j,kl,hdn,pd,md,hel,nel,hi,nx⟩
  have lw:=md.lw
  refine ⟨_,rfl,rfl,_,rfl,aI ?_⟩
  refine ⟨_,rfl,g.h.l,g.h.dx,_,rfl,j.lg.sh.ins,kq (by decide +kernel),g.S,g.h,g.d,g.rs,g.ws,g.v,rfl,j.lg.sh,by rw [j.en];decide,by omega,λfl lt H1 s1 nfl hfl pl=>?_⟩
  rw [j.en] at pl
  have ll:g.ws.length=lt.length:=pl.len
  refine ⟨_,rfl,_,rfl,fl,_,rfl,SqL.of hfl,λcl hcl=>?_⟩
  rw [uG lt k (by omega)] at *
  have s2:=ai (o:=.lst (lt.drop k)) hcl
  have s02:=s1.trans s2
  have hcl2:(upd H1 cl (.lst (lt.drop k))) cl=some (.lst (lt.drop k)):=ae
  have pl2:=iC k (Paired.mapP pl λ_ _ z=>LtAt.keep s2.ts z)
  have pd2:=Paired.mapP pd λ_ _ z=>DuA.keep s02.ts z
  have j2:=j.keep s02
  have hdn2:=s02 _ _ hdn
  generalize (upd H1 cl (HO.lst (lt.drop k)))=H2 at s2 s02 hcl2 pl2 pd2 j2 hdn2 ⊢
  refine ⟨_,rfl,cl,dn,_,ds,_,rfl,hcl2,hdn2,pl2,pd2,λH3 s3=>⟨_,rfl,aI ?_⟩⟩
  have j3:=j2.keep s3
  refine ⟨_,rfl,g.h.l,g.h.dx,_,rfl,j3.lg.sh.ins,kq (by decide +kernel),g.S,g.h,g.d,g.rs,g.ws,g.v,rfl,j3.lg.sh,λrl H4 s4 nrl hrl=>⟨(by show 0<=sizeLine;decide),λe5 he5=>?_⟩⟩
  rw [j.er] at hrl
  have s5:=ai (o:=.lst []) he5
  refine ⟨rl,e5,_,rfl,rfl,SqL.of (s5 _ _ hrl),SqL.of ae,_,rfl,aI ?_⟩
  have s25:=s3.trans (s4.trans s5)
  have s05:=s02.trans s25
  have j5:=j.keep s05
  have hdn5:=s25 _ _ hdn2
  have hel5:=s05 _ _ hel
  generalize (upd H4 e5 (HO.lst []))=H5 at j5 hdn5 hel5 ⊢
  have e2:((k:Nat):Int)+((ds.length:Nat):Int)=((g.ws.length:Nat):Int):=by
   have z1:=pd.len
   rw [List.length_drop] at z1
   omega
  refine ⟨_,rfl,_,rfl,dn,_,rfl,.inl (SqL.of hdn5),_,_,rfl,rfl,?_⟩
  show pX 7 (V.int (((k:Nat):Int)+((ds.length:Nat):Int))) _ _ _
  rw [e2]
  refine ⟨_,rfl,_,_,rfl,rfl,(by show (0:Int)<6;decide),_,rfl,_,_,rfl,rfl,?_⟩
  exact ⟨a,zs,g,hl,sl,el,us,cs,t,n,i,_,_,_,_,rfl,(λz=>by cases z),j5,md,hel5,nel,hi,nx⟩
 case vA =>
  rintro D0 σ H ⟨a,zs,g,hl,sl,el,us,cs,t,n,i,y11,y13,y14,y15,rfl,nb,j,md,hel,nel,hi,nx⟩
  have lw:=md.lw
  have l12:=j.lg.ld.lx
  have lt:=md.lt
  have hy:(g.ys.map V.int).length=g.ys.length:=List.length_map _
  refine ⟨_,rfl,_,_,rfl,rfl,_,rfl,bz (λc=>?_) (λc=>⟨a,zs,g,hl,sl,el,us,cs,t,n,i,_,_,_,_,rfl,(λ_ z=>c (decide_eq_true z)),j,md,hel,nel,hi,nx⟩)⟩
  have c3:n%6<3:=of_decide_eq_true c
  have cm:decide (n%6<3)=true:=decide_eq_true c3
  refine ⟨_,rfl,_,_,rfl,rfl,⟨by decide,by decide⟩,_,rfl,λr nr=>?_⟩
  obtain ⟨x,ex⟩:∃x,g.xs[g.ys.length]?=some x:=⟨_,List.getElem?_eq_getElem lt⟩
  obtain ⟨u,eu,tt,am,rfl,ht,arx,amx⟩:=j.st.get1 ex
  refine ⟨_,rfl,g.A.l,g.A.dx,_,rfl,j.lg.ld.ins,bo (by decide +kernel),_,rfl,_,rfl,_,rfl,hl,_,rfl,.inl (SqL.of j.hh),sl,_,_,_,rfl,rfl,SqL.of j.hz,bn (by rw [hy];exact eu),tt,_,_,_,rfl,rfl,SqT.of ht,St.at1,_,rfl,hl,_,rfl,.inl (SqL.of j.hh),_,rfl,(by show 2<=sizeLine;decide),λmm hmm=>?_⟩
  rw [hy] at *
  have s1:=ai (o:=.tup [.int (g.ys.length:Nat),.int r]) hmm
  have j1:=j.keep s1
  refine ⟨g,_,_,mm,rfl,j1.lg,md.en,.inl ⟨rfl,_,r,ae,.inl ⟨rfl,md.stb.resolve_right (by omega),λH2 lg2 k2=>?_⟩⟩⟩
  refine yB j1 (KpX.of k2) (k2 _ _ j1.nh j1.hh) md.ec md.en (by omega) (by rw [List.length_append];exact lt) md.et md.t0 md.t3 lw λf g' H3 j3 eA eh eS eg hd k3=>?_
  refine ⟨_,rfl,.inl ⟨rfl,_,SqL.of j3.hh⟩,_,rfl,hl,_,_,rfl,rfl,j3.hh,cz (by rw [List.length_map];omega),?_⟩
  have kk:Kp hl H3 (upd H3 hl (.lst (g.ys.map V.int++[.int r]))):=bp
  have lg4:=LSh.kpb j3.lg kk j3.hh j3.nh
  have hh4:(upd H3 hl (.lst (g.ys.map V.int++[.int r]))) hl=some (.lst ((g.ys++[r]).map V.int)):=by rw [ae,List.map_append];rfl
  have j4:=j3.to (KpX.kp kk) (ys:=g'.ys) (tn:=g'.tn) (nm:=g'.nm) (ws:=g'.ws) lg4 hh4
  have hd4:=hd.keep (j3.ts (KpX.kp kk))
  exact nx _ _ ⟨_,_,_,_,_,_,g',_,t,g.ws.length,f,decide (n%6<3),oC eA eh,j4,by rw [cm];exact hd4,kk _ _ (λz=>nel (by rw [z];exact .head _)) (k3 _ _ nel (s1 _ _ hel)),by rw [eA,eh,eS,eg];exact nel⟩
 case vB =>
  rintro D0 σ H ⟨a,zs,g,hl,sl,el,us,cs,t,n,i,y11,y13,y14,y15,rfl,nb,j,md,hel,nel,hi,nx⟩
  have lw:=md.lw
  have lt:=md.lt
  have kp:u4 CL CS CH CW K true D0 (s41 a g sl hl t g.ws.length .non (decide (n%6<3)) (some (.int n)) y11 (some (.int (n%6))) y13 y14 y15) H:=⟨a,zs,g,hl,sl,el,us,cs,t,n,i,_,_,_,_,rfl,nb,j,md,hel,nel,hi,nx⟩
  refine ⟨_,rfl,rfl,_,rfl,bz (λ_=>⟨_,rfl,_,_,rfl,rfl,_,rfl,bz (λc3=>?_) (λ_=>kp)⟩) (λ_=>aI kp)⟩
  have t3':t<3:=of_decide_eq_true c3
  have et:=md.et
  have t0:=md.t0
  refine ⟨_,rfl,_,_,rfl,rfl,_,rfl,g.A.l,g.A.dx,_,rfl,j.lg.ld.ins,bo (by decide +kernel),_,rfl,g,rfl,j.lg,md.en,by omega,λH1 lg1 k1=>?_⟩
  have j1:=j.to (KpX.of k1) (ys:=g.ys) (tn:=g.tn+1) (nm:=g.nm) (ws:=g.ws) lg1 (k1 _ _ j.nh j.hh)
  refine yB (g:={g with tn:=g.tn+1}) j1 (KpX.same (Same.refl _)) j1.hh md.ec md.en (by show g.ws.length<=800;omega) (Nat.le_of_lt lt) (t:=t+1) (by show g.tn+1=t+1;rw [et]) (by omega) (by omega) lw λf g' H3 j3 eA eh eS eg hd k3=>?_
  exact nx _ _ ⟨_,_,_,_,_,_,g',_,t+1,g.ws.length,f,true,oC eA eh,j3,hd,k3 _ _ nel (k1 _ _ (λz=>nel (.tail _ z)) hel),by rw [eA,eh,eS,eg];exact nel⟩
 case vC =>
  rintro D0 σ H ⟨a,zs,g,hl,sl,el,us,cs,t,n,i,y11,y13,y14,y15,rfl,nb,j,md,hel,nel,hi,nx⟩
  have lw:=md.lw
  have lt:=md.lt
  have hy:(g.ys.map V.int).length=g.ys.length:=List.length_map _
  have cm:decide (n%6<3)=false:=decide_eq_false (nb rfl)
  have kp:∀{H':Hp},Same H H'->u4 CL CS CH CW K true D0 (s41 a g sl hl t g.ws.length .non (decide (n%6<3)) (some (.int n)) y11 (some (.int (n%6))) y13 y14 y15) H':=λs=>⟨a,zs,g,hl,sl,el,us,cs,t,n,i,_,_,_,_,rfl,nb,j.keep s,md,s _ _ hel,nel,hi,nx⟩
  refine ⟨_,rfl,rfl,_,rfl,bz (λ_=>?_) (λ_=>aI (kp (Same.refl _)))⟩
  refine ⟨_,rfl,(by show 0<=sizeLine;decide),λe5 he5=>?_⟩
  have s1:=ai (o:=.lst []) he5
  refine ⟨hl,e5,_,rfl,rfl,SqL.of (s1 _ _ j.hh),SqL.of ae,_,rfl,?_⟩
  rcases List.eq_nil_or_concat g.ys with e | ⟨zs',z,e⟩
  ·rw [e]
   exact aI (kp s1)
  ·have ne:g.ys.map V.int≠[]:=λy=>by
    have y':=List.map_eq_nil_iff.mp y
    rw [e,List.concat_eq_append] at y'
    exact absurd y' (by simp)
   rw [decide_eq_false ne]
   have j1:=j.keep s1
   have hel1:=s1 _ _ hel
   generalize (upd H e5 (HO.lst []))=H1 at s1 j1 hel1 ⊢
   have lastE:atI (g.ys.map V.int) (-1)=some (.int z):=by
    rw [e,List.concat_eq_append,List.map_append]
    exact jK _ _
   refine bU ⟨_,rfl,g.A.l,g.A.dx,_,rfl,j1.lg.ld.ins,bo (by decide +kernel),_,rfl,_,rfl,_,_,rfl,rfl,⟨by decide,by decide⟩,_,_,rfl,rfl,(by show (0:Int)<5;decide),_,rfl,hl,_,rfl,.inl (SqL.of j1.hh),_,_,rfl,rfl,_,rfl,_,rfl,hl,_,_,_,rfl,rfl,SqL.of j1.hh,lastE,(by show 2<=sizeLine;decide),λmm hmm=>?_⟩
   rw [hy] at *
   have s2:=ai (o:=.tup [.int ((g.ys.length:Nat)-1),.int z]) hmm
   refine ⟨g,_,_,mm,rfl,(j1.keep s2).lg,md.en,.inl ⟨rfl,_,z,ae,.inr ⟨λy=>?_,?_⟩⟩⟩
   ·have y1:((g.ys.length:Nat):Int)-1=(g.ys.length:Nat):=y.1
    omega
   ·exact nx _ _ ⟨_,_,_,_,_,_,g,g.ys,t,g.ws.length,.non,_,rfl,j1.keep s2,⟨by rw [d7 md.stb],Nat.le_of_lt lt,.inr (.inr ⟨by rw [d7 md.stb],rfl,Nat.le_refl _,.inl ⟨List.drop_of_length_le (Nat.le_refl _),cm⟩,⟨md.stb,lt,md.ec,md.en,md.et,md.t0,md.t3,by omega⟩⟩)⟩,s2 _ _ hel1,nel⟩
 case vD =>
  rintro D0 σ H ⟨a,zs,g,hl,sl,el,us,cs,t,n,i,y11,y13,y14,y15,rfl,nb,j,md,hel,nel,hi,nx⟩
  have lw:=md.lw
  have lt:=md.lt
  have hy:(g.ys.map V.int).length=g.ys.length:=List.length_map _
  have cm:decide (n%6<3)=false:=decide_eq_false (nb rfl)
  refine ⟨_,rfl,_,_,rfl,rfl,⟨by decide,by decide⟩,_,rfl,hl,_,rfl,.inl (SqL.of j.hh),?_⟩
  rw [hy]
  refine ⟨_,_,rfl,λtt wd o H1 s1 htt hw=>⟨tt,_,rfl,SqT.of htt,rfl,_,_,rfl,_,_,rfl,rfl,?_⟩⟩
  have j1:=j.keep s1
  refine ⟨_,rfl,g.A.l,g.A.dx,_,rfl,j1.lg.ld.ins,bo (by decide +kernel),_,rfl,_,rfl,_,rfl,_,_,rfl,rfl,⟨by decide,by decide⟩,_,_,rfl,rfl,(by show (0:Int)<5;decide),_,rfl,_,rfl,_,_,rfl,rfl,⟨by decide,by decide⟩,_,rfl,λr nr=>⟨(by show 2<=sizeLine;decide),λmm hmm=>?_⟩⟩
  have s2:=ai (o:=.tup [.int o,.int r]) hmm
  have j2:=j1.keep s2
  have fin:D0.nx (s41 a g sl hl t g.ws.length .non (decide (n%6<3)) (some (.int n)) y11 (some (.int (n%6))) y13 (some (.str wd)) (some (.int o))) (upd H1 mm (.tup [.int o,.int r])):=nx _ _ ⟨_,_,_,_,_,_,g,g.ys,t,g.ws.length,.non,_,rfl,j2,⟨by rw [d7 md.stb],Nat.le_of_lt lt,.inr (.inr ⟨by rw [d7 md.stb],rfl,Nat.le_refl _,.inl ⟨List.drop_of_length_le (Nat.le_refl _),cm⟩,⟨md.stb,lt,md.ec,md.en,md.et,md.t0,md.t3,by omega⟩⟩)⟩,s2 _ _ (s1 _ _ hel),nel⟩
  rcases hw with rfl | ⟨rfl,ne⟩
  ·exact ⟨g,_,_,mm,rfl,j2.lg,md.en,.inr ⟨rfl,fin⟩⟩
  ·exact ⟨g,_,_,mm,rfl,j2.lg,md.en,.inl ⟨rfl,o,r,ae,.inr ⟨λy=>ne y.1,fin⟩⟩⟩
 have hz:(100000:Nat)<=sizeLine:=by decide
 refine ⟨_,rfl,a,ns,rfl,hS,λt0 na sl p xs us H1 s1 ht0 hna hsl pst n1 n12=>⟨t0,_,rfl,SqT.of ht0,rfl,_,_,rfl,_,_,rfl,rfl,?_⟩⟩
 have pl:xs.length=us.length:=pst.len
 have ar:ArS xs:=λx hx=>by
  obtain ⟨i,ei⟩:=List.mem_iff_getElem?.mp hx
  obtain ⟨u,_,_,_,_,_,h2,_⟩:=pst.get1 ei
  exact h2
 refine ⟨_,rfl,rfl,_,rfl,sl,rfl,⟨_,SqL.of hsl⟩,?_⟩
 refine iU (xs:=us) (λi ys H'=>H'=H1/\ys=((xs.take i).map sx).map V.str) ⟨rfl,rfl⟩ (by omega) (λi ys H' _ z=>by rw [z.1];exact SqL.of hsl) ?_ ?_
 ·rintro i u ys H' hu ⟨rfl,rfl⟩
  obtain ⟨x,ex,tt,am,rfl,h1,_⟩:=pst.get hu
  have et:xs.take (i+1)=xs.take i++[x]:=by rw [List.take_add_one,ex];rfl
  refine j6 ⟨_,rfl,tt,_,_,_,rfl,rfl,SqT.of h1,St.at2,rfl,?_⟩
  rw [et,List.map_append,List.map_append]
  rfl
 rintro ys H6' ⟨rfl,rfl⟩ jl hjl
 rw [← pl,List.take_length]
 have s6:=ai (o:=.lst ((xs.map sx).map V.str)) hjl
 have l2:(Str.ofString "; ").length=2:=by decide +kernel
 have l5:(Str.ofString "held ").length=5:=by decide +kernel
 have sm:=rP ar
 have js:=jx ar (by omega)
 refine ⟨_,jl,xs.map sx,rfl,rfl,SqL.of ae,by rw [l2,List.length_map];omega,?_⟩
 refine ⟨_,_,rfl,rfl,by rw [l5];omega,?_⟩
 refine ⟨false,xs,by rw [uo];rfl,ar,List.length_pos_iff.mp n1,n12,λpa pdx psl ptp pus H7 s7 _ pau=>?_⟩
 have s17:=s6.trans s7
 have s07:=s1.trans s17
 intro x dx nx ndx nex
 have s8':∀{o1 o2:HO},Same H7 (upd (upd H7 dx o1) x o2):=λ{o1 o2}=>lO nx ndx
 refine ⟨x,dx,na,_,p,false,xs,rfl,ae,s8' _ _ (s17 _ _ hna),⟨pa,pdx,psl,ptp,pus,rfl,pau.keep s8'⟩,ar,n12,λA ag hs' H8 eA eN ld hag his' nhd nag k8=>⟨rfl,?_⟩⟩
 have s8:Same H7 H8:=fz nx ndx k8
 subst eA eN
 have nhd7:=none_of s8' nhd
 have nag7:=none_of s8' nag
 refine ⟨(by show 1<=sizeLine;decide),λcl hcl=>?_⟩
 have s9:=ai (o:=.lst [.int 0]) hcl
 have hcl9:=ae (H:=H8) (a:=cl) (o:=.lst [.int 0])
 generalize (upd H8 cl (HO.lst [.int 0]))=H9 at s9 hcl9 ⊢
 intro x1 dx1 nx1 ndx1 nex1
 have s10':∀{o1 o2:HO},Same H9 (upd (upd H9 dx1 o1) x1 o2):=λ{o1 o2}=>lO nx1 ndx1
 refine ⟨x1,dx1,cl,[0],rfl,ae,s10' _ _ hcl9,(by show 1<=1000;decide),λS H10 eS st10 fr10 k10=>⟨rfl,?_⟩⟩
 subst eS
 have s10:Same H9 H10:=fz nx1 ndx1 k10
 intro x2 dx2 nx2 ndx2 nex2
 have s11':∀{o1 o2:HO},Same H10 (upd (upd H10 dx2 o1) x2 o2):=λ{o1 o2}=>lO nx2 ndx2
 refine ⟨x2,dx2,S,Sd.new [0],rfl,ae,st10.keep s11',ah st10.ins nx2,λh H11 eh sh11 nrw nsn k11=>⟨rfl,?_⟩⟩
 subst eh
 have s11:Same H10 H11:=fz nx2 ndx2 k11
 have s811:=s9.trans (s10.trans s11)
 have s711:=s8.trans s811
 have fr8:∀b∈S.l::h.own S,H8 b=none:=λb hb=>by
  rcases List.mem_cons.mp hb with z | hb
  ·rw [z];exact none_of s9 nx1
  rcases List.mem_cons.mp hb with z | hb
  ·rw [z];exact none_of (s9.trans s10) nx2
  rcases List.mem_cons.mp hb with z | hb
  ·rw [z];exact none_of (s9.trans (s10.trans s11')) nrw
  rcases List.mem_cons.mp hb with z | hb
  ·rw [z];exact none_of (s9.trans (s10.trans s11')) nsn
  ·exact none_of (s9.trans s10') (fr10 b hb)
 have out:∀{b:Addr} {o:HO},H8 b=some o->b∉S.l::h.own S:=λe hb=>by
  rw [fr8 _ hb] at e
  cases e
 have fr7:∀b∈fO A ag S h,H7 b=none:=λb hb=>by
  rcases List.mem_cons.mp hb with z | hb
  ·rw [z];exact nx
  rcases List.mem_cons.mp hb with z | hb
  ·rw [z];exact nhd7
  rcases List.mem_cons.mp hb with z | hb
  ·rw [z];exact nag7
  ·exact none_of s8 (fr8 b (.tail _ hb))
 have hs12:hs'.length<=12:=Nat.le_trans (List.Nodup.length_le_of_subset his'.1 λn hn=>(his'.2.2 n).mp hn) (Nat.le_trans (List.length_filterMap_le _ _) n12)
 have lg:Lg CL CS CH CW K H11 ⟨A,ag,S,h,p,xs,hs',[],0,.non,false,[],Sd.new [0],[],[],.non⟩:=⟨ld.keep s811,s811 _ _ hag,sh11,out ld.ins,out ld.han,out hag,hs12⟩
 refine ⟨(by show 0<=sizeLine;decide),λhl hhl=>?_⟩
 have s12:=ai (o:=.lst []) hhl
 have hl12:(upd H11 hl (.lst [])) hl=some (.lst []):=ae
 have lg12:=lg.keep s12
 have nhl:hl∉fO A ag S h:=ko lg hhl
 have hl7:H7 hl=none:=none_of s711 hhl
 generalize (upd H11 hl (HO.lst []))=H12 at s12 hl12 lg12 ⊢
 have s712:=s711.trans s12
 have nsl7:sl∉hl::fO A ag S h:=λz=>(List.mem_cons.mp z).elim (λy=>ah (s17 _ _ hsl) hl7 y) λy=>by
  have e:=s17 _ _ hsl
  rw [fr7 _ y] at e
  cases e
 have j:JB CL CS CH CW K H12 a ns ⟨A,ag,S,h,p,xs,hs',[],0,.non,false,[],Sd.new [0],[],[],.non⟩ hl sl us []:=⟨lg12,(Scr.mk hS λb hb=>none_of s07 ((List.mem_cons.mp hb).elim (λy=>by rw [y];exact hl7) (fr7 b))).same (s07.trans s712),s712 _ _ (s17 _ _ hsl),nsl7,Paired.mapP pst λ_ _ z=>z.keep (s17.trans s712).ts,hl12,nhl,rfl,rfl,rfl,his'⟩
 refine ⟨_,rfl,A.l,A.dx,_,rfl,lg12.ld.ins,bo (by decide +kernel),_,rfl,_,rfl,lg12,?_⟩
 refine yB (ls:=[]) j (KpX.same (Same.refl _)) j.hh rfl rfl (Nat.zero_le _) (Nat.zero_le _) (t:=0) (i:=1) rfl (Int.le_refl 0) (by decide) (Nat.zero_le _) λf g' H3 j3 eA eh eS eg hd k3=>?_
 exact ⟨a,ns,g',hl,sl,us,[],f,oC eA eh,j3,hd,hl0,q⟩
end
end K41
namespace K41
open PySem L2 Lo St
def wmk(a b c d e f g:Addr):Wd->Addr
 | .take=>a
 | .mean=>b
 | .sum=>c
 | .give=>d
 | .add=>e
 | .plus=>f
 | .need=>g
abbrev bmV:List Value:=[.type "ValueError",.type "Exception",.type "BaseException",.type "object"]
def FnX(K:PySem.W.Frag)(f:Addr)(x q:Str)(st:Stmt):Prop:=∃fd,Fun K x q st f fd
theorem fnx{K:PySem.W.Frag}{f:Addr}{x q:Str}{st:Stmt}{oc kV dc pm cd ct:Value}{od an:Option Addr}{sl:Array (Option Value)}(l:K.lookup f=some ⟨oc,od,.func (PySem.W.fnOf x q (defArgs st) (defBody st) (defScope st) .none kV dc pm an cd ct),sl⟩)(c:PySem.W.codeIn K cd q=true)(k:PySem.W.keepIn K (.ref f)=true):FnX K f x q st:=⟨_,yC l c k⟩
section
variable {K:PySem.W.Frag}{f:Addr}{x q:Str}{st:Stmt}{fd:FuncData}
abbrev BdF(x q:Str)(st:Stmt)(us:List Value)(ps:List Str):Prop:=∀(kV doc pm:Value) (an:Option Addr) (cdv ct:Value),bindArgs (PySem.W.fnOf x q (defArgs st) (defBody st) (defScope st) .none kV doc pm an cdv ct) ⟨us,[]⟩=pure (ps.zip us)
theorem _root_.L2.Fun.b1(F:Fun K x q st f fd)(p:Str)(h:∀u,BdF x q st [u] [p]):Binds K fd [p] []:=F.binds λa b c d e g us hl=>match us,hl with | [u],_=>h u a b c d e g
theorem _root_.L2.Fun.b2(F:Fun K x q st f fd)(p r:Str)(h:∀u v,BdF x q st [u,v] [p,r]):Binds K fd [p,r] []:=F.binds λa b c d e g us hl=>match us,hl with | [u,v],_=>h u v a b c d e g
theorem _root_.L2.Fun.b3(F:Fun K x q st f fd)(p r s:Str)(h:∀u v w,BdF x q st [u,v,w] [p,r,s]):Binds K fd [p,r,s] []:=F.binds λa b c d e g us hl=>match us,hl with | [u,v,w],_=>h u v w a b c d e g
theorem _root_.L2.Fun.b4(F:Fun K x q st f fd)(p r s t:Str)(h:∀u v w y,BdF x q st [u,v,w,y] [p,r,s,t]):Binds K fd [p,r,s,t] []:=F.binds λa b c d e g us hl=>match us,hl with | [u,v,w,y],_=>h u v w y a b c d e g
theorem _root_.L2.Fun.b5(F:Fun K x q st f fd)(p r s t m:Str)(h:∀u v w y z,BdF x q st [u,v,w,y,z] [p,r,s,t,m]):Binds K fd [p,r,s,t,m] []:=F.binds λa b c d e g us hl=>match us,hl with | [u,v,w,y,z],_=>h u v w y z a b c d e g
end
open PySem.W (readsIn findCls fnOf codeIn handedIn findIn nsIn keepIn isFn plainGet hasDictIn plainOver makesIn mroIn kitOne specialIn takesIn excIn mg_of mg_none_of)
theorem all_mk {l : PySem.W.OpenLaw} {w : World} {K : PySem.W.Frag} {h : Heap} {mg : Str → Option Value} {fa CRd fri frp fra frb frn frx WA fxiY fxhY fxpA fxdA WB fxpB fxdB WD fxiD fxhD fxpD fxdD WE fxpE fxdE WF fxiF fxpF fxdF WG fxiG fxhZ fxpG fxdG WN fxiN fxpN fxdN CY CP fpi CS fsdI fsdN CH fshI fshS fshW fshL CL fleT fleG fleN fleO fleX fleP fleS fleA fheI fheG fheC fheL fheD CA fleI fW1 fH1 fR1 fG1 fP1 fS1 fN1 fM1 fU1 fA3 fB3 fC3 fA2 fV1 fM2 fS2 fL2 fP2 fE2 fD2 fO2 fT2 fH2 fN2 fZ aSh aMn CNo CN : Addr} (X : K.In h) (G : h.Ns mainGlobals mg) (hfa : mg "law" = some (.ref fa))
     {t_MOST_FIGURES_things t_MOST_SIGNS t_MOST_DEEP t_LONGEST t_BLANK t_PERCENT t_TILDE t_MOST_FIGURES_steps t_MOST_STEPS t_PATIENCE:Tok} {esR:Array DictEntry} {epR:Nat} {dMn:Option Addr} {mn1 mn2:Tok} {nMn:Nat} {sMn:Array (Option Value)}
  (nrd:nsIn K mainGlobals "Reader"=some (some (.ref CRd)))
  (pgrd:plainGet K CRd Str.empty=true)
  (hdrd:hasDictIn K CRd=true)
  (pord:plainOver K CRd=true)
  (sard:findIn K (.ref CRd) "__setattr__"=some (some (.builtin "object.__setattr__")))
  (mkrd:makesIn K CRd=true)
  (kcrd:keepIn K (.ref CRd)=true)
  (nTx:findIn K (.ref CRd) "text"=some none)
  (nPl:findIn K (.ref CRd) "place"=some none)
  (ari:findIn K (.ref CRd) "__init__"=some (some (.ref fri)))
  (jri:isFn K (.ref fri)=true)
  (lri:FnX K fri "__init__" "Reader.__init__" gm)
  (arp:findIn K (.ref CRd) "passes"=some (some (.ref frp)))
  (jrp:isFn K (.ref frp)=true)
  (lrp:FnX K frp "passes" "Reader.passes" eV)
  (ara:findIn K (.ref CRd) "read_any"=some (some (.ref fra)))
  (jra:isFn K (.ref fra)=true)
  (lra:FnX K fra "read_any" "Reader.read_any" dJ)
  (arb:findIn K (.ref CRd) "read_below"=some (some (.ref frb)))
  (jrb:isFn K (.ref frb)=true)
  (lrb:FnX K frb "read_below" "Reader.read_below" c8)
  (arn:findIn K (.ref CRd) "read_number"=some (some (.ref frn)))
  (jrn:isFn K (.ref frn)=true)
  (lrn:FnX K frn "read_number" "Reader.read_number" cQ)
  (arx:findIn K (.ref CRd) "read_signs"=some (some (.ref frx)))
  (jrx:isFn K (.ref frx)=true)
  (lrx:FnX K frx "read_signs" "Reader.read_signs" cZ)
  (nwA:nsIn K mainGlobals "TakeStep"=some (some (.ref WA)))
  (pgwA:plainGet K WA Str.empty=true)
  (hdwA:hasDictIn K WA=true)
  (powA:plainOver K WA=true)
  (sawA:findIn K (.ref WA) "__setattr__"=some (some (.builtin "object.__setattr__")))
  (mkwA:makesIn K WA=true)
  (kcwA:keepIn K (.ref WA)=true)
  (nWwA:findIn K (.ref WA) "where"=some none)
  (nCwA:findIn K (.ref WA) "cell"=some none)
  (nLwA:findIn K (.ref WA) "low"=some none)
  (nHwA:findIn K (.ref WA) "high"=some none)
  (nAwA:findIn K (.ref WA) "amount"=some none)
  (uxiYA:findIn K (.ref WA) "__init__"=some (some (.ref fxiY)))
  (jxiY:isFn K (.ref fxiY)=true)
  (lxiY:FnX K fxiY "__init__" "CellStep.__init__" cY)
  (uxhYA:findIn K (.ref WA) "house"=some (some (.ref fxhY)))
  (jxhY:isFn K (.ref fxhY)=true)
  (lxhY:FnX K fxhY "house" "CellStep.house" cD)
  (uxpAA:findIn K (.ref WA) "spelled"=some (some (.ref fxpA)))
  (jxpA:isFn K (.ref fxpA)=true)
  (lxpA:FnX K fxpA "spelled" "TakeStep.spelled" cb)
  (uxdAA:findIn K (.ref WA) "step_done"=some (some (.ref fxdA)))
  (jxdA:isFn K (.ref fxdA)=true)
  (lxdA:FnX K fxdA "step_done" "TakeStep.step_done" fD)
  (nwB:nsIn K mainGlobals "MeanStep"=some (some (.ref WB)))
  (pgwB:plainGet K WB Str.empty=true)
  (hdwB:hasDictIn K WB=true)
  (powB:plainOver K WB=true)
  (sawB:findIn K (.ref WB) "__setattr__"=some (some (.builtin "object.__setattr__")))
  (mkwB:makesIn K WB=true)
  (kcwB:keepIn K (.ref WB)=true)
  (nWwB:findIn K (.ref WB) "where"=some none)
  (nCwB:findIn K (.ref WB) "cell"=some none)
  (nLwB:findIn K (.ref WB) "low"=some none)
  (nHwB:findIn K (.ref WB) "high"=some none)
  (nAwB:findIn K (.ref WB) "amount"=some none)
  (uxiYB:findIn K (.ref WB) "__init__"=some (some (.ref fxiY)))
  (uxhYB:findIn K (.ref WB) "house"=some (some (.ref fxhY)))
  (uxpBB:findIn K (.ref WB) "spelled"=some (some (.ref fxpB)))
  (jxpB:isFn K (.ref fxpB)=true)
  (lxpB:FnX K fxpB "spelled" "MeanStep.spelled" ci)
  (uxdBB:findIn K (.ref WB) "step_done"=some (some (.ref fxdB)))
  (jxdB:isFn K (.ref fxdB)=true)
  (lxdB:FnX K fxdB "step_done" "MeanStep.step_done" fF)
  (nwD:nsIn K mainGlobals "SumStep"=some (some (.ref WD)))
  (pgwD:plainGet K WD Str.empty=true)
  (hdwD:hasDictIn K WD=true)
  (powD:plainOver K WD=true)
  (sawD:findIn K (.ref WD) "__setattr__"=some (some (.builtin "object.__setattr__")))
  (mkwD:makesIn K WD=true)
  (kcwD:keepIn K (.ref WD)=true)
  (nWwD:findIn K (.ref WD) "where"=some none)
  (nCwD:findIn K (.ref WD) "cell"=some none)
  (nLwD:findIn K (.ref WD) "low"=some none)
  (nHwD:findIn K (.ref WD) "high"=some none)
  (nAwD:findIn K (.ref WD) "amount"=some none)
  (uxiDD:findIn K (.ref WD) "__init__"=some (some (.ref fxiD)))
  (jxiD:isFn K (.ref fxiD)=true)
  (lxiD:FnX K fxiD "__init__" "SumStep.__init__" dt)
  (uxhDD:findIn K (.ref WD) "house"=some (some (.ref fxhD)))
  (jxhD:isFn K (.ref fxhD)=true)
  (lxhD:FnX K fxhD "house" "SumStep.house" cT)
  (uxpDD:findIn K (.ref WD) "spelled"=some (some (.ref fxpD)))
  (jxpD:isFn K (.ref fxpD)=true)
  (lxpD:FnX K fxpD "spelled" "SumStep.spelled" cr)
  (uxdDD:findIn K (.ref WD) "step_done"=some (some (.ref fxdD)))
  (jxdD:isFn K (.ref fxdD)=true)
  (lxdD:FnX K fxdD "step_done" "SumStep.step_done" gg)
  (nwE:nsIn K mainGlobals "GiveStep"=some (some (.ref WE)))
  (pgwE:plainGet K WE Str.empty=true)
  (hdwE:hasDictIn K WE=true)
  (powE:plainOver K WE=true)
  (sawE:findIn K (.ref WE) "__setattr__"=some (some (.builtin "object.__setattr__")))
  (mkwE:makesIn K WE=true)
  (kcwE:keepIn K (.ref WE)=true)
  (nWwE:findIn K (.ref WE) "where"=some none)
  (nCwE:findIn K (.ref WE) "cell"=some none)
  (nLwE:findIn K (.ref WE) "low"=some none)
  (nHwE:findIn K (.ref WE) "high"=some none)
  (nAwE:findIn K (.ref WE) "amount"=some none)
  (uxiYE:findIn K (.ref WE) "__init__"=some (some (.ref fxiY)))
  (uxhYE:findIn K (.ref WE) "house"=some (some (.ref fxhY)))
  (uxpEE:findIn K (.ref WE) "spelled"=some (some (.ref fxpE)))
  (jxpE:isFn K (.ref fxpE)=true)
  (lxpE:FnX K fxpE "spelled" "GiveStep.spelled" cj)
  (uxdEE:findIn K (.ref WE) "step_done"=some (some (.ref fxdE)))
  (jxdE:isFn K (.ref fxdE)=true)
  (lxdE:FnX K fxdE "step_done" "GiveStep.step_done" fK)
  (nwF:nsIn K mainGlobals "AddStep"=some (some (.ref WF)))
  (pgwF:plainGet K WF Str.empty=true)
  (hdwF:hasDictIn K WF=true)
  (powF:plainOver K WF=true)
  (sawF:findIn K (.ref WF) "__setattr__"=some (some (.builtin "object.__setattr__")))
  (mkwF:makesIn K WF=true)
  (kcwF:keepIn K (.ref WF)=true)
  (nWwF:findIn K (.ref WF) "where"=some none)
  (nCwF:findIn K (.ref WF) "cell"=some none)
  (nLwF:findIn K (.ref WF) "low"=some none)
  (nHwF:findIn K (.ref WF) "high"=some none)
  (nAwF:findIn K (.ref WF) "amount"=some none)
  (uxiFF:findIn K (.ref WF) "__init__"=some (some (.ref fxiF)))
  (jxiF:isFn K (.ref fxiF)=true)
  (lxiF:FnX K fxiF "__init__" "AddStep.__init__" dv)
  (uxhYF:findIn K (.ref WF) "house"=some (some (.ref fxhY)))
  (uxpFF:findIn K (.ref WF) "spelled"=some (some (.ref fxpF)))
  (jxpF:isFn K (.ref fxpF)=true)
  (lxpF:FnX K fxpF "spelled" "AddStep.spelled" cw)
  (uxdFF:findIn K (.ref WF) "step_done"=some (some (.ref fxdF)))
  (jxdF:isFn K (.ref fxdF)=true)
  (lxdF:FnX K fxdF "step_done" "AddStep.step_done" gh)
  (nwG:nsIn K mainGlobals "PlusStep"=some (some (.ref WG)))
  (pgwG:plainGet K WG Str.empty=true)
  (hdwG:hasDictIn K WG=true)
  (powG:plainOver K WG=true)
  (sawG:findIn K (.ref WG) "__setattr__"=some (some (.builtin "object.__setattr__")))
  (mkwG:makesIn K WG=true)
  (kcwG:keepIn K (.ref WG)=true)
  (nWwG:findIn K (.ref WG) "where"=some none)
  (nCwG:findIn K (.ref WG) "cell"=some none)
  (nLwG:findIn K (.ref WG) "low"=some none)
  (nHwG:findIn K (.ref WG) "high"=some none)
  (nAwG:findIn K (.ref WG) "amount"=some none)
  (uxiGG:findIn K (.ref WG) "__init__"=some (some (.ref fxiG)))
  (jxiG:isFn K (.ref fxiG)=true)
  (lxiG:FnX K fxiG "__init__" "PlusStep.__init__" cU)
  (uxhZG:findIn K (.ref WG) "house"=some (some (.ref fxhZ)))
  (jxhZ:isFn K (.ref fxhZ)=true)
  (lxhZ:FnX K fxhZ "house" "Step.house" eM)
  (uxpGG:findIn K (.ref WG) "spelled"=some (some (.ref fxpG)))
  (jxpG:isFn K (.ref fxpG)=true)
  (lxpG:FnX K fxpG "spelled" "PlusStep.spelled" ce)
  (uxdGG:findIn K (.ref WG) "step_done"=some (some (.ref fxdG)))
  (jxdG:isFn K (.ref fxdG)=true)
  (lxdG:FnX K fxdG "step_done" "PlusStep.step_done" bK)
  (nwN:nsIn K mainGlobals "NeedStep"=some (some (.ref WN)))
  (pgwN:plainGet K WN Str.empty=true)
  (hdwN:hasDictIn K WN=true)
  (powN:plainOver K WN=true)
  (sawN:findIn K (.ref WN) "__setattr__"=some (some (.builtin "object.__setattr__")))
  (mkwN:makesIn K WN=true)
  (kcwN:keepIn K (.ref WN)=true)
  (nWwN:findIn K (.ref WN) "where"=some none)
  (nCwN:findIn K (.ref WN) "cell"=some none)
  (nLwN:findIn K (.ref WN) "low"=some none)
  (nHwN:findIn K (.ref WN) "high"=some none)
  (nAwN:findIn K (.ref WN) "amount"=some none)
  (uxiNN:findIn K (.ref WN) "__init__"=some (some (.ref fxiN)))
  (jxiN:isFn K (.ref fxiN)=true)
  (lxiN:FnX K fxiN "__init__" "NeedStep.__init__" cV)
  (uxhZN:findIn K (.ref WN) "house"=some (some (.ref fxhZ)))
  (uxpNN:findIn K (.ref WN) "spelled"=some (some (.ref fxpN)))
  (jxpN:isFn K (.ref fxpN)=true)
  (lxpN:FnX K fxpN "spelled" "NeedStep.spelled" cg)
  (uxdNN:findIn K (.ref WN) "step_done"=some (some (.ref fxdN)))
  (jxdN:isFn K (.ref fxdN)=true)
  (lxdN:FnX K fxdN "step_done" "NeedStep.step_done" bL)
  (nCY:nsIn K mainGlobals "CellStep"=some (some (.ref CY)))
  (gaY:specialIn K (.ref CY) "__getattribute__"=some (some (.builtin "type.__getattribute__")))
  (rdY:readsIn K CY (.type "type")=true)
  (fcY:findCls K (.ref CY) (.type "type") "__init__"=some (.val (.ref fxiY)))
  (hiY:handedIn (.ref fxiY)=true)
  (nP:nsIn K mainGlobals "Pact"=some (some (.ref CP)))
  (pgP:plainGet K CP Str.empty=true)
  (hdP:hasDictIn K CP=true)
  (poP:plainOver K CP=true)
  (saP:findIn K (.ref CP) "__setattr__"=some (some (.builtin "object.__setattr__")))
  (mkP:makesIn K CP=true)
  (kcP:keepIn K (.ref CP)=true)
  (nPm:findIn K (.ref CP) "manner"=some none)
  (nPs:findIn K (.ref CP) "steps"=some none)
  (nPp:findIn K (.ref CP) "parts"=some none)
  (api:findIn K (.ref CP) "__init__"=some (some (.ref fpi)))
  (jpi:isFn K (.ref fpi)=true)
  (lpi:FnX K fpi "__init__" "Pact.__init__" fE)
  (nS:nsIn K mainGlobals "Stand"=some (some (.ref CS)))
  (pgS:plainGet K CS Str.empty=true)
  (hdS:hasDictIn K CS=true)
  (poS:plainOver K CS=true)
  (saS:findIn K (.ref CS) "__setattr__"=some (some (.builtin "object.__setattr__")))
  (mkS:makesIn K CS=true)
  (kcS:keepIn K (.ref CS)=true)
  (qsc:findIn K (.ref CS) "cells"=some none)
  (qsb:findIn K (.ref CS) "begins"=some none)
  (qsw:findIn K (.ref CS) "worked"=some none)
  (qsr:findIn K (.ref CS) "readies"=some none)
  (qse:findIn K (.ref CS) "ends"=some none)
  (qsa:findIn K (.ref CS) "walks"=some none)
  (qso:findIn K (.ref CS) "overs"=some none)
  (asdI:findIn K (.ref CS) "__init__"=some (some (.ref fsdI)))
  (jsdI:isFn K (.ref fsdI)=true)
  (lsdI:FnX K fsdI "__init__" "Stand.__init__" eP)
  (asdN:findIn K (.ref CS) "news"=some (some (.ref fsdN)))
  (jsdN:isFn K (.ref fsdN)=true)
  (lsdN:FnX K fsdN "news" "Stand.news" eO)
  (nH:nsIn K mainGlobals "Sheet"=some (some (.ref CH)))
  (pgH:plainGet K CH Str.empty=true)
  (hdH:hasDictIn K CH=true)
  (poH:plainOver K CH=true)
  (saH:findIn K (.ref CH) "__setattr__"=some (some (.builtin "object.__setattr__")))
  (mkH:makesIn K CH=true)
  (kcH:keepIn K (.ref CH)=true)
  (qhs:findIn K (.ref CH) "stand"=some none)
  (qhr:findIn K (.ref CH) "rows"=some none)
  (qhe:findIn K (.ref CH) "sent"=some none)
  (qhl:findIn K (.ref CH) "latest"=some none)
  (nKH:findIn K (.ref CH) "spelled"=some none)
  (ashI:findIn K (.ref CH) "__init__"=some (some (.ref fshI)))
  (jshI:isFn K (.ref fshI)=true)
  (lshI:FnX K fshI "__init__" "Sheet.__init__" eR)
  (ashS:findIn K (.ref CH) "send"=some (some (.ref fshS)))
  (jshS:isFn K (.ref fshS)=true)
  (lshS:FnX K fshS "send" "Sheet.send" eQ)
  (ashW:findIn K (.ref CH) "rows_told"=some (some (.ref fshW)))
  (jshW:isFn K (.ref fshW)=true)
  (lshW:FnX K fshW "rows_told" "Sheet.rows_told" cu)
  (ashL:findIn K (.ref CH) "letters_told"=some (some (.ref fshL)))
  (jshL:isFn K (.ref fshL)=true)
  (lshL:FnX K fshL "letters_told" "Sheet.letters_told" aQ)
  (nL:nsIn K mainGlobals "HeldLead"=some (some (.ref CL)))
  (pgL:plainGet K CL Str.empty=true)
  (hdL:hasDictIn K CL=true)
  (poL:plainOver K CL=true)
  (saL:findIn K (.ref CL) "__setattr__"=some (some (.builtin "object.__setattr__")))
  (mkL:makesIn K CL=true)
  (kcL:keepIn K (.ref CL)=true)
  (qan:findIn K (.ref CL) "name"=some none)
  (qas:findIn K (.ref CL) "steps"=some none)
  (qah:findIn K (.ref CL) "houses"=some none)
  (qad:findIn K (.ref CL) "hands"=some none)
  (qat:findIn K (.ref CL) "turns"=some none)
  (qam:findIn K (.ref CL) "named"=some none)
  (qac:findIn K (.ref CL) "closed"=some none)
  (qag:findIn K (.ref CL) "agreed"=some none)
  (nKL:findIn K (.ref CL) "spelled"=some none)
  (nSL:findIn K (.ref CL) "send"=some none)
  (aleT:findIn K (.ref CL) "turn"=some (some (.ref fleT)))
  (jleT:isFn K (.ref fleT)=true)
  (lleT:FnX K fleT "turn" "Lead.turn" fH)
  (aleG:findIn K (.ref CL) "go"=some (some (.ref fleG)))
  (jleG:isFn K (.ref fleG)=true)
  (lleG:FnX K fleG "go" "Lead.go" im)
  (aleN:findIn K (.ref CL) "naming"=some (some (.ref fleN)))
  (jleN:isFn K (.ref fleN)=true)
  (lleN:FnX K fleN "naming" "Lead.naming" dU)
  (aleO:findIn K (.ref CL) "own_steps_done"=some (some (.ref fleO)))
  (jleO:isFn K (.ref fleO)=true)
  (lleO:FnX K fleO "own_steps_done" "Lead.own_steps_done" bF)
  (aleX:findIn K (.ref CL) "next_house"=some (some (.ref fleX)))
  (jleX:isFn K (.ref fleX)=true)
  (lleX:FnX K fleX "next_house" "Lead.next_house" cv)
  (aleP:findIn K (.ref CL) "present_hand"=some (some (.ref fleP)))
  (jleP:isFn K (.ref fleP)=true)
  (lleP:FnX K fleP "present_hand" "Lead.present_hand" bR)
  (aleS:findIn K (.ref CL) "send_step"=some (some (.ref fleS)))
  (jleS:isFn K (.ref fleS)=true)
  (lleS:FnX K fleS "send_step" "Lead.send_step" cB)
  (aleA:findIn K (.ref CL) "is_answer"=some (some (.ref fleA)))
  (jleA:isFn K (.ref fleA)=true)
  (lleA:FnX K fleA "is_answer" "Lead.is_answer" cC)
  (aheI:findIn K (.ref CL) "__init__"=some (some (.ref fheI)))
  (jheI:isFn K (.ref fheI)=true)
  (lheI:FnX K fheI "__init__" "HeldLead.__init__" cW)
  (aheG:findIn K (.ref CL) "go_ahead"=some (some (.ref fheG)))
  (jheG:isFn K (.ref fheG)=true)
  (lheG:FnX K fheG "go_ahead" "HeldLead.go_ahead" bT)
  (aheC:findIn K (.ref CL) "came"=some (some (.ref fheC)))
  (jheC:isFn K (.ref fheC)=true)
  (lheC:FnX K fheC "came" "HeldLead.came" cX)
  (aheL:findIn K (.ref CL) "silent"=some (some (.ref fheL)))
  (jheL:isFn K (.ref fheL)=true)
  (lheL:FnX K fheL "silent" "HeldLead.silent" bh)
  (aheD:findIn K (.ref CL) "done_if_all_agree"=some (some (.ref fheD)))
  (jheD:isFn K (.ref fheD)=true)
  (lheD:FnX K fheD "done_if_all_agree" "HeldLead.done_if_all_agree" aR)
  (nCA:nsIn K mainGlobals "Lead"=some (some (.ref CA)))
  (gaA:specialIn K (.ref CA) "__getattribute__"=some (some (.builtin "type.__getattribute__")))
  (rdA:readsIn K CA (.type "type")=true)
  (fcA:findCls K (.ref CA) (.type "type") "__init__"=some (.val (.ref fleI)))
  (hiA:handedIn (.ref fleI)=true)
  (jleI:isFn K (.ref fleI)=true)
  (lleI:FnX K fleI "__init__" "Lead.__init__" fJ)
  (aW1:nsIn K mainGlobals "is_whole"=some (some (.ref fW1)))
  (lW1:FnX K fW1 "is_whole" "is_whole" jf)
  (aH1:nsIn K mainGlobals "shown"=some (some (.ref fH1)))
  (lH1:FnX K fH1 "shown" "shown" pK)
  (aR1:nsIn K mainGlobals "read_thing"=some (some (.ref fR1)))
  (lR1:FnX K fR1 "read_thing" "read_thing" gJ)
  (aG1:nsIn K mainGlobals "is_sign"=some (some (.ref fG1)))
  (lG1:FnX K fG1 "is_sign" "is_sign" j8)
  (aP1:nsIn K mainGlobals "spell"=some (some (.ref fP1)))
  (lP1:FnX K fP1 "spell" "spell" gI)
  (aS1:nsIn K mainGlobals "read_step"=some (some (.ref fS1)))
  (lS1:FnX K fS1 "read_step" "read_step" cK)
  (aN1:nsIn K mainGlobals "read_number"=some (some (.ref fN1)))
  (lN1:FnX K fN1 "read_number" "read_number" dL)
  (aM1:nsIn K mainGlobals "made_step"=some (some (.ref fM1)))
  (lM1:FnX K fM1 "made_step" "made_step" fj)
  (aU1:nsIn K mainGlobals "made_sum"=some (some (.ref fU1)))
  (lU1:FnX K fU1 "made_sum" "made_sum" gx)
  (aA3:nsIn K mainGlobals "read_part"=some (some (.ref fA3)))
  (lA3:FnX K fA3 "read_part" "read_part" fi)
  (aB3:nsIn K mainGlobals "read_pact"=some (some (.ref fB3)))
  (lB3:FnX K fB3 "read_pact" "read_pact" cL)
  (aC3:nsIn K mainGlobals "houses_of"=some (some (.ref fC3)))
  (lC3:FnX K fC3 "houses_of" "houses_of" cN)
  (aA2:nsIn K mainGlobals "_law_cell_at"=some (some (.ref fA2)))
  (lA2:FnX K fA2 "_law_cell_at" "_law_cell_at" dj)
  (aV1:nsIn K mainGlobals "no_value"=some (some (.ref fV1)))
  (lV1:FnX K fV1 "no_value" "no_value" oB)
  (aM2:nsIn K mainGlobals "_law_amount"=some (some (.ref fM2)))
  (lM2:FnX K fM2 "_law_amount" "_law_amount" dM)
  (aS2:nsIn K mainGlobals "_law_step"=some (some (.ref fS2)))
  (lS2:FnX K fS2 "_law_step" "_law_step" fm)
  (aL2:nsIn K mainGlobals "_law_last"=some (some (.ref fL2)))
  (lL2:FnX K fL2 "_law_last" "_law_last" fq)
  (aP2:nsIn K mainGlobals "_law_plain"=some (some (.ref fP2)))
  (lP2:FnX K fP2 "_law_plain" "_law_plain" eC)
  (aE2:nsIn K mainGlobals "_law_same"=some (some (.ref fE2)))
  (lE2:FnX K fE2 "_law_same" "_law_same" fo)
  (aD2:nsIn K mainGlobals "_law_due"=some (some (.ref fD2)))
  (lD2:FnX K fD2 "_law_due" "_law_due" gy)
  (aO2:nsIn K mainGlobals "_law_other"=some (some (.ref fO2)))
  (lO2:FnX K fO2 "_law_other" "_law_other" eE)
  (aT2:nsIn K mainGlobals "_law_strange"=some (some (.ref fT2)))
  (lT2:FnX K fT2 "_law_strange" "_law_strange" di)
  (aH2:nsIn K mainGlobals "_law_housed"=some (some (.ref fH2)))
  (lH2:FnX K fH2 "_law_housed" "_law_housed" bV)
  (aN2:nsIn K mainGlobals "_law_made"=some (some (.ref fN2)))
  (lN2:FnX K fN2 "_law_made" "_law_made" cO)
  (aZ:nsIn K mainGlobals "law"=some (some (.ref fZ)))
  (lZ:FnX K fZ "law" "law" my)
  (y_isinstance:nsIn K mainGlobals "isinstance"=some none)
  (y_int:nsIn K mainGlobals "int"=some none)
  (y_bool:nsIn K mainGlobals "bool"=some none)
  (y_str:nsIn K mainGlobals "str"=some none)
  (y_len:nsIn K mainGlobals "len"=some none)
  (y_range:nsIn K mainGlobals "range"=some none)
  (y_tuple:nsIn K mainGlobals "tuple"=some none)
  (y_list:nsIn K mainGlobals "list"=some none)
  (y_any:nsIn K mainGlobals "any"=some none)
  (y_all:nsIn K mainGlobals "all"=some none)
  (y_max:nsIn K mainGlobals "max"=some none)
  (y_sorted:nsIn K mainGlobals "sorted"=some none)
  (y_ord:nsIn K mainGlobals "ord"=some none)
  (y_set:nsIn K mainGlobals "set"=some none)
  (y_zip:nsIn K mainGlobals "zip"=some none)
  (q_MOST_FIGURES_things:nsIn K mainGlobals "MOST_FIGURES_things"=some (some (.int 400 t_MOST_FIGURES_things)))
  (q_MOST_SIGNS:nsIn K mainGlobals "MOST_SIGNS"=some (some (.int 2000 t_MOST_SIGNS)))
  (q_MOST_DEEP:nsIn K mainGlobals "MOST_DEEP"=some (some (.int 8 t_MOST_DEEP)))
  (q_LONGEST:nsIn K mainGlobals "LONGEST"=some (some (.int 100000 t_LONGEST)))
  (q_BLANK:nsIn K mainGlobals "BLANK"=some (some (.int 32 t_BLANK)))
  (q_PERCENT:nsIn K mainGlobals "PERCENT"=some (some (.int 37 t_PERCENT)))
  (q_TILDE:nsIn K mainGlobals "TILDE"=some (some (.int 126 t_TILDE)))
  (q_MOST_FIGURES_steps:nsIn K mainGlobals "MOST_FIGURES_steps"=some (some (.int 40 t_MOST_FIGURES_steps)))
  (q_MOST_STEPS:nsIn K mainGlobals "MOST_STEPS"=some (some (.int 12 t_MOST_STEPS)))
  (q_PATIENCE:nsIn K mainGlobals "PATIENCE"=some (some (.int 4 t_PATIENCE)))
  (nSh:nsIn K mainGlobals "SHAPES"=some (some (.ref aSh)))
  (lSh:K.lookup aSh=some ⟨.type "dict",none,.dict esR epR,#[]⟩)
  (qSh:(aSh==sysModules)=false)
  (tSh:PyProof.Rows.KTD.rowsLook wu esR.toList iT=true)
  (nMnn:nsIn K mainGlobals "MANNERS"=some (some (.ref aMn)))
  (lMn:K.lookup aMn=some ⟨.type "tuple",dMn,.seq #[.str "held" mn1,.str "walked" mn2] nMn,sMn⟩)
  (nNo:nsIn K mainGlobals "NoThing"=some (some (.ref CNo)))
  (xNo:excIn K CNo bmV "ValueError.__new__"=true)
  (nNe:nsIn K mainGlobals "NoNeed"=some (some (.ref CN)))
  (xNe:excIn K CN bmV "ValueError.__new__"=true)
  (subN:mroIn K CN (.ref CN)=some true) :
  ∃fd:FuncData,(∀(s:Shared) (v:Value),BindsTo s fd ⟨[v],[]⟩ [("_law_script",v)])/\∀base:Heap,K.In base->base.Ns mainGlobals mg->FnOk l.prog w K mg base CX0 9 fa fd ["_law_script"] (pF K):=by
 have e:=hfa.symm.trans (PySem.W.mg_of X G aZ)
 cases e
 obtain ⟨dri,Fri⟩:=lri
 have eri:=Fri.kp
 have bri:=Fri.b2 "self" "text" λ_ _ _ _ _ _ _ _=>rfl
 obtain ⟨drp,Frp⟩:=lrp
 have erp:=Frp.kp
 have brp:=Frp.b2 "self" "sign" λ_ _ _ _ _ _ _ _=>rfl
 obtain ⟨dra,Fra⟩:=lra
 have era:=Fra.kp
 have bra:=Fra.b2 "self" "deep" λ_ _ _ _ _ _ _ _=>rfl
 obtain ⟨drb,Frb⟩:=lrb
 have erb:=Frb.kp
 have brb:=Frb.b1 "self" λ_ _ _ _ _ _ _=>rfl
 obtain ⟨drn,Frn⟩:=lrn
 have ern:=Frn.kp
 have brn:=Frn.b1 "self" λ_ _ _ _ _ _ _=>rfl
 obtain ⟨drx,Frx⟩:=lrx
 have erx:=Frx.kp
 have brx:=Frx.b2 "self" "many" λ_ _ _ _ _ _ _ _=>rfl
 obtain ⟨dxiY,FxiY⟩:=lxiY
 have exiY:=FxiY.kp
 have bxiY:=FxiY.b3 "self" "where" "cell" λ_ _ _ _ _ _ _ _ _=>rfl
 obtain ⟨dxhY,FxhY⟩:=lxhY
 have exhY:=FxhY.kp
 have bxhY:=FxhY.b1 "self" λ_ _ _ _ _ _ _=>rfl
 obtain ⟨dxpA,FxpA⟩:=lxpA
 have expA:=FxpA.kp
 have bxpA:=FxpA.b1 "self" λ_ _ _ _ _ _ _=>rfl
 obtain ⟨dxdA,FxdA⟩:=lxdA
 have exdA:=FxdA.kp
 have bxdA:=FxdA.b3 "self" "hand" "value_of" λ_ _ _ _ _ _ _ _ _=>rfl
 obtain ⟨dxpB,FxpB⟩:=lxpB
 have expB:=FxpB.kp
 have bxpB:=FxpB.b1 "self" λ_ _ _ _ _ _ _=>rfl
 obtain ⟨dxdB,FxdB⟩:=lxdB
 have exdB:=FxdB.kp
 have bxdB:=FxdB.b3 "self" "hand" "value_of" λ_ _ _ _ _ _ _ _ _=>rfl
 obtain ⟨dxiD,FxiD⟩:=lxiD
 have exiD:=FxiD.kp
 have bxiD:=FxiD.b4 "self" "where" "low" "high" λ_ _ _ _ _ _ _ _ _ _=>rfl
 obtain ⟨dxhD,FxhD⟩:=lxhD
 have exhD:=FxhD.kp
 have bxhD:=FxhD.b1 "self" λ_ _ _ _ _ _ _=>rfl
 obtain ⟨dxpD,FxpD⟩:=lxpD
 have expD:=FxpD.kp
 have bxpD:=FxpD.b1 "self" λ_ _ _ _ _ _ _=>rfl
 obtain ⟨dxdD,FxdD⟩:=lxdD
 have exdD:=FxdD.kp
 have bxdD:=FxdD.b3 "self" "hand" "value_of" λ_ _ _ _ _ _ _ _ _=>rfl
 obtain ⟨dxpE,FxpE⟩:=lxpE
 have expE:=FxpE.kp
 have bxpE:=FxpE.b1 "self" λ_ _ _ _ _ _ _=>rfl
 obtain ⟨dxdE,FxdE⟩:=lxdE
 have exdE:=FxdE.kp
 have bxdE:=FxdE.b3 "self" "hand" "value_of" λ_ _ _ _ _ _ _ _ _=>rfl
 obtain ⟨dxiF,FxiF⟩:=lxiF
 have exiF:=FxiF.kp
 have bxiF:=FxiF.b4 "self" "where" "cell" "amount" λ_ _ _ _ _ _ _ _ _ _=>rfl
 obtain ⟨dxpF,FxpF⟩:=lxpF
 have expF:=FxpF.kp
 have bxpF:=FxpF.b1 "self" λ_ _ _ _ _ _ _=>rfl
 obtain ⟨dxdF,FxdF⟩:=lxdF
 have exdF:=FxdF.kp
 have bxdF:=FxdF.b3 "self" "hand" "value_of" λ_ _ _ _ _ _ _ _ _=>rfl
 obtain ⟨dxiG,FxiG⟩:=lxiG
 have exiG:=FxiG.kp
 have bxiG:=FxiG.b2 "self" "amount" λ_ _ _ _ _ _ _ _=>rfl
 obtain ⟨dxhZ,FxhZ⟩:=lxhZ
 have exhZ:=FxhZ.kp
 have bxhZ:=FxhZ.b1 "self" λ_ _ _ _ _ _ _=>rfl
 obtain ⟨dxpG,FxpG⟩:=lxpG
 have expG:=FxpG.kp
 have bxpG:=FxpG.b1 "self" λ_ _ _ _ _ _ _=>rfl
 obtain ⟨dxdG,FxdG⟩:=lxdG
 have exdG:=FxdG.kp
 have bxdG:=FxdG.b3 "self" "hand" "value_of" λ_ _ _ _ _ _ _ _ _=>rfl
 obtain ⟨dxiN,FxiN⟩:=lxiN
 have exiN:=FxiN.kp
 have bxiN:=FxiN.b2 "self" "amount" λ_ _ _ _ _ _ _ _=>rfl
 obtain ⟨dxpN,FxpN⟩:=lxpN
 have expN:=FxpN.kp
 have bxpN:=FxpN.b1 "self" λ_ _ _ _ _ _ _=>rfl
 obtain ⟨dxdN,FxdN⟩:=lxdN
 have exdN:=FxdN.kp
 have bxdN:=FxdN.b3 "self" "hand" "value_of" λ_ _ _ _ _ _ _ _ _=>rfl
 have W:TxW K (wmk WA WB WD WE WF WG WN):=⟨λk=>match k with | .take=>⟨pgwA,hdwA,powA,sawA⟩ | .mean=>⟨pgwB,hdwB,powB,sawB⟩ | .sum=>⟨pgwD,hdwD,powD,sawD⟩ | .give=>⟨pgwE,hdwE,powE,sawE⟩ | .add=>⟨pgwF,hdwF,powF,sawF⟩ | .plus=>⟨pgwG,hdwG,powG,sawG⟩ | .need=>⟨pgwN,hdwN,powN,sawN⟩,λk=>match k with | .take=>nWwA | .mean=>nWwB | .sum=>nWwD | .give=>nWwE | .add=>nWwF | .plus=>nWwG | .need=>nWwN,λk=>match k with | .take=>nCwA | .mean=>nCwB | .sum=>nCwD | .give=>nCwE | .add=>nCwF | .plus=>nCwG | .need=>nCwN,λk=>match k with | .take=>nLwA | .mean=>nLwB | .sum=>nLwD | .give=>nLwE | .add=>nLwF | .plus=>nLwG | .need=>nLwN,λk=>match k with | .take=>nHwA | .mean=>nHwB | .sum=>nHwD | .give=>nHwE | .add=>nHwF | .plus=>nHwG | .need=>nHwN,λk=>match k with | .take=>nAwA | .mean=>nAwB | .sum=>nAwD | .give=>nAwE | .add=>nAwF | .plus=>nAwG | .need=>nAwN⟩
 obtain ⟨dpi,Fpi⟩:=lpi
 have epi:=Fpi.kp
 have bpi:=Fpi.b3 "self" "manner" "steps" λ_ _ _ _ _ _ _ _ _=>rfl
 have TP:TxP K CP:=⟨⟨pgP,hdP,poP,saP⟩,nPm,nPs,nPp⟩
 obtain ⟨dsdI,FsdI⟩:=lsdI
 have esdI:=FsdI.kp
 have bsdI:=FsdI.b2 "self" "cells" λ_ _ _ _ _ _ _ _=>rfl
 obtain ⟨dsdN,FsdN⟩:=lsdN
 have esdN:=FsdN.kp
 have bsdN:=FsdN.b1 "self" λ_ _ _ _ _ _ _=>rfl
 obtain ⟨dshI,FshI⟩:=lshI
 have eshI:=FshI.kp
 have bshI:=FshI.b2 "self" "stand" λ_ _ _ _ _ _ _ _=>rfl
 obtain ⟨dshS,FshS⟩:=lshS
 have eshS:=FshS.kp
 have bshS:=FshS.b5 "self" "to" "word" "p" "more" λ_ _ _ _ _ _ _ _ _ _ _=>rfl
 obtain ⟨dshW,FshW⟩:=lshW
 have eshW:=FshW.kp
 have bshW:=FshW.b1 "self" λ_ _ _ _ _ _ _=>rfl
 obtain ⟨dshL,FshL⟩:=lshL
 have eshL:=FshL.kp
 have bshL:=FshL.b1 "self" λ_ _ _ _ _ _ _=>rfl
 obtain ⟨dleT,FleT⟩:=lleT
 have eleT:=FleT.kp
 have bleT:=FleT.b2 "self" "sheet" λ_ _ _ _ _ _ _ _=>rfl
 obtain ⟨dleG,FleG⟩:=lleG
 have eleG:=FleG.kp
 have bleG:=FleG.b2 "self" "sheet" λ_ _ _ _ _ _ _ _=>rfl
 obtain ⟨dleN,FleN⟩:=lleN
 have eleN:=FleN.kp
 have bleN:=FleN.b2 "self" "outcome" λ_ _ _ _ _ _ _ _=>rfl
 obtain ⟨dleO,FleO⟩:=lleO
 have eleO:=FleO.kp
 have bleO:=FleO.b1 "self" λ_ _ _ _ _ _ _=>rfl
 obtain ⟨dleX,FleX⟩:=lleX
 have eleX:=FleX.kp
 have bleX:=FleX.b1 "self" λ_ _ _ _ _ _ _=>rfl
 obtain ⟨dleP,FleP⟩:=lleP
 have eleP:=FleP.kp
 have bleP:=FleP.b1 "self" λ_ _ _ _ _ _ _=>rfl
 obtain ⟨dleS,FleS⟩:=lleS
 have eleS:=FleS.kp
 have bleS:=FleS.b3 "self" "sheet" "word" λ_ _ _ _ _ _ _ _ _=>rfl
 obtain ⟨dleA,FleA⟩:=lleA
 have eleA:=FleA.kp
 have bleA:=FleA.b2 "self" "more" λ_ _ _ _ _ _ _ _=>rfl
 obtain ⟨dheI,FheI⟩:=lheI
 have eheI:=FheI.kp
 have bheI:=FheI.b3 "self" "name" "pact" λ_ _ _ _ _ _ _ _ _=>rfl
 obtain ⟨dheG,FheG⟩:=lheG
 have eheG:=FheG.kp
 have bheG:=FheG.b2 "self" "sheet" λ_ _ _ _ _ _ _ _=>rfl
 obtain ⟨dheC,FheC⟩:=lheC
 have eheC:=FheC.kp
 have bheC:=FheC.b5 "self" "sheet" "word" "sender" "more" λ_ _ _ _ _ _ _ _ _ _ _=>rfl
 obtain ⟨dheL,FheL⟩:=lheL
 have eheL:=FheL.kp
 have bheL:=FheL.b1 "self" λ_ _ _ _ _ _ _=>rfl
 obtain ⟨dheD,FheD⟩:=lheD
 have eheD:=FheD.kp
 have bheD:=FheD.b1 "self" λ_ _ _ _ _ _ _=>rfl
 obtain ⟨dleI,FleI⟩:=lleI
 have eleI:=FleI.kp
 have bleI:=FleI.b3 "self" "name" "pact" λ_ _ _ _ _ _ _ _ _=>rfl
 have D:TxD K CS:=⟨⟨pgS,hdS,poS,saS⟩,qsc,qsb,qsw,qsr,qse,qsa,qso⟩
 have DH:TxH K CH:=⟨⟨pgH,hdH,poH,saH⟩,qhs,qhr,qhe,qhl⟩
 have TA:TxA K CL:=⟨⟨pgL,hdL,poL,saL⟩,qan,qas,qah,qad,qat,qam,qac⟩
 have TC:TxC K (wmk WA WB WD WE WF WG WN) CL CH:=⟨TA,qag,λk=>match k with | .take=>λe=>(by have e':WA=CL:=e;rw [← e',uxpAA] at nKL;cases nKL) | .mean=>λe=>(by have e':WB=CL:=e;rw [← e',uxpBB] at nKL;cases nKL) | .sum=>λe=>(by have e':WD=CL:=e;rw [← e',uxpDD] at nKL;cases nKL) | .give=>λe=>(by have e':WE=CL:=e;rw [← e',uxpEE] at nKL;cases nKL) | .add=>λe=>(by have e':WF=CL:=e;rw [← e',uxpFF] at nKL;cases nKL) | .plus=>λe=>(by have e':WG=CL:=e;rw [← e',uxpGG] at nKL;cases nKL) | .need=>λe=>(by have e':WN=CL:=e;rw [← e',uxpNN] at nKL;cases nKL),λk=>match k with | .take=>λe=>(by have e':WA=CH:=e;rw [← e',uxpAA] at nKH;cases nKH) | .mean=>λe=>(by have e':WB=CH:=e;rw [← e',uxpBB] at nKH;cases nKH) | .sum=>λe=>(by have e':WD=CH:=e;rw [← e',uxpDD] at nKH;cases nKH) | .give=>λe=>(by have e':WE=CH:=e;rw [← e',uxpEE] at nKH;cases nKH) | .add=>λe=>(by have e':WF=CH:=e;rw [← e',uxpFF] at nKH;cases nKH) | .plus=>λe=>(by have e':WG=CH:=e;rw [← e',uxpGG] at nKH;cases nKH) | .need=>λe=>(by have e':WN=CH:=e;rw [← e',uxpNN] at nKH;cases nKH),λe=>by rw [e,ashS] at nSL;cases nSL⟩
 obtain ⟨dW1,FW1⟩:=lW1
 have eW1:=FW1.kp
 have bW1:=FW1.b1 "thing" λ_ _ _ _ _ _ _=>rfl
 have mW1:mg "is_whole"=some (.ref fW1):=mg_of X G aW1
 obtain ⟨dH1,FH1⟩:=lH1
 have eH1:=FH1.kp
 have bH1:=FH1.b1 "thing" λ_ _ _ _ _ _ _=>rfl
 have mH1:mg "shown"=some (.ref fH1):=mg_of X G aH1
 obtain ⟨dR1,FR1⟩:=lR1
 have eR1:=FR1.kp
 have bR1:=FR1.b1 "text" λ_ _ _ _ _ _ _=>rfl
 have mR1:mg "read_thing"=some (.ref fR1):=mg_of X G aR1
 obtain ⟨dG1,FG1⟩:=lG1
 have eG1:=FG1.kp
 have bG1:=FG1.b1 "sign" λ_ _ _ _ _ _ _=>rfl
 have mG1:mg "is_sign"=some (.ref fG1):=mg_of X G aG1
 obtain ⟨dP1,FP1⟩:=lP1
 have eP1:=FP1.kp
 have bP1:=FP1.b2 "word" "numbers" λ_ _ _ _ _ _ _ _=>rfl
 have mP1:mg "spell"=some (.ref fP1):=mg_of X G aP1
 obtain ⟨dS1,FS1⟩:=lS1
 have eS1:=FS1.kp
 have bS1:=FS1.b1 "text" λ_ _ _ _ _ _ _=>rfl
 have mS1:mg "read_step"=some (.ref fS1):=mg_of X G aS1
 obtain ⟨dN1,FN1⟩:=lN1
 have eN1:=FN1.kp
 have bN1:=FN1.b2 "word" "letter" λ_ _ _ _ _ _ _ _=>rfl
 have mN1:mg "read_number"=some (.ref fN1):=mg_of X G aN1
 obtain ⟨dM1,FM1⟩:=lM1
 have eM1:=FM1.kp
 have bM1:=FM1.b2 "word" "numbers" λ_ _ _ _ _ _ _ _=>rfl
 have mM1:mg "made_step"=some (.ref fM1):=mg_of X G aM1
 obtain ⟨dU1,FU1⟩:=lU1
 have eU1:=FU1.kp
 have bU1:=FU1.b3 "where" "low" "high" λ_ _ _ _ _ _ _ _ _=>rfl
 have mU1:mg "made_sum"=some (.ref fU1):=mg_of X G aU1
 obtain ⟨dA3,FA3⟩:=lA3
 have eA3:=FA3.kp
 have bA3:=FA3.b2 "text" "number" λ_ _ _ _ _ _ _ _=>rfl
 have mA3:mg "read_part"=some (.ref fA3):=mg_of X G aA3
 obtain ⟨dB3,FB3⟩:=lB3
 have eB3:=FB3.kp
 have bB3:=FB3.b1 "text" λ_ _ _ _ _ _ _=>rfl
 have mB3:mg "read_pact"=some (.ref fB3):=mg_of X G aB3
 obtain ⟨dC3,FC3⟩:=lC3
 have eC3:=FC3.kp
 have bC3:=FC3.b1 "pact" λ_ _ _ _ _ _ _=>rfl
 have mC3:mg "houses_of"=some (.ref fC3):=mg_of X G aC3
 obtain ⟨dA2,FA2⟩:=lA2
 have eA2:=FA2.kp
 have bA2:=FA2.b2 "_law_script" "_law_k" λ_ _ _ _ _ _ _ _=>rfl
 have mA2:mg "_law_cell_at"=some (.ref fA2):=mg_of X G aA2
 obtain ⟨dV1,FV1⟩:=lV1
 have eV1:=FV1.kp
 have bV1:=FV1.b1 "cell" λ_ _ _ _ _ _ _=>rfl
 have mV1:mg "no_value"=some (.ref fV1):=mg_of X G aV1
 obtain ⟨dM2,FM2⟩:=lM2
 have eM2:=FM2.kp
 have bM2:=FM2.b1 "_law_number" λ_ _ _ _ _ _ _=>rfl
 have mM2:mg "_law_amount"=some (.ref fM2):=mg_of X G aM2
 obtain ⟨dS2,FS2⟩:=lS2
 have eS2:=FS2.kp
 have bS2:=FS2.b1 "_law_number" λ_ _ _ _ _ _ _=>rfl
 have mS2:mg "_law_step"=some (.ref fS2):=mg_of X G aS2
 obtain ⟨dL2,FL2⟩:=lL2
 have eL2:=FL2.kp
 have bL2:=FL2.b1 "_law_hands" λ_ _ _ _ _ _ _=>rfl
 have mL2:mg "_law_last"=some (.ref fL2):=mg_of X G aL2
 obtain ⟨dP2,FP2⟩:=lP2
 have eP2:=FP2.kp
 have bP2:=FP2.b2 "_law_steps" "_law_hands" λ_ _ _ _ _ _ _ _=>rfl
 have mP2:mg "_law_plain"=some (.ref fP2):=mg_of X G aP2
 obtain ⟨dE2,FE2⟩:=lE2
 have eE2:=FE2.kp
 have bE2:=FE2.b2 "_law_found" "_law_due_here" λ_ _ _ _ _ _ _ _=>rfl
 have mE2:mg "_law_same"=some (.ref fE2):=mg_of X G aE2
 obtain ⟨dD2,FD2⟩:=lD2
 have eD2:=FD2.kp
 have bD2:=FD2.b3 "_law_name" "_law_steps" "_law_hands" λ_ _ _ _ _ _ _ _ _=>rfl
 have mD2:mg "_law_due"=some (.ref fD2):=mg_of X G aD2
 obtain ⟨dO2,FO2⟩:=lO2
 have eO2:=FO2.kp
 have bO2:=FO2.b2 "_law_number" "_law_at" λ_ _ _ _ _ _ _ _=>rfl
 have mO2:mg "_law_other"=some (.ref fO2):=mg_of X G aO2
 obtain ⟨dT2,FT2⟩:=lT2
 have eT2:=FT2.kp
 have bT2:=FT2.b2 "_law_number" "_law_at" λ_ _ _ _ _ _ _ _=>rfl
 have mT2:mg "_law_strange"=some (.ref fT2):=mg_of X G aT2
 obtain ⟨dH2,FH2⟩:=lH2
 have eH2:=FH2.kp
 have bH2:=FH2.b1 "_law_steps" λ_ _ _ _ _ _ _=>rfl
 have mH2:mg "_law_housed"=some (.ref fH2):=mg_of X G aH2
 obtain ⟨dN2,FN2⟩:=lN2
 have eN2:=FN2.kp
 have bN2:=FN2.b1 "_law_script" λ_ _ _ _ _ _ _=>rfl
 have mN2:mg "_law_made"=some (.ref fN2):=mg_of X G aN2
 obtain ⟨dZ,FZ⟩:=lZ
 have eZ:=FZ.kp
 have B:TxB mg:=⟨mg_none_of X G y_isinstance,mg_none_of X G y_int,mg_none_of X G y_bool,mg_none_of X G y_str,mg_none_of X G y_len,mg_none_of X G y_range,mg_none_of X G y_tuple,mg_none_of X G y_list,mg_none_of X G y_any,mg_none_of X G y_all,mg_none_of X G y_max,mg_none_of X G y_sorted⟩
 have TN:TxN K mg CN:=⟨mg_of X G nNe,xNe,subN⟩
 have TT:K41T.Tx K mg CRd:=⟨⟨pgrd,hdrd,pord,sard⟩,nTx,nPl,mg_of X G nrd,mg_none_of X G y_isinstance,mg_none_of X G y_int,mg_none_of X G y_bool,mg_none_of X G y_str,mg_none_of X G y_len,mg_none_of X G y_ord,mg_none_of X G y_all,mg_none_of X G y_range,⟨_,mg_of X G q_MOST_FIGURES_things⟩,⟨_,mg_of X G q_MOST_SIGNS⟩,⟨_,mg_of X G q_MOST_DEEP⟩,⟨_,mg_of X G q_LONGEST⟩,⟨_,mg_of X G q_BLANK⟩,⟨_,mg_of X G q_PERCENT⟩,⟨_,mg_of X G q_TILDE⟩⟩
 have tM:∀H,SqT K H aMn [.str "held",.str "walked"]:=λH=>.inr ⟨_,_,_,lMn,rfl,rfl,(by show 2<=sizeLine;decide),.cons ⟨mn1,rfl⟩ (.cons ⟨mn2,rfl⟩ .nil)⟩
 refine ⟨dZ,(by obtain ⟨oc,od,kV,doc,pm,an,cdv,ct,osl,rfl,lk,hcd⟩:=FZ.ex;exact λs v=>.of_eq rfl),λbase _ _=>?_⟩
 have GCI:=tZ (P:=l.prog) (w:=w) (mg:=mg) (base:=base) FxiY W
 have WI:∀wd,WI l.prog w K mg base (wmk WA WB WD WE WF WG WN) wd:=λwd=>match wd with | .take=>⟨fxiY,_,_,⟨mkwA,uxiYA,jxiY,kcwA⟩,(GCI.imp λ_ _ _ _ z=>l0 rfl z).mono (by decide),bxiY,mg_of X G nwA⟩ | .mean=>⟨fxiY,_,_,⟨mkwB,uxiYB,jxiY,kcwB⟩,(GCI.imp λ_ _ _ _ z=>l0 rfl z).mono (by decide),bxiY,mg_of X G nwB⟩ | .sum=>⟨fxiD,_,_,⟨mkwD,uxiDD,jxiD,kcwD⟩,(tw FxiD W).mono (by decide),bxiD,mg_of X G nwD⟩ | .give=>⟨fxiY,_,_,⟨mkwE,uxiYE,jxiY,kcwE⟩,(GCI.imp λ_ _ _ _ z=>l0 rfl z).mono (by decide),bxiY,mg_of X G nwE⟩ | .add=>⟨fxiF,_,_,⟨mkwF,uxiFF,jxiF,kcwF⟩,t7 FxiF W (mg_of X G nCY) ⟨gaY,rdY,fcY,hiY,exiY⟩ GCI bxiY,bxiF,mg_of X G nwF⟩ | .plus=>⟨fxiG,_,_,⟨mkwG,uxiGG,jxiG,kcwG⟩,(tO FxiG W).mono (by decide),bxiG,mg_of X G nwG⟩ | .need=>⟨fxiN,_,_,⟨mkwN,uxiNN,jxiN,kcwN⟩,(tR FxiN W).mono (by decide),bxiN,mg_of X G nwN⟩
 have Hi:=K41T.vU (P:=l.prog) (w:=w) (mg:=mg) (base:=base) Fri TT
 have Hp:=K41T.vM (P:=l.prog) (w:=w) (mg:=mg) (base:=base) Frp TT
 have Hn:=K41T.xU (P:=l.prog) (w:=w) (mg:=mg) (base:=base) Frn TT
 have Hx:=K41T.tD (P:=l.prog) (w:=w) (mg:=mg) (base:=base) Frx TT
 have Mrn:gj K CRd "read_number" frn:=⟨arn,jrn,ern⟩
 have Mrp:gj K CRd "passes" frp:=⟨arp,jrp,erp⟩
 have Mrb:gj K CRd "read_below" frb:=⟨arb,jrb,erb⟩
 have Mrx:gj K CRd "read_signs" frx:=⟨arx,jrx,erx⟩
 have Mra:gj K CRd "read_any" fra:=⟨ara,jra,era⟩
 have Hb:=K41T.t6 Frb TT Hn brn Mrn
 have Ha:=K41T.yc Fra TT Hp brp Mrp Hb brb Mrb Hn brn Mrn Hx brx Mrx
 have HG:=K41T.vH (P:=l.prog) (w:=w) (mg:=mg) (base:=base) FG1 TT
 have HW:=K41T.tj (P:=l.prog) (w:=w) (mg:=mg) (base:=base) FW1 TT
 have GW1:GF l.prog w K mg base CX0 1 "is_whole" ["thing"] K41T.iQ:=⟨fW1,_,HW,bW1,eW1,mW1⟩
 have GH1:GF l.prog w K mg base CX0 2 "shown" ["thing"] K41T.kO:=⟨fH1,_,K41T.tE FH1 TT HW bW1 eW1 mW1,bH1,eH1,mH1⟩
 have GR1:GF l.prog w K mg base CX0 4 "read_thing" ["text"] K41T.oj:=⟨fR1,_,K41T.vK FR1 TT ⟨mkrd,ari,jri,kcrd⟩ HG bG1 eG1 mG1 Hi bri Ha bra Mra,bR1,eR1,mR1⟩
 have GP1:GF l.prog w K mg base CX0 3 "spell" ["word","numbers"] c9:=⟨fP1,_,tq FP1 GH1,bP1,eP1,mP1⟩
 have GU1:GF l.prog w K mg base CX0 4 "made_sum" ["where","low","high"] (oo (wmk WA WB WD WE WF WG WN)):=⟨fU1,_,vQ FU1 (WI .sum),bU1,eU1,mU1⟩
 have GM1:GF l.prog w K mg base CX0 5 "made_step" ["word","numbers"] (St.gq (wmk WA WB WD WE WF WG WN)):=⟨fM1,_,tT FM1 WI GU1,bM1,eM1,mM1⟩
 have GN1:GF l.prog w K mg base CX0 5 "read_number" ["word","letter"] om:=⟨fN1,_,vJ FN1 B (mg_of X G nNo) xNo (by decide +kernel) ⟨_,mg_of X G q_MOST_FIGURES_steps⟩ GR1 GW1,bN1,eN1,mN1⟩
 have GS1:GF l.prog w K mg base CX0 6 "read_step" ["text"] (kQ (wmk WA WB WD WE WF WG WN)):=⟨fS1,_,tF FS1 B (mg_of X G nSh) (xj lSh qSh tSh) GN1 GM1,bS1,eS1,mS1⟩
 have Gh:∀wd,GM l.prog w K mg base CX0 1 ((wmk WA WB WD WE WF WG WN) wd) "house" ["self"] (fX (wmk WA WB WD WE WF WG WN) wd):=λwd=>match wd with | .take=>⟨fxhY,_,gO (.inl rfl) FxhY W,bxhY,⟨uxhYA,jxhY,exhY⟩⟩ | .mean=>⟨fxhY,_,gO (.inl rfl) FxhY W,bxhY,⟨uxhYB,jxhY,exhY⟩⟩ | .sum=>⟨fxhD,_,vV FxhD W,bxhD,⟨uxhDD,jxhD,exhD⟩⟩ | .give=>⟨fxhY,_,gO (.inl rfl) FxhY W,bxhY,⟨uxhYE,jxhY,exhY⟩⟩ | .add=>⟨fxhY,_,gO (.inr rfl) FxhY W,bxhY,⟨uxhYF,jxhY,exhY⟩⟩ | .plus=>⟨fxhZ,_,mL (.inl rfl) FxhZ,bxhZ,⟨uxhZG,jxhZ,exhZ⟩⟩ | .need=>⟨fxhZ,_,mL (.inr rfl) FxhZ,bxhZ,⟨uxhZN,jxhZ,exhZ⟩⟩
 have Gp:∀wd,GM l.prog w K mg base CX0 4 ((wmk WA WB WD WE WF WG WN) wd) "spelled" ["self"] (bQ (wmk WA WB WD WE WF WG WN) wd):=λwd=>match wd with | .take=>⟨fxpA,_,tJ FxpA W GP1,bxpA,⟨uxpAA,jxpA,expA⟩⟩ | .mean=>⟨fxpB,_,tN FxpB W GP1,bxpB,⟨uxpBB,jxpB,expB⟩⟩ | .sum=>⟨fxpD,_,vL FxpD W GP1,bxpD,⟨uxpDD,jxpD,expD⟩⟩ | .give=>⟨fxpE,_,tQ FxpE W GP1,bxpE,⟨uxpEE,jxpE,expE⟩⟩ | .add=>⟨fxpF,_,vN FxpF W GP1,bxpF,⟨uxpFF,jxpF,expF⟩⟩ | .plus=>⟨fxpG,_,tK FxpG W GP1,bxpG,⟨uxpGG,jxpG,expG⟩⟩ | .need=>⟨fxpN,_,tL FxpN W GP1,bxpN,⟨uxpNN,jxpN,expN⟩⟩
 have GPI:=qH (P:=l.prog) (w:=w) (mg:=mg) (base:=base) Fpi B TP
 have GA3:GF l.prog w K mg base CX0 7 "read_part" ["text","number"] (kR (wmk WA WB WD WE WF WG WN)):=⟨fA3,_,tG FA3 GS1,bA3,eA3,mA3⟩
 have GB3:GF l.prog w K mg base CX0 8 "read_pact" ["text"] (kS CP (wmk WA WB WD WE WF WG WN)):=⟨fB3,_,tH FB3 B (mg_of X G nMnn) tM ⟨_,mg_of X G q_MOST_STEPS⟩ ⟨mkP,api,jpi,kcP⟩ (mg_of X G nP) GPI bpi GA3,bB3,eB3,mB3⟩
 have GC3:GF l.prog w K mg base CX0 2 "houses_of" ["pact"] (i5 CP (wmk WA WB WD WE WF WG WN)):=⟨fC3,_,qJ FC3 B (mg_none_of X G y_set) TP W Gh,bC3,eC3,mC3⟩
 have GSI:=qG (P:=l.prog) (w:=w) (mg:=mg) (base:=base) FsdI B D
 have GHI:=tW (P:=l.prog) (w:=w) (mg:=mg) (base:=base) (CS:=CS) FshI DH
 have GsdN:GM l.prog w K mg base CX0 1 CS "news" ["self"] (on CS K):=⟨fsdN,_,vP FsdN B D,bsdN,⟨asdN,jsdN,esdN⟩⟩
 have GshS:GM l.prog w K mg base CX0 1 CH "send" ["self","to","word","p","more"] (iR CS CH K):=⟨fshS,_,tU FshS DH,bshS,⟨ashS,jshS,eshS⟩⟩
 have GshW:GM l.prog w K mg base CX0 1 CH "rows_told" ["self"] (kX CS CH K):=⟨fshW,_,tV FshW B DH,bshW,⟨ashW,jshW,eshW⟩⟩
 have GshL:GM l.prog w K mg base CX0 2 CH "letters_told" ["self"] (oq CS CH K):=⟨fshL,_,vW FshL D DH GsdN,bshL,⟨ashL,jshL,eshL⟩⟩
 have GleX:GM l.prog w K mg base CX0 2 CL "next_house" ["self"] (g7 CL (wmk WA WB WD WE WF WG WN)):=⟨fleX,_,vO FleX B TA W Gh,bleX,⟨aleX,jleX,eleX⟩⟩
 have GleP:GM l.prog w K mg base CX0 1 CL "present_hand" ["self"] (kU CL (wmk WA WB WD WE WF WG WN)):=⟨fleP,_,vX FleP TA,bleP,⟨aleP,jleP,eleP⟩⟩
 have GleA:GM l.prog w K mg base CX0 3 CL "is_answer" ["self","more"] (sg CL (wmk WA WB WD WE WF WG WN)):=⟨fleA,_,xY FleA B TA GleX,bleA,⟨aleA,jleA,eleA⟩⟩
 have GleN:GM l.prog w K mg base CX0 1 CL "naming" ["self","outcome"] (pE CL (wmk WA WB WD WE WF WG WN)):=⟨fleN,_,xV FleN TA,bleN,⟨aleN,jleN,eleN⟩⟩
 have GD:∀b,GM l.prog w K mg base (CXE l.prog w) 1 ((wmk WA WB WD WE WF WG WN) (pw b)) "step_done" ["self","hand","value_of"] (va CN (wmk WA WB WD WE WF WG WN) b):=λb=>match b with | true=>⟨fxdG,_,tX FxdG W,bxdG,⟨uxdGG,jxdG,exdG⟩⟩ | false=>⟨fxdN,_,tY FxdN W TN,bxdN,⟨uxdNN,jxdN,exdN⟩⟩
 have GleO:GM l.prog w K mg base CX0 3 CL "own_steps_done" ["self"] (rY CL CS CH (wmk WA WB WD WE WF WG WN) K):=⟨fleO,_,xS FleO B TC W TN mV1 GleX GleP GD,bleO,⟨aleO,jleO,eleO⟩⟩
 have GleS:GM l.prog w K mg base CX0 5 CL "send_step" ["self","sheet","word"] (kP CL CS CH (wmk WA WB WD WE WF WG WN) K):=⟨fleS,_,tm FleS B TC W DH Gp GleX GleP GshS,bleS,⟨aleS,jleS,eleS⟩⟩
 have GheL:GM l.prog w K mg base CX0 1 CL "silent" ["self"] (pA CL CS CH (wmk WA WB WD WE WF WG WN) K):=⟨fheL,_,xQ FheL TC,bheL,⟨aheL,jheL,eheL⟩⟩
 have GheD:GM l.prog w K mg base CX0 2 CL "done_if_all_agree" ["self"] (ot CL CS CH (wmk WA WB WD WE WF WG WN) K):=⟨fheD,_,vY FheD TC GheL GleN,bheD,⟨aheD,jheD,eheD⟩⟩
 have GheG:GM l.prog w K mg base CX0 6 CL "go_ahead" ["self","sheet"] (sk CL CS CH (wmk WA WB WD WE WF WG WN) K):=⟨fheG,_,ya FheG TC DH GleX GleS GheL GheD GshS,bheG,⟨aheG,jheG,eheG⟩⟩
 have GleG:GM l.prog w K mg base CX0 7 CL "go" ["self","sheet"] (so CL CS CH (wmk WA WB WD WE WF WG WN) K):=⟨fleG,_,zr FleG TC GleO GleN GheG,bleG,⟨aleG,jleG,eleG⟩⟩
 have GleT:GM l.prog w K mg base CX0 8 CL "turn" ["self","sheet"] (kN CL CS CH (wmk WA WB WD WE WF WG WN) K):=⟨fleT,_,vG FleT TC ⟨_,mg_of X G q_PATIENCE⟩ GleG,bleT,⟨aleT,jleT,eleT⟩⟩
 have GheC:GM l.prog w K mg base CX0 8 CL "came" ["self","sheet","word","sender","more"] (ow CL CS CH (wmk WA WB WD WE WF WG WN) K):=⟨fheC,_,v4 FheC TC GleA GleG,bheC,⟨aheC,jheC,eheC⟩⟩
 have GLI:=qI (P:=l.prog) (w:=w) (mg:=mg) (base:=base) FleI TA TP TC.n1 GC3
 have GEI:=qK (P:=l.prog) (w:=w) (mg:=mg) (base:=base) (CP:=CP) FheI TC (mg_of X G nCA) ⟨gaA,rdA,fcA,hiA,eleI⟩ GLI bleI
 have GA2:GF l.prog w K mg base CX0 1 "_law_cell_at" ["_law_script","_law_k"] (ou K):=⟨fA2,_,vZ FA2 B,bA2,eA2,mA2⟩
 have GM2:GF l.prog w K mg base CX0 1 "_law_amount" ["_law_number"] pJ:=⟨fM2,_,yd FM2,bM2,eM2,mM2⟩
 have GS2:GF l.prog w K mg base CX0 2 "_law_step" ["_law_number"] se:=⟨fS2,_,xW FS2 B GM2,bS2,eS2,mS2⟩
 have GL2:GF l.prog w K mg base CX0 1 "_law_last" ["_law_hands"] (kT K):=⟨fL2,_,vS FL2,bL2,eL2,mL2⟩
 have GP2:GF l.prog w K mg base CX0 2 "_law_plain" ["_law_steps","_law_hands"] (rW K):=⟨fP2,_,xR FP2 B GL2,bP2,eP2,mP2⟩
 have GE2:GF l.prog w K mg base CX0 1 "_law_same" ["_law_found","_law_due_here"] (oi K):=⟨fE2,_,vI FE2 B (mg_none_of X G y_zip),bE2,eE2,mE2⟩
 have GD2:GF l.prog w K mg base CX0 2 "_law_due" ["_law_name","_law_steps","_law_hands"] (ss K):=⟨fD2,_,yb FD2 B GL2,bD2,eD2,mD2⟩
 have GO2:GF l.prog w K mg base CX0 1 "_law_other" ["_law_number","_law_at"] rZ:=⟨fO2,_,xT FO2,bO2,eO2,mO2⟩
 have GT2:GF l.prog w K mg base CX0 2 "_law_strange" ["_law_number","_law_at"] rT:=⟨fT2,_,xP FT2 GO2,bT2,eT2,mT2⟩
 have GH2:GF l.prog w K mg base CX0 1 "_law_housed" ["_law_steps"] (sj K):=⟨fH2,_,xZ FH2,bH2,eH2,mH2⟩
 have GN2:GF l.prog w K mg base CX0 3 "_law_made" ["_law_script"] (K41.gq K):=⟨fN2,_,vR FN2 B GA2 GS2,bN2,eN2,mN2⟩
 exact xX FZ B TC D DH ⟨mkS,asdI,jsdI,kcS⟩ (mg_of X G nS) GSI bsdI ⟨mkH,ashI,jshI,kcH⟩ (mg_of X G nH) GHI bshI ⟨mkL,aheI,jheI,kcL⟩ (mg_of X G nL) GEI bheI GB3 GN2 GP2 GH2 GD2 GE2 GM2 GT2 GshW GshL GleG GleT GheC
theorem walk{l:PySem.W.OpenLaw}{q:Program}{loose:List Str}{XP:(Str->Option Value)->Heap->Prop}{YP:World->Heap->Prop}{d:DefRec}{K:Params->PySem.W.Frag}(hn:l.most=some 63)(hdf:d.params.defaults=[])
  (hY:∀(w:World) (h:Heap),YP w h->(K w.params).In h)
  (F:∀(w:World) (mg:Str->Option Value) (fa:Addr) (h:Heap),(K w.params).In h->h.Ns mainGlobals mg->mg d.name=some (.ref fa) ->
   ∃fd:FuncData,(∀(s:Shared) (u:Value),BindsTo s fd ⟨[u],[]⟩ [("_law_script",u)])/\∀base:Heap,(K w.params).In base->base.Ns mainGlobals mg->FnOk l.prog w (K w.params) mg base CX0 9 fa fd ["_law_script"] (pF (K w.params))) :
  PySem.W.WalkO q loose XP YP l.row.toRowW d [] (λf vs=>PySem.call f vs) :=
 L2.uS (n:=63) (k:=9) (x:="_law_script") (CX:=λ_=>CX0) (sp:=λw=>pF (K w.params)) hn (by decide) hdf ⟨rfl,by decide,by decide⟩ hY F (λ_ _ a ns hl _ hS=>⟨a,ns,rfl,hS,hl,λ_=>rfl⟩) λ_ _ _ _ _ z=>z
end K41
open PySem PySem.W PyProof.Rows
set_option maxRecDepth 100000 in
set_option maxHeartbeats 0 in
theorem PySem.Challenge.cw_pactroom_k41_steps_one_by_one_holds : PySem.Challenge.rw_pactroom_k41_steps_one_by_one.Holds := by
 w_on;o_law
 refine holds_open (q:=Q.qv) (loose:=Q.lo) (Xt:=Q.Xt) (XP:=XL Q.qv Q.lvv) (Yf:=Hook.obs (kHook Q.Kf Q.Ka Q.ke)) (Ya:=Hook.val (kHook Q.Kf Q.Ka Q.ke)) (YP:=Hook.says (kHook Q.Kf Q.Ka Q.ke)) (N:=15384) Q.left (Hook.of (kHook Q.Kf Q.Ka Q.ke)) (Hook.keeps (kHook Q.Kf Q.Ka Q.ke)) (λs e=>xl_of s (Bool.and_eq_true_iff.mp e).1) XL.keeps (by rfl) (by rfl) (by rfl) (λs e=>recFacts_of (Bool.and_eq_true_iff.mp e).2) (by rfl) (by first | assumption | decide +kernel) (by decide +kernel) ⟨rfl,rfl,rfl,rfl,rfl,by decide +kernel⟩ ?hw ?hc
 (case hw=>w_witness2)
 k_fill
 refine K41.walk (l:=PySem.Challenge.rw_pactroom_k41_steps_one_by_one) rfl rfl (λw h Y=>PySem.W.kIn_of Y) ?F
 case F =>
  intro w mg fa h KX G hmg
  apply K41.all_mk KX G hmg
  all_goals first | k_is | exact K41.fnx (by k_is) (by k_is) (by k_is) | kit_is | k_exc | kernel_rfl | skip
#print axioms PySem.Challenge.cw_pactroom_k41_steps_one_by_one_holds
