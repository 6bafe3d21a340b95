import PyProof.Rows.All
import Wide.All
import OpenK.AllK
import Wide.FinOn
import Lean
import PyProof.EqAt
import PyProof.EqKinds
import PyProof.TupleCall
import PyProof.SetScanFacts
import PyProof.SetKind
import PyProof.TupleKey
import PyProof.Rows.SetFrom
import PyProof.WalksS
import PyProof.CollectWalk
import PyProof.DictRoadsH
import PyProof.MeetsDict
import KE.KItemsList
import PySem.Challenge.RW_pactroom_k43_patience
set_option Elab.async false
set_option linter.all false
set_option genSizeOf false
set_option maxHeartbeats 4000000
set_option maxRecDepth 100000
namespace L2
open PySem PySem.Spec PyProof.Rows
abbrev Key:=Sum Int Str
def kO:Key->Value->Bool
 | .inl k,v=>Value.isInt k v
 | .inr x,v=>Value.isStrOf x v
def zQ(w:World):Key->Int
 | .inl k=>hashInt k
 | .inr x=>hashStr w x
theorem br:∀{k:Key} {v:Value},kO k v=true->(∃i t,k=Sum.inl i/\v=Value.int i t)\/(∃x t,k=Sum.inr x/\v=Value.str x t)
 | .inl i,v,h=>by
  obtain ⟨t,e⟩:=Value.isInt_shape (k:=i) (v:=v) h
  exact .inl ⟨i,t,rfl,e⟩
 | .inr x,v,h=>by
  obtain ⟨t,e⟩:=Value.isStrOf_shape (x:=x) (v:=v) h
  exact .inr ⟨x,t,rfl,e⟩
theorem rk(i:Int)(t:Tok):kO (.inl i) (.int i t)=true:=by simp [kO,Value.isInt]
theorem rj(x:Str)(t:Tok):kO (.inr x) (.str x t)=true:=by simp [kO,Value.isStrOf]
theorem yi(a b:Int):decide ((Sum.inl a:Key)=Sum.inl b)=(a==b):=by
 by_cases e:a=b
 ·subst e;simp
 ·have h:¬(Sum.inl a:Key)=Sum.inl b:=λq=>e (Sum.inl.inj q)
  rw [decide_eq_false h]
  exact (beq_eq_false_iff_ne.mpr e).symm
theorem yf(a b:Str):decide ((Sum.inr a:Key)=Sum.inr b)=decide (a=b):=by
 by_cases e:a=b
 ·subst e;simp
 ·have h:¬(Sum.inr a:Key)=Sum.inr b:=λq=>e (Sum.inr.inj q)
  rw [decide_eq_false h,decide_eq_false e]
theorem yh(a:Int)(b:Str):decide ((Sum.inl a:Key)=Sum.inr b)=false:=decide_eq_false (λq=>nomatch q)
theorem yg(a:Str)(b:Int):decide ((Sum.inr a:Key)=Sum.inl b)=false:=decide_eq_false (λq=>nomatch q)
def bT(prog:Program)(w:World):PySem.KeyKind prog w Key where
 is:=kO
 hash:=zQ w
 inj:=λv a b ha hb=>by
  rcases br ha with ⟨i,t,rfl,rfl⟩ | ⟨x,t,rfl,rfl⟩
  ·rcases br hb with ⟨j,u,rfl,e⟩ | ⟨y,u,rfl,e⟩
   ·injection e with e1 _;rw [e1]
   ·exact nomatch e
  ·rcases br hb with ⟨j,u,rfl,e⟩ | ⟨y,u,rfl,e⟩
   ·exact nomatch e
   ·injection e with e1 _;rw [e1]
 byValue:=λk v h=>by
  rcases br h with ⟨i,t,rfl,rfl⟩ | ⟨x,t,rfl,rfl⟩<;>rfl
 pyHash:=λhv h=>by
  rcases br hv with ⟨i,t,rfl,rfl⟩ | ⟨x,t,rfl,rfl⟩
  ·exact wpAny_pyHash_int h
  ·exact wpAny_pyHash_str h
 eqBool:=λhu hv h=>by
  rcases br hu with ⟨i,t,rfl,rfl⟩ | ⟨x,t,rfl,rfl⟩
  ·rcases br hv with ⟨j,u,rfl,rfl⟩ | ⟨y,u,rfl,rfl⟩
   ·rw [yi] at h;exact wpAny_eqBool_int h
   ·rw [yh] at h;exact SeqAt.EqAt.int_str i t y u _ _ _ _ h
  ·rcases br hv with ⟨j,u,rfl,rfl⟩ | ⟨y,u,rfl,rfl⟩
   ·rw [yg] at h;exact SeqAt.EqAt.str_int x t j u _ _ _ _ h
   ·rw [yf] at h;exact wpAny_eqBool_str h
 «strs» := fun k x t v h => by
  rcases br h with ⟨i,u,rfl,e⟩ | ⟨y,u,rfl,e⟩
  ·exact nomatch e
  ·injection e with e1 _
   subst e1
   cases v<;>rfl
theorem oa(prog:Program)(w:World)(i:Int)(t:Tok):(bT prog w).is (.inl i) (.int i t)=true:=rk i t
theorem n8(prog:Program)(w:World)(x:Str)(t:Tok):(bT prog w).is (.inr x) (.str x t)=true:=rj x t
end L2
namespace L2
open PySem PySem.Spec PyProof.Rows
inductive V where
 | non | bl (b:Bool) | int (i:Int) | str (x:Str) | byt (b:Array UInt8) | flt (b:UInt64) | ref (a:Addr) | ty (n:String)
 deriving DecidableEq
def RelV:V->Value->Prop
 | .non,u=>u=Value.none
 | .bl b,u=>u=Value.bool b
 | .int i,u=>∃t,u=Value.int i t
 | .str x,u=>∃t,u=Value.str x t
 | .byt b,u=>∃t,u=Value.bytes b t
 | .flt b,u=>∃t,u=Value.float b t
 | .ref a,u=>u=Value.ref a
 | .ty n,u=>u=Value.type n
abbrev Vals:List V->List Value->Prop:=Paired RelV
theorem Vals.length{xs:List V}{us:List Value}(r:Vals xs us):xs.length=us.length:=Paired.length r
theorem Vals.get:∀{xs:List V} {us:List Value} {i:Nat} {x:V},Vals xs us->xs[i]?=some x->∃u,us[i]?=some u/\RelV x u
 | _,_,_,_,.nil,e=>by simp at e
 | _,_,0,_,.cons r _,e=>by simp at e;subst e;exact ⟨_,rfl,r⟩
 | _,_,i+1,x,.cons _ t,e=>by
  obtain ⟨u,h1,h2⟩:=Vals.get (i:=i) (x:=x) t (by simpa using e)
  exact ⟨u,by simpa using h1,h2⟩
theorem Vals.append:∀{xs ys:List V} {us ws:List Value},Vals xs us->Vals ys ws->Vals (xs++ys) (us++ws)
 | _,_,_,_,.nil,s=>s
 | _,_,_,_,.cons r t,s=>.cons r (Vals.append t s)
theorem Vals.take:∀{xs:List V} {us:List Value} (n:Nat),Vals xs us->Vals (xs.take n) (us.take n)
 | _,_,0,_=>.nil
 | _,_,_+1,.nil=>.nil
 | _,_,n+1,.cons r t=>.cons r (Vals.take n t)
theorem Vals.drop:∀{xs:List V} {us:List Value} (n:Nat),Vals xs us->Vals (xs.drop n) (us.drop n)
 | _,_,0,r=>r
 | _,_,_+1,.nil=>.nil
 | _,_,n+1,.cons _ t=>Vals.drop n t
def RelO:Option V->Option Value->Prop
 | some v,some u=>RelV v u
 | none,none=>True
 | _,_=>False
def KV{κ:Type}:List (κ×V)->List (κ×Value)->Prop:=Paired λ(p:κ×V) (q:κ×Value)=>p.1=q.1/\RelV p.2 q.2
def kV:Key->V
 | .inl i=>.int i
 | .inr x=>.str x
inductive HO where
 | lst (xs:List V)
 | tup (xs:List V)
 | dK (kvs:List (Key×V)) | dT (kvs:List (List Key×V))
 | set (S:Int->Bool) (n:Nat)
 | ins (C dx:Addr) (fs:List (Str×V))
 | own (x:Addr)
 | xd (fs:List (Str×V))
 | met (f x:Addr)
 | rng (lo hi:Int)
 | frz (o:Obj) (u:HO)
 | tbl (ps:Array Value)
 | ext (φ:Heap->Prop)
abbrev Hp:=Addr->Option HO
def upd(H:Hp)(a:Addr)(o:HO):Hp:=λb=>if b=a then some o else H b
theorem ae{H:Hp}{a:Addr}{o:HO}:upd H a o a=some o:=by unfold upd;rw [if_pos rfl]
theorem ay{H:Hp}{a b:Addr}{o:HO}(h:b≠a):upd H a o b=H b:=by unfold upd;rw [if_neg h]
theorem bf{H:Hp}{a b:Addr}{o u:HO}(h:H a=some o)(h':H b=some u)(d:o≠u):a≠b:=by
 intro e;subst e;rw [h] at h';exact d (Option.some.inj h')
theorem ah{H:Hp}{a b:Addr}{o:HO}(h:H a=some o)(h':H b=none):a≠b:=by
 intro e;subst e;rw [h] at h';cases h'
section
variable (P:Program)(w:World)
def ObjOk(H:Hp)(h:Heap)(a:Addr):HO->Prop
 | .lst xs=>xs.length<=sizeLine/\∃(its:List Value) (n:Nat),Vals xs its/\h.get? a=some {cls:=.type "list",data:=.seq its.toArray n}
 | .tup xs=>xs.length<=sizeLine/\∃its:List Value,Vals xs its/\IsTup h a its.toArray
 | .dK kvs=>kvs.length<=sizeLine/\(a==sysModules)=false/\∃vs,KV kvs vs/\h.DictOf (bT P w) a vs
 | .dT kvs=>kvs.length<=sizeLine/\(a==sysModules)=false/\∃xs:List (List Key×Addr×Value),
   Paired (λ(p:List Key×V) (q:List Key×Addr×Value)=>p.1=q.1/\H q.2.1=some (.tup (p.1.map kV))/\RelV p.2 q.2.2) kvs xs /\
   ∃o es ep,h.get? a=some o/\o.ExactDict/\o.data=.dict es ep/\es.toList=xs.map (entryOfKey (tupleKind (bT P w)))/\(xs.map (·.1)).Nodup
 | .set S n=>h.SetOf (intKind P w) a S n
 | .ins C dx fs=>H dx=some (.own a)/\fs.length<=1000/\dx≠a/\h.get? a=some (PySem.W.instObj C dx) /\
   ∃mA,h.Ns1 dx mA/\(∀f,RelO (fs.lookup f) (mA f))/\PySem.Within mA (fs.map (·.1))
 | .own _=>∃o,h.get? a=some o
 | .xd fs=>∃mA,h.Ns1 a mA/\∀f,RelO (fs.lookup f) (mA f)
 | .rng lo hi=>∃t u v,h.get? a=some {cls:=.type "range",data:=.fields #[.int lo t,.int hi u,.int 1 v]}
 | .frz o u=>h.get? a=some o/\ObjOk H h a u
 | .tbl ps=>h.get? a=some {cls:=.none,data:=.fields ps}
 | .met f x=>h.get? a=some (PySem.W.methodObj (.ref f) (.ref x))
 | .ext φ=>φ h/\(∃o,h.get? a=some o)/\∀h1 h2:Heap,φ h1->(∀o,h1.get? a=some o->h2.get? a=some o)->φ h2
def HOk(H:Hp)(h:Heap):Prop:=∀a o,H a=some o->ObjOk P w H h a o
end
section
variable {P:Program}{w:World}{H H':Hp}{h h':Heap}{a:Addr}{o:HO}
theorem ObjOk.lt(x:ObjOk P w H h a o):a<h.objs.size:=by
 cases o with
 | lst xs=>obtain ⟨_,_,_,_,e⟩:=x;exact Heap.lt_size e
 | tup xs=>obtain ⟨_,_,_,p⟩:=x;exact p.lt
 | dK kvs=>obtain ⟨_,_,_,_,o,_,_,e,_⟩:=x;exact Heap.lt_size e
 | dT kvs=>obtain ⟨_,_,_,_,o,_,_,e,_⟩:=x;exact Heap.lt_size e
 | set S n=>obtain ⟨o,_,_,_,e,_⟩:=x;exact Heap.lt_size e
 | ins C dx fs=>obtain ⟨_,_,_,e,_⟩:=x;exact Heap.lt_size e
 | own y=>obtain ⟨_,e⟩:=x;exact Heap.lt_size e
 | xd fs=>obtain ⟨_,⟨_,_,_,e,_⟩,_⟩:=x;exact Heap.lt_size e
 | rng lo hi=>obtain ⟨_,_,_,e⟩:=x;exact Heap.lt_size e
 | frz ob u=>obtain ⟨e,_⟩:=x;exact Heap.lt_size e
 | tbl ps=>exact Heap.lt_size (show h.get? a=some _ from x)
 | met f y=>exact Heap.lt_size (show h.get? a=some _ from x)
 | ext φ=>obtain ⟨_,⟨_,e⟩,_⟩:=x;exact Heap.lt_size e
theorem Paired.mapP{α β:Type}{F G:α->β->Prop}:∀{l₁:List α} {l₂:List β},Paired F l₁ l₂->(∀a b,F a b->G a b)->Paired G l₁ l₂
 | _,_,.nil,_=>.nil
 | _,_,.cons r t,f=>.cons (f _ _ r) (Paired.mapP t f)
theorem ObjOk.stay(x:ObjOk P w H h a o)(k:∀b u,(b=a\/H b=some (.own a))->h.get? b=some u->h'.get? b=some u)
  (ho:∀b,H b=some (.own a)->H' b=some (.own a))(ht:∀b xs,H b=some (.tup xs)->H' b=some (.tup xs)):ObjOk P w H' h' a o:=by
 induction o with
 | lst xs=>obtain ⟨z,its,n,r,e⟩:=x;exact ⟨z,its,n,r,k _ _ (.inl rfl) e⟩
 | tup xs=>obtain ⟨z,its,r,ob,e,c⟩:=x;exact ⟨z,its,r,ob,k _ _ (.inl rfl) e,c⟩
 | dK kvs=>obtain ⟨z,y,vs,r,ob,es,ep,e,c⟩:=x;exact ⟨z,y,vs,r,ob,es,ep,k _ _ (.inl rfl) e,c⟩
 | dT kvs =>
  obtain ⟨z,y,xs,r,ob,es,ep,e,c⟩:=x
  exact ⟨z,y,xs,Paired.mapP r λp q z=>⟨z.1,ht _ _ z.2.1,z.2.2⟩,ob,es,ep,k _ _ (.inl rfl) e,c⟩
 | set S n=>obtain ⟨ob,es,ep,t,e,c⟩:=x;exact ⟨ob,es,ep,t,k _ _ (.inl rfl) e,c⟩
 | ins C dx fs =>
  obtain ⟨d,z,ne,e,mA,⟨od,es,ep,e2,c⟩,r⟩:=x
  exact ⟨ho _ d,z,ne,k _ _ (.inl rfl) e,mA,⟨od,es,ep,k _ _ (.inr d) e2,c⟩,r⟩
 | own y=>obtain ⟨ob,e⟩:=x;exact ⟨ob,k _ _ (.inl rfl) e⟩
 | xd fs=>obtain ⟨mA,⟨od,es,ep,e,c⟩,r⟩:=x;exact ⟨mA,⟨od,es,ep,k _ _ (.inl rfl) e,c⟩,r⟩
 | rng lo hi=>obtain ⟨t,u,v,e⟩:=x;exact ⟨t,u,v,k _ _ (.inl rfl) e⟩
 | frz ob u ih=>obtain ⟨e,q⟩:=x;exact ⟨k _ _ (.inl rfl) e,ih q⟩
 | tbl ps =>
  have e:h.get? a=some {cls:=.none,data:=.fields ps}:=x
  show h'.get? a=some {cls:=.none,data:=.fields ps}
  exact k a _ (.inl rfl) e
 | met f y =>
  have e:h.get? a=some (PySem.W.methodObj (.ref f) (.ref y)):=x
  show h'.get? a=some (PySem.W.methodObj (.ref f) (.ref y))
  exact k a _ (.inl rfl) e
 | ext φ=>obtain ⟨p,⟨o,e⟩,st⟩:=x;exact ⟨st _ _ p λo q=>k _ _ (.inl rfl) q,⟨o,k _ _ (.inl rfl) e⟩,st⟩
theorem HOk.lt(x:HOk P w H h)(e:H a=some o):a<h.objs.size:=(x a o e).lt
theorem HOk.fresh(x:HOk P w H h)(e:h.objs.size<=a):H a=none:=by
 cases q:H a with
 | none=>rfl
 | some u=>exact absurd (Nat.lt_of_lt_of_le (x.lt q) e) (Nat.lt_irrefl _)
theorem HOk.kept(x:HOk P w H h)(k:∀b u,h.get? b=some u->h'.get? b=some u):HOk P w H h':=λa o e =>
 (x a o e).stay (λb u _ q=>k b u q) (λ_ q=>q) λ_ _ q=>q
theorem HOk.laid(x:HOk P w H h)(k:∀b u,h.get? b=some u->h'.get? b=some u)(hp:h.objs.size<=a)(new:ObjOk P w (upd H a o) h' a o):HOk P w (upd H a o) h':=λb u e=>by
 have hn:=x.fresh hp
 by_cases hb:b=a
 ·subst hb;rw [ae] at e;cases e;exact new
 ·rw [ay hb] at e
  exact (x b u e).stay (λc v _ q=>k c v q) (λc q=>by rw [ay (ah q hn)];exact q) λc xs q=>by rw [ay (ah q hn)];exact q
end
def Rd(H:Hp)(a:Addr)(u:HO):Prop:=H a=some u\/∃o,H a=some (.frz o u)
theorem Rd.ok{P:Program}{w:World}{H:Hp}{h:Heap}{a:Addr}{u:HO}(r:Rd H a u)(x:HOk P w H h):ObjOk P w H h a u:=by
 rcases r with r | ⟨o,r⟩
 ·exact x a u r
 ·obtain ⟨_,q⟩:=x a _ r
  exact q
def Mut:Option HO->Prop
 | some (.lst _)=>True
 | some (.dK _)=>True
 | some (.dT _)=>True
 | some (.set _ _)=>True
 | some (.ins _ _ _)=>True
 | some (.ext _)=>True
 | _=>False
section
variable {P:Program}{w:World}{H:Hp}{h h':Heap}{x e:Addr}{o':HO}
theorem HOk.write(ok:HOk P w H h)(mu:Mut (H x))(he:e=x\/H e=some (.own x))(k:∀b u,b≠e->h.get? b=some u->h'.get? b=some u)(heo:∃u,h'.get? e=some u)
  (new:ObjOk P w (upd H x o') h' x o'):HOk P w (upd H x o') h':=λb u q=>by
 have nown:∀c y,H c=some (.own y)->c≠x:=λc y r z=>by subst z;rw [r] at mu;exact mu
 have ntup:∀c xs,H c=some (.tup xs)->c≠x:=λc xs r z=>by subst z;rw [r] at mu;exact mu
 by_cases hb:b=x
 ·subst hb;rw [ae] at q;cases q;exact new
 ·rw [ay hb] at q
  by_cases hbe:b=e
  ·have q':H b=some (.own x):=by
    rcases he with z | z
    ·exact absurd (hbe.trans z) hb
    ·rw [hbe];exact z
   rw [q] at q';cases q'
   obtain ⟨v,hv⟩:=heo
   exact ⟨v,by rw [hbe];exact hv⟩
  ·refine (ok b u q).stay (λc v hc r=>k c v ?_ r) (λc r=>by rw [ay (nown c b r)];exact r) λc xs r=>by rw [ay (ntup c xs r)];exact r
   rcases hc with rfl | hc
   ·exact hbe
   ·rintro rfl
    rcases he with z | z
    ·exact nown c b hc z
    ·rw [hc] at z;cases z;exact hb rfl
end
structure Un(fs ex:List Addr)(H H':Hp)(h h':Heap):Prop where
 keep:∀b o,h.get? b=some o->H b=none->b∉fs->b∉ex->h'.get? b=some o
 slot:∀b o,h.get? b=some o->H b=none->b∈fs->b∉ex->∃sl,h'.get? b=some {o with slots:=sl}
 free:∀b o,h.get? b=some o->H b=none->b∉ex->H' b=none
 there:∀b o,h.get? b=some o->b∉ex->∃o',h'.get? b=some o'
 tups:∀b xs,H b=some (.tup xs)->H' b=some (.tup xs)
 frzs:∀b o u,H b=some (.frz o u)->H' b=some (.frz o u)
 tbls:∀b ps,H b=some (.tbl ps)->∃more,H' b=some (.tbl (ps++more))
section
variable {fs fs' ex ex':List Addr}{H H1 H2:Hp}{h h1 h2 h':Heap}{a x e:Addr}{o:HO}
theorem Un.any(u:Un fs ex H H1 h h1){b:Addr}{ob:Obj}(q:h.get? b=some ob)(n:H b=none)(hx:b∉ex):∃sl,h1.get? b=some {ob with slots:=sl}:=by
 by_cases hb:b∈fs
 ·exact u.slot b ob q n hb hx
 ·exact ⟨ob.slots,u.keep b ob q n hb hx⟩
theorem Un.kept(k:∀b u,h.get? b=some u->h'.get? b=some u):Un fs ex H H h h' :=
 ⟨λb ob q _ _ _=>k b ob q,λb ob q _ _ _=>⟨ob.slots,k b ob q⟩,λ_ _ _ n _=>n,λb ob q _=>⟨ob,k b ob q⟩,λ_ _ q=>q,λ_ _ _ q=>q,λ_ ps q=>⟨#[],by rw [q];simp⟩⟩
theorem Un.refl:Un fs ex H H h h:=Un.kept λ_ _ q=>q
theorem Un.laid(k:∀b u,h.get? b=some u->h'.get? b=some u)(hp:h.objs.size<=a)(hn:H a=none):Un fs ex H (upd H a o) h h' where
 keep:=λb u q _ _ _=>k b u q
 slot:=λb u q _ _ _=>⟨u.slots,k b u q⟩
 free:=λb u q n _=>by rw [ay (Nat.ne_of_lt (Nat.lt_of_lt_of_le (Heap.lt_size q) hp))];exact n
 there:=λb u q _=>⟨u,k b u q⟩
 tups:=λb xs q=>by rw [ay (ah q hn)];exact q
 frzs:=λb u xs q=>by rw [ay (ah q hn)];exact q
 tbls:=λb ps q=>⟨#[],by rw [ay (ah q hn),q];simp⟩
theorem Un.write(mu:Mut (H x))(he:e=x\/H e=some (.own x))(k:∀b u,b≠e->h.get? b=some u->h'.get? b=some u)(heo:∃u,h'.get? e=some u):Un fs ex H (upd H x o) h h':=by
 have hx:∀b,H b=none->b≠x:=λb n z=>by subst z;rw [n] at mu;exact mu
 have hb:∀b,H b=none->b≠e:=λb n z=>by
  subst z
  rcases he with r | r
  ·exact hx b n r
  ·rw [n] at r;cases r
 have hm:∀b u,H b=some u->¬Mut (some u)->b≠x:=λb u q nm z=>by subst z;rw [q] at mu;exact nm mu
 refine ⟨λb u q n _ _=>k b u (hb b n) q,λb u q n _ _=>⟨u.slots,k b u (hb b n) q⟩,λb u q n _=>by rw [ay (hx b n)];exact n,λb u q _=>?_,
  λb xs q=>by rw [ay (hm b _ q λz=>z)];exact q,λb u xs q=>by rw [ay (hm b _ q λz=>z)];exact q,λb ps q=>⟨#[],by rw [ay (hm b _ q λz=>z),q];simp⟩⟩
 by_cases hbe:b=e
 ·subst hbe;exact heo
 ·exact ⟨u,k b u hbe q⟩
end
def trk(h:Heap)(H:Hp):List Addr:=(List.range h.objs.size).filter λa=>(H a).isSome
def ms(h:Heap)(H:Hp):Heap:=PySem.W.hideAll h (trk h H)
theorem rA(h:Heap)(H:Hp):(ms h H).objs.size=h.objs.size:=PySem.W.hideAll_size _ _
theorem ur{h:Heap}{H:Hp}{b:Addr}{o:Obj}(e:h.get? b=some o)(n:H b=none):(ms h H).get? b=some o :=
 PySem.W.hideAll_get _ e λhm=>by
  have q:(H b).isSome=true:=(List.mem_filter.mp hm).2
  rw [n] at q;simp at q
theorem vX{h:Heap}{H:Hp}{b:Addr}{o:Obj}(e:(ms h H).get? b=some o):h.get? b=some o/\H b=none:=by
 have e':h.get? b=some o:=PySem.W.of_hideAll (trk h H) e
 refine ⟨e',?_⟩
 cases q:H b with
 | none=>rfl
 | some x =>
  have hm:b∈trk h H:=List.mem_filter.mpr ⟨List.mem_range.mpr (Heap.lt_size e'),by simp [q]⟩
  have z:(ms h H).get? b=none:=PySem.W.hideAll_none (trk h H) hm
  rw [z] at e;cases e
end L2
namespace L2
open PySem PySem.Spec PyProof.Rows
structure Mod(K:PySem.W.Frag)(mg:Str->Option Value)(base:Heap):Prop where
 kin:K.In base
 glob:base.Ns mainGlobals mg
 blt:∃mb,base.Ns builtinsNs mb/\∀x:Str,x≠"__name__"->mb x=bootBuiltins x
 nolimit:base.NoLimit
structure Cx where
 prog:Program
 w:World
 K:PySem.W.Frag
 mg:Str->Option Value
 base:Heap
 A:Around
 N:List Str
 s₀:Shared
 H₀:Hp
 env:Env
 outer:List Env
 stack:List Env
 ex:List Addr
 fn:Str->Bool
 calm:Bool
 pn:List (Addr×Obj)
 xe:Value->Shared->Prop
def frs(l:List Env):List Addr:=l.filterMap (·.frame)
abbrev Cx.fs(X:Cx):List Addr:=frs X.outer
def Vis(sc:Scope)(x:Str):Prop:=sc.names.lookup x=some .local\/sc.names.lookup x=some .cell\/sc.names.lookup x=some .free
def Loc(sc:Scope)(x:Str):Prop:=sc.names.lookup x=some .local\/sc.names.lookup x=some .cell
def zW(env:Env)(h:Heap)(m:Str->Option Value)(x:Str)(u:Value):Prop :=
 (env.kindOf x=some .local/\m x=some u)\/((env.kindOf x=some .cell\/env.kindOf x=some .free)/\∃c,env.cells.lookup x=some c/\h.IsCell c (some u))
structure Cx.Ok(X:Cx):Prop where
 mod:Mod X.K X.mg X.base
 kind:X.env.scope.kind=.function
 glob:X.env.globals=mainGlobals
 blt:X.env.builtins=builtinsNs
 above:X.s₀.heap.objs.size<=X.env.locals
 inj:∀x y c,X.env.cells.lookup x=some c->X.env.cells.lookup y=some c->x=y
 has:∀x,(X.env.kindOf x=some .cell\/X.env.kindOf x=some .free)->∃c,X.env.cells.lookup x=some c
 cab:∀x c,X.fn x=true->X.env.cells.lookup x=some c->X.s₀.heap.objs.size<=c
 hd:X.calm=true->X.A.handled=none
 frames:X.A.frames=some X.stack
 stk:X.stack=X.outer\/(X.stack=X.env::X.outer/\X.env.frame=some X.env.locals)
 exf:∀b∈X.ex,b≠X.env.locals/\∀x c,X.env.cells.lookup x=some c->c≠b
 bs:∀b o,X.base.get? b=some o->X.s₀.heap.get? b=some o/\X.H₀ b=none
 bsz:X.base.objs.size<=X.s₀.heap.objs.size
 noex:∀b o,X.base.get? b=some o->b∉X.ex
 exfs:∀b∈X.ex,b∉X.fs
 funs:X.s₀.heap.FunFrames X.base X.outer
 frf:∀b∈X.fs,X.H₀ b=none
structure Inv(X:Cx)(pins:List (Addr×Obj))(σ:List (Option V))(H:Hp)(s:Shared):Prop where
 ok:X.Ok
 os:s.os=X.s₀.os
 bare:AllBare s.gens
 base:Un X.fs X.ex X.H₀ H X.s₀.heap s.heap
 loc:∃m,s.heap.Ns X.env.locals m/\∀(i:Nat) (x:Str) (v:V),X.N[i]?=some x->σ[i]?=some (some v)->Vis X.env.scope x->∃u,RelV v u/\zW X.env s.heap m x u
 cell:∀x c,X.env.cells.lookup x=some c->∃v,s.heap.IsCell c v
 free:H X.env.locals=none
 freeC:∀x c,X.env.cells.lookup x=some c->H c=none
 pin:∀p∈X.pn++pins,s.heap.get? p.1=some p.2/\H p.1=none/\p.1≠X.env.locals/\p.1∉X.fs/\∀v,p.2.data≠.cell v
 hok:HOk X.prog X.w H s.heap
 len:σ.length=X.N.length
section
variable {X:Cx}{pins:List (Addr×Obj)}{σ:List (Option V)}{H H':Hp}{s:Shared}{h':Heap}
theorem Cx.Ok.nofr(ok:X.Ok){b:Addr}{o:Obj}(e:X.base.get? b=some o):b∉X.fs:=λhb=>by
 have:=(ok.funs.mem hb).1
 rw [e] at this;cases this
theorem Inv.bs(I:Inv X pins σ H s):∀b o,X.base.get? b=some o->s.heap.get? b=some o/\H b=none:=λb o e =>
 ⟨I.base.keep b o (I.ok.bs b o e).1 (I.ok.bs b o e).2 (I.ok.nofr e) (I.ok.noex b o e),I.base.free b o (I.ok.bs b o e).1 (I.ok.bs b o e).2 (I.ok.noex b o e)⟩
theorem Inv.bk(I:Inv X pins σ H s):∀b o,X.base.get? b=some o->s.heap.get? b=some o:=λb o e=>(I.bs b o e).1
theorem Inv.mod(I:Inv X pins σ H s):Mod X.K X.mg X.base:=I.ok.mod
theorem Inv.kIn(I:Inv X pins σ H s):X.K.In s.heap:=I.ok.mod.kin.keeps I.bk
theorem Inv.lt(I:Inv X pins σ H s):X.env.locals<s.heap.objs.size:=let ⟨_,hn,_⟩:=I.loc;hn.lt
theorem Inv.sz(I:Inv X pins σ H s):X.s₀.heap.objs.size<=s.heap.objs.size:=Nat.le_trans I.ok.above (Nat.le_of_lt I.lt)
theorem Inv.nofs(I:Inv X pins σ H s){a:Addr}(h:s.heap.objs.size<=a):a∉X.fs:=λhb=>by
 obtain ⟨_,o,ho,_⟩:=I.ok.funs.mem hb
 exact absurd (Nat.lt_of_lt_of_le (Heap.lt_size ho) (Nat.le_trans I.sz h)) (Nat.lt_irrefl _)
theorem Inv.cne(I:Inv X pins σ H s):∀x c,X.env.cells.lookup x=some c->c≠X.env.locals:=λx c e z=>by
 obtain ⟨v,o,ho,hd⟩:=I.cell x c e
 obtain ⟨m,⟨o',es,ep,ho',hd',_⟩,_⟩:=I.loc
 rw [z,ho'] at ho;cases ho;rw [hd'] at hd;cases hd
theorem Inv.funs(I:Inv X pins σ H s):s.heap.FunFrames X.base X.outer:=by
 have all:∀(l:List Env),(∀b∈frs l,b∈X.fs)->X.s₀.heap.FunFrames X.base l->s.heap.FunFrames X.base l:=by
  intro l
  induction l with
  | nil=>intro _ _;trivial
  | cons env r ih =>
   intro hs hl
   obtain ⟨hk,⟨L,o,hf,hn,ho,hd⟩,hr⟩:=hl
   have hL:L∈X.fs:=hs L (by unfold frs;rw [List.filterMap_cons,hf];exact List.mem_cons_self)
   obtain ⟨sl,e⟩:=I.base.slot L o ho (I.ok.frf L hL) hL λz=>I.ok.exfs L z hL
   exact ⟨hk,⟨L,_,hf,hn,e,hd⟩,ih (λb hb=>hs b (by unfold frs;rw [List.filterMap_cons,hf];exact List.mem_cons_of_mem _ hb)) hr⟩
 exact all X.outer (λ_ hb=>hb) I.ok.funs
theorem Inv.stack(I:Inv X pins σ H s):s.heap.FunFrames X.base X.stack:=by
 rcases I.ok.stk with e | ⟨e,hf⟩
 ·rw [e];exact I.funs
 ·rw [e]
  obtain ⟨m,hn,_⟩:=I.loc
  refine .cons (by rw [I.ok.kind];decide) hf hn ?_ I.funs
  exact Heap.get?_none_of_le (Nat.le_trans I.ok.bsz I.ok.above)
theorem Inv.stkSub(I:Inv X pins σ H s):∀b∈frs X.stack,b∈X.env.locals::X.fs:=λb hb=>by
 rcases I.ok.stk with e | ⟨e,hf⟩
 ·rw [e] at hb;exact List.mem_cons_of_mem _ hb
 ·rw [e] at hb
  unfold frs at hb
  rw [List.filterMap_cons,hf] at hb
  exact hb
theorem Inv.stkFree(I:Inv X pins σ H s):∀b∈frs X.stack,H b=none:=λb hb=>by
 rcases List.mem_cons.mp (I.stkSub b hb) with e | hb
 ·rw [e];exact I.free
 ·obtain ⟨_,o,ho,_⟩:=I.ok.funs.mem hb
  exact I.base.free b o ho (I.ok.frf b hb) λz=>I.ok.exfs b z hb
theorem Inv.step{g':Array GenState}{t':Nat}{d':Drawn}{ch:List Addr}(I:Inv X pins σ H s)
  (hch:∀b∈ch,(b∈X.ex\/X.s₀.heap.objs.size<=b)/\b≠X.env.locals/\(∀x c,X.env.cells.lookup x=some c->c≠b)/\∀p∈X.pn++pins,p.1≠b)
  (keep:∀b o,b≠X.env.locals->b∉X.fs->b∉ch->s.heap.get? b=some o->H b=none->h'.get? b=some o)
  (slot:∀b o,b≠X.env.locals->b∈X.fs->b∉ch->s.heap.get? b=some o->H b=none->∃sl,h'.get? b=some {o with slots:=sl})(free:∀b o,b∉ch->s.heap.get? b=some o->H b=none->H' b=none)
  (there:∀b o,b∉ch->s.heap.get? b=some o->∃o',h'.get? b=some o')
  (tups:∀b xs,H b=some (.tup xs)->H' b=some (.tup xs))(frzs:∀b o u,H b=some (.frz o u)->H' b=some (.frz o u))(tbls:∀b ps,H b=some (.tbl ps)->∃more,H' b=some (.tbl (ps++more)))
  (ns:∀m,s.heap.Ns X.env.locals m->h'.Ns X.env.locals m)(hok:HOk X.prog X.w H' h')(hg:AllBare g') :
  Inv X pins σ H' {s with heap:=h',gens:=g',drawn:=d',toks:=t'}:=by
 have neL:∀b o,X.s₀.heap.get? b=some o->b≠X.env.locals:=λb o e=>Nat.ne_of_lt (Nat.lt_of_lt_of_le (Heap.lt_size e) I.ok.above)
 have neC:∀b o,X.s₀.heap.get? b=some o->b∉X.ex->b∉ch:=λb o e hx hb=>by
  rcases (hch b hb).1 with z | z
  ·exact hx z
  ·exact absurd (Nat.lt_of_lt_of_le (Heap.lt_size e) z) (Nat.lt_irrefl _)
 have cellK:∀x c,X.env.cells.lookup x=some c->∀v,s.heap.IsCell c v->h'.IsCell c v:=λx c e v ⟨o,ho,hd⟩=>by
  have nch:c∉ch:=λz=>(hch c z).2.2.1 x c e rfl
  by_cases hc:c∈X.fs
  ·obtain ⟨sl,q⟩:=slot c o (I.cne x c e) hc nch ho (I.freeC x c e)
   exact ⟨_,q,hd⟩
  ·exact ⟨o,keep c o (I.cne x c e) hc nch ho (I.freeC x c e),hd⟩
 refine ⟨I.ok,I.os,hg,⟨λb o e n hb hx=>?_,λb o e n hb hx=>?_,λb o e n hx=>?_,λb o e hx=>?_,λb xs e=>tups b xs (I.base.tups b xs e),λb o xs e=>frzs b o xs (I.base.frzs b o xs e),λb ps e=>?_⟩,?_,λx c e=>?_,?_,λx c e=>?_,λp hp=>?_,hok,I.len⟩
 ·exact keep b o (neL b o e) hb (neC b o e hx) (I.base.keep b o e n hb hx) (I.base.free b o e n hx)
 ·obtain ⟨sl,e1⟩:=I.base.slot b o e n hb hx
  obtain ⟨sl',e2⟩:=slot b _ (neL b o e) hb (neC b o e hx) e1 (I.base.free b o e n hx)
  exact ⟨sl',e2⟩
 ·obtain ⟨o',e1⟩:=I.base.there b o e hx
  exact free b o' (neC b o e hx) e1 (I.base.free b o e n hx)
 ·obtain ⟨o',e1⟩:=I.base.there b o e hx
  exact there b o' (neC b o e hx) e1
 ·obtain ⟨m1,e1⟩:=I.base.tbls b ps e
  obtain ⟨m2,e2⟩:=tbls b _ e1
  exact ⟨m1++m2,by rw [e2,Array.append_assoc]⟩
 ·obtain ⟨m,hn,hl⟩:=I.loc
  refine ⟨m,ns m hn,λi x v e1 e2 e3=>?_⟩
  obtain ⟨u,r,l⟩:=hl i x v e1 e2 e3
  refine ⟨u,r,?_⟩
  rcases l with l | ⟨k,c,e,z⟩
  ·exact .inl l
  ·exact .inr ⟨k,c,e,cellK x c e _ z⟩
 ·obtain ⟨v,z⟩:=I.cell x c e
  exact ⟨v,cellK x c e v z⟩
 ·obtain ⟨m,⟨o,_,_,ho,_⟩,_⟩:=I.loc
  exact free _ o (λz=>(hch _ z).2.1 rfl) ho I.free
 ·obtain ⟨v,o,ho,hd⟩:=I.cell x c e
  exact free c o (λz=>(hch c z).2.2.1 x c e rfl) ho (I.freeC x c e)
 ·obtain ⟨e,n,ne,nf,d⟩:=I.pin p hp
  have nch:p.1∉ch:=λz=>(hch p.1 z).2.2.2 p hp rfl
  exact ⟨keep p.1 p.2 ne nf nch e n,free p.1 p.2 nch e n,ne,nf,d⟩
theorem Inv.un{t':Nat}(I:Inv X pins σ H s)(u:Un X.fs [] H H' s.heap h')(hok:HOk X.prog X.w H' h'):Inv X pins σ H' {s with heap:=h',toks:=t'}:=by
 obtain ⟨m,⟨o,es,ep,ho,r⟩,_⟩:=id I.loc
 obtain ⟨sl,hL⟩:=u.any ho I.free (by simp)
 exact I.step (g':=s.gens) (d':=s.drawn) (ch:=[]) (λ_ z=>nomatch z) (λb o _ hb _ e n=>u.keep b o e n hb (by simp)) (λb o _ hb _ e n=>u.slot b o e n hb (by simp)) (λb o _ e n=>u.free b o e n (by simp)) (λb o _ e=>u.there b o e (by simp)) u.tups u.frzs u.tbls (λm' hm=>by
  obtain ⟨o',es',ep',ho',r'⟩:=hm
  rw [ho] at ho';cases ho'
  exact ⟨_,es',ep',hL,r'⟩) hok I.bare
theorem Inv.call{g':Array GenState}{t':Nat}{d':Drawn}{ch:List Addr}(I:Inv X pins σ H s)(u:Un (frs X.stack) ch H H' s.heap h')(hok:HOk X.prog X.w H' h')(hg:AllBare g')
  (hch:∀b∈ch,(b∈X.ex\/X.s₀.heap.objs.size<=b)/\b≠X.env.locals/\(∀x c,X.env.cells.lookup x=some c->c≠b)/\∀p∈X.pn++pins,p.1≠b) :
  Inv X pins σ H' {s with heap:=h',gens:=g',drawn:=d',toks:=t'}:=by
 obtain ⟨m,⟨o,es,ep,ho,r⟩,_⟩:=id I.loc
 obtain ⟨sl,hL⟩:=u.any ho I.free λz=>(hch _ z).2.1 rfl
 exact I.step (ch:=ch) hch (λb o hL hb hc e n=>u.keep b o e n (λz=>(List.mem_cons.mp (I.stkSub b z)).elim hL hb) hc) (λb o _ _ hc e n=>u.any e n hc) (λb o hc e n=>u.free b o e n hc) (λb o hc e=>u.there b o e hc) u.tups u.frzs u.tbls (λm' hm=>by
  obtain ⟨o',es',ep',ho',r'⟩:=hm
  rw [ho] at ho';cases ho'
  exact ⟨_,es',ep',hL,r'⟩) hok hg
theorem Inv.turned{t':Nat}{it:Addr}(I:Inv X pins σ H s)(k:∀b o,b≠it->s.heap.get? b=some o->h'.get? b=some o)(hn:H it=none)(hL:it≠X.env.locals)
  (h1:it∈X.ex\/X.s₀.heap.objs.size<=it)(h2:∀x c,X.env.cells.lookup x=some c->c≠it)(h3:∀p∈X.pn++pins,p.1≠it):Inv X pins σ H {s with heap:=h',toks:=t'}:=by
 have nit:∀b u,H b=some u->b≠it:=λb u e z=>by rw [z,hn] at e;cases e
 refine I.step (g':=s.gens) (d':=s.drawn) (ch:=[it]) (λb hb=>?_) (λb o _ _ hc e _=>k b o (λz=>hc (by simp [z])) e) (λb o _ _ hc e _=>⟨o.slots,k b o (λz=>hc (by simp [z])) e⟩) (λ_ _ _ _ n=>n)
  (λb o hc e=>⟨o,k b o (λz=>hc (by simp [z])) e⟩) (λ_ _ e=>e) (λ_ _ _ e=>e) (λb ps e=>⟨#[],by rw [e];simp⟩) (λm hm=>?_) (λb u e=>?_) I.bare
 ·have e:b=it:=by simpa using hb
  subst e
  exact ⟨h1,hL,h2,h3⟩
 ·obtain ⟨o,es,ep,ho,r⟩:=hm
  exact ⟨o,es,ep,k _ o (Ne.symm hL) ho,r⟩
 ·refine (I.hok b u e).stay (λc v hc q=>k c v ?_ q) (λ_ q=>q) λ_ _ q=>q
  rcases hc with z | z
  ·rw [z];exact nit b u e
  ·exact nit c _ z
theorem Inv.tok(I:Inv X pins σ H s)(t:Nat):Inv X pins σ H {s with toks:=t}:=I.un (h':=s.heap) (t':=t) Un.refl I.hok
theorem Inv.kept{t':Nat}(I:Inv X pins σ H s)(k:∀b u,s.heap.get? b=some u->h'.get? b=some u):Inv X pins σ H {s with heap:=h',toks:=t'}:=I.un (Un.kept k) (I.hok.kept k)
theorem Inv.laid{a:Addr}{o:HO}{t':Nat}(I:Inv X pins σ H s)(k:∀b u,s.heap.get? b=some u->h'.get? b=some u)(hp:s.heap.objs.size<=a)(new:ObjOk X.prog X.w (upd H a o) h' a o) :
  Inv X pins σ (upd H a o) {s with heap:=h',toks:=t'}:=I.un (Un.laid k hp (I.hok.fresh hp)) (I.hok.laid k hp new)
theorem Inv.write{x e:Addr}{o:HO}{t':Nat}(I:Inv X pins σ H s)(mu:Mut (H x))(he:e=x\/H e=some (.own x))(k:∀b u,b≠e->s.heap.get? b=some u->h'.get? b=some u)(heo:∃u,h'.get? e=some u)
  (new:ObjOk X.prog X.w (upd H x o) h' x o):Inv X pins σ (upd H x o) {s with heap:=h',toks:=t'}:=I.un (Un.write mu he k heo) (I.hok.write mu he k heo new)
theorem Inv.weak{σ':List (Option V)}(I:Inv X pins σ H s)(hl:σ'.length=σ.length)(w:∀(i:Nat) v,σ'[i]?=some (some v)->σ[i]?=some (some v)):Inv X pins σ' H s :=
 ⟨I.ok,I.os,I.bare,I.base,let ⟨m,hn,hl'⟩:=I.loc;⟨m,hn,λi x v e1 e2 e3=>hl' i x v e1 (w i v e2) e3⟩,I.cell,I.free,I.freeC,I.pin,I.hok,hl.trans I.len⟩
theorem Inv.pins_of{pins':List (Addr×Obj)}(I:Inv X pins σ H s)(h:∀p∈pins',s.heap.get? p.1=some p.2/\H p.1=none/\p.1≠X.env.locals/\p.1∉X.fs/\∀v,p.2.data≠.cell v):Inv X pins' σ H s :=
 ⟨I.ok,I.os,I.bare,I.base,I.loc,I.cell,I.free,I.freeC,λp hp=>(List.mem_append.mp hp).elim (λz=>I.pin p (List.mem_append_left _ z)) (h p),I.hok,I.len⟩
theorem nX{N:List Str}(hN:N.Nodup){i j:Nat}{x:Str}(a:N[i]?=some x)(b:N[j]?=some x):i=j:=by
 obtain ⟨h1,e1⟩:=List.getElem?_eq_some_iff.mp a
 obtain ⟨h2,e2⟩:=List.getElem?_eq_some_iff.mp b
 exact (List.getElem_inj hN).mp (e1.trans e2.symm)
theorem kH{M:Model}{A:Around}{E:Value->Shared->Prop}{i:Nat}{x:Str}{v:V}{u:Value}{Q:Unit->Shared->Prop}(I:Inv X pins σ H s)(hN:X.N.Nodup)(hi:X.N[i]?=some x)(hx:Loc X.env.scope x)(r:RelV v u)
  (h:∀s',Inv X pins (σ.set i (some v)) H s'->(∃a,Heap.SameBut a s.heap s'.heap/\(a=X.env.locals\/X.env.cells.lookup x=some a))->Q () s')(hf:X.fn x=true\/X.env.scope.names.lookup x=some .local:=by first | exact .inl rfl | exact .inr rfl | assumption):wpAny M A (storeName X.env x u) Q E s:=by
 obtain ⟨m,hn,hl⟩:=id I.loc
 have hcls:(X.env.scope.kind==.class||(X.env.scope.kind==.module&&X.env.locals != X.env.globals))=false:=by rw [I.ok.kind];rfl
 have hiσ:i<σ.length:=by rw [I.len];exact (List.getElem?_eq_some_iff.mp hi).1
 have cne:=I.cne
 have tracked:∀{a:Addr} {h':Heap},(∃o,s.heap.get? a=some o/\H a=none)->Heap.SameBut a s.heap h'->HOk X.prog X.w H h':=λ{a h'} ha hs b ob e=>by
  obtain ⟨_,_,hfree⟩:=ha
  refine (I.hok b ob e).stay (λc w' hc q=>(hs.2 c ?_).trans q) (λ_ q=>q) λ_ _ q=>q
  rintro rfl
  rcases hc with rfl | hc
  ·rw [hfree] at e;cases e
  ·rw [hfree] at hc;cases hc
 rcases hx with hk | hk
 ·refine wpAny_storeName_local hk hn (λh' hn' hs=>?_) hcls
  obtain ⟨oL,_,_,hoL,_⟩:=id hn
  refine h _ ⟨I.ok,I.os,I.bare,⟨λb o e n hb hx=>?_,λb o e n hb hx=>?_,I.base.free,λb o e hx=>?_,I.base.tups,I.base.frzs,I.base.tbls⟩,⟨_,hn',λj y v' e1 e2 e3=>?_⟩,λy c e=>?_,I.free,I.freeC,λp hp=>?_,tracked ⟨oL,hoL,I.free⟩ hs,by simpa using I.len⟩ ⟨_,hs,.inl rfl⟩
  ·exact (hs.2 b (Nat.ne_of_lt (Nat.lt_of_lt_of_le (Heap.lt_size e) I.ok.above))).trans (I.base.keep b o e n hb hx)
  ·obtain ⟨sl,e1⟩:=I.base.slot b o e n hb hx
   exact ⟨sl,(hs.2 b (Nat.ne_of_lt (Nat.lt_of_lt_of_le (Heap.lt_size e) I.ok.above))).trans e1⟩
  ·obtain ⟨o',e1⟩:=I.base.there b o e hx
   exact ⟨o',(hs.2 b (Nat.ne_of_lt (Nat.lt_of_lt_of_le (Heap.lt_size e) I.ok.above))).trans e1⟩
  ·by_cases hj:j=i
   ·subst hj
    rw [hi] at e1;cases e1
    rw [List.getElem?_set_self hiσ] at e2
    cases e2
    exact ⟨u,r,.inl ⟨hk,by simp⟩⟩
   ·rw [List.getElem?_set_ne (Ne.symm hj)] at e2
    obtain ⟨u',r',q⟩:=hl j y v' e1 e2 e3
    refine ⟨u',r',?_⟩
    rcases q with ⟨k,e⟩ | ⟨k,c,e,z⟩
    ·refine .inl ⟨k,?_⟩
     have:y≠x:=λe=>hj (nX hN e1 (e▸hi))
     simp [this,e]
    ·exact .inr ⟨k,c,e,z.sameBut hs (cne y c e)⟩
  ·obtain ⟨w',z⟩:=I.cell y c e
   exact ⟨w',z.sameBut hs (cne y c e)⟩
  ·obtain ⟨e,n,ne,nf,d⟩:=I.pin p hp
   exact ⟨(hs.2 p.1 ne).trans e,n,ne,nf,d⟩
 ·have hfn:X.fn x=true:=by
   rcases hf with z | z
   ·exact z
   ·rw [z] at hk;cases hk
  obtain ⟨c,hc⟩:=I.ok.has x (.inl hk)
  obtain ⟨w',z⟩:=I.cell x c hc
  refine wpAny_storeName_cell I.ok.kind hk hc z (λh' hc' hs=>?_)
  obtain ⟨oc,hoc,hocd⟩:=id z
  refine h {s with heap:=h'} ⟨I.ok,I.os,I.bare,⟨λb o e n hb hx=>?_,λb o e n hb hx=>?_,I.base.free,λb o e hx=>?_,I.base.tups,I.base.frzs,I.base.tbls⟩,⟨m,hn.sameBut hs (Ne.symm (cne x c hc)),λj y v' e1 e2 e3=>?_⟩,λy c' e=>?_,I.free,I.freeC,λp hp=>?_,tracked ⟨oc,hoc,I.freeC x c hc⟩ hs,by simpa using I.len⟩ ⟨c,hs,.inr hc⟩
  ·exact (hs.2 b (Nat.ne_of_lt (Nat.lt_of_lt_of_le (Heap.lt_size e) (I.ok.cab x c hfn hc)))).trans (I.base.keep b o e n hb hx)
  ·obtain ⟨sl,e1⟩:=I.base.slot b o e n hb hx
   exact ⟨sl,(hs.2 b (Nat.ne_of_lt (Nat.lt_of_lt_of_le (Heap.lt_size e) (I.ok.cab x c hfn hc)))).trans e1⟩
  ·obtain ⟨o',e1⟩:=I.base.there b o e hx
   exact ⟨o',(hs.2 b (Nat.ne_of_lt (Nat.lt_of_lt_of_le (Heap.lt_size e) (I.ok.cab x c hfn hc)))).trans e1⟩
  ·by_cases hj:j=i
   ·subst hj
    rw [hi] at e1;cases e1
    rw [List.getElem?_set_self hiσ] at e2
    cases e2
    exact ⟨u,r,.inr ⟨.inl hk,c,hc,hc'⟩⟩
   ·rw [List.getElem?_set_ne (Ne.symm hj)] at e2
    obtain ⟨u',r',q⟩:=hl j y v' e1 e2 e3
    refine ⟨u',r',?_⟩
    rcases q with q | ⟨k,c',e,z'⟩
    ·exact .inl q
    ·refine .inr ⟨k,c',e,z'.sameBut hs ?_⟩
     rintro rfl
     exact hj (nX hN e1 (I.ok.inj _ _ _ e hc▸hi))
  ·by_cases hcc:c'=c
   ·subst hcc;exact ⟨_,hc'⟩
   ·obtain ⟨w2,z2⟩:=I.cell y c' e
    exact ⟨w2,z2.sameBut hs hcc⟩
  ·obtain ⟨e,n,ne,nf,d⟩:=I.pin p hp
   refine ⟨(hs.2 p.1 ?_).trans e,n,ne,nf,d⟩
   intro q
   rw [q,hoc] at e
   have q':oc=p.2:=Option.some.inj e
   exact d w' (by rw [← q'];exact hocd)
theorem jC{M:Model}{A:Around}{E:Value->Shared->Prop}{i:Nat}{x:Str}{v:V}{u:Value}{Q:Unit->Shared->Prop}(I:Inv X pins σ H s)(hN:X.N.Nodup)(hi:X.N[i]?=some x)(hx:Loc X.env.scope x)(r:RelV v u)
  (h:∀s',Inv X pins (σ.set i (some v)) H s'->Q () s')(hf:X.fn x=true\/X.env.scope.names.lookup x=some .local:=by first | exact .inl rfl | exact .inr rfl | assumption):wpAny M A (storeName X.env x u) Q E s :=
 kH I hN hi hx r (λs' I' _=>h s' I') hf
theorem Inv.call'{s':Shared}{ch:List Addr}(I:Inv X pins σ H s)(ho:s'.os=s.os)(u:Un (frs X.stack) ch H H' s.heap s'.heap)(hok:HOk X.prog X.w H' s'.heap)(hg:AllBare s'.gens)
  (hch:∀b∈ch,(b∈X.ex\/X.s₀.heap.objs.size<=b)/\b≠X.env.locals/\(∀x c,X.env.cells.lookup x=some c->c≠b)/\∀p∈X.pn++pins,p.1≠b):Inv X pins σ H' s':=by
 obtain ⟨h',g',d',t',o'⟩:=s'
 have e:o'=s.os:=ho
 subst e
 exact I.call (g':=g') (t':=t') (d':=d') u hok hg hch
end
abbrev XK:=Value->Option Addr->Hp->Prop
abbrev St:=List (Option V)
abbrev VK:=V->Hp->Prop
abbrev TE:=St->Hp->VK->Prop
abbrev TT:=St->Hp->(Bool->Hp->Prop)->Prop
abbrev TA:=St->Hp->(List V->Hp->Prop)->Prop
structure Ends where
 nx:St->Hp->Prop
 rt:VK
 bk:St->Hp->Prop:=λ_ _=>False
 ct:St->Hp->Prop:=λ_ _=>False
abbrev TS:=Ends->St->Hp->Prop
def EP(X:Cx)(pins:List (Addr×Obj))(σ:St)(Q:VK)(u:Value)(s':Shared):Prop:=∃v H',Inv X pins σ H' s'/\RelV v u/\Q v H'
def TP(X:Cx)(pins:List (Addr×Obj))(σ:St)(Q:Bool->Hp->Prop)(b:Bool)(s':Shared):Prop:=∃H',Inv X pins σ H' s'/\Q b H'
def AP(X:Cx)(pins:List (Addr×Obj))(σ:St)(Q:List V->Hp->Prop)(us:List Value)(s':Shared):Prop:=∃vs H',Inv X pins σ H' s'/\Vals vs us/\Q vs H'
def SP(X:Cx)(pins:List (Addr×Obj))(D:Ends)(f:Flow)(s':Shared):Prop :=
 match f with
 | .next=>∃σ' H',Inv X pins σ' H' s'/\D.nx σ' H'
 | .brk=>∃σ' H',Inv X pins σ' H' s'/\D.bk σ' H'
 | .cont=>∃σ' H',Inv X pins σ' H' s'/\D.ct σ' H'
 | .ret u=>∃v σ' H',Inv X pins σ' H' s'/\RelV v u/\D.rt v H'
def PE(X:Cx)(e:Expr)(t:TE):Prop :=
 ∀(pins:List (Addr×Obj)) (s:Shared) (σ:St) (H:Hp) (Q:VK),Inv X pins σ H s->t σ H Q->wpAny (model X.prog X.w) X.A (eval e X.env) (EP X pins σ Q) X.xe s
def PT(X:Cx)(e:Expr)(t:TT):Prop :=
 ∀(pins:List (Addr×Obj)) (s:Shared) (σ:St) (H:Hp) (Q:Bool->Hp->Prop),Inv X pins σ H s->t σ H Q->wpAny (model X.prog X.w) X.A (isTrue e X.env (eval e X.env)) (TP X pins σ Q) X.xe s
def PW(X:Cx)(e:Expr)(t:TT):Prop :=
 ∀(whole:Sem Value) (pins:List (Addr×Obj)) (s:Shared) (σ:St) (H:Hp) (Q:Bool->Hp->Prop),Inv X pins σ H s->t σ H Q->wpAny (model X.prog X.w) X.A (isTrue e X.env whole) (TP X pins σ Q) X.xe s
theorem PW.pt{X:Cx}{e:Expr}{t:TT}(h:PW X e t):PT X e t:=h _
def PA(X:Cx)(es:List Expr)(t:TA):Prop :=
 ∀(pos:Pos) (pins:List (Addr×Obj)) (s:Shared) (σ:St) (H:Hp) (Q:List V->Hp->Prop),Inv X pins σ H s->t σ H Q->wpAny (model X.prog X.w) X.A (spliced (backTo pos (starEach es X.env))) (AP X pins σ Q) X.xe s
def PS(X:Cx)(st:Stmt)(t:TS):Prop :=
 ∀(pins:List (Addr×Obj)) (s:Shared) (σ:St) (H:Hp) (D:Ends),Inv X pins σ H s->t D σ H->wpAny (model X.prog X.w) X.A (exec st X.env) (SP X pins D) X.xe s
def PSs(X:Cx)(st:List Stmt)(t:TS):Prop :=
 ∀(pins:List (Addr×Obj)) (s:Shared) (σ:St) (H:Hp) (D:Ends),Inv X pins σ H s->t D σ H->wpAny (model X.prog X.w) X.A (execs st X.env) (SP X pins D) X.xe s
theorem thn{α:Type}{t:Sem α}{Q Q':α->Shared->Prop}{M:Model}{A:Around}{E:Value->Shared->Prop}{s:Shared}(h:wpAny M A t Q E s)(hQ:∀a s,Q a s->Q' a s):wpAny M A t Q' E s:=wpAny_mono h hQ λ_ _ x=>x
end L2
namespace L2
open PySem PySem.Spec PyProof.Rows
section
variable {X:Cx}
def oJ(i:Nat):TE:=fun σ H Q=>∃v,σ[i]?=some (some v)/\Q v H
def tC(v:V):TE:=λ_ H Q=>Q v H
theorem sT{i:Nat}{x:Str}{pos:Pos}(hN:X.N[i]?=some x)(hv:Vis X.env.scope x)(hd:(x==("__debug__":Str))=false:=by decide)(hcd:(x==("__classdict__":Str))=false:=by decide):PE X (.Name x pos) (oJ i):=by
 intro pins s σ H Q I h
 obtain ⟨v,e,h⟩:=h
 obtain ⟨m,hn,hl⟩:=I.loc
 obtain ⟨u,r,l⟩:=hl i x v hN e hv
 have fin:EP X pins σ Q u s:=⟨v,H,I,r,h⟩
 rcases l with ⟨hk,hm⟩ | ⟨hk,c,hc,hcell⟩
 ·exact wpAny_Name (wpAny_loadName_local I.ok.kind hk hn hm fin) hd
 ·rcases hk with hk | hk
  ·exact wpAny_Name (wpAny_loadName_cell I.ok.kind hk hc hcell fin) hd
  ·exact wpAny_Name (wpAny_loadName_free I.ok.kind hk hc hcell fin hcd) hd
theorem aj{i j pos}:PE X (.Constant (.int i) j pos) (tC (.int i)):=λ_ _ _ H _ I h=>wpAny_Constant_int ⟨.int i,H,I.tok _,⟨_,rfl⟩,h⟩
theorem dX{b j pos}:PE X (.Constant (.bool b) j pos) (tC (.bl b)):=λ_ _ _ H _ I h=>Constant_bool ⟨.bl b,H,I,rfl,h⟩
theorem aO{j pos}:PE X (.Constant .none j pos) (tC .non):=λ_ _ _ H _ I h=>Constant_none ⟨.non,H,I,rfl,h⟩
theorem aA{x j pos}:PE X (.Constant (.str x) j pos) (tC (.str x)):=λ_ _ _ H _ I h=>Calls.Constant_str ⟨.str x,H,I.tok _,⟨_,rfl⟩,h⟩
def Gl(X:Cx)(x:Str):Prop:=X.env.kindOf x=some .globalImplicit
theorem jy{E:Value->Shared->Prop}{pins:List (Addr×Obj)}{s:Shared}{σ:St}{H:Hp}{x:Str}{u:Value}{pos:Pos}{Q:Value->Shared->Prop}(I:Inv X pins σ H s)(hg:Gl X x)(hm:X.mg x=some u)(h:Q u s)
  (hd:(x==("__debug__":Str))=false:=by decide):wpAny (model X.prog X.w) X.A (eval (.Name x pos) X.env) Q E s :=
 Calls.Name_function_global I.ok.kind hg (Calls.loadGlobal_global (by rw [I.ok.glob];exact I.mod.glob.keeps I.bk) hm h) hd
theorem mr{E:Value->Shared->Prop}{pins:List (Addr×Obj)}{s:Shared}{σ:St}{H:Hp}{x:Str}{u:Value}{pos:Pos}{Q:Value->Shared->Prop}(I:Inv X pins σ H s)(hg:Gl X x)(hm:X.mg x=none)(hv:bootBuiltins x=some u)(h:Q u s)
  (hn:x≠"__name__":=by decide)(hd:(x==("__debug__":Str))=false:=by decide):wpAny (model X.prog X.w) X.A (eval (.Name x pos) X.env) Q E s:=by
 obtain ⟨mb,h1,h2⟩:=I.mod.blt
 exact Calls.Name_function_global I.ok.kind hg (Calls.loadGlobal_builtin (by rw [I.ok.glob];exact I.mod.glob.keeps I.bk) hm (by rw [I.ok.blt];exact h1.keeps I.bk) ((h2 x hn).trans hv) h) hd
theorem bK{x:Str}{v:V}{u:Value}{pos:Pos}(hg:Gl X x)(hm:X.mg x=some u)(r:RelV v u)(hd:(x==("__debug__":Str))=false:=by decide):PE X (.Name x pos) (tC v) :=
 λ_ _ _ H _ I h=>jy I hg hm ⟨v,H,I,r,h⟩ hd
theorem jw{x:Str}{v:V}{u:Value}{pos:Pos}(hg:Gl X x)(hm:X.mg x=none)(hv:bootBuiltins x=some u)(r:RelV v u)(hn:x≠"__name__":=by decide)(hd:(x==("__debug__":Str))=false:=by decide):PE X (.Name x pos) (tC v) :=
 λ_ _ _ H _ I h=>mr I hg hm hv ⟨v,H,I,r,h⟩ hn hd
variable {a b:Expr}{ta tb:TE}{pos:Pos}
def PC(X:Cx)(op:CmpOp)(a b:Expr)(t:TE):Prop :=
 ∀(pins:List (Addr×Obj)) (s:Shared) (σ:St) (H:Hp) (Q:VK),Inv X pins σ H s->t σ H Q ->
  wpAny (model X.prog X.w) X.A (eval a X.env) (λv s₁=>wpAny (model X.prog X.w) X.A (eval b X.env) (λu s₂=>wpAny (model X.prog X.w) X.A (compareOp op v u) (EP X pins σ Q) X.xe s₂) X.xe s₁) X.xe s
def tB(t:TE):TT:=fun σ H Q=>t σ H λx H1=>∃c,x=.bl c/\Q c H1
theorem xr{op:CmpOp}{t:TE}(h:PC X op a b t)(h1:behindInMarks op b=false:=by first | exact nobehind _ (by decide) (by decide) | rfl):PT X (.Compare a [op] [b] pos) (tB t):=by
 intro pins s σ H Q I hw
 refine wpAny_isTrue_Compare1 (thn (h pins s σ H _ I hw) λv s1 h1=>thn h1 λu s2 h2=>thn h2 λc s3 ⟨x,H1,I1,r1,q1⟩=>?_) h1
 obtain ⟨d,rfl,q⟩:=q1
 cases r1
 exact wpAny_truthy_bool ⟨H1,I1,q⟩
theorem bD{e:Expr}{t:TE}(h:PE X e t)(he:∀whole,isTrue e X.env whole=(do let v ← whole;standAt e.pos;holding [v] (truthy v)):=by intro _;rfl):PT X e (tB t):=by
 intro pins s σ H Q I hw
 refine isTrue_plain (thn (h pins s σ H _ I hw) λv s1 ⟨x,H1,I1,r1,q1⟩=>?_) (he _)
 obtain ⟨d,rfl,q⟩:=q1
 cases r1
 exact wpAny_truthy_bool ⟨H1,I1,q⟩
variable {tA tB':TT}{rest:List Expr}
def yH(t u:TT):TT:=fun σ H Q=>t σ H λc H1=>if c=true then u σ H1 Q else Q false H1
def tOr(t u:TT):TT:=fun σ H Q=>t σ H λc H1=>if c=true then Q true H1 else u σ H1 Q
def zE(t:TT):TT:=fun σ H Q=>t σ H λc H1=>Q (!c) H1
theorem cS(ha:PT X a tA):PW X (.BoolOp .And [a] pos) tA:=by
 intro wh pins s σ H Q I h
 refine isTrue_and (thn (ha pins s σ H Q I h) λc s1 e=>?_)
 cases c with
 | true=>exact isTrue_and_nil e
 | false=>exact e
theorem gW(ha:PT X a tA):PW X (.BoolOp .Or [a] pos) tA:=by
 intro wh pins s σ H Q I h
 refine isTrue_or (thn (ha pins s σ H Q I h) λc s1 e=>?_)
 cases c with
 | false=>exact isTrue_or_nil e
 | true=>exact e
theorem da(ha:PT X a tA)(hb:PW X (.BoolOp .And (b::rest) pos) tB'):PW X (.BoolOp .And (a::b::rest) pos) (yH tA tB'):=by
 intro wh pins s σ H Q I h
 refine isTrue_and (thn (ha pins s σ H _ I h) λc s1 ⟨H1,I1,q1⟩=>?_)
 cases c with
 | true=>exact hb wh pins s1 σ H1 Q I1 q1
 | false=>exact ⟨H1,I1,q1⟩
theorem ij(ha:PT X a tA)(hb:PW X (.BoolOp .Or (b::rest) pos) tB'):PW X (.BoolOp .Or (a::b::rest) pos) (tOr tA tB'):=by
 intro wh pins s σ H Q I h
 refine isTrue_or (thn (ha pins s σ H _ I h) λc s1 ⟨H1,I1,q1⟩=>?_)
 cases c with
 | true=>exact ⟨H1,I1,q1⟩
 | false=>exact hb wh pins s1 σ H1 Q I1 q1
theorem jP(ha:PT X a tA):PT X (.UnaryOp .Not a pos) (zE tA):=by
 intro pins s σ H Q I h
 exact isTrue_not (ha pins s σ H (λc H1=>Q (!c) H1) I h)
def yG(ta tb:TE):TE:=fun σ H Q=>ta σ H λx H1=>∃c,x=.bl c/\if c=true then tb σ H1 Q else Q (.bl false) H1
def zD(ta tb:TE):TE:=fun σ H Q=>ta σ H λx H1=>∃c,x=.bl c/\if c=true then Q (.bl true) H1 else tb σ H1 Q
def yB(ta:TE):TE:=fun σ H Q=>ta σ H λx H1=>∃c,x=.bl c/\Q (.bl (!c)) H1
theorem gX{op}{t:TE}(h:PE X a t):PE X (.BoolOp op [a] pos) t:=λpins s σ H Q I hw=>BoolOp_one (h pins s σ H Q I hw)
theorem f7(ha:PE X a ta)(hb:PE X (.BoolOp .And (b::rest) pos) tb):PE X (.BoolOp .And (a::b::rest) pos) (yG ta tb):=by
 intro pins s σ H Q I h
 refine BoolOp_and (thn (ha pins s σ H _ I h) λv s1 ⟨x,H1,I1,r1,q1⟩=>?_)
 obtain ⟨c,rfl,q1⟩:=q1
 cases r1
 refine wpAny_truthy_bool ?_
 cases c with
 | true=>exact hb pins s1 σ H1 Q I1 q1
 | false=>exact ⟨.bl false,H1,I1,rfl,q1⟩
theorem yX(ha:PE X a ta)(hb:PE X (.BoolOp .Or (b::rest) pos) tb):PE X (.BoolOp .Or (a::b::rest) pos) (zD ta tb):=by
 intro pins s σ H Q I h
 refine BoolOp_or (thn (ha pins s σ H _ I h) λv s1 ⟨x,H1,I1,r1,q1⟩=>?_)
 obtain ⟨c,rfl,q1⟩:=q1
 cases r1
 refine wpAny_truthy_bool ?_
 cases c with
 | false=>exact hb pins s1 σ H1 Q I1 q1
 | true=>exact ⟨.bl true,H1,I1,rfl,q1⟩
theorem xw(ha:PE X a ta):PE X (.UnaryOp .Not a pos) (yB ta):=by
 intro pins s σ H Q I h
 refine UnaryOp_ (thn (ha pins s σ H _ I h) λv s1 ⟨x,H1,I1,r1,q1⟩=>?_)
 obtain ⟨c,rfl,q1⟩:=q1
 cases r1
 exact not_of (wpAny_truthy_bool ⟨.bl (!c),H1,I1,rfl,q1⟩)
def tIf(t:TT)(ta tb:TE):TE:=fun σ H Q=>t σ H λc H1=>if c=true then ta σ H1 Q else tb σ H1 Q
theorem il{c:Expr}(hc:PT X c tA)(ha:PE X a ta)(hb:PE X b tb):PE X (.IfExp c a b pos) (tIf tA ta tb):=by
 intro pins s σ H Q I h
 refine wpAny_IfExp (thn (hc pins s σ H _ I h) λd s1 ⟨H1,I1,q1⟩=>?_)
 cases d with
 | true=>exact ha pins s1 σ H1 Q I1 q1
 | false=>exact hb pins s1 σ H1 Q I1 q1
end
end L2
namespace L2
open PySem PySem.Spec PyProof.Rows
def SqL(K:PySem.W.Frag)(H:Hp)(a:Addr)(xs:List V):Prop :=
 Rd H a (.lst xs) \/
  ∃(o:Obj) (its:Array Value) (n:Nat),K.lookup a=some o/\o.cls=.type "list"/\o.dict=none/\o.data=.seq its n/\its.size<=sizeLine/\Vals xs its.toList
def SqT(K:PySem.W.Frag)(H:Hp)(a:Addr)(xs:List V):Prop :=
 Rd H a (.tup xs) \/
  ∃(o:Obj) (its:Array Value) (n:Nat),K.lookup a=some o/\o.cls=.type "tuple"/\o.data=.seq its n/\its.size<=sizeLine/\Vals xs its.toList
def zU:Value->Option V
 | .none=>some .non
 | .bool b=>some (.bl b)
 | .int i _=>some (.int i)
 | .str x _=>some (.str x)
 | .bytes b _=>some (.byt b)
 | .float b _=>some (.flt b)
 | .ref a=>some (.ref a)
 | .type n=>some (.ty n)
 | _=>none
theorem RelV.abs{x:V}{u:Value}(r:RelV x u):zU u=some x:=by
 cases x with
 | non=>cases r;rfl
 | bl _=>cases r;rfl
 | int _=>obtain ⟨t,rfl⟩:=r;rfl
 | str _=>obtain ⟨t,rfl⟩:=r;rfl
 | byt _=>obtain ⟨t,rfl⟩:=r;rfl
 | flt _=>obtain ⟨t,rfl⟩:=r;rfl
 | ref _=>cases r;rfl
 | ty _=>cases r;rfl
theorem RelV.inj{x y:V}{u:Value}(r:RelV x u)(q:RelV y u):x=y:=Option.some.inj (r.abs.symm.trans q.abs)
theorem Vals.inj:∀{xs ys:List V} {us:List Value},Vals xs us->Vals ys us->xs=ys
 | _,_,_,.nil,.nil=>rfl
 | _,_,_,.cons r t,.cons r' t'=>by rw [r.inj r',Vals.inj t t']
section
variable {X:Cx}{pins:List (Addr×Obj)}{σ:St}{H:Hp}{s:Shared}{a:Addr}{xs ys:List V}
theorem SqL.of{K:PySem.W.Frag}(h:H a=some (.lst xs)):SqL K H a xs:=.inl (.inl h)
theorem SqT.of{K:PySem.W.Frag}(h:H a=some (.tup xs)):SqT K H a xs:=.inl (.inl h)
theorem Inv.list(I:Inv X pins σ H s)(h:SqL X.K H a xs):∃its:List Value,Vals xs its/\PlainL s.heap a its.toArray/\xs.length<=sizeLine:=by
 rcases h with h | ⟨o,its,n,hk,hc,hd,hs,hz,r⟩
 ·obtain ⟨z,its,n,r,e⟩:=h.ok I.hok
  exact ⟨its,r,⟨_,n,e,rfl,rfl,rfl⟩,z⟩
 ·refine ⟨its.toList,r,⟨o,n,I.kIn a o hk,hc,hd,by simpa using hs⟩,?_⟩
  have e:=r.length
  simp only [Array.length_toList] at e
  omega
theorem Inv.tuple(I:Inv X pins σ H s)(h:SqT X.K H a xs):∃its:List Value,Vals xs its/\IsTup s.heap a its.toArray/\xs.length<=sizeLine:=by
 rcases h with h | ⟨o,its,n,hk,hc,hs,hz,r⟩
 ·obtain ⟨z,its,r,p⟩:=h.ok I.hok
  exact ⟨its,r,p,z⟩
 ·refine ⟨its.toList,r,⟨o,I.kIn a o hk,hc,n,by simpa using hs⟩,?_⟩
  have e:=r.length
  simp only [Array.length_toList] at e
  omega
theorem Inv.list_inj(I:Inv X pins σ H s)(h:SqL X.K H a xs)(h':SqL X.K H a ys):xs=ys:=by
 obtain ⟨its,r,⟨o,n,e,_,_,d⟩,_⟩:=I.list h
 obtain ⟨its',r',⟨o',n',e',_,_,d'⟩,_⟩:=I.list h'
 rw [e] at e';cases e'
 rw [d] at d'
 injection d' with d1 _
 have:its=its':=by simpa using congrArg Array.toList d1
 subst this
 exact r.inj r'
theorem Inv.tuple_inj(I:Inv X pins σ H s)(h:SqT X.K H a xs)(h':SqT X.K H a ys):xs=ys:=by
 obtain ⟨its,r,⟨o,e,_,n,d⟩,_⟩:=I.tuple h
 obtain ⟨its',r',⟨o',e',_,n',d'⟩,_⟩:=I.tuple h'
 rw [e] at e';cases e'
 rw [d] at d'
 injection d' with d1 _
 have:its=its':=by simpa using congrArg Array.toList d1
 subst this
 exact r.inj r'
end
abbrev Cx.wish(X:Cx)(E:Value->Shared->Prop):Cx:={X with xe:=E}
abbrev Cx.nox(X:Cx):Cx:=X.wish λ_ _=>False
theorem Cx.Ok.wish{X:Cx}(ok:X.Ok)(E:Value->Shared->Prop):(X.wish E).Ok :=
 ⟨ok.mod,ok.kind,ok.glob,ok.blt,ok.above,ok.inj,ok.has,ok.cab,ok.hd,ok.frames,ok.stk,ok.exf,ok.bs,ok.bsz,ok.noex,ok.exfs,ok.funs,ok.frf⟩
theorem Cx.Ok.unwish{X:Cx}{E:Value->Shared->Prop}(ok:(X.wish E).Ok):X.Ok :=
 ⟨ok.mod,ok.kind,ok.glob,ok.blt,ok.above,ok.inj,ok.has,ok.cab,ok.hd,ok.frames,ok.stk,ok.exf,ok.bs,ok.bsz,ok.noex,ok.exfs,ok.funs,ok.frf⟩
section
variable {X:Cx}{pins:List (Addr×Obj)}{σ:St}{H:Hp}{s:Shared}{E:Value->Shared->Prop}
theorem Inv.wish(I:Inv X pins σ H s)(E:Value->Shared->Prop):Inv (X.wish E) pins σ H s:=⟨I.ok.wish E,I.os,I.bare,I.base,I.loc,I.cell,I.free,I.freeC,I.pin,I.hok,I.len⟩
theorem Inv.unwish(I:Inv (X.wish E) pins σ H s):Inv X pins σ H s:=⟨I.ok.unwish,I.os,I.bare,I.base,I.loc,I.cell,I.free,I.freeC,I.pin,I.hok,I.len⟩
theorem SP.unwish{D:Ends}{f:Flow}{s':Shared}(h:SP (X.wish E) pins D f s'):SP X pins D f s':=by
 cases f with
 | next=>obtain ⟨σ',H',I,q⟩:=h;exact ⟨σ',H',I.unwish,q⟩
 | brk=>obtain ⟨σ',H',I,q⟩:=h;exact ⟨σ',H',I.unwish,q⟩
 | cont=>obtain ⟨σ',H',I,q⟩:=h;exact ⟨σ',H',I.unwish,q⟩
 | ret u=>obtain ⟨v,σ',H',I,r,q⟩:=h;exact ⟨v,σ',H',I.unwish,r,q⟩
theorem PSs.nox{st:List Stmt}{t:TS}(h:PSs X.nox st t):PSs X st t:=λpins s σ H D I hw =>
 wpAny_mono (h pins s σ H D (I.wish _) hw) (λ_ _ q=>q.unwish) λ_ _ z=>False.elim z
end
section
variable {X:Cx}{st:Stmt}{rest:List Stmt}{t u:TS}{e:Expr}{te:TE}{pos:Pos}
def wz:TS:=λD σ H=>D.nx σ H
def zB(t u:TS):TS:=λD σ H=>t {D with nx:=u D} σ H
theorem au:PSs X [] wz:=λ_ _ σ H _ I h=>wpAny_execs_nil ⟨σ,H,I,h⟩
theorem ac(h1:PS X st t)(h2:PSs X rest u):PSs X (st::rest) (zB t u):=by
 intro pins s σ H D I h
 refine wpAny_execs_cons (thn (h1 pins s σ H {D with nx:=u D} I h) λf s1 q=>?_)
 cases f with
 | next =>
  obtain ⟨σ',H',I',q⟩:=q
  exact h2 pins s1 σ' H' D I' q
 | ret v=>exact q
 | brk=>exact q
 | cont=>exact q
theorem af(h1:PS X st t):PSs X [st] t:=by
 intro pins s σ H D I h
 refine wpAny_execs_cons (thn (h1 pins s σ H D I h) λf s1 q=>?_)
 cases f with
 | next=>exact wpAny_execs_nil q
 | ret v=>exact q
 | brk=>exact q
 | cont=>exact q
theorem vt:PS X (.Pass pos) wz:=λ_ _ σ H _ I h=>wpAny_Pass ⟨σ,H,I,h⟩
theorem Inv.quiet{pins:List (Addr×Obj)}{σ:St}{H:Hp}{s:Shared}(I:Inv X pins σ H s):interactive X.env=false:=by simp [interactive,I.ok.kind]
def yD(te:TE):TS:=λD σ H=>te σ H λ_ H1=>D.nx σ H1
theorem bz(he:PE X e te)(hs:swapsWith e none pos.line X.env=pure false:=by rfl):PS X (.Expr e pos) (yD te):=by
 intro pins s σ H D I h
 exact wpAny_Expr_any (thn (he pins s σ H _ I h) λv s1 ⟨x,H1,I1,r1,q1⟩=>⟨σ,H1,I1,q1⟩) I.quiet hs
def zC(te:TE):TS:=λD σ H=>te σ H D.rt
theorem ao(he:PE X e te):PS X (.Return (some e) pos) (zC te):=by
 intro pins s σ H D I h
 exact wpAny_Return_some (thn (he pins s σ H _ I h) λv s1 ⟨x,H1,I1,r1,q1⟩=>⟨x,σ,H1,I1,r1,q1⟩)
def yz:TS:=λD _ H=>D.rt .non H
theorem vq:PS X (.Return none pos) yz:=λ_ _ σ H _ I h=>wpAny_Return_none ⟨.non,σ,H,I,rfl,h⟩
def zG(c:TT)(t u:TS):TS:=λD σ H=>c σ H λb H1=>if b=true then t D σ H1 else u D σ H1
theorem aC{c:Expr}{a b:List Stmt}{tc:TT}(hc:PT X c tc)(ha:PSs X a t)(hb:PSs X b u):PS X (.If c a b pos) (zG tc t u):=by
 intro pins s σ H D I h
 refine wpAny_If (thn (hc pins s σ H _ I h) λd s1 ⟨H1,I1,q1⟩=>?_)
 cases d with
 | true=>exact ha pins s1 σ H1 D I1 q1
 | false=>exact hb pins s1 σ H1 D I1 q1
def xa:TS:=λ_ _ _=>False
theorem aB{sts:List Stmt}:PSs X sts xa:=λ_ _ _ _ _ _ h=>h.elim
end
abbrev TG:=V->St->Hp->(St->Hp->Prop)->Prop
def PG(X:Cx)(target:Expr)(t:TG):Prop :=
 ∀(pins:List (Addr×Obj)) (s:Shared) (σ:St) (H:Hp) (v:V) (u:Value) (Q:St->Hp->Prop),Inv X pins σ H s->RelV v u->t v σ H Q ->
  wpAny (model X.prog X.w) X.A (assign target X.env u) (λ_ s'=>∃σ' H',Inv X pins σ' H' s'/\Q σ' H') X.xe s
section
variable {X:Cx}{pos:Pos}
def jg(i:Nat):TG:=λv σ H Q=>Q (σ.set i (some v)) H
theorem fg{i:Nat}{x:Str}(hN:X.N.Nodup)(hi:X.N[i]?=some x)(hx:Loc X.env.scope x)(hf:X.fn x=true\/X.env.scope.names.lookup x=some .local:=by first | exact .inl rfl | exact .inr rfl | assumption):PG X (.Name x pos) (jg i):=by
 intro pins s σ H v u Q I r h
 exact wpAny_assign_Name (jC I hN hi hx r (λs' I'=>⟨_,H,I',h⟩) hf)
def yF(te:TE)(g:TG):TS:=λD σ H=>te σ H λx H1=>g x σ H1 D.nx
theorem aD{i:Nat}{x:Str}{e:Expr}{te:TE}{pos':Pos}(hN:X.N.Nodup)(hi:X.N[i]?=some x)(hx:Loc X.env.scope x)(he:PE X e te)(hs:swapsWith e (some (.Name x pos')) pos.line X.env=pure false:=by rfl)(hf:X.fn x=true\/X.env.scope.names.lookup x=some .local:=by first | exact .inl rfl | exact .inr rfl | assumption) :
  PS X (.Assign [.Name x pos'] e pos) (yF te (jg i)):=by
 intro pins s σ H D I h
 refine wpAny_Assign_Name (thn (he pins s σ H _ I h) λv s1 ⟨y,H1,I1,r1,q1⟩=>?_) hs
 exact jC I1 hN hi hx r1 (λs2 I2=>⟨_,H1,I2,q1⟩) hf
end
section
variable {X:Cx}{pos:Pos}
def w9(c:TT)(tb:TS):TS:=λD σ H=>∃W:Nat->St->Hp->Prop,(∃m,W m σ H)/\∀m σ H,W m σ H ->
 c σ H λb H1=>if b=true then ∃N:St->Hp->Prop,(∀σ' H',N σ' H'->∃m',m'<m/\W m' σ' H')/\tb {D with nx:=N,ct:=N,bk:=D.nx} σ H1 else D.nx σ H1
theorem jQ{c:Expr}{body:List Stmt}{tc:TT}{tb:TS}(hp:PassesOwn (model X.prog X.w) X.A X.env X.xe)(hc:PT X c tc)(hb:PSs X body tb):PS X (.While c body [] pos) (w9 tc tb):=by
 intro pins s σ H D I h
 obtain ⟨W,⟨m0,w0⟩,turn⟩:=h
 refine wpAny_While (codeAny_whileLoop (λn s'=>∃σ' H',Inv X pins σ' H' s'/\W n σ' H') ?_ m0 ⟨σ,H,I,w0⟩)
 rintro n s1 ⟨σ1,H1,I1,w1⟩
 refine wpAny_passesOwn hp (thn (hc pins s1 σ1 H1 _ I1 (turn n σ1 H1 w1)) λb s2 ⟨H2,I2,q2⟩=>?_)
 cases b with
 | true =>
  obtain ⟨N,hN,q2⟩:=q2
  rw [if_pos rfl]
  refine wpAny_passesOwn hp (thn (hb pins s2 σ1 H2 _ I2 q2) λf s3 q3=>?_)
  cases f with
  | next =>
   obtain ⟨σ3,H3,I3,n3⟩:=q3
   obtain ⟨m',hm,w3⟩:=hN σ3 H3 n3
   exact ⟨m',hm,σ3,H3,I3,w3⟩
  | cont =>
   obtain ⟨σ3,H3,I3,n3⟩:=q3
   obtain ⟨m',hm,w3⟩:=hN σ3 H3 n3
   exact ⟨m',hm,σ3,H3,I3,w3⟩
  | brk=>exact q3
  | ret v=>exact q3
 | false =>
  rw [if_neg Bool.false_ne_true]
  exact wpAny_execs_nil ⟨σ1,H2,I2,q2⟩
end
structure It where
 go:Nat->Hp->Prop
 yld:Nat->Hp->V->Hp->Prop
 stop:Nat->Hp->Prop
def mH(X:Cx)(pins:List (Addr×Obj))(H:Hp)(b:Addr):Prop :=
 H b=none/\b≠X.env.locals/\b∉X.fs/\(b∈X.ex\/X.s₀.heap.objs.size<=b)/\(∀x c,X.env.cells.lookup x=some c->c≠b)/\∀p∈X.pn++pins,p.1≠b
theorem Inv.fpOk{X:Cx}{pins:List (Addr×Obj)}{σ:St}{H H':Hp}{s:Shared}{b:Addr}(I:Inv X pins σ H s)(hb:s.heap.objs.size<=b)(hn:H' b=none):mH X pins H' b:=by
 refine ⟨hn,Nat.ne_of_gt (Nat.lt_of_lt_of_le I.lt hb),I.nofs hb,.inr (Nat.le_trans I.sz hb),λx c e z=>?_,λp hp z=>?_⟩
 ·obtain ⟨v,q⟩:=I.cell x c e
  exact absurd (Nat.lt_of_lt_of_le q.lt (by rw [z];exact hb)) (Nat.lt_irrefl _)
 ·exact absurd (Nat.lt_of_lt_of_le (Heap.lt_size (I.pin p hp).1) (by rw [z];exact hb)) (Nat.lt_irrefl _)
structure uS(P:Program)(w:World)(K:PySem.W.Frag)(tg:Expr)(J:It)(fp:List Addr)(it:Addr)(tn:Nat->Heap->Prop):Prop where
 mem:it∈fp
 obj:∀i h,tn i h->∀b∈fp,∃o,h.get? b=some o/\∀v,o.data≠.cell v
 keep:∀i h h',tn i h->(∀b∈fp,∀o,h.get? b=some o->h'.get? b=some o)->tn i h'
 item:∀(X:Cx),X.prog=P->X.w=w->X.K=K->X.calm=true->∀(i:Nat) (pins:List (Addr×Obj)) (s:Shared) (σ:St) (H:Hp) (E:Value->Shared->Prop),Inv X pins σ H s->(∀b∈fp,mH X pins H b)->tn i s.heap->J.go i H ->
  wpAny (model P w) X.A (pyNext (.ref it)) (λr s1=>∃u,r=some u /\
   wpAny (model P w) X.A (letOwnedTupleGo tg (.ref it) u) (λ_ s2=>∃x H',Inv X pins σ H' s2/\RelV x u/\J.yld i H x H'/\tn (i+1) s2.heap/\∀b∈fp,H' b=none) E s1) E s
 done:∀(X:Cx),X.prog=P->X.w=w->X.K=K->X.calm=true->∀(i:Nat) (pins:List (Addr×Obj)) (s:Shared) (σ:St) (H:Hp) (E:Value->Shared->Prop),Inv X pins σ H s->(∀b∈fp,mH X pins H b)->tn i s.heap->J.stop i H ->
  wpAny (model P w) X.A (pyNext (.ref it)) (λr s1=>r=none/\Inv X pins σ H s1) E s
 self:∀(A:Around) (i:Nat) (s:Shared) (Q:Value->Shared->Prop) (E:Value->Shared->Prop),tn i s.heap->Q (.ref it) s->wpAny (model P w) A (pyIter (.ref it)) Q E s
abbrev TI:=St->Hp->(It->Hp->Prop)->Prop
def PIE(X:Cx)(pins:List (Addr×Obj))(σ:St)(tg:Expr)(R:It->Hp->Prop)(itv:Value)(s2:Shared):Prop :=
 ∃(it:Addr) (fp:List Addr) (tn:Nat->Heap->Prop) (J:It) (H':Hp),itv=.ref it/\Inv X pins σ H' s2/\uS X.prog X.w X.K tg J fp it tn/\tn 0 s2.heap/\(∀b∈fp,mH X pins H' b)/\R J H'
def PI(X:Cx)(tg iter:Expr)(wi:TI):Prop :=
 ∀(pins:List (Addr×Obj)) (s:Shared) (σ:St) (H:Hp) (R:It->Hp->Prop),Inv X pins σ H s->wi σ H R ->
  wpAny (model X.prog X.w) X.A (eval iter X.env) (λv s1=>wpAny (model X.prog X.w) X.A (pyIter v) (PIE X pins σ tg R) X.xe s1) X.xe s
theorem ql{M:Model}{A:Around}{E:Value->Shared->Prop}{s:Shared}{tg:Expr}{it:Addr}{u:Value}{o:Obj}{n:String}{vs:Array Value}{Q:Unit->Shared->Prop}(ho:s.heap.get? it=some o)(hc:o.cls=.type n)(hd:o.data=.fields vs)
  (hn:["enumerate","zip","dict_itemiterator","dict_reverseitemiterator","odict_iterator","itertools.zip_longest","itertools.pairwise"].contains n=false)(hQ:Q () s):wpAny M A (letOwnedTupleGo tg (.ref it) u) Q E s:=by
 unfold letOwnedTupleGo
 cases tg<;>first
  | exact wpAny_pure hQ
  | (cases u<;>first
    | exact wpAny_pure hQ
    | (refine wpAny_bind (wpAny_load ho ?_)
       rw [hc,hd]
       show wpAny M A (if (["enumerate","zip","dict_itemiterator","dict_reverseitemiterator","odict_iterator","itertools.zip_longest","itertools.pairwise"].contains n&&vs[0]?==some (rawInt _))=true then _ else _) Q E s
       rw [if_neg (by intro h;rw [hn,Bool.false_and] at h;cases h)]
       exact wpAny_pure hQ))
def Itl(K:PySem.W.Frag)(a:Addr):It :=
 ⟨λi H=>∃xs x,SqL K H a xs/\xs[i]?=some x,λi H x H'=>H'=H/\∀xs,SqL K H a xs->xs[i]?=some x,λi H=>∃xs,SqL K H a xs/\xs.length<=i⟩
def Itt(K:PySem.W.Frag)(a:Addr):It :=
 ⟨λi H=>∃xs x,SqT K H a xs/\xs[i]?=some x,λi H x H'=>H'=H/\∀xs,SqT K H a xs->xs[i]?=some x,λi H=>∃xs,SqT K H a xs/\xs.length<=i⟩
def Itr(lo:Int)(n:Nat):It:=⟨λi _=>i<n,λi H x H'=>H'=H/\x=.int (lo+i),λi _=>n<=i⟩
theorem qE{P:Program}{w:World}{K:PySem.W.Frag}{tg:Expr}(a it:Addr):uS P w K tg (Itl K a) [it] it (λi h=>h.IsListIter it a i) where
 mem:=by simp
 obj:=λi h st b hb=>by
  have e:b=it:=by simpa using hb
  subst e
  obtain ⟨o,e,c,d⟩:=st
  exact ⟨o,e,λv z=>by rw [d] at z;cases z⟩
 keep:=λi h h' st k=>st.at λo e=>k it (by simp) o e
 item:=by
  intro X hP hw hK hc i pins s σ H E I hf st hg
  subst hP hw hK
  obtain ⟨xs,x,hq,hx⟩:=hg
  obtain ⟨its,rv,p,hz⟩:=I.list hq
  obtain ⟨u,hu,ru⟩:=rv.get hx
  obtain ⟨f0,f1,f2,f3,f4,f5⟩:=hf it (by simp)
  refine wpAny_pyNext_list_item st p.isList (x:=u) (by simpa using hu) λh' st' sb=>?_
  have I1:Inv X pins σ H {s with heap:=h'}:=I.turned (t':=s.toks) (λb o hb e=>(sb.2 b hb).trans e) f0 f1 f3 f4 f5
  obtain ⟨o,e,c,d⟩:=id st'
  exact ⟨u,rfl,ql (s:={s with heap:=h'}) e c d (by decide) ⟨x,H,I1,ru,⟨rfl,λys hy=>by rw [I.list_inj hy hq];exact hx⟩,st',λb hb=>(hf b hb).1⟩⟩
 done:=by
  intro X hP hw hK hc i pins s σ H E I hf st hg
  subst hP hw hK
  obtain ⟨xs,hq,hx⟩:=hg
  obtain ⟨its,rv,p,hz⟩:=I.list hq
  obtain ⟨f0,f1,f2,f3,f4,f5⟩:=hf it (by simp)
  have hl:=rv.length
  exact wpAny_pyNext_list_end (I.ok.hd hc) st p.isList (by simp;omega) λh' eb=>⟨rfl,I.turned (t':=s.toks) (λb o hb e=>eb b o hb e) f0 f1 f3 f4 f5⟩
 self:=λ_ _ _ _ _ st h=>wpAny_pyIter_listiter st h
theorem oG{P:Program}{w:World}{K:PySem.W.Frag}{tg:Expr}(a it:Addr):uS P w K tg (Itt K a) [it] it (λi h=>h.IsTupleIter it a i) where
 mem:=by simp
 obj:=λi h st b hb=>by
  have e:b=it:=by simpa using hb
  subst e
  obtain ⟨o,e,c,d⟩:=st
  exact ⟨o,e,λv z=>by rw [d] at z;cases z⟩
 keep:=λi h h' st k=>st.at λo e=>k it (by simp) o e
 item:=by
  intro X hP hw hK hc i pins s σ H E I hf st hg
  subst hP hw hK
  obtain ⟨xs,x,hq,hx⟩:=hg
  obtain ⟨its,rv,p,hz⟩:=I.tuple hq
  obtain ⟨u,hu,ru⟩:=rv.get hx
  obtain ⟨f0,f1,f2,f3,f4,f5⟩:=hf it (by simp)
  refine wpAny_pyNext_tuple_item st (show s.heap.IsTuple a its.toArray from p) (x:=u) (by simpa using hu) λh' st' sb=>?_
  have I1:Inv X pins σ H {s with heap:=h'}:=I.turned (t':=s.toks) (λb o hb e=>(sb.2 b hb).trans e) f0 f1 f3 f4 f5
  obtain ⟨o,e,c,d⟩:=id st'
  exact ⟨u,rfl,ql (s:={s with heap:=h'}) e c d (by decide) ⟨x,H,I1,ru,⟨rfl,λys hy=>by rw [I.tuple_inj hy hq];exact hx⟩,st',λb hb=>(hf b hb).1⟩⟩
 done:=by
  intro X hP hw hK hc i pins s σ H E I hf st hg
  subst hP hw hK
  obtain ⟨xs,hq,hx⟩:=hg
  obtain ⟨its,rv,p,hz⟩:=I.tuple hq
  obtain ⟨f0,f1,f2,f3,f4,f5⟩:=hf it (by simp)
  have hl:=rv.length
  exact wpAny_pyNext_tuple_end (I.ok.hd hc) st (show s.heap.IsTuple a its.toArray from p) (by simp;omega) λh' eb=>⟨rfl,I.turned (t':=s.toks) (λb o hb e=>eb b o hb e) f0 f1 f3 f4 f5⟩
 self:=λ_ _ _ _ _ st h=>wpAny_pyIter_tupleiter st h
theorem oH{P:Program}{w:World}{K:PySem.W.Frag}{tg:Expr}(it:Addr)(lo:Int)(n:Nat):uS P w K tg (Itr lo n) [it] it (λi h=>IsRangeIter h it (lo+(i:Nat)*1) ((n:Int)-(i:Nat)) 1) where
 mem:=by simp
 obj:=λi h st b hb=>by
  have e:b=it:=by simpa using hb
  subst e
  exact ⟨_,st,λv z=>by
   have z':Data.fields _=Data.cell v:=z
   cases z'⟩
 keep:=λi h h' st k=>k it (by simp) _ st
 item:=by
  intro X hP hw hK hc i pins s σ H E I hf st hg
  subst hP hw hK
  obtain ⟨f0,f1,f2,f3,f4,f5⟩:=hf it (by simp)
  have W:=Walks.range (prog:=X.prog) (w:=X.w) (I.ok.hd hc) it lo 1 n
  refine W.item i s _ _ hg st λv h' tk hv st' kk=>?_
  obtain ⟨t,rfl⟩:=hv
  have I1:Inv X pins σ H {s with heap:=h',toks:=tk}:=I.turned (λb o hb e=>kk b o (by simpa using hb) e) f0 f1 f3 f4 f5
  refine ⟨_,rfl,ql (s:={s with heap:=h',toks:=tk}) (n:="range_iterator") st' rfl rfl (by decide) ⟨.int (lo+i),H,I1,⟨t,?_⟩,⟨rfl,rfl⟩,st',λb hb=>(hf b hb).1⟩⟩
  rw [Int.mul_one]
 done:=by
  intro X hP hw hK hc i pins s σ H E I hf st hg
  subst hP hw hK
  obtain ⟨f0,f1,f2,f3,f4,f5⟩:=hf it (by simp)
  exact wpAny_pyNext_range_end (I.ok.hd hc) st (by have:n<=i:=hg;omega) λh' eb=>⟨rfl,I.turned (t':=s.toks) (λb o hb e=>eb b o hb e) f0 f1 f3 f4 f5⟩
 self:=λ_ _ _ _ _ st h=>wpAny_pyIter_rangeiter st h
end L2
namespace L2
open PySem PySem.Spec PyProof.Rows
section
variable {X:Cx}{tg:Expr}
def ze(K:PySem.W.Frag)(tl:TE):TI:=fun σ H R=>tl σ H λx H1=>∃a,x=.ref a/\(∃xs,SqL K H1 a xs)/\R (Itl K a) H1
def zR(K:PySem.W.Frag)(tl:TE):TI:=fun σ H R=>tl σ H λx H1=>∃a,x=.ref a/\(∃xs,SqT K H1 a xs)/\R (Itt K a) H1
theorem dU{l:Expr}{tl:TE}(hl:PE X l tl):PI X tg l (ze X.K tl):=by
 intro pins s σ H R I h
 refine thn (hl pins s σ H _ I h) λv s1 ⟨x,H1,I1,r1,q1⟩=>?_
 obtain ⟨a,e,⟨xs,hq⟩,q⟩:=q1
 subst e
 cases r1
 obtain ⟨its,rv,p,hz⟩:=I1.list hq
 refine wpAny_pyIter_list p.isList ?_
 refine ⟨s1.heap.objs.size,[s1.heap.objs.size],_,_,H1,rfl,I1.kept (t':=s1.toks) λb o e=>Heap.get?_push_of_some _ e,qE a _,⟨_,Heap.get?_push_size _ rfl,rfl,rfl⟩,λb hb=>?_,q⟩
 have e:b=s1.heap.objs.size:=by simpa using hb
 subst e
 exact I1.fpOk (Nat.le_refl _) (I1.hok.fresh (Nat.le_refl _))
theorem o8{l:Expr}{tl:TE}(hl:PE X l tl):PI X tg l (zR X.K tl):=by
 intro pins s σ H R I h
 refine thn (hl pins s σ H _ I h) λv s1 ⟨x,H1,I1,r1,q1⟩=>?_
 obtain ⟨a,e,⟨xs,hq⟩,q⟩:=q1
 subst e
 cases r1
 obtain ⟨its,rv,p,hz⟩:=I1.tuple hq
 refine wpAny_pyIter_tuple (show s1.heap.IsTuple a its.toArray from p) ?_
 refine ⟨s1.heap.objs.size,[s1.heap.objs.size],_,_,H1,rfl,I1.kept (t':=s1.toks) λb o e=>Heap.get?_push_of_some _ e,oG a _,⟨_,Heap.get?_push_size _ rfl,rfl,rfl⟩,λb hb=>?_,q⟩
 have e:b=s1.heap.objs.size:=by simpa using hb
 subst e
 exact I1.fpOk (Nat.le_refl _) (I1.hok.fresh (Nat.le_refl _))
theorem sP{pins:List (Addr×Obj)}{σ:St}{H:Hp}{s:Shared}{R:It->Hp->Prop}{E:Value->Shared->Prop}{lo hi:Int}{t u v:Tok}{tk:Nat}(I:Inv X pins σ H s)(h1:-(2 ^ 62)<=lo)(h2:lo<2 ^ 62)(h3:-(2 ^ 62)<=hi)(h4:hi<2 ^ 62)
  (q:R (Itr lo (hi-lo).toNat) H):wpAny (model X.prog X.w) X.A (pyIter (.ref s.heap.objs.size)) (PIE X pins σ tg R) E {s with heap:=s.heap.push {cls:=.type "range",data:=.fields #[.int lo t,.int hi u,.int 1 v]},toks:=tk}:=by
 refine wpAny_pyIter_range (IsRange.new ..) (small_one h1 h2 h3 h4) ?_
 have I1:Inv X pins σ H {s with heap:=s.heap.push {cls:=.type "range",data:=.fields #[.int lo t,.int hi u,.int 1 v]},toks:=tk}:=I.kept λb o e=>Heap.get?_push_of_some _ e
 refine ⟨(s.heap.push {cls:=.type "range",data:=.fields #[.int lo t,.int hi u,.int 1 v]}).objs.size,[(s.heap.push {cls:=.type "range",data:=.fields #[.int lo t,.int hi u,.int 1 v]}).objs.size],_,_,H,rfl,
  I1.kept (t':=tk) λb o e=>Heap.get?_push_of_some _ e,oH _ lo (hi-lo).toNat,?_,λb hb=>?_,q⟩
 ·have e1:lo+((0:Nat):Int)*1=lo:=by simp
  have e2:(((hi-lo).toNat:Nat):Int)-((0:Nat):Int)=Builtin.Range.rangeSize lo hi 1:=by rw [rangeSize_one];split<;>omega
  show IsRangeIter _ _ (lo+((0:Nat):Int)*1) ((((hi-lo).toNat:Nat):Int)-((0:Nat):Int)) 1
  rw [e1,e2]
  exact Heap.get?_push_size _ rfl
 ·have e:b=(s.heap.push {cls:=.type "range",data:=.fields #[.int lo t,.int hi u,.int 1 v]}).objs.size:=by simpa using hb
  subst e
  exact I1.fpOk (Nat.le_refl _) (I1.hok.fresh (Nat.le_refl _))
def zd(ta:TA):TI:=fun σ H R=>ta σ H λvs H1=>∃j:Int,vs=[.int j]/\-(2 ^ 62)<=j/\j<2 ^ 62/\R (Itr 0 j.toNat) H1
theorem dv{a:Expr}{ta:TA}{p pos:Pos}(hg:Gl X "range")(hm:X.mg "range"=none)(ha:PA X [a] ta)(hs:starEach [a] X.env=[(false,eval a X.env)]:=by rfl):PI X tg (.Call (.Name "range" p) [a] [] pos) (zd ta):=by
 intro pins s σ H R I h
 refine Call_ (mr I hg hm boot_range (PyProof.Rows.callWith_type1 (thn (ha pos pins s σ H _ I h) λus s1 ⟨vs,H1,I1,r1,q1⟩=>?_) hs rfl))
 obtain ⟨j,e,q1,q2,q⟩:=q1
 subst e
 cases r1 with
 | cons r rr =>
  cases rr
  obtain ⟨t,rfl⟩:=r
  exact call_range_1 (sP I1 (by omega) (by omega) q1 q2 (by simpa using q))
def zH(wi:TI)(g:TG)(tb:TS):TS:=λD σ H=>wi σ H λJ H1=>∃W:Nat->Nat->St->Hp->Prop,(∃m,W 0 m σ H1)/\∀i m σ H,W i m σ H ->
 (J.stop i H/\D.nx σ H)\/(J.go i H/\∃N:St->Hp->Prop,(∀σ' H',N σ' H'->∃m',m'<m/\W (i+1) m' σ' H')/\∀x H',J.yld i H x H'->g x σ H' fun σ2 H2=>tb {D with nx:=N,ct:=N,bk:=D.nx} σ2 H2)
def iX(fp:List Addr)(h:Heap):List (Addr×Obj):=fp.filterMap λb=>(h.get? b).map λo=>(b,o)
theorem cK{fp:List Addr}{h:Heap}{b:Addr}{o:Obj}(hb:b∈fp)(e:h.get? b=some o):(b,o)∈iX fp h:=List.mem_filterMap.mpr ⟨b,hb,by rw [e];rfl⟩
theorem rb{fp:List Addr}{h:Heap}{p:Addr×Obj}(hp:p∈iX fp h):p.1∈fp/\h.get? p.1=some p.2:=by
 obtain ⟨b,hb,e⟩:=List.mem_filterMap.mp hp
 cases q:h.get? b with
 | none=>rw [q] at e;cases e
 | some o =>
  rw [q] at e
  have e':(b,o)=p:=Option.some.inj e
  subst e'
  exact ⟨hb,q⟩
theorem Inv.pinned{pins:List (Addr×Obj)}{σ:St}{H:Hp}{s:Shared}{fp:List Addr}(I:Inv X pins σ H s)(hf:∀b∈fp,mH X pins H b)(ho:∀b∈fp,∃o,s.heap.get? b=some o/\∀v,o.data≠.cell v):Inv X (pins++iX fp s.heap) σ H s :=
 I.pins_of λp hp=>(List.mem_append.mp hp).elim (λz=>I.pin p (List.mem_append_right _ z)) λz=>by
  obtain ⟨hb,e⟩:=rb z
  obtain ⟨f0,f1,f2,_⟩:=hf p.1 hb
  obtain ⟨o,e',d⟩:=ho p.1 hb
  rw [e] at e';cases e'
  exact ⟨e,f0,f1,f2,d⟩
theorem Inv.unpinned{pins pl:List (Addr×Obj)}{σ:St}{H:Hp}{s:Shared}(I:Inv X (pins++pl) σ H s):Inv X pins σ H s:=I.pins_of λp hp=>I.pin p (List.mem_append_right _ (List.mem_append_left _ hp))
theorem jR{iter:Expr}{body:List Stmt}{wi:TI}{g:TG}{tb:TS}{pos:Pos}(hp:PassesOwn (model X.prog X.w) X.A X.env X.xe)(hc:X.calm=true)(hi:PI X tg iter wi)(hg:PG X tg g)(hb:PSs X body tb)
  (hs:∀x,foldedSetIterable iter X.env x=pure x:=by intro _;rfl):PS X (.For tg iter body [] pos) (zH wi g tb):=by
 intro pins s σ H D I h
 refine wpAny_For (thn (hi pins s σ H _ I h) λv s1 h1=>thn h1 λitv s2 h2=>?_) hs
 obtain ⟨it,fp,tn,J,H2,e,I2,T,st2,f2,W,⟨m0,w0⟩,turn⟩:=h2
 subst e
 have stat:∀{H':Hp},(∀b∈fp,H' b=none)->∀b∈fp,mH X pins H' b:=λhn b hb=>⟨hn b hb,(f2 b hb).2⟩
 refine codeAny_forLoop_any (λn s'=>∃i σ' H',Inv X pins σ' H' s'/\tn i s'.heap/\(∀b∈fp,H' b=none)/\W i n σ' H') ?_ m0 ⟨0,σ,H2,I2,st2,λb hb=>(f2 b hb).1,w0⟩
 rintro n s3 ⟨i,σ3,H3,I3,st3,fr3,w3⟩
 rcases turn i n σ3 H3 w3 with ⟨stop,qn⟩ | ⟨go,N,hN,step⟩
 ·refine wpAny_passesOwn hp (thn (T.done X rfl rfl rfl hc i pins s3 σ3 H3 X.xe I3 (stat fr3) st3 stop) λr s4 ⟨hr,I4⟩=>?_)
  subst hr
  exact wpAny_execs_nil ⟨σ3,H3,I4,qn⟩
 ·refine wpAny_passesOwn hp (thn (T.item X rfl rfl rfl hc i pins s3 σ3 H3 X.xe I3 (stat fr3) st3 go) λr s4 ⟨u,hr,h4⟩=>?_)
  subst hr
  refine wpAny_passesOwn hp (thn h4 λ_ s5 ⟨x,H5,I5,r5,y5,st5,fr5⟩=>?_)
  have I5':=I5.pinned (stat fr5) (T.obj _ _ st5)
  refine wpAny_passesOwn hp (thn (hg _ s5 σ3 H5 x u _ I5' r5 (step x H5 y5)) λ_ s6 ⟨σ6,H6,I6,q6⟩=>?_)
  refine wpAny_passesOwn hp (thn (hb _ s6 σ6 H6 _ I6 q6) λf s7 q7=>?_)
  have again:∀{σ7:St} {H7:Hp},Inv X (pins++iX fp s5.heap) σ7 H7 s7->N σ7 H7->∃m,m<n/\∃i σ' H',Inv X pins σ' H' s7/\tn i s7.heap/\(∀b∈fp,H' b=none)/\W i m σ' H':=λ{σ7 H7} I7 n7=>by
   obtain ⟨m',hm,w7⟩:=hN σ7 H7 n7
   refine ⟨m',hm,i+1,σ7,H7,I7.unpinned,T.keep _ _ _ st5 λb hb o e=>(I7.pin (b,o) (List.mem_append_right _ (List.mem_append_right _ (cK hb e)))).1,λb hb=>?_,w7⟩
   obtain ⟨o,e,d⟩:=T.obj _ _ st5 b hb
   exact (I7.pin (b,o) (List.mem_append_right _ (List.mem_append_right _ (cK hb e)))).2.1
  cases f with
  | next=>obtain ⟨σ7,H7,I7,n7⟩:=q7;exact again I7 n7
  | cont=>obtain ⟨σ7,H7,I7,n7⟩:=q7;exact again I7 n7
  | brk=>obtain ⟨σ7,H7,I7,q7⟩:=q7;exact ⟨σ7,H7,I7.unpinned,q7⟩
  | ret v=>obtain ⟨x7,σ7,H7,I7,r7,q7⟩:=q7;exact ⟨x7,σ7,H7,I7.unpinned,r7,q7⟩
end
theorem oq{K:PySem.W.Frag}{a:Addr}{xs:List V}{g:TG}{tb:TS}{D:Ends}{σ:St}{H:Hp}(Pv:Nat->St->Hp->Prop)(h0:Pv 0 σ H)(hl:∀i σ H,i<=xs.length->Pv i σ H->SqL K H a xs)
  (hs:∀i x σ H,xs[i]?=some x->Pv i σ H->g x σ H fun σ2 H2=>tb {D with nx:=Pv (i+1),ct:=Pv (i+1),bk:=D.nx} σ2 H2)(hd:∀σ H,Pv xs.length σ H->D.nx σ H) :
  ∃W:Nat->Nat->St->Hp->Prop,(∃m,W 0 m σ H)/\∀i m σ H,W i m σ H ->
   ((Itl K a).stop i H/\D.nx σ H)\/((Itl K a).go i H/\∃N:St->Hp->Prop,(∀σ' H',N σ' H'->∃m',m'<m/\W (i+1) m' σ' H')/\∀x H',(Itl K a).yld i H x H'->g x σ H' fun σ2 H2=>tb {D with nx:=N,ct:=N,bk:=D.nx} σ2 H2):=by
 refine ⟨λi m σ H=>m=xs.length-i/\i<=xs.length/\Pv i σ H,⟨xs.length,by simp,Nat.zero_le _,h0⟩,?_⟩
 rintro i m σ H ⟨rfl,hi,p⟩
 have q:=hl i σ H hi p
 by_cases hlt:i<xs.length
 ·refine .inr ⟨⟨xs,xs[i],q,by simp [hlt]⟩,Pv (i+1),fun σ' H' p'=>⟨xs.length-(i+1),by omega,rfl,hlt,p'⟩,λx H' y=>?_⟩
  obtain ⟨e,y⟩:=y
  subst e
  exact hs i x σ _ (y xs q) p
 ·have e:i=xs.length:=by omega
  subst e
  exact .inl ⟨⟨xs,q,Nat.le_refl _⟩,hd σ H p⟩
theorem v9{K:PySem.W.Frag}{a:Addr}{xs:List V}{g:TG}{tb:TS}{D:Ends}{σ:St}{H:Hp}(Pv:Nat->St->Hp->Prop)(h0:Pv 0 σ H)(hl:∀i σ H,i<=xs.length->Pv i σ H->SqT K H a xs)
  (hs:∀i x σ H,xs[i]?=some x->Pv i σ H->g x σ H fun σ2 H2=>tb {D with nx:=Pv (i+1),ct:=Pv (i+1),bk:=D.nx} σ2 H2)(hd:∀σ H,Pv xs.length σ H->D.nx σ H) :
  ∃W:Nat->Nat->St->Hp->Prop,(∃m,W 0 m σ H)/\∀i m σ H,W i m σ H ->
   ((Itt K a).stop i H/\D.nx σ H)\/((Itt K a).go i H/\∃N:St->Hp->Prop,(∀σ' H',N σ' H'->∃m',m'<m/\W (i+1) m' σ' H')/\∀x H',(Itt K a).yld i H x H'->g x σ H' fun σ2 H2=>tb {D with nx:=N,ct:=N,bk:=D.nx} σ2 H2):=by
 refine ⟨λi m σ H=>m=xs.length-i/\i<=xs.length/\Pv i σ H,⟨xs.length,by simp,Nat.zero_le _,h0⟩,?_⟩
 rintro i m σ H ⟨rfl,hi,p⟩
 have q:=hl i σ H hi p
 by_cases hlt:i<xs.length
 ·refine .inr ⟨⟨xs,xs[i],q,by simp [hlt]⟩,Pv (i+1),fun σ' H' p'=>⟨xs.length-(i+1),by omega,rfl,hlt,p'⟩,λx H' y=>?_⟩
  obtain ⟨e,y⟩:=y
  subst e
  exact hs i x σ _ (y xs q) p
 ·have e:i=xs.length:=by omega
  subst e
  exact .inl ⟨⟨xs,q,Nat.le_refl _⟩,hd σ H p⟩
theorem kX{lo:Int}{n:Nat}{g:TG}{tb:TS}{D:Ends}{σ:St}{H:Hp}(Pv:Nat->St->Hp->Prop)(h0:Pv 0 σ H)
  (hs:∀i σ H,i<n->Pv i σ H->g (.int (lo+i)) σ H fun σ2 H2=>tb {D with nx:=Pv (i+1),ct:=Pv (i+1),bk:=D.nx} σ2 H2)(hd:∀σ H,Pv n σ H->D.nx σ H) :
  ∃W:Nat->Nat->St->Hp->Prop,(∃m,W 0 m σ H)/\∀i m σ H,W i m σ H ->
   ((Itr lo n).stop i H/\D.nx σ H)\/((Itr lo n).go i H/\∃N:St->Hp->Prop,(∀σ' H',N σ' H'->∃m',m'<m/\W (i+1) m' σ' H')/\∀x H',(Itr lo n).yld i H x H'->g x σ H' fun σ2 H2=>tb {D with nx:=N,ct:=N,bk:=D.nx} σ2 H2):=by
 refine ⟨λi m σ H=>m=n-i/\i<=n/\Pv i σ H,⟨n,by simp,Nat.zero_le _,h0⟩,?_⟩
 rintro i m σ H ⟨rfl,hi,p⟩
 by_cases hlt:i<n
 ·refine .inr ⟨hlt,Pv (i+1),fun σ' H' p'=>⟨n-(i+1),by omega,rfl,hlt,p'⟩,λx H' y=>?_⟩
  obtain ⟨e,y⟩:=y
  subst e y
  exact hs i σ _ hlt p
 ·have e:i=n:=by omega
  subst e
  exact .inl ⟨Nat.le_refl _,hd σ H p⟩
end L2
namespace L2
open PySem PySem.Spec PyProof.Rows
abbrev R2:=V->V->Hp->VK->Prop
def OpR(X:Cx)(f:Value->Value->Sem Value)(r:R2):Prop :=
 ∀(pins:List (Addr×Obj)) (s:Shared) (σ:St) (H:Hp) (x y:V) (v u:Value) (Q:VK),Inv X pins σ H s->RelV x v->RelV y u->r x y H Q ->
  wpAny (model X.prog X.w) X.A (f v u) (EP X pins σ Q) X.xe s
def UnR(X:Cx)(f:Value->Sem Value)(r:V->Hp->VK->Prop):Prop :=
 ∀(pins:List (Addr×Obj)) (s:Shared) (σ:St) (H:Hp) (x:V) (v:Value) (Q:VK),Inv X pins σ H s->RelV x v->r x H Q ->
  wpAny (model X.prog X.w) X.A (f v) (EP X pins σ Q) X.xe s
def dq(X:Cx)(f:Value)(r:List V->Hp->VK->Prop):Prop :=
 ∀(pins:List (Addr×Obj)) (s:Shared) (σ:St) (H:Hp) (xs:List V) (us:List Value) (Q:VK),Inv X pins σ H s->Vals xs us->r xs H Q ->
  wpAny (model X.prog X.w) X.A (call f us) (EP X pins σ Q) X.xe s
def zV(X:Cx)(r:V->Hp->(Bool->Hp->Prop)->Prop):Prop :=
 ∀(pins:List (Addr×Obj)) (s:Shared) (σ:St) (H:Hp) (x:V) (v:Value) (Q:Bool->Hp->Prop),Inv X pins σ H s->RelV x v->r x H Q ->
  wpAny (model X.prog X.w) X.A (truthy v) (TP X pins σ Q) X.xe s
def tOp(r:R2)(ta tb:TE):TE:=fun σ H Q=>ta σ H λx H1=>tb σ H1 λy H2=>r x y H2 Q
def tUn(r:V->Hp->VK->Prop)(ta:TE):TE:=fun σ H Q=>ta σ H λx H1=>r x H1 Q
def rI(C:Int->Int->Prop)(g:Int->Int->V):R2:=λx y H Q=>∃i j,x=.int i/\y=.int j/\C i j/\Q (g i j) H
def rI0(g:Int->Int->V):R2:=λx y H Q=>∃i j,x=.int i/\y=.int j/\Q (g i j) H
def rU(g:Int->V):V->Hp->VK->Prop:=λx H Q=>∃i,x=.int i/\Q (g i) H
section
variable {X:Cx}{a b c:Expr}{ta tb tc:TE}{pos:Pos}
theorem yn(ha:PE X a ta)(hb:PE X b tb){pins:List (Addr×Obj)}{s:Shared}{σ:St}{H:Hp}{R:V->V->Hp->Prop}(I:Inv X pins σ H s)
  (h:ta σ H λx H1=>tb σ H1 λy H2=>R x y H2){Q:Value->Shared->Prop}{f:Value->Value->Sem Value}
  (hf:∀v u s2 x y H2,Inv X pins σ H2 s2->RelV x v->RelV y u->R x y H2->wpAny (model X.prog X.w) X.A (f v u) Q X.xe s2) :
  wpAny (model X.prog X.w) X.A (eval a X.env) (λv s₁=>wpAny (model X.prog X.w) X.A (eval b X.env) (λu s₂=>wpAny (model X.prog X.w) X.A (f v u) Q X.xe s₂) X.xe s₁) X.xe s:=by
 refine thn (ha pins s σ H _ I h) λv s1 ⟨x,H1,I1,r1,q1⟩=>?_
 refine thn (hb pins s1 σ H1 _ I1 q1) λu s2 ⟨y,H2,I2,r2,q2⟩=>?_
 exact hf v u s2 x y H2 I2 r1 r2 q2
theorem aE{op:Operator}{r:R2}(ho:OpR X (binaryOp op) r)(ha:PE X a ta)(hb:PE X b tb):PE X (.BinOp a op b pos) (tOp r ta tb):=by
 intro pins s σ H Q I h
 exact wpAny_BinOp (yn ha hb I h λv u s2 x y H2 I2 rx ry q=>ho pins s2 σ H2 x y v u Q I2 rx ry q)
theorem wI{op:UnaryOp}{r:V->Hp->VK->Prop}(ho:UnR X (unaryOp op) r)(ha:PE X a ta):PE X (.UnaryOp op a pos) (tUn r ta):=by
 intro pins s σ H Q I h
 exact UnaryOp_ (thn (ha pins s σ H _ I h) λv s1 ⟨x,H1,I1,r1,q1⟩=>ho pins s1 σ H1 x v Q I1 r1 q1)
theorem opI{f:Value->Value->Sem Value}{C:Int->Int->Prop}{g:Int->Int->Int}
  (rule:∀(i j:Int) (t u:Tok) (s:Shared) (Q:Value->Shared->Prop) (E:Value->Shared->Prop),C i j->Q (.int (g i j) s.toks) {s with toks:=s.toks+1}->wpAny (model X.prog X.w) X.A (f (.int i t) (.int j u)) Q E s) :
  OpR X f (rI C λi j=>.int (g i j)):=by
 intro pins s σ H x y v u Q I rx ry h
 obtain ⟨i,j,rfl,rfl,hc,q⟩:=h
 obtain ⟨t,rfl⟩:=rx
 obtain ⟨t',rfl⟩:=ry
 exact rule i j t t' s _ _ hc ⟨.int (g i j),H,I.tok _,⟨_,rfl⟩,q⟩
theorem yY{f:Value->Value->Sem Value}{g:Int->Int->Int}
  (rule:∀(i j:Int) (t u:Tok) (s:Shared) (Q:Value->Shared->Prop) (E:Value->Shared->Prop),Q (.int (g i j) s.toks) {s with toks:=s.toks+1}->wpAny (model X.prog X.w) X.A (f (.int i t) (.int j u)) Q E s) :
  OpR X f (rI0 λi j=>.int (g i j)):=by
 intro pins s σ H x y v u Q I rx ry h
 obtain ⟨i,j,rfl,rfl,q⟩:=h
 obtain ⟨t,rfl⟩:=rx
 obtain ⟨t',rfl⟩:=ry
 exact rule i j t t' s _ _ ⟨.int (g i j),H,I.tok _,⟨_,rfl⟩,q⟩
theorem xB{f:Value->Value->Sem Value}{g:Int->Int->Bool}
  (rule:∀(i j:Int) (t u:Tok) (s:Shared) (Q:Value->Shared->Prop) (E:Value->Shared->Prop),Q (.bool (g i j)) s->wpAny (model X.prog X.w) X.A (f (.int i t) (.int j u)) Q E s) :
  OpR X f (rI0 λi j=>.bl (g i j)):=by
 intro pins s σ H x y v u Q I rx ry h
 obtain ⟨i,j,rfl,rfl,q⟩:=h
 obtain ⟨t,rfl⟩:=rx
 obtain ⟨t',rfl⟩:=ry
 exact rule i j t t' s _ _ ⟨.bl (g i j),H,I,rfl,q⟩
def zY(i j:Int):Prop:=0<j/\j<1073741824
def zX(i j:Int):Prop:=0<=j/\j<=1000000/\i.natAbs<2 ^ 64
theorem eE:OpR X (binaryOp .Add) (rI0 λi j=>.int (i+j)):=yY λ_ _ _ _ _ _ _ q=>add_int q
theorem o9:OpR X (binaryOp .Sub) (rI0 λi j=>.int (i-j)):=yY λ_ _ _ _ _ _ _ q=>sub_int q
theorem d0:OpR X (binaryOp .FloorDiv) (rI zY λi j=>.int (i/j)):=opI λi j _ _ _ _ _ hc q=>by
 have h1:(0:Int)<j:=hc.1
 have h2:j<1073741824:=hc.2
 exact floordiv_int (by omega) (by rw [Int.fdiv_eq_ediv_of_nonneg i (by omega)];exact q) (.inl (PyProof.noPylong_small (by omega)))
theorem cJ:OpR X (binaryOp .Mod) (rI (λ_ j=>0<j) λi j=>.int (i%j)):=opI λi j _ _ _ _ _ hc q=>by
 have h1:(0:Int)<j:=hc
 exact mod_int' (by omega) (by rw [Int.fmod_eq_emod_of_nonneg i (by omega)];exact q)
theorem jU:OpR X (binaryOp .Pow) (rI zX λi j=>.int (i ^ j.toNat)):=opI λ_ _ _ _ _ _ _ hc q=>pow_int_small hc.1 hc.2.1 hc.2.2 q
theorem unI{f:Value->Sem Value}{g:Int->Int}
  (rule:∀(i:Int) (t:Tok) (s:Shared) (Q:Value->Shared->Prop) (E:Value->Shared->Prop),Q (.int (g i) s.toks) {s with toks:=s.toks+1}->wpAny (model X.prog X.w) X.A (f (.int i t)) Q E s) :
  UnR X f (rU λi=>.int (g i)):=by
 intro pins s σ H x v Q I rx h
 obtain ⟨i,rfl,q⟩:=h
 obtain ⟨t,rfl⟩:=rx
 exact rule i t s _ _ ⟨.int (g i),H,I.tok _,⟨_,rfl⟩,q⟩
theorem rO:UnR X (unaryOp .USub) (rU λi=>.int (-i)):=unI λ_ _ _ _ _ q=>neg_int q
end
def yP:V->V->Bool
 | .non,.non=>true | .non,.int _=>true | .int _,.non=>true | .non,.bl _=>true | .bl _,.non=>true | .non,.str _=>true | .str _,.non=>true
 | .int _,.int _=>true | .bl _,.bl _=>true | .str _,.str _=>true | .byt _,.byt _=>true
 | .int _,.str _=>true | .str _,.int _=>true | .bl _,.str _=>true | .str _,.bl _=>true
 | _,_=>false
def rEq:R2:=λx y H Q=>yP x y=true/\Q (.bl (decide (x=y))) H
def rNe:R2:=λx y H Q=>yP x y=true/\Q (.bl (!decide (x=y))) H
theorem jB{i j:Int}:decide (V.int i=V.int j)=(i==j):=by
 rw [Bool.eq_iff_iff]
 simp
theorem uH{i j:Bool}:decide (V.bl i=V.bl j)=(i==j):=by
 rw [Bool.eq_iff_iff]
 simp
theorem qq{i j:Str}:decide (V.str i=V.str j)=(i==j):=by
 rw [Bool.eq_iff_iff]
 simp
theorem qt{i j:Array UInt8}:decide (V.byt i=V.byt j)=(i.toList==j.toList):=by
 rw [Bool.eq_iff_iff]
 cases i
 cases j
 simp
section
variable {X:Cx}{a b c:Expr}{ta tb tc:TE}{pos:Pos}
theorem aP{pins:List (Addr×Obj)}{σ:St}{H:Hp}{s:Shared}{Q:VK}{k k':Bool}(I:Inv X pins σ H s)(q:Q (.bl k) H)(e:k=k'):EP X pins σ Q (.bool k') s:=by
 subst e
 exact ⟨.bl k,H,I,rfl,q⟩
theorem aR:OpR X (compareOp .Eq) rEq:=by
 intro pins s σ H x y v u Q I rx ry h
 obtain ⟨hs,q⟩:=h
 cases x with
 | non =>
  cases rx
  cases y with
  | non=>cases ry;exact PySem.EqNone.eq_none_none (aP I q (by simp))
  | bl j=>cases ry;exact PySem.EqNone.eq_none_bool (aP I q (by simp))
  | int j=>obtain ⟨t',rfl⟩:=ry;exact PySem.EqNone.eq_none_int (aP I q (by simp))
  | str j=>obtain ⟨t',rfl⟩:=ry;exact PySem.EqNone.eq_none_str (aP I q (by simp))
  | _=>exact absurd (show false=true from hs) Bool.false_ne_true
 | bl i =>
  cases rx
  cases y with
  | non=>cases ry;exact PySem.EqNone.eq_bool_none (aP I q (by simp))
  | bl j=>cases ry;exact eq_bool (aP I q uH)
  | str j=>obtain ⟨t',rfl⟩:=ry;exact PySem.EqMixed.eq_bool_str (aP I q (by simp))
  | _=>exact absurd (show false=true from hs) Bool.false_ne_true
 | int i =>
  obtain ⟨t,rfl⟩:=rx
  cases y with
  | non=>cases ry;exact PySem.EqNone.eq_int_none (aP I q (by simp))
  | int j=>obtain ⟨t',rfl⟩:=ry;exact eq_int (aP I q jB)
  | str j=>obtain ⟨t',rfl⟩:=ry;exact PySem.EqMixed.eq_int_str (aP I q (by simp))
  | _=>exact absurd (show false=true from hs) Bool.false_ne_true
 | str i =>
  obtain ⟨t,rfl⟩:=rx
  cases y with
  | non=>cases ry;exact PySem.EqNone.eq_str_none (aP I q (by simp))
  | bl j=>cases ry;exact PySem.EqMixed.eq_str_bool (aP I q (by simp))
  | int j=>obtain ⟨t',rfl⟩:=ry;exact PySem.EqMixed.eq_str_int (aP I q (by simp))
  | str j=>obtain ⟨t',rfl⟩:=ry;exact eq_str (aP I q qq)
  | _=>exact absurd (show false=true from hs) Bool.false_ne_true
 | byt i =>
  obtain ⟨t,rfl⟩:=rx
  cases y with
  | byt j=>obtain ⟨t',rfl⟩:=ry;exact PySem.W.eq_bytes (aP I q qt)
  | _=>exact absurd (show false=true from hs) Bool.false_ne_true
 | _=>cases y<;>exact absurd (show false=true from hs) Bool.false_ne_true
theorem f8:OpR X (compareOp .NotEq) rNe:=by
 intro pins s σ H x y v u Q I rx ry h
 obtain ⟨hs,q⟩:=h
 cases x with
 | non =>
  cases rx
  cases y with
  | non=>cases ry;exact PySem.EqNone.ne_none_none (aP I q (by simp))
  | bl j=>cases ry;exact PySem.EqNone.ne_none_bool (aP I q (by simp))
  | int j=>obtain ⟨t',rfl⟩:=ry;exact PySem.EqNone.ne_none_int (aP I q (by simp))
  | str j=>obtain ⟨t',rfl⟩:=ry;exact PySem.EqNone.ne_none_str (aP I q (by simp))
  | _=>exact absurd (show false=true from hs) Bool.false_ne_true
 | bl i =>
  cases rx
  cases y with
  | non=>cases ry;exact PySem.EqNone.ne_bool_none (aP I q (by simp))
  | bl j=>cases ry;exact ne_bool (aP I q (congrArg not uH))
  | str j=>obtain ⟨t',rfl⟩:=ry;exact PySem.EqMixed.ne_bool_str (aP I q (by simp))
  | _=>exact absurd (show false=true from hs) Bool.false_ne_true
 | int i =>
  obtain ⟨t,rfl⟩:=rx
  cases y with
  | non=>cases ry;exact PySem.EqNone.ne_int_none (aP I q (by simp))
  | int j=>obtain ⟨t',rfl⟩:=ry;exact ne_int (aP I q (congrArg not jB))
  | str j=>obtain ⟨t',rfl⟩:=ry;exact PySem.EqMixed.ne_int_str (aP I q (by simp))
  | _=>exact absurd (show false=true from hs) Bool.false_ne_true
 | str i =>
  obtain ⟨t,rfl⟩:=rx
  cases y with
  | non=>cases ry;exact PySem.EqNone.ne_str_none (aP I q (by simp))
  | bl j=>cases ry;exact PySem.EqMixed.ne_str_bool (aP I q (by simp))
  | int j=>obtain ⟨t',rfl⟩:=ry;exact PySem.EqMixed.ne_str_int (aP I q (by simp))
  | str j=>obtain ⟨t',rfl⟩:=ry;exact ne_str (aP I q (congrArg not qq))
  | _=>exact absurd (show false=true from hs) Bool.false_ne_true
 | byt i =>
  obtain ⟨t,rfl⟩:=rx
  cases y with
  | byt j=>obtain ⟨t',rfl⟩:=ry;exact PySem.W.ne_bytes (aP I q (congrArg not qt))
  | _=>exact absurd (show false=true from hs) Bool.false_ne_true
 | _=>cases y<;>exact absurd (show false=true from hs) Bool.false_ne_true
theorem jV:OpR X (compareOp .Lt) (rI0 λi j=>.bl (decide (i<j))):=xB λ_ _ _ _ _ _ _ q=>lt_int q
theorem wJ:OpR X (compareOp .LtE) (rI0 λi j=>.bl (decide (i<=j))):=xB λ_ _ _ _ _ _ _ q=>le_int q
theorem jd:OpR X (compareOp .Gt) (rI0 λi j=>.bl (decide (j<i))):=xB λ_ _ _ _ _ _ _ q=>gt_int q
theorem i0:OpR X (compareOp .Is) (λx y H Q=>y=.non/\Q (.bl (decide (x=.non))) H):=by
 intro pins s σ H x y v u Q I rx ry h
 obtain ⟨rfl,q⟩:=h
 cases ry
 refine is_none_gen (aP I q ?_)
 cases x<;>first
  | (cases rx;rfl)
  | (obtain ⟨t,rfl⟩:=rx;rfl)
theorem cm:OpR X (compareOp .IsNot) (λx y H Q=>y=.non/\Q (.bl (!decide (x=.non))) H):=by
 intro pins s σ H x y v u Q I rx ry h
 obtain ⟨rfl,q⟩:=h
 cases ry
 refine isnot_none_gen (aP I q ?_)
 cases x<;>first
  | (cases rx;rfl)
  | (obtain ⟨t,rfl⟩:=rx;rfl)
theorem ap(b:Expr){op:CmpOp}(h:op≠.In:=by decide)(h2:op≠.NotIn:=by decide):behindInMarks op b=false:=by
 have e1:(op==CmpOp.In)=false:=by cases op<;>first | rfl | exact absurd rfl h
 have e2:(op==CmpOp.NotIn)=false:=by cases op<;>first | rfl | exact absurd rfl h2
 cases b<;>simp [behindInMarks,e1,e2]
theorem bL{op:CmpOp}{r:R2}(ho:OpR X (compareOp op) r)(ha:PE X a ta)(hb:PE X b tb)(hm:behindInMarks op b=false):PE X (.Compare a [op] [b] pos) (tOp r ta tb):=by
 intro pins s σ H Q I h
 exact wpAny_Compare1 (yn ha hb I h λv u s2 x y H2 I2 rx ry q=>ho pins s2 σ H2 x y v u Q I2 rx ry q) hm
def wy(t:TE):TT:=fun σ H Q=>t σ H λx H'=>∃k,x=.bl k/\Q k H'
theorem am{op:CmpOp}{r:R2}(ho:OpR X (compareOp op) r)(ha:PE X a ta)(hb:PE X b tb)(hm:behindInMarks op b=false):PT X (.Compare a [op] [b] pos) (wy (tOp r ta tb)):=by
 intro pins s σ H Q I h
 refine wpAny_isTrue_Compare1 (thn (ha pins s σ H _ I h) λv s1 ⟨x,H1,I1,r1,q1⟩=>thn (hb pins s1 σ H1 _ I1 q1) λu s2 ⟨y,H2,I2,r2,q2⟩ =>
  thn (ho pins s2 σ H2 x y v u _ I2 r1 r2 q2) λc s3 ⟨z,H3,I3,r3,k,e,q3⟩=>?_) hm
 subst e
 cases r3
 exact wpAny_truthy_bool ⟨H3,I3,q3⟩
def xh(r r':R2)(ta tb tc:TE):TE:=fun σ H Q=>ta σ H λx H1=>tb σ H1 λy H2=>r x y H2 λz H3=>∃k,z=.bl k /\
 (if k=true then tc σ H3 λw' H4=>r' y w' H4 Q else Q (.bl false) H3)
theorem sX{op op':CmpOp}{r r':R2}(ho:OpR X (compareOp op) r)(ho':OpR X (compareOp op') r')(ha:PE X a ta)(hb:PE X b tb)(hc:PE X c tc)
  (hm:lastMarks [op,op'] [b,c]=false:=by with_unfolding_all rfl):PE X (.Compare a [op,op'] [b,c] pos) (xh r r' ta tb tc):=by
 intro pins s σ H Q I h
 refine Compare_chain (thn (ha pins s σ H _ I h) λv s1 ⟨x,H1,I1,r1,q1⟩=>chain_link (thn (hb pins s1 σ H1 _ I1 q1) λu s2 ⟨y,H2,I2,r2,q2⟩ =>
  thn (ho pins s2 σ H2 x y v u _ I2 r1 r2 q2) λd s3 ⟨z,H3,I3,r3,k,e,q3⟩=>?_)) hm
 subst e
 cases r3
 refine wpAny_truthy_bool ?_
 cases k with
 | false=>exact ite_ff ⟨.bl false,H3,I3,rfl,q3⟩
 | true=>exact ite_tt (chain_last (thn (hc pins s3 σ H3 _ I3 q3) λw' s4 ⟨z',H4,I4,r4,q4⟩=>ho' pins s4 σ H4 y z' u w' Q I4 r2 r4 q4))
def zt(K:PySem.W.Frag)(x:V)(H:Hp)(k:Bool):Prop :=
 match x with
 | .non=>k=false
 | .bl b=>k=b
 | .int i=>k=(i != 0)
 | .str y=>y.length<=sizeLine/\k=((y.length:Int) != 0)
 | .byt y=>y.size<=sizeLine/\k=((y.size:Int) != 0)
 | .ref p=>(∃xs,SqL K H p xs/\k=!xs.isEmpty)\/(∃xs,SqT K H p xs/\k=!xs.isEmpty)\/∃kvs,H p=some (.dK kvs)/\k=!kvs.isEmpty
 | _=>False
theorem pH{κ:Type}{kvs:List (κ×V)}{vs:List (κ×Value)}(r:KV kvs vs):(!vs.isEmpty)=!kvs.isEmpty:=by
 cases r<;>rfl
theorem j0{xs:List V}{its:List Value}(r:Vals xs its):(!its.toArray.isEmpty)=!xs.isEmpty:=by
 cases r<;>simp
theorem i5:(sizeLine:Nat)<2 ^ 63:=by rw [sizeLine_eq];decide
theorem w6:zV X (λx H Q=>∃k,zt X.K x H k/\Q k H):=by
 intro pins s σ H x v Q I rx h
 obtain ⟨k,e,q⟩:=h
 have hl:=i5
 have hs:sizeLine=16777216:=sizeLine_eq
 cases x with
 | non =>
  cases rx
  have e':k=false:=e
  subst e'
  exact truthy_none ⟨H,I,q⟩
 | bl b =>
  cases rx
  have e':k=b:=e
  subst e'
  exact wpAny_truthy_bool ⟨H,I,q⟩
 | int i =>
  obtain ⟨t,rfl⟩:=rx
  have e':k=(i != 0):=e
  subst e'
  exact PySem.P.truthy_int ⟨H,I,q⟩
 | str y =>
  obtain ⟨t,rfl⟩:=rx
  obtain ⟨hy,e'⟩:y.length<=sizeLine/\k=((y.length:Int) != 0):=e
  subst e'
  exact PySem.P.truthy_str (by omega) ⟨H,I.tok _,q⟩
 | byt y =>
  obtain ⟨t,rfl⟩:=rx
  obtain ⟨hy,e'⟩:y.size<=sizeLine/\k=((y.size:Int) != 0):=e
  subst e'
  exact PySem.W.truthy_bytes (by omega) ⟨H,I.tok _,q⟩
 | ref p =>
  cases rx
  have e':(∃xs,SqL X.K H p xs/\k=!xs.isEmpty)\/(∃xs,SqT X.K H p xs/\k=!xs.isEmpty)\/∃kvs,H p=some (.dK kvs)/\k=!kvs.isEmpty:=e
  rcases e' with ⟨xs,hx,e'⟩ | ⟨xs,hx,e'⟩ | ⟨kvs,hx,e'⟩
  ·subst e'
   obtain ⟨its,r,pl,hz⟩:=I.list hx
   have hlen:=r.length
   exact wpAny_truthy_list pl.isList (by simp only [List.size_toArray];omega) ⟨H,I.tok _,by rw [j0 r];exact q⟩
  ·subst e'
   obtain ⟨its,r,pl,hz⟩:=I.tuple hx
   have hlen:=r.length
   exact truthy_tuple pl (by simp only [List.size_toArray];omega) ⟨H,I.tok _,by rw [j0 r];exact q⟩
  ·subst e'
   obtain ⟨hz,hS,vs,r,m⟩:kvs.length<=sizeLine/\(p==sysModules)=false/\∃vs,KV kvs vs/\s.heap.DictOf (bT X.prog X.w) p vs:=I.hok p _ hx
   have hlen:kvs.length=vs.length:=Paired.length r
   exact wpAny_truthy_dict hS m (by omega) ⟨H,I.tok _,by rw [pH r];exact q⟩
 | _=>exact (show False from e).elim
theorem nB(ha:PE X a ta)(he:∀whole,isTrue a X.env whole=(do let v ← whole;standAt a.pos;holding [v] (truthy v))) :
  PT X a (fun σ H Q=>ta σ H λx H'=>∃k,zt X.K x H' k/\Q k H'):=by
 intro pins s σ H Q I h
 exact isTrue_plain (thn (ha pins s σ H _ I h) λv s1 ⟨x,H1,I1,r1,q1⟩=>w6 pins s1 σ H1 x v Q I1 r1 q1) (he _)
theorem aK:OpR X (binaryOp .Add) (λx y H Q=>∃i j,x=.str i/\y=.str j/\i.length+j.length<=sizeLine/\Q (.str (i++j)) H):=by
 intro pins s σ H x y v u Q I rx ry h
 obtain ⟨i,j,rfl,rfl,hz,q⟩:=h
 obtain ⟨t,rfl⟩:=rx
 obtain ⟨t',rfl⟩:=ry
 exact add_str (λt' tk=>⟨.str (i++j),H,I.tok _,⟨_,rfl⟩,q⟩) hz
theorem cA{x:V}{us:List Value}(r:Vals [x] us):∃u,us=[u]/\RelV x u:=by
 cases r with
 | cons r1 r2=>cases r2;exact ⟨_,rfl,r1⟩
theorem rN{x y:V}{us:List Value}(r:Vals [x,y] us):∃u w',us=[u,w']/\RelV x u/\RelV y w':=by
 cases r with
 | cons r1 r2 =>
  cases r2 with
  | cons r3 r4=>cases r4;exact ⟨_,_,rfl,r1,r3⟩
theorem ly:dq X (.type "int") (λxs H Q=>(∃i,xs=[.int i]/\Q (.int i) H)\/∃k,xs=[.bl k]/\Q (.int (if k then 1 else 0)) H):=by
 intro pins s σ H xs us Q I r h
 rcases h with ⟨i,rfl,q⟩ | ⟨k,rfl,q⟩
 ·obtain ⟨u,rfl,t,rfl⟩:=cA r
  exact call_int_int ⟨.int i,H,I,⟨_,rfl⟩,q⟩
 ·obtain ⟨u,rfl,r1⟩:=cA r
  cases r1
  exact call_int_bool ⟨.int (if k then 1 else 0),H,I.tok _,⟨_,rfl⟩,q⟩
theorem aT:dq X (.type "str") (λxs H Q=>∃i,xs=[.int i]/\i.natAbs.log2<1920/\Q (.str (toString i)) H):=by
 intro pins s σ H xs us Q I r h
 obtain ⟨i,rfl,hz,q⟩:=h
 obtain ⟨u,rfl,t,rfl⟩:=cA r
 exact PySem.P.str_of_int hz ⟨.str _,H,I.tok _,⟨_,rfl⟩,q⟩
theorem uL:dq X (.builtin "ord") (λxs H Q=>∃x,xs=[.str x]/\x.length=1/\Q (.int (x.cps.getD 0 0:Nat)) H):=by
 intro pins s σ H xs us Q I r h
 obtain ⟨x,rfl,hz,q⟩:=h
 obtain ⟨u,rfl,t,rfl⟩:=cA r
 exact ord_of_one hz ⟨.int _,H,I.tok _,⟨_,rfl⟩,q⟩
end
end L2
namespace L2
open PySem PySem.Spec PyProof.Rows
structure ObjM(h:Heap)(x dx C:Addr)(mA:Str->Option Value):Prop where
 obj:h.get? x=some (PySem.W.instObj C dx)
 ns:h.Ns1 dx mA
 ne:dx≠x
theorem rh{h:Heap}{dx:Addr}{mA:Str->Option Value}(n:h.Ns1 dx mA):∃od,h.get? dx=some od/\∀name,PySem.W.lookIn name od=some (mA name):=by
 obtain ⟨o,es,ep,ho,hd,hk,_,hm⟩:=n
 refine ⟨o,ho,λname=>?_⟩
 have e:=hm name
 unfold nsFind findBy at e
 rw [← Array.find?_toList] at e
 unfold PySem.W.lookIn
 rw [hd]
 dsimp only
 split
 ·rename_i y q
  rw [q] at e
  exact congrArg some e
 ·rename_i q
  rw [q] at e
  have a:es.toList.any (·.refKey)=false:=by
   rw [List.any_eq_false]
   intro y hy
   obtain ⟨z,t,hkey⟩:=hk y (Array.mem_toList_iff.mp hy)
   simp [DictEntry.refKey,hkey]
  have a':¬es.toList.any (·.refKey)=true:=by rw [a];exact Bool.false_ne_true
  rw [if_neg a']
  exact congrArg some e
theorem ObjM.look{h:Heap}{x dx C:Addr}{mA:Str->Option Value}(I:ObjM h x dx C mA):∃od,PySem.W.InstAt h x (PySem.W.instObj C dx) C (some od)/\∀name,PySem.W.lookIn name od=some (mA name) :=
 let ⟨od,ho,hl⟩:=rh I.ns
 ⟨od,⟨I.obj,rfl,rfl,ho⟩,hl⟩
section
variable {prog:Program}{w:World}{A:Around}{E:Value->Shared->Prop}{s:Shared}{K:PySem.W.Frag}{x dx C f:Addr}{mA:Str->Option Value}{name:Str}{v:Value}
theorem v8{expr:Bool}{Q:Value->Shared->Prop}(X:K.In s.heap)(I:ObjM s.heap x dx C mA)(hg:PySem.W.plainGet K C name=true)(hh:PySem.W.hasDictIn K C=true)
  (ha:PySem.W.findIn K (.ref C) name=some none)(hv:mA name=some v)(hv':PySem.W.handedIn v=true)(h:Q v {s with toks:=s.toks+1}) :
  wpAny (model prog w) A (getAttr (.ref x) name expr) Q E s:=by
 obtain ⟨od,J,hl⟩:=I.look
 exact PySem.W.get_value X J (PySem.W.plainGet_of hg).1 (PySem.W.findObj_own hh ha rfl (by rw [hl,hv])) hv' h
theorem uu{pl:Sem Bool}{Q:Value×List Value->Shared->Prop}(X:K.In s.heap)(I:ObjM s.heap x dx C mA)(hg:PySem.W.plainGet K C name=true)
  (hf:PySem.W.findIn K (.ref C) name=some (some (.ref f)))(ht:PySem.W.isFn K (.ref f)=true)(hv:mA name=none)(h:Q (.ref f,[.ref x]) s) :
  wpAny (model prog w) A (getMethod (.ref x) name pl) Q E s:=by
 obtain ⟨od,J,hl⟩:=I.look
 exact PySem.W.method_fn X J (PySem.W.plainGet_of hg).1 (PySem.W.plainGet_of hg).2 hf (beq_iff_eq.mp ht) (by show (PySem.W.lookIn name od).map (·.isSome)=some false;rw [hl,hv];rfl) h
theorem vg{ns:List Str}{Q:Unit->Shared->Prop}(X:K.In s.heap)(I:ObjM s.heap x dx C mA)
  (hs:PySem.W.findIn K (.ref C) "__setattr__"=some (some (.builtin "object.__setattr__")))(hp:PySem.W.plainOver K C=true)(ht:PySem.W.takerIn K C name=some none)(hh:PySem.W.hasDictIn K C=true)
  (hw:PySem.Within mA ns)(hsz:ns.length<=sizeLine)
  (h:∀h',ObjM h' x dx C (λy=>if y=name then some v else mA y)->Heap.SameBut dx s.heap h'->Q () {s with heap:=h',toks:=s.toks+2}) :
  wpAny (model prog w) A (setAttr (.ref x) name v) Q E s:=by
 obtain ⟨od,J,hl⟩:=I.look
 refine PySem.W.set_plain X J hs (PySem.W.osa_open (s:={s with toks:=s.toks+1}) (r:=none) X J hp ht λb=>?_)
 obtain ⟨cd,hc,hd'⟩:=PySem.W.any_some hh
 have hx:s.heap.get? x=some ⟨.ref C,some dx,.plain,#[]⟩:=I.obj
 refine wpAny_bind (wpAny_pure (wpAny_bind (wpAny_bind (wpAny_loadPart hx (wpAny_bind (PySem.W.Looks.here (s:={s with toks:=s.toks+1}) (PySem.W.looks_clsIn X hc) ?_))))))
 rw [hd']
 refine wpAny_pure (a:=some dx) (wpAny_bind (wpAny_pure (wpAny_bind ?_)))
 refine wpAny_nsSet1 (s:={s with toks:=s.toks+1}) I.ns λh' hn2 hs2=>?_
 obtain ⟨oD,esD,epD,hoD,hdD,hcD⟩:=hn2.count (PySem.Within.cons name v hw)
 refine wpAny_bind (wpAny_lookBehind hoD (by rw [hdD];exact pastItsLine_dict (Nat.le_trans hcD (by rw [List.length_cons];omega))) ?_)
 exact wpAny_pure (h _ ⟨(hs2.2 _ (Ne.symm I.ne)).trans I.obj,hn2,I.ne⟩ hs2)
theorem ui{R:Result->Shared->Prop}{vs:List Value}{kw:List (Str×Value)}(X:K.In s.heap)(hm:PySem.W.makesIn K C=true)
  (hi:PySem.W.findIn K (.ref C) "__init__"=some (some (.ref f)))(hf:PySem.W.typeIn K (.ref f)=some (.type "function"))
  (h:codeAny (model prog w) (A.under (.builtin "type.__call__" ⟨.ref C::vs,kw⟩)) (.call (.ref f) ⟨.ref (s.heap.objs.size+1)::vs,kw⟩) (PySem.W.InitBack (s.heap.objs.size+1) R)
   {s with heap:=(s.heap.push PySem.W.emptyDict).push (PySem.W.instObj C s.heap.objs.size)}) :
  codeAny (model prog w) A (.call (.ref C) ⟨vs,kw⟩) R s:=by
 obtain ⟨hh,g,d,t,os⟩:=s
 exact PySem.W.make_core (PySem.W.makes_of X hm) (PySem.W.looks_findIn X hi) (λself=>PySem.W.bind_fn X self hf) (.inl rfl) h
end
def al(f:Str)(v:V):List (Str×V)->List (Str×V)
 | []=>[(f,v)]
 | (g,x)::r=>if g=f then (g,v)::r else (g,x)::al f v r
theorem av(f g:Str)(v:V):∀fs:List (Str×V),(al f v fs).lookup g=if g=f then some v else fs.lookup g
 | []=>by
  show List.lookup g [(f,v)]=_
  by_cases h:g=f
  ·have hb:(g==f)=true:=beq_iff_eq.mpr h
   simp only [List.lookup,hb,if_pos h]
  ·have hb:(g==f)=false:=beq_eq_false_iff_ne.mpr h
   simp only [List.lookup,hb,if_neg h]
 | (k,x)::r=>by
  have ih:=av f g v r
  rw [show al f v ((k,x)::r)=(if k=f then (k,v)::r else (k,x)::al f v r) from rfl]
  by_cases hk:k=f
  ·rw [if_pos hk]
   by_cases h:g=k
   ·have hb:(g==k)=true:=beq_iff_eq.mpr h
    simp only [List.lookup,hb,if_pos (h.trans hk)]
   ·have hb:(g==k)=false:=beq_eq_false_iff_ne.mpr h
    simp only [List.lookup,hb,if_neg (λe:g=f=>h (e.trans hk.symm))]
  ·rw [if_neg hk]
   by_cases h:g=k
   ·have hb:(g==k)=true:=beq_iff_eq.mpr h
    simp only [List.lookup,hb,if_neg (λe:g=f=>hk (h.symm.trans e))]
   ·have hb:(g==k)=false:=beq_eq_false_iff_ne.mpr h
    simp only [List.lookup,hb]
    exact ih
theorem i6(f:Str)(v:V):∀fs:List (Str×V),f∈(al f v fs).map (·.1)/\∀g,g∈fs.map (·.1)->g∈(al f v fs).map (·.1)
 | []=>⟨by simp [al],λg h=>by simp at h⟩
 | (k,x)::r=>by
  obtain ⟨i1,i2⟩:=i6 f v r
  rw [show al f v ((k,x)::r)=(if k=f then (k,v)::r else (k,x)::al f v r) from rfl]
  by_cases hk:k=f
  ·rw [if_pos hk]
   subst hk
   exact ⟨by simp,λg h=>by simpa using h⟩
  ·rw [if_neg hk]
   refine ⟨?_,λg h=>?_⟩
   ·rw [List.map_cons]
    exact List.mem_cons_of_mem _ i1
   ·rw [List.map_cons] at h ⊢
    rcases List.mem_cons.mp h with e | e
    ·exact List.mem_cons.mpr (.inl e)
    ·exact List.mem_cons_of_mem _ (i2 g e)
theorem cy(f:Str)(v:V):∀fs:List (Str×V),(al f v fs).length<=fs.length+1
 | []=>by simp [al]
 | (k,x)::r=>by
  have ih:=cy f v r
  rw [show al f v ((k,x)::r)=(if k=f then (k,v)::r else (k,x)::al f v r) from rfl]
  by_cases hk:k=f
  ·rw [if_pos hk,List.length_cons,List.length_cons];omega
  ·rw [if_neg hk,List.length_cons,List.length_cons];omega
theorem RelO.some_of{v:V}{o:Option Value}(r:RelO (some v) o):∃u,o=some u/\RelV v u:=by
 cases o with
 | none=>exact (show False from r).elim
 | some u=>exact ⟨u,rfl,r⟩
theorem RelO.none_of{o:Option Value}(r:RelO none o):o=none:=by
 cases o with
 | none=>rfl
 | some u=>exact (show False from r).elim
theorem rB{v:V}{u:Value}(r:RelV v u):PySem.W.handedIn u=true:=by
 cases v with
 | non=>cases (show u=Value.none from r);rfl
 | bl b=>cases (show u=Value.bool b from r);rfl
 | int i=>obtain ⟨t,e⟩:=(show ∃t,u=Value.int i t from r);cases e;rfl
 | str x=>obtain ⟨t,e⟩:=(show ∃t,u=Value.str x t from r);cases e;rfl
 | byt b=>obtain ⟨t,e⟩:=(show ∃t,u=Value.bytes b t from r);cases e;rfl
 | flt b=>obtain ⟨t,e⟩:=(show ∃t,u=Value.float b t from r);cases e;rfl
 | ref a=>cases (show u=Value.ref a from r);rfl
 | ty n=>cases (show u=Value.type n from r);rfl
section
variable {P:Program}{w:World}{H H':Hp}{h h':Heap}{a C dx:Addr}{fs fs':List (Str×V)}
theorem jz(hok:HOk P w H h)(e:H a=some (.ins C dx fs)):∃mA,ObjM h a dx C mA/\(∀f,RelO (fs.lookup f) (mA f))/\PySem.Within mA (fs.map (·.1))/\fs.length<=1000/\H dx=some (.own a):=by
 obtain ⟨d,z,ne,ob,mA,n,r,q⟩:=(show ObjOk P w H h a (.ins C dx fs) from hok a _ e)
 exact ⟨mA,⟨ob,n,ne⟩,r,q,z,d⟩
end
structure Cls(K:PySem.W.Frag)(C:Addr):Prop where
 pg:PySem.W.plainGet K C Str.empty=true
 hd:PySem.W.hasDictIn K C=true
 po:PySem.W.plainOver K C=true
 sa:PySem.W.findIn K (.ref C) "__setattr__"=some (some (.builtin "object.__setattr__"))
theorem Cls.get{K:PySem.W.Frag}{C:Addr}(c:Cls K C)(f:Str):PySem.W.plainGet K C f=true:=c.pg
def NoAttr(K:PySem.W.Frag)(C:Addr)(f:Str):Prop:=PySem.W.findIn K (.ref C) f=some none
theorem NoAttr.taker{K:PySem.W.Frag}{C:Addr}{f:Str}(n:NoAttr K C f):PySem.W.takerIn K C f=some none:=by
 unfold PySem.W.takerIn
 rw [show PySem.W.findIn K (.ref C) f=some none from n]
 rfl
structure g7(K:PySem.W.Frag)(C:Addr)(m:Str)(f:Addr):Prop where
 at_:PySem.W.findIn K (.ref C) m=some (some (.ref f))
 fn:PySem.W.isFn K (.ref f)=true
 kp:PySem.W.keepIn K (.ref f)=true
section
variable {X:Cx}{pins:List (Addr×Obj)}{σ:St}{H:Hp}{s:Shared}{a C dx:Addr}{fs:List (Str×V)}{f:Str}{v:V}{A:Around}{E:Value->Shared->Prop}
theorem j5{b:Bool}{Q:Value->Shared->Prop}(I:Inv X pins σ H s)(e:H a=some (.ins C dx fs))(c:Cls X.K C)(n:NoAttr X.K C f)(l:fs.lookup f=some v)
  (h:∀u s',Inv X pins σ H s'->RelV v u->Q u s'):wpAny (model X.prog X.w) A (getAttr (.ref a) f b) Q E s:=by
 obtain ⟨mA,O,r,_,_,_⟩:=jz I.hok e
 obtain ⟨u,hu,ru⟩:=RelO.some_of (v:=v) (o:=mA f) (by rw [← l];exact r f)
 exact v8 I.kIn O (c.get f) c.hd n hu (rB ru) (h u _ (I.tok _) ru)
theorem j4{m:Str}{g:Addr}{pl:Sem Bool}{Q:Value×List Value->Shared->Prop}(I:Inv X pins σ H s)(e:H a=some (.ins C dx fs))(c:Cls X.K C)(k:g7 X.K C m g)(l:fs.lookup m=none)
  (h:Q (.ref g,[.ref a]) s):wpAny (model X.prog X.w) A (getMethod (.ref a) m pl) Q E s:=by
 obtain ⟨mA,O,r,_,_,_⟩:=jz I.hok e
 have hn:mA m=none:=RelO.none_of (by rw [← l];exact r m)
 exact uu I.kIn O (c.get m) k.at_ k.fn hn h
theorem jH{y:V}{u:Value}{Q:Unit->Shared->Prop}(I:Inv X pins σ H s)(e:H a=some (.ins C dx fs))(c:Cls X.K C)(n:NoAttr X.K C f)(hl:fs.length<1000)(ry:RelV y u)
  (h:∀s',Inv X pins σ (upd H a (.ins C dx (al f y fs))) s'->Q () s'):wpAny (model X.prog X.w) A (setAttr (.ref a) f u) Q E s:=by
 obtain ⟨mA,O,r,wi,_,ho⟩:=jz I.hok e
 have hz:(fs.map (·.1)).length<=sizeLine:=by rw [List.length_map,sizeLine_eq];omega
 refine vg I.kIn O c.sa c.po n.taker c.hd wi hz λh' O' sb=>h _ ?_
 have hd:∃o,h'.get? dx=some o:=let ⟨o,_,_,e',_⟩:=O'.ns;⟨o,e'⟩
 refine I.write (x:=a) (e:=dx) (by rw [e];exact True.intro) (.inr ho) (λb q hb z=>(sb.2 b hb).trans z) hd ?_
 refine ⟨by rw [ay O.ne];exact ho,?_,O.ne,O'.obj,_,O'.ns,λg=>?_,λg hg=>?_⟩
 ·have:=cy f y fs;omega
 ·show RelO ((al f y fs).lookup g) (if g=f then some u else mA g)
  rw [av]
  by_cases q:g=f
  ·rw [if_pos q,if_pos q];exact ry
  ·rw [if_neg q,if_neg q];exact r g
 ·by_cases q:g=f
  ·rw [q];exact (i6 f y fs).1
  ·refine (i6 f y fs).2 g (wi g λz=>hg ?_)
   show (if g=f then some u else mA g)=none
   rw [if_neg q];exact z
theorem Inv.made(I:Inv X pins σ H s):Inv X pins σ (upd (upd H s.heap.objs.size (.own (s.heap.objs.size+1))) (s.heap.objs.size+1) (.ins C s.heap.objs.size []))
  {s with heap:=(s.heap.push PySem.W.emptyDict).push (PySem.W.instObj C s.heap.objs.size)}:=by
 have e1:(s.heap.push PySem.W.emptyDict).get? s.heap.objs.size=some PySem.W.emptyDict:=Heap.get?_push_size s.heap rfl
 have e2:((s.heap.push PySem.W.emptyDict).push (PySem.W.instObj C s.heap.objs.size)).get? (s.heap.objs.size+1)=some (PySem.W.instObj C s.heap.objs.size):=by
  have:=Heap.get?_push_size (s.heap.push PySem.W.emptyDict) (o:=PySem.W.instObj C s.heap.objs.size) rfl
  rwa [Heap.size_push] at this
 have e3:(s.heap.push PySem.W.emptyDict).Ns s.heap.objs.size (λ_=>none):=⟨PySem.W.emptyDict,#[],_,e1,rfl,(λe he=>absurd he (by simp)),λ_=>rfl⟩
 have I1:=I.laid (a:=s.heap.objs.size) (o:=.own (s.heap.objs.size+1)) (h':=s.heap.push PySem.W.emptyDict) (t':=s.toks) (λb u q=>Heap.get?_push_of_some _ q) (Nat.le_refl _) ⟨_,e1⟩
 refine I1.laid (a:=s.heap.objs.size+1) (o:=.ins C s.heap.objs.size []) (t':=s.toks) (λb u q=>Heap.get?_push_of_some _ q) (Nat.le_of_eq (Heap.size_push _ _)) ?_
 have ne:s.heap.objs.size≠s.heap.objs.size+1:=Nat.ne_of_lt (Nat.lt_succ_self _)
 refine ⟨by rw [ay ne,ae],Nat.zero_le _,ne,e2,λ_=>none,(Heap.Ns1.of_empty e3).at λo q=>Heap.get?_push_of_some _ q,λ_=>True.intro,λy hy=>absurd rfl hy⟩
theorem wo{prog:Program}{w:World}{env:Env}{e:Expr}{f:Str}{pos:Pos}{s:Shared}{Q:Value->Shared->Prop}(hb:attributeBase e f env (eval e env)=eval e env)
  (h:wpAny (model prog w) A (eval e env) (λo s₁=>wpAny (model prog w) A (getAttr o f true) Q E s₁) E s):wpAny (model prog w) A (eval (.Attribute e f pos) env) Q E s :=
 Attribute_any_ h (by rw [arm_eval_Attribute,hb])
end
def qG(K:PySem.W.Frag)(ta:TE)(f:Str):TE:=fun σ H Q=>ta σ H λx H1=>∃a C dx fs v,x=.ref a/\H1 a=some (.ins C dx fs)/\Cls K C/\NoAttr K C f/\fs.lookup f=some v/\Q v H1
def zK(K:PySem.W.Frag)(ta tv:TE)(f:Str):TS:=λD σ H=>tv σ H λy H1=>ta σ H1 λx H2=>∃a C dx fs,x=.ref a/\H2 a=some (.ins C dx fs)/\Cls K C/\NoAttr K C f/\fs.length<1000 /\
 D.nx σ (upd H2 a (.ins C dx (al f y fs)))
def zw(X:Cx)(op:Operator)(rd:V->V->Hp->VK->Prop):Prop :=
 ∀(pins:List (Addr×Obj)) (s:Shared) (σ:St) (H:Hp) (x y:V) (u v:Value) (Q:VK),Inv X pins σ H s->RelV x u->RelV y v->rd x y H Q->wpAny (model X.prog X.w) X.A (inplaceOp op u v) (EP X pins σ Q) X.xe s
def vm(K:PySem.W.Frag)(ta tv:TE)(rd:V->V->Hp->VK->Prop)(f:Str):TS:=λD σ H=>ta σ H λx H1=>∃a C dx fs v,x=.ref a/\H1 a=some (.ins C dx fs)/\Cls K C/\NoAttr K C f/\fs.lookup f=some v /\
 tv σ H1 λy H2=>rd v y H2 λz H3=>∃dx' fs',H3 a=some (.ins C dx' fs')/\fs'.length<1000/\D.nx σ (upd H3 a (.ins C dx' (al f z fs')))
section
variable {X:Cx}{o e value:Expr}{f:Str}{pos pos' tpos:Pos}{ta tv:TE}
theorem aq(he:PE X e ta)(hb:attributeBase e f X.env (eval e X.env)=eval e X.env):PE X (.Attribute e f pos) (qG X.K ta f):=by
 intro pins s σ H Q I h
 refine wo hb (thn (he pins s σ H _ I h) λu s1 ⟨x,H1,I1,rx,a,C,dx,fs,v,ex,ea,c,n,l,q⟩=>?_)
 subst ex
 obtain rfl:u=Value.ref a:=rx
 exact j5 I1 ea c n l λu' s2 I2 ru=>⟨v,H1,I2,ru,q⟩
theorem aH(ha:PE X o ta)(hv:PE X value tv)(hs:swapsWith value (some (.Attribute o f pos')) pos.line X.env=pure false):PS X (.Assign [.Attribute o f pos'] value pos) (zK X.K ta tv f):=by
 intro pins s σ H D I h
 refine plainObj_wpAny_Assign_Attribute (thn (hv pins s σ H _ I h) λu s1 ⟨y,H1,I1,ry,q⟩=>thn (ha pins s1 σ H1 _ I1 q) λov s2 ⟨x,H2,I2,rx,a,C,dx,fs,ex,ea,c,n,l,q2⟩=>?_) hs
 subst ex
 obtain rfl:ov=Value.ref a:=rx
 exact jH I2 ea c n l ry λs3 I3=>⟨σ,_,I3,q2⟩
theorem iW{op:Operator}{rd:V->V->Hp->VK->Prop}(ha:PE X o ta)(hv:PE X value tv)(hop:zw X op rd):PS X (.AugAssign (.Attribute o f tpos) op value pos) (vm X.K ta tv rd f):=by
 intro pins s σ H D I h
 refine wpAny_AugAssign_AttributeAny (thn (ha pins s σ H _ I h) λov s1 ⟨x,H1,I1,rx,a,C,dx,fs,v,ex,ea,c,n,l,q⟩=>?_)
 subst ex
 obtain rfl:ov=Value.ref a:=rx
 refine j5 I1 ea c n l λu s2 I2 ru=>thn (hv pins s2 σ H1 _ I2 q) λw3 s3 ⟨y,H2,I3,ry,q3⟩=>thn (hop pins s3 σ H2 v y u w3 _ I3 ru ry q3) λw4 s4 ⟨z,H3,I4,rz,dx',fs',ea',l',q4⟩=>?_
 exact jH I4 ea' c n l' rz λs5 I5=>⟨σ,_,I5,q4⟩
def zN:V->V->Hp->VK->Prop:=λx y H Q=>∃i j,x=.int i/\y=.int j/\Q (.int (i+j)) H
theorem pJ:zw X .Add zN:=by
 rintro pins s σ H x y u v Q I rx ry ⟨i,j,rfl,rfl,q⟩
 obtain ⟨t,rfl⟩:=(show ∃t,u=Value.int i t from rx)
 obtain ⟨t',rfl⟩:=(show ∃t',v=Value.int j t' from ry)
 exact PyProof.Rows.iadd_int ⟨.int (i+j),H,I.tok _,⟨_,rfl⟩,q⟩
end
section
variable {X:Cx}{pins:List (Addr×Obj)}{σ:St}{H:Hp}{s:Shared}{A:Around}{E:Value->Shared->Prop}{Q:Value->Shared->Prop}{c:Value}{b:Bool}
inductive TyOf (K:PySem.W.Frag) (H:Hp):V->Value->Prop where
 | non:TyOf K H .non (.type "NoneType")
 | bl (x:Bool):TyOf K H (.bl x) (.type "bool")
 | int (i:Int):TyOf K H (.int i) (.type "int")
 | str (x:Str):TyOf K H (.str x) (.type "str")
 | flt (x:UInt64):TyOf K H (.flt x) (.type "float")
 | lst {a:Addr} {xs:List V} (e:H a=some (.lst xs)):TyOf K H (.ref a) (.type "list")
 | frz {a:Addr} {o:Obj} {xs:List V} (e:H a=some (.frz o (.lst xs))):TyOf K H (.ref a) (.type "list")
 | tup {a:Addr} {xs:List V} (e:H a=some (.tup xs)):TyOf K H (.ref a) (.type "tuple")
 | dK {a:Addr} {kvs:List (Key×V)} (e:H a=some (.dK kvs)):TyOf K H (.ref a) (.type "dict")
 | dT {a:Addr} {kvs:List (List Key×V)} (e:H a=some (.dT kvs)):TyOf K H (.ref a) (.type "dict")
 | ins {a C dx:Addr} {fs:List (Str×V)} (e:H a=some (.ins C dx fs)) (cl:Cls K C) (ha:PySem.W.findIn K (.ref C) "__class__"=some (some (.builtin "object.__class__")))
   (hn:PySem.W.specialIn K (.builtin "object.__class__") "__get__"=some (some (.builtin "getset_descriptor.__get__"))) (htk:PySem.W.takesIn K (.builtin "object.__class__")=some true)
   (hm:PySem.W.mroIn K C (.type "object")=some true):TyOf K H (.ref a) (.ref C)
theorem kT{x:V}{u t:Value}(I:Inv X pins σ H s)(rx:RelV x u)(ty:TyOf X.K H x t)(e:PySem.W.kitOne X.K t c=some b)(h:∀tk,Q (.bool b) {s with toks:=tk}) :
  wpAny (model X.prog X.w) A (call (.builtin "isinstance") [u,c]) Q E s:=by
 cases ty with
 | non=>cases (show u=Value.none from rx);exact PySem.W.kia_one PySem.W.kitx_none I.kIn True.intro e (λz=>nomatch z) h
 | bl y=>cases (show u=Value.bool y from rx);exact PySem.W.kia_one PySem.W.kitx_bool I.kIn True.intro e (λz=>nomatch z) h
 | int i=>obtain ⟨t,q⟩:=(show ∃t,u=Value.int i t from rx);cases q;exact PySem.W.kia_one PySem.W.kitx_int I.kIn True.intro e (λz=>nomatch z) h
 | str y=>obtain ⟨t,q⟩:=(show ∃t,u=Value.str y t from rx);cases q;exact PySem.W.kia_one PySem.W.kitx_str I.kIn True.intro e (λz=>nomatch z) h
 | flt y=>obtain ⟨t,q⟩:=(show ∃t,u=Value.float y t from rx);cases q;exact PySem.W.kia_one PySem.W.kitx_float I.kIn True.intro e (λz=>nomatch z) h
 | @lst a xs ea =>
  cases (show u=Value.ref a from rx)
  obtain ⟨_,_,n,_,h1⟩:=(show ObjOk X.prog X.w H s.heap a (.lst xs) from I.hok a _ ea)
  exact PySem.W.kia_one PySem.W.kitx_list I.kIn ⟨_,h1,rfl⟩ e (λz=>nomatch z) h
 | @frz a ob xs ea =>
  cases (show u=Value.ref a from rx)
  obtain ⟨_,_,_,n,_,h1⟩:=(show ObjOk X.prog X.w H s.heap a (.frz ob (.lst xs)) from I.hok a _ ea)
  exact PySem.W.kia_one PySem.W.kitx_list I.kIn ⟨_,h1,rfl⟩ e (λz=>nomatch z) h
 | @tup a xs ea =>
  cases (show u=Value.ref a from rx)
  obtain ⟨_,_,_,p⟩:=(show ObjOk X.prog X.w H s.heap a (.tup xs) from I.hok a _ ea)
  obtain ⟨o,h1,h2,_⟩:=p
  exact PySem.W.kia_one PySem.W.kitx_tuple I.kIn ⟨o,h1,h2⟩ e (λz=>nomatch z) h
 | @dK a kvs ea =>
  cases (show u=Value.ref a from rx)
  obtain ⟨_,_,vs,_,p⟩:=(show ObjOk X.prog X.w H s.heap a (.dK kvs) from I.hok a _ ea)
  obtain ⟨o,es,ep,h1,h2,_⟩:=p
  exact PySem.W.kia_one PySem.W.kitx_dict I.kIn ⟨o,h1,h2.1⟩ e (λz=>nomatch z) h
 | @dT a kvs ea =>
  cases (show u=Value.ref a from rx)
  obtain ⟨_,_,xs,_,o,es,ep,h1,h2,_⟩:=(show ObjOk X.prog X.w H s.heap a (.dT kvs) from I.hok a _ ea)
  exact PySem.W.kia_one PySem.W.kitx_dict I.kIn ⟨o,h1,h2.1⟩ e (λz=>nomatch z) h
 | @ins a C dx fs ea cl ha hn htk hm =>
  cases (show u=Value.ref a from rx)
  obtain ⟨mA,O,_⟩:=jz I.hok ea
  obtain ⟨od,J,_⟩:=O.look
  exact PySem.W.kia_one (PySem.W.kitx_own (cl.get _) cl.hd ha hn htk hm) I.kIn J e (λz=>nomatch z) h
end
end L2
namespace L2
open PySem PySem.Spec PyProof.Rows
structure Room(k:Nat)(A:Around):Prop where
 hd:A.handled=none
 dp:A.depth+3*k+5<recursionLimit
 un:A.units+16*k+200<cLine
theorem Room.mono{j k:Nat}{A:Around}(r:Room k A)(h:j<=k):Room j A:=⟨r.hd,by have:=r.dp;omega,by have:=r.un;omega⟩
theorem Room.deeper{k:Nat}{A:Around}(r:Room (k+1) A)(env:Env):Room k (A.deeper env) :=
 ⟨r.hd,by have:=r.dp;show A.depth+1+3*k+5<_;omega,by have:=r.un;show A.units+3+16*k+200<_;omega⟩
theorem pB{A:Around}{C:Addr}{us:List Value}{kw:List (Str×Value)}:(A.under (.builtin "type.__call__" ⟨.ref C::us,kw⟩)).depth=A.depth+1:=by
 first | rfl | simp [Around.under,Code.weight,Code.isCreation,Code.isGuard,Code.isCaller,Code.frames,Code.isFrame,guardIds]
theorem pA{A:Around}{C:Addr}{us:List Value}{kw:List (Str×Value)}:(A.under (.builtin "type.__call__" ⟨.ref C::us,kw⟩)).units=A.units+1:=by
 first | rfl | simp [Around.under,Code.cUnits,Code.frames,Code.isFrame]
theorem Room.make{k:Nat}{A:Around}(r:Room (k+1) A)(C:Addr)(us:List Value)(kw:List (Str×Value)):Room k (A.under (.builtin "type.__call__" ⟨.ref C::us,kw⟩)) :=
 ⟨r.hd,by have:=r.dp;rw [pB];omega,by have:=r.un;rw [pA];omega⟩
theorem Room.depth{k:Nat}{A:Around}(r:Room k A):A.depth<recursionLimit:=by have:=r.dp;omega
theorem Room.units{k:Nat}{A:Around}(r:Room k A):A.units+64<cLine:=by have:=r.un;omega
def u5:TA:=λ_ H Q=>Q [] H
def wA(ta:TE)(tr:TA):TA:=fun σ H Q=>ta σ H λx H1=>tr σ H1 λxs H2=>Q (x::xs) H2
section
variable {X:Cx}{e:Expr}{es:List Expr}{te:TE}{t:TA}{pos:Pos}
theorem ad:PA X [] u5:=λ_ _ _ _ H Q I h=>Calls.spliced_nil ⟨[],H,I,.nil,h⟩
theorem aa(ha:PE X e te)(hr:PA X es t)(hs:starEach (e::es) X.env=(false,eval e X.env)::starEach es X.env:=by rfl):PA X (e::es) (wA te t):=by
 intro pos pins s σ H Q I h
 rw [hs]
 show wpAny _ _ (spliced ((false,eval e X.env)::backTo pos (starEach es X.env))) _ _ s
 refine Calls.spliced_cons (thn (ha pins s σ H _ I h) λu s1 ⟨x,H1,I1,r1,q1⟩=>?_)
 exact thn (hr pos pins s1 σ H1 _ I1 q1) λus s2 ⟨xs,H2,I2,r2,q2⟩=>⟨x::xs,H2,I2,.cons r1 r2,q2⟩
def zA(t:TA):TE:=fun σ H Q=>t σ H λxs H1=>xs.length<=sizeLine/\∀p,H1 p=none->Q (.ref p) (upd H1 p (.tup xs))
def zF(t:TA):TE:=fun σ H Q=>t σ H λxs H1=>xs.length<=sizeLine/\∀p,H1 p=none->Q (.ref p) (upd H1 p (.lst xs))
theorem bi{x1}(h:PA X es t):PE X (.Tuple es x1 pos) (zA t):=by
 intro pins s σ H Q I hq
 refine wpAny_Tuple_spliced (thn (h pos pins s σ H _ I hq) λus s1 ⟨xs,H1,I1,r,z,q⟩=>⟨by rw [← r.length];exact z,?_⟩)
 have hf:H1 s1.heap.objs.size=none:=I1.hok.fresh (Nat.le_refl _)
 refine ⟨.ref s1.heap.objs.size,upd H1 s1.heap.objs.size (.tup xs),I1.laid (t':=s1.toks) (λb u e=>Heap.get?_push_of_some _ e) (Nat.le_refl _) ?_,rfl,q _ hf⟩
 exact ⟨z,us,r,⟨_,Heap.get?_push_size _ rfl,rfl,_,rfl⟩⟩
theorem bU(h:PA X es t):PE X (.List es pos) (zF t):=by
 intro pins s σ H Q I hq
 refine wpAny_List_spliced (thn (h pos pins s σ H _ I hq) λus s1 ⟨xs,H1,I1,r,z,q⟩=>⟨by rw [← r.length];exact z,?_⟩)
 have hf:H1 s1.heap.objs.size=none:=I1.hok.fresh (Nat.le_refl _)
 refine ⟨.ref s1.heap.objs.size,upd H1 s1.heap.objs.size (.lst xs),I1.laid (t':=s1.toks) (λb u e=>Heap.get?_push_of_some _ e) (Nat.le_refl _) ?_,rfl,q _ hf⟩
 exact ⟨z,us,0,r,Heap.get?_push_size _ rfl⟩
end
abbrev Sp:=List V->Hp->VK->XK->Prop
abbrev CXT:=List Env->Hp->Shared->XK->Value->Shared->Prop
structure Env0(P:Program)(w:World)(K:PySem.W.Frag)(mg:Str->Option Value)(base:Heap)(A:Around)(outer:List Env)(s:Shared)(H:Hp):Prop where
 frames:A.frames=some outer
 mod:Mod K mg base
 bs:∀b o,base.get? b=some o->s.heap.get? b=some o/\H b=none
 bsz:base.objs.size<=s.heap.objs.size
 funs:s.heap.FunFrames base outer
 frf:∀b∈frs outer,H b=none
 hok:HOk P w H s.heap
 bare:AllBare s.gens
def CE(outer:List Env)(P:Program)(w:World)(H:Hp)(s:Shared)(Q:VK)(u:Value)(s':Shared):Prop :=
 ∃v H',s'.os=s.os/\AllBare s'.gens/\Un (frs outer) [] H H' s.heap s'.heap/\HOk P w H' s'.heap/\RelV v u/\Q v H'
def CR(CX:CXT)(outer:List Env)(P:Program)(w:World)(H:Hp)(s:Shared)(Q:VK)(E:XK)(r:Result)(s':Shared):Prop :=
 match r with
 | .ok (.ret u)=>CE outer P w H s Q u s'
 | .ok _=>False
 | .error e=>CX outer H s E e s'
structure FnOk(P:Program)(w:World)(K:PySem.W.Frag)(mg:Str->Option Value)(base:Heap)(CX:CXT)(k:Nat)(f:Addr)(fd:FuncData)(ps:List Str)(sp:Sp):Prop where
 len:∀vs H Q E,sp vs H Q E->vs.length=ps.length
 run:∀(A:Around) (outer:List Env) (s:Shared) (H:Hp) (args:Args) (us:List Value) (vs:List V) (Q:VK) (E:XK),Room k A->Env0 P w K mg base A outer s H->BindsTo s fd args (ps.zip us)->Vals vs us->sp vs H Q E ->
  codeAny (model P w) A (.call (.ref f) args) (CR CX outer P w H s Q E) s
theorem FnOk.mono{P:Program}{w:World}{K:PySem.W.Frag}{mg:Str->Option Value}{base:Heap}{CX:CXT}{j k:Nat}{f:Addr}{fd:FuncData}{ps:List Str}{sp:Sp}(F:FnOk P w K mg base CX j f fd ps sp)(h:j<=k) :
  FnOk P w K mg base CX k f fd ps sp:=⟨F.len,λA outer s H args us vs Q E hr=>F.run A outer s H args us vs Q E (hr.mono h)⟩
theorem FnOk.imp{P:Program}{w:World}{K:PySem.W.Frag}{mg:Str->Option Value}{base:Heap}{CX:CXT}{k:Nat}{f:Addr}{fd:FuncData}{ps:List Str}{sp sp':Sp}(F:FnOk P w K mg base CX k f fd ps sp)
  (h:∀vs H Q E,sp' vs H Q E->sp vs H Q E):FnOk P w K mg base CX k f fd ps sp' :=
 ⟨λvs H Q E q=>F.len vs H Q E (h _ _ _ _ q),λA outer s H args us vs Q E hr he hb hv hs=>F.run A outer s H args us vs Q E hr he hb hv (h _ _ _ _ hs)⟩
theorem Env0.make{P:Program}{w:World}{K:PySem.W.Frag}{mg:Str->Option Value}{base:Heap}{A:Around}{outer:List Env}{s:Shared}{H:Hp}(e:Env0 P w K mg base A outer s H)(C:Addr)(us:List Value)(kw:List (Str×Value)) :
  Env0 P w K mg base (A.under (.builtin "type.__call__" ⟨.ref C::us,kw⟩)) outer s H:=⟨by first | exact e.frames | (simpa [Around.under,Code.envs,Code.isFrame,pushEnvs] using e.frames),e.mod,e.bs,e.bsz,e.funs,e.frf,e.hok,e.bare⟩
section
variable {X:Cx}{pins:List (Addr×Obj)}{σ:St}{H:Hp}{s s':Shared}
theorem Inv.env0(I:Inv X pins σ H s):Env0 X.prog X.w X.K X.mg X.base X.A X.stack s H :=
 ⟨I.ok.frames,I.ok.mod,I.bs,Nat.le_trans I.ok.bsz I.sz,I.stack,I.stkFree,I.hok,I.bare⟩
theorem Inv.after{Q:VK}{u:Value}(I:Inv X pins σ H s)(h:CE X.stack X.prog X.w H s Q u s'):EP X pins σ Q u s':=by
 obtain ⟨v,H',os,bare,un,hok,r,q⟩:=h
 obtain ⟨hh,g,d,t,os'⟩:=s'
 obtain rfl:os'=s.os:=os
 exact ⟨v,H',I.call (h':=hh) (g':=g) (d':=d) (t':=t) (ch:=[]) un hok bare (λb z=>absurd z (by simp)),r,q⟩
end
def rS(sp:Sp)(dvs:List V)(E:XK)(t:TA):TE:=fun σ H Q=>t σ H λvs H1=>sp (vs++dvs) H1 Q E
def pU(C:Addr)(m:Str)(sp:Sp)(dvs:List V)(E:XK)(ta:TE)(t:TA):TE:=fun σ H Q=>ta σ H λx H1=>∃a dx fs,x=.ref a/\H1 a=some (.ins C dx fs)/\fs.lookup m=none /\
 t σ H1 λvs H2=>sp (x::(vs++dvs)) H2 Q E
def yC(C:Addr)(sp:Sp)(dvs:List V)(E:XK)(t:TA):TE:=fun σ H Q=>t σ H λvs H1=>∀x dx,H1 x=none->H1 dx=none->dx≠x ->
 sp (.ref x::(vs++dvs)) (upd (upd H1 dx (.own x)) x (.ins C dx [])) (λv H2=>v=.non/\Q (.ref x) H2) E
def Binds(K:PySem.W.Frag)(fd:FuncData)(ps:List Str)(ds:List Value):Prop :=
 ∀(s:Shared) (us:List Value),K.In s.heap->(us++ds).length=ps.length->BindsTo s fd ⟨us,[]⟩ (ps.zip (us++ds))
theorem Binds.all{K:PySem.W.Frag}{fd:FuncData}{ps:List Str}(h:∀us:List Value,us.length=ps.length->bindArgs fd ⟨us,[]⟩=pure (ps.zip us)):Binds K fd ps []:=λs us _ hl=>by
 rw [List.append_nil] at hl ⊢
 exact .of_eq (h us hl)
def dQ(CX:CXT)(X:Cx)(E:XK):Prop:=∀(pins:List (Addr×Obj)) (σ:St) (H:Hp) (s:Shared) (e:Value) (s':Shared),Inv X pins σ H s->CX X.stack H s E e s'->X.xe e s'
section
variable {X:Cx}{CX:CXT}{k:Nat}{f C:Addr}{fd:FuncData}{ps:List Str}{sp:Sp}{dvs:List V}{ds:List Value}{E:XK}{x m:Str}{p pos apos:Pos}{e o:Expr}{es:List Expr}{ta:TE}{t:TA}
theorem l8{pins:List (Addr×Obj)}{σ:St}{H:Hp}{s:Shared}{Q:VK}{us:List Value}{vs:List V}(F:FnOk X.prog X.w X.K X.mg X.base CX k f fd ps sp)(hr:Room k X.A)(hb:Binds X.K fd ps ds)(hd:Vals dvs ds)(hx:dQ CX X E)
  (I:Inv X pins σ H s)(r:Vals vs us)(h:sp (vs++dvs) H Q E):wpAny (model X.prog X.w) X.A (call (.ref f) us) (EP X pins σ Q) X.xe s:=by
 have r2:Vals (vs++dvs) (us++ds):=r.append hd
 have hl:(us++ds).length=ps.length:=by rw [← r2.length];exact F.len _ _ _ _ h
 refine wpAny_call (codeAny_mono (F.run X.A X.stack s H ⟨us,[]⟩ (us++ds) (vs++dvs) Q E hr I.env0 (hb s us I.kIn hl) r2 h) λr s' hq=>?_)
 cases r with
 | error e=>exact hx pins σ H s e s' I hq
 | ok fl =>
  cases fl with
  | ret u=>exact I.after hq
  | next=>exact False.elim hq
  | brk=>exact False.elim hq
  | cont=>exact False.elim hq
theorem ma(F:FnOk X.prog X.w X.K X.mg X.base CX k f fd ps sp)(hr:Room k X.A)(hg:Gl X x)(hm:X.mg x=some (.ref f))(hk:PySem.W.keepIn X.K (.ref f)=true)(hb:Binds X.K fd ps ds)(hd:Vals dvs ds)(hx:dQ CX X E)
  (ha:PA X (e::es) t)(hdb:(x==("__debug__":Str))=false:=by decide)(he:starEach (e::es) X.env=(false,eval e X.env)::starEach es X.env:=by rfl)(hpl:(backTo pos (starEach es X.env)).any (·.1)=false:=by rfl) :
  PE X (.Call (.Name x p) (e::es) [] pos) (rS sp dvs E t):=by
 intro pins s σ H Q I h
 refine wpAny_Call_Name_kw (jy I hg hm ?_ hdb)
 refine PySem.W.callWith_K (h₀:=X.base) I.ok.mod.kin hk (thn (ha pos pins s σ H _ I h) λus s1 ⟨vs,H1,I1,r,q⟩=>⟨I1.kIn,?_⟩) he hpl
 exact l8 F hr hb hd hx I1 r q
theorem gz{pl:Sem Bool}(he:PE X o ta)(c:Cls X.K C)(hm:g7 X.K C m f)(F:FnOk X.prog X.w X.K X.mg X.base CX k f fd ps sp)(hr:Room k X.A)(hb:Binds X.K fd ps ds)(hd:Vals dvs ds)(hx:dQ CX X E)(ha:PA X (e::es) t)
  (hst:starEach (e::es) X.env=(false,eval e X.env)::starEach es X.env:=by rfl)(hpl:(backTo pos (starEach es X.env)).any (·.1)=false:=by rfl)
  (ht:eval (.Call (.Attribute o m apos) (e::es) [] pos) X.env=(do
   let ov ← eval o X.env
   standAt apos.atName
   let (f,first) ← holding [ov] (getMethod ov m pl)
   callWith pos f first (backTo pos (starEach (e::es) X.env)) (backToKw pos (keywordEach [] X.env))):=by rfl) :
  PE X (.Call (.Attribute o m apos) (e::es) [] pos) (pU C m sp dvs E ta t):=by
 intro pins s σ H Q I h
 refine PySem.W.methodCall_KW (pl:=pl) (thn (he pins s σ H _ I h) λu s1 ⟨x,H1,I1,rx,a,dx,fs,ex,ea,l,q⟩=>?_) ht
 subst ex
 obtain rfl:u=Value.ref a:=rx
 refine j4 I1 ea c hm l ?_
 refine PySem.W.callWith_K (first:=[.ref a]) (h₀:=X.base) I.ok.mod.kin hm.kp (thn (ha pos pins s1 σ H1 _ I1 q) λus s2 ⟨vs,H2,I2,r,q2⟩=>⟨I2.kIn,?_⟩) hst hpl
 exact l8 (us:=.ref a::us) (vs:=.ref a::vs) F hr hb hd hx I2 (.cons rfl r) q2
theorem ik{pl:Sem Bool}(he:PE X o ta)(c:Cls X.K C)(hm:g7 X.K C m f)(F:FnOk X.prog X.w X.K X.mg X.base CX k f fd ps sp)(hr:Room k X.A)(hb:Binds X.K fd ps ds)(hd:Vals dvs ds)(hx:dQ CX X E)
  (ht:eval (.Call (.Attribute o m apos) [] [] pos) X.env=(do
   let ov ← eval o X.env
   standAt apos.atName
   let (f,first) ← holding [ov] (getMethod ov m pl)
   callWith pos f first (backTo pos (starEach [] X.env)) (backToKw pos (keywordEach [] X.env))):=by rfl) :
  PE X (.Call (.Attribute o m apos) [] [] pos) (pU C m sp dvs E ta u5):=by
 intro pins s σ H Q I h
 refine PySem.W.methodCall_KW (pl:=pl) (thn (he pins s σ H _ I h) λu s1 ⟨x,H1,I1,rx,a,dx,fs,ex,ea,l,q⟩=>?_) ht
 subst ex
 obtain rfl:u=Value.ref a:=rx
 refine j4 I1 ea c hm l ?_
 exact PySem.W.callWith_K0 (first:=[.ref a]) I1.kIn hm.kp (l8 (us:=[.ref a]) (vs:=[.ref a]) F hr hb hd hx I1 (.cons rfl .nil) q)
structure Mk(K:PySem.W.Frag)(C f:Addr):Prop where
 makes:PySem.W.makesIn K C=true
 init:PySem.W.findIn K (.ref C) "__init__"=some (some (.ref f))
 fn:PySem.W.isFn K (.ref f)=true
 kp:PySem.W.keepIn K (.ref C)=true
theorem sK{pins:List (Addr×Obj)}{σ:St}{H:Hp}{s:Shared}{Q:VK}{us:List Value}{vs:List V}(M:Mk X.K C f)(F:FnOk X.prog X.w X.K X.mg X.base CX k f fd ps sp)(hr:Room (k+1) X.A)(hb:Binds X.K fd ps ds)(hd:Vals dvs ds)
  (hx:dQ CX X E)(I:Inv X pins σ H s)(r:Vals vs us)
  (h:∀x dx,H x=none->H dx=none->dx≠x->sp (.ref x::(vs++dvs)) (upd (upd H dx (.own x)) x (.ins C dx [])) (λv H2=>v=.non/\Q (.ref x) H2) E) :
  wpAny (model X.prog X.w) X.A (call (.ref C) us) (EP X pins σ Q) X.xe s:=by
 have hq:=h (s.heap.objs.size+1) s.heap.objs.size (I.hok.fresh (Nat.le_succ _)) (I.hok.fresh (Nat.le_refl _)) (Nat.ne_of_lt (Nat.lt_succ_self _))
 have I2:=Inv.made (C:=C) I
 have r2:Vals (V.ref (s.heap.objs.size+1)::(vs++dvs)) (Value.ref (s.heap.objs.size+1)::(us++ds)):=.cons rfl (r.append hd)
 have hl:(Value.ref (s.heap.objs.size+1)::us++ds).length=ps.length:=by
  have e:=r2.length
  rw [F.len _ _ _ _ hq] at e
  exact e.symm
 refine wpAny_call (ui (f:=f) I.kIn M.makes M.init (beq_iff_eq.mp M.fn) (codeAny_mono (F.run _ X.stack _ _ ⟨Value.ref (s.heap.objs.size+1)::us,[]⟩ (Value.ref (s.heap.objs.size+1)::(us++ds)) _ _ E (hr.make C us [])
  (I2.env0.make C us []) (hb _ (Value.ref (s.heap.objs.size+1)::us) I2.kIn hl) r2 hq) λr s' hq'=>?_))
 cases r with
 | error e=>exact hx pins σ _ _ e s' I2 hq'
 | ok fl =>
  cases fl with
  | ret u =>
   obtain ⟨v,H',I3,rv,ev,q3⟩:=I2.after hq'
   subst ev
   exact ⟨rv,⟨V.ref (s.heap.objs.size+1),H',I3,rfl,q3⟩⟩
  | next=>exact False.elim hq'
  | brk=>exact False.elim hq'
  | cont=>exact False.elim hq'
theorem ce(M:Mk X.K C f)(F:FnOk X.prog X.w X.K X.mg X.base CX k f fd ps sp)(hr:Room (k+1) X.A)(hg:Gl X x)(hm:X.mg x=some (.ref C))(hb:Binds X.K fd ps ds)(hd:Vals dvs ds)(hx:dQ CX X E)
  (ha:PA X (e::es) t)(hdb:(x==("__debug__":Str))=false:=by decide)(he:starEach (e::es) X.env=(false,eval e X.env)::starEach es X.env:=by rfl)(hpl:(backTo pos (starEach es X.env)).any (·.1)=false:=by rfl) :
  PE X (.Call (.Name x p) (e::es) [] pos) (yC C sp dvs E t):=by
 intro pins s σ H Q I h
 refine wpAny_Call_Name_kw (jy I hg hm ?_ hdb)
 refine PySem.W.callWith_K (h₀:=X.base) I.ok.mod.kin M.kp (thn (ha pos pins s σ H _ I h) λus s1 ⟨vs,H1,I1,r,q⟩=>⟨I1.kIn,?_⟩) he hpl
 exact sK M F hr hb hd hx I1 r q
end
structure ak(N P:List Str)(sc:Scope):Prop where
 kind:sc.kind=.function
 co:sc.isCoroutine=false
 gen:sc.isGenerator=false
 nd:N.Nodup
 pre:N.take P.length=P
 par:∀x∈P,sc.names.lookup x=some .local\/sc.names.lookup x=some .cell
 nofree:∀y∈sc.names,y.2≠.free
theorem lA{kindOf:Str->Option NameKind}{x:Str}:∀{binds:List (Str×Value)} {m:Str->Option Value},(∀v,(x,v)∉binds)->bindL kindOf binds m x=m x
 | [],_,_=>rfl
 | (n,v)::r,m,h=>by
  unfold bindL
  rw [lA λw hw=>h w (List.mem_cons_of_mem _ hw)]
  split
  ·have:x≠n:=by rintro rfl;exact h v List.mem_cons_self
   simp [this]
  ·rfl
theorem lC{kindOf:Str->Option NameKind}{x:Str}:∀{binds:List (Str×Value)} {m:Str->Option Value},(∀v,(x,v)∉binds)->bindC kindOf binds m x=m x
 | [],_,_=>rfl
 | (n,v)::r,m,h=>by
  unfold bindC
  rw [lC λw hw=>h w (List.mem_cons_of_mem _ hw)]
  split
  ·rfl
  ·have:x≠n:=by rintro rfl;exact h v List.mem_cons_self
   simp [this]
theorem lB{kindOf:Str->Option NameKind}{x:Str}{v:Value}:∀{P:List Str} {vs:List Value} {i:Nat} {m:Str->Option Value},P.Nodup->P[i]?=some x->vs[i]?=some v->kindOf x=some .local ->
  bindL kindOf (P.zip vs) m x=some v
 | [],_,_,_,_,h,_,_=>by simp at h
 | _::_,[],_,_,_,_,h,_=>by simp at h
 | p::P,w::vs,0,m,nd,h1,h2,hk=>by
  simp at h1 h2;subst h1;subst h2
  show bindL kindOf ((p,w)::P.zip vs) m p=_
  unfold bindL
  rw [lA λv hv=>(List.nodup_cons.mp nd).1 (List.of_mem_zip hv).1,if_pos hk]
  simp
 | p::P,w::vs,i+1,m,nd,h1,h2,hk=>by
  show bindL kindOf ((p,w)::P.zip vs) m x=_
  unfold bindL
  exact lB (i:=i) (List.nodup_cons.mp nd).2 (by simpa using h1) (by simpa using h2) hk
theorem lD{kindOf:Str->Option NameKind}{x:Str}{v:Value}:∀{P:List Str} {vs:List Value} {i:Nat} {m:Str->Option Value},P.Nodup->P[i]?=some x->vs[i]?=some v->kindOf x≠some .local ->
  bindC kindOf (P.zip vs) m x=some v
 | [],_,_,_,_,h,_,_=>by simp at h
 | _::_,[],_,_,_,_,h,_=>by simp at h
 | p::P,w::vs,0,m,nd,h1,h2,hk=>by
  simp at h1 h2;subst h1;subst h2
  show bindC kindOf ((p,w)::P.zip vs) m p=_
  unfold bindC
  rw [lC λv hv=>(List.nodup_cons.mp nd).1 (List.of_mem_zip hv).1,if_neg hk]
  simp
 | p::P,w::vs,i+1,m,nd,h1,h2,hk=>by
  show bindC kindOf ((p,w)::P.zip vs) m x=_
  unfold bindC
  exact lD (i:=i) (List.nodup_cons.mp nd).2 (by simpa using h1) (by simpa using h2) hk
def start(N:List Str)(vs:List V):St:=vs.map some++List.replicate (N.length-vs.length) none
def rH(CX:CXT)(P:Program)(w:World)(K:PySem.W.Frag)(mg:Str->Option Value)(base:Heap)(N:List Str)(qual:Str)(scope:Scope)(f:Addr)(cd:Value)(A:Around)(outer:List Env)(s:Shared)(H:Hp)(E:XK):Cx where
 prog:=P
 w:=w
 K:=K
 mg:=mg
 base:=base
 A:=A.deeper (envOfC qual scope s.heap.objs.size f cd)
 N:=N
 s₀:=s
 H₀:=H
 env:=envOfC qual scope s.heap.objs.size f cd
 outer:=outer
 stack:=envOfC qual scope s.heap.objs.size f cd::outer
 ex:=[]
 calm:=true
 fn:=λ_=>true
 pn:=[]
 xe:=λe s'=>wpAny (model P w) (A.deeper (envOfC qual scope s.heap.objs.size f cd)) (leaving (envOfC qual scope s.heap.objs.size f cd) e) (λ_ s''=>CX outer H s E e s'') (λe' s''=>CX outer H s E e' s'') s'
theorem oy{sc:Scope}{n:Nat}{x:Str}(h:sc.names.lookup x=some .cell):∃c,(cellsFrom n sc.names []).lookup x=some c:=by
 have q:=PySem.W.cellsFrom_some sc.names n [] (.inl h)
 exact Option.isSome_iff_exists.mp q
theorem rm{CX:CXT}{P:Program}{w:World}{K:PySem.W.Frag}{mg:Str->Option Value}{base:Heap}{N ps:List Str}{qual:Str}{scope:Scope}{f:Addr}{cd:Value}{A:Around}{outer:List Env}{s s1:Shared}{H:Hp}{E:XK}{us:List Value}{vs:List V}
  (S:ak N ps scope)(hd:A.handled=none)(e0:Env0 P w K mg base A outer s H)(hl:vs.length=ps.length)(r:Vals vs us)
  (x:InCallC s s.heap.objs.size (bindL (envOfC qual scope s.heap.objs.size f cd).kindOf (ps.zip us) λ_=>none) (cellsFrom (s.heap.objs.size+1) scope.names []) (bindC (envOfC qual scope s.heap.objs.size f cd).kindOf (ps.zip us) λ_=>none) s1) :
  Inv (rH CX P w K mg base N qual scope f cd A outer s H E) [] (start N vs) H s1:=by
 have hpl:ps.length<=N.length:=by have:=congrArg List.length S.pre;rw [List.length_take] at this;omega
 obtain ⟨h1,tk,rfl,hk⟩:=x.done
 have noA:∀b:Addr,b∉(rH CX P w K mg base N qual scope f cd A outer s H E).ex:=λb z=>absurd (show b∈([]:List Addr) from z) (by simp)
 refine ⟨⟨e0.mod,S.kind,rfl,rfl,Nat.le_refl _,λy z c h1 h2=>?_,λy hy=>?_,λy c _ h=>?_,λ_=>hd,Around.frames_deeper e0.frames,.inr ⟨rfl,rfl⟩,λb z=>absurd z (noA b),e0.bs,e0.bsz,λb _ _=>noA b,λb z=>absurd z (noA b),e0.funs,e0.frf⟩,
  rfl,e0.bare,Un.kept hk,⟨_,x.toInCall.ns,λi y v h1 h2 h3=>?_⟩,λy c h=>⟨_,x.cell y c h⟩,e0.hok.fresh (Nat.le_refl _),λy c h=>?_,λp hp=>absurd (show p∈([]:List (Addr×Obj)) from hp) (by simp),e0.hok.kept hk,?_⟩
 ·exact name_of_addr x.apart (PySem.mem_of_lookup h1) (PySem.mem_of_lookup h2)
 ·have hy:scope.names.lookup y=some .cell\/scope.names.lookup y=some .free:=hy
  rcases hy with hy | hy
  ·exact oy hy
  ·exact absurd rfl (S.nofree _ (PySem.mem_of_lookup hy))
 ·exact Nat.le_of_lt (x.above y c (PySem.mem_of_lookup h))
 ·have hi:i<vs.length:=by
   unfold start at h2
   by_cases hi:i<vs.length
   ·exact hi
   ·rw [List.getElem?_append_right (by simpa using hi)] at h2
    rw [List.getElem?_replicate] at h2
    split at h2<;>cases h2
  have ha:vs[i]?=some v:=by
   unfold start at h2
   rw [List.getElem?_append_left (by simpa using hi),List.getElem?_map] at h2
   cases e:vs[i]? with
   | none=>rw [e] at h2;cases h2
   | some a=>rw [e] at h2;cases h2;rfl
  obtain ⟨u,hu,rv⟩:=r.get ha
  have hp:ps[i]?=some y:=by
   rw [← S.pre,List.getElem?_take_of_lt (by omega)];exact h1
  have ndP:ps.Nodup:=by rw [← S.pre];exact S.nd.sublist (List.take_sublist _ _)
  refine ⟨u,rv,?_⟩
  rcases S.par y (List.mem_of_getElem? hp) with k | k
  ·exact .inl ⟨k,lB ndP hp hu k⟩
  ·obtain ⟨c,e⟩:=oy (n:=s.heap.objs.size+1) k
   refine .inr ⟨.inl k,c,e,?_⟩
   have q:=x.cell y c e
   rw [lD ndP hp hu (by show scope.names.lookup y≠_;rw [k];decide)] at q
   exact q
 ·exact e0.hok.fresh (Nat.le_of_lt (x.above y c (PySem.mem_of_lookup h)))
 ·unfold start
  show _=N.length
  rw [List.length_append,List.length_map,List.length_replicate]
  omega
theorem zj{CX:CXT}{P:Program}{w:World}{K:PySem.W.Frag}{mg:Str->Option Value}{base:Heap}{k:Nat}{f:Addr}{name qual:Str}{params:Arguments}{body:List Stmt}{scope:Scope}{dV kV doc pm cdv ct oc:Value}{an od:Option Addr}
  {osl:Array (Option Value)}{N ps:List Str}{sp:Sp}(lk:K.lookup f=some ⟨oc,od,.func (PySem.W.fnOf name qual params body scope dV kV doc pm an cdv ct),osl⟩)(hcd:PySem.W.codeIn K cdv qual=true)(S:ak N ps scope)
  (len:∀vs H Q E,sp vs H Q E->vs.length=ps.length)
  (hbody:∀(A:Around) (outer:List Env) (s:Shared) (H:Hp) (vs:List V) (Q:VK) (E:XK),Room k (A.deeper (envOfC qual scope s.heap.objs.size f cdv))->sp vs H Q E ->
   ∃t,PSs (rH CX P w K mg base N qual scope f cdv A outer s H E) body t/\t {nx:=λ_ H'=>Q .non H',rt:=Q} (start N vs) H) :
  FnOk P w K mg base CX (k+1) f (PySem.W.fnOf name qual params body scope dV kV doc pm an cdv ct) ps sp:=by
 refine ⟨len,λA outer s H args us vs Q E hr e0 hb r hsp=>?_⟩
 have hl:=len _ _ _ _ hsp
 have KX:K.In s.heap:=e0.mod.kin.keeps λb o e=>(e0.bs b o e).1
 have lim:s.heap.NoLimit:=e0.mod.nolimit.keeps λb o e=>(e0.bs b o e).1
 have hkind:∀y∈ps.zip us,scope.names.lookup y.1=some .local\/(scope.names.lookup y.1=some .cell/\((cellsFrom (s.heap.objs.size+1) scope.names []).lookup y.1).isSome=true):=λ⟨n,v⟩ hy=>by
  rcases S.par n (List.of_mem_zip hy).1 with q | q
  ·exact .inl q
  ·exact .inr ⟨q,PySem.W.cellsFrom_some _ _ _ (.inl q)⟩
 refine codeAny_call_function hr.depth (KX _ _ lk) rfl S.co S.gen rfl (PySem.W.codeRec_of KX hcd) (hb _ _ _ _ ?_)
 refine wpAny_newFunctionEnv_cells S.kind hkind λenv he s1 x=>?_
 subst he
 refine ⟨lim.keeps x.toInCall.keep,codeAny_func ?_⟩
 obtain ⟨t,ht,hq⟩:=hbody A outer s H vs Q E (hr.deeper _) hsp
 have I:Inv (rH CX P w K mg base N qual scope f cdv A outer s H E) [] (start N vs) H s1:=rm S hr.hd e0 hl r x
 refine wpAny_mono (ht [] s1 (start N vs) H _ I hq) (λfl s' hs=>?_) λe s' hs=>hs
 have fin:∀{σ':St} {H':Hp} {v:V} {u:Value},Inv (rH CX P w K mg base N qual scope f cdv A outer s H E) [] σ' H' s'->RelV v u->Q v H'->CE outer P w H s Q u s' :=
  λ{σ' H' v u} J rv q=>⟨v,H',J.os,J.bare,J.base,J.hok,rv,q⟩
 cases fl with
 | ret u =>
  obtain ⟨v,σ',H',J,rv,q⟩:=hs
  exact fin J rv q
 | next =>
  obtain ⟨σ',H',J,q⟩:=hs
  exact fin (v:=V.non) (u:=Value.none) J rfl q
 | brk =>
  obtain ⟨_,_,_,q⟩:=hs
  exact False.elim q
 | cont =>
  obtain ⟨_,_,_,q⟩:=hs
  exact False.elim q
end L2
namespace L2
open PySem PySem.Spec PyProof.Rows
section
variable {X:Cx}{x:Str}{p pos:Pos}{e:Expr}{es:List Expr}{t:TA}{id T:String}{r:List V->Hp->VK->Prop}
def tCB(r:List V->Hp->VK->Prop)(t:TA):TE:=fun σ H Q=>t σ H λvs H1=>r vs H1 Q
theorem aw(hc:dq X (.builtin id) r)(hg:Gl X x)(hm:X.mg x=none)(hv:bootBuiltins x=some (.builtin id))(ha:PA X (e::es) t)(hn:x≠"__name__":=by decide)(hdb:(x==("__debug__":Str))=false:=by decide)
  (he:starEach (e::es) X.env=(false,eval e X.env)::starEach es X.env:=by rfl)(hpl:(backTo pos (starEach es X.env)).any (·.1)=false:=by rfl):PE X (.Call (.Name x p) (e::es) [] pos) (tCB r t):=by
 intro pins s σ H Q I h
 refine wpAny_Call_Name_kw (mr I hg hm hv ?_ hn hdb)
 exact PyProof.Rows.callWith_builtin1 (thn (ha pos pins s σ H _ I h) λus s1 ⟨vs,H1,I1,r1,q1⟩=>hc pins s1 σ H1 vs us Q I1 r1 q1) he hpl
theorem aF(hc:dq X (.type T) r)(hg:Gl X x)(hm:X.mg x=none)(hv:bootBuiltins x=some (.type T))(ha:PA X (e::es) t)(hn:x≠"__name__":=by decide)(hdb:(x==("__debug__":Str))=false:=by decide)
  (he:starEach (e::es) X.env=(false,eval e X.env)::starEach es X.env:=by rfl)(hpl:(backTo pos (starEach es X.env)).any (·.1)=false:=by rfl):PE X (.Call (.Name x p) (e::es) [] pos) (tCB r t):=by
 intro pins s σ H Q I h
 refine wpAny_Call_Name_kw (mr I hg hm hv ?_ hn hdb)
 exact PyProof.Rows.callWith_type1 (thn (ha pos pins s σ H _ I h) λus s1 ⟨vs,H1,I1,r1,q1⟩=>hc pins s1 σ H1 vs us Q I1 r1 q1) he hpl
end
end L2
namespace HT
open PySem PyProof.Rows
def wQ:List Int->List Int->Bool
 | [],[]=>false
 | [],_::_=>true
 | _::_,[]=>false
 | x::xs,y::ys=>if x=y then wQ xs ys else decide (x<y)
section
open PySem.SeqAt
open PySem.AutoSeq1 (wpAny_loadPart')
open PySem.MeetsSeq PySem.MeetsSeq2 PySem.MeetsSeq3
end
section
variable {prog:Program}{w:World}{A:Around}{E:Value->Shared->Prop}{s:Shared}
theorem wm{t b:Addr}{vs ws:List Value}{Q:Value->Shared->Prop}(ht:IsTup s.heap t vs.toArray)(hb:IsTup s.heap b ws.toArray)(hv:vs≠[])
  (h1:ws=[]->Q (.ref t) s)(h2:ws≠[]->Q (.ref s.heap.objs.size) {s with heap:=s.heap.push {cls:=.type "tuple",data:=.seq (vs++ws).toArray}})
  (hsz:vs.length+ws.length<=sizeLine):wpAny (model prog w) A (binaryOp .Add (.ref t) (.ref b)) Q E s:=by
 obtain ⟨⟨cls,dd,data,sl⟩,ho,hc,n,hd⟩:=id ht
 obtain ⟨⟨cls2,dd2,data2,sl2⟩,ho2,hc2,n2,hd2⟩:=id hb
 simp only at hc hd hc2 hd2
 subst hc hd hc2 hd2
 have e:vs.toArray++ws.toArray=(vs++ws).toArray:=by simp
 by_cases hw:ws=[]
 ·exact concat_meets ⟨_,ho,rfl⟩ ⟨_,ho2,rfl⟩ noFill_tuple_add seq_tuple_add PySem.F.slot_tuple_add PySem.F.entry_tuple_add (PySem.F.args_tuple_add_2 _ _)
   (tuple_addW1 t b vs.toArray ws.toArray n n2 dd dd2 sl sl2 (by simpa using hv) (by simp [hw])) ⟨ho,ho2,h1 hw⟩
 ·refine concat_meets ⟨_,ho,rfl⟩ ⟨_,ho2,rfl⟩ noFill_tuple_add seq_tuple_add PySem.F.slot_tuple_add PySem.F.entry_tuple_add (PySem.F.args_tuple_add_2 _ _)
   (tuple_addW2 t b vs.toArray ws.toArray n n2 dd dd2 sl sl2 (by simpa using hv) (by simpa using hw) (by rw [List.size_toArray,List.size_toArray];exact hsz)) ⟨ho,ho2,?_⟩
  rw [e]
  exact h2 hw
def sIx(n d:Nat):Option Int->Nat
 | none=>d
 | some v=>if v<0 then (v+(n:Int)).toNat else min v.toNat n
theorem ny(n d:Nat):sIx n d none=d:=rfl
theorem vk(n d k:Nat):sIx n d (some (k:Int))=min k n:=by
 show (if (k:Int)<0 then ((k:Int)+(n:Int)).toNat else min (k:Int).toNat n)=min k n
 rw [if_neg (by omega),Int.toNat_natCast]
end
end HT
namespace L2
open PySem PySem.Spec PyProof.Rows
abbrev TO:=St->Hp->(Option Int->Hp->Prop)->Prop
def PO(X:Cx)(e:Option Expr)(t:TO):Prop :=
 ∀(pins:List (Addr×Obj)) (s:Shared) (σ:St) (H:Hp) (Q:Option Int->Hp->Prop),Inv X pins σ H s->t σ H Q ->
  wpAny (model X.prog X.w) X.A (evalPart e X.env) (λu s'=>∃o H',Inv X pins σ H' s'/\IsPart u o/\Q o H') X.xe s
def u4:TO:=λ_ H Q=>Q none H
def yA(t:TE):TO:=fun σ H Q=>t σ H λx H1=>∃i,x=.int i/\Q (some i) H1
theorem pI{ns:List Int}:∀{us:List Value},Vals (ns.map V.int) us->IntsAre us ns:=by
 induction ns with
 | nil=>intro us r;rw [List.map_nil] at r;cases r;exact .nil
 | cons n ns ih =>
  intro us r
  rw [List.map_cons] at r
  cases r with
  | cons r1 r2 =>
   obtain ⟨t,e⟩:=r1
   subst e
   exact .cons n t (ih r2)
section
variable {X:Cx}{e:Expr}{te:TE}{lo hi:Option Expr}{tl th:TO}{pos p2:Pos}
theorem jv:PO X none u4:=by
 intro pins s σ H Q I h
 rw [evalPart_none]
 exact wpAny_pure ⟨none,H,I,.none,h⟩
theorem cT(h:PE X e te):PO X (some e) (yA te):=by
 intro pins s σ H Q I hw
 rw [evalPart_some]
 refine thn (h pins s σ H _ I hw) λu s1 ⟨x,H1,I1,r1,q1⟩=>?_
 obtain ⟨i,rfl,q⟩:=q1
 obtain ⟨t,rfl⟩:=r1
 exact ⟨some i,H1,I1,.int i t,q⟩
def SlR(X:Cx)(r:V->Option Int->Option Int->Hp->VK->Prop):Prop :=
 ∀(pins:List (Addr×Obj)) (s:Shared) (σ:St) (H:Hp) (x:V) (v vl vu:Value) (lo hi:Option Int) (sl:Addr) (Q:VK),Inv X pins σ H s->RelV x v->s.heap.IsSliceOf sl vl vu .none->IsPart vl lo->IsPart vu hi->r x lo hi H Q ->
  ∃T id,typeLookup (.type T) "__getitem__"=pure (some (.builtin id))/\s.TypeIs v T/\wpAny (model X.prog X.w) X.A (getItem v (.ref sl)) (EP X pins σ Q) X.xe s
def tSl(r:V->Option Int->Option Int->Hp->VK->Prop)(te:TE)(tl th:TO):TE:=fun σ H Q=>te σ H λx H1=>tl σ H1 λl H2=>th σ H2 λu H3=>r x l u H3 Q
theorem dD{r:V->Option Int->Option Int->Hp->VK->Prop}(hr:SlR X r)(he:PE X e te)(hl:PO X lo tl)(hu:PO X hi th):PE X (.Subscript e (.Slice lo hi none p2) pos) (tSl r te tl th):=by
 intro pins s σ H Q I h
 refine Subscript_ (thn (he pins s σ H _ I h) λv s1 ⟨x,H1,I1,r1,q1⟩=>?_)
 refine wpAny_Slice (thn (hl pins s1 σ H1 _ I1 q1) λvl s2 ⟨l,H2,I2,pl,q2⟩=>thn (hu pins s2 σ H2 _ I2 q2) λvu s3 ⟨u,H3,I3,pu,q3⟩=>?_)
 rw [evalPart_none]
 refine wpAny_pure ?_
 have I4:Inv X pins σ H3 {s3 with heap:=s3.heap.push {cls:=.type "slice",data:=.fields #[vl,vu,.none]}}:=I3.kept (t':=s3.toks) λb ob q=>Heap.get?_push_of_some _ q
 obtain ⟨T,id,hT,ht,hg⟩:=hr pins {s3 with heap:=s3.heap.push {cls:=.type "slice",data:=.fields #[vl,vu,.none]}} σ H3 x v vl vu l u s3.heap.objs.size Q I4 r1 (Heap.IsSliceOf.new ..) pl pu q3
 show wpAny (model X.prog X.w) X.A (subscriptTail e (.Slice lo hi none p2) v (.ref s3.heap.objs.size)) (EP X pins σ Q) X.xe {s3 with heap:=s3.heap.push {cls:=.type "slice",data:=.fields #[vl,vu,.none]}}
 exact tail_any (ops:=[.ref s3.heap.objs.size,v]) ht hT hg (by with_unfolding_all rfl)
def gm(xs:List V)(lo hi:Option Int):List V:=(xs.drop (HT.sIx xs.length 0 lo)).take (HT.sIx xs.length xs.length hi-HT.sIx xs.length 0 lo)
theorem ox(xs:List V)(lo hi:Option Int):(gm xs lo hi).length<=xs.length:=by
 unfold gm
 rw [List.length_take,List.length_drop]
 omega
def wH(K:PySem.W.Frag):R2:=λx y H Q=>∃a b xs ys,x=.ref a/\y=.ref b/\SqT K H a xs/\SqT K H b ys/\xs≠[]/\xs.length+ys.length<=sizeLine /\
 (ys=[]->Q (.ref a) H)/\(ys≠[]->∀p,H p=none->Q (.ref p) (upd H p (.tup (xs++ys))))
theorem Vals.nil_iff{xs:List V}{us:List Value}(r:Vals xs us):us=[]↔xs=[]:=by
 cases r with
 | nil=>simp
 | cons _ _=>simp
theorem vH:OpR X (binaryOp .Add) (wH X.K):=by
 intro pins s σ H x y v u Q I rx ry h
 obtain ⟨a,b,xs,ys,rfl,rfl,ha,hb,hx,hz,q1,q2⟩:=h
 cases rx
 cases ry
 obtain ⟨its,r1,p1,_⟩:=I.tuple ha
 obtain ⟨its2,r2,p2,_⟩:=I.tuple hb
 refine HT.wm p1 p2 (λz=>hx (r1.nil_iff.mp z)) (λz=>⟨.ref a,H,I,rfl,q1 (r2.nil_iff.mp z)⟩) (λz=>?_) (by rw [← r1.length,← r2.length];exact hz)
 refine ⟨.ref s.heap.objs.size,_,I.laid (t':=s.toks) (o:=.tup (xs++ys)) (λb ob q=>Heap.get?_push_of_some _ q) (Nat.le_refl _) ?_,rfl,q2 (λw=>z (r2.nil_iff.mpr w)) _ (I.hok.fresh (Nat.le_refl _))⟩
 exact ⟨by rw [List.length_append];exact hz,_,r1.append r2,IsTup.new _ _⟩
end
end L2
namespace L2
open PySem PySem.Spec PyProof.Rows
def ixN(n:Nat)(i:Int):Option Nat:=if 0<=i then (if i<n then some i.toNat else none) else if -(n:Int)<=i then some (i+n).toNat else none
def atI{α:Type}(xs:List α)(i:Int):Option α:=(ixN xs.length i).bind λj=>xs[j]?
theorem v5{n:Nat}{i:Int}{j:Nat}(h:ixN n i=some j):seqIndex? i n=some j/\j<n/\-(n:Int)<=i/\i<n:=by
 unfold ixN at h
 by_cases h0:0<=i
 ·rw [if_pos h0] at h
  by_cases h1:i<n
  ·rw [if_pos h1] at h
   have e:i.toNat=j:=Option.some.inj h
   exact ⟨by rw [seqIndex_of h0 h1,e],by omega,by omega,h1⟩
  ·rw [if_neg h1] at h;cases h
 ·rw [if_neg h0] at h
  by_cases h1:-(n:Int)<=i
  ·rw [if_pos h1] at h
   have e:(i+n).toNat=j:=Option.some.inj h
   exact ⟨by rw [seqIndex_neg (by omega) h1,e],by omega,h1,by omega⟩
  ·rw [if_neg h1] at h;cases h
theorem mE{α:Type}{xs:List α}{i:Int}{v:α}(h:atI xs i=some v):∃j,seqIndex? i xs.length=some j/\xs[j]?=some v/\j<xs.length/\-(xs.length:Int)<=i/\i<xs.length:=by
 unfold atI at h
 cases e:ixN xs.length i with
 | none=>rw [e] at h;cases h
 | some j =>
  rw [e] at h
  obtain ⟨h1,h2,h3,h4⟩:=v5 e
  exact ⟨j,h1,h,h2,h3,h4⟩
theorem bv{α:Type}{xs:List α}{j:Nat}{v:α}(h:xs[j]?=some v):atI xs (j:Int)=some v:=by
 have hj:j<xs.length:=(List.getElem?_eq_some_iff.mp h).1
 have e:ixN xs.length (j:Int)=some j:=by
  unfold ixN
  rw [if_pos (by omega),if_pos (by omega)];simp
 unfold atI;rw [e];exact h
theorem uP{α:Type}(xs:List α)(v:α):atI (xs++[v]) (-1)=some v:=by
 have hl:(xs++[v]).length=xs.length+1:=by simp
 have e:ixN (xs++[v]).length (-1)=some xs.length:=by
  unfold ixN
  rw [hl,if_neg (by decide),if_pos (by omega)]
  congr 1
  omega
 unfold atI
 rw [e]
 show (xs++[v])[xs.length]?=some v
 simp
def wu(b:Expr):Prop:=∀o i,subscripted b false o i=operate [o,i] (getItem o i)
def IxR(X:Cx)(r:R2):Prop :=
 ∀(value slice:Expr) (pins:List (Addr×Obj)) (s:Shared) (σ:St) (H:Hp) (x y:V) (v u:Value) (Q:VK),Inv X pins σ H s->RelV x v->RelV y u->r x y H Q ->
  subscripted slice false v u=operate [v,u] (getItem v u)->wpAny (model X.prog X.w) X.A (subscriptTail value slice v u) (EP X pins σ Q) X.xe s
def MtR(X:Cx)(id:String)(r:V->List V->Hp->VK->Prop):Prop :=
 ∀(pins:List (Addr×Obj)) (s:Shared) (σ:St) (H:Hp) (x:V) (xs:List V) (v:Value) (us:List Value) (Q:VK),Inv X pins σ H s->RelV x v->Vals xs us->r x xs H Q ->
  wpAny (model X.prog X.w) X.A (call (.builtin id) (v::us)) (EP X pins σ Q) X.xe s
section
variable {X:Cx}{a b:Expr}{ta tb:TE}{pos:Pos}
theorem aI{r:R2}(hr:IxR X r)(ha:PE X a ta)(hb:PE X b tb)(hs:wu b):PE X (.Subscript a b pos) (tOp r ta tb):=by
 intro pins s σ H Q I h
 exact Subscript_ (yn ha hb I h λv u s2 x y H2 I2 rx ry q=>hr a b pins s2 σ H2 x y v u Q I2 rx ry q (hs _ _))
def cY(K:PySem.W.Frag):R2:=λx y H Q=>∃p xs i v,x=.ref p/\y=.int i/\SqL K H p xs/\atI xs i=some v/\Q v H
def dt(K:PySem.W.Frag):R2:=λx y H Q=>∃p xs i v,x=.ref p/\y=.int i/\SqT K H p xs/\atI xs i=some v/\Q v H
def yW:R2:=λx y H Q=>∃z i c,x=.str z/\y=.int i/\z.length<=sizeLine/\atI z.cps.toList i=some c/\Q (.str ⟨#[c]⟩) H
theorem aN:IxR X (cY X.K):=by
 intro value slice pins s σ H x y v u Q I rx ry h hs
 obtain ⟨p,xs,i,z,rfl,rfl,hq,he,q⟩:=h
 cases rx
 obtain ⟨t,rfl⟩:=ry
 obtain ⟨its,r,pl,hz⟩:=I.list hq
 obtain ⟨j,h1,h2,h3,h4,h5⟩:=mE he
 obtain ⟨w,ew,rw'⟩:=r.get h2
 have hl:=r.length
 have hn:=i5
 have fin:EP X pins σ Q w s:=⟨z,H,I,rw',q⟩
 by_cases h0:0<=i
 ·have hj:i.toNat=j:=by
   rw [seqIndex_of h0 h5] at h1
   exact Option.some.inj h1
  exact item_listR pl.isList h0 (by omega) (by rw [hj];simpa using ew) fin hs
 ·have hj:(i+(its.toArray.size:Int)).toNat=j:=by
   rw [seqIndex_neg (by omega) h4] at h1
   rw [List.size_toArray,← hl]
   exact Option.some.inj h1
  exact subscriptTail_builtinR (x:=w) pl.isList.typeIs slot_list_getitem.lookup
   (wpAny_getItem_list_neg (Q:=λr s'=>r=w/\EP X pins σ Q r s') pl.isList (by omega) (by rw [List.size_toArray]<;>omega) (by omega) (by rw [hj];simpa using ew) ⟨rfl,fin⟩) hs
theorem bj:IxR X (dt X.K):=by
 intro value slice pins s σ H x y v u Q I rx ry h hs
 obtain ⟨p,xs,i,z,rfl,rfl,hq,he,q⟩:=h
 cases rx
 obtain ⟨t,rfl⟩:=ry
 obtain ⟨its,r,pl,hz⟩:=I.tuple hq
 obtain ⟨j,h1,h2,h3,h4,h5⟩:=mE he
 obtain ⟨w,ew,rw'⟩:=r.get h2
 have hl:=r.length
 have hn:=i5
 have fin:EP X pins σ Q w s:=⟨z,H,I,rw',q⟩
 exact subscriptTail_builtinR (x:=w) pl.typeIs slot_tuple_getitem.lookup
  (getItem_tuple (j:=j) (Q:=λr s'=>r=w/\EP X pins σ Q r s') pl (by omega) (by omega) (by rw [List.size_toArray,← hl];exact h1) (by simpa using ew) ⟨rfl,fin⟩) hs
theorem uq:IxR X yW:=by
 intro value slice pins s σ H x y v u Q I rx ry h hs
 obtain ⟨z,i,c,rfl,rfl,hz,he,q⟩:=h
 obtain ⟨t,rfl⟩:=rx
 obtain ⟨t',rfl⟩:=ry
 obtain ⟨j,h1,h2,h3,h4,h5⟩:=mE he
 have hl:z.cps.toList.length=z.length:=by simp [Str.length]
 rw [hl] at h1 h4 h5
 have hn:=i5
 exact tail_any (typeIs_str s z t) slot_str_getitem.lookup (getItem_str (c:=c) (by
  have e1:decide (i < -(2 ^ 63:Int))=false:=decide_eq_false (by omega)
  have e2:decide (i≥2 ^ 63)=false:=decide_eq_false (by omega)
  rw [e1,e2,Bool.or_false]) (by rw [h1];simpa using h2) ⟨.str ⟨#[c]⟩,H,I.tok _,⟨_,rfl⟩,q⟩) hs
theorem lU(lo hi:Option Int)(n:Nat):(sliceBounds lo hi none n).1=((HT.sIx n 0 lo:Nat):Int)/\(sliceBounds lo hi none n).2.1=((HT.sIx n n hi:Nat):Int)/\(sliceBounds lo hi none n).2.2=1:=by
 refine ⟨?_,?_,rfl⟩
 ·cases lo with
  | none=>simp [sliceBounds,HT.sIx]
  | some i =>
   simp only [sliceBounds,HT.sIx,Option.getD_none,show (1:Int)>0 by decide,if_true]
   by_cases h:i<0
   ·simp only [h,if_true]<;>omega
   ·simp only [h,if_false]<;>omega
 ·cases hi with
  | none=>simp [sliceBounds,HT.sIx]
  | some i =>
   simp only [sliceBounds,HT.sIx,Option.getD_none,show (1:Int)>0 by decide,if_true]
   by_cases h:i<0
   ·simp only [h,if_true]<;>omega
   ·simp only [h,if_false]<;>omega
theorem kh(its:List Value)(lo hi:Option Int):slicePick its.toArray lo hi none=((its.drop (HT.sIx its.length 0 lo)).take (HT.sIx its.length its.length hi-HT.sIx its.length 0 lo)).toArray:=by
 obtain ⟨h1,h2,h3⟩:=lU lo hi its.toArray.size
 unfold slicePick
 rw [h1,h2,h3]
 simp only [sliceRange_one,pick_run,List.size_toArray]<;>rfl
def zL(K:PySem.W.Frag):V->Option Int->Option Int->Hp->VK->Prop:=λx lo hi H Q=>∃a xs,x=.ref a/\SqL K H a xs/\∀p,H p=none->Q (.ref p) (upd H p (.lst (gm xs lo hi)))
theorem h9:SlR X (zL X.K):=by
 intro pins s σ H x v vl vu lo hi sl Q I rx hs pl pu h
 obtain ⟨a,xs,rfl,hx,q⟩:=h
 cases rx
 obtain ⟨its,r,ht,hz⟩:=I.list hx
 have hlen:=r.length
 refine ⟨"list",_,slot_list_getitem.lookup,ht.isList.typeIs,?_⟩
 refine wpAny_getItem_list_slice ht.isList hs pl pu .none (by simp) ?_ (by rw [List.size_toArray]<;>omega)
 rw [kh,← hlen]
 refine ⟨.ref s.heap.objs.size,_,I.laid (t':=s.toks) (o:=.lst (gm xs lo hi)) (λb ob q=>Heap.get?_push_of_some _ q) (Nat.le_refl _) ?_,rfl,q _ (I.hok.fresh (Nat.le_refl _))⟩
 exact ⟨Nat.le_trans (ox xs lo hi) hz,_,0,(r.drop (HT.sIx xs.length 0 lo)).take (HT.sIx xs.length xs.length hi-HT.sIx xs.length 0 lo),Heap.get?_push_size _ rfl⟩
theorem az:dq X (.builtin "len") (λxs H Q=>∃p ys,xs=[.ref p]/\(SqL X.K H p ys\/SqT X.K H p ys)/\Q (.int ys.length) H):=by
 intro pins s σ H xs us Q I r h
 obtain ⟨p,ys,rfl,hq,q⟩:=h
 obtain ⟨u,rfl,rx⟩:=cA r
 cases rx
 have hn:=i5
 rcases hq with hq | hq
 ·obtain ⟨its,r',pl,hz⟩:=I.list hq
  have hlen:=r'.length
  exact Calls.call_len_list pl.isList (by simp only [List.size_toArray]<;>omega) ⟨.int ys.length,H,I.tok _,⟨s.toks+1,by rw [List.size_toArray,hlen]⟩,q⟩
 ·obtain ⟨its,r',pl,hz⟩:=I.tuple hq
  have hlen:=r'.length
  exact len_tuple pl (by simp only [List.size_toArray]<;>omega) ⟨.int ys.length,H,I.tok _,⟨s.toks+1,by rw [List.size_toArray,hlen]⟩,q⟩
theorem be:dq X (.builtin "len") (λxs H Q=>∃z,xs=[.str z]/\z.length<=sizeLine/\Q (.int z.length) H):=by
 intro pins s σ H xs us Q I r h
 obtain ⟨z,rfl,hz,q⟩:=h
 obtain ⟨u,rfl,t,rfl⟩:=cA r
 have hn:=i5
 exact len_str (by omega) ⟨.int z.length,H,I.tok _,⟨_,rfl⟩,q⟩
theorem fq:dq X (.type "list") (λxs H Q=>∃p ys,xs=[.ref p]/\(SqL X.K H p ys\/SqT X.K H p ys)/\∀l,H l=none->Q (.ref l) (upd H l (.lst ys))):=by
 intro pins s σ H xs us Q I r h
 obtain ⟨p,ys,rfl,hq,q⟩:=h
 obtain ⟨u,rfl,rx⟩:=cA r
 cases rx
 have fin:∀(its:List Value),Vals ys its->ys.length<=sizeLine->∀(h':Heap) (c':Nat),(∀b o',s.heap.get? b=some o'->h'.get? b=some o') ->
   h'.get? s.heap.objs.size=some {cls:=.type "list",dict:=none,data:=.seq its.toArray c',slots:=#[]}->EP X pins σ Q (.ref s.heap.objs.size) {s with heap:=h'}:=λits r' hz h' c' kp e =>
  ⟨.ref s.heap.objs.size,_,I.laid (t':=s.toks) kp (Nat.le_refl _) (show ObjOk X.prog X.w _ h' _ (.lst ys) from ⟨hz,its,c',r',e⟩),rfl,q _ (I.hok.fresh (Nat.le_refl _))⟩
 rcases hq with hq | hq
 ·obtain ⟨its,r',pl,hz⟩:=I.list hq
  have hlen:=r'.length
  obtain ⟨o,ho,hc,n,hd⟩:=pl.isList
  exact call_list_seq p (.inl rfl) ho hc hd (λh' c' kp e=>fin its r' hz h' c' kp e) (by simp only [List.size_toArray]<;>omega)
 ·obtain ⟨its,r',pl,hz⟩:=I.tuple hq
  have hlen:=r'.length
  obtain ⟨o,ho,hc,n,hd⟩:=pl
  exact call_list_seq p (.inr rfl) ho hc hd (λh' c' kp e=>fin its r' hz h' c' kp e) (by simp only [List.size_toArray]<;>omega)
theorem eG:dq X (.type "tuple") (λxs H Q=>∃p ys,xs=[.ref p]/\((SqL X.K H p ys/\∀l,H l=none->Q (.ref l) (upd H l (.tup ys)))\/(SqT X.K H p ys/\Q (.ref p) H))):=by
 intro pins s σ H xs us Q I r h
 obtain ⟨p,ys,rfl,h⟩:=h
 obtain ⟨u,rfl,rx⟩:=cA r
 cases rx
 rcases h with ⟨hq,q⟩ | ⟨hq,q⟩
 ·obtain ⟨its,r',pl,hz⟩:=I.list hq
  have hlen:=r'.length
  refine call_tuple_list pl.isList (λh' kp=>?_) (by simp only [List.size_toArray]<;>omega)
  have I1:Inv X pins σ H {s with heap:=h'}:=I.kept (t':=s.toks) kp
  have I2:Inv X pins σ (upd H h'.objs.size (.tup ys)) {s with heap:=h'.push {cls:=.type "tuple",data:=.seq its.toArray}} :=
   I1.laid (t':=s.toks) (λb o e=>Heap.get?_push_of_some _ e) (Nat.le_refl _) (show ObjOk X.prog X.w _ _ _ (.tup ys) from ⟨hz,its,r',IsTup.new _ _⟩)
  exact ⟨.ref h'.objs.size,_,I2,rfl,q _ (I1.hok.fresh (Nat.le_refl _))⟩
 ·obtain ⟨its,r',pl,hz⟩:=I.tuple hq
  exact call_tuple_same pl ⟨.ref p,H,I,rfl,q⟩
def tyV(K:PySem.W.Frag)(T:String)(x:V)(H:Hp):Prop:=match x with
 | .str _=>T="str"
 | .int _=>T="int"
 | .ref p=>(T="list"/\∃xs,SqL K H p xs)\/(T="tuple"/\∃o,K.lookup p=some o/\o.cls=.type "tuple"/\o.dict=none) \/
   (T="dict"/\((∃kvs,H p=some (.dK kvs))\/∃kvs,H p=some (.dT kvs)))\/(T="set"/\∃S n,H p=some (.set S n))
 | _=>False
theorem rP{pins:List (Addr×Obj)}{σ:St}{H:Hp}{s:Shared}{T:String}{x:V}{v:Value}(I:Inv X pins σ H s)(r:RelV x v)(ty:tyV X.K T x H) :
  s.TypeIs v T/\∀a,v=.ref a->∃ob,s.heap.get? a=some ob/\ob.dict=none:=by
 cases x with
 | str z =>
  obtain ⟨t,rfl⟩:=r
  cases (show T="str" from ty)
  exact ⟨typeIs_str s z t,λ_ e=>nomatch e⟩
 | int i =>
  obtain ⟨t,rfl⟩:=r
  cases (show T="int" from ty)
  exact ⟨typeIs_int s i t,λ_ e=>nomatch e⟩
 | ref p =>
  cases r
  rcases ty with ⟨rfl,xs,hq⟩ | ⟨rfl,o,hk,hc,hd⟩ | ⟨rfl,hk⟩ | ⟨rfl,S,n,hk⟩
  ·obtain ⟨its,_,pl,_⟩:=I.list hq
   refine ⟨pl.isList.typeIs,λa e=>?_⟩
   cases e
   obtain ⟨o,n,e,c,hd,_⟩:=pl
   exact ⟨o,e,hd⟩
  ·refine ⟨⟨o,I.kIn p o hk,hc⟩,λa e=>?_⟩
   cases e
   exact ⟨o,I.kIn _ o hk,hd⟩
  ·have z:∃o,s.heap.get? p=some o/\o.ExactDict:=by
    rcases hk with ⟨kvs,hk⟩ | ⟨kvs,hk⟩
    ·obtain ⟨_,_,_,_,o,_,_,e,ex,_⟩:=I.hok p _ hk
     exact ⟨o,e,ex⟩
    ·obtain ⟨_,_,_,_,o,_,_,e,ex,_⟩:=I.hok p _ hk
     exact ⟨o,e,ex⟩
   obtain ⟨o,e,ex⟩:=z
   refine ⟨⟨o,e,ex.1⟩,λa e2=>?_⟩
   cases e2
   exact ⟨o,e,ex.2.1⟩
  ·obtain ⟨o,_,_,_,e,ex,_⟩:=I.hok p _ hk
   refine ⟨⟨o,e,ex.1⟩,λa e2=>?_⟩
   cases e2
   exact ⟨o,e,ex.2.1⟩
 | _=>exact False.elim ty
def yE(K:PySem.W.Frag)(T:String)(r:V->List V->Hp->VK->Prop)(to:TE):TE:=fun σ H Q=>to σ H λx H1=>tyV K T x H1/\r x [] H1 Q
def tBM(K:PySem.W.Frag)(T:String)(r:V->List V->Hp->VK->Prop)(to:TE)(t:TA):TE:=fun σ H Q=>to σ H λx H1=>tyV K T x H1/\t σ H1 λxs H2=>r x xs H2 Q
variable {o e:Expr}{es:List Expr}{to:TE}{t:TA}{name:Str}{apos cpos:Pos}{T id:String}{r:V->List V->Hp->VK->Prop}
theorem xx(pa:PlainAttrs T)(slot:Slot T name id)(hty:typeOf (.builtin id)=pure (.type "method_descriptor"))(hm:MtR X id r)(ho:PE X o to)
  (hbase:attributeBase o name X.env (eval o X.env)=eval o X.env:=by rfl)(hline:(apos.endLine==cpos.line)=true:=by rfl):PE X (.Call (.Attribute o name apos) [] [] cpos) (yE X.K T r to):=by
 intro pins s σ H Q I h
 refine wpAny_Call_method0_late hbase hline (thn (ho pins s σ H _ I h) λv s1 ⟨x,H1,I1,r1,ty,q1⟩=>?_)
 obtain ⟨h1,h2⟩:=rP I1 r1 ty
 exact ⟨T,id,pa,slot,hty,h1,h2,Calls.callWith_builtin rfl (PySem.evalArgs_none (hm pins s1 σ H1 x [] v [] Q I1 r1 .nil q1))⟩
theorem eL(pa:PlainAttrs T)(slot:Slot T name id)(hty:typeOf (.builtin id)=pure (.type "method_descriptor"))(hm:MtR X id r)(ho:PE X o to)(ha:PA X (e::es) t)
  (hbase:attributeBase o name X.env (eval o X.env)=eval o X.env:=by rfl)
  (hfew:((backTo cpos (starEach (e::es) X.env)).all (λx=>!x.1)&&(backToKw cpos (keywordEach [] X.env)).all (λx=>x.1.isSome)
   && decide ((e::es).length+([]:List Keyword).length+(if ([]:List Keyword).isEmpty then 0 else 1)<30))=true:=by rfl)
  (hline:(apos.endLine==cpos.line)=true:=by rfl) (hs:starEach (e::es) X.env=(false,eval e X.env)::starEach es X.env:=by rfl) (hplain:(backTo cpos (starEach es X.env)).any (·.1)=false:=by rfl) :
  PE X (.Call (.Attribute o name apos) (e::es) [] cpos) (tBM X.K T r to t):=by
 intro pins s σ H Q I h
 refine wpAny_Call_method_late hbase hfew hline rfl (thn (ho pins s σ H _ I h) λv s1 ⟨x,H1,I1,r1,ty,q1⟩=>?_)
 obtain ⟨h1,h2⟩:=rP I1 r1 ty
 refine ⟨T,id,pa,slot,hty,h1,h2,?_⟩
 have hA:=ha cpos pins s1 σ H1 _ I1 q1
 rw [hs] at hA ⊢
 refine Calls.callWith_builtin (by show (false||(backTo cpos (starEach es X.env)).any (·.1))=false;rw [hplain]<;>rfl) (Calls.evalArgs_plain ?_)
 exact thn hA λus s2 ⟨vs,H2,I2,r2,q2⟩=>hm pins s2 σ H2 x vs v us Q I2 r1 r2 q2
end
end L2
namespace L2
open PySem PySem.Spec PyProof.Rows
def MtM(X:Cx)(id:String)(r:V->List V->Hp->VK->Prop):Prop :=
 ∀(pins:List (Addr×Obj)) (s:Shared) (σ:St) (H:Hp) (x:V) (xs:List V) (v:Value) (us:List Value) (Q:VK),Inv X pins σ H s->RelV x v->Vals xs us->r x xs H Q ->
  wpAny (model X.prog X.w) X.A (call (.builtin id) (v::us)) (EP X pins σ Q) X.xe s
theorem Vals.one:∀{x:V} {us:List Value},Vals [x] us->∃u,us=[u]/\RelV x u
 | _,_,.cons r .nil=>⟨_,rfl,r⟩
section
variable {X:Cx}{pins:List (Addr×Obj)}{σ:St}{H:Hp}{s:Shared}{l b:Addr}{xs ys zs:List V}
theorem Inv.lset{its its':List Value}{n:Nat}{f:Array Value->Array Value}{t':Nat}(I:Inv X pins σ H s)(hH:H l=some (.lst xs))
  (e:s.heap.get? l=some {cls:=.type "list",data:=.seq its.toArray n})(hf:f its.toArray=its'.toArray)(hv:Vals ys its')(hz:ys.length<=sizeLine) :
  Inv X pins σ (upd H l (.lst ys)) {s with heap:=s.heap.update l (Obj.mapSeq f),toks:=t'}:=by
 have q:=PySem.IsL.update e f
 rw [hf] at q
 refine I.write (x:=l) (e:=l) (by rw [hH];exact trivial) (.inl rfl) (λb' u hb hu=>(Heap.get?_update_other s.heap (Obj.mapSeq f) (Ne.symm hb)).trans hu) ⟨_,q⟩ ?_
 exact ⟨hz,its',_,hv,q⟩
theorem Inv.lnew{its:List Value}{t':Nat}(I:Inv X pins σ H s)(hv:Vals ys its)(hz:ys.length<=sizeLine) :
  Inv X pins σ (upd H s.heap.objs.size (.lst ys)) {s with heap:=s.heap.push {cls:=.type "list",data:=.seq its.toArray},toks:=t'} :=
 I.laid (λ_ _ q=>Heap.get?_push_of_some _ q) (Nat.le_refl _) ⟨hz,its,0,hv,Heap.get?_push_size _ rfl⟩
theorem Inv.fresh(I:Inv X pins σ H s):H s.heap.objs.size=none:=I.hok.fresh (Nat.le_refl _)
theorem Inv.lstM(I:Inv X pins σ H s)(hH:H l=some (.lst xs)):xs.length<=sizeLine/\∃(its:List Value) (n:Nat),Vals xs its/\xs.length=its.length/\s.heap.get? l=some {cls:=.type "list",data:=.seq its.toArray n}:=by
 obtain ⟨z,its,n,r,e⟩:=I.hok l _ hH
 exact ⟨z,its,n,r,r.length,e⟩
end
section
variable {X:Cx}
def vp:V->List V->Hp->VK->Prop:=λx vs H Q=>∃l xs y,x=.ref l/\vs=[y]/\H l=some (.lst xs)/\xs.length<sizeLine/\Q .non (upd H l (.lst (xs++[y])))
theorem eO:MtM X "list.append" vp:=by
 intro pins s σ H x vs v us Q I rx rv h
 obtain ⟨l,xs,y,rfl,rfl,hH,hz,q⟩:=h
 cases rx
 obtain ⟨u,rfl,ru⟩:=rv.one
 obtain ⟨z,its,n,r,hl,e⟩:=I.lstM hH
 refine call_meets F.slot_list_append ⟨_,e,rfl⟩ F.entry_list_append (F.args_list_append_2 _ _) (PySem.list_append l its.toArray n u (by rw [List.size_toArray];omega)) ⟨e,?_⟩
 refine ⟨.non,_,I.lset (its':=its++[u]) hH e (by simp) (r.append (.cons ru .nil)) ?_,rfl,q⟩
 rw [List.length_append,List.length_singleton]
 omega
def zM:R2:=λx y H Q=>∃l b xs zs,x=.ref l/\y=.ref b/\H l=some (.lst xs)/\H b=some (.lst zs)/\xs.length+zs.length<=sizeLine/\∀p,H p=none->Q (.ref p) (upd H p (.lst (xs++zs)))
theorem xA:OpR X (binaryOp .Add) zM:=by
 intro pins s σ H x y v u Q I rx ry h
 obtain ⟨l,b,xs,zs,rfl,rfl,hH,hB,hz,q⟩:=h
 cases rx
 cases ry
 obtain ⟨z,its,n,r,hl,e⟩:=I.lstM hH
 obtain ⟨z2,its2,n2,r2,hl2,e2⟩:=I.lstM hB
 refine PySem.P.add_list e e2 ?_ (by rw [List.size_toArray,List.size_toArray];omega)
 have ea:its.toArray++its2.toArray=(its++its2).toArray:=by simp
 rw [ea]
 exact ⟨.ref _,_,I.lnew (t':=s.toks) (r.append r2) (by rw [List.length_append];omega),rfl,q _ I.fresh⟩
end
end L2
namespace Att
open PySem PySem.W PySem.Calls PyProof.Rows
theorem jo{P:Params}{h:Heap}:∀(ns:List Int) (vs:List Value),WellAll P h vs (ns.map WData.int)->IntsAre vs ns:=by
 intro ns
 induction ns with
 | nil =>
  intro vs w
  rw [List.map_nil] at w
  cases w
  exact .nil
 | cons n ns ih =>
  intro vs w
  rw [List.map_cons] at w
  cases w with
  | cons a b =>
   cases a
   exact .cons _ _ (ih _ b)
theorem qN{l:OpenLaw}{n:Nat}(hn:l.most=some n){P:Params}{h:Heap}{args:List WData}{vals:List Value}
  (hpre:l.row.toRowW.claim.pre args=true)(hwl:WellAll P h vals args) :
  ∃a vs ns,vals=[Value.ref a]/\args=[WData.list (ns.map WData.int)]/\h.get? a=some {cls:=.type "list",data:=.seq vs.toArray}/\IntsAre vs ns/\ns.length<=n:=by
 have hsh:WShape.hasAll [] args [.list .int]=true:=(pre_splitW hpre).1
 have hc:l.pre.holds [] {args:=args}=true:=(pre_splitW hpre).2
 obtain ⟨d,r,rfl,h1,h2⟩:=hasAllW_cons hsh
 obtain rfl:=hasAllW_nil h2
 obtain ⟨xs,rfl,h3⟩:=hasW_list h1
 obtain ⟨ns,rfl⟩:=items_int h3
 have hlen:ns.length<=n:=by
  unfold OpenLaw.pre at hc
  have h4:(WTm.not (.lt (.lit (.int (n:Int))) (.len (.arg 0)))).holds [] {args:=[.list (ns.map .int)]}=true:=by
   have h4:=(holds_andW hc).1
   rw [hn] at h4
   exact h4
  have h5:=condW_of h4 (w_not (w_lt w_lit (w_len_list (w_arg rfl))))
  rw [List.length_map] at h5
  refine Nat.le_of_not_lt λq=>?_
  have q':(n:Int)<((ns.length:Nat):Int):=by omega
  first
   | (rw [decide_eq_true q'] at h5;exact absurd h5 (by decide))
   | (simp at h5;omega)
 cases hwl with
 | cons w1 w2 =>
  cases w2
  cases w1 with
  | list ho hall=>exact ⟨_,_,ns,rfl,rfl,ho,jo ns _ hall,hlen⟩
theorem qS(l:OpenLaw)(args:List WData):l.row.toRowW.claim.post args (.bool true) args=true :=
 postW_of (r:=l.row.toRowW) (X:=(true==true))
  (show WShape.has [] (.bool true) .bool=true by first | rfl | decide | simp [WShape.has,WShape.arms,WShape.armsAll])
  (show (WTm.eq .res (.lit (.bool true))).value [] {args:=args,res:=some (.bool true),after:=args}=some (.bool (true==true)) from w_eq_bool (w_res rfl) w_lit) rfl
theorem oA{l:OpenLaw}{n:Nat}{q:Program}{loose:List Str}{XP:(Str->Option Value)->Heap->Prop}{YP:World->Heap->Prop}{d:DefRec}
  (hn:l.most=some n)(hdf:d.params.defaults=[])
  (call:∀(w:World) (s₀ s₁:Shared) (mg mb:Str->Option Value) (fa:Addr) (o:Obj) (pm cd doc:Value) (a:Addr) (vs:List Value) (ns:List Int),
   Ground q loose [] XP w s₀ mg mb s₁.heap->YP w s₁.heap ->
   s₁.heap.get? fa=some o->o.data=.func (docDef d.name d.params d.body d.scope pm cd doc)->s₁.heap.CodeRec cd d.name->mg d.name=some (.ref fa) ->
   s₁.heap.get? a=some {cls:=.type "list",data:=.seq vs.toArray}->IntsAre vs ns->ns.length<=n->s₁.gens=#[] ->
   codeAny (model l.prog w) callerA (.call (.ref fa) ⟨[.ref a],[]⟩) (λr s'=>r=.ok (.ret (.bool true))/\OldK s₁.heap s'.heap/\s'.os=s₁.os/\AllBare s'.gens) s₁) :
  WalkO q loose XP YP l.row.toRowW d [] (λf vs=>PySem.call f vs):=by
 intro w s₀ s₁ mg mb G Y fa o pm cd doc dV kV ho hd hcd hD hmg hg args vals as hpre hlay hrd hwl hlo
 obtain rfl:dV=.none:=Dflts.none hD hdf
 obtain rfl:kV=.none:=Dflts.noKw hD
 obtain ⟨a,vs,ns,rfl,rfl,hobj,hints,hlen⟩:=qN hn hpre hwl
 refine enter_call (codeAny_mono (call w s₀ s₁ mg mb fa o pm cd doc a vs ns G Y ho (fd_plain hd) hcd hmg hobj hints hlen hg) λr s' hq=>?_)
 obtain ⟨rfl,h2,h3,h4⟩:=hq
 exact ⟨.inl ⟨.bool true,.bool true,[],rfl,λ_=>rfl,.bool true,qS l _,λ_=>⟨List.Pairwise.nil,λ_ hm=>(nomatch hm)⟩⟩,h2,h3,h4⟩
section
variable {prog:Program}{w:World}{A:Around}{E:Value->Shared->Prop}{s:Shared}{K:Frag}
end
end Att
namespace L2
open PySem PySem.Spec PyProof.Rows
theorem gs:∀{vs:List Value} {ns:List Int},IntsAre vs ns->Vals (ns.map V.int) vs
 | _,_,.nil=>.nil
 | _,_,.cons n t h=>.cons ⟨t,rfl⟩ (gs h)
def yq(H:Hp):Prop:=∀b,H b=none\/∃o xs,H b=some (.frz o (.lst xs))
theorem um{P:Program}{w:World}{K:PySem.W.Frag}{mg mb:Str->Option Value}{CX:CXT}{k:Nat}{fa a:Addr}{fd:FuncData}{x:Str}{sp:Sp}{s₁:Shared}{vs:List Value}{ns:List Int}
  (KX:K.In s₁.heap)(hns:s₁.heap.Ns mainGlobals mg)(hb:s₁.heap.Ns builtinsNs mb)(hbb:∀x:Str,x≠"__name__"->mb x=bootBuiltins x)(hlim:s₁.heap.NoLimit)(hg:s₁.gens=#[])
  (ha:s₁.heap.get? a=some {cls:=.type "list",data:=.seq vs.toArray})(hi:IntsAre vs ns)(hl:ns.length<=sizeLine)(hr:Room k callerA)
  (F:∀base:Heap,K.In base->base.Ns mainGlobals mg->FnOk P w K mg base CX k fa fd [x] sp)(hbind:∀(s:Shared) (u:Value),BindsTo s fd ⟨[u],[]⟩ [(x,u)])
  (hsp:∀H:Hp,yq H->SqL K H a (ns.map V.int)->sp [.ref a] H (λv _=>v=.bl true) λ_ _ _=>False)
  (hCX:∀H e s',CX [] H s₁ (λ_ _ _=>False) e s'->False) :
  codeAny (model P w) callerA (.call (.ref fa) ⟨[.ref a],[]⟩) (λr s'=>r=.ok (.ret (.bool true))/\OldK s₁.heap s'.heap/\s'.os=s₁.os/\AllBare s'.gens) s₁:=by
 have rv:=gs hi
 have lenV:=hi.length
 have core:∀H:Hp,yq H->SqL K H a (ns.map V.int)->HOk P w H s₁.heap->(∀b,H b≠none->b=a)->(H a≠none->K.lookup a=none) ->
   codeAny (model P w) callerA (.call (.ref fa) ⟨[.ref a],[]⟩) (λr s'=>r=.ok (.ret (.bool true))/\OldK s₁.heap s'.heap/\s'.os=s₁.os/\AllBare s'.gens) s₁:=by
  intro H hO hS hok hA hK
  have base_of:∀{b:Addr} {o:Obj},s₁.heap.get? b=some o->H b=none->(ms s₁.heap H).get? b=some o:=λe n=>ur e n
  have noA:∀{b:Addr} {o:Obj} {es:Array DictEntry} {ep:Nat},s₁.heap.get? b=some o->o.data=.dict es ep->H b=none:=λ{b o es ep} e d=>by
   cases q:H b with
   | none=>rfl
   | some u =>
    have e':b=a:=hA b (by rw [q];simp)
    subst e'
    rw [ha] at e;cases e
    have d':Data.seq vs.toArray _=Data.dict es ep:=d
    cases d'
  have nsK:∀{b:Addr} {m:Str->Option Value},s₁.heap.Ns b m->(ms s₁.heap H).Ns b m:=λ{b m} ⟨o,es,ep,e,d,r⟩=>⟨o,es,ep,base_of e (noA e d),d,r⟩
  have hKb:K.In (ms s₁.heap H):=λb o e=>base_of (KX b o e) (by
   cases q:H b with
   | none=>rfl
   | some u =>
    have e':b=a:=hA b (by rw [q];simp)
    subst e'
    rw [hK (by rw [q];simp)] at e;cases e)
  have hM:Mod K mg (ms s₁.heap H):=⟨hKb,nsK hns,⟨mb,nsK hb,hbb⟩,let ⟨mc,h1,h2⟩:=hlim;⟨mc,nsK h1,h2⟩⟩
  have e0:Env0 P w K mg (ms s₁.heap H) callerA [] s₁ H:=⟨rfl,hM,λb o e=>vX e,Nat.le_of_eq (rA _ _),trivial,λb hb=>absurd (show b∈([]:List Addr) from hb) (by simp),hok,.of_eq hg⟩
  refine codeAny_mono ((F _ hKb (nsK hns)).run callerA [] s₁ H ⟨[.ref a],[]⟩ [.ref a] [.ref a] _ _ hr e0 (hbind s₁ (.ref a)) (.cons rfl .nil) (hsp H hO hS)) λr s' h=>?_
  cases r with
  | error e=>exact (hCX H e s' h).elim
  | ok fl =>
   cases fl with
   | next=>exact False.elim h
   | brk=>exact False.elim h
   | cont=>exact False.elim h
   | ret u =>
    obtain ⟨v,H',os,bare,un,hok',r',q⟩:=h
    have q':v=.bl true:=q
    subst q'
    obtain rfl:u=Value.bool true:=r'
    refine ⟨rfl,OldK.of_keep λb o e=>?_,os,bare⟩
    cases q:H b with
    | none=>exact un.keep b o e q (by intro z;exact absurd (show b∈([]:List Addr) from z) (by simp)) (by simp)
    | some u =>
     rcases hO b with z | ⟨ob,xs,z⟩
     ·rw [q] at z;cases z
     ·have z2:=un.frzs b ob _ z
      obtain ⟨e1,_⟩:=hok b _ z
      obtain ⟨e2,_⟩:=hok' b _ z2
      rw [e] at e1;cases e1
      exact e2
 cases hk:K.lookup a with
 | some o =>
  have e:=KX a o hk
  rw [ha] at e
  cases e
  refine core (λ_=>none) (λ_=>.inl rfl) (.inr ⟨_,vs.toArray,_,hk,rfl,rfl,rfl,by rw [List.size_toArray,lenV];exact hl,by simpa using rv⟩) (λb u z=>by have z':(none:Option HO)=some u:=z;cases z') (λb z=>absurd rfl z) λz=>absurd rfl z
 | none =>
  refine core (λb=>if b=a then some (.frz {cls:=.type "list",data:=.seq vs.toArray} (.lst (ns.map V.int))) else none) (λb=>?_) (.inl (.inr ⟨{cls:=.type "list",data:=.seq vs.toArray},if_pos rfl⟩)) (λb u z=>?_) (λb z=>?_) λ_=>hk
  ·by_cases hb:b=a
   ·exact .inr ⟨_,_,if_pos hb⟩
   ·exact .inl (if_neg hb)
  ·by_cases hb:b=a
   ·have z':=(if_pos hb).symm.trans z
    cases z'
    subst hb
    exact ⟨ha,by rw [List.length_map];exact hl,vs,_,rv,ha⟩
   ·have z':=(if_neg hb).symm.trans z
    cases z'
  ·by_cases hb:b=a
   ·exact hb
   ·exact absurd (if_neg hb) z
end L2
namespace L2
open PySem PySem.Spec PyProof.Rows
theorem uW{l:PySem.W.OpenLaw}{n k:Nat}{q:Program}{loose:List Str}{XP:(Str->Option Value)->Heap->Prop}{YP:World->Heap->Prop}{d:DefRec}{K:Params->PySem.W.Frag}{CX:World->CXT}{sp:World->Sp}{x:Str}
  (hn:l.most=some n)(hn2:n<=sizeLine)(hdf:d.params.defaults=[])(hr:Room k callerA)
  (hY:∀(w:World) (h:Heap),YP w h->(K w.params).In h)
  (F:∀(w:World) (mg:Str->Option Value) (fa:Addr) (h:Heap),(K w.params).In h->h.Ns mainGlobals mg->mg d.name=some (.ref fa) ->
   ∃fd:FuncData,(∀(s:Shared) (u:Value),BindsTo s fd ⟨[u],[]⟩ [(x,u)]) /\
    ∀base:Heap,(K w.params).In base->base.Ns mainGlobals mg->FnOk l.prog w (K w.params) mg base (CX w) k fa fd [x] (sp w))
  (hsp:∀(w:World) (H:Hp) (a:Addr) (ns:List Int),ns.length<=n->yq H->SqL (K w.params) H a (ns.map V.int)->sp w [.ref a] H (λv _=>v=.bl true) λ_ _ _=>False)
  (hCX:∀(w:World) (H:Hp) (s:Shared) (e:Value) (s':Shared),CX w [] H s (λ_ _ _=>False) e s'->False) :
  PySem.W.WalkO q loose XP YP l.row.toRowW d [] (λf vs=>PySem.call f vs):=by
 refine Att.oA hn hdf λw s₀ s₁ mg mb fa o pm cd doc a vs ns G Y ho hd hcd hmg hobj hints hlen hg=>?_
 have KX:=hY w _ Y
 obtain ⟨fd,hb,hF⟩:=F w mg fa _ KX G.T.g hmg
 exact um KX G.T.g G.T.b G.T.builtins G.T.nolimit hg hobj hints (Nat.le_trans hlen hn2) hr hF hb (λH hO hS=>hsp w H a ns hlen hO hS) λH e s'=>hCX w H s₁ e s'
end L2
namespace L2
open PySem PySem.Spec PyProof.Rows
def inClass(s:Stmt)(j:Nat):Stmt:=match s with
 | .ClassDef _ _ _ body _ _ _ _ _ _ _=>body.getD j (.Pass ⟨0,0,0,0⟩)
 | _=>.Pass ⟨0,0,0,0⟩
def defArgs(s:Stmt):Arguments:=match s with
 | .FunctionDef _ a _ _ _ _ _ _ _ _=>a
 | _=>{posonlyargs:=[],args:=[],vararg:=none,kwonlyargs:=[],kw_defaults:=[],kwarg:=none,defaults:=[]}
def defBody(s:Stmt):List Stmt:=match s with
 | .FunctionDef _ _ b _ _ _ _ _ _ _=>b
 | _=>[]
def defScope(s:Stmt):Scope:=match s with
 | .FunctionDef _ _ _ _ _ _ sc _ _ _=>sc
 | _=>{kind:=.function,names:=[],isGenerator:=false,isCoroutine:=false}
abbrev CX0:CXT:=λ_ _ _ _ _ _=>False
abbrev E0:XK:=λ_ _ _=>False
theorem bo{X:Cx}:dQ CX0 X E0:=λ_ _ _ _ _ _ _ h=>h.elim
structure Fun(K:PySem.W.Frag)(x qual:Str)(st:Stmt)(f:Addr)(fd:FuncData):Prop where
 ex:∃(oc:Value) (od:Option Addr) (kV doc pm:Value) (an:Option Addr) (cdv ct:Value) (osl:Array (Option Value)),
  fd=PySem.W.fnOf x qual (defArgs st) (defBody st) (defScope st) .none kV doc pm an cdv ct/\K.lookup f=some ⟨oc,od,.func fd,osl⟩/\PySem.W.codeIn K cdv qual=true
 kp:PySem.W.keepIn K (.ref f)=true
section
variable {P:Program}{w:World}{K:PySem.W.Frag}{mg:Str->Option Value}{base:Heap}
theorem Fun.ok{x qual:Str}{st:Stmt}{f:Addr}{fd:FuncData}{N ps:List Str}{k:Nat}{sp:Sp}(F:Fun K x qual st f fd)(S:ak N ps (defScope st))(len:∀vs H Q E,sp vs H Q E->vs.length=ps.length)
  (hbody:∀(cdv:Value) (A:Around) (outer:List Env) (s:Shared) (H:Hp) (vs:List V) (Q:VK) (E:XK),Room k (A.deeper (envOfC qual (defScope st) s.heap.objs.size f cdv))->sp vs H Q E ->
   ∃t,PSs (rH CX0 P w K mg base N qual (defScope st) f cdv A outer s H E).nox (defBody st) t/\t {nx:=λ_ H'=>Q .non H',rt:=Q} (start N vs) H):FnOk P w K mg base CX0 (k+1) f fd ps sp:=by
 obtain ⟨oc,od,kV,doc,pm,an,cdv,ct,osl,rfl,lk,hcd⟩:=F.ex
 refine zj lk hcd S len λA outer s H vs Q E hr hsp=>?_
 obtain ⟨t,h,q⟩:=hbody cdv A outer s H vs Q E hr hsp
 exact ⟨t,h.nox,q⟩
theorem Fun.binds{x qual:Str}{st:Stmt}{f:Addr}{fd:FuncData}{ps:List Str}(F:Fun K x qual st f fd)
  (h:∀(kV doc pm:Value) (an:Option Addr) (cdv ct:Value) (us:List Value),us.length=ps.length->bindArgs (PySem.W.fnOf x qual (defArgs st) (defBody st) (defScope st) .none kV doc pm an cdv ct) ⟨us,[]⟩=pure (ps.zip us)):Binds K fd ps []:=by
 obtain ⟨oc,od,kV,doc,pm,an,cdv,ct,osl,rfl,lk,hcd⟩:=F.ex
 exact .all (h kV doc pm an cdv ct)
theorem yk{x qual:Str}{st:Stmt}{f:Addr}{oc:Value}{od an:Option Addr}{osl:Array (Option Value)}{kV doc pm cdv ct:Value}(l:K.lookup f=some ⟨oc,od,.func (PySem.W.fnOf x qual (defArgs st) (defBody st) (defScope st) .none kV doc pm an cdv ct),osl⟩)
  (c:PySem.W.codeIn K cdv qual=true)(k:PySem.W.keepIn K (.ref f)=true):Fun K x qual st f (PySem.W.fnOf x qual (defArgs st) (defBody st) (defScope st) .none kV doc pm an cdv ct):=⟨⟨oc,od,kV,doc,pm,an,cdv,ct,osl,rfl,l,c⟩,k⟩
end
theorem cI{n:Nat}(h:n<=1000):n<sizeLine:=Nat.lt_of_le_of_lt h (by decide)
section
variable {X:Cx}
theorem pv(i:Nat){x:Str}{pos:Pos}(hN:X.N[i]?=some x:=by rfl)(hv:Vis X.env.scope x:=by first | exact Or.inl rfl | exact Or.inr (Or.inl rfl) | exact Or.inr (Or.inr rfl))(hd:(x==("__debug__":Str))=false:=by decide)
  (hcd:(x==("__classdict__":Str))=false:=by decide):PE X (.Name x pos) (oJ i):=sT hN hv hd hcd
end
theorem aJ{A B:Prop}(h:B):if false=true then A else B:=by
 rw [if_neg Bool.false_ne_true]
 exact h
theorem bu{A B:Prop}(h:A):if true=true then A else B:=by
 rw [if_pos rfl]
 exact h
theorem bx{c A B:Prop} [Decidable c](h1:c->A)(h2:¬c->B):if c then A else B:=by
 by_cases h:c
 ·rw [if_pos h]
  exact h1 h
 ·rw [if_neg h]
  exact h2 h
theorem wR{c A B:Prop} [Decidable c](hc:c)(h:B):if (!decide c)=true then A else B:=by
 rw [decide_eq_true hc]
 exact aJ h
def Same(H H':Hp):Prop:=∀b o,H b=some o->H' b=some o
theorem Same.refl(H:Hp):Same H H:=λ_ _ h=>h
theorem Same.trans{H H1 H2:Hp}(a:Same H H1)(b:Same H1 H2):Same H H2:=λc o h=>b c o (a c o h)
theorem Same.seq{K:PySem.W.Frag}{H H':Hp}{a:Addr}{xs:List V}(e:Same H H')(h:SqL K H a xs):SqL K H' a xs:=by
 rcases h with (h | ⟨o,h⟩) | h
 ·exact .inl (.inl (e _ _ h))
 ·exact .inl (.inr ⟨o,e _ _ h⟩)
 ·exact .inr h
end L2
section
set_option maxHeartbeats 0
open PySem PySem.W PyProof.Rows
lay_quick PySem.Challenge.pw_pactroom_k43_patience
namespace Q
noncomputable section
noncomputable abbrev vT:Value:=Value.bool true
noncomputable abbrev vF:Value:=Value.bool false
noncomputable abbrev A{α:Type}(l:List α):Array α:=Array.mk l
noncomputable abbrev E{α:Type}:Array α:=Array.mk []
noncomputable abbrev vn:Value:=Value.none
noncomputable abbrev vr(n:Nat):Value:=Value.ref n
noncomputable abbrev sr(n:Nat):Option Value:=some (Value.ref n)
noncomputable abbrev vi(a:Int)(n:Nat):Value:=Value.int a n
noncomputable abbrev vs(q:Str)(n:Nat):Value:=Value.str q n
noncomputable abbrev de(P:Params)(q:Str)(n:Nat)(v:Value):DictEntry:=DictEntry.mk (PyData.keyHash P q) (Value.str q n) v
noncomputable abbrev nd(o:Obj)(a b:BT):BT:=.node o a b
noncomputable abbrev l1(o:Obj):BT:=.node o .nil .nil
noncomputable abbrev S(l:List Nat):Str:=@Str.mk (Array.mk l)
abbrev q0:=S [60,109,111,100,117,108,101,62]
abbrev q1:=S [47,99,108,97,105,109,47,99,117,116,46,112,121]
abbrev q2:=S [95,95,109,97,105,110,95,95]
abbrev q3:=S [95,95,110,97,109,101,95,95]
abbrev q4:=S [112,97,99,116,114,111,111,109,46,108,101,97,100,115]
abbrev q5:=S [95,95,100,111,99,95,95]
abbrev q6:=S [95,95,112,97,99,107,97,103,101,95,95]
abbrev q7:=S [95,95,108,111,97,100,101,114,95,95]
abbrev q8:=S [95,95,115,112,101,99,95,95]
abbrev q9:=S [95,95,97,110,110,111,116,97,116,105,111,110,115,95,95]
abbrev q10:=S [95,95,98,117,105,108,116,105,110,115,95,95]
abbrev q11:=S [95,95,102,105,108,101,95,95]
abbrev q12:=S [95,95,99,97,99,104,101,100,95,95]
abbrev q13:=S [95,119,97,108,108]
abbrev q14:=S [80,97,99,116,69,114,114,111,114]
abbrev q15:=S [78,111,84,104,105,110,103]
abbrev q16:=S [78,111,78,101,101,100]
abbrev q17:=S [78,111,84,101,120,116]
abbrev q18:=S [77,79,83,84,95,70,73,71,85,82,69,83,95,116,104,105,110,103,115]
abbrev q19:=S [77,79,83,84,95,83,73,71,78,83]
abbrev q20:=S [77,79,83,84,95,80,65,82,84,83]
abbrev q21:=S [77,79,83,84,95,68,69,69,80]
abbrev q22:=S [76,79,78,71,69,83,84]
abbrev q23:=S [66,76,65,78,75]
abbrev q24:=S [80,69,82,67,69,78,84]
abbrev q25:=S [84,73,76,68,69]
abbrev q26:=S [105,115,95,119,104,111,108,101]
abbrev q27:=S [115,104,111,119,110]
abbrev q28:=S [114,101,97,100,95,116,104,105,110,103]
abbrev q29:=S [105,115,95,115,105,103,110]
abbrev q30:=S [82,101,97,100,101,114]
abbrev q31:=S [77,79,83,84,95,70,73,71,85,82,69,83,95,115,116,101,112,115]
abbrev q32:=S [83,72,65,80,69,83]
abbrev q33:=S [83,116,101,112]
abbrev q34:=S [67,101,108,108,83,116,101,112]
abbrev q35:=S [84,97,107,101,83,116,101,112]
abbrev q36:=S [77,101,97,110,83,116,101,112]
abbrev q37:=S [83,117,109,83,116,101,112]
abbrev q38:=S [71,105,118,101,83,116,101,112]
abbrev q39:=S [65,100,100,83,116,101,112]
abbrev q40:=S [80,108,117,115,83,116,101,112]
abbrev q41:=S [78,101,101,100,83,116,101,112]
abbrev q42:=S [115,112,101,108,108]
abbrev q43:=S [114,101,97,100,95,115,116,101,112]
abbrev q44:=S [114,101,97,100,95,110,117,109,98,101,114]
abbrev q45:=S [109,97,100,101,95,115,116,101,112]
abbrev q46:=S [109,97,100,101,95,115,117,109]
abbrev q47:=S [77,65,78,78,69,82,83]
abbrev q48:=S [77,79,83,84,95,83,84,69,80,83]
abbrev q49:=S [80,97,99,116]
abbrev q50:=S [114,101,97,100,95,112,97,99,116]
abbrev q51:=S [114,101,97,100,95,112,97,114,116]
abbrev q52:=S [104,111,117,115,101,115,95,111,102]
abbrev q53:=S [116,117,114,110,105,110,103]
abbrev q54:=S [80,65,84,73,69,78,67,69]
abbrev q55:=S [76,101,97,100]
abbrev q56:=S [107]
abbrev q57:=S [95,95,109,111,100,117,108,101,95,95]
abbrev q58:=S [112,97,99,116,114,111,111,109,46,101,114,114,111,114,115]
abbrev q59:=S [95,95,113,117,97,108,110,97,109,101,95,95]
abbrev q60:=S [95,95,102,105,114,115,116,108,105,110,101,110,111,95,95]
abbrev q61:=S [95,95,115,116,97,116,105,99,95,97,116,116,114,105,98,117,116,101,115,95,95]
abbrev q62:=S [95,95,119,101,97,107,114,101,102,95,95]
abbrev q63:=S [95,95,105,110,105,116,95,95]
abbrev q64:=S [115,101,108,102]
abbrev q65:=S [97,116]
abbrev q66:=S [78,111,84,101,120,116,46,95,95,105,110,105,116,95,95]
abbrev q67:=S [116,104,105,110,103]
abbrev q68:=S [112,97,99,116,114,111,111,109,46,116,104,105,110,103,115]
abbrev q69:=S [115,105,103,110]
abbrev q70:=S [110,117,109,98,101,114]
abbrev q71:=S [112,97,115,115,101,115]
abbrev q72:=S [114,101,97,100,95,97,110,121]
abbrev q73:=S [114,101,97,100,95,112,97,114,116,115]
abbrev q74:=S [114,101,97,100,95,98,101,108,111,119]
abbrev q75:=S [114,101,97,100,95,115,105,103,110,115]
abbrev q76:=S [116,101,120,116]
abbrev q77:=S [82,101,97,100,101,114,46,95,95,105,110,105,116,95,95]
abbrev q78:=S [82,101,97,100,101,114,46,112,97,115,115,101,115]
abbrev q79:=S [100,101,101,112]
abbrev q80:=S [82,101,97,100,101,114,46,114,101,97,100,95,97,110,121]
abbrev q81:=S [112,97,114,116,115]
abbrev q82:=S [82,101,97,100,101,114,46,114,101,97,100,95,112,97,114,116,115]
abbrev q83:=S [82,101,97,100,101,114,46,114,101,97,100,95,98,101,108,111,119]
abbrev q84:=S [115,116,97,114,116]
abbrev q85:=S [102,105,103,117,114,101,115]
abbrev q86:=S [82,101,97,100,101,114,46,114,101,97,100,95,110,117,109,98,101,114]
abbrev q87:=S [109,97,110,121]
abbrev q88:=S [98,101,104,105,110,100]
abbrev q89:=S [115,105,103,110,115]
abbrev q90:=S [82,101,97,100,101,114,46,114,101,97,100,95,115,105,103,110,115]
abbrev q91:=S [112,108,97,99,101]
abbrev q92:=S [95,95,100,105,99,116,95,95]
abbrev q93:=S [116,97,107,101]
abbrev q94:=S [72,67]
abbrev q95:=S [109,101,97,110]
abbrev q96:=S [115,117,109]
abbrev q97:=S [72,65,66]
abbrev q98:=S [103,105,118,101]
abbrev q99:=S [97,100,100]
abbrev q100:=S [72,67,86]
abbrev q101:=S [112,108,117,115]
abbrev q102:=S [86]
abbrev q103:=S [110,101,101,100]
abbrev q104:=S [112,97,99,116,114,111,111,109,46,115,116,101,112,115]
abbrev q105:=S [104,111,117,115,101]
abbrev q106:=S [108,111,99,107]
abbrev q107:=S [115,116,101,112,95,100,111,110,101]
abbrev q108:=S [98,97,99,107]
abbrev q109:=S [115,117,114,101]
abbrev q110:=S [115,112,101,108,108,101,100]
abbrev q111:=S [83,116,101,112,46,104,111,117,115,101]
abbrev q112:=S [83,116,101,112,46,108,111,99,107]
abbrev q113:=S [104,97,110,100]
abbrev q114:=S [118,97,108,117,101,95,111,102]
abbrev q115:=S [83,116,101,112,46,115,116,101,112,95,100,111,110,101]
abbrev q116:=S [83,116,101,112,46,98,97,99,107]
abbrev q117:=S [83,116,101,112,46,115,117,114,101]
abbrev q118:=S [83,116,101,112,46,115,112,101,108,108,101,100]
abbrev q119:=S [119,104,101,114,101]
abbrev q120:=S [99,101,108,108]
abbrev q121:=S [67,101,108,108,83,116,101,112,46,95,95,105,110,105,116,95,95]
abbrev q122:=S [67,101,108,108,83,116,101,112,46,104,111,117,115,101]
abbrev q123:=S [84,97,107,101,83,116,101,112,46,108,111,99,107]
abbrev q124:=S [84,97,107,101,83,116,101,112,46,115,116,101,112,95,100,111,110,101]
abbrev q125:=S [84,97,107,101,83,116,101,112,46,115,112,101,108,108,101,100]
abbrev q126:=S [77,101,97,110,83,116,101,112,46,108,111,99,107]
abbrev q127:=S [77,101,97,110,83,116,101,112,46,115,116,101,112,95,100,111,110,101]
abbrev q128:=S [77,101,97,110,83,116,101,112,46,115,112,101,108,108,101,100]
abbrev q129:=S [108,111,119]
abbrev q130:=S [104,105,103,104]
abbrev q131:=S [83,117,109,83,116,101,112,46,95,95,105,110,105,116,95,95]
abbrev q132:=S [83,117,109,83,116,101,112,46,104,111,117,115,101]
abbrev q133:=S [83,117,109,83,116,101,112,46,108,111,99,107]
abbrev q134:=S [83,117,109,83,116,101,112,46,115,116,101,112,95,100,111,110,101]
abbrev q135:=S [83,117,109,83,116,101,112,46,115,112,101,108,108,101,100]
abbrev q136:=S [71,105,118,101,83,116,101,112,46,108,111,99,107]
abbrev q137:=S [71,105,118,101,83,116,101,112,46,115,116,101,112,95,100,111,110,101]
abbrev q138:=S [71,105,118,101,83,116,101,112,46,115,117,114,101]
abbrev q139:=S [71,105,118,101,83,116,101,112,46,115,112,101,108,108,101,100]
abbrev q140:=S [97,109,111,117,110,116]
abbrev q141:=S [65,100,100,83,116,101,112,46,95,95,105,110,105,116,95,95]
abbrev q142:=S [65,100,100,83,116,101,112,46,108,111,99,107]
abbrev q143:=S [65,100,100,83,116,101,112,46,115,116,101,112,95,100,111,110,101]
abbrev q144:=S [65,100,100,83,116,101,112,46,98,97,99,107]
abbrev q145:=S [65,100,100,83,116,101,112,46,115,112,101,108,108,101,100]
abbrev q146:=S [80,108,117,115,83,116,101,112,46,95,95,105,110,105,116,95,95]
abbrev q147:=S [80,108,117,115,83,116,101,112,46,115,116,101,112,95,100,111,110,101]
abbrev q148:=S [80,108,117,115,83,116,101,112,46,115,112,101,108,108,101,100]
abbrev q149:=S [78,101,101,100,83,116,101,112,46,95,95,105,110,105,116,95,95]
abbrev q150:=S [78,101,101,100,83,116,101,112,46,115,116,101,112,95,100,111,110,101]
abbrev q151:=S [78,101,101,100,83,116,101,112,46,115,112,101,108,108,101,100]
abbrev q152:=S [119,111,114,100]
abbrev q153:=S [108,101,116,116,101,114]
abbrev q154:=S [110,117,109,98,101,114,115]
abbrev q155:=S [104,101,108,100]
abbrev q156:=S [119,97,108,107,101,100]
abbrev q157:=S [112,97,99,116,114,111,111,109,46,112,97,99,116,115]
abbrev q158:=S [109,97,110,110,101,114]
abbrev q159:=S [115,116,101,112,115]
abbrev q160:=S [80,97,99,116,46,95,95,105,110,105,116,95,95]
abbrev q161:=S [80,97,99,116,46,115,112,101,108,108,101,100]
abbrev q162:=S [112,97,99,116]
abbrev q163:=S [103,111]
abbrev q164:=S [116,117,114,110]
abbrev q165:=S [101,110,100]
abbrev q166:=S [99,97,109,101]
abbrev q167:=S [103,111,95,97,104,101,97,100]
abbrev q168:=S [103,111,95,102,114,111,109,95,101,110,100]
abbrev q169:=S [103,111,95,98,101,104,105,110,100]
abbrev q170:=S [110,97,109,105,110,103]
abbrev q171:=S [111,119,110,95,115,116,101,112,115,95,100,111,110,101]
abbrev q172:=S [110,101,120,116,95,104,111,117,115,101]
abbrev q173:=S [112,114,101,115,101,110,116,95,104,97,110,100]
abbrev q174:=S [115,101,110,100,95,115,116,101,112]
abbrev q175:=S [105,115,95,97,110,115,119,101,114]
abbrev q176:=S [110,97,109,101]
abbrev q177:=S [76,101,97,100,46,95,95,105,110,105,116,95,95]
abbrev q178:=S [115,104,101,101,116]
abbrev q179:=S [76,101,97,100,46,103,111]
abbrev q180:=S [76,101,97,100,46,116,117,114,110]
abbrev q181:=S [111,117,116,99,111,109,101]
abbrev q182:=S [76,101,97,100,46,101,110,100]
abbrev q183:=S [115,101,110,100,101,114]
abbrev q184:=S [109,111,114,101]
abbrev q185:=S [76,101,97,100,46,99,97,109,101]
abbrev q186:=S [76,101,97,100,46,103,111,95,97,104,101,97,100]
abbrev q187:=S [76,101,97,100,46,103,111,95,102,114,111,109,95,101,110,100]
abbrev q188:=S [76,101,97,100,46,103,111,95,98,101,104,105,110,100]
abbrev q189:=S [76,101,97,100,46,110,97,109,105,110,103]
abbrev q190:=S [115,116,101,112]
abbrev q191:=S [76,101,97,100,46,111,119,110,95,115,116,101,112,115,95,100,111,110,101]
abbrev q192:=S [76,101,97,100,46,110,101,120,116,95,104,111,117,115,101]
abbrev q193:=S [76,101,97,100,46,112,114,101,115,101,110,116,95,104,97,110,100]
abbrev q194:=S [76,101,97,100,46,115,101,110,100,95,115,116,101,112]
abbrev q195:=S [76,101,97,100,46,105,115,95,97,110,115,119,101,114]
abbrev q196:=S [99,108,111,115,101,100]
abbrev q197:=S [104,97,110,100,115]
abbrev q198:=S [104,111,117,115,101,115]
abbrev q199:=S [110,97,109,101,100]
abbrev q200:=S [116,117,114,110,115]
abbrev q201:=S [108,97,119,95,112,97,99,116,114,111,111,109,95,107,52,51,95,112,97,116,105,101,110,99,101]
abbrev q202:=S [72,101,108,100,76,101,97,100]
abbrev q203:=S [87,97,108,107,101,100,76,101,97,100]
abbrev q204:=S [108,101,97,100,95,111,102]
abbrev q205:=S [110,111,95,118,97,108,117,101]
abbrev q206:=S [83,104,101,101,116]
abbrev q207:=S [83,116,97,110,100]
abbrev q208:=S [95,108,97,119,95,99,101,108,108,95,97,116]
abbrev q209:=S [95,108,97,119,95,115,116,101,112]
abbrev q210:=S [95,108,97,119,95,104,111,117,115,101,115]
abbrev q211:=S [95,108,97,119,95,101,110,100,101,100]
abbrev q212:=S [95,108,97,119,95,110,101,120,116]
abbrev q213:=S [95,108,97,119,95,100,117,101]
abbrev q214:=S [95,108,97,119,95,112,108,97,121,101,100]
abbrev q215:=S [108,97,119]
abbrev q216:=S [115,105,108,101,110,116]
abbrev q217:=S [100,111,110,101,95,105,102,95,97,108,108,95,97,103,114,101,101]
abbrev q218:=S [72,101,108,100,76,101,97,100,46,95,95,105,110,105,116,95,95]
abbrev q219:=S [72,101,108,100,76,101,97,100,46,103,111,95,97,104,101,97,100]
abbrev q220:=S [72,101,108,100,76,101,97,100,46,99,97,109,101]
abbrev q221:=S [72,101,108,100,76,101,97,100,46,115,105,108,101,110,116]
abbrev q222:=S [72,101,108,100,76,101,97,100,46,100,111,110,101,95,105,102,95,97,108,108,95,97,103,114,101,101]
abbrev q223:=S [72,101,108,100,76,101,97,100,46,103,111,95,102,114,111,109,95,101,110,100]
abbrev q224:=S [72,101,108,100,76,101,97,100,46,103,111,95,98,101,104,105,110,100]
abbrev q225:=S [97,103,114,101,101,100]
abbrev q226:=S [105,115,95,119,97,108,107,105,110,103]
abbrev q227:=S [105,115,95,117,110,100,111,105,110,103]
abbrev q228:=S [99,111,109,101,95,117,112]
abbrev q229:=S [119,97,108,107,95,114,101,115,116]
abbrev q230:=S [117,110,100,111,95,114,101,115,116]
abbrev q231:=S [87,97,108,107,101,100,76,101,97,100,46,95,95,105,110,105,116,95,95]
abbrev q232:=S [87,97,108,107,101,100,76,101,97,100,46,103,111,95,97,104,101,97,100]
abbrev q233:=S [87,97,108,107,101,100,76,101,97,100,46,99,97,109,101]
abbrev q234:=S [87,97,108,107,101,100,76,101,97,100,46,105,115,95,119,97,108,107,105,110,103]
abbrev q235:=S [87,97,108,107,101,100,76,101,97,100,46,105,115,95,117,110,100,111,105,110,103]
abbrev q236:=S [87,97,108,107,101,100,76,101,97,100,46,103,111,95,102,114,111,109,95,101,110,100]
abbrev q237:=S [105,115,95,108,101,102,116]
abbrev q238:=S [87,97,108,107,101,100,76,101,97,100,46,103,111,95,98,101,104,105,110,100]
abbrev q239:=S [87,97,108,107,101,100,76,101,97,100,46,99,111,109,101,95,117,112]
abbrev q240:=S [87,97,108,107,101,100,76,101,97,100,46,119,97,108,107,95,114,101,115,116]
abbrev q241:=S [87,97,108,107,101,100,76,101,97,100,46,117,110,100,111,95,114,101,115,116]
abbrev q242:=S [98,101,110,100]
abbrev q243:=S [115,105,103,110,101,100]
abbrev q244:=S [117,110,100,111,105,110,103]
abbrev q245:=S [112,97,99,116,114,111,111,109,46,115,104,101,101,116,115]
abbrev q246:=S [114,111,119]
abbrev q247:=S [115,101,110,100]
abbrev q248:=S [114,111,119,115,95,116,111,108,100]
abbrev q249:=S [108,101,116,116,101,114,115,95,116,111,108,100]
abbrev q250:=S [115,116,97,110,100]
abbrev q251:=S [83,104,101,101,116,46,95,95,105,110,105,116,95,95]
abbrev q252:=S [83,104,101,101,116,46,114,111,119]
abbrev q253:=S [116,111]
abbrev q254:=S [112]
abbrev q255:=S [83,104,101,101,116,46,115,101,110,100]
abbrev q256:=S [83,104,101,101,116,46,114,111,119,115,95,116,111,108,100]
abbrev q257:=S [83,104,101,101,116,46,108,101,116,116,101,114,115,95,116,111,108,100]
abbrev q258:=S [108,97,116,101,115,116]
abbrev q259:=S [114,111,119,115]
abbrev q260:=S [115,101,110,116]
abbrev q261:=S [112,97,99,116,114,111,111,109,46,115,116,97,110,100,115]
abbrev q262:=S [107,101,101,112]
abbrev q263:=S [99,104,97,110,103,101,115,95,111,102]
abbrev q264:=S [99,101,108,108,95,97,116]
abbrev q265:=S [99,101,108,108,115,95,116,111,108,100]
abbrev q266:=S [110,101,119,115]
abbrev q267:=S [98,111,117,110,100]
abbrev q268:=S [108,111,115,116]
abbrev q269:=S [98,101,103,117,110]
abbrev q270:=S [119,97,108,107,101,100,95,97,116]
abbrev q271:=S [105,115,95,111,118,101,114]
abbrev q272:=S [99,101,108,108,115]
abbrev q273:=S [83,116,97,110,100,46,95,95,105,110,105,116,95,95]
abbrev q274:=S [99,104,97,110,103,101]
abbrev q275:=S [83,116,97,110,100,46,107,101,101,112]
abbrev q276:=S [83,116,97,110,100,46,99,104,97,110,103,101,115,95,111,102]
abbrev q277:=S [83,116,97,110,100,46,99,101,108,108,95,97,116]
abbrev q278:=S [83,116,97,110,100,46,99,101,108,108,115,95,116,111,108,100]
abbrev q279:=S [83,116,97,110,100,46,111,117,116,99,111,109,101]
abbrev q280:=S [83,116,97,110,100,46,110,101,119,115]
abbrev q281:=S [83,116,97,110,100,46,98,111,117,110,100]
abbrev q282:=S [83,116,97,110,100,46,108,111,115,116]
abbrev q283:=S [83,116,97,110,100,46,98,101,103,117,110]
abbrev q284:=S [105]
abbrev q285:=S [83,116,97,110,100,46,119,97,108,107,101,100,95,97,116]
abbrev q286:=S [83,116,97,110,100,46,105,115,95,111,118,101,114]
abbrev q287:=S [98,101,103,105,110,115]
abbrev q288:=S [101,110,100,115]
abbrev q289:=S [111,118,101,114,115]
abbrev q290:=S [114,101,97,100,105,101,115]
abbrev q291:=S [119,97,108,107,115]
abbrev q292:=S [119,111,114,107,101,100]
abbrev q293:=S [95,108,97,119,95,115,99,114,105,112,116]
abbrev q294:=S [95,108,97,119,95,107]
abbrev q295:=S [95,108,97,119,95,110,117,109,98,101,114]
abbrev q296:=S [95,108,97,119,95,109,97,110,110,101,114]
abbrev q297:=S [95,108,97,119,95,104,111,117,115,101]
abbrev q298:=S [95,108,97,119,95,99,101,108,108]
abbrev q299:=S [95,108,97,119,95,119,97,121]
abbrev q300:=S [95,108,97,119,95,115,116,101,112,115]
abbrev q301:=S [95,108,97,119,95,97,116]
abbrev q302:=S [95,108,97,119,95,108,101,97,100]
abbrev q303:=S [95,108,97,119,95,115,104,101,101,116]
abbrev q304:=S [95,108,97,119,95,110,97,109,101]
abbrev q305:=S [95,108,97,119,95,110,117,109,98,101,114,115]
abbrev q306:=S [95,108,97,119,95,104,111,117,115,101,115,95,104,101,114,101]
abbrev q307:=S [95,108,97,119,95,116,117,114,110,115]
abbrev q308:=S [95,108,97,119,95,115,97,105,100]
abbrev q309:=S [95,108,97,119,95,108,97,115,116]
abbrev q310:=S [95,108,97,119,95,115,101,110,116]
abbrev q311:=S [95,108,97,119,95,100,117,101,95,104,101,114,101]
abbrev q312:=S [95,108,97,119,95,102,97,116,101]
abbrev q313:=S [95,108,97,119,95,119,111,114,100]
abbrev q314:=S [95,108,97,119,95,111,102,102]
noncomputable abbrev y0:Value:=(@Value.type SL.s2766695959194262286x5)
noncomputable abbrev y1:Value:=(@Value.type SL.s5856160107412720595x4)
noncomputable abbrev y2:Value:=(@Value.type SL.s658472552662922059x5)
noncomputable abbrev y3:Value:=(@Value.type SL.s14018661285674007319x4)
noncomputable abbrev y4:Value:=(@Value.builtin SL.s7097527257260152453x26)
noncomputable abbrev y5:Value:=(@Value.type SL.s7174869446012820540x8)
noncomputable abbrev y6:Value:=(@Value.type SL.s6070975301684473832x10)
noncomputable abbrev y7:Value:=(@Value.type SL.s11030030927630378310x26)
noncomputable abbrev y8:Value:=(@Value.builtin SL.s10062305145149207511x16)
noncomputable abbrev y9:Value:=(@Value.type SL.s17162191345867700912x4)
noncomputable abbrev y10:Value:=(@Value.type SL.s5946037652744460706x9)
noncomputable abbrev y11:Value:=(@Value.type SL.s4278001404047624695x13)
noncomputable abbrev y12:Value:=(@Value.type SL.s2742458400755230247x6)
noncomputable abbrev y13:Value:=(@Value.builtin SL.s4209523147560561109x18)
noncomputable abbrev y14:Value:=(@Value.type SL.s14755015743595814543x17)
noncomputable abbrev y15:Value:=(@Value.builtin SL.s10220274742760427390x26)
noncomputable abbrev y16:Value:=(@Value.type SL.s4290257624100764138x5)
noncomputable abbrev y17:Value:=(@Value.builtin SL.s4860613602091757760x24)
noncomputable abbrev y18:Value:=(@Value.builtin SL.s11443829558043349243x14)
noncomputable abbrev y19:Value:=(@Value.builtin SL.s6511155373996960695x17)
noncomputable abbrev y20:Value:=(@Value.builtin SL.s12411053484034534018x21)
noncomputable abbrev p0:Program:=PySem.Challenge.pw_pactroom_k43_patience
noncomputable abbrev pq:Program:=PySem.W.Fast.tw10430237223143917066
theorem pe:p0=pq:=PySem.W.Fast.te10430237223143917066
noncomputable def B(i:Nat):Stmt:=pq.main.body.getD i (.Pass ⟨0,0,0,0⟩)
noncomputable def T(i:Nat):Stmt:=p0.main.body.getD i (.Pass ⟨0,0,0,0⟩)
noncomputable def M(k j:Nat):Stmt:=L2.inClass (B k) j
noncomputable def N(k j:Nat):Stmt:=L2.inClass (T k) j
noncomputable abbrev fk(a b:Str)(s:Stmt):=FuncData.mk a b (L2.defArgs s) (.stmts (L2.defBody s)) (L2.defScope s)
section
variable (P:Params)
def a11:=Obj.mk y0 none (Data.seq E 0) E
def a12:=Obj.mk vn none (Data.fields E) E
def m0(x0:Str)(x1:Nat)(x2:Nat)(x3:Nat)(x4:Int)(x5:Nat)(x6:Nat)(x7:Int)(x8:Nat):=Obj.mk y1 none (Data.fields (A [vs x0 x1,vs x0 x2,vs q1 x3,vi x4 0,vi 0 0,vi 0 0,vi 0 0,vi 0 0,vr x5,vF,vi 181 0,vr x6,vn,vn,vn,vn,vi x7 0,vi x4 0,vs q1 x8])) E
def a13:=m0 q0 182 183 184 1 11 12 185 186
def m1(x0:Nat)(x1:Nat)(x2:Str)(x3:Nat):=Obj.mk y2 none Data.plain (A [sr x0,sr 3,sr x1,none,some (vs x2 x3),none,sr 0])
def a14:=m1 13 3 q2 164
def u0:=nd (boot_o_0 P) (nd (boot_o_1 P) (nd (boot_o_3 P) (l1 (boot_o_7 P)) (l1 a11)) (nd (boot_o_5 P) (l1 (boot_o_9 P)) (l1 a13))) (nd (boot_o_2 P) (nd (boot_o_4 P) (l1 (boot_o_8 P)) (l1 a12)) (nd (boot_o_6 P) (l1 (boot_o_10 P)) (l1 a14)))
def ta:=u0 P
def tb:=u0 P
def c0_3:=Obj.mk y3 none (Data.dict (A [de P q3 165 (vs q4 955),de P q5 166 vn,de P q6 167 vn,de P q7 168 y4,de P q8 169 vn,de P q9 170 (vr 6),de P q10 171 (vr 4),de P q11 173 (vs q1 172),de P q12 174 vn,de P q13 193 (vr 21),de P q14 213 (vr 31),de P q15 229 (vr 44),de P q16 245 (vr 56),de P q17 270 (vr 75),de P q18 274 (vi 400 273),de P q19 276 (vi 2000 275),de P q20 278 (vi 2000 277),de P q21 280 (vi 8 279),de P q22 282 (vi 100000 281),de P q23 284 (vi 32 283),de P q24 286 (vi 37 285),de P q25 288 (vi 126 287),de P q26 295 (vr 84),de P q27 301 (vr 89),de P q28 307 (vr 94),de P q29 315 (vr 101),de P q30 398 (vr 160),de P q31 402 (vi 40 401),de P q32 424 (vr 165),de P q33 489 (vr 217),de P q34 523 (vr 245),de P q35 562 (vr 278),de P q36 601 (vr 311),de P q37 657 (vr 356),de P q38 703 (vr 396),de P q39 761 (vr 443),de P q40 802 (vr 476),de P q41 843 (vr 509),de P q42 849 (vr 516),de P q43 855 (vr 521),de P q44 864 (vr 528),de P q45 872 (vr 535),de P q46 881 (vr 542),de P q47 886 (vr 543),de P q48 888 (vi 12 887),de P q49 926 (vr 565),de P q50 932 (vr 574),de P q51 940 (vr 581),de P q52 946 (vr 586),de P q53 954 (vr 593),de P q54 958 (vi 4 957),de P q55 1103 (vr 701)]) 52) E
def c0_12:=Obj.mk vn none (Data.fields (A [vi 1 0,vi 0 0,vr 20,vi 5 0,vi 0 0,vr 27,vi 7 0,vi 0 0,vr 40,vi 9 0,vi 0 0,vr 52,vi 11 0,vi 0 0,vr 64,vi 24 0,vi 0 0,vr 83,vi 26 0,vi 0 0,vr 88,vi 32 0,vi 0 0,vr 93,vi 42 0,vi 0 0,vr 100,vi 45 0,vi 0 0,vr 107,vi 112 0,vi 0 0,vr 171,vi 131 0,vi 0 0,vr 227,vi 139 0,vi 0 0,vr 253,vi 149 0,vi 0 0,vr 286,vi 159 0,vi 0 0,vr 319,vi 177 0,vi 0 0,vr 364,vi 190 0,vi 0 0,vr 404,vi 207 0,vi 0 0,vr 451,vi 217 0,vi 0 0,vr 484,vi 229 0,vi 0 0,vr 515,vi 231 0,vi 0 0,vr 520,vi 237 0,vi 0 0,vr 527,vi 247 0,vi 0 0,vr 534,vi 261 0,vi 0 0,vr 541,vi 268 0,vi 0 0,vr 549,vi 277 0,vi 0 0,vr 573,vi 285 0,vi 0 0,vr 580,vi 290 0,vi 0 0,vr 585,vi 292 0,vi 0 0,vr 592,vi 299 0,vi 0 0,vr 599])) E
def m2(x0:Str)(x1:Nat):=Obj.mk y0 none (Data.seq (A [vs x0 x1]) 0) E
def c0_17:=m2 q56 190
def m3(x0:Str)(x1:Str)(x2:Stmt):=Obj.mk vn none (Data.func (fk x0 x1 x2 0 [] vn vn vn vn none vn vn 0)) E
def c0_19:=m3 q13 q13 (B 0)
def m4(x0:Str)(x1:Nat)(x2:Str)(x3:Nat)(x4:Nat)(x5:Int)(x6:Int)(x7:Nat)(x8:Nat)(x9:Nat)(x10:Nat)(x11:Nat)(x12:Int)(x13:Nat):=Obj.mk y1 none (Data.fields (A [vs x0 x1,vs x2 x3,vs q1 x4,vi x5 0,vi x6 0,vi 0 0,vi 0 0,vi 3 0,vr x7,vT,vi 181 0,vr x8,vn,vr x9,vr x10,vr x11,vi x12 0,vi x5 0,vs q1 x13])) E
def c0_20:=m4 q13 187 q13 188 189 1 1 15 16 17 18 19 191 192
def m5(x0:Str)(x1:Str)(x2:Stmt)(x3:Str)(x4:Nat)(x5:Nat):=Obj.mk y5 none (Data.func (fk x0 x1 x2 3 [] vn vn vn (vs x3 x4) none (vr x5) vn 0)) E
def c0_21:=m5 q13 q13 (B 0) q2 164 20
def c0_22:=Obj.mk y0 none (Data.seq (A [y6]) 0) E
def c0_23:=Obj.mk y7 none (Data.fields (A [y8,y9])) E
def m6(x0:Nat)(x1:Nat)(x2:Str)(x3:Nat)(x4:Nat)(x5:Int)(x6:Nat)(x7:Nat)(x8:Nat):=Obj.mk y3 none (Data.dict (A [de P q57 x0 (vs q58 194),de P q59 x1 (vs x2 x3),de P q60 x4 (vi x5 x6),de P q61 x7 (vr x8)]) 4) E
def c0_24:=m6 P 203 205 q14 204 207 5 206 208 29
def c0_27:=m0 q14 198 199 200 5 25 26 201 202
def c0_28:=m1 27 24 q58 194
def c0_30:=Obj.mk y3 none (Data.dict (A [de P q57 203 (vs q58 194),de P q60 207 (vi 5 206),de P q61 208 (vr 29),de P q62 210 (vr 32),de P q5 211 vn]) 3) E
def c0_31:=Obj.mk y9 none (Data.cls (ClassData.mk q14 [y6] [vr 31,y6,y10,y11,y12] 30 q14 true [] [vr 44,vr 56,vr 75] false none false)) (A [sr 22,none,some (vs q14 196),some (vs q14 204),some y13,some vT])
def m7(x0:Nat)(x1:Nat):=Obj.mk y14 none (Data.fields (A [vs q62 x0,vr x1,y15,vn])) E
def c0_32:=m7 209 31
def m8(x0:Nat):=Obj.mk y16 none (Data.fields (A [vr x0,vr x0,vr x0])) E
def c0_33:=m8 31
def m9(x0:Nat):=Obj.mk y7 none (Data.fields (A [y17,vr x0])) E
def c0_34:=m9 31
def m10(x0:Nat):=Obj.mk y0 none (Data.seq (A [vr x0]) 0) E
def c0_35:=m10 31
def c0_37:=m6 P 221 223 q15 222 225 7 224 226 42
def c0_40:=m0 q15 216 217 218 7 38 39 219 220
def c0_41:=m1 40 37 q58 194
def c0_43:=Obj.mk y3 none (Data.dict (A [de P q57 221 (vs q58 194),de P q60 225 (vi 7 224),de P q61 226 (vr 42),de P q5 227 vn]) 2) E
def c0_44:=Obj.mk y9 none (Data.cls (ClassData.mk q15 [vr 31] [vr 44,vr 31,y6,y10,y11,y12] 43 q15 true [] [] false none false)) (A [sr 35,none,some (vs q15 214),some (vs q15 222),some y13,some vT])
def c0_45:=m8 44
def c0_46:=m9 44
def c0_49:=m6 P 237 239 q16 238 241 9 240 242 54
def c0_52:=m0 q16 232 233 234 9 50 51 235 236
def c0_53:=m1 52 49 q58 194
def c0_55:=Obj.mk y3 none (Data.dict (A [de P q57 237 (vs q58 194),de P q60 241 (vi 9 240),de P q61 242 (vr 54),de P q5 243 vn]) 2) E
def c0_56:=Obj.mk y9 none (Data.cls (ClassData.mk q16 [vr 31] [vr 56,vr 31,y6,y10,y11,y12] 55 q16 true [] [] false none false)) (A [sr 47,none,some (vs q16 230),some (vs q16 238),some y13,some vT])
def c0_57:=m8 56
def c0_58:=m9 56
def c0_61:=Obj.mk y3 none (Data.dict (A [de P q57 253 (vs q58 194),de P q59 255 (vs q17 254),de P q60 257 (vi 11 256),de P q63 265 (vr 72),de P q61 267 (vr 73)]) 5) E
def c0_63:=Obj.mk vn none (Data.fields (A [vi 13 0,vi 4 0,vr 71])) E
def c0_64:=m0 q17 248 249 250 11 62 63 251 252
def c0_65:=m1 64 61 q58 194
def m11(x0:Str)(x1:Nat)(x2:Str)(x3:Nat):=Obj.mk y0 none (Data.seq (A [vs x0 x1,vs x2 x3]) 0) E
def c0_68:=m11 q64 261 q65 262
def c0_70:=m3 q63 q66 (M 5 0)
def c0_71:=m4 q63 258 q66 259 260 13 2 66 67 68 69 70 263 264
def c0_72:=m5 q63 q66 (M 5 0) q58 194 71
def c0_73:=m2 q65 266
def c0_74:=Obj.mk y3 none (Data.dict (A [de P q57 253 (vs q58 194),de P q60 257 (vi 11 256),de P q63 265 (vr 72),de P q61 267 (vr 73),de P q5 268 vn]) 2) E
def c0_75:=Obj.mk y9 none (Data.cls (ClassData.mk q17 [vr 31] [vr 75,vr 31,y6,y10,y11,y12] 74 q17 true [] [] false none false)) (A [sr 59,none,some (vs q17 246),some (vs q17 254),some y13,some vT])
def c0_76:=m8 75
def c0_77:=m9 75
def c0_80:=m2 q67 292
def c0_82:=m3 q26 q26 (B 15)
def c0_83:=m4 q26 289 q26 290 291 24 1 78 79 80 81 82 293 294
def c0_84:=m5 q26 q26 (B 15) q68 271 83
def c0_87:=m3 q27 q27 (B 16)
def m12(x0:Str)(x1:Nat)(x2:Str)(x3:Nat)(x4:Nat)(x5:Int)(x6:Int)(x7:Nat)(x8:Nat)(x9:Nat)(x10:Int)(x11:Nat):=Obj.mk y1 none (Data.fields (A [vs x0 x1,vs x2 x3,vs q1 x4,vi x5 0,vi x6 0,vi 0 0,vi 0 0,vi 3 0,vr x7,vT,vi 181 0,vr x8,vn,vn,vn,vr x9,vi x10 0,vi x5 0,vs q1 x11])) E
def c0_88:=m12 q27 296 q27 297 298 26 1 85 86 87 299 300
def c0_89:=m5 q27 q27 (B 16) q68 271 88
def c0_92:=m3 q28 q28 (B 17)
def c0_93:=m12 q28 302 q28 303 304 32 1 90 91 92 305 306
def c0_94:=m5 q28 q28 (B 17) q68 271 93
def c0_97:=m11 q69 311 q70 312
def c0_99:=m3 q29 q29 (B 18)
def c0_100:=m4 q29 308 q29 309 310 42 1 95 96 97 98 99 313 314
def c0_101:=m5 q29 q29 (B 18) q68 271 100
def c0_104:=Obj.mk y3 none (Data.dict (A [de P q57 323 (vs q68 271),de P q59 325 (vs q30 324),de P q60 327 (vi 45 326),de P q63 335 (vr 115),de P q71 343 (vr 122),de P q72 352 (vr 129),de P q73 361 (vr 136),de P q74 369 (vr 143),de P q44 378 (vr 150),de P q75 388 (vr 157),de P q61 391 (vr 158)]) 11) E
def c0_106:=Obj.mk vn none (Data.fields (A [vi 47 0,vi 4 0,vr 114,vi 51 0,vi 4 0,vr 121,vi 57 0,vi 4 0,vr 128,vi 67 0,vi 4 0,vr 135,vi 81 0,vi 4 0,vr 142,vi 87 0,vi 4 0,vr 149,vi 100 0,vi 4 0,vr 156])) E
def c0_107:=m0 q30 318 319 320 45 105 106 321 322
def c0_108:=m1 107 104 q68 271
def c0_111:=m11 q64 331 q76 332
def c0_113:=m3 q63 q77 (M 19 0)
def c0_114:=m4 q63 328 q77 329 330 47 2 109 110 111 112 113 333 334
def c0_115:=m5 q63 q77 (M 19 0) q68 271 114
def c0_118:=m11 q64 339 q69 340
def c0_120:=m3 q71 q78 (M 19 1)
def c0_121:=m4 q71 336 q78 337 338 51 2 116 117 118 119 120 341 342
def c0_122:=m5 q71 q78 (M 19 1) q68 271 121
def m13(x0:Str)(x1:Nat)(x2:Str)(x3:Nat)(x4:Str)(x5:Nat):=Obj.mk y0 none (Data.seq (A [vs x0 x1,vs x2 x3,vs x4 x5]) 0) E
def c0_125:=m13 q64 347 q79 348 q70 349
def c0_127:=m3 q72 q80 (M 19 2)
def c0_128:=m4 q72 344 q80 345 346 57 2 123 124 125 126 127 350 351
def c0_129:=m5 q72 q80 (M 19 2) q68 271 128
def c0_132:=m13 q64 356 q79 357 q81 358
def c0_134:=m3 q73 q82 (M 19 3)
def c0_135:=m4 q73 353 q82 354 355 67 2 130 131 132 133 134 359 360
def c0_136:=m5 q73 q82 (M 19 3) q68 271 135
def c0_139:=m11 q64 365 q70 366
def c0_141:=m3 q74 q83 (M 19 4)
def c0_142:=m4 q74 362 q83 363 364 81 1 137 138 139 140 141 367 368
def c0_143:=m5 q74 q83 (M 19 4) q68 271 142
def c0_146:=m13 q64 373 q84 374 q85 375
def c0_148:=m3 q44 q86 (M 19 5)
def c0_149:=m4 q44 370 q86 371 372 87 1 144 145 146 147 148 376 377
def c0_150:=m5 q44 q86 (M 19 5) q68 271 149
def m14(x0:Str)(x1:Nat)(x2:Str)(x3:Nat)(x4:Str)(x5:Nat)(x6:Str)(x7:Nat):=Obj.mk y0 none (Data.seq (A [vs x0 x1,vs x2 x3,vs x4 x5,vs x6 x7]) 0) E
def c0_153:=m14 q64 382 q87 383 q88 384 q89 385
def c0_155:=m3 q75 q90 (M 19 6)
def c0_156:=m4 q75 379 q90 380 381 100 2 151 152 153 154 155 386 387
def c0_157:=m5 q75 q90 (M 19 6) q68 271 156
def c0_158:=m11 q91 389 q76 390
def c0_159:=Obj.mk y3 none (Data.dict (A [de P q57 323 (vs q68 271),de P q60 327 (vi 45 326),de P q63 335 (vr 115),de P q71 343 (vr 122),de P q72 352 (vr 129),de P q73 361 (vr 136),de P q74 369 (vr 143),de P q44 378 (vr 150),de P q75 388 (vr 157),de P q61 391 (vr 158),de P q92 393 (vr 161),de P q62 395 (vr 162),de P q5 396 vn]) 4) E
def c0_160:=Obj.mk y9 none (Data.cls (ClassData.mk q30 [y12] [vr 160,y12] 159 q30 true [] [] false none false)) (A [none,none,some (vs q30 316),some (vs q30 324),some y18,some vT])
def m15(x0:Nat)(x1:Nat):=Obj.mk y14 none (Data.fields (A [vs q92 x0,vr x1,y19,y20])) E
def c0_161:=m15 392 160
def c0_162:=m7 394 160
def c0_163:=m8 160
def c0_164:=m9 160
def c0_165:=Obj.mk y3 none (Data.dict (A [de P q93 403 (vs q94 404),de P q95 405 (vs q94 406),de P q96 407 (vs q97 408),de P q98 409 (vs q94 410),de P q99 411 (vs q100 412),de P q101 413 (vs q102 414),de P q103 415 (vs q102 416)]) 7) E
def c0_168:=Obj.mk y3 none (Data.dict (A [de P q57 432 (vs q104 399),de P q59 434 (vs q33 433),de P q60 436 (vi 112 435),de P q105 443 (vr 179),de P q106 450 (vr 186),de P q107 459 (vr 193),de P q108 467 (vr 200),de P q109 474 (vr 207),de P q110 481 (vr 214),de P q61 482 (vr 215)]) 10) E
def c0_170:=Obj.mk vn none (Data.fields (A [vi 114 0,vi 4 0,vr 178,vi 117 0,vi 4 0,vr 185,vi 120 0,vi 4 0,vr 192,vi 123 0,vi 4 0,vr 199,vi 126 0,vi 4 0,vr 206,vi 129 0,vi 4 0,vr 213])) E
def c0_171:=m0 q33 427 428 429 112 169 170 430 431
def c0_172:=m1 171 168 q104 399
def c0_175:=m2 q64 440
def c0_177:=m3 q105 q111 (M 23 0)
def c0_178:=m4 q105 437 q111 438 439 114 1 173 174 175 176 177 441 442
def c0_179:=m5 q105 q111 (M 23 0) q104 399 178
def c0_182:=m2 q64 447
def c0_184:=m3 q106 q112 (M 23 1)
def c0_185:=m4 q106 444 q112 445 446 117 1 180 181 182 183 184 448 449
def c0_186:=m5 q106 q112 (M 23 1) q104 399 185
def c0_189:=m13 q64 454 q113 455 q114 456
def c0_191:=m3 q107 q115 (M 23 2)
def c0_192:=m4 q107 451 q115 452 453 120 3 187 188 189 190 191 457 458
def c0_193:=m5 q107 q115 (M 23 2) q104 399 192
def c0_196:=m11 q64 463 q114 464
def c0_198:=m3 q108 q116 (M 23 3)
def c0_199:=m4 q108 460 q116 461 462 123 2 194 195 196 197 198 465 466
def c0_200:=m5 q108 q116 (M 23 3) q104 399 199
def c0_203:=m2 q64 471
def c0_205:=m3 q109 q117 (M 23 4)
def c0_206:=m4 q109 468 q117 469 470 126 1 201 202 203 204 205 472 473
def c0_207:=m5 q109 q117 (M 23 4) q104 399 206
def c0_210:=m2 q64 478
def c0_212:=m3 q110 q118 (M 23 5)
def c0_213:=m4 q110 475 q118 476 477 129 1 208 209 210 211 212 479 480
def c0_214:=m5 q110 q118 (M 23 5) q104 399 213
def c0_216:=Obj.mk y3 none (Data.dict (A [de P q57 432 (vs q104 399),de P q60 436 (vi 112 435),de P q105 443 (vr 179),de P q106 450 (vr 186),de P q107 459 (vr 193),de P q108 467 (vr 200),de P q109 474 (vr 207),de P q110 481 (vr 214),de P q61 482 (vr 215),de P q92 484 (vr 218),de P q62 486 (vr 219),de P q5 487 vn]) 4) E
def c0_217:=Obj.mk y9 none (Data.cls (ClassData.mk q33 [y12] [vr 217,y12] 216 q33 true [] [vr 245,vr 356,vr 476,vr 509] false none false)) (A [none,none,some (vs q33 425),some (vs q33 433),some y18,some vT])
def c0_218:=m15 483 217
def c0_219:=m7 485 217
def c0_220:=m8 217
def c0_221:=m9 217
def c0_222:=m10 217
def c0_224:=Obj.mk y3 none (Data.dict (A [de P q57 497 (vs q104 399),de P q59 499 (vs q34 498),de P q60 501 (vi 131 500),de P q63 510 (vr 235),de P q105 517 (vr 242),de P q61 520 (vr 243)]) 6) E
def c0_226:=Obj.mk vn none (Data.fields (A [vi 133 0,vi 4 0,vr 234,vi 137 0,vi 4 0,vr 241])) E
def c0_227:=m0 q34 492 493 494 131 225 226 495 496
def c0_228:=m1 227 224 q104 399
def c0_231:=m13 q64 505 q119 506 q120 507
def c0_233:=m3 q63 q121 (M 24 0)
def c0_234:=m4 q63 502 q121 503 504 133 3 229 230 231 232 233 508 509
def c0_235:=m5 q63 q121 (M 24 0) q104 399 234
def c0_238:=m2 q64 514
def c0_240:=m3 q105 q122 (M 24 1)
def c0_241:=m4 q105 511 q122 512 513 137 1 236 237 238 239 240 515 516
def c0_242:=m5 q105 q122 (M 24 1) q104 399 241
def c0_243:=m11 q120 518 q119 519
def c0_244:=Obj.mk y3 none (Data.dict (A [de P q57 497 (vs q104 399),de P q60 501 (vi 131 500),de P q63 510 (vr 235),de P q105 517 (vr 242),de P q61 520 (vr 243),de P q5 521 vn]) 2) E
def c0_245:=Obj.mk y9 none (Data.cls (ClassData.mk q34 [vr 217] [vr 245,vr 217,y12] 244 q34 true [] [vr 278,vr 311,vr 396,vr 443] false none false)) (A [sr 222,none,some (vs q34 490),some (vs q34 498),some y18,some vT])
def c0_246:=m8 245
def c0_247:=m9 245
def c0_248:=m10 245
def m16(x0:Nat)(x1:Nat)(x2:Str)(x3:Nat)(x4:Nat)(x5:Int)(x6:Nat)(x7:Str)(x8:Nat)(x9:Nat)(x10:Nat)(x11:Nat)(x12:Nat)(x13:Nat)(x14:Nat)(x15:Nat):=Obj.mk y3 none (Data.dict (A [de P q57 x0 (vs q104 399),de P q59 x1 (vs x2 x3),de P q60 x4 (vi x5 x6),de P x7 x8 (vr x9),de P q107 x10 (vr x11),de P q110 x12 (vr x13),de P q61 x14 (vr x15)]) 7) E
def c0_250:=m16 P 531 533 q35 532 535 139 534 q106 542 261 551 268 558 275 559 276
def m17(x0:Int)(x1:Nat)(x2:Int)(x3:Nat)(x4:Int)(x5:Nat):=Obj.mk vn none (Data.fields (A [vi x0 0,vi 4 0,vr x1,vi x2 0,vi 4 0,vr x3,vi x4 0,vi 4 0,vr x5])) E
def c0_252:=m17 141 260 144 267 147 274
def c0_253:=m0 q35 526 527 528 139 251 252 529 530
def c0_254:=m1 253 250 q104 399
def c0_257:=m2 q64 539
def c0_259:=m3 q106 q123 (M 25 0)
def c0_260:=m4 q106 536 q123 537 538 141 1 255 256 257 258 259 540 541
def c0_261:=m5 q106 q123 (M 25 0) q104 399 260
def c0_264:=m13 q64 546 q113 547 q114 548
def c0_266:=m3 q107 q124 (M 25 1)
def c0_267:=m4 q107 543 q124 544 545 144 3 262 263 264 265 266 549 550
def c0_268:=m5 q107 q124 (M 25 1) q104 399 267
def c0_271:=m2 q64 555
def c0_273:=m3 q110 q125 (M 25 2)
def c0_274:=m4 q110 552 q125 553 554 147 1 269 270 271 272 273 556 557
def c0_275:=m5 q110 q125 (M 25 2) q104 399 274
def m18(x0:Nat)(x1:Nat)(x2:Int)(x3:Nat)(x4:Str)(x5:Nat)(x6:Nat)(x7:Nat)(x8:Nat)(x9:Nat)(x10:Nat)(x11:Nat)(x12:Nat)(x13:Nat):=Obj.mk y3 none (Data.dict (A [de P q57 x0 (vs q104 399),de P q60 x1 (vi x2 x3),de P x4 x5 (vr x6),de P q107 x7 (vr x8),de P q110 x9 (vr x10),de P q61 x11 (vr x12),de P q5 x13 vn]) 2) E
def c0_277:=m18 P 531 535 139 534 q106 542 261 551 268 558 275 559 276 560
def c0_278:=Obj.mk y9 none (Data.cls (ClassData.mk q35 [vr 245] [vr 278,vr 245,vr 217,y12] 277 q35 true [] [] false none false)) (A [sr 248,none,some (vs q35 524),some (vs q35 532),some y18,some vT])
def c0_279:=m8 278
def c0_280:=m9 278
def c0_283:=m16 P 570 572 q36 571 574 149 573 q106 581 294 590 301 597 308 598 309
def c0_285:=m17 151 293 154 300 157 307
def c0_286:=m0 q36 565 566 567 149 284 285 568 569
def c0_287:=m1 286 283 q104 399
def c0_290:=m2 q64 578
def c0_292:=m3 q106 q126 (M 26 0)
def c0_293:=m4 q106 575 q126 576 577 151 1 288 289 290 291 292 579 580
def c0_294:=m5 q106 q126 (M 26 0) q104 399 293
def c0_297:=m13 q64 585 q113 586 q114 587
def c0_299:=m3 q107 q127 (M 26 1)
def c0_300:=m4 q107 582 q127 583 584 154 3 295 296 297 298 299 588 589
def c0_301:=m5 q107 q127 (M 26 1) q104 399 300
def c0_304:=m2 q64 594
def c0_306:=m3 q110 q128 (M 26 2)
def c0_307:=m4 q110 591 q128 592 593 157 1 302 303 304 305 306 595 596
def c0_308:=m5 q110 q128 (M 26 2) q104 399 307
def c0_310:=m18 P 570 574 149 573 q106 581 294 590 301 597 308 598 309 599
def c0_311:=Obj.mk y9 none (Data.cls (ClassData.mk q36 [vr 245] [vr 311,vr 245,vr 217,y12] 310 q36 true [] [] false none false)) (A [sr 281,none,some (vs q36 563),some (vs q36 571),some y18,some vT])
def c0_312:=m8 311
def c0_313:=m9 311
def c0_316:=Obj.mk y3 none (Data.dict (A [de P q57 609 (vs q104 399),de P q59 611 (vs q37 610),de P q60 613 (vi 159 612),de P q63 623 (vr 327),de P q105 630 (vr 334),de P q106 637 (vr 341),de P q107 643 (vr 346),de P q110 650 (vr 353),de P q61 654 (vr 354)]) 9) E
def m19(x0:Int)(x1:Nat)(x2:Int)(x3:Nat)(x4:Int)(x5:Nat)(x6:Int)(x7:Nat)(x8:Int)(x9:Nat):=Obj.mk vn none (Data.fields (A [vi x0 0,vi 4 0,vr x1,vi x2 0,vi 4 0,vr x3,vi x4 0,vi 4 0,vr x5,vi x6 0,vi 4 0,vr x7,vi x8 0,vi 4 0,vr x9])) E
def c0_318:=m19 161 326 166 333 169 340 172 345 175 352
def c0_319:=m0 q37 604 605 606 159 317 318 607 608
def c0_320:=m1 319 316 q104 399
def c0_323:=m14 q64 617 q119 618 q129 619 q130 620
def c0_325:=m3 q63 q131 (M 27 0)
def c0_326:=m4 q63 614 q131 615 616 161 4 321 322 323 324 325 621 622
def c0_327:=m5 q63 q131 (M 27 0) q104 399 326
def c0_330:=m2 q64 627
def c0_332:=m3 q105 q132 (M 27 1)
def c0_333:=m4 q105 624 q132 625 626 166 1 328 329 330 331 332 628 629
def c0_334:=m5 q105 q132 (M 27 1) q104 399 333
def c0_337:=m2 q64 634
def c0_339:=m3 q106 q133 (M 27 2)
def c0_340:=m4 q106 631 q133 632 633 169 1 335 336 337 338 339 635 636
def c0_341:=m5 q106 q133 (M 27 2) q104 399 340
def c0_344:=m3 q107 q134 (M 27 3)
def c0_345:=m12 q107 638 q134 639 640 172 3 342 343 344 641 642
def c0_346:=m5 q107 q134 (M 27 3) q104 399 345
def c0_349:=m2 q64 647
def c0_351:=m3 q110 q135 (M 27 4)
def c0_352:=m4 q110 644 q135 645 646 175 1 347 348 349 350 351 648 649
def c0_353:=m5 q110 q135 (M 27 4) q104 399 352
def c0_354:=m13 q130 651 q129 652 q119 653
def c0_355:=Obj.mk y3 none (Data.dict (A [de P q57 609 (vs q104 399),de P q60 613 (vi 159 612),de P q63 623 (vr 327),de P q105 630 (vr 334),de P q106 637 (vr 341),de P q107 643 (vr 346),de P q110 650 (vr 353),de P q61 654 (vr 354),de P q5 655 vn]) 2) E
def c0_356:=Obj.mk y9 none (Data.cls (ClassData.mk q37 [vr 217] [vr 356,vr 217,y12] 355 q37 true [] [] false none false)) (A [sr 314,none,some (vs q37 602),some (vs q37 610),some y18,some vT])
def c0_357:=m8 356
def c0_358:=m9 356
def c0_361:=Obj.mk y3 none (Data.dict (A [de P q57 665 (vs q104 399),de P q59 667 (vs q38 666),de P q60 669 (vi 177 668),de P q106 676 (vr 372),de P q107 685 (vr 379),de P q109 692 (vr 386),de P q110 699 (vr 393),de P q61 700 (vr 394)]) 8) E
def c0_363:=Obj.mk vn none (Data.fields (A [vi 179 0,vi 4 0,vr 371,vi 182 0,vi 4 0,vr 378,vi 185 0,vi 4 0,vr 385,vi 188 0,vi 4 0,vr 392])) E
def c0_364:=m0 q38 660 661 662 177 362 363 663 664
def c0_365:=m1 364 361 q104 399
def c0_368:=m2 q64 673
def c0_370:=m3 q106 q136 (M 28 0)
def c0_371:=m4 q106 670 q136 671 672 179 1 366 367 368 369 370 674 675
def c0_372:=m5 q106 q136 (M 28 0) q104 399 371
def c0_375:=m13 q64 680 q113 681 q114 682
def c0_377:=m3 q107 q137 (M 28 1)
def c0_378:=m4 q107 677 q137 678 679 182 3 373 374 375 376 377 683 684
def c0_379:=m5 q107 q137 (M 28 1) q104 399 378
def c0_382:=m2 q64 689
def c0_384:=m3 q109 q138 (M 28 2)
def c0_385:=m4 q109 686 q138 687 688 185 1 380 381 382 383 384 690 691
def c0_386:=m5 q109 q138 (M 28 2) q104 399 385
def c0_389:=m2 q64 696
def c0_391:=m3 q110 q139 (M 28 3)
def c0_392:=m4 q110 693 q139 694 695 188 1 387 388 389 390 391 697 698
def c0_393:=m5 q110 q139 (M 28 3) q104 399 392
def c0_395:=Obj.mk y3 none (Data.dict (A [de P q57 665 (vs q104 399),de P q60 669 (vi 177 668),de P q106 676 (vr 372),de P q107 685 (vr 379),de P q109 692 (vr 386),de P q110 699 (vr 393),de P q61 700 (vr 394),de P q5 701 vn]) 2) E
def c0_396:=Obj.mk y9 none (Data.cls (ClassData.mk q38 [vr 245] [vr 396,vr 245,vr 217,y12] 395 q38 true [] [] false none false)) (A [sr 359,none,some (vs q38 658),some (vs q38 666),some y18,some vT])
def c0_397:=m8 396
def c0_398:=m9 396
def c0_401:=Obj.mk y3 none (Data.dict (A [de P q57 711 (vs q104 399),de P q59 713 (vs q39 712),de P q60 715 (vi 190 714),de P q63 725 (vr 412),de P q106 732 (vr 419),de P q107 741 (vr 426),de P q108 749 (vr 433),de P q110 756 (vr 440),de P q61 758 (vr 441)]) 9) E
def c0_403:=m19 192 411 196 418 199 425 202 432 205 439
def c0_404:=m0 q39 706 707 708 190 402 403 709 710
def c0_405:=m1 404 401 q104 399
def c0_408:=m14 q64 719 q119 720 q120 721 q140 722
def c0_410:=m3 q63 q141 (M 29 0)
def c0_411:=m4 q63 716 q141 717 718 192 4 406 407 408 409 410 723 724
def c0_412:=m5 q63 q141 (M 29 0) q104 399 411
def c0_415:=m2 q64 729
def c0_417:=m3 q106 q142 (M 29 1)
def c0_418:=m4 q106 726 q142 727 728 196 1 413 414 415 416 417 730 731
def c0_419:=m5 q106 q142 (M 29 1) q104 399 418
def c0_422:=m13 q64 736 q113 737 q114 738
def c0_424:=m3 q107 q143 (M 29 2)
def c0_425:=m4 q107 733 q143 734 735 199 3 420 421 422 423 424 739 740
def c0_426:=m5 q107 q143 (M 29 2) q104 399 425
def c0_429:=m11 q64 745 q114 746
def c0_431:=m3 q108 q144 (M 29 3)
def c0_432:=m4 q108 742 q144 743 744 202 2 427 428 429 430 431 747 748
def c0_433:=m5 q108 q144 (M 29 3) q104 399 432
def c0_436:=m2 q64 753
def c0_438:=m3 q110 q145 (M 29 4)
def c0_439:=m4 q110 750 q145 751 752 205 1 434 435 436 437 438 754 755
def c0_440:=m5 q110 q145 (M 29 4) q104 399 439
def c0_441:=m2 q140 757
def c0_442:=Obj.mk y3 none (Data.dict (A [de P q57 711 (vs q104 399),de P q60 715 (vi 190 714),de P q63 725 (vr 412),de P q106 732 (vr 419),de P q107 741 (vr 426),de P q108 749 (vr 433),de P q110 756 (vr 440),de P q61 758 (vr 441),de P q5 759 vn]) 2) E
def c0_443:=Obj.mk y9 none (Data.cls (ClassData.mk q39 [vr 245] [vr 443,vr 245,vr 217,y12] 442 q39 true [] [] false none false)) (A [sr 399,none,some (vs q39 704),some (vs q39 712),some y18,some vT])
def c0_444:=m8 443
def c0_445:=m9 443
def c0_448:=m16 P 769 771 q40 770 773 207 772 q63 781 459 790 466 797 473 799 474
def c0_450:=m17 209 458 212 465 215 472
def c0_451:=m0 q40 764 765 766 207 449 450 767 768
def c0_452:=m1 451 448 q104 399
def c0_455:=m11 q64 777 q140 778
def c0_457:=m3 q63 q146 (M 30 0)
def c0_458:=m4 q63 774 q146 775 776 209 2 453 454 455 456 457 779 780
def c0_459:=m5 q63 q146 (M 30 0) q104 399 458
def c0_462:=m13 q64 785 q113 786 q114 787
def c0_464:=m3 q107 q147 (M 30 1)
def c0_465:=m4 q107 782 q147 783 784 212 3 460 461 462 463 464 788 789
def c0_466:=m5 q107 q147 (M 30 1) q104 399 465
def c0_469:=m2 q64 794
def c0_471:=m3 q110 q148 (M 30 2)
def c0_472:=m4 q110 791 q148 792 793 215 1 467 468 469 470 471 795 796
def c0_473:=m5 q110 q148 (M 30 2) q104 399 472
def c0_474:=m2 q140 798
def c0_475:=m18 P 769 773 207 772 q63 781 459 790 466 797 473 799 474 800
def c0_476:=Obj.mk y9 none (Data.cls (ClassData.mk q40 [vr 217] [vr 476,vr 217,y12] 475 q40 true [] [] false none false)) (A [sr 446,none,some (vs q40 762),some (vs q40 770),some y18,some vT])
def c0_477:=m8 476
def c0_478:=m9 476
def c0_481:=m16 P 810 812 q41 811 814 217 813 q63 822 492 831 499 838 506 840 507
def c0_483:=m17 219 491 222 498 227 505
def c0_484:=m0 q41 805 806 807 217 482 483 808 809
def c0_485:=m1 484 481 q104 399
def c0_488:=m11 q64 818 q140 819
def c0_490:=m3 q63 q149 (M 31 0)
def c0_491:=m4 q63 815 q149 816 817 219 2 486 487 488 489 490 820 821
def c0_492:=m5 q63 q149 (M 31 0) q104 399 491
def c0_495:=m13 q64 826 q113 827 q114 828
def c0_497:=m3 q107 q150 (M 31 1)
def c0_498:=m4 q107 823 q150 824 825 222 3 493 494 495 496 497 829 830
def c0_499:=m5 q107 q150 (M 31 1) q104 399 498
def c0_502:=m2 q64 835
def c0_504:=m3 q110 q151 (M 31 2)
def c0_505:=m4 q110 832 q151 833 834 227 1 500 501 502 503 504 836 837
def c0_506:=m5 q110 q151 (M 31 2) q104 399 505
def c0_507:=m2 q140 839
def c0_508:=m18 P 810 814 217 813 q63 822 492 831 499 838 506 840 507 841
def c0_509:=Obj.mk y9 none (Data.cls (ClassData.mk q41 [vr 217] [vr 509,vr 217,y12] 508 q41 true [] [] false none false)) (A [sr 479,none,some (vs q41 803),some (vs q41 811),some y18,some vT])
def c0_510:=m8 509
def c0_511:=m9 509
def c0_514:=m3 q42 q42 (B 32)
def c0_515:=m12 q42 844 q42 845 846 229 2 512 513 514 847 848
def c0_516:=m5 q42 q42 (B 32) q104 399 515
def c0_519:=m3 q43 q43 (B 33)
def c0_520:=m12 q43 850 q43 851 852 231 1 517 518 519 853 854
def c0_521:=m5 q43 q43 (B 33) q104 399 520
def c0_524:=m13 q152 859 q153 860 q70 861
def c0_526:=m3 q44 q44 (B 34)
def c0_527:=m4 q44 856 q44 857 858 237 2 522 523 524 525 526 862 863
def c0_528:=m5 q44 q44 (B 34) q104 399 527
def c0_531:=m11 q152 868 q154 869
def c0_533:=m3 q45 q45 (B 35)
def c0_534:=m4 q45 865 q45 866 867 247 2 529 530 531 532 533 870 871
def c0_535:=m5 q45 q45 (B 35) q104 399 534
def c0_538:=m13 q119 876 q129 877 q130 878
def c0_540:=m3 q46 q46 (B 36)
def c0_541:=m4 q46 873 q46 874 875 261 3 536 537 538 539 540 879 880
def c0_542:=m5 q46 q46 (B 36) q104 399 541
def c0_543:=m11 q155 884 q156 885
def c0_546:=Obj.mk y3 none (Data.dict (A [de P q57 896 (vs q157 882),de P q59 898 (vs q49 897),de P q60 900 (vi 268 899),de P q63 909 (vr 557),de P q110 915 (vr 562),de P q61 919 (vr 563)]) 6) E
def c0_548:=Obj.mk vn none (Data.fields (A [vi 270 0,vi 4 0,vr 556,vi 275 0,vi 4 0,vr 561])) E
def c0_549:=m0 q49 891 892 893 268 547 548 894 895
def c0_550:=m1 549 546 q157 882
def c0_553:=m13 q64 904 q158 905 q159 906
def c0_555:=m3 q63 q160 (M 40 0)
def c0_556:=m4 q63 901 q160 902 903 270 3 551 552 553 554 555 907 908
def c0_557:=m5 q63 q160 (M 40 0) q157 882 556
def c0_560:=m3 q110 q161 (M 40 1)
def c0_561:=m12 q110 910 q161 911 912 275 1 558 559 560 913 914
def c0_562:=m5 q110 q161 (M 40 1) q157 882 561
def c0_563:=m13 q158 916 q81 917 q159 918
def c0_564:=Obj.mk y3 none (Data.dict (A [de P q57 896 (vs q157 882),de P q60 900 (vi 268 899),de P q63 909 (vr 557),de P q110 915 (vr 562),de P q61 919 (vr 563),de P q92 921 (vr 566),de P q62 923 (vr 567),de P q5 924 vn]) 4) E
def c0_565:=Obj.mk y9 none (Data.cls (ClassData.mk q49 [y12] [vr 565,y12] 564 q49 true [] [] false none false)) (A [none,none,some (vs q49 889),some (vs q49 897),some y18,some vT])
def c0_566:=m15 920 565
def c0_567:=m7 922 565
def c0_568:=m8 565
def c0_569:=m9 565
def c0_572:=m3 q50 q50 (B 41)
def c0_573:=m12 q50 927 q50 928 929 277 1 570 571 572 930 931
def c0_574:=m5 q50 q50 (B 41) q157 882 573
def c0_577:=m11 q76 936 q70 937
def c0_579:=m3 q51 q51 (B 42)
def c0_580:=m4 q51 933 q51 934 935 285 2 575 576 577 578 579 938 939
def c0_581:=m5 q51 q51 (B 42) q157 882 580
def c0_584:=m3 q52 q52 (B 43)
def c0_585:=m12 q52 941 q52 942 943 290 1 582 583 584 944 945
def c0_586:=m5 q52 q52 (B 43) q157 882 585
def c0_589:=m11 q162 950 q56 951
def c0_591:=m3 q53 q53 (B 44)
def c0_592:=m4 q53 947 q53 948 949 292 1 587 588 589 590 591 952 953
def c0_593:=m5 q53 q53 (B 44) q157 882 592
def c0_596:=Obj.mk y3 none (Data.dict (A [de P q57 966 (vs q4 955),de P q59 968 (vs q55 967),de P q60 970 (vi 299 969),de P q63 979 (vr 607),de P q163 987 (vr 614),de P q164 995 (vr 621),de P q165 1004 (vr 628),de P q166 1015 (vr 635),de P q167 1023 (vr 642),de P q168 1031 (vr 649),de P q169 1039 (vr 656),de P q170 1047 (vr 663),de P q171 1055 (vr 670),de P q172 1062 (vr 677),de P q173 1069 (vr 684),de P q174 1080 (vr 691),de P q175 1088 (vr 698),de P q61 1096 (vr 699)]) 18) E
def c0_598:=Obj.mk vn none (Data.fields (A [vi 301 0,vi 4 0,vr 606,vi 310 0,vi 4 0,vr 613,vi 320 0,vi 4 0,vr 620,vi 327 0,vi 4 0,vr 627,vi 334 0,vi 4 0,vr 634,vi 337 0,vi 4 0,vr 641,vi 340 0,vi 4 0,vr 648,vi 343 0,vi 4 0,vr 655,vi 346 0,vi 4 0,vr 662,vi 350 0,vi 4 0,vr 669,vi 359 0,vi 4 0,vr 676,vi 364 0,vi 4 0,vr 683,vi 367 0,vi 4 0,vr 690,vi 372 0,vi 4 0,vr 697])) E
def c0_599:=m0 q55 961 962 963 299 597 598 964 965
def c0_600:=m1 599 596 q4 955
def c0_603:=m13 q64 974 q176 975 q162 976
def c0_605:=m3 q63 q177 (M 47 0)
def c0_606:=m4 q63 971 q177 972 973 301 3 601 602 603 604 605 977 978
def c0_607:=m5 q63 q177 (M 47 0) q4 955 606
def c0_610:=m11 q64 983 q178 984
def c0_612:=m3 q163 q179 (M 47 1)
def c0_613:=m4 q163 980 q179 981 982 310 2 608 609 610 611 612 985 986
def c0_614:=m5 q163 q179 (M 47 1) q4 955 613
def c0_617:=m11 q64 991 q178 992
def c0_619:=m3 q164 q180 (M 47 2)
def c0_620:=m4 q164 988 q180 989 990 320 2 615 616 617 618 619 993 994
def c0_621:=m5 q164 q180 (M 47 2) q4 955 620
def c0_624:=m13 q64 999 q178 1000 q181 1001
def c0_626:=m3 q165 q182 (M 47 3)
def c0_627:=m4 q165 996 q182 997 998 327 3 622 623 624 625 626 1002 1003
def c0_628:=m5 q165 q182 (M 47 3) q4 955 627
def m20(x0:Str)(x1:Nat)(x2:Str)(x3:Nat)(x4:Str)(x5:Nat)(x6:Str)(x7:Nat)(x8:Str)(x9:Nat):=Obj.mk y0 none (Data.seq (A [vs x0 x1,vs x2 x3,vs x4 x5,vs x6 x7,vs x8 x9]) 0) E
def c0_631:=m20 q64 1008 q178 1009 q152 1010 q183 1011 q184 1012
def c0_633:=m3 q166 q185 (M 47 4)
def c0_634:=m4 q166 1005 q185 1006 1007 334 5 629 630 631 632 633 1013 1014
def c0_635:=m5 q166 q185 (M 47 4) q4 955 634
def c0_638:=m11 q64 1019 q178 1020
def c0_640:=m3 q167 q186 (M 47 5)
def c0_641:=m4 q167 1016 q186 1017 1018 337 2 636 637 638 639 640 1021 1022
def c0_642:=m5 q167 q186 (M 47 5) q4 955 641
def c0_645:=m11 q64 1027 q178 1028
def c0_647:=m3 q168 q187 (M 47 6)
def c0_648:=m4 q168 1024 q187 1025 1026 340 2 643 644 645 646 647 1029 1030
def c0_649:=m5 q168 q187 (M 47 6) q4 955 648
def c0_652:=m11 q64 1035 q178 1036
def c0_654:=m3 q169 q188 (M 47 7)
def c0_655:=m4 q169 1032 q188 1033 1034 343 2 650 651 652 653 654 1037 1038
def c0_656:=m5 q169 q188 (M 47 7) q4 955 655
def c0_659:=m11 q64 1043 q181 1044
def c0_661:=m3 q170 q189 (M 47 8)
def c0_662:=m4 q170 1040 q189 1041 1042 346 2 657 658 659 660 661 1045 1046
def c0_663:=m5 q170 q189 (M 47 8) q4 955 662
def c0_666:=m11 q64 1051 q190 1052
def c0_668:=m3 q171 q191 (M 47 9)
def c0_669:=m4 q171 1048 q191 1049 1050 350 1 664 665 666 667 668 1053 1054
def c0_670:=m5 q171 q191 (M 47 9) q4 955 669
def c0_673:=m2 q64 1059
def c0_675:=m3 q172 q192 (M 47 10)
def c0_676:=m4 q172 1056 q192 1057 1058 359 1 671 672 673 674 675 1060 1061
def c0_677:=m5 q172 q192 (M 47 10) q4 955 676
def c0_680:=m2 q64 1066
def c0_682:=m3 q173 q193 (M 47 11)
def c0_683:=m4 q173 1063 q193 1064 1065 364 1 678 679 680 681 682 1067 1068
def c0_684:=m5 q173 q193 (M 47 11) q4 955 683
def c0_687:=m20 q64 1073 q178 1074 q152 1075 q70 1076 q76 1077
def c0_689:=m3 q174 q194 (M 47 12)
def c0_690:=m4 q174 1070 q194 1071 1072 367 3 685 686 687 688 689 1078 1079
def c0_691:=m5 q174 q194 (M 47 12) q4 955 690
def c0_694:=m11 q64 1084 q184 1085
def c0_696:=m3 q175 q195 (M 47 13)
def c0_697:=m4 q175 1081 q195 1082 1083 372 2 692 693 694 695 696 1086 1087
def c0_698:=m5 q175 q195 (M 47 13) q4 955 697
def c0_699:=Obj.mk y0 none (Data.seq (A [vs q196 1089,vs q197 1090,vs q198 1091,vs q176 1092,vs q199 1093,vs q159 1094,vs q200 1095]) 0) E
def c0_700:=Obj.mk y3 none (Data.dict (A [de P q57 966 (vs q4 955),de P q60 970 (vi 299 969),de P q63 979 (vr 607),de P q163 987 (vr 614),de P q164 995 (vr 621),de P q165 1004 (vr 628),de P q166 1015 (vr 635),de P q167 1023 (vr 642),de P q168 1031 (vr 649),de P q169 1039 (vr 656),de P q170 1047 (vr 663),de P q171 1055 (vr 670),de P q172 1062 (vr 677),de P q173 1069 (vr 684),de P q174 1080 (vr 691),de P q175 1088 (vr 698),de P q61 1096 (vr 699),de P q92 1098 (vr 702),de P q62 1100 (vr 703),de P q5 1101 vn]) 4) E
def c0_701:=Obj.mk y9 none (Data.cls (ClassData.mk q55 [y12] [vr 701,y12] 700 q55 true [] [] false none false)) (A [none,none,some (vs q55 959),some (vs q55 967),some y18,some vT])
def c0_702:=m15 1097 701
def c0_703:=m7 1099 701
def c0_704:=m8 701
def c0_705:=m9 701
def tc0_:=nd (boot_o_0 P) (nd (boot_o_1 P) (nd (c0_3 P) (nd (boot_o_7 P) (nd a11 (nd c0_31 (nd c0_63 (nd c0_127 (nd a11 (l1 c0_511) .nil) (nd a11 (l1 a11) .nil)) (nd c0_191 (nd c0_319 (l1 a11) .nil) (nd c0_23 (l1 c0_703) .nil))) (nd a11 (nd (c0_159 P) (nd c0_287 (l1 c0_543) .nil) (nd c0_415 (l1 a11) .nil)) (nd c0_23 (nd c0_351 (l1 c0_607) .nil) (l1 c0_222)))) (nd c0_35 (nd a12 (nd c0_143 (nd c0_271 (l1 c0_527) .nil) (nd c0_248 (l1 c0_655) .nil)) (nd c0_207 (nd a11 (l1 c0_591) .nil) (l1 a11))) (nd c0_111 (nd c0_175 (nd a12 (l1 a12) .nil) (nd c0_431 (l1 c0_687) .nil)) (nd a11 (nd a12 (l1 a12) .nil) (l1 c0_495))))) (nd c0_23 (nd a12 (nd c0_71 (nd c0_135 (nd a12 (l1 c0_519) .nil) (nd c0_391 (l1 c0_647) .nil)) (nd c0_199 (nd c0_327 (l1 a12) .nil) (l1 c0_455))) (nd c0_23 (nd c0_23 (nd a11 (l1 a11) .nil) (nd a11 (l1 a12) .nil)) (nd c0_231 (nd c0_248 (l1 a11) .nil) (l1 a12)))) (nd (c0_55 P) (nd c0_87 (nd a11 (nd c0_279 (l1 c0_535) .nil) (nd a12 (l1 c0_663) .nil)) (nd a11 (nd a12 (l1 c0_599) .nil) (l1 c0_471))) (nd a11 (nd a11 (nd c0_311 (l1 c0_567) .nil) (nd c0_439 (l1 a11) .nil)) (nd c0_247 (nd c0_375 (l1 c0_631) .nil) (l1 a11)))))) (nd a11 (nd c0_19 (nd c0_35 (nd a12 (nd a12 (nd c0_259 (l1 c0_515) .nil) (nd a11 (l1 a11) .nil)) (nd a12 (nd c0_323 (l1 c0_579) .nil) (l1 c0_451))) (nd c0_99 (nd c0_163 (nd a11 (l1 a11) .nil) (nd c0_419 (l1 c0_675) .nil)) (nd c0_227 (nd (c0_355 P) (l1 a11) .nil) (l1 c0_483)))) (nd a12 (nd c0_83 (nd a11 (nd c0_275 (l1 c0_531) .nil) (nd c0_403 (l1 c0_659) .nil)) (nd a11 (nd c0_339 (l1 c0_23) .nil) (l1 a11))) (nd c0_115 (nd c0_179 (nd c0_307 (l1 c0_563) .nil) (nd a12 (l1 c0_691) .nil)) (nd c0_243 (nd c0_371 (l1 c0_627) .nil) (l1 c0_499))))) (nd c0_27 (nd (c0_43 P) (nd c0_75 (nd c0_139 (nd c0_267 (l1 a12) .nil) (nd (c0_395 P) (l1 a12) .nil)) (nd c0_203 (nd a11 (l1 a11) .nil) (l1 c0_459))) (nd c0_107 (nd c0_171 (nd c0_299 (l1 c0_555) .nil) (nd a11 (l1 c0_683) .nil)) (nd c0_235 (nd c0_363 (l1 c0_619) .nil) (l1 c0_491)))) (nd c0_35 (nd a12 (nd c0_155 (nd (c0_283 P) (l1 a11) .nil) (nd c0_411 (l1 a11) .nil)) (nd c0_219 (nd a11 (l1 c0_603) .nil) (l1 (c0_475 P)))) (nd a11 (nd a11 (nd c0_23 (l1 a12) .nil) (nd c0_443 (l1 c0_699) .nil)) (nd a11 (nd c0_379 (l1 c0_635) .nil) (l1 c0_507))))))) (nd (boot_o_5 P) (nd (boot_o_9 P) (nd c0_17 (nd c0_33 (nd c0_65 (nd c0_129 (nd c0_257 (l1 a12) .nil) (nd c0_385 (l1 c0_641) .nil)) (nd c0_193 (nd a11 (l1 c0_577) .nil) (nd a11 (l1 c0_705) .nil))) (nd c0_97 (nd c0_161 (nd a12 (l1 c0_23) .nil) (nd c0_417 (l1 c0_673) .nil)) (nd a11 (nd c0_353 (l1 a12) .nil) (l1 (c0_481 P))))) (nd (c0_49 P) (nd a11 (nd a12 (nd c0_273 (l1 a11) .nil) (nd (c0_401 P) (l1 a11) .nil)) (nd a12 (nd c0_337 (l1 c0_593) .nil) (l1 c0_465))) (nd c0_113 (nd c0_177 (nd a11 (l1 c0_561) .nil) (nd c0_433 (l1 c0_689) .nil)) (nd c0_241 (nd a11 (l1 a11) .nil) (l1 c0_497))))) (nd a11 (nd c0_41 (nd c0_73 (nd a11 (nd a11 (l1 c0_521) .nil) (nd c0_393 (l1 c0_649) .nil)) (nd a11 (nd a12 (l1 c0_585) .nil) (l1 c0_457))) (nd a11 (nd a11 (nd c0_297 (l1 c0_553) .nil) (nd c0_425 (l1 a11) .nil)) (nd c0_233 (nd (c0_361 P) (l1 c0_617) .nil) (l1 a11)))) (nd c0_57 (nd c0_89 (nd c0_153 (nd c0_248 (l1 a12) .nil) (nd a11 (l1 a12) .nil)) (nd c0_217 (nd c0_345 (l1 a11) .nil) (l1 c0_473))) (nd c0_121 (nd c0_185 (nd c0_313 (l1 c0_569) .nil) (nd c0_441 (l1 c0_697) .nil)) (nd c0_23 (nd c0_377 (l1 c0_633) .nil) (l1 c0_505)))))) (nd a13 (nd c0_21 (nd (c0_37 P) (nd a11 (nd a11 (nd c0_261 (l1 a11) .nil) (nd c0_389 (l1 c0_645) .nil)) (nd a11 (nd c0_325 (l1 c0_581) .nil) (l1 a11))) (nd c0_101 (nd (c0_165 P) (nd c0_293 (l1 c0_549) .nil) (nd a12 (l1 c0_677) .nil)) (nd a11 (nd c0_357 (l1 c0_613) .nil) (l1 c0_485)))) (nd c0_53 (nd a11 (nd c0_149 (nd (c0_277 P) (l1 c0_533) .nil) (nd c0_405 (l1 c0_661) .nil)) (nd c0_213 (nd c0_341 (l1 a11) .nil) (l1 c0_469))) (nd a12 (nd a12 (nd a11 (l1 c0_565) .nil) (nd a11 (l1 a12) .nil)) (nd c0_245 (nd a11 (l1 a11) .nil) (l1 a12))))) (nd a11 (nd c0_45 (nd c0_77 (nd c0_141 (nd a11 (l1 a11) .nil) (nd c0_397 (l1 a11) .nil)) (nd c0_205 (nd c0_333 (l1 c0_589) .nil) (l1 a12))) (nd a11 (nd a11 (nd c0_301 (l1 c0_557) .nil) (nd c0_429 (l1 a11) .nil)) (nd a12 (nd c0_365 (l1 c0_621) .nil) (l1 a11)))) (nd (c0_61 P) (nd c0_93 (nd c0_157 (nd c0_285 (l1 c0_541) .nil) (nd a11 (l1 c0_669) .nil)) (nd c0_221 (nd c0_349 (l1 c0_605) .nil) (l1 c0_477))) (nd c0_125 (nd c0_189 (nd a11 (l1 c0_573) .nil) (nd c0_445 (l1 c0_701) .nil)) (nd c0_253 (nd a12 (l1 a12) .nil) (l1 c0_509)))))))) (nd (boot_o_2 P) (nd (boot_o_4 P) (nd (boot_o_8 P) (nd a12 (nd c0_32 (nd c0_64 (nd c0_128 (nd a12 (l1 a11) .nil) (nd c0_384 (l1 c0_640) .nil)) (nd c0_192 (nd c0_320 (l1 a12) .nil) (nd (c0_448 P) (l1 c0_704) .nil))) (nd a12 (nd c0_160 (nd a11 (l1 a11) .nil) (nd a11 (l1 a12) .nil)) (nd (c0_224 P) (nd c0_352 (l1 a11) .nil) (l1 c0_23)))) (nd c0_23 (nd c0_80 (nd a11 (nd a11 (l1 c0_528) .nil) (nd c0_23 (l1 c0_656) .nil)) (nd a11 (nd a12 (l1 c0_592) .nil) (l1 c0_464))) (nd a11 (nd a11 (nd c0_304 (l1 c0_560) .nil) (nd c0_432 (l1 a11) .nil)) (nd c0_240 (nd c0_368 (l1 c0_624) .nil) (l1 a11))))) (nd (c0_24 P) (nd c0_40 (nd c0_72 (nd c0_136 (nd c0_264 (l1 c0_520) .nil) (nd c0_392 (l1 c0_648) .nil)) (nd c0_200 (nd a11 (l1 c0_584) .nil) (l1 a11))) (nd (c0_104 P) (nd (c0_168 P) (nd a12 (l1 a12) .nil) (nd c0_424 (l1 c0_680) .nil)) (nd a11 (nd c0_23 (l1 a12) .nil) (l1 c0_488)))) (nd c0_56 (nd c0_88 (nd a12 (nd c0_280 (l1 a11) .nil) (nd c0_408 (l1 a11) .nil)) (nd (c0_216 P) (nd c0_344 (l1 c0_600) .nil) (l1 c0_472))) (nd c0_120 (nd c0_184 (nd c0_312 (l1 c0_568) .nil) (nd c0_440 (l1 c0_696) .nil)) (nd c0_248 (nd a11 (l1 a11) .nil) (l1 c0_504)))))) (nd c0_12 (nd c0_20 (nd c0_23 (nd c0_68 (nd c0_132 (nd c0_260 (l1 c0_516) .nil) (nd a12 (l1 a12) .nil)) (nd c0_196 (nd a11 (l1 c0_580) .nil) (l1 c0_452))) (nd c0_100 (nd c0_164 (nd c0_292 (l1 c0_548) .nil) (nd a11 (l1 c0_676) .nil)) (nd c0_228 (nd c0_356 (l1 c0_612) .nil) (l1 c0_484)))) (nd c0_52 (nd c0_84 (nd c0_148 (nd a11 (l1 a11) .nil) (nd c0_404 (l1 a11) .nil)) (nd c0_212 (nd c0_340 (l1 (c0_596 P)) .nil) (l1 a12))) (nd a11 (nd a11 (nd c0_308 (l1 (c0_564 P)) .nil) (nd c0_436 (l1 a11) .nil)) (nd (c0_244 P) (nd c0_372 (l1 c0_628) .nil) (l1 a11))))) (nd c0_28 (nd c0_44 (nd c0_76 (nd a11 (nd c0_268 (l1 c0_524) .nil) (nd c0_396 (l1 c0_652) .nil)) (nd a11 (nd c0_332 (l1 a12) .nil) (l1 a11))) (nd c0_108 (nd c0_172 (nd c0_300 (l1 c0_556) .nil) (nd a12 (l1 c0_684) .nil)) (nd a11 (nd c0_364 (l1 c0_620) .nil) (l1 c0_492)))) (nd c0_23 (nd c0_92 (nd c0_156 (nd a11 (l1 c0_540) .nil) (nd c0_412 (l1 c0_668) .nil)) (nd c0_220 (nd a12 (l1 a11) .nil) (l1 c0_476))) (nd a12 (nd a12 (nd (c0_316 P) (l1 c0_572) .nil) (nd c0_444 (l1 (c0_700 P)) .nil)) (nd c0_252 (nd a11 (l1 a11) .nil) (l1 (c0_508 P)))))))) (nd (boot_o_6 P) (nd (boot_o_10 P) (nd a11 (nd c0_34 (nd a11 (nd a11 (nd a11 (l1 c0_514) .nil) (nd c0_386 (l1 c0_642) .nil)) (nd a11 (nd a12 (l1 a11) .nil) (l1 c0_450))) (nd a11 (nd c0_162 (nd c0_290 (l1 (c0_546 P)) .nil) (nd c0_418 (l1 a11) .nil)) (nd c0_226 (nd c0_354 (l1 c0_610) .nil) (l1 a11)))) (nd a11 (nd c0_82 (nd c0_146 (nd c0_274 (l1 a12) .nil) (nd a11 (l1 a12) .nil)) (nd c0_210 (nd a11 (l1 a11) .nil) (l1 c0_466))) (nd c0_114 (nd c0_178 (nd c0_306 (l1 c0_562) .nil) (nd a11 (l1 c0_690) .nil)) (nd c0_242 (nd c0_370 (l1 c0_626) .nil) (l1 c0_498))))) (nd a12 (nd a11 (nd (c0_74 P) (nd a12 (nd c0_266 (l1 a11) .nil) (nd a11 (l1 a11) .nil)) (nd a12 (nd c0_330 (l1 c0_586) .nil) (l1 c0_458))) (nd c0_106 (nd c0_170 (nd a11 (l1 a11) .nil) (nd c0_426 (l1 c0_682) .nil)) (nd c0_234 (nd a11 (l1 a11) .nil) (l1 c0_490)))) (nd c0_58 (nd a11 (nd a11 (nd c0_23 (l1 c0_538) .nil) (nd c0_410 (l1 c0_666) .nil)) (nd c0_218 (nd c0_346 (l1 a12) .nil) (l1 c0_474))) (nd c0_122 (nd c0_186 (nd c0_222 (l1 a11) .nil) (nd (c0_442 P) (l1 c0_698) .nil)) (nd (c0_250 P) (nd c0_378 (l1 c0_634) .nil) (l1 c0_506)))))) (nd a14 (nd c0_22 (nd a11 (nd c0_70 (nd c0_134 (nd a11 (l1 a12) .nil) (nd a11 (l1 a11) .nil)) (nd c0_198 (nd c0_326 (l1 a11) .nil) (l1 a12))) (nd a11 (nd a11 (nd c0_294 (l1 c0_550) .nil) (nd c0_422 (l1 a11) .nil)) (nd a12 (nd c0_358 (l1 c0_614) .nil) (l1 a11)))) (nd a11 (nd a12 (nd c0_150 (nd c0_278 (l1 c0_534) .nil) (nd a11 (l1 c0_662) .nil)) (nd c0_214 (nd a11 (l1 c0_598) .nil) (l1 a11))) (nd c0_118 (nd c0_182 (nd (c0_310 P) (l1 c0_566) .nil) (nd c0_438 (l1 c0_694) .nil)) (nd c0_246 (nd a12 (l1 a12) .nil) (l1 c0_502))))) (nd (c0_30 P) (nd c0_46 (nd a11 (nd c0_142 (nd a12 (l1 c0_526) .nil) (nd c0_398 (l1 c0_654) .nil)) (nd c0_206 (nd c0_334 (l1 a11) .nil) (l1 c0_462))) (nd a12 (nd a12 (nd a11 (l1 a11) .nil) (nd a11 (l1 a12) .nil)) (nd c0_238 (nd a11 (l1 a11) .nil) (l1 a12)))) (nd a11 (nd c0_94 (nd c0_158 (nd c0_286 (l1 c0_542) .nil) (nd a12 (l1 c0_670) .nil)) (nd c0_222 (nd a11 (l1 c0_606) .nil) (l1 c0_478))) (nd a11 (nd a11 (nd c0_318 (l1 c0_574) .nil) (nd c0_222 (l1 c0_702) .nil)) (nd c0_254 (nd c0_382 (l1 c0_638) .nil) (l1 c0_510))))))))
def c1_3:=Obj.mk y3 none (Data.dict (A [de P q3 165 (vs q201 1486),de P q5 166 vn,de P q6 167 vn,de P q7 168 y4,de P q8 169 vn,de P q9 170 (vr 6),de P q10 171 (vr 4),de P q11 173 (vs q1 172),de P q12 174 vn,de P q13 193 (vr 21),de P q14 213 (vr 31),de P q15 229 (vr 44),de P q16 245 (vr 56),de P q17 270 (vr 75),de P q18 274 (vi 400 273),de P q19 276 (vi 2000 275),de P q20 278 (vi 2000 277),de P q21 280 (vi 8 279),de P q22 282 (vi 100000 281),de P q23 284 (vi 32 283),de P q24 286 (vi 37 285),de P q25 288 (vi 126 287),de P q26 295 (vr 84),de P q27 301 (vr 89),de P q28 307 (vr 94),de P q29 315 (vr 101),de P q30 398 (vr 160),de P q31 402 (vi 40 401),de P q32 424 (vr 165),de P q33 489 (vr 217),de P q34 523 (vr 245),de P q35 562 (vr 278),de P q36 601 (vr 311),de P q37 657 (vr 356),de P q38 703 (vr 396),de P q39 761 (vr 443),de P q40 802 (vr 476),de P q41 843 (vr 509),de P q42 849 (vr 516),de P q43 855 (vr 521),de P q44 864 (vr 528),de P q45 872 (vr 535),de P q46 881 (vr 542),de P q47 886 (vr 543),de P q48 888 (vi 12 887),de P q49 926 (vr 565),de P q50 932 (vr 574),de P q51 940 (vr 581),de P q52 946 (vr 586),de P q53 954 (vr 593),de P q54 958 (vi 4 957),de P q55 1103 (vr 701),de P q202 1179 (vr 762),de P q203 1281 (vr 842),de P q204 1289 (vr 851),de P q205 1296 (vr 858),de P q206 1362 (vr 901),de P q207 1485 (vr 999),de P q208 1495 (vr 1010),de P q209 1506 (vr 1017),de P q210 1512 (vr 1022),de P q211 1518 (vr 1027),de P q212 1526 (vr 1034),de P q213 1532 (vr 1039),de P q214 1555 (vr 1046),de P q215 1561 (vr 1051)]) 66) E
def c1_12:=Obj.mk vn none (Data.fields (A [vi 1 0,vi 0 0,vr 20,vi 5 0,vi 0 0,vr 27,vi 7 0,vi 0 0,vr 40,vi 9 0,vi 0 0,vr 52,vi 11 0,vi 0 0,vr 64,vi 24 0,vi 0 0,vr 83,vi 26 0,vi 0 0,vr 88,vi 32 0,vi 0 0,vr 93,vi 42 0,vi 0 0,vr 100,vi 45 0,vi 0 0,vr 107,vi 112 0,vi 0 0,vr 171,vi 131 0,vi 0 0,vr 227,vi 139 0,vi 0 0,vr 253,vi 149 0,vi 0 0,vr 286,vi 159 0,vi 0 0,vr 319,vi 177 0,vi 0 0,vr 364,vi 190 0,vi 0 0,vr 404,vi 207 0,vi 0 0,vr 451,vi 217 0,vi 0 0,vr 484,vi 229 0,vi 0 0,vr 515,vi 231 0,vi 0 0,vr 520,vi 237 0,vi 0 0,vr 527,vi 247 0,vi 0 0,vr 534,vi 261 0,vi 0 0,vr 541,vi 268 0,vi 0 0,vr 549,vi 277 0,vi 0 0,vr 573,vi 285 0,vi 0 0,vr 580,vi 290 0,vi 0 0,vr 585,vi 292 0,vi 0 0,vr 592,vi 299 0,vi 0 0,vr 599,vi 374 0,vi 0 0,vr 711,vi 412 0,vi 0 0,vr 770,vi 467 0,vi 0 0,vr 850,vi 469 0,vi 0 0,vr 857,vi 472 0,vi 0 0,vr 864,vi 495 0,vi 0 0,vr 911,vi 557 0,vi 0 0,vr 1009,vi 561 0,vi 0 0,vr 1016,vi 574 0,vi 0 0,vr 1021,vi 576 0,vi 0 0,vr 1026,vi 586 0,vi 0 0,vr 1033,vi 590 0,vi 0 0,vr 1038,vi 597 0,vi 0 0,vr 1045,vi 629 0,vi 0 0,vr 1050])) E
def c1_701:=Obj.mk y9 none (Data.cls (ClassData.mk q55 [y12] [vr 701,y12] 700 q55 true [] [vr 762,vr 842] false none false)) (A [none,none,some (vs q55 959),some (vs q55 967),some y18,some vT])
def c1_706:=m10 701
def c1_708:=Obj.mk y3 none (Data.dict (A [de P q57 1111 (vs q4 955),de P q59 1113 (vs q202 1112),de P q60 1115 (vi 374 1114),de P q63 1124 (vr 719),de P q167 1133 (vr 726),de P q166 1144 (vr 733),de P q216 1150 (vr 738),de P q217 1157 (vr 745),de P q168 1166 (vr 752),de P q169 1174 (vr 759),de P q61 1176 (vr 760)]) 11) E
def c1_710:=Obj.mk vn none (Data.fields (A [vi 376 0,vi 4 0,vr 718,vi 380 0,vi 4 0,vr 725,vi 388 0,vi 4 0,vr 732,vi 399 0,vi 4 0,vr 737,vi 402 0,vi 4 0,vr 744,vi 405 0,vi 4 0,vr 751,vi 410 0,vi 4 0,vr 758])) E
def c1_711:=m0 q202 1106 1107 1108 374 709 710 1109 1110
def c1_712:=m1 711 708 q4 955
def c1_715:=m13 q64 1119 q176 1120 q162 1121
def c1_717:=m3 q63 q218 (M 48 0)
def c1_718:=m4 q63 1116 q218 1117 1118 376 3 713 714 715 716 717 1122 1123
def c1_719:=m5 q63 q218 (M 48 0) q4 955 718
def c1_722:=m13 q64 1128 q178 1129 q105 1130
def c1_724:=m3 q167 q219 (M 48 1)
def c1_725:=m4 q167 1125 q219 1126 1127 380 2 720 721 722 723 724 1131 1132
def c1_726:=m5 q167 q219 (M 48 1) q4 955 725
def c1_729:=m20 q64 1137 q178 1138 q152 1139 q183 1140 q184 1141
def c1_731:=m3 q166 q220 (M 48 2)
def c1_732:=m4 q166 1134 q220 1135 1136 388 5 727 728 729 730 731 1142 1143
def c1_733:=m5 q166 q220 (M 48 2) q4 955 732
def c1_736:=m3 q216 q221 (M 48 3)
def c1_737:=m12 q216 1145 q221 1146 1147 399 1 734 735 736 1148 1149
def c1_738:=m5 q216 q221 (M 48 3) q4 955 737
def c1_741:=m2 q64 1154
def c1_743:=m3 q217 q222 (M 48 4)
def c1_744:=m4 q217 1151 q222 1152 1153 402 1 739 740 741 742 743 1155 1156
def c1_745:=m5 q217 q222 (M 48 4) q4 955 744
def c1_748:=m13 q64 1161 q178 1162 q105 1163
def c1_750:=m3 q168 q223 (M 48 5)
def c1_751:=m4 q168 1158 q223 1159 1160 405 2 746 747 748 749 750 1164 1165
def c1_752:=m5 q168 q223 (M 48 5) q4 955 751
def c1_755:=m11 q64 1170 q178 1171
def c1_757:=m3 q169 q224 (M 48 6)
def c1_758:=m4 q169 1167 q224 1168 1169 410 2 753 754 755 756 757 1172 1173
def c1_759:=m5 q169 q224 (M 48 6) q4 955 758
def c1_760:=m2 q225 1175
def c1_761:=Obj.mk y3 none (Data.dict (A [de P q57 1111 (vs q4 955),de P q60 1115 (vi 374 1114),de P q63 1124 (vr 719),de P q167 1133 (vr 726),de P q166 1144 (vr 733),de P q216 1150 (vr 738),de P q217 1157 (vr 745),de P q168 1166 (vr 752),de P q169 1174 (vr 759),de P q61 1176 (vr 760),de P q5 1177 vn]) 2) E
def c1_762:=Obj.mk y9 none (Data.cls (ClassData.mk q202 [vr 701] [vr 762,vr 701,y12] 761 q202 true [] [] false none false)) (A [sr 706,none,some (vs q202 1104),some (vs q202 1112),some y18,some vT])
def c1_763:=m8 762
def c1_764:=m9 762
def c1_767:=Obj.mk y3 none (Data.dict (A [de P q57 1187 (vs q4 955),de P q59 1189 (vs q203 1188),de P q60 1191 (vi 412 1190),de P q63 1197 (vr 776),de P q167 1205 (vr 783),de P q166 1216 (vr 790),de P q226 1223 (vr 797),de P q227 1230 (vr 804),de P q168 1238 (vr 811),de P q169 1247 (vr 818),de P q228 1256 (vr 825),de P q229 1264 (vr 832),de P q230 1274 (vr 839),de P q61 1278 (vr 840)]) 14) E
def c1_769:=Obj.mk vn none (Data.fields (A [vi 414 0,vi 4 0,vr 775,vi 420 0,vi 4 0,vr 782,vi 426 0,vi 4 0,vr 789,vi 435 0,vi 4 0,vr 796,vi 438 0,vi 4 0,vr 803,vi 441 0,vi 4 0,vr 810,vi 444 0,vi 4 0,vr 817,vi 450 0,vi 4 0,vr 824,vi 453 0,vi 4 0,vr 831,vi 460 0,vi 4 0,vr 838])) E
def c1_770:=m0 q203 1182 1183 1184 412 768 769 1185 1186
def c1_771:=m1 770 767 q4 955
def c1_774:=m3 q63 q231 (M 49 0)
def c1_775:=m12 q63 1192 q231 1193 1194 414 3 772 773 774 1195 1196
def c1_776:=m5 q63 q231 (M 49 0) q4 955 775
def c1_779:=m11 q64 1201 q178 1202
def c1_781:=m3 q167 q232 (M 49 1)
def c1_782:=m4 q167 1198 q232 1199 1200 420 2 777 778 779 780 781 1203 1204
def c1_783:=m5 q167 q232 (M 49 1) q4 955 782
def c1_786:=m20 q64 1209 q178 1210 q152 1211 q183 1212 q184 1213
def c1_788:=m3 q166 q233 (M 49 2)
def c1_789:=m4 q166 1206 q233 1207 1208 426 5 784 785 786 787 788 1214 1215
def c1_790:=m5 q166 q233 (M 49 2) q4 955 789
def c1_793:=m2 q64 1220
def c1_795:=m3 q226 q234 (M 49 3)
def c1_796:=m4 q226 1217 q234 1218 1219 435 1 791 792 793 794 795 1221 1222
def c1_797:=m5 q226 q234 (M 49 3) q4 955 796
def c1_800:=m2 q64 1227
def c1_802:=m3 q227 q235 (M 49 4)
def c1_803:=m4 q227 1224 q235 1225 1226 438 1 798 799 800 801 802 1228 1229
def c1_804:=m5 q227 q235 (M 49 4) q4 955 803
def c1_807:=m11 q64 1234 q178 1235
def c1_809:=m3 q168 q236 (M 49 5)
def c1_810:=m4 q168 1231 q236 1232 1233 441 2 805 806 807 808 809 1236 1237
def c1_811:=m5 q168 q236 (M 49 5) q4 955 810
def c1_814:=m13 q64 1242 q178 1243 q237 1244
def c1_816:=m3 q169 q238 (M 49 6)
def c1_817:=m4 q169 1239 q238 1240 1241 444 2 812 813 814 815 816 1245 1246
def c1_818:=m5 q169 q238 (M 49 6) q4 955 817
def c1_821:=m13 q64 1251 q181 1252 q197 1253
def c1_823:=m3 q228 q239 (M 49 7)
def c1_824:=m4 q228 1248 q239 1249 1250 450 3 819 820 821 822 823 1254 1255
def c1_825:=m5 q228 q239 (M 49 7) q4 955 824
def c1_828:=m11 q64 1260 q178 1261
def c1_830:=m3 q229 q240 (M 49 8)
def c1_831:=m4 q229 1257 q240 1258 1259 453 2 826 827 828 829 830 1262 1263
def c1_832:=m5 q229 q240 (M 49 8) q4 955 831
def c1_835:=m14 q64 1268 q178 1269 q70 1270 q190 1271
def c1_837:=m3 q230 q241 (M 49 9)
def c1_838:=m4 q230 1265 q241 1266 1267 460 2 833 834 835 836 837 1272 1273
def c1_839:=m5 q230 q241 (M 49 9) q4 955 838
def c1_840:=m13 q242 1275 q243 1276 q244 1277
def c1_841:=Obj.mk y3 none (Data.dict (A [de P q57 1187 (vs q4 955),de P q60 1191 (vi 412 1190),de P q63 1197 (vr 776),de P q167 1205 (vr 783),de P q166 1216 (vr 790),de P q226 1223 (vr 797),de P q227 1230 (vr 804),de P q168 1238 (vr 811),de P q169 1247 (vr 818),de P q228 1256 (vr 825),de P q229 1264 (vr 832),de P q230 1274 (vr 839),de P q61 1278 (vr 840),de P q5 1279 vn]) 2) E
def c1_842:=Obj.mk y9 none (Data.cls (ClassData.mk q203 [vr 701] [vr 842,vr 701,y12] 841 q203 true [] [] false none false)) (A [sr 765,none,some (vs q203 1180),some (vs q203 1188),some y18,some vT])
def c1_843:=m8 842
def c1_844:=m9 842
def c1_847:=m11 q176 1285 q162 1286
def c1_849:=m3 q204 q204 (B 50)
def c1_850:=m4 q204 1282 q204 1283 1284 467 2 845 846 847 848 849 1287 1288
def c1_851:=m5 q204 q204 (B 50) q4 955 850
def c1_854:=m2 q120 1293
def c1_856:=m3 q205 q205 (B 51)
def c1_857:=m4 q205 1290 q205 1291 1292 469 1 852 853 854 855 856 1294 1295
def c1_858:=m5 q205 q205 (B 51) q4 955 857
def c1_861:=Obj.mk y3 none (Data.dict (A [de P q57 1306 (vs q245 1297),de P q59 1308 (vs q206 1307),de P q60 1310 (vi 472 1309),de P q63 1318 (vr 872),de P q246 1326 (vr 879),de P q247 1337 (vr 886),de P q248 1344 (vr 893),de P q249 1350 (vr 898),de P q61 1355 (vr 899)]) 9) E
def c1_863:=m19 474 871 480 878 485 885 488 892 491 897
def c1_864:=m0 q206 1301 1302 1303 472 862 863 1304 1305
def c1_865:=m1 864 861 q245 1297
def c1_868:=m11 q64 1314 q250 1315
def c1_870:=m3 q63 q251 (M 53 0)
def c1_871:=m4 q63 1311 q251 1312 1313 474 2 866 867 868 869 870 1316 1317
def c1_872:=m5 q63 q251 (M 53 0) q245 1297 871
def c1_875:=m11 q64 1322 q246 1323
def c1_877:=m3 q246 q252 (M 53 1)
def c1_878:=m4 q246 1319 q252 1320 1321 480 2 873 874 875 876 877 1324 1325
def c1_879:=m5 q246 q252 (M 53 1) q245 1297 878
def c1_882:=m20 q64 1330 q253 1331 q152 1332 q254 1333 q184 1334
def c1_884:=m3 q247 q255 (M 53 2)
def c1_885:=m4 q247 1327 q255 1328 1329 485 5 880 881 882 883 884 1335 1336
def c1_886:=m5 q247 q255 (M 53 2) q245 1297 885
def c1_889:=m2 q64 1341
def c1_891:=m3 q248 q256 (M 53 3)
def c1_892:=m4 q248 1338 q256 1339 1340 488 1 887 888 889 890 891 1342 1343
def c1_893:=m5 q248 q256 (M 53 3) q245 1297 892
def c1_896:=m3 q249 q257 (M 53 4)
def c1_897:=m12 q249 1345 q257 1346 1347 491 1 894 895 896 1348 1349
def c1_898:=m5 q249 q257 (M 53 4) q245 1297 897
def c1_899:=m14 q258 1351 q259 1352 q260 1353 q250 1354
def c1_900:=Obj.mk y3 none (Data.dict (A [de P q57 1306 (vs q245 1297),de P q60 1310 (vi 472 1309),de P q63 1318 (vr 872),de P q246 1326 (vr 879),de P q247 1337 (vr 886),de P q248 1344 (vr 893),de P q249 1350 (vr 898),de P q61 1355 (vr 899),de P q92 1357 (vr 902),de P q62 1359 (vr 903),de P q5 1360 vn]) 4) E
def c1_901:=Obj.mk y9 none (Data.cls (ClassData.mk q206 [y12] [vr 901,y12] 900 q206 true [] [] false none false)) (A [none,none,some (vs q206 1299),some (vs q206 1307),some y18,some vT])
def c1_902:=m15 1356 901
def c1_903:=m7 1358 901
def c1_904:=m8 901
def c1_905:=m9 901
def c1_908:=Obj.mk y3 none (Data.dict (A [de P q57 1372 (vs q261 1363),de P q59 1374 (vs q207 1373),de P q60 1376 (vi 495 1375),de P q63 1384 (vr 919),de P q262 1394 (vr 926),de P q263 1402 (vr 933),de P q264 1410 (vr 940),de P q265 1417 (vr 947),de P q181 1425 (vr 954),de P q266 1432 (vr 961),de P q267 1439 (vr 968),de P q268 1446 (vr 975),de P q269 1453 (vr 982),de P q270 1462 (vr 989),de P q271 1470 (vr 996),de P q61 1478 (vr 997)]) 16) E
def c1_910:=Obj.mk vn none (Data.fields (A [vi 497 0,vi 4 0,vr 918,vi 506 0,vi 4 0,vr 925,vi 523 0,vi 4 0,vr 932,vi 530 0,vi 4 0,vr 939,vi 533 0,vi 4 0,vr 946,vi 536 0,vi 4 0,vr 953,vi 539 0,vi 4 0,vr 960,vi 542 0,vi 4 0,vr 967,vi 545 0,vi 4 0,vr 974,vi 548 0,vi 4 0,vr 981,vi 551 0,vi 4 0,vr 988,vi 554 0,vi 4 0,vr 995])) E
def c1_911:=m0 q207 1367 1368 1369 495 909 910 1370 1371
def c1_912:=m1 911 908 q261 1363
def c1_915:=m11 q64 1380 q272 1381
def c1_917:=m3 q63 q273 (M 55 0)
def c1_918:=m4 q63 1377 q273 1378 1379 497 2 913 914 915 916 917 1382 1383
def c1_919:=m5 q63 q273 (M 55 0) q261 1363 918
def c1_922:=m14 q64 1388 q246 1389 q274 1390 q254 1391
def c1_924:=m3 q262 q275 (M 55 1)
def c1_925:=m4 q262 1385 q275 1386 1387 506 2 920 921 922 923 924 1392 1393
def c1_926:=m5 q262 q275 (M 55 1) q261 1363 925
def c1_929:=m11 q64 1398 q246 1399
def c1_931:=m3 q263 q276 (M 55 2)
def c1_932:=m4 q263 1395 q276 1396 1397 523 2 927 928 929 930 931 1400 1401
def c1_933:=m5 q263 q276 (M 55 2) q261 1363 932
def c1_936:=m11 q64 1406 q120 1407
def c1_938:=m3 q264 q277 (M 55 3)
def c1_939:=m4 q264 1403 q277 1404 1405 530 2 934 935 936 937 938 1408 1409
def c1_940:=m5 q264 q277 (M 55 3) q261 1363 939
def c1_943:=m2 q64 1414
def c1_945:=m3 q265 q278 (M 55 4)
def c1_946:=m4 q265 1411 q278 1412 1413 533 1 941 942 943 944 945 1415 1416
def c1_947:=m5 q265 q278 (M 55 4) q261 1363 946
def c1_950:=m11 q64 1421 q254 1422
def c1_952:=m3 q181 q279 (M 55 5)
def c1_953:=m4 q181 1418 q279 1419 1420 536 2 948 949 950 951 952 1423 1424
def c1_954:=m5 q181 q279 (M 55 5) q261 1363 953
def c1_957:=m2 q64 1429
def c1_959:=m3 q266 q280 (M 55 6)
def c1_960:=m4 q266 1426 q280 1427 1428 539 1 955 956 957 958 959 1430 1431
def c1_961:=m5 q266 q280 (M 55 6) q261 1363 960
def c1_964:=m2 q64 1436
def c1_966:=m3 q267 q281 (M 55 7)
def c1_967:=m4 q267 1433 q281 1434 1435 542 1 962 963 964 965 966 1437 1438
def c1_968:=m5 q267 q281 (M 55 7) q261 1363 967
def c1_971:=m2 q64 1443
def c1_973:=m3 q268 q282 (M 55 8)
def c1_974:=m4 q268 1440 q282 1441 1442 545 1 969 970 971 972 973 1444 1445
def c1_975:=m5 q268 q282 (M 55 8) q261 1363 974
def c1_978:=m2 q64 1450
def c1_980:=m3 q269 q283 (M 55 9)
def c1_981:=m4 q269 1447 q283 1448 1449 548 1 976 977 978 979 980 1451 1452
def c1_982:=m5 q269 q283 (M 55 9) q261 1363 981
def c1_985:=m13 q64 1457 q254 1458 q284 1459
def c1_987:=m3 q270 q285 (M 55 10)
def c1_988:=m4 q270 1454 q285 1455 1456 551 3 983 984 985 986 987 1460 1461
def c1_989:=m5 q270 q285 (M 55 10) q261 1363 988
def c1_992:=m11 q64 1466 q254 1467
def c1_994:=m3 q271 q286 (M 55 11)
def c1_995:=m4 q271 1463 q286 1464 1465 554 2 990 991 992 993 994 1468 1469
def c1_996:=m5 q271 q286 (M 55 11) q261 1363 995
def c1_997:=Obj.mk y0 none (Data.seq (A [vs q287 1471,vs q272 1472,vs q288 1473,vs q289 1474,vs q290 1475,vs q291 1476,vs q292 1477]) 0) E
def c1_998:=Obj.mk y3 none (Data.dict (A [de P q57 1372 (vs q261 1363),de P q60 1376 (vi 495 1375),de P q63 1384 (vr 919),de P q262 1394 (vr 926),de P q263 1402 (vr 933),de P q264 1410 (vr 940),de P q265 1417 (vr 947),de P q181 1425 (vr 954),de P q266 1432 (vr 961),de P q267 1439 (vr 968),de P q268 1446 (vr 975),de P q269 1453 (vr 982),de P q270 1462 (vr 989),de P q271 1470 (vr 996),de P q61 1478 (vr 997),de P q92 1480 (vr 1000),de P q62 1482 (vr 1001),de P q5 1483 vn]) 4) E
def c1_999:=Obj.mk y9 none (Data.cls (ClassData.mk q207 [y12] [vr 999,y12] 998 q207 true [] [] false none false)) (A [none,none,some (vs q207 1365),some (vs q207 1373),some y18,some vT])
def c1_1000:=m15 1479 999
def c1_1001:=m7 1481 999
def c1_1002:=m8 999
def c1_1003:=m9 999
def c1_1006:=m11 q293 1491 q294 1492
def c1_1008:=m3 q208 q208 (B 57)
def c1_1009:=m4 q208 1488 q208 1489 1490 557 2 1004 1005 1006 1007 1008 1493 1494
def c1_1010:=m5 q208 q208 (B 57) q201 1486 1009
def c1_1013:=m20 q295 1499 q296 1500 q297 1501 q298 1502 q299 1503
def c1_1015:=m3 q209 q209 (B 58)
def c1_1016:=m4 q209 1496 q209 1497 1498 561 2 1011 1012 1013 1014 1015 1504 1505
def c1_1017:=m5 q209 q209 (B 58) q201 1486 1016
def c1_1020:=m3 q210 q210 (B 59)
def c1_1021:=m12 q210 1507 q210 1508 1509 574 1 1018 1019 1020 1510 1511
def c1_1022:=m5 q210 q210 (B 59) q201 1486 1021
def c1_1025:=m3 q211 q211 (B 60)
def c1_1026:=m12 q211 1513 q211 1514 1515 576 5 1023 1024 1025 1516 1517
def c1_1027:=m5 q211 q211 (B 60) q201 1486 1026
def c1_1030:=m11 q300 1522 q301 1523
def c1_1032:=m3 q212 q212 (B 61)
def c1_1033:=m4 q212 1519 q212 1520 1521 586 2 1028 1029 1030 1031 1032 1524 1525
def c1_1034:=m5 q212 q212 (B 61) q201 1486 1033
def c1_1037:=m3 q213 q213 (B 62)
def c1_1038:=m12 q213 1527 q213 1528 1529 590 4 1035 1036 1037 1530 1531
def c1_1039:=m5 q213 q213 (B 62) q201 1486 1038
def c1_1042:=Obj.mk y0 none (Data.seq (A [vs q302 1536,vs q303 1537,vs q304 1538,vs q296 1539,vs q300 1540,vs q305 1541,vs q306 1542,vs q301 1543,vs q307 1544,vs q308 1545,vs q309 1546,vs q295 1547,vs q310 1548,vs q311 1549,vs q312 1550,vs q313 1551,vs q314 1552]) 0) E
def c1_1044:=m3 q214 q214 (B 63)
def c1_1045:=m4 q214 1533 q214 1534 1535 597 6 1040 1041 1042 1043 1044 1553 1554
def c1_1046:=m5 q214 q214 (B 63) q201 1486 1045
def c1_1049:=m3 q215 q215 (B 64)
def c1_1050:=m12 q215 1556 q215 1557 1558 629 1 1047 1048 1049 1559 1560
def c1_1051:=m5 q215 q215 (B 64) q201 1486 1050
def u1:=nd (boot_o_0 P) (nd (boot_o_1 P) (nd (c1_3 P) (nd (boot_o_7 P) (nd a11 (nd c0_31 (nd c0_63 (nd c0_127 (nd a11 (nd c0_511 (l1 a11) .nil) (l1 (c1_767 P))) (nd a11 (l1 a11) (l1 a12))) (nd c0_191 (nd c0_319 (l1 a11) (l1 c1_831)) (nd c0_23 (l1 c0_703) (l1 c1_959)))) (nd a11 (nd (c0_159 P) (nd c0_287 (l1 c0_543) (l1 a12)) (nd c0_415 (l1 a11) (l1 a11))) (nd c0_23 (nd c0_351 (l1 c0_607) (l1 c1_863)) (nd c0_222 (l1 a12) (l1 a12))))) (nd c0_35 (nd a12 (nd c0_143 (nd c0_271 (nd c0_527 (l1 c1_1039) .nil) (l1 c1_783)) (nd c0_248 (l1 c0_655) (l1 c1_911))) (nd c0_207 (nd a11 (l1 c0_591) (l1 c1_847)) (nd a11 (l1 c1_719) (l1 c1_975)))) (nd c0_111 (nd c0_175 (nd a12 (l1 a12) (l1 a11)) (nd c0_431 (l1 c0_687) (l1 c1_943))) (nd a11 (nd a12 (l1 a12) (l1 c1_879)) (nd c0_495 (l1 c1_751) (l1 a11)))))) (nd c0_23 (nd a12 (nd c0_71 (nd c0_135 (nd a12 (nd c0_519 (l1 a11) .nil) (l1 c1_775)) (nd c0_391 (l1 c0_647) (l1 c1_903))) (nd c0_199 (nd c0_327 (l1 a12) (l1 c1_839)) (nd c0_455 (l1 c1_711) (l1 c1_967)))) (nd c0_23 (nd c0_23 (nd a11 (l1 a11) (l1 c1_807)) (nd a11 (l1 a12) (l1 a12))) (nd c0_231 (nd c0_248 (l1 a11) (l1 c1_871)) (nd a12 (l1 c1_743) (l1 c1_999))))) (nd (c0_55 P) (nd c0_87 (nd a11 (nd c0_279 (nd c0_535 (l1 a11) .nil) (l1 a11)) (nd a12 (l1 c0_663) (l1 c1_919))) (nd a11 (nd a12 (l1 c0_599) (l1 a11)) (nd c0_471 (l1 a11) (l1 a11)))) (nd a11 (nd a11 (nd c0_311 (l1 c0_567) (l1 c1_823)) (nd c0_439 (l1 a11) (l1 a11))) (nd c0_247 (nd c0_375 (l1 c0_631) (l1 a11)) (nd a11 (l1 c1_759) (l1 c1_1015))))))) (nd a11 (nd c0_19 (nd c0_35 (nd a12 (nd a12 (nd c0_259 (nd c0_515 (l1 c1_1027) .nil) (l1 c1_771)) (nd a11 (l1 a11) (l1 c1_899))) (nd a12 (nd c0_323 (l1 c0_579) (l1 c1_835)) (nd c0_451 (l1 c0_23) (l1 a12)))) (nd c0_99 (nd c0_163 (nd a11 (l1 a11) (l1 c1_803)) (nd c0_419 (l1 c0_675) (l1 c1_931))) (nd c0_227 (nd (c0_355 P) (l1 a11) (l1 a12)) (nd c0_483 (l1 a11) (l1 c1_995))))) (nd a12 (nd c0_83 (nd a11 (nd c0_275 (nd c0_531 (l1 a11) .nil) (l1 a11)) (nd c0_403 (l1 c0_659) (l1 c1_915))) (nd a11 (nd c0_339 (l1 c0_23) (l1 c1_851)) (nd a11 (l1 a11) (l1 a11)))) (nd c0_115 (nd c0_179 (nd c0_307 (l1 c0_563) (l1 a11)) (nd a12 (l1 c0_691) (l1 c1_947))) (nd c0_243 (nd c0_371 (l1 c0_627) (l1 a11)) (nd c0_499 (l1 c1_755) (l1 a11)))))) (nd c0_27 (nd (c0_43 P) (nd c0_75 (nd c0_139 (nd c0_267 (nd a12 (l1 a11) .nil) (l1 c1_779)) (nd (c0_395 P) (l1 a12) (l1 c0_23))) (nd c0_203 (nd a11 (l1 a11) (l1 c1_843)) (nd c0_459 (l1 c1_715) (l1 c1_971)))) (nd c0_107 (nd c0_171 (nd c0_299 (l1 c0_555) (l1 c1_811)) (nd a11 (l1 c0_683) (l1 c1_939))) (nd c0_235 (nd c0_363 (l1 c0_619) (l1 c1_875)) (nd c0_491 (l1 a12) (l1 c1_1003))))) (nd c0_35 (nd a12 (nd c0_155 (nd (c0_283 P) (nd a11 (l1 c1_1051) .nil) (l1 c1_795)) (nd c0_411 (l1 a11) (l1 a11))) (nd c0_219 (nd a11 (l1 c0_603) (l1 a11)) (nd (c0_475 P) (l1 c1_731) (l1 c1_987)))) (nd a11 (nd a11 (nd c0_23 (l1 a12) (l1 a12)) (nd c0_443 (l1 c0_699) (l1 a11))) (nd a11 (nd c0_379 (l1 c0_635) (l1 c1_891)) (nd c0_507 (l1 c1_763) (l1 a12)))))))) (nd (boot_o_5 P) (nd (boot_o_9 P) (nd c0_17 (nd c0_33 (nd c0_65 (nd c0_129 (nd c0_257 (nd a12 (l1 c1_1025) .nil) (l1 c1_769)) (nd c0_385 (l1 c0_641) (l1 c1_897))) (nd c0_193 (nd a11 (l1 c0_577) (l1 a11)) (nd a11 (l1 c0_705) (l1 c1_961)))) (nd c0_97 (nd c0_161 (nd a12 (l1 c0_23) (l1 a11)) (nd c0_417 (l1 c0_673) (l1 c1_929))) (nd a11 (nd c0_353 (l1 a12) (l1 c1_865)) (nd (c0_481 P) (l1 c1_737) (l1 a11))))) (nd (c0_49 P) (nd a11 (nd a12 (nd c0_273 (nd a11 (l1 a12) .nil) (l1 a12)) (nd (c0_401 P) (l1 a11) (l1 a11))) (nd a12 (nd c0_337 (l1 c0_593) (l1 c1_849)) (nd c0_465 (l1 a12) (l1 a12)))) (nd c0_113 (nd c0_177 (nd a11 (l1 c0_561) (l1 c1_817)) (nd c0_433 (l1 c0_689) (l1 c1_945))) (nd c0_241 (nd a11 (l1 a11) (l1 a12)) (nd c0_497 (l1 a11) (l1 c1_1009)))))) (nd a11 (nd c0_41 (nd c0_73 (nd a11 (nd a11 (nd c0_521 (l1 c1_1033) .nil) (l1 a11)) (nd c0_393 (l1 c0_649) (l1 c1_905))) (nd a11 (nd a12 (l1 c0_585) (l1 (c1_841 P))) (nd c0_457 (l1 a11) (l1 a11)))) (nd a11 (nd a11 (nd c0_297 (l1 c0_553) (l1 c1_809)) (nd c0_425 (l1 a11) (l1 a11))) (nd c0_233 (nd (c0_361 P) (l1 c0_617) (l1 a11)) (nd a11 (l1 c1_745) (l1 c1_1001))))) (nd c0_57 (nd c0_89 (nd c0_153 (nd c0_248 (nd a12 (l1 c1_1049) .nil) (l1 c1_793)) (nd a11 (l1 a12) (l1 a12))) (nd c0_217 (nd c0_345 (l1 a11) (l1 c1_857)) (nd c0_473 (l1 c1_729) (l1 c1_985)))) (nd c0_121 (nd c0_185 (nd c0_313 (l1 c0_569) (l1 c1_825)) (nd c0_441 (l1 c0_697) (l1 c1_953))) (nd c0_23 (nd c0_377 (l1 c0_633) (l1 c1_889)) (nd c0_505 (l1 (c1_761 P)) (l1 c1_1017))))))) (nd a13 (nd c0_21 (nd (c0_37 P) (nd a11 (nd a11 (nd c0_261 (nd a11 (l1 a12) .nil) (l1 a12)) (nd c0_389 (l1 c0_645) (l1 c1_901))) (nd a11 (nd c0_325 (l1 c0_581) (l1 c1_837)) (nd a11 (l1 a11) (l1 a11)))) (nd c0_101 (nd (c0_165 P) (nd c0_293 (l1 c0_549) (l1 a11)) (nd a12 (l1 c0_677) (l1 c1_933))) (nd a11 (nd c0_357 (l1 c0_613) (l1 a11)) (nd c0_485 (l1 c1_741) (l1 c1_997))))) (nd c0_53 (nd a11 (nd c0_149 (nd (c0_277 P) (nd c0_533 (l1 c1_1045) .nil) (l1 c1_789)) (nd c0_405 (l1 c0_661) (l1 c1_917))) (nd c0_213 (nd c0_341 (l1 a11) (l1 a12)) (nd c0_469 (l1 c1_725) (l1 c1_981)))) (nd a12 (nd a12 (nd a11 (l1 c0_565) (l1 c1_821)) (nd a11 (l1 a12) (l1 a12))) (nd c0_245 (nd a11 (l1 a11) (l1 c1_885)) (nd a12 (l1 c1_757) (l1 c1_1013)))))) (nd a11 (nd c0_45 (nd c0_77 (nd c0_141 (nd a11 (nd a11 (l1 c1_1037) .nil) (l1 c1_781)) (nd c0_397 (l1 a11) (l1 a11))) (nd c0_205 (nd c0_333 (l1 c0_589) (l1 a11)) (nd a12 (l1 c1_717) (l1 c1_973)))) (nd a11 (nd a11 (nd c0_301 (l1 c0_557) (l1 a12)) (nd c0_429 (l1 a11) (l1 a11))) (nd a12 (nd c0_365 (l1 c0_621) (l1 c1_877)) (nd a11 (l1 a11) (l1 a12))))) (nd (c0_61 P) (nd c0_93 (nd c0_157 (nd c0_285 (l1 c0_541) (l1 c1_797)) (nd a11 (l1 c0_669) (l1 c1_925))) (nd c0_221 (nd c0_349 (l1 c0_605) (l1 (c1_861 P))) (nd c0_477 (l1 c1_733) (l1 c1_989)))) (nd c0_125 (nd c0_189 (nd a11 (l1 c0_573) (l1 a11)) (nd c0_445 (l1 c1_701) (l1 c1_957))) (nd c0_253 (nd a12 (l1 a12) (l1 c1_893)) (nd c0_509 (l1 c1_706) (l1 c1_1021))))))))) (nd (boot_o_2 P) (nd (boot_o_4 P) (nd (boot_o_8 P) (nd a12 (nd c0_32 (nd c0_64 (nd c0_128 (nd a12 (nd a11 (l1 a12) .nil) (l1 a11)) (nd c0_384 (l1 c0_640) (l1 c1_896))) (nd c0_192 (nd c0_320 (l1 a12) (l1 c1_832)) (nd (c0_448 P) (l1 c0_704) (l1 c1_960)))) (nd a12 (nd c0_160 (nd a11 (l1 a11) (l1 c1_800)) (nd a11 (l1 a12) (l1 a12))) (nd (c0_224 P) (nd c0_352 (l1 a11) (l1 c1_864)) (nd c0_23 (l1 c1_736) (l1 c1_992))))) (nd c0_23 (nd c0_80 (nd a11 (nd a11 (nd c0_528 (l1 a11) .nil) (l1 a11)) (nd c0_23 (l1 c0_656) (l1 c1_912))) (nd a11 (nd a12 (l1 c0_592) (l1 a11)) (nd c0_464 (l1 a11) (l1 a11)))) (nd a11 (nd a11 (nd c0_304 (l1 c0_560) (l1 c1_816)) (nd c0_432 (l1 a11) (l1 a11))) (nd c0_240 (nd c0_368 (l1 c0_624) (l1 a11)) (nd a11 (l1 c1_752) (l1 c1_1008)))))) (nd (c0_24 P) (nd c0_40 (nd c0_72 (nd c0_136 (nd c0_264 (nd c0_520 (l1 c1_1032) .nil) (l1 c1_776)) (nd c0_392 (l1 c0_648) (l1 c1_904))) (nd c0_200 (nd a11 (l1 c0_584) (l1 c1_840)) (nd a11 (l1 c1_712) (l1 c1_968)))) (nd (c0_104 P) (nd (c0_168 P) (nd a12 (l1 a12) (l1 a11)) (nd c0_424 (l1 c0_680) (l1 c1_936))) (nd a11 (nd c0_23 (l1 a12) (l1 c1_872)) (nd c0_488 (l1 c1_744) (l1 c1_1000))))) (nd c0_56 (nd c0_88 (nd a12 (nd c0_280 (nd a11 (l1 a12) .nil) (l1 a12)) (nd c0_408 (l1 a11) (l1 a11))) (nd (c0_216 P) (nd c0_344 (l1 c0_600) (l1 c1_856)) (nd c0_472 (l1 a12) (l1 a12)))) (nd c0_120 (nd c0_184 (nd c0_312 (l1 c0_568) (l1 c1_824)) (nd c0_440 (l1 c0_696) (l1 c1_952))) (nd c0_248 (nd a11 (l1 a11) (l1 a12)) (nd c0_504 (l1 c1_760) (l1 c1_1016))))))) (nd c1_12 (nd c0_20 (nd c0_23 (nd c0_68 (nd c0_132 (nd c0_260 (nd c0_516 (l1 a11) .nil) (l1 a11)) (nd a12 (l1 a12) (l1 (c1_900 P)))) (nd c0_196 (nd a11 (l1 c0_580) (l1 a11)) (nd c0_452 (l1 (c1_708 P)) (l1 c1_964)))) (nd c0_100 (nd c0_164 (nd c0_292 (l1 c0_548) (l1 c1_804)) (nd a11 (l1 c0_676) (l1 c1_932))) (nd c0_228 (nd c0_356 (l1 c0_612) (l1 c1_868)) (nd c0_484 (l1 a12) (l1 c1_996))))) (nd c0_52 (nd c0_84 (nd c0_148 (nd a11 (nd a11 (l1 c1_1044) .nil) (l1 c1_788)) (nd c0_404 (l1 a11) (l1 a11))) (nd c0_212 (nd c0_340 (l1 (c0_596 P)) (l1 a11)) (nd a12 (l1 c1_724) (l1 c1_980)))) (nd a11 (nd a11 (nd c0_308 (l1 (c0_564 P)) (l1 a12)) (nd c0_436 (l1 a11) (l1 a11))) (nd (c0_244 P) (nd c0_372 (l1 c0_628) (l1 c1_884)) (nd a11 (l1 a11) (l1 a12)))))) (nd c0_28 (nd c0_44 (nd c0_76 (nd a11 (nd c0_268 (nd c0_524 (l1 a12) .nil) (l1 a11)) (nd c0_396 (l1 c0_652) (l1 (c1_908 P)))) (nd a11 (nd c0_332 (l1 a12) (l1 c1_844)) (nd a11 (l1 a11) (l1 a11)))) (nd c0_108 (nd c0_172 (nd c0_300 (l1 c0_556) (l1 a11)) (nd a12 (l1 c0_684) (l1 c1_940))) (nd a11 (nd c0_364 (l1 c0_620) (l1 a11)) (nd c0_492 (l1 c1_748) (l1 a11))))) (nd c0_23 (nd c0_92 (nd c0_156 (nd a11 (l1 c0_540) (l1 c1_796)) (nd c0_412 (l1 c0_668) (l1 c1_924))) (nd c0_220 (nd a12 (l1 a11) (l1 c0_23)) (nd c0_476 (l1 c1_732) (l1 c1_988)))) (nd a12 (nd a12 (nd (c0_316 P) (l1 c0_572) (l1 c1_828)) (nd c0_444 (l1 (c0_700 P)) (l1 a12))) (nd c0_252 (nd a11 (l1 a11) (l1 c1_892)) (nd (c0_508 P) (l1 c1_764) (l1 c1_1020)))))))) (nd (boot_o_6 P) (nd (boot_o_10 P) (nd a11 (nd c0_34 (nd a11 (nd a11 (nd a11 (nd c0_514 (l1 c1_1026) .nil) (l1 c1_770)) (nd c0_386 (l1 c0_642) (l1 c1_898))) (nd a11 (nd a12 (l1 a11) (l1 a12)) (nd c0_450 (l1 c1_706) (l1 a11)))) (nd a11 (nd c0_162 (nd c0_290 (l1 (c0_546 P)) (l1 c1_802)) (nd c0_418 (l1 a11) (l1 a11))) (nd c0_226 (nd c0_354 (l1 c0_610) (l1 a11)) (nd a11 (l1 c1_738) (l1 c1_994))))) (nd a11 (nd c0_82 (nd c0_146 (nd c0_274 (nd a12 (l1 c1_1042) .nil) (l1 c1_786)) (nd a11 (l1 a12) (l1 a12))) (nd c0_210 (nd a11 (l1 a11) (l1 c1_850)) (nd c0_466 (l1 c1_722) (l1 c1_978)))) (nd c0_114 (nd c0_178 (nd c0_306 (l1 c0_562) (l1 c1_818)) (nd a11 (l1 c0_690) (l1 c1_946))) (nd c0_242 (nd c0_370 (l1 c0_626) (l1 c1_882)) (nd c0_498 (l1 a12) (l1 c1_1010)))))) (nd a12 (nd a11 (nd (c0_74 P) (nd a12 (nd c0_266 (nd a11 (l1 c1_1034) .nil) (l1 a12)) (nd a11 (l1 a11) (l1 a11))) (nd a12 (nd c0_330 (l1 c0_586) (l1 c1_842)) (nd c0_458 (l1 a12) (l1 a12)))) (nd c0_106 (nd c0_170 (nd a11 (l1 a11) (l1 c1_810)) (nd c0_426 (l1 c0_682) (l1 c1_938))) (nd c0_234 (nd a11 (l1 a11) (l1 a12)) (nd c0_490 (l1 a11) (l1 c1_1002))))) (nd c0_58 (nd a11 (nd a11 (nd c0_23 (nd c0_538 (l1 c1_1050) .nil) (l1 a11)) (nd c0_410 (l1 c0_666) (l1 c1_922))) (nd c0_218 (nd c0_346 (l1 a12) (l1 c1_858)) (nd c0_474 (l1 a11) (l1 a11)))) (nd c0_122 (nd c0_186 (nd c0_222 (l1 a11) (l1 a11)) (nd (c0_442 P) (l1 c0_698) (l1 c1_954))) (nd (c0_250 P) (nd c0_378 (l1 c0_634) (l1 a11)) (nd c0_506 (l1 c1_762) (l1 a11))))))) (nd a14 (nd c0_22 (nd a11 (nd c0_70 (nd c0_134 (nd a11 (nd a12 (l1 c1_1030) .nil) (l1 c1_774)) (nd a11 (l1 a11) (l1 c1_902))) (nd c0_198 (nd c0_326 (l1 a11) (l1 c1_838)) (nd a12 (l1 c1_710) (l1 c1_966)))) (nd a11 (nd a11 (nd c0_294 (l1 c0_550) (l1 a12)) (nd c0_422 (l1 a11) (l1 a11))) (nd a12 (nd c0_358 (l1 c0_614) (l1 c1_870)) (nd a11 (l1 a11) (l1 (c1_998 P)))))) (nd a11 (nd a12 (nd c0_150 (nd c0_278 (nd c0_534 (l1 c1_1046) .nil) (l1 c1_790)) (nd a11 (l1 c0_662) (l1 c1_918))) (nd c0_214 (nd a11 (l1 c0_598) (l1 c1_854)) (nd a11 (l1 c1_726) (l1 c1_982)))) (nd c0_118 (nd c0_182 (nd (c0_310 P) (l1 c0_566) (l1 a11)) (nd c0_438 (l1 c0_694) (l1 c1_950))) (nd c0_246 (nd a12 (l1 a12) (l1 c1_886)) (nd c0_502 (l1 c1_758) (l1 a11)))))) (nd (c0_30 P) (nd c0_46 (nd a11 (nd c0_142 (nd a12 (nd c0_526 (l1 c1_1038) .nil) (l1 c1_782)) (nd c0_398 (l1 c0_654) (l1 c1_910))) (nd c0_206 (nd c0_334 (l1 a11) (l1 a12)) (nd c0_462 (l1 c1_718) (l1 c1_974)))) (nd a12 (nd a12 (nd a11 (l1 a11) (l1 c1_814)) (nd a11 (l1 a12) (l1 a12))) (nd c0_238 (nd a11 (l1 a11) (l1 c1_878)) (nd a12 (l1 c1_750) (l1 c1_1006))))) (nd a11 (nd c0_94 (nd c0_158 (nd c0_286 (l1 c0_542) (l1 a11)) (nd a12 (l1 c0_670) (l1 c1_926))) (nd c0_222 (nd a11 (l1 c0_606) (l1 a11)) (nd c0_478 (l1 a11) (l1 a11)))) (nd a11 (nd a11 (nd c0_318 (l1 c0_574) (l1 c1_830)) (nd c0_222 (l1 c0_702) (l1 a11))) (nd c0_254 (nd c0_382 (l1 c0_638) (l1 a11)) (nd c0_510 (l1 c0_23) (l1 c1_1022)))))))))
def tc1_:=u1 P
def tz:=u1 P
end
noncomputable def sa(w:World)(os:OsState):SharedT:=SharedT.mk (ta w.params) 15 (@Life.mk [] [] [] 0 [] [] false E [] 0 false false false 0 [2000,10,10] false 0 true [] [] 0 false) E (@Drawn.mk 0 0 0 0) 187 os
noncomputable def sb(w:World)(os:OsState):SharedT:=SharedT.mk (tb w.params) 15 (@Life.mk [] [] [] 0 [] [] false E [] 0 false false false 0 [2000,10,10] false 0 true [] [] 0 false) E (@Drawn.mk 0 0 0 0) 187 os
noncomputable def sc0_(w:World)(os:OsState):SharedT:=SharedT.mk (tc0_ w.params) 706 (@Life.mk [] [] [] 0 [] [] false E [] 0 false false false 0 [2000,10,10] false 0 true [] [] 0 false) E (@Drawn.mk 0 0 0 0) 1104 os
noncomputable def sc1_(w:World)(os:OsState):SharedT:=SharedT.mk (tc1_ w.params) 1052 (@Life.mk [] [] [] 0 [] [] false E [] 0 false false false 0 [2000,10,10] false 0 true [] [] 0 false) E (@Drawn.mk 0 0 0 0) 1562 os
noncomputable def sz(w:World)(os:OsState):SharedT:=SharedT.mk (tz w.params) 1052 (@Life.mk [] [] [] 0 [] [] false E [] 0 false false false 0 [2000,10,10] false 0 true [] [] 0 false) E (@Drawn.mk 0 0 0 0) 1562 os
noncomputable abbrev e0:Env:={scope:=p0.main.scope,locals:=mainNs,globals:=mainNs,cells:=[],code:=(vr 13),frame:=some 14}
noncomputable abbrev en:Env:={scope:=pq.main.scope,locals:=mainNs,globals:=mainNs,cells:=[],code:=(vr 13),frame:=some 14}
theorem bs:behindTheImports p0=((p0.main.body.drop 0).take 48++((p0.main.body.drop 48).take 17++[])):=by kernel_rfl
theorem pre_l(w:World)(os:OsState):topGo treeTable p0 w 11 (sr 6) 12 ⟨boot_heap w.params,Array.mk [],boot_drawn,boot_toks,os⟩ (topStub p0)=some ((sa w os).abs,⟨denote treeTable (Code.body (behindTheImports p0) e0),Code.body (behindTheImports p0) e0,(@Pos.mk 0 0 0 0),[topFrame (@Pos.mk 0 0 0 0)]⟩):=by
 rw [PySem.W.Fast.te15667345088766844465,PySem.W.Fast.te14364793385576792824,PySem.W.Fast.te11892475500146522536,pe]
 kernel_rfl
theorem blk_l(w:World)(os:OsState):segRun treeTable p0 w 11 (sr 6) 1 1 (sa w os).abs (blockOf (behindTheImports p0) e0 (Code.body (behindTheImports p0) e0) (@Pos.mk 0 0 0 0) [topFrame (@Pos.mk 0 0 0 0)])=some (Flow.next,(sb w os).abs,Code.body (behindTheImports p0) e0,(@Pos.mk 0 0 0 0)):=by
 refine segRun_of ?_
 rw [PySem.W.Fast.te10110043849684766642,PySem.W.Fast.te14364793385576792824,pe]
 kernel_rfl
theorem g0(p:Program)(b:List Stmt):∀w:World,(λos=>PySem.W.Fast.tw10110043849684766642 PySem.W.Fast.tw14364793385576792824 p w 11 (sr 6) 1 5874 (sb w os) (piecesOf ((pq.main.body.drop 0).take 48) en (Code.body b en) (@Pos.mk 0 0 0 0) [topFrame (@Pos.mk 0 0 0 0)]))=(λos=>some (Flow.next,sc0_ w os,Code.body b en,(@Pos.mk 299 0 373 75))):=byRow2 "special-get-raises" (P:=λw=>(λos=>PySem.W.Fast.tw10110043849684766642 PySem.W.Fast.tw14364793385576792824 p w 11 (sr 6) 1 5874 (sb w os) (piecesOf ((pq.main.body.drop 0).take 48) en (Code.body b en) (@Pos.mk 0 0 0 0) [topFrame (@Pos.mk 0 0 0 0)]))=(λos=>some (Flow.next,sc0_ w os,Code.body b en,(@Pos.mk 299 0 373 75)))) (λw=>by kernel_rfl) (λw=>by kernel_rfl)
theorem h0(b:List Stmt)(w:World)(os:OsState):segRun treeTable p0 w 11 (sr 6) 1 5874 (sb w os).abs (piecesOf ((p0.main.body.drop 0).take 48) e0 (Code.body b e0) (@Pos.mk 0 0 0 0) [topFrame (@Pos.mk 0 0 0 0)])=some (Flow.next,(sc0_ w os).abs,Code.body b e0,(@Pos.mk 299 0 373 75)):=by
 refine segRun_of ?_
 rw [PySem.W.Fast.te10110043849684766642,PySem.W.Fast.te14364793385576792824,pe]
 exact congrFun (g0 pq b w) os
theorem g1(p:Program)(b:List Stmt):∀w:World,(λos=>PySem.W.Fast.tw10110043849684766642 PySem.W.Fast.tw14364793385576792824 p w 11 (sr 6) 1 2232 (sc0_ w os) (piecesOf ((pq.main.body.drop 48).take 17) en (Code.body b en) (@Pos.mk 299 0 373 75) [topFrame (@Pos.mk 0 0 0 0)]))=(λos=>some (Flow.next,sc1_ w os,Code.body b en,(@Pos.mk 629 0 643 100))):=λw=>by kernel_rfl
theorem h1(b:List Stmt)(w:World)(os:OsState):segRun treeTable p0 w 11 (sr 6) 1 2232 (sc0_ w os).abs (piecesOf ((p0.main.body.drop 48).take 17) e0 (Code.body b e0) (@Pos.mk 299 0 373 75) [topFrame (@Pos.mk 0 0 0 0)])=some (Flow.next,(sc1_ w os).abs,Code.body b e0,(@Pos.mk 629 0 643 100)):=by
 refine segRun_of ?_
 rw [PySem.W.Fast.te10110043849684766642,PySem.W.Fast.te14364793385576792824,pe]
 exact congrFun (g1 pq b w) os
noncomputable abbrev H1:Params->Heap:=λP=>absHeap (tz P) 1052 (@Life.mk [] [] [] 0 [] [] false E [] 0 false false false 0 [2000,10,10] false 0 true [] [] 0 false)
theorem fin_l(b:List Stmt)(w:World)(os:OsState):topRun treeTable p0 w 11 (sr 6) 2 (sc1_ w os).abs ⟨doneF .next,Code.body b e0,(@Pos.mk 629 0 643 100),[topFrame (@Pos.mk 0 0 0 0)]⟩=some ⟨H1 w.params,Array.mk [],(@Drawn.mk 0 0 0 0),1562,os⟩:=by
 rw [PySem.W.Fast.te14082659384304107361,PySem.W.Fast.te14364793385576792824,pe]
 kernel_rfl
theorem run_l(w:World)(os:OsState):topRun treeTable p0 w 11 (sr 6) (12+(1+(5874+(2232+2)))) ⟨boot_heap w.params,Array.mk [],boot_drawn,boot_toks,os⟩ (topStub p0)=some ⟨H1 w.params,Array.mk [],(@Drawn.mk 0 0 0 0),1562,os⟩:=by
 refine go_top (pre_l w os) (piece_block (blk_l w os) ?k)
 rw [bs]
 exact piece_app (h0 _ w os) (piece_app (h1 _ w os) (piece_nil (fin_l _ w os)))
abbrev kF(a b:String)(s:Stmt)(m:String)(n v:Nat):Params->Obj:=λP=>(Obj.mk (@Value.type "function") none (Data.func (fk (@Str.ofString a) (@Str.ofString b) s 3 [] vn vn vn (@Value.str (@Str.ofString m) n) none (vr v) vn 0)) E)
abbrev k21:=kF "_wall" "_wall" (T 0) "__main__" 164 20
abbrev k72:=kF "__init__" "NoText.__init__" (N 5 0) "pactroom.errors" 194 71
abbrev k84:=kF "is_whole" "is_whole" (T 15) "pactroom.things" 271 83
abbrev k89:=kF "shown" "shown" (T 16) "pactroom.things" 271 88
abbrev k94:=kF "read_thing" "read_thing" (T 17) "pactroom.things" 271 93
abbrev k101:=kF "is_sign" "is_sign" (T 18) "pactroom.things" 271 100
abbrev k115:=kF "__init__" "Reader.__init__" (N 19 0) "pactroom.things" 271 114
abbrev k122:=kF "passes" "Reader.passes" (N 19 1) "pactroom.things" 271 121
abbrev k129:=kF "read_any" "Reader.read_any" (N 19 2) "pactroom.things" 271 128
abbrev k136:=kF "read_parts" "Reader.read_parts" (N 19 3) "pactroom.things" 271 135
abbrev k143:=kF "read_below" "Reader.read_below" (N 19 4) "pactroom.things" 271 142
abbrev k150:=kF "read_number" "Reader.read_number" (N 19 5) "pactroom.things" 271 149
abbrev k157:=kF "read_signs" "Reader.read_signs" (N 19 6) "pactroom.things" 271 156
abbrev k179:=kF "house" "Step.house" (N 23 0) "pactroom.steps" 399 178
abbrev k186:=kF "lock" "Step.lock" (N 23 1) "pactroom.steps" 399 185
abbrev k193:=kF "step_done" "Step.step_done" (N 23 2) "pactroom.steps" 399 192
abbrev k200:=kF "back" "Step.back" (N 23 3) "pactroom.steps" 399 199
abbrev k207:=kF "sure" "Step.sure" (N 23 4) "pactroom.steps" 399 206
abbrev k214:=kF "spelled" "Step.spelled" (N 23 5) "pactroom.steps" 399 213
abbrev k235:=kF "__init__" "CellStep.__init__" (N 24 0) "pactroom.steps" 399 234
abbrev k242:=kF "house" "CellStep.house" (N 24 1) "pactroom.steps" 399 241
abbrev k261:=kF "lock" "TakeStep.lock" (N 25 0) "pactroom.steps" 399 260
abbrev k268:=kF "step_done" "TakeStep.step_done" (N 25 1) "pactroom.steps" 399 267
abbrev k275:=kF "spelled" "TakeStep.spelled" (N 25 2) "pactroom.steps" 399 274
abbrev k294:=kF "lock" "MeanStep.lock" (N 26 0) "pactroom.steps" 399 293
abbrev k301:=kF "step_done" "MeanStep.step_done" (N 26 1) "pactroom.steps" 399 300
abbrev k308:=kF "spelled" "MeanStep.spelled" (N 26 2) "pactroom.steps" 399 307
abbrev k327:=kF "__init__" "SumStep.__init__" (N 27 0) "pactroom.steps" 399 326
abbrev k334:=kF "house" "SumStep.house" (N 27 1) "pactroom.steps" 399 333
abbrev k341:=kF "lock" "SumStep.lock" (N 27 2) "pactroom.steps" 399 340
abbrev k346:=kF "step_done" "SumStep.step_done" (N 27 3) "pactroom.steps" 399 345
abbrev k353:=kF "spelled" "SumStep.spelled" (N 27 4) "pactroom.steps" 399 352
abbrev k372:=kF "lock" "GiveStep.lock" (N 28 0) "pactroom.steps" 399 371
abbrev k379:=kF "step_done" "GiveStep.step_done" (N 28 1) "pactroom.steps" 399 378
abbrev k386:=kF "sure" "GiveStep.sure" (N 28 2) "pactroom.steps" 399 385
abbrev k393:=kF "spelled" "GiveStep.spelled" (N 28 3) "pactroom.steps" 399 392
abbrev k412:=kF "__init__" "AddStep.__init__" (N 29 0) "pactroom.steps" 399 411
abbrev k419:=kF "lock" "AddStep.lock" (N 29 1) "pactroom.steps" 399 418
abbrev k426:=kF "step_done" "AddStep.step_done" (N 29 2) "pactroom.steps" 399 425
abbrev k433:=kF "back" "AddStep.back" (N 29 3) "pactroom.steps" 399 432
abbrev k440:=kF "spelled" "AddStep.spelled" (N 29 4) "pactroom.steps" 399 439
abbrev k459:=kF "__init__" "PlusStep.__init__" (N 30 0) "pactroom.steps" 399 458
abbrev k466:=kF "step_done" "PlusStep.step_done" (N 30 1) "pactroom.steps" 399 465
abbrev k473:=kF "spelled" "PlusStep.spelled" (N 30 2) "pactroom.steps" 399 472
abbrev k492:=kF "__init__" "NeedStep.__init__" (N 31 0) "pactroom.steps" 399 491
abbrev k499:=kF "step_done" "NeedStep.step_done" (N 31 1) "pactroom.steps" 399 498
abbrev k506:=kF "spelled" "NeedStep.spelled" (N 31 2) "pactroom.steps" 399 505
abbrev k516:=kF "spell" "spell" (T 32) "pactroom.steps" 399 515
abbrev k521:=kF "read_step" "read_step" (T 33) "pactroom.steps" 399 520
abbrev k528:=kF "read_number" "read_number" (T 34) "pactroom.steps" 399 527
abbrev k535:=kF "made_step" "made_step" (T 35) "pactroom.steps" 399 534
abbrev k542:=kF "made_sum" "made_sum" (T 36) "pactroom.steps" 399 541
abbrev k557:=kF "__init__" "Pact.__init__" (N 40 0) "pactroom.pacts" 882 556
abbrev k562:=kF "spelled" "Pact.spelled" (N 40 1) "pactroom.pacts" 882 561
abbrev k574:=kF "read_pact" "read_pact" (T 41) "pactroom.pacts" 882 573
abbrev k581:=kF "read_part" "read_part" (T 42) "pactroom.pacts" 882 580
abbrev k586:=kF "houses_of" "houses_of" (T 43) "pactroom.pacts" 882 585
abbrev k593:=kF "turning" "turning" (T 44) "pactroom.pacts" 882 592
abbrev k607:=kF "__init__" "Lead.__init__" (N 47 0) "pactroom.leads" 955 606
abbrev k614:=kF "go" "Lead.go" (N 47 1) "pactroom.leads" 955 613
abbrev k621:=kF "turn" "Lead.turn" (N 47 2) "pactroom.leads" 955 620
abbrev k628:=kF "end" "Lead.end" (N 47 3) "pactroom.leads" 955 627
abbrev k635:=kF "came" "Lead.came" (N 47 4) "pactroom.leads" 955 634
abbrev k642:=kF "go_ahead" "Lead.go_ahead" (N 47 5) "pactroom.leads" 955 641
abbrev k649:=kF "go_from_end" "Lead.go_from_end" (N 47 6) "pactroom.leads" 955 648
abbrev k656:=kF "go_behind" "Lead.go_behind" (N 47 7) "pactroom.leads" 955 655
abbrev k663:=kF "naming" "Lead.naming" (N 47 8) "pactroom.leads" 955 662
abbrev k670:=kF "own_steps_done" "Lead.own_steps_done" (N 47 9) "pactroom.leads" 955 669
abbrev k677:=kF "next_house" "Lead.next_house" (N 47 10) "pactroom.leads" 955 676
abbrev k684:=kF "present_hand" "Lead.present_hand" (N 47 11) "pactroom.leads" 955 683
abbrev k691:=kF "send_step" "Lead.send_step" (N 47 12) "pactroom.leads" 955 690
abbrev k698:=kF "is_answer" "Lead.is_answer" (N 47 13) "pactroom.leads" 955 697
abbrev k719:=kF "__init__" "HeldLead.__init__" (N 48 0) "pactroom.leads" 955 718
abbrev k726:=kF "go_ahead" "HeldLead.go_ahead" (N 48 1) "pactroom.leads" 955 725
abbrev k733:=kF "came" "HeldLead.came" (N 48 2) "pactroom.leads" 955 732
abbrev k738:=kF "silent" "HeldLead.silent" (N 48 3) "pactroom.leads" 955 737
abbrev k745:=kF "done_if_all_agree" "HeldLead.done_if_all_agree" (N 48 4) "pactroom.leads" 955 744
abbrev k752:=kF "go_from_end" "HeldLead.go_from_end" (N 48 5) "pactroom.leads" 955 751
abbrev k759:=kF "go_behind" "HeldLead.go_behind" (N 48 6) "pactroom.leads" 955 758
abbrev k776:=kF "__init__" "WalkedLead.__init__" (N 49 0) "pactroom.leads" 955 775
abbrev k783:=kF "go_ahead" "WalkedLead.go_ahead" (N 49 1) "pactroom.leads" 955 782
abbrev k790:=kF "came" "WalkedLead.came" (N 49 2) "pactroom.leads" 955 789
abbrev k797:=kF "is_walking" "WalkedLead.is_walking" (N 49 3) "pactroom.leads" 955 796
abbrev k804:=kF "is_undoing" "WalkedLead.is_undoing" (N 49 4) "pactroom.leads" 955 803
abbrev k811:=kF "go_from_end" "WalkedLead.go_from_end" (N 49 5) "pactroom.leads" 955 810
abbrev k818:=kF "go_behind" "WalkedLead.go_behind" (N 49 6) "pactroom.leads" 955 817
abbrev k825:=kF "come_up" "WalkedLead.come_up" (N 49 7) "pactroom.leads" 955 824
abbrev k832:=kF "walk_rest" "WalkedLead.walk_rest" (N 49 8) "pactroom.leads" 955 831
abbrev k839:=kF "undo_rest" "WalkedLead.undo_rest" (N 49 9) "pactroom.leads" 955 838
abbrev k851:=kF "lead_of" "lead_of" (T 50) "pactroom.leads" 955 850
abbrev k858:=kF "no_value" "no_value" (T 51) "pactroom.leads" 955 857
abbrev k872:=kF "__init__" "Sheet.__init__" (N 53 0) "pactroom.sheets" 1297 871
abbrev k879:=kF "row" "Sheet.row" (N 53 1) "pactroom.sheets" 1297 878
abbrev k886:=kF "send" "Sheet.send" (N 53 2) "pactroom.sheets" 1297 885
abbrev k893:=kF "rows_told" "Sheet.rows_told" (N 53 3) "pactroom.sheets" 1297 892
abbrev k898:=kF "letters_told" "Sheet.letters_told" (N 53 4) "pactroom.sheets" 1297 897
abbrev k919:=kF "__init__" "Stand.__init__" (N 55 0) "pactroom.stands" 1363 918
abbrev k926:=kF "keep" "Stand.keep" (N 55 1) "pactroom.stands" 1363 925
abbrev k933:=kF "changes_of" "Stand.changes_of" (N 55 2) "pactroom.stands" 1363 932
abbrev k940:=kF "cell_at" "Stand.cell_at" (N 55 3) "pactroom.stands" 1363 939
abbrev k947:=kF "cells_told" "Stand.cells_told" (N 55 4) "pactroom.stands" 1363 946
abbrev k954:=kF "outcome" "Stand.outcome" (N 55 5) "pactroom.stands" 1363 953
abbrev k961:=kF "news" "Stand.news" (N 55 6) "pactroom.stands" 1363 960
abbrev k968:=kF "bound" "Stand.bound" (N 55 7) "pactroom.stands" 1363 967
abbrev k975:=kF "lost" "Stand.lost" (N 55 8) "pactroom.stands" 1363 974
abbrev k982:=kF "begun" "Stand.begun" (N 55 9) "pactroom.stands" 1363 981
abbrev k989:=kF "walked_at" "Stand.walked_at" (N 55 10) "pactroom.stands" 1363 988
abbrev k996:=kF "is_over" "Stand.is_over" (N 55 11) "pactroom.stands" 1363 995
abbrev k1010:=kF "_law_cell_at" "_law_cell_at" (T 57) "law_pactroom_k43_patience" 1486 1009
abbrev k1017:=kF "_law_step" "_law_step" (T 58) "law_pactroom_k43_patience" 1486 1016
abbrev k1022:=kF "_law_houses" "_law_houses" (T 59) "law_pactroom_k43_patience" 1486 1021
abbrev k1027:=kF "_law_ended" "_law_ended" (T 60) "law_pactroom_k43_patience" 1486 1026
abbrev k1034:=kF "_law_next" "_law_next" (T 61) "law_pactroom_k43_patience" 1486 1033
abbrev k1039:=kF "_law_due" "_law_due" (T 62) "law_pactroom_k43_patience" 1486 1038
abbrev k1046:=kF "_law_played" "_law_played" (T 63) "law_pactroom_k43_patience" 1486 1045
abbrev k1051:=kF "law" "law" (T 64) "law_pactroom_k43_patience" 1486 1050
noncomputable def Kf:Params->Frag:=λP=>(nat_lit 2,boot_o_2 P)::(nat_lit 3,c1_3 P)::(nat_lit 15,a11)::(nat_lit 17,c0_17)::(nat_lit 18,a11)::(nat_lit 20,c0_20)::(nat_lit 21,k21 P)::(nat_lit 22,c0_22)::(nat_lit 29,a11)::(nat_lit 30,c0_30 P)::(nat_lit 31,c0_31)::(nat_lit 32,c0_32)::(nat_lit 35,c0_35)::(nat_lit 42,a11)::(nat_lit 43,c0_43 P)::(nat_lit 44,c0_44)::(nat_lit 47,c0_35)::(nat_lit 54,a11)::(nat_lit 55,c0_55 P)::(nat_lit 56,c0_56)::(nat_lit 59,c0_35)::(nat_lit 66,a11)::(nat_lit 68,c0_68)::(nat_lit 69,a11)::(nat_lit 71,c0_71)::(nat_lit 72,k72 P)::(nat_lit 73,c0_73)::(nat_lit 74,c0_74 P)::(nat_lit 75,c0_75)::(nat_lit 78,a11)::(nat_lit 80,c0_80)::(nat_lit 81,a11)::(nat_lit 83,c0_83)::(nat_lit 84,k84 P)::(nat_lit 85,a11)::(nat_lit 88,c0_88)::(nat_lit 89,k89 P)::(nat_lit 90,a11)::(nat_lit 93,c0_93)::(nat_lit 94,k94 P)::(nat_lit 95,a11)::(nat_lit 97,c0_97)::(nat_lit 98,a11)::(nat_lit 100,c0_100)::(nat_lit 101,k101 P)::(nat_lit 109,a11)::(nat_lit 111,c0_111)::(nat_lit 112,a11)::(nat_lit 114,c0_114)::(nat_lit 115,k115 P)::(nat_lit 116,a11)::(nat_lit 118,c0_118)::(nat_lit 119,a11)::(nat_lit 121,c0_121)::(nat_lit 122,k122 P)::(nat_lit 123,a11)::(nat_lit 125,c0_125)::(nat_lit 126,a11)::(nat_lit 128,c0_128)::(nat_lit 129,k129 P)::(nat_lit 130,a11)::(nat_lit 132,c0_132)::(nat_lit 133,a11)::(nat_lit 135,c0_135)::(nat_lit 136,k136 P)::(nat_lit 137,a11)::(nat_lit 139,c0_139)::(nat_lit 140,a11)::(nat_lit 142,c0_142)::(nat_lit 143,k143 P)::(nat_lit 144,a11)::(nat_lit 146,c0_146)::(nat_lit 147,a11)::(nat_lit 149,c0_149)::(nat_lit 150,k150 P)::(nat_lit 151,a11)::(nat_lit 153,c0_153)::(nat_lit 154,a11)::(nat_lit 156,c0_156)::(nat_lit 157,k157 P)::(nat_lit 158,c0_158)::(nat_lit 159,c0_159 P)::(nat_lit 160,c0_160)::(nat_lit 161,c0_161)::(nat_lit 162,c0_162)::(nat_lit 165,c0_165 P)::(nat_lit 173,a11)::(nat_lit 175,c0_175)::(nat_lit 176,a11)::(nat_lit 178,c0_178)::(nat_lit 179,k179 P)::(nat_lit 180,a11)::(nat_lit 182,c0_182)::(nat_lit 183,a11)::(nat_lit 185,c0_185)::(nat_lit 186,k186 P)::(nat_lit 187,a11)::(nat_lit 189,c0_189)::(nat_lit 190,a11)::(nat_lit 192,c0_192)::(nat_lit 193,k193 P)::(nat_lit 194,a11)::(nat_lit 196,c0_196)::(nat_lit 197,a11)::(nat_lit 199,c0_199)::(nat_lit 200,k200 P)::(nat_lit 201,a11)::(nat_lit 203,c0_203)::(nat_lit 204,a11)::(nat_lit 206,c0_206)::(nat_lit 207,k207 P)::(nat_lit 208,a11)::(nat_lit 210,c0_210)::(nat_lit 211,a11)::(nat_lit 213,c0_213)::(nat_lit 214,k214 P)::(nat_lit 215,a11)::(nat_lit 216,c0_216 P)::(nat_lit 217,c0_217)::(nat_lit 218,c0_218)::(nat_lit 219,c0_219)::(nat_lit 222,c0_222)::(nat_lit 229,a11)::(nat_lit 231,c0_231)::(nat_lit 232,a11)::(nat_lit 234,c0_234)::(nat_lit 235,k235 P)::(nat_lit 236,a11)::(nat_lit 238,c0_238)::(nat_lit 239,a11)::(nat_lit 241,c0_241)::(nat_lit 242,k242 P)::(nat_lit 243,c0_243)::(nat_lit 244,c0_244 P)::(nat_lit 245,c0_245)::(nat_lit 248,c0_248)::(nat_lit 255,a11)::(nat_lit 257,c0_257)::(nat_lit 258,a11)::(nat_lit 260,c0_260)::(nat_lit 261,k261 P)::(nat_lit 262,a11)::(nat_lit 264,c0_264)::(nat_lit 265,a11)::(nat_lit 267,c0_267)::(nat_lit 268,k268 P)::(nat_lit 269,a11)::(nat_lit 271,c0_271)::(nat_lit 272,a11)::(nat_lit 274,c0_274)::(nat_lit 275,k275 P)::(nat_lit 276,a11)::(nat_lit 277,c0_277 P)::(nat_lit 278,c0_278)::(nat_lit 281,c0_248)::(nat_lit 288,a11)::(nat_lit 290,c0_290)::(nat_lit 291,a11)::(nat_lit 293,c0_293)::(nat_lit 294,k294 P)::(nat_lit 295,a11)::(nat_lit 297,c0_297)::(nat_lit 298,a11)::(nat_lit 300,c0_300)::(nat_lit 301,k301 P)::(nat_lit 302,a11)::(nat_lit 304,c0_304)::(nat_lit 305,a11)::(nat_lit 307,c0_307)::(nat_lit 308,k308 P)::(nat_lit 309,a11)::(nat_lit 310,c0_310 P)::(nat_lit 311,c0_311)::(nat_lit 314,c0_222)::(nat_lit 321,a11)::(nat_lit 323,c0_323)::(nat_lit 324,a11)::(nat_lit 326,c0_326)::(nat_lit 327,k327 P)::(nat_lit 328,a11)::(nat_lit 330,c0_330)::(nat_lit 331,a11)::(nat_lit 333,c0_333)::(nat_lit 334,k334 P)::(nat_lit 335,a11)::(nat_lit 337,c0_337)::(nat_lit 338,a11)::(nat_lit 340,c0_340)::(nat_lit 341,k341 P)::(nat_lit 342,a11)::(nat_lit 345,c0_345)::(nat_lit 346,k346 P)::(nat_lit 347,a11)::(nat_lit 349,c0_349)::(nat_lit 350,a11)::(nat_lit 352,c0_352)::(nat_lit 353,k353 P)::(nat_lit 354,c0_354)::(nat_lit 355,c0_355 P)::(nat_lit 356,c0_356)::(nat_lit 359,c0_248)::(nat_lit 366,a11)::(nat_lit 368,c0_368)::(nat_lit 369,a11)::(nat_lit 371,c0_371)::(nat_lit 372,k372 P)::(nat_lit 373,a11)::(nat_lit 375,c0_375)::(nat_lit 376,a11)::(nat_lit 378,c0_378)::(nat_lit 379,k379 P)::(nat_lit 380,a11)::(nat_lit 382,c0_382)::(nat_lit 383,a11)::(nat_lit 385,c0_385)::(nat_lit 386,k386 P)::(nat_lit 387,a11)::(nat_lit 389,c0_389)::(nat_lit 390,a11)::(nat_lit 392,c0_392)::(nat_lit 393,k393 P)::(nat_lit 394,a11)::(nat_lit 395,c0_395 P)::(nat_lit 396,c0_396)::(nat_lit 399,c0_248)::(nat_lit 406,a11)::(nat_lit 408,c0_408)::(nat_lit 409,a11)::(nat_lit 411,c0_411)::(nat_lit 412,k412 P)::(nat_lit 413,a11)::(nat_lit 415,c0_415)::(nat_lit 416,a11)::(nat_lit 418,c0_418)::(nat_lit 419,k419 P)::(nat_lit 420,a11)::(nat_lit 422,c0_422)::(nat_lit 423,a11)::(nat_lit 425,c0_425)::(nat_lit 426,k426 P)::(nat_lit 427,a11)::(nat_lit 429,c0_429)::(nat_lit 430,a11)::(nat_lit 432,c0_432)::(nat_lit 433,k433 P)::(nat_lit 434,a11)::(nat_lit 436,c0_436)::(nat_lit 437,a11)::(nat_lit 439,c0_439)::(nat_lit 440,k440 P)::(nat_lit 441,c0_441)::(nat_lit 442,c0_442 P)::(nat_lit 443,c0_443)::(nat_lit 446,c0_222)::(nat_lit 453,a11)::(nat_lit 455,c0_455)::(nat_lit 456,a11)::(nat_lit 458,c0_458)::(nat_lit 459,k459 P)::(nat_lit 460,a11)::(nat_lit 462,c0_462)::(nat_lit 463,a11)::(nat_lit 465,c0_465)::(nat_lit 466,k466 P)::(nat_lit 467,a11)::(nat_lit 469,c0_469)::(nat_lit 470,a11)::(nat_lit 472,c0_472)::(nat_lit 473,k473 P)::(nat_lit 474,c0_474)::(nat_lit 475,c0_475 P)::(nat_lit 476,c0_476)::(nat_lit 479,c0_222)::(nat_lit 486,a11)::(nat_lit 488,c0_488)::(nat_lit 489,a11)::(nat_lit 491,c0_491)::(nat_lit 492,k492 P)::(nat_lit 493,a11)::(nat_lit 495,c0_495)::(nat_lit 496,a11)::(nat_lit 498,c0_498)::(nat_lit 499,k499 P)::(nat_lit 500,a11)::(nat_lit 502,c0_502)::(nat_lit 503,a11)::(nat_lit 505,c0_505)::(nat_lit 506,k506 P)::(nat_lit 507,c0_507)::(nat_lit 508,c0_508 P)::(nat_lit 509,c0_509)::(nat_lit 512,a11)::(nat_lit 515,c0_515)::(nat_lit 516,k516 P)::(nat_lit 517,a11)::(nat_lit 520,c0_520)::(nat_lit 521,k521 P)::(nat_lit 522,a11)::(nat_lit 524,c0_524)::(nat_lit 525,a11)::(nat_lit 527,c0_527)::(nat_lit 528,k528 P)::(nat_lit 529,a11)::(nat_lit 531,c0_531)::(nat_lit 532,a11)::(nat_lit 534,c0_534)::(nat_lit 535,k535 P)::(nat_lit 536,a11)::(nat_lit 538,c0_538)::(nat_lit 539,a11)::(nat_lit 541,c0_541)::(nat_lit 542,k542 P)::(nat_lit 543,c0_543)::(nat_lit 551,a11)::(nat_lit 553,c0_553)::(nat_lit 554,a11)::(nat_lit 556,c0_556)::(nat_lit 557,k557 P)::(nat_lit 558,a11)::(nat_lit 561,c0_561)::(nat_lit 562,k562 P)::(nat_lit 563,c0_563)::(nat_lit 564,c0_564 P)::(nat_lit 565,c0_565)::(nat_lit 566,c0_566)::(nat_lit 567,c0_567)::(nat_lit 570,a11)::(nat_lit 573,c0_573)::(nat_lit 574,k574 P)::(nat_lit 575,a11)::(nat_lit 577,c0_577)::(nat_lit 578,a11)::(nat_lit 580,c0_580)::(nat_lit 581,k581 P)::(nat_lit 582,a11)::(nat_lit 585,c0_585)::(nat_lit 586,k586 P)::(nat_lit 587,a11)::(nat_lit 589,c0_589)::(nat_lit 590,a11)::(nat_lit 592,c0_592)::(nat_lit 593,k593 P)::(nat_lit 601,a11)::(nat_lit 603,c0_603)::(nat_lit 604,a11)::(nat_lit 606,c0_606)::(nat_lit 607,k607 P)::(nat_lit 608,a11)::(nat_lit 610,c0_610)::(nat_lit 611,a11)::(nat_lit 613,c0_613)::(nat_lit 614,k614 P)::(nat_lit 615,a11)::(nat_lit 617,c0_617)::(nat_lit 618,a11)::(nat_lit 620,c0_620)::(nat_lit 621,k621 P)::(nat_lit 622,a11)::(nat_lit 624,c0_624)::(nat_lit 625,a11)::(nat_lit 627,c0_627)::(nat_lit 628,k628 P)::(nat_lit 629,a11)::(nat_lit 631,c0_631)::(nat_lit 632,a11)::(nat_lit 634,c0_634)::(nat_lit 635,k635 P)::(nat_lit 636,a11)::(nat_lit 638,c0_638)::(nat_lit 639,a11)::(nat_lit 641,c0_641)::(nat_lit 642,k642 P)::(nat_lit 643,a11)::(nat_lit 645,c0_645)::(nat_lit 646,a11)::(nat_lit 648,c0_648)::(nat_lit 649,k649 P)::(nat_lit 650,a11)::(nat_lit 652,c0_652)::(nat_lit 653,a11)::(nat_lit 655,c0_655)::(nat_lit 656,k656 P)::(nat_lit 657,a11)::(nat_lit 659,c0_659)::(nat_lit 660,a11)::(nat_lit 662,c0_662)::(nat_lit 663,k663 P)::(nat_lit 664,a11)::(nat_lit 666,c0_666)::(nat_lit 667,a11)::(nat_lit 669,c0_669)::(nat_lit 670,k670 P)::(nat_lit 671,a11)::(nat_lit 673,c0_673)::(nat_lit 674,a11)::(nat_lit 676,c0_676)::(nat_lit 677,k677 P)::(nat_lit 678,a11)::(nat_lit 680,c0_680)::(nat_lit 681,a11)::(nat_lit 683,c0_683)::(nat_lit 684,k684 P)::(nat_lit 685,a11)::(nat_lit 687,c0_687)::(nat_lit 688,a11)::(nat_lit 690,c0_690)::(nat_lit 691,k691 P)::(nat_lit 692,a11)::(nat_lit 694,c0_694)::(nat_lit 695,a11)::(nat_lit 697,c0_697)::(nat_lit 698,k698 P)::(nat_lit 699,c0_699)::(nat_lit 700,c0_700 P)::(nat_lit 701,c1_701)::(nat_lit 702,c0_702)::(nat_lit 703,c0_703)::(nat_lit 706,c1_706)::(nat_lit 713,a11)::(nat_lit 715,c1_715)::(nat_lit 716,a11)::(nat_lit 718,c1_718)::(nat_lit 719,k719 P)::(nat_lit 720,a11)::(nat_lit 722,c1_722)::(nat_lit 723,a11)::(nat_lit 725,c1_725)::(nat_lit 726,k726 P)::(nat_lit 727,a11)::(nat_lit 729,c1_729)::(nat_lit 730,a11)::(nat_lit 732,c1_732)::(nat_lit 733,k733 P)::(nat_lit 734,a11)::(nat_lit 737,c1_737)::(nat_lit 738,k738 P)::(nat_lit 739,a11)::(nat_lit 741,c1_741)::(nat_lit 742,a11)::(nat_lit 744,c1_744)::(nat_lit 745,k745 P)::(nat_lit 746,a11)::(nat_lit 748,c1_748)::(nat_lit 749,a11)::(nat_lit 751,c1_751)::(nat_lit 752,k752 P)::(nat_lit 753,a11)::(nat_lit 755,c1_755)::(nat_lit 756,a11)::(nat_lit 758,c1_758)::(nat_lit 759,k759 P)::(nat_lit 760,c1_760)::(nat_lit 761,c1_761 P)::(nat_lit 762,c1_762)::(nat_lit 765,c1_706)::(nat_lit 772,a11)::(nat_lit 775,c1_775)::(nat_lit 776,k776 P)::(nat_lit 777,a11)::(nat_lit 779,c1_779)::(nat_lit 780,a11)::(nat_lit 782,c1_782)::(nat_lit 783,k783 P)::(nat_lit 784,a11)::(nat_lit 786,c1_786)::(nat_lit 787,a11)::(nat_lit 789,c1_789)::(nat_lit 790,k790 P)::(nat_lit 791,a11)::(nat_lit 793,c1_793)::(nat_lit 794,a11)::(nat_lit 796,c1_796)::(nat_lit 797,k797 P)::(nat_lit 798,a11)::(nat_lit 800,c1_800)::(nat_lit 801,a11)::(nat_lit 803,c1_803)::(nat_lit 804,k804 P)::(nat_lit 805,a11)::(nat_lit 807,c1_807)::(nat_lit 808,a11)::(nat_lit 810,c1_810)::(nat_lit 811,k811 P)::(nat_lit 812,a11)::(nat_lit 814,c1_814)::(nat_lit 815,a11)::(nat_lit 817,c1_817)::(nat_lit 818,k818 P)::(nat_lit 819,a11)::(nat_lit 821,c1_821)::(nat_lit 822,a11)::(nat_lit 824,c1_824)::(nat_lit 825,k825 P)::(nat_lit 826,a11)::(nat_lit 828,c1_828)::(nat_lit 829,a11)::(nat_lit 831,c1_831)::(nat_lit 832,k832 P)::(nat_lit 833,a11)::(nat_lit 835,c1_835)::(nat_lit 836,a11)::(nat_lit 838,c1_838)::(nat_lit 839,k839 P)::(nat_lit 840,c1_840)::(nat_lit 841,c1_841 P)::(nat_lit 842,c1_842)::(nat_lit 845,a11)::(nat_lit 847,c1_847)::(nat_lit 848,a11)::(nat_lit 850,c1_850)::(nat_lit 851,k851 P)::(nat_lit 852,a11)::(nat_lit 854,c1_854)::(nat_lit 855,a11)::(nat_lit 857,c1_857)::(nat_lit 858,k858 P)::(nat_lit 866,a11)::(nat_lit 868,c1_868)::(nat_lit 869,a11)::(nat_lit 871,c1_871)::(nat_lit 872,k872 P)::(nat_lit 873,a11)::(nat_lit 875,c1_875)::(nat_lit 876,a11)::(nat_lit 878,c1_878)::(nat_lit 879,k879 P)::(nat_lit 880,a11)::(nat_lit 882,c1_882)::(nat_lit 883,a11)::(nat_lit 885,c1_885)::(nat_lit 886,k886 P)::(nat_lit 887,a11)::(nat_lit 889,c1_889)::(nat_lit 890,a11)::(nat_lit 892,c1_892)::(nat_lit 893,k893 P)::(nat_lit 894,a11)::(nat_lit 897,c1_897)::(nat_lit 898,k898 P)::(nat_lit 899,c1_899)::(nat_lit 900,c1_900 P)::(nat_lit 901,c1_901)::(nat_lit 902,c1_902)::(nat_lit 903,c1_903)::(nat_lit 913,a11)::(nat_lit 915,c1_915)::(nat_lit 916,a11)::(nat_lit 918,c1_918)::(nat_lit 919,k919 P)::(nat_lit 920,a11)::(nat_lit 922,c1_922)::(nat_lit 923,a11)::(nat_lit 925,c1_925)::(nat_lit 926,k926 P)::(nat_lit 927,a11)::(nat_lit 929,c1_929)::(nat_lit 930,a11)::(nat_lit 932,c1_932)::(nat_lit 933,k933 P)::(nat_lit 934,a11)::(nat_lit 936,c1_936)::(nat_lit 937,a11)::(nat_lit 939,c1_939)::(nat_lit 940,k940 P)::(nat_lit 941,a11)::(nat_lit 943,c1_943)::(nat_lit 944,a11)::(nat_lit 946,c1_946)::(nat_lit 947,k947 P)::(nat_lit 948,a11)::(nat_lit 950,c1_950)::(nat_lit 951,a11)::(nat_lit 953,c1_953)::(nat_lit 954,k954 P)::(nat_lit 955,a11)::(nat_lit 957,c1_957)::(nat_lit 958,a11)::(nat_lit 960,c1_960)::(nat_lit 961,k961 P)::(nat_lit 962,a11)::(nat_lit 964,c1_964)::(nat_lit 965,a11)::(nat_lit 967,c1_967)::(nat_lit 968,k968 P)::(nat_lit 969,a11)::(nat_lit 971,c1_971)::(nat_lit 972,a11)::(nat_lit 974,c1_974)::(nat_lit 975,k975 P)::(nat_lit 976,a11)::(nat_lit 978,c1_978)::(nat_lit 979,a11)::(nat_lit 981,c1_981)::(nat_lit 982,k982 P)::(nat_lit 983,a11)::(nat_lit 985,c1_985)::(nat_lit 986,a11)::(nat_lit 988,c1_988)::(nat_lit 989,k989 P)::(nat_lit 990,a11)::(nat_lit 992,c1_992)::(nat_lit 993,a11)::(nat_lit 995,c1_995)::(nat_lit 996,k996 P)::(nat_lit 997,c1_997)::(nat_lit 998,c1_998 P)::(nat_lit 999,c1_999)::(nat_lit 1000,c1_1000)::(nat_lit 1001,c1_1001)::(nat_lit 1004,a11)::(nat_lit 1006,c1_1006)::(nat_lit 1007,a11)::(nat_lit 1009,c1_1009)::(nat_lit 1010,k1010 P)::(nat_lit 1011,a11)::(nat_lit 1013,c1_1013)::(nat_lit 1014,a11)::(nat_lit 1016,c1_1016)::(nat_lit 1017,k1017 P)::(nat_lit 1018,a11)::(nat_lit 1021,c1_1021)::(nat_lit 1022,k1022 P)::(nat_lit 1023,a11)::(nat_lit 1026,c1_1026)::(nat_lit 1027,k1027 P)::(nat_lit 1028,a11)::(nat_lit 1030,c1_1030)::(nat_lit 1031,a11)::(nat_lit 1033,c1_1033)::(nat_lit 1034,k1034 P)::(nat_lit 1035,a11)::(nat_lit 1038,c1_1038)::(nat_lit 1039,k1039 P)::(nat_lit 1040,a11)::(nat_lit 1042,c1_1042)::(nat_lit 1043,a11)::(nat_lit 1045,c1_1045)::(nat_lit 1046,k1046 P)::(nat_lit 1047,a11)::(nat_lit 1050,c1_1050)::(nat_lit 1051,k1051 P)::[]
noncomputable def Ka:List Addr:=[2,3,15,17,18,20,21,22,29,30,31,32,35,42,43,44,47,54,55,56,59,66,68,69,71,72,73,74,75,78,80,81,83,84,85,88,89,90,93,94,95,97,98,100,101,109,111,112,114,115,116,118,119,121,122,123,125,126,128,129,130,132,133,135,136,137,139,140,142,143,144,146,147,149,150,151,153,154,156,157,158,159,160,161,162,165,173,175,176,178,179,180,182,183,185,186,187,189,190,192,193,194,196,197,199,200,201,203,204,206,207,208,210,211,213,214,215,216,217,218,219,222,229,231,232,234,235,236,238,239,241,242,243,244,245,248,255,257,258,260,261,262,264,265,267,268,269,271,272,274,275,276,277,278,281,288,290,291,293,294,295,297,298,300,301,302,304,305,307,308,309,310,311,314,321,323,324,326,327,328,330,331,333,334,335,337,338,340,341,342,345,346,347,349,350,352,353,354,355,356,359,366,368,369,371,372,373,375,376,378,379,380,382,383,385,386,387,389,390,392,393,394,395,396,399,406,408,409,411,412,413,415,416,418,419,420,422,423,425,426,427,429,430,432,433,434,436,437,439,440,441,442,443,446,453,455,456,458,459,460,462,463,465,466,467,469,470,472,473,474,475,476,479,486,488,489,491,492,493,495,496,498,499,500,502,503,505,506,507,508,509,512,515,516,517,520,521,522,524,525,527,528,529,531,532,534,535,536,538,539,541,542,543,551,553,554,556,557,558,561,562,563,564,565,566,567,570,573,574,575,577,578,580,581,582,585,586,587,589,590,592,593,601,603,604,606,607,608,610,611,613,614,615,617,618,620,621,622,624,625,627,628,629,631,632,634,635,636,638,639,641,642,643,645,646,648,649,650,652,653,655,656,657,659,660,662,663,664,666,667,669,670,671,673,674,676,677,678,680,681,683,684,685,687,688,690,691,692,694,695,697,698,699,700,701,702,703,706,713,715,716,718,719,720,722,723,725,726,727,729,730,732,733,734,737,738,739,741,742,744,745,746,748,749,751,752,753,755,756,758,759,760,761,762,765,772,775,776,777,779,780,782,783,784,786,787,789,790,791,793,794,796,797,798,800,801,803,804,805,807,808,810,811,812,814,815,817,818,819,821,822,824,825,826,828,829,831,832,833,835,836,838,839,840,841,842,845,847,848,850,851,852,854,855,857,858,866,868,869,871,872,873,875,876,878,879,880,882,883,885,886,887,889,890,892,893,894,897,898,899,900,901,902,903,913,915,916,918,919,920,922,923,925,926,927,929,930,932,933,934,936,937,939,940,941,943,944,946,947,948,950,951,953,954,955,957,958,960,961,962,964,965,967,968,969,971,972,974,975,976,978,979,981,982,983,985,986,988,989,990,992,993,995,996,997,998,999,1000,1001,1004,1006,1007,1009,1010,1011,1013,1014,1016,1017,1018,1021,1022,1023,1026,1027,1028,1030,1031,1033,1034,1035,1038,1039,1040,1042,1043,1045,1046,1047,1050,1051]
theorem ke(P:Params):Ka=(Kf P).map (·.1):=by kernel_rfl
noncomputable abbrev HK:Hook:=kHook Kf Ka ke
noncomputable abbrev R:RowW:=PySem.Challenge.rw_pactroom_k43_patience.row.toRowW
noncomputable abbrev lo:List Str:=[Str.ofString "SHAPES"]
noncomputable abbrev lvv:List (Str×WData):=[]
noncomputable def qv:Program:={p0 with main:={p0.main with body:=[T 0,T 2,T 3,T 4,T 5,T 7,T 8,T 9,T 10,T 11,T 12,T 13,T 14,T 15,T 16,T 17,T 18,T 19,T 21,T 22,T 23,T 24,T 25,T 26,T 27,T 28,T 29,T 30,T 31,T 32,T 33,T 34,T 35,T 36,T 38,T 39,T 40,T 41,T 42,T 43,T 44,T 46,T 47,T 48,T 49,T 50,T 51,T 53,T 55,T 57,T 58,T 59,T 60,T 61,T 62,T 63,T 64]}}
noncomputable abbrev Xt:Shared->Bool:=λs=>xlAt qv lvv s&&recOk (RowW.records R) s
theorem size_l(w:World):((boot_heap w.params).isNs mainGlobals&&(A []:Array GenState).size==0,(boot_heap w.params).objs.size,(boot_heap w.params).nsMap mainGlobals "__annotations__")=(true,11,(sr 6)):=by kernel_rfl
theorem look1(w:World)(os:OsState):(staticsOk (importedModules p0.main.body) (boot_heap w.params) (H1 w.params)&&namesBound p0 (H1 w.params)&&gensDone ⟨H1 w.params,Array.mk [],(@Drawn.mk 0 0 0 0),1562,os⟩&&laidKept (boot_heap w.params) (H1 w.params))=true:=by kernel_rfl
theorem look2(w:World)(os:OsState):openSeen qv lo (importedModules p0.main.body) Xt true ⟨H1 w.params,Array.mk [],(@Drawn.mk 0 0 0 0),1562,os⟩=openGood qv lo:=by kernel_rfl
theorem look3(w:World)(os:OsState):Hook.obs HK ⟨H1 w.params,Array.mk [],(@Drawn.mk 0 0 0 0),1562,os⟩=Hook.val HK w:=by kernel_rfl
theorem left:LeftO p0 qv lo Xt (Hook.obs HK) (Hook.val HK) 16334:=LeftO.of_pieces (boot_open (by kernel_rfl) (by kernel_rfl) (λs=>by kernel_rfl)) size_l run_l (by decide) λw=>funext λos=>looks_pair (look1 w os) (looks_pair (look2 w os) (look3 w os))
end
end Q
end
namespace L2
open PySem PySem.Spec PyProof.Rows
section
variable {X:Cx}
theorem d8:dq X (.builtin "isinstance") (λxs H Q=>∃x t n b,xs=[x,.ty n]/\TyOf X.K H x t/\PySem.W.kitOne X.K t (.type n)=some b/\Q (.bl b) H):=by
 intro pins s σ H xs us Q I r h
 obtain ⟨x,t,n,b,rfl,ty,e,q⟩:=h
 obtain ⟨u,u2,rfl,rx,r2⟩:=rN r
 cases (show u2=Value.type n from r2)
 exact kT I rx ty e λtk=>⟨.bl b,H,I.tok _,rfl,q⟩
theorem ft:dq X (.builtin "isinstance") (λxs H Q=>∃x t C b,xs=[x,.ref C]/\TyOf X.K H x t/\PySem.W.kitOne X.K t (.ref C)=some b/\Q (.bl b) H):=by
 intro pins s σ H xs us Q I r h
 obtain ⟨x,t,C,b,rfl,ty,e,q⟩:=h
 obtain ⟨u,u2,rfl,rx,r2⟩:=rN r
 cases (show u2=Value.ref C from r2)
 exact kT I rx ty e λtk=>⟨.bl b,H,I.tok _,rfl,q⟩
theorem jW:MtR X "str.startswith" (λx vs H Q=>∃z y i,x=.str z/\vs=[.str y,.int i]/\Q (.bl (Txt.startswith3 z y i)) H):=by
 intro pins s σ H x xs v us Q I rx r h
 obtain ⟨z,y,i,rfl,rfl,q⟩:=h
 obtain ⟨t,rfl⟩:=rx
 obtain ⟨u,u2,rfl,⟨t1,rfl⟩,⟨t2,rfl⟩⟩:=rN r
 exact SC.startswith3 ⟨.bl _,H,I,rfl,q⟩
theorem kr:MtR X "str.startswith" (λx vs H Q=>∃z y,x=.str z/\vs=[.str y]/\Q (.bl (Txt.startswith z y)) H):=by
 intro pins s σ H x xs v us Q I rx r h
 obtain ⟨z,y,rfl,rfl,q⟩:=h
 obtain ⟨t,rfl⟩:=rx
 obtain ⟨u,rfl,⟨t1,rfl⟩⟩:=cA r
 exact SC.startswith ⟨.bl _,H,I,rfl,q⟩
theorem pr:MtR X "str.isdigit" (λx vs H Q=>∃z,x=.str z/\vs=[]/\Q (.bl (Txt.isdigit z)) H):=by
 intro pins s σ H x xs v us Q I rx r h
 obtain ⟨z,rfl,rfl,q⟩:=h
 obtain ⟨t,rfl⟩:=rx
 cases r
 exact SC.isdigit ⟨.bl _,H,I,rfl,q⟩
theorem kx:dq X (.type "int") (λxs H Q=>∃z n,xs=[.str z]/\PySem.intText? z=some n/\z.length<=640/\Q (.int n) H):=by
 intro pins s σ H xs us Q I r h
 obtain ⟨z,n,rfl,e,hl,q⟩:=h
 obtain ⟨u,rfl,⟨t,rfl⟩⟩:=cA r
 exact PySem.W.KIN.call_text e hl ⟨.int n,H,I.tok _,⟨_,rfl⟩,q⟩
theorem sw:SlR X (λx lo hi H Q=>∃z,x=.str z/\z.length<=sizeLine/\Q (.str (Txt.slice z lo hi)) H):=by
 intro pins s σ H x v vl vu lo hi sl Q I rx hs pl pu h
 obtain ⟨z,rfl,hz,q⟩:=h
 obtain ⟨t,rfl⟩:=rx
 refine ⟨"str",_,F.slot_str_getitem.lookup,typeIs_str _ _ _,?_⟩
 cases pl<;>cases pu
 ·exact wpAny_getItem_str_slice (l:=none) (u:=none) (st:=none) hs rfl (post_val_or_str ⟨Nat.le_trans (Txt.slice_le z _ _) hz,λt' k=>⟨.str _,H,I.tok _,⟨_,rfl⟩,q⟩⟩)
 ·exact wpAny_getItem_str_slice (l:=none) (u:=some (_,_)) (st:=none) hs rfl (post_val_or_str ⟨Nat.le_trans (Txt.slice_le z _ _) hz,λt' k=>⟨.str _,H,I.tok _,⟨_,rfl⟩,q⟩⟩)
 ·exact wpAny_getItem_str_slice (l:=some (_,_)) (u:=none) (st:=none) hs rfl (post_val_or_str ⟨Nat.le_trans (Txt.slice_le z _ _) hz,λt' k=>⟨.str _,H,I.tok _,⟨_,rfl⟩,q⟩⟩)
 ·exact wpAny_getItem_str_slice (l:=some (_,_)) (u:=some (_,_)) (st:=none) hs rfl (post_val_or_str ⟨Nat.le_trans (Txt.slice_le z _ _) hz,λt' k=>⟨.str _,H,I.tok _,⟨_,rfl⟩,q⟩⟩)
theorem oz(hc:X.calm=true):dq X (.builtin "all") (λxs H Q=>∃(p:Addr) (bs:List Bool),xs=[.ref p]/\SqL X.K H p (bs.map V.bl)/\Q (.bl (bs.all id)) H):=by
 intro pins s σ H xs us Q I r h
 obtain ⟨p,bs,rfl,hq,q⟩:=h
 obtain ⟨u,rfl,rx⟩:=cA r
 cases (show u=Value.ref p from rx)
 obtain ⟨its,rv,pl,hz⟩:=I.list hq
 have hl:=pl.isList
 have hlt:p<s.heap.objs.size:=by obtain ⟨_,e,_⟩:=hl;exact Heap.lt_size e
 have hh:X.A.handled=none:=I.ok.hd hc
 have hlen:bs.length=its.length:=by have:=rv.length;rw [List.length_map] at this;exact this
 refine call_all_walk (wpAny_pyIter_list hl ?_)
 refine ⟨s.heap.objs.size,[s.heap.objs.size,p],[s.heap.objs.size],its.toArray.size,_,_,λi=>(bs[i]?).getD true,rfl,Walks.list (A:=X.A.in1) hh _ p (Nat.ne_of_lt hlt) its.toArray,
  ⟨⟨_,Heap.get?_push_size _ rfl,rfl,rfl⟩,hl.push _⟩,λi v s' Q' E' hP hQ=>?_,λh' tk hk=>?_⟩
 ·have hP':its[i]?=some v:=by simpa using hP
  have hi:i<its.length:=(List.getElem?_eq_some_iff.mp hP').1
  have hb:(bs.map V.bl)[i]?=some (V.bl (bs[i]'(by omega))):=by rw [List.getElem?_map,List.getElem?_eq_getElem (by omega)];rfl
  obtain ⟨u',e1,e2⟩:=rv.get hb
  rw [hP'] at e1
  cases e1
  cases (show v=Value.bool _ from e2)
  have hQ':Q' ((bs[i]?).getD true) s':=hQ
  rw [List.getElem?_eq_getElem (by omega)] at hQ'
  exact wpAny_truthy_bool hQ'
 ·have e:((List.range its.toArray.size).all λi=>(bs[i]?).getD true)=bs.all id:=by
   rw [List.size_toArray,← hlen];exact LSm.range_all bs
  rw [e]
  exact ⟨.bl _,H,I.kept (LSm.kept_iter hk),rfl,q⟩
end
end L2
namespace L2
open PySem PySem.Spec PyProof.Rows
def c9(env:Env):List (Str×NameKind)->List (Str×Addr)->List (Str×Addr)
 | [],cs=>cs
 | (n,k)::r,cs=>c9 env r (if k==.free then match env.cells.lookup n with | some a=>(n,a)::cs | none=>cs else cs)
theorem fD{scope:Scope}{env:Env}(h:∀y∈scope.names,y.2=.free->∃c,env.cells.lookup y.1=some c):closureFor scope env=pure (c9 env scope.names []):=by
 have key:∀(l:List (Str×NameKind)) (cs:List (Str×Addr)),(∀y∈l,y.2=.free->∃c,env.cells.lookup y.1=some c) ->
   (forIn l cs (λ(x:Str×NameKind) (r:List (Str×Addr))=>(if (x.2==NameKind.free)=true then (do let a ← cellOf env x.1;pure (ForInStep.yield ((x.1,a)::r))) else pure (ForInStep.yield r):Sem (ForInStep (List (Str×Addr))))))=(pure (c9 env l cs):Sem _):=by
  intro l
  induction l with
  | nil=>intro cs _;rfl
  | cons y r ih =>
   intro cs hy
   obtain ⟨n,k⟩:=y
   have hr:∀z∈r,z.2=.free->∃c,env.cells.lookup z.1=some c:=λz hz=>hy z (List.mem_cons_of_mem _ hz)
   rw [List.forIn_cons]
   by_cases hk:(k==NameKind.free)=true
   ·obtain ⟨c,hc⟩:=hy (n,k) List.mem_cons_self (by simpa using hk)
    have e:cellOf env n=pure c:=by unfold cellOf;rw [hc]
    simp only [hk,if_true,e,pure_bind,c9,hc]
    exact ih _ hr
   ·have hk':(k==NameKind.free)=false:=by simpa using hk
    simp only [hk',Bool.false_eq_true,if_false,pure_bind,c9]
    exact ih _ hr
 have e:closureFor scope env=(forIn scope.names ([]:List (Str×Addr)) (λ(x:Str×NameKind) (r:List (Str×Addr))=>(if (x.2==NameKind.free)=true then (do let a ← cellOf env x.1;pure (ForInStep.yield ((x.1,a)::r))) else pure (ForInStep.yield r):Sem (ForInStep (List (Str×Addr))))) >>= λcs=>pure cs):=by
  unfold closureFor
  rfl
 rw [e,key scope.names [] h]
 all_goals rfl
theorem ja{env:Env}:∀(l:List (Str×NameKind)) (cs:List (Str×Addr)),(∀p∈cs,env.cells.lookup p.1=some p.2)->∀p∈c9 env l cs,env.cells.lookup p.1=some p.2
 | [],cs,h,p,hp=>h p hp
 | (n,k)::r,cs,h,p,hp=>by
  unfold c9 at hp
  refine ja r _ ?_ p hp
  split
  ·split
   ·rename_i a ea
    intro q hq
    rcases List.mem_cons.mp hq with e | hq
    ·rw [e];exact ea
    ·exact h q hq
   ·exact h
  ·exact h
theorem jh{env:Env}:∀(l:List (Str×NameKind)) (cs:List (Str×Addr)) {y:Str},(∃p∈cs,p.1=y)->∃p∈c9 env l cs,p.1=y
 | [],cs,y,h=>h
 | (n,k)::r,cs,y,⟨p,hp,e⟩=>by
  unfold c9
  refine jh r _ ?_
  split
  ·split
   ·exact ⟨p,List.mem_cons_of_mem _ hp,e⟩
   ·exact ⟨p,hp,e⟩
  ·exact ⟨p,hp,e⟩
theorem lq{env:Env}:∀(l:List (Str×NameKind)) (cs:List (Str×Addr)) {y:Str} {c:Addr},(y,NameKind.free)∈l->env.cells.lookup y=some c->∃p∈c9 env l cs,p.1=y
 | (n,k)::r,cs,y,c,hm,hc=>by
  unfold c9
  rcases List.mem_cons.mp hm with e | hm
  ·cases e
   refine jh r _ ?_
   rw [if_pos (by rfl),hc]
   exact ⟨_,List.mem_cons_self,rfl⟩
  ·exact lq r _ hm hc
theorem gL{α:Type}:∀{l:List (Str×α)} {p:Str×α},p∈l->∃c,l.lookup p.1=some c
 | q::l,p,h=>by
  obtain ⟨n,a⟩:=q
  rw [List.lookup_cons]
  split
  ·exact ⟨_,rfl⟩
  ·rename_i hne
   rcases List.mem_cons.mp h with e | h
   ·subst e;simp at hne
   ·exact gL h
theorem iD{env:Env}{l:List (Str×NameKind)}{y:Str}{c:Addr}(hm:(y,NameKind.free)∈l)(hc:env.cells.lookup y=some c):(c9 env l []).lookup y=some c:=by
 obtain ⟨p,hp,e⟩:=lq l [] hm hc
 obtain ⟨c',e'⟩:=gL hp
 rw [e] at e'
 have q:=ja l [] (λ_ z=>nomatch z) _ (PySem.mem_of_lookup e')
 rw [hc] at q
 rw [e']
 exact q.symm
theorem bF{env:Env}{l:List (Str×NameKind)}{y:Str}{c:Addr}(h:(c9 env l []).lookup y=some c):env.cells.lookup y=some c :=
 ja l [] (λ_ z=>nomatch z) _ (PySem.mem_of_lookup h)
theorem fb{env:Env}:∀{names:List (Str×NameKind)} {x:Str} {k:NameKind},(names.map λ(n,k)=>if (k==NameKind.free&&env.scope.kind==.function&&env.kindOf n==some .cell) then (n,NameKind.cell) else (n,k)).lookup x=some k ->
  ∃k',names.lookup x=some k'/\(k'=k\/k'=.free)
 | [],_,_,h=>by simp at h
 | (n,k0)::r,x,k,h=>by
  have ih:=@fb env r x k
  have h:List.lookup x ((if (k0==NameKind.free&&env.scope.kind==.function&&env.kindOf n==some .cell)=true then (n,NameKind.cell) else (n,k0))::_)=some k:=h
  cases hx:x==n with
  | true =>
   refine ⟨k0,by simp only [List.lookup_cons,hx],?_⟩
   by_cases hc:(k0==NameKind.free&&env.scope.kind==.function&&env.kindOf n==some .cell)=true
   ·refine .inr ?_
    simp only [Bool.and_eq_true] at hc
    exact beq_iff_eq.mp hc.1.1
   ·rw [if_neg hc] at h
    simp only [List.lookup_cons,hx] at h
    exact .inl (Option.some.inj h)
  | false =>
   have h2:List.lookup x (r.map λ(n,k)=>if (k==NameKind.free&&env.scope.kind==.function&&env.kindOf n==some .cell) then (n,NameKind.cell) else (n,k))=some k:=by
    by_cases hc:(k0==NameKind.free&&env.scope.kind==.function&&env.kindOf n==some .cell)=true
    ·rw [if_pos hc] at h;simp only [List.lookup_cons,hx] at h;exact h
    ·rw [if_neg hc] at h;simp only [List.lookup_cons,hx] at h;exact h
   obtain ⟨k',e1,e2⟩:=ih h2
   exact ⟨k',by simp only [List.lookup_cons,hx];exact e1,e2⟩
theorem fu{env:Env}:∀{names:List (Str×NameKind)} {x:Str},names.lookup x=some .free ->
  (names.map λ(n,k)=>if (k==NameKind.free&&env.scope.kind==.function&&env.kindOf n==some .cell) then (n,NameKind.cell) else (n,k)).lookup x=some .cell \/
  (names.map λ(n,k)=>if (k==NameKind.free&&env.scope.kind==.function&&env.kindOf n==some .cell) then (n,NameKind.cell) else (n,k)).lookup x=some .free
 | [],_,h=>by simp at h
 | (n,k0)::r,x,h=>by
  have ih:=@fu env r x
  show List.lookup x ((if (k0==NameKind.free&&env.scope.kind==.function&&env.kindOf n==some .cell)=true then (n,NameKind.cell) else (n,k0))::_)=some .cell\/List.lookup x ((if (k0==NameKind.free&&env.scope.kind==.function&&env.kindOf n==some .cell)=true then (n,NameKind.cell) else (n,k0))::_)=some .free
  cases hx:x==n with
  | true =>
   simp only [List.lookup_cons,hx] at h
   by_cases hc:(k0==NameKind.free&&env.scope.kind==.function&&env.kindOf n==some .cell)=true
   ·rw [if_pos hc];simp only [List.lookup_cons,hx];simp
   ·rw [if_neg hc];simp only [List.lookup_cons,hx];exact .inr (by rw [Option.some.inj h])
  | false =>
   simp only [List.lookup_cons,hx] at h
   by_cases hc:(k0==NameKind.free&&env.scope.kind==.function&&env.kindOf n==some .cell)=true
   ·rw [if_pos hc];simp only [List.lookup_cons,hx];exact ih h
   ·rw [if_neg hc];simp only [List.lookup_cons,hx];exact ih h
def Its(z:Str):It:=⟨λi _=>i<z.length,λi H x H'=>H'=H/\∃c,z.cps.toList[i]?=some c/\x=.str ⟨#[c]⟩,λi _=>z.length<=i⟩
structure StrIt(P:Program)(w:World)(it:Addr)(ty:String)(z:Str)(t:Tok):Prop where
 W:∀A':Around,A'.handled=none->Walks P w A' it [it] [it] z.cps.size (SignAt z) (λi h=>h.IsStrIter it ty z t i)
 en:∀(A:Around) (i:Nat) (s:Shared) (Q:Option Value->Shared->Prop) (E:Value->Shared->Prop),A.handled=none->s.heap.IsStrIter it ty z t i->z.cps[i]?=none ->
  (∀h',Heap.ExtBut it s.heap h'->Q none {s with heap:=h'})->wpAny (model P w) A (pyNext (.ref it)) Q E s
 me:∀(A:Around) (i:Nat) (s:Shared) (Q:Value->Shared->Prop) (E:Value->Shared->Prop),s.heap.IsStrIter it ty z t i->Q (.ref it) s->wpAny (model P w) A (pyIter (.ref it)) Q E s
 ne:["enumerate","zip","dict_itemiterator","dict_reverseitemiterator","odict_iterator","itertools.zip_longest","itertools.pairwise"].contains ty=false
theorem StrIt.ascii{P:Program}{w:World}(it:Addr)(z:Str)(t:Tok):StrIt P w it "str_ascii_iterator" z t :=
 ⟨λ_ hA=>Walks.strAscii hA it z t,λ_ _ _ _ _ hA st hx hQ=>wpAny_pyNext_ascii_end hA st hx hQ,λ_ _ _ _ _ st h=>wpAny_pyIter_striter_ascii st h,by decide⟩
theorem StrIt.wide{P:Program}{w:World}(it:Addr)(z:Str)(t:Tok):StrIt P w it "str_iterator" z t :=
 ⟨λ_ hA=>Walks.strWide hA it z t,λ_ _ _ _ _ hA st hx hQ=>wpAny_pyNext_wide_end hA st hx hQ,λ_ _ _ _ _ st h=>wpAny_pyIter_striter_wide st h,by decide⟩
theorem rQ{P:Program}{w:World}{K:PySem.W.Frag}{tg:Expr}{z:Str}{t:Tok}{it:Addr}{ty:String}(S:StrIt P w it ty z t) :
  uS P w K tg (Its z) [it] it (λi h=>h.IsStrIter it ty z t i) where
 mem:=by simp
 obj:=λi h st b hb=>by
  have e:b=it:=by simpa using hb
  subst e
  obtain ⟨o,e,c,d⟩:=st
  exact ⟨o,e,λv q=>by rw [d] at q;cases q⟩
 keep:=λi h h' st k=>by
  obtain ⟨o,e,r⟩:=st
  exact ⟨o,k it (by simp) o e,r⟩
 item:=by
  intro X hP hw hK hc i pins s σ H E I hf st hg
  subst hP hw hK
  obtain ⟨f0,f1,f2,f3,f4,f5⟩:=hf it (by simp)
  refine (S.W X.A (I.ok.hd hc)).item i s _ _ hg st λv h' tk hv st' kk=>?_
  obtain ⟨c,u,hc',rfl⟩:=hv
  have I1:Inv X pins σ H {s with heap:=h',toks:=tk}:=I.turned (λb o hb e=>kk b o (by simpa using hb) e) f0 f1 f3 f4 f5
  obtain ⟨o,e,c1,d1⟩:=id st'
  exact ⟨_,rfl,ql (s:={s with heap:=h',toks:=tk}) e c1 d1 S.ne ⟨.str ⟨#[c]⟩,H,I1,⟨u,rfl⟩,⟨rfl,c,by rw [Array.getElem?_toList];exact hc',rfl⟩,st',λb hb=>(hf b hb).1⟩⟩
 done:=by
  intro X hP hw hK hc i pins s σ H E I hf st hg
  subst hP hw hK
  obtain ⟨f0,f1,f2,f3,f4,f5⟩:=hf it (by simp)
  refine S.en X.A i s _ _ (I.ok.hd hc) st ?_ λh' eb=>⟨rfl,I.turned (t':=s.toks) (λb o hb e=>eb b o hb e) f0 f1 f3 f4 f5⟩
  exact Array.getElem?_eq_none hg
 self:=λA i s Q E st h=>S.me A i s Q E st h
def zS(tl:TE):TI:=fun σ H R=>tl σ H λx H1=>∃z,x=.str z/\R (Its z) H1
theorem xt{X:Cx}{tg l:Expr}{tl:TE}(hl:PE X l tl):PI X tg l (zS tl):=by
 intro pins s σ H R I h
 refine thn (hl pins s σ H _ I h) λv s1 ⟨x,H1,I1,r1,q1⟩=>?_
 obtain ⟨z,rfl,q⟩:=q1
 obtain ⟨t,rfl⟩:=r1
 have fin:∀(o:Obj) (ty:String),StrIt X.prog X.w s1.heap.objs.size ty z t->(s1.heap.push o).IsStrIter s1.heap.objs.size ty z t 0->PIE X pins σ tg R (.ref s1.heap.objs.size) {s1 with heap:=s1.heap.push o}:=λo ty S st=>by
  refine ⟨s1.heap.objs.size,[s1.heap.objs.size],_,Its z,H1,rfl,I1.kept (t':=s1.toks) λb o e=>Heap.get?_push_of_some _ e,rQ S,st,λb hb=>?_,q⟩
  have e:b=s1.heap.objs.size:=by simpa using hb
  subst e
  exact I1.fpOk (Nat.le_refl _) (I1.hok.fresh (Nat.le_refl _))
 cases ha:z.cps.all (·<128)
 ·exact wpAny_pyIter_wide ha (fin _ _ (.wide _ z t) ⟨_,Heap.get?_push_size _ rfl,rfl,rfl⟩)
 ·exact wpAny_pyIter_ascii ha (fin _ _ (.ascii _ z t) ⟨_,Heap.get?_push_size _ rfl,rfl,rfl⟩)
def Cx.blk(X:Cx)(N':List Str)(scope:Scope)(C:Addr)(fp:List Addr)(s:Shared)(H:Hp):Cx :=
 {X with N:=N',s₀:=s,H₀:=H,env:=compEnvC scope (c9 X.env scope.names []) C X.env,outer:=X.stack,ex:=fp,fn:=λ_=>false,pn:=[],xe:=λ_ _=>False}
structure bc(N:List Str)(sc scope:Scope)(x:Str)(N':List Str)(fv:List Nat):Prop where
 nocell:∀y∈scope.names,y.2≠.cell
 kind:scope.kind=.function
 names:∀y∈scope.names,y.2=.local->scope.names.lookup y.1=some .local
 loc:scope.names.lookup x=some .local
 free:∀y∈scope.names,y.2=.free->sc.names.lookup y.1=some .cell\/sc.names.lookup y.1=some .free
 nd:N'.Nodup
 hd:N'[0]?=some x
 len:N'.length=fv.length+1
 at_:∀j,j<fv.length->(N'[j+1]?).isSome=true/\N'[j+1]?=(fv[j]?).bind (λi=>N[i]?)/\(N'[j+1]?).bind (λy=>scope.names.lookup y)=some .free
def aW(fv:List Nat)(σ:St):St:=fv.map λk=>(σ[k]?).join
abbrev lG(ifs:List Expr)(env:Env):Sem Bool:=forIn ifs true λc r=>if r=true then do let ok ← isTrue c env (eval c env);pure (ForInStep.yield ok) else pure (ForInStep.yield r)
def PTs(X:Cx)(ifs:List Expr)(t:TT):Prop :=
 ∀(pins:List (Addr×Obj)) (s:Shared) (σ:St) (H:Hp) (Q:Bool->Hp->Prop),Inv X pins σ H s->t σ H Q->wpAny (model X.prog X.w) X.A (lG ifs X.env) (TP X pins σ Q) X.xe s
def u7:TT:=λ_ H Q=>Q true H
theorem fe{X:Cx}:PTs X [] u7:=λpins s σ H Q I h=>wpAny_pure ⟨H,I,h⟩
theorem gy{X:Cx}{c:Expr}{t:TT}(hc:PT X c t):PTs X [c] t:=by
 intro pins s σ H Q I h
 have e:lG [c] X.env=(isTrue c X.env (eval c X.env) >>= λok=>pure ok):=by
  unfold lG
  rw [List.forIn_cons]
  simp
 rw [e]
 exact wpAny_bind (thn (hc pins s σ H Q I h) λb s1 q=>wpAny_pure q)
def tLC(wi:TI)(fv:List Nat)(tt:TT)(te:TE):TE:=fun σ H Q=>wi σ H λJ H1=>∃(W:Nat->List V->Hp->Prop) (n:Nat),W 0 [] H1/\n<=sizeLine/\∀i ys H,W i ys H ->
 (J.stop i H/\∀p,H p=none->Q (.ref p) (upd H p (.lst ys))) \/
 (J.go i H/\i<n/\∀x H',J.yld i H x H'->tt (some x::aW fv σ) H' λc H2=>if c=true then te (some x::aW fv σ) H2 λy H3=>W (i+1) (ys++[y]) H3 else W (i+1) ys H2)
section
variable {X:Cx}{N':List Str}{scope:Scope}{x:Str}{fv:List Nat}
theorem qw{pins:List (Addr×Obj)}{σ:St}{H:Hp}{s:Shared}{fp:List Addr}{C:Addr}{h1:Heap}{m:Str->Option Value}{tk:Nat}{pl:List (Addr×Obj)}(S:bc X.N X.env.scope scope x N' fv)(I:Inv X pins σ H s)
  (hf:∀b∈fp,mH X pins H b)(hfo:∀b∈fp,b<s.heap.objs.size)(hC:s.heap.objs.size<=C)(kp:∀b o,s.heap.get? b=some o->h1.get? b=some o)(hn:h1.Ns C m)
  (hpl:∀p∈pl,h1.get? p.1=some p.2/\s.heap.objs.size<=p.1/\p.1≠C/\∀v,p.2.data≠.cell v) :
  Inv (X.blk N' scope C fp s H) pl (none::aW fv σ) H {s with heap:=h1,toks:=tk}:=by
 have clo:∀y c,(c9 X.env scope.names []).lookup y=some c->X.env.cells.lookup y=some c:=λy c e=>bF e
 have cell:∀y c,(c9 X.env scope.names []).lookup y=some c->∃v,s.heap.IsCell c v:=λy c e=>I.cell y c (clo y c e)
 have lt:∀y c,(c9 X.env scope.names []).lookup y=some c->c<s.heap.objs.size:=λy c e=>by obtain ⟨v,q⟩:=cell y c e;exact q.lt
 have kc:∀c v,s.heap.IsCell c v->h1.IsCell c v:=λc v q=>by obtain ⟨o,e,d⟩:=q;exact ⟨o,kp _ _ e,d⟩
 refine ⟨⟨I.ok.mod,S.kind,I.ok.glob,I.ok.blt,hC,λy z c e1 e2=>I.ok.inj y z c (clo y c e1) (clo z c e2),λy hy=>?_,λy c e=>?_,I.ok.hd,I.ok.frames,.inl rfl,λb hb=>⟨?_,λy c e z=>(hf b hb).2.2.2.2.1 y c (clo y c e) z⟩,λb o e=>I.bs b o e,Nat.le_trans I.ok.bsz I.sz,λb o e hb=>?_,λb hb hb2=>?_,I.stack,I.stkFree⟩,
  rfl,I.bare,Un.kept kp,⟨m,hn,λi y v h1' h2 h3=>?_⟩,λy c e=>?_,I.hok.fresh hC,λy c e=>I.freeC y c (clo y c e),λp hp=>?_,I.hok.kept kp,?_⟩
 ·have hy':∃k,scope.names.lookup y=some k/\k=.free:=by
   rcases hy with hy | hy
   ·obtain ⟨k',e1,e2⟩:=fb (env:=X.env) (names:=scope.names) (x:=y) (k:=.cell) hy
    rcases e2 with e2 | e2
    ·exact absurd e2 (S.nocell _ (PySem.mem_of_lookup e1))
    ·exact ⟨k',e1,e2⟩
   ·obtain ⟨k',e1,e2⟩:=fb (env:=X.env) (names:=scope.names) (x:=y) (k:=.free) hy
    rcases e2 with e2 | e2
    ·exact ⟨k',e1,e2⟩
    ·exact ⟨k',e1,e2⟩
  obtain ⟨k,e,rfl⟩:=hy'
  have hm:=PySem.mem_of_lookup e
  obtain ⟨c,hc⟩:=I.ok.has y (S.free _ hm rfl)
  exact ⟨c,iD hm hc⟩
 ·exact (Bool.false_ne_true (show false=true from e)).elim
 ·exact Nat.ne_of_lt (Nat.lt_of_lt_of_le (hfo b hb) hC)
 ·have e':=e
  rcases (hf b hb).2.2.2.1 with z | z
  ·exact I.ok.noex b o e z
  ·exact absurd (Nat.lt_of_lt_of_le (Heap.lt_size e) (Nat.le_trans I.ok.bsz z)) (Nat.lt_irrefl _)
 ·have q:=I.stkSub b hb2
  rcases List.mem_cons.mp q with z | z
  ·exact (hf b hb).2.1 z
  ·exact (hf b hb).2.2.1 z
 ·cases i with
  | zero =>
   have z:(none:Option V)=some v:=Option.some.inj h2
   cases z
  | succ j =>
   have h2':(aW fv σ)[j]?=some (some v):=h2
   unfold aW at h2'
   rw [List.getElem?_map] at h2'
   cases ej:fv[j]? with
   | none=>rw [ej] at h2';cases h2'
   | some k =>
    rw [ej] at h2'
    have h4:(σ[k]?).join=some v:=Option.some.inj h2'
    have h5:σ[k]?=some (some v):=by
     cases es:σ[k]? with
     | none=>rw [es] at h4;cases h4
     | some w'=>rw [es] at h4;rw [show w'=some v from h4]
    have hj:j<fv.length:=(List.getElem?_eq_some_iff.mp ej).1
    obtain ⟨_,a1,a2⟩:=S.at_ j hj
    have h1'':N'[j+1]?=some y:=h1'
    rw [h1''] at a1 a2
    rw [ej] at a1
    have a3:X.N[k]?=some y:=a1.symm
    have a4:scope.names.lookup y=some .free:=a2
    have hm:=PySem.mem_of_lookup a4
    have kd:X.env.kindOf y=some .cell\/X.env.kindOf y=some .free:=S.free _ hm rfl
    obtain ⟨mX,_,hlX⟩:=I.loc
    obtain ⟨u,ru,lk⟩:=hlX k y v a3 h5 (kd.elim (λz=>.inr (.inl z)) λz=>.inr (.inr z))
    refine ⟨u,ru,.inr ?_⟩
    rcases lk with ⟨z,_⟩ | ⟨_,c,hc,hcell⟩
    ·rcases kd with z' | z'<;>rw [z'] at z<;>cases z
    ·exact ⟨fu (env:=X.env) a4,c,iD hm hc,kc _ _ hcell⟩
 ·obtain ⟨v,q⟩:=cell y c e
  exact ⟨v,kc _ _ q⟩
 ·have hp':p∈pl:=hp
  obtain ⟨e,l1,l2,d⟩:=hpl p hp'
  exact ⟨e,I.hok.fresh l1,l2,λz=>absurd (I.stkSub _ z) (λq=>by
   rcases List.mem_cons.mp q with q | q
   ·exact absurd I.lt (by rw [← q];exact Nat.not_lt.mpr l1)
   ·exact I.nofs l1 q),d⟩
 ·show (none::aW fv σ).length=N'.length
  rw [S.len]
  unfold aW
  simp
end
end L2
namespace L2
open PySem PySem.Spec PyProof.Rows
theorem nox{α:Type}{t:Sem α}{Q Q':α->Shared->Prop}{M:Model}{A:Around}{E:Value->Shared->Prop}{s:Shared}(h:wpAny M A t Q (λ_ _=>False) s)(hQ:∀a s,Q a s->Q' a s):wpAny M A t Q' E s:=wpAny_mono h hQ λ_ _ f=>f.elim
set_option maxHeartbeats 1600000 in
theorem fY{X:Cx}{elt iter:Expr}{x:Str}{px:Pos}{ifs:List Expr}{scope:Scope}{pos:Pos}{N':List Str}{fv:List Nat}{wi:TI}{tt:TT}{te:TE}
  (S:bc X.N X.env.scope scope x N' fv)(hc:X.calm=true)(hi:PI X (.Name x px) iter wi)
  (ht:∀C fp s H,PTs (X.blk N' scope C fp s H) ifs tt)(he:∀C fp s H,PE (X.blk N' scope C fp s H) elt te)
  (hs:∀x,foldedSetIterable iter X.env x=pure x:=by intro _;rfl) :
  PE X (.ListComp elt [⟨.Name x px,iter,ifs,0⟩] scope pos) (tLC wi fv tt te):=by
 intro pins s σ H Q I h
 rw [eval_ListComp]
 refine wpAny_comprehension_free (use:=none) rfl hs (fD λy hy hk=>I.ok.has y.1 (S.free y hy hk)) S.kind S.names
  (wpAny_mono (hi pins s σ H _ I h) (λxv s1 h1=>wpAny_mono h1 (λitv s2 h2=>?_) λ_ _ e=>e) λ_ _ e=>e)
 obtain ⟨it,fp,tn,J,H2,rfl,I2,T,st2,f2,W,n,w0,hn,turn⟩:=h2
 refine wpAny_newObj_type (wpAny_newFunctionEnv S.nocell (by intro y hy;simp at hy) (λh1 hns hsb=>?_) S.kind)
 dsimp only at hns hsb ⊢
 generalize hH:s2.heap.push {cls:=.type "list",dict:=none,data:=.seq ([]:List Value).toArray}=G at hns hsb ⊢
 have hG:G.objs.size=s2.heap.objs.size+1:=by rw [← hH,Heap.size_push]
 have kpG:∀b o,s2.heap.get? b=some o->G.get? b=some o:=λb o e=>hH▸Heap.get?_push_of_some _ e
 have kp1:∀b o,b<G.objs.size->G.get? b=some o->h1.get? b=some o:=λb o lt e=>hsb.extBut b o (Nat.ne_of_lt lt) (Heap.get?_push_of_some _ e)
 have kp:∀b o,s2.heap.get? b=some o->h1.get? b=some o:=λb o e=>kp1 b o (by rw [hG];exact Nat.lt_succ_of_lt (Heap.lt_size e)) (kpG b o e)
 have hD:h1.PlainList s2.heap.objs.size #[]:=⟨_,kp1 _ _ (by rw [hG];exact Nat.lt_succ_self _) (hH▸Heap.get?_push_size _ rfl)⟩
 have hDC:s2.heap.objs.size≠G.objs.size:=by rw [hG];exact Nat.ne_of_lt (Nat.lt_succ_self _)
 have hC:s2.heap.objs.size<=G.objs.size:=by rw [hG];exact Nat.le_succ _
 have hfo:∀b∈fp,b<s2.heap.objs.size:=λb hb=>by obtain ⟨o,e,_⟩:=T.obj 0 _ st2 b hb;exact Heap.lt_size e
 have stat:∀{H':Hp} {pl:List (Addr×Obj)},(∀b∈fp,H' b=none)->(∀p∈pl,p.1∉fp)->∀b∈fp,mH (X.blk N' scope G.objs.size fp s2 H2) pl H' b:=λ{H' pl} hn hpl b hb=>by
  obtain ⟨_,g1,g2,g3,g4,g5⟩:=f2 b hb
  refine ⟨hn b hb,Nat.ne_of_lt (Nat.lt_of_lt_of_le (hfo b hb) hC),λz=>?_,.inl hb,λy c e=>g4 y c (bF e),λp hp e=>?_⟩
  ·rcases List.mem_cons.mp (I2.stkSub b z) with q | q
   ·exact g1 q
   ·exact g2 q
  ·exact hpl p hp (e▸hb)
 have hDf:s2.heap.objs.size∉fp:=λz=>absurd (hfo _ z) (Nat.lt_irrefl _)
 have hlc:(X.blk N' scope G.objs.size fp s2 H2).env.scope.names.lookup x=some .local:=lookup_relabel_local S.loc
 have hcl:∀y c,(X.blk N' scope G.objs.size fp s2 H2).env.cells.lookup y=some c->c≠s2.heap.objs.size:=λy c e z=>by
  obtain ⟨v,q⟩:=I2.cell y c (bF e)
  exact absurd q.lt (by rw [z];exact Nat.lt_irrefl _)
 have pin1:∀{s':Shared} {H':Hp} {ob:Obj} {i:Nat} {ys:List V},Inv (X.blk N' scope G.objs.size fp s2 H2) [] (none::aW fv σ) H' s'->s'.heap.get? s2.heap.objs.size=some ob->(∀v,ob.data≠.cell v)->H' s2.heap.objs.size=none ->
   Inv (X.blk N' scope G.objs.size fp s2 H2) [(s2.heap.objs.size,ob)] (none::aW fv σ) H' s':=λ{s' H' ob i ys} J1 e d f=>J1.pins_of λp hp=>by
  have z:p=(s2.heap.objs.size,ob):=by simpa using hp
  subst z
  refine ⟨e,f,hDC,λz=>?_,d⟩
  rcases List.mem_cons.mp (I2.stkSub _ z) with q | q
  ·exact absurd I2.lt (by rw [← q];exact Nat.lt_irrefl _)
  ·exact I2.nofs (Nat.le_refl _) q
 have loop:∀s3:Shared,s3={s2 with heap:=h1,toks:=s2.toks+([]:List (Str×Value)).length} ->
   codeAny (model X.prog X.w) X.A (.compLoop (.ListComp elt [⟨.Name x px,iter,ifs,0⟩] scope pos) 0 (.ref it) (.ref s2.heap.objs.size) (X.blk N' scope G.objs.size fp s2 H2).env)
    (compPost (model X.prog X.w) X.A X.xe none (EP X pins σ Q) (.ref s2.heap.objs.size) G.objs.size) s3:=by
  rintro s3 rfl
  refine codeAny_compLoop_tests (λk s'=>∃i ys H' its,k=n+1-i/\i<=n/\ys.length<=i/\Vals ys its/\s'.heap.PlainList s2.heap.objs.size its.toArray /\
   Inv (X.blk N' scope G.objs.size fp s2 H2) [] (none::aW fv σ) H' s'/\H' s2.heap.objs.size=none/\tn i s'.heap/\(∀b∈fp,H' b=none)/\W i ys H') ?_ (n+1)
   ⟨0,[],H2,[],rfl,Nat.zero_le _,Nat.le_refl _,.nil,hD,qw S I2 f2 hfo hC kp hns (λp hp=>nomatch hp),I2.hok.fresh (Nat.le_refl _),T.keep _ _ _ st2 λb _ o e=>kp b o e,λb hb=>(f2 b hb).1,w0⟩
  rintro k s4 ⟨i,ys,H4,its,rfl,hin,hyi,rv,pl4,I4,fD4,st4,ff4,w4⟩
  obtain ⟨cnt,eD⟩:=id pl4
  have I4p:=pin1 (i:=i) (ys:=ys) I4 eD (λv z=>by cases z) fD4
  have np:∀p∈[(s2.heap.objs.size,({cls:=.type "list",data:=.seq its.toArray cnt}:Obj))],p.1∉fp:=λp hp=>by
   have z:p=(s2.heap.objs.size,({cls:=.type "list",data:=.seq its.toArray cnt}:Obj)):=by simpa using hp
   subst z;exact hDf
  rcases turn i ys H4 w4 with ⟨stop,fin⟩ | ⟨go,hi2,step⟩
  ·refine wpAny_mono (T.done (X.blk N' scope G.objs.size fp s2 H2) rfl rfl rfl hc i _ s4 _ H4 _ I4p (stat ff4 np) st4 stop) (λr s5 ⟨hr,I5⟩=>?_) λ_ _ e=>e
   subst hr
   obtain ⟨m5,hm5,_⟩:=I5.loc
   have eD5:s5.heap.get? s2.heap.objs.size=some {cls:=.type "list",data:=.seq its.toArray cnt}:=(I5.pin _ (List.mem_append_right _ List.mem_cons_self)).1
   refine ⟨m5,hm5,λh' sb=>⟨.ref s2.heap.objs.size,upd H4 s2.heap.objs.size (.lst ys),?_,rfl,fin _ fD4⟩⟩
   have ltC:∀{b:Addr} {o:Obj},s2.heap.get? b=some o->b≠G.objs.size:=λ{b o} e=>Nat.ne_of_lt (Nat.lt_of_lt_of_le (Heap.lt_size e) hC)
   have fD2:H2 s2.heap.objs.size=none:=I2.hok.fresh (Nat.le_refl _)
   have ltD:∀{b:Addr} {o:Obj},s2.heap.get? b=some o->b≠s2.heap.objs.size:=λ{b o} e=>Nat.ne_of_lt (Heap.lt_size e)
   have B:=I5.base
   refine I2.call' (s':={s5 with heap:=h'}) (ch:=fp) I5.os ⟨λb o e nb hb hx=>?_,λb o e nb hb hx=>?_,λb o e nb hx=>?_,λb o e hx=>?_,λb xs e=>?_,λb o u e=>?_,λb ps e=>?_⟩ ?_ I5.bare λb hb=>?_
   ·exact sb.extBut b o (ltC e) (B.keep b o e nb hb hx)
   ·obtain ⟨sl,q⟩:=B.slot b o e nb hb hx
    exact ⟨sl,sb.extBut b _ (ltC e) q⟩
   ·rw [ay (ltD e)];exact B.free b o e nb hx
   ·obtain ⟨o',q⟩:=B.there b o e hx
    exact ⟨o',sb.extBut b o' (ltC e) q⟩
   ·have e':H2 b=some (.tup xs):=e
    rw [ay (ah e' fD2)];exact B.tups b xs e
   ·have e':H2 b=some (.frz o u):=e
    rw [ay (ah e' fD2)];exact B.frzs b o u e
   ·have e':H2 b=some (.tbl ps):=e
    rw [ay (ah e' fD2)];exact B.tbls b ps e
   ·intro b u e
    by_cases hb:b=s2.heap.objs.size
    ·subst hb
     rw [ae] at e
     cases e
     exact ⟨Nat.le_trans hyi (Nat.le_trans hin hn),its,cnt,rv,sb.extBut _ _ hDC eD5⟩
    ·rw [ay hb] at e
     have fC:H4 G.objs.size=none:=I5.free
     refine (I5.hok b u e).stay (λc v hc' q=>sb.extBut c v ?_ q) (λc q=>by rw [ay (ah q fD4)];exact q) λc xs q=>by rw [ay (ah q fD4)];exact q
     rcases hc' with z | z
     ·subst z;exact ah e fC
     ·exact ah z fC
   ·obtain ⟨_,g1,g2,g3,g4,g5⟩:=f2 b hb
    exact ⟨g3,g1,g4,g5⟩
  ·refine wpAny_mono (T.item (X.blk N' scope G.objs.size fp s2 H2) rfl rfl rfl hc i _ s4 _ H4 _ I4p (stat ff4 np) st4 go) (λr s5 ⟨u,hr,h5⟩=>?_) λ_ _ e=>e
   subst hr
   show wpAny _ _ (letOwnedTupleGo (.Name x px) (.ref it) u >>= λ_=>assign (.Name x px) (X.blk N' scope G.objs.size fp s2 H2).env u) _ _ s5
   refine wpAny_bind (wpAny_mono h5 (λ_ s6 ⟨xv,H6,I6,r6,y6,st6,ff6⟩=>?_) λ_ _ e=>e)
   have I6':=I6.pinned (stat ff6 np) (T.obj _ _ st6)
   have out:∀{σ':St} {H':Hp} {s':Shared},Inv (X.blk N' scope G.objs.size fp s2 H2) ([(s2.heap.objs.size,({cls:=.type "list",data:=.seq its.toArray cnt}:Obj))]++iX fp s6.heap) σ' H' s' ->
     s'.heap.PlainList s2.heap.objs.size its.toArray/\H' s2.heap.objs.size=none/\(∀b∈fp,H' b=none)/\(∀b∈fp,∀o,s6.heap.get? b=some o->s'.heap.get? b=some o):=λ{σ' H' s'} J1=>by
    have q:=J1.pin (s2.heap.objs.size,({cls:=.type "list",data:=.seq its.toArray cnt}:Obj)) (List.mem_append_right _ (List.mem_append_left _ List.mem_cons_self))
    refine ⟨⟨cnt,q.1⟩,q.2.1,λb hb=>?_,λb hb o e=>(J1.pin (b,o) (List.mem_append_right _ (List.mem_append_right _ (cK hb e)))).1⟩
    obtain ⟨o,e,d⟩:=T.obj _ _ st6 b hb
    exact (J1.pin (b,o) (List.mem_append_right _ (List.mem_append_right _ (cK hb e)))).2.1
   refine nox ((fg (X:=X.blk N' scope G.objs.size fp s2 H2) (i:=0) S.nd S.hd (.inl hlc) (.inr hlc)) _ s6 _ H6 xv u (fun σ' H'=>σ'=some xv::aW fv σ/\H'=H6) I6' r6 ⟨rfl,rfl⟩) λ_ s7 ⟨σ7,H7,I7,e7,e7'⟩=>?_
   subst e7 e7'
   refine nox (ht _ _ _ _ _ s7 _ H7 _ I7 (step xv H7 y6)) λok s8 ⟨H8,I8,q8⟩=>?_
   cases ok with
   | false =>
    obtain ⟨o1,o2,o3,o4⟩:=out I8
    exact ⟨n+1-(i+1),by omega,i+1,ys,H8,its,rfl,hi2,Nat.le_succ_of_le hyi,rv,o1,(I8.pins_of (pins':=[]) λp hp=>nomatch hp).weak (σ':=none::aW fv σ) rfl (λj v e=>by
     cases j with
     | zero=>cases (show (none:Option V)=some v from Option.some.inj e)
     | succ j=>exact e),o2,T.keep _ _ _ st6 o4,o3,q8⟩
   | true =>
    refine nox (he _ _ _ _ _ s8 _ H8 _ I8 q8) λyv s9 ⟨y,H9,I9,r9,q9⟩=>?_
    obtain ⟨o1,o2,o3,o4⟩:=out I9
    have hlen:=rv.length
    refine wpAny_list_append_plain (hsz:=by rw [List.size_toArray,← hlen];exact Nat.le_trans hyi (Nat.le_trans hin hn)) o1 λh' pl' sb'=>?_
    have I9':Inv (X.blk N' scope G.objs.size fp s2 H2) [] (some xv::aW fv σ) H9 {s9 with heap:=h'} :=
     (I9.pins_of (pins':=[]) λp hp=>nomatch hp).turned (t':=s9.toks) (it:=s2.heap.objs.size) (λb o hb e=>sb'.extBut b o hb e) o2 hDC (.inr (Nat.le_refl _)) hcl (λp hp=>nomatch hp)
    refine ⟨n+1-(i+1),by omega,i+1,ys++[y],H9,its++[yv],rfl,hi2,by rw [List.length_append];exact Nat.succ_le_succ hyi,rv.append (.cons r9 .nil),?_,I9'.weak (σ':=none::aW fv σ) rfl (λj v e=>by
     cases j with
     | zero=>cases (show (none:Option V)=some v from Option.some.inj e)
     | succ j=>exact e),o2,T.keep _ _ _ st6 λb hb o e=>sb'.extBut b o (λz=>hDf (z▸hb)) (o4 b hb o e),o3,q9⟩
    have e9:(its++[yv]).toArray=its.toArray.push yv:=by simp
    rw [e9]
    exact pl'
 exact codeAny_compStart_list (loop _ rfl) (T.self _ 0 _ _ _ (T.keep _ _ _ st2 λb _ o e=>kp b o e) (loop _ rfl))
end L2
namespace L2
open PySem PySem.Spec PyProof.Rows
theorem oK{ys:List Str}:∀{us:List Value},Vals (ys.map V.str) us->StrsAre us ys:=by
 induction ys with
 | nil=>intro us r;rw [List.map_nil] at r;cases r;exact .nil
 | cons y ys ih =>
  intro us r
  rw [List.map_cons] at r
  cases r with
  | cons r1 r2 =>
   obtain ⟨t,e⟩:=r1
   subst e
   exact .cons y t (ih r2)
theorem qi{X:Cx}:MtR X "str.join" (λx vs H Q=>∃(sep:Str) (p:Addr) (ys:List Str),x=.str sep/\vs=[.ref p]/\SqL X.K H p (ys.map V.str)/\(ys.map (·.length)).sum+ys.length*sep.length<=16777216/\Q (.str (Str.join sep ys)) H):=by
 intro pins s σ H x xs v us Q I rx r h
 obtain ⟨sep,p,ys,rfl,rfl,hq,hok,q⟩:=h
 obtain ⟨t,rfl⟩:=rx
 obtain ⟨u,rfl,rp⟩:=cA r
 cases (show u=Value.ref p from rp)
 obtain ⟨its,rv,pl,hz⟩:=I.list hq
 refine join_list pl.isList (by simpa using oK rv) hok λt' k=>⟨.str _,H,I.tok _,⟨_,rfl⟩,?_⟩
 rw [eq_of_beq (join_closes (sep:=sep) (sep':=sep) (ys:=ys) rfl)]
 exact q
end L2
namespace L2
open PySem PySem.Spec PyProof.Rows
end L2
namespace L2
open PySem PySem.Spec PyProof.Rows
open Builtin Builtin.Str
theorem kP(c:Nat):∀ys:List Str,ys.length<=(Str.join ⟨#[c]⟩ ys).length+1
 | []=>Nat.zero_le _
 | [y]=>by simp
 | y::u::ys=>by
  have ih:=kP c (u::ys)
  rw [join_cons_cons]
  have e:(y++(⟨#[c]⟩:Str)++Str.join ⟨#[c]⟩ (u::ys)).length=y.length+1+(Str.join ⟨#[c]⟩ (u::ys)).length:=by
   show ((y.cps++#[c])++(Str.join ⟨#[c]⟩ (u::ys)).cps).size=_
   rw [Array.size_append,Array.size_append]
   rfl
  rw [e,List.length_cons]
  omega
theorem iH:∀(l:List (Str×Tok)),Vals ((l.map (·.1)).map V.str) (strValues l)
 | []=>.nil
 | p::l=>.cons ⟨p.2,rfl⟩ (iH l)
section
variable {X:Cx}
theorem rg:MtR X "str.split" (λx vs H Q=>∃(z:Str) (c:Nat),x=.str z/\vs=[.str ⟨#[c]⟩]/\z.length<=1000000/\∀p,H p=none->Q (.ref p) (upd H p (.lst ((Txt.split z ⟨#[c]⟩).map V.str)))):=by
 intro pins s σ H x xs v us Q I rx r h
 obtain ⟨z,c,rfl,rfl,hz,q⟩:=h
 obtain ⟨t,rfl⟩:=rx
 obtain ⟨u,rfl,⟨t1,rfl⟩⟩:=cA r
 have hs:(1000002:Nat)<=sizeLine:=by decide
 have many:(Txt.split z ⟨#[c]⟩).length<=sizeLine:=by
  have:=kP c (Txt.split z ⟨#[c]⟩)
  rw [StrLaws.join_split] at this
  omega
 have fin:∀(l:List (Str×Tok)) (k:Nat),l.map (·.1)=Txt.split z ⟨#[c]⟩->EP X pins σ Q (.ref s.heap.objs.size) {s with toks:=k,heap:=s.heap.push {cls:=.type "list",data:=.seq (strValues l).toArray}}:=λl k el =>
  ⟨.ref s.heap.objs.size,_,I.laid (t':=k) (o:=.lst ((Txt.split z ⟨#[c]⟩).map V.str)) (λb o e=>Heap.get?_push_of_some _ e) (Nat.le_refl _)
   (show ObjOk X.prog X.w _ _ _ (.lst ((Txt.split z ⟨#[c]⟩).map V.str)) from ⟨by rw [List.length_map];exact many,strValues l,0,el▸iH l,Heap.get?_push_size _ rfl⟩),rfl,q _ (I.hok.fresh (Nat.le_refl _))⟩
 have hy:((⟨#[c]⟩:Str).length==0)=false:=rfl
 cases h1:(decide (z.length<(⟨#[c]⟩:Str).length)||decide (strKind z<strKind ⟨#[c]⟩)) with
 | true =>
  have es:Txt.split z ⟨#[c]⟩=[z]:=by unfold Txt.split;rw [if_pos h1]
  exact call_meets F.slot_str_split (typeIs_str _ _ _) F.entry_str_split (F.args_str_split_2 _ _) (meets_str_split_cannot_occur z ⟨#[c]⟩ t t1 h1) (fin [(z,t)] s.toks es.symm)
 | false =>
  cases hf:(occurrences z ⟨#[c]⟩ 0 z.length (z.length+1)).isEmpty with
  | true =>
   have es:Txt.split z ⟨#[c]⟩=[z]:=by unfold Txt.split;rw [if_neg (by rw [h1];decide),if_pos hf]
   exact call_meets F.slot_str_split (typeIs_str _ _ _) F.entry_str_split (F.args_str_split_2 _ _) (meets_str_split_not_found z ⟨#[c]⟩ t t1 h1 hy hf) (fin [(z,t)] s.toks es.symm)
  | false =>
   have es:Txt.split z ⟨#[c]⟩=partsBetween z (occurrences z ⟨#[c]⟩ 0 z.length (z.length+1)) (⟨#[c]⟩:Str).length:=by unfold Txt.split;rw [if_neg (by rw [h1];decide),if_neg (by rw [hf];decide)]
   refine call_meets F.slot_str_split (typeIs_str _ _ _) F.entry_str_split (F.args_str_split_2 _ _) (meets_str_split_sep z ⟨#[c]⟩ t t1 h1 hy hf (by omega) (by rw [← es];exact many)) ?_
   rw [strsFrom_eq]
   exact fin _ _ ((numbered_texts _ _).trans es.symm)
theorem qc{body:List Stmt}{h₀:ExceptHandler}{hs:List ExceptHandler}{pos:Pos}{t:TS}(hb:PSs X.nox body t):PS X (.Try body (h₀::hs) [] [] pos) t:=by
 intro pins s σ H D I h
 refine wpAny_Try_except (wpAny_mono (hb pins s σ H D (I.wish _) h) (λf s1 q=>?_) λ_ _ e=>e.elim)
 cases f with
 | next=>exact wpAny_execs_nil (SP.unwish (f:=.next) q)
 | brk=>exact SP.unwish (f:=.brk) q
 | cont=>exact SP.unwish (f:=.cont) q
 | ret v=>exact SP.unwish (f:=.ret v) q
end
end L2
namespace L2
open PySem PySem.Spec PyProof.Rows
end L2
namespace L2
open PySem PySem.Spec PyProof.Rows
end L2
namespace L2
open PySem PySem.Spec PyProof.Rows
def Cov(l:List Env)(h0:Heap)(H:Hp)(B h:Heap):Prop:=∀b o,h.get? b=some o->b∉frs l->(H b≠none\/∃o0,h0.get? b=some o0)->B.get? b=some o
def Fly(l:List Env)(h0:Heap)(H:Hp)(ea C:Addr)(h:Heap):Prop:=∃B a0,Heap.FlyingW B l ea (.ref C) a0 h/\Cov l h0 H B h
section
variable {l:List Env}{H:Hp}{B h h' hc:Heap}{P:Program}{w:World}
theorem Cov.stay(c:Cov l hc H B h)(st:B.StaysIn h'):∀b o,h.get? b=some o->b∉frs l->(H b≠none\/∃o0,hc.get? b=some o0)->h'.get? b=some o:=λb o e nb hb=>st b o (c b o e nb hb)
theorem HOk.moved(x:HOk P w H h)(c:Cov l hc H B h)(st:B.StaysIn h')(fr:∀b∈frs l,H b=none):HOk P w H h':=λa o e=>by
 refine (x a o e).stay (λb u hb q=>?_) (λb q=>q) λb xs q=>q
 have tr:H b≠none:=by
  rcases hb with rfl | hb
  ·rw [e];intro z;cases z
  ·rw [hb];intro z;cases z
 exact c.stay st b u q (λz=>tr (fr b z)) (.inl tr)
theorem Un.moved{fs:List Addr}{H0:Hp}{h0:Heap}(u:Un fs [] H0 H h0 h)(c:Cov l hc H B h)(st:B.StaysIn h')(sm:h.UpToSlots h')(ff:h.FunFrames B l)(hn:∀b o,h0.get? b=some o->∃o',hc.get? b=some o')
  (hf:∀b∈fs,b∈frs l)(hl:∀b o,h0.get? b=some o->b∈frs l->b∈fs):Un fs [] H0 H h0 h':=by
 have kp:∀b o0 o,h0.get? b=some o0->b∉fs->h.get? b=some o->h'.get? b=some o:=λb o0 o e0 nb e=>c.stay st b o e (λz=>nb (hl b o0 e0 z)) (.inr (hn b o0 e0))
 have sl:∀b o,b∈fs->h.get? b=some o->∃sl,h'.get? b=some {o with slots:=sl}:=λb o hb e=>by
  obtain ⟨_,o',e',d⟩:=ff.mem (show b∈l.filterMap (·.frame) from hf b hb)
  rw [e] at e'
  cases e'
  exact sm b o e d
 refine ⟨λb o e z nb hx=>kp b o o e nb (u.keep b o e z nb hx),λb o e z hb hx=>?_,u.free,λb o e hx=>?_,u.tups,u.frzs,u.tbls⟩
 ·obtain ⟨s1,q⟩:=u.slot b o e z hb hx
  obtain ⟨s2,q2⟩:=sl b _ hb q
  exact ⟨s2,q2⟩
 ·obtain ⟨o1,q⟩:=u.there b o e hx
  by_cases hb:b∈fs
  ·obtain ⟨s2,q2⟩:=sl b _ hb q
   exact ⟨_,q2⟩
  ·exact ⟨o1,kp b o o1 e hb q⟩
end
section
variable {X:Cx}{E:XK}{pins:List (Addr×Obj)}{σ:St}{H H':Hp}{s s':Shared}
theorem oo(D:X.stack=X.env::X.outer)(fr:X.env.frame=some X.env.locals):frs X.stack=X.env.locals::frs X.outer:=by
 rw [D]
 show List.filterMap _ (X.env::X.outer)=_
 rw [List.filterMap_cons,fr]
 rfl
end
end L2
namespace L2
open PySem PySem.Spec PyProof.Rows
theorem xy{K:PySem.W.Frag}{h:Heap}{mg:Str->Option Value}{x:Str}{C:Addr}{bm:List Value}{new:String}(kin:K.In h)(hm:mg x=some (.ref C))(q:PySem.W.excIn K C bm new=true):OwnCls x C bm new mg h:=by
 have key:∀o,K.lookup C=some o->∃tl N nm qn bs hdct sn sub ab col dd k0 k1 k2 k3 k5 mN,h.get? C=some (excClassObj nm qn C N bs tl hdct sn sub ab col dd k0 k1 k2 k3 k5 new)/\h.Ns N mN/\mN "__init__"=none/\OwnTail h bm tl:=λo lk=>by
  unfold PySem.W.excIn at q
  rw [lk] at q
  obtain ⟨oc,od,odt,osl⟩:=o
  split at q
  ·rename_i dd cd sl e0
   cases (Option.some.inj e0)
   obtain ⟨nm,bs,mro,ns,qn,hd,sn,sub,ab,col,del⟩:=cd
   split at q
   ·rename_i C2 tl k0 k1 k2 k3 n2 k5 em es
    dsimp only at em q
    simp only [Bool.and_eq_true,beq_iff_eq,Bool.not_eq_true'] at q
    obtain ⟨⟨⟨⟨⟨q1,q2⟩,q3⟩,q4⟩,q5⟩,q6⟩:=q
    subst q1 q2 q3 em
    have esl:osl=#[k0,k1,k2,k3,some (.builtin n2),k5]:=Array.toList_inj.mp es
    subst esl
    exact ⟨tl,ns,nm,qn,bs,hd,sn,sub,ab,col,od,k0,k1,k2,k3,k5,_,kin _ _ lk,.of_isNs (PySem.W.isNs_of_in kin q5),PySem.W.nsMap_none_of_in kin q5 q6,PySem.W.tail_of_in kin q4⟩
   ·cases q
  ·cases q
 refine ⟨hm,?_⟩
 cases lk:K.lookup C with
 | none=>unfold PySem.W.excIn at q;rw [lk] at q;cases q
 | some o=>exact key o lk
end L2
namespace L2
open PySem PySem.Spec PyProof.Rows
def yu(ea C:Addr):HO:=.ext λh=>∃o,h.get? ea=some o/\o.cls=.ref C
abbrev Cx.hnd(X:Cx)(ev:Value):Cx:={X with A:=X.A.mark (some ev),calm:=false,xe:=λ_ _=>False}
section
variable {X:Cx}{pins:List (Addr×Obj)}{σ:St}{H H1:Hp}{s s1:Shared}{ev:Value}
theorem Cx.Ok.hnd(ok:X.Ok)(ev:Value):(X.hnd ev).Ok :=
 ⟨ok.mod,ok.kind,ok.glob,ok.blt,ok.above,ok.inj,ok.has,ok.cab,λh=>(by cases h),ok.frames,ok.stk,ok.exf,ok.bs,ok.bsz,ok.noex,ok.exfs,ok.funs,ok.frf⟩
theorem Inv.hnd(I:Inv X pins σ H s)(ev:Value):Inv (X.hnd ev) pins σ H s:=⟨I.ok.hnd ev,I.os,I.bare,I.base,I.loc,I.cell,I.free,I.freeC,I.pin,I.hok,I.len⟩
theorem Inv.unhnd(ok:X.Ok)(I:Inv (X.hnd ev) pins σ H s):Inv X pins σ H s:=⟨ok,I.os,I.bare,I.base,I.loc,I.cell,I.free,I.freeC,I.pin,I.hok,I.len⟩
theorem SP.unhnd{D:Ends}{f:Flow}{s':Shared}(ok:X.Ok)(h:SP (X.hnd ev) pins D f s'):SP X pins D f s':=by
 cases f with
 | next=>obtain ⟨σ',H',I',q⟩:=h;exact ⟨σ',H',I'.unhnd ok,q⟩
 | brk=>obtain ⟨σ',H',I',q⟩:=h;exact ⟨σ',H',I'.unhnd ok,q⟩
 | cont=>obtain ⟨σ',H',I',q⟩:=h;exact ⟨σ',H',I'.unhnd ok,q⟩
 | ret v=>obtain ⟨x,σ',H',I',r,q⟩:=h;exact ⟨x,σ',H',I'.unhnd ok,r,q⟩
theorem UpToSlots.isCell{h h':Heap}{c:Addr}{v:Option Value}(sm:h.UpToSlots h')(x:h.IsCell c v):h'.IsCell c v:=by
 obtain ⟨o,e,d⟩:=x
 obtain ⟨sl,e2⟩:=sm c o e λvs q=>by rw [d] at q;cases q
 exact ⟨_,e2,d⟩
theorem Inv.moved{B h2:Heap}(I1:Inv X pins σ H1 s1)(I:Inv X pins σ H s)(hst:X.stack=X.env::X.outer)(fr:X.env.frame=some X.env.locals)(hex:X.ex=[])(c:Cov X.stack s1.heap H B s.heap)(st:B.StaysIn h2)(sm:s.heap.UpToSlots h2)
  (ff:s.heap.FunFrames B X.stack):Inv X pins σ H {s with heap:=h2}:=by
 have fc:=oo hst fr
 have b0:Un X.fs [] X.H₀ H X.s₀.heap s.heap:=by have:=I.base;rw [hex] at this;exact this
 have sub:∀b o,X.s₀.heap.get? b=some o->∃o',s1.heap.get? b=some o':=λb o e=>I1.base.there b o e (by rw [hex];simp)
 have nL:∀b o,X.s₀.heap.get? b=some o->b≠X.env.locals:=λb o e z=>absurd (Heap.lt_size e) (by rw [z];exact Nat.not_lt.mpr I.ok.above)
 refine ⟨I.ok,I.os,I.bare,?_,?_,λx cc e=>?_,I.free,I.freeC,λp hp=>?_,I.hok.moved c st I.stkFree,I.len⟩
 ·rw [hex]
  refine b0.moved c st sm ff sub (λb hb=>by rw [fc];exact List.mem_cons_of_mem _ hb) λb o e hb=>?_
  rw [fc] at hb
  rcases List.mem_cons.mp hb with z | z
  ·exact absurd z (nL b o e)
  ·exact z
 ·obtain ⟨m,hn,hl⟩:=I.loc
  refine ⟨m,sm.ns hn,λi x v a b cc=>?_⟩
  obtain ⟨u,r,lk⟩:=hl i x v a b cc
  refine ⟨u,r,?_⟩
  rcases lk with z | ⟨z,cl,e,ic⟩
  ·exact .inl z
  ·exact .inr ⟨z,cl,e,UpToSlots.isCell sm ic⟩
 ·obtain ⟨v,q⟩:=I.cell x cc e
  exact ⟨v,UpToSlots.isCell sm q⟩
 ·obtain ⟨e,f,nl,nf,d⟩:=I.pin p hp
  refine ⟨c.stay st p.1 p.2 e (λz=>?_) (.inr ⟨_,(I1.pin p hp).1⟩),f,nl,nf,d⟩
  rw [fc] at z
  rcases List.mem_cons.mp z with z | z
  ·exact nl z
  ·exact nf z
theorem Inv.exc{ea C:Addr}{oe:Obj}(I:Inv X pins σ H s)(hx:H ea=none)(ho:s.heap.get? ea=some oe)(hc:oe.cls=.ref C)(h0:X.s₀.heap.get? ea=none)(hL:ea≠X.env.locals)(hcl:∀y c,X.env.cells.lookup y=some c->c≠ea)
  (hp:∀p∈X.pn++pins,p.1≠ea):Inv X pins σ (upd H ea (yu ea C)) s:=by
 refine ⟨I.ok,I.os,I.bare,⟨I.base.keep,I.base.slot,λb o e z nx=>?_,I.base.there,λb xs e=>?_,λb o u e=>?_,λb ps e=>?_⟩,I.loc,I.cell,?_,λy c e=>?_,λp hp'=>?_,λb u e=>?_,I.len⟩
 ·rw [ay (λz2=>by rw [z2,h0] at e;cases e)];exact I.base.free b o e z nx
 ·have q:=I.base.tups b xs e
  rw [ay (ah q hx)];exact q
 ·have q:=I.base.frzs b o u e
  rw [ay (ah q hx)];exact q
 ·obtain ⟨more,q⟩:=I.base.tbls b ps e
  exact ⟨more,by rw [ay (ah q hx)];exact q⟩
 ·rw [ay hL.symm];exact I.free
 ·rw [ay (hcl y c e)];exact I.freeC y c e
 ·obtain ⟨e,f,r⟩:=I.pin p hp'
  exact ⟨e,by rw [ay (hp p hp')];exact f,r⟩
 ·by_cases hb:b=ea
  ·subst hb
   rw [ae] at e
   cases e
   exact ⟨⟨oe,ho,hc⟩,⟨oe,ho⟩,λh1 h2 ⟨o,e,c⟩ k=>⟨o,k o e,c⟩⟩
  ·rw [ay hb] at e
   exact (I.hok b u e).stay (λc v _ q=>q) (λc q=>by rw [ay (ah q hx)];exact q) λc xs q=>by rw [ay (ah q hx)];exact q
def uT(X:Cx)(C CB:Addr):Prop:=∀(A:Around) (s:Shared) (ea:Addr) (ob:Obj) (Q:Bool->Shared->Prop) (E:Value->Shared->Prop),X.K.In s.heap->s.heap.get? ea=some ob->ob.cls=.ref C->Q true s->wpAny (model X.prog X.w) A (excMatches (.ref ea) (.ref CB)) Q E s
theorem oI{x:Str}{C:Addr}{bm:List Value}{new:String}(hm:X.mg x=some (.ref C))(qx:PySem.W.excIn X.K C bm new=true)(hb:bm.contains (.type "BaseException")=true):uT X C C:=by
 intro A s ea ob Q E k ho hc q
 obtain ⟨tl,N,nm,q',bs,hdct,sn,sub,ab,col,dd,k0,k1,k2,k3,k5,mN,hC,hN,hni,T⟩:=(xy k hm qx).obj
 obtain ⟨h,g,d,t,os⟩:=s
 exact wpAny_excMatches_sub_self hC ho hc (T.hasType hb) q
theorem zc{ea C CB:Addr}{cx:Str}{np hpos:Pos}{b₀:Stmt}{suite:List Stmt}{rest:List ExceptHandler}{D:Ends}{th:TS}{E:Value->Shared->Prop}(I1:Inv X pins σ H1 s1)(I:Inv X pins σ H s)(hst:X.stack=X.env::X.outer)(fr:X.env.frame=some X.env.locals)(hex:X.ex=[])
  (fly:Fly X.stack s1.heap H ea C s.heap)(hg:Gl X cx)(hm:X.mg cx=some (.ref CB))(tk:uT X C CB)(hs:∀ev,PSs (X.hnd ev) (b₀::suite) th)(q:H ea=none->th D σ (upd H ea (yu ea C)))(hd:(cx==("__debug__":Str))=false) :
  wpAny (model X.prog X.w) X.A (noteFrame (.ref ea) X.env) (λ_ s₂=>wpAny (model X.prog X.w) X.A (setFlight (.ref ea) none) (λ_ s₃ =>
   wpAny (model X.prog X.w) X.A (handleBy (.ref ea) X.env (.ExceptHandler (some (.Name cx np)) none (b₀::suite) hpos::rest)) (SP X pins D) E s₃) E s₂) E s:=by
 obtain ⟨B,a0,fl,c⟩:=fly
 have hfr:X.A.frames=some (X.env::X.outer):=by rw [I.ok.frames,hst]
 have ff:=fl.2.2.1
 have fl':Heap.FlyingW B (X.env::X.outer) ea (.ref C) a0 s.heap:=by rw [← hst];exact fl
 refine wpAny_looks_onW hfr fr fl' λh₄ held₄ sm₄=>?_
 refine wpAny_landsW held₄ λh₅ fl₅ sm₅=>?_
 have I5:=Inv.moved I1 I hst fr hex c fl₅.1 (sm₄.trans sm₅) ff
 obtain ⟨ob,hob,hobc⟩:=fl₅.there
 refine wpAny_handleBy_cons (codeAny_handlers_test (jy (X:=X.hnd (.ref ea)) (I5.hnd (.ref ea)) hg hm ?_ hd)) (by intro z;cases z)
 refine tk _ _ ea ob _ _ I5.kIn hob hobc (codeAny_handlers_suite ?_)
 refine lands_againW (s:={s with heap:=h₅}) fl₅ λh₆ fl₆ sm₆=>?_
 have I6:=Inv.moved I1 I hst fr hex c fl₆.1 ((sm₄.trans sm₅).trans sm₆) ff
 obtain ⟨oe,ws,hoe,hoec,hoed,hoe0⟩:=fl₆.first
 have nfr:ea∉frs X.stack:=λz=>by
  have ff6:=fl₆.2.2.1
  rw [← hst] at ff6
  obtain ⟨_,o',e',d'⟩:=ff6.mem (show ea∈X.stack.filterMap (·.frame) from z)
  rw [hoe] at e'
  cases e'
  exact d' ws hoed
 obtain ⟨o1,e1,_⟩:=fl.there
 have hB:=fl.2.1
 have hHe:H ea=none:=by
  cases z:H ea with
  | none=>rfl
  | some u =>
   have:=c ea o1 e1 nfr (.inl (by rw [z];intro y;cases y))
   rw [hB] at this;cases this
 have h1e:s1.heap.get? ea=none:=by
  cases z:s1.heap.get? ea with
  | none=>rfl
  | some u =>
   have:=c ea o1 e1 nfr (.inr ⟨u,z⟩)
   rw [hB] at this;cases this
 have h0e:X.s₀.heap.get? ea=none:=by
  cases z:X.s₀.heap.get? ea with
  | none=>rfl
  | some u =>
   obtain ⟨o',e'⟩:=I1.base.there ea u z (by rw [hex];simp)
   rw [h1e] at e';cases e'
 have I6x:=I6.exc hHe hoe hoec h0e (λz=>nfr (by rw [oo hst fr,z];exact List.mem_cons_self)) (λy cc e z=>by
  obtain ⟨v,o,e',_⟩:=I1.cell y cc e
  rw [z,h1e] at e';cases e') λp hp z=>by
   have:=(I1.pin p hp).1
   rw [z,h1e] at this;cases this
 exact wpAny_mono (hs (.ref ea) pins _ σ _ D (I6x.hnd _) (q hHe)) (λf s7 h7=>SP.unhnd I.ok h7) λ_ _ z=>z.elim
abbrev TX:=St->Hp->VK->XK->Prop
def XP(X:Cx)(pins:List (Addr×Obj))(σ:St)(E:XK)(ev:Value)(s':Shared):Prop:=∃s1 H1 ea C H',Inv X pins σ H1 s1/\ev=.ref ea/\Inv X pins σ H' s'/\Fly X.stack s1.heap H' ea C s'.heap/\E ev (some C) H'
def PEX(X:Cx)(e:Expr)(t:TX):Prop :=
 ∀(pins:List (Addr×Obj)) (s:Shared) (σ:St) (H:Hp) (Q:VK) (E:XK),Inv X pins σ H s->t σ H Q E->wpAny (model X.prog X.w) X.A (eval e X.env) (EP X pins σ Q) (XP X pins σ E) s
end
section
variable {X:Cx}{e:Expr}{t:TX}{C CB:Addr}{cx y:Str}{np hpos pos py apos:Pos}{b₀:Stmt}{suite:List Stmt}{th:TS}{j:Nat}
def u3(j:Nat)(C:Addr)(t:TX)(th:TS):TS:=λD σ H=>t σ H (λv H1=>D.nx (σ.set j (some v)) H1) λev c H1=>∃ea,ev=.ref ea/\c=some C/\(H1 ea=none->th D σ (upd H1 ea (yu ea C)))
theorem qR(hst:X.stack=X.env::X.outer)(fr:X.env.frame=some X.env.locals)(hex:X.ex=[])(hN:X.N.Nodup)(hj:X.N[j]?=some y)(hy:Loc X.env.scope y)(he:PEX X e t)(hg:Gl X cx)(hm:X.mg cx=some (.ref CB))(tk:uT X C CB)
  (hs:∀ev,PSs (X.hnd ev) (b₀::suite) th)(hd:(cx==("__debug__":Str))=false:=by decide)(hsw:swapsWith e (some (.Name y py)) apos.line X.env=pure false:=by rfl)
  (hf:X.fn y=true\/X.env.scope.names.lookup y=some .local:=by first | exact .inl rfl | exact .inr rfl | assumption) :
  PS X (.Try [.Assign [.Name y py] e apos] [.ExceptHandler (some (.Name cx np)) none (b₀::suite) hpos] [] [] pos) (u3 j C t th):=by
 intro pins s σ H D I h
 refine wpAny_Try_except (wpAny_execs_cons (wpAny_mono (wpAny_Assign_Name (Q:=λf s1=>f=.next/\SP X pins D .next s1) (wpAny_mono (he pins s σ H _ _ I h) (λv s1 ⟨y1,H1,I1,r1,q1⟩=>?_) λev s1 hx=>?_) hsw) (λf s1 hq=>?_) λ_ _ z=>z))
 ·exact jC I1 hN hj hy r1 (λs2 I2=>⟨rfl,_,H1,I2,q1⟩) hf
 ·obtain ⟨s0,H0,ea,C',H',I0,rfl,I',fl,ea2,e2,rfl',q⟩:=hx
  cases e2
  obtain rfl:C'=C:=Option.some.inj rfl'
  exact zc I0 I' hst fr hex fl hg hm tk hs q hd
 ·obtain ⟨rfl,hq⟩:=hq
  exact wpAny_execs_nil (wpAny_execs_nil hq)
end
end L2
namespace L2
open PySem PySem.Spec PyProof.Rows PySem.Builtin PySem.Builtin.ObjectAttr PySem.Builtin.Getset_descriptor
end L2
namespace L2
open PySem PySem.Spec PyProof.Rows
end L2
namespace L2
open PySem PySem.Spec PyProof.Rows
section
variable {P:Program}{w:World}{K:PySem.W.Frag}{H:Hp}{h:Heap}{a b:Addr}{xs ys:List V}
theorem jr(hok:HOk P w H h)(kin:K.In h)(q:SqT K H a xs):∃its:List Value,Vals xs its/\IsTup h a its.toArray/\xs.length<=sizeLine:=by
 rcases q with q | ⟨o,its,n,hk,hc,hs,hz,r⟩
 ·obtain ⟨z,its,r,p⟩:=q.ok hok
  exact ⟨its,r,p,z⟩
 ·refine ⟨its.toList,r,⟨o,kin a o hk,hc,n,by simpa using hs⟩,?_⟩
  have e:=r.length
  simp only [Array.length_toList] at e
  omega
theorem u9(hok:HOk P w H h)(kin:K.In h)(q:SqT K H a xs)(q':SqT K H a ys):xs=ys:=by
 obtain ⟨its,r,⟨o,e,_,n,d⟩,_⟩:=jr hok kin q
 obtain ⟨its',r',⟨o',e',_,n',d'⟩,_⟩:=jr hok kin q'
 rw [e] at e';cases e'
 rw [d] at d'
 injection d' with d1 _
 have:its=its':=by simpa using congrArg Array.toList d1
 subst this
 exact r.inj r'
def SqU(K:PySem.W.Frag)(H:Hp)(a:Addr)(xs:List V):Prop :=
 H a=some (.tup xs)\/∃(o:Obj) (its:Array Value) (n:Nat),K.lookup a=some o/\o.cls=.type "tuple"/\o.data=.seq its n/\its.size<=sizeLine/\Vals xs its.toList
theorem SqU.sq(q:SqU K H a xs):SqT K H a xs:=q.elim (λz=>.inl (.inl z)) .inr
def bJ(H H':Hp):Prop:=∀b xs,H b=some (.tup xs)->H' b=some (.tup xs)
theorem Same.ts{H H':Hp}(e:Same H H'):bJ H H':=λb xs h=>e b _ h
theorem SqU.keep{H':Hp}(e:bJ H H')(q:SqU K H a xs):SqU K H' a xs:=q.elim (λz=>.inl (e _ _ z)) .inr
end
def EqIs(K:PySem.W.Frag)(n:Nat)(H:Hp)(x y:V)(b:Bool):Prop :=
 ∀(P:Program) (w:World) (A:Around) (s:Shared) (u v:Value),A.units+n<cLine->HOk P w H s.heap->K.In s.heap->RelV x u->RelV y v->SeqAt.EqAt A s u v b
def wt(K:PySem.W.Frag)(n:Nat)(H:Hp)(x y:V)(b:Bool):Prop :=
 ∀(P:Program) (w:World) (A:Around) (s:Shared) (u v:Value),A.units+n<cLine->HOk P w H s.heap->K.In s.heap->RelV x u->RelV y v->SeqAt.RcAt A s u v b
def wv(K:PySem.W.Frag)(n:Nat)(H:Hp)(x y:V)(b:Bool):Prop :=
 ∀(P:Program) (w:World) (A:Around) (s:Shared) (u v:Value),A.units+n<cLine->HOk P w H s.heap->K.In s.heap->RelV x u->RelV y v->SeqAt.RcNeAt A s u v (!b)
section
variable {K:PySem.W.Frag}{H:Hp}{a b:Addr}{n m:Nat}{x y:V}{r:Bool}
theorem EqIs.mono(h:EqIs K n H x y r)(le:n<=m):EqIs K m H x y r:=λP w A s u v hA=>h P w A s u v (by omega)
theorem wx{us vs:List V}{e:Nat->Bool}(ha:SqT K H a us)(hb:SqT K H b vs)(hl:us.length=vs.length)(he:∀(j:Nat) x y,us[j]?=some x->vs[j]?=some y->EqIs K n H x y (e j)) :
  wt K (n+1) H (.ref a) (.ref b) ((List.range us.length).all e)/\wv K (n+1) H (.ref a) (.ref b) ((List.range us.length).all e):=by
 have main:∀(P:Program) (w:World) (A:Around) (s:Shared) (u v:Value),A.units+(n+1)<cLine->HOk P w H s.heap->K.In s.heap->RelV (.ref a) u->RelV (.ref b) v ->
   SeqAt.RcAt A s u v ((List.range us.length).all e)/\SeqAt.RcNeAt A s u v (!(List.range us.length).all e):=by
  intro P w A s u v hA hok kin r1 r2
  cases r1
  cases r2
  obtain ⟨i1,v1,p1,_⟩:=jr hok kin ha
  obtain ⟨i2,v2,p2,_⟩:=jr hok kin hb
  have l1:=v1.length
  have l2:=v2.length
  have items:∀j (h1:j<i1.toArray.size) (h2:j<i2.toArray.size),SeqAt.EqAt A.in1 s i1.toArray[j] i2.toArray[j] (e j):=λj h1 h2=>by
   have h1':j<i1.length:=by simpa using h1
   have h2':j<i2.length:=by simpa using h2
   have e1:us[j]?=some us[j]:=List.getElem?_eq_getElem (by omega)
   have e2:vs[j]?=some vs[j]:=List.getElem?_eq_getElem (by omega)
   obtain ⟨u,eu,ru⟩:=v1.get e1
   obtain ⟨v,ev,rv⟩:=v2.get e2
   have q:=he j _ _ e1 e2 P w A.in1 s u v (by show A.units+1+n<cLine;omega) hok kin ru rv
   have z1:i1.toArray[j]=u:=by
    rw [List.getElem?_eq_getElem h1'] at eu
    simpa using Option.some.inj eu
   have z2:i2.toArray[j]=v:=by
    rw [List.getElem?_eq_getElem h2'] at ev
    simpa using Option.some.inj ev
   rw [z1,z2]
   exact q
  have ez:((List.range (min i1.toArray.size i2.toArray.size)).all e&&i1.toArray.size==i2.toArray.size)=(List.range us.length).all e:=by
   have s1:i1.toArray.size=us.length:=by simp [l1]
   have s2:i2.toArray.size=us.length:=by simp [← l2,hl]
   rw [s1,s2,Nat.min_self]
   simp
  constructor
  ·have q:=SeqAt.RcAt.tuples (A:=A) (s:=s) (e:=e) p1 p2 (by omega) items
   rw [ez] at q
   exact q
  ·have q:=SeqAt.RcNeAt.tuples (A:=A) (s:=s) (e:=e) p1 p2 (by omega) items
   rw [ez] at q
   exact q
 exact ⟨λP w A s u v h1 h2 h3 h4 h5=>(main P w A s u v h1 h2 h3 h4 h5).1,λP w A s u v h1 h2 h3 h4 h5=>(main P w A s u v h1 h2 h3 h4 h5).2⟩
theorem ot(h:wt K n H (.ref a) (.ref b) r)(hs:∀(P:Program) (w:World) (h:Heap),HOk P w H h->K.In h->a=b->r=true):EqIs K n H (.ref a) (.ref b) r:=by
 intro P w A s u v hA hok kin r1 r2
 have q:=h P w A s u v hA hok kin r1 r2
 cases r1
 cases r2
 by_cases e:a=b
 ·rw [hs P w s.heap hok kin e,e]
  exact SeqAt.EqAt.same _
 ·exact SeqAt.EqAt.of_refs e q
end
structure Cod(α:Type) [DecidableEq α] where
 n:Nat
 rp:PySem.W.Frag->Hp->α->V->Prop
 inj:∀{P:Program} {w:World} {K:PySem.W.Frag} {H:Hp} {h:Heap} {x y:α} {v:V},HOk P w H h->K.In h->rp K H x v->rp K H y v->x=y
 eq:∀{K:PySem.W.Frag} {H:Hp} {x y:α} {u v:V},rp K H x u->rp K H y v->EqIs K n H u v (decide (x=y))
 rc:∀{K:PySem.W.Frag} {H:Hp} {x y:α} {u v:V},rp K H x u->rp K H y v->wt K n H u v (decide (x=y))
 ne:∀{K:PySem.W.Frag} {H:Hp} {x y:α} {u v:V},rp K H x u->rp K H y v->wv K n H u v (decide (x=y))
 keep:∀{K:PySem.W.Frag} {H H':Hp} {x:α} {v:V},bJ H H'->rp K H x v->rp K H' x v
def cInt:Cod Int where
 n:=0
 rp _ _ i v:=v=.int i
 inj _ _ h1 h2:=by
  rw [h1] at h2
  exact V.int.inj h2
 eq h1 h2:=by
  intro P w A s u v _ _ _ r1 r2
  subst h1 h2
  obtain ⟨t,rfl⟩:=r1
  obtain ⟨t',rfl⟩:=r2
  rw [← Bool.beq_eq_decide_eq]
  exact SeqAt.EqAt.int_int _ t _ t'
 rc h1 h2:=by
  intro P w A s u v _ _ _ r1 r2
  subst h1 h2
  obtain ⟨t,rfl⟩:=r1
  obtain ⟨t',rfl⟩:=r2
  rw [← Bool.beq_eq_decide_eq]
  exact SeqAt.RcAt.int_int _ t _ t'
 ne h1 h2:=by
  intro P w A s u v _ _ _ r1 r2
  subst h1 h2
  obtain ⟨t,rfl⟩:=r1
  obtain ⟨t',rfl⟩:=r2
  rw [← Bool.beq_eq_decide_eq]
  exact SeqAt.RcNeAt.int_int _ t _ t'
 keep _ h:=h
theorem fK(x y:Str):decide (x=y)=(x==y):=by
 rw [Bool.eq_iff_iff]
 simp
def cStr:Cod Str where
 n:=0
 rp _ _ i v:=v=.str i
 inj _ _ h1 h2:=by
  rw [h1] at h2
  exact V.str.inj h2
 eq h1 h2:=by
  intro P w A s u v _ _ _ r1 r2
  subst h1 h2
  obtain ⟨t,rfl⟩:=r1
  obtain ⟨t',rfl⟩:=r2
  rw [fK]
  exact SeqAt.EqAt.str_str _ t _ t'
 rc h1 h2:=by
  intro P w A s u v _ _ _ r1 r2
  subst h1 h2
  obtain ⟨t,rfl⟩:=r1
  obtain ⟨t',rfl⟩:=r2
  rw [fK]
  exact SeqAt.RcAt.str_str _ t _ t'
 ne h1 h2:=by
  intro P w A s u v _ _ _ r1 r2
  subst h1 h2
  obtain ⟨t,rfl⟩:=r1
  obtain ⟨t',rfl⟩:=r2
  rw [fK]
  exact SeqAt.RcNeAt.str_str _ t _ t'
 keep _ h:=h
section
variable {α β γ:Type} [DecidableEq α] [DecidableEq β] [DecidableEq γ]
def rT2(c:Cod α)(d:Cod β)(K:PySem.W.Frag)(H:Hp)(x:α×β)(v:V):Prop:=∃a u w,v=.ref a/\SqU K H a [u,w]/\c.rp K H x.1 u/\d.rp K H x.2 w
theorem qb{c:Cod α}{d:Cod β}{P:Program}{w:World}{K:PySem.W.Frag}{H:Hp}{h:Heap}{x y:α×β}{v:V}(hok:HOk P w H h)(kin:K.In h)(h1:rT2 c d K H x v)(h2:rT2 c d K H y v):x=y:=by
 obtain ⟨a,u,t,rfl,ha,hu,ht⟩:=h1
 obtain ⟨b,u',t',e,hb,hu',ht'⟩:=h2
 cases e
 have z:=u9 hok kin ha.sq hb.sq
 cases z
 exact Prod.ext (c.inj hok kin hu hu') (d.inj hok kin ht ht')
theorem o7{c:Cod α}{d:Cod β}{K:PySem.W.Frag}{H:Hp}{x y:α×β}{u v:V}(h1:rT2 c d K H x u)(h2:rT2 c d K H y v) :
  wt K (max c.n d.n+1) H u v (decide (x=y))/\wv K (max c.n d.n+1) H u v (decide (x=y)):=by
 obtain ⟨a,u,t,rfl,ha,hu,ht⟩:=h1
 obtain ⟨b,u',t',rfl,hb,hu',ht'⟩:=h2
 have T:=wx (n:=max c.n d.n) (e:=λj=>if j=0 then decide (x.1=y.1) else decide (x.2=y.2)) ha.sq hb.sq rfl (λj p q e1 e2=>by
  match j,e1,e2 with
  | 0,e1,e2=>cases e1;cases e2;exact (c.eq hu hu').mono (Nat.le_max_left _ _)
  | 1,e1,e2=>cases e1;cases e2;exact (d.eq ht ht').mono (Nat.le_max_right _ _))
 have e:((List.range ([u,t]:List V).length).all λj=>if j=0 then decide (x.1=y.1) else decide (x.2=y.2))=decide (x=y):=by
  show (decide (x.1=y.1)&&(decide (x.2=y.2)&&true))=decide (x=y)
  rw [Bool.and_true,← Bool.decide_and]
  exact decide_eq_decide.mpr (Prod.ext_iff (x:=x) (y:=y)).symm
 rw [e] at T
 exact T
def cT2(c:Cod α)(d:Cod β):Cod (α×β) where
 n:=max c.n d.n+1
 rp:=rT2 c d
 inj:=qb
 rc h1 h2:=(o7 h1 h2).1
 ne h1 h2:=(o7 h1 h2).2
 eq {K H x y u v} h1 h2:=by
  have r:=(o7 h1 h2).1
  have i:=λP w h hok kin=>qb (c:=c) (d:=d) (P:=P) (w:=w) (K:=K) (H:=H) (h:=h) (x:=x) (y:=y) (v:=v) hok kin
  obtain ⟨a,_,_,rfl,_⟩:=id h1
  obtain ⟨b,_,_,rfl,_⟩:=id h2
  refine ot r λP w h hok kin e=>?_
  subst e
  exact decide_eq_true (i P w h hok kin h1 h2)
 keep e h:=let ⟨a,u,w,h1,h2,h3,h4⟩:=h;⟨a,u,w,h1,h2.keep e,c.keep e h3,d.keep e h4⟩
end
section
variable {α:Type} [DecidableEq α] {K:PySem.W.Frag}{H:Hp}
theorem _root_.PySem.Paired.get{β γ:Type}{R:β->γ->Prop}:∀{xs:List β} {us:List γ},Paired R xs us->∀{j:Nat} {u:γ},us[j]?=some u->∃x,xs[j]?=some x/\R x u
 | _,_,.nil,j,u,e=>by simp at e
 | _,_,.cons r t,0,u,e=>by simp at e;subst e;exact ⟨_,rfl,r⟩
 | _,_,.cons r t,j+1,u,e=>PySem.Paired.get t (j:=j) (by simpa using e)
theorem _root_.PySem.Paired.get1{β γ:Type}{R:β->γ->Prop}:∀{xs:List β} {us:List γ},Paired R xs us->∀{j:Nat} {x:β},xs[j]?=some x->∃u,us[j]?=some u/\R x u
 | _,_,.nil,j,u,e=>by simp at e
 | _,_,.cons r t,0,u,e=>by simp at e;subst e;exact ⟨_,rfl,r⟩
 | _,_,.cons r t,j+1,u,e=>PySem.Paired.get1 t (j:=j) (by simpa using e)
theorem _root_.PySem.Paired.len{β γ:Type}{R:β->γ->Prop}:∀{xs:List β} {us:List γ},Paired R xs us->xs.length=us.length
 | _,_,.nil=>rfl
 | _,_,.cons r t=>by simp [PySem.Paired.len t]
theorem _root_.PySem.Paired.app{β γ:Type}{R:β->γ->Prop}:∀{xs ys:List β} {us vs:List γ},Paired R xs us->Paired R ys vs->Paired R (xs++ys) (us++vs)
 | _,_,_,_,.nil,s=>s
 | _,_,_,_,.cons r t,s=>.cons r (PySem.Paired.app t s)
end
section
variable {X:Cx}{α:Type} [DecidableEq α]
theorem hun{c:Nat}{k:Nat}{A:Around}(hr:Room k A)(h:c<=60:=by decide):A.units+c+1<cLine:=by
 have:=hr.units
 omega
noncomputable def eqR(c:Cod α)(K:PySem.W.Frag)(H:Hp)(a:α)(u:Value):Bool:=@decide (∃v,RelV v u/\c.rp K H a v) (Classical.propDecidable _)
theorem uy{c:Cod α}{P:Program}{w:World}{K:PySem.W.Frag}{H:Hp}{h:Heap}{a z:α}{v:V}{u:Value}(hok:HOk P w H h)(kin:K.In h)(r:RelV v u)(q:c.rp K H z v):eqR c K H a u=decide (z=a):=by
 unfold eqR
 by_cases e:z=a
 ·subst e
  rw [decide_eq_true (show z=z from rfl)]
  exact @decide_eq_true _ (Classical.propDecidable _) ⟨v,r,q⟩
 ·rw [decide_eq_false e]
  refine @decide_eq_false _ (Classical.propDecidable _) λ⟨v',r',q'⟩=>e ?_
  have:=r.inj r'
  subst this
  exact c.inj hok kin q q'
theorem mF{c:Cod α}{P:Program}{w:World}{K:PySem.W.Frag}{H:Hp}{h:Heap}{a:α}(hok:HOk P w H h)(kin:K.In h):∀{xs:List α} {us:List V} {its:List Value},Paired (c.rp K H) xs us->Vals us its->its.any (eqR c K H a)=decide (a∈xs)
 | _,_,_,.nil,.nil=>by simp
 | x::xs,_,_,.cons p t,.cons r s=>by
  rw [List.any_cons,uy hok kin r p,mF hok kin t s,Bool.eq_iff_iff]
  simp only [Bool.or_eq_true,decide_eq_true_eq,List.mem_cons]
  exact ⟨λz=>z.elim (λe=>.inl e.symm) .inr,λz=>z.elim (λe=>.inl e.symm) .inr⟩
theorem mq{c:Cod α}{P:Program}{w:World}{A:Around}{s:Shared}{K:PySem.W.Frag}{H:Hp}{a:α}{x:V}{v:Value}(hok:HOk P w H s.heap)(kin:K.In s.heap)(hA:A.units+c.n<cLine)(rx:RelV x v)(qx:c.rp K H a x) :
  ∀{xs:List α} {us:List V} {its:List Value},Paired (c.rp K H) xs us->Vals us its->∀u∈its,SeqAt.EqAt A s u v (eqR c K H a u)
 | _,_,_,.nil,.nil=>λu hu=>by cases hu
 | _,_,_,.cons p t,.cons r q=>λu' hu=>by
  rcases List.mem_cons.mp hu with rfl | hu
  ·rw [uy hok kin r p]
   exact c.eq p qx P w A s _ v hA hok kin r rx
  ·exact mq hok kin hA rx qx t q u' hu
def yV(c:Cod α)(K:PySem.W.Frag):R2:=λx y H Q=>∃a p us xs,c.rp K H a x/\y=.ref p/\(SqL K H p us\/SqT K H p us)/\Paired (c.rp K H) xs us/\Q (.bl (!decide (a∈xs))) H
theorem qV(c:Cod α)(hu:X.A.units+c.n+1<cLine):OpR X (compareOp .NotIn) (yV c X.K):=by
 intro pins s σ H x y v u Q I rx ry h
 obtain ⟨a,p,us,xs,ha,rfl,hq,px,q⟩:=h
 cases ry
 rcases hq with hq | hq
 ·obtain ⟨its,r,pl,hz⟩:=I.list hq
  refine SeqAt.notIn_listAt (eqR c X.K H a) pl.isList (λw hw=>mq I.hok I.kIn (by show X.A.units+1+c.n<cLine;omega) rx ha px r w (by simpa using hw)) ⟨.bl _,H,I,rfl,?_⟩
  rw [show its.toArray.any (eqR c X.K H a)=its.any (eqR c X.K H a) by simp,mF I.hok I.kIn px r]
  exact q
 ·obtain ⟨its,r,pl,hz⟩:=I.tuple hq
  refine SeqAt.notIn_tupleAt (eqR c X.K H a) pl (λw hw=>mq I.hok I.kIn (by show X.A.units+1+c.n<cLine;omega) rx ha px r w (by simpa using hw)) ⟨.bl _,H,I,rfl,?_⟩
  rw [show its.toArray.any (eqR c X.K H a)=its.any (eqR c X.K H a) by simp,mF I.hok I.kIn px r]
  exact q
end
end L2
namespace L2
open PySem PySem.Spec PyProof.Rows
end L2
namespace L2
open PySem PySem.Spec PyProof.Rows
section
variable {X:Cx}
def wf:KTD.Dat->Value->Bool
 | .flat d,v=>KTD.flatLooks d v
 | _,_=>false
theorem we{h:Heap}:∀(d:KTD.Dat) (v:Value),wf d v=true->d.At h v
 | .flat d,v,e=>KTD.flat_of_looks (d:=d) e
 | .float _,_,e=>by cases e
 | .nums _,_,e=>by cases e
 | .words _,_,e=>by cases e
 | .tup _,_,e=>by cases e
 | .tab _,_,e=>by cases e
def TabK(K:PySem.W.Frag)(a:Addr)(D:List (Str×KTD.Dat)):Prop:=KTD.tabLook wf (λb=>K.lookup b) a D=true
theorem TabK.at{K:PySem.W.Frag}{a:Addr}{D:List (Str×KTD.Dat)}{h:Heap}(t:TabK K a D)(kin:K.In h):KTD.TextTab h a D:=KTD.tab_of_look we (λa o e=>kin a o e) t
theorem qo{h₀:Heap}{k:Str}{Pr:Value->Prop}:∀{D:List (Str×KTD.Dat)} {d:KTD.Dat},KTD.datumAt k D=some d->KTD.Opened h₀ Pr d->KTD.EachL h₀ k Pr D
 | [],_,e,_=>by cases e
 | (x,d')::D,d,e,o=>by
  have e':(if decide (k=x)=true then some d' else KTD.datumAt k D)=some d:=e
  by_cases hx:k=x
  ·rw [if_pos (decide_eq_true hx)] at e'
   cases e'
   exact KTD.eachL_hit hx o
  ·rw [if_neg (by simp [hx])] at e'
   exact KTD.eachL_miss hx (qo e' o)
end
section
variable {X:Cx}{α:Type} [DecidableEq α]
theorem pfK(K:PySem.W.Frag)(i:Nat){x f:Str}{px pos:Pos}(hK:X.K=K:=by rfl)(hN:X.N[i]?=some x:=by rfl)(hv:Vis X.env.scope x:=by first | exact Or.inl rfl | exact Or.inr (Or.inl rfl) | exact Or.inr (Or.inr rfl))(hd:(x==("__debug__":Str))=false:=by decide)
  (hcd:(x==("__classdict__":Str))=false:=by decide)(hb:attributeBase (.Name x px) f X.env (eval (.Name x px) X.env)=eval (.Name x px) X.env:=by rfl):PE X (.Attribute (.Name x px) f pos) (qG K (oJ i) f):=by
 subst hK
 exact aq (sT hN hv hd hcd) hb
end
structure GF(P:Program)(w:World)(K:PySem.W.Frag)(mg:Str->Option Value)(base:Heap)(CX:CXT)(k:Nat)(x:Str)(ps:List Str)(sp:Sp) where
 f:Addr
 fd:FuncData
 ok:FnOk P w K mg base CX k f fd ps sp
 bd:Binds K fd ps []
 kp:PySem.W.keepIn K (.ref f)=true
 mgx:mg x=some (.ref f)
structure GM(P:Program)(w:World)(K:PySem.W.Frag)(mg:Str->Option Value)(base:Heap)(CX:CXT)(k:Nat)(C:Addr)(m:Str)(ps:List Str)(sp:Sp) where
 f:Addr
 fd:FuncData
 ok:FnOk P w K mg base CX k f fd ps sp
 bd:Binds K fd ps []
 me:g7 K C m f
section
variable {X:Cx}{CX:CXT}{j k:Nat}{x m:Str}{ps:List Str}{sp:Sp}{E:XK}{p pos apos:Pos}{e o:Expr}{es:List Expr}{t:TA}{ta:TE}{C:Addr}
theorem pc(G:GF X.prog X.w X.K X.mg X.base CX j x ps sp)(hr:Room k X.A)(ha:PA X (e::es) t)(hx:dQ CX X E:=by exact bo)(hk:j<=k:=by decide)(hg:Gl X x:=by rfl)
  (hdb:(x==("__debug__":Str))=false:=by decide)(he:starEach (e::es) X.env=(false,eval e X.env)::starEach es X.env:=by rfl)(hpl:(backTo pos (starEach es X.env)).any (·.1)=false:=by rfl) :
  PE X (.Call (.Name x p) (e::es) [] pos) (rS sp [] E t):=ma G.ok (hr.mono hk) hg G.mgx G.kp G.bd .nil hx ha hdb he hpl
theorem pm{pl:Sem Bool}(G:GM X.prog X.w X.K X.mg X.base CX j C m ps sp)(ho:PE X o ta)(cl:Cls X.K C)(hr:Room k X.A)(ha:PA X (e::es) t)(hx:dQ CX X E:=by exact bo)(hk:j<=k:=by decide)
  (hst:starEach (e::es) X.env=(false,eval e X.env)::starEach es X.env:=by rfl)(hpl:(backTo pos (starEach es X.env)).any (·.1)=false:=by rfl)
  (ht:eval (.Call (.Attribute o m apos) (e::es) [] pos) X.env=(do
   let ov ← eval o X.env
   standAt apos.atName
   let (f,first) ← holding [ov] (getMethod ov m pl)
   callWith pos f first (backTo pos (starEach (e::es) X.env)) (backToKw pos (keywordEach [] X.env))):=by rfl) :
  PE X (.Call (.Attribute o m apos) (e::es) [] pos) (pU C m sp [] E ta t):=gz ho cl G.me G.ok (hr.mono hk) G.bd .nil hx ha hst hpl ht
theorem pm0{pl:Sem Bool}(G:GM X.prog X.w X.K X.mg X.base CX j C m ps sp)(ho:PE X o ta)(cl:Cls X.K C)(hr:Room k X.A)(hx:dQ CX X E:=by exact bo)(hk:j<=k:=by decide)
  (ht:eval (.Call (.Attribute o m apos) [] [] pos) X.env=(do
   let ov ← eval o X.env
   standAt apos.atName
   let (f,first) ← holding [ov] (getMethod ov m pl)
   callWith pos f first (backTo pos (starEach [] X.env)) (backToKw pos (keywordEach [] X.env))):=by rfl) :
  PE X (.Call (.Attribute o m apos) [] [] pos) (pU C m sp [] E ta u5):=ik ho cl G.me G.ok (hr.mono hk) G.bd .nil hx ht
end
end L2
namespace L2
open PySem PySem.Spec PyProof.Rows
section
variable {K:PySem.W.Frag}{a:Addr}{xs:List V}{tt:TT}{te:TE}{bl:St}{Fin:List V->Hp->Prop}{H:Hp}
theorem gA(Pv:Nat->List V->Hp->Prop)(h0:Pv 0 [] H)(hn:xs.length<=sizeLine)(hl:∀i ys H,i<=xs.length->Pv i ys H->SqL K H a xs)
  (hs:∀i x ys H,xs[i]?=some x->Pv i ys H->tt (some x::bl) H λc H2=>if c=true then te (some x::bl) H2 λy H3=>Pv (i+1) (ys++[y]) H3 else Pv (i+1) ys H2)
  (hd:∀ys H,Pv xs.length ys H->Fin ys H) :
  ∃(W:Nat->List V->Hp->Prop) (n:Nat),W 0 [] H/\n<=sizeLine/\∀i ys H,W i ys H->((Itl K a).stop i H/\Fin ys H) \/
   ((Itl K a).go i H/\i<n/\∀x H',(Itl K a).yld i H x H'->tt (some x::bl) H' λc H2=>if c=true then te (some x::bl) H2 λy H3=>W (i+1) (ys++[y]) H3 else W (i+1) ys H2):=by
 refine ⟨λi ys H=>i<=xs.length/\Pv i ys H,xs.length,⟨Nat.zero_le _,h0⟩,hn,?_⟩
 rintro i ys H ⟨hi,p⟩
 have q:=hl i ys H hi p
 by_cases hlt:i<xs.length
 ·refine .inr ⟨⟨xs,xs[i],q,by simp [hlt]⟩,hlt,λx H' y=>?_⟩
  obtain ⟨e,y⟩:=y
  subst e
  have z:=hs i x ys _ (y xs q) p
  have e1:(λ(c:Bool) (H2:Hp)=>if c=true then te (some x::bl) H2 λy H3=>i+1<=xs.length/\Pv (i+1) (ys++[y]) H3 else i+1<=xs.length/\Pv (i+1) ys H2)=λc H2=>if c=true then te (some x::bl) H2 λy H3=>Pv (i+1) (ys++[y]) H3 else Pv (i+1) ys H2:=by
   have e2:(i+1<=xs.length)=True:=eq_true hlt
   funext c H2
   simp only [e2,true_and]
  show tt _ _ _
  rw [e1]
  exact z
 ·have e:i=xs.length:=by omega
  subst e
  exact .inl ⟨⟨xs,q,Nat.le_refl _⟩,hd ys H p⟩
theorem kE{σ:St}{A B:Hp->Prop}(h:A H):u7 σ H (λc H2=>if c=true then A H2 else B H2):=by
 show if true=true then A H else B H
 exact @bu (A H) (B H) h
theorem ul(Pv:Nat->List V->Hp->Prop)(h0:Pv 0 [] H)(hn:xs.length<=sizeLine)(hl:∀i ys H,i<=xs.length->Pv i ys H->SqT K H a xs)
  (hs:∀i x ys H,xs[i]?=some x->Pv i ys H->tt (some x::bl) H λc H2=>if c=true then te (some x::bl) H2 λy H3=>Pv (i+1) (ys++[y]) H3 else Pv (i+1) ys H2)
  (hd:∀ys H,Pv xs.length ys H->Fin ys H) :
  ∃(W:Nat->List V->Hp->Prop) (n:Nat),W 0 [] H/\n<=sizeLine/\∀i ys H,W i ys H->((Itt K a).stop i H/\Fin ys H) \/
   ((Itt K a).go i H/\i<n/\∀x H',(Itt K a).yld i H x H'->tt (some x::bl) H' λc H2=>if c=true then te (some x::bl) H2 λy H3=>W (i+1) (ys++[y]) H3 else W (i+1) ys H2):=by
 refine ⟨λi ys H=>i<=xs.length/\Pv i ys H,xs.length,⟨Nat.zero_le _,h0⟩,hn,?_⟩
 rintro i ys H ⟨hi,p⟩
 have q:=hl i ys H hi p
 by_cases hlt:i<xs.length
 ·refine .inr ⟨⟨xs,xs[i],q,by simp [hlt]⟩,hlt,λx H' y=>?_⟩
  obtain ⟨e,y⟩:=y
  subst e
  have z:=hs i x ys _ (y xs q) p
  have e1:(λ(c:Bool) (H2:Hp)=>if c=true then te (some x::bl) H2 λy H3=>i+1<=xs.length/\Pv (i+1) (ys++[y]) H3 else i+1<=xs.length/\Pv (i+1) ys H2)=λc H2=>if c=true then te (some x::bl) H2 λy H3=>Pv (i+1) (ys++[y]) H3 else Pv (i+1) ys H2:=by
   have e2:(i+1<=xs.length)=True:=eq_true hlt
   funext c H2
   simp only [e2,true_and]
  show tt _ _ _
  rw [e1]
  exact z
 ·have e:i=xs.length:=by omega
  subst e
  exact .inl ⟨⟨xs,q,Nat.le_refl _⟩,hd ys H p⟩
theorem iu{n:Nat}(Pv:Nat->List V->Hp->Prop)(h0:Pv 0 [] H)(hn:n<=sizeLine)
  (hs:∀(i:Nat) ys H,i<n->Pv i ys H->tt (some (.int i)::bl) H λc H2=>if c=true then te (some (.int i)::bl) H2 λy H3=>Pv (i+1) (ys++[y]) H3 else Pv (i+1) ys H2)
  (hd:∀ys H,Pv n ys H->Fin ys H) :
  ∃(W:Nat->List V->Hp->Prop) (m:Nat),W 0 [] H/\m<=sizeLine/\∀i ys H,W i ys H->((Itr 0 n).stop i H/\Fin ys H) \/
   ((Itr 0 n).go i H/\i<m/\∀x H',(Itr 0 n).yld i H x H'->tt (some x::bl) H' λc H2=>if c=true then te (some x::bl) H2 λy H3=>W (i+1) (ys++[y]) H3 else W (i+1) ys H2):=by
 refine ⟨λi ys H=>i<=n/\Pv i ys H,n,⟨Nat.zero_le _,h0⟩,hn,?_⟩
 rintro i ys H ⟨hi,p⟩
 by_cases hlt:i<n
 ·refine .inr ⟨hlt,hlt,λx H' y=>?_⟩
  obtain ⟨e,y⟩:=y
  subst e
  rw [Int.zero_add] at y
  subst y
  have z:=hs i ys _ hlt p
  have e1:(λ(c:Bool) (H2:Hp)=>if c=true then te (some (.int i)::bl) H2 λy H3=>i+1<=n/\Pv (i+1) (ys++[y]) H3 else i+1<=n/\Pv (i+1) ys H2)=λc H2=>if c=true then te (some (.int i)::bl) H2 λy H3=>Pv (i+1) (ys++[y]) H3 else Pv (i+1) ys H2:=by
   have e2:(i+1<=n)=True:=eq_true hlt
   funext c H2
   simp only [e2,true_and]
  show tt _ _ _
  rw [e1]
  exact z
 ·have e:i=n:=by omega
  subst e
  exact .inl ⟨Nat.le_refl _,hd ys H p⟩
end
end L2
namespace Lo
open PySem L2
abbrev Pa:=Int×Int
def cPa:Cod Pa:=cT2 cInt cInt
theorem ai{H:Hp}{p:Addr}{o:HO}(h:H p=none):Same H (upd H p o):=λb u e=>by
 rw [ay (ah e h)]
 exact e
def Kp(p:Addr)(H H':Hp):Prop:=∀b o,b≠p->H b=some o->H' b=some o
theorem Kp.of{p:Addr}{H H':Hp}(h:Same H H'):Kp p H H':=λb o _ e=>h b o e
theorem Kp.trans{p:Addr}{H H1 H2:Hp}(a:Kp p H H1)(b:Kp p H1 H2):Kp p H H2:=λc o n e=>b c o n (a c o n e)
theorem bn{p:Addr}{H:Hp}{o:HO}:Kp p H (upd H p o):=λb u n e=>by
 rw [ay n]
 exact e
theorem pp{F:α->β->Prop}{G:α->β->Prop}{xs:List α}{ys:List β}(h:Paired F xs ys)(f:∀a b,F a b->G a b):Paired G xs ys:=Paired.mapP h f
end Lo
namespace Lo
open PySem L2
theorem mv{X:Cx}{x:Str}{i:Int}{pos:Pos}(hm:∃t,X.mg x=some (.int i t))(hg:Gl X x)(hd:(x==("__debug__":Str))=false:=by decide):PE X (.Name x pos) (tC (.int i)):=by
 obtain ⟨t,e⟩:=hm
 exact bK hg e ⟨t,rfl⟩ hd
structure TxB(mg:Str->Option Value):Prop where
 isi:mg "isinstance"=none
 int:mg "int"=none
 bool:mg "bool"=none
 str:mg "str"=none
 len:mg "len"=none
 range:mg "range"=none
 tuple:mg "tuple"=none
 list:mg "list"=none
 any:mg "any"=none
 all:mg "all"=none
 max:mg "max"=none
 sorted:mg "sorted"=none
theorem w8{K:PySem.W.Frag}{a:Addr}{es:Array DictEntry}{n:Nat}{D:List (Str×PyProof.Rows.KTD.Dat)}(h:K.lookup a=some ⟨.type "dict",none,.dict es n,#[]⟩)(z:(a==sysModules)=false)(r:PyProof.Rows.KTD.rowsLook wf es.toList D=true):TabK K a D:=by
 unfold TabK PyProof.Rows.KTD.tabLook
 rw [z]
 show (true&&(match K.lookup a with | some o=>_ | none=>false))=true
 rw [h]
 simp [r]
theorem yK{n:Nat}(h:n<=1000):n<=sizeLine:=Nat.le_of_lt (cI h)
def aU(ns:List Int)(k:Nat):Int:=(ns[k]?).getD 0
def oR(K:PySem.W.Frag):Sp:=λvs H Q _=>∃a ns k,vs=[.ref a,.int (k:Nat)]/\SqL K H a ((ns:List Int).map V.int)/\Q (.int (aU ns k)) H
end Lo
namespace Lo
open PySem L2
end Lo
namespace Lo
open PySem L2
section
variable {K:PySem.W.Frag}
theorem pD:PySem.W.kitOne K (.type "int") (.type "bool")=some false:=by kernel_rfl
end
def p4(K:PySem.W.Frag):Sp:=λvs H Q _=>∃a ns,vs=[.ref a]/\SqL K H a ((ns:List Int).map V.int)/\ns.length<=63/\∀H',Q (.bl true) H'
end Lo
namespace Lo
open PySem L2
theorem cZ{X:Cx}{st:List Stmt}{t:TS}(u:TS)(h:PSs X st t)(hw:∀D σ H,u D σ H->t D σ H):PSs X st u:=λpins s σ H D I q=>h pins s σ H D I (hw D σ H q)
end Lo
namespace Lo
open PySem L2
end Lo
namespace Lo
open PySem L2
end Lo
namespace Lo
open PySem L2
theorem uI(ns:List Int)(lo hi:Option Int):∃cs:List Int,gm (ns.map V.int) lo hi=cs.map V.int/\cs.length<=ns.length:=by
 refine ⟨(ns.drop (HT.sIx (ns.map V.int).length 0 lo)).take (HT.sIx (ns.map V.int).length (ns.map V.int).length hi-HT.sIx (ns.map V.int).length 0 lo),?_,?_⟩
 ·unfold gm
  rw [List.map_take,List.map_drop]
 ·rw [List.length_take,List.length_drop]
  omega
end Lo
namespace Lo
open PySem L2
end Lo
namespace Lo
open PySem L2
end Lo
namespace Lo
open PySem L2
end Lo
namespace Lo
open PySem L2
end Lo
namespace Lo
open PySem L2
end Lo
namespace L2
open PySem PySem.Spec PyProof.Rows
section
variable {κ:Type} [DecidableEq κ]
def hU(kvs:List (κ×V))(k:κ):Option V:=(kvs.find? λkv=>decide (kv.1=k)).map (·.2)
def iV(kvs:List (κ×V))(k:κ)(v:V):List (κ×V) :=
 if (kvs.any λkv=>decide (kv.1=k))=true then kvs.map (λkv=>if kv.1=k then (kv.1,v) else kv) else kvs++[(k,v)]
theorem g8{p:κ×V}{r:List (κ×V)}{k:κ}(e:p.1=k):hU (p::r) k=some p.2:=by simp [hU,List.find?_cons,e]
theorem g9{p:κ×V}{r:List (κ×V)}{k:κ}(e:¬p.1=k):hU (p::r) k=hU r k:=by simp [hU,List.find?_cons,e]
theorem mJ(k:κ):∀kvs:List (κ×V),(kvs.any λkv=>decide (kv.1=k))=(hU kvs k).isSome
 | []=>rfl
 | p::r=>by
  rw [List.any_cons]
  by_cases e:p.1=k
  ·simp only [g8 e,decide_eq_true e,Bool.true_or,Option.isSome_some]
  ·rw [g9 e,decide_eq_false e,Bool.false_or];exact mJ k r
theorem je(kvs:List (κ×V))(k:κ)(v:V):(iV kvs k v).length<=kvs.length+1:=by
 unfold iV
 split
 ·rw [List.length_map];omega
 ·rw [List.length_append,List.length_cons,List.length_nil];omega
theorem RelO.isSome_eq{o:Option V}{u:Option Value}(r:RelO o u):o.isSome=u.isSome:=by
 cases o with
 | none=>cases u with
  | none=>rfl
  | some _=>exact (show False from r).elim
 | some _=>cases u with
  | none=>exact (show False from r).elim
  | some _=>rfl
theorem KV.val{kvs:List (κ×V)}{vs:List (κ×Value)}(r:KV kvs vs)(k:κ):RelO (hU kvs k) (valueAt vs k):=by
 unfold KV at r
 induction r with
 | nil=>exact True.intro
 | @cons p q ps qs h t ih =>
  obtain ⟨h1,h2⟩:=h
  by_cases e:p.1=k
  ·have e':q.1=k:=h1.symm.trans e
   have b:valueAt (q::qs) k=some q.2:=by simp [valueAt,List.find?_cons,e']
   rw [g8 e,b];exact h2
  ·have e':¬q.1=k:=λz=>e (h1.trans z)
   have b:valueAt (q::qs) k=valueAt qs k:=by simp [valueAt,List.find?_cons,e']
   rw [g9 e,b];exact ih
theorem KV.any{kvs:List (κ×V)}{vs:List (κ×Value)}(r:KV kvs vs)(k:κ):(kvs.any λkv=>decide (kv.1=k))=vs.any λkv=>decide (kv.1=k):=by
 unfold KV at r
 induction r with
 | nil=>rfl
 | cons h t ih=>rw [List.any_cons,List.any_cons,ih,h.1]
theorem KV.repl{kvs:List (κ×V)}{vs:List (κ×Value)}(r:KV kvs vs)(k:κ){y:V}{u:Value}(ry:RelV y u) :
  KV (kvs.map λkv=>if kv.1=k then (kv.1,y) else kv) (vs.map λkv=>if kv.1=k then (kv.1,u) else kv):=by
 unfold KV at r ⊢
 induction r with
 | nil=>exact .nil
 | @cons p q ps qs h t ih =>
  rw [List.map_cons,List.map_cons]
  refine .cons ?_ ih
  obtain ⟨h1,h2⟩:=h
  by_cases e:p.1=k
  ·rw [if_pos e,if_pos (h1.symm.trans e)];exact ⟨h1,ry⟩
  ·rw [if_neg e,if_neg (λz=>e (h1.trans z))];exact ⟨h1,h2⟩
theorem KV.put{kvs:List (κ×V)}{vs:List (κ×Value)}(r:KV kvs vs)(k:κ){y:V}{u:Value}(ry:RelV y u):KV (iV kvs k y) (stored vs k u):=by
 unfold iV stored
 rw [r.any k]
 by_cases e:(vs.any λkv=>decide (kv.1=k))=true
 ·rw [if_pos e,if_pos e];exact r.repl k ry
 ·rw [if_neg e,if_neg e];exact Paired.snoc r ⟨rfl,ry⟩
theorem KV.length{kvs:List (κ×V)}{vs:List (κ×Value)}(r:KV kvs vs):kvs.length=vs.length:=Paired.length r
end
theorem uo{P:Program}{w:World}{k:Key}{u:Value}(r:RelV (kV k) u):(bT P w).is k u=true:=by
 cases k with
 | inl i=>obtain ⟨t,e⟩:=(show ∃t,u=Value.int i t from r);subst e;exact oa P w i t
 | inr x=>obtain ⟨t,e⟩:=(show ∃t,u=Value.str x t from r);subst e;exact n8 P w x t
theorem kS{P:Program}{w:World}:∀{ks:List Key} {us:List Value},Vals (ks.map kV) us->ItemsAre (bT P w) ks us
 | [],_,r=>by rw [List.map_nil] at r;cases r;exact .nil
 | k::ks,_,r=>by
  rw [List.map_cons] at r
  cases r with
  | cons h t=>exact .cons (uo h) (kS t)
abbrev KT(H:Hp):List (List Key×V)->List (List Key×Addr×Value)->Prop:=Paired λp q=>p.1=q.1/\H q.2.1=some (.tup (p.1.map kV))/\RelV p.2 q.2.2
theorem KT.val{H:Hp}{kvs:List (List Key×V)}{xs:List (List Key×Addr×Value)}(r:KT H kvs xs)(k:List Key):RelO (hU kvs k) ((atKey xs k).map (·.2)):=by
 induction r with
 | nil=>exact True.intro
 | @cons p q ps qs h t ih =>
  obtain ⟨h1,_,h2⟩:=h
  by_cases e:p.1=k
  ·have e':q.1=k:=h1.symm.trans e
   have b:atKey (q::qs) k=some q.2:=by simp [atKey,List.find?_cons,e']
   rw [g8 e,b];exact h2
  ·have e':¬q.1=k:=λz=>e (h1.trans z)
   have b:atKey (q::qs) k=atKey qs k:=by simp [atKey,List.find?_cons,e']
   rw [g9 e,b];exact ih
theorem KT.repl{H:Hp}{kvs:List (List Key×V)}{xs:List (List Key×Addr×Value)}(r:KT H kvs xs)(k:List Key){y:V}{u:Value}(ry:RelV y u) :
  KT H (kvs.map λkv=>if kv.1=k then (kv.1,y) else kv) (xs.map (putAt k u)):=by
 induction r with
 | nil=>exact .nil
 | @cons p q ps qs h t ih =>
  rw [List.map_cons,List.map_cons]
  refine .cons ?_ ih
  obtain ⟨h1,h2,h3⟩:=h
  unfold putAt
  by_cases e:p.1=k
  ·rw [if_pos e,if_pos (h1.symm.trans e)];exact ⟨h1,h2,ry⟩
  ·rw [if_neg e,if_neg (λz=>e (h1.trans z))];exact ⟨h1,h2,h3⟩
theorem KT.put{H:Hp}{kvs:List (List Key×V)}{xs:List (List Key×Addr×Value)}(r:KT H kvs xs)(k:List Key){b:Addr}{y:V}{u:Value}(hb:H b=some (.tup (k.map kV)))(ry:RelV y u) :
  KT H (iV kvs k y) (storedH xs k b u):=by
 have e:(kvs.any λkv=>decide (kv.1=k))=(atKey xs k).isSome:=by
  rw [mJ,(r.val k).isSome_eq,Option.isSome_map]
 unfold iV storedH
 rw [e]
 by_cases q:(atKey xs k).isSome=true
 ·rw [if_pos q,if_pos q];exact r.repl k ry
 ·rw [if_neg q,if_neg q];exact Paired.snoc r ⟨rfl,hb,ry⟩
theorem KT.keeps{H H':Hp}{kvs:List (List Key×V)}{xs:List (List Key×Addr×Value)}(r:KT H kvs xs)(ht:∀b ys,H b=some (.tup ys)->H' b=some (.tup ys)):KT H' kvs xs :=
 Paired.mapP r λ_ _ z=>⟨z.1,ht _ _ z.2.1,z.2.2⟩
section
variable {P:Program}{w:World}{H:Hp}{h:Heap}{a:Addr}
theorem wG{u:HO}(ok:HOk P w H h)(e:Rd H a u):ObjOk P w H h a u:=e.ok ok
theorem uF{kvs:List (Key×V)}(ok:HOk P w H h)(e:Rd H a (.dK kvs)):kvs.length<=sizeLine/\(a==sysModules)=false/\∃vs,KV kvs vs/\h.DictOf (bT P w) a vs :=
 show ObjOk P w H h a (.dK kvs) from wG ok e
theorem zo{kvs:List (Key×V)}(ok:HOk P w H h)(e:H a=some (.dK kvs)):kvs.length<=sizeLine/\(a==sysModules)=false/\∃vs,KV kvs vs/\h.DictOf (bT P w) a vs:=uF ok (.inl e)
theorem pF{ks:List Key}(ok:HOk P w H h)(e:H a=some (.tup (ks.map kV))):(tupleKind (bT P w)).is h ks a:=by
 obtain ⟨_,its,r,o,h1,h2,n,h3⟩:=(show ObjOk P w H h a (.tup (ks.map kV)) from ok a _ e)
 exact ⟨o,its.toArray,n,h1,h2,h3,by simpa using kS r⟩
theorem uB{kvs:List (List Key×V)}(ok:HOk P w H h)(e:Rd H a (.dT kvs)):kvs.length<=sizeLine/\(a==sysModules)=false /\
  ∃xs,KT H kvs xs/\h.DictOfH (tupleKind (bT P w)) a xs:=by
 obtain ⟨z,y,xs,r,o,es,ep,h1,h2,h3,h4,h5⟩:=(show ObjOk P w H h a (.dT kvs) from wG ok e)
 refine ⟨z,y,xs,r,o,es,ep,h1,h2,h3,h4,λx hx=>?_,h5⟩
 have all:∀{l:List (List Key×V)} {m:List (List Key×Addr×Value)},KT H l m->∀x∈m,(tupleKind (bT P w)).is h x.1 x.2.1:=by
  intro l m q
  induction q with
  | nil=>intro x hx;exact nomatch hx
  | @cons p q ps qs hq t ih =>
   intro x hx
   rcases List.mem_cons.mp hx with e | hx
   ·subst e
    exact pF ok (by rw [← hq.1];exact hq.2.1)
   ·exact ih x hx
 exact all r x hx
theorem zn{kvs:List (List Key×V)}(ok:HOk P w H h)(e:H a=some (.dT kvs)):kvs.length<=sizeLine/\(a==sysModules)=false /\
  ∃xs,KT H kvs xs/\h.DictOfH (tupleKind (bT P w)) a xs:=uB ok (.inl e)
end
def DGet(H:Hp)(a:Addr)(y:V)(r:Option V):Prop :=
 (∃kvs k,Rd H a (.dK kvs)/\y=kV k/\r=hU kvs k)\/∃kvs k b,Rd H a (.dT kvs)/\y=.ref b/\H b=some (.tup (k.map kV))/\r=hU kvs k
def DPut(H:Hp)(a:Addr)(y v:V)(H':Hp):Prop :=
 (∃kvs k,H a=some (.dK kvs)/\y=kV k/\kvs.length<sizeLine/\H'=upd H a (.dK (iV kvs k v))) \/
 ∃kvs k b,H a=some (.dT kvs)/\y=.ref b/\H b=some (.tup (k.map kV))/\kvs.length<sizeLine/\H'=upd H a (.dT (iV kvs k v))
theorem DGet.k{H:Hp}{a:Addr}{kvs:List (Key×V)}{k:Key}(e:H a=some (.dK kvs)):DGet H a (kV k) (hU kvs k):=.inl ⟨kvs,k,.inl e,rfl,rfl⟩
theorem DPut.k{H:Hp}{a:Addr}{kvs:List (Key×V)}{k:Key}{v:V}(e:H a=some (.dK kvs))(hl:kvs.length<sizeLine):DPut H a (kV k) v (upd H a (.dK (iV kvs k v))):=.inl ⟨kvs,k,e,rfl,hl,rfl⟩
section
variable {X:Cx}{pins:List (Addr×Obj)}{σ:St}{H:Hp}{s:Shared}{a:Addr}{y v:V}{u r:Value}{o:Option V}{A:Around}{E:Value->Shared->Prop}
theorem Inv.big(I:Inv X pins σ H s):sysModules<s.heap.objs.size:=by
 have h:mainGlobals<s.heap.objs.size:=(I.mod.glob.keeps I.bk).lt
 exact Nat.lt_trans (by decide) h
theorem wg{Q:Value->Shared->Prop}(hu:A.units+1<cLine)(I:Inv X pins σ H s)(g:DGet H a y o)(ry:RelV y u)(h:∀s',Inv X pins σ H s'->Q (.bool (!o.isSome)) s') :
  wpAny (model X.prog X.w) A (compareOp .NotIn u (.ref a)) Q E s:=by
 rcases g with ⟨kvs,k,e,ey,l⟩ | ⟨kvs,k,b,e,ey,eb,l⟩
 ·subst ey
  obtain ⟨z,hd,vs,rel,dd⟩:=uF I.hok e
  refine wpAny_notIn_of (uo ry) hd dd.mapOf ?_
  rw [← (rel.val k).isSome_eq,← l]
  exact h _ (I.tok _)
 ·subst ey
  cases (show u=Value.ref b from ry)
  obtain ⟨z,hd,xs,rel,dd⟩:=uB I.hok e
  refine wpAny_notIn_heap (tupleKind_room_in1 hu) (pF I.hok eb) hd dd ?_
  have q:=(rel.val k).isSome_eq
  rw [Option.isSome_map] at q
  rw [← q,← l]
  exact h _ (I.tok _)
theorem qu{h':Heap}{t':Nat}{ob:HO}(I:Inv X pins σ H s)(mu:Mut (H a))(hs:Heap.SameBut a s.heap h')(he:∃q,h'.get? a=some q)(new:ObjOk X.prog X.w (upd H a ob) h' a ob) :
  Inv X pins σ (upd H a ob) {s with heap:=h',toks:=t'} :=
 I.write (x:=a) (e:=a) mu (.inl rfl) (λb q hb z=>(hs.2 b hb).trans z) he new
theorem yl{P:Program}{w:World}{H':Hp}{h':Heap}{kvs:List (Key×V)}{vs:List (Key×Value)}(z:kvs.length<=sizeLine)(hd:(a==sysModules)=false)(rel:KV kvs vs)(dd:h'.DictOf (bT P w) a vs) :
  ObjOk P w H' h' a (.dK kvs):=⟨z,hd,vs,rel,dd⟩
theorem rG{H':Hp}{Q:Unit->Shared->Prop}(hu:A.units+1<cLine)(I:Inv X pins σ H s)(g:DPut H a y v H')(ry:RelV y u)(rv:RelV v r)(h:∀s',Inv X pins σ H' s'->Q () s') :
  wpAny (model X.prog X.w) A (setItem (.ref a) u r) Q E s:=by
 rcases g with ⟨kvs,k,e,ey,l,eH⟩ | ⟨kvs,k,b,e,ey,eb,l,eH⟩
 ·subst ey eH
  obtain ⟨z,hd,vs,rel,dd⟩:=zo I.hok e
  have hz:vs.length<=sizeLine:=by rw [← rel.length];exact z
  have hl:(iV kvs k v).length<=sizeLine:=by have:=je kvs k v;omega
  refine wpAny_setItem_pairs (hsz:=hz) (uo ry) dd λh' dd' hs=>h _ ?_
  have he:∃q,h'.get? a=some q:=let ⟨q,_,_,hq,_⟩:=dd';⟨q,hq⟩
  exact qu I (by rw [e];exact True.intro) hs he (yl hl hd (rel.put k rv) dd')
 ·subst ey eH
  cases (show u=Value.ref b from ry)
  obtain ⟨z,hd,xs,rel,dd⟩:=zn I.hok e
  have hz:xs.length<=sizeLine:=by rw [← Paired.length rel];exact z
  have hl:(iV kvs k v).length<=sizeLine:=by have:=je kvs k v;omega
  refine wpAny_setItem_heap (hsz:=hz) (tupleKind_room_in1 hu) (pF I.hok eb) dd λh' dd' hs=>h _ ?_
  obtain ⟨q,es,ep,hq,h2,h3,h4,_,h5⟩:=dd'
  refine qu I (by rw [e];exact True.intro) hs ⟨q,hq⟩ ⟨hl,hd,_,(rel.put k eb rv).keeps λc ys ec=>?_,q,es,ep,hq,h2,h3,h4,h5⟩
  rw [ay (bf ec e (λz=>nomatch z))]
  exact ec
end
def u6(ty td:TE):TE:=fun σ H Q=>ty σ H λy H1=>td σ H1 λx H2=>∃a o,x=.ref a/\DGet H2 a y o/\Q (.bl (!o.isSome)) H2
def yR(td ty tv:TE):TS:=λD σ H=>tv σ H λv H1=>td σ H1 λx H2=>ty σ H2 λy H3=>∃a H4,x=.ref a/\DPut H3 a y v H4/\D.nx σ H4
section
variable {X:Cx}{o i e value:Expr}{pos pos' tpos:Pos}{td ty tv:TE}
theorem qU(hu:X.A.units+1<cLine)(hi:PE X i ty)(ho:PE X o td):PC X .NotIn i o (u6 ty td):=by
 intro pins s σ H Q I h
 refine thn (hi pins s σ H _ I h) λiv s1 ⟨y,H1,I1,ry,q1⟩=>thn (ho pins s1 σ H1 _ I1 q1) λu s2 ⟨x,H2,I2,rx,a,ov,ex,g,q2⟩=>?_
 subst ex
 obtain rfl:u=Value.ref a:=rx
 exact wg hu I2 g ry λs3 I3=>⟨.bl (!ov.isSome),H2,I3,rfl,q2⟩
theorem vv(hu:X.A.units+1<cLine)(ho:PE X o td)(hi:PE X i ty)(hv:PE X value tv)(hs:swapsWith value (some (.Subscript o i pos')) pos.line X.env=pure false) :
  PS X (.Assign [.Subscript o i pos'] value pos) (yR td ty tv):=by
 intro pins s σ H D I h
 refine wpAny_Assign_Subscript (thn (hv pins s σ H _ I h) λr s1 ⟨v,H1,I1,rv,q1⟩=>thn (ho pins s1 σ H1 _ I1 q1) λu s2 ⟨x,H2,I2,rx,q2⟩=>thn (hi pins s2 σ H2 _ I2 q2) λiv s3 ⟨y,H3,I3,ry,a,H4,ex,g,q3⟩=>?_) hs
 subst ex
 obtain rfl:u=Value.ref a:=rx
 exact rG hu I3 g ry rv λs4 I4=>⟨σ,H4,I4,q3⟩
end
theorem uG{P:Program}{w:World}{H:Hp}(h:Heap)(hb:sysModules<h.objs.size):ObjOk P w H (h.push {cls:=.type "dict",data:=.dict #[]}) h.objs.size (.dK []) :=
 ⟨Nat.zero_le _,beq_eq_false_iff_ne.mpr (Ne.symm (Nat.ne_of_lt hb)),[],.nil,Heap.DictOf.new h⟩
theorem uC{P:Program}{w:World}{H:Hp}(h:Heap)(hb:sysModules<h.objs.size):ObjOk P w H (h.push {cls:=.type "dict",data:=.dict #[]}) h.objs.size (.dT []) :=
 ⟨Nat.zero_le _,beq_eq_false_iff_ne.mpr (Ne.symm (Nat.ne_of_lt hb)),[],.nil,_,#[],0,Heap.get?_push_size _ rfl,⟨rfl,rfl,rfl⟩,rfl,rfl,List.nodup_nil⟩
def xg:TE:=λ_ H Q=>∀p,H p=none->Q (.ref p) (upd H p (.dK []))
def xc:TE:=λ_ H Q=>∀p,H p=none->Q (.ref p) (upd H p (.dT []))
section
variable {X:Cx}{pos:Pos}
theorem sW:PE X (.Dict [] [] pos) xg:=λpins s σ H Q I h =>
 wpAny_Dict_empty ⟨.ref s.heap.objs.size,_,I.laid (a:=s.heap.objs.size) (o:=.dK []) (t':=s.toks) (λ_ _ q=>Heap.get?_push_of_some _ q) (Nat.le_refl _) (uG s.heap I.big),rfl,h _ (I.hok.fresh (Nat.le_refl _))⟩
theorem im:PE X (.Dict [] [] pos) xc:=λpins s σ H Q I h =>
 wpAny_Dict_empty ⟨.ref s.heap.objs.size,_,I.laid (a:=s.heap.objs.size) (o:=.dT []) (t':=s.toks) (λ_ _ q=>Heap.get?_push_of_some _ q) (Nat.le_refl _) (uC s.heap I.big),rfl,h _ (I.hok.fresh (Nat.le_refl _))⟩
end
structure M1(X:Cx)(o:Expr)(m:Str)(apos:Pos)(e:Expr)(cpos:Pos):Prop where
 base:attributeBase o m X.env (eval o X.env)=eval o X.env
 few:((backTo cpos (starEach [e] X.env)).all (λx=>!x.1)&&(backToKw cpos (keywordEach [] X.env)).all (λx=>x.1.isSome)
  && decide (([e]:List Expr).length+([]:List Keyword).length+(if ([]:List Keyword).isEmpty then 0 else 1)<30))=true
 line:(apos.endLine==cpos.line)=true
 trees:backTo cpos (starEach [e] X.env)=[(false,eval e X.env)]
def IsD(H:Hp)(a:Addr):Prop:=(∃kvs,Rd H a (.dK kvs))\/∃kvs,Rd H a (.dT kvs)
theorem yj{X:Cx}{pins:List (Addr×Obj)}{σ:St}{H:Hp}{s:Shared}{a:Addr}(I:Inv X pins σ H s)(d:IsD H a) :
  s.TypeIs (.ref a) "dict"/\(∀b,Value.ref a=.ref b->∃ob,s.heap.get? b=some ob/\ob.dict=none)/\(a==sysModules)=false:=by
 rcases d with ⟨kvs,e⟩ | ⟨kvs,e⟩
 ·obtain ⟨_,hd,vs,_,dd⟩:=uF I.hok e
  refine ⟨dd.typeIs,λb q=>?_,hd⟩
  cases q
  obtain ⟨ob,_,_,h1,h2,_⟩:=dd
  exact ⟨ob,h1,h2.2.1⟩
 ·obtain ⟨_,hd,xs,_,dd⟩:=uB I.hok e
  refine ⟨dd.typeIs,λb q=>?_,hd⟩
  cases q
  obtain ⟨ob,_,_,h1,h2,_⟩:=dd
  exact ⟨ob,h1,h2.2.1⟩
end L2
namespace Lo
open PySem L2
def sPa(_:PySem.W.Frag)(H:Hp)(x:Pa)(v:V):Prop:=∃a,v=.ref a/\H a=some (.tup [.int x.1,.int x.2])
theorem sPa.keep{K:PySem.W.Frag}{H H':Hp}{x:Pa}{v:V}(e:bJ H H')(h:sPa K H x v):sPa K H' x v:=by
 obtain ⟨a,rfl,q⟩:=h
 exact ⟨a,rfl,e _ _ q⟩
def pk(x:Pa):List Key:=[.inl x.1,.inl x.2]
end Lo
namespace L2
open PySem PySem.Spec PyProof.Rows
open Builtin Builtin.Str
theorem jZ{y:Str}(hy:1<=y.length):∀ys:List Str,ys.length<=(Str.join y ys).length+1
 | []=>Nat.zero_le _
 | [_]=>by simp
 | a::u::ys=>by
  have ih:=jZ hy (u::ys)
  rw [join_cons_cons]
  have e:(a++y++Str.join y (u::ys)).length=a.length+y.length+(Str.join y (u::ys)).length:=by
   show ((a.cps++y.cps)++(Str.join y (u::ys)).cps).size=_
   rw [Array.size_append,Array.size_append]
   rfl
  rw [e,List.length_cons]
  omega
section
variable {X:Cx}
theorem re:MtR X "str.split" (λx vs H Q=>∃(z y:Str),x=.str z/\vs=[.str y]/\1<=y.length/\z.length<=1000000/\∀p,H p=none->Q (.ref p) (upd H p (.lst ((Txt.split z y).map V.str)))):=by
 intro pins s σ H x xs v us Q I rx r h
 obtain ⟨z,y,rfl,rfl,h1y,hz,q⟩:=h
 obtain ⟨t,rfl⟩:=rx
 obtain ⟨u,rfl,⟨t1,rfl⟩⟩:=cA r
 have hs:(1000002:Nat)<=sizeLine:=by decide
 have many:(Txt.split z y).length<=sizeLine:=by
  have:=jZ h1y (Txt.split z y)
  rw [StrLaws.join_split] at this
  omega
 have fin:∀(l:List (Str×Tok)) (k:Nat),l.map (·.1)=Txt.split z y->EP X pins σ Q (.ref s.heap.objs.size) {s with toks:=k,heap:=s.heap.push {cls:=.type "list",data:=.seq (strValues l).toArray}}:=λl k el =>
  ⟨.ref s.heap.objs.size,_,I.laid (t':=k) (o:=.lst ((Txt.split z y).map V.str)) (λb o e=>Heap.get?_push_of_some _ e) (Nat.le_refl _)
   (show ObjOk X.prog X.w _ _ _ (.lst ((Txt.split z y).map V.str)) from ⟨by rw [List.length_map];exact many,strValues l,0,el▸iH l,Heap.get?_push_size _ rfl⟩),rfl,q _ (I.hok.fresh (Nat.le_refl _))⟩
 have hy:(y.length==0)=false:=by
  cases e:y.length with
  | zero=>omega
  | succ n=>rfl
 cases h1:(decide (z.length<y.length)||decide (strKind z<strKind y)) with
 | true =>
  have es:Txt.split z y=[z]:=by unfold Txt.split;rw [if_pos h1]
  exact call_meets F.slot_str_split (typeIs_str _ _ _) F.entry_str_split (F.args_str_split_2 _ _) (meets_str_split_cannot_occur z y t t1 h1) (fin [(z,t)] s.toks es.symm)
 | false =>
  cases hf:(occurrences z y 0 z.length (z.length+1)).isEmpty with
  | true =>
   have es:Txt.split z y=[z]:=by unfold Txt.split;rw [if_neg (by rw [h1];decide),if_pos hf]
   exact call_meets F.slot_str_split (typeIs_str _ _ _) F.entry_str_split (F.args_str_split_2 _ _) (meets_str_split_not_found z y t t1 h1 hy hf) (fin [(z,t)] s.toks es.symm)
  | false =>
   have es:Txt.split z y=partsBetween z (occurrences z y 0 z.length (z.length+1)) y.length:=by unfold Txt.split;rw [if_neg (by rw [h1];decide),if_neg (by rw [hf];decide)]
   refine call_meets F.slot_str_split (typeIs_str _ _ _) F.entry_str_split (F.args_str_split_2 _ _) (meets_str_split_sep z y t t1 h1 hy hf (by omega) (by rw [← es];exact many)) ?_
   rw [strsFrom_eq]
   exact fin _ _ ((numbered_texts _ _).trans es.symm)
theorem vZ:MtR X "str.partition" (λx vs H Q=>∃(z y:Str),x=.str z/\vs=[.str y]/\(y.length==0)=false/\z.length<=sizeLine /\
  ∀p,H p=none->Q (.ref p) (upd H p (.tup [.str (Txt.partition z y).1,.str (Txt.partition z y).2.1,.str (Txt.partition z y).2.2]))):=by
 intro pins s σ H x xs v us Q I rx r h
 obtain ⟨z,y,rfl,rfl,hy,hz,q⟩:=h
 obtain ⟨t,rfl⟩:=rx
 obtain ⟨u,rfl,⟨t1,rfl⟩⟩:=cA r
 have fin:∀(a b c:Str) (ta tb tc:Tok) (k:Nat),(∀p,H p=none->Q (.ref p) (upd H p (.tup [.str a,.str b,.str c]))) ->
   EP X pins σ Q (.ref s.heap.objs.size) {s with toks:=k,heap:=s.heap.push {cls:=.type "tuple",data:=.seq [Value.str a ta,Value.str b tb,Value.str c tc].toArray}}:=λa b c ta tb tc k hq =>
  ⟨.ref s.heap.objs.size,_,I.laid (t':=k) (o:=.tup [.str a,.str b,.str c]) (λb o e=>Heap.get?_push_of_some _ e) (Nat.le_refl _)
   (show ObjOk X.prog X.w _ _ _ (.tup [.str a,.str b,.str c]) from ⟨by show 3<=sizeLine;decide,_,.cons ⟨ta,rfl⟩ (.cons ⟨tb,rfl⟩ (.cons ⟨tc,rfl⟩ .nil)),IsTup.new _ _⟩),rfl,hq _ (I.hok.fresh (Nat.le_refl _))⟩
 refine call_meets F.slot_str_partition (typeIs_str _ _ _) F.entry_str_partition (F.args_str_partition_2 _ _) (meets_str_partition z y t t1 hy hz) ?_
 unfold Txt.partition at q
 cases e:occurrences z y 0 z.length 1 with
 | nil=>rw [e] at q;exact fin _ _ _ _ _ _ _ q
 | cons i r=>rw [e] at q;exact fin _ _ _ _ _ _ _ q
end
end L2
namespace Km
open PySem PySem.NumText PyProof.Rows
def oj(c:Nat):Bool:=decide (48<=c)&&decide (c<=57)
def pi(c:Nat):Bool:=decide (32<=c)&&decide (c<=126)&&decide (c≠37)
def bh(m:Nat):List Nat:=(Nat.toDigits 10 m).map Char.toNat
def bV(n:Int):List Nat:=if n<0 then 45::bh n.natAbs else bh n.natAbs
theorem iC(m:Nat):AllDigits (bh m):=by
 intro c hc
 obtain ⟨ch,hch,e⟩:=List.mem_map.mp hc
 have r:=digit_range (Nat.isDigit_of_mem_toDigits (by decide) (by decide) hch)
 rw [← e]
 exact r
theorem mx(m:Nat):bh m≠[]:=by
 intro e
 have h:=toDigits_len_ge 10 m
 rw [List.map_eq_nil_iff.mp e] at h
 exact absurd h (by decide)
theorem ix(m:Nat):digitsVal (bh m)=m:=PySem.W.KIN.val_back m
theorem rE:bh 0=[48]:=rfl
theorem rF(m:Nat)(h:m≠0):∀c r,bh m=c::r->c≠48:=by
 induction m using Nat.strongRecOn with
 | _ m ih =>
  intro c r e
  by_cases hm:m<10
  ·unfold bh at e
   rw [Nat.toDigits_of_lt_base hm] at e
   have hc:(Nat.digitChar m).toNat=c:=by simpa using (List.cons.inj e).1
   have key:∀d:Nat,d<10->d≠0->(Nat.digitChar d).toNat≠48:=by decide
   rw [← hc]
   exact key m hm h
  ·have t:Nat.toDigits 10 (m/10)++Nat.toDigits 10 (m%10)=Nat.toDigits 10 (10*(m/10)+m%10):=Nat.toDigits_append_toDigits (by decide) (by omega) (Nat.mod_lt m (by decide))
   rw [Nat.div_add_mod] at t
   have e2:bh m=bh (m/10)++bh (m%10):=by unfold bh;rw [← t,List.map_append]
   cases q:bh (m/10) with
   | nil=>exact absurd q (mx _)
   | cons c' r' =>
    rw [e2,q] at e
    have:c'=c:=(List.cons.inj e).1
    rw [← this]
    exact ih (m/10) (by omega) (by omega) c' r' q
theorem iz{m k:Nat}(hk:1<=k)(h:m<10 ^ k):(bh m).length<=k:=by
 induction k generalizing m with
 | zero=>omega
 | succ k ih =>
  by_cases hm:m<10
  ·unfold bh
   rw [Nat.toDigits_of_lt_base hm]
   simp
  ·have hk1:1<=k:=by
    cases k with
    | zero=>exfalso;simp at h;omega
    | succ k=>omega
   have t:Nat.toDigits 10 (m/10)++Nat.toDigits 10 (m%10)=Nat.toDigits 10 (10*(m/10)+m%10):=Nat.toDigits_append_toDigits (by decide) (by omega) (Nat.mod_lt m (by decide))
   rw [Nat.div_add_mod] at t
   have e2:bh m=bh (m/10)++bh (m%10):=by unfold bh;rw [← t,List.map_append]
   have e3:bh (m%10)=[(Nat.digitChar (m%10)).toNat]:=by unfold bh;rw [Nat.toDigits_of_lt_base (Nat.mod_lt m (by decide))];rfl
   have h2:m/10<10 ^ k:=by
    rw [Nat.pow_succ] at h
    exact Nat.div_lt_of_lt_mul (by rw [Nat.mul_comm];exact h)
   have:=ih hk1 h2
   rw [e2,e3,List.length_append]
   simpa using this
theorem jq(n:Int):(Str.ofString (toString n)).cps.toList=bV n:=by
 cases n with
 | ofNat m =>
  unfold bV
  rw [if_neg (show ¬Int.ofNat m<0 from Int.not_lt.mpr (Int.natCast_nonneg m))]
  exact PySem.W.KIN.signs_num m
 | negSucc m =>
  unfold bV
  rw [if_pos (by omega)]
  have e:toString (Int.negSucc m)="-"++Nat.repr (m+1):=rfl
  rw [e,signs_ofString,String.toList_append,List.map_append,Nat.toList_repr]
  rfl
theorem xU{n:Int}(h:n.natAbs<10 ^ 400):n.natAbs.log2<1920:=by
 by_cases h0:n.natAbs=0
 ·rw [h0];decide
 ·exact (Nat.log2_lt h0).mpr (Nat.lt_of_lt_of_le h (by decide +kernel))
end Km
namespace Km
open PySem PySem.NumText L2
end Km
namespace Km
open PySem PySem.NumText L2 PyProof.Rows
def ca(c:Nat):List (List Nat)->List Nat
 | []=>[]
 | [x]=>x
 | x::y::r=>x++c::ca c (y::r)
theorem b9(c:Nat):∀ys:List Str,(Str.join ⟨#[c]⟩ ys).cps.toList=ca c (ys.map λy=>y.cps.toList)
 | []=>rfl
 | [y]=>rfl
 | y::u::ys=>by
  have ih:=b9 c (u::ys)
  rw [join_cons_cons]
  show ((y.cps++#[c])++(Str.join ⟨#[c]⟩ (u::ys)).cps).toList=_
  rw [Array.toList_append,Array.toList_append,ih]
  simp [ca]
theorem li{c:Nat}{a b a' b':List Nat}(ha:c∉a)(ha':c∉a')(e:a++c::b=a'++c::b'):a=a'/\b=b':=by
 induction a generalizing a' with
 | nil =>
  cases a' with
  | nil=>exact ⟨rfl,(List.cons.inj e).2⟩
  | cons x a'=>exact absurd (List.mem_cons.mpr (.inl (List.cons.inj e).1)) ha'
 | cons x a ih =>
  cases a' with
  | nil=>exact absurd (List.mem_cons.mpr (.inl (List.cons.inj e).1.symm)) ha
  | cons y a' =>
   obtain ⟨e1,e2⟩:=List.cons.inj e
   obtain ⟨r1,r2⟩:=ih (λh=>ha (List.mem_cons_of_mem _ h)) (λh=>ha' (List.mem_cons_of_mem _ h)) e2
   exact ⟨by rw [e1,r1],r2⟩
theorem kR{c:Nat}:∀{xs ys:List (List Nat)},xs≠[]->ys≠[]->(∀x∈xs,c∉x)->(∀y∈ys,c∉y)->ca c xs=ca c ys->xs=ys
 | [],_,h,_,_,_,_=>absurd rfl h
 | _::_,[],_,h,_,_,_=>absurd rfl h
 | [x],[y],_,_,_,_,e=>by rw [show x=y from e]
 | [x],y::u::ys,_,_,hx,_,e=>by
  have e':x=y++c::ca c (u::ys):=e
  exact absurd (by rw [e'];simp) (hx x List.mem_cons_self)
 | x::u::xs,[y],_,_,_,hy,e=>by
  have e':x++c::ca c (u::xs)=y:=e
  exact absurd (by rw [← e'];simp) (hy y List.mem_cons_self)
 | x::u::xs,y::v::ys,_,_,hx,hy,e=>by
  have e':x++c::ca c (u::xs)=y++c::ca c (v::ys):=e
  obtain ⟨e1,e2⟩:=li (hx x List.mem_cons_self) (hy y List.mem_cons_self) e'
  rw [e1,kR (by simp) (by simp) (λz hz=>hx z (List.mem_cons_of_mem _ hz)) (λz hz=>hy z (List.mem_cons_of_mem _ hz)) e2]
theorem rW{z:Str}{c:Nat}{ps:List (List Nat)}(ez:z.cps.toList=ca c ps)(h0:ps≠[])(hp:∀p∈ps,c∉p):Txt.split z ⟨#[c]⟩=ps.map λp=>(⟨p.toArray⟩:Str):=by
 have e1:=b9 c (Txt.split z ⟨#[c]⟩)
 rw [StrLaws.join_split,ez] at e1
 have n1:(Txt.split z ⟨#[c]⟩).map (λy=>y.cps.toList)≠[]:=by
  intro e
  have:=split_pos z ⟨#[c]⟩
  rw [List.map_eq_nil_iff.mp e] at this
  exact absurd this (by decide)
 have e2:=kR h0 n1 hp (λy hy=>by
  obtain ⟨p,hp',rfl⟩:=List.mem_map.mp hy
  exact StrLaws.split_free z c p hp') e1
 rw [e2,List.map_map]
 have e3:((λp:List Nat=>(⟨p.toArray⟩:Str))∘λy:Str=>y.cps.toList)=id:=by
  funext y
  obtain ⟨a⟩:=y
  simp
 rw [e3,List.map_id]
end Km
namespace St
open PySem L2 Lo Km PySem.NumText
inductive Wd where
 | take | mean | sum | give | add | plus | need
 deriving DecidableEq
def wS:Wd->Str
 | .take=>"take" | .mean=>"mean" | .sum=>"sum" | .give=>"give" | .add=>"add" | .plus=>"plus" | .need=>"need"
def wN:Wd->Str
 | .take=>"TakeStep" | .mean=>"MeanStep" | .sum=>"SumStep" | .give=>"GiveStep" | .add=>"AddStep" | .plus=>"PlusStep" | .need=>"NeedStep"
def inN(i:Int):Prop:=0<=i/\i<10 ^ 40
def inV(i:Int):Prop:=i.natAbs<10 ^ 40
theorem inN.v{i:Int}(h:inN i):inV i:=by
 unfold inN at h
 unfold inV
 omega
def Ar:Wd->List Int->Prop
 | .take,[h,c]=>inN h/\inN c
 | .mean,[h,c]=>inN h/\inN c
 | .give,[h,c]=>inN h/\inN c
 | .sum,[h,a,b]=>inN h/\inN a/\inN b/\a<=b
 | .add,[h,c,v]=>inN h/\inN c/\inV v
 | .plus,[v]=>inV v
 | .need,[v]=>inV v
 | _,_=>False
theorem Ar.all{w:Wd}{ns:List Int}(h:Ar w ns):∀i∈ns,inV i:=by
 unfold Ar at h
 split at h
 ·intro i hi;simp only [List.mem_cons,List.mem_nil_iff,or_false] at hi;rcases hi with rfl | rfl<;>first | exact h.1.v | exact h.2.v
 ·intro i hi;simp only [List.mem_cons,List.mem_nil_iff,or_false] at hi;rcases hi with rfl | rfl<;>first | exact h.1.v | exact h.2.v
 ·intro i hi;simp only [List.mem_cons,List.mem_nil_iff,or_false] at hi;rcases hi with rfl | rfl<;>first | exact h.1.v | exact h.2.v
 ·intro i hi;simp only [List.mem_cons,List.mem_nil_iff,or_false] at hi;rcases hi with rfl | rfl | rfl<;>first | exact h.1.v | exact h.2.1.v | exact h.2.2.1.v
 ·intro i hi;simp only [List.mem_cons,List.mem_nil_iff,or_false] at hi;rcases hi with rfl | rfl | rfl<;>first | exact h.1.v | exact h.2.1.v | exact h.2.2
 ·intro i hi;simp only [List.mem_cons,List.mem_nil_iff,or_false] at hi;rcases hi with rfl;exact h
 ·intro i hi;simp only [List.mem_cons,List.mem_nil_iff,or_false] at hi;rcases hi with rfl;exact h
 ·exact h.elim
def iS(i:Int):Str:=Str.ofString (toString i)
theorem g6{i:Int}(h:inV i):(iS i).length<=41:=by
 have e:(iS i).length=(bV i).length:=by
  unfold iS
  rw [← jq]
  simp [Str.length]
 rw [e]
 unfold bV
 have:=iz (k:=40) (by decide) h
 split
 ·rw [List.length_cons];omega
 ·omega
theorem xR(i:Int):32∉bV i:=by
 have hd:∀m,32∉bh m:=λm hm=>by
  have:=iC m
  have h:=this 32 hm
  omega
 unfold bV
 split
 ·intro hm
  rcases List.mem_cons.mp hm with e | e
  ·cases e
  ·exact hd _ e
 ·exact hd _
def txt(w:Wd)(ns:List Int):Str:=Str.join (Str.ofString " ") (wS w::ns.map iS)
theorem yw(w:Wd):32∉(wS w).cps.toList:=by cases w<;>decide +kernel
theorem wZ(w:Wd):(wS w).length<=4:=by cases w<;>decide +kernel
theorem fM:(Str.ofString " ")=⟨#[32]⟩:=by decide +kernel
theorem qI(w:Wd)(ns:List Int):Txt.split (txt w ns) ⟨#[32]⟩=wS w::ns.map iS:=by
 have e:=b9 32 (wS w::ns.map iS)
 have e2:(txt w ns).cps.toList=ca 32 ((wS w::ns.map iS).map λy=>y.cps.toList):=by
  unfold txt
  rw [fM]
  exact e
 rw [rW e2 (by simp) (λp hp=>?_)]
 ·rw [List.map_map]
  have e3:((λp:List Nat=>(⟨p.toArray⟩:Str))∘λy:Str=>y.cps.toList)=id:=by
   funext y
   obtain ⟨a⟩:=y
   simp
  rw [e3,List.map_id]
 ·obtain ⟨y,hy,rfl⟩:=List.mem_map.mp hp
  rcases List.mem_cons.mp hy with e | hy
  ·rw [e];exact yw w
  ·obtain ⟨i,_,rfl⟩:=List.mem_map.mp hy
   have e4:(iS i).cps.toList=bV i:=jq i
   rw [e4]
   exact xR i
theorem Ar.len{w:Wd}{ns:List Int}(h:Ar w ns):1<=ns.length/\ns.length<=3:=by
 unfold Ar at h
 split at h<;>first | exact h.elim | (constructor<;>simp)
theorem rV{ys:List Str}{k:Nat}(h:∀y∈ys,y.length<=k):(ys.map (·.length)).sum<=ys.length*k:=by
 induction ys with
 | nil=>simp
 | cons y ys ih =>
  have h1:=h y List.mem_cons_self
  have h2:=ih λy hy=>h y (List.mem_cons_of_mem _ hy)
  rw [List.map_cons,List.sum_cons,List.length_cons,Nat.succ_mul]
  omega
theorem rK{w:Wd}{ns:List Int}(h:Ar w ns):∀y∈wS w::ns.map iS,y.length<=41:=λy hy=>by
 rcases List.mem_cons.mp hy with e | hy
 ·rw [e];exact Nat.le_trans (wZ w) (by decide)
 ·obtain ⟨i,hi,rfl⟩:=List.mem_map.mp hy
  exact g6 (h.all i hi)
theorem iF{w:Wd}{ns:List Int}(h:Ar w ns):((wS w::ns.map iS).map (·.length)).sum+(wS w::ns.map iS).length*(Str.ofString " ").length<=1000:=by
 have h1:=rV (rK h)
 have h2:=h.len
 have h3:(Str.ofString " ").length=1:=by decide +kernel
 rw [h3]
 have h4:(wS w::ns.map iS).length<=4:=by rw [List.length_cons,List.length_map];omega
 have h5:(wS w::ns.map iS).length*41<=4*41:=Nat.mul_le_mul_right _ h4
 omega
def uw:Wd->List Int->List (Str×V)
 | .take,[h,c]=>al "cell" (.int c) (al "where" (.int h) [])
 | .mean,[h,c]=>al "cell" (.int c) (al "where" (.int h) [])
 | .give,[h,c]=>al "cell" (.int c) (al "where" (.int h) [])
 | .sum,[h,a,b]=>al "high" (.int b) (al "low" (.int a) (al "where" (.int h) []))
 | .add,[h,c,v]=>al "amount" (.int v) (al "cell" (.int c) (al "where" (.int h) []))
 | .plus,[v]=>al "amount" (.int v) []
 | .need,[v]=>al "amount" (.int v) []
 | _,_=>[]
def StO(C:Wd->Addr)(H:Hp)(w:Wd)(ns:List Int)(v:V):Prop:=∃a dx,v=.ref a/\H a=some (.ins (C w) dx (uw w ns))
theorem StO.keep{C:Wd->Addr}{H H':Hp}{w:Wd}{ns:List Int}{v:V}(e:Same H H')(h:StO C H w ns v):StO C H' w ns v:=by
 obtain ⟨a,dx,rfl,q⟩:=h
 exact ⟨a,dx,rfl,e _ _ q⟩
def aL:Wd->List Int->V
 | .plus,_=>.non
 | .need,_=>.non
 | _,h::_=>.int h
 | _,[]=>.non
end St
namespace L2
open PySem PySem.Spec PyProof.Rows
section
variable {X:Cx}{CX:CXT}{E:XK}{k:Nat}{C f:Addr}{fd:FuncData}{ps:List Str}{sp:Sp}{m:Str}{o e:Expr}{es:List Expr}{t:TA}{ty:TE}{pos apos cpos p:Pos}{mc:Value}
structure qA(K:PySem.W.Frag)(C:Addr)(m:Str)(f:Addr):Prop where
 ga:PySem.W.specialIn K (.ref C) "__getattribute__"=some (some (.builtin "type.__getattribute__"))
 rd:PySem.W.readsIn K C (.type "type")=true
 fc:PySem.W.findCls K (.ref C) (.type "type") m=some (.val (.ref f))
 hi:PySem.W.handedIn (.ref f)=true
 kp:PySem.W.keepIn K (.ref f)=true
theorem l9{pl:Sem Bool}(ho:PE X o (tC (.ref C)))(c:qA X.K C m f)(F:FnOk X.prog X.w X.K X.mg X.base CX k f fd ps sp)(hr:Room k X.A)(hb:Binds X.K fd ps [])(hx:dQ CX X E)(ha:PA X (e::es) t)
  (hst:starEach (e::es) X.env=(false,eval e X.env)::starEach es X.env:=by rfl)(hpl:(backTo pos (starEach es X.env)).any (·.1)=false:=by rfl)
  (ht:eval (.Call (.Attribute o m apos) (e::es) [] pos) X.env=(do
   let ov ← eval o X.env
   standAt apos.atName
   let (f,first) ← holding [ov] (getMethod ov m pl)
   callWith pos f first (backTo pos (starEach (e::es) X.env)) (backToKw pos (keywordEach [] X.env))):=by rfl) :
  PE X (.Call (.Attribute o m apos) (e::es) [] pos) (rS sp [] E t):=by
 intro pins s σ H Q I h
 refine PySem.W.methodCall_KW (pl:=pl) (thn (ho pins s σ H (λx H1=>x=.ref C/\t σ H1 λvs H2=>sp (vs++[]) H2 Q E) I ⟨rfl,h⟩) λu s1 ⟨x,H1,I1,rx,ex,q⟩=>?_) ht
 subst ex
 obtain rfl:u=Value.ref C:=rx
 refine PySem.W.method_cls I1.kIn c.ga (PySem.W.cls_value I1.kIn c.rd c.fc c.hi ?_)
 have I2:Inv X pins σ H1 {s1 with toks:=s1.toks+1}:=I1.tok _
 refine PySem.W.callWith_K (first:=[]) (h₀:=X.base) I.ok.mod.kin c.kp (thn (ha pos pins _ σ H1 _ I2 q) λus s2 ⟨vs,H2,I3,r,q2⟩=>⟨I3.kIn,?_⟩) hst hpl
 exact l8 (us:=us) (vs:=vs) F hr hb .nil hx I3 r q2
theorem vw{a:Addr}{D:List (Str×KTD.Dat)}(ho:PE X o (tC (.ref a)))(he:PE X e ty)(mm:M1 X o "get" apos e cpos)(ht:TabK X.K a D) :
  PE X (.Call (.Attribute o "get" apos) [e] [] cpos) (fun σ H Q=>ty σ H λy H1=>∃k z,y=.str k/\KTD.datumAt k D=some (.flat (.str z))/\Q (.str z) H1):=by
 intro pins s σ H Q I h
 refine wpAny_Call_method mm.base mm.few mm.line PySem.F.plainAttrs_dict PySem.F.slot_dict_get PySem.F.type_dict_get (thn (ho pins s σ H (λx H1=>x=.ref a/\ty σ H1 λy H1=>∃k z,y=.str k/\KTD.datumAt k D=some (.flat (.str z))/\Q (.str z) H1) I ⟨rfl,h⟩) λu s1 ⟨x,H1,I1,rx,ex,q1⟩=>?_)
 subst ex
 obtain rfl:u=Value.ref a:=rx
 have T1:KTD.Here s1.heap s1.heap a D:=⟨ht.at I1.kIn,λ_ _ e=>e⟩
 refine ⟨T1.typeIs,T1.noDict,?_⟩
 rw [mm.trees]
 refine Calls.callWith_builtin rfl (Calls.evalArgs_plain (Calls.spliced_cons (thn (he pins s1 σ H1 _ I1 q1) λiv s2 ⟨y,H2,I2,ry,k,z,ek,hd,q2⟩=>Calls.spliced_nil ?_)))
 subst ek
 obtain ⟨tk,rfl⟩:=ry
 refine KTD.get1_textL (h₀:=s2.heap) ⟨ht.at I2.kIn,λ_ _ e=>e⟩ ?_ (qo hd (KTD.opened_str λt'=>⟨.str z,H2,I2.tok _,⟨_,rfl⟩,q2⟩))
 rw [← KTD.isSome_datumAt,hd]
 rfl
theorem pj:MtR X "str.lstrip" (λx vs H Q=>∃z y,x=.str z/\vs=[.str y]/\z.length<=sizeLine/\Q (.str (Txt.lstripChars z y)) H):=by
 intro pins s σ H x xs v us Q I rx r h
 obtain ⟨z,y,rfl,rfl,hz,q⟩:=h
 obtain ⟨t,rfl⟩:=rx
 obtain ⟨u,rfl,⟨t1,rfl⟩⟩:=cA r
 exact SC.lstripChars (λt' k=>⟨.str _,H,I.tok _,⟨_,rfl⟩,q⟩) hz
theorem xu{te:TE}(h:PE X.nox e te):PEX X e (fun σ H Q _=>te σ H Q):=by
 intro pins s σ H Q E I q
 exact nox (h pins s σ H _ (I.wish _) q) λv s1 ⟨x,H1,I1,r,q1⟩=>⟨x,H1,I1.unwish,r,q1⟩
end
end L2
namespace St
open PySem L2 Lo Km PySem.NumText
structure TxW(K:PySem.W.Frag)(CW:Wd->Addr):Prop where
 cl:∀w,Cls K (CW w)
 nW:∀w,NoAttr K (CW w) "where"
 nC:∀w,NoAttr K (CW w) "cell"
 nL:∀w,NoAttr K (CW w) "low"
 nH:∀w,NoAttr K (CW w) "high"
 nA:∀w,NoAttr K (CW w) "amount"
def isC:Wd->Bool
 | .take=>true | .mean=>true | .give=>true | _=>false
theorem bw{f:Str}{v:V}{fs:List (Str×V)}:(al f v fs).lookup f=some v:=by rw [av,if_pos rfl]
theorem aV{f g:Str}{v:V}{fs:List (Str×V)}(h:¬g=f):(al f v fs).lookup g=fs.lookup g:=by rw [av,if_neg h]
section
variable (CW:Wd->Addr)
def gv(w:Wd):Sp:=λvs H Q _=>∃a dx ns,vs=.ref a::(ns:List Int).map V.int/\Ar w ns/\H a=some (.ins (CW w) dx [])/\∀H',H' a=some (.ins (CW w) dx (uw w ns))->Kp a H H'->Q .non H'
def lR:Sp:=λvs H Q _=>∃a dx w h c,vs=[.ref a,.int h,.int c]/\H a=some (.ins (CW w) dx [])/\∀H',H' a=some (.ins (CW w) dx (al "cell" (.int c) (al "where" (.int h) [])))->Kp a H H'->Q .non H'
def eV(w:Wd):Sp:=λvs H Q _=>∃v ns,vs=[v]/\Ar w ns/\StO CW H w ns v/\Q (aL w ns) H
def lH(w:Wd):Sp:=λvs H Q _=>∃v,vs=[v]/\Q (.bl (decide (w=.give))) H
def cb(w:Wd):Sp:=λvs H Q _=>∃v ns,vs=[v]/\Ar w ns/\StO CW H w ns v/\∀H',Same H H'->Q (.str (txt w ns)) H'
end
def dr:Sp:=λvs H Q _=>∃w q ns,vs=[.str (wS w),.ref q]/\H q=some (.lst ((ns:List Int).map V.int))/\Ar w ns/\∀H',Same H H'->Q (.str (txt w ns)) H'
theorem fz{i:Int}(h:inV i):i.natAbs.log2<1920:=by
 by_cases h0:i.natAbs=0
 ·rw [h0];decide
 ·exact (Nat.log2_lt h0).mpr (Nat.lt_trans h (by decide +kernel))
theorem Ar.c{w:Wd}{ns:List Int}(hw:isC w=true)(h:Ar w ns):∃a b,ns=[a,b]/\inN a/\inN b/\uw w ns=al "cell" (.int b) (al "where" (.int a) []):=by
 cases w<;>first | cases hw | skip
 all_goals
  match ns,h with
  | [a,b],h=>exact ⟨a,b,rfl,h.1,h.2,rfl⟩
theorem Ar.s{ns:List Int}(h:Ar .sum ns):∃a b c,ns=[a,b,c]/\inN a/\inN b/\inN c/\b<=c:=by
 match ns,h with
 | [a,b,c],h=>exact ⟨a,b,c,rfl,h⟩
theorem Ar.a{ns:List Int}(h:Ar .add ns):∃a b c,ns=[a,b,c]/\inN a/\inN b/\inV c:=by
 match ns,h with
 | [a,b,c],h=>exact ⟨a,b,c,rfl,h⟩
theorem Ar.p{ns:List Int}(h:Ar .plus ns):∃a,ns=[a]/\inV a:=by
 match ns,h with
 | [a],h=>exact ⟨a,rfl,h⟩
theorem Ar.n{ns:List Int}(h:Ar .need ns):∃a,ns=[a]/\inV a:=by
 match ns,h with
 | [a],h=>exact ⟨a,rfl,h⟩
end St
namespace St
open PySem PySem.Spec PyProof.Rows L2 Lo Km PySem.NumText
section
variable {K:PySem.W.Frag}{H:Hp}{a:Addr}{bl:L2.St}{te:TE}{Fin:List V->Hp->Prop}
theorem v3{g:Int->V}{ns:List Int}(hq:SqL K H a (ns.map V.int))(hn:ns.length<=sizeLine)
  (he:∀i H1 (Q:VK),i∈ns->Same H H1->(∀H2,Same H1 H2->Q (g i) H2)->te (some (.int i)::bl) H1 Q)
  (hd:∀H1,Same H H1->Fin (ns.map g) H1) :
  ∃(W:Nat->List V->Hp->Prop) (n:Nat),W 0 [] H/\n<=sizeLine/\∀i ys H,W i ys H->((Itl K a).stop i H/\Fin ys H) \/
   ((Itl K a).go i H/\i<n/\∀x H',(Itl K a).yld i H x H'->u7 (some x::bl) H' λc H2=>if c=true then te (some x::bl) H2 λy H3=>W (i+1) (ys++[y]) H3 else W (i+1) ys H2):=by
 refine gA (tt:=u7) (xs:=ns.map V.int) (λi ys H1=>Same H H1/\ys=(ns.take i).map g) ⟨Same.refl _,rfl⟩ (by rw [List.length_map];exact hn) (λi ys H1 _ z=>z.1.seq hq) ?_ ?_
 ·rintro i x ys H1 hx ⟨s1,rfl⟩
  rw [List.getElem?_map] at hx
  obtain ⟨n,hn,rfl⟩:=Option.map_eq_some_iff.mp hx
  refine kE (he n H1 _ (List.mem_of_getElem? hn) s1 λH2 s2=>⟨s1.trans s2,?_⟩)
  rw [List.take_add_one,hn]
  simp
 ·rintro ys H1 ⟨s1,rfl⟩
  rw [List.length_map,List.take_length]
  exact hd H1 s1
end
theorem at0{x:V}{xs:List V}:atI (x::xs) 0=some x:=bv (j:=0) rfl
theorem at1{x y:V}{xs:List V}:atI (x::y::xs) 1=some y:=bv (j:=1) rfl
theorem at2{x y z:V}{xs:List V}:atI (x::y::z::xs) 2=some z:=bv (j:=2) rfl
theorem w5{a b:Wd}(h:wS a=wS b):a=b:=by
 cases a<;>cases b<;>first | rfl | exact absurd h (by decide +kernel)
theorem kC{a b:Wd}(c:decide (V.str (wS a)=V.str (wS b))=true):a=b:=w5 (V.str.inj (of_decide_eq_true c))
theorem iG{a b:Wd}(c:¬decide (V.str (wS a)=V.str (wS b))=true):a≠b:=λe=>c (by rw [e];exact decide_eq_true rfl)
theorem wY{a:Wd}(h1:a≠.take)(h2:a≠.mean)(h3:a≠.sum)(h4:a≠.give)(h5:a≠.add)(h6:a≠.plus):a=.need:=by
 cases a<;>first | rfl | contradiction
def shp:Wd->Str
 | .take=>"HC" | .mean=>"HC" | .sum=>"HAB" | .give=>"HC" | .add=>"HCV" | .plus=>"V" | .need=>"V"
def ju:List (Str×PyProof.Rows.KTD.Dat):=[("take",.flat (.str "HC")),("mean",.flat (.str "HC")),("sum",.flat (.str "HAB")),("give",.flat (.str "HC")),("add",.flat (.str "HCV")),("plus",.flat (.str "V")),("need",.flat (.str "V"))]
theorem sB(w:Wd):PyProof.Rows.KTD.datumAt (wS w) ju=some (.flat (.str (shp w))):=by
 cases w<;>kernel_rfl
theorem ve{w:Wd}{ns:List Int}(h:Ar w ns):(shp w).length=ns.length:=by
 unfold Ar at h
 split at h<;>first | exact h.elim | kernel_rfl
theorem jG(w:Wd):(shp w).length<=sizeLine:=by cases w<;>decide +kernel
theorem dF{i:Int}{p:Prop}(h:inN i):i<0->p:=λz=>absurd z (by unfold inN at h;omega)
theorem xl{w:Wd}{ns:List Int}{k:Nat}{i:Int}(h:Ar w ns)(hi:ns[k]?=some i):∃c,(shp w).cps.toList[k]?=some c/\(i<0->c=86):=by
 unfold Ar at h
 split at h
 ·rcases k with _ | _ | k
  ·cases hi;exact ⟨72,by decide +kernel,dF h.1⟩
  ·cases hi;exact ⟨67,by decide +kernel,dF h.2⟩
  ·simp at hi
 ·rcases k with _ | _ | k
  ·cases hi;exact ⟨72,by decide +kernel,dF h.1⟩
  ·cases hi;exact ⟨67,by decide +kernel,dF h.2⟩
  ·simp at hi
 ·rcases k with _ | _ | k
  ·cases hi;exact ⟨72,by decide +kernel,dF h.1⟩
  ·cases hi;exact ⟨67,by decide +kernel,dF h.2⟩
  ·simp at hi
 ·rcases k with _ | _ | _ | k
  ·cases hi;exact ⟨72,by decide +kernel,dF h.1⟩
  ·cases hi;exact ⟨65,by decide +kernel,dF h.2.1⟩
  ·cases hi;exact ⟨66,by decide +kernel,dF h.2.2.1⟩
  ·simp at hi
 ·rcases k with _ | _ | _ | k
  ·cases hi;exact ⟨72,by decide +kernel,dF h.1⟩
  ·cases hi;exact ⟨67,by decide +kernel,dF h.2.1⟩
  ·cases hi;exact ⟨86,by decide +kernel,λ_=>rfl⟩
  ·simp at hi
 ·rcases k with _ | k
  ·cases hi;exact ⟨86,by decide +kernel,λ_=>rfl⟩
  ·simp at hi
 ·rcases k with _ | k
  ·cases hi;exact ⟨86,by decide +kernel,λ_=>rfl⟩
  ·simp at hi
 ·exact h.elim
theorem om(i:Int):(iS i).cps.toList=bV i:=jq i
theorem ug{i:Int}{c:Nat}(h:c∈bV i):c=45\/(48<=c/\c<=57):=by
 have hd:∀m,c∈bh m->48<=c/\c<=57:=λm hm=>iC m c hm
 unfold bV at h
 split at h
 ·rcases List.mem_cons.mp h with e | e
  ·exact .inl e
  ·exact .inr (hd _ e)
 ·exact .inr (hd _ h)
theorem pC{i:Int}(h:inV i):(Txt.lstripChars (iS i) (Str.ofString "-")).length<=40:=by
 have e:(Str.ofString "-")=⟨#[45]⟩:=by decide +kernel
 have hd:=iz (k:=40) (by decide) h
 have hs:(iS i).cps.size=(bV i).length:=by rw [← om];simp
 rw [e]
 unfold Txt.lstripChars
 rw [stripBy_eq]
 generalize hL:stripLo ((⟨#[45]⟩:Str).cps.contains) true (iS i)=lo
 show ((iS i).cps.extract lo (iS i).length).size<=40
 rw [Array.size_extract]
 by_cases hi:i<0
 ·have h1:1<=lo:=by
   rw [← hL]
   show 1<=((iS i).cps.toList.takeWhile (λc=>(⟨#[45]⟩:Str).cps.contains c)).length
   rw [om]
   unfold bV
   rw [if_pos hi,List.takeWhile_cons,if_pos (by decide +kernel)]
   simp
  have h2:(bV i).length<=41:=by
   unfold bV
   rw [if_pos hi,List.length_cons]
   omega
  omega
 ·have h2:(bV i).length<=40:=by
   unfold bV
   rw [if_neg hi]
   exact hd
  omega
theorem v6{i:Int}(h:inV i):(iS i).length<=100000:=Nat.le_trans (g6 h) (by decide)
theorem i7(c:Nat):∀ls:List (List Nat),(ca c ls).length<=(ls.map (·.length)).sum+ls.length
 | []=>Nat.zero_le _
 | [x]=>by simp [ca]
 | x::y::r=>by
  have h:=i7 c (y::r)
  show (x++c::ca c (y::r)).length<=_
  rw [List.length_append,List.length_cons,List.map_cons,List.sum_cons,List.length_cons (a:=x)]
  omega
theorem uY{wd:Wd}{ns:List Int}(h:Ar wd ns):(txt wd ns).length<=1000000:=by
 have e2:(txt wd ns).cps.toList=ca 32 ((wS wd::ns.map iS).map λy=>y.cps.toList):=by
  unfold txt
  rw [fM]
  exact b9 32 _
 have e3:(txt wd ns).length=(txt wd ns).cps.toList.length:=by simp [Str.length]
 have h1:=i7 32 ((wS wd::ns.map iS).map λy=>y.cps.toList)
 have h2:=iF h
 have e4:((wS wd::ns.map iS).map λy=>y.cps.toList).map (·.length)=(wS wd::ns.map iS).map (·.length):=by
  rw [List.map_map]
  refine List.map_congr_left λy _=>?_
  simp [Str.length]
 have e5:(Str.ofString " ").length=1:=by decide +kernel
 rw [e4,List.length_map] at h1
 rw [e5,Nat.mul_one] at h2
 rw [e3,e2]
 omega
theorem Ar.home{w:Wd}{ns:List Int}(h1:w≠.plus)(h2:w≠.need)(h:Ar w ns):∃x r,ns=x::r/\aL w ns=.int x:=by
 unfold Ar at h
 split at h<;>first | contradiction | exact h.elim | exact ⟨_,_,rfl,rfl⟩
theorem Ar.homeless{w:Wd}{ns:List Int}(h1:w=.plus\/w=.need):aL w ns=.non:=by
 rcases h1 with rfl | rfl<;>rfl
theorem kU{m:Str}(h1:¬m="where")(h2:¬m="cell")(h3:¬m="low")(h4:¬m="high")(h5:¬m="amount")(w:Wd)(ns:List Int):(uw w ns).lookup m=none:=by
 unfold uw
 split<;>simp only [aV h1,aV h2,aV h3,aV h4,aV h5,List.lookup_nil]
theorem fw{H H':Hp}{x dx:Addr}{o1 o2:HO}(nx:H x=none)(nd:H dx=none)(k:Kp x (upd (upd H dx o1) x o2) H'):Same H H':=λb o e=>by
 have hx:b≠x:=λz=>by rw [z,nx] at e;cases e
 have hd:b≠dx:=λz=>by rw [z,nd] at e;cases e
 exact k b o hx (by rw [ay hx,ay hd];exact e)
structure WI(P:Program)(w:World)(K:PySem.W.Frag)(mg:Str->Option Value)(base:Heap)(CW:Wd->Addr)(wd:Wd) where
 fI:Addr
 dI:FuncData
 ps:List Str
 M:Mk K (CW wd) fI
 ok:FnOk P w K mg base CX0 2 fI dI ps (gv CW wd)
 b:Binds K dI ps []
 m:mg (wN wd)=some (.ref (CW wd))
section
variable (CW:Wd->Addr)
def oP:Sp:=λvs H Q _=>∃wd q ns,vs=[.str (wS wd),.ref q]/\H q=some (.lst ((ns:List Int).map V.int))/\Ar wd ns/\∀v H',Same H H'->StO CW H' wd ns v->Q v H'
def oQ:Sp:=λvs H Q _=>∃x y z,vs=[.int x,.int y,.int z]/\Ar .sum [x,y,z]/\∀v H',Same H H'->StO CW H' .sum [x,y,z] v->Q v H'
def lJ:Sp:=λvs H Q _=>∃wd ns,vs=[.str (txt wd ns)]/\Ar wd ns/\∀v H',Same H H'->StO CW H' wd ns v->Q v H'
end
def oO:Sp:=λvs H Q _=>∃i c,vs=[.str (iS i),.str ⟨#[c]⟩]/\inV i/\(i<0->c=86)/\∀H',Same H H'->Q (.int i) H'
end St
namespace Km
open PySem PySem.NumText L2 PyProof.Rows
open Builtin Builtin.Str
def eQ(c d:Nat):List (List Nat)->List Nat
 | []=>[]
 | [x]=>x
 | x::y::r=>x++c::d::eQ c d (y::r)
theorem gk(c d:Nat):∀ys:List Str,(Str.join ⟨#[c,d]⟩ ys).cps.toList=eQ c d (ys.map λy=>y.cps.toList)
 | []=>rfl
 | [y]=>rfl
 | y::u::ys=>by
  have ih:=gk c d (u::ys)
  rw [join_cons_cons]
  show ((y.cps++#[c,d])++(Str.join ⟨#[c,d]⟩ (u::ys)).cps).toList=_
  rw [Array.toList_append,Array.toList_append,ih]
  simp [eQ]
theorem kQ{c d:Nat}:∀{xs ys:List (List Nat)},xs≠[]->ys≠[]->(∀x∈xs,c∉x)->(∀y∈ys,c∉y)->eQ c d xs=eQ c d ys->xs=ys
 | [],_,h,_,_,_,_=>absurd rfl h
 | _::_,[],_,h,_,_,_=>absurd rfl h
 | [x],[y],_,_,_,_,e=>by rw [show x=y from e]
 | [x],y::u::ys,_,_,hx,_,e=>by
  have e':x=y++c::d::eQ c d (u::ys):=e
  exact absurd (by rw [e'];simp) (hx x List.mem_cons_self)
 | x::u::xs,[y],_,_,_,hy,e=>by
  have e':x++c::d::eQ c d (u::xs)=y:=e
  exact absurd (by rw [← e'];simp) (hy y List.mem_cons_self)
 | x::u::xs,y::v::ys,_,_,hx,hy,e=>by
  have e':x++c::d::eQ c d (u::xs)=y++c::d::eQ c d (v::ys):=e
  obtain ⟨e1,e2⟩:=li (hx x List.mem_cons_self) (hy y List.mem_cons_self) e'
  rw [e1,kQ (by simp) (by simp) (λz hz=>hx z (List.mem_cons_of_mem _ hz)) (λz hz=>hy z (List.mem_cons_of_mem _ hz)) (List.cons.inj e2).2]
def yt(c d:Nat)(l:List Nat):Prop:=∀k,l[k]?=some c->l[k+1]?=some d
theorem kY{c d:Nat}(hcd:c≠d):∀{ps:List (List Nat)},(∀p∈ps,c∉p)->yt c d (eQ c d ps)
 | [],_,k,h=>by cases h
 | [x],hp,k,h=>absurd (List.mem_of_getElem? h) (hp x List.mem_cons_self)
 | x::y::r,hp,k,h=>by
  have ih:=kY hcd (ps:=y::r) λp hp'=>hp p (List.mem_cons_of_mem _ hp')
  have h':(x++c::d::eQ c d (y::r))[k]?=some c:=h
  show (x++c::d::eQ c d (y::r))[k+1]?=some d
  by_cases h1:k<x.length
  ·rw [List.getElem?_append_left h1] at h'
   exact absurd (List.mem_of_getElem? h') (hp x List.mem_cons_self)
  ·rw [List.getElem?_append_right (by omega)] at h' ⊢
   obtain ⟨m,hm⟩:∃m,k=x.length+m:=⟨k-x.length,by omega⟩
   subst hm
   rw [Nat.add_sub_cancel_left] at h'
   rw [show x.length+m+1-x.length=m+1 from by omega]
   match m,h' with
   | 0,_=>rfl
   | 1,h'=>exact absurd (Option.some.inj h').symm hcd
   | m+2,h'=>exact ih m h'
theorem qH(x:Str)(c d i:Nat):(i+(⟨#[c,d]⟩:Str).length<=x.length/\subAt x ⟨#[c,d]⟩ i=true)↔(x.cps.toList[i]?=some c/\x.cps.toList[i+1]?=some d):=by
 rw [StrLaws.subAt_eq]
 have hl:x.length=x.cps.toList.length:=by simp [Str.length]
 have e2:(⟨#[c,d]⟩:Str).length=2:=rfl
 rw [e2,hl]
 generalize x.cps.toList=l
 show (i+2<=l.length/\(((l.drop i).take 2)==[c,d])=true)↔_
 rw [beq_iff_eq]
 constructor
 ·rintro ⟨h1,h2⟩
  have a0:((l.drop i).take 2)[0]?=l[i]?:=by rw [List.getElem?_take_of_lt (by omega),List.getElem?_drop,Nat.add_zero]
  have a1:((l.drop i).take 2)[1]?=l[i+1]?:=by rw [List.getElem?_take_of_lt (by omega),List.getElem?_drop]
  rw [h2] at a0 a1
  exact ⟨a0.symm,a1.symm⟩
 ·rintro ⟨h1,h2⟩
  have hb:=(List.getElem?_eq_some_iff.mp h2).1
  refine ⟨by omega,?_⟩
  have e:=List.drop_eq_getElem_cons (l:=l) (i:=i) (by omega)
  have e':=List.drop_eq_getElem_cons (l:=l) (i:=i+1) (by omega)
  rw [e,e',(List.getElem?_eq_some_iff.mp h1).2,(List.getElem?_eq_some_iff.mp h2).2]
  rfl
section
variable {x:Str}{c d:Nat}(hF:yt c d x.cps.toList)
include hF
theorem zq{k:Nat}(h:x.cps.toList[k]?=some c):StrLaws.At x ⟨#[c,d]⟩ x.length k:=(qH x c d k).mpr ⟨h,hF k h⟩
theorem gY(a b:Nat)(hb:b<=x.length)(hn:∀k,a<=k->k<b->¬StrLaws.At x ⟨#[c,d]⟩ x.length k):c∉(strSub x a b).cps.toList:=by
 intro hm
 rw [StrLaws.strSub_toList] at hm
 obtain ⟨j,hj⟩:=List.getElem?_of_mem hm
 have hlt:j<b-a:=by
  have h1:j<((x.cps.toList.drop a).take (b-a)).length:=(List.getElem?_eq_some_iff.mp hj).1
  rw [List.length_take] at h1
  omega
 rw [List.getElem?_take_of_lt hlt,List.getElem?_drop] at hj
 exact hn (a+j) (by omega) (by omega) (zq hF hj)
theorem jb:∀(cuts:List Nat) (a f:Nat),StrLaws.ChainG x ⟨#[c,d]⟩ x.length a cuts f->(∀k,f<=k->¬StrLaws.At x ⟨#[c,d]⟩ x.length k)->∀p∈StrLaws.partsFrom x (⟨#[c,d]⟩:Str).length a cuts,c∉p.cps.toList
 | [],a,f,h,hn,p,hp=>by
  have e:f=a:=h
  subst e
  rw [List.mem_singleton.mp hp]
  exact gY hF f x.length (Nat.le_refl _) λk h1 _=>hn k h1
 | i::r,a,f,h,hn,p,hp=>by
  rcases List.mem_cons.mp hp with rfl | hp'
  ·exact gY hF a i (by have:=h.2.1.1;omega) h.2.2.1
  ·exact jb r _ f h.2.2.2 hn p hp'
theorem mO(hk:Builtin.Str.strKind x<Builtin.Str.strKind ⟨#[c,d]⟩->False):∀p∈Txt.split x ⟨#[c,d]⟩,c∉p.cps.toList:=by
 obtain ⟨f,hG,hn⟩:=StrLaws.occ_tight x ⟨#[c,d]⟩ (by show 1<=2;decide)
 unfold Txt.split
 split
 ·rename_i hc
  intro p hp
  rw [List.mem_singleton.mp hp]
  intro hm
  obtain ⟨j,hj⟩:=List.getElem?_of_mem hm
  have hA:=zq hF hj
  rw [Bool.or_eq_true,decide_eq_true_eq,decide_eq_true_eq] at hc
  rcases hc with h | h
  ·have:=hA.1;omega
  ·exact hk h
 ·split
  ·rename_i he
   intro p hp
   rw [List.mem_singleton.mp hp]
   have e0:occurrences x ⟨#[c,d]⟩ 0 x.length (x.length+1)=[]:=List.isEmpty_iff.mp he
   rw [e0] at hG
   have ef:f=0:=hG
   subst ef
   rw [← StrLaws.sub_whole x]
   exact gY hF 0 x.length (Nat.le_refl _) λk h1 _=>hn k h1
  ·rw [StrLaws.partsBetween_eq]
   exact jb hF _ 0 f hG hn
end
theorem pE{c d:Nat}(hc:c<256)(hd:d<256)(x:Str):¬Builtin.Str.strKind x<Builtin.Str.strKind ⟨#[c,d]⟩:=by
 have k1:(#[c,d]:Array Nat).all (·<256)=true:=by simp [hc,hd]
 unfold Builtin.Str.strKind
 rw [if_pos k1]
 split
 ·omega
 ·split<;>omega
theorem qJ{z:Str}{c d:Nat}{ps:List (List Nat)}(hcd:c≠d)(hc:c<256)(hd:d<256)(ez:z.cps.toList=eQ c d ps)(h0:ps≠[])(hp:∀p∈ps,c∉p):Txt.split z ⟨#[c,d]⟩=ps.map λp=>(⟨p.toArray⟩:Str):=by
 have e1:=gk c d (Txt.split z ⟨#[c,d]⟩)
 rw [StrLaws.join_split,ez] at e1
 have n1:(Txt.split z ⟨#[c,d]⟩).map (λy=>y.cps.toList)≠[]:=by
  intro e
  have:=split_pos z ⟨#[c,d]⟩
  rw [List.map_eq_nil_iff.mp e] at this
  exact absurd this (by decide)
 have hF:yt c d z.cps.toList:=by rw [ez];exact kY hcd hp
 have e2:=kQ h0 n1 hp (λy hy=>by
  obtain ⟨p,hp',rfl⟩:=List.mem_map.mp hy
  exact mO hF (pE hc hd z) p hp') e1
 rw [e2,List.map_map]
 have e3:((λp:List Nat=>(⟨p.toArray⟩:Str))∘λy:Str=>y.cps.toList)=_root_.id:=by
  funext y
  obtain ⟨a⟩:=y
  simp
 rw [e3,List.map_id]
theorem vx{z x y:Str}{c:Nat}(ez:z.cps.toList=x.cps.toList++c::y.cps.toList)(hx:c∉x.cps.toList):Txt.partition z ⟨#[c]⟩=(x,⟨#[c]⟩,y):=by
 have lx:x.length=x.cps.toList.length:=by simp [Str.length]
 have hl:z.length=x.length+1+y.length:=by
  have e1:z.length=z.cps.toList.length:=by simp [Str.length]
  have e2:y.length=y.cps.toList.length:=by simp [Str.length]
  rw [e1,ez,e2,lx,List.length_append,List.length_cons]
  omega
 have ha:z.cps.toList[x.length]?=some c:=by rw [ez,lx,List.getElem?_append_right (Nat.le_refl _),Nat.sub_self];rfl
 have hA:=(StrLaws.subAt_one z c x.length).mpr ha
 have no:∀k,k<x.length->¬StrLaws.At z ⟨#[c]⟩ z.length k:=λk hk hAk=>by
  have e:=(StrLaws.subAt_one z c k).mp hAk
  rw [ez,List.getElem?_append_left (by omega)] at e
  exact hx (List.mem_of_getElem? e)
 obtain ⟨i,r,e,hi,hk⟩:∃i r,occurrences z ⟨#[c]⟩ 0 z.length 1=i::r/\StrLaws.At z ⟨#[c]⟩ z.length i/\∀k,k<i->¬StrLaws.At z ⟨#[c]⟩ z.length k :=
  (StrLaws.occ_head z ⟨#[c]⟩ 1 (Nat.le_refl _)).resolve_left λh=>h.2 _ hA
 have ei:i=x.length:=by
  rcases Nat.lt_trichotomy i x.length with h | h | h
  ·exact absurd hi (no _ h)
  ·exact h
  ·exact absurd hA (hk _ h)
 subst ei
 unfold Txt.partition
 rw [e]
 have ea:z.cps=(x.cps.toList++c::y.cps.toList).toArray:=by
  apply Array.toList_inj.mp
  rw [ez]
 have e1:strSub z 0 x.length=x:=by
  unfold strSub
  rw [ea,lx]
  obtain ⟨xs⟩:=x
  congr 1
  apply Array.toList_inj.mp
  simp
 have e2:strSub z (x.length+(⟨#[c]⟩:Str).length) z.length=y:=by
  unfold strSub
  rw [ea,hl]
  have e3:(⟨#[c]⟩:Str).length=1:=rfl
  rw [e3]
  obtain ⟨xs⟩:=x
  obtain ⟨ys⟩:=y
  congr 1
  apply Array.toList_inj.mp
  simp [Str.length]
  have e4:xs.toList++c::ys.toList=(xs.toList++[c])++ys.toList:=by simp
  rw [e4,List.drop_left' (by simp)]
  exact List.take_of_length_le (by simp)
 show (strSub z 0 x.length,(⟨#[c]⟩:Str),strSub z (x.length+(⟨#[c]⟩:Str).length) z.length)=_
 rw [e1,e2]
end Km
namespace Tb
open PySem PySem.SetTable
theorem mt(xs:Array Nat)(j:Nat):∀fuel lo hi:Nat,hi-lo<=fuel->lo<=hi->hi<=xs.size->(∀(i k a b:Nat),i<=k->xs[i]?=some a->xs[k]?=some b->a<=b)->(∀(i a:Nat),i<lo->xs[i]?=some a->a<j)->(∀(i a:Nat),hi<=i->xs[i]?=some a->j<=a) ->
  below.go xs j fuel lo hi<=xs.size/\(∀(i a:Nat),i<below.go xs j fuel lo hi->xs[i]?=some a->a<j)/\∀(i a:Nat),below.go xs j fuel lo hi<=i->xs[i]?=some a->j<=a
 | 0,lo,hi,hf,hl,hh,_,h1,h2=>by
  have e:lo=hi:=by omega
  subst e
  exact ⟨hh,h1,h2⟩
 | fuel+1,lo,hi,hf,hl,hh,hm,h1,h2=>by
  unfold below.go
  by_cases hlt:lo<hi
  ·rw [if_pos hlt]
   have hmid:(lo+hi)/2<xs.size:=by omega
   have e:xs[(lo+hi)/2]?=some xs[(lo+hi)/2]:=Array.getElem?_eq_getElem hmid
   have eg:xs.getD ((lo+hi)/2) j=xs[(lo+hi)/2]:=by simp [Array.getD,hmid]
   dsimp only
   rw [eg]
   by_cases hc:xs[(lo+hi)/2]<j
   ·rw [if_pos hc]
    refine mt xs j fuel _ hi (by omega) (by omega) hh hm (λi a hi' ea=>?_) h2
    exact Nat.lt_of_le_of_lt (hm i _ a _ (by omega) ea e) hc
   ·rw [if_neg hc]
    refine mt xs j fuel lo _ (by omega) (by omega) (by omega) hm h1 (λi a hi' ea=>?_)
    exact Nat.le_trans (Nat.not_lt.mp hc) (hm _ i _ a hi' e ea)
  ·rw [if_neg hlt]
   have e:lo=hi:=by omega
   subst e
   exact ⟨hh,h1,h2⟩
def Rs(l:List Nat):Prop:=l.Pairwise (·<·)
theorem Rs.mono{xs:Array Nat}(h:Rs xs.toList):∀(i k a b:Nat),i<=k->xs[i]?=some a->xs[k]?=some b->a<=b:=by
 intro i k a b hik ea eb
 rcases Nat.lt_or_eq_of_le hik with hlt | rfl
 ·rw [← Array.getElem?_toList] at ea eb
  obtain ⟨h1,e1⟩:=List.getElem?_eq_some_iff.mp ea
  obtain ⟨h2,e2⟩:=List.getElem?_eq_some_iff.mp eb
  have:=List.pairwise_iff_getElem.mp h i k h1 h2 hlt
  rw [← e1,← e2]
  exact Nat.le_of_lt this
 ·rw [ea] at eb;cases eb;exact Nat.le_refl _
theorem dO{xs:Array Nat}(h:Rs xs.toList)(j:Nat):below xs j<=xs.size/\(∀a∈xs.toList.take (below xs j),a<j)/\∀a∈xs.toList.drop (below xs j),j<=a:=by
 obtain ⟨h1,h2,h3⟩:=mt xs j xs.size 0 xs.size (by omega) (Nat.zero_le _) (Nat.le_refl _) h.mono (λi a hi=>absurd hi (by omega)) (λi a hi e=>by rw [Array.getElem?_eq_none hi] at e;cases e)
 refine ⟨h1,λa ha=>?_,λa ha=>?_⟩
 ·obtain ⟨i,hi⟩:=List.getElem?_of_mem ha
  rw [List.getElem?_take] at hi
  split at hi
  ·rename_i hlt
   exact h2 i a hlt (by rw [← Array.getElem?_toList];exact hi)
  ·cases hi
 ·obtain ⟨i,hi⟩:=List.getElem?_of_mem ha
  rw [List.getElem?_drop] at hi
  exact h3 (below xs j+i) a (by show below xs j<=_;omega) (by rw [← Array.getElem?_toList];exact hi)
theorem uN{xs:Array Nat}(h:Rs xs.toList){j:Nat}(hj:j∈xs.toList):xs[below xs j]?=some j:=by
 obtain ⟨h1,h2,h3⟩:=dO h j
 have hj':j∈xs.toList.take (below xs j)++xs.toList.drop (below xs j):=by rw [List.take_append_drop];exact hj
 rcases List.mem_append.mp hj' with z | z
 ·exact absurd (h2 j z) (Nat.lt_irrefl _)
 ·cases e:xs.toList.drop (below xs j) with
  | nil=>rw [e] at z;cases z
  | cons b r =>
   have eb:xs.toList[below xs j]?=some b:=by
    have:(xs.toList.drop (below xs j))[0]?=some b:=by rw [e];rfl
    rw [List.getElem?_drop] at this
    simpa using this
   have hb:j<=b:=h3 b (by rw [e];exact List.mem_cons_self)
   have:b=j:=by
    rw [e] at z
    rcases List.mem_cons.mp z with rfl | z
    ·rfl
    ·have hs:Rs (b::r):=by
      have:Rs (xs.toList.drop (below xs j)):=List.Pairwise.sublist (List.drop_sublist _ _) h
      rw [e] at this;exact this
     have:=(List.pairwise_cons.mp hs).1 j z
     omega
   rw [← Array.getElem?_toList,eb,this]
theorem uM{xs:Array Nat}(h:Rs xs.toList){j:Nat}(hj:j∉xs.toList):(xs[below xs j]?==some j)=false:=by
 refine beq_eq_false_iff_ne.mpr λe=>hj ?_
 rw [← Array.getElem?_toList] at e
 exact List.mem_of_getElem? e
theorem ro{xs:Array Nat}(h:Rs xs.toList){j:Nat}(hj:j∉xs.toList):Rs (insertAt xs (below xs j) j).toList:=by
 obtain ⟨h1,h2,h3⟩:=dO h j
 rw [toList_insertAt]
 refine List.pairwise_append.mpr ⟨List.Pairwise.sublist (List.take_sublist _ _) h,List.pairwise_cons.mpr ⟨λa ha=>?_,List.Pairwise.sublist (List.drop_sublist _ _) h⟩,λa ha b hb=>?_⟩
 ·have:=h3 a ha
  have hne:a≠j:=λe=>hj (e▸List.mem_of_mem_drop ha)
  omega
 ·have ha':=h2 a ha
  rcases List.mem_cons.mp hb with rfl | hb
  ·exact ha'
  ·exact Nat.lt_of_lt_of_le ha' (h3 b hb)
theorem pP{xs:Array Nat}(h:Rs xs.toList){k p:Nat}(hp:xs[k]?=some p):below xs (p+1)=k+1:=by
 obtain ⟨h1,h2,h3⟩:=dO h (p+1)
 have hk:k<xs.size:=(Array.getElem?_eq_some_iff.mp hp).1
 have hp':xs.toList[k]?=some p:=by rw [Array.getElem?_toList];exact hp
 have lo:k<below xs (p+1):=by
  refine Nat.lt_of_not_le λhle=>?_
  have:p∈xs.toList.drop (below xs (p+1)):=by
   refine List.mem_of_getElem? (i:=k-below xs (p+1)) ?_
   rw [List.getElem?_drop]
   rw [show below xs (p+1)+(k-below xs (p+1))=k by omega]
   exact hp'
  have:=h3 p this
  omega
 refine Nat.le_antisymm (Nat.le_of_not_lt λhlt=>?_) lo
 have hk1:k+1<xs.toList.length:=by rw [Array.length_toList];omega
 have e1:xs.toList[k+1]?=some xs.toList[k+1]:=List.getElem?_eq_getElem hk1
 have m:xs.toList[k+1]∈xs.toList.take (below xs (p+1)):=by
  refine List.mem_of_getElem? (i:=k+1) ?_
  rw [List.getElem?_take,if_pos hlt]
  exact e1
 have a1:=h2 _ m
 obtain ⟨g1,g2⟩:=List.getElem?_eq_some_iff.mp hp'
 have a2:=List.pairwise_iff_getElem.mp h k (k+1) g1 hk1 (Nat.lt_succ_self _)
 rw [g2] at a2
 omega
theorem pO{xs:Array Nat}(h:Rs xs.toList):below xs 0=0:=by
 obtain ⟨h1,h2,h3⟩:=dO h 0
 refine Nat.eq_zero_of_not_pos λhpos=>?_
 have hl:0<xs.toList.length:=by rw [Array.length_toList];omega
 have:xs.toList[0]∈xs.toList.take (below xs 0):=by
  refine List.mem_of_getElem? (i:=0) ?_
  rw [List.getElem?_take,if_pos hpos]
  exact List.getElem?_eq_getElem hl
 exact absurd (h2 _ this) (Nat.not_lt_zero _)
end Tb
namespace Tb
open PySem PySem.SetTable
def adv(t:SetTable)(p:Probe):Nat->Probe
 | 0=>p
 | n+1=>adv t (t.advance p) n
def wk(t:SetTable)(p:Probe):Nat->List Nat
 | 0=>[]
 | n+1=>p.j::wk t (t.advance p) n
theorem qy(t:SetTable):∀(m n:Nat) (p:Probe),adv t p (m+n)=adv t (adv t p m) n
 | 0,n,p=>by rw [Nat.zero_add];rfl
 | m+1,n,p=>by rw [show m+1+n=(m+n)+1 by omega];exact qy t m n (t.advance p)
theorem lF(t:SetTable):∀(m n:Nat) (p:Probe),wk t p (m+n)=wk t p m++wk t (adv t p m) n
 | 0,n,p=>by rw [Nat.zero_add];rfl
 | m+1,n,p=>by
  rw [show m+1+n=(m+n)+1 by omega]
  show p.j::wk t (t.advance p) (m+n)=p.j::(wk t (t.advance p) m++_)
  rw [lF t m n (t.advance p)]
  rfl
theorem rL{t:SetTable}{p:Probe}{m n:Nat}(h:m<=n){s:Nat}(hs:s∈wk t p m):s∈wk t p n:=by
 obtain ⟨d,rfl⟩:∃d,n=m+d:=⟨n-m,by omega⟩
 rw [lF]
 exact List.mem_append_left _ hs
theorem lE(t:SetTable):∀(n:Nat) (p:Probe),(adv t p n).dummy=p.dummy
 | 0,_=>rfl
 | n+1,p=>by
  show (adv t (t.advance p) n).dummy=_
  rw [lE t n]
  unfold advance
  split<;>rfl
def iE(mask i q:Nat):Probe:={j:=i,more:=runEnd mask i-i,i:=i,perturb:=q,dummy:=none}
theorem gu(t:SetTable)(h:Int):t.probeStart h=iE t.mask (bits h%(t.mask+1)) (bits h):=rfl
theorem iU(t:SetTable):∀(m:Nat) (p:Probe),p.more=m->p.dummy=none->wk t p (m+1)=List.range' p.j (m+1)/\adv t p (m+1)=iE t.mask (leap t.mask p.i p.perturb).1 (leap t.mask p.i p.perturb).2
 | 0,p,hm,hd=>by
  refine ⟨rfl,?_⟩
  show t.advance p=_
  unfold advance
  rw [if_neg (by omega)]
  unfold iE
  simp only [hd]
 | m+1,p,hm,hd=>by
  have e:t.advance p={p with j:=p.j+1,more:=m}:=by
   unfold advance
   rw [if_pos (by omega),hm]
   rfl
  obtain ⟨h1,h2⟩:=iU t m {p with j:=p.j+1,more:=m} rfl hd
  constructor
  ·show p.j::wk t (t.advance p) (m+1)=List.range' p.j (m+1+1)
   rw [e,h1]
   exact (List.range'_succ ..).symm
  ·show adv t (t.advance p) (m+1)=_
   rw [e,h2]
theorem qO(mask i:Nat):runEnd mask i-i<=9:=by
 unfold runEnd
 split<;>omega
def rq(h:Int)(n:Nat):Nat:=bits h/32 ^ n
def ri(mask:Nat)(h:Int):Nat->Nat
 | 0=>bits h%(mask+1)
 | n+1=>(ri mask h n*5+1+rq h (n+1))%(mask+1)
theorem uO(t:SetTable)(h:Int):∀n:Nat,∃l,l<=10*n/\adv t (t.probeStart h) l=iE t.mask (ri t.mask h n) (rq h n)
 | 0=>⟨0,Nat.le_refl _,by rw [gu];unfold rq;rw [Nat.pow_zero,Nat.div_one];rfl⟩
 | n+1=>by
  obtain ⟨l,hl,e⟩:=uO t h n
  obtain ⟨_,h2⟩:=iU t (runEnd t.mask (ri t.mask h n)-ri t.mask h n) (iE t.mask (ri t.mask h n) (rq h n)) rfl rfl
  have:=qO t.mask (ri t.mask h n)
  refine ⟨l+(runEnd t.mask (ri t.mask h n)-ri t.mask h n+1),by omega,?_⟩
  rw [qy,e,h2]
  have eq:(iE t.mask (ri t.mask h n) (rq h n)).perturb/32=rq h (n+1):=by
   show bits h/32 ^ n/32=bits h/32 ^ (n+1)
   rw [Nat.div_div_eq_div_mul,← Nat.pow_succ]
  unfold leap
  rw [eq]
  rfl
theorem xq(t:SetTable)(h:Int)(n:Nat):ri t.mask h n∈wk t (t.probeStart h) (10*n+1):=by
 obtain ⟨l,hl,e⟩:=uO t h n
 refine rL (m:=l+1) (by omega) ?_
 rw [lF,e]
 exact List.mem_append_right _ List.mem_cons_self
theorem wn(h:Int):bits h<2 ^ 64:=by
 unfold bits
 have h1:0<=h%(2 ^ 64:Int):=Int.emod_nonneg _ (by decide)
 have h2:h%(2 ^ 64:Int)<2 ^ 64:=Int.emod_lt_of_pos _ (by decide)
 omega
theorem vo(h:Int){n:Nat}(hn:13<=n):rq h n=0:=by
 unfold rq
 refine Nat.div_eq_of_lt (Nat.lt_of_lt_of_le (wn h) ?_)
 exact Nat.le_trans (by decide:2 ^ 64<=32 ^ 13) (Nat.pow_le_pow_right (by decide) hn)
def cyc(m:Nat):Nat->Nat
 | 0=>0
 | n+1=>(cyc m n*5+1)%m
def kz(mask:Nat):Prop:=mask=7\/mask=31\/mask=127
theorem my{mask:Nat}(g:kz mask):(∀s,s<mask+1->∃n,n<mask+1/\cyc (mask+1) n=s)/\cyc (mask+1) (mask+1)=0:=by
 rcases g with rfl | rfl | rfl<;>exact ⟨by decide +kernel,by decide +kernel⟩
theorem ow{mask:Nat}(g:kz mask):∀n,cyc (mask+1) (mask+1+n)=cyc (mask+1) n
 | 0=>(my g).2
 | n+1=>by show (cyc (mask+1) (mask+1+n)*5+1)%(mask+1)=_;rw [ow g n];rfl
theorem oY{mask:Nat}(h:Int){a:Nat}(ha:ri mask h 12=cyc (mask+1) a):∀n,ri mask h (12+n)=cyc (mask+1) (a+n)
 | 0=>ha
 | n+1=>by
  show (ri mask h (12+n)*5+1+rq h (12+n+1))%(mask+1)=(cyc (mask+1) (a+n)*5+1)%(mask+1)
  rw [oY h ha n,vo h (by omega),Nat.add_zero]
theorem yU(mask:Nat)(h:Int):∀n,ri mask h n<mask+1
 | 0=>Nat.mod_lt _ (Nat.succ_pos _)
 | _+1=>Nat.mod_lt _ (Nat.succ_pos _)
theorem zf{mask:Nat}(g:kz mask)(h:Int){s:Nat}(hs:s<=mask):∃n,n<=12+mask/\ri mask h n=s:=by
 obtain ⟨a,ha,ea⟩:=(my g).1 (ri mask h 12) (yU mask h 12)
 obtain ⟨b,hb,eb⟩:=(my g).1 s (by omega)
 by_cases hab:a<=b
 ·refine ⟨12+(b-a),by omega,?_⟩
  rw [oY h ea.symm,show a+(b-a)=b by omega,eb]
 ·refine ⟨12+(mask+1+b-a),by omega,?_⟩
  rw [oY h ea.symm,show a+(mask+1+b-a)=mask+1+b by omega,ow g,eb]
theorem ym{t:SetTable}(g:kz t.mask)(h:Int){s:Nat}(hs:s<=t.mask):s∈wk t (t.probeStart h) (10*(t.mask+14)):=by
 obtain ⟨n,hn,e⟩:=zf g h hs
 refine rL (m:=10*n+1) (by omega) ?_
 rw [← e]
 exact xq t h n
theorem j6{l:List Nat}{mask:Nat}(hl:l.length<=mask):∃s,s<=mask/\s∉l:=by
 refine Classical.byContradiction λhc=>?_
 have all:∀s,s<=mask->s∈l:=λs hs=>Classical.byContradiction λz=>hc ⟨s,hs,z⟩
 have:(List.range (mask+1)).length<=l.length:=List.Nodup.length_le_of_subset List.nodup_range λs hs=>all s (by have:=List.mem_range.mp hs;omega)
 rw [List.length_range] at this
 omega
theorem rC{l path:List Nat}(h:∃s,s∈path/\s∉l):∃pre e post,path=pre++e::post/\(∀s∈pre,s∈l)/\e∉l:=by
 induction path with
 | nil=>obtain ⟨s,hs,_⟩:=h;cases hs
 | cons a r ih =>
  by_cases ha:a∈l
  ·obtain ⟨s,hs,hn⟩:=h
   rcases List.mem_cons.mp hs with rfl | hs
   ·exact absurd ha hn
   ·obtain ⟨pre,e,post,e1,e2,e3⟩:=ih ⟨s,hs,hn⟩
    exact ⟨a::pre,e,post,by rw [e1];rfl,λs hs=>(List.mem_cons.mp hs).elim (λz=>z▸ha) (e2 s),e3⟩
  ·exact ⟨[],a,r,rfl,λ_ hs=>(nomatch hs),ha⟩
section
variable {t:SetTable}
theorem on(j:Nat):has #[] j=false:=rfl
theorem qM(h:Rs t.place.toList){j:Nat}(hj:j∈t.place.toList):t.slot j=.live (below t.place j):=by
 unfold slot
 dsimp only
 rw [uN h hj,if_pos (by simp)]
theorem oS(h:Rs t.place.toList)(hd:t.dummies=#[]){j:Nat}(hj:j∉t.place.toList):t.slot j=.empty:=by
 unfold slot
 dsimp only
 rw [uM h hj,hd,on]
 rfl
theorem nE{hashAt:Nat->Int}{h:Int}(hr:Rs t.place.toList)(hd:t.dummies=#[]):∀(pre:List Nat) (e:Nat) (post:List Nat) (fuel:Nat) (p:Probe),wk t p fuel=pre++e::post->(∀s∈pre,s∈t.place.toList)->e∉t.place.toList->p.dummy=none ->
  ((∀s∈pre,(hashAt (below t.place s)==h)=false)/\probe.go t hashAt h fuel p=some (.empty e none)) \/
  ∃pre1 j pre2,pre=pre1++j::pre2/\(∀s∈pre1,(hashAt (below t.place s)==h)=false)/\(hashAt (below t.place j)==h)=true/\probe.go t hashAt h fuel p=some (.candidate j (below t.place j) (adv t p (pre1.length+1)))
 | [],e,post,0,p,hw,_,_,_=>by cases hw
 | _::_,e,post,0,p,hw,_,_,_=>by cases hw
 | [],e,post,fuel+1,p,hw,_,he,hp=>by
  have e1:p.j=e:=(List.cons.inj hw).1
  refine .inl ⟨(λ_ hs=>nomatch hs),?_⟩
  unfold probe.go
  rw [e1,oS hr hd he,hp]
 | a::pre,e,post,fuel+1,p,hw,ha,he,hp=>by
  obtain ⟨e1,e2⟩:=List.cons.inj hw
  have ha':a∈t.place.toList:=ha a List.mem_cons_self
  unfold probe.go
  rw [show p.j=a from e1,qM hr ha']
  dsimp only
  cases hc:hashAt (below t.place a)==h with
  | true =>
   refine .inr ⟨[],a,pre,rfl,(λ_ hs=>nomatch hs),hc,?_⟩
   rfl
  | false =>
   have hp':(t.advance p).dummy=none:=by have:=lE t 1 p;rw [hp] at this;exact this
   rcases nE hr hd pre e post fuel (t.advance p) e2 (λs hs=>ha s (List.mem_cons_of_mem _ hs)) he hp' with ⟨h1,h2⟩ | ⟨pre1,j,pre2,h1,h2,h3,h4⟩
   ·refine .inl ⟨λs hs=>(List.mem_cons.mp hs).elim (λz=>z▸hc) (h1 s),?_⟩
    rw [if_neg (by decide)]
    exact h2
   ·refine .inr ⟨a::pre1,j,pre2,by rw [h1];rfl,λs hs=>(List.mem_cons.mp hs).elim (λz=>z▸hc) (h2 s),h3,?_⟩
    rw [if_neg (by decide),h4]
    rfl
end
end Tb
namespace Tb
open PySem PySem.SetTable
theorem ky{t t':SetTable}(e:t.mask=t'.mask)(p:Probe):t.advance p=t'.advance p:=by
 unfold advance
 rw [e]
theorem mI{t t':SetTable}(e:t.mask=t'.mask):∀(n:Nat) (p:Probe),wk t p n=wk t' p n
 | 0,_=>rfl
 | n+1,p=>by show p.j::_=p.j::_;rw [ky e,mI e n]
theorem mL{t t':SetTable}(e:t.mask=t'.mask)(h:Int):t.probeStart h=t'.probeStart h:=by rw [gu,gu,e]
def Rch(t:SetTable)(P:List Nat)(h:Int)(s:Nat):Prop:=∃n pre post,wk t (t.probeStart h) n=pre++s::post/\∀a∈pre,a∈P
theorem Rch.mono{t t':SetTable}{P P':List Nat}{h:Int}{s:Nat}(e:t.mask=t'.mask)(hs:∀a∈P,a∈P')(r:Rch t P h s):Rch t' P' h s:=by
 obtain ⟨n,pre,post,e1,e2⟩:=r
 exact ⟨n,pre,post,by rw [← mI e,← mL e];exact e1,λa ha=>hs a (e2 a ha)⟩
structure TOk(t:SetTable)(es:List (Int×Value)):Prop where
 gd:kz t.mask
 rs:Rs t.place.toList
 du:t.dummies=#[]
 sz:t.place.toList.length=es.length
 fl:es.length<=t.mask
 rc:∀x∈t.place.toList.zip es,Rch t t.place.toList x.2.1 x.1
theorem qF(f m:Nat)(led:Bool):TOk (.fresh f m led) []:=⟨.inl rfl,.nil,rfl,rfl,Nat.zero_le _,λx hx=>nomatch hx⟩
section
variable {t:SetTable}{es:List (Int×Value)}
theorem TOk.fits(k:TOk t es){n:Nat}(hn:es.length=n):t.fits n=true:=by
 unfold SetTable.fits fill
 have h1:=k.sz
 have h2:=k.fl
 rw [Array.length_toList] at h1
 rw [k.du]
 simp
 omega
theorem TOk.free(k:TOk t es)(h:Int):∃pre e post,wk t (t.probeStart h) (10*turns t.mask)=pre++e::post/\(∀s∈pre,s∈t.place.toList)/\e∉t.place.toList:=by
 obtain ⟨s,hs,hn⟩:=j6 (l:=t.place.toList) (mask:=t.mask) (by rw [k.sz];exact k.fl)
 refine rC ⟨s,rL (m:=10*(t.mask+14)) (by show _<=10*(t.mask+15);omega) (ym k.gd h hs),hn⟩
theorem TOk.freeSlot(k:TOk t es)(h:Int):∃e,t.freeSlot h=some (e,false)/\e∉t.place.toList/\Rch t t.place.toList h e:=by
 obtain ⟨pre,e,post,ew,hp,he⟩:=k.free h
 refine ⟨e,?_,he,⟨_,pre,post,ew,hp⟩⟩
 unfold SetTable.freeSlot probe
 rcases nE (hashAt:=λ_=>h+1) (h:=h) k.rs k.du pre e post _ _ ew hp he rfl with ⟨_,q⟩ | ⟨_,j,_,_,_,hj,_⟩
 ·rw [q];rfl
 ·have:h+1=h:=by simpa using hj
  omega
theorem sR(k:TOk t es)(s:Nat):t.put s=({t with place:=insertAt t.place (below t.place s) s},below t.place s):=by
 unfold put
 dsimp only
 rw [k.du,on]
 cases t
 have:=k.du
 simp only at this
 subst this
 rfl
theorem TOk.put(k:TOk t es){s:Nat}{h:Int}{x:Value}(hs:s∉t.place.toList)(r:Rch t t.place.toList h s)(hl:es.length+1<=t.mask){ea:Array (Int×Value)}(ee:ea.toList=es) :
  TOk (t.put s).1 (insertAt ea (t.put s).2 (h,x)).toList:=by
 rw [sR k]
 have hb:=(dO k.rs s).1
 have el:(insertAt ea (below t.place s) (h,x)).toList=es.take (below t.place s)++(h,x)::es.drop (below t.place s):=by rw [toList_insertAt,ee]
 have pl:(insertAt t.place (below t.place s) s).toList=t.place.toList.take (below t.place s)++s::t.place.toList.drop (below t.place s):=toList_insertAt ..
 have sub:∀a∈t.place.toList,a∈(insertAt t.place (below t.place s) s).toList:=λa ha=>by
  rw [pl]
  have ha':a∈t.place.toList.take (below t.place s)++t.place.toList.drop (below t.place s):=by rw [List.take_append_drop];exact ha
  rcases List.mem_append.mp ha' with z | z
  ·exact List.mem_append_left _ z
  ·exact List.mem_append_right _ (List.mem_cons_of_mem _ z)
 refine ⟨k.gd,ro k.rs hs,k.du,?_,?_,λy hy=>?_⟩
 ·show (insertAt t.place (below t.place s) s).toList.length=_
  have h1:=k.sz
  rw [pl,el]
  simp only [List.length_append,List.length_cons,List.length_take,List.length_drop]
  omega
 ·show (insertAt ea (below t.place s) (h,x)).toList.length<=t.mask
  rw [el]
  simp only [List.length_append,List.length_cons,List.length_take,List.length_drop]
  omega
 ·have hy':y∈(insertAt t.place (below t.place s) s).toList.zip (insertAt ea (below t.place s) (h,x)).toList:=hy
  rw [pl,el,List.zip_append (by simp only [List.length_take];rw [k.sz])] at hy'
  have mn:∀{g a},Rch t t.place.toList g a->Rch {t with place:=insertAt t.place (below t.place s) s} (insertAt t.place (below t.place s) s).toList g a:=λz=>Rch.mono (t:=t) rfl sub z
  rcases List.mem_append.mp hy' with z | z
  ·exact mn (k.rc y (by
    have e1:t.place.toList=t.place.toList.take (below t.place s)++t.place.toList.drop (below t.place s):=(List.take_append_drop _ _).symm
    have e2:es=es.take (below t.place s)++es.drop (below t.place s):=(List.take_append_drop _ _).symm
    rw [e1,e2,List.zip_append (by simp only [List.length_take];rw [k.sz])]
    exact List.mem_append_left _ z))
  ·rcases List.mem_cons.mp (show y∈(s,(h,x))::_ from z) with rfl | z
   ·exact mn r
   ·exact mn (k.rc y (by
     have e1:t.place.toList=t.place.toList.take (below t.place s)++t.place.toList.drop (below t.place s):=(List.take_append_drop _ _).symm
     have e2:es=es.take (below t.place s)++es.drop (below t.place s):=(List.take_append_drop _ _).symm
     rw [e1,e2,List.zip_append (by simp only [List.length_take];rw [k.sz])]
     exact List.mem_append_right _ z))
end
end Tb
namespace Tb
open PySem PySem.SetTable
def rn(mask:Nat):Nat->Nat×Nat->Nat×Nat
 | 0,s=>s
 | m+1,s=>rn mask m (leap mask s.1 s.2)
theorem qa(mask:Nat):∀(m:Nat) (s:Nat×Nat),rn mask (m+1) s=leap mask (rn mask m s).1 (rn mask m s).2
 | 0,_=>rfl
 | m+1,s=>by show rn mask (m+1) (leap mask s.1 s.2)=_;rw [qa mask m];rfl
theorem sL(mask:Nat)(h:Int):∀m,rn mask m (bits h%(mask+1),bits h)=(ri mask h m,rq h m)
 | 0=>by unfold rq;rw [Nat.pow_zero,Nat.div_one];rfl
 | m+1=>by
  rw [qa,sL mask h m]
  show ((ri mask h m*5+1+rq h m/32)%(mask+1),rq h m/32)=_
  have e:rq h m/32=rq h (m+1):=by
   show bits h/32 ^ m/32=bits h/32 ^ (m+1)
   rw [Nat.div_div_eq_div_mul,← Nat.pow_succ]
  rw [e]
  rfl
def Tk(owner:Array (Option Nat))(j:Nat):Prop:=∃i,owner[j]?=some (some i)
theorem rR{owner:Array (Option Nat)}{j:Nat}(hj:j<owner.size):(owner.getD j (some 0)).isNone=true\/Tk owner j:=by
 have e:owner[j]?=some owner[j]:=Array.getElem?_eq_getElem hj
 have eg:owner.getD j (some 0)=owner[j]:=by simp [Array.getD,hj]
 rw [eg]
 cases q:owner[j] with
 | none=>exact .inl rfl
 | some i=>exact .inr ⟨i,by rw [e,q]⟩
theorem nV{owner:Array (Option Nat)}{j:Nat}(h:(owner.getD j (some 0)).isNone=true):j<owner.size/\¬Tk owner j/\owner[j]?=some none:=by
 by_cases hj:j<owner.size
 ·have e:owner[j]?=some owner[j]:=Array.getElem?_eq_getElem hj
  have eg:owner.getD j (some 0)=owner[j]:=by simp [Array.getD,hj]
  rw [eg] at h
  have q:owner[j]=none:=Option.isNone_iff_eq_none.mp h
  refine ⟨hj,λ⟨i,z⟩=>?_,by rw [e,q]⟩
  rw [e,q] at z
  cases z
 ·have eg:owner.getD j (some 0)=some 0:=by simp [Array.getD,hj]
  rw [eg] at h
  cases h
theorem kK{mask i:Nat}(h:i<=mask):runEnd mask i<=mask/\i<=runEnd mask i:=by
 unfold runEnd
 split<;>omega
theorem ux(t:SetTable)(owner:Array (Option Nat))(ho:owner.size=t.mask+1):∀(n fuel i q:Nat),n<fuel->i<=t.mask->(∃m,m<=n/\¬Tk owner (rn t.mask m (i,q)).1/\(rn t.mask m (i,q)).1<=t.mask) ->
  ∃l pre j post,layClean.free t.mask owner fuel i q=some j/\wk t (iE t.mask i q) l=pre++j::post/\(∀a∈pre,Tk owner a)/\owner[j]?=some none:=by
 intro n
 induction n with
 | zero =>
  intro fuel i q hf hi ⟨m,hm,hn,_⟩
  obtain rfl:m=0:=by omega
  obtain ⟨fuel,rfl⟩:∃f,fuel=f+1:=⟨fuel-1,by omega⟩
  have h0:(owner.getD i (some 0)).isNone=true:=(rR (by omega)).resolve_right hn
  refine ⟨1,[],i,[],?_,rfl,(λ_ h=>nomatch h),(nV h0).2.2⟩
  unfold layClean.free
  obtain ⟨r1,r2⟩:=kK hi
  have e:runEnd t.mask i+1-i=(runEnd t.mask i-i)+1:=by omega
  rw [e,List.range_succ_eq_map,List.find?_cons]
  simp only [Nat.add_zero,h0]
 | succ n ih =>
  intro fuel i q hf hi ⟨m,hm,hn,hk⟩
  obtain ⟨fuel,rfl⟩:∃f,fuel=f+1:=⟨fuel-1,by omega⟩
  obtain ⟨r1,r2⟩:=kK hi
  obtain ⟨w1,w2⟩:=iU t (runEnd t.mask i-i) (iE t.mask i q) rfl rfl
  have el:runEnd t.mask i+1-i=runEnd t.mask i-i+1:=by omega
  unfold layClean.free
  cases hf2:(List.range (runEnd t.mask i+1-i)).find? λk=>(owner.getD (i+k) (some 0)).isNone with
  | some k =>
   obtain ⟨hp,as,bs,e1,e2⟩:=List.find?_eq_some_iff_append.mp hf2
   refine ⟨runEnd t.mask i-i+1,as.map (i+·),i+k,bs.map (i+·),rfl,?_,λa ha=>?_,(nV hp).2.2⟩
   ·rw [w1]
    show List.range' i (runEnd t.mask i-i+1)=_
    rw [List.range'_eq_map_range,← el,e1,List.map_append,List.map_cons]
   ·obtain ⟨b,hb,rfl⟩:=List.mem_map.mp ha
    have hb2:b∈List.range (runEnd t.mask i+1-i):=by rw [e1];exact List.mem_append_left _ hb
    have:=List.mem_range.mp hb2
    rcases rR (owner:=owner) (j:=i+b) (by omega) with z | z
    ·have:=e2 b hb
     rw [z] at this
     cases this
    ·exact z
  | none =>
   dsimp only
   have all:∀k,k<runEnd t.mask i+1-i->Tk owner (i+k):=λk hk=>by
    have:=List.find?_eq_none.mp hf2 k (List.mem_range.mpr hk)
    exact (rR (by omega)).resolve_left this
   cases m with
   | zero=>exact absurd (all 0 (by omega)) hn
   | succ m =>
    obtain ⟨l,pre,j,post,h1,h2,h3,h4⟩:=ih fuel (leap t.mask i q).1 (leap t.mask i q).2 (by omega) (by have:=Nat.mod_lt (i*5+1+q/32) (show 0<t.mask+1 by omega);show (i*5+1+q/32)%(t.mask+1)<=t.mask;omega) ⟨m,by omega,hn,hk⟩
    refine ⟨runEnd t.mask i-i+1+l,List.range' i (runEnd t.mask i-i+1)++pre,j,post,h1,?_,λa ha=>?_,h4⟩
    ·rw [lF,w1,w2]
     show List.range' i (runEnd t.mask i-i+1)++wk t (iE t.mask (leap t.mask i q).1 (leap t.mask i q).2) l=_
     rw [h2,List.append_assoc]
    ·rcases List.mem_append.mp ha with z | z
     ·obtain ⟨h5,h6⟩:=List.mem_range'_1.mp z
      have:=all (a-i) (by omega)
      rw [show i+(a-i)=a by omega] at this
      exact this
     ·exact h3 a z
structure Own(t:SetTable)(hs:List Int)(owner:Array (Option Nat))(A:List (Nat×Nat))(k:Nat):Prop where
 sz:owner.size=t.mask+1
 iff:∀j i,owner[j]?=some (some i)↔(j,i)∈A
 sn:A.map (·.2)=List.range k
 nd:(A.map (·.1)).Nodup
 rc:∀x∈A,∃h,hs[x.2]?=some h/\Rch t (A.map (·.1)) h x.1
theorem vy(t:SetTable)(hs:List Int):Own t hs (Array.replicate (t.mask+1) none) [] 0:=by
 refine ⟨by simp,λj i=>⟨λh=>?_,λh=>nomatch h⟩,rfl,.nil,λx hx=>nomatch hx⟩
 rw [Array.getElem?_replicate] at h
 split at h<;>cases h
theorem io{t:SetTable}{hs:List Int}{owner:Array (Option Nat)}{A:List (Nat×Nat)}{k:Nat}{h:Int}(g:kz t.mask)(o:Own t hs owner A k)(hh:hs[k]?=some h)(hk:k<=t.mask) :
  ∃j,layClean.free t.mask owner (turns t.mask) (bits h%(t.mask+1)) (bits h)=some j/\Own t hs (owner.setIfInBounds j (some k)) (A++[(j,k)]) (k+1):=by
 have la:A.length=k:=by
  have:=congrArg List.length o.sn
  simpa using this
 have tkA:∀a,Tk owner a↔a∈A.map (·.1):=λa=>⟨λ⟨i,z⟩=>List.mem_map.mpr ⟨(a,i),(o.iff a i).mp z,rfl⟩,λz=>by
  obtain ⟨x,hx,rfl⟩:=List.mem_map.mp z
  exact ⟨x.2,(o.iff x.1 x.2).mpr hx⟩⟩
 obtain ⟨s,hs1,hs2⟩:=j6 (l:=A.map (·.1)) (mask:=t.mask) (by rw [List.length_map];omega)
 obtain ⟨m,hm,em⟩:=zf g h hs1
 obtain ⟨l,pre,j,post,h1,h2,h3,h4⟩:=ux t owner o.sz (12+t.mask) (turns t.mask) (bits h%(t.mask+1)) (bits h) (by show 12+t.mask<t.mask+15;omega) (by have:=Nat.mod_lt (bits h) (show 0<t.mask+1 by omega);omega)
  ⟨m,hm,by rw [sL,em,tkA];exact hs2,by rw [sL,em];exact hs1⟩
 have hj:j<owner.size:=(Array.getElem?_eq_some_iff.mp h4).1
 have nj:j∉A.map (·.1):=λz=>by
  obtain ⟨i,e⟩:=(tkA j).mpr z
  rw [h4] at e
  cases e
 refine ⟨j,h1,⟨by rw [Array.size_setIfInBounds];exact o.sz,λa i=>?_,?_,?_,λx hx=>?_⟩⟩
 ·rw [Array.getElem?_setIfInBounds]
  by_cases ea:j=a
  ·subst ea
   rw [if_pos rfl,if_pos hj]
   constructor
   ·intro e
    cases e
    exact List.mem_append_right _ List.mem_cons_self
   ·intro e
    rcases List.mem_append.mp e with z | z
    ·exact absurd (List.mem_map.mpr ⟨_,z,rfl⟩) nj
    ·cases List.mem_singleton.mp z
     rfl
  ·rw [if_neg ea,o.iff]
   constructor
   ·exact λz=>List.mem_append_left _ z
   ·intro e
    rcases List.mem_append.mp e with z | z
    ·exact z
    ·cases List.mem_singleton.mp z
     exact absurd rfl ea
 ·rw [List.map_append,o.sn,List.range_succ]
  rfl
 ·rw [List.map_append]
  refine List.nodup_append.mpr ⟨o.nd,by simp,λa ha b hb e=>?_⟩
  have:b=j:=by simpa using hb
  rw [e,this] at ha
  exact nj ha
 ·have up:∀a∈A.map (·.1),a∈(A++[(j,k)]).map (·.1):=λa ha=>by rw [List.map_append];exact List.mem_append_left _ ha
  rcases List.mem_append.mp hx with z | z
  ·obtain ⟨h',e1,e2⟩:=o.rc x z
   exact ⟨h',e1,e2.mono rfl up⟩
  ·cases List.mem_singleton.mp z
   exact ⟨h,hh,l,pre,post,by rw [gu];exact h2,λa ha=>up a ((tkA a).mp (h3 a ha))⟩
theorem nK{t:SetTable}{hs:List Int}(g:kz t.mask)(hl:hs.length<=t.mask+1):∀(r:List Int) (owner:Array (Option Nat)) (A:List (Nat×Nat)) (k:Nat),hs.drop k=r->Own t hs owner A k ->
  ∃owner' A',r.foldl (λacc h=>do
   let (owner,k) ← acc
   let j ← layClean.free t.mask owner (turns t.mask) (bits h%(t.mask+1)) (bits h)
   pure (owner.setIfInBounds j (some k),k+1)) (some (owner,k))=some (owner',k+r.length)/\Own t hs owner' A' (k+r.length)
 | [],owner,A,k,_,o=>⟨owner,A,rfl,o⟩
 | h::r,owner,A,k,hd,o=>by
  have hh:hs[k]?=some h:=by
   have:(hs.drop k)[0]?=some h:=by rw [hd];rfl
   rw [List.getElem?_drop] at this
   simpa using this
  have hk:k<hs.length:=(List.getElem?_eq_some_iff.mp hh).1
  obtain ⟨j,e1,o1⟩:=io g o hh (by omega)
  have hd1:hs.drop (k+1)=r:=by rw [← List.drop_drop,hd];rfl
  obtain ⟨owner',A',e2,o2⟩:=nK g hl r _ _ (k+1) hd1 o1
  refine ⟨owner',A',?_,by rw [List.length_cons,show k+(r.length+1)=k+1+r.length by omega];exact o2⟩
  rw [List.foldl_cons]
  show List.foldl _ ((layClean.free t.mask owner (turns t.mask) (bits h%(t.mask+1)) (bits h)).bind λj=>some (owner.setIfInBounds j (some k),k+1)) r=_
  rw [e1]
  show List.foldl _ (some (owner.setIfInBounds j (some k),k+1)) r=_
  rw [e2,List.length_cons,show k+(r.length+1)=k+1+r.length by omega]
end Tb
namespace Tb
open PySem PySem.SetTable
theorem v4{mask f m:Nat}{led plain:Bool}{hashes:Array Int}{es:List (Int×Value)}(g:kz mask)(hh:hashes.toList=es.map (·.1))(hl:es.length<=mask) :
  ∃t order,laid mask f m led plain hashes=some (t,order)/\t.mask=mask/\t.led=led/\t.plain=plain/\order.toList.Perm (List.range es.length)/\TOk t (order.toList.filterMap (es[·]?)):=by
 let t0:SetTable:={mask:=mask,place:=#[],dummies:=#[],finger:=f,led:=led,moves:=m,plain:=plain}
 have hn:hashes.toList.length=es.length:=by rw [hh,List.length_map]
 obtain ⟨owner,A,e,o⟩:=nK (t:=t0) (hs:=hashes.toList) g (by rw [hn];show es.length<=mask+1;omega) hashes.toList _ [] 0 rfl (vy t0 hashes.toList)
 rw [Nat.zero_add,hn] at e o
 have ec:layClean mask hashes=some owner:=by
  unfold layClean
  rw [← Array.foldl_toList]
  have e':=congrArg (Option.map (·.1)) e
  exact e'
 let Lv:List (Nat×Nat):=(List.range (mask+1)).filterMap λj=>(owner.getD j none).map (j,·)
 have mem:∀x,x∈Lv↔x∈A:=λx=>by
  obtain ⟨j,i⟩:=x
  rw [← o.iff]
  constructor
  ·intro hx
   obtain ⟨a,ha,ea⟩:=List.mem_filterMap.mp hx
   obtain ⟨b,eb,ex⟩:=Option.map_eq_some_iff.mp ea
   cases ex
   by_cases hj:j<owner.size
   ·have:owner.getD j none=owner[j]:=by simp [Array.getD,hj]
    rw [this] at eb
    rw [Array.getElem?_eq_getElem hj,eb]
   ·have:owner.getD j none=none:=by simp [Array.getD,hj]
    rw [this] at eb
    cases eb
  ·intro hx
   obtain ⟨hj,eb⟩:=Array.getElem?_eq_some_iff.mp hx
   refine List.mem_filterMap.mpr ⟨j,List.mem_range.mpr (by have:=o.sz;show j<t0.mask+1;omega),?_⟩
   have:owner.getD j none=owner[j]:=by simp [Array.getD,hj]
   rw [this,eb]
   rfl
 have rs:(Lv.map (·.1)).Pairwise (·<·):=by
  rw [List.pairwise_map,List.pairwise_filterMap]
  refine List.pairwise_lt_range.imp ?_
  intro a b hab x hx y hy
  obtain ⟨_,_,rfl⟩:=Option.map_eq_some_iff.mp hx
  obtain ⟨_,_,rfl⟩:=Option.map_eq_some_iff.mp hy
  exact hab
 have ndL:Lv.Nodup:=(List.pairwise_map.mp rs).imp λh e=>by rw [e] at h;exact Nat.lt_irrefl _ h
 have ndA:A.Nodup:=(List.pairwise_map.mp (show (A.map (·.1)).Pairwise (·≠·) from o.nd)).imp λh e=>h (by rw [e])
 have perm:Lv.Perm A:=(List.perm_ext_iff_of_nodup ndL ndA).mpr mem
 have p2:(Lv.map (·.2)).Perm (List.range es.length):=by rw [← o.sn];exact perm.map _
 have inr:∀x∈Lv,x.2<es.length:=λx hx=>List.mem_range.mp (p2.mem_iff.mp (List.mem_map.mpr ⟨x,hx,rfl⟩))
 refine ⟨{mask:=mask,place:=(Lv.map (·.1)).toArray,dummies:=#[],finger:=f,led:=led,moves:=m,plain:=plain},(Lv.map (·.2)).toArray,?_,rfl,rfl,rfl,by simpa using p2,?_⟩
 ·unfold laid
  rw [ec]
  rfl
 ·have es':((Lv.map (·.2)).toArray.toList.filterMap (es[·]?))=Lv.map λx=>(es[x.2]?).getD (0,.none):=by
   show (Lv.map (·.2)).filterMap (es[·]?)=_
   rw [List.filterMap_map]
   clear perm mem ndL p2 rs
   generalize Lv=L at inr
   induction L with
   | nil=>rfl
   | cons x r ih =>
    have hx:=inr x List.mem_cons_self
    have ex:es[x.2]?=some es[x.2]:=List.getElem?_eq_getElem hx
    rw [List.filterMap_cons_some (f:=(λx=>es[x]?)∘λx:Nat×Nat=>x.2) (a:=x) (b:=es[x.2]) ex,ih λy hy=>inr y (List.mem_cons_of_mem _ hy),List.map_cons,ex]
    rfl
  rw [es']
  have pl:(Lv.map (·.1)).toArray.toList=Lv.map (·.1):=rfl
  have ll:Lv.length=es.length:=by
   have:=p2.length_eq
   simpa using this
  refine ⟨g,rs,rfl,by rw [pl,List.length_map,List.length_map],by rw [List.length_map,ll];exact hl,λy hy=>?_⟩
  have hy':y∈(Lv.map (·.1)).zip (Lv.map λx=>(es[x.2]?).getD (0,.none)):=hy
  rw [List.zip_map'] at hy'
  obtain ⟨x,hx,rfl⟩:=List.mem_map.mp hy'
  obtain ⟨h,e1,e2⟩:=o.rc x ((mem x).mp hx)
  have e3:((es[x.2]?).getD (0,.none)).1=h:=by
   rw [hh,List.getElem?_map] at e1
   obtain ⟨z,ez,rfl⟩:=Option.map_eq_some_iff.mp e1
   rw [ez]
   rfl
  show Rch _ _ ((es[x.2]?).getD (0,.none)).1 x.1
  rw [e3]
  exact Rch.mono (t:=t0) rfl (λa ha=>(perm.map (·.1)).mem_iff.mpr ha) e2
structure SOk(t:SetTable)(es:List (Int×Value)):Prop where
 ok:TOk t es
 nf:es.length*5<t.mask*3
theorem qL(f m:Nat)(led:Bool):SOk (.fresh f m led) []:=⟨qF f m led,by show 0*5<7*3;decide⟩
theorem SOk.room{t:SetTable}{es:List (Int×Value)}(k:SOk t es):es.length+1<=t.mask:=by
 have:=k.nf
 rcases k.ok.gd with h | h | h<;>omega
theorem uv{t:SetTable}{es:List (Int×Value)}(k:TOk t es):t.tooFull=decide (t.mask*3<=es.length*5):=by
 unfold tooFull fill
 have h1:=k.sz
 rw [Array.length_toList] at h1
 rw [k.du,h1]
 rfl
theorem ut{mask n:Nat}(g:kz mask)(hf:mask*3<=n*5)(hp:(n-1)*5<mask*3)(hn:n<=76):kz (sizeAbove (grown n)-1)/\n*5<(sizeAbove (grown n)-1)*3/\n<=sizeAbove (grown n)-1/\sizeAbove (grown n)<=128:=by
 rcases g with h | h | h
 ·have:n=5:=by omega
  subst this
  exact ⟨.inr (.inl (by decide +kernel)),by decide +kernel,by decide +kernel,by decide +kernel⟩
 ·have:n=19:=by omega
  subst this
  exact ⟨.inr (.inr (by decide +kernel)),by decide +kernel,by decide +kernel,by decide +kernel⟩
 ·omega
theorem qP{t:SetTable}{ea:Array (Int×Value)}(k:TOk t ea.toList)(hf:t.mask*3<=ea.size*5)(hp:(ea.size-1)*5<t.mask*3)(hn:ea.size<=76) :
  ∃t' order,t.relaid (ea.map (·.1)) (grown ea.size)=some (t',order)/\t'.led=t.led/\t'.plain=t.plain/\order.toList.Perm (List.range ea.size)/\SOk t' (order.filterMap (ea[·]?)).toList:=by
 obtain ⟨g1,g2,g3,_⟩:=ut k.gd hf hp hn
 obtain ⟨t',order,e1,e2,e3,e4,e5,e6⟩:=v4 (f:=t.finger) (m:=t.movedTo (sizeAbove (grown ea.size)-1)) (led:=t.led) (plain:=t.plain) (hashes:=ea.map (·.1)) (es:=ea.toList) g1 (by simp) (by rw [Array.length_toList];exact g3)
 rw [Array.length_toList] at e5
 have e7:(order.filterMap (ea[·]?)).toList=order.toList.filterMap (ea.toList[·]?):=by
  rw [Array.toList_filterMap]
  congr 1
  funext i
  exact (Array.getElem?_toList ..).symm
 refine ⟨t',order,e1,e3,e4,e5,?_⟩
 rw [e7]
 refine ⟨e6,?_⟩
 have hlen:(order.toList.filterMap (ea.toList[·]?)).length=ea.size:=by
  have:=(e5.filterMap (ea.toList[·]?)).length_eq
  rw [this]
  have:=filterMap_getElem?_range ea
  have e8:(λi:Nat=>ea.toList[i]?)=λi:Nat=>ea[i]?:=by funext i;exact Array.getElem?_toList ..
  rw [e8,this,Array.length_toList]
 rw [hlen,e2]
 exact g2
end Tb
namespace Tb
open PySem PySem.SetTable
end Tb
namespace Tb
open PySem PySem.SetTable
section
variable {prog:Program}{w:World}{K:Type} [DecidableEq K] {knd:KeyKind prog w K}{A:Around}{E:Value->Shared->Prop}{s:Shared}
theorem qQ{t:SetTable}{es:List (Int×Value)}(k:TOk t es)(e:Nat):(t.put e).1.plain=t.plain/\(t.put e).1.led=t.led/\(t.put e).1.mask=t.mask:=by
 rw [sR k]
 exact ⟨rfl,rfl,rfl⟩
end
end Tb
namespace Tb
open PySem PySem.SetTable
theorem xX{t:SetTable}{ea:Array (Int×Value)}(k:SOk t ea.toList)(h:Int)(x:Value) :
  ∃e,e∉t.place.toList/\Rch t t.place.toList h e/\TOk (t.put e).1 (insertAt ea (t.put e).2 (h,x)).toList/\layNew t ea h x=(insertAt ea (t.put e).2 (h,x),(t.put e).1,false,false):=by
 obtain ⟨e,e1,e2,e3⟩:=k.ok.freeSlot h
 have k1:TOk (t.put e).1 (insertAt ea (t.put e).2 (h,x)).toList:=k.ok.put e2 e3 k.room rfl
 have hf:=k1.fits (n:=(insertAt ea (t.put e).2 (h,x)).size) (Array.length_toList ..)
 refine ⟨e,e2,e3,k1,?_⟩
 unfold layNew
 rw [e1]
 dsimp only
 unfold SetTable.orStandIn
 rw [if_pos hf,hf]
 rfl
theorem sN{t:SetTable}{ea:Array (Int×Value)}(k:TOk t ea.toList)(hf:t.mask*3<=ea.size*5)(hp:(ea.size-1)*5<t.mask*3)(hn:ea.size<=76) :
  ∃t' es',relayAll t ea (grown ea.size)=(es',t',false)/\t'.led=t.led/\t'.plain=t.plain/\es'.toList.Perm ea.toList/\SOk t' es'.toList:=by
 obtain ⟨t',order,r1,r2,r3,r4,r5⟩:=qP k hf hp hn
 have r6:(order.filterMap (ea[·]?)).toList.Perm ea.toList:=by
  rw [Array.toList_filterMap]
  exact (r4.filterMap _).trans (by rw [filterMap_getElem?_range])
 refine ⟨t',_,?_,r2,r3,r6,r5⟩
 unfold relayAll
 rw [r1]
 dsimp only
 have c1:coversAll order ea.size=true:=by
  unfold coversAll
  exact List.isPerm_iff.mpr r4
 rw [c1,r5.ok.fits (n:=(order.filterMap (ea[·]?)).size) (Array.length_toList ..)]
 rfl
section
variable {prog:Program}{w:World}{K:Type} [DecidableEq K] {knd:KeyKind prog w K}{A:Around}{E:Value->Shared->Prop}{s:Shared}
def VSet(knd:KeyKind prog w K)(h:Heap)(a:Addr)(led:Bool)(vs:List (K×Value)):Prop :=
 ∃o es ep t,h.get? a=some o/\o.ExactSet/\o.data=.set es ep t/\SOk t es.toList/\t.led=led/\t.plain=true/\es.toList.Perm (vs.map λx=>(knd.hash x.1,x.2))/\(vs.map (·.1)).Nodup/\∀x∈vs,knd.is x.1 x.2=true/\x.2.scannable=true/\plainKind x.2=true
def pS(vs:List (K×Value))(k:K)(x:Value):List (K×Value):=if k∈vs.map (·.1) then vs else vs++[(k,x)]
theorem rM{a:Addr}{x:Value}{led:Bool}{k:K}{vs:List (K×Value)}{Q:Bool->Shared->Prop}(hS:VSet knd s.heap a led vs)(hkey:knd.is k x=true)(hsc:x.scannable=true)(hpk:plainKind x=true)(hn:vs.length<=60)
  (q:∀b h',Heap.SameBut a s.heap h'->VSet knd h' a led (pS vs k x)->Q b {s with heap:=h'}):wpAny (model prog w) A (setAddHashed a x (knd.hash k)) Q E s:=by
 have hS0:=hS
 obtain ⟨o,es,ep,t,ho,hex,hd,hk,hl,hpl,hp,hnd,hx⟩:=hS
 have hsz:es.size=vs.length:=by have:=hp.length_eq;rw [Array.length_toList,List.length_map] at this;exact this
 have hf:=hk.ok.fits (n:=es.size) (Array.length_toList ..)
 have hel:ElemsOf knd es.toList:=λe he=>by
  obtain ⟨y,hy,rfl⟩:=List.mem_map.mp (hp.mem_iff.mp he)
  exact ⟨⟨y.1,(hx y hy).1,rfl⟩,(hx y hy).2.1⟩
 have sb:(64:Nat)<=scanBound:=by decide
 have hb:es.size<scanBound:=by omega
 unfold setAddHashed setAddHashedIn
 refine wpAny_holding (wpAny_bind (wpAny_setState_of ho hd hf ?_))
 dsimp only
 rw [byScan_of hsc hb hel]
 simp only [↓reduceIte]
 unfold setAddByScan
 refine wpAny_bind ?_
 refine wpAny_bind (wpAny_rule ?_)
 refine wpAny_bind (wpAny_setScan_of hkey ho hd hf hel ?_)
 cases hr:List.findIdx? (λe=>knd.is k e.2) es.toList with
 | some j =>
  dsimp only
  obtain ⟨hj,hpj,_⟩:=List.findIdx?_eq_some_iff_getElem.mp hr
  obtain ⟨y,hy,ey⟩:=List.mem_map.mp (hp.mem_iff.mp (List.getElem_mem hj))
  have hin:k∈vs.map (·.1):=by
   have h2:knd.is k y.2=true:=by rw [← ey] at hpj;exact hpj
   exact List.mem_map.mpr ⟨y,hy,(knd.inj y.2 k y.1 h2 (hx y hy).1).symm⟩
  refine wpAny_pure (wpAny_pure ?_)
  have e1:s={s with heap:=s.heap}:=by cases s;rfl
  rw [e1]
  refine q _ s.heap (Heap.SameBut.refl a s.heap) ?_
  unfold pS
  rw [if_pos hin]
  exact hS0
 | none =>
  dsimp only
  have hni:k∉vs.map (·.1):=λhin=>by
   obtain ⟨y,hy,ey⟩:=List.mem_map.mp hin
   have:=List.findIdx?_eq_none_iff.mp hr (knd.hash y.1,y.2) (hp.mem_iff.mpr (List.mem_map.mpr ⟨y,hy,rfl⟩))
   rw [← ey,(hx y hy).1] at this
   cases this
  obtain ⟨e,he,hrc,k1,el⟩:=xX hk (knd.hash k) x
  rw [el]
  dsimp only
  obtain ⟨p1,p2,p3⟩:=qQ hk.ok e
  refine wpAny_bind (wpAny_pure ?_)
  rw [p1,hpl,if_pos rfl]
  refine wpAny_bind ?_
  rw [hashByValue_scannable 8 hsc,hpk]
  refine wpAny_pure ?_
  rw [if_pos rfl]
  have hp1:(insertAt es (t.put e).2 (knd.hash k,x)).toList.Perm ((vs++[(k,x)]).map λx=>(knd.hash x.1,x.2)):=by
   refine (insertAt_perm ..).trans ?_
   rw [Array.toList_push,List.map_append]
   exact hp.append_right _
  generalize hE:insertAt es (t.put e).2 (knd.hash k,x)=es1 at k1 hp1 ⊢
  have hsz1:es1.size=vs.length+1:=by have:=hp1.length_eq;rw [Array.length_toList,List.length_map,List.length_append] at this;exact this
  have sl:es1.size<=sizeLine:=by rw [sizeLine_eq];omega
  refine wpAny_bind (wpAny_storeSet_of ho hd ?_ sl)
  have g1:(s.heap.update a (Obj.putSet es1 (t.put e).1)).get? a=some {o with data:=.set es1 (ep+1) (t.put e).1}:=by
   have:=Heap.get?_update_self (Obj.putSet es1 (t.put e).1) ho (by rw [putSet_of es1 (t.put e).1 hd];rfl)
   rw [putSet_of es1 (t.put e).1 hd] at this;exact this
  have sb1:=Heap.SameBut.update s.heap a (Obj.putSet es1 (t.put e).1)
  have ax:pS vs k x=vs++[(k,x)]:=if_neg hni
  have nd1:((vs++[(k,x)]).map (·.1)).Nodup:=by
   rw [List.map_append]
   refine List.nodup_append.mpr ⟨hnd,by simp,λu hu1 v hv e5=>?_⟩
   have:v=k:=by simpa using hv
   exact hni (by rw [← this,← e5];exact hu1)
  have keys:∀y∈vs++[(k,x)],knd.is y.1 y.2=true/\y.2.scannable=true/\plainKind y.2=true:=λy hy=>by
   rcases List.mem_append.mp hy with z | z
   ·exact hx y z
   ·cases List.mem_singleton.mp z
    exact ⟨hkey,hsc,hpk⟩
  have full:=uv k1
  rw [Array.length_toList,hsz1,p3] at full
  rw [Bool.not_false,Bool.true_and,full]
  have nf:=hk.nf
  rw [Array.length_toList,hsz] at nf
  by_cases hfull:t.mask*3<=(vs.length+1)*5
  ·rw [decide_eq_true hfull,if_pos rfl]
   obtain ⟨t',es2,r1,r2,r3,r4,r5⟩:=sN (t:=(t.put e).1) (ea:=es1) k1 (by rw [p3,hsz1];exact hfull) (by rw [p3,hsz1];omega) (by omega)
   rw [r1]
   dsimp only
   have r7:es2.size=es1.size:=by have:=r4.length_eq;rw [Array.length_toList,Array.length_toList] at this;exact this
   refine wpAny_bind (wpAny_pure ?_)
   refine wpAny_bind (wpAny_storeSet_of g1 rfl ?_ (by rw [r7];exact sl))
   have g2:((s.heap.update a (Obj.putSet es1 (t.put e).1)).update a (Obj.putSet es2 t')).get? a=some {o with data:=.set es2 (ep+1+1) t'}:=by
    have:=Heap.get?_update_self (Obj.putSet es2 t') g1 (by rw [putSet_of es2 t' rfl];rfl)
    rw [putSet_of es2 t' rfl] at this;exact this
   have sb2:=sb1.trans (Heap.SameBut.update (s.heap.update a (Obj.putSet es1 (t.put e).1)) a (Obj.putSet es2 t'))
   refine wpAny_pure (wpAny_pure (q _ _ sb2 ?_))
   rw [ax]
   exact ⟨_,es2,ep+1+1,t',g2,hex,rfl,r5,by rw [r2,p2];exact hl,by rw [r3,p1];exact hpl,r4.trans hp1,nd1,keys⟩
  ·rw [decide_eq_false hfull,if_neg (by decide)]
   refine wpAny_pure (wpAny_pure (q _ _ sb1 ?_))
   rw [ax]
   exact ⟨_,es1,ep+1,(t.put e).1,g1,hex,rfl,⟨k1,by rw [Array.length_toList,hsz1,p3];omega⟩,by rw [p2];exact hl,by rw [p1];exact hpl,hp1,nd1,keys⟩
end
end Tb
namespace Tb
open PySem PySem.SetTable
theorem slot_sin:Slot "set_iterator" "__next__" "set_iterator.__next__" :=
 .of (owner:="set_iterator") (n:="__next__") (by rw [typeLookup_type,builtinLookup_eq_fast];kernel_rfl) (by decide +kernel) (by decide +kernel) (by decide +kernel) (.inl (by decide +kernel)) (by rw [isSubtype_type];kernel_rfl)
theorem ni:Slot "set_iterator" "__iter__" "set_iterator.__iter__" :=
 .of (owner:="set_iterator") (n:="__iter__") (by rw [typeLookup_type,builtinLookup_eq_fast];kernel_rfl) (by decide +kernel) (by decide +kernel) (by decide +kernel) (.inl (by decide +kernel)) (by rw [isSubtype_type];kernel_rfl)
theorem kZ : entryFor table "set_iterator.__next__" = some Builtin.«set_iterator.__next__» := entryFor_of_tree (by kernel_rfl)
theorem rD : entryFor table "set_iterator.__iter__" = some Builtin.«dict_keyiterator.__iter__» :=
 entryFor_alias (id':="dict_keyiterator.__iter__") (by kernel_rfl) rfl (by decide +kernel) (by kernel_rfl)
theorem ou : entryFor table "set.__iter__" = some Builtin.«frozenset.__iter__» :=
 entryFor_alias (id':="frozenset.__iter__") (by kernel_rfl) rfl (by decide +kernel) (by kernel_rfl)
theorem nJ:Manifest.owners.lookup (String.ofList ("set_iterator".toList.reverse).reverse)=some Manifest.sig_set_iterator:=by kernel_rfl
theorem oB(a:Value):argsOk "set_iterator.__next__" ⟨[a],[]⟩:=by
 unfold argsOk;rw [signature?_of (id:="set_iterator.__next__") (n:="__next__".toList.reverse) (o:="set_iterator".toList.reverse) (by kernel_rfl) nJ];kernel_rfl
theorem uQ(a:Value):argsOk "set_iterator.__iter__" ⟨[a],[]⟩:=by
 unfold argsOk;rw [signature?_of (id:="set_iterator.__iter__") (n:="__iter__".toList.reverse) (o:="set_iterator".toList.reverse) (by kernel_rfl) nJ];kernel_rfl
theorem j7{α:Type}:∀(l:List α) (i:Nat) (h:i<l.length),(l[i]::l.eraseIdx i).Perm l
 | _::_,0,_=>List.Perm.refl _
 | a::l,i+1,h=>(List.Perm.swap a _ _).trans ((j7 l i (Nat.lt_of_succ_lt_succ h)).cons a)
theorem qd{α:Type}(next:Nat->Nat):∀(fuel k:Nat) (left:List α) (out:Array α),left.length=fuel->(pickOrder.go next fuel k left out).toList.Perm (out.toList++left)
 | 0,k,left,out,h=>by
  rw [List.length_eq_zero_iff.mp h,List.append_nil]
  exact List.Perm.refl _
 | fuel+1,k,left,out,h=>by
  have hi:next k%left.length<left.length:=Nat.mod_lt _ (by omega)
  have e:left[next k%left.length]?=some left[next k%left.length]:=List.getElem?_eq_getElem hi
  unfold pickOrder.go
  rw [e]
  dsimp only
  refine (qd next fuel (k+1) _ _ (by rw [List.length_eraseIdx_of_lt hi];omega)).trans ?_
  rw [Array.toList_push,List.append_assoc]
  exact List.Perm.append_left _ (j7 left _ hi)
theorem qT{α:Type}(next:Nat->Nat)(xs:Array α):(pickOrder next xs).toList.Perm xs.toList:=by
 have:=qd next xs.size 0 xs.toList #[] (Array.length_toList ..)
 simpa [pickOrder] using this
def zv(h:Heap)(a:Addr)(es:Array (Int×Value))(ep:Nat)(t:SetTable):Prop:=∃o,h.get? a=some o/\o.ExactSet/\o.data=.set es ep t
def dw(P:Params)(a ep:Nat)(es:Array (Int×Value)):Array (Int×Value):=if P.followText "set-order"=true then pickOrder (P.setOrder a ep) es else es
theorem kB(P:Params)(a ep:Nat)(es:Array (Int×Value)):(dw P a ep es).toList.Perm es.toList:=by
 unfold dw
 split
 ·exact qT _ _
 ·exact List.Perm.refl _
theorem gr(P:Params)(a ep:Nat)(es:Array (Int×Value)):(dw P a ep es).size=es.size:=by
 have:=(kB P a ep es).length_eq
 rw [Array.length_toList,Array.length_toList] at this
 exact this
def SetIt(P:Params)(h:Heap)(it a:Addr)(t:SetTable)(i n ep:Nat):Prop:=∃slot:Nat,h.get? it=some {cls:=.type "set_iterator",dict:=none,data:=.fields #[.int (slot:Int) 0,.int (i:Int) 0,.ref a,.int (n:Int) 0,.int (ep:Int) 0],slots:=#[]}/\(P.followText "set-order"=false->below t.place slot=i)
section
variable {prog:Program}{w:World}{A:Around}{E:Value->Shared->Prop}{s:Shared}{a it:Addr}{es:Array (Int×Value)}{ep i:Nat}{t:SetTable}
theorem mD{Q:Bool->Shared->Prop}(h:Q (w.params.followText "set-order") s):wpAny (model prog w) A setsByText Q E s:=by
 unfold setsByText
 exact wpAny_bind (wpAny_askSetting (wpAny_pure h))
theorem nk{Q:Option (Value×Nat)->Shared->Prop}{slot:Nat}(hS:zv s.heap a es ep t)(hk:SOk t es.toList)(hl:t.led=!w.params.followText "set-order")(hp:t.plain=true)(hb:w.params.followText "set-order"=false->below t.place slot=i)
  (q:∀nx:Nat,(w.params.followText "set-order"=false->i<es.size->below t.place nx=i+1)->Q (((dw w.params a ep es)[i]?).map λe=>(e.2,nx)) s):wpAny (model prog w) A (setNext a slot i ep) Q E s:=by
 obtain ⟨o,ho,hx,hd⟩:=hS
 have hf:=hk.ok.fits (n:=es.size) (Array.length_toList ..)
 unfold setNext
 refine wpAny_bind (wpAny_setState_of ho hd hf (wpAny_bind (mD ?_)))
 dsimp only
 cases hT:w.params.followText "set-order" with
 | true =>
  rw [if_pos rfl,bne_self_eq_false,if_neg (by decide)]
  unfold setWalk
  refine wpAny_bind (wpAny_bind (wpAny_setState_of ho hd hf (wpAny_bind (mD ?_))))
  rw [hT,if_pos rfl]
  refine wpAny_bind (wpAny_askSetting (wpAny_pure (wpAny_pure ?_)))
  have:=q slot (λz=>by rw [hT] at z;cases z)
  unfold dw at this
  rw [hT,if_pos rfl] at this
  exact this
 | false =>
  rw [if_neg (by decide)]
  have hl1:t.led=true:=by rw [hl,hT];rfl
  split
  ·rename_i z
   have z1:(!t.plain&&decide (es.size>1))=true:=z
   rw [hp] at z1
   cases z1
  ·refine wpAny_bind (show wpAny _ _ (if (!t.led&&!es.isEmpty)=true then unsupported "set:maker-not-led" else pure ()) _ _ _ from ?_)
   rw [hl1,if_neg (by simp)]
   refine wpAny_pure (wpAny_pure ?_)
   rw [hb hT]
   have ew:dw w.params a ep es=es:=by unfold dw;rw [hT,if_neg (by decide)]
   rw [ew] at q
   by_cases hi:i<es.size
   ·have h1:=hk.ok.sz
    rw [Array.length_toList,Array.length_toList] at h1
    have hj:i<t.place.size:=by omega
    have e1:es[i]?=some es[i]:=Array.getElem?_eq_getElem hi
    have e2:t.place[i]?=some t.place[i]:=Array.getElem?_eq_getElem hj
    have:=q (t.place[i]+1) (λ_ _=>pP hk.ok.rs e2)
    rw [e1] at this ⊢
    rw [e2]
    exact this
   ·have e1:es[i]?=none:=Array.getElem?_eq_none (by omega)
    have:=q 0 (λ_ z=>absurd z hi)
    rw [e1] at this ⊢
    exact this
end
end Tb
namespace Tb
open PySem PySem.SetTable
section
variable {prog:Program}{w:World}{A:Around}{E:Value->Shared->Prop}{s:Shared}{a it:Addr}{es:Array (Int×Value)}{ep i:Nat}{t:SetTable}
theorem sA{P:Params}{n:Nat}(h:SetIt P s.heap it a t i n ep):s.TypeIs (.ref it) "set_iterator":=let ⟨_,e,_⟩:=h;⟨_,e,rfl⟩
structure WOk(P:Params)(h:Heap)(a:Addr)(es:Array (Int×Value))(ep:Nat)(t:SetTable):Prop where
 raw:zv h a es ep t
 sok:SOk t es.toList
 led:t.led=!P.followText "set-order"
 pl:t.plain=true
theorem WOk.at{P:Params}{h h':Heap}(x:WOk P h a es ep t)(k:∀o,h.get? a=some o->h'.get? a=some o):WOk P h' a es ep t:=⟨let ⟨o,e,r⟩:=x.raw;⟨o,k o e,r⟩,x.sok,x.led,x.pl⟩
theorem SetIt.at{P:Params}{h h':Heap}{n:Nat}(x:SetIt P h it a t i n ep)(k:∀o,h.get? it=some o->h'.get? it=some o):SetIt P h' it a t i n ep:=let ⟨sl,e,r⟩:=x;⟨sl,k _ e,r⟩
theorem vc{e:Int×Value}{Q:Option Value->Shared->Prop}(hit:SetIt w.params s.heap it a t i es.size ep)(hw:WOk w.params s.heap a es ep t)(hx:(dw w.params a ep es)[i]?=some e)
  (hQ:∀h',SetIt w.params h' it a t (i+1) es.size ep->Heap.SameBut it s.heap h'->Q (some e.2) {s with heap:=h'}):wpAny (model prog w) A (pyNext (.ref it)) Q E s:=by
 have ty:=sA hit
 obtain ⟨slot,h1,hb⟩:=hit
 obtain ⟨o,ho,hex,hd⟩:=id hw.raw
 have hf:=hw.sok.ok.fits (n:=es.size) (Array.length_toList ..)
 have hi:i<es.size:=by rw [← gr w.params a ep es];exact (Array.getElem?_eq_some_iff.mp hx).1
 unfold pyNext
 refine wpAny_bind (wpAny_attempt (wpAny_callSpecial?_slot (name:=Str.ofString "__next__") ty slot_sin (wpAny_call_entry slot_sin ty kZ ?_ (oB _))))
 unfold Builtin.«set_iterator.__next__»
 refine wpAny_bind (wpAny_pure ?_)
 try dsimp only
 refine wpAny_bind (wpAny_fieldsOf h1 rfl ?_)
 try dsimp only
 refine wpAny_bind (wpAny_setEntries_of ho hd hf ?_)
 rw [if_neg (by simp)]
 try dsimp only
 rw [Int.toNat_natCast,Int.toNat_natCast,Int.toNat_natCast]
 refine wpAny_bind (nk (i:=i) hw.raw hw.sok hw.led hw.pl hb λnx hnx=>?_)
 rw [hx]
 dsimp only [Option.map]
 refine wpAny_bind (wpAny_setField_rec h1 (by simp) λh2 e2 s2=>wpAny_bind (wpAny_setField_rec e2 (by simp) λh3 e3 s3=>?_))
 refine wpAny_pure ⟨_,rfl,wpAny_pure (hQ h3 ⟨nx,?_,λz=>hnx z hi⟩ (s2.trans s3))⟩
 have z:((i+1:Nat):Int)=(i:Int)+1:=by omega
 rw [z]
 simpa [rawInt] using e3
theorem xk{Q:Option Value->Shared->Prop}(hh:A.handled=none)(hit:SetIt w.params s.heap it a t i es.size ep)(hw:WOk w.params s.heap a es ep t)(hx:(dw w.params a ep es)[i]?=none)
  (hQ:∀h',Heap.ExtBut it s.heap h'->Q none {s with heap:=h'}):wpAny (model prog w) A (pyNext (.ref it)) Q E s:=by
 have ty:=sA hit
 obtain ⟨slot,h1,hb⟩:=hit
 obtain ⟨o,ho,hex,hd⟩:=id hw.raw
 have hf:=hw.sok.ok.fits (n:=es.size) (Array.length_toList ..)
 unfold pyNext
 refine wpAny_bind (wpAny_attempt (wpAny_callSpecial?_slot (name:=Str.ofString "__next__") ty slot_sin (wpAny_call_entry slot_sin ty kZ ?_ (oB _))))
 unfold Builtin.«set_iterator.__next__»
 refine wpAny_bind (wpAny_pure ?_)
 try dsimp only
 refine wpAny_bind (wpAny_fieldsOf h1 rfl ?_)
 try dsimp only
 refine wpAny_bind (wpAny_setEntries_of ho hd hf ?_)
 rw [if_neg (by simp)]
 try dsimp only
 rw [Int.toNat_natCast,Int.toNat_natCast,Int.toNat_natCast]
 refine wpAny_bind (nk (i:=i) hw.raw hw.sok hw.led hw.pl hb λnx hnx=>?_)
 rw [hx]
 dsimp only [Option.map]
 refine wpAny_bind (wpAny_setField h1 rfl (by simp) ?_)
 show wpAny _ _ (newExc (.type "StopIteration") [] >>= λ_=>_) _ _ _
 refine wpAny_bind ?_
 simp only [newExc,newTuple]
 refine wpAny_bind (wpAny_newObj_type (wpAny_bind (m:=firstArgMember _ _) (wpAny_of_eq (a:=Value.none) (by first | rfl | (simp only [firstArgMember];rfl)) (wpAny_newObj_type ?_ (by size_fits)))) (by size_fits))
 simp only [raiseNew]
 refine wpAny_bind (wpAny_handled ?_)
 rw [show A.in1.handled=none from hh]
 refine wpAny_bind (wpAny_pure (wpAny_throw ?_));refine wpAny_bind (wpAny_isInstance (T:="StopIteration") (b:=true) ⟨_,Heap.get?_push_size _ rfl,rfl⟩ isSubtype_stop ?_)
 exact wpAny_pure (hQ _ (((Heap.SameBut.update ..).extBut.push _).push _))
theorem vb{n:Nat}{P:Params}{Q:Value->Shared->Prop}(hit:SetIt P s.heap it a t i n ep)(h:Q (.ref it) s):wpAny (model prog w) A (pyIter (.ref it)) Q E s:=by
 have ty:=sA hit
 refine wpAny_pyIter_slot ty ni (wpAny_call_entry ni ty rD ?_ (uQ _))
 exact wpAny_pure ⟨_,rfl,"set_iterator",_,ty,slot_sin.lookup,h⟩
theorem vd{Q:Value->Shared->Prop}(hw:WOk w.params s.heap a es ep t)(hQ:∀h',h'=s.heap.push {cls:=.type "set_iterator",dict:=none,data:=.fields #[.int ((0:Nat):Int) 0,.int ((0:Nat):Int) 0,.ref a,.int (es.size:Int) 0,.int (ep:Int) 0],slots:=#[]}->SetIt w.params h' s.heap.objs.size a t 0 es.size ep->Q (.ref s.heap.objs.size) {s with heap:=h'}) :
  wpAny (model prog w) A (pyIter (.ref a)) Q E s:=by
 obtain ⟨o,ho,hex,hd⟩:=id hw.raw
 have ty:s.TypeIs (.ref a) "set":=⟨o,ho,hex.1⟩
 have hf:=hw.sok.ok.fits (n:=es.size) (Array.length_toList ..)
 refine wpAny_pyIter_slot ty F.slot_set_iter (wpAny_call_entry F.slot_set_iter ty ou ?_ (F.args_set_iter_1 _))
 unfold Builtin.«frozenset.__iter__» Builtin.Frozenset.slot0 slotArgs
 simp only [List.isEmpty_nil,Bool.not_true,Bool.false_eq_true,↓reduceIte,bind_assoc,List.length_nil,bne_self_eq_false]
 unfold Builtin.Frozenset.addrOf Builtin.Frozenset.sizeOf
 refine wpAny_bind (wpAny_pure (wpAny_bind (wpAny_pure (wpAny_bind (wpAny_bind (wpAny_setEntries_of ho hd hf (wpAny_pure ?_)))))))
 unfold setDrawn
 refine wpAny_bind (wpAny_bind (wpAny_setState_of ho hd hf (wpAny_bind (mD (wpAny_pure ?_)))))
 rw [if_neg (show ¬_ from λz=>by
  have z1:(!w.params.followText "set-order"&&(!t.plain&&decide (es.size>1)))=true:=z
  rw [hw.pl] at z1
  simp at z1)]
 refine wpAny_bind (wpAny_pure (wpAny_bind (wpAny_setEpoch_of ho hd hf (wpAny_bind ?_))))
 refine wpAny_newObj_type (wpAny_pure ⟨_,rfl,"set_iterator",_,⟨_,Heap.get?_push_size _ rfl,rfl⟩,slot_sin.lookup,hQ _ rfl ⟨0,Heap.get?_push_size _ rfl,λ_=>pO hw.sok.ok.rs⟩⟩)
theorem sy(hh:A.handled=none)(hne:a≠it):Walks prog w A it [it,a] [it] es.size (λi v=>∃e,(dw w.params a ep es)[i]?=some e/\v=e.2) (λi h=>SetIt w.params h it a t i es.size ep/\WOk w.params h a es ep t) where
 sub:=λb hb=>by simp at hb;simp [hb]
 frame:=λ_ _ _ st hk=>⟨st.1.at λo e=>hk it (by simp) o e,st.2.at λo e=>hk a (by simp) o e⟩
 item:=λi s Q E hi st hQ=>by
  have hz:=gr w.params a ep es
  have hx:(dw w.params a ep es)[i]?=some (dw w.params a ep es)[i]:=Array.getElem?_eq_getElem (by omega)
  refine vc st.1 st.2 hx λh' hit' hs'=>?_
  exact hQ _ h' s.toks ⟨_,hx,rfl⟩ ⟨hit',st.2.at λo e=>(hs'.2 a hne).trans e⟩ λb o hb e=>hs'.extBut b o (λh=>hb (by simp [h])) e
 done:=λs Q E st hQ=>xk hh st.1 st.2 (Array.getElem?_eq_none (by rw [gr];exact Nat.le_refl _)) λh' he'=>hQ h' s.toks λb o hb e=>he' b o (λh=>hb (by simp [h])) e
 self:=λ_ _ _ _ st hQ=>vb st.1 hQ
end
end Tb
namespace Tb
open PySem PySem.SetTable
theorem pG{M:Model}{A:Around}{α:Type}{c:Prop} [Decidable c]{x y:Sem α}{Q:α->Shared->Prop}{E:Value->Shared->Prop}{s:Shared}(h1:c->wpAny M A x Q E s)(h2:¬c->wpAny M A y Q E s):wpAny M A (if c then x else y) Q E s:=by
 by_cases h:c
 ·rw [if_pos h];exact h1 h
 ·rw [if_neg h];exact h2 h
section
variable {prog:Program}{w:World}{A:Around}{E:Value->Shared->Prop}{s:Shared}{a:Addr}{es:Array (Int×Value)}{ep:Nat}{t:SetTable}
theorem sC{Q:Bool->Shared->Prop}(ty:s.TypeIs (.ref a) "set")(h:Q false s):wpAny (model prog w) A (Builtin.List.listLengthHint (.ref a)) Q E s:=by
 unfold Builtin.List.listLengthHint
 refine wpAny_bind (wpAny_specialOf ty PySem.F.slot_set_len.lookup ?_)
 generalize hid:("set.__len__":String)=id0
 wp_delta
 rw [show splitId id0=some ("set","__len__") from by subst hid;decide +kernel]
 subst hid
 refine wpAny_bind (wpAny_isInstance (T:="set") (b:=true) ty (by rw [isSubtype_type];kernel_rfl) ?_)
 refine pG (λz=>absurd z (by decide)) (λ_=>pG (λ_=>?_) (λz=>absurd (by decide +kernel) z))
 exact wpAny_bind (wpAny_typeOf ty (wpAny_pure h))
theorem nq{R:List Value->Shared->Prop}(hh:A.handled=none)(hw:WOk w.params s.heap a es ep t)(hn:es.size<=sizeLine)
  (hR:∀(h':Heap) (tk:Nat),(∀b o,s.heap.get? b=some o->h'.get? b=some o)->R ((dw w.params a ep es).toList.map (·.2)) {s with heap:=h',toks:=tk}):wpAny (model prog w) A (collect (.ref a)) R E s:=by
 obtain ⟨o,ho,hex,hd⟩:=id hw.raw
 have la:a<s.heap.objs.size:=Heap.lt_size ho
 unfold collect
 refine wpAny_bind (wpAny_runValue (codeAny_builtin PySem.F.entry_proto_collect ?_))
 rw [Around.under_plainId PySem.F.plain_proto_collect _]
 show wpAny _ A.in1 (newList [] >>= λl=>again (.builtin "list.__iadd__" (Args.mk [l,.ref a] []))) _ _ s
 refine wpAny_bind (wpAny_newObj_type (wpAny_pure ⟨plainId_quiet PySem.F.plain_list_iadd _,codeAny_builtin PySem.F.entry_list_iadd ?_⟩))
 rw [Around.under_plainId PySem.F.plain_list_iadd _]
 show wpAny _ A.in1 (Builtin.List.listExtendWith (.ref s.heap.objs.size) (.ref a) (.ref s.heap.objs.size)) _ _ _
 have hw1:WOk w.params (s.heap.push {cls:=.type "list",data:=.seq ([]:List Value).toArray}) a es ep t:=hw.at λo e=>Heap.get?_push_of_some _ e
 have ty1:Shared.TypeIs {s with heap:=s.heap.push {cls:=.type "list",data:=.seq ([]:List Value).toArray}} (.ref a) "set":=⟨o,Heap.get?_push_of_some _ ho,hex.1⟩
 unfold Builtin.List.listExtendWith
 refine wpAny_bind (wpAny_typeOf (T:="set") ty1 ?_)
 have b1:Builtin.List.listSameRef (.ref s.heap.objs.size) (.ref a)=false:=by simp only [Builtin.List.listSameRef,beq_eq_false_iff_ne];exact Nat.ne_of_gt la
 rw [b1,if_neg (by decide)]
 refine wpAny_bind (vd (s:={s with heap:=s.heap.push {cls:=.type "list",data:=.seq ([]:List Value).toArray}}) hw1 λh2 e2 it2=>?_)
 have k2:∀b o,(s.heap.push {cls:=.type "list",data:=.seq ([]:List Value).toArray}).get? b=some o->h2.get? b=some o:=λb o e=>by rw [e2];exact Heap.get?_push_of_some _ e
 have hw2:WOk w.params h2 a es ep t:=hw1.at λo e=>k2 _ _ e
 have eI:(s.heap.push {cls:=.type "list",data:=.seq ([]:List Value).toArray}).objs.size=s.heap.objs.size+1:=Heap.size_push ..
 refine wpAny_bind (wpAny_holding (sC (s:={s with heap:=h2}) ⟨o,k2 _ _ (Heap.get?_push_of_some _ ho),hex.1⟩ ?_))
 refine pG (λ_=>?_) (λz=>absurd (by decide +kernel) z)
 refine wpAny_bind (wpAny_rule (wpAny_bind ?_))
 have eS:h2.get? s.heap.objs.size=some {cls:=.type "list",data:=.seq ([]:List Value).toArray}:=k2 _ _ (Heap.get?_push_size _ rfl)
 show wpAny _ _ (updateSeq s.heap.objs.size (·.push .none) >>= λ_=>updateSeq s.heap.objs.size (·.pop)) _ _ _
 have eS2:=Heap.get?_update_self (Obj.mapSeq (·.push Value.none)) eS rfl
 have eS3:=Heap.get?_update_self (Obj.mapSeq (·.pop)) eS2 rfl
 have up:∀b o,b≠s.heap.objs.size->h2.get? b=some o->((h2.update s.heap.objs.size (Obj.mapSeq (·.push Value.none))).update s.heap.objs.size (Obj.mapSeq (·.pop))).get? b=some o:=λb o nb e=>(Heap.get?_update_other _ _ (Ne.symm nb)).trans ((Heap.get?_update_other _ _ (Ne.symm nb)).trans e)
 have W:=(sy (prog:=prog) (w:=w) (A:=A.in1) (a:=a) (it:=(s.heap.push {cls:=.type "list",data:=.seq ([]:List Value).toArray}).objs.size) (es:=es) (ep:=ep) (t:=t) hh (by rw [eI];exact Nat.ne_of_lt (Nat.lt_succ_of_lt la))).toS
 refine wpAny_bind (wpAny_updateSeq eS rfl (wpAny_updateSeq (hz:=by seq_fits) eS2 rfl (wpAny_pure ⟨plainId_quiet PySem.F.plain_extend_loop _,?_⟩)))
 refine codeAny_extend_loopS W hn s.heap.objs.size (by rw [eI];simp only [List.mem_cons,List.not_mem_nil,or_false,not_or];exact ⟨Nat.ne_of_lt (Nat.lt_succ_self _),Nat.ne_of_gt la⟩) _ es.size 0 _ _ _ (Nat.sub_zero _) (Nat.zero_le _) ⟨it2.at λo e=>up _ _ (by rw [eI];exact Nat.ne_of_gt (Nat.lt_succ_self _)) e,hw2.at λo e=>up _ _ (Nat.ne_of_lt la) e⟩ eS3 (ItemsOf.nil _) λs' acc c hm hS ia=>?_
 obtain ⟨h',g',d',tk',os'⟩:=s'
 obtain rfl:g'=s.gens:=hm.gens
 obtain rfl:d'=s.drawn:=hm.drawn
 obtain rfl:os'=s.os:=hm.os
 show wpAny _ A (load s.heap.objs.size >>= λ_=>_) _ _ _
 refine wpAny_bind (wpAny_load hS (wpAny_pure ?_))
 have ea:acc.toList=(dw w.params a ep es).toList.map (·.2):=by
  apply List.ext_getElem?
  intro j
  rw [List.getElem?_map,Array.getElem?_toList,Array.getElem?_toList]
  cases hj:acc[j]? with
  | some v =>
   obtain ⟨e,e1,rfl⟩:=ia.2 j v hj
   rw [e1]
   rfl
  | none =>
   have h1:=Array.getElem?_eq_none_iff.mp hj
   rw [ia.1] at h1
   rw [Array.getElem?_eq_none (by rw [gr];exact h1)]
   rfl
 show R acc.toList _
 rw [ea]
 refine hR h' tk' λb o e=>hm.heap b o ?_ (up b o (Nat.ne_of_lt (Heap.lt_size e)) (k2 b o (Heap.get?_push_of_some _ e)))
 have lb:=Heap.lt_size e
 rw [eI]
 simp only [List.mem_cons,List.not_mem_nil,or_false,not_or]
 exact ⟨Nat.ne_of_lt lb,Nat.ne_of_lt (Nat.lt_succ_of_lt lb)⟩
end
end Tb
namespace Tb
open PySem PySem.SetTable
end Tb
namespace Tb
open PySem PySem.SetTable
abbrev dM(P:Params):Obj:={cls:=.type "set",dict:=none,data:=.set #[] 0 (.fresh 0 0 (!P.followText "set-order"))}
section
variable {prog:Program}{w:World}{K:Type} [DecidableEq K] {knd:KeyKind prog w K}{A:Around}{E:Value->Shared->Prop}{s:Shared}
theorem vf(x:Value){Q:Value->Shared->Prop}(q:Q (.ref s.heap.objs.size) {s with heap:=s.heap.push (dM w.params)}) :
  codeAny (model prog w) A (.call (.builtin "set.__new__") ⟨[.type "set",x],[]⟩) (wants Q E) s:=by
 refine codeAny_of_tree (show wpAny _ A.in1 (do checkBuiltinCall "set.__new__" ⟨[.type "set",x],[]⟩;again (.builtin "set.__new__" ⟨[.type "set",x],[]⟩)) _ _ s from ?_)
 refine wpAny_bind (wpAny_of_eq (PySem.F.newCall_set_1 x) (wpAny_pure ⟨plainId_quiet PySem.F.plain_set_new _,codeAny_builtin PySem.F.entry_set_new ?_⟩))
 rw [Around.under_plainId PySem.F.plain_set_new _]
 unfold Builtin.«set.__new__» Builtin.Frozenset.newClass
 have hsub:=sub_set_self
 obtain ⟨hp,g,d,tk,os⟩:=s
 dsimp only
 wp_walk
 refine wpAny_askSetting (wpAny_pure ?_)
 dsimp only
 simp only [newObj]
 exact wpAny_bind (wpAny_alloc (wpAny_pure (wpAny_pure q)))
end
end Tb
namespace Tb
open PySem PySem.SetTable
section
variable {prog:Program}{w:World}{K:Type} [DecidableEq K] {knd:KeyKind prog w K}{A:Around}{E:Value->Shared->Prop}{s:Shared}
def jn(l:List (K×Value)):List (K×Value):=l.foldl (λvs x=>pS vs x.1 x.2) []
theorem i3(l:List (K×Value))(x:K×Value):jn (l++[x])=pS (jn l) x.1 x.2:=by
 unfold jn
 rw [List.foldl_append]
 rfl
theorem oh:∀(n:Nat) (l:List (K×Value)),l.length=n->(jn l).length<=n
 | 0,l,h=>by rw [List.length_eq_zero_iff.mp h];exact Nat.le_refl _
 | n+1,l,h=>by
  obtain ⟨r,x,rfl⟩:∃r x,l=r++[x]:=⟨l.dropLast,l.getLast (by intro z;rw [z] at h;cases h),(List.dropLast_concat_getLast _).symm⟩
  have h2:=oh n r (by rw [List.length_append] at h;exact Nat.succ.inj h)
  rw [i3]
  unfold pS
  split
  ·omega
  ·rw [List.length_append];exact Nat.succ_le_succ h2
theorem og:∀(n:Nat) (l:List (K×Value)),l.length=n->∀k,k∈(jn l).map (·.1)↔k∈l.map (·.1)
 | 0,l,h=>by rw [List.length_eq_zero_iff.mp h];exact λk=>Iff.rfl
 | n+1,l,h=>by
  obtain ⟨r,x,rfl⟩:∃r x,l=r++[x]:=⟨l.dropLast,l.getLast (by intro z;rw [z] at h;cases h),(List.dropLast_concat_getLast _).symm⟩
  have ih:=og n r (by rw [List.length_append] at h;exact Nat.succ.inj h)
  intro k
  rw [i3,List.map_append,List.mem_append]
  unfold pS
  split
  ·rename_i hin
   rw [ih]
   refine ⟨.inl,λz=>z.elim id λz=>?_⟩
   rw [show k=x.1 by simpa using z]
   exact (ih x.1).mp hin
  ·rw [List.map_append,List.mem_append,ih]
theorem VSet.at{h h':Heap}{a:Addr}{led:Bool}{vs:List (K×Value)}(S:VSet knd h a led vs)(k:∀o,h.get? a=some o->h'.get? a=some o):VSet knd h' a led vs:=by
 obtain ⟨o,es,ep,t,ho,r⟩:=S
 exact ⟨o,es,ep,t,k o ho,r⟩
def uV(knd:KeyKind prog w K)(items:List (K×Value)):Prop:=∀x∈items,knd.is x.1 x.2=true/\x.2.scannable=true/\plainKind x.2=true
theorem qB{R:Result->Shared->Prop}{I:Addr}{fp wr:List Addr}{G:Array GenState->Array GenState->Prop}{P:Nat->Value->Prop}{St:Nat->Shared->Prop}{items:List (K×Value)}(W:WalksS prog w A.in1 I fp wr G items.length P St)(S:Addr)(hSf:S∉fp)(led:Bool)
  (hval:∀i v,P i v->∃x,items[i]?=some x/\v=x.2)(hb:items.length<=60)(hc:uV knd items) :
  ∀(k i:Nat) (s:Shared),items.length-i=k->i<=items.length->St i s->VSet knd s.heap S led (jn (items.take i)) ->
   (∀s',Moved (S::wr) G s s'->VSet knd s'.heap S led (jn items)->R (.ok (.ret .none)) s') ->
   codeAny (model prog w) A (.builtin "set.update.loop" (Args.mk [.ref S,.ref I] [])) R s:=by
 have nw:S∉wr:=λh=>hSf (W.sub _ h)
 have up:∀b∈wr,b∈S::wr:=λb hb=>List.mem_cons_of_mem _ hb
 intro k
 induction k with
 | zero =>
  intro i s hk hi hst hS hR
  obtain rfl:i=items.length:=by omega
  refine codeAny_builtin PyProof.Rows.F.entry_set_update_loop ?_
  rw [Around.under_plainId PyProof.Rows.F.plain_set_update_loop _]
  show wpAny _ A.in1 (pyNext (.ref I) >>= λ_=>_) _ _ s
  refine wpAny_bind (W.done s _ _ hst λs' hm=>?_)
  rw [List.take_length] at hS
  exact wpAny_pure (hR s' (hm.mono up) (hS.at λo e=>hm.heap S _ nw e))
 | succ k ih =>
  intro i s hk hi hst hS hR
  have hlt:i<items.length:=by omega
  refine codeAny_builtin PyProof.Rows.F.entry_set_update_loop ?_
  rw [Around.under_plainId PyProof.Rows.F.plain_set_update_loop _]
  show wpAny _ A.in1 (pyNext (.ref I) >>= λ_=>_) _ _ s
  refine wpAny_bind (W.item i s _ _ hlt hst λv s' hP hst' hm=>?_)
  obtain ⟨x,hx,rfl⟩:=hval i v hP
  obtain ⟨c1,c2,c3⟩:=hc x (List.mem_of_getElem? hx)
  have hS':VSet knd s'.heap S led (jn (items.take i)):=hS.at λo e=>hm.heap S _ nw e
  show wpAny _ A.in1 (holding [x.2] (setAdd S x.2) >>= λ_=>_) _ _ s'
  refine wpAny_bind (wpAny_holding ?_)
  unfold setAdd
  refine wpAny_holding (wpAny_bind (knd.pyHash c1 ?_))
  have ml:=oh _ (items.take i) rfl
  rw [List.length_take] at ml
  refine rM (s:={s' with toks:=s'.toks+1}) hS' c1 c2 c3 (by omega) λb h' hsb hS2=>?_
  have et:items.take (i+1)=items.take i++[x]:=by rw [List.take_add_one,hx];rfl
  have hS3:VSet knd h' S led (jn (items.take (i+1))):=by rw [et,i3];exact hS2
  have kp:∀c o,c≠S->s'.heap.get? c=some o->h'.get? c=some o:=λc o nc e=>(hsb.2 c nc).trans e
  refine wpAny_pure ⟨plainId_quiet PyProof.Rows.F.plain_set_update_loop _,ih (i+1) _ (by omega) hlt (W.frame _ s' _ _ hst' (Nat.le_add_right _ _) λc hc0 o e=>kp c o (λz=>hSf (z▸hc0)) e) hS3 λs'' hm'' hS''=>?_⟩
  exact hR s'' (Moved.trans W.gtrans ((hm.mono up).then_heap (Nat.le_add_right _ _) λc o hc0 e=>kp c o (λz=>hc0 (by rw [z];exact List.mem_cons_self)) e) hm'') hS''
theorem oE{h:Heap}{a:Addr}(P:Params)(e:h.get? a=some (dM P)):VSet knd h a (!P.followText "set-order") [] :=
 ⟨_,#[],0,_,e,⟨rfl,rfl,rfl⟩,rfl,qL 0 0 _,rfl,rfl,List.Perm.refl _,.nil,λ_ hx=>nomatch hx⟩
set_option maxHeartbeats 3200000 in
theorem ku{l:Addr}{vs:Array Value}{items:List (K×Value)}{Q:Value->Shared->Prop}(hh:A.handled=none)(hl:s.heap.IsList l vs)(hi:vs.toList=items.map λx=>x.2)(hb:items.length<=60)(hc:uV knd items)
  (q:∀(h':Heap) (tk:Nat),VSet knd h' s.heap.objs.size (!w.params.followText "set-order") (jn items)->(∀b o,b<s.heap.objs.size->s.heap.get? b=some o->h'.get? b=some o)->Q (.ref s.heap.objs.size) {s with heap:=h',toks:=tk}) :
  wpAny (model prog w) A (call (.type "set") [.ref l]) Q E s:=by
 obtain ⟨c,tl,hmro⟩:=PySem.F.called_set.mro
 have hmade:=PySem.F.called_set.made
 have hsub:=PySem.F.called_set.sub
 refine wpAny_call (codeAny_of_tree (show wpAny _ _ (callAny (.type "set") _) _ _ _ from ?_))
 refine wpAny_pure ⟨Code.quiet_builtin _ (by decide +kernel),codeAny_builtin PySem.F.entry_type_call ?_⟩
 rw [Around.under_plain (weight_type_call_type "set" [.ref l] []) rfl]
 have h1:=PySem.F.called_set.notType
 have h2:=PySem.F.called_set.canCreate
 have hct:=PySem.F.typeCall_set_1 (.ref l)
 repeat (any_goals (first | assumption | wp_step))
 refine codeAny_mono (vf (.ref l) (E:=E) (Q:=λobj s₁=>obj=.ref s.heap.objs.size/\s₁={s with heap:=s.heap.push (dM w.params)}) ⟨rfl,rfl⟩) λr s₁ hr=>?_
 cases r with
 | error e=>exact hr
 | ok fl =>
  cases fl with
  | ret obj =>
   obtain ⟨rfl,rfl⟩:=hr
   have eS:(s.heap.push (dM w.params)).get? s.heap.objs.size=some (dM w.params):=Heap.get?_push_size _ rfl
   have hT:Shared.TypeIs {s with heap:=s.heap.push (dM w.params)} (.ref s.heap.objs.size) "set":=⟨_,eS,rfl⟩
   have hli:=PySem.F.called_set.init.lookup
   have hbi:=PySem.F.called_set.init.bind (.ref s.heap.objs.size)
   repeat (any_goals (first | assumption | wp_step))
   refine codeAny_mono (codeAny_call_builtin (R:=wants (λr s₂=>r=.none/\∃h' tk,s₂={s with heap:=h',toks:=tk}/\VSet knd h' s.heap.objs.size (!w.params.followText "set-order") (jn items) /\
     (∀b o,b<s.heap.objs.size->s.heap.get? b=some o->h'.get? b=some o)) E) PySem.F.called_set.init.plain PySem.F.entry_set_init (check_set_init_1 hT ?_)) λr₂ s₂ hr₂=>?_
   ·obtain ⟨ol,e0,hcl,nl,hdl⟩:=hl
    obtain ⟨ocls,odict,odata,oslots⟩:=ol
    simp only at hcl hdl
    subst hcl;subst hdl
    have e1:(s.heap.push (dM w.params)).get? l=some {cls:=.type "list",dict:=odict,data:=.seq vs nl,slots:=oslots}:=Heap.get?_push_of_some _ e0
    have hsls:=PySem.F.sub_list_set
    have hslf:=PySem.F.sub_list_frozenset
    have nd:(Value.type "list"==Value.type "dict")=false:=by decide
    have l1:(s.heap.push (dM w.params)).IsList l vs:=⟨_,e1,rfl,nl,rfl⟩
    unfold Builtin.«set.__init__» noKeywords Builtin.Frozenset.updateFrom
    generalize hJ:pyIter=J0
    wp_walk
    subst hJ
    refine wpAny_pyIter_list l1 (wpAny_bind (wpAny_runValue ?_))
    have lS:l<s.heap.objs.size:=Heap.lt_size e0
    have h3:A.in1.in1.in1.handled=none:=by simp [hh]
    have eI:(s.heap.push (dM w.params)).objs.size=s.heap.objs.size+1:=Heap.size_push ..
    have nI:l≠(s.heap.push (dM w.params)).objs.size:=by rw [eI];exact Nat.ne_of_lt (Nat.lt_succ_of_lt lS)
    have nS:s.heap.objs.size∉[(s.heap.push (dM w.params)).objs.size,l]:=by
     rw [eI]
     simp only [List.mem_cons,List.not_mem_nil,or_false,not_or]
     exact ⟨Nat.ne_of_lt (Nat.lt_succ_self _),Nat.ne_of_gt lS⟩
    have sz:vs.size=items.length:=by rw [← Array.length_toList,hi,List.length_map]
    have W:=(Walks.list (prog:=prog) (w:=w) h3 _ l nI vs).toS
    rw [sz] at W
    refine qB (knd:=knd) (items:=items) W s.heap.objs.size nS (!w.params.followText "set-order") (λi v hv=>?_) hb hc items.length 0 _ (Nat.sub_zero _) (Nat.zero_le _)
     ⟨⟨_,Heap.get?_push_size _ rfl,rfl,rfl⟩,l1.push _⟩ (oE w.params (Heap.get?_push_of_some _ eS)) λs' hm hS'=>?_
    ·have hv':vs.toList[i]?=some v:=by rw [Array.getElem?_toList];exact hv
     rw [hi,List.getElem?_map] at hv'
     obtain ⟨x,ex,rfl⟩:=Option.map_eq_some_iff.mp hv'
     exact ⟨x,ex,rfl⟩
    ·obtain ⟨h',g',d',tk',os'⟩:=s'
     obtain rfl:g'=s.gens:=hm.gens
     obtain rfl:d'=s.drawn:=hm.drawn
     obtain rfl:os'=s.os:=hm.os
     show wpAny _ _ _ _ _ _
     refine wpAny_pure (show wpAny _ _ (ret Value.none) _ _ _ from wpAny_pure ⟨rfl,h',tk',rfl,hS',λb o hb0 e=>?_⟩)
     refine hm.heap b o ?_ (Heap.get?_push_of_some _ (Heap.get?_push_of_some _ e))
     rw [eI]
     simp only [List.mem_cons,List.not_mem_nil,or_false,not_or]
     exact ⟨Nat.ne_of_lt hb0,Nat.ne_of_lt (Nat.lt_succ_of_lt hb0)⟩
   ·cases r₂ with
    | error e=>exact hr₂
    | ok fl₂ =>
     cases fl₂ with
     | ret r =>
      obtain ⟨rfl,h',tk,rfl,hS',hk'⟩:=hr₂
      repeat (any_goals (first | assumption | wp_step))
      exact q _ _ hS' hk'
     | _=>exact hr₂.elim
  | _=>exact hr.elim
end
end Tb
namespace L2
open PySem PySem.Spec PyProof.Rows PySem.W Tb
section
variable {X:Cx}{pins:List (Addr×Obj)}{σ:St}{H:Hp}{s:Shared}
def wW(ns ns':List Int):Prop:=ns'.Perm ns/\ns'.Pairwise (·<=·)
theorem lT{vs:List Value}{ns:List Int}{Q:VK}{E:Value->Shared->Prop}(I:Inv X pins σ H s)(hI:IntsAre vs ns)(h64:vs.length<64)
  (q:∀l ns',H l=none->wW ns ns'->Q (.ref l) (upd H l (.lst (ns'.map V.int)))) :
  wpAny (model X.prog X.w) X.A.in1 (newList vs >>= λl=>holding [l] (call (.builtin "list.sort") [l] []) >>= λ_=>ret l) (λfin s'=>∃v,fin=.done (.ret v)/\EP X pins σ Q v s') E s:=by
 have zl:vs.length<=sizeLine:=by rw [sizeLine_eq];omega
 refine wpAny_bind (wpAny_newList ?_ zl)
 have oL:(s.heap.push (seqObj "list" vs.toArray 0)).get? s.heap.objs.size=some (seqObj "list" vs.toArray 0):=Heap.get?_push_size _ rfl
 have hnone:H s.heap.objs.size=none:=I.hok.fresh (Nat.le_refl _)
 refine wpAny_bind (wpAny_holding (wpAny_call_entry slot_list_sort ⟨_,oL,rfl⟩ entry_list_sort (list_sort_tree (s:={s with heap:=s.heap.push (seqObj "list" vs.toArray 0)}) oL hI h64 λout ns' a1 a2 a3=>⟨_,rfl,?_⟩) (args_list_sort _)))
 refine wpAny_pure ⟨_,rfl,?_⟩
 obtain ⟨e,he⟩:=sortedHeap_at (out:=out) oL
 have lv:vs.length=ns.length:=by have:=(gs hI).length;rw [List.length_map] at this;exact this.symm
 refine ⟨.ref s.heap.objs.size,_,I.laid (a:=s.heap.objs.size) (o:=.lst (ns'.map V.int)) (t':=s.toks) (λb o eb=>?_) (Nat.le_refl _) ?_,rfl,q _ ns' hnone ⟨a2,a3⟩⟩
 ·have lt:=Heap.lt_size eb
  rw [sortedHeap_old (Nat.ne_of_lt lt) (by rw [Heap.size_push];exact Nat.lt_succ_of_lt lt)]
  exact Heap.get?_push_of_some _ eb
 ·exact ⟨by rw [List.length_map,a2.length_eq,sizeLine_eq];omega,out.toList,e,gs a1,he⟩
end
def Fq(a:Addr)(o:Obj):HO:=.ext λh=>h.get? a=some o
def zu(P:Program)(w:World)(o:Obj)(xs:List (Int×Value)):Prop :=
 ∃es ep t,o.ExactSet/\o.data=.set es ep t/\SOk t es.toList/\t.led=!w.params.followText "set-order"/\t.plain=true/\es.toList.Perm (xs.map λx=>((intKind P w).hash x.1,x.2))/\(xs.map (·.1)).Nodup/\∀x∈xs,∃t,x.2=Value.int x.1 t
section
variable {X:Cx}
theorem lu(hc:X.calm=true):dq X (.type "set") (λxs H Q=>∃(p:Addr) (ns:List Int),xs=[.ref p]/\SqL X.K H p (ns.map V.int)/\ns.length<=60 /\
  ∀a o ys,H a=none->zu X.prog X.w o ys->(∀n,n∈ys.map (·.1)↔n∈ns)->Q (.ref a) (upd H a (Fq a o))):=by
 intro pins s σ H xs us Q I r h
 obtain ⟨p,ns,rfl,hq,h60,q⟩:=h
 obtain ⟨u,rfl,rx⟩:=cA r
 cases (show u=Value.ref p from rx)
 obtain ⟨its,rv,pl,hz⟩:=I.list hq
 obtain ⟨items,ei,en,hi⟩:∃items:List (Int×Value),its=items.map (·.2)/\ns=items.map (·.1)/\∀x∈items,∃t,x.2=Value.int x.1 t:=by
  clear pl hz hq q h60 r
  induction ns generalizing its with
  | nil=>cases rv;exact ⟨[],rfl,rfl,λx hx=>nomatch hx⟩
  | cons n ns ih =>
   cases rv with
   | cons r1 r2 =>
    obtain ⟨t,rfl⟩:=r1
    obtain ⟨items,e1,e2,h3⟩:=ih _ r2
    exact ⟨(n,.int n t)::items,by rw [e1];rfl,by rw [e2];rfl,λx hx=>(List.mem_cons.mp hx).elim (λz=>⟨t,by rw [z]⟩) (h3 x)⟩
 have hcm:uV (intKind X.prog X.w) items:=λx hx=>by
  obtain ⟨t,e⟩:=hi x hx
  rw [e]
  exact ⟨intKind_is _ _ _ _,rfl,rfl⟩
 refine ku (knd:=intKind X.prog X.w) (items:=items) (I.ok.hd hc) pl.isList ei (by rw [en,List.length_map] at h60;exact h60) hcm λh' tk hS hk=>?_
 obtain ⟨o,es,ep,t,ho,hex,hd,hk1,hl,hp,h1,h2,h3⟩:=hS
 have hn:H s.heap.objs.size=none:=I.hok.fresh (Nat.le_refl _)
 refine ⟨.ref s.heap.objs.size,_,I.laid (a:=s.heap.objs.size) (o:=Fq s.heap.objs.size o) (t':=tk) (λb ob e=>hk b ob (Heap.lt_size e) e) (Nat.le_refl _) ⟨ho,⟨_,ho⟩,λg1 g2 p k=>k _ p⟩,rfl,q _ o (jn items) hn ⟨es,ep,t,hex,hd,hk1,hl,hp,h1,h2,λx hx=>?_⟩ λn=>?_⟩
 ·exact Value.isInt_shape (h3 x hx).1
 ·rw [en]
  exact og _ items rfl n
theorem nF{α β:Type}(f:α->β):∀{xs:List α} {l:List β},l.Perm (xs.map f)->∃ys:List α,ys.Perm xs/\l=ys.map f
 | [],l,h=>⟨[],List.Perm.refl _,List.Perm.eq_nil h⟩
 | x::xs,l,h=>by
  have hm:f x∈l:=h.symm.mem_iff.mp List.mem_cons_self
  obtain ⟨s,t,rfl⟩:=List.append_of_mem hm
  have h2:(s++t).Perm (xs.map f):=List.Perm.cons_inv (List.perm_middle.symm.trans h)
  obtain ⟨ys,p,e⟩:=nF f h2
  have e1:(ys.take s.length).map f=s:=by rw [List.map_take,← e,List.take_left]
  have e2:(ys.drop s.length).map f=t:=by rw [List.map_drop,← e,List.drop_left]
  refine ⟨ys.take s.length++x::ys.drop s.length,?_,by rw [List.map_append,List.map_cons,e1,e2]⟩
  refine List.perm_middle.trans (List.Perm.cons x ?_)
  rw [List.take_append_drop]
  exact p
theorem gM(hc:X.calm=true):dq X (.builtin "sorted") (λxs H Q=>∃a o items,xs=[.ref a]/\H a=some (Fq a o)/\zu X.prog X.w o items/\items.length<64/\∀l ns',H l=none->wW (items.map (·.1)) ns'->Q (.ref l) (upd H l (.lst (ns'.map V.int)))):=by
 intro pins s σ H xs us Q I r h
 obtain ⟨a,o,items,rfl,ha,⟨es,ep,t,hex,hd,hk,hl,hp,pm,ndp,hv⟩,h64,q⟩:=h
 obtain ⟨u,rfl,rx⟩:=cA r
 cases (show u=Value.ref a from rx)
 obtain ⟨ho,_⟩:=(show ObjOk X.prog X.w H s.heap a (Fq a o) from I.hok a _ ha)
 have hsz:es.size=items.length:=by have:=pm.length_eq;rw [Array.length_toList,List.length_map] at this;exact this
 refine Calls.call_function_entry kind_sorted plain_sorted entry_sorted (args_sorted1 _) ?_
 unfold Builtin.«sorted»
 refine wpAny_bind (m:=checkCount "sorted" 1 1 _) (wpAny_pure (wpAny_bind (nq (A:=X.A.in1) (I.ok.hd hc) ⟨⟨o,ho,hex,hd⟩,hk,hl,hp⟩ (by rw [hsz,sizeLine_eq];omega) λh' tk k'=>?_)))
 obtain ⟨ys,p1,e1⟩:=nF (λx:Int×Value=>((intKind X.prog X.w).hash x.1,x.2)) ((kB X.w.params a ep es).trans pm)
 have e2:(dw X.w.params a ep es).toList.map (·.2)=ys.map (·.2):=by rw [e1,List.map_map];rfl
 rw [e2]
 have rv:Vals ((ys.map (·.1)).map V.int) (ys.map (·.2)):=by
  have hy:∀x∈ys,∃t,x.2=Value.int x.1 t:=λx hx=>hv x (p1.mem_iff.mp hx)
  clear e1 e2 p1
  induction ys with
  | nil=>exact .nil
  | cons y r ih=>exact .cons (hy y List.mem_cons_self) (ih λx hx=>hy x (List.mem_cons_of_mem _ hx))
 refine lT (I.kept (t':=tk) k') (pI rv) (by rw [List.length_map,p1.length_eq];exact h64) λl ns' hl2 hs=>q l ns' hl2 ⟨hs.1.trans (p1.map _),hs.2⟩
end
end L2
namespace St
open PySem PySem.Spec PyProof.Rows L2 Lo Km PySem.NumText
def tEx{ι:Type}(t:ι->TE):TE:=fun σ H Q=>∃i,t i σ H Q
theorem f6{X:Cx}{e:Expr}{ι:Type}{t:ι->TE}(h:∀i,PE X e (t i)):PE X e (tEx t):=λpins s σ H Q I q=>by
 obtain ⟨i,q⟩:=q
 exact h i pins s σ H Q I q
abbrev Stp:=Wd×List Int
def StsP(CW:Wd->Addr)(H:Hp)(xs:List Stp)(us:List V):Prop:=Paired (λ(x:Stp) v=>StO CW H x.1 x.2 v) xs us
theorem StsP.keep{CW:Wd->Addr}{H H':Hp}{xs:List Stp}{us:List V}(e:Same H H')(h:StsP CW H xs us):StsP CW H' xs us:=Paired.mapP h λ_ _ z=>z.keep e
def ArS(xs:List Stp):Prop:=∀x∈xs,Ar x.1 x.2
def sx(x:Stp):Str:=txt x.1 x.2
def pf(m:Str)(sl tp:Addr):List (Str×V):=al "parts" (.ref tp) (al "steps" (.ref sl) (al "manner" (.str m) []))
theorem sS(m:Str)(sl tp:Addr):(pf m sl tp).lookup ("parts":Str)=some (.ref tp):=bw
theorem zO(m:Str)(sl tp:Addr):(pf m sl tp).lookup ("manner":Str)=some (.str m):=by
 unfold pf
 rw [aV (by decide +kernel),aV (by decide +kernel),bw]
structure PaU(CP:Addr)(CW:Wd->Addr)(H:Hp)(m:Str)(xs:List Stp)(a dx sl tp:Addr)(us:List V):Prop where
 ins:H a=some (.ins CP dx (pf m sl tp))
 sl:H sl=some (.lst us)
 tp:H tp=some (.tup us)
 st:StsP CW H xs us
theorem PaU.keep{CP:Addr}{CW:Wd->Addr}{H H':Hp}{m:Str}{xs:List Stp}{a dx sl tp:Addr}{us:List V}(e:Same H H')(h:PaU CP CW H m xs a dx sl tp us):PaU CP CW H' m xs a dx sl tp us:=⟨e _ _ h.ins,e _ _ h.sl,e _ _ h.tp,h.st.keep e⟩
def PaO(CP:Addr)(CW:Wd->Addr)(H:Hp)(m:Str)(xs:List Stp)(v:V):Prop:=∃a dx sl tp us,v=.ref a/\PaU CP CW H m xs a dx sl tp us
structure TxP(K:PySem.W.Frag)(CP:Addr):Prop where
 cl:Cls K CP
 nm:NoAttr K CP "manner"
 ns:NoAttr K CP "steps"
 np:NoAttr K CP "parts"
def ptx(m:Str)(xs:List Stp):Str:=m++Str.ofString " "++Str.join (Str.ofString "; ") (xs.map sx)
theorem qC{x:Stp}(h:Ar x.1 x.2):(sx x).length<=1000:=by
 obtain ⟨wd,ns⟩:=x
 have e2:(txt wd ns).cps.toList=ca 32 ((wS wd::ns.map iS).map λy=>y.cps.toList):=by
  unfold txt
  rw [fM]
  exact b9 32 _
 have e3:(txt wd ns).length=(txt wd ns).cps.toList.length:=by simp [Str.length]
 have h1:=i7 32 ((wS wd::ns.map iS).map λy=>y.cps.toList)
 have h2:=iF (w:=wd) (ns:=ns) h
 have e4:((wS wd::ns.map iS).map λy=>y.cps.toList).map (·.length)=(wS wd::ns.map iS).map (·.length):=by
  rw [List.map_map]
  refine List.map_congr_left λy _=>?_
  simp [Str.length]
 have e5:(Str.ofString " ").length=1:=by decide +kernel
 rw [e4,List.length_map] at h1
 rw [e5,Nat.mul_one] at h2
 show (txt wd ns).length<=1000
 rw [e3,e2]
 omega
theorem oi(y:Str):∀ys:List Str,(Str.join y ys).length<=(ys.map (·.length)).sum+ys.length*y.length
 | []=>Nat.zero_le _
 | [x]=>by simp [Str.join]
 | a::u::ys=>by
  have ih:=oi y (u::ys)
  rw [join_cons_cons]
  have e:(a++y++Str.join y (u::ys)).length=a.length+y.length+(Str.join y (u::ys)).length:=by
   show ((a.cps++y.cps)++(Str.join y (u::ys)).cps).size=_
   rw [Array.size_append,Array.size_append]
   rfl
  rw [e,List.map_cons,List.sum_cons,List.length_cons (a:=a),Nat.succ_mul]
  omega
theorem zJ:Str.ofString "; "=⟨#[59,32]⟩:=by decide +kernel
theorem rT{xs:List Stp}(h:ArS xs):((xs.map sx).map (·.length)).sum<=xs.length*1000:=by
 have:=rV (ys:=xs.map sx) (k:=1000) λy hy=>by
  obtain ⟨x,hx,rfl⟩:=List.mem_map.mp hy
  exact qC (h x hx)
 rw [List.length_map] at this
 exact this
theorem jY{xs:List Stp}(h:ArS xs)(hl:xs.length<=20):(Str.join (Str.ofString "; ") (xs.map sx)).length<=30000:=by
 have h1:=oi (Str.ofString "; ") (xs.map sx)
 have h2:=rT h
 have e:(Str.ofString "; ").length=2:=by decide +kernel
 rw [e,List.length_map] at h1
 omega
theorem yI(x:Stp):59∉(sx x).cps.toList:=by
 obtain ⟨wd,ns⟩:=x
 have e2:(txt wd ns).cps.toList=ca 32 ((wS wd::ns.map iS).map λy=>y.cps.toList):=by
  unfold txt
  rw [fM]
  exact b9 32 _
 show 59∉(txt wd ns).cps.toList
 rw [e2]
 have key:∀ls:List (List Nat),(∀l∈ls,59∉l)->59∉ca 32 ls:=by
  intro ls
  induction ls with
  | nil=>intro _ h;cases h
  | cons a r ih =>
   intro h hm
   cases r with
   | nil=>exact h a List.mem_cons_self hm
   | cons b r =>
    rcases List.mem_append.mp (show 59∈a++32::ca 32 (b::r) from hm) with z | z
    ·exact h a List.mem_cons_self z
    ·rcases List.mem_cons.mp z with z | z
     ·cases z
     ·exact ih (λl hl=>h l (List.mem_cons_of_mem _ hl)) z
 refine key _ λl hl=>?_
 obtain ⟨y,hy,rfl⟩:=List.mem_map.mp hl
 rcases List.mem_cons.mp hy with rfl | hy
 ·cases wd<;>decide +kernel
 ·obtain ⟨i,_,rfl⟩:=List.mem_map.mp hy
  rw [om]
  intro z
  rcases ug z with z | z<;>omega
theorem qK{xs:List Stp}(h0:xs≠[]):Txt.split (Str.join (Str.ofString "; ") (xs.map sx)) (Str.ofString "; ")=xs.map sx:=by
 rw [zJ]
 rw [qJ (c:=59) (d:=32) (ps:=(xs.map sx).map λy=>y.cps.toList) (by decide) (by decide) (by decide) (gk 59 32 _) (by simp [h0]) λp hp=>by
  obtain ⟨y,hy,rfl⟩:=List.mem_map.mp hp
  obtain ⟨x,_,rfl⟩:=List.mem_map.mp hy
  exact yI x]
 rw [List.map_map]
 have e3:((λp:List Nat=>(⟨p.toArray⟩:Str))∘λy:Str=>y.cps.toList)=id:=by
  funext y
  obtain ⟨a⟩:=y
  simp
 rw [e3,List.map_id]
def mS(b:Bool):Str:=if b then "walked" else "held"
theorem za(b:Bool):32∉(mS b).cps.toList:=by cases b<;>decide +kernel
theorem xT(b:Bool):(mS b).length<=6:=by cases b<;>decide +kernel
theorem sY(b:Bool)(xs:List Stp):Txt.partition (ptx (mS b) xs) (Str.ofString " ")=(mS b,Str.ofString " ",Str.join (Str.ofString "; ") (xs.map sx)):=by
 rw [fM]
 have e:(ptx (mS b) xs).cps.toList=(mS b).cps.toList++32::(Str.join (Str.ofString "; ") (xs.map sx)).cps.toList:=by
  unfold ptx
  rw [fM]
  show (((mS b).cps++#[32])++(Str.join (Str.ofString "; ") (xs.map sx)).cps).toList=_
  rw [Array.toList_append,Array.toList_append]
  simp
 rw [vx e (za b)]
section
variable (CP:Addr)(CW:Wd->Addr)
def pY:Sp:=λvs H Q _=>∃l dx m q us,vs=[.ref l,.str m,.ref q]/\H l=some (.ins CP dx [])/\H q=some (.lst us)/\∀sl tp H',H' l=some (.ins CP dx (pf m sl tp))->H' sl=some (.lst us)->H' tp=some (.tup us)->H sl=none->H tp=none->Kp l H H'->Q .non H'
def lK:Sp:=λvs H Q _=>∃x k,vs=[.str (sx x),.int k]/\Ar x.1 x.2/\∀v H',Same H H'->StO CW H' x.1 x.2 v->Q v H'
def lL:Sp:=λvs H Q _=>∃b xs,vs=[.str (ptx (mS b) xs)]/\ArS xs/\xs≠[]/\xs.length<=12/\∀a dx sl tp us H',Same H H'->H sl=none->PaU CP CW H' (mS b) xs a dx sl tp us->Q (.ref a) H'
def hvI:V->Option Int
 | .int i=>some i
 | _=>none
def cQ(xs:List Stp):List Int:=xs.filterMap λx=>hvI (aL x.1 x.2)
def HsIs(xs:List Stp)(ns:List Int):Prop:=ns.Nodup/\ns.Pairwise (·<=·)/\∀n,n∈ns↔n∈cQ xs
theorem HsIs.one{xs:List Stp}{a b:List Int}(ha:HsIs xs a)(hb:HsIs xs b):a=b :=
 (((List.perm_ext_iff_of_nodup ha.1 hb.1).mpr λn=>(ha.2.2 n).trans (hb.2.2 n).symm).eq_of_pairwise (λ_ _ _ _ h1 h2=>Int.le_antisymm h1 h2) ha.2.1 hb.2.1)
def jE:Sp:=λvs H Q _=>∃v b xs,vs=[v]/\PaO CP CW H (mS b) xs v/\ArS xs/\xs.length<=20/\∀t ns H',Same H H'->H' t=some (.tup (ns.map V.int))->HsIs xs ns->Q (.ref t) H'
def aG(xs:List Stp):Nat:=xs.findIdx λx=>decide (x.1=.give)
def oM:Sp:=λvs H Q _=>∃v b xs,vs=[v]/\PaO CP CW H (mS b) xs v/\xs.length<=20/\Q (.int (aG xs:Nat)) H
end
end St
namespace L2
open PySem
abbrev rJ:=(Int×Int)×Int
variable {prog:Program}{w:World}{A:Around}{E:Value->Shared->Prop}{s:Shared}
def uh(k:rJ):Int:=reduceHash (Builtin.Tuple.tupleHashOf [reduceHash (Builtin.Tuple.tupleHashOf [hashInt k.1.1,hashInt k.1.2]),hashInt k.2])
end L2
namespace L2
open PySem PySem.Spec PyProof.Rows
def NKeyAt(H:Hp)(k:rJ)(b:Addr):Prop:=∃c,H b=some (.tup [.ref c,.int k.2])/\H c=some (.tup [.int k.1.1,.int k.1.2])
theorem NKeyAt.keep{H H':Hp}{k:rJ}{b:Addr}(e:bJ H H')(h:NKeyAt H k b):NKeyAt H' k b:=by
 obtain ⟨c,h1,h2⟩:=h
 exact ⟨c,e _ _ h1,e _ _ h2⟩
abbrev oC:=rJ×Addr×Addr
def zP(xs:List oC):List (rJ×Addr×Value):=xs.map λx=>(x.1,x.2.1,Value.ref x.2.2)
def xS(a:Addr)(xs:List oC)(h:Heap):Prop:=(a==sysModules)=false/\∃o es ep,h.get? a=some o/\o.ExactDict/\o.data=.dict es ep/\es.toList=(zP xs).map λx=>⟨uh x.1,.ref x.2.1,x.2.2⟩
def NDt(a:Addr)(xs:List oC):HO:=.ext (xS a xs)
def NOk(H:Hp)(xs:List oC):Prop:=(∀x∈xs,NKeyAt H x.1 x.2.1)/\(xs.map (·.1)).Nodup
theorem NOk.keep{H H':Hp}{xs:List oC}(e:bJ H H')(h:NOk H xs):NOk H' xs:=⟨λx hx=>(h.1 x hx).keep e,h.2⟩
section
variable {X:Cx}{pins:List (Addr×Obj)}{σ:St}{H:Hp}{s:Shared}{a b r:Addr}{xs:List oC}{k:rJ}{A:Around}{E:Value->Shared->Prop}
theorem vY{a:Addr}{xs:List oC}:∀h1 h2:Heap,xS a xs h1->(∀o,h1.get? a=some o->h2.get? a=some o)->xS a xs h2:=λh1 h2 q k=>by
 obtain ⟨h0,o,es,ep,e,r⟩:=q
 exact ⟨h0,o,es,ep,k _ e,r⟩
end
def xf:TE:=λ_ H Q=>∀p,H p=none->Q (.ref p) (upd H p (NDt p []))
section
variable {X:Cx}{o e f i value:Expr}{apos cpos pos pos':Pos}{td ty tx tv:TE}
theorem sV:PE X (.Dict [] [] pos) xf:=λpins s σ H Q I h =>
 wpAny_Dict_empty ⟨.ref s.heap.objs.size,_,I.laid (a:=s.heap.objs.size) (o:=NDt s.heap.objs.size []) (t':=s.toks) (λ_ _ q=>Heap.get?_push_of_some _ q) (Nat.le_refl _)
  ⟨⟨beq_eq_false_iff_ne.mpr (Ne.symm (Nat.ne_of_lt I.big)),_,#[],0,Heap.get?_push_size _ rfl,⟨rfl,rfl,rfl⟩,rfl,rfl⟩,⟨_,Heap.get?_push_size _ rfl⟩,vY⟩,rfl,h _ (I.hok.fresh (Nat.le_refl _))⟩
end
end L2
namespace Lo
open PySem L2
def ChAt(K:PySem.W.Frag)(H:Hp)(ch:List Pa)(v:V):Prop:=∃d us,v=.ref d/\SqU K H d us/\Paired (cPa.rp K H) ch us
theorem ChAt.keep{K:PySem.W.Frag}{H H':Hp}{ch:List Pa}{v:V}(e:bJ H H')(h:ChAt K H ch v):ChAt K H' ch v:=by
 obtain ⟨d,us,rfl,h1,h2⟩:=h
 exact ⟨d,us,rfl,h1.keep e,pp h2 λ_ _ z=>cPa.keep e z⟩
inductive Rw where
 | beg (p:Pa) (t:Str) | work (p:Pa) | ready (p:Pa) (ch:List Pa) | fin (p:Pa) (o:Str) | over (p:Pa)
 | walk (p:Pa) (i:Int) (ch:List Pa) | undo (p:Pa) (i:Int) (ch:List Pa) | void (p:Pa) (i:Int)
def Rw.nm:Rw->Pa
 | .beg p _=>p
 | .work p=>p
 | .ready p _=>p
 | .fin p _=>p
 | .over p=>p
 | .walk p _ _=>p
 | .undo p _ _=>p
 | .void p _=>p
def Rw.wd:Rw->Str
 | .beg _ _=>"begin"
 | .work _=>"work"
 | .ready _ _=>"ready"
 | .fin _ _=>"end"
 | .over _=>"over"
 | .walk _ _ _=>"walked"
 | .undo _ _ _=>"undone"
 | .void _ _=>"void"
def Rw.more(K:PySem.W.Frag)(H:Hp):Rw->List V->Prop
 | .beg _ t,us=>us=[.str t]
 | .work _,us=>us=[]
 | .ready _ ch,us=>∃a b d,us=[a,b,d]/\ChAt K H ch d
 | .fin _ o,us=>∃a,us=[.str o,a]
 | .over _,us=>us=[]
 | .walk _ i ch,us=>∃c h,us=[.int i,c,h]/\ChAt K H ch c
 | .undo _ i ch,us=>∃c,us=[.int i,c]/\ChAt K H ch c
 | .void _ i,us=>us=[.int i]
def RwAt(K:PySem.W.Frag)(H:Hp)(w:Rw)(r:Addr):Prop:=∃pv us,H r=some (.tup (.str w.wd::pv::us))/\sPa K H w.nm pv/\w.more K H us
theorem RwAt.keep{K:PySem.W.Frag}{H H':Hp}{w:Rw}{r:Addr}(e:bJ H H')(h:RwAt K H w r):RwAt K H' w r:=by
 obtain ⟨pv,us,h1,h2,h3⟩:=h
 refine ⟨pv,us,e _ _ h1,h2.keep e,?_⟩
 cases w with
 | beg p t=>exact h3
 | work p=>exact h3
 | ready p ch=>obtain ⟨a,b,d,e1,e2⟩:=h3;exact ⟨a,b,d,e1,e2.keep e⟩
 | fin p o=>exact h3
 | over p=>exact h3
 | walk p i ch=>obtain ⟨a,b,e1,e2⟩:=h3;exact ⟨a,b,e1,e2.keep e⟩
 | undo p i ch=>obtain ⟨a,e1,e2⟩:=h3;exact ⟨a,e1,e2.keep e⟩
 | void p i=>exact h3
structure Sd where
 cells:List Int
 begins:List (Pa×Str)
 worked:List Pa
 ready:List (Pa×Addr×List Pa)
 ends:List (Pa×Str)
 walks:List oC
 overs:List Pa
def Sd.new(cs:List Int):Sd:=⟨cs,[],[],[],[],[],[]⟩
def dW(ps:List Pa):List (List Key×V):=ps.map λp=>(pk p,V.bl true)
def dR(rs:List (Pa×Addr×List Pa)):List (List Key×V):=rs.map λx=>(pk x.1,V.ref x.2.1)
def dE(es:List (Pa×Str)):List (List Key×V):=es.map λx=>(pk x.1,V.str x.2)
structure Ad where
 (l dx cl bg wk rd en wa ov:Addr)
def Ad.own(A:Ad):List Addr:=[A.cl,A.bg,A.wk,A.rd,A.en,A.wa,A.ov]
def sf(A:Ad):List (Str×V):=al "overs" (.ref A.ov) (al "walks" (.ref A.wa) (al "ends" (.ref A.en) (al "readies" (.ref A.rd) (al "worked" (.ref A.wk) (al "begins" (.ref A.bg) (al "cells" (.ref A.cl) []))))))
theorem yO(A:Ad):(sf A).lookup ("ends":Str)=some (.ref A.en):=by
 unfold sf
 rw [av,if_neg (by decide +kernel),av,if_neg (by decide +kernel),av,if_pos rfl]
theorem yN{A:Ad}{m:Str}(h:decide (m∈(["overs","walks","ends","readies","worked","begins","cells"]:List Str))=false):(sf A).lookup m=none:=by
 have h':m∉(["overs","walks","ends","readies","worked","begins","cells"]:List Str):=of_decide_eq_false h
 simp only [List.mem_cons,List.not_mem_nil,or_false,not_or] at h'
 obtain ⟨h1,h2,h3,h4,h5,h6,h7⟩:=h'
 unfold sf
 rw [av,if_neg h1,av,if_neg h2,av,if_neg h3,av,if_neg h4,av,if_neg h5,av,if_neg h6,av,if_neg h7]
 rfl
def sPB(_:PySem.W.Frag)(H:Hp)(x:Pa×Str)(v:V):Prop:=∃a b,v=.ref a/\H a=some (.tup [.ref b,.str x.2])/\H b=some (.tup [.int x.1.1,.int x.1.2])
theorem sPB.keep{K:PySem.W.Frag}{H H':Hp}{x:Pa×Str}{v:V}(e:bJ H H')(h:sPB K H x v):sPB K H' x v:=by
 obtain ⟨a,b,rfl,h1,h2⟩:=h
 exact ⟨a,b,rfl,e _ _ h1,e _ _ h2⟩
def lj(A:Ad)(us:List V)(d:Sd):List (Addr×HO):=[(A.cl,.lst (d.cells.map V.int)),(A.bg,.lst us),(A.wk,.dT (dW d.worked)),(A.rd,.dT (dR d.ready)),(A.en,.dT (dE d.ends)),(A.wa,NDt A.wa d.walks),(A.ov,.dT (dW d.overs))]
structure StU(CS:Addr)(K:PySem.W.Frag)(H:Hp)(A:Ad)(d:Sd)(us:List V):Prop where
 ins:H A.l=some (.ins CS A.dx (sf A))
 co:∀x∈lj A us d,H x.1=some x.2
 bg:Paired (sPB K H) d.begins us
 rd:∀x∈d.ready,RwAt K H (.ready x.1 x.2.2) x.2.1
 wa:NOk H d.walks
 nd:A.own.Nodup
def St(CS:Addr)(K:PySem.W.Frag)(H:Hp)(A:Ad)(d:Sd):Prop:=∃us,StU CS K H A d us
section
variable {CS:Addr}{K:PySem.W.Frag}{H H':Hp}{A:Ad}{d:Sd}{us:List V}
theorem StU.en(h:StU CS K H A d us):H A.en=some (.dT (dE d.ends)):=h.co (A.en,_) (by simp [lj])
theorem StU.own(h:StU CS K H A d us){b:Addr}(hb:b∈A.own):∃o,H b=some o/\(∀xs,o≠.tup xs)/\(∀C dx fs,o≠.ins C dx fs):=by
 have hb':b∈(lj A us d).map (·.1):=hb
 obtain ⟨x,hx,rfl⟩:=List.mem_map.mp hb'
 refine ⟨_,h.co x hx,λxs=>?_,λC dx fs=>?_⟩
 ·simp only [lj,List.mem_cons,List.not_mem_nil,or_false] at hx
  rcases hx with e | e | e | e | e | e | e<;>subst e<;>exact λz=>nomatch z
 ·simp only [lj,List.mem_cons,List.not_mem_nil,or_false] at hx
  rcases hx with e | e | e | e | e | e | e<;>subst e<;>exact λz=>nomatch z
theorem StU.keep(h:StU CS K H A d us)(e:Same H H'):StU CS K H' A d us :=
 ⟨e _ _ h.ins,λx hx=>e _ _ (h.co x hx),pp h.bg λ_ _ z=>z.keep e.ts,λx hx=>(h.rd x hx).keep e.ts,h.wa.keep e.ts,h.nd⟩
theorem St.keep(h:St CS K H A d)(e:Same H H'):St CS K H' A d:=let ⟨us,q⟩:=h;⟨us,q.keep e⟩
theorem St.ins(h:St CS K H A d):H A.l=some (.ins CS A.dx (sf A)):=let ⟨_,q⟩:=h;q.ins
end
structure TxD(K:PySem.W.Frag)(CS:Addr):Prop where
 cl:Cls K CS
 nc:NoAttr K CS "cells"
 nb:NoAttr K CS "begins"
 nw:NoAttr K CS "worked"
 nr:NoAttr K CS "readies"
 ne:NoAttr K CS "ends"
 na:NoAttr K CS "walks"
 no:NoAttr K CS "overs"
section
variable (CS:Addr)(K:PySem.W.Frag)
def pX:Sp:=λvs H Q _=>∃l dx c cs,vs=[.ref l,.ref c]/\H l=some (.ins CS dx [])/\H c=some (.lst ((cs:List Int).map V.int))/\cs.length<=1000 /\
 ∀A H',A.l=l->St CS K H' A (Sd.new cs)->(∀b∈A.own,H b=none)->Kp l H H'->Q .non H'
end
theorem St.kp{CS q:Addr}{K:PySem.W.Frag}{H H':Hp}{A:Ad}{d:Sd}(h:St CS K H A d)(k:Kp q H H')(n:q∉A.own)(t:bJ H H')(nl:A.l≠q):St CS K H' A d:=by
 obtain ⟨us,h⟩:=h
 refine ⟨us,k _ _ nl h.ins,λx hx=>k _ _ (λz=>n ?_) (h.co x hx),pp h.bg λ_ _ z=>z.keep t,λx hx=>(h.rd x hx).keep t,h.wa.keep t,h.nd⟩
 rw [← z]
 exact List.mem_map.mpr ⟨x,hx,rfl⟩
def Scr(K:PySem.W.Frag)(H:Hp)(a:Addr)(xs:List V)(N:List Addr):Prop:=(∀H',SqL K H' a xs)\/∃o,H a=some o/\a∉N/\∀H',H' a=some o->SqL K H' a xs
section
variable {K:PySem.W.Frag}{H H':Hp}{a q:Addr}{xs:List V}{N:List Addr}
theorem Scr.seq(h:Scr K H a xs N):SqL K H a xs:=h.elim (λz=>z H) λ⟨_,e,_,z⟩=>z H e
theorem Scr.mk(h:SqL K H a xs)(hN:∀b∈N,H b=none):Scr K H a xs N:=by
 rcases h with (h | ⟨o,h⟩) | h
 ·exact .inr ⟨_,h,(λz=>by rw [hN a z] at h;cases h),λH' e=>.inl (.inl e)⟩
 ·exact .inr ⟨_,h,(λz=>by rw [hN a z] at h;cases h),λH' e=>.inl (.inr ⟨o,e⟩)⟩
 ·exact .inl λH'=>.inr h
theorem Scr.kp(h:Scr K H a xs N)(k:∀b o,b∉N->H b=some o->H' b=some o):Scr K H' a xs N:=h.elim .inl λ⟨o,e,n,z⟩=>.inr ⟨o,k _ _ n e,n,z⟩
theorem Scr.same(h:Scr K H a xs N)(e:Same H H'):Scr K H' a xs N:=h.kp λb o _ z=>e b o z
theorem Scr.add(h:Scr K H a xs N)(hq:H q=none):Scr K H a xs (q::N):=h.elim .inl λ⟨o,e,n,z⟩=>.inr ⟨o,e,λw=>(List.mem_cons.mp w).elim (λw=>ah e hq w) n,z⟩
end
theorem cR{f:Str}{v:V}{fs:List (Str×V)}{n:Nat}(h:fs.length<n):(al f v fs).length<n+1:=by
 have:=cy f v fs
 omega
theorem cn{H:Hp}{l p dx C:Addr}{fs fs':List (Str×V)}{o:HO}(hl:H l=some (.ins C dx fs))(hp:H p=none) :
  (upd H p o) l=some (.ins C dx fs)/\(upd (upd H p o) l (.ins C dx fs')) l=some (.ins C dx fs')/\(upd (upd H p o) l (.ins C dx fs')) p=some o/\Kp l H (upd (upd H p o) l (.ins C dx fs')):=by
 have n:l≠p:=ah hl hp
 exact ⟨by rw [ay n];exact hl,ae,by rw [ay (Ne.symm n),ae],λb u hb e=>by rw [ay hb,ay (ah e hp)];exact e⟩
theorem cw{H H':Hp}{l b:Addr}{o:HO}(k:Kp l H H')(hl:H' l=some o)(hb:H' b=none):H b=none:=by
 cases e:H b with
 | none=>rfl
 | some u =>
  have n:b≠l:=λz=>by rw [z,hl] at hb;cases hb
  rw [k b u n e] at hb
  cases hb
theorem v7{k:Nat}{A:Around}(hr:Room k A):A.units+1<cLine:=hun (c:=0) hr
theorem at0{x:V}{us:List V}:atI (x::us) (0:Int)=some x:=bv (j:=0) rfl
theorem at1{x y:V}{us:List V}:atI (x::y::us) (1:Int)=some y:=bv (j:=1) rfl
end Lo
namespace L2
open PySem PySem.Spec PyProof.Rows
set_option maxHeartbeats 1600000 in
theorem nD{X:Cx}{iy:Nat}{y:Str}{py spos:Pos}{elt iter:Expr}{x:Str}{px:Pos}{ifs:List Expr}{scope:Scope}{pos:Pos}{N':List Str}{fv:List Nat}{wi:TI}{tt:TT}{te:TE}
  (S:bc X.N X.env.scope scope x N' fv)(hc:X.calm=true)(hi:PI X (.Name x px) iter wi)
  (ht:∀C fp s H,PTs (X.blk N' scope C fp s H) ifs tt)(he:∀C fp s H,PE (X.blk N' scope C fp s H) elt te)
  (hN:X.N.Nodup)(hiy:X.N[iy]?=some y)(hxl:Loc X.env.scope y)(hsw:swapsWith (.ListComp elt [⟨.Name x px,iter,ifs,0⟩] scope pos) (some (.Name y py)) spos.line X.env=pure true:=by rfl)
  (hs:∀x,foldedSetIterable iter X.env x=pure x:=by intro _;rfl)(hf:X.fn y=true\/X.env.scope.names.lookup y=some .local:=by first | exact .inl rfl | exact .inr rfl | assumption) :
  PS X (.Assign [.Name y py] (.ListComp elt [⟨.Name x px,iter,ifs,0⟩] scope pos) spos) (yF (tLC wi fv tt te) (jg iy)):=by
 intro pins s σ H DE I h
 rw [exec_Assign_Name_used _ _ _ _ hsw]
 refine wpAny_bind (wpAny_standAt (wpAny_bind ?_))
 show wpAny _ X.A (do let _ ← comprehension (.ListComp elt [⟨.Name x px,iter,ifs,0⟩] scope pos) scope X.env _ (newList []) false (eval iter X.env) (some (assign (.Name y py) X.env))) _ _ s
 refine wpAny_bind (wpAny_mono (wpAny_comprehension_free (use:=some (assign (.Name y py) X.env)) (Q:=λ_ s'=>SP X pins DE .next s') rfl hs (fD λy hy hk=>I.ok.has y.1 (S.free y hy hk)) S.kind S.names
  (wpAny_mono (hi pins s σ H _ I h) (λxv s1 h1=>wpAny_mono h1 (λitv s2 h2=>?_) λ_ _ e=>e) λ_ _ e=>e)) (λ_ s' hq=>wpAny_pure (wpAny_pure hq)) λ_ _ e=>e)
 obtain ⟨it,fp,tn,J,H2,rfl,I2,T,st2,f2,W,n,w0,hn,turn⟩:=h2
 refine wpAny_newObj_type (wpAny_newFunctionEnv S.nocell (by intro y hy;simp at hy) (λh1 hns hsb=>?_) S.kind)
 dsimp only at hns hsb ⊢
 generalize hH:s2.heap.push {cls:=.type "list",dict:=none,data:=.seq ([]:List Value).toArray}=G at hns hsb ⊢
 have hG:G.objs.size=s2.heap.objs.size+1:=by rw [← hH,Heap.size_push]
 have kpG:∀b o,s2.heap.get? b=some o->G.get? b=some o:=λb o e=>hH▸Heap.get?_push_of_some _ e
 have kp1:∀b o,b<G.objs.size->G.get? b=some o->h1.get? b=some o:=λb o lt e=>hsb.extBut b o (Nat.ne_of_lt lt) (Heap.get?_push_of_some _ e)
 have kp:∀b o,s2.heap.get? b=some o->h1.get? b=some o:=λb o e=>kp1 b o (by rw [hG];exact Nat.lt_succ_of_lt (Heap.lt_size e)) (kpG b o e)
 have hD:h1.PlainList s2.heap.objs.size #[]:=⟨_,kp1 _ _ (by rw [hG];exact Nat.lt_succ_self _) (hH▸Heap.get?_push_size _ rfl)⟩
 have hDC:s2.heap.objs.size≠G.objs.size:=by rw [hG];exact Nat.ne_of_lt (Nat.lt_succ_self _)
 have hC:s2.heap.objs.size<=G.objs.size:=by rw [hG];exact Nat.le_succ _
 have hfo:∀b∈fp,b<s2.heap.objs.size:=λb hb=>by obtain ⟨o,e,_⟩:=T.obj 0 _ st2 b hb;exact Heap.lt_size e
 have stat:∀{H':Hp} {pl:List (Addr×Obj)},(∀b∈fp,H' b=none)->(∀p∈pl,p.1∉fp)->∀b∈fp,mH (X.blk N' scope G.objs.size fp s2 H2) pl H' b:=λ{H' pl} hn hpl b hb=>by
  obtain ⟨_,g1,g2,g3,g4,g5⟩:=f2 b hb
  refine ⟨hn b hb,Nat.ne_of_lt (Nat.lt_of_lt_of_le (hfo b hb) hC),λz=>?_,.inl hb,λy c e=>g4 y c (bF e),λp hp e=>?_⟩
  ·rcases List.mem_cons.mp (I2.stkSub b z) with q | q
   ·exact g1 q
   ·exact g2 q
  ·exact hpl p hp (e▸hb)
 have hDf:s2.heap.objs.size∉fp:=λz=>absurd (hfo _ z) (Nat.lt_irrefl _)
 have hlc:(X.blk N' scope G.objs.size fp s2 H2).env.scope.names.lookup x=some .local:=lookup_relabel_local S.loc
 have hcl:∀y c,(X.blk N' scope G.objs.size fp s2 H2).env.cells.lookup y=some c->c≠s2.heap.objs.size:=λy c e z=>by
  obtain ⟨v,q⟩:=I2.cell y c (bF e)
  exact absurd q.lt (by rw [z];exact Nat.lt_irrefl _)
 have pin1:∀{s':Shared} {H':Hp} {ob:Obj} {i:Nat} {ys:List V},Inv (X.blk N' scope G.objs.size fp s2 H2) [] (none::aW fv σ) H' s'->s'.heap.get? s2.heap.objs.size=some ob->(∀v,ob.data≠.cell v)->H' s2.heap.objs.size=none ->
   Inv (X.blk N' scope G.objs.size fp s2 H2) [(s2.heap.objs.size,ob)] (none::aW fv σ) H' s':=λ{s' H' ob i ys} J1 e d f=>J1.pins_of λp hp=>by
  have z:p=(s2.heap.objs.size,ob):=by simpa using hp
  subst z
  refine ⟨e,f,hDC,λz=>?_,d⟩
  rcases List.mem_cons.mp (I2.stkSub _ z) with q | q
  ·exact absurd I2.lt (by rw [← q];exact Nat.lt_irrefl _)
  ·exact I2.nofs (Nat.le_refl _) q
 have loop:∀s3:Shared,s3={s2 with heap:=h1,toks:=s2.toks+([]:List (Str×Value)).length} ->
   codeAny (model X.prog X.w) X.A (.compLoop (.ListComp elt [⟨.Name x px,iter,ifs,0⟩] scope pos) 0 (.ref it) (.ref s2.heap.objs.size) (X.blk N' scope G.objs.size fp s2 H2).env)
    (compPost (model X.prog X.w) X.A X.xe (some (assign (.Name y py) X.env)) (λ_ s'=>SP X pins DE .next s') (.ref s2.heap.objs.size) G.objs.size) s3:=by
  rintro s3 rfl
  refine codeAny_compLoop_tests (λk s'=>∃i ys H' its,k=n+1-i/\i<=n/\ys.length<=i/\Vals ys its/\s'.heap.PlainList s2.heap.objs.size its.toArray /\
   Inv (X.blk N' scope G.objs.size fp s2 H2) [] (none::aW fv σ) H' s'/\H' s2.heap.objs.size=none/\tn i s'.heap/\(∀b∈fp,H' b=none)/\W i ys H') ?_ (n+1)
   ⟨0,[],H2,[],rfl,Nat.zero_le _,Nat.le_refl _,.nil,hD,qw S I2 f2 hfo hC kp hns (λp hp=>nomatch hp),I2.hok.fresh (Nat.le_refl _),T.keep _ _ _ st2 λb _ o e=>kp b o e,λb hb=>(f2 b hb).1,w0⟩
  rintro k s4 ⟨i,ys,H4,its,rfl,hin,hyi,rv,pl4,I4,fD4,st4,ff4,w4⟩
  obtain ⟨cnt,eD⟩:=id pl4
  have I4p:=pin1 (i:=i) (ys:=ys) I4 eD (λv z=>by cases z) fD4
  have np:∀p∈[(s2.heap.objs.size,({cls:=.type "list",data:=.seq its.toArray cnt}:Obj))],p.1∉fp:=λp hp=>by
   have z:p=(s2.heap.objs.size,({cls:=.type "list",data:=.seq its.toArray cnt}:Obj)):=by simpa using hp
   subst z;exact hDf
  rcases turn i ys H4 w4 with ⟨stop,fin⟩ | ⟨go,hi2,step⟩
  ·refine wpAny_mono (T.done (X.blk N' scope G.objs.size fp s2 H2) rfl rfl rfl hc i _ s4 _ H4 _ I4p (stat ff4 np) st4 stop) (λr s5 ⟨hr,I5⟩=>?_) λ_ _ e=>e
   subst hr
   obtain ⟨m5,hm5,_⟩:=I5.loc
   have eD5:s5.heap.get? s2.heap.objs.size=some {cls:=.type "list",data:=.seq its.toArray cnt}:=(I5.pin _ (List.mem_append_right _ List.mem_cons_self)).1
   have IF:Inv X pins σ (upd H4 s2.heap.objs.size (.lst ys)) s5:=by
    have sb:Heap.SameBut G.objs.size s5.heap s5.heap:=⟨rfl,λ_ _=>rfl⟩
    have ltC:∀{b:Addr} {o:Obj},s2.heap.get? b=some o->b≠G.objs.size:=λ{b o} e=>Nat.ne_of_lt (Nat.lt_of_lt_of_le (Heap.lt_size e) hC)
    have fD2:H2 s2.heap.objs.size=none:=I2.hok.fresh (Nat.le_refl _)
    have ltD:∀{b:Addr} {o:Obj},s2.heap.get? b=some o->b≠s2.heap.objs.size:=λ{b o} e=>Nat.ne_of_lt (Heap.lt_size e)
    have B:=I5.base
    refine I2.call' (s':=s5) (ch:=fp) I5.os ⟨λb o e nb hb hx=>?_,λb o e nb hb hx=>?_,λb o e nb hx=>?_,λb o e hx=>?_,λb xs e=>?_,λb o u e=>?_,λb ps e=>?_⟩ ?_ I5.bare λb hb=>?_
    ·exact sb.extBut b o (ltC e) (B.keep b o e nb hb hx)
    ·obtain ⟨sl,q⟩:=B.slot b o e nb hb hx
     exact ⟨sl,sb.extBut b _ (ltC e) q⟩
    ·rw [ay (ltD e)];exact B.free b o e nb hx
    ·obtain ⟨o',q⟩:=B.there b o e hx
     exact ⟨o',sb.extBut b o' (ltC e) q⟩
    ·have e':H2 b=some (.tup xs):=e
     rw [ay (ah e' fD2)];exact B.tups b xs e
    ·have e':H2 b=some (.frz o u):=e
     rw [ay (ah e' fD2)];exact B.frzs b o u e
    ·have e':H2 b=some (.tbl ps):=e
     rw [ay (ah e' fD2)];exact B.tbls b ps e
    ·intro b u e
     by_cases hb:b=s2.heap.objs.size
     ·subst hb
      rw [ae] at e
      cases e
      exact ⟨Nat.le_trans hyi (Nat.le_trans hin hn),its,cnt,rv,sb.extBut _ _ hDC eD5⟩
     ·rw [ay hb] at e
      have fC:H4 G.objs.size=none:=I5.free
      refine (I5.hok b u e).stay (λc v hc' q=>sb.extBut c v ?_ q) (λc q=>by rw [ay (ah q fD4)];exact q) λc xs q=>by rw [ay (ah q fD4)];exact q
      rcases hc' with z | z
      ·subst z;exact ah e fC
      ·exact ah z fC
    ·obtain ⟨_,g1,g2,g3,g4,g5⟩:=f2 b hb
     exact ⟨g3,g1,g4,g5⟩
   obtain ⟨f0,f1,f2',f3,f4,f5⟩:=I2.fpOk (H':=H2) hC (I2.hok.fresh hC)
   show wpAny _ _ (assign (.Name y py) X.env (.ref s2.heap.objs.size)) _ _ s5
   refine wpAny_assign_Name (kH IF hN hiy hxl (v:=.ref s2.heap.objs.size) rfl (λs6 I6 ⟨a6,sb6,ha6⟩=>?_) hf)
   have nC:G.objs.size≠a6:=λz=>by
    rcases ha6 with e | e
    ·exact f1 (z.trans e)
    ·exact f4 _ _ e z.symm
   have fC:(upd H4 s2.heap.objs.size (.lst ys)) G.objs.size=none:=by
    rw [ay (Ne.symm hDC)]
    exact I5.free
   exact ⟨m5,hm5.sameBut sb6 nC,λh' sb'=>⟨_,_,I6.turned (t':=s6.toks) (it:=G.objs.size) (λb o hb e=>(sb'.2 b hb).trans e) fC f1 f3 f4 f5,fin _ fD4⟩⟩
  ·refine wpAny_mono (T.item (X.blk N' scope G.objs.size fp s2 H2) rfl rfl rfl hc i _ s4 _ H4 _ I4p (stat ff4 np) st4 go) (λr s5 ⟨u,hr,h5⟩=>?_) λ_ _ e=>e
   subst hr
   show wpAny _ _ (letOwnedTupleGo (.Name x px) (.ref it) u >>= λ_=>assign (.Name x px) (X.blk N' scope G.objs.size fp s2 H2).env u) _ _ s5
   refine wpAny_bind (wpAny_mono h5 (λ_ s6 ⟨xv,H6,I6,r6,y6,st6,ff6⟩=>?_) λ_ _ e=>e)
   have I6':=I6.pinned (stat ff6 np) (T.obj _ _ st6)
   have out:∀{σ':St} {H':Hp} {s':Shared},Inv (X.blk N' scope G.objs.size fp s2 H2) ([(s2.heap.objs.size,({cls:=.type "list",data:=.seq its.toArray cnt}:Obj))]++iX fp s6.heap) σ' H' s' ->
     s'.heap.PlainList s2.heap.objs.size its.toArray/\H' s2.heap.objs.size=none/\(∀b∈fp,H' b=none)/\(∀b∈fp,∀o,s6.heap.get? b=some o->s'.heap.get? b=some o):=λ{σ' H' s'} J1=>by
    have q:=J1.pin (s2.heap.objs.size,({cls:=.type "list",data:=.seq its.toArray cnt}:Obj)) (List.mem_append_right _ (List.mem_append_left _ List.mem_cons_self))
    refine ⟨⟨cnt,q.1⟩,q.2.1,λb hb=>?_,λb hb o e=>(J1.pin (b,o) (List.mem_append_right _ (List.mem_append_right _ (cK hb e)))).1⟩
    obtain ⟨o,e,d⟩:=T.obj _ _ st6 b hb
    exact (J1.pin (b,o) (List.mem_append_right _ (List.mem_append_right _ (cK hb e)))).2.1
   refine nox ((fg (X:=X.blk N' scope G.objs.size fp s2 H2) (i:=0) S.nd S.hd (.inl hlc) (.inr hlc)) _ s6 _ H6 xv u (fun σ' H'=>σ'=some xv::aW fv σ/\H'=H6) I6' r6 ⟨rfl,rfl⟩) λ_ s7 ⟨σ7,H7,I7,e7,e7'⟩=>?_
   subst e7 e7'
   refine nox (ht _ _ _ _ _ s7 _ H7 _ I7 (step xv H7 y6)) λok s8 ⟨H8,I8,q8⟩=>?_
   cases ok with
   | false =>
    obtain ⟨o1,o2,o3,o4⟩:=out I8
    exact ⟨n+1-(i+1),by omega,i+1,ys,H8,its,rfl,hi2,Nat.le_succ_of_le hyi,rv,o1,(I8.pins_of (pins':=[]) λp hp=>nomatch hp).weak (σ':=none::aW fv σ) rfl (λj v e=>by
     cases j with
     | zero=>cases (show (none:Option V)=some v from Option.some.inj e)
     | succ j=>exact e),o2,T.keep _ _ _ st6 o4,o3,q8⟩
   | true =>
    refine nox (he _ _ _ _ _ s8 _ H8 _ I8 q8) λyv s9 ⟨y,H9,I9,r9,q9⟩=>?_
    obtain ⟨o1,o2,o3,o4⟩:=out I9
    have hlen:=rv.length
    refine wpAny_list_append_plain (hsz:=by rw [List.size_toArray,← hlen];exact Nat.le_trans hyi (Nat.le_trans hin hn)) o1 λh' pl' sb'=>?_
    have I9':Inv (X.blk N' scope G.objs.size fp s2 H2) [] (some xv::aW fv σ) H9 {s9 with heap:=h'} :=
     (I9.pins_of (pins':=[]) λp hp=>nomatch hp).turned (t':=s9.toks) (it:=s2.heap.objs.size) (λb o hb e=>sb'.extBut b o hb e) o2 hDC (.inr (Nat.le_refl _)) hcl (λp hp=>nomatch hp)
    refine ⟨n+1-(i+1),by omega,i+1,ys++[y],H9,its++[yv],rfl,hi2,by rw [List.length_append];exact Nat.succ_le_succ hyi,rv.append (.cons r9 .nil),?_,I9'.weak (σ':=none::aW fv σ) rfl (λj v e=>by
     cases j with
     | zero=>cases (show (none:Option V)=some v from Option.some.inj e)
     | succ j=>exact e),o2,T.keep _ _ _ st6 λb hb o e=>sb'.extBut b o (λz=>hDf (z▸hb)) (o4 b hb o e),o3,q9⟩
    have e9:(its++[yv]).toArray=its.toArray.push yv:=by simp
    rw [e9]
    exact pl'
 exact codeAny_compStart_list (loop _ rfl) (T.self _ 0 _ _ _ (T.keep _ _ _ st2 λb _ o e=>kp b o e) (loop _ rfl))
end L2
namespace L2
open PySem PySem.Spec PyProof.Rows PySem.W
def yT{α:Type}(lt:Nat->Nat->Bool):KasT α->α
 | .ret a=>a
 | .ask i j k=>yT lt (k (lt i j))
def ltE(x y:(Int×Int)×Str):Bool:=if x.1=y.1 then (if x.2=y.2 then false else decide (x.2.cps.toList<y.2.cps.toList)) else HT.wQ [x.1.1,x.1.2] [y.1.1,y.1.2]
section
variable {prog:Program}{w:World}{A:Around}{E:Value->Shared->Prop}{s:Shared}
def wB{α:Type} [Inhabited α](lt:α->α->Bool)(xs:List α):List α:=((yT (λi j=>lt (xs.getD i default) (xs.getD j default)) (kas_sort xs.length)).toList).map λi=>xs.getD i default
instance:Inhabited ((Int×Int)×Str):=⟨((0,0),Str.empty)⟩
end
end L2
namespace L2
open PySem PySem.Spec PyProof.Rows PySem.W
def sPS(K:PySem.W.Frag)(H:Hp)(x:(Int×Int)×Str)(v:V):Prop:=∃a b,v=.ref a/\H a=some (.tup [.ref b,.str x.2])/\H b=some (.tup [.int x.1.1,.int x.1.2])
theorem sPS.keep{K:PySem.W.Frag}{H H':Hp}{x:(Int×Int)×Str}{v:V}(e:bJ H H')(h:sPS K H x v):sPS K H' x v:=by
 obtain ⟨a,b,rfl,h1,h2⟩:=h
 exact ⟨a,b,rfl,e _ _ h1,e _ _ h2⟩
end L2
namespace L2
open PySem PySem.Spec PyProof.Rows PySem.W
end L2
namespace L2
open PySem PySem.Spec PyProof.Rows PySem.W
end L2
namespace L2
open PySem PySem.Spec PyProof.Rows PySem.W
end L2
namespace L2
open PySem PySem.Spec PyProof.Rows PySem.W
def Vw(v d:Addr):HO:=.ext λh=>h.IsItemsView v d
def xb(td:TE):TE:=fun σ H Q=>td σ H λx H1=>∃a kvs,x=.ref a/\H1 a=some (.dT kvs)/\∀v,H1 v=none->Q (.ref v) (upd H1 v (Vw v a))
theorem sU{X:Cx}{o:Expr}{apos cpos:Pos}{td:TE}(ho:PE X o td)(hbase:attributeBase o "items" X.env (eval o X.env)=eval o X.env:=by rfl)(hline:(apos.endLine==cpos.line)=true:=by rfl) :
  PE X (.Call (.Attribute o "items" apos) [] [] cpos) (xb td):=by
 intro pins s σ H Q I h
 refine wpAny_Call_method0_late hbase hline (thn (ho pins s σ H _ I h) λu s1 ⟨x,H1,I1,rx,a,kvs,ex,e,q⟩=>?_)
 subst ex
 obtain rfl:u=Value.ref a:=rx
 obtain ⟨t1,t2,hs⟩:=yj I1 (.inr ⟨kvs,.inl e⟩)
 refine ⟨"dict","dict.items",PySem.F.plainAttrs_dict,PySem.F.slot_dict_items,PySem.F.type_dict_items,t1,t2,Calls.callWith_builtin rfl (PySem.evalArgs_none ?_)⟩
 refine wpAny_call_entry PySem.F.slot_dict_items t1 PySem.F.entry_dict_items ?_ (PySem.F.args_dict_items_1 _)
 unfold Builtin.«dict.items» Builtin.Dict.noArgs
 refine wpAny_bind (wpAny_bind (wpAny_notOrdered_dict t1 (wpAny_pure ?_)))
 show wpAny _ _ (Builtin.Dict.showsAll a >>= λ_=>_) _ _ s1
 unfold Builtin.Dict.showsAll
 rw [if_neg (by rw [hs];exact Bool.false_ne_true)]
 refine wpAny_bind (wpAny_pure (wpAny_bind (wpAny_newObj_type (wpAny_pure ⟨_,rfl,?_⟩))))
 refine ⟨.ref s1.heap.objs.size,_,I1.laid (a:=s1.heap.objs.size) (o:=Vw s1.heap.objs.size a) (t':=s1.toks) (λ_ _ z=>Heap.get?_push_of_some _ z) (Nat.le_refl _) ⟨⟨_,Heap.get?_push_size _ rfl,rfl,rfl⟩,⟨_,Heap.get?_push_size _ rfl⟩,λg1 g2 ⟨ob,p,r⟩ k=>⟨ob,k _ p,r⟩⟩,rfl,q _ (I1.hok.fresh (Nat.le_refl _))⟩
end L2
namespace Lo
open PySem L2
def NwAt(K:PySem.W.Frag)(H:Hp)(es:List (Pa×Str))(v:V):Prop:=∃t ys,v=.ref t/\H t=some (.tup ys)/\Paired (sPS K H) (wB ltE es) ys
theorem NwAt.keep{K:PySem.W.Frag}{H H':Hp}{es:List (Pa×Str)}{v:V}(e:bJ H H')(h:NwAt K H es v):NwAt K H' es v:=by
 obtain ⟨t,ys,rfl,h1,h2⟩:=h
 exact ⟨t,ys,rfl,e _ _ h1,Paired.mapP h2 λ_ _ z=>z.keep e⟩
end Lo
namespace L2
open PySem PySem.Spec PyProof.Rows
theorem qm{K:PySem.W.Frag}{H:Hp}{a:Addr}(n:Nat):EqIs K n H (.ref a) (.ref a) true:=λP w A s u v hA hok kin r1 r2=>by
 cases r1
 cases r2
 exact SeqAt.EqAt.same _
theorem eq_int{K:PySem.W.Frag}{H:Hp}(n:Nat)(i:Int):EqIs K n H (.int i) (.int i) true:=by
 have z:=(cInt.eq (K:=K) (H:=H) (x:=i) (y:=i) rfl rfl).mono (Nat.zero_le n)
 rwa [decide_eq_true rfl] at z
theorem eq_str{K:PySem.W.Frag}{H:Hp}(n:Nat)(i:Str):EqIs K n H (.str i) (.str i) true:=by
 have z:=(cStr.eq (K:=K) (H:=H) (x:=i) (y:=i) rfl rfl).mono (Nat.zero_le n)
 rwa [decide_eq_true rfl] at z
theorem j8{K:PySem.W.Frag}{H:Hp}{a b:Addr}{n:Nat}{us vs:List V}(ha:SqT K H a us)(hb:SqT K H b vs)(h:Paired (λx y=>EqIs K n H x y true) us vs):EqIs K (n+1) H (.ref a) (.ref b) true/\wv K (n+1) H (.ref a) (.ref b) true:=by
 obtain ⟨z1,z2⟩:=wx (e:=λ_=>true) ha hb h.len λj x y e1 e2=>by
  obtain ⟨v,ev,rv⟩:=h.get1 e1
  rw [e2] at ev
  cases ev
  exact rv
 have e:((List.range us.length).all λ_=>true)=true:=by simp
 rw [e] at z1 z2
 exact ⟨ot z1 λ_ _ _ _ _ _=>rfl,z2⟩
end L2
namespace Lo
open PySem L2
structure TxH(K:PySem.W.Frag)(CH:Addr):Prop where
 cl:Cls K CH
 ht:NoAttr K CH "stand"
 hw:NoAttr K CH "rows"
 hs:NoAttr K CH "sent"
 hl:NoAttr K CH "latest"
structure Ah where
 (l dx rw sn:Addr)
def hf(S:Addr)(h:Ah)(v:V):List (Str×V):=al "latest" v (al "sent" (.ref h.sn) (al "rows" (.ref h.rw) (al "stand" (.ref S) [])))
theorem wV(S:Addr)(h:Ah)(v:V):(hf S h v).lookup ("latest":Str)=some v:=by
 unfold hf
 rw [av,if_pos rfl]
theorem wU(S:Addr)(h:Ah)(v:V):(hf S h v).lookup ("sent":Str)=some (.ref h.sn):=by
 unfold hf
 rw [av,if_neg (by decide +kernel),av,if_pos rfl]
theorem zi(S:Addr)(h:Ah)(v:V):(hf S h v).lookup ("rows":Str)=some (.ref h.rw):=by
 unfold hf
 rw [av,if_neg (by decide +kernel),av,if_neg (by decide +kernel),av,if_pos rfl]
theorem zg(S:Addr)(h:Ah)(v:V):(hf S h v).lookup ("stand":Str)=some (.ref S):=by
 unfold hf
 rw [av,if_neg (by decide +kernel),av,if_neg (by decide +kernel),av,if_neg (by decide +kernel),av,if_pos rfl]
theorem eT{S:Addr}{h:Ah}{v:V}{m:Str}(q:decide (m∈(["latest","sent","rows","stand"]:List Str))=false):(hf S h v).lookup m=none:=by
 have h':m∉(["latest","sent","rows","stand"]:List Str):=of_decide_eq_false q
 simp only [List.mem_cons,List.not_mem_nil,or_false,not_or] at h'
 obtain ⟨h1,h2,h3,h4⟩:=h'
 unfold hf
 rw [av,if_neg h1,av,if_neg h2,av,if_neg h3,av,if_neg h4]
 rfl
abbrev Ws:=Int×Str×Addr×Addr
def WsAt(H:Hp)(x:Ws)(u:V):Prop:=∃t t2,u=.ref t/\H t=some (.tup [.int x.1,.ref t2])/\H t2=some (.tup [.str x.2.1,.ref x.2.2.1,.ref x.2.2.2])
theorem WsAt.keep{H H':Hp}{x:Ws}{u:V}(e:bJ H H')(h:WsAt H x u):WsAt H' x u:=by
 obtain ⟨t,t2,rfl,h1,h2⟩:=h
 exact ⟨t,t2,rfl,e _ _ h1,e _ _ h2⟩
def LtAt(K:PySem.W.Frag)(H:Hp)(es:List (Pa×Str))(x:Ws)(u:V):Prop:=∃t t2 nv,u=.ref t/\H t=some (.tup [.int x.1,.ref t2])/\H t2=some (.tup [.str x.2.1,.ref x.2.2.1,.ref x.2.2.2,nv])/\NwAt K H es nv
theorem LtAt.keep{K:PySem.W.Frag}{H H':Hp}{es:List (Pa×Str)}{x:Ws}{u:V}(e:bJ H H')(h:LtAt K H es x u):LtAt K H' es x u:=by
 obtain ⟨t,t2,nv,rfl,h1,h2,h3⟩:=h
 exact ⟨t,t2,nv,rfl,e _ _ h1,e _ _ h2,h3.keep e⟩
def Ah.own(h:Ah)(A:Ad):List Addr:=h.l::h.rw::h.sn::A.own
def KpH(A:Ad)(h:Ah)(H H':Hp):Prop:=∀b o,b∉h.own A->H b=some o->H' b=some o
structure ShA(CS CH:Addr)(K:PySem.W.Frag)(H:Hp)(A:Ad)(h:Ah)(d:Sd)(rs:List Addr)(ws:List Ws)(v:V):Prop where
 st:St CS K H A d
 ins:H h.l=some (.ins CH h.dx (hf A.l h v))
 rws:H h.rw=some (.lst (rs.map V.ref))
 snt:∃us,H h.sn=some (.lst us)/\Paired (WsAt H) ws us
 lat:v=.non\/NwAt K H d.ends v
 n1:h.l∉A.own
 n2:h.rw∉A.own
 n3:h.sn∉A.own
 n4:h.rw≠h.sn
 n5:A.l≠h.l
section
variable {CS CH:Addr}{K:PySem.W.Frag}{H H':Hp}{A:Ad}{h:Ah}{d:Sd}{rs:List Addr}{ws:List Ws}{v:V}
theorem ShA.keep(q:ShA CS CH K H A h d rs ws v)(e:Same H H'):ShA CS CH K H' A h d rs ws v:=by
 obtain ⟨us,h1,h2⟩:=q.snt
 exact ⟨q.st.keep e,e _ _ q.ins,e _ _ q.rws,⟨us,e _ _ h1,Paired.mapP h2 λ_ _ z=>z.keep e.ts⟩,q.lat.imp id λz=>z.keep e.ts,q.n1,q.n2,q.n3,q.n4,q.n5⟩
theorem ShA.own(q:ShA CS CH K H A h d rs ws v){b:Addr}(hb:b∈h.own A):∃o,H b=some o/\∀xs,o≠.tup xs:=by
 simp only [Ah.own,List.mem_cons] at hb
 rcases hb with z | z | z | z
 ·subst z;exact ⟨_,q.ins,λxs e=>by cases e⟩
 ·subst z;exact ⟨_,q.rws,λxs e=>by cases e⟩
 ·subst z;obtain ⟨us,e,_⟩:=q.snt;exact ⟨_,e,λxs e=>by cases e⟩
 ·obtain ⟨us,stu⟩:=q.st
  obtain ⟨o,e,n,_⟩:=stu.own z
  exact ⟨o,e,n⟩
theorem ShA.ts(q:ShA CS CH K H A h d rs ws v)(k:KpH A h H H'):bJ H H':=λb xs e=>k b _ (λhb=>by
 obtain ⟨o,e1,n⟩:=q.own hb
 rw [e] at e1
 cases e1
 exact n xs rfl) e
end
section
variable (CS CH:Addr)(K:PySem.W.Frag)
def p6:Sp:=λvs H Q _=>∃l dx A d,vs=[.ref l,.ref A.l]/\H l=some (.ins CH dx [])/\St CS K H A d/\A.l≠l/\∀h H',h.l=l->ShA CS CH K H' A h d [] [] .non->H h.rw=none->H h.sn=none->Kp l H H'->Q .non H'
def hX:Sp:=λvs H Q _=>∃A h d rs ws v x,vs=[.ref h.l,.int x.1,.str x.2.1,.ref x.2.2.1,.ref x.2.2.2]/\ShA CS CH K H A h d rs ws v/\ws.length<=900 /\
 ∀H',ShA CS CH K H' A h d rs (ws++[x]) v->KpH A h H H'->Q .non H'
def lO:Sp:=λvs H Q _=>∃A h d rs ws v,vs=[.ref h.l]/\ShA CS CH K H A h d rs ws v/\∀p H',Same H H'->H p=none->H' p=some (.lst (rs.map V.ref))->Q (.ref p) H'
end
end Lo
namespace L2
open PySem PySem.Spec PyProof.Rows PySem.W
theorem mC{X:Cx}(hc:X.calm=true):dq X (.builtin "sorted") (λxs H Q=>∃v d,xs=[.ref v]/\H v=some (Vw v d)/\H d=some (.dT [])/\∀l,H l=none->Q (.ref l) (upd H l (.lst []))):=by
 intro pins s σ H xs us Q I r h
 obtain ⟨v,d,rfl,hv,hd,q⟩:=h
 obtain ⟨u,rfl,rx⟩:=cA r
 cases (show u=Value.ref v from rx)
 obtain ⟨hw,_⟩:=(show ObjOk X.prog X.w H s.heap v (Vw v d) from I.hok v _ hv)
 obtain ⟨z,_,xs,rel,o,en,ep,h1,h2,h3,h4,h5⟩:=(show ObjOk X.prog X.w H s.heap d (.dT _) from I.hok d _ hd)
 cases rel
 cases (show en=#[] from Array.toList_inj.mp h4)
 refine Calls.call_function_entry kind_sorted plain_sorted entry_sorted (args_sorted1 _) ?_
 unfold Builtin.«sorted»
 refine wpAny_bind (m:=checkCount "sorted" 1 1 _) (wpAny_pure (wpAny_bind (kdx_collect (A:=X.A.in1) (knd:=intKind X.prog X.w) (kvs:=[]) (I.ok.hd hc) hw ⟨o,#[],h1,h2,h3,?_,?_,List.nodup_nil⟩ (Nat.zero_le _) λh' tk as k' la _=>?_)))
 ·intro e he
  simp at he
 ·exact .nil
 obtain rfl:as=[]:=List.length_eq_zero_iff.mp la
 have I1:Inv X pins σ H {s with heap:=h',toks:=tk}:=I.kept (t':=tk) k'
 show wpAny _ X.A.in1 (newList [] >>= λl=>holding [l] (call (.builtin "list.sort") [l] []) >>= λ_=>ret l) _ _ _
 refine wpAny_bind (wpAny_newList ?_ (Nat.zero_le _))
 have oL:(h'.push (seqObj "list" #[] 0)).get? h'.objs.size=some (seqObj "list" #[] 0):=Heap.get?_push_size _ rfl
 refine wpAny_bind (wpAny_holding (wpAny_call_entry slot_list_sort ⟨_,oL,rfl⟩ entry_list_sort ?_ (args_list_sort _)))
 obtain ⟨c1,o1⟩:∃c,((h'.push (seqObj "list" #[] 0)).update h'.objs.size (Obj.mapSeq λ_=>(#[]:Array Value))).get? h'.objs.size=some (seqObj "list" #[] c):=⟨_,get?_update_seq oL λ_=>#[]⟩
 rw [list_sort_plain]
 refine wpAny_bind (listItems_at oL rfl (wpAny_bind (listUpdate_at oL rfl ?_ (Nat.zero_le _) (Nat.zero_le _))))
 refine wpAny_bind (seqEpoch_at o1 rfl (wpAny_bind (wpAny_newTuple ?_ (Nat.zero_le _))))
 refine wpAny_bind (wpAny_newList (wpAny_holding ?_) (Nat.zero_le _))
 dsimp only
 rw [if_pos (by decide),if_pos (by decide)]
 refine wpAny_bind (wpAny_pure (wpAny_bind (wpAny_pure ?_)))
 have o2:=Heap.get?_push_of_some (seqObj "list" #[] 0) (Heap.get?_push_of_some (seqObj "tuple" #[] 0) o1)
 refine wpAny_bind (seqEpoch_at o2 rfl ?_)
 have ez:(arrOf (SortSt.mk' general' ((#[]:Array Value).zip #[]) #[] 7 none)).map (·.2)=#[]:=by
  show ((#[]:Array Value).zip #[]).map (·.2)=#[]
  simp
 rw [ez]
 refine wpAny_bind (listUpdate_at o2 rfl ?_ (Nat.zero_le _) (Nat.zero_le _))
 simp only [bne_self_eq_false,Bool.false_eq_true,if_false]
 obtain ⟨c2,o3⟩:∃c,(((((h'.push (seqObj "list" #[] 0)).update h'.objs.size (Obj.mapSeq λ_=>(#[]:Array Value))).push (seqObj "tuple" #[] 0)).push (seqObj "list" #[] 0)).update h'.objs.size (Obj.mapSeq λ_=>(#[]:Array Value))).get? h'.objs.size=some (seqObj "list" #[] c):=⟨_,get?_update_seq o2 λ_=>#[]⟩
 refine wpAny_pure ⟨_,rfl,wpAny_pure ⟨_,rfl,.ref h'.objs.size,_,I1.laid (a:=h'.objs.size) (o:=.lst []) (t':=tk) (λb o e=>?_) (Nat.le_refl _) ⟨Nat.zero_le _,[],c2,.nil,o3⟩,rfl,q _ (I1.hok.fresh (Nat.le_refl _))⟩⟩
 have ne:h'.objs.size≠b:=Nat.ne_of_gt (Heap.lt_size e)
 exact (Heap.get?_update_other _ _ ne).trans (Heap.get?_push_of_some _ (Heap.get?_push_of_some _ ((Heap.get?_update_other _ _ ne).trans (Heap.get?_push_of_some _ e))))
end L2
namespace L2
open PySem PySem.Spec PyProof.Rows PySem.W
end L2
namespace L2
open PySem PySem.Spec PyProof.Rows PySem.W Lo
end L2
namespace L2
open PySem PySem.Spec PyProof.Rows PySem.W Lo Tb
end L2
namespace L2
open PySem PySem.Spec PyProof.Rows
section
variable {X:Cx}
theorem nQ(hu:X.A.units<cLine):OpR X (compareOp .Eq) (λx y H Q=>∃a b us,x=.ref a/\y=.ref b/\SqL X.K H a us/\SqL X.K H b []/\Q (.bl (decide (us=[]))) H):=by
 intro pins s σ H x y v u Q I rx ry h
 obtain ⟨a,b,us,rfl,rfl,ha,hb,q⟩:=h
 cases rx
 cases ry
 obtain ⟨i1,v1,p1,_⟩:=I.list ha
 obtain ⟨i2,v2,p2,_⟩:=I.list hb
 cases v2
 have l1:=v1.length
 by_cases e:us=[]
 ·subst e
  cases v1
  have z:=PySem.SeqAt.RcAt.lists (A:=X.A) (s:=s) (e:=λ_=>true) p1.isList p2.isList rfl hu (λj h1 h2=>by cases h1)
  rw [decide_eq_true rfl] at q
  exact z X.prog X.w X.xe _ ⟨.bl true,H,I,rfl,q⟩
 ·have hsz:(i1.toArray.size != ([]:List Value).toArray.size)=true:=by
   have:i1.length≠0:=λz=>e (List.length_eq_zero_iff.mp (by rw [l1];exact z))
   simpa using this
  rw [decide_eq_false e] at q
  exact PySem.SeqAt.RcAt.lists_lengths p1.isList p2.isList hsz hu X.prog X.w X.xe _ ⟨.bl false,H,I,rfl,q⟩
end
end L2
namespace Lo
open PySem L2
end Lo
namespace L2
open PySem PySem.Spec PyProof.Rows Lo
end L2
namespace K43
open PySem L2 Lo
def top(i:Nat):Stmt:=PySem.Challenge.pw_pactroom_k43_patience.main.body.getD i (.Pass ⟨0,0,0,0⟩)
abbrev jO:Stmt:=top 15
abbrev p8:Stmt:=top 16
abbrev ii:Stmt:=top 17
abbrev kJ:Stmt:=top 18
abbrev gK:Stmt:=inClass (top 19) 0
abbrev fy:Stmt:=inClass (top 19) 1
abbrev d7:Stmt:=inClass (top 19) 2
abbrev dn:Stmt:=inClass (top 19) 4
abbrev c8:Stmt:=inClass (top 19) 5
abbrev dm:Stmt:=inClass (top 19) 6
abbrev fh:Stmt:=inClass (top 23) 0
abbrev gb:Stmt:=inClass (top 23) 4
abbrev dk:Stmt:=inClass (top 24) 0
abbrev cO:Stmt:=inClass (top 24) 1
abbrev f9:Stmt:=inClass (top 25) 1
abbrev cp:Stmt:=inClass (top 25) 2
abbrev gf:Stmt:=inClass (top 26) 1
abbrev cu:Stmt:=inClass (top 26) 2
abbrev dJ:Stmt:=inClass (top 27) 0
abbrev db:Stmt:=inClass (top 27) 1
abbrev gH:Stmt:=inClass (top 27) 3
abbrev cD:Stmt:=inClass (top 27) 4
abbrev gi:Stmt:=inClass (top 28) 1
abbrev dj:Stmt:=inClass (top 28) 2
abbrev cv:Stmt:=inClass (top 28) 3
abbrev dL:Stmt:=inClass (top 29) 0
abbrev gI:Stmt:=inClass (top 29) 2
abbrev cH:Stmt:=inClass (top 29) 4
abbrev df:Stmt:=inClass (top 30) 0
abbrev bX:Stmt:=inClass (top 30) 1
abbrev cq:Stmt:=inClass (top 30) 2
abbrev dg:Stmt:=inClass (top 31) 0
abbrev bY:Stmt:=inClass (top 31) 1
abbrev cr:Stmt:=inClass (top 31) 2
abbrev ig:Stmt:=top 32
abbrev cV:Stmt:=top 33
abbrev ed:Stmt:=top 34
abbrev fU:Stmt:=top 35
abbrev gV:Stmt:=top 36
abbrev gc:Stmt:=inClass (top 40) 0
abbrev cW:Stmt:=top 41
abbrev fT:Stmt:=top 42
abbrev cX:Stmt:=top 43
abbrev iR:Stmt:=top 44
abbrev gh:Stmt:=inClass (top 47) 0
abbrev i4:Stmt:=inClass (top 47) 1
abbrev gg:Stmt:=inClass (top 47) 2
abbrev gZ:Stmt:=inClass (top 47) 3
abbrev eF:Stmt:=inClass (top 47) 8
abbrev bR:Stmt:=inClass (top 47) 9
abbrev cG:Stmt:=inClass (top 47) 10
abbrev cg:Stmt:=inClass (top 47) 11
abbrev cL:Stmt:=inClass (top 47) 12
abbrev cN:Stmt:=inClass (top 47) 13
abbrev dh:Stmt:=inClass (top 48) 0
abbrev ci:Stmt:=inClass (top 48) 1
abbrev di:Stmt:=inClass (top 48) 2
abbrev bq:Stmt:=inClass (top 48) 3
abbrev bb:Stmt:=inClass (top 48) 4
abbrev bO:Stmt:=inClass (top 48) 5
abbrev bZ:Stmt:=inClass (top 48) 6
abbrev bp:Stmt:=inClass (top 49) 0
abbrev bQ:Stmt:=inClass (top 49) 1
abbrev cC:Stmt:=inClass (top 49) 2
abbrev bE:Stmt:=inClass (top 49) 3
abbrev bM:Stmt:=inClass (top 49) 6
abbrev iT:Stmt:=top 50
abbrev oX:Stmt:=top 51
abbrev fo:Stmt:=inClass (top 53) 0
abbrev fm:Stmt:=inClass (top 53) 2
abbrev cE:Stmt:=inClass (top 53) 3
abbrev aY:Stmt:=inClass (top 53) 4
abbrev fj:Stmt:=inClass (top 55) 0
abbrev fi:Stmt:=inClass (top 55) 6
abbrev dz:Stmt:=top 57
abbrev fV:Stmt:=top 58
abbrev cj:Stmt:=top 59
abbrev cB:Stmt:=top 60
abbrev fX:Stmt:=top 61
abbrev dy:Stmt:=top 62
abbrev eB:Stmt:=top 63
abbrev jN:Stmt:=top 64
theorem ki:ak ["self"] ["self"] (defScope fh):=⟨rfl,rfl,rfl,by decide +kernel,rfl,by decide +kernel,by decide +kernel⟩
theorem l0:ak ["self"] ["self"] (defScope gb):=⟨rfl,rfl,rfl,by decide +kernel,rfl,by decide +kernel,by decide +kernel⟩
theorem iP:ak ["self","where","cell"] ["self","where","cell"] (defScope dk):=⟨rfl,rfl,rfl,by decide +kernel,rfl,by decide +kernel,by decide +kernel⟩
theorem ie:ak ["self"] ["self"] (defScope cO):=⟨rfl,rfl,rfl,by decide +kernel,rfl,by decide +kernel,by decide +kernel⟩
theorem gB:ak ["self"] ["self"] (defScope cp):=⟨rfl,rfl,rfl,by decide +kernel,rfl,by decide +kernel,by decide +kernel⟩
theorem gE:ak ["self"] ["self"] (defScope cu):=⟨rfl,rfl,rfl,by decide +kernel,rfl,by decide +kernel,by decide +kernel⟩
theorem jj:ak ["self","where","low","high"] ["self","where","low","high"] (defScope dJ):=⟨rfl,rfl,rfl,by decide +kernel,rfl,by decide +kernel,by decide +kernel⟩
theorem iJ:ak ["self"] ["self"] (defScope db):=⟨rfl,rfl,rfl,by decide +kernel,rfl,by decide +kernel,by decide +kernel⟩
theorem gQ:ak ["self"] ["self"] (defScope cD):=⟨rfl,rfl,rfl,by decide +kernel,rfl,by decide +kernel,by decide +kernel⟩
theorem iO:ak ["self"] ["self"] (defScope dj):=⟨rfl,rfl,rfl,by decide +kernel,rfl,by decide +kernel,by decide +kernel⟩
theorem gF:ak ["self"] ["self"] (defScope cv):=⟨rfl,rfl,rfl,by decide +kernel,rfl,by decide +kernel,by decide +kernel⟩
theorem jk:ak ["self","where","cell","amount"] ["self","where","cell","amount"] (defScope dL):=⟨rfl,rfl,rfl,by decide +kernel,rfl,by decide +kernel,by decide +kernel⟩
theorem gU:ak ["self"] ["self"] (defScope cH):=⟨rfl,rfl,rfl,by decide +kernel,rfl,by decide +kernel,by decide +kernel⟩
theorem iK:ak ["self","amount"] ["self","amount"] (defScope df):=⟨rfl,rfl,rfl,by decide +kernel,rfl,by decide +kernel,by decide +kernel⟩
theorem fE:ak ["self","hand","value_of"] ["self","hand","value_of"] (defScope bX):=⟨rfl,rfl,rfl,by decide +kernel,rfl,by decide +kernel,by decide +kernel⟩
theorem gC:ak ["self"] ["self"] (defScope cq):=⟨rfl,rfl,rfl,by decide +kernel,rfl,by decide +kernel,by decide +kernel⟩
theorem iL:ak ["self","amount"] ["self","amount"] (defScope dg):=⟨rfl,rfl,rfl,by decide +kernel,rfl,by decide +kernel,by decide +kernel⟩
theorem fF:ak ["self","hand","value_of"] ["self","hand","value_of"] (defScope bY):=⟨rfl,rfl,rfl,by decide +kernel,rfl,by decide +kernel,by decide +kernel⟩
theorem gD:ak ["self"] ["self"] (defScope cr):=⟨rfl,rfl,rfl,by decide +kernel,rfl,by decide +kernel,by decide +kernel⟩
theorem sD:ak ["word","numbers"] ["word","numbers"] (defScope ig):=⟨rfl,rfl,rfl,by decide +kernel,rfl,by decide +kernel,by decide +kernel⟩
def pN:Scope:=match defBody ig with
 | .Return (some (.Call _ [(.BinOp _ _ (.ListComp _ _ sc _) _)] _ _)) _::_=>sc
 | _=>default
theorem oW:bc ["word","numbers"] (defScope ig) pN "number" ["number"] []:=⟨by decide +kernel,rfl,by decide +kernel,rfl,by decide +kernel,by decide +kernel,rfl,rfl,λj h=>absurd h (Nat.not_lt_zero j)⟩
theorem sc_read_step:ak ["text","words","shape"] ["text"] (defScope cV):=⟨rfl,rfl,rfl,by decide +kernel,rfl,by decide +kernel,by decide +kernel⟩
def kb:Scope:=match defBody cV with
 | _::_::_::.Return (some (.Call _ [_,.ListComp _ _ sc _] _ _)) _::_=>sc
 | _=>default
theorem jK:bc ["text","words","shape"] (defScope cV) kb "k" ["k","words","shape"] [1,2]:=⟨by decide +kernel,rfl,by decide +kernel,rfl,by decide +kernel,by decide +kernel,rfl,rfl,by decide +kernel⟩
theorem sc_read_number:ak ["word","letter","number"] ["word","letter"] (defScope ed):=⟨rfl,rfl,rfl,by decide +kernel,rfl,by decide +kernel,by decide +kernel⟩
theorem lW:ak ["word","numbers"] ["word","numbers"] (defScope fU):=⟨rfl,rfl,rfl,by decide +kernel,rfl,by decide +kernel,by decide +kernel⟩
theorem nt:ak ["where","low","high"] ["where","low","high"] (defScope gV):=⟨rfl,rfl,rfl,by decide +kernel,rfl,by decide +kernel,by decide +kernel⟩
theorem l4:ak ["self","manner","steps"] ["self","manner","steps"] (defScope gc):=⟨rfl,rfl,rfl,by decide +kernel,rfl,by decide +kernel,by decide +kernel⟩
theorem sc_read_pact:ak ["text","pieces","texts"] ["text"] (defScope cW):=⟨rfl,rfl,rfl,by decide +kernel,rfl,by decide +kernel,by decide +kernel⟩
def kf:Scope:=match defBody cW with
 | _::_::_::_::.Return (some (.Call _ [_,.ListComp _ _ sc _] _ _)) _::_=>sc
 | _=>default
theorem jL:bc ["text","pieces","texts"] (defScope cW) kf "k" ["k","texts"] [2]:=⟨by decide +kernel,rfl,by decide +kernel,rfl,by decide +kernel,by decide +kernel,rfl,rfl,by decide +kernel⟩
theorem lV:ak ["text","number"] ["text","number"] (defScope fT):=⟨rfl,rfl,rfl,by decide +kernel,rfl,by decide +kernel,by decide +kernel⟩
theorem lX:ak ["pact"] ["pact"] (defScope cX):=⟨rfl,rfl,rfl,by decide +kernel,rfl,by decide +kernel,by decide +kernel⟩
def kg:Scope:=match defBody cX with
 | .Return (some (.Call _ [(.Call _ [(.Call _ [.ListComp _ _ sc _] _ _)] _ _)] _ _)) _::_=>sc
 | _=>default
theorem jM:bc ["pact"] (defScope cX) kg "step" ["step"] []:=⟨by decide +kernel,rfl,by decide +kernel,rfl,by decide +kernel,by decide +kernel,rfl,rfl,λj h=>absurd h (Nat.not_lt_zero j)⟩
theorem sc_turning:ak ["pact","k"] ["pact"] (defScope iR):=⟨rfl,rfl,rfl,by decide +kernel,rfl,by decide +kernel,by decide +kernel⟩
theorem l7:ak ["self","name","pact"] ["self","name","pact"] (defScope gh):=⟨rfl,rfl,rfl,by decide +kernel,rfl,by decide +kernel,by decide +kernel⟩
theorem oV:ak ["self","sheet"] ["self","sheet"] (defScope i4):=⟨rfl,rfl,rfl,by decide +kernel,rfl,by decide +kernel,by decide +kernel⟩
theorem l5:ak ["self","sheet"] ["self","sheet"] (defScope gg):=⟨rfl,rfl,rfl,by decide +kernel,rfl,by decide +kernel,by decide +kernel⟩
theorem nu:ak ["self","sheet","outcome"] ["self","sheet","outcome"] (defScope gZ):=⟨rfl,rfl,rfl,by decide +kernel,rfl,by decide +kernel,by decide +kernel⟩
theorem jJ:ak ["self","outcome"] ["self","outcome"] (defScope eF):=⟨rfl,rfl,rfl,by decide +kernel,rfl,by decide +kernel,by decide +kernel⟩
theorem sc_Lead_own_steps_done:ak ["self","step"] ["self"] (defScope bR):=⟨rfl,rfl,rfl,by decide +kernel,rfl,by decide +kernel,by decide +kernel⟩
theorem gS:ak ["self"] ["self"] (defScope cG):=⟨rfl,rfl,rfl,by decide +kernel,rfl,by decide +kernel,by decide +kernel⟩
theorem fO:ak ["self"] ["self"] (defScope cg):=⟨rfl,rfl,rfl,by decide +kernel,rfl,by decide +kernel,by decide +kernel⟩
theorem sc_Lead_send_step:ak ["self","sheet","word","number","text"] ["self","sheet","word"] (defScope cL):=⟨rfl,rfl,rfl,by decide +kernel,rfl,by decide +kernel,by decide +kernel⟩
theorem ib:ak ["self","more"] ["self","more"] (defScope cN):=⟨rfl,rfl,rfl,by decide +kernel,rfl,by decide +kernel,by decide +kernel⟩
theorem iM:ak ["self","name","pact"] ["self","name","pact"] (defScope dh):=⟨rfl,rfl,rfl,by decide +kernel,rfl,by decide +kernel,by decide +kernel⟩
theorem sc_HeldLead_go_ahead:ak ["self","sheet","house"] ["self","sheet"] (defScope ci):=⟨rfl,rfl,rfl,by decide +kernel,rfl,by decide +kernel,by decide +kernel⟩
theorem iN:ak ["self","sheet","word","sender","more"] ["self","sheet","word","sender","more"] (defScope di):=⟨rfl,rfl,rfl,by decide +kernel,rfl,by decide +kernel,by decide +kernel⟩
theorem gT:ak ["self"] ["self"] (defScope bq):=⟨rfl,rfl,rfl,by decide +kernel,rfl,by decide +kernel,by decide +kernel⟩
def gq:Scope:=match defBody bq with
 | .Return (some (.ListComp _ _ sc _)) _::_=>sc
 | _=>default
theorem fR:bc ["self"] (defScope bq) gq "house" ["house","self"] [0]:=⟨by decide +kernel,rfl,by decide +kernel,rfl,by decide +kernel,by decide +kernel,rfl,rfl,by decide +kernel⟩
theorem cU:ak ["self"] ["self"] (defScope bb):=⟨rfl,rfl,rfl,by decide +kernel,rfl,by decide +kernel,by decide +kernel⟩
theorem sc_HeldLead_go_from_end:ak ["self","sheet","house"] ["self","sheet"] (defScope bO):=⟨rfl,rfl,rfl,by decide +kernel,rfl,by decide +kernel,by decide +kernel⟩
theorem fJ:ak ["self","sheet"] ["self","sheet"] (defScope bZ):=⟨rfl,rfl,rfl,by decide +kernel,rfl,by decide +kernel,by decide +kernel⟩
theorem gO:ak ["self","name","pact"] ["self","name","pact"] (defScope bp):=⟨rfl,rfl,rfl,by decide +kernel,rfl,by decide +kernel,by decide +kernel⟩
def gp:Scope:=match defBody bp with
 | _::_::.Assign _ (.ListComp _ _ sc _) _::_=>sc
 | _=>default
theorem fQ:bc ["self","name","pact"] (defScope bp) gp "k" ["k","self"] [0]:=⟨by decide +kernel,rfl,by decide +kernel,rfl,by decide +kernel,by decide +kernel,rfl,rfl,by decide +kernel⟩
theorem eX:ak ["self","sheet"] ["self","sheet"] (defScope bQ):=⟨rfl,rfl,rfl,by decide +kernel,rfl,by decide +kernel,by decide +kernel⟩
theorem gP:ak ["self","sheet","word","sender","more"] ["self","sheet","word","sender","more"] (defScope cC):=⟨rfl,rfl,rfl,by decide +kernel,rfl,by decide +kernel,by decide +kernel⟩
theorem d9:ak ["self"] ["self"] (defScope bE):=⟨rfl,rfl,rfl,by decide +kernel,rfl,by decide +kernel,by decide +kernel⟩
theorem eJ:ak ["self","sheet","is_left"] ["self","sheet"] (defScope bM):=⟨rfl,rfl,rfl,by decide +kernel,rfl,by decide +kernel,by decide +kernel⟩
theorem oU:ak ["name","pact"] ["name","pact"] (defScope iT):=⟨rfl,rfl,rfl,by decide +kernel,rfl,by decide +kernel,by decide +kernel⟩
theorem ko:ak ["self","stand"] ["self","stand"] (defScope fo):=⟨rfl,rfl,rfl,by decide +kernel,rfl,by decide +kernel,by decide +kernel⟩
theorem kn:ak ["self","to","word","p","more"] ["self","to","word","p","more"] (defScope fm):=⟨rfl,rfl,rfl,by decide +kernel,rfl,by decide +kernel,by decide +kernel⟩
theorem gR:ak ["self"] ["self"] (defScope cE):=⟨rfl,rfl,rfl,by decide +kernel,rfl,by decide +kernel,by decide +kernel⟩
theorem sc_Sheet_letters_told:ak ["self","news"] ["self"] (defScope aY):=⟨rfl,rfl,rfl,by decide +kernel,rfl,by decide +kernel,by decide +kernel⟩
def eU:Scope:=match defBody aY with
 | _::.Return (some (.ListComp _ _ sc _)) _::_=>sc
 | _=>default
theorem eK:bc ["self","news"] (defScope aY) eU "pair" ["pair","news"] [1]:=⟨by decide +kernel,rfl,by decide +kernel,rfl,by decide +kernel,by decide +kernel,rfl,rfl,by decide +kernel⟩
theorem km:ak ["self","cells"] ["self","cells"] (defScope fj):=⟨rfl,rfl,rfl,by decide +kernel,rfl,by decide +kernel,by decide +kernel⟩
theorem kj:ak ["self"] ["self"] (defScope fi):=⟨rfl,rfl,rfl,by decide +kernel,rfl,by decide +kernel,by decide +kernel⟩
theorem ji:ak ["_law_script","_law_k"] ["_law_script","_law_k"] (defScope dz):=⟨rfl,rfl,rfl,by decide +kernel,rfl,by decide +kernel,by decide +kernel⟩
theorem sc__law_step:ak ["_law_number","_law_manner","_law_house","_law_cell","_law_way"] ["_law_number","_law_manner"] (defScope fV):=⟨rfl,rfl,rfl,by decide +kernel,rfl,by decide +kernel,by decide +kernel⟩
theorem jI:ak ["_law_steps"] ["_law_steps"] (defScope cj):=⟨rfl,rfl,rfl,by decide +kernel,rfl,by decide +kernel,by decide +kernel⟩
def i9:Scope:=match defBody cj with
 | .Return (some (.Call _ [(.Call _ [.ListComp _ _ sc _] _ _)] _ _)) _::_=>sc
 | _=>default
theorem iQ:bc ["_law_steps"] (defScope cj) i9 "_law_step_here" ["_law_step_here"] []:=⟨by decide +kernel,rfl,by decide +kernel,rfl,by decide +kernel,by decide +kernel,rfl,rfl,λj h=>absurd h (Nat.not_lt_zero j)⟩
theorem sc__law_ended:ak ["_law_lead","_law_sheet","_law_name","_law_manner","_law_houses_here","_law_sent","_law_due_here","_law_k"] ["_law_lead","_law_sheet","_law_name","_law_manner","_law_houses_here"] (defScope cB):=⟨rfl,rfl,rfl,by decide +kernel,rfl,by decide +kernel,by decide +kernel⟩
def jp:Scope:=match defBody cB with
 | _::_::_::.Assign _ (.ListComp _ _ sc _) _::_=>sc
 | _=>default
theorem jm:bc ["_law_lead","_law_sheet","_law_name","_law_manner","_law_houses_here","_law_sent","_law_due_here","_law_k"] (defScope cB) jp "_law_house" ["_law_house","_law_name"] [2]:=⟨by decide +kernel,rfl,by decide +kernel,rfl,by decide +kernel,by decide +kernel,rfl,rfl,by decide +kernel⟩
theorem sc__law_next:ak ["_law_steps","_law_at"] ["_law_steps","_law_at"] (defScope fX):=⟨rfl,rfl,rfl,by decide +kernel,rfl,by decide +kernel,by decide +kernel⟩
theorem sc__law_due:ak ["_law_sheet","_law_many","_law_first","_law_said","_law_due_here"] ["_law_sheet","_law_many","_law_first","_law_said"] (defScope dy):=⟨rfl,rfl,rfl,by decide +kernel,rfl,by decide +kernel,by decide +kernel⟩
def kt:Scope:=match defBody dy with
 | _::_::.If _ (.Return (some (.ListComp _ _ sc _)) _::_) _ _::_=>sc
 | _=>default
theorem kq:bc ["_law_sheet","_law_many","_law_first","_law_said","_law_due_here"] (defScope dy) kt "_law_one" ["_law_one","_law_first"] [2]:=⟨by decide +kernel,rfl,by decide +kernel,rfl,by decide +kernel,by decide +kernel,rfl,rfl,by decide +kernel⟩
theorem sc__law_played:ak ["_law_lead","_law_sheet","_law_name","_law_manner","_law_steps","_law_numbers","_law_houses_here","_law_at","_law_turns","_law_said","_law_last","_law_number","_law_sent","_law_due_here","_law_fate","_law_word","_law_off"] ["_law_lead","_law_sheet","_law_name","_law_manner","_law_steps","_law_numbers"] (defScope eB):=⟨rfl,rfl,rfl,by decide +kernel,rfl,by decide +kernel,by decide +kernel⟩
theorem sc_law:ak ["_law_script","_law_name","_law_manner","_law_many","_law_steps","_law_text","_law_lead","_law_sheet"] ["_law_script"] (defScope jN):=⟨rfl,rfl,rfl,by decide +kernel,rfl,by decide +kernel,by decide +kernel⟩
def uK:Scope:=match defBody jN with
 | _::_::_::.Assign _ (.ListComp _ _ sc _) _::_=>sc
 | _=>default
theorem sF:bc ["_law_script","_law_name","_law_manner","_law_many","_law_steps","_law_text","_law_lead","_law_sheet"] (defScope jN) uK "_law_k" ["_law_k","_law_script","_law_manner"] [0,2]:=⟨by decide +kernel,rfl,by decide +kernel,rfl,by decide +kernel,by decide +kernel,rfl,rfl,by decide +kernel⟩
def uJ:Scope:=match defBody jN with
 | _::_::_::_::_::.Assign _ (.BinOp _ _ (.Call _ [.ListComp _ _ sc _] _ _) _) _::_=>sc
 | _=>default
theorem sE:bc ["_law_script","_law_name","_law_manner","_law_many","_law_steps","_law_text","_law_lead","_law_sheet"] (defScope jN) uJ "_law_step_here" ["_law_step_here"] []:=⟨by decide +kernel,rfl,by decide +kernel,rfl,by decide +kernel,by decide +kernel,rfl,rfl,λj h=>absurd h (Nat.not_lt_zero j)⟩
end K43
namespace K43T
open PySem L2 Km PySem.NumText
abbrev sG:Stmt:=K43.jO
abbrev sI:Stmt:=K43.p8
abbrev p9:Stmt:=K43.ii
abbrev wD:Stmt:=K43.kJ
abbrev wF:Stmt:=K43.gK
abbrev wE:Stmt:=K43.fy
abbrev yS:Stmt:=K43.d7
abbrev sJ:Stmt:=K43.dn
abbrev yQ:Stmt:=K43.c8
abbrev sH:Stmt:=K43.dm
theorem tp:¬(("text":Str)="place"):=by decide +kernel
def rf(z:Str)(k:Int):List (Str×V):=al "place" (.int k) (al "text" (.str z) [])
theorem sM(z:Str)(k:Int):rf z k=([("text",V.str z),("place",V.int k)]:List (Str×V)):=by
 show (if ("text":Str)="place" then [(("text":Str),V.int k)] else (("text":Str),V.str z)::al "place" (V.int k) [])=([("text",V.str z),("place",V.int k)]:List (Str×V))
 rw [if_neg tp]
 all_goals rfl
theorem gx(z:Str)(k:Int):(rf z k).lookup ("text":Str)=some (.str z):=by
 unfold rf
 rw [av,if_neg tp,av,if_pos rfl]
theorem ck(z:Str)(k:Int):(rf z k).lookup ("place":Str)=some (.int k):=by
 unfold rf
 rw [av,if_pos rfl]
theorem kL(z:Str)(k:Int){m:Str}(h1:¬m="place")(h2:¬m="text"):(rf z k).lookup m=none:=by
 unfold rf
 rw [av,if_neg h1,av,if_neg h2]
 all_goals rfl
theorem oZ(z:Str)(k j:Int):al "place" (.int j) (rf z k)=rf z j:=by
 rw [sM,sM]
 show (if ("text":Str)="place" then _ else (("text":Str),V.str z)::(if ("place":Str)="place" then [(("place":Str),V.int j)] else _))=([("text",V.str z),("place",V.int j)]:List (Str×V))
 rw [if_neg tp,if_pos rfl]
theorem o6(z:Str)(k:Int):(rf z k).length=2:=by rw [sM];rfl
structure Tx(K:PySem.W.Frag)(mg:Str->Option Value)(C:Addr):Prop where
 cl:Cls K C
 nT:NoAttr K C "text"
 nP:NoAttr K C "place"
 mgC:mg "Reader"=some (.ref C)
 isi:mg "isinstance"=none
 int:mg "int"=none
 bool:mg "bool"=none
 str:mg "str"=none
 len:mg "len"=none
 ord:mg "ord"=none
 all:mg "all"=none
 range:mg "range"=none
 cFig:∃t,mg "MOST_FIGURES_things"=some (.int 400 t)
 cSig:∃t,mg "MOST_SIGNS"=some (.int 2000 t)
 cDeep:∃t,mg "MOST_DEEP"=some (.int 8 t)
 cLong:∃t,mg "LONGEST"=some (.int 100000 t)
 cBl:∃t,mg "BLANK"=some (.int 32 t)
 cPc:∃t,mg "PERCENT"=some (.int 37 t)
 cTi:∃t,mg "TILDE"=some (.int 126 t)
theorem mv{X:Cx}{x:Str}{i:Int}{pos:Pos}(hm:∃t,X.mg x=some (.int i t))(hg:Gl X x)(hd:(x==("__debug__":Str))=false:=by decide):PE X (.Name x pos) (tC (.int i)):=by
 obtain ⟨t,e⟩:=hm
 exact bK hg e ⟨t,rfl⟩ hd
section
variable {K:PySem.W.Frag}
theorem yc:PySem.W.kitOne K (.type "int") (.type "int")=some true:=rfl
theorem xZ:PySem.W.kitOne K (.type "str") (.type "str")=some true:=rfl
theorem ye:PySem.W.kitOne K (.type "bool") (.type "bool")=some true:=rfl
theorem pD:PySem.W.kitOne K (.type "int") (.type "bool")=some false:=by kernel_rfl
theorem ya:PySem.W.kitOne K (.type "str") (.type "int")=some false:=by kernel_rfl
theorem yd:PySem.W.kitOne K (.type "bool") (.type "int")=some true:=by kernel_rfl
theorem yb:PySem.W.kitOne K (.type "NoneType") (.type "int")=some false:=by kernel_rfl
theorem xY:PySem.W.kitOne K (.type "tuple") (.type "int")=some false:=by kernel_rfl
end
section
variable {P:Program}{w:World}{K:PySem.W.Frag}{mg:Str->Option Value}{base:Heap}{f C:Addr}{fd:FuncData}
def wX(H:Hp):V->Option Bool
 | .int _=>some true
 | .str _=>some false
 | .bl _=>some false
 | .non=>some false
 | .ref a=>match H a with
  | some (.tup _)=>some false
  | _=>none
 | _=>none
def jt:Sp:=λvs H Q _=>∃x b,vs=[x]/\wX H x=some b/\Q (.bl b) H
theorem vh:ak ["thing"] ["thing"] (defScope sG):=⟨rfl,rfl,rfl,by decide +kernel,rfl,by decide +kernel,by decide +kernel⟩
theorem ti(F:Fun K "is_whole" "is_whole" sG f fd)(T:Tx K mg C):FnOk P w K mg base CX0 1 f fd ["thing"] jt:=by
 refine F.ok vh (λvs H Q E h=>?_) (λcdv A outer s H vs Q E hr h=>?_)
 ·obtain ⟨x,b,rfl,_⟩:=h
  rfl
 obtain ⟨x,b,rfl,hb,q⟩:=h
 refine ⟨_,af (ao (f7 (aw d8 rfl T.isi PyProof.Rows.boot_isinstance (aa (pv 0) (aa (jw (v:=.ty "int") rfl T.int PyProof.Rows.boot_int rfl) ad)))
  (gX (xw (aw d8 rfl T.isi PyProof.Rows.boot_isinstance (aa (pv 0) (aa (jw (v:=.ty "bool") rfl T.bool PyProof.Rows.boot_bool rfl) ad))))))),?_⟩
 cases x with
 | int i =>
  cases (Option.some.inj hb)
  refine ⟨_,rfl,_,_,_,_,rfl,TyOf.int i,yc,_,rfl,bu ?_⟩
  exact ⟨_,rfl,_,_,_,_,rfl,TyOf.int i,pD,_,rfl,q⟩
 | str z =>
  cases (Option.some.inj hb)
  exact ⟨_,rfl,_,_,_,_,rfl,TyOf.str z,ya,_,rfl,aJ q⟩
 | bl c =>
  cases (Option.some.inj hb)
  refine ⟨_,rfl,_,_,_,_,rfl,TyOf.bl c,yd,_,rfl,bu ?_⟩
  exact ⟨_,rfl,_,_,_,_,rfl,TyOf.bl c,ye,_,rfl,q⟩
 | non =>
  cases (Option.some.inj hb)
  exact ⟨_,rfl,_,_,_,_,rfl,TyOf.non,yb,_,rfl,aJ q⟩
 | ref a =>
  have hb':(match H a with | some (.tup _)=>some false | _=>none)=some b:=hb
  cases e:H a with
  | none=>rw [e] at hb';cases hb'
  | some o =>
   rw [e] at hb'
   cases o with
   | tup xs =>
    cases (Option.some.inj hb')
    exact ⟨_,rfl,_,_,_,_,rfl,TyOf.tup e,xY,_,rfl,aJ q⟩
   | _=>cases hb'
 | _=>cases hb
def shS(z:Str):Str:=Str.ofString (toString ((z.length:Nat):Int))++Str.ofString ":"++z
def lI:Sp:=λvs H Q _=>(∃i,vs=[.int i]/\i.natAbs.log2<1920/\Q (.str (Str.ofString (toString i))) H)\/(∃z,vs=[.str z]/\z.length<=100000/\Q (.str (shS z)) H)
theorem vj:ak ["thing"] ["thing"] (defScope sI):=⟨rfl,rfl,rfl,by decide +kernel,rfl,by decide +kernel,by decide +kernel⟩
theorem v0{n:Nat}(h:n<=100000):(Str.ofString (toString ((n:Nat):Int))).length<=20:=by
 have e:(Str.ofString (toString ((n:Nat):Int))).cps.toList.length<=6:=by
  rw [jq]
  unfold bV
  rw [if_neg (by omega)]
  exact iz (by decide) (by omega)
 have e2:(Str.ofString (toString ((n:Nat):Int))).length=(Str.ofString (toString ((n:Nat):Int))).cps.toList.length:=by simp [Str.length]
 omega
theorem zm{x y:Str}:(x++y).length=x.length+y.length:=by
 show (x.cps++y.cps).size=_
 rw [Array.size_append]
 rfl
theorem gj:1000000<=sizeLine:=by decide
theorem tE{fW:Addr}{dW:FuncData}(F:Fun K "shown" "shown" sI f fd)(T:Tx K mg C)(GW:FnOk P w K mg base CX0 1 fW dW ["thing"] jt)(bW:Binds K dW ["thing"] [])(kW:PySem.W.keepIn K (.ref fW)=true)(mW:mg "is_whole"=some (.ref fW)) :
  FnOk P w K mg base CX0 2 f fd ["thing"] lI:=by
 refine F.ok vj (λvs H Q E h=>?_) (λcdv A outer s H vs Q E hr h=>?_)
 ·rcases h with ⟨i,rfl,_⟩ | ⟨z,rfl,_⟩<;>rfl
 refine ⟨_,ac (aC (bD (ma GW hr rfl mW kW bW .nil bo (aa (pv 0) ad))) (af (ao (aF aT rfl T.str PyProof.Rows.boot_str (aa (pv 0) ad)))) au)
  (ac (aC (bD (aw d8 rfl T.isi PyProof.Rows.boot_isinstance (aa (pv 0) (aa (jw (v:=.ty "str") rfl T.str PyProof.Rows.boot_str rfl) ad))))
   (af (ao (aE aK (aE aK (aF aT rfl T.str PyProof.Rows.boot_str (aa (aw be rfl T.len PySem.boot_len (aa (pv 0) ad)) ad)) aA) (pv 0)))) au)
  aB),?_⟩
 rcases h with ⟨i,rfl,hl,q⟩ | ⟨z,rfl,hl,q⟩
 ·exact ⟨_,rfl,_,_,rfl,rfl,_,rfl,bu ⟨_,rfl,_,rfl,hl,q⟩⟩
 ·refine ⟨_,rfl,_,_,rfl,rfl,_,rfl,aJ ?_⟩
  refine ⟨_,rfl,_,_,_,_,rfl,TyOf.str z,xZ,_,rfl,bu ?_⟩
  have h1:=v0 hl
  have h0:=gj
  refine ⟨_,rfl,_,rfl,by omega,_,rfl,?_,_,_,rfl,rfl,?_,_,rfl,_,_,rfl,rfl,?_,q⟩
  ·exact xU (by
    exact Nat.lt_of_le_of_lt hl (by decide +kernel))
  ·have:(Str.ofString ":").length=1:=rfl
   omega
  ·have:(Str.ofString ":").length=1:=rfl
   have e:(Str.ofString (toString ((z.length:Nat):Int))++Str.ofString ":").length=(Str.ofString (toString ((z.length:Nat):Int))).length+(Str.ofString ":").length:=by rw [zm]
   omega
def rZ:Sp:=λvs H Q _=>∃c:Nat,vs=[.str ⟨#[c]⟩]/\Q (.bl (pi c)) H
theorem scSign:ak ["sign","number"] ["sign"] (defScope wD):=⟨rfl,rfl,rfl,by decide +kernel,rfl,by decide +kernel,by decide +kernel⟩
theorem vI(F:Fun K "is_sign" "is_sign" wD f fd)(T:Tx K mg C):FnOk P w K mg base CX0 1 f fd ["sign"] rZ:=by
 refine F.ok scSign (λvs H Q E h=>?_) (λcdv A outer s H vs Q E hr h=>?_)
 ·obtain ⟨c,rfl,_⟩:=h
  rfl
 obtain ⟨c,rfl,q⟩:=h
 refine ⟨_,ac (aD (i:=1) scSign.nd rfl (Or.inl rfl) (aw uL rfl T.ord PyProof.Rows.boot_ord (aa (pv 0) ad)))
  (af (ao (f7 (sX wJ wJ (mv T.cBl rfl) (pv 1) (mv T.cTi rfl)) (gX (bL f8 (pv 1) (mv T.cPc rfl) (ap _)))))),?_⟩
 refine ⟨_,rfl,_,rfl,rfl,?_⟩
 refine ⟨_,rfl,_,_,rfl,rfl,_,rfl,?_⟩
 have e0:((({cps:=#[c]}:Str).cps.getD 0 0:Nat):Int)=(c:Int):=rfl
 unfold pi at q
 by_cases h1:32<=c
 ·have d1:decide ((32:Int)<=(({cps:=#[c]}:Str).cps.getD 0 0:Nat))=true:=decide_eq_true (by rw [e0];omega)
  rw [d1]
  refine bu ⟨_,_,rfl,rfl,_,rfl,?_⟩
  by_cases h2:c<=126
  ·have d2:decide (((({cps:=#[c]}:Str).cps.getD 0 0:Nat):Int)<=126)=true:=decide_eq_true (by rw [e0];omega)
   rw [d2]
   refine bu ⟨_,rfl,rfl,?_⟩
   have e3:(!decide (V.int (({cps:=#[c]}:Str).cps.getD 0 0:Nat)=V.int 37))=(decide (32<=c)&&decide (c<=126)&&decide (c≠37)):=by
    rw [decide_eq_true h1,decide_eq_true h2,jB,e0]
    by_cases h3:c=37
    ·subst h3;rfl
    ·have:((c:Int)==37)=false:=beq_eq_false_iff_ne.mpr (by omega)
     rw [this,decide_eq_true h3];rfl
   rw [e3]
   exact q
  ·have d2:decide (((({cps:=#[c]}:Str).cps.getD 0 0:Nat):Int)<=126)=false:=decide_eq_false (by rw [e0];omega)
   rw [d2]
   refine aJ ?_
   rw [decide_eq_false h2,Bool.and_false,Bool.false_and] at q
   exact q
 ·have d1:decide ((32:Int)<=(({cps:=#[c]}:Str).cps.getD 0 0:Nat))=false:=decide_eq_false (by rw [e0];omega)
  rw [d1]
  refine aJ ⟨_,rfl,aJ ?_⟩
  rw [decide_eq_false h1,Bool.false_and,Bool.false_and] at q
  exact q
def sk(C:Addr):Sp:=λvs H Q _=>∃p dx z,vs=[.ref p,.str z]/\H p=some (.ins C dx [])/\Q .non (upd (upd H p (.ins C dx (al "text" (.str z) []))) p (.ins C dx (rf z 0)))
theorem xo:ak ["self","text"] ["self","text"] (defScope wF):=⟨rfl,rfl,rfl,by decide +kernel,rfl,by decide +kernel,by decide +kernel⟩
theorem vP(F:Fun K "__init__" "Reader.__init__" wF f fd)(T:Tx K mg C):FnOk P w K mg base CX0 1 f fd ["self","text"] (sk C):=by
 refine F.ok xo (λvs H Q E h=>?_) (λcdv A outer s H vs Q E hr h=>?_)
 ·obtain ⟨p,dx,z,rfl,_⟩:=h
  rfl
 obtain ⟨p,dx,z,rfl,hp,q⟩:=h
 refine ⟨_,ac (aH (pv 0) (pv 1) rfl) (af (aH (pv 0) aj rfl)),?_⟩
 exact ⟨_,rfl,_,rfl,p,C,dx,[],rfl,hp,T.cl,T.nT,(by show 0<1000;decide),_,rfl,p,C,dx,_,rfl,ae,T.cl,T.nP,(by show 1<1000;decide),q⟩
theorem jD(z:Str)(c k:Nat):Txt.startswith3 z ⟨#[c]⟩ (k:Int)=decide (z.cps.toList[k]?=some c):=by
 have e1:fromIndex z.length (k:Int)=k:=by
  unfold fromIndex
  rw [if_neg (by omega)]
  omega
 unfold Txt.startswith3
 rw [e1]
 have e2:(({cps:=#[c]}:Str)).length=1:=rfl
 rw [e2]
 by_cases h:k<z.length
 ·have h':k<z.cps.size:=h
  have e3:Builtin.Str.subAt z ⟨#[c]⟩ k=(z.cps[k]==c):=by
   unfold Builtin.Str.subAt
   rw [e2]
   have e4:z.cps.extract k (k+1)=#[z.cps[k]]:=by
    apply Array.ext
    ·simp;omega
    ·intro i h1 h2
     have:i=0:=by simp at h2;omega
     subst this
     simp
   rw [e4]
   simp
  rw [e3]
  have e5:decide (k+1<=z.length)=true:=decide_eq_true h
  rw [e5,Bool.true_and]
  have e6:z.cps.toList[k]?=some z.cps[k]:=by rw [Array.getElem?_toList];exact Array.getElem?_eq_getElem h'
  rw [e6]
  simp [Bool.beq_eq_decide_eq]
 ·have e5:decide (k+1<=z.length)=false:=decide_eq_false (by omega)
  rw [e5,Bool.false_and]
  have e6:z.cps.toList[k]?=none:=by rw [Array.getElem?_toList];exact Array.getElem?_eq_none (by show z.length<=k;omega)
  rw [e6]
  simp
def r8(C:Addr):Sp:=λvs H Q _=>∃p dx z c,∃k:Nat,vs=[.ref p,.str ⟨#[c]⟩]/\H p=some (.ins C dx (rf z k)) /\
 (if z.cps.toList[k]?=some c then Q (.bl true) (upd H p (.ins C dx (rf z ((k+1:Nat):Int)))) else Q (.bl false) H)
theorem xn:ak ["self","sign"] ["self","sign"] (defScope wE):=⟨rfl,rfl,rfl,by decide +kernel,rfl,by decide +kernel,by decide +kernel⟩
theorem vM(F:Fun K "passes" "Reader.passes" wE f fd)(T:Tx K mg C):FnOk P w K mg base CX0 1 f fd ["self","sign"] (r8 C):=by
 refine F.ok xn (λvs H Q E h=>?_) (λcdv A outer s H vs Q E hr h=>?_)
 ·obtain ⟨p,dx,z,c,k,rfl,_⟩:=h
  rfl
 obtain ⟨p,dx,z,c,k,rfl,hp,q⟩:=h
 refine ⟨_,ac (aC (jP (bD (eL PySem.F.plainAttrs_str PySem.F.slot_str_startswith PySem.F.type_str_startswith jW (aq (pv 0) rfl) (aa (pv 1) (aa (aq (pv 0) rfl) ad))))) (af (ao dX)) au)
  (ac (iW (pv 0) aj pJ) (af (ao dX))),?_⟩
 refine ⟨_,rfl,p,C,dx,_,_,rfl,hp,T.cl,T.nT,gx _ _,rfl,_,rfl,_,rfl,p,C,dx,_,_,rfl,hp,T.cl,T.nP,ck _ _,_,_,_,rfl,rfl,_,rfl,?_⟩
 rw [jD]
 by_cases hk:z.cps.toList[k]?=some c
 ·rw [if_pos hk] at q
  rw [decide_eq_true hk]
  refine aJ ?_
  refine ⟨_,rfl,p,C,dx,_,_,rfl,hp,T.cl,T.nP,ck _ _,_,_,rfl,rfl,dx,_,hp,(by rw [o6];decide),?_⟩
  rw [oZ]
  have e:((k:Int)+1)=((k+1:Nat):Int):=by omega
  rw [e]
  exact q
 ·rw [if_neg hk] at q
  rw [decide_eq_false hk]
  exact bu q
end
theorem hV{x y:Str}(h:x.cps.toList=y.cps.toList):x=y:=by
 obtain ⟨a⟩:=x
 obtain ⟨b⟩:=y
 have:a=b:=Array.toList_inj.mp h
 rw [this]
theorem ir(z:Str):z.length=z.cps.toList.length:=by simp [Str.length]
theorem kI{z:Str}{pre ds post:List Nat}(e:z.cps.toList=pre++ds++post):Txt.slice z (some ((pre.length:Nat):Int)) (some (((pre.length+ds.length:Nat)):Int))=⟨ds.toArray⟩:=by
 have hl:z.cps.toList.length=pre.length+ds.length+post.length:=by rw [e];simp;omega
 have q:=PyProof.Rows.slice_closes (x:=z) (i:=((pre.length:Nat):Int)) (j:=((pre.length+ds.length:Nat):Int)) ⟨by omega,by omega,by omega⟩
 rw [eq_of_beq q]
 refine hV ?_
 have e1:(((pre.length+ds.length:Nat):Int)-((pre.length:Nat):Int)).toNat=ds.length:=by omega
 have e2:(((pre.length:Nat):Int)).toNat=pre.length:=by omega
 rw [e1,e2,e,List.append_assoc,List.drop_left,List.take_left]
theorem oT{z:Str}{pre ds post:List Nat}{i j:Int}(e:z.cps.toList=pre++ds++post)(hi:i=((pre.length:Nat):Int))(hj:j=((pre.length+ds.length:Nat):Int)):Txt.slice z (some i) (some j)=⟨ds.toArray⟩:=by
 subst hi hj
 exact kI e
theorem uX:∀c:Nat,c<128->Unicode.isDigit c=oj c:=by decide +kernel
theorem jf{c:Nat}(h:c<128):Txt.isdigit ⟨#[c]⟩=oj c:=by
 rw [← uX c h]
 unfold Txt.isdigit
 simp [Str.length]
def uU(ds:List Nat):Prop:=AllDigits ds/\ds≠[]/\ds.length<=400/\(ds=[48]\/∀c r,ds=c::r->c≠48)
def qz(post:List Nat):Prop:=∀c r,post=c::r->c<128/\oj c=false
def But(p:Addr)(H H':Hp):Prop:=∀b o,H b=some o->b≠p->H' b=some o
theorem But.refl(p:Addr)(H:Hp):But p H H:=λ_ _ e _=>e
theorem But.upd{p:Addr}{H H':Hp}(h:But p H H')(o:HO):But p H (L2.upd H' p o):=λb u e n=>by rw [ay n];exact h b u e n
theorem But.trans{p:Addr}{H H1 H2:Hp}(a:But p H H1)(b:But p H1 H2):But p H H2:=λc o e n=>b c o (a c o e n) n
theorem u8(x y:Str):Txt.startswith x y=Txt.startswith3 x y ((0:Nat):Int):=by
 unfold Txt.startswith Txt.startswith3
 have e:fromIndex x.length ((0:Nat):Int)=0:=by unfold fromIndex;simp
 rw [e]
section
variable {P:Program}{w:World}{K:PySem.W.Frag}{mg:Str->Option Value}{base:Heap}{f C:Addr}{fd:FuncData}
def sg(C:Addr):Sp:=λvs H Q _=>∃p dx z pre ds post,vs=[.ref p]/\z.cps.toList=pre++ds++post/\H p=some (.ins C dx (rf z (pre.length:Nat)))/\z.length<=100000/\uU ds/\qz post /\
 ∀H',H' p=some (.ins C dx (rf z ((pre.length+ds.length:Nat):Int)))->But p H H'->Q (.int (digitsVal ds:Nat)) H'
theorem scNum:ak ["self","start","figures"] ["self"] (defScope yQ):=⟨rfl,rfl,rfl,by decide +kernel,rfl,by decide +kernel,by decide +kernel⟩
theorem wc:(Str.ofString "")=⟨#[]⟩:=by decide +kernel
theorem uz:(Str.ofString "0")=⟨#[48]⟩:=by decide +kernel
def mK(K:PySem.W.Frag):TT:=yH (wy (tOp (rI0 λi j=>.bl (decide (i<j))) (qG K (oJ 0) "place") (tCB (λxs H Q=>∃z,xs=[.str z]/\z.length<=sizeLine/\Q (.int z.length) H) (wA (qG K (oJ 0) "text") u5))))
 (tB (yE K "str" (λx vs H Q=>∃z,x=.str z/\vs=[]/\Q (.bl (Txt.isdigit z)) H) (tOp yW (qG K (oJ 0) "text") (qG K (oJ 0) "place"))))
theorem uf{p dx:Addr}{z:Str}{pre ds post:List Nat}{j:Nat}{σ:St}{H1:Hp}{R:Bool->Hp->Prop}(T:Tx K mg C)(ez:z.cps.toList=pre++ds++post)(hz:z.length<=100000)(d1:AllDigits ds)(hpo:qz post)(hj:j<=ds.length)
  (e0:σ[0]?=some (some (.ref p)))(hp1:H1 p=some (.ins C dx (rf z ((pre.length+j:Nat):Int))))(h:R (decide (j<ds.length)) H1):mK K σ H1 R:=by
 have hu:=gj
 have lz:z.length=pre.length+ds.length+post.length:=by rw [ir,ez];simp;omega
 refine ⟨_,e0,p,C,dx,_,_,rfl,hp1,T.cl,T.nP,ck _ _,_,e0,p,C,dx,_,_,rfl,hp1,T.cl,T.nT,gx _ _,_,rfl,by omega,_,_,rfl,rfl,_,rfl,?_⟩
 by_cases hlt:(pre.length+j:Nat)<z.length
 ·rw [decide_eq_true (show (((pre.length+j:Nat)):Int)<((z.length:Nat):Int) by omega)]
  have hlt':pre.length+j<z.cps.toList.length:=by rw [← ir];exact hlt
  obtain ⟨c,hc⟩:∃c,z.cps.toList[pre.length+j]?=some c:=⟨_,List.getElem?_eq_getElem hlt'⟩
  refine bu ⟨_,e0,p,C,dx,_,_,rfl,hp1,T.cl,T.nT,gx _ _,_,e0,p,C,dx,_,_,rfl,hp1,T.cl,T.nP,ck _ _,z,_,c,rfl,rfl,by omega,bv hc,rfl,_,rfl,rfl,_,rfl,?_⟩
  by_cases hjd:j<ds.length
  ·have ec:ds[j]?=some c:=by
    rw [ez,List.append_assoc,List.getElem?_append_right (by omega),List.getElem?_append_left (by omega)] at hc
    rw [← hc];congr 1;omega
   have dc:48<=c/\c<=57:=d1 c (List.mem_of_getElem? ec)
   have e1:Txt.isdigit ⟨#[c]⟩=true:=by rw [jf (by omega)];unfold oj;rw [decide_eq_true dc.1,decide_eq_true dc.2];rfl
   rw [decide_eq_true hjd] at h
   rw [e1]
   exact h
  ·have hjd':j=ds.length:=by omega
   have ec:post[0]?=some c:=by
    rw [ez,List.getElem?_append_right (by rw [List.length_append];omega)] at hc
    rw [← hc];congr 1;rw [List.length_append];omega
   have hp2:c<128/\oj c=false:=by
    cases post with
    | nil=>cases ec
    | cons a r=>exact hpo c r (by rw [show a=c by simpa using ec])
   have e1:Txt.isdigit ⟨#[c]⟩=false:=by rw [jf hp2.1];exact hp2.2
   rw [decide_eq_false hjd] at h
   rw [e1]
   exact h
 ·rw [decide_eq_false (show ¬(((pre.length+j:Nat)):Int)<((z.length:Nat):Int) by omega)]
  rw [decide_eq_false (show ¬j<ds.length by omega)] at h
  exact aJ h
theorem xF(F:Fun K "read_number" "Reader.read_number" yQ f fd)(T:Tx K mg C):FnOk P w K mg base CX0 1 f fd ["self"] (sg C):=by
 refine F.ok scNum (λvs H Q E h=>?_) (λcdv A outer s H vs Q E hr h=>?_)
 ·obtain ⟨p,dx,z,pre,ds,post,rfl,_⟩:=h
  rfl
 obtain ⟨p,dx,z,pre,ds,post,rfl,ez,hp,hz,hds,hpo,q⟩:=h
 obtain ⟨d1,d2,d3,d4⟩:=hds
 have hu:=gj
 have lz:z.length=pre.length+ds.length+post.length:=by rw [ir,ez];simp;omega
 refine ⟨_,ac (aD (i:=1) scNum.nd rfl (Or.inl rfl) (aq (pv 0) rfl))
  (ac (jQ (tc:=mK K) PassesOwn.never (PW.pt (da (am jV (aq (pv 0) rfl) (aw be rfl T.len PySem.boot_len (aa (aq (pv 0) rfl) ad)) (ap _))
    (cS (bD (xx PySem.F.plainAttrs_str PySem.F.slot_str_isdigit PySem.F.type_str_isdigit pr (aI uq (aq (pv 0) rfl) (aq (pv 0) rfl) (λ_ _=>rfl)))))))
   (af (iW (pv 0) aj pJ)))
  (ac (aD (i:=2) scNum.nd rfl (Or.inl rfl) (dD sw (aq (pv 0) rfl) (cT (pv 1)) (cT (aq (pv 0) rfl))))
  (ac (aC (am aR (pv 2) aA (ap _)) aB au)
  (ac (aC (am jd (aw be rfl T.len PySem.boot_len (aa (pv 2) ad)) (mv T.cFig rfl) (ap _)) aB au)
  (ac (aC (PW.pt (da (bD (eL PySem.F.plainAttrs_str PySem.F.slot_str_startswith PySem.F.type_str_startswith kr (pv 2) (aa aA ad))) (cS (am f8 (pv 2) aA (ap _))))) aB au)
  (af (ao (aF kx rfl T.int PyProof.Rows.boot_int (aa (pv 2) ad))))))))),?_⟩
 refine ⟨_,rfl,p,C,dx,_,_,rfl,hp,T.cl,T.nP,ck _ _,?_⟩
 refine ⟨λm σ H1=>∃j,m=ds.length-j/\j<=ds.length/\σ=[some (.ref p),some (.int (pre.length:Nat)),none]/\H1 p=some (.ins C dx (rf z ((pre.length+j:Nat):Int)))/\But p H H1,
  ⟨ds.length,0,rfl,Nat.zero_le _,rfl,hp,But.refl p H⟩,?_⟩
 rintro m σ H1 ⟨j,rfl,hj,rfl,hp1,bt⟩
 refine uf T ez hz d1 hpo hj rfl hp1 ?_
 by_cases hjd:j<ds.length
 ·rw [decide_eq_true hjd]
  refine bu ⟨_,fun σ' H' h=>h,?_⟩
  refine ⟨_,rfl,p,C,dx,_,_,rfl,hp1,T.cl,T.nP,ck _ _,_,_,rfl,rfl,dx,_,hp1,(by rw [o6];decide),?_⟩
  refine ⟨ds.length-(j+1),by omega,j+1,rfl,hjd,rfl,?_,bt.upd _⟩
  rw [ae,oZ]
  have e:(((pre.length+j:Nat)):Int)+1=((pre.length+(j+1):Nat):Int):=by omega
  rw [e]
 ·rw [decide_eq_false hjd]
  obtain rfl:j=ds.length:=by omega
  refine aJ ?_
  refine ⟨_,rfl,p,C,dx,_,_,rfl,hp1,T.cl,T.nT,gx _ _,_,rfl,_,rfl,_,rfl,p,C,dx,_,_,rfl,hp1,T.cl,T.nP,ck _ _,_,rfl,z,rfl,by omega,?_⟩
  rw [kI ez]
  have dl:(({cps:=ds.toArray}:Str)).length=ds.length:=by simp [Str.length]
  refine ⟨_,rfl,rfl,_,rfl,?_⟩
  have n1:¬(V.str ({cps:=ds.toArray}:Str)=V.str (Str.ofString "")):=by
   intro e
   have e':(({cps:=ds.toArray}:Str))=Str.ofString "":=by injection e
   rw [wc] at e'
   have e2:=congrArg (λs:Str=>s.cps.toList) e'
   exact d2 (by simpa using e2)
  rw [decide_eq_false n1]
  refine aJ ?_
  refine ⟨_,rfl,_,rfl,by omega,_,_,rfl,rfl,_,rfl,?_⟩
  rw [decide_eq_false (show ¬((400:Int)<((({cps:=ds.toArray}:Str)).length:Nat)) by rw [dl];omega)]
  refine aJ ?_
  have it:PySem.intText? ({cps:=ds.toArray}:Str)=some ((digitsVal ds:Nat):Int):=by
   have:=intText_digits (x:=({cps:=ds.toArray}:Str)) (by simpa using d1) (by simpa using d2) (by rw [dl];omega)
   simpa using this
  refine ⟨_,rfl,rfl,_,_,rfl,rfl,_,rfl,?_⟩
  have hs:Txt.startswith ({cps:=ds.toArray}:Str) (Str.ofString "0")=decide (ds[0]?=some 48):=by
   rw [uz,u8,jD]
  rw [hs]
  rcases d4 with e4 | h4
  ·subst e4
   refine bu ⟨_,rfl,rfl,_,rfl,?_⟩
   have n3:V.str ({cps:=([48]:List Nat).toArray}:Str)=V.str (Str.ofString "0"):=by rw [uz]
   rw [decide_eq_true n3]
   exact aJ ⟨_,rfl,_,_,rfl,it,by rw [dl];omega,q H1 hp1 bt⟩
  ·have n4:¬ds[0]?=some 48:=by
    cases ds with
    | nil=>exact absurd rfl d2
    | cons c r=>intro e;exact h4 c r rfl (by simpa using e)
   rw [decide_eq_false n4]
   exact aJ (aJ ⟨_,rfl,_,_,rfl,it,by rw [dl];omega,q H1 hp1 bt⟩)
def pW(C:Addr):Sp:=λvs H Q _=>∃p dx z pre ws post,vs=[.ref p,.int ((ws:List Nat).length:Nat)]/\z.cps.toList=pre++ws++post/\H p=some (.ins C dx (rf z (pre.length:Nat)))/\z.length<=100000/\ws.length<=2000 /\
 ∀H',H' p=some (.ins C dx (rf z ((pre.length+ws.length:Nat):Int)))->But p H H'->Q (.str ⟨ws.toArray⟩) H'
theorem scSigns:ak ["self","many","behind","signs"] ["self","many"] (defScope sH):=⟨rfl,rfl,rfl,by decide +kernel,rfl,by decide +kernel,by decide +kernel⟩
theorem tD(F:Fun K "read_signs" "Reader.read_signs" sH f fd)(T:Tx K mg C):FnOk P w K mg base CX0 1 f fd ["self","many"] (pW C):=by
 refine F.ok scSigns (λvs H Q E h=>?_) (λcdv A outer s H vs Q E hr h=>?_)
 ·obtain ⟨p,dx,z,pre,ws,post,rfl,_⟩:=h
  rfl
 obtain ⟨p,dx,z,pre,ws,post,rfl,ez,hp,hz,hw,q⟩:=h
 have hu:=gj
 have lz:z.length=pre.length+ws.length+post.length:=by rw [ir,ez];simp;omega
 refine ⟨_,ac (aD (i:=2) scSigns.nd rfl (Or.inl rfl) (aE eE (aq (pv 0) rfl) (pv 1)))
  (ac (aC (am jd (pv 1) (mv T.cSig rfl) (ap _)) aB au)
  (ac (aC (am jd (pv 2) (aw be rfl T.len PySem.boot_len (aa (aq (pv 0) rfl) ad)) (ap _)) aB au)
  (ac (aD (i:=3) scSigns.nd rfl (Or.inl rfl) (dD sw (aq (pv 0) rfl) (cT (aq (pv 0) rfl)) (cT (pv 2))))
  (ac (aH (pv 0) (pv 2) rfl)
  (af (ao (pv 3))))))),?_⟩
 refine ⟨_,rfl,p,C,dx,_,_,rfl,hp,T.cl,T.nP,ck _ _,_,rfl,_,_,rfl,rfl,?_⟩
 refine ⟨_,rfl,_,_,rfl,rfl,_,rfl,?_⟩
 rw [decide_eq_false (show ¬((2000:Int)<((ws.length:Nat):Int)) by omega)]
 refine aJ ⟨_,rfl,_,rfl,p,C,dx,_,_,rfl,hp,T.cl,T.nT,gx _ _,z,rfl,by omega,_,_,rfl,rfl,_,rfl,?_⟩
 have eb:((pre.length:Nat):Int)+((ws.length:Nat):Int)=((pre.length+ws.length:Nat):Int):=by omega
 rw [eb]
 rw [decide_eq_false (show ¬(((z.length:Nat):Int)<((pre.length+ws.length:Nat):Int)) by omega)]
 refine aJ ⟨_,rfl,p,C,dx,_,_,rfl,hp,T.cl,T.nT,gx _ _,_,rfl,p,C,dx,_,_,rfl,hp,T.cl,T.nP,ck _ _,_,rfl,_,rfl,_,rfl,z,rfl,by omega,?_⟩
 rw [oT ez rfl eb]
 refine ⟨_,rfl,_,rfl,p,C,dx,_,rfl,hp,T.cl,T.nP,(by rw [o6];decide),_,rfl,?_⟩
 refine q _ ?_ ((But.refl p H).upd _)
 rw [ae,← eb]
 exact congrArg (λl=>some (HO.ins C dx l)) (oZ z _ _)
def p7(C:Addr):Sp:=λvs H Q _=>∃p dx z pre ds post,vs=[.ref p]/\z.cps.toList=pre++ds++post/\H p=some (.ins C dx (rf z (pre.length:Nat)))/\z.length<=100000/\uU ds/\qz post/\digitsVal ds≠0 /\
 ∀H',H' p=some (.ins C dx (rf z ((pre.length+ds.length:Nat):Int)))->But p H H'->Q (.int (-((digitsVal ds:Nat):Int))) H'
theorem scBelow:ak ["self","number"] ["self"] (defScope sJ):=⟨rfl,rfl,rfl,by decide +kernel,rfl,by decide +kernel,by decide +kernel⟩
theorem ud{fN:Addr}{dN:FuncData}(F:Fun K "read_below" "Reader.read_below" sJ f fd)(T:Tx K mg C)(GN:FnOk P w K mg base CX0 1 fN dN ["self"] (sg C))(bN:Binds K dN ["self"] [])(mN:g7 K C "read_number" fN) :
  FnOk P w K mg base CX0 2 f fd ["self"] (p7 C):=by
 refine F.ok scBelow (λvs H Q E h=>?_) (λcdv A outer s H vs Q E hr h=>?_)
 ·obtain ⟨p,dx,z,pre,ds,post,rfl,_⟩:=h
  rfl
 obtain ⟨p,dx,z,pre,ds,post,rfl,ez,hp,hz,hds,hpo,hne,q⟩:=h
 refine ⟨_,ac (aD (i:=1) scBelow.nd rfl (Or.inl rfl) (ik (pv 0) T.cl mN GN hr bN .nil bo))
  (ac (aC (am aR (pv 1) aj (ap _)) aB au)
  (af (ao (wI rO (pv 1))))),?_⟩
 refine ⟨_,rfl,p,dx,_,rfl,hp,kL _ _ (by decide +kernel) (by decide +kernel),p,dx,z,pre,ds,post,rfl,ez,hp,hz,hds,hpo,λH1 hp1 bt=>?_⟩
 refine ⟨_,rfl,rfl,_,rfl,?_⟩
 have n1:¬(V.int ((digitsVal ds:Nat):Int)=V.int 0):=by intro e;injection e with e;omega
 rw [decide_eq_false n1]
 exact aJ ⟨_,rfl,_,rfl,q H1 hp1 bt⟩
end
inductive ww:List Nat->V->Prop where
 | num (n:Int) (h:n.natAbs<10 ^ 400):ww (bV n) (.int n)
 | txt (ws:List Nat) (h:ws.length<=2000):ww (bh ws.length++58::ws) (.str ⟨ws.toArray⟩)
def Ends(post:List Nat):Prop:=∀c r,post=c::r->c=32\/c=41
theorem j9(m:Nat)(h:m<10 ^ 400):uU (bh m):=by
 refine ⟨iC m,mx m,iz (by decide) h,?_⟩
 by_cases h0:m=0
 ·subst h0;exact .inl rE
 ·exact .inr (rF m h0)
theorem Ends.stops{post:List Nat}(h:Ends post):qz post:=λc r e=>by
 rcases h c r e with rfl | rfl<;>exact ⟨by decide,by decide⟩
theorem pM:(Str.ofString "(")=⟨#[40]⟩:=by decide +kernel
theorem mw:(Str.ofString "-")=⟨#[45]⟩:=by decide +kernel
theorem qp:(Str.ofString ":")=⟨#[58]⟩:=by decide +kernel
theorem pQ{z:Str}{pre rest:List Nat}(e:z.cps.toList=pre++rest):z.cps.toList[pre.length]?=rest[0]?:=by
 rw [e,List.getElem?_append_right (Nat.le_refl _),Nat.sub_self]
theorem k9(m:Nat):∃c r,bh m=c::r/\48<=c/\c<=57:=by
 cases e:bh m with
 | nil=>exact absurd e (mx m)
 | cons c r =>
  have h:=iC m
  rw [e] at h
  exact ⟨c,r,rfl,h.head⟩
section
variable {P:Program}{w:World}{K:PySem.W.Frag}{mg:Str->Option Value}{base:Heap}{f C:Addr}{fd:FuncData}
def wC(C:Addr):Sp:=λvs H Q _=>∃p dx z pre it post v d,vs=[.ref p,d]/\z.cps.toList=pre++it++post/\H p=some (.ins C dx (rf z ((pre:List Nat).length:Nat)))/\z.length<=100000/\ww it v/\Ends post /\
 ∀H',H' p=some (.ins C dx (rf z ((pre.length+it.length:Nat):Int)))->But p H H'->Q v H'
theorem scAny:ak ["self","deep","number"] ["self","deep"] (defScope yS):=⟨rfl,rfl,rfl,by decide +kernel,rfl,by decide +kernel,by decide +kernel⟩
theorem xQ{fP fB fN fS:Addr}{dP dB dN dS:FuncData}(F:Fun K "read_any" "Reader.read_any" yS f fd)(T:Tx K mg C)
  (GP:FnOk P w K mg base CX0 1 fP dP ["self","sign"] (r8 C))(bP:Binds K dP ["self","sign"] [])(mP:g7 K C "passes" fP)
  (GB:FnOk P w K mg base CX0 2 fB dB ["self"] (p7 C))(bB:Binds K dB ["self"] [])(mB:g7 K C "read_below" fB)
  (GN:FnOk P w K mg base CX0 1 fN dN ["self"] (sg C))(bN:Binds K dN ["self"] [])(mN:g7 K C "read_number" fN)
  (GS:FnOk P w K mg base CX0 1 fS dS ["self","many"] (pW C))(bS:Binds K dS ["self","many"] [])(mS:g7 K C "read_signs" fS) :
  FnOk P w K mg base CX0 3 f fd ["self","deep"] (wC C):=by
 refine F.ok scAny (λvs H Q E h=>?_) (λcdv A outer s H vs Q E hr h=>?_)
 ·obtain ⟨p,dx,z,pre,it,post,v,d,rfl,_⟩:=h
  rfl
 obtain ⟨p,dx,z,pre,it,post,v,d,rfl,ez,hp,hz,hit,hen,q⟩:=h
 have hr1:=hr.mono (show 1<=2 by decide)
 have np:∀(k:Int),(rf z k).lookup ("passes":Str)=none:=λk=>kL _ _ (by decide +kernel) (by decide +kernel)
 have nn:∀(k:Int),(rf z k).lookup ("read_number":Str)=none:=λk=>kL _ _ (by decide +kernel) (by decide +kernel)
 have nb:∀(k:Int),(rf z k).lookup ("read_below":Str)=none:=λk=>kL _ _ (by decide +kernel) (by decide +kernel)
 have ns:∀(k:Int),(rf z k).lookup ("read_signs":Str)=none:=λk=>kL _ _ (by decide +kernel) (by decide +kernel)
 refine ⟨_,ac (aC (bD (gz (pv 0) T.cl mP GP hr1 bP .nil bo (aa aA ad))) aB au)
  (ac (aC (bD (gz (pv 0) T.cl mP GP hr1 bP .nil bo (aa aA ad))) (af (ao (ik (pv 0) T.cl mB GB hr bB .nil bo))) au)
  (ac (aD (i:=2) scAny.nd rfl (Or.inl rfl) (ik (pv 0) T.cl mN GN hr1 bN .nil bo))
  (ac (aC (bD (gz (pv 0) T.cl mP GP hr1 bP .nil bo (aa aA ad))) (af (ao (gz (pv 0) T.cl mS GS hr1 bS .nil bo (aa (pv 2) ad)))) au)
  (af (ao (pv 2)))))),?_⟩
 have ez':z.cps.toList=pre++(it++post):=by rw [ez,List.append_assoc]
 have h0:=pQ ez'
 cases hit with
 | num n hn =>
  by_cases hneg:n<0
  ·have en:bV n=45::bh n.natAbs:=by unfold bV;rw [if_pos hneg]
   rw [en] at ez ez' q h0
   have h0':z.cps.toList[pre.length]?=some 45:=h0
   refine ⟨_,rfl,p,dx,_,rfl,hp,np _,p,dx,z,40,pre.length,(by rw [pM];rfl),hp,?_⟩
   rw [if_neg (by rw [h0'];decide)]
   refine ⟨_,rfl,aJ ?_⟩
   refine ⟨_,rfl,p,dx,_,rfl,hp,np _,p,dx,z,45,pre.length,(by rw [mw];rfl),hp,?_⟩
   rw [if_pos h0']
   refine ⟨_,rfl,bu ?_⟩
   refine ⟨_,rfl,p,dx,_,rfl,ae,nb _,p,dx,z,pre++[45],bh n.natAbs,post,rfl,(by rw [ez];simp),(by rw [ae];simp),hz,j9 _ hn,hen.stops,(by rw [ix];omega),λH' hp' bt=>?_⟩
   have e1:(-((digitsVal (bh n.natAbs):Nat):Int))=n:=by rw [ix];omega
   rw [e1]
   refine q H' ?_ (((But.refl p H).upd _).trans bt)
   rw [hp']
   have e2:(pre++[45]).length+(bh n.natAbs).length=pre.length+(45::bh n.natAbs).length:=by simp;omega
   rw [e2]
  ·have en:bV n=bh n.natAbs:=by unfold bV;rw [if_neg hneg]
   rw [en] at ez ez' q h0
   obtain ⟨c,r,ec,hc⟩:=k9 n.natAbs
   have h0':z.cps.toList[pre.length]?=some c:=by rw [h0,ec];rfl
   refine ⟨_,rfl,p,dx,_,rfl,hp,np _,p,dx,z,40,pre.length,(by rw [pM];rfl),hp,?_⟩
   rw [if_neg (by rw [h0'];intro e;injection e with e;omega)]
   refine ⟨_,rfl,aJ ?_⟩
   refine ⟨_,rfl,p,dx,_,rfl,hp,np _,p,dx,z,45,pre.length,(by rw [mw];rfl),hp,?_⟩
   rw [if_neg (by rw [h0'];intro e;injection e with e;omega)]
   refine ⟨_,rfl,aJ ?_⟩
   refine ⟨_,rfl,p,dx,_,rfl,hp,nn _,p,dx,z,pre,bh n.natAbs,post,rfl,ez,hp,hz,j9 _ hn,hen.stops,λH1 hp1 bt=>?_⟩
   have h1:z.cps.toList[pre.length+(bh n.natAbs).length]?=post[0]?:=by
    have:=pQ (z:=z) (pre:=pre++bh n.natAbs) (rest:=post) ez
    rw [List.length_append] at this
    exact this
   refine ⟨_,rfl,p,dx,_,rfl,hp1,np _,p,dx,z,58,pre.length+(bh n.natAbs).length,(by rw [qp];rfl),hp1,?_⟩
   rw [if_neg (by
    rw [h1]
    intro e
    cases post with
    | nil=>cases e
    | cons a r' =>
     have:=hen a r' rfl
     have ea:a=58:=by simpa using e
     omega)]
   refine ⟨_,rfl,aJ ⟨_,rfl,?_⟩⟩
   have e1:((digitsVal (bh n.natAbs):Nat):Int)=n:=by rw [ix];omega
   rw [e1]
   exact q H1 hp1 bt
 | txt ws hw =>
  obtain ⟨c,r,ec,hc⟩:=k9 ws.length
  have h0':z.cps.toList[pre.length]?=some c:=by rw [h0,ec];rfl
  refine ⟨_,rfl,p,dx,_,rfl,hp,np _,p,dx,z,40,pre.length,(by rw [pM];rfl),hp,?_⟩
  rw [if_neg (by rw [h0'];intro e;injection e with e;omega)]
  refine ⟨_,rfl,aJ ?_⟩
  refine ⟨_,rfl,p,dx,_,rfl,hp,np _,p,dx,z,45,pre.length,(by rw [mw];rfl),hp,?_⟩
  rw [if_neg (by rw [h0'];intro e;injection e with e;omega)]
  refine ⟨_,rfl,aJ ?_⟩
  have hl:ws.length<10 ^ 400:=Nat.lt_of_le_of_lt hw (by decide +kernel)
  have ez2:z.cps.toList=pre++bh ws.length++(58::(ws++post)):=by rw [ez];simp
  refine ⟨_,rfl,p,dx,_,rfl,hp,nn _,p,dx,z,pre,bh ws.length,58::(ws++post),rfl,ez2,hp,hz,j9 _ hl,λc' r' e=>(by cases e;exact ⟨by decide,by decide⟩),λH1 hp1 bt=>?_⟩
  have h1:z.cps.toList[pre.length+(bh ws.length).length]?=some 58:=by
   have:=pQ (z:=z) (pre:=pre++bh ws.length) (rest:=58::(ws++post)) ez2
   rw [List.length_append] at this
   exact this
  refine ⟨_,rfl,p,dx,_,rfl,hp1,np _,p,dx,z,58,pre.length+(bh ws.length).length,(by rw [qp];rfl),hp1,?_⟩
  rw [if_pos h1]
  refine ⟨_,rfl,bu ?_⟩
  have el:(pre++bh ws.length++[58]).length=pre.length+(bh ws.length).length+1:=by simp;omega
  refine ⟨_,rfl,p,dx,_,rfl,ae,ns _,_,rfl,p,dx,z,pre++bh ws.length++[58],ws,post,(by rw [ix];rfl),(by rw [ez2];simp),(by rw [ae,el]),hz,hw,λH2 hp2 bt2=>?_⟩
  refine q H2 ?_ ((bt.upd _).trans bt2)
  rw [hp2]
  have e2:(pre++bh ws.length++[58]).length+ws.length=pre.length+(bh ws.length++58::ws).length:=by simp;omega
  rw [e2]
def oN:Sp:=λvs H Q _=>∃z v,vs=[.str z]/\ww z.cps.toList v/\(∀c∈z.cps.toList,pi c=true)/\z.length<=100000/\∀H',Same H H'->Q v H'
theorem scRead:ak ["text","reader","thing"] ["text"] (defScope p9):=⟨rfl,rfl,rfl,by decide +kernel,rfl,by decide +kernel,by decide +kernel⟩
def sO:Scope:=match defBody p9 with
 | _::.If (.UnaryOp _ (.Call _ [.ListComp _ _ sc _] _ _) _) _ _ _::_=>sc
 | _=>default
theorem xp:bc ["text","reader","thing"] (defScope p9) sO "sign" ["sign"] []:=⟨by decide +kernel,rfl,by decide +kernel,rfl,by decide +kernel,by decide +kernel,rfl,rfl,λj h=>absurd h (Nat.not_lt_zero j)⟩
theorem vK{fG fI fA:Addr}{dG dI dA:FuncData}(F:Fun K "read_thing" "read_thing" p9 f fd)(T:Tx K mg C)(M:Mk K C fI)
  (GG:FnOk P w K mg base CX0 1 fG dG ["sign"] rZ)(bG:Binds K dG ["sign"] [])(kG:PySem.W.keepIn K (.ref fG)=true)(mG:mg "is_sign"=some (.ref fG))
  (GI:FnOk P w K mg base CX0 1 fI dI ["self","text"] (sk C))(bI:Binds K dI ["self","text"] [])
  (GA:FnOk P w K mg base CX0 3 fA dA ["self","deep"] (wC C))(bA:Binds K dA ["self","deep"] [])(mA:g7 K C "read_any" fA) :
  FnOk P w K mg base CX0 4 f fd ["text"] oN:=by
 refine F.ok scRead (λvs H Q E h=>?_) (λcdv A outer s H vs Q E hr h=>?_)
 ·obtain ⟨z,v,rfl,_⟩:=h
  rfl
 obtain ⟨z,v,rfl,hit,hok,hz,q⟩:=h
 have hr1:=hr.mono (show 1<=3 by decide)
 have hr2:=hr.mono (show 2<=3 by decide)
 have hu:=gj
 refine ⟨_,ac (aC (am jd (aw be rfl T.len PySem.boot_len (aa (pv 0) ad)) (mv T.cLong rfl) (ap _)) aB au)
  (ac (aC (jP (bD (aw (oz rfl) rfl T.all PyProof.Rows.boot_all (aa (fY xp rfl (xt (pv 0)) (λ_ _ _ _=>fe) (λ_ _ _ _=>ma GG hr1 rfl mG kG bG .nil bo (aa (pv 0) ad))) ad)))) aB au)
  (ac (aD (i:=1) scRead.nd rfl (Or.inl rfl) (ce M GI hr2 rfl T.mgC bI .nil bo (aa (pv 0) ad)))
  (ac (aD (i:=2) scRead.nd rfl (Or.inl rfl) (gz (pv 1) T.cl mA GA hr bA .nil bo (aa (mv T.cDeep rfl) ad)))
  (ac (aC (am f8 (aq (pv 1) rfl) (aw be rfl T.len PySem.boot_len (aa (pv 0) ad)) (ap _)) aB au)
  (af (ao (pv 2))))))),?_⟩
 refine ⟨_,rfl,z,rfl,by omega,_,_,rfl,rfl,_,rfl,?_⟩
 rw [decide_eq_false (show ¬((100000:Int)<((z.length:Nat):Int)) by omega)]
 refine aJ ?_
 refine ⟨_,rfl,z,rfl,λi ys H1=>i<=z.length/\ys=List.replicate i (V.bl true)/\H1=H,z.length,⟨Nat.zero_le _,rfl,rfl⟩,by omega,?_⟩
 rintro i ys H1 ⟨hi,rfl,rfl⟩
 by_cases hlt:i<z.length
 ·refine .inr ⟨hlt,hlt,?_⟩
  rintro x H2 ⟨rfl,c,hc,rfl⟩
  refine ⟨_,rfl,c,rfl,hlt,?_,rfl⟩
  rw [hok c (List.mem_of_getElem? hc),List.replicate_succ']
 refine .inl ⟨by show z.length<=i;omega,λl hl=>?_⟩
 have e0:List.replicate i (V.bl true)=(List.replicate i true).map V.bl:=by simp
 refine ⟨l,List.replicate i true,rfl,SqL.of (by rw [ae,e0]),_,rfl,?_⟩
 have e1:(List.replicate i true).all id=true:=by simp
 rw [e1]
 refine aJ ?_
 have sl:Same H1 (upd H1 l (.lst (List.replicate i (V.bl true)))):=λb o e=>by rw [ay (ah e hl)];exact e
 refine ⟨_,rfl,λx dx nx ndx nex=>⟨x,dx,z,rfl,ae,rfl,?_⟩⟩
 refine ⟨_,rfl,x,dx,_,rfl,ae,kL _ _ (by decide +kernel) (by decide +kernel),x,dx,z,[],z.cps.toList,[],v,_,rfl,(by simp),ae,hz,hit,(λc r e=>nomatch e),λH3 hx3 bt3=>?_⟩
 refine ⟨_,rfl,x,C,dx,_,_,rfl,hx3,T.cl,T.nP,ck _ _,_,rfl,z,rfl,by omega,rfl,_,rfl,?_⟩
 have e2:V.int ((([]:List Nat).length+z.cps.toList.length:Nat):Int)=V.int ((z.length:Nat):Int):=by rw [ir];simp
 rw [decide_eq_true e2]
 refine aJ ⟨_,rfl,q H3 λb o e=>?_⟩
 have e3:=sl b o e
 have nb1:b≠x:=ah e3 nx
 have nb2:b≠dx:=ah e3 ndx
 refine bt3 b o ?_ nb1
 rw [ay nb1,ay nb1,ay nb1,ay nb2]
 exact e3
end
end K43T
namespace K43
open PySem L2 Lo St
section
variable {P:Program}{w:World}{K:PySem.W.Frag}{mg:Str->Option Value}{base:Heap}{f CL CS CP:Addr}{fd:FuncData}{C:Kd->Addr}{CW:Wd->Addr}
theorem kp2{a:Addr}{H:Hp}{o1 o2:HO}:Kp a H (upd (upd H a o1) a o2):=λb o n e=>by rw [ay n,ay n];exact e
theorem ua(F:Fun K "__init__" "CellStep.__init__" dk f fd)(T:TxW K CW):FnOk P w K mg base CX0 1 f fd ["self","where","cell"] (lR CW):=by
 refine F.ok iP (λvs H Q E h=>?_) (λcdv A outer s H vs Q E hr h=>?_)
 ·obtain ⟨a,dx,wd,x,y,rfl,_⟩:=h
  rfl
 obtain ⟨a,dx,wd,x,y,rfl,ha,q⟩:=h
 refine ⟨_,ac (aH (pv 0) (pv 1) rfl) (af (aH (pv 0) (pv 2) rfl)),?_⟩
 exact ⟨_,rfl,_,rfl,a,CW wd,dx,[],rfl,ha,T.cl wd,T.nW wd,(by show 0<1000;decide),_,rfl,_,rfl,a,CW wd,dx,_,rfl,ae,T.cl wd,T.nC wd,(by show 1<1000;decide),q _ ae kp2⟩
theorem mz{wd:Wd}(hw:isC wd=true){vs:List V}{H:Hp}{Q:VK}{E:XK}(h:gv CW wd vs H Q E):lR CW vs H Q E:=by
 obtain ⟨a,dx,ns,rfl,ar,ha,q⟩:=h
 obtain ⟨x,y,rfl,_,_,e⟩:=ar.c hw
 exact ⟨a,dx,wd,x,y,rfl,ha,λH' h1 h2=>q H' (by rw [e];exact h1) h2⟩
theorem tm(F:Fun K "__init__" "SumStep.__init__" dJ f fd)(T:TxW K CW):FnOk P w K mg base CX0 1 f fd ["self","where","low","high"] (gv CW .sum):=by
 refine F.ok jj (λvs H Q E h=>?_) (λcdv A outer s H vs Q E hr h=>?_)
 ·obtain ⟨a,dx,ns,rfl,ar,_⟩:=h
  obtain ⟨x,y,z,rfl,_⟩:=ar.s
  rfl
 obtain ⟨a,dx,ns,rfl,ar,ha,q⟩:=h
 obtain ⟨x,y,z,rfl,_⟩:=ar.s
 refine ⟨_,ac (aH (pv 0) (pv 1) rfl) (ac (aH (pv 0) (pv 2) rfl) (af (aH (pv 0) (pv 3) rfl))),?_⟩
 exact ⟨_,rfl,_,rfl,a,CW .sum,dx,[],rfl,ha,T.cl _,T.nW _,(by show 0<1000;decide),_,rfl,_,rfl,a,CW .sum,dx,_,rfl,ae,T.cl _,T.nL _,(by show 1<1000;decide),_,rfl,_,rfl,a,CW .sum,dx,_,rfl,ae,T.cl _,T.nH _,Nat.lt_of_le_of_lt (cy _ _ _) (by show 1+1<1000;decide),q _ ae λb o n e=>by rw [ay n,ay n,ay n];exact e⟩
theorem ue{CC fC:Addr}{dC:FuncData}(F:Fun K "__init__" "AddStep.__init__" dL f fd)(T:TxW K CW)(mgC:mg "CellStep"=some (.ref CC))(cf:qA K CC "__init__" fC)(GC:FnOk P w K mg base CX0 1 fC dC ["self","where","cell"] (lR CW))(bC:Binds K dC ["self","where","cell"] []) :
  FnOk P w K mg base CX0 2 f fd ["self","where","cell","amount"] (gv CW .add):=by
 refine F.ok jk (λvs H Q E h=>?_) (λcdv A outer s H vs Q E hr h=>?_)
 ·obtain ⟨a,dx,ns,rfl,ar,_⟩:=h
  obtain ⟨x,y,z,rfl,_⟩:=ar.a
  rfl
 obtain ⟨a,dx,ns,rfl,ar,ha,q⟩:=h
 obtain ⟨x,y,z,rfl,_⟩:=ar.a
 refine ⟨_,ac (bz (l9 (bK (v:=.ref CC) rfl mgC rfl) cf GC hr bC bo (aa (pv 0) (aa (pv 1) (aa (pv 2) ad))))) (af (aH (pv 0) (pv 3) rfl)),?_⟩
 refine ⟨_,rfl,_,rfl,_,rfl,a,dx,.add,x,y,rfl,ha,λH' h1 h2=>?_⟩
 exact ⟨_,rfl,_,rfl,a,CW .add,dx,_,rfl,h1,T.cl _,T.nA _,Nat.lt_of_le_of_lt (cy _ _ _) (by show 1+1<1000;decide),q _ ae λb o n e=>by rw [ay n];exact h2 b o n e⟩
theorem tO(F:Fun K "__init__" "PlusStep.__init__" df f fd)(T:TxW K CW):FnOk P w K mg base CX0 1 f fd ["self","amount"] (gv CW .plus):=by
 refine F.ok iK (λvs H Q E h=>?_) (λcdv A outer s H vs Q E hr h=>?_)
 ·obtain ⟨a,dx,ns,rfl,ar,_⟩:=h
  obtain ⟨x,rfl,_⟩:=ar.p
  rfl
 obtain ⟨a,dx,ns,rfl,ar,ha,q⟩:=h
 obtain ⟨x,rfl,_⟩:=ar.p
 refine ⟨_,af (aH (pv 0) (pv 1) rfl),?_⟩
 exact ⟨_,rfl,_,rfl,a,CW .plus,dx,[],rfl,ha,T.cl _,T.nA _,(by show 0<1000;decide),q _ ae bn⟩
theorem tT(F:Fun K "__init__" "NeedStep.__init__" dg f fd)(T:TxW K CW):FnOk P w K mg base CX0 1 f fd ["self","amount"] (gv CW .need):=by
 refine F.ok iL (λvs H Q E h=>?_) (λcdv A outer s H vs Q E hr h=>?_)
 ·obtain ⟨a,dx,ns,rfl,ar,_⟩:=h
  obtain ⟨x,rfl,_⟩:=ar.n
  rfl
 obtain ⟨a,dx,ns,rfl,ar,ha,q⟩:=h
 obtain ⟨x,rfl,_⟩:=ar.n
 refine ⟨_,af (aH (pv 0) (pv 1) rfl),?_⟩
 exact ⟨_,rfl,_,rfl,a,CW .need,dx,[],rfl,ha,T.cl _,T.nA _,(by show 0<1000;decide),q _ ae bn⟩
theorem nU{wd:Wd}(hw:wd=.plus\/wd=.need)(F:Fun K "house" "Step.house" fh f fd):FnOk P w K mg base CX0 1 f fd ["self"] (eV CW wd):=by
 refine F.ok ki (λvs H Q E h=>?_) (λcdv A outer s H vs Q E hr h=>?_)
 ·obtain ⟨v,ns,rfl,_⟩:=h
  rfl
 obtain ⟨v,ns,rfl,ar,st,q⟩:=h
 refine ⟨_,af (ao aO),?_⟩
 rcases hw with rfl | rfl<;>exact q
theorem iq{wd:Wd}(hw:isC wd=true\/wd=.add)(F:Fun K "house" "CellStep.house" cO f fd)(T:TxW K CW):FnOk P w K mg base CX0 1 f fd ["self"] (eV CW wd):=by
 refine F.ok ie (λvs H Q E h=>?_) (λcdv A outer s H vs Q E hr h=>?_)
 ·obtain ⟨v,ns,rfl,_⟩:=h
  rfl
 obtain ⟨v,ns,rfl,ar,⟨a,dx,rfl,ha⟩,q⟩:=h
 refine ⟨_,af (ao (aq (pv 0) rfl)),?_⟩
 rcases hw with hw | rfl
 ·obtain ⟨x,y,rfl,_,_,e⟩:=ar.c hw
  rw [e] at ha
  refine ⟨_,rfl,a,CW wd,dx,_,_,rfl,ha,T.cl _,T.nW _,by rw [aV (by decide +kernel),bw],?_⟩
  cases wd<;>first | exact q | cases hw
 ·obtain ⟨x,y,z,rfl,_⟩:=ar.a
  exact ⟨_,rfl,a,CW .add,dx,_,_,rfl,ha,T.cl _,T.nW _,(by show (al "amount" _ (al "cell" _ (al "where" _ []))).lookup _=_;rw [aV (by decide +kernel),aV (by decide +kernel),bw];rfl),q⟩
theorem vQ(F:Fun K "house" "SumStep.house" db f fd)(T:TxW K CW):FnOk P w K mg base CX0 1 f fd ["self"] (eV CW .sum):=by
 refine F.ok iJ (λvs H Q E h=>?_) (λcdv A outer s H vs Q E hr h=>?_)
 ·obtain ⟨v,ns,rfl,_⟩:=h
  rfl
 obtain ⟨v,ns,rfl,ar,⟨a,dx,rfl,ha⟩,q⟩:=h
 obtain ⟨x,y,z,rfl,_⟩:=ar.s
 refine ⟨_,af (ao (aq (pv 0) rfl)),?_⟩
 exact ⟨_,rfl,a,CW .sum,dx,_,_,rfl,ha,T.cl _,T.nW _,(by show (al "high" _ (al "low" _ (al "where" _ []))).lookup _=_;rw [aV (by decide +kernel),aV (by decide +kernel),bw];rfl),q⟩
theorem eM{wd:Wd}(hw:wd≠.give)(F:Fun K "sure" "Step.sure" gb f fd):FnOk P w K mg base CX0 1 f fd ["self"] (lH wd):=by
 refine F.ok l0 (λvs H Q E h=>?_) (λcdv A outer s H vs Q E hr h=>?_)
 ·obtain ⟨v,rfl,_⟩:=h
  rfl
 obtain ⟨v,rfl,q⟩:=h
 rw [decide_eq_false hw] at q
 exact ⟨_,af (ao dX),q⟩
theorem tF(F:Fun K "sure" "GiveStep.sure" dj f fd):FnOk P w K mg base CX0 1 f fd ["self"] (lH .give):=by
 refine F.ok iO (λvs H Q E h=>?_) (λcdv A outer s H vs Q E hr h=>?_)
 ·obtain ⟨v,rfl,_⟩:=h
  rfl
 obtain ⟨v,rfl,q⟩:=h
 exact ⟨_,af (ao dX),q⟩
theorem eR{x:Stp}(h:Ar x.1 x.2):(aL x.1 x.2=.non/\hvI (aL x.1 x.2)=none)\/∃i,aL x.1 x.2=.int i:=by
 by_cases hw:x.1=.plus\/x.1=.need
 ·rw [Ar.homeless hw]
  exact .inl ⟨rfl,rfl⟩
 ·obtain ⟨i,r,e,eh⟩:=h.home (λz=>hw (.inl z)) (λz=>hw (.inr z))
  exact .inr ⟨i,eh⟩
theorem tI(F:Fun K "read_pact" "read_pact" cW f fd)(B:TxB mg){aM:Addr}(mM:mg "MANNERS"=some (.ref aM))(tM:∀H,SqT K H aM [.str "held",.str "walked"])(cM:∃t,mg "MOST_STEPS"=some (.int 12 t)){fI:Addr}{dI:FuncData}(MP:Mk K CP fI)(mgP:mg "Pact"=some (.ref CP))
  (GI:FnOk P w K mg base CX0 1 fI dI ["self","manner","steps"] (pY CP))(bI:Binds K dI ["self","manner","steps"] [])(GR:GF P w K mg base CX0 7 "read_part" ["text","number"] (lK CW)):FnOk P w K mg base CX0 8 f fd ["text"] (lL CP CW):=by
 refine F.ok sc_read_pact (λvs H Q E h=>?_) (λcdv A outer s H vs Q E hr h=>?_)
 ·obtain ⟨b,xs,rfl,_⟩:=h
  rfl
 obtain ⟨b,xs,rfl,ar,h0,hl,q⟩:=h
 obtain ⟨tM0,cM⟩:=cM
 have nd:=sc_read_pact.nd
 have hr1:Room (1+1) _:=hr.mono (by decide)
 refine ⟨_,ac (aD (i:=1) nd rfl (Or.inl rfl) (eL PySem.F.plainAttrs_str PySem.F.slot_str_partition PySem.F.type_str_partition vZ (pv 0) (aa aA ad)))
  (ac (aC (PW.pt (ij (am (qV cStr (hun hr)) (aI (r:=dt K) bj (pv 1) aj (λ_ _=>rfl)) (bK (v:=.ref aM) rfl mM rfl) rfl) (gW (am aR (aI (r:=dt K) bj (pv 1) aj (λ_ _=>rfl)) aA (ap _))))) aB au)
  (ac (aD (i:=2) nd rfl (Or.inr rfl) (eL PySem.F.plainAttrs_str PySem.F.slot_str_split PySem.F.type_str_split re (aI (r:=dt K) bj (pv 1) aj (λ_ _=>rfl)) (aa aA ad)))
  (ac (aC (am jd (aw az rfl B.len PySem.boot_len (aa (pv 2) ad)) (bK (v:=.int 12) rfl cM ⟨_,rfl⟩) (ap _)) aB au)
  (af (ao (ce MP GI hr1 rfl mgP bI .nil bo (aa (aI (r:=dt K) bj (pv 1) aj (λ_ _=>rfl)) (aa (fY jL rfl (dv rfl B.range (aa (aw az rfl B.len PySem.boot_len (aa (pv 2) ad)) ad)) (λ_ _ _ _=>fe)
   (λ_ _ _ _=>pc GR hr (aa (aI (r:=cY K) aN (pv 1) (pv 0) (λ_ _=>rfl)) (aa (pv 0) ad)))) ad)))))))),?_⟩
 have js:=jY ar (by omega)
 have ml:=xT b
 have l1:(Str.ofString " ").length=1:=by decide +kernel
 have hs:(100000:Nat)<=sizeLine:=by decide
 have pl:(ptx (mS b) xs).length<=40000:=by
  have:(ptx (mS b) xs).length=(mS b).length+(Str.ofString " ").length+(Str.join (Str.ofString "; ") (xs.map sx)).length:=by
   show (((mS b).cps++(Str.ofString " ").cps)++(Str.join (Str.ofString "; ") (xs.map sx)).cps).size=_
   rw [Array.size_append,Array.size_append]
   rfl
  omega
 refine ⟨_,rfl,rfl,_,_,rfl,rfl,(by decide +kernel),(by omega),λp hp=>?_⟩
 rw [sY]
 have s1:=ai (o:=.tup [.str (mS b),.str (Str.ofString " "),.str (Str.join (Str.ofString "; ") (xs.map sx))]) hp
 have hp1:(upd H p (.tup [.str (mS b),.str (Str.ofString " "),.str (Str.join (Str.ofString "; ") (xs.map sx))])) p=some (.tup [.str (mS b),.str (Str.ofString " "),.str (Str.join (Str.ofString "; ") (xs.map sx))]):=ae
 generalize (upd H p (HO.tup [.str (mS b),.str (Str.ofString " "),.str (Str.join (Str.ofString "; ") (xs.map sx))]))=H1 at s1 hp1 ⊢
 refine ⟨_,rfl,p,_,_,_,rfl,rfl,SqT.of hp1,St.at0,mS b,aM,_,["held","walked"],rfl,rfl,.inr (tM H1),.cons rfl (.cons rfl .nil),_,rfl,?_⟩
 have hin:mS b∈(["held","walked"]:List Str):=by cases b<;>decide +kernel
 refine bx (λc=>absurd hin (of_decide_eq_false (by simpa using c))) (λ_=>?_)
 refine ⟨_,rfl,p,_,_,_,rfl,rfl,SqT.of hp1,St.at1,rfl,_,rfl,bx (λc=>absurd (V.str.inj (of_decide_eq_true c)) (by decide +kernel)) (λ_=>?_)⟩
 refine ⟨_,rfl,p,_,_,_,rfl,rfl,SqT.of hp1,St.at2,rfl,_,_,rfl,rfl,(by decide +kernel),(by omega),λtl htl=>?_⟩
 rw [qK h0]
 have s2:=ai (o:=.lst ((xs.map sx).map V.str)) htl
 have ht2:(upd H1 tl (.lst ((xs.map sx).map V.str))) tl=some (.lst ((xs.map sx).map V.str)):=ae
 have hp2:=s2 _ _ hp1
 generalize (upd H1 tl (HO.lst ((xs.map sx).map V.str)))=H2 at s2 ht2 hp2 ⊢
 have s02:=s1.trans s2
 have ll:((xs.map sx).map V.str).length=xs.length:=by rw [List.length_map,List.length_map]
 refine ⟨_,rfl,tl,_,rfl,.inl (SqL.of ht2),_,_,rfl,rfl,_,rfl,bx (λc=>absurd (of_decide_eq_true c) (by rw [ll];omega)) (λ_=>?_)⟩
 refine ⟨_,rfl,p,_,_,_,rfl,rfl,SqT.of hp2,St.at0,?_⟩
 refine ⟨_,rfl,tl,_,rfl,.inl (SqL.of ht2),_,rfl,by omega,by rw [ll];omega,?_⟩
 have e0:((((xs.map sx).map V.str).length:Nat):Int).toNat=xs.length:=by rw [ll];rfl
 rw [e0]
 refine iu (n:=xs.length) (λi ys H'=>Same H2 H'/\StsP CW H' (xs.take i) ys) ⟨Same.refl _,.nil⟩ (by omega) ?_ ?_
 ·rintro i ys H3 hi ⟨s3,ps⟩
  have hx:xs[i]?=some xs[i]:=List.getElem?_eq_getElem hi
  refine kE ⟨_,rfl,_,rfl,tl,_,_,_,rfl,rfl,SqL.of (s3 _ _ ht2),bv (by rw [List.getElem?_map,List.getElem?_map,hx];rfl),_,rfl,xs[i],_,rfl,ar _ (List.getElem_mem hi),λv H4 s4 sv=>⟨s3.trans s4,?_⟩⟩
  have e2:xs.take (i+1)=xs.take i++[xs[i]]:=by
   rw [List.take_add_one,hx]
   rfl
  rw [e2]
  exact (ps.keep s4).app (.cons sv .nil)
 ·rintro ys H3 ⟨s3,ps⟩ l hl3
  rw [List.take_length] at ps
  have s4:=ai (o:=.lst ys) hl3
  have h4:(upd H3 l (.lst ys)) l=some (.lst ys):=ae
  have ps4:=ps.keep s4
  generalize (upd H3 l (HO.lst ys))=H4 at s4 h4 ps4 ⊢
  intro x dx nx ndx nex
  refine ⟨x,dx,_,l,ys,rfl,ae,(by rw [ay (ah h4 nx),ay (ah h4 ndx)];exact h4),λsl tp H5 e1 e2 e3 n1 n2 k=>⟨rfl,?_⟩⟩
  have s5:=fw nx ndx k
  have z4:H4 sl=none:=by
   cases e:H4 sl with
   | none=>rfl
   | some u =>
    rw [ay (ah e nx),ay (ah e ndx),e] at n1
    cases n1
  have z0:H sl=none:=by
   cases e:H sl with
   | none=>rfl
   | some u =>
    rw [(s02.trans (s3.trans s4)) _ _ e] at z4
    cases z4
  exact q x dx sl tp ys H5 (s02.trans (s3.trans (s4.trans s5))) z0 ⟨e1,e2,e3,ps4.keep s5⟩
theorem qZ(F:Fun K "houses_of" "houses_of" cX f fd)(B:TxB mg)(mSet:mg "set"=none)(T:TxP K CP)(W:TxW K CW)(GH:∀wd,GM P w K mg base CX0 1 (CW wd) "house" ["self"] (eV CW wd)):FnOk P w K mg base CX0 2 f fd ["pact"] (jE CP CW):=by
 refine F.ok lX (λvs H Q E h=>?_) (λcdv A outer s H vs Q E hr h=>?_)
 ·obtain ⟨v,b,xs,rfl,_⟩:=h
  rfl
 obtain ⟨v,b,xs,rfl,⟨a,dx,sl,tp,us,rfl,pa⟩,ar,hl,q⟩:=h
 refine ⟨_,af (ao (aF eG rfl B.tuple PyProof.Rows.boot_tuple (aa (aw (gM rfl) rfl B.sorted PyProof.Rows.boot_sorted (aa (aF (lu rfl) rfl mSet PyProof.Rows.boot_set (aa
  (fY jM rfl (o8 (aq (pv 0) rfl)) (λ_ _ _ _=>gy (am cm (f6 λwd=>pm0 (GH wd) (pv 0) (W.cl wd) hr) aO (ap _))) (λ_ _ _ _=>f6 λwd=>pm0 (GH wd) (pv 0) (W.cl wd) hr)) ad)) ad)) ad))),?_⟩
 have hs:(100000:Nat)<=sizeLine:=by decide
 have pl:xs.length=us.length:=pa.st.len
 refine ⟨_,rfl,a,CP,dx,_,_,rfl,pa.ins,T.cl,T.np,sS _ _ _,tp,rfl,⟨_,SqT.of pa.tp⟩,?_⟩
 refine ul (xs:=us) (λi ys H1=>H1=H/\ys=(cQ (xs.take i)).map V.int) ⟨rfl,rfl⟩ (by omega) (λi ys H1 _ z=>by rw [z.1];exact SqT.of pa.tp) ?_ ?_
 ·rintro i u ys H1 hu ⟨rfl,rfl⟩
  obtain ⟨x,ex,sa,sdx,rfl,hsa⟩:=pa.st.get hu
  have hx:=List.mem_of_getElem? ex
  have f1:=kU (m:="house") (by decide +kernel) (by decide +kernel) (by decide +kernel) (by decide +kernel) (by decide +kernel) x.1 x.2
  have et:xs.take (i+1)=xs.take i++[x]:=by rw [List.take_add_one,ex];rfl
  have eh:cQ (xs.take (i+1))=cQ (xs.take i)++cQ [x]:=by rw [et];exact List.filterMap_append
  refine ⟨x.1,_,rfl,sa,sdx,_,rfl,hsa,f1,_,x.2,rfl,ar x hx,⟨sa,sdx,rfl,hsa⟩,rfl,_,rfl,?_⟩
  rcases eR (ar x hx) with ⟨e1,e2⟩ | ⟨n,e1⟩
  ·rw [e1,decide_eq_true rfl]
   refine aJ ⟨rfl,?_⟩
   have:cQ [x]=[]:=by
    unfold cQ
    rw [List.filterMap_cons,e2]
    rfl
   rw [eh,this,List.append_nil]
  ·have ne:¬aL x.1 x.2=.non:=λz=>by rw [e1] at z;cases z
   rw [decide_eq_false ne]
   refine bu ⟨x.1,_,rfl,sa,sdx,_,rfl,hsa,f1,_,x.2,rfl,ar x hx,⟨sa,sdx,rfl,hsa⟩,rfl,?_⟩
   have:cQ [x]=[n]:=by
    unfold cQ
    rw [List.filterMap_cons,e1]
    rfl
   rw [eh,this,List.map_append,e1]
   rfl
 ·rintro ys H1 ⟨rfl,rfl⟩ l hl1
  rw [← pl,List.take_length]
  have s1:=ai (o:=.lst ((cQ xs).map V.int)) hl1
  have lh:(cQ xs).length<=xs.length:=List.length_filterMap_le _ _
  refine ⟨l,cQ xs,rfl,SqL.of ae,by omega,λa2 o2 is2 ha2 sd2 m2=>?_⟩
  have s2:=ai (o:=Fq a2 o2) ha2
  obtain ⟨_,_,_,_,_,_,_,_,_,nd2,_⟩:=id sd2
  refine ⟨a2,o2,is2,rfl,ae,sd2,?_,λl3 ns3 hl3 so3=>?_⟩
  ·have:(is2.map (·.1)).length<=(cQ xs).length:=List.Nodup.length_le_of_subset nd2 λn hn=>(m2 n).mp hn
   rw [List.length_map] at this
   omega
  have s3:=ai (o:=.lst (ns3.map V.int)) hl3
  refine ⟨l3,_,rfl,.inl ⟨SqL.of ae,λt ht=>?_⟩⟩
  exact q t ns3 _ (s1.trans (s2.trans (s3.trans (ai ht)))) ae ⟨so3.1.symm.nodup nd2,so3.2,λn=>so3.1.mem_iff.trans (m2 n)⟩
theorem qD{xs:List Stp}{x:Stp}(h:∀y∈xs,y.1≠.give)(r:List Stp):(x.1=.give->aG (xs++x::r)=xs.length):=λhx=>by
 unfold aG
 rw [List.findIdx_append,if_neg]
 ·rw [List.findIdx_cons,decide_eq_true hx]
  simp
 ·intro z
  rw [List.findIdx_lt_length] at z
  obtain ⟨y,hy,e⟩:=z
  exact h y hy (of_decide_eq_true e)
theorem kD{xs:List Stp}(h:∀y∈xs,y.1≠.give):aG xs=xs.length:=by
 unfold aG
 rw [List.findIdx_eq_length]
 exact λy hy=>decide_eq_false (h y hy)
theorem pb(F:Fun K "turning" "turning" iR f fd)(B:TxB mg)(T:TxP K CP)(W:TxW K CW)(GU:∀wd,GM P w K mg base CX0 1 (CW wd) "sure" ["self"] (lH wd)):FnOk P w K mg base CX0 2 f fd ["pact"] (oM CP CW):=by
 refine F.ok sc_turning (λvs H Q E h=>?_) (λcdv A outer s H vs Q E hr h=>?_)
 ·obtain ⟨v,b,xs,rfl,_⟩:=h
  rfl
 obtain ⟨v,b,xs,rfl,⟨a,dx,sl,tp,us,rfl,pa⟩,hl,q⟩:=h
 have nd:=sc_turning.nd
 have pl:xs.length=us.length:=pa.st.len
 refine ⟨_,ac (jR PassesOwn.never rfl (dv rfl B.range (aa (aw az rfl B.len PySem.boot_len (aa (aq (pv 0) rfl) ad)) ad)) (fg (i:=1) nd rfl (Or.inl rfl))
   (af (aC (bD (f6 λwd=>pm0 (GU wd) (aI (r:=dt K) bj (aq (pv 0) rfl) (pv 1) (λ_ _=>rfl)) (W.cl wd) hr)) (af (ao (pv 1))) au)))
  (af (ao (aw az rfl B.len PySem.boot_len (aa (aq (pv 0) rfl) ad)))),?_⟩
 have hs:(100000:Nat)<=sizeLine:=by decide
 refine ⟨_,rfl,a,CP,dx,_,_,rfl,pa.ins,T.cl,T.np,sS _ _ _,tp,_,rfl,.inr (SqT.of pa.tp),_,rfl,by omega,by omega,?_⟩
 have e0:((us.length:Nat):Int).toNat=us.length:=rfl
 refine kX (n:=us.length) (λi σ H'=>H'=H/\(∀y∈xs.take i,y.1≠.give)/\∃x1,σ=[some (.ref a),x1]) ⟨rfl,(λy hy=>nomatch hy),none,rfl⟩ ?_ ?_
 ·rintro i σ H' hi ⟨rfl,nog,x1,rfl⟩
  obtain ⟨x,ex,sa,sdx,e,hsa⟩:=pa.st.get (List.getElem?_eq_getElem hi)
  have f1:=kU (m:="sure") (by decide +kernel) (by decide +kernel) (by decide +kernel) (by decide +kernel) (by decide +kernel) x.1 x.2
  have ei:(0:Int)+(i:Nat)=((i:Nat):Int):=Int.zero_add _
  rw [ei]
  refine ⟨x.1,_,rfl,a,CP,dx,_,_,rfl,pa.ins,T.cl,T.np,sS _ _ _,_,rfl,tp,_,_,_,rfl,rfl,SqT.of pa.tp,bv (by rw [List.getElem?_eq_getElem hi,e]),sa,sdx,_,rfl,hsa,f1,_,rfl,_,rfl,?_⟩
  have et:xs=xs.take i++x::xs.drop (i+1):=by
   have hx:=(List.getElem?_eq_some_iff.mp ex)
   obtain ⟨h1,h2⟩:=hx
   rw [← h2]
   rw [← List.drop_eq_getElem_cons h1,List.take_append_drop]
  by_cases hg:x.1=.give
  ·rw [decide_eq_true hg]
   refine bu ⟨_,rfl,?_⟩
   have z:=qD nog (xs.drop (i+1)) hg
   rw [← et,List.length_take,Nat.min_eq_left (by omega)] at z
   rw [z] at q
   exact q
  ·rw [decide_eq_false hg]
   refine aJ ⟨rfl,λy hy=>?_,_,rfl⟩
   rw [List.take_add_one,ex] at hy
   rcases List.mem_append.mp hy with hy | hy
   ·exact nog y hy
   ·have:y=x:=by simpa using hy
    rw [this]
    exact hg
 ·rintro σ H' ⟨rfl,nog,x1,rfl⟩
  rw [← pl,List.take_length] at nog
  rw [kD nog,pl] at q
  exact ⟨_,rfl,a,CP,dx,_,_,rfl,pa.ins,T.cl,T.np,sS _ _ _,tp,_,rfl,.inr (SqT.of pa.tp),q⟩
end
end K43
namespace K43
open PySem L2 Lo
section
variable {P:Program}{w:World}{K:PySem.W.Frag}{mg:Str->Option Value}{base:Heap}{f CL CS CP:Addr}{fd:FuncData}{C:Kd->Addr}{CW:Wd->Addr}
theorem qX(F:Fun K "__init__" "Stand.__init__" fj f fd)(B:TxB mg)(D:TxD K CS):FnOk P w K mg base CX0 1 f fd ["self","cells"] (pX CS K):=by
 refine F.ok km (λvs H Q E h=>?_) (λcdv A outer s H vs Q E hr h=>?_)
 ·obtain ⟨l,dx,c,cs,rfl,_⟩:=h
  rfl
 obtain ⟨l,dx,c,cs,rfl,hl,hc,hz,q⟩:=h
 refine ⟨_,ac (aH (pv 0) (aF fq rfl B.list PyProof.Rows.boot_list (aa (pv 1) ad)) rfl)
  (ac (aH (pv 0) (bU ad) rfl) (ac (aH (pv 0) im rfl) (ac (aH (pv 0) im rfl) (ac (aH (pv 0) im rfl) (ac (aH (pv 0) sV rfl) (af (aH (pv 0) im rfl))))))),?_⟩
 refine ⟨_,rfl,c,_,rfl,.inl (SqL.of hc),λcl n1=>?_⟩
 obtain ⟨a1,a2,a3,k1⟩:=cn (o:=.lst (cs.map V.int)) (fs':=al "cells" (.ref cl) []) hl n1
 refine ⟨_,rfl,l,CS,dx,_,rfl,a1,D.cl,D.nc,(by show 0<1000;decide),?_⟩
 have z1:cl≠l:=bf a3 a2 (by intro z;cases z)
 generalize (upd (upd H cl (.lst (cs.map V.int))) l (.ins CS dx (al "cells" (.ref cl) [])))=H1 at a2 a3 k1 ⊢
 refine ⟨(by show 0<=sizeLine;decide),λbg n2=>?_⟩
 obtain ⟨b1,b2,b3,k2⟩:=cn (o:=.lst []) (fs':=al "begins" (.ref bg) (al "cells" (.ref cl) [])) a2 n2
 refine ⟨_,rfl,l,CS,dx,_,rfl,b1,D.cl,D.nb,(cR (n:=999) (by show 0<999;decide)),?_⟩
 have z2:bg≠l:=bf b3 b2 (by intro z;cases z)
 generalize (upd (upd H1 bg (.lst [])) l (.ins CS dx (al "begins" (.ref bg) (al "cells" (.ref cl) []))))=H2 at b2 b3 k2 ⊢
 refine λwk n3=>?_
 obtain ⟨c1,c2,c3,k3⟩:=cn (o:=.dT []) (fs':=al "worked" (.ref wk) (al "begins" (.ref bg) (al "cells" (.ref cl) []))) b2 n3
 refine ⟨_,rfl,l,CS,dx,_,rfl,c1,D.cl,D.nw,(cR (n:=999) (cR (n:=998) (by show 0<998;decide))),?_⟩
 have z3:wk≠l:=bf c3 c2 (by intro z;cases z)
 generalize (upd (upd H2 wk (.dT [])) l (.ins CS dx (al "worked" (.ref wk) (al "begins" (.ref bg) (al "cells" (.ref cl) [])))))=H3 at c2 c3 k3 ⊢
 refine λrd n4=>?_
 obtain ⟨d1,d2,d3,k4⟩:=cn (o:=.dT []) (fs':=al "readies" (.ref rd) (al "worked" (.ref wk) (al "begins" (.ref bg) (al "cells" (.ref cl) [])))) c2 n4
 refine ⟨_,rfl,l,CS,dx,_,rfl,d1,D.cl,D.nr,(cR (n:=999) (cR (n:=998) (cR (n:=997) (by show 0<997;decide)))),?_⟩
 have z4:rd≠l:=bf d3 d2 (by intro z;cases z)
 generalize (upd (upd H3 rd (.dT [])) l (.ins CS dx (al "readies" (.ref rd) (al "worked" (.ref wk) (al "begins" (.ref bg) (al "cells" (.ref cl) []))))))=H4 at d2 d3 k4 ⊢
 refine λen n5=>?_
 obtain ⟨e1,e2,e3,k5⟩:=cn (o:=.dT []) (fs':=al "ends" (.ref en) (al "readies" (.ref rd) (al "worked" (.ref wk) (al "begins" (.ref bg) (al "cells" (.ref cl) []))))) d2 n5
 refine ⟨_,rfl,l,CS,dx,_,rfl,e1,D.cl,D.ne,(cR (n:=999) (cR (n:=998) (cR (n:=997) (cR (n:=996) (by show 0<996;decide))))),?_⟩
 have z5:en≠l:=bf e3 e2 (by intro z;cases z)
 generalize (upd (upd H4 en (.dT [])) l (.ins CS dx (al "ends" (.ref en) (al "readies" (.ref rd) (al "worked" (.ref wk) (al "begins" (.ref bg) (al "cells" (.ref cl) [])))))))=H5 at e2 e3 k5 ⊢
 refine λwa n6=>?_
 obtain ⟨f1,f2,f3,k6⟩:=cn (o:=NDt wa []) (fs':=al "walks" (.ref wa) (al "ends" (.ref en) (al "readies" (.ref rd) (al "worked" (.ref wk) (al "begins" (.ref bg) (al "cells" (.ref cl) [])))))) e2 n6
 refine ⟨_,rfl,l,CS,dx,_,rfl,f1,D.cl,D.na,(cR (n:=999) (cR (n:=998) (cR (n:=997) (cR (n:=996) (cR (n:=995) (by show 0<995;decide)))))),?_⟩
 have z6:wa≠l:=bf f3 f2 (by intro z;cases z)
 generalize (upd (upd H5 wa (NDt wa [])) l (.ins CS dx (al "walks" (.ref wa) (al "ends" (.ref en) (al "readies" (.ref rd) (al "worked" (.ref wk) (al "begins" (.ref bg) (al "cells" (.ref cl) []))))))))=H6 at f2 f3 k6 ⊢
 refine λov n7=>?_
 obtain ⟨g1,g2,g3,k7⟩:=cn (o:=.dT []) (fs':=sf ⟨l,dx,cl,bg,wk,rd,en,wa,ov⟩) f2 n7
 refine ⟨_,rfl,l,CS,dx,_,rfl,g1,D.cl,D.no,(cR (n:=999) (cR (n:=998) (cR (n:=997) (cR (n:=996) (cR (n:=995) (cR (n:=994) (by show 0<994;decide))))))),?_⟩
 have z7:ov≠l:=bf g3 g2 (by intro z;cases z)
 have a4:=k2 _ _ z1 a3
 have a5:=k3 _ _ z1 a4
 have a6:=k4 _ _ z1 a5
 have a7:=k5 _ _ z1 a6
 have a8:=k6 _ _ z1 a7
 have a9:=k7 _ _ z1 a8
 have b4:=k3 _ _ z2 b3
 have b5:=k4 _ _ z2 b4
 have b6:=k5 _ _ z2 b5
 have b7:=k6 _ _ z2 b6
 have b8:=k7 _ _ z2 b7
 have c4:=k4 _ _ z3 c3
 have c5:=k5 _ _ z3 c4
 have c6:=k6 _ _ z3 c5
 have c7:=k7 _ _ z3 c6
 have d4:=k5 _ _ z4 d3
 have d5:=k6 _ _ z4 d4
 have d6:=k7 _ _ z4 d5
 have e4:=k6 _ _ z5 e3
 have e5:=k7 _ _ z5 e4
 have f4:=k7 _ _ z6 f3
 refine q ⟨l,dx,cl,bg,wk,rd,en,wa,ov⟩ _ rfl ⟨[],g2,?_,.nil,(λx hx=>nomatch hx),⟨(λx hx=>nomatch hx),List.nodup_nil⟩,?_⟩ ?_ ((((((k1.trans k2).trans k3).trans k4).trans k5).trans k6).trans k7)
 ·intro x hx
  simp only [lj,List.mem_cons,List.not_mem_nil,or_false] at hx
  rcases hx with e | e | e | e | e | e | e<;>subst e
  ·exact a9
  ·exact b8
  ·exact c7
  ·exact d6
  ·exact e5
  ·exact f4
  ·exact g3
 ·show [cl,bg,wk,rd,en,wa,ov].Nodup
  have y12:cl≠bg:=ah a3 n2
  have y13:cl≠wk:=ah a4 n3
  have y14:cl≠rd:=ah a5 n4
  have y15:cl≠en:=ah a6 n5
  have y16:cl≠wa:=ah a7 n6
  have y17:cl≠ov:=ah a8 n7
  have y23:bg≠wk:=ah b3 n3
  have y24:bg≠rd:=ah b4 n4
  have y25:bg≠en:=ah b5 n5
  have y26:bg≠wa:=ah b6 n6
  have y27:bg≠ov:=ah b7 n7
  have y34:wk≠rd:=ah c3 n4
  have y35:wk≠en:=ah c4 n5
  have y36:wk≠wa:=ah c5 n6
  have y37:wk≠ov:=ah c6 n7
  have y45:rd≠en:=ah d3 n5
  have y46:rd≠wa:=ah d4 n6
  have y47:rd≠ov:=ah d5 n7
  have y56:en≠wa:=ah e3 n6
  have y57:en≠ov:=ah e4 n7
  have y67:wa≠ov:=ah f3 n7
  simp [*]
 ·intro b hb
  have hb':b∈[cl,bg,wk,rd,en,wa,ov]:=hb
  simp only [List.mem_cons,List.not_mem_nil,or_false] at hb'
  rcases hb' with e | e | e | e | e | e | e<;>subst e
  ·exact n1
  ·exact cw k1 a2 n2
  ·exact cw (k1.trans k2) b2 n3
  ·exact cw ((k1.trans k2).trans k3) c2 n4
  ·exact cw (((k1.trans k2).trans k3).trans k4) d2 n5
  ·exact cw ((((k1.trans k2).trans k3).trans k4).trans k5) e2 n6
  ·exact cw (((((k1.trans k2).trans k3).trans k4).trans k5).trans k6) f2 n7
section
variable (CS:Addr)(K:PySem.W.Frag)
def lM:Sp:=λvs H Q _=>∃A d,vs=[.ref A.l]/\St CS K H A d/\d.ends=[]/\∀v H',Same H H'->NwAt K H' d.ends v->Q v H'
end
theorem tU(F:Fun K "news" "Stand.news" fi f fd)(B:TxB mg)(D:TxD K CS):FnOk P w K mg base CX0 1 f fd ["self"] (lM CS K):=by
 refine F.ok kj (λvs H Q E h=>?_) (λcdv A outer s H vs Q E hr h=>?_)
 ·obtain ⟨A,d,rfl,_⟩:=h
  rfl
 obtain ⟨S,d,rfl,⟨us0,st⟩,h0,q⟩:=h
 refine ⟨_,af (ao (aF eG rfl B.tuple PyProof.Rows.boot_tuple (aa (aw (mC rfl) rfl B.sorted PyProof.Rows.boot_sorted (aa (sU (aq (pv 0) rfl)) ad)) ad))),?_⟩
 have en:=st.en
 rw [h0] at en q
 refine ⟨_,rfl,S.l,CS,S.dx,_,_,rfl,st.ins,D.cl,D.ne,yO S,S.en,_,rfl,en,λv hv=>?_⟩
 have s1:=ai (o:=Vw v S.en) hv
 refine ⟨v,S.en,rfl,ae,s1 _ _ en,λl hl=>?_⟩
 have s3:=ai (o:=.lst []) hl
 refine ⟨l,[],rfl,.inl ⟨SqL.of ae,λt ht=>?_⟩⟩
 exact q _ _ (s1.trans (s3.trans (ai ht))) ⟨t,[],rfl,ae,.nil⟩
variable {CH:Addr}
theorem t6(F:Fun K "__init__" "Sheet.__init__" fo f fd)(DH:TxH K CH):FnOk P w K mg base CX0 1 f fd ["self","stand"] (p6 CS CH K):=by
 refine F.ok ko (λvs H Q E h=>?_) (λcdv A outer s H vs Q E hr h=>?_)
 ·obtain ⟨l,dx,A,d,rfl,_⟩:=h
  rfl
 obtain ⟨l,dx,S,d,rfl,hl,st,nSl,q⟩:=h
 refine ⟨_,ac (aH (pv 0) (pv 1) rfl) (ac (aH (pv 0) (bU ad) rfl) (ac (aH (pv 0) (bU ad) rfl) (af (aH (pv 0) aO rfl)))),?_⟩
 refine ⟨_,rfl,_,rfl,l,CH,dx,_,rfl,hl,DH.cl,DH.ht,(by show 0<1000;decide),?_⟩
 have k1:Kp l H (upd H l (.ins CH dx (al "stand" (.ref S.l) []))):=bn
 have h1:(upd H l (.ins CH dx (al "stand" (.ref S.l) []))) l=some (.ins CH dx (al "stand" (.ref S.l) [])):=ae
 generalize (upd H l (HO.ins CH dx (al "stand" (.ref S.l) [])))=H1 at k1 h1 ⊢
 refine ⟨(by show 0<=sizeLine;decide),λrw' n1=>?_⟩
 obtain ⟨b1,b2,b3,k2⟩:=cn (o:=.lst []) (fs':=al "rows" (.ref rw') (al "stand" (.ref S.l) [])) h1 n1
 refine ⟨_,rfl,l,CH,dx,_,rfl,b1,DH.cl,DH.hw,(cR (n:=999) (by show 0<999;decide)),?_⟩
 have z2:rw'≠l:=bf b3 b2 (by intro z;cases z)
 generalize (upd (upd H1 rw' (.lst [])) l (.ins CH dx (al "rows" (.ref rw') (al "stand" (.ref S.l) []))))=H2 at b2 b3 k2 ⊢
 refine ⟨(by show 0<=sizeLine;decide),λsn n2=>?_⟩
 obtain ⟨c1,c2,c3,k3⟩:=cn (o:=.lst []) (fs':=al "sent" (.ref sn) (al "rows" (.ref rw') (al "stand" (.ref S.l) []))) b2 n2
 refine ⟨_,rfl,l,CH,dx,_,rfl,c1,DH.cl,DH.hs,(cR (n:=999) (cR (n:=998) (by show 0<998;decide))),?_⟩
 have z3:sn≠l:=bf c3 c2 (by intro z;cases z)
 have b4:=k3 _ _ z2 b3
 generalize (upd (upd H2 sn (.lst [])) l (.ins CH dx (al "sent" (.ref sn) (al "rows" (.ref rw') (al "stand" (.ref S.l) [])))))=H3 at c2 c3 k3 b4 ⊢
 refine ⟨_,rfl,l,CH,dx,_,rfl,c2,DH.cl,DH.hl,(cR (n:=999) (cR (n:=998) (cR (n:=997) (by show 0<997;decide)))),?_⟩
 have k4:Kp l H3 (upd H3 l (.ins CH dx (hf S.l ⟨l,dx,rw',sn⟩ .non))):=bn
 have h4:(upd H3 l (.ins CH dx (hf S.l ⟨l,dx,rw',sn⟩ .non))) l=some (.ins CH dx (hf S.l ⟨l,dx,rw',sn⟩ .non)):=ae
 have kA:Kp l H (upd H3 l (.ins CH dx (hf S.l ⟨l,dx,rw',sn⟩ .non))):=k1.trans (k2.trans (k3.trans k4))
 have r0:H rw'=none:=cw k1 h1 n1
 have s0:H sn=none:=cw (k1.trans k2) b2 n2
 have no:∀{b:Addr},H b=none->b∉S.own:=λ{b} hb hm=>by
  obtain ⟨us0,stu⟩:=st
  obtain ⟨o,e,_⟩:=stu.own hm
  rw [hb] at e
  cases e
 have lo:l∉S.own:=λhm=>by
  obtain ⟨us0,stu⟩:=st
  obtain ⟨o,e,_,n⟩:=stu.own hm
  rw [hl] at e
  cases e
  exact n _ _ _ rfl
 have ts:bJ H (upd H3 l (.ins CH dx (hf S.l ⟨l,dx,rw',sn⟩ .non))):=λb xs e=>kA b _ (λz=>by rw [z,hl] at e;cases e) e
 exact q ⟨l,dx,rw',sn⟩ _ rfl ⟨st.kp kA lo ts nSl,h4,k4 _ _ z2 b4,⟨[],k4 _ _ z3 c3,.nil⟩,.inl rfl,lo,no r0,no s0,ah b3 n2,nSl⟩ r0 s0 kA
section
variable (CS CH:Addr)(K:PySem.W.Frag)
def hZ:Sp:=λvs H Q _=>∃A h d rs ws v,vs=[.ref h.l]/\ShA CS CH K H A h d rs ws v/\d.ends=[]/\ws.length<=900/\∀p us H',Same H H'->H p=none->H' p=some (.lst us)->Paired (LtAt K H' d.ends) ws us->Q (.ref p) H'
end
theorem tY(F:Fun K "send" "Sheet.send" fm f fd)(DH:TxH K CH):FnOk P w K mg base CX0 1 f fd ["self","to","word","p","more"] (hX CS CH K):=by
 refine F.ok kn (λvs H Q E h=>?_) (λcdv A outer s H vs Q E hr h=>?_)
 ·obtain ⟨A,h,d,rs,ws,v,x,rfl,_⟩:=h
  rfl
 obtain ⟨S,h,d,rs,ws,v,x,rfl,sh,hz,q⟩:=h
 obtain ⟨us,hsn,pws⟩:=sh.snt
 refine ⟨_,af (bz (eL PySem.F.plainAttrs_list PySem.F.slot_list_append PySem.F.type_list_append eO (aq (pv 0) rfl) (aa (bi (aa (pv 1) (aa (bi (aa (pv 2) (aa (pv 3) (aa (pv 4) ad)))) ad))) ad))),?_⟩
 refine ⟨_,rfl,h.l,CH,h.dx,_,_,rfl,sh.ins,DH.cl,DH.hs,wU _ _ _,.inl ⟨rfl,_,SqL.of hsn⟩,_,rfl,_,rfl,_,rfl,_,rfl,(by show 3<=sizeLine;decide),λt2 ht2=>⟨(by show 2<=sizeLine;decide),λt ht=>?_⟩⟩
 have s1:=ai (o:=.tup [.str x.2.1,.ref x.2.2.1,.ref x.2.2.2]) ht2
 have s2:=ai (o:=.tup [.int x.1,.ref t2]) ht
 have hw:WsAt (upd (upd H t2 (.tup [.str x.2.1,.ref x.2.2.1,.ref x.2.2.2])) t (.tup [.int x.1,.ref t2])) x (.ref t):=⟨t,t2,rfl,ae,s2 _ _ ae⟩
 have s12:=s1.trans s2
 have sh2:=sh.keep s12
 have hsn2:=s12 _ _ hsn
 generalize (upd (upd H t2 (HO.tup [.str x.2.1,.ref x.2.2.1,.ref x.2.2.2])) t (HO.tup [.int x.1,.ref t2]))=H2 at s12 sh2 hsn2 hw ⊢
 refine ⟨h.sn,us,_,rfl,rfl,hsn2,cI (by rw [← pws.len];omega),?_⟩
 have kp3:Kp h.sn H2 (upd H2 h.sn (.lst (us++[.ref t]))):=bn
 have ts3:bJ H2 (upd H2 h.sn (.lst (us++[.ref t]))):=λb xs e=>kp3 b _ (λz=>by rw [z,hsn2] at e;cases e) e
 refine q _ ⟨sh2.st.kp kp3 sh.n3 ts3 (λz=>by have e:=sh2.st.ins;rw [z,hsn2] at e;cases e),kp3 _ _ (bf sh2.ins hsn2 (by intro z;cases z)) sh2.ins,kp3 _ _ sh.n4 sh2.rws,⟨_,ae,(Paired.mapP pws λ_ _ z=>(z.keep s12.ts).keep ts3).app (.cons (hw.keep ts3) .nil)⟩,sh2.lat.imp id λz=>z.keep ts3,sh.n1,sh.n2,sh.n3,sh.n4,sh.n5⟩ λb o nb e=>?_
 simp only [Ah.own,List.mem_cons,not_or] at nb
 exact kp3 _ _ nb.2.2.1 (s12 _ _ e)
theorem tZ(F:Fun K "rows_told" "Sheet.rows_told" cE f fd)(B:TxB mg)(DH:TxH K CH):FnOk P w K mg base CX0 1 f fd ["self"] (lO CS CH K):=by
 refine F.ok gR (λvs H Q E h=>?_) (λcdv A outer s H vs Q E hr h=>?_)
 ·obtain ⟨A,h,d,rs,ws,v,rfl,_⟩:=h
  rfl
 obtain ⟨S,h,d,rs,ws,v,rfl,sh,q⟩:=h
 refine ⟨_,af (ao (aF fq rfl B.list PyProof.Rows.boot_list (aa (aq (pv 0) rfl) ad))),?_⟩
 exact ⟨_,rfl,h.l,CH,h.dx,_,_,rfl,sh.ins,DH.cl,DH.hw,zi _ _ _,h.rw,_,rfl,.inl (SqL.of sh.rws),λp hp=>q p _ (ai hp) hp ae⟩
variable {CH:Addr}
def zx(CS CH:Addr)(K:PySem.W.Frag):TS:=λD σ H=>∃S h d rs ws v nv,σ=[some (.ref (h:Ah).l),some nv]/\ShA CS CH K H S h d rs ws v/\ws.length<=900/\NwAt K H d.ends nv/\∀p us H',Same H H'->H p=none->H' p=some (.lst us)->Paired (LtAt K H' d.ends) ws us->D.rt (.ref p) H'
theorem vR(F:Fun K "letters_told" "Sheet.letters_told" aY f fd)(D:TxD K CS)(DH:TxH K CH)(GW:GM P w K mg base CX0 1 CS "news" ["self"] (lM CS K)) :
  FnOk P w K mg base CX0 2 f fd ["self"] (hZ CS CH K):=by
 refine F.ok sc_Sheet_letters_told (λvs H Q E h=>?_) (λcdv A outer s H vs Q E hr h=>?_)
 ·obtain ⟨A,h,d,rs,ws,v,rfl,_⟩:=h
  rfl
 obtain ⟨S,h,d,rs,ws,v,rfl,sh,hen,hz,q⟩:=h
 have nd:=sc_Sheet_letters_told.nd
 refine ⟨_,ac (aD (i:=1) nd rfl (Or.inr rfl) (il (am i0 (aq (pv 0) rfl) aO (ap _)) (pm0 GW (aq (pv 0) rfl) D.cl hr) (aq (pv 0) rfl)))
  (cZ (zx CS CH K) (af (ao (fY eK rfl (dU (aq (pv 0) rfl)) (λ_ _ _ _=>fe) (λ_ _ _ _=>bi (aa (aI (r:=dt K) bj (pv 0) aj (λ_ _=>rfl)) (aa (aE (r:=wH K) vH (aI (r:=dt K) bj (pv 0) aj (λ_ _=>rfl)) (bi (aa (pv 1) ad))) ad)))))) ?v1),?_⟩
 case v1 =>
  rintro D0 σ H ⟨S,h,d,rs,ws,v,nv,rfl,sh,hz,hnv,q⟩
  obtain ⟨us,hsn,pws⟩:=sh.snt
  refine ⟨_,rfl,h.l,CH,h.dx,_,_,rfl,sh.ins,DH.cl,DH.hs,wU _ _ _,h.sn,rfl,⟨_,SqL.of hsn⟩,?_⟩
  refine gA (xs:=us) (λi ys H'=>Same H H'/\Paired (LtAt K H' d.ends) (ws.take i) ys) ⟨Same.refl _,.nil⟩ (yK (by rw [← pws.len];omega)) (λi ys H' _ z=>SqL.of (z.1 _ _ hsn)) ?_ ?_
  ·rintro i u ys H1 hu ⟨s1,py⟩
   obtain ⟨x,ex,t,t2,rfl,ht,ht2⟩:=pws.get hu
   have et:ws.take (i+1)=ws.take i++[x]:=by rw [List.take_succ,ex];rfl
   refine kE ⟨_,rfl,t,_,_,_,rfl,rfl,SqT.of (s1 _ _ ht),at0,_,rfl,t,_,_,_,rfl,rfl,SqT.of (s1 _ _ ht),at1,_,rfl,(by show 1<=sizeLine;decide),λt3 ht3=>?_⟩
   have s3:=ai (o:=.tup [nv]) ht3
   refine ⟨t2,t3,_,_,rfl,rfl,SqT.of (s3 _ _ (s1 _ _ ht2)),SqT.of ae,(λz=>by cases z),(by show 4<=sizeLine;decide),(λz=>by cases z),λ_ t4 ht4=>⟨(by show 2<=sizeLine;decide),λt5 ht5=>?_⟩⟩
   have s4:=ai (o:=.tup ([.str x.2.1,.ref x.2.2.1,.ref x.2.2.2]++[nv])) ht4
   have s5:=ai (o:=.tup [.int x.1,.ref t4]) ht5
   have s15:=s1.trans (s3.trans (s4.trans s5))
   rw [et]
   exact ⟨s15,(Paired.mapP py λ_ _ z=>z.keep (s3.trans (s4.trans s5)).ts).app (.cons ⟨t5,t4,nv,rfl,ae,s5 _ _ ae,hnv.keep s15.ts⟩ .nil)⟩
  ·rintro ys H1 ⟨s1,py⟩ p hp
   rw [← pws.len,List.take_length] at py
   have s2:=ai (o:=.lst ys) hp
   have hp0:H p=none:=by
    cases e:H p with
    | none=>rfl
    | some o=>rw [s1 _ _ e] at hp;cases hp
   exact q p ys _ (s1.trans s2) hp0 ae (Paired.mapP py λ_ _ z=>z.keep s2.ts)
 refine ⟨_,rfl,h.l,CH,h.dx,_,_,rfl,sh.ins,DH.cl,DH.hl,wV _ _ _,rfl,_,rfl,?_⟩
 by_cases e:v=.non
 ·refine bx (λ_=>?_) (λc=>absurd (decide_eq_true e) c)
  refine ⟨_,rfl,h.l,CH,h.dx,_,_,rfl,sh.ins,DH.cl,DH.ht,zg _ _ _,S.l,S.dx,_,rfl,sh.st.ins,yN (by decide +kernel),S,d,rfl,sh.st,hen,λnv H1 s1 nw=>?_⟩
  exact ⟨S,h,d,rs,ws,v,nv,rfl,sh.keep s1,hz,nw,λp us H' s' hp=>q p us H' (s1.trans s') (by
   cases e:H p with
   | none=>rfl
   | some o=>rw [s1 _ _ e] at hp;cases hp)⟩
 ·refine bx (λc=>absurd (of_decide_eq_true c) e) (λ_=>?_)
  refine ⟨_,rfl,h.l,CH,h.dx,_,_,rfl,sh.ins,DH.cl,DH.hl,wV _ _ _,?_⟩
  exact ⟨S,h,d,rs,ws,v,v,rfl,sh,hz,sh.lat.resolve_left e,q⟩
end
end K43
namespace K43
open PySem L2 Lo St
section
variable {P:Program}{w:World}{K:PySem.W.Frag}{mg:Str->Option Value}{base:Heap}{f CL CS CP:Addr}{fd:FuncData}{C:Kd->Addr}{CW:Wd->Addr}
theorem tj(F:Fun K "spell" "spell" ig f fd)(GS:GF P w K mg base CX0 2 "shown" ["thing"] K43T.lI):FnOk P w K mg base CX0 3 f fd ["word","numbers"] dr:=by
 refine F.ok sD (λvs H Q E h=>?_) (λcdv A outer s H vs Q E hr h=>?_)
 ·obtain ⟨wd,b,ns,rfl,_⟩:=h
  rfl
 obtain ⟨wd,b,ns,rfl,hb,ar,q⟩:=h
 have hl3:=ar.len
 refine ⟨_,af (ao (eL PySem.F.plainAttrs_str PySem.F.slot_str_join PySem.F.type_str_join qi aA (aa (aE xA (bU (aa (pv 0) ad)) (fY oW rfl (dU (pv 1)) (λ_ _ _ _=>fe) (λ_ _ _ _=>pc GS hr (aa (pv 0) ad)))) ad))),?_⟩
 refine ⟨rfl,_,rfl,(by show 1<=sizeLine;decide),λl hl=>?_⟩
 have s1:Same H _:=ai (o:=.lst [.str (wS wd)]) hl
 refine ⟨_,rfl,b,rfl,⟨_,SqL.of (s1 _ _ hb)⟩,?_⟩
 refine v3 (g:=λi=>V.str (iS i)) (ns:=ns) (SqL.of (s1 _ _ hb)) (Nat.le_trans hl3.2 (by decide)) (λi H1 Q hi s2 h=>?_) (λH1 s2 p hp=>?_)
 ·exact ⟨_,rfl,.inl ⟨i,rfl,fz (ar.all i hi),h H1 (Same.refl _)⟩⟩
 ·have el:H1 l=some (.lst [.str (wS wd)]):=s2 _ _ ae
  refine ⟨l,p,_,_,rfl,rfl,ai hp _ _ el,ae,?_,λp2 hp2=>?_⟩
  ·have h5:(ns.map λi=>V.str (iS i)).length=ns.length:=List.length_map _
   have h6:([V.str (wS wd)]:List V).length=1:=rfl
   have h7:(4:Nat)<=sizeLine:=by decide
   omega
  ·have e:([V.str (wS wd)]++ns.map λi=>V.str (iS i))=(wS wd::ns.map iS).map V.str:=by simp
   refine ⟨_,p2,wS wd::ns.map iS,rfl,rfl,SqL.of (by rw [ae,e]),Nat.le_trans (iF ar) (by decide),?_⟩
   exact q _ (s1.trans (s2.trans ((ai hp).trans (ai hp2))))
theorem tJ(F:Fun K "spelled" "TakeStep.spelled" cp f fd)(W:TxW K CW)(GP:GF P w K mg base CX0 3 "spell" ["word","numbers"] dr):FnOk P w K mg base CX0 4 f fd ["self"] (cb CW .take):=by
 refine F.ok gB (λvs H Q E h=>?_) (λcdv A outer s H vs Q E hr h=>?_)
 ·obtain ⟨v,ns,rfl,_⟩:=h
  rfl
 obtain ⟨v,ns,rfl,ar,⟨a,dx,rfl,ha⟩,q⟩:=h
 obtain ⟨x,y,rfl,_,_,e⟩:=ar.c rfl
 rw [e] at ha
 refine ⟨_,af (ao (pc GP hr (aa aA (aa (bU (aa (aq (pv 0) rfl) (aa (aq (pv 0) rfl) ad))) ad)))),?_⟩
 refine ⟨_,rfl,a,_,dx,_,_,rfl,ha,W.cl _,W.nW _,(by show (al "cell" _ (al "where" _ [])).lookup _=_;rw [aV (by decide +kernel),bw]),_,rfl,a,_,dx,_,_,rfl,ha,W.cl _,W.nC _,(by show (al "cell" _ (al "where" _ [])).lookup _=_;rw [bw]),(by show 2<=sizeLine;decide),λl hl=>?_⟩
 exact ⟨.take,l,_,rfl,ae,ar,λH' s'=>q H' ((ai hl).trans s')⟩
theorem tN(F:Fun K "spelled" "MeanStep.spelled" cu f fd)(W:TxW K CW)(GP:GF P w K mg base CX0 3 "spell" ["word","numbers"] dr):FnOk P w K mg base CX0 4 f fd ["self"] (cb CW .mean):=by
 refine F.ok gE (λvs H Q E h=>?_) (λcdv A outer s H vs Q E hr h=>?_)
 ·obtain ⟨v,ns,rfl,_⟩:=h
  rfl
 obtain ⟨v,ns,rfl,ar,⟨a,dx,rfl,ha⟩,q⟩:=h
 obtain ⟨x,y,rfl,_,_,e⟩:=ar.c rfl
 rw [e] at ha
 refine ⟨_,af (ao (pc GP hr (aa aA (aa (bU (aa (aq (pv 0) rfl) (aa (aq (pv 0) rfl) ad))) ad)))),?_⟩
 refine ⟨_,rfl,a,_,dx,_,_,rfl,ha,W.cl _,W.nW _,(by show (al "cell" _ (al "where" _ [])).lookup _=_;rw [aV (by decide +kernel),bw]),_,rfl,a,_,dx,_,_,rfl,ha,W.cl _,W.nC _,(by show (al "cell" _ (al "where" _ [])).lookup _=_;rw [bw]),(by show 2<=sizeLine;decide),λl hl=>?_⟩
 exact ⟨.mean,l,_,rfl,ae,ar,λH' s'=>q H' ((ai hl).trans s')⟩
theorem tQ(F:Fun K "spelled" "GiveStep.spelled" cv f fd)(W:TxW K CW)(GP:GF P w K mg base CX0 3 "spell" ["word","numbers"] dr):FnOk P w K mg base CX0 4 f fd ["self"] (cb CW .give):=by
 refine F.ok gF (λvs H Q E h=>?_) (λcdv A outer s H vs Q E hr h=>?_)
 ·obtain ⟨v,ns,rfl,_⟩:=h
  rfl
 obtain ⟨v,ns,rfl,ar,⟨a,dx,rfl,ha⟩,q⟩:=h
 obtain ⟨x,y,rfl,_,_,e⟩:=ar.c rfl
 rw [e] at ha
 refine ⟨_,af (ao (pc GP hr (aa aA (aa (bU (aa (aq (pv 0) rfl) (aa (aq (pv 0) rfl) ad))) ad)))),?_⟩
 refine ⟨_,rfl,a,_,dx,_,_,rfl,ha,W.cl _,W.nW _,(by show (al "cell" _ (al "where" _ [])).lookup _=_;rw [aV (by decide +kernel),bw]),_,rfl,a,_,dx,_,_,rfl,ha,W.cl _,W.nC _,(by show (al "cell" _ (al "where" _ [])).lookup _=_;rw [bw]),(by show 2<=sizeLine;decide),λl hl=>?_⟩
 exact ⟨.give,l,_,rfl,ae,ar,λH' s'=>q H' ((ai hl).trans s')⟩
theorem vL(F:Fun K "spelled" "SumStep.spelled" cD f fd)(W:TxW K CW)(GP:GF P w K mg base CX0 3 "spell" ["word","numbers"] dr):FnOk P w K mg base CX0 4 f fd ["self"] (cb CW .sum):=by
 refine F.ok gQ (λvs H Q E h=>?_) (λcdv A outer s H vs Q E hr h=>?_)
 ·obtain ⟨v,ns,rfl,_⟩:=h
  rfl
 obtain ⟨v,ns,rfl,ar,⟨a,dx,rfl,ha⟩,q⟩:=h
 obtain ⟨x,y,z0,rfl,_⟩:=ar.s
 refine ⟨_,af (ao (pc GP hr (aa aA (aa (bU (aa (aq (pv 0) rfl) (aa (aq (pv 0) rfl) (aa (aq (pv 0) rfl) ad)))) ad)))),?_⟩
 refine ⟨_,rfl,a,_,dx,_,_,rfl,ha,W.cl _,W.nW _,(by show (al "high" _ (al "low" _ (al "where" _ []))).lookup _=_;rw [aV (by decide +kernel),aV (by decide +kernel),bw]),_,rfl,a,_,dx,_,_,rfl,ha,W.cl _,W.nL _,(by show (al "high" _ (al "low" _ (al "where" _ []))).lookup _=_;rw [aV (by decide +kernel),bw]),_,rfl,a,_,dx,_,_,rfl,ha,W.cl _,W.nH _,(by show (al "high" _ (al "low" _ (al "where" _ []))).lookup _=_;rw [bw]),(by show 3<=sizeLine;decide),λl hl=>?_⟩
 exact ⟨.sum,l,_,rfl,ae,ar,λH' s'=>q H' ((ai hl).trans s')⟩
theorem vN(F:Fun K "spelled" "AddStep.spelled" cH f fd)(W:TxW K CW)(GP:GF P w K mg base CX0 3 "spell" ["word","numbers"] dr):FnOk P w K mg base CX0 4 f fd ["self"] (cb CW .add):=by
 refine F.ok gU (λvs H Q E h=>?_) (λcdv A outer s H vs Q E hr h=>?_)
 ·obtain ⟨v,ns,rfl,_⟩:=h
  rfl
 obtain ⟨v,ns,rfl,ar,⟨a,dx,rfl,ha⟩,q⟩:=h
 obtain ⟨x,y,z0,rfl,_⟩:=ar.a
 refine ⟨_,af (ao (pc GP hr (aa aA (aa (bU (aa (aq (pv 0) rfl) (aa (aq (pv 0) rfl) (aa (aq (pv 0) rfl) ad)))) ad)))),?_⟩
 refine ⟨_,rfl,a,_,dx,_,_,rfl,ha,W.cl _,W.nW _,(by show (al "amount" _ (al "cell" _ (al "where" _ []))).lookup _=_;rw [aV (by decide +kernel),aV (by decide +kernel),bw]),_,rfl,a,_,dx,_,_,rfl,ha,W.cl _,W.nC _,(by show (al "amount" _ (al "cell" _ (al "where" _ []))).lookup _=_;rw [aV (by decide +kernel),bw]),_,rfl,a,_,dx,_,_,rfl,ha,W.cl _,W.nA _,(by show (al "amount" _ (al "cell" _ (al "where" _ []))).lookup _=_;rw [bw]),(by show 3<=sizeLine;decide),λl hl=>?_⟩
 exact ⟨.add,l,_,rfl,ae,ar,λH' s'=>q H' ((ai hl).trans s')⟩
theorem tK(F:Fun K "spelled" "PlusStep.spelled" cq f fd)(W:TxW K CW)(GP:GF P w K mg base CX0 3 "spell" ["word","numbers"] dr):FnOk P w K mg base CX0 4 f fd ["self"] (cb CW .plus):=by
 refine F.ok gC (λvs H Q E h=>?_) (λcdv A outer s H vs Q E hr h=>?_)
 ·obtain ⟨v,ns,rfl,_⟩:=h
  rfl
 obtain ⟨v,ns,rfl,ar,⟨a,dx,rfl,ha⟩,q⟩:=h
 obtain ⟨x,rfl,_⟩:=ar.p
 refine ⟨_,af (ao (pc GP hr (aa aA (aa (bU (aa (aq (pv 0) rfl) ad)) ad)))),?_⟩
 refine ⟨_,rfl,a,_,dx,_,_,rfl,ha,W.cl _,W.nA _,(by show (al "amount" _ []).lookup _=_;rw [bw]),(by show 1<=sizeLine;decide),λl hl=>?_⟩
 exact ⟨.plus,l,_,rfl,ae,ar,λH' s'=>q H' ((ai hl).trans s')⟩
theorem tL(F:Fun K "spelled" "NeedStep.spelled" cr f fd)(W:TxW K CW)(GP:GF P w K mg base CX0 3 "spell" ["word","numbers"] dr):FnOk P w K mg base CX0 4 f fd ["self"] (cb CW .need):=by
 refine F.ok gD (λvs H Q E h=>?_) (λcdv A outer s H vs Q E hr h=>?_)
 ·obtain ⟨v,ns,rfl,_⟩:=h
  rfl
 obtain ⟨v,ns,rfl,ar,⟨a,dx,rfl,ha⟩,q⟩:=h
 obtain ⟨x,rfl,_⟩:=ar.n
 refine ⟨_,af (ao (pc GP hr (aa aA (aa (bU (aa (aq (pv 0) rfl) ad)) ad)))),?_⟩
 refine ⟨_,rfl,a,_,dx,_,_,rfl,ha,W.cl _,W.nA _,(by show (al "amount" _ []).lookup _=_;rw [bw]),(by show 1<=sizeLine;decide),λl hl=>?_⟩
 exact ⟨.need,l,_,rfl,ae,ar,λH' s'=>q H' ((ai hl).trans s')⟩
theorem vO(F:Fun K "made_sum" "made_sum" gV f fd)(I:WI P w K mg base CW .sum):FnOk P w K mg base CX0 4 f fd ["where","low","high"] (oQ CW):=by
 refine F.ok nt (λvs H Q E h=>?_) (λcdv A outer s H vs Q E hr h=>?_)
 ·obtain ⟨x,y,z,rfl,_⟩:=h
  rfl
 obtain ⟨x,y,z,rfl,ar,q⟩:=h
 have hr1:Room (2+1) _:=hr
 refine ⟨_,ac (aC (am jd (pv 1) (pv 2) (ap _)) aB au) (af (ao (ce I.M I.ok hr1 rfl I.m I.b .nil bo (aa (pv 0) (aa (pv 1) (aa (pv 2) ad)))))),?_⟩
 have hle:y<=z:=ar.2.2.2
 refine ⟨_,rfl,_,rfl,_,_,rfl,rfl,_,rfl,bx (λc=>absurd (of_decide_eq_true c) (show ¬z<y by omega)) (λ_=>?_)⟩
 exact ⟨_,rfl,_,rfl,_,rfl,λp dp np ndp nep=>⟨p,dp,[x,y,z],rfl,ar,ae,λH' h1 h2=>⟨rfl,q _ H' (fw np ndp h2) ⟨p,dp,rfl,h1⟩⟩⟩⟩
theorem tW(F:Fun K "made_step" "made_step" fU f fd)(I:∀wd,WI P w K mg base CW wd)(GS:GF P w K mg base CX0 4 "made_sum" ["where","low","high"] (oQ CW)):FnOk P w K mg base CX0 5 f fd ["word","numbers"] (oP CW):=by
 refine F.ok lW (λvs H Q E h=>?_) (λcdv A outer s H vs Q E hr h=>?_)
 ·obtain ⟨wd,b,ns,rfl,_⟩:=h
  rfl
 obtain ⟨wd,b,ns,rfl,hb,ar,q⟩:=h
 have hr1:Room (2+1) _:=hr.mono (by decide)
 refine ⟨_,(ac (aC (am aR (pv 0) aA (ap _)) (af (ao (ce (I .take).M (I .take).ok hr1 rfl (I .take).m (I .take).b .nil bo (aa (aI (r:=cY K) aN (pv 1) aj (λ_ _=>rfl)) (aa (aI (r:=cY K) aN (pv 1) aj (λ_ _=>rfl)) ad))))) au)
  (ac (aC (am aR (pv 0) aA (ap _)) (af (ao (ce (I .mean).M (I .mean).ok hr1 rfl (I .mean).m (I .mean).b .nil bo (aa (aI (r:=cY K) aN (pv 1) aj (λ_ _=>rfl)) (aa (aI (r:=cY K) aN (pv 1) aj (λ_ _=>rfl)) ad))))) au)
  (ac (aC (am aR (pv 0) aA (ap _)) (af (ao (pc GS hr (aa (aI (r:=cY K) aN (pv 1) aj (λ_ _=>rfl)) (aa (aI (r:=cY K) aN (pv 1) aj (λ_ _=>rfl)) (aa (aI (r:=cY K) aN (pv 1) aj (λ_ _=>rfl)) ad)))))) au)
  (ac (aC (am aR (pv 0) aA (ap _)) (af (ao (ce (I .give).M (I .give).ok hr1 rfl (I .give).m (I .give).b .nil bo (aa (aI (r:=cY K) aN (pv 1) aj (λ_ _=>rfl)) (aa (aI (r:=cY K) aN (pv 1) aj (λ_ _=>rfl)) ad))))) au)
  (ac (aC (am aR (pv 0) aA (ap _)) (af (ao (ce (I .add).M (I .add).ok hr1 rfl (I .add).m (I .add).b .nil bo (aa (aI (r:=cY K) aN (pv 1) aj (λ_ _=>rfl)) (aa (aI (r:=cY K) aN (pv 1) aj (λ_ _=>rfl)) (aa (aI (r:=cY K) aN (pv 1) aj (λ_ _=>rfl)) ad)))))) au)
  (ac (aC (am aR (pv 0) aA (ap _)) (af (ao (ce (I .plus).M (I .plus).ok hr1 rfl (I .plus).m (I .plus).b .nil bo (aa (aI (r:=cY K) aN (pv 1) aj (λ_ _=>rfl)) ad)))) au)
  (af (ao (ce (I .need).M (I .need).ok hr1 rfl (I .need).m (I .need).b .nil bo (aa (aI (r:=cY K) aN (pv 1) aj (λ_ _=>rfl)) ad)))))))))),?_⟩
 refine ⟨_,rfl,rfl,_,rfl,bx (λc=>?_) (λc0=>?_)⟩
 ·obtain rfl:wd=.take:=kC c
  obtain ⟨x,y,rfl,_⟩:=ar.c rfl
  exact ⟨_,rfl,b,_,_,_,rfl,rfl,SqL.of hb,rfl,_,rfl,b,_,_,_,rfl,rfl,SqL.of hb,rfl,λp dp np ndp nep=>⟨p,dp,[x,y],rfl,ar,ae,λH' h1 h2=>⟨rfl,q _ H' (fw np ndp h2) ⟨p,dp,rfl,h1⟩⟩⟩⟩
 refine ⟨_,rfl,rfl,_,rfl,bx (λc=>?_) (λc1=>?_)⟩
 ·obtain rfl:wd=.mean:=kC c
  obtain ⟨x,y,rfl,_⟩:=ar.c rfl
  exact ⟨_,rfl,b,_,_,_,rfl,rfl,SqL.of hb,rfl,_,rfl,b,_,_,_,rfl,rfl,SqL.of hb,rfl,λp dp np ndp nep=>⟨p,dp,[x,y],rfl,ar,ae,λH' h1 h2=>⟨rfl,q _ H' (fw np ndp h2) ⟨p,dp,rfl,h1⟩⟩⟩⟩
 refine ⟨_,rfl,rfl,_,rfl,bx (λc=>?_) (λc2=>?_)⟩
 ·obtain rfl:wd=.sum:=kC c
  obtain ⟨x,y,z,rfl,_⟩:=ar.s
  exact ⟨_,rfl,b,_,_,_,rfl,rfl,SqL.of hb,rfl,_,rfl,b,_,_,_,rfl,rfl,SqL.of hb,rfl,_,rfl,b,_,_,_,rfl,rfl,SqL.of hb,rfl,x,y,z,rfl,ar,q⟩
 refine ⟨_,rfl,rfl,_,rfl,bx (λc=>?_) (λc3=>?_)⟩
 ·obtain rfl:wd=.give:=kC c
  obtain ⟨x,y,rfl,_⟩:=ar.c rfl
  exact ⟨_,rfl,b,_,_,_,rfl,rfl,SqL.of hb,rfl,_,rfl,b,_,_,_,rfl,rfl,SqL.of hb,rfl,λp dp np ndp nep=>⟨p,dp,[x,y],rfl,ar,ae,λH' h1 h2=>⟨rfl,q _ H' (fw np ndp h2) ⟨p,dp,rfl,h1⟩⟩⟩⟩
 refine ⟨_,rfl,rfl,_,rfl,bx (λc=>?_) (λc4=>?_)⟩
 ·obtain rfl:wd=.add:=kC c
  obtain ⟨x,y,z,rfl,_⟩:=ar.a
  exact ⟨_,rfl,b,_,_,_,rfl,rfl,SqL.of hb,rfl,_,rfl,b,_,_,_,rfl,rfl,SqL.of hb,rfl,_,rfl,b,_,_,_,rfl,rfl,SqL.of hb,rfl,λp dp np ndp nep=>⟨p,dp,[x,y,z],rfl,ar,ae,λH' h1 h2=>⟨rfl,q _ H' (fw np ndp h2) ⟨p,dp,rfl,h1⟩⟩⟩⟩
 refine ⟨_,rfl,rfl,_,rfl,bx (λc=>?_) (λc5=>?_)⟩
 ·obtain rfl:wd=.plus:=kC c
  obtain ⟨x,rfl,_⟩:=ar.p
  exact ⟨_,rfl,b,_,_,_,rfl,rfl,SqL.of hb,rfl,λp dp np ndp nep=>⟨p,dp,[x],rfl,ar,ae,λH' h1 h2=>⟨rfl,q _ H' (fw np ndp h2) ⟨p,dp,rfl,h1⟩⟩⟩⟩
 obtain rfl:wd=.need:=wY (iG (b:=.take) c0) (iG (b:=.mean) c1) (iG (b:=.sum) c2) (iG (b:=.give) c3) (iG (b:=.add) c4) (iG (b:=.plus) c5)
 obtain ⟨x,rfl,_⟩:=ar.n
 exact ⟨_,rfl,b,_,_,_,rfl,rfl,SqL.of hb,rfl,λp dp np ndp nep=>⟨p,dp,[x],rfl,ar,ae,λH' h1 h2=>⟨rfl,q _ H' (fw np ndp h2) ⟨p,dp,rfl,h1⟩⟩⟩⟩
theorem vJ{CN:Addr}{bm:List Value}{new:String}(F:Fun K "read_number" "read_number" ed f fd)(B:TxB mg)(mN:mg "NoThing"=some (.ref CN))(xN:PySem.W.excIn K CN bm new=true)(hb:bm.contains (.type "BaseException")=true)
  (cF:∃t,mg "MOST_FIGURES_steps"=some (.int 40 t))(GR:GF P w K mg base CX0 4 "read_thing" ["text"] K43T.oN)(GW:GF P w K mg base CX0 1 "is_whole" ["thing"] K43T.jt):FnOk P w K mg base CX0 5 f fd ["word","letter"] oO:=by
 refine F.ok sc_read_number (λvs H Q E h=>?_) (λcdv A outer s H vs Q E hr h=>?_)
 ·obtain ⟨i,c,rfl,_⟩:=h
  rfl
 obtain ⟨i,c,rfl,hi,hneg,q⟩:=h
 have nd:=sc_read_number.nd
 refine ⟨_,ac (qR (j:=2) (C:=CN) rfl rfl rfl nd rfl (Or.inl rfl) (xu (pc GR hr (aa (pv 0) ad))) rfl mN (oI mN xN hb) (λ_=>aB))
  (ac (aC (PW.pt (ij (jP (bD (pc GW hr (aa (pv 2) ad)))) (gW (am jd (aw be rfl B.len PySem.boot_len (aa (eL PySem.F.plainAttrs_str PySem.F.slot_str_lstrip PySem.F.type_str_lstrip pj (pv 0) (aa aA ad)) ad)) (mv cF rfl) (ap _))))) aB au)
  (ac (aC (PW.pt (da (am jV (pv 2) aj (ap _)) (cS (am f8 (pv 1) aA (ap _))))) aB au)
  (af (ao (pv 2))))),?_⟩
 have hl:=v6 hi
 have h1:(100000:Nat)<=sizeLine:=by decide
 have hL:=pC hi
 refine ⟨_,rfl,iS i,.int i,rfl,(by rw [om];exact .num i (Nat.lt_trans hi (by decide +kernel))),(λd hd=>?_),hl,λH1 s1=>?_⟩
 ·rw [om] at hd
  rcases ug hd with rfl | ⟨a1,a2⟩
  ·decide
  ·show (decide _&&decide _&&_)=true
   simp
   omega
 refine ⟨_,rfl,_,_,rfl,rfl,_,rfl,aJ ?_⟩
 refine ⟨_,rfl,rfl,iS i,_,rfl,rfl,by omega,_,rfl,Nat.le_trans hL (by decide),_,_,rfl,rfl,_,rfl,bx (λc=>absurd (of_decide_eq_true c) (λz=>?_)) (λ_=>?_)⟩
 ·have z':(40:Int)<(((Txt.lstripChars (iS i) (Str.ofString "-")).length:Nat):Int):=z
  omega
 refine ⟨_,rfl,_,_,rfl,rfl,_,rfl,bx (λcc=>?_) (λ_=>⟨_,rfl,q H1 s1⟩)⟩
 have hc:c=86:=hneg (of_decide_eq_true cc)
 subst hc
 exact ⟨_,rfl,rfl,_,rfl,wR (congrArg V.str (by decide +kernel)) ⟨_,rfl,q H1 s1⟩⟩
theorem tG(F:Fun K "read_step" "read_step" cV f fd)(B:TxB mg){aS:Addr}(mS:mg "SHAPES"=some (.ref aS))(tS:TabK K aS ju)(GN:GF P w K mg base CX0 5 "read_number" ["word","letter"] oO)
  (GS:GF P w K mg base CX0 5 "made_step" ["word","numbers"] (oP CW)):FnOk P w K mg base CX0 6 f fd ["text"] (lJ CW):=by
 refine F.ok sc_read_step (λvs H Q E h=>?_) (λcdv A outer s H vs Q E hr h=>?_)
 ·obtain ⟨wd,ns,rfl,_⟩:=h
  rfl
 obtain ⟨wd,ns,rfl,ar,q⟩:=h
 have nd:=sc_read_step.nd
 have hl3:=ar.len
 have el:=ve ar
 refine ⟨_,ac (aD (i:=1) nd rfl (Or.inr rfl) (eL PySem.F.plainAttrs_str PySem.F.slot_str_split PySem.F.type_str_split rg (pv 0) (aa aA ad)))
  (ac (aD (i:=2) nd rfl (Or.inr rfl) (vw (D:=ju) (bK (v:=.ref aS) rfl mS rfl) (aI (r:=cY K) aN (pv 1) aj (λ_ _=>rfl)) ⟨rfl,rfl,rfl,rfl⟩ tS))
  (ac (aC (PW.pt (ij (am i0 (pv 2) aO (ap _)) (gW (am f8 (aw az rfl B.len PySem.boot_len (aa (pv 1) ad)) (aE eE (aw be rfl B.len PySem.boot_len (aa (pv 2) ad)) aj) (ap _))))) aB au)
  (af (ao (pc GS hr (aa (aI (r:=cY K) aN (pv 1) aj (λ_ _=>rfl)) (aa (fY jK rfl (dv rfl B.range (aa (aw be rfl B.len PySem.boot_len (aa (pv 2) ad)) ad)) (λ_ _ _ _=>fe)
   (λ_ _ _ _=>pc GN hr (aa (aI (r:=cY K) aN (pv 1) (aE eE (pv 0) aj) (λ_ _=>rfl)) (aa (aI uq (pv 2) (pv 0) (λ_ _=>rfl)) ad)))) ad))))))),?_⟩
 refine ⟨_,rfl,rfl,txt wd ns,32,rfl,congrArg (λz=>[V.str z]) fM,uY ar,λp hp=>?_⟩
 rw [qI]
 have s1:Same H _:=ai (o:=.lst ((wS wd::ns.map iS).map V.str)) hp
 have hp1:(upd H p (.lst ((wS wd::ns.map iS).map V.str))) p=some (.lst ((wS wd::ns.map iS).map V.str)):=ae
 generalize (upd H p _)=H1 at s1 hp1 ⊢
 refine ⟨_,rfl,p,_,_,_,rfl,rfl,SqL.of hp1,St.at0,wS wd,shp wd,rfl,sB wd,?_⟩
 refine ⟨_,rfl,rfl,_,rfl,bx (λc=>absurd (of_decide_eq_true c) (by intro z;cases z)) (λ_=>?_)⟩
 refine ⟨_,rfl,p,_,rfl,.inl (SqL.of hp1),_,rfl,_,rfl,jG wd,_,_,rfl,rfl,rfl,_,rfl,wR ?_ ?_⟩
 ·rw [el]
  simp
 refine ⟨_,rfl,p,_,_,_,rfl,rfl,SqL.of hp1,St.at0,?_⟩
 refine ⟨_,rfl,_,rfl,jG wd,_,rfl,by omega,by rw [el];omega,?_⟩
 have e0:(((shp wd).length:Nat):Int).toNat=ns.length:=by rw [el];rfl
 rw [e0]
 refine iu (n:=ns.length) (λi ys H'=>Same H1 H'/\ys=(ns.take i).map V.int) ⟨Same.refl _,rfl⟩ (Nat.le_trans hl3.2 (by decide)) ?_ ?_
 ·rintro i ys H2 hi ⟨s2,rfl⟩
  have hn:ns[i]?=some ns[i]:=List.getElem?_eq_getElem hi
  obtain ⟨c,hc,hneg⟩:=xl ar hn
  refine kE ⟨_,rfl,_,rfl,_,_,rfl,rfl,p,_,_,_,rfl,rfl,SqL.of (s2 _ _ hp1),?_,_,rfl,_,rfl,_,_,_,rfl,rfl,jG wd,bv hc,ns[i],c,rfl,ar.all _ (List.getElem_mem hi),hneg,λH3 s3=>⟨s2.trans s3,?_⟩⟩
  ·have e1:((i:Nat):Int)+1=((i+1:Nat):Int):=rfl
   rw [e1]
   refine bv ?_
   rw [List.map_cons,List.getElem?_cons_succ,List.map_map,List.getElem?_map,hn]
   rfl
  ·have e2:ns.take (i+1)=ns.take i++[ns[i]]:=by
    rw [List.take_add_one,hn]
    rfl
   rw [e2,List.map_append]
   rfl
 ·rintro ys H2 ⟨s2,rfl⟩ p2 hp2
  rw [List.take_length]
  exact ⟨wd,p2,ns,rfl,ae,ar,λv H3 s3 st=>q v H3 (s1.trans (s2.trans ((ai hp2).trans s3))) st⟩
theorem qY(F:Fun K "__init__" "Pact.__init__" gc f fd)(B:TxB mg)(T:TxP K CP):FnOk P w K mg base CX0 1 f fd ["self","manner","steps"] (pY CP):=by
 refine F.ok l4 (λvs H Q E h=>?_) (λcdv A outer s H vs Q E hr h=>?_)
 ·obtain ⟨l,dx,m,q,us,rfl,_⟩:=h
  rfl
 obtain ⟨l,dx,m,q,us,rfl,hl,hq,qr⟩:=h
 refine ⟨_,ac (aH (pv 0) (pv 1) rfl) (ac (aH (pv 0) (aF fq rfl B.list PyProof.Rows.boot_list (aa (pv 2) ad)) rfl)
  (af (aH (pv 0) (aF eG rfl B.tuple PyProof.Rows.boot_tuple (aa (pv 2) ad)) rfl))),?_⟩
 have nlq:q≠l:=λz=>by rw [z,hl] at hq;cases hq
 refine ⟨_,rfl,_,rfl,l,CP,dx,[],rfl,hl,T.cl,T.nm,(by show 0<1000;decide),?_⟩
 have k1:Kp l H (upd H l (.ins CP dx (al "manner" (.str m) []))):=bn
 have hl1:(upd H l (.ins CP dx (al "manner" (.str m) []))) l=some (.ins CP dx (al "manner" (.str m) [])):=ae
 have hq1:=k1 _ _ nlq hq
 generalize (upd H l (HO.ins CP dx (al "manner" (.str m) [])))=H1 at k1 hl1 hq1 ⊢
 refine ⟨_,rfl,q,us,rfl,.inl (SqL.of hq1),λsl hsl=>?_⟩
 have s2:=ai (o:=.lst us) hsl
 have nl:l≠sl:=ah hl1 hsl
 refine ⟨_,rfl,l,CP,dx,_,rfl,s2 _ _ hl1,T.cl,T.ns,(by show 1<1000;decide),?_⟩
 have k2:Kp l H1 (upd (upd H1 sl (.lst us)) l (.ins CP dx (al "steps" (.ref sl) (al "manner" (.str m) [])))):=(Kp.of s2).trans bn
 have hl2:(upd (upd H1 sl (.lst us)) l (.ins CP dx (al "steps" (.ref sl) (al "manner" (.str m) [])))) l=some (.ins CP dx (al "steps" (.ref sl) (al "manner" (.str m) []))):=ae
 have hs2:(upd (upd H1 sl (.lst us)) l (.ins CP dx (al "steps" (.ref sl) (al "manner" (.str m) [])))) sl=some (.lst us):=by rw [ay (Ne.symm nl)];exact ae
 have hq2:=k2 _ _ nlq hq1
 generalize (upd (upd H1 sl (.lst us)) l (HO.ins CP dx (al "steps" (.ref sl) (al "manner" (.str m) []))))=H2 at k2 hl2 hs2 hq2 ⊢
 refine ⟨_,rfl,q,us,rfl,.inl ⟨SqL.of hq2,λtp htp=>?_⟩⟩
 have s3:=ai (o:=.tup us) htp
 have nl3:l≠tp:=ah hl2 htp
 refine ⟨_,rfl,l,CP,dx,_,rfl,s3 _ _ hl2,T.cl,T.np,Nat.lt_of_le_of_lt (cy _ _ _) (by show 1+1<1000;decide),?_⟩
 have k3:Kp l H2 (upd (upd H2 tp (.tup us)) l (.ins CP dx (pf m sl tp))):=(Kp.of s3).trans bn
 refine qr sl tp _ ae (k3 _ _ (Ne.symm nl) hs2) (by rw [ay (Ne.symm nl3)];exact ae) ?_ ?_ ((k1.trans k2).trans k3)
 ·cases e:H sl with
  | none=>rfl
  | some o=>rw [k1 _ _ (Ne.symm nl) e] at hsl;cases hsl
 ·cases e:H tp with
  | none=>rfl
  | some o=>rw [(k1.trans k2) _ _ (Ne.symm nl3) e] at htp;cases htp
theorem tH(F:Fun K "read_part" "read_part" fT f fd)(GS:GF P w K mg base CX0 6 "read_step" ["text"] (lJ CW)):FnOk P w K mg base CX0 7 f fd ["text","number"] (lK CW):=by
 refine F.ok lV (λvs H Q E h=>?_) (λcdv A outer s H vs Q E hr h=>?_)
 ·obtain ⟨x,k,rfl,_⟩:=h
  rfl
 obtain ⟨x,k,rfl,ar,q⟩:=h
 exact ⟨_,af (qc (af (ao (pc GS hr (aa (pv 0) ad))))),_,rfl,x.1,x.2,rfl,ar,q⟩
structure Al where
 (l dx na tp ho hd:Addr)
def lf(A:Al)(tn:Int)(nm:V)(cl:Bool)(ex:List (Str×V)):List (Str×V):=("name",.ref A.na)::("steps",.ref A.tp)::("houses",.ref A.ho)::("hands",.ref A.hd)::("turns",.int tn)::("named",nm)::("closed",.bl cl)::ex
abbrev lfN:List Str:=["name","steps","houses","hands","turns","named","closed"]
section
variable {A:Al}{tn:Int}{nm:V}{cl:Bool}{ex:List (Str×V)}
theorem qk:(lf A tn nm cl ex).lookup ("name":Str)=some (.ref A.na):=by kernel_rfl
theorem jX:(lf A tn nm cl ex).lookup ("steps":Str)=some (.ref A.tp):=by kernel_rfl
theorem uk:(lf A tn nm cl ex).lookup ("houses":Str)=some (.ref A.ho):=by kernel_rfl
theorem eP:(lf A tn nm cl ex).lookup ("hands":Str)=some (.ref A.hd):=by kernel_rfl
theorem wL:(lf A tn nm cl ex).lookup ("turns":Str)=some (.int tn):=by kernel_rfl
theorem qj:(lf A tn nm cl ex).lookup ("named":Str)=some nm:=by kernel_rfl
theorem wO:(lf A tn nm cl ex).lookup ("closed":Str)=some (.bl cl):=by kernel_rfl
theorem wM{m:Str}(h:decide (m∈lfN)=false):(lf A tn nm cl ex).lookup m=ex.lookup m:=by
 have h':m∉lfN:=of_decide_eq_false h
 simp only [lfN,List.mem_cons,List.not_mem_nil,or_false,not_or] at h'
 obtain ⟨h1,h2,h3,h4,h5,h6,h7⟩:=h'
 unfold lf
 simp only [List.lookup_cons,beq_false_of_ne h1,beq_false_of_ne h2,beq_false_of_ne h3,beq_false_of_ne h4,beq_false_of_ne h5,beq_false_of_ne h6,beq_false_of_ne h7]
theorem xV(n:Int):al "turns" (.int n) (lf A tn nm cl ex)=lf A n nm cl ex:=by kernel_rfl
theorem uj(v:V):al "named" v (lf A tn nm cl ex)=lf A tn v cl ex:=by kernel_rfl
theorem xW(b:Bool):al "closed" (.bl b) (lf A tn nm cl ex)=lf A tn nm b ex:=by kernel_rfl
end
structure TxA(K:PySem.W.Frag)(CL:Addr):Prop where
 cl:Cls K CL
 na:NoAttr K CL "name"
 tp:NoAttr K CL "steps"
 ho:NoAttr K CL "houses"
 hd:NoAttr K CL "hands"
 tn:NoAttr K CL "turns"
 nm:NoAttr K CL "named"
 cd:NoAttr K CL "closed"
structure Ld(CL:Addr)(CW:Wd->Addr)(H:Hp)(A:Al)(p:Pa)(xs:List Stp)(hs ys:List Int)(tn:Int)(nm:V)(cl:Bool)(ex:List (Str×V)):Prop where
 ins:H A.l=some (.ins CL A.dx (lf A tn nm cl ex))
 nam:H A.na=some (.tup [.int p.1,.int p.2])
 stp:∃us,H A.tp=some (.tup us)/\StsP CW H xs us
 hou:H A.ho=some (.tup (hs.map V.int))
 han:H A.hd=some (.lst (ys.map V.int))
 ar:ArS xs
 le:ys.length<=xs.length
 lx:xs.length<=12
 fx:ex.length<=9
section
variable {CL:Addr}{CW:Wd->Addr}{H H':Hp}{A:Al}{p:Pa}{xs:List Stp}{hs ys:List Int}{tn:Int}{nm:V}{cl:Bool}{ex:List (Str×V)}
theorem Ld.keep(q:Ld CL CW H A p xs hs ys tn nm cl ex)(e:Same H H'):Ld CL CW H' A p xs hs ys tn nm cl ex:=by
 obtain ⟨us,h1,h2⟩:=q.stp
 exact ⟨e _ _ q.ins,e _ _ q.nam,⟨us,e _ _ h1,h2.keep e⟩,e _ _ q.hou,e _ _ q.han,q.ar,q.le,q.lx,q.fx⟩
theorem Ld.few(q:Ld CL CW H A p xs hs ys tn nm cl ex):(lf A tn nm cl ex).length<1000:=by
 have:=q.fx
 unfold lf
 simp only [List.length_cons]
 omega
theorem Ld.upd(q:Ld CL CW H A p xs hs ys tn nm cl ex){tn':Int}{nm':V}{cl':Bool}{ex':List (Str×V)}(hx:ex'.length<=9)(hC:∀wd,CW wd≠CL):Ld CL CW (upd H A.l (.ins CL A.dx (lf A tn' nm' cl' ex'))) A p xs hs ys tn' nm' cl' ex':=by
 obtain ⟨us,h1,h2⟩:=q.stp
 have k:Kp A.l H (L2.upd H A.l (.ins CL A.dx (lf A tn' nm' cl' ex'))):=bn
 refine ⟨ae,k _ _ (bf q.nam q.ins (by intro z;cases z)) q.nam,⟨us,k _ _ (bf h1 q.ins (by intro z;cases z)) h1,Paired.mapP h2 λx v z=>?_⟩,k _ _ (bf q.hou q.ins (by intro z;cases z)) q.hou,k _ _ (bf q.han q.ins (by intro z;cases z)) q.han,q.ar,q.le,q.lx,hx⟩
 obtain ⟨a,dx,rfl,e⟩:=z
 exact ⟨a,dx,rfl,k _ _ (λz=>by rw [z,q.ins] at e;exact hC _ (HO.ins.inj (Option.some.inj e)).1.symm) e⟩
end
def aX(xs:List Stp)(ys:List Int):V:=match xs[ys.length]? with | none=>.non | some x=>aL x.1 x.2
def ba(ys:List Int):Int:=ys.getLast?.getD 0
section
variable (CL:Addr)(CW:Wd->Addr)
def gN:Sp:=λvs H Q _=>∃A p xs hs ys tn nm cl ex,vs=[.ref (A:Al).l]/\Ld CL CW H A p xs hs ys tn nm cl ex/\Q (aX xs ys) H
def jF:Sp:=λvs H Q _=>∃A p xs hs ys tn nm cl ex,vs=[.ref (A:Al).l]/\Ld CL CW H A p xs hs ys tn nm cl ex/\Q (.int (ba ys)) H
def mT:Sp:=λvs H Q _=>∃A p xs hs ys tn nm cl ex m i us,vs=[.ref (A:Al).l,.ref m]/\Ld CL CW H A p xs hs ys tn nm cl ex/\ex.lookup ("next_house":Str)=none/\H m=some (.tup (.int i::us))/\Q (.bl (!decide (aX xs ys=.non)&&decide (i=(ys.length:Nat)))) H
def mR:Sp:=λvs H Q _=>∃A p xs hs ys tn nm cl ex o,vs=[.ref (A:Al).l,.str o]/\Ld CL CW H A p xs hs ys tn nm cl ex/\Q (.str o) (upd H A.l (.ins CL A.dx (lf A tn (.str o) cl ex)))
end
theorem qg(F:Fun K "next_house" "Lead.next_house" cG f fd)(B:TxB mg)(T:TxA K CL)(W:TxW K CW)(GH:∀wd,GM P w K mg base CX0 1 (CW wd) "house" ["self"] (eV CW wd)):FnOk P w K mg base CX0 2 f fd ["self"] (gN CL CW):=by
 refine F.ok gS (λvs H Q E h=>?_) (λcdv A outer s H vs Q E hr h=>?_)
 ·obtain ⟨A,p,xs,hs,ys,tn,nm,cl,ex,rfl,_⟩:=h
  rfl
 obtain ⟨A,p,xs,hs,ys,tn,nm,cl,ex,rfl,ld,q⟩:=h
 refine ⟨_,ac (aC (am aR (aw az rfl B.len PySem.boot_len (aa (aq (pv 0) rfl) ad)) (aw az rfl B.len PySem.boot_len (aa (aq (pv 0) rfl) ad)) (ap _)) (af (ao aO)) au)
  (af (ao (f6 λwd=>pm0 (GH wd) (aI (r:=dt K) bj (aq (pv 0) rfl) (aw az rfl B.len PySem.boot_len (aa (aq (pv 0) rfl) ad)) (λ_ _=>rfl)) (W.cl wd) hr))),?_⟩
 obtain ⟨us,h1,h2⟩:=ld.stp
 have pl:xs.length=us.length:=h2.len
 have hy:(ys.map V.int).length=ys.length:=List.length_map _
 refine ⟨_,rfl,A.l,CL,A.dx,_,_,rfl,ld.ins,T.cl,T.hd,eP,A.hd,_,rfl,.inl (SqL.of ld.han),_,rfl,A.l,CL,A.dx,_,_,rfl,ld.ins,T.cl,T.tp,jX,A.tp,_,rfl,.inr (SqT.of h1),rfl,_,rfl,?_⟩
 rw [hy]
 by_cases e:ys.length=us.length
 ·have e2:aX xs ys=.non:=by unfold aX;rw [List.getElem?_eq_none (by omega)]
  rw [e2] at q
  exact bx (λ_=>q) (λc=>absurd (decide_eq_true (by rw [e])) c)
 ·refine bx (λc=>absurd (of_decide_eq_true c) (λz=>e (by have:=V.int.inj z;omega))) (λ_=>?_)
  have hk:ys.length<us.length:=by have:=ld.le;omega
  obtain ⟨x,ex',sa,sdx,e3,hsa⟩:=h2.get (List.getElem?_eq_getElem hk)
  have e2:aX xs ys=aL x.1 x.2:=by unfold aX;rw [ex']
  rw [e2] at q
  have f1:=kU (m:="house") (by decide +kernel) (by decide +kernel) (by decide +kernel) (by decide +kernel) (by decide +kernel) x.1 x.2
  exact ⟨x.1,_,rfl,A.l,CL,A.dx,_,_,rfl,ld.ins,T.cl,T.tp,jX,_,rfl,A.l,CL,A.dx,_,_,rfl,ld.ins,T.cl,T.hd,eP,A.hd,_,rfl,.inl (SqL.of ld.han),A.tp,_,_,_,rfl,rfl,SqT.of h1,bv (by rw [hy,List.getElem?_eq_getElem hk,e3]),sa,sdx,_,rfl,hsa,f1,_,x.2,rfl,ld.ar x (List.mem_of_getElem? ex'),⟨sa,sdx,rfl,hsa⟩,q⟩
theorem qh(F:Fun K "present_hand" "Lead.present_hand" cg f fd)(T:TxA K CL):FnOk P w K mg base CX0 1 f fd ["self"] (jF CL CW):=by
 refine F.ok fO (λvs H Q E h=>?_) (λcdv A outer s H vs Q E hr h=>?_)
 ·obtain ⟨A,p,xs,hs,ys,tn,nm,cl,ex,rfl,_⟩:=h
  rfl
 obtain ⟨A,p,xs,hs,ys,tn,nm,cl,ex,rfl,ld,q⟩:=h
 refine ⟨_,af (ao (il (nB (aq (pv 0) rfl) (λ_=>rfl)) (aI (r:=cY K) aN (aq (pv 0) rfl) (wI rO aj) (λ_ _=>rfl)) aj)),?_⟩
 refine ⟨_,rfl,A.l,CL,A.dx,_,_,rfl,ld.ins,T.cl,T.hd,eP,_,.inl ⟨_,SqL.of ld.han,rfl⟩,?_⟩
 rcases List.eq_nil_or_concat ys with rfl | ⟨zs,z,rfl⟩
 ·exact aJ q
 ·have e:(!List.isEmpty ((zs.concat z).map V.int))=true:=by simp
  rw [e]
  refine bu ⟨_,rfl,A.l,CL,A.dx,_,_,rfl,ld.ins,T.cl,T.hd,eP,_,rfl,A.hd,_,_,_,rfl,rfl,SqL.of ld.han,?_,q⟩
  have e2:ba (zs.concat z)=z:=by unfold ba;simp
  rw [e2,List.concat_eq_append,List.map_append]
  exact uP _ _
theorem tX(F:Fun K "is_answer" "Lead.is_answer" cN f fd)(B:TxB mg)(T:TxA K CL)(GN:GM P w K mg base CX0 2 CL "next_house" ["self"] (gN CL CW)):FnOk P w K mg base CX0 3 f fd ["self","more"] (mT CL CW):=by
 refine F.ok ib (λvs H Q E h=>?_) (λcdv A outer s H vs Q E hr h=>?_)
 ·obtain ⟨A,p,xs,hs,ys,tn,nm,cl,ex,m,i,us,rfl,_⟩:=h
  rfl
 obtain ⟨A,p,xs,hs,ys,tn,nm,cl,ex,m,i,us,rfl,ld,nx,hm,q⟩:=h
 refine ⟨_,af (ao (f7 (bL cm (pm0 GN (pv 0) T.cl hr) aO (ap _)) (gX (bL aR (aI (r:=dt K) bj (pv 1) aj (λ_ _=>rfl)) (aw az rfl B.len PySem.boot_len (aa (aq (pv 0) rfl) ad)) (ap _))))),?_⟩
 have hy:(ys.map V.int).length=ys.length:=List.length_map _
 refine ⟨_,rfl,A.l,A.dx,_,rfl,ld.ins,(by rw [wM (by decide +kernel)];exact nx),A,p,xs,hs,ys,tn,nm,cl,ex,rfl,ld,rfl,_,rfl,?_⟩
 by_cases e:aX xs ys=.non
 ·rw [decide_eq_true e] at q ⊢
  exact aJ q
 ·rw [decide_eq_false e] at q ⊢
  refine bu ⟨_,rfl,m,_,_,_,rfl,rfl,SqT.of hm,St.at0,_,rfl,A.l,CL,A.dx,_,_,rfl,ld.ins,T.cl,T.hd,eP,A.hd,_,rfl,.inl (SqL.of ld.han),rfl,?_⟩
  have e2:decide (V.int i=V.int (((ys.map V.int).length:Nat):Int))=decide (i=(ys.length:Nat)):=by rw [hy,jB];rfl
  rw [e2]
  exact q
theorem tV(F:Fun K "naming" "Lead.naming" eF f fd)(T:TxA K CL):FnOk P w K mg base CX0 1 f fd ["self","outcome"] (mR CL CW):=by
 refine F.ok jJ (λvs H Q E h=>?_) (λcdv A outer s H vs Q E hr h=>?_)
 ·obtain ⟨A,p,xs,hs,ys,tn,nm,cl,ex,o,rfl,_⟩:=h
  rfl
 obtain ⟨A,p,xs,hs,ys,tn,nm,cl,ex,o,rfl,ld,q⟩:=h
 refine ⟨_,ac (aH (pv 0) (pv 1) rfl) (af (ao (pv 1))),?_⟩
 refine ⟨_,rfl,_,rfl,A.l,CL,A.dx,_,rfl,ld.ins,T.cl,T.nm,ld.few,?_⟩
 rw [uj]
 exact ⟨_,rfl,q⟩
variable {CH:Addr}
theorem zI{H H':Hp}{A:Ad}{h:Ah}{d:Sd}{rs:List Addr}{ws:List Ws}{v:V}(q:ShA CS CH K H A h d rs ws v)(k:∀b u,b∈A.l::h.own A->H b=some u->H' b=some u)(t:bJ H H'):ShA CS CH K H' A h d rs ws v:=by
 obtain ⟨us,stu⟩:=q.st
 obtain ⟨us2,h1,h2⟩:=q.snt
 have kk:∀b u,b∈h.own A->H b=some u->H' b=some u:=λb u hb=>k b u (List.mem_cons_of_mem _ hb)
 have own:∀x∈A.own,x∈h.own A:=λx hx=>.tail _ (.tail _ (.tail _ hx))
 refine ⟨⟨us,k _ _ List.mem_cons_self stu.ins,λx hx=>kk _ _ (own _ (List.mem_map.mpr ⟨x,hx,rfl⟩)) (stu.co x hx),pp stu.bg λ_ _ z=>z.keep t,λx hx=>(stu.rd x hx).keep t,stu.wa.keep t,stu.nd⟩,kk _ _ (.head _) q.ins,kk _ _ (.tail _ (.head _)) q.rws,⟨us2,kk _ _ (.tail _ (.tail _ (.head _))) h1,Paired.mapP h2 λ_ _ z=>z.keep t⟩,q.lat.imp id λz=>z.keep t,q.n1,q.n2,q.n3,q.n4,q.n5⟩
theorem xm{a:Addr}{o:HO}{H H':Hp}{A:Ad}{h:Ah}{d:Sd}{rs:List Addr}{ws:List Ws}{v:V}(q:ShA CS CH K H A h d rs ws v)(k:Kp a H H')(n:a∉A.l::h.own A)(e:H a=some o)(ht:∀xs,o≠.tup xs):ShA CS CH K H' A h d rs ws v :=
 zI q (λb u hb=>k b u (λz=>n (z▸hb))) (λb xs e2=>k b _ (λz=>by rw [z,e] at e2;exact ht xs (Option.some.inj e2)) e2)
theorem yM{H:Hp}{A:Ad}{h:Ah}{d:Sd}{rs:List Addr}{ws:List Ws}{v:V}(q:ShA CS CH K H A h d rs ws v){b c dx:Addr}{fs:List (Str×V)}(e:H b=some (.ins c dx fs))(hc:c≠CH):b∉h.own A:=λhb=>by
 simp only [Ah.own,List.mem_cons] at hb
 rcases hb with z | z | z | z
 ·rw [z,q.ins] at e
  exact hc (HO.ins.inj (Option.some.inj e)).1.symm
 ·rw [z,q.rws] at e
  cases e
 ·obtain ⟨us,e',_⟩:=q.snt
  rw [z,e'] at e
  cases e
 ·obtain ⟨us,stu⟩:=q.st
  obtain ⟨o,e',_,n2⟩:=stu.own z
  rw [e] at e'
  cases e'
  exact n2 _ _ _ rfl
def agK(as:List Int):List (Key×V):=as.map λn=>(.inl n,.bl true)
def fL(hs as:List Int):List Int:=hs.filter λn=>decide (n∉as)
def exB:Bool->Int->Addr->List (Str×V)
 | true,n,ag=>[("bend",.int n),("undoing",.ref ag),("signed",.bl false)]
 | false,_,ag=>[("agreed",.ref ag)]
theorem wb(b:Bool)(n:Int)(ag:Addr):(exB b n ag).length<=9:=by cases b<;>(unfold exB;simp)
theorem pK{b:Bool}{n:Int}{ag:Addr}{m:Str}(h:m∉(["bend","undoing","signed","agreed"]:List Str)):(exB b n ag).lookup m=none:=by
 simp only [List.mem_cons,List.not_mem_nil,or_false,not_or] at h
 obtain ⟨e1,e2,e3,e4⟩:=h
 cases b
 ·show List.lookup m [(_,_)]=none
  simp only [List.lookup_cons,beq_false_of_ne e4]
  rfl
 ·show List.lookup m [(_,_),(_,_),(_,_)]=none
  simp only [List.lookup_cons,beq_false_of_ne e1,beq_false_of_ne e2,beq_false_of_ne e3]
  rfl
theorem aQ{A:Al}{tn:Int}{nm:V}{cl b:Bool}{n:Int}{ag:Addr}{m:Str}(h:decide (m∈(["bend","undoing","signed","agreed"]:List Str)++lfN)=false):(lf A tn nm cl (exB b n ag)).lookup m=none:=by
 have h':m∉(["bend","undoing","signed","agreed"]:List Str)++lfN:=of_decide_eq_false h
 rw [wM (decide_eq_false λz=>h' (List.mem_append_right _ z))]
 exact pK λz=>h' (List.mem_append_left _ z)
theorem zb{A:Al}{tn:Int}{nm:V}{cl:Bool}{n:Int}{ag:Addr}:(lf A tn nm cl (exB true n ag)).lookup ("bend":Str)=some (.int n):=by kernel_rfl
theorem wP{A:Al}{tn:Int}{nm:V}{cl:Bool}{n:Int}{ag:Addr}:(lf A tn nm cl (exB false n ag)).lookup ("agreed":Str)=some (.ref ag):=by kernel_rfl
def agO:Bool->List Int->List V->HO
 | true,_,ks=>.lst ks
 | false,as,_=>.dK (agK as)
theorem wp{b:Bool}{as:List Int}{ks:List V}(xs:List V):agO b as ks≠.tup xs:=by cases b<;>(intro z;cases z)
theorem wq{b:Bool}{as:List Int}{ks:List V}(c dx:Addr)(fs:List (Str×V)):agO b as ks≠.ins c dx fs:=by cases b<;>(intro z;cases z)
def gJ(A:Al)(ag:Addr)(S:Ad)(h:Ah):List Addr:=A.l::A.hd::ag::h.own S
def KpA(A:Al)(ag:Addr)(S:Ad)(h:Ah)(H H':Hp):Prop:=∀b o,b∉gJ A ag S h->H b=some o->H' b=some o
theorem KpA.trans{A:Al}{ag:Addr}{S:Ad}{h:Ah}{H H1 H2:Hp}(a:KpA A ag S h H H1)(b:KpA A ag S h H1 H2):KpA A ag S h H H2:=λc o n e=>b c o n (a c o n e)
theorem KpA.of{A:Al}{ag:Addr}{S:Ad}{h:Ah}{H H1:Hp}(a:Same H H1):KpA A ag S h H H1:=λc o _ e=>a c o e
theorem KpA.sh{A:Al}{ag:Addr}{S:Ad}{h:Ah}{H H1:Hp}(a:KpH S h H H1):KpA A ag S h H H1:=λc o n e=>a c o (λz=>n (.tail _ (.tail _ (.tail _ z)))) e
theorem KpA.up{A:Al}{ag a:Addr}{S:Ad}{h:Ah}{H:Hp}{o:HO}(m:a∈gJ A ag S h):KpA A ag S h H (upd H a o):=λc u n e=>by
 rw [ay (λ(z:c=a)=>n (by rw [z];exact m))]
 exact e
structure TxC(K:PySem.W.Frag)(CW:Wd->Addr)(CL CH:Addr):Prop where
 t:TxA K CL
 n1:∀wd,CW wd≠CL
 n2:∀wd,CW wd≠CH
 n3:CL≠CH
structure LSh(b:Bool)(CL CS CH:Addr)(CW:Wd->Addr)(K:PySem.W.Frag)(H:Hp)(A:Al)(ag:Addr)(S:Ad)(h:Ah)(p:Pa)(xs:List Stp)(hs ys:List Int)(tn:Int)(nm:V)(cl:Bool)(as:List Int)(ks:List V)(d:Sd)(ws:List Ws)(v:V):Prop where
 ld:Ld CL CW H A p xs hs ys tn nm cl (exB b (aG xs:Nat) ag)
 agr:H ag=some (agO b as ks)
 sh:ShA CS CH K H S h d [] ws v
 m1:A.l∉S.l::h.own S
 m2:A.hd∉S.l::h.own S
 m3:ag∉S.l::h.own S
 ne:ag≠A.hd
 hl:hs.length<=12
section
variable {b:Bool}{H H':Hp}{A:Al}{ag:Addr}{S:Ad}{h:Ah}{p:Pa}{xs:List Stp}{hs ys:List Int}{tn:Int}{nm:V}{cl:Bool}{as:List Int}{ks:List V}{d:Sd}{ws:List Ws}{v:V}
theorem LSh.keep(q:LSh b CL CS CH CW K H A ag S h p xs hs ys tn nm cl as ks d ws v)(e:Same H H'):LSh b CL CS CH CW K H' A ag S h p xs hs ys tn nm cl as ks d ws v:=⟨q.ld.keep e,e _ _ q.agr,q.sh.keep e,q.m1,q.m2,q.m3,q.ne,q.hl⟩
theorem LSh.ts(q:LSh b CL CS CH CW K H A ag S h p xs hs ys tn nm cl as ks d ws v)(k:KpA A ag S h H H'):bJ H H':=λc us e=>k c _ (λhb=>by
 rcases List.mem_cons.mp hb with z | hb
 ·rw [z,q.ld.ins] at e;cases e
 rcases List.mem_cons.mp hb with z | hb
 ·rw [z,q.ld.han] at e;cases e
 rcases List.mem_cons.mp hb with z | hb
 ·rw [z,q.agr] at e;exact wp _ (Option.some.inj e)
 obtain ⟨o,e1,n⟩:=q.sh.own hb
 rw [e] at e1
 exact n us (Option.some.inj e1).symm) e
theorem LSh.sent(q:LSh b CL CS CH CW K H A ag S h p xs hs ys tn nm cl as ks d ws v)(T:TxC K CW CL CH){ws':List Ws}(sh:ShA CS CH K H' S h d [] ws' v)(k:KpH S h H H'):LSh b CL CS CH CW K H' A ag S h p xs hs ys tn nm cl as ks d ws' v:=by
 obtain ⟨us,h1,h2⟩:=q.ld.stp
 have t:=q.sh.ts k
 have no:∀{a:Addr},a∉S.l::h.own S->a∉h.own S:=λn z=>n (.tail _ z)
 exact ⟨⟨k _ _ (no q.m1) q.ld.ins,t _ _ q.ld.nam,⟨us,t _ _ h1,Paired.mapP h2 λx u ⟨a,dx,e,z⟩=>⟨a,dx,e,k _ _ (yM q.sh z (T.n2 _)) z⟩⟩,t _ _ q.ld.hou,k _ _ (no q.m2) q.ld.han,q.ld.ar,q.ld.le,q.ld.lx,q.ld.fx⟩,k _ _ (no q.m3) q.agr,sh,q.m1,q.m2,q.m3,q.ne,q.hl⟩
theorem LSh.set(q:LSh b CL CS CH CW K H A ag S h p xs hs ys tn nm cl as ks d ws v)(T:TxC K CW CL CH)(tn':Int)(nm':V)(cl':Bool):LSh b CL CS CH CW K (upd H A.l (.ins CL A.dx (lf A tn' nm' cl' (exB b (aG xs:Nat) ag)))) A ag S h p xs hs ys tn' nm' cl' as ks d ws v :=
 ⟨q.ld.upd (wb _ _ _) T.n1,bn _ _ (bf q.agr q.ld.ins (wq _ _ _)) q.agr,xm q.sh bn q.m1 q.ld.ins (λ_ z=>by cases z),q.m1,q.m2,q.m3,q.ne,q.hl⟩
theorem yJ{a:Addr}{o:HO}{us:List V}(k:Kp a H H')(e:H a=some o)(ho:∀c dx fs,o≠.ins c dx fs)(h:StsP CW H xs us):StsP CW H' xs us:=Paired.mapP h λx u ⟨b,dx,e2,z⟩=>⟨b,dx,e2,k _ _ (λy=>by rw [y,e] at z;exact ho _ _ _ (Option.some.inj z)) z⟩
theorem LSh.more(q:LSh b CL CS CH CW K H A ag S h p xs hs ys tn nm cl as ks d ws v)(n:Int)(hn:ys.length<xs.length):LSh b CL CS CH CW K (upd H A.hd (.lst (ys.map V.int++[.int n]))) A ag S h p xs hs (ys++[n]) tn nm cl as ks d ws v:=by
 obtain ⟨us,h1,h2⟩:=q.ld.stp
 have k:Kp A.hd H (upd H A.hd (.lst (ys.map V.int++[.int n]))):=bn
 have ne:∀{b:Addr} {o:HO},H b=some o->o≠.lst (ys.map V.int)->b≠A.hd:=λe n=>bf e q.ld.han n
 exact ⟨⟨k _ _ (ne q.ld.ins (by intro z;cases z)) q.ld.ins,k _ _ (ne q.ld.nam (by intro z;cases z)) q.ld.nam,⟨us,k _ _ (ne h1 (by intro z;cases z)) h1,yJ k q.ld.han (λ_ _ _ z=>by cases z) h2⟩,k _ _ (ne q.ld.hou (by intro z;cases z)) q.ld.hou,by rw [ae,List.map_append];rfl,q.ld.ar,by rw [List.length_append];exact hn,q.ld.lx,q.ld.fx⟩,
  k _ _ q.ne q.agr,xm q.sh k q.m2 q.ld.han (λ_ z=>by cases z),q.m1,q.m2,q.m3,q.ne,q.hl⟩
theorem LSh.agree(q:LSh false CL CS CH CW K H A ag S h p xs hs ys tn nm cl as ks d ws v)(as':List Int):LSh false CL CS CH CW K (upd H ag (.dK (agK as'))) A ag S h p xs hs ys tn nm cl as' ks d ws v:=by
 obtain ⟨us,h1,h2⟩:=q.ld.stp
 have k:Kp ag H (upd H ag (.dK (agK as'))):=bn
 have ne:∀{b:Addr} {o:HO},H b=some o->o≠.dK (agK as)->b≠ag:=λe n=>bf e q.agr n
 exact ⟨⟨k _ _ (ne q.ld.ins (by intro z;cases z)) q.ld.ins,k _ _ (ne q.ld.nam (by intro z;cases z)) q.ld.nam,⟨us,k _ _ (ne h1 (by intro z;cases z)) h1,yJ k q.agr (λ_ _ _ z=>by cases z) h2⟩,k _ _ (ne q.ld.hou (by intro z;cases z)) q.ld.hou,k _ _ (ne q.ld.han (by intro z;cases z)) q.ld.han,q.ld.ar,q.ld.le,q.ld.lx,q.ld.fx⟩,
  ae,xm q.sh k q.m3 q.agr (λ_ z=>by cases z),q.m1,q.m2,q.m3,q.ne,q.hl⟩
end
theorem yo(as:List Int)(n:Int):hU (agK as) (.inl n)=if n∈as then some (.bl true) else none:=by
 induction as with
 | nil=>rfl
 | cons a r ih =>
  by_cases e:a=n
  ·rw [if_pos (e▸List.mem_cons_self)]
   exact g8 (congrArg Sum.inl e)
  ·have:hU (agK (a::r)) (.inl n)=hU (agK r) (.inl n):=g9 λz=>e (Sum.inl.inj z)
   rw [this,ih]
   by_cases m:n∈r
   ·rw [if_pos m,if_pos (List.mem_cons_of_mem _ m)]
   ·rw [if_neg m,if_neg (λz=>(List.mem_cons.mp z).elim (λy=>e y.symm) m)]
theorem yp(as:List Int)(n:Int):∃as',iV (agK as) (.inl n) (.bl true)=agK as'/\as'.length<=as.length+1/\∀m,m∈as'↔m∈as\/m=n:=by
 unfold iV
 by_cases e:((agK as).any λkv=>decide (kv.1=Sum.inl n))=true
 ·rw [if_pos e]
  obtain ⟨x,hx,ex⟩:=List.any_eq_true.mp e
  obtain ⟨a,ha,rfl⟩:=List.mem_map.mp hx
  have:a=n:=Sum.inl.inj (of_decide_eq_true ex)
  subst this
  refine ⟨as,?_,Nat.le_succ _,λm=>⟨.inl,λz=>z.elim id λz=>z▸ha⟩⟩
  unfold agK
  rw [List.map_map]
  refine List.map_congr_left λb _=>?_
  show (if _ then _ else _)=_
  split<;>rfl
 ·rw [if_neg e]
  exact ⟨as++[n],by unfold agK;rw [List.map_append];rfl,by rw [List.length_append];exact Nat.le_refl _,λm=>by rw [List.mem_append,List.mem_singleton]⟩
variable {CH:Addr}
structure Sg where
 (A:Al)(ag:Addr)(S:Ad)(h:Ah)(p:Pa)(xs:List Stp)(hs ys:List Int)(tn:Int)(nm:V)(cl:Bool)(as:List Int)(ks:List V)(d:Sd)(ws:List Ws)(v:V)
abbrev Lg(b:Bool)(CL CS CH:Addr)(CW:Wd->Addr)(K:PySem.W.Frag)(H:Hp)(g:Sg):Prop:=LSh b CL CS CH CW K H g.A g.ag g.S g.h g.p g.xs g.hs g.ys g.tn g.nm g.cl g.as g.ks g.d g.ws g.v
abbrev KpG(g:Sg)(H H':Hp):Prop:=KpA g.A g.ag g.S g.h H H'
def gG(x:Stp)(n:Int):Int:=match x.1,x.2 with | .plus,[a]=>n+a | _,_=>n
def OkS(x:Stp):Prop:=(x.1=.plus->∃a,x.2=[a]/\0<=a)/\(x.1=.need->∃a,x.2=[a]/\a<=0)
def jT(xs:List Stp):Nat->List Int->List Int
 | 0,ys=>ys
 | k+1,ys=>match xs[ys.length]? with
  | none=>ys
  | some x=>if aL x.1 x.2=V.non then jT xs k (ys++[gG x (ba ys)]) else ys
def own(xs:List Stp)(ys:List Int):List Int:=jT xs (xs.length-ys.length) ys
theorem iY(xs:List Stp)(k:Nat)(ys:List Int):jT xs (k+1) ys=match xs[ys.length]? with | none=>ys | some x=>if aL x.1 x.2=V.non then jT xs k (ys++[gG x (ba ys)]) else ys:=rfl
theorem iZ{xs:List Stp}{ys:List Int}(k:Nat)(h:xs[ys.length]?=none):jT xs (k+1) ys=ys:=by rw [iY,h]
theorem mj{xs:List Stp}{ys:List Int}{x:Stp}(k:Nat)(h:xs[ys.length]?=some x)(e:aL x.1 x.2=.non):jT xs (k+1) ys=jT xs k (ys++[gG x (ba ys)]):=by
 rw [iY,h]
 exact if_pos e
theorem mo{xs:List Stp}{ys:List Int}{x:Stp}(k:Nat)(h:xs[ys.length]?=some x)(e:aL x.1 x.2≠.non):jT xs (k+1) ys=ys:=by
 rw [iY,h]
 exact if_neg e
theorem jS{xs:List Stp}{ys:List Int}(h:aX xs ys≠.non\/xs.length<=ys.length):own xs ys=ys:=by
 unfold own
 cases e:xs.length-ys.length with
 | zero=>rfl
 | succ k =>
  cases ex:xs[ys.length]? with
  | none=>exact iZ k ex
  | some x =>
   refine mo k ex ?_
   have h':=h.resolve_right (by omega)
   unfold aX at h'
   rw [ex] at h'
   exact h'
theorem io{xs:List Stp}{ys:List Int}{x:Stp}(hx:xs[ys.length]?=some x)(hh:aL x.1 x.2=.non):own xs ys=own xs (ys++[gG x (ba ys)]):=by
 have hl:=(List.getElem?_eq_some_iff.mp hx).1
 unfold own
 have e2:(ys++[gG x (ba ys)]).length=ys.length+1:=by rw [List.length_append];rfl
 have e:xs.length-ys.length=(xs.length-(ys++[gG x (ba ys)]).length)+1:=by rw [e2];omega
 rw [e]
 exact mj _ hx hh
theorem gl(ys:List Int)(n:Int):ba (ys++[n])=n:=by unfold ba;simp
theorem nN(xs:List Stp)(R:List Int->Prop)(hs:∀ys x,xs[ys.length]?=some x->aL x.1 x.2=.non->R ys->R (ys++[gG x (ba ys)])):∀k ys,R ys->R (jT xs k ys)
 | 0,_,r=>r
 | k+1,ys,r=>by
  cases ex:xs[ys.length]? with
  | none=>rw [iZ k ex];exact r
  | some x =>
   by_cases e:aL x.1 x.2=.non
   ·rw [mj k ex e];exact nN xs R hs k _ (hs ys x ex e r)
   ·rw [mo k ex e];exact r
theorem mh(xs:List Stp)(R:List Int->Prop)(hs:∀ys x,xs[ys.length]?=some x->aL x.1 x.2=.non->R ys->R (ys++[gG x (ba ys)]))(ys:List Int)(r:R ys):R (own xs ys):=nN xs R hs _ ys r
theorem vz{xs:List Stp}{ys:List Int}(h:ys.length<=xs.length):(own xs ys).length<=xs.length:=mh xs (λys=>ys.length<=xs.length) (λys x hx _ _=>by
 have:=(List.getElem?_eq_some_iff.mp hx).1
 rw [List.length_append]
 exact this) ys h
theorem nO(xs:List Stp):∀k ys,xs.length-ys.length=k->aX xs (jT xs k ys)≠.non\/xs.length<=(jT xs k ys).length
 | 0,ys,h=>.inr (by show xs.length<=ys.length;omega)
 | k+1,ys,h=>by
  cases ex:xs[ys.length]? with
  | none=>rw [iZ k ex];exact .inr (List.getElem?_eq_none_iff.mp ex)
  | some x =>
   by_cases e:aL x.1 x.2=.non
   ·rw [mj k ex e]
    refine nO xs k _ ?_
    have e2:(ys++[gG x (ba ys)]).length=ys.length+1:=by rw [List.length_append];rfl
    omega
   ·rw [mo k ex e]
    exact .inl (by unfold aX;rw [ex];exact e)
theorem mi(xs:List Stp)(ys:List Int):aX xs (own xs ys)≠.non\/xs.length<=(own xs ys).length:=nO xs _ ys rfl
theorem mf{xs:List Stp}{ys:List Int}(ok:∀x∈xs,OkS x)(h:0<=ba ys):0<=ba (own xs ys):=mh xs (λys=>0<=ba ys) (λys x hx _ r=>by
 rw [gl]
 have o:=ok x (List.mem_of_getElem? hx)
 unfold gG
 split
 ·rename_i a e1 e2
  obtain ⟨b,e3,hb⟩:=o.1 e1
  rw [e2] at e3
  cases e3
  omega
 ·exact r) ys h
theorem nG{X:Cx}{e:Expr}:PE X e (λ_ _ _=>False):=λ_ _ _ _ _ _ h=>h.elim
theorem sQ{X:Cx}{e:Expr}:PW X e (λ_ _ _=>False):=λ_ _ _ _ _ _ _ h=>h.elim
variable {wk:Bool}
def pw:Bool->Wd
 | true=>.plus
 | false=>.need
section
variable (wk:Bool)(CL CS CH:Addr)(CW:Wd->Addr)(K:PySem.W.Frag)
def va(CW:Wd->Addr)(b:Bool):Sp:=λvs H Q _=>∃v ns n u,vs=[v,.int n,u]/\Ar (pw b) ns/\StO CW H (pw b) ns v/\OkS (pw b,ns)/\0<=n/\∀t t2 H',Same H H'->H' t=some (.tup [.int (gG (pw b,ns) n),.ref t2])->Q (.ref t) H'
def StQ(wd:Str)(H:Hp)(g:Sg)(Q:V->Hp->Prop):Prop:=∃x n,g.xs[g.ys.length]?=some x/\aL x.1 x.2=.int n/\g.ws.length<=900 /\
 ∀t H',Lg wk CL CS CH CW K H' {g with ws:=g.ws++[(n,wd,g.A.na,t)]}->H' t=some (.tup [.int (g.ys.length:Nat),.int (ba g.ys),.str (sx x)])->KpG g H H'->Q .non H'
def hW:Sp:=λvs H Q _=>∃g wd,vs=[.ref (g:Sg).A.l,.ref g.h.l,.str wd]/\Lg wk CL CS CH CW K H g/\StQ wk CL CS CH CW K wd H g Q
def OkG(g:Sg):Prop:=(∀x∈g.xs,OkS x)/\0<=ba g.ys
def Sg.own(g:Sg):Sg:={g with ys:=K43.own g.xs g.ys}
def pZ:Sp:=λvs H Q _=>∃g,vs=[.ref (g:Sg).A.l]/\Lg wk CL CS CH CW K H g/\OkG g/\∀H',Lg wk CL CS CH CW K H' g.own->KpG g H H'->Q (.bl true) H'
end
theorem t8(F:Fun K "step_done" "PlusStep.step_done" bX f fd)(W:TxW K CW):FnOk P w K mg base CX0 1 f fd ["self","hand","value_of"] (va CW true):=by
 refine F.ok fE (λvs H Q E h=>?_) (λcdv A outer s H vs Q E hr h=>?_)
 ·obtain ⟨v,ns,n,u,rfl,_⟩:=h
  rfl
 obtain ⟨v,ns,n,u,rfl,ar,⟨a,dx,rfl,ha⟩,ok,n0,q⟩:=h
 obtain ⟨b,rfl,b0⟩:=ok.1 rfl
 have ha:H a=some (.ins (CW .plus) dx (al "amount" (.int b) [])):=ha
 refine ⟨_,af (ao (bi (aa (aE eE (pv 1) (aq (pv 0) rfl)) (aa (bi ad) ad)))),?_⟩
 refine ⟨_,rfl,_,rfl,a,CW .plus,dx,_,_,rfl,ha,W.cl _,W.nA _,bw,_,_,rfl,rfl,(by show 0<=sizeLine;decide),λt2 ht2=>⟨(by show 2<=sizeLine;decide),λt ht=>?_⟩⟩
 exact q t t2 _ ((ai ht2).trans (ai ht)) ae
theorem t9(F:Fun K "step_done" "NeedStep.step_done" bY f fd)(W:TxW K CW):FnOk P w K mg base CX0 1 f fd ["self","hand","value_of"] (va CW false):=by
 refine F.ok fF (λvs H Q E h=>?_) (λcdv A outer s H vs Q E hr h=>?_)
 ·obtain ⟨v,ns,n,u,rfl,_⟩:=h
  rfl
 obtain ⟨v,ns,n,u,rfl,ar,⟨a,dx,rfl,ha⟩,ok,n0,q⟩:=h
 obtain ⟨b,rfl,b0⟩:=ok.2 rfl
 have ha:H a=some (.ins (CW .need) dx (al "amount" (.int b) [])):=ha
 refine ⟨_,ac (aC (am jV (pv 1) (aq (pv 0) rfl) (ap _)) aB au) (af (ao (bi (aa (pv 1) (aa (bi ad) ad))))),?_⟩
 refine ⟨_,rfl,_,rfl,a,CW .need,dx,_,_,rfl,ha,W.cl _,W.nA _,bw,_,_,rfl,rfl,_,rfl,bx (λc=>absurd (of_decide_eq_true c) (by omega)) (λ_=>?_)⟩
 refine ⟨_,rfl,(by show 0<=sizeLine;decide),λt2 ht2=>⟨(by show 2<=sizeLine;decide),λt ht=>?_⟩⟩
 exact q t t2 _ ((ai ht2).trans (ai ht)) ae
theorem tR{fN:Addr}(F:Fun K "own_steps_done" "Lead.own_steps_done" bR f fd)(B:TxB mg)(T:TxC K CW CL CH)(W:TxW K CW)(mN:mg "no_value"=some (.ref fN))(GN:GM P w K mg base CX0 2 CL "next_house" ["self"] (gN CL CW))(GA:GM P w K mg base CX0 1 CL "present_hand" ["self"] (jF CL CW))
  (GD:∀b,GM P w K mg base CX0 1 (CW (pw b)) "step_done" ["self","hand","value_of"] (va CW b)):FnOk P w K mg base CX0 3 f fd ["self"] (pZ wk CL CS CH CW K):=by
 refine F.ok sc_Lead_own_steps_done (λvs H Q E h=>?_) (λcdv A outer s H vs Q E hr h=>?_)
 ·obtain ⟨g,rfl,_⟩:=h
  rfl
 obtain ⟨g,rfl,lg,⟨ok,h0⟩,q⟩:=h
 have nd:=sc_Lead_own_steps_done.nd
 refine ⟨_,ac (jQ PassesOwn.never (PW.pt (da (am jV (aw az rfl B.len PySem.boot_len (aa (aq (pv 0) rfl) ad)) (aw az rfl B.len PySem.boot_len (aa (aq (pv 0) rfl) ad)) (ap _)) (cS (am i0 (pm0 GN (pv 0) T.t.cl hr) aO (ap _)))))
   (ac (aD (i:=1) nd rfl (Or.inl rfl) (aI (r:=dt K) bj (aq (pv 0) rfl) (aw az rfl B.len PySem.boot_len (aa (aq (pv 0) rfl) ad)) (λ_ _=>rfl)))
   (af (qc (af (bz (eL PySem.F.plainAttrs_list PySem.F.slot_list_append PySem.F.type_list_append eO (aq (pv 0) rfl) (aa (aI (r:=dt K) bj (f6 λb=>pm (GD b) (pv 1) (W.cl _) hr (aa (pm0 GA (pv 0) T.t.cl hr) (aa (bK (v:=.ref fN) rfl mN rfl) ad))) aj (λ_ _=>rfl)) ad))))))))
  (af (ao dX)),?_⟩
 refine ⟨λm σ' H'=>∃y1 ys,σ'=[some (.ref g.A.l),y1]/\Lg wk CL CS CH CW K H' {g with ys:=ys}/\KpG g H H'/\own g.xs ys=own g.xs g.ys/\0<=ba ys/\m=g.xs.length-ys.length,⟨_,none,g.ys,rfl,lg,λb o _ e=>e,rfl,h0,rfl⟩,?_⟩
 rintro m σ' H1 ⟨y1,ys,rfl,lg1,k1,eo,h1,rfl⟩
 have ld:=lg1.ld
 obtain ⟨us,hu1,hu2⟩:=ld.stp
 have pl:g.xs.length=us.length:=hu2.len
 have hy:(ys.map V.int).length=ys.length:=List.length_map _
 have n12:g.xs.length<=12:=ld.lx
 have fin:aX g.xs ys≠.non\/g.xs.length<=ys.length->Q (.bl true) H1:=λz=>by
  have e:own g.xs g.ys=ys:=eo.symm.trans (jS z)
  refine q H1 ?_ k1
  show LSh _ _ _ _ _ _ _ _ _ _ _ _ _ _ (own g.xs g.ys) _ _ _ _ _ _ _ _
  rw [e]
  exact lg1
 refine ⟨_,rfl,g.A.l,CL,g.A.dx,_,_,rfl,ld.ins,T.t.cl,T.t.hd,eP,g.A.hd,_,rfl,.inl (SqL.of ld.han),_,rfl,g.A.l,CL,g.A.dx,_,_,rfl,ld.ins,T.t.cl,T.t.tp,jX,g.A.tp,_,rfl,.inr (SqT.of hu1),_,_,rfl,rfl,_,rfl,?_⟩
 rw [hy]
 refine bx (λc=>?_) (λc=>aJ (fin (.inr ?_)))
 ·have c':ys.length<g.xs.length:=by have z:=of_decide_eq_true c;omega
  refine ⟨_,rfl,g.A.l,g.A.dx,_,rfl,ld.ins,aQ (by decide +kernel),g.A,g.p,g.xs,g.hs,ys,g.tn,g.nm,g.cl,_,rfl,ld,rfl,_,rfl,?_⟩
  by_cases en:aX g.xs ys=.non
  ·rw [decide_eq_true en]
   refine bu ?_
   have hx:g.xs[ys.length]?=some g.xs[ys.length]:=List.getElem?_eq_getElem c'
   obtain ⟨x,ex⟩:∃x,g.xs[ys.length]?=some x:=⟨_,hx⟩
   have hh:aL x.1 x.2=.non:=by unfold aX at en;rw [ex] at en;exact en
   have arx:=ld.ar x (List.mem_of_getElem? ex)
   have okx:=ok x (List.mem_of_getElem? ex)
   obtain ⟨b,eb⟩:∃b,x.1=pw b:=by
    rcases eR arx with _ | ⟨i,e⟩
    ·by_cases w1:x.1=.plus
     ·exact ⟨true,w1⟩
     by_cases w2:x.1=.need
     ·exact ⟨false,w2⟩
     obtain ⟨i,r,_,e2⟩:=arx.home w1 w2
     rw [e2] at hh
     cases hh
    ·rw [e] at hh
     cases hh
   obtain ⟨u,eu,sa,sdx,rfl,hsa⟩:=hu2.get1 ex
   obtain ⟨wd,ns⟩:=x
   cases (show wd=pw b from eb)
   have f1:=kU (m:="step_done") (by decide +kernel) (by decide +kernel) (by decide +kernel) (by decide +kernel) (by decide +kernel) (pw b) ns
   refine ⟨fun σ' H'=>∃y1 ys',σ'=[some (.ref g.A.l),y1]/\Lg wk CL CS CH CW K H' {g with ys:=ys'}/\KpG g H H'/\own g.xs ys'=own g.xs g.ys/\0<=ba ys'/\ys'.length=ys.length+1,fun σ' H' ⟨y1,ys',e1,e2,e3,e4,e5,e6⟩=>⟨g.xs.length-ys'.length,by omega,y1,ys',e1,e2,e3,e4,e5,rfl⟩,?_⟩
   refine ⟨_,rfl,g.A.l,CL,g.A.dx,_,_,rfl,ld.ins,T.t.cl,T.t.tp,jX,_,rfl,g.A.l,CL,g.A.dx,_,_,rfl,ld.ins,T.t.cl,T.t.hd,eP,g.A.hd,_,rfl,.inl (SqL.of ld.han),g.A.tp,_,_,_,rfl,rfl,SqT.of hu1,bv (by rw [hy];exact eu),?_⟩
   refine ⟨_,rfl,g.A.l,CL,g.A.dx,_,_,rfl,ld.ins,T.t.cl,T.t.hd,eP,.inl ⟨rfl,_,SqL.of ld.han⟩,b,_,rfl,sa,sdx,_,rfl,hsa,f1,_,rfl,g.A.l,g.A.dx,_,rfl,ld.ins,aQ (by decide +kernel),g.A,g.p,g.xs,g.hs,ys,g.tn,g.nm,g.cl,_,rfl,ld,_,ns,_,_,rfl,arx,⟨sa,sdx,rfl,hsa⟩,okx,h1,λt t2 H2 s2 ht=>?_⟩
   have lg2:=lg1.keep s2
   refine ⟨t,_,_,_,rfl,rfl,SqT.of ht,St.at0,g.A.hd,_,_,rfl,rfl,lg2.ld.han,cI (by rw [hy];omega),?_⟩
   have lg3:=lg2.more (gG (pw b,ns) (ba ys)) c'
   have e3:own g.xs (ys++[gG (pw b,ns) (ba ys)])=own g.xs g.ys:=(io ex hh).symm.trans eo
   have h3:0<=ba (ys++[gG (pw b,ns) (ba ys)]):=by
    rw [gl]
    cases b with
    | true=>obtain ⟨a,ea,ha⟩:=okx.1 rfl;have ea:ns=[a]:=ea;rw [ea];show 0<=ba ys+a;omega
    | false=>obtain ⟨a,ea,ha⟩:=okx.2 rfl;have ea:ns=[a]:=ea;rw [ea];exact h1
   exact ⟨_,_,rfl,lg3,(k1.trans (KpA.of s2)).trans (KpA.up (.tail _ (.head _))),e3,h3,by rw [List.length_append];rfl⟩
  ·rw [decide_eq_false en]
   exact aJ (fin (.inl en))
 ·have z:¬((ys.length:Nat):Int)<((us.length:Nat):Int):=λz=>c (decide_eq_true z)
  omega
theorem nR(F:Fun K "send_step" "Lead.send_step" cL f fd)(B:TxB mg)(T:TxC K CW CL CH)(W:TxW K CW)(DH:TxH K CH)(GP:∀wd,GM P w K mg base CX0 4 (CW wd) "spelled" ["self"] (cb CW wd))(GN:GM P w K mg base CX0 2 CL "next_house" ["self"] (gN CL CW))(GA:GM P w K mg base CX0 1 CL "present_hand" ["self"] (jF CL CW))
  (GS:GM P w K mg base CX0 1 CH "send" ["self","to","word","p","more"] (hX CS CH K)):FnOk P w K mg base CX0 5 f fd ["self","sheet","word"] (hW wk CL CS CH CW K):=by
 refine F.ok sc_Lead_send_step (λvs H Q E h=>?_) (λcdv A outer s H vs Q E hr h=>?_)
 ·obtain ⟨g,wd,rfl,_⟩:=h
  rfl
 obtain ⟨g,wd,rfl,lg,x,n,hx,hh,hw,q⟩:=h
 have nd:=sc_Lead_send_step.nd
 refine ⟨_,ac (aD (i:=3) nd rfl (Or.inl rfl) (aw az rfl B.len PySem.boot_len (aa (aq (pv 0) rfl) ad)))
  (ac (aD (i:=4) nd rfl (Or.inl rfl) (f6 λwd=>pm0 (GP wd) (aI (r:=dt K) bj (aq (pv 0) rfl) (pv 3) (λ_ _=>rfl)) (W.cl wd) hr))
  (af (bz (pm GS (pv 1) DH.cl hr (aa (pm0 GN (pv 0) T.t.cl hr) (aa (pv 2) (aa (aq (pv 0) rfl) (aa (bi (aa (pv 3) (aa (pm0 GA (pv 0) T.t.cl hr) (aa (pv 4) ad)))) ad)))))))),?_⟩
 have ld:=lg.ld
 obtain ⟨us,h1,h2⟩:=ld.stp
 have hy:(g.ys.map V.int).length=g.ys.length:=List.length_map _
 obtain ⟨u,eu,sa,sdx,rfl,hsa⟩:=h2.get1 hx
 have f1:=kU (m:="spelled") (by decide +kernel) (by decide +kernel) (by decide +kernel) (by decide +kernel) (by decide +kernel) x.1 x.2
 refine ⟨_,rfl,g.A.l,CL,g.A.dx,_,_,rfl,ld.ins,T.t.cl,T.t.hd,eP,g.A.hd,_,rfl,.inl (SqL.of ld.han),?_⟩
 rw [hy]
 refine ⟨x.1,_,rfl,g.A.l,CL,g.A.dx,_,_,rfl,ld.ins,T.t.cl,T.t.tp,jX,_,rfl,g.A.tp,_,_,_,rfl,rfl,SqT.of h1,bv eu,sa,sdx,_,rfl,hsa,f1,_,x.2,rfl,ld.ar x (List.mem_of_getElem? hx),⟨sa,sdx,rfl,hsa⟩,λH1 s1=>?_⟩
 have lg1:=lg.keep s1
 have ld1:=lg1.ld
 have e2:aX g.xs g.ys=.int n:=by unfold aX;rw [hx];exact hh
 refine ⟨_,rfl,g.h.l,g.h.dx,_,rfl,lg1.sh.ins,eT (by decide +kernel),_,rfl,g.A.l,g.A.dx,_,rfl,ld1.ins,(aQ (by decide +kernel)),g.A,g.p,g.xs,g.hs,g.ys,g.tn,g.nm,g.cl,_,rfl,ld1,?_⟩
 rw [e2]
 refine ⟨_,rfl,_,rfl,g.A.l,CL,g.A.dx,_,_,rfl,ld1.ins,T.t.cl,T.t.na,qk,_,rfl,_,rfl,g.A.l,g.A.dx,_,rfl,ld1.ins,(aQ (by decide +kernel)),g.A,g.p,g.xs,g.hs,g.ys,g.tn,g.nm,g.cl,_,rfl,ld1,_,rfl,(by show 3<=sizeLine;decide),λt ht=>?_⟩
 have s2:=ai (o:=.tup [.int (g.ys.length:Nat),.int (ba g.ys),.str (sx x)]) ht
 have lg2:=lg1.keep s2
 have ht2:(upd H1 t (.tup [.int (g.ys.length:Nat),.int (ba g.ys),.str (sx x)])) t=some (.tup [.int (g.ys.length:Nat),.int (ba g.ys),.str (sx x)]):=ae
 refine ⟨g.S,g.h,g.d,[],g.ws,g.v,(n,wd,g.A.na,t),rfl,lg2.sh,hw,λH3 sh3 k3=>?_⟩
 exact q t H3 (lg2.sent T sh3 k3) (lg2.sh.ts k3 _ _ ht2) (((KpA.of s1).trans (KpA.of s2)).trans (KpA.sh k3))
variable {CH:Addr}{wk:Bool}
def cz(na ho:Addr)(ns:List Int):List Ws:=ns.map λn=>(n,("ready":Str),na,ho)
def Sg.sil(g:Sg):List Int:=fL g.hs g.as
def wdB:Bool->Str
 | true=>"walk"
 | false=>"work"
def anB:Bool->Str
 | true=>"went"
 | false=>"did"
section
variable (wk:Bool)(CL CS CH:Addr)(CW:Wd->Addr)(K:PySem.W.Frag)
def pV:Sp:=λvs H Q _=>∃g,vs=[.ref (g:Sg).A.l]/\Lg false CL CS CH CW K H g/\∀l H',Same H H'->H l=none->H' l=some (.lst (g.sil.map V.int))->Q (.ref l) H'
def lQ:Sp:=λvs H Q _=>∃g,vs=[.ref (g:Sg).A.l]/\Lg false CL CS CH CW K H g/\g.sil≠[]/\∀H',Same H H'->Q .non H'
def GoQ(H:Hp)(g:Sg)(Q:V->Hp->Prop):Prop:=StQ wk CL CS CH CW K (wdB wk) H g Q\/(g.ys.length=g.xs.length/\((wk=false/\g.sil≠[]/\g.ws.length<=880/\∀H',Lg wk CL CS CH CW K H' {g with ws:=g.ws++cz g.A.na g.A.ho g.sil}->KpG g H H'->Q .non H') \/
 (wk=true/\∀H',Lg wk CL CS CH CW K H' {g with nm:=.str "done"}->KpG g H H'->Q (.str "done") H')))
def NoG(g:Sg):Prop:=wk=true->aG g.xs=g.xs.length
def mV:Sp:=λvs H Q _=>∃g,vs=[.ref (g:Sg).A.l,.ref g.h.l]/\Lg wk CL CS CH CW K H g/\NoG wk g/\GoQ wk CL CS CH CW K H g Q
def GgQ(H:Hp)(g:Sg)(Q:V->Hp->Prop):Prop:=OkG g/\NoG wk g/\∀H',Lg wk CL CS CH CW K H' g.own->KpG g H H'->GoQ wk CL CS CH CW K H' g.own Q
def mZ:Sp:=λvs H Q _=>wk=false/\∃a b,vs=[a,b]/\Q .non H
def mY:Sp:=λvs H Q _=>∃g,vs=[.ref (g:Sg).A.l,.ref g.h.l]/\Lg wk CL CS CH CW K H g/\((g.cl=true/\wk=false/\Q .non H)\/(g.cl=false/\g.nm=.non/\GgQ wk CL CS CH CW K H g Q))
def TuQ(H:Hp)(g:Sg)(Q:V->Hp->Prop):Prop:=(g.cl=true/\g.nm≠.non/\wk=false/\Q .non H)\/(g.cl=false/\g.nm=.non/\g.tn+1≠4/\∀H',Lg wk CL CS CH CW K H' {g with tn:=g.tn+1}->KpG g H H'->GgQ wk CL CS CH CW K H' {g with tn:=g.tn+1} Q) \/
 (g.nm=.non/\g.tn+1=4/\∀H',Lg wk CL CS CH CW K H' {g with tn:=g.tn+1,nm:=.str "broken"}->KpG g H H'->Q (.str "broken") H')
def gw:Sp:=λvs H Q _=>∃g,vs=[.ref (g:Sg).A.l,.ref g.h.l]/\Lg wk CL CS CH CW K H g/\TuQ wk CL CS CH CW K H g Q
def CmQ(wd:Str)(sd:Int)(m:Addr)(H:Hp)(g:Sg)(Q:V->Hp->Prop):Prop :=
 (wd=anB wk/\∃i n,H m=some (.tup [.int i,.int n]) /\
  ((i=(g.ys.length:Nat)/\aX g.xs g.ys≠.non/\∀H',Lg wk CL CS CH CW K H' {g with ys:=g.ys++[n]}->KpG g H H'->GgQ wk CL CS CH CW K H' {g with ys:=g.ys++[n]} Q) \/
   (¬(i=(g.ys.length:Nat)/\aX g.xs g.ys≠.non)/\Q .non H))) \/
 (wk=false/\wd="yes"/\g.ys.length=g.xs.length/\g.as.length<=900/\∀as' H',as'.length<=g.as.length+1->(∀m,m∈as'↔m∈g.as\/m=sd)->Lg wk CL CS CH CW K H' {g with as:=as'}->KpG g H H'->fL g.hs as'≠[]/\∀H2,Same H' H2->Q .non H2)
def iI:Sp:=λvs H Q _=>∃g wd sd m,vs=[.ref (g:Sg).A.l,.ref g.h.l,.str wd,.int sd,.ref m]/\Lg wk CL CS CH CW K H g/\g.nm=.non/\g.cl=false/\CmQ wk CL CS CH CW K wd sd m H g Q
def pT(H:Hp)(na:Addr)(n:Int)(x:Ws):Prop:=x.1=n/\x.2.1="tell"/\x.2.2.1=na/\H x.2.2.2=some (.tup [])
def eC(p:Pa)(hs:List Int):List Int:=hs.filter λn=>!decide (V.int n=V.int p.1)
def FeQ(H:Hp)(g:Sg)(Q:V->Hp->Prop):Prop:=g.ws.length<=880/\∀es H',Lg false CL CS CH CW K H' {g with ws:=g.ws++es}->Paired (pT H' g.A.na) (eC g.p g.hs) es->KpG g H H'->Q .non H'
def so:Sp:=λvs H Q _=>∃g,vs=[.ref (g:Sg).A.l,.ref g.h.l]/\Lg false CL CS CH CW K H g/\FeQ CL CS CH CW K H g Q
def ss:Sp:=λvs H Q _=>∃g o,vs=[.ref (g:Sg).A.l,.ref g.h.l,.str o]/\Lg false CL CS CH CW K H g/\g.cl=false/\∀H',Lg false CL CS CH CW K H' {g with nm:=.str o,cl:=true}->KpG g H H'->FeQ CL CS CH CW K H' {g with nm:=.str o,cl:=true} Q
end
theorem xD(F:Fun K "silent" "HeldLead.silent" bq f fd)(T:TxC K CW CL CH)(TG:NoAttr K CL "agreed"):FnOk P w K mg base CX0 1 f fd ["self"] (pV CL CS CH CW K):=by
 refine F.ok gT (λvs H Q E h=>?_) (λcdv A outer s H vs Q E hr h=>?_)
 ·obtain ⟨g,rfl,_⟩:=h
  rfl
 obtain ⟨g,rfl,lg,q⟩:=h
 refine ⟨_,af (ao (fY fR rfl (o8 (aq (pv 0) rfl)) (λ_ _ _ _=>gy (xr (qU (v7 hr) (pv 0) (pfK K 1)))) (λ_ _ _ _=>pv 0))),?_⟩
 have ld:=lg.ld
 have hs12:=lg.hl
 have hz:(100000:Nat)<=sizeLine:=by decide
 refine ⟨_,rfl,g.A.l,CL,g.A.dx,_,_,rfl,ld.ins,T.t.cl,T.t.ho,uk,g.A.ho,rfl,⟨_,SqT.of ld.hou⟩,?_⟩
 refine ul (xs:=g.hs.map V.int) (λi ys H1=>H1=H/\ys=(fL (g.hs.take i) g.as).map V.int) ⟨rfl,rfl⟩ (by rw [List.length_map];omega) (λi ys H1 _ z=>by rw [z.1];exact SqT.of ld.hou) ?_ ?_
 ·rintro i u ys H1 hu ⟨rfl,rfl⟩
  rw [List.getElem?_map] at hu
  obtain ⟨n,en,rfl⟩:=Option.map_eq_some_iff.mp hu
  have et:g.hs.take (i+1)=g.hs.take i++[n]:=by rw [List.take_add_one,en];rfl
  have es:fL (g.hs.take (i+1)) g.as=fL (g.hs.take i) g.as++fL [n] g.as:=by rw [et];exact List.filter_append _ _
  refine ⟨_,rfl,_,rfl,g.A.l,CL,g.A.dx,_,_,rfl,ld.ins,T.t.cl,TG,wP,g.ag,_,rfl,DGet.k (k:=.inl n) lg.agr,_,rfl,?_⟩
  rw [yo]
  by_cases e:n∈g.as
  ·rw [if_pos e]
   have:fL [n] g.as=[]:=by unfold fL;rw [List.filter_cons,if_neg (by simpa using e)];rfl
   refine aJ ⟨rfl,?_⟩
   rw [es,this,List.append_nil]
  ·rw [if_neg e]
   have:fL [n] g.as=[n]:=by unfold fL;rw [List.filter_cons,if_pos (by simpa using e)];rfl
   refine bu ⟨_,rfl,rfl,?_⟩
   rw [es,this,List.map_append]
   rfl
 ·rintro ys H1 ⟨rfl,rfl⟩ l hl
  rw [List.length_map,List.take_length]
  exact q l _ (ai hl) hl ae
theorem vS(F:Fun K "done_if_all_agree" "HeldLead.done_if_all_agree" bb f fd)(T:TxC K CW CL CH)(GL:GM P w K mg base CX0 1 CL "silent" ["self"] (pV CL CS CH CW K)):FnOk P w K mg base CX0 2 f fd ["self"] (lQ CL CS CH CW K):=by
 refine F.ok cU (λvs H Q E h=>?_) (λcdv A outer s H vs Q E hr h=>?_)
 ·obtain ⟨g,rfl,_⟩:=h
  rfl
 obtain ⟨g,rfl,lg,e,q⟩:=h
 refine ⟨_,af (ao (il (nB (pm0 GL (pv 0) T.t.cl hr) (λ_=>rfl)) aO nG)),?_⟩
 refine ⟨_,rfl,g.A.l,g.A.dx,_,rfl,lg.ld.ins,aQ (by decide +kernel),g,rfl,lg,λl H1 s1 nl hl=>⟨_,.inl ⟨_,SqL.of hl,rfl⟩,?_⟩⟩
 have:(!List.isEmpty (g.sil.map V.int))=true:=by
  cases h:g.sil with
  | nil=>exact absurd h e
  | cons a r=>rfl
 rw [this]
 exact bu (q _ s1)
theorem kN{xs:List Stp}{ys:List Int}(h:ys.length=xs.length):aX xs ys=.non:=by
 unfold aX
 rw [List.getElem?_eq_none (by omega)]
theorem xL(F:Fun K "go_ahead" "HeldLead.go_ahead" ci f fd)(T:TxC K CW CL CH)(DH:TxH K CH)(GN:GM P w K mg base CX0 2 CL "next_house" ["self"] (gN CL CW))(GT:GM P w K mg base CX0 5 CL "send_step" ["self","sheet","word"] (hW false CL CS CH CW K))(GL:GM P w K mg base CX0 1 CL "silent" ["self"] (pV CL CS CH CW K))(GD:GM P w K mg base CX0 2 CL "done_if_all_agree" ["self"] (lQ CL CS CH CW K))
  (GS:GM P w K mg base CX0 1 CH "send" ["self","to","word","p","more"] (hX CS CH K)):FnOk P w K mg base CX0 6 f fd ["self","sheet"] (mV false CL CS CH CW K):=by
 refine F.ok sc_HeldLead_go_ahead (λvs H Q E h=>?_) (λcdv A outer s H vs Q E hr h=>?_)
 ·obtain ⟨g,rfl,_⟩:=h
  rfl
 obtain ⟨g,rfl,lg,_,q⟩:=h
 have nd:=sc_HeldLead_go_ahead.nd
 refine ⟨_,ac (aC (am cm (pm0 GN (pv 0) T.t.cl hr) aO (ap _)) (ac (bz (pm GT (pv 0) T.t.cl hr (aa (pv 1) (aa aA ad)))) (af (ao aO))) au)
  (ac (jR PassesOwn.never rfl (dU (pm0 GL (pv 0) T.t.cl hr)) (fg (i:=2) nd rfl (Or.inl rfl)) (af (bz (pm GS (pv 1) DH.cl hr (aa (pv 2) (aa aA (aa (aq (pv 0) rfl) (aa (aq (pv 0) rfl) ad))))))))
  (af (ao (pm0 GD (pv 0) T.t.cl hr)))),?_⟩
 refine ⟨_,rfl,g.A.l,g.A.dx,_,rfl,lg.ld.ins,aQ (by decide +kernel),g.A,g.p,g.xs,g.hs,g.ys,g.tn,g.nm,g.cl,_,rfl,lg.ld,rfl,_,rfl,?_⟩
 rcases q with ⟨x,n,hx,hh,hw,q⟩ | ⟨el,⟨_,ns,hw,q⟩ | ⟨z,_⟩⟩
 ·have e2:aX g.xs g.ys=.int n:=by unfold aX;rw [hx];exact hh
  rw [e2]
  refine bu ⟨_,rfl,g.A.l,g.A.dx,_,rfl,lg.ld.ins,aQ (by decide +kernel),_,rfl,g,_,rfl,lg,x,n,hx,hh,hw,λt H' lg' ht k=>?_⟩
  exact q t H' lg' ht k
 ·rw [kN el]
  refine aJ ?_
  refine ⟨_,rfl,g.A.l,g.A.dx,_,rfl,lg.ld.ins,aQ (by decide +kernel),g,rfl,lg,λl H1 s1 nl hl=>⟨l,rfl,⟨_,SqL.of hl⟩,?_⟩⟩
  have lg1:=lg.keep s1
  have lo:l∉gJ g.A g.ag g.S g.h:=λhb=>by
   rcases List.mem_cons.mp hb with z | hb
   ·rw [z,lg.ld.ins] at nl;cases nl
   rcases List.mem_cons.mp hb with z | hb
   ·rw [z,lg.ld.han] at nl;cases nl
   rcases List.mem_cons.mp hb with z | hb
   ·rw [z,lg.agr] at nl;cases nl
   obtain ⟨o,e1,_⟩:=lg.sh.own hb
   rw [nl] at e1
   cases e1
  have sl:g.sil.length<=12:=Nat.le_trans (List.length_filter_le _ _) lg.hl
  refine oq (xs:=g.sil.map V.int) (λi σ H'=>∃x2,σ=[some (.ref g.A.l),some (.ref g.h.l),x2]/\Lg false CL CS CH CW K H' {g with ws:=g.ws++cz g.A.na g.A.ho (g.sil.take i)}/\KpG g H1 H') ⟨none,rfl,by show LSh _ _ _ _ _ _ _ _ _ _ _ _ _ _ _ _ _ _ _ _ _ (g.ws++[]) _;rw [List.append_nil];exact lg1,λb o _ e=>e⟩ (λi σ H' _ z=>by obtain ⟨_,_,_,k⟩:=z;exact SqL.of (k _ _ lo hl)) ?_ ?_
  ·rintro i u σ H2 hu ⟨x2,rfl,lg2,k2⟩
   rw [List.getElem?_map] at hu
   obtain ⟨n,en,rfl⟩:=Option.map_eq_some_iff.mp hu
   have et:g.sil.take (i+1)=g.sil.take i++[n]:=by rw [List.take_add_one,en];rfl
   refine ⟨_,rfl,g.h.l,g.h.dx,_,rfl,lg2.sh.ins,eT (by decide +kernel),_,rfl,_,rfl,g.A.l,CL,g.A.dx,_,_,rfl,lg2.ld.ins,T.t.cl,T.t.na,qk,_,rfl,g.A.l,CL,g.A.dx,_,_,rfl,lg2.ld.ins,T.t.cl,T.t.ho,uk,g.S,g.h,g.d,[],_,g.v,(n,("ready":Str),g.A.na,g.A.ho),rfl,lg2.sh,?_,λH3 sh3 k3=>?_⟩
   ·rw [List.length_append]
    unfold cz
    rw [List.length_map,List.length_take]
    omega
   ·refine ⟨_,rfl,?_,k2.trans (KpA.sh k3)⟩
    have z:=lg2.sent T sh3 k3
    have e:(g.ws++cz g.A.na g.A.ho (g.sil.take i))++[(n,("ready":Str),g.A.na,g.A.ho)]=g.ws++cz g.A.na g.A.ho (g.sil.take (i+1)):=by
     rw [et]
     unfold cz
     rw [List.map_append,List.append_assoc]
     rfl
    rw [e] at z
    exact z
  ·rintro σ H2 ⟨x2,rfl,lg2,k2⟩
   rw [List.length_map,List.take_length] at lg2
   refine ⟨_,rfl,g.A.l,g.A.dx,_,rfl,lg2.ld.ins,aQ (by decide +kernel),{g with ws:=g.ws++cz g.A.na g.A.ho g.sil},rfl,lg2,ns,λH3 s3=>?_⟩
   exact q H3 (lg2.keep s3) (((KpA.of s1).trans k2).trans (KpA.of s3))
 ·cases z
theorem vW(F:Fun K "go_behind" "HeldLead.go_behind" bZ f fd):FnOk P w K mg base CX0 1 f fd ["self","sheet"] (mZ false):=by
 refine F.ok fJ (λvs H Q E h=>?_) (λcdv A outer s H vs Q E hr h=>?_)
 ·obtain ⟨_,a,b,rfl,_⟩:=h
  rfl
 obtain ⟨_,a,b,rfl,q⟩:=h
 exact ⟨_,af vt,q⟩
theorem vV(F:Fun K "go_behind" "WalkedLead.go_behind" bM f fd):FnOk P w K mg base CX0 1 f fd ["self","sheet"] (mZ true):=F.ok eJ (λvs H Q E h=>by cases h.1) (λcdv A outer s H vs Q E hr h=>by cases h.1)
theorem xK(F:Fun K "go_ahead" "WalkedLead.go_ahead" bQ f fd)(B:TxB mg)(T:TxC K CW CL CH)(TB:NoAttr K CL "bend")(GT:GM P w K mg base CX0 5 CL "send_step" ["self","sheet","word"] (hW true CL CS CH CW K))(GM':GM P w K mg base CX0 1 CL "naming" ["self","outcome"] (mR CL CW)):FnOk P w K mg base CX0 6 f fd ["self","sheet"] (mV true CL CS CH CW K):=by
 refine F.ok eX (λvs H Q E h=>?_) (λcdv A outer s H vs Q E hr h=>?_)
 ·obtain ⟨g,rfl,_⟩:=h
  rfl
 obtain ⟨g,rfl,lg,ng,q⟩:=h
 refine ⟨_,ac (aC (am aR (aw az rfl B.len PySem.boot_len (aa (aq (pv 0) rfl) ad)) (aq (pv 0) rfl) (ap _)) (af (ao (pm GM' (pv 0) T.t.cl hr (aa aA ad)))) au)
  (ac (bz (pm GT (pv 0) T.t.cl hr (aa (pv 1) (aa aA ad)))) (af (ao aO))),?_⟩
 have ld:=lg.ld
 have hy:(g.ys.map V.int).length=g.ys.length:=List.length_map _
 refine ⟨_,rfl,g.A.l,CL,g.A.dx,_,_,rfl,ld.ins,T.t.cl,T.t.hd,eP,g.A.hd,_,rfl,.inl (SqL.of ld.han),_,rfl,g.A.l,CL,g.A.dx,_,_,rfl,ld.ins,T.t.cl,TB,zb,rfl,_,rfl,?_⟩
 rw [hy,ng rfl]
 rcases q with ⟨x,n,hx,hh,hw,q⟩ | ⟨e,⟨z,_⟩ | ⟨_,q⟩⟩
 ·have hl:=(List.getElem?_eq_some_iff.mp hx).1
  refine bx (λc=>absurd (V.int.inj (of_decide_eq_true c)) (by omega)) (λ_=>?_)
  exact ⟨_,rfl,g.A.l,g.A.dx,_,rfl,ld.ins,aQ (by decide +kernel),_,rfl,g,_,rfl,lg,x,n,hx,hh,hw,q⟩
 ·cases z
 ·refine bx (λ_=>?_) (λc=>absurd (decide_eq_true (congrArg V.int (by rw [e]))) c)
  refine ⟨_,rfl,g.A.l,g.A.dx,_,rfl,ld.ins,aQ (by decide +kernel),g.A,g.p,g.xs,g.hs,g.ys,g.tn,g.nm,g.cl,_,_,rfl,ld,?_⟩
  exact q _ (lg.set T g.tn (.str "done") g.cl) (KpA.up (.head _))
theorem wK(F:Fun K "go" "Lead.go" i4 f fd)(T:TxC K CW CL CH)(GB:GM P w K mg base CX0 1 CL "go_behind" ["self","sheet"] (mZ wk))(GO:GM P w K mg base CX0 3 CL "own_steps_done" ["self"] (pZ wk CL CS CH CW K))(GA:GM P w K mg base CX0 6 CL "go_ahead" ["self","sheet"] (mV wk CL CS CH CW K)):FnOk P w K mg base CX0 7 f fd ["self","sheet"] (mY wk CL CS CH CW K):=by
 refine F.ok oV (λvs H Q E h=>?_) (λcdv A outer s H vs Q E hr h=>?_)
 ·obtain ⟨g,rfl,_⟩:=h
  rfl
 obtain ⟨g,rfl,lg,q⟩:=h
 refine ⟨_,ac (aC (bD (aq (pv 0) rfl)) (ac (bz (pm GB (pv 0) T.t.cl hr (aa (pv 1) ad))) (af (ao aO))) au)
  (ac (aC (am cm (aq (pv 0) rfl) aO (ap _)) (af (ao aO)) au)
  (ac (aC (jP (bD (pm0 GO (pv 0) T.t.cl hr))) aB au)
  (af (ao (pm GA (pv 0) T.t.cl hr (aa (pv 1) ad)))))),?_⟩
 refine ⟨_,rfl,g.A.l,CL,g.A.dx,_,_,rfl,lg.ld.ins,T.t.cl,T.t.cd,wO,_,rfl,?_⟩
 rcases q with ⟨ec,eb,q⟩ | ⟨ec,en,ok,ng,q⟩
 ·rw [ec]
  exact bu ⟨_,rfl,g.A.l,g.A.dx,_,rfl,lg.ld.ins,aQ (by decide +kernel),_,rfl,eb,_,_,rfl,q⟩
 ·rw [ec]
  refine aJ ⟨_,rfl,g.A.l,CL,g.A.dx,_,_,rfl,lg.ld.ins,T.t.cl,T.t.nm,qj,rfl,_,rfl,?_⟩
  rw [en]
  refine aJ ⟨_,rfl,g.A.l,g.A.dx,_,rfl,lg.ld.ins,aQ (by decide +kernel),g,rfl,lg,ok,λH1 lg1 k1=>⟨_,rfl,aJ ?_⟩⟩
  exact ⟨_,rfl,g.A.l,g.A.dx,_,rfl,lg1.ld.ins,aQ (by decide +kernel),_,rfl,g.own,rfl,lg1,ng,q H1 lg1 k1⟩
theorem qf(F:Fun K "turn" "Lead.turn" gg f fd)(T:TxC K CW CL CH)(cP:∃t,mg "PATIENCE"=some (.int 4 t))(GM':GM P w K mg base CX0 1 CL "naming" ["self","outcome"] (mR CL CW))(GG:GM P w K mg base CX0 7 CL "go" ["self","sheet"] (mY wk CL CS CH CW K)):FnOk P w K mg base CX0 8 f fd ["self","sheet"] (gw wk CL CS CH CW K):=by
 refine F.ok l5 (λvs H Q E h=>?_) (λcdv A outer s H vs Q E hr h=>?_)
 ·obtain ⟨g,rfl,_⟩:=h
  rfl
 obtain ⟨g,rfl,lg,q⟩:=h
 obtain ⟨tP,cP⟩:=cP
 refine ⟨_,ac (aC (am i0 (aq (pv 0) rfl) aO (ap _)) (ac (iW (pv 0) aj pJ) (af (aC (am aR (aq (pv 0) rfl) (bK (v:=.int 4) rfl cP ⟨_,rfl⟩) (ap _)) (af (ao (pm GM' (pv 0) T.t.cl hr (aa aA ad)))) au))) au)
  (af (ao (pm GG (pv 0) T.t.cl hr (aa (pv 1) ad)))),?_⟩
 refine ⟨_,rfl,g.A.l,CL,g.A.dx,_,_,rfl,lg.ld.ins,T.t.cl,T.t.nm,qj,rfl,_,rfl,?_⟩
 rcases q with ⟨ec,en,eb,q⟩ | q
 ·rw [decide_eq_false en]
  exact aJ ⟨_,rfl,g.A.l,g.A.dx,_,rfl,lg.ld.ins,aQ (by decide +kernel),_,rfl,g,rfl,lg,.inl ⟨ec,eb,q⟩⟩
 ·have en:g.nm=.non:=by rcases q with ⟨_,e,_⟩ | ⟨e,_⟩<;>exact e
  rw [decide_eq_true en]
  refine bu ⟨_,rfl,g.A.l,CL,g.A.dx,_,_,rfl,lg.ld.ins,T.t.cl,T.t.tn,wL,_,_,rfl,rfl,_,_,lg.ld.ins,lg.ld.few,?_⟩
  rw [xV]
  have lg1:=lg.set T (g.tn+1) g.nm g.cl
  have k1:KpG g H (upd H g.A.l (.ins CL g.A.dx (lf g.A (g.tn+1) g.nm g.cl (exB wk (aG g.xs:Nat) g.ag)))):=KpA.up (.head _)
  generalize (upd H g.A.l (HO.ins CL g.A.dx (lf g.A (g.tn+1) g.nm g.cl (exB wk (aG g.xs:Nat) g.ag))))=H1 at lg1 k1 ⊢
  refine ⟨_,rfl,g.A.l,CL,g.A.dx,_,_,rfl,lg1.ld.ins,T.t.cl,T.t.tn,wL,rfl,_,rfl,?_⟩
  rcases q with ⟨ec,_,e4,q⟩ | ⟨_,e4,q⟩
  ·rw [decide_eq_false (λz=>e4 (V.int.inj z))]
   exact aJ ⟨_,rfl,g.A.l,g.A.dx,_,rfl,lg1.ld.ins,aQ (by decide +kernel),_,rfl,{g with tn:=g.tn+1},rfl,lg1,.inr ⟨ec,en,q H1 lg1 k1⟩⟩
  ·rw [decide_eq_true (congrArg V.int e4)]
   refine bu ⟨_,rfl,g.A.l,g.A.dx,_,rfl,lg1.ld.ins,aQ (by decide +kernel),g.A,g.p,g.xs,g.hs,g.ys,g.tn+1,g.nm,g.cl,_,_,rfl,lg1.ld,?_⟩
   exact q _ (lg1.set T (g.tn+1) (.str "broken") g.cl) (k1.trans (KpA.up (.head _)))
theorem uc(F:Fun K "came" "HeldLead.came" di f fd)(B:TxB mg)(T:TxC K CW CL CH)(TG:NoAttr K CL "agreed")(GI:GM P w K mg base CX0 3 CL "is_answer" ["self","more"] (mT CL CW))(GG:GM P w K mg base CX0 7 CL "go" ["self","sheet"] (mY false CL CS CH CW K))(GD:GM P w K mg base CX0 2 CL "done_if_all_agree" ["self"] (lQ CL CS CH CW K)) :
  FnOk P w K mg base CX0 8 f fd ["self","sheet","word","sender","more"] (iI false CL CS CH CW K):=by
 refine F.ok iN (λvs H Q E h=>?_) (λcdv A outer s H vs Q E hr h=>?_)
 ·obtain ⟨g,wd,sd,m,rfl,_⟩:=h
  rfl
 obtain ⟨g,wd,sd,m,rfl,lg,en,ec,q⟩:=h
 refine ⟨_,ac (aC (am cm (aq (pv 0) rfl) aO (ap _)) (af (ao aO)) au)
  (ac (aC (PW.pt (da (am aR (pv 2) aA (ap _)) (cS (bD (pm GI (pv 0) T.t.cl hr (aa (pv 4) ad))))))
   (ac (bz (eL PySem.F.plainAttrs_list PySem.F.slot_list_append PySem.F.type_list_append eO (aq (pv 0) rfl) (aa (aI (r:=dt K) bj (pv 4) aj (λ_ _=>rfl)) ad))) (af (ao (pm GG (pv 0) T.t.cl hr (aa (pv 1) ad))))) au)
  (ac (aC (PW.pt (da (am aR (pv 2) aA (ap _)) (cS (am aR (aw az rfl B.len PySem.boot_len (aa (aq (pv 0) rfl) ad)) (aw az rfl B.len PySem.boot_len (aa (aq (pv 0) rfl) ad)) (ap _)))))
   (ac (vv (v7 hr) (aq (pv 0) rfl) (pv 3) dX rfl) (af (ao (pm0 GD (pv 0) T.t.cl hr)))) au)
  (af (ao aO)))),?_⟩
 have ld:=lg.ld
 obtain ⟨us,h1,h2⟩:=ld.stp
 have pl:g.xs.length=us.length:=h2.len
 have hy:(g.ys.map V.int).length=g.ys.length:=List.length_map _
 have l12:=ld.lx
 have le:=ld.le
 refine ⟨_,rfl,g.A.l,CL,g.A.dx,_,_,rfl,ld.ins,T.t.cl,T.t.nm,qj,rfl,_,rfl,?_⟩
 rcases q with ⟨rfl,i,n,hm,q⟩ | ⟨_,rfl,hl,ha,q⟩
 ·rw [decide_eq_true en]
  refine aJ ⟨_,rfl,rfl,_,rfl,bu ?_⟩
  refine ⟨_,rfl,g.A.l,g.A.dx,_,rfl,ld.ins,aQ (by decide +kernel),_,rfl,g.A,g.p,g.xs,g.hs,g.ys,g.tn,g.nm,g.cl,_,m,i,_,rfl,ld,pK (by decide +kernel),hm,_,rfl,?_⟩
  rcases q with ⟨e1,e2,q⟩ | ⟨ne,q⟩
  ·rw [decide_eq_false e2,decide_eq_true e1]
   refine bu ?_
   have hlt:g.ys.length<g.xs.length:=by
    by_cases z:g.ys.length=g.xs.length
    ·exact absurd (kN z) e2
    ·omega
   refine ⟨_,rfl,g.A.l,CL,g.A.dx,_,_,rfl,ld.ins,T.t.cl,T.t.hd,eP,.inl ⟨rfl,_,SqL.of ld.han⟩,_,rfl,m,_,_,_,rfl,rfl,SqT.of hm,St.at1,g.A.hd,_,_,rfl,rfl,ld.han,cI (by rw [hy];omega),?_⟩
   have lg1:=lg.more n hlt
   have k1:KpG g H (upd H g.A.hd (.lst (g.ys.map V.int++[.int n]))):=KpA.up (.tail _ (.head _))
   generalize (upd H g.A.hd (HO.lst (g.ys.map V.int++[.int n])))=H1 at lg1 k1 ⊢
   exact ⟨_,rfl,g.A.l,g.A.dx,_,rfl,lg1.ld.ins,aQ (by decide +kernel),_,rfl,{g with ys:=g.ys++[n]},rfl,lg1,.inr ⟨ec,en,q H1 lg1 k1⟩⟩
  ·have e3:(!decide (aX g.xs g.ys=.non)&&decide (i=(g.ys.length:Nat)))=false:=by
    by_cases a:aX g.xs g.ys=.non
    ·rw [decide_eq_true a];rfl
    ·rw [decide_eq_false a,decide_eq_false λz=>ne ⟨z,a⟩];rfl
   rw [e3]
   exact aJ ⟨_,rfl,rfl,_,rfl,aJ (aJ q)⟩
 ·rw [decide_eq_true en]
  refine aJ ⟨_,rfl,rfl,_,rfl,aJ (aJ ?_)⟩
  refine ⟨_,rfl,rfl,_,rfl,bu ?_⟩
  refine ⟨_,rfl,g.A.l,CL,g.A.dx,_,_,rfl,ld.ins,T.t.cl,T.t.hd,eP,g.A.hd,_,rfl,.inl (SqL.of ld.han),_,rfl,g.A.l,CL,g.A.dx,_,_,rfl,ld.ins,T.t.cl,T.t.tp,jX,g.A.tp,_,rfl,.inr (SqT.of h1),rfl,_,rfl,?_⟩
  rw [hy]
  refine bx (λ_=>?_) (λc=>absurd (decide_eq_true (congrArg V.int (by omega))) c)
  obtain ⟨as',e1,e2,e3⟩:=yp g.as sd
  have la:(agK g.as).length<sizeLine:=cI (by unfold agK;rw [List.length_map];omega)
  refine ⟨_,rfl,g.A.l,CL,g.A.dx,_,_,rfl,ld.ins,T.t.cl,TG,wP,_,rfl,g.ag,_,rfl,DPut.k (k:=.inl sd) lg.agr la,?_⟩
  rw [e1]
  have lg1:=lg.agree as'
  have k1:KpG g H (upd H g.ag (.dK (agK as'))):=KpA.up (.tail _ (.tail _ (.head _)))
  generalize (upd H g.ag (HO.dK (agK as')))=H1 at lg1 k1 ⊢
  exact ⟨_,rfl,g.A.l,g.A.dx,_,rfl,lg1.ld.ins,aQ (by decide +kernel),{g with as:=as'},rfl,lg1,(q as' H1 e2 e3 lg1 k1).1,(q as' H1 e2 e3 lg1 k1).2⟩
def rY(CL CS CH:Addr)(CW:Wd->Addr)(K:PySem.W.Frag):Sp:=λvs H Q _=>∃g,vs=[.ref (g:Sg).A.l]/\Lg true CL CS CH CW K H g/\g.nm=.non/\Q (.bl true) H
theorem xC(F:Fun K "is_walking" "WalkedLead.is_walking" bE f fd)(T:TxC K CW CL CH):FnOk P w K mg base CX0 1 f fd ["self"] (rY CL CS CH CW K):=by
 refine F.ok d9 (λvs H Q E h=>?_) (λcdv A outer s H vs Q E hr h=>?_)
 ·obtain ⟨g,rfl,_⟩:=h
  rfl
 obtain ⟨g,rfl,lg,en,q⟩:=h
 refine ⟨_,af (ao (yX (bL i0 (aq (pv 0) rfl) aO (ap _)) (gX nG))),?_⟩
 refine ⟨_,rfl,g.A.l,CL,g.A.dx,_,_,rfl,lg.ld.ins,T.t.cl,T.t.nm,qj,rfl,_,rfl,?_⟩
 rw [decide_eq_true en]
 exact bu q
theorem ub(F:Fun K "came" "WalkedLead.came" cC f fd)(T:TxC K CW CL CH)(GK:GM P w K mg base CX0 1 CL "is_walking" ["self"] (rY CL CS CH CW K))(GI:GM P w K mg base CX0 3 CL "is_answer" ["self","more"] (mT CL CW))(GG:GM P w K mg base CX0 7 CL "go" ["self","sheet"] (mY true CL CS CH CW K)) :
  FnOk P w K mg base CX0 8 f fd ["self","sheet","word","sender","more"] (iI true CL CS CH CW K):=by
 refine F.ok gP (λvs H Q E h=>?_) (λcdv A outer s H vs Q E hr h=>?_)
 ·obtain ⟨g,wd,sd,m,rfl,_⟩:=h
  rfl
 obtain ⟨g,wd,sd,m,rfl,lg,en,ec,q⟩:=h
 refine ⟨_,ac (aC (PW.pt (da (am aR (pv 2) aA (ap _)) (da (bD (pm0 GK (pv 0) T.t.cl hr)) (cS (bD (pm GI (pv 0) T.t.cl hr (aa (pv 4) ad)))))))
   (ac (bz (eL PySem.F.plainAttrs_list PySem.F.slot_list_append PySem.F.type_list_append eO (aq (pv 0) rfl) (aa (aI (r:=dt K) bj (pv 4) aj (λ_ _=>rfl)) ad))) (af (ao (pm GG (pv 0) T.t.cl hr (aa (pv 1) ad))))) au)
  (ac (aC (PW.pt (da (am aR (pv 2) aA (ap _)) sQ)) aB au)
  (af (ao aO))),?_⟩
 have ld:=lg.ld
 have hy:(g.ys.map V.int).length=g.ys.length:=List.length_map _
 have l12:=ld.lx
 have le:=ld.le
 rcases q with ⟨rfl,i,n,hm,q⟩ | ⟨z,_⟩
 ·refine ⟨_,rfl,rfl,_,rfl,bu ?_⟩
  refine ⟨_,rfl,g.A.l,g.A.dx,_,rfl,ld.ins,aQ (by decide +kernel),g,rfl,lg,en,_,rfl,bu ?_⟩
  refine ⟨_,rfl,g.A.l,g.A.dx,_,rfl,ld.ins,aQ (by decide +kernel),_,rfl,g.A,g.p,g.xs,g.hs,g.ys,g.tn,g.nm,g.cl,_,m,i,_,rfl,ld,pK (by decide +kernel),hm,_,rfl,?_⟩
  rcases q with ⟨e1,e2,q⟩ | ⟨ne,q⟩
  ·rw [decide_eq_false e2,decide_eq_true e1]
   refine bu ?_
   have hlt:g.ys.length<g.xs.length:=by
    by_cases z:g.ys.length=g.xs.length
    ·exact absurd (by unfold aX;rw [List.getElem?_eq_none (by omega)]) e2
    ·omega
   refine ⟨_,rfl,g.A.l,CL,g.A.dx,_,_,rfl,ld.ins,T.t.cl,T.t.hd,eP,.inl ⟨rfl,_,SqL.of ld.han⟩,_,rfl,m,_,_,_,rfl,rfl,SqT.of hm,St.at1,g.A.hd,_,_,rfl,rfl,ld.han,cI (by rw [hy];omega),?_⟩
   have lg1:=lg.more n hlt
   have k1:KpG g H (upd H g.A.hd (.lst (g.ys.map V.int++[.int n]))):=KpA.up (.tail _ (.head _))
   generalize (upd H g.A.hd (HO.lst (g.ys.map V.int++[.int n])))=H1 at lg1 k1 ⊢
   exact ⟨_,rfl,g.A.l,g.A.dx,_,rfl,lg1.ld.ins,aQ (by decide +kernel),_,rfl,{g with ys:=g.ys++[n]},rfl,lg1,.inr ⟨ec,en,q H1 lg1 k1⟩⟩
  ·have e3:(!decide (aX g.xs g.ys=.non)&&decide (i=(g.ys.length:Nat)))=false:=by
    by_cases a:aX g.xs g.ys=.non
    ·rw [decide_eq_true a];rfl
    ·rw [decide_eq_false a,decide_eq_false λz=>ne ⟨z,a⟩];rfl
   rw [e3]
   exact aJ ⟨_,rfl,rfl,_,rfl,aJ (aJ q)⟩
 ·cases z
theorem xM(F:Fun K "go_from_end" "HeldLead.go_from_end" bO f fd)(T:TxC K CW CL CH)(DH:TxH K CH)(GS:GM P w K mg base CX0 1 CH "send" ["self","to","word","p","more"] (hX CS CH K)):FnOk P w K mg base CX0 2 f fd ["self","sheet"] (so CL CS CH CW K):=by
 refine F.ok sc_HeldLead_go_from_end (λvs H Q E h=>?_) (λcdv A outer s H vs Q E hr h=>?_)
 ·obtain ⟨g,rfl,_⟩:=h
  rfl
 obtain ⟨g,rfl,lg,hw,q⟩:=h
 have nd:=sc_HeldLead_go_from_end.nd
 refine ⟨_,af (jR PassesOwn.never rfl (o8 (aq (pv 0) rfl)) (fg (i:=2) nd rfl (Or.inl rfl)) (af (aC (am f8 (pv 2) (aI (r:=dt K) bj (aq (pv 0) rfl) aj (λ_ _=>rfl)) (ap _))
   (af (bz (pm GS (pv 1) DH.cl hr (aa (pv 2) (aa aA (aa (aq (pv 0) rfl) (aa (bi ad) ad))))))) au))),?_⟩
 have ho:=lg.hl
 refine ⟨_,rfl,g.A.l,CL,g.A.dx,_,_,rfl,lg.ld.ins,T.t.cl,T.t.ho,uk,g.A.ho,rfl,⟨_,SqT.of lg.ld.hou⟩,?_⟩
 refine v9 (xs:=g.hs.map V.int) (λi σ H'=>∃x2 es,σ=[some (.ref g.A.l),some (.ref g.h.l),x2]/\Lg false CL CS CH CW K H' {g with ws:=g.ws++es}/\Paired (pT H' g.A.na) (eC g.p (g.hs.take i)) es/\es.length<=i/\KpG g H H') ⟨none,[],rfl,by show LSh _ _ _ _ _ _ _ _ _ _ _ _ _ _ _ _ _ _ _ _ _ (g.ws++[]) _;rw [List.append_nil];exact lg,.nil,Nat.le_refl _,λb o _ e=>e⟩ (λi σ H' _ z=>by obtain ⟨_,_,_,l',_⟩:=z;exact SqT.of l'.ld.hou) ?_ ?_
 ·rintro i u σ H2 hu ⟨x2,es,rfl,lg2,pe,le,k2⟩
  rw [List.getElem?_map] at hu
  obtain ⟨n,en,rfl⟩:=Option.map_eq_some_iff.mp hu
  have hi:i<g.hs.length:=(List.getElem?_eq_some_iff.mp en).1
  have et:g.hs.take (i+1)=g.hs.take i++[n]:=by rw [List.take_add_one,en];rfl
  have eo:eC g.p (g.hs.take (i+1))=eC g.p (g.hs.take i)++eC g.p [n]:=by rw [et];exact List.filter_append _ _
  refine ⟨_,rfl,_,rfl,g.A.l,CL,g.A.dx,_,_,rfl,lg2.ld.ins,T.t.cl,T.t.na,qk,g.A.na,_,_,_,rfl,rfl,SqT.of lg2.ld.nam,St.at0,rfl,_,rfl,?_⟩
  by_cases e:V.int n=V.int g.p.1
  ·have e2:eC g.p [n]=[]:=by unfold eC;rw [List.filter_cons,decide_eq_true e];rfl
   rw [decide_eq_true e]
   refine aJ ⟨_,es,rfl,lg2,?_,Nat.le_succ_of_le le,k2⟩
   rw [eo,e2,List.append_nil]
   exact pe
  ·have e2:eC g.p [n]=[n]:=by unfold eC;rw [List.filter_cons,decide_eq_false e];rfl
   rw [decide_eq_false e]
   refine bu ⟨_,rfl,g.h.l,g.h.dx,_,rfl,lg2.sh.ins,eT (by decide +kernel),_,rfl,_,rfl,g.A.l,CL,g.A.dx,_,_,rfl,lg2.ld.ins,T.t.cl,T.t.na,qk,(by show 0<=sizeLine;decide),λt ht=>?_⟩
   have s3:=ai (o:=.tup []) ht
   have lg3:=lg2.keep s3
   have ht3:(upd H2 t (.tup [])) t=some (.tup []):=ae
   refine ⟨g.S,g.h,g.d,[],_,g.v,(n,("tell":Str),g.A.na,t),rfl,lg3.sh,?_,λH4 sh4 k4=>?_⟩
   ·rw [List.length_append]
    omega
   ·have t4:=lg3.sh.ts k4
    refine ⟨_,es++[(n,("tell":Str),g.A.na,t)],rfl,?_,?_,by rw [List.length_append];exact Nat.succ_le_succ le,(k2.trans (KpA.of s3)).trans (KpA.sh k4)⟩
    ·have z:=lg3.sent T sh4 k4
     rw [List.append_assoc] at z
     exact z
    ·rw [eo,e2]
     exact (Paired.mapP pe λ_ _ ⟨a,b,c,d⟩=>⟨a,b,c,t4 _ _ (s3 _ _ d)⟩).app (.cons ⟨rfl,rfl,rfl,t4 _ _ ht3⟩ .nil)
 ·rintro σ H2 ⟨x2,es,rfl,lg2,pe,le,k2⟩
  rw [List.length_map,List.take_length] at pe
  exact q es H2 lg2 pe k2
theorem xO(F:Fun K "end" "Lead.end" gZ f fd)(T:TxC K CW CL CH)(GF':GM P w K mg base CX0 2 CL "go_from_end" ["self","sheet"] (so CL CS CH CW K)):FnOk P w K mg base CX0 3 f fd ["self","sheet","outcome"] (ss CL CS CH CW K):=by
 refine F.ok nu (λvs H Q E h=>?_) (λcdv A outer s H vs Q E hr h=>?_)
 ·obtain ⟨g,o,rfl,_⟩:=h
  rfl
 obtain ⟨g,o,rfl,lg,ec,q⟩:=h
 refine ⟨_,ac (aC (bD (aq (pv 0) rfl)) (af vq) au)
  (ac (aH (pv 0) (pv 2) rfl) (ac (aH (pv 0) dX rfl) (af (bz (pm GF' (pv 0) T.t.cl hr (aa (pv 1) ad)))))),?_⟩
 refine ⟨_,rfl,g.A.l,CL,g.A.dx,_,_,rfl,lg.ld.ins,T.t.cl,T.t.cd,wO,_,rfl,?_⟩
 rw [ec]
 refine aJ ⟨_,rfl,_,rfl,g.A.l,CL,g.A.dx,_,rfl,lg.ld.ins,T.t.cl,T.t.nm,lg.ld.few,?_⟩
 rw [uj]
 have lg1:=lg.set T g.tn (.str o) g.cl
 have k1:KpG g H (upd H g.A.l (.ins CL g.A.dx (lf g.A g.tn (.str o) g.cl (exB false (aG g.xs:Nat) g.ag)))):=KpA.up (.head _)
 generalize (upd H g.A.l (HO.ins CL g.A.dx (lf g.A g.tn (.str o) g.cl (exB false (aG g.xs:Nat) g.ag))))=H1 at lg1 k1 ⊢
 refine ⟨_,rfl,g.A.l,CL,g.A.dx,_,rfl,lg1.ld.ins,T.t.cl,T.t.cd,lg1.ld.few,?_⟩
 rw [xW]
 have lg2:=lg1.set T g.tn (.str o) true
 have k2:KpG g H1 (upd H1 g.A.l (.ins CL g.A.dx (lf g.A g.tn (.str o) true (exB false (aG g.xs:Nat) g.ag)))):=KpA.up (.head _)
 generalize (upd H1 g.A.l (HO.ins CL g.A.dx (lf g.A g.tn (.str o) true (exB false (aG g.xs:Nat) g.ag))))=H2 at lg2 k2 ⊢
 exact ⟨_,rfl,g.A.l,g.A.dx,_,rfl,lg2.ld.ins,aQ (by decide +kernel),_,rfl,{g with nm:=.str o,cl:=true},rfl,lg2,q H2 lg2 (k1.trans k2)⟩
variable {CH:Addr}
def lN(CL CP:Addr)(CW:Wd->Addr):Sp:=λvs H Q _=>∃l dx na v p b xs,vs=[.ref l,.ref na,v]/\H l=some (.ins CL dx [])/\H na=some (.tup [.int (p:Pa).1,.int p.2])/\PaO CP CW H (mS b) xs v/\ArS xs/\xs.length<=12 /\
 ∀A hs H',(A:Al).l=l->A.na=na->Ld CL CW H' A p xs hs [] 0 .non false []->HsIs xs hs->H A.hd=none->Kp l H H'->Q .non H'
theorem kM(F:Fun K "__init__" "Lead.__init__" gh f fd)(T:TxA K CL)(TP:TxP K CP)(hC:∀wd,CW wd≠CL)(GH:GF P w K mg base CX0 2 "houses_of" ["pact"] (jE CP CW)):FnOk P w K mg base CX0 3 f fd ["self","name","pact"] (lN CL CP CW):=by
 refine F.ok l7 (λvs H Q E h=>?_) (λcdv A outer s H vs Q E hr h=>?_)
 ·obtain ⟨l,dx,na,v,p,b,xs,rfl,_⟩:=h
  rfl
 obtain ⟨l,dx,na,v,p,b,xs,rfl,hl,hna,⟨a,adx,sl,tp,us,rfl,pa⟩,ar,lx,q⟩:=h
 refine ⟨_,ac (aH (pv 0) (pv 1) rfl) (ac (aH (pv 0) (aq (pv 2) rfl) rfl) (ac (aH (pv 0) (pc GH hr (aa (pv 2) ad)) rfl)
  (ac (aH (pv 0) (bU ad) rfl) (ac (aH (pv 0) aj rfl) (ac (aH (pv 0) aO rfl) (af (aH (pv 0) dX rfl))))))),?_⟩
 have nal:a≠l:=λz=>by have e:=pa.ins;rw [z,hl] at e;cases e
 have ntl:tp≠l:=bf pa.tp hl (by intro z;cases z)
 have nnl:na≠l:=bf hna hl (by intro z;cases z)
 have kpP:∀{H':Hp},Kp l H H'->PaU CP CW H' (mS b) xs a adx sl tp us:=λk=>⟨k _ _ nal pa.ins,k _ _ (bf pa.sl hl (by intro z;cases z)) pa.sl,k _ _ ntl pa.tp,Paired.mapP pa.st λx u ⟨c,cdx,e,z⟩=>⟨c,cdx,e,k _ _ (λy=>by rw [y,hl] at z;exact hC _ (HO.ins.inj (Option.some.inj z)).1.symm) z⟩⟩
 refine ⟨_,rfl,_,rfl,l,CL,dx,_,rfl,hl,T.cl,T.na,(by show 0<1000;decide),?_⟩
 have k1:Kp l H (upd H l (.ins CL dx (al "name" (.ref na) []))):=bn
 have h1:(upd H l (.ins CL dx (al "name" (.ref na) []))) l=some (.ins CL dx [("name",.ref na)]):=ae
 generalize (upd H l (HO.ins CL dx (al "name" (.ref na) [])))=H1 at k1 h1 ⊢
 refine ⟨_,rfl,a,CP,adx,_,_,rfl,(kpP k1).ins,TP.cl,TP.np,sS _ _ _,_,rfl,l,CL,dx,_,rfl,h1,T.cl,T.tp,(by show 1<1000;decide),?_⟩
 have k2:Kp l H1 (upd H1 l (.ins CL dx (al "steps" (.ref tp) [("name",.ref na)]))):=bn
 have h2:(upd H1 l (.ins CL dx (al "steps" (.ref tp) [("name",.ref na)]))) l=some (.ins CL dx [("name",.ref na),("steps",.ref tp)]):=by rw [ae];kernel_rfl
 generalize (upd H1 l (HO.ins CL dx (al "steps" (.ref tp) [("name",.ref na)])))=H2 at k2 h2 ⊢
 have k02:=k1.trans k2
 refine ⟨_,rfl,_,b,xs,rfl,⟨a,adx,sl,tp,us,rfl,kpP k02⟩,ar,by omega,λho hs H3 s3 hho his=>?_⟩
 have h3:=s3 _ _ h2
 have k03:=k02.trans (Kp.of s3)
 refine ⟨_,rfl,l,CL,dx,_,rfl,h3,T.cl,T.ho,(by show 2<1000;decide),?_⟩
 have k4:Kp l H3 (upd H3 l (.ins CL dx (al "houses" (.ref ho) [("name",.ref na),("steps",.ref tp)]))):=bn
 have h4:(upd H3 l (.ins CL dx (al "houses" (.ref ho) [("name",.ref na),("steps",.ref tp)]))) l=some (.ins CL dx [("name",.ref na),("steps",.ref tp),("houses",.ref ho)]):=by rw [ae];kernel_rfl
 have hho4:=k4 _ _ (bf hho h3 (by intro z;cases z)) hho
 generalize (upd H3 l (HO.ins CL dx (al "houses" (.ref ho) [("name",.ref na),("steps",.ref tp)])))=H4 at k4 h4 hho4 ⊢
 have k04:=k03.trans k4
 refine ⟨(by show 0<=sizeLine;decide),λhd n5=>?_⟩
 obtain ⟨b1,b2,b3,k5⟩:=cn (o:=.lst []) (fs':=al "hands" (.ref hd) [("name",.ref na),("steps",.ref tp),("houses",.ref ho)]) h4 n5
 refine ⟨_,rfl,l,CL,dx,_,rfl,b1,T.cl,T.hd,(by show 3<1000;decide),?_⟩
 have z5:hd≠l:=bf b3 b2 (by intro z;cases z)
 have hho5:=k5 _ _ (bf hho4 h4 (by intro z;cases z)) hho4
 generalize (upd (upd H4 hd _) l _)=H5 at b2 b3 k5 hho5 ⊢
 have k05:=k04.trans k5
 have h5:H5 l=some (.ins CL dx [("name",.ref na),("steps",.ref tp),("houses",.ref ho),("hands",.ref hd)]):=by rw [b2];kernel_rfl
 refine ⟨_,rfl,l,CL,dx,_,rfl,h5,T.cl,T.tn,(by show 4<1000;decide),?_⟩
 have k6:Kp l H5 (upd H5 l (.ins CL dx (al "turns" (.int 0) [("name",.ref na),("steps",.ref tp),("houses",.ref ho),("hands",.ref hd)]))):=bn
 have h6:(upd H5 l (.ins CL dx (al "turns" (.int 0) [("name",.ref na),("steps",.ref tp),("houses",.ref ho),("hands",.ref hd)]))) l=some (.ins CL dx [("name",.ref na),("steps",.ref tp),("houses",.ref ho),("hands",.ref hd),("turns",.int 0)]):=by rw [ae];kernel_rfl
 generalize (upd H5 l _)=H6 at k6 h6 ⊢
 refine ⟨_,rfl,l,CL,dx,_,rfl,h6,T.cl,T.nm,(by show 5<1000;decide),?_⟩
 have k7:Kp l H6 (upd H6 l (.ins CL dx (al "named" .non [("name",.ref na),("steps",.ref tp),("houses",.ref ho),("hands",.ref hd),("turns",.int 0)]))):=bn
 have h7:(upd H6 l (.ins CL dx (al "named" .non [("name",.ref na),("steps",.ref tp),("houses",.ref ho),("hands",.ref hd),("turns",.int 0)]))) l=some (.ins CL dx [("name",.ref na),("steps",.ref tp),("houses",.ref ho),("hands",.ref hd),("turns",.int 0),("named",.non)]):=by rw [ae];kernel_rfl
 generalize (upd H6 l _)=H7 at k7 h7 ⊢
 refine ⟨_,rfl,l,CL,dx,_,rfl,h7,T.cl,T.cd,(by show 6<1000;decide),?_⟩
 have k8:Kp l H7 (upd H7 l (.ins CL dx (al "closed" (.bl false) [("name",.ref na),("steps",.ref tp),("houses",.ref ho),("hands",.ref hd),("turns",.int 0),("named",.non)]))):=bn
 have h8:(upd H7 l (.ins CL dx (al "closed" (.bl false) [("name",.ref na),("steps",.ref tp),("houses",.ref ho),("hands",.ref hd),("turns",.int 0),("named",.non)]))) l=some (.ins CL dx (lf ⟨l,dx,na,tp,ho,hd⟩ 0 .non false [])):=by rw [ae];kernel_rfl
 generalize (upd H7 l _)=H8 at k8 h8 ⊢
 have k58:=k6.trans (k7.trans k8)
 have k08:=k05.trans k58
 have nhl:ho≠l:=bf hho5 h5 (by intro z;cases z)
 refine q ⟨l,dx,na,tp,ho,hd⟩ hs H8 rfl rfl ⟨h8,k08 _ _ nnl hna,⟨us,(kpP k08).tp,(kpP k08).st⟩,k58 _ _ nhl hho5,k58 _ _ z5 b3,ar,Nat.zero_le _,lx,Nat.zero_le _⟩ his ?_ k08
 cases e:H hd with
 | none=>rfl
 | some u =>
  rw [k04 _ _ z5 e] at n5
  cases n5
def mQ(CL CP:Addr)(CW:Wd->Addr):Sp:=λvs H Q _=>∃l dx na v p b xs,vs=[.ref l,.ref na,v]/\H l=some (.ins CL dx [])/\H na=some (.tup [.int (p:Pa).1,.int p.2])/\PaO CP CW H (mS b) xs v/\ArS xs/\xs.length<=12 /\
 ∀A ag ks hs H',(A:Al).l=l->A.na=na->Ld CL CW H' A p xs hs [] 0 .non false (exB true (aG xs:Nat) ag)->H' ag=some (.lst ks)->HsIs xs hs->H A.hd=none->H ag=none->ag≠A.hd->Kp l H H'->Q .non H'
theorem uZ(xs:List Stp):aG xs<=xs.length:=List.findIdx_le_length
theorem qW{CA fA:Addr}{dA:FuncData}(F:Fun K "__init__" "WalkedLead.__init__" bp f fd)(B:TxB mg)(T:TxC K CW CL CH)(TB:NoAttr K CL "bend")(TU:NoAttr K CL "undoing")(TS:NoAttr K CL "signed")(TP:TxP K CP)(W:TxW K CW)(mgA:mg "Lead"=some (.ref CA))(cf:qA K CA "__init__" fA)(GA:FnOk P w K mg base CX0 3 fA dA ["self","name","pact"] (lN CL CP CW))(bA:Binds K dA ["self","name","pact"] [])(GT:GF P w K mg base CX0 2 "turning" ["pact"] (oM CP CW))(GH:∀wd,GM P w K mg base CX0 1 (CW wd) "house" ["self"] (eV CW wd)) :
  FnOk P w K mg base CX0 4 f fd ["self","name","pact"] (mQ CL CP CW):=by
 refine F.ok gO (λvs H Q E h=>?_) (λcdv A outer s H vs Q E hr h=>?_)
 ·obtain ⟨l,dx,na,v,p,b,xs,rfl,_⟩:=h
  rfl
 obtain ⟨l,dx,na,v,p,b,xs,rfl,hl,hna,⟨a,adx,sl,tp,us,rfl,pa⟩,ar,lx,q⟩:=h
 refine ⟨_,ac (bz (l9 (bK (v:=.ref CA) rfl mgA rfl) cf GA hr bA bo (aa (pv 0) (aa (pv 1) (aa (pv 2) ad))))) (ac (aH (pv 0) (pc GT hr (aa (pv 2) ad)) rfl)
  (ac (aH (pv 0) (fY fQ rfl (dv rfl B.range (aa (aq (pv 0) rfl) ad)) (λ_ _ _ _=>gy (am cm (f6 λwd=>pm0 (GH wd) (aI (r:=dt K) bj (pfK K 1) (pv 0) (λ_ _=>rfl)) (W.cl wd) hr) aO (ap _))) (λ_ _ _ _=>pv 0)) rfl)
  (af (aH (pv 0) dX rfl)))),?_⟩
 have hz:(100000:Nat)<=sizeLine:=by decide
 have nal:a≠l:=λz=>by have e:=pa.ins;rw [z,hl] at e;cases e
 have kpP:∀{H':Hp},Kp l H H'->PaU CP CW H' (mS b) xs a adx sl tp us:=λk=>⟨k _ _ nal pa.ins,k _ _ (bf pa.sl hl (by intro z;cases z)) pa.sl,k _ _ (bf pa.tp hl (by intro z;cases z)) pa.tp,Paired.mapP pa.st λx u ⟨c,cdx,e,z⟩=>⟨c,cdx,e,k _ _ (λy=>by rw [y,hl] at z;exact T.n1 _ (HO.ins.inj (Option.some.inj z)).1.symm) z⟩⟩
 refine ⟨_,rfl,_,rfl,_,rfl,l,dx,na,_,p,b,xs,rfl,hl,hna,⟨a,adx,sl,tp,us,rfl,pa⟩,ar,lx,λA hs H1 eA eN ld his nhd k1=>?_⟩
 refine ⟨_,rfl,_,b,xs,rfl,⟨a,adx,sl,tp,us,rfl,kpP k1⟩,by omega,?_⟩
 have hi:=ld.ins
 subst eA
 refine ⟨_,rfl,A.l,CL,A.dx,_,rfl,hi,T.t.cl,TB,(by show 7<1000;decide),?_⟩
 have ld2:Ld CL CW (upd H1 A.l (.ins CL A.dx (lf A 0 .non false [("bend",.int (aG xs:Nat))]))) A p xs hs [] 0 .non false [("bend",.int (aG xs:Nat))]:=ld.upd (by show 1<=9;decide) T.n1
 have k2:Kp A.l H1 (upd H1 A.l (.ins CL A.dx (lf A 0 .non false [("bend",.int (aG xs:Nat))]))):=bn
 have e2:al "bend" (.int (aG xs:Nat)) (lf A 0 .non false [])=lf A 0 .non false [("bend",.int (aG xs:Nat))]:=by kernel_rfl
 rw [e2]
 generalize (upd H1 A.l (HO.ins CL A.dx (lf A 0 .non false [("bend",.int (aG xs:Nat))])))=H2 at ld2 k2 ⊢
 have k02:=k1.trans k2
 obtain ⟨us2,ht2,ps2⟩:=ld2.stp
 have tl:=uZ xs
 have pl:xs.length=us2.length:=ps2.len
 refine ⟨_,rfl,A.l,CL,A.dx,_,_,rfl,ld2.ins,T.t.cl,TB,(by kernel_rfl:(lf A 0 .non false [("bend",.int (aG xs:Nat))]).lookup ("bend":Str)=some (.int (aG xs:Nat))),_,rfl,by omega,by omega,?_⟩
 rw [show ((aG xs:Nat):Int).toNat=aG xs from rfl]
 refine iu (n:=aG xs) (λi ys H'=>H'=H2) rfl (by omega) ?_ ?_
 ·rintro i ys H' hi' rfl
  have hk:i<us2.length:=by omega
  obtain ⟨x,ex,sa,sdx,e3,hsa⟩:=ps2.get (List.getElem?_eq_getElem hk)
  have f1:=kU (m:="house") (by decide +kernel) (by decide +kernel) (by decide +kernel) (by decide +kernel) (by decide +kernel) x.1 x.2
  refine ⟨x.1,_,rfl,A.l,CL,A.dx,_,_,rfl,ld2.ins,T.t.cl,T.t.tp,jX,_,rfl,A.tp,_,_,_,rfl,rfl,SqT.of ht2,bv (by rw [List.getElem?_eq_getElem hk,e3]),sa,sdx,_,rfl,hsa,f1,_,x.2,rfl,ar x (List.mem_of_getElem? ex),⟨sa,sdx,rfl,hsa⟩,rfl,_,rfl,?_⟩
  by_cases e:aL x.1 x.2=.non
  ·rw [decide_eq_true e]
   exact aJ rfl
  ·rw [decide_eq_false e]
   exact bu ⟨_,rfl,rfl⟩
 rintro ks H' rfl ag n3
 obtain ⟨b1,b2,b3,k3⟩:=cn (o:=.lst ks) (fs':=al "undoing" (.ref ag) (lf A 0 .non false [("bend",.int (aG xs:Nat))])) ld2.ins n3
 refine ⟨_,rfl,A.l,CL,A.dx,_,rfl,b1,T.t.cl,TU,(by show 8<1000;decide),?_⟩
 have z3:ag≠A.l:=bf b3 b2 (by intro z;cases z)
 have zh:ag≠A.hd:=λz=>by rw [z,ld2.han] at n3;cases n3
 have e3:al "undoing" (.ref ag) (lf A 0 .non false [("bend",.int (aG xs:Nat))])=lf A 0 .non false [("bend",.int (aG xs:Nat)),("undoing",.ref ag)]:=by kernel_rfl
 rw [e3] at b2 k3 ⊢
 have b3':(upd (upd H' ag (.lst ks)) A.l (.ins CL A.dx (lf A 0 .non false [("bend",.int (aG xs:Nat)),("undoing",.ref ag)]))) ag=some (.lst ks):=by rw [ay z3];exact ae
 generalize (upd (upd H' ag (HO.lst ks)) A.l _)=H3 at b2 b3' k3 ⊢
 have ne:∀{c:Addr} {o:HO},H' c=some o->(∀c d e,o≠.ins c d e)->c≠A.l:=λe n=>bf e ld2.ins (n _ _ _)
 have ld3:Ld CL CW H3 A p xs hs [] 0 .non false [("bend",.int (aG xs:Nat)),("undoing",.ref ag)]:=⟨b2,k3 _ _ (ne ld2.nam (λ_ _ _ z=>by cases z)) ld2.nam,⟨us2,k3 _ _ (ne ht2 (λ_ _ _ z=>by cases z)) ht2,Paired.mapP ps2 λx u ⟨c,cdx,e,z⟩=>⟨c,cdx,e,k3 _ _ (λy=>by rw [y,ld2.ins] at z;exact T.n1 _ (HO.ins.inj (Option.some.inj z)).1.symm) z⟩⟩,k3 _ _ (ne ld2.hou (λ_ _ _ z=>by cases z)) ld2.hou,k3 _ _ (ne ld2.han (λ_ _ _ z=>by cases z)) ld2.han,ar,Nat.zero_le _,lx,by show 2<=9;decide⟩
 refine ⟨_,rfl,A.l,CL,A.dx,_,rfl,b2,T.t.cl,TS,(by show 9<1000;decide),?_⟩
 have e4:al "signed" (.bl false) (lf A 0 .non false [("bend",.int (aG xs:Nat)),("undoing",.ref ag)])=lf A 0 .non false (exB true (aG xs:Nat) ag):=by kernel_rfl
 rw [e4]
 have ld4:Ld CL CW (upd H3 A.l (.ins CL A.dx (lf A 0 .non false (exB true (aG xs:Nat) ag)))) A p xs hs [] 0 .non false (exB true (aG xs:Nat) ag):=ld3.upd (by show 3<=9;decide) T.n1
 have k4:Kp A.l H3 (upd H3 A.l (.ins CL A.dx (lf A 0 .non false (exB true (aG xs:Nat) ag)))):=bn
 refine q A ag ks hs _ rfl eN ld4 (k4 _ _ z3 b3') his nhd ?_ zh (k02.trans (k3.trans k4))
 cases e:H ag with
 | none=>rfl
 | some u=>rw [k02 _ _ z3 e] at n3;cases n3
def mU(CL CP:Addr)(CW:Wd->Addr):Sp:=λvs H Q _=>∃l dx na v p b xs,vs=[.ref l,.ref na,v]/\H l=some (.ins CL dx [])/\H na=some (.tup [.int (p:Pa).1,.int p.2])/\PaO CP CW H (mS b) xs v/\ArS xs/\xs.length<=12 /\
 ∀A ag hs H',(A:Al).l=l->A.na=na->Ld CL CW H' A p xs hs [] 0 .non false (exB false (aG xs:Nat) ag)->H' ag=some (.dK [])->HsIs xs hs->H A.hd=none->H ag=none->Kp l H H'->Q .non H'
theorem ra{CA fA:Addr}{dA:FuncData}(F:Fun K "__init__" "HeldLead.__init__" dh f fd)(T:TxC K CW CL CH)(TG:NoAttr K CL "agreed")(mgA:mg "Lead"=some (.ref CA))(cf:qA K CA "__init__" fA)(GA:FnOk P w K mg base CX0 3 fA dA ["self","name","pact"] (lN CL CP CW))(bA:Binds K dA ["self","name","pact"] []) :
  FnOk P w K mg base CX0 4 f fd ["self","name","pact"] (mU CL CP CW):=by
 refine F.ok iM (λvs H Q E h=>?_) (λcdv A outer s H vs Q E hr h=>?_)
 ·obtain ⟨l,dx,na,v,p,b,xs,rfl,_⟩:=h
  rfl
 obtain ⟨l,dx,na,v,p,b,xs,rfl,hl,hna,pa,ar,lx,q⟩:=h
 refine ⟨_,ac (bz (l9 (bK (v:=.ref CA) rfl mgA rfl) cf GA hr bA bo (aa (pv 0) (aa (pv 1) (aa (pv 2) ad))))) (af (aH (pv 0) sW rfl)),?_⟩
 refine ⟨_,rfl,_,rfl,_,rfl,l,dx,na,v,p,b,xs,rfl,hl,hna,pa,ar,lx,λA hs H1 eA eN ld his nhd k1=>?_⟩
 refine λag n2=>?_
 have hi:=ld.ins
 obtain ⟨b1,b2,b3,k2⟩:=cn (o:=.dK []) (fs':=al "agreed" (.ref ag) (lf A 0 .non false [])) hi n2
 subst eA
 refine ⟨_,rfl,A.l,CL,A.dx,_,rfl,b1,T.t.cl,TG,(by show 7<1000;decide),?_⟩
 have z2:ag≠A.l:=bf b3 b2 (by intro z;cases z)
 generalize (upd (upd H1 ag _) A.l _)=H2 at b2 b3 k2 ⊢
 obtain ⟨us,e1,e2⟩:=ld.stp
 have ne:∀{c:Addr} {o:HO},H1 c=some o->(∀c d e,o≠.ins c d e)->c≠A.l:=λe n=>bf e hi (n _ _ _)
 refine q A ag hs H2 rfl eN ⟨by rw [b2];kernel_rfl,k2 _ _ (ne ld.nam (λ_ _ _ z=>by cases z)) ld.nam,⟨us,k2 _ _ (ne e1 (λ_ _ _ z=>by cases z)) e1,Paired.mapP e2 λx u ⟨c,cdx,e,z⟩=>⟨c,cdx,e,k2 _ _ (λy=>by rw [y,hi] at z;exact T.n1 _ (HO.ins.inj (Option.some.inj z)).1.symm) z⟩⟩,k2 _ _ (ne ld.hou (λ_ _ _ z=>by cases z)) ld.hou,k2 _ _ (ne ld.han (λ_ _ _ z=>by cases z)) ld.han,ar,Nat.zero_le _,lx,by show 1<=9;decide⟩ b3 his nhd ?_ (k1.trans k2)
 cases e:H ag with
 | none=>rfl
 | some u =>
  rw [k1 _ _ z2 e] at n2
  cases n2
theorem pR(a b:Str):(a++b).length=a.length+b.length:=by
 show (a.cps++b.cps).size=_
 rw [Array.size_append]
 rfl
theorem acs(a b:Str):(a++b).cps.toList=a.cps.toList++b.cps.toList:=by
 show (a.cps++b.cps).toList=_
 rw [Array.toList_append]
theorem hV{a b:Str}(h:a.cps.toList=b.cps.toList):a=b:=by
 obtain ⟨a⟩:=a
 obtain ⟨b⟩:=b
 have:a=b:=Array.toList_inj.mp h
 rw [this]
theorem rX:(Str.ofString " ").cps.toList=[32]:=by decide +kernel
theorem oF(wd:Wd)(ns:List Int):(txt wd ns).cps.toList=Km.ca 32 ((wS wd::ns.map iS).map λy=>y.cps.toList):=by
 unfold txt
 rw [fM]
 exact Km.b9 32 _
theorem yx(wd:Wd)(a b:Int):wS wd++Str.ofString " "++iS a++Str.ofString " "++iS b=txt wd [a,b]:=by
 refine hV ?_
 rw [oF]
 simp only [acs,rX,List.map_cons,List.map_nil,Km.ca]
 simp
theorem zy(wd:Wd)(a b c:Int):txt wd [a,b]++Str.ofString " "++iS c=txt wd [a,b,c]:=by
 refine hV ?_
 simp only [acs,oF,rX,List.map_cons,List.map_nil,Km.ca]
 simp
theorem yy(wd:Wd)(a:Int):wS wd++Str.ofString " "++iS a=txt wd [a]:=by
 refine hV ?_
 rw [oF]
 simp only [acs,rX,List.map_cons,List.map_nil,Km.ca]
 simp
variable {CLb:Bool->Addr}
def sj(CLb:Bool->Addr)(CP:Addr)(CW:Wd->Addr):Sp:=λvs H Q _=>∃na v p b xs,vs=[.ref na,v]/\H na=some (.tup [.int (p:Pa).1,.int p.2])/\PaO CP CW H (mS b) xs v/\ArS xs/\xs.length<=12 /\
 ∀A ag ks hs H',(A:Al).na=na->Same H H'->Ld (CLb b) CW H' A p xs hs [] 0 .non false (exB b (aG xs:Nat) ag)->H' ag=some (agO b [] ks)->HsIs xs hs->H A.l=none->H A.hd=none->H ag=none->ag≠A.hd->Q (.ref A.l) H'
theorem jx{H:Hp}{x dx:Addr}{o1 o2:HO}(nx:H x=none)(nd:H dx=none):Same H (upd (upd H dx o1) x o2):=λb o e=>by rw [ay (ah e nx),ay (ah e nd)];exact e
theorem none_of{H H':Hp}{b:Addr}(s:Same H H')(n:H' b=none):H b=none:=by
 cases e:H b with
 | none=>rfl
 | some o=>rw [s _ _ e] at n;cases n
theorem xH{fH fW:Addr}{dH dW:FuncData}(F:Fun K "lead_of" "lead_of" iT f fd)(TP:TxP K CP)
  (MH:Mk K (CLb false) fH)(mgH:mg "HeldLead"=some (.ref (CLb false)))(GHI:FnOk P w K mg base CX0 4 fH dH ["self","name","pact"] (mU (CLb false) CP CW))(bH:Binds K dH ["self","name","pact"] [])
  (MW:Mk K (CLb true) fW)(mgW:mg "WalkedLead"=some (.ref (CLb true)))(GWI:FnOk P w K mg base CX0 4 fW dW ["self","name","pact"] (mQ (CLb true) CP CW))(bW:Binds K dW ["self","name","pact"] []) :
  FnOk P w K mg base CX0 6 f fd ["name","pact"] (sj CLb CP CW):=by
 refine F.ok oU (λvs H Q E h=>?_) (λcdv A outer s H vs Q E hr h=>?_)
 ·obtain ⟨na,v,p,b,xs,rfl,_⟩:=h
  rfl
 obtain ⟨na,v,p,b,xs,rfl,hna,⟨a,dx,sl,tp,us,rfl,pa⟩,ar,lx,q⟩:=h
 refine ⟨_,af (ao (il (am aR (aq (pv 1) rfl) aA (ap _)) (ce MH GHI hr rfl mgH bH .nil bo (aa (pv 0) (aa (pv 1) ad))) (ce MW GWI hr rfl mgW bW .nil bo (aa (pv 0) (aa (pv 1) ad))))),?_⟩
 refine ⟨_,rfl,a,CP,dx,_,_,rfl,pa.ins,TP.cl,TP.nm,zO _ _ _,rfl,_,rfl,?_⟩
 cases b with
 | false =>
  refine bx (λ_=>?_) (λc=>absurd (decide_eq_true rfl) c)
  refine ⟨_,rfl,_,rfl,?_⟩
  intro x xd nx ndx nex
  have s':∀{o1 o2:HO},Same H (upd (upd H xd o1) x o2):=λ{o1 o2}=>jx nx ndx
  refine ⟨x,xd,na,_,p,false,xs,rfl,ae,s' _ _ hna,⟨a,dx,sl,tp,us,rfl,pa.keep s'⟩,ar,lx,λA ag hs H1 eA eN ld hag his nhd nag k1=>⟨rfl,?_⟩⟩
  have s1:Same H H1:=fw nx ndx k1
  subst eA
  exact q A ag [] hs H1 eN s1 ld hag his nx (none_of s' nhd) (none_of s' nag) (bf hag ld.han (by intro z;cases z))
 | true =>
  refine bx (λc=>absurd (V.str.inj (of_decide_eq_true c)) (by decide +kernel)) (λ_=>?_)
  refine ⟨_,rfl,_,rfl,?_⟩
  intro x xd nx ndx nex
  have s':∀{o1 o2:HO},Same H (upd (upd H xd o1) x o2):=λ{o1 o2}=>jx nx ndx
  refine ⟨x,xd,na,_,p,true,xs,rfl,ae,s' _ _ hna,⟨a,dx,sl,tp,us,rfl,pa.keep s'⟩,ar,lx,λA ag ks hs H1 eA eN ld hag his nhd nag nah k1=>⟨rfl,?_⟩⟩
  have s1:Same H H1:=fw nx ndx k1
  subst eA
  exact q A ag ks hs H1 eN s1 ld hag his nx (none_of s' nhd) (none_of s' nag) nah
def StT(wk:Bool)(H:Hp)(x:Stp)(u:V):Prop:=∃t,u=.ref t/\H t=some (.tup [aL x.1 x.2,.str (sx x)])/\Ar x.1 x.2/\OkS x/\(wk=true->x.1≠.give)
theorem StT.keep{wk:Bool}{H H':Hp}{x:Stp}{u:V}(s:bJ H H')(h:StT wk H x u):StT wk H' x u:=by
 obtain ⟨t,rfl,h1,h2⟩:=h
 exact ⟨t,rfl,s _ _ h1,h2⟩
def si:Sp:=λvs H Q _=>∃c b,vs=[.int c,.str (mS b)]/\∀u x H',Same H H'->StT b H' x u->Q u H'
theorem ip(wd:Wd)(ns:List Int)(h1:wd≠.plus)(h2:wd≠.need):OkS (wd,ns):=⟨λz=>absurd z h1,λz=>absurd z h2⟩
theorem xG(F:Fun K "_law_step" "_law_step" fV f fd)(B:TxB mg):FnOk P w K mg base CX0 1 f fd ["_law_number","_law_manner"] si:=by
 refine F.ok sc__law_step (λvs H Q E h=>?_) (λcdv A outer s H vs Q E hr h=>?_)
 ·obtain ⟨c,b,rfl,_⟩:=h
  rfl
 obtain ⟨c,b,rfl,q⟩:=h
 have nd:=sc__law_step.nd
 have hz:(1000:Nat)<=sizeLine:=by decide
 refine ⟨_,ac (aD (i:=2) nd rfl (Or.inl rfl) (aE cJ (aE d0 (pv 0) aj) aj))
  (ac (aD (i:=3) nd rfl (Or.inl rfl) (aE cJ (aE d0 (pv 0) aj) aj))
  (ac (aD (i:=4) nd rfl (Or.inl rfl) (aE cJ (pv 0) aj))
  (ac (aC (am aR (pv 4) aj (ap _)) (af (ao (bi (aa aO (aa (aE aK aA (aF aT rfl B.str PyProof.Rows.boot_str (aa (aE cJ (aE d0 (pv 0) aj) (aE jU aj aj)) ad))) ad))))) au)
  (ac (aC (am aR (pv 4) aj (ap _)) (af (ao (bi (aa aO (aa (aE aK aA (aF aT rfl B.str PyProof.Rows.boot_str (aa (aE o9 aj (aE cJ (aE d0 (pv 0) aj) (aE jU aj aj))) ad))) ad))))) au)
  (ac (aC (am aR (pv 4) aj (ap _)) (af (ao (bi (aa (pv 2) (aa (aE aK (aE aK (aE aK (aE aK (aE aK aA (aF aT rfl B.str PyProof.Rows.boot_str (aa (pv 2) ad))) aA) (aF aT rfl B.str PyProof.Rows.boot_str (aa (pv 3) ad))) aA) (aF aT rfl B.str PyProof.Rows.boot_str (aa (aE cJ (aE d0 (pv 0) aj) (aE jU aj aj)) ad))) ad))))) au)
  (ac (aC (PW.pt (da (am aR (pv 4) aj (ap _)) (cS (am aR (pv 1) aA (ap _))))) (af (ao (bi (aa (pv 2) (aa (aE aK (aE aK (aE aK aA (aF aT rfl B.str PyProof.Rows.boot_str (aa (pv 2) ad))) aA) (aF aT rfl B.str PyProof.Rows.boot_str (aa (pv 3) ad))) ad))))) au)
  (af (ao (bi (aa (pv 2) (aa (aE aK (aE aK (aE aK aA (aF aT rfl B.str PyProof.Rows.boot_str (aa (pv 2) ad))) aA) (aF aT rfl B.str PyProof.Rows.boot_str (aa (pv 3) ad))) ad))))))))))),?_⟩
 obtain ⟨home,eh⟩:∃home,c/5%5=home:=⟨_,rfl⟩
 obtain ⟨a,ea⟩:∃a,c/25%8=a:=⟨_,rfl⟩
 have o0:0<=c/5%5:=Int.emod_nonneg _ (by decide)
 have o5:c/5%5<5:=Int.emod_lt_of_pos _ (by decide)
 have a0:0<=c/25%8:=Int.emod_nonneg _ (by decide)
 have a1:c/25%8<8:=Int.emod_lt_of_pos _ (by decide)
 rw [eh] at o0 o5
 rw [ea] at a0 a1
 have nh:inN home:=⟨o0,by omega⟩
 have na:inN a:=⟨a0,by omega⟩
 have l2:=g6 nh.v
 have l3:=g6 na.v
 have ls:(Str.ofString " ").length=1:=by decide +kernel
 have big:∀n:Int,0<=n%(10 ^ 40:Int)/\inV (n%(10 ^ 40:Int)):=λn=>by
  have r0:0<=n%(10 ^ 40:Int):=Int.emod_nonneg _ (by decide +kernel)
  have r1:n%(10 ^ 40:Int)<10 ^ 40:=Int.emod_lt_of_pos _ (by decide +kernel)
  refine ⟨r0,?_⟩
  show (n%(10 ^ 40:Int)).natAbs<10 ^ 40
  generalize n%(10 ^ 40:Int)=m at r0 r1 ⊢
  omega
 refine ⟨_,rfl,_,_,rfl,rfl,⟨by decide,by decide⟩,_,_,rfl,rfl,(by show (0:Int)<5;decide),?_⟩
 show jg 2 (V.int (c/5%5)) _ _ _
 rw [eh]
 refine ⟨_,rfl,_,_,rfl,rfl,⟨by decide,by decide⟩,_,_,rfl,rfl,(by show (0:Int)<8;decide),?_⟩
 show jg 3 (V.int (c/25%8)) _ _ _
 rw [ea]
 refine ⟨_,rfl,_,_,rfl,rfl,(by show (0:Int)<5;decide),?_⟩
 refine ⟨_,rfl,rfl,_,rfl,bx (λk1=>?_) (λk1=>⟨_,rfl,rfl,_,rfl,bx (λk2=>?_) (λk2=>⟨_,rfl,rfl,_,rfl,bx (λk3=>?_) (λk3=>?_)⟩)⟩)⟩
 ·obtain ⟨r0,nr⟩:=big (c/5)
  obtain ⟨r,er⟩:∃r,c/5%(10 ^ 40:Int)=r:=⟨_,rfl⟩
  rw [er] at r0 nr
  have l6:(Str.ofString "plus ").length=5:=by decide +kernel
  have lr:=g6 nr
  have ep:Str.ofString "plus "=wS .plus++Str.ofString " ":=by decide +kernel
  have plus:Str.ofString "plus "++iS r=txt .plus [r]:=by rw [ep];exact yy .plus r
  refine ⟨_,rfl,_,_,rfl,rfl,⟨by decide,by decide⟩,_,_,rfl,rfl,⟨by decide,by decide,by decide⟩,_,_,rfl,rfl,(by show (0:Int)<10 ^ 40;decide +kernel),r,congrArg (λz=>[V.int z]) er,fz nr,_,_,rfl,rfl,(by show (Str.ofString "plus ").length+(iS r).length<=sizeLine;omega),(by show 2<=sizeLine;decide),λt ht=>?_⟩
  refine q _ (.plus,[r]) _ (ai ht) ⟨t,rfl,?_,nr,⟨(λ_=>⟨r,rfl,r0⟩),(λz=>by cases z)⟩,λ_ z=>by cases z⟩
  rw [ae]
  show some (HO.tup [_,.str (Str.ofString "plus "++iS r)])=_
  rw [plus]
  rfl
 ·obtain ⟨r0,nr0⟩:=big (c/5)
  obtain ⟨r,er⟩:∃r,0-c/5%(10 ^ 40:Int)=r:=⟨_,rfl⟩
  have r1:r<=0:=by omega
  have nr:inV r:=by
   show r.natAbs<10 ^ 40
   have:(c/5%(10 ^ 40:Int)).natAbs<10 ^ 40:=nr0
   omega
  have l6:(Str.ofString "need ").length=5:=by decide +kernel
  have lr:=g6 nr
  have ep:Str.ofString "need "=wS .need++Str.ofString " ":=by decide +kernel
  have need:Str.ofString "need "++iS r=txt .need [r]:=by rw [ep];exact yy .need r
  refine ⟨_,rfl,_,_,rfl,rfl,⟨by decide,by decide⟩,_,_,rfl,rfl,⟨by decide,by decide,by decide⟩,_,_,rfl,rfl,(by show (0:Int)<10 ^ 40;decide +kernel),_,_,rfl,rfl,r,congrArg (λz=>[V.int z]) er,fz nr,_,_,rfl,rfl,(by show (Str.ofString "need ").length+(iS r).length<=sizeLine;omega),(by show 2<=sizeLine;decide),λt ht=>?_⟩
  refine q _ (.need,[r]) _ (ai ht) ⟨t,rfl,?_,nr,⟨(λz=>by cases z),(λ_=>⟨r,rfl,r1⟩)⟩,λ_ z=>by cases z⟩
  rw [ae]
  show some (HO.tup [_,.str (Str.ofString "need "++iS r)])=_
  rw [need]
  rfl
 ·obtain ⟨r0,nr⟩:=big (c/200)
  obtain ⟨r,er⟩:∃r,c/200%(10 ^ 40:Int)=r:=⟨_,rfl⟩
  rw [er] at r0 nr
  have l6:(Str.ofString "add ").length=4:=by decide +kernel
  have lr:=g6 nr
  have ep:Str.ofString "add "=wS .add++Str.ofString " ":=by decide +kernel
  have e3:Str.ofString "add "++iS home++Str.ofString " "++iS a++Str.ofString " "++iS r=txt .add [home,a,r]:=by rw [ep,yx,zy]
  refine ⟨_,rfl,_,rfl,home,rfl,fz nh.v,_,_,rfl,rfl,?_,_,_,rfl,rfl,?_,_,rfl,a,rfl,fz na.v,_,_,rfl,rfl,?_,_,_,rfl,rfl,?_,_,rfl,_,_,rfl,rfl,⟨by decide,by decide⟩,_,_,rfl,rfl,⟨by decide,by decide,by decide⟩,_,_,rfl,rfl,(by show (0:Int)<10 ^ 40;decide +kernel),r,congrArg (λz=>[V.int z]) er,fz nr,_,_,rfl,rfl,?_,(by show 2<=sizeLine;decide),λt ht=>?_⟩
  ·show (Str.ofString "add ").length+(iS home).length<=sizeLine
   omega
  ·show (Str.ofString "add "++iS home).length+(Str.ofString " ").length<=sizeLine
   simp only [pR];omega
  ·show (Str.ofString "add "++iS home++Str.ofString " ").length+(iS a).length<=sizeLine
   simp only [pR];omega
  ·show (Str.ofString "add "++iS home++Str.ofString " "++iS a).length+(Str.ofString " ").length<=sizeLine
   simp only [pR];omega
  ·show (Str.ofString "add "++iS home++Str.ofString " "++iS a++Str.ofString " ").length+(iS r).length<=sizeLine
   simp only [pR];omega
  refine q _ (.add,[home,a,r]) _ (ai ht) ⟨t,rfl,?_,⟨nh,na,nr⟩,ip _ _ (by decide) (by decide),λ_ z=>by cases z⟩
  rw [ae]
  show some (HO.tup [_,.str (Str.ofString "add "++iS home++Str.ofString " "++iS a++Str.ofString " "++iS r)])=_
  rw [e3]
  rfl
 have fin2:∀(wd:Wd) (pre:Str),pre=wS wd++Str.ofString " "->pre.length<=5->(pre.length+(iS home).length<=sizeLine/\(pre++iS home).length+(Str.ofString " ").length<=sizeLine/\(pre++iS home++Str.ofString " ").length+(iS a).length<=sizeLine)/\pre++iS home++Str.ofString " "++iS a=txt wd [home,a]:=λwd pre ep lp=>by
  refine ⟨⟨by omega,?_,?_⟩,by rw [ep,yx]⟩
  ·simp only [pR];omega
  ·simp only [pR];omega
 have tk:∀t,H t=none->Q (.ref t) (upd H t (.tup [.int home,.str (Str.ofString "take "++iS home++Str.ofString " "++iS a)])):=λt ht=>by
  refine q _ (.take,[home,a]) _ (ai ht) ⟨t,rfl,?_,⟨nh,na⟩,ip _ _ (by decide) (by decide),λ_ z=>by cases z⟩
  rw [ae,(fin2 .take (Str.ofString "take ") (by decide +kernel) (by decide +kernel)).2]
  rfl
 obtain ⟨⟨t1,t2,t3⟩,_⟩:=fin2 .take (Str.ofString "take ") (by decide +kernel) (by decide +kernel)
 refine ⟨_,rfl,rfl,_,rfl,bx (λk4=>?_) (λk4=>aJ ?_)⟩
 ·refine ⟨_,rfl,rfl,_,rfl,bx (λk5=>?_) (λk5=>?_)⟩
  ·have eb:b=false:=by
    cases b with
    | false=>rfl
    | true=>exact absurd (V.str.inj (of_decide_eq_true k5)) (by decide +kernel)
   obtain ⟨⟨g1,g2,g3⟩,eg⟩:=fin2 .give (Str.ofString "give ") (by decide +kernel) (by decide +kernel)
   refine ⟨_,rfl,_,rfl,home,rfl,fz nh.v,_,_,rfl,rfl,g1,_,_,rfl,rfl,g2,_,rfl,a,rfl,fz na.v,_,_,rfl,rfl,g3,(by show 2<=sizeLine;decide),λt ht=>?_⟩
   refine q _ (.give,[home,a]) _ (ai ht) ⟨t,rfl,?_,⟨nh,na⟩,ip _ _ (by decide) (by decide),λz=>by rw [eb] at z;cases z⟩
   rw [ae]
   show some (HO.tup [_,.str (Str.ofString "give "++iS home++Str.ofString " "++iS a)])=_
   rw [eg]
   rfl
  ·exact ⟨_,rfl,_,rfl,home,rfl,fz nh.v,_,_,rfl,rfl,t1,_,_,rfl,rfl,t2,_,rfl,a,rfl,fz na.v,_,_,rfl,rfl,t3,(by show 2<=sizeLine;decide),tk⟩
 ·exact ⟨_,rfl,_,rfl,home,rfl,fz nh.v,_,_,rfl,rfl,t1,_,_,rfl,rfl,t2,_,rfl,a,rfl,fz na.v,_,_,rfl,rfl,t3,(by show 2<=sizeLine;decide),tk⟩
theorem vU(F:Fun K "_law_cell_at" "_law_cell_at" dz f fd)(B:TxB mg):FnOk P w K mg base CX0 1 f fd ["_law_script","_law_k"] (oR K):=by
 refine F.ok ji (λvs H Q E h=>?_) (λcdv A outer s H vs Q E hr h=>?_)
 ·obtain ⟨a,ns,k,rfl,_⟩:=h
  rfl
 obtain ⟨a,ns,k,rfl,hS,q⟩:=h
 refine ⟨_,ac (aC (am jV (pv 1) (aw az rfl B.len PySem.boot_len (aa (pv 0) ad)) (ap _)) (af (ao (aI aN (pv 0) (pv 1) (λ_ _=>rfl)))) au)
  (af (ao aj)),?_⟩
 refine ⟨_,rfl,_,rfl,a,_,rfl,.inl hS,_,_,rfl,rfl,_,rfl,?_⟩
 refine bx (λc=>?_) (λc=>?_)
 ·have c':(k:Int)<(((ns.map V.int).length:Nat):Int):=of_decide_eq_true c
  rw [List.length_map] at c'
  have hk:k<ns.length:=by omega
  have q1:atI (ns.map V.int) ((k:Nat):Int)=some (.int ns[k]):=bv (by rw [List.getElem?_map,List.getElem?_eq_getElem hk]<;>rfl)
  have e:aU ns k=ns[k]:=by unfold aU;rw [List.getElem?_eq_getElem hk];rfl
  rw [e] at q
  exact ⟨_,rfl,_,rfl,a,_,_,_,rfl,rfl,hS,q1,q⟩
 ·have c':¬(k:Int)<(((ns.map V.int).length:Nat):Int):=λz=>c (decide_eq_true z)
  rw [List.length_map] at c'
  have e:aU ns k=0:=by unfold aU;rw [List.getElem?_eq_none (by omega)];rfl
  rw [e] at q
  exact q
theorem qe{X:Cx}(n:Nat)(hu:X.A.units+n+1<cLine):OpR X (compareOp .NotEq) (λx y H Q=>∃a b us vs,x=.ref a/\y=.ref b/\SqL X.K H a us/\SqL X.K H b vs/\Paired (λx y=>EqIs X.K n H x y true) us vs/\Q (.bl false) H):=by
 intro pins s σ H x y v u Q I rx ry h
 obtain ⟨a,b,us,vs,rfl,rfl,ha,hb,hr,q⟩:=h
 cases rx
 cases ry
 obtain ⟨i1,v1,p1,_⟩:=I.list ha
 obtain ⟨i2,v2,p2,_⟩:=I.list hb
 have l1:=v1.length
 have l2:=v2.length
 have l3:=hr.len
 have z:=PySem.SeqAt.RcNeAt.lists (A:=X.A) (s:=s) (e:=λ_=>true) p1.isList p2.isList (by simp;omega) (by omega) (λj h1 h2=>by
  have h1':j<i1.length:=by simpa using h1
  have h2':j<i2.length:=by simpa using h2
  have e1:us[j]?=some us[j]:=List.getElem?_eq_getElem (by omega)
  obtain ⟨y,e2,ey⟩:=hr.get1 e1
  obtain ⟨u,eu,ru⟩:=v1.get e1
  obtain ⟨v,ev,rv⟩:=v2.get e2
  have q:=ey X.prog X.w X.A.in1 s u v (by show X.A.units+1+n<cLine;omega) I.hok I.kIn ru rv
  have z1:i1.toArray[j]=u:=by
   rw [List.getElem?_eq_getElem h1'] at eu
   simpa using Option.some.inj eu
  have z2:i2.toArray[j]=v:=by
   rw [List.getElem?_eq_getElem h2'] at ev
   simpa using Option.some.inj ev
  rw [z1,z2]
  exact q)
 have ez:(!(List.range i1.toArray.size).all λ_=>true)=false:=by simp
 rw [ez] at z
 exact z X.prog X.w X.xe _ ⟨.bl false,H,I,rfl,q⟩
theorem dY{α β:Type}{R:α->β->Prop}:∀(k:Nat) {xs:List α} {ys:List β},Paired R xs ys->Paired R (xs.drop k) (ys.drop k)
 | 0,_,_,h=>h
 | _+1,_,_,.nil=>.nil
 | k+1,_,_,.cons _ r=>dY k r
theorem jc{α β γ:Type}{R:α->β->Prop}{S:α->γ->Prop}{T:β->γ->Prop}(f:∀x y z,R x y->S x z->T y z):∀{xs:List α} {ys:List β} {zs:List γ},Paired R xs ys->Paired S xs zs->Paired T ys zs
 | _,_,_,.nil,.nil=>.nil
 | _,_,_,.cons a r,.cons b t=>.cons (f _ _ _ a b) (jc f r t)
theorem ka(xs:List V)(k:Nat)(h:k<=xs.length):gm xs (some (k:Int)) none=xs.drop k:=by
 unfold gm
 rw [HT.vk,HT.ny,Nat.min_eq_left h,← List.length_drop,List.take_length]
theorem nZ{H:Hp}{nv:V}(h:NwAt K H [] nv):∃t,nv=.ref t/\H t=some (.tup []):=by
 obtain ⟨t,zs,rfl,h3,pz⟩:=h
 have e:wB ltE ([]:List (Pa×Str))=[]:=rfl
 rw [e] at pz
 cases pz
 exact ⟨t,rfl,h3⟩
theorem nY{xs:List Stp}{ys:List Int}(ar:ArS xs)(h:aX xs ys≠.non\/xs.length<=ys.length)(hl:ys.length<xs.length):∃x n,xs[ys.length]?=some x/\aL x.1 x.2=.int n:=by
 obtain ⟨x,ex⟩:∃x,xs[ys.length]?=some x:=⟨_,List.getElem?_eq_getElem hl⟩
 have z:=h.resolve_right (by omega)
 unfold aX at z
 rw [ex] at z
 rcases eR (ar x (List.mem_of_getElem? ex)) with ⟨y,_⟩ | ⟨n,y⟩
 ·exact absurd y z
 ·exact ⟨x,n,ex,y⟩
theorem xz{g:Sg}(h:aX g.xs g.ys≠.non\/g.xs.length<=g.ys.length):g.own=g:=by
 have e:=jS h
 unfold Sg.own
 rw [e]
theorem vG{X:Cx}(n:Nat)(hu:X.A.units+n+1<cLine):OpR X (compareOp .Eq) (λx y H Q=>∃a b us vs,x=.ref a/\y=.ref b/\SqL X.K H a us/\SqL X.K H b vs/\Paired (λx y=>EqIs X.K n H x y true) us vs/\Q (.bl true) H):=by
 intro pins s σ H x y v u Q I rx ry h
 obtain ⟨a,b,us,vs,rfl,rfl,ha,hb,hr,q⟩:=h
 cases rx
 cases ry
 obtain ⟨i1,v1,p1,_⟩:=I.list ha
 obtain ⟨i2,v2,p2,_⟩:=I.list hb
 have l1:=v1.length
 have l2:=v2.length
 have l3:=hr.len
 have z:=PySem.SeqAt.RcAt.lists (A:=X.A) (s:=s) (e:=λ_=>true) p1.isList p2.isList (by simp;omega) (by omega) (λj h1 h2=>by
  have h1':j<i1.length:=by simpa using h1
  have h2':j<i2.length:=by simpa using h2
  have e1:us[j]?=some us[j]:=List.getElem?_eq_getElem (by omega)
  obtain ⟨y,e2,ey⟩:=hr.get1 e1
  obtain ⟨u,eu,ru⟩:=v1.get e1
  obtain ⟨v,ev,rv⟩:=v2.get e2
  have q:=ey X.prog X.w X.A.in1 s u v (by show X.A.units+1+n<cLine;omega) I.hok I.kIn ru rv
  have z1:i1.toArray[j]=u:=by
   rw [List.getElem?_eq_getElem h1'] at eu
   simpa using Option.some.inj eu
  have z2:i2.toArray[j]=v:=by
   rw [List.getElem?_eq_getElem h2'] at ev
   simpa using Option.some.inj ev
  rw [z1,z2]
  exact q)
 have ez:((List.range i1.toArray.size).all λ_=>true)=true:=by simp
 rw [ez] at z
 exact z X.prog X.w X.xe _ ⟨.bl true,H,I,rfl,q⟩
variable {CH:Addr}{CLb:Bool->Addr}{wk:Bool}
def p5(K:PySem.W.Frag):Sp:=λvs H Q _=>∃sl xs us b,vs=[.ref sl]/\H sl=some (.lst us)/\Paired (StT b H) xs us/\xs.length<=20/\∀l hs H',Same H H'->H l=none->H' l=some (.lst (hs.map V.int))->HsIs xs hs->Q (.ref l) H'
theorem xJ(F:Fun K "_law_houses" "_law_houses" cj f fd)(B:TxB mg)(mSet:mg "set"=none):FnOk P w K mg base CX0 1 f fd ["_law_steps"] (p5 K):=by
 refine F.ok jI (λvs H Q E h=>?_) (λcdv A outer s H vs Q E hr h=>?_)
 ·obtain ⟨sl,xs,us,b,rfl,_⟩:=h
  rfl
 obtain ⟨sl,xs,us,b,rfl,hsl,px,hl,q⟩:=h
 refine ⟨_,af (ao (aw (gM rfl) rfl B.sorted PyProof.Rows.boot_sorted (aa (aF (lu rfl) rfl mSet PyProof.Rows.boot_set (aa
  (fY iQ rfl (dU (pv 0)) (λ_ _ _ _=>gy (am cm (aI (r:=dt K) bj (pv 0) aj (λ_ _=>rfl)) aO (ap _))) (λ_ _ _ _=>aI (r:=dt K) bj (pv 0) aj (λ_ _=>rfl))) ad)) ad))),?_⟩
 have hs:(100000:Nat)<=sizeLine:=by decide
 have pl:xs.length=us.length:=px.len
 refine ⟨_,rfl,sl,rfl,⟨_,SqL.of hsl⟩,?_⟩
 refine gA (xs:=us) (λi ys H1=>H1=H/\ys=(cQ (xs.take i)).map V.int) ⟨rfl,rfl⟩ (by omega) (λi ys H1 _ z=>by rw [z.1];exact SqL.of hsl) ?_ ?_
 ·rintro i u ys H1 hu ⟨rfl,rfl⟩
  obtain ⟨x,ex,t,rfl,ht,arx,_⟩:=px.get hu
  have et:xs.take (i+1)=xs.take i++[x]:=by rw [List.take_add_one,ex];rfl
  have eh:cQ (xs.take (i+1))=cQ (xs.take i)++cQ [x]:=by rw [et];exact List.filterMap_append
  refine ⟨_,rfl,t,_,_,_,rfl,rfl,SqT.of ht,St.at0,rfl,_,rfl,?_⟩
  rcases eR arx with ⟨e1,e2⟩ | ⟨n,e1⟩
  ·rw [e1,decide_eq_true rfl]
   refine aJ ⟨rfl,?_⟩
   have:cQ [x]=[]:=by
    unfold cQ
    rw [List.filterMap_cons,e2]
    rfl
   rw [eh,this,List.append_nil]
  ·have ne:¬aL x.1 x.2=.non:=λz=>by rw [e1] at z;cases z
   rw [decide_eq_false ne]
   refine bu ⟨_,rfl,t,_,_,_,rfl,rfl,SqT.of ht,St.at0,rfl,?_⟩
   have:cQ [x]=[n]:=by
    unfold cQ
    rw [List.filterMap_cons,e1]
    rfl
   rw [eh,this,List.map_append,e1]
   rfl
 ·rintro ys H1 ⟨rfl,rfl⟩ l hl1
  rw [← pl,List.take_length]
  have s1:=ai (o:=.lst ((cQ xs).map V.int)) hl1
  have lh:(cQ xs).length<=xs.length:=List.length_filterMap_le _ _
  refine ⟨l,cQ xs,rfl,SqL.of ae,by omega,λa2 o2 is2 ha2 sd2 m2=>?_⟩
  have s2:=ai (o:=Fq a2 o2) ha2
  obtain ⟨_,_,_,_,_,_,_,_,_,nd2,_⟩:=id sd2
  refine ⟨a2,o2,is2,rfl,ae,sd2,?_,λl3 ns3 hl3 so3=>?_⟩
  ·have:(is2.map (·.1)).length<=(cQ xs).length:=List.Nodup.length_le_of_subset nd2 λn hn=>(m2 n).mp hn
   rw [List.length_map] at this
   omega
  exact q l3 ns3 _ (s1.trans (s2.trans (ai hl3))) (none_of (s1.trans s2) hl3) ae ⟨so3.1.symm.nodup nd2,so3.2,λn=>so3.1.mem_iff.trans (m2 n)⟩
def se(K:PySem.W.Frag):Sp:=λvs H Q _=>∃sl xs us b ys,vs=[.ref sl,.int ((ys:List Int).length:Nat)]/\H sl=some (.lst us)/\Paired (StT b H) xs us/\ys.length<=xs.length/\Q (.int ((own xs ys).length:Nat)) H
theorem xE(F:Fun K "_law_next" "_law_next" fX f fd)(B:TxB mg):FnOk P w K mg base CX0 1 f fd ["_law_steps","_law_at"] (se K):=by
 refine F.ok sc__law_next (λvs H Q E h=>?_) (λcdv A outer s H vs Q E hr h=>?_)
 ·obtain ⟨sl,xs,us,b,ys,rfl,_⟩:=h
  rfl
 obtain ⟨sl,xs,us,b,ys,rfl,hsl,px,le,q⟩:=h
 have nd:=sc__law_next.nd
 refine ⟨_,ac (jQ PassesOwn.never (PW.pt (da (am jV (pv 1) (aw az rfl B.len PySem.boot_len (aa (pv 0) ad)) (ap _)) (cS (am i0 (aI (r:=dt K) bj (aI (r:=cY K) aN (pv 0) (pv 1) (λ_ _=>rfl)) aj (λ_ _=>rfl)) aO (ap _)))))
   (af (aD (i:=1) nd rfl (Or.inl rfl) (aE eE (pv 1) aj))))
  (af (ao (pv 1))),?_⟩
 have pl:xs.length=us.length:=px.len
 refine ⟨λm σ H'=>∃zs,σ=[some (.ref sl),some (.int ((zs:List Int).length:Nat))]/\H'=H/\own xs zs=own xs ys/\zs.length<=xs.length/\m=xs.length-zs.length,⟨_,ys,rfl,rfl,rfl,le,rfl⟩,?_⟩
 rintro m σ H' ⟨zs,rfl,rfl,eo,lz,rfl⟩
 have fin:aX xs zs≠.non\/xs.length<=zs.length->Q (.int (zs.length:Nat)) H':=λz=>by
  have e:(own xs ys).length=zs.length:=by rw [← eo,jS z]
  rw [← e]
  exact q
 refine ⟨_,rfl,_,rfl,sl,_,rfl,.inl (SqL.of hsl),_,_,rfl,rfl,_,rfl,bx (λc=>?_) (λc=>aJ ⟨_,rfl,fin (.inr ?_)⟩)⟩
 ·have c':zs.length<xs.length:=by have z:=of_decide_eq_true c;omega
  obtain ⟨x,ex⟩:∃x,xs[zs.length]?=some x:=⟨_,List.getElem?_eq_getElem c'⟩
  obtain ⟨u,eu,t,rfl,ht,arx,_⟩:=px.get1 ex
  refine ⟨_,rfl,_,rfl,sl,_,_,_,rfl,rfl,SqL.of hsl,bv eu,t,_,_,_,rfl,rfl,SqT.of ht,St.at0,rfl,_,rfl,?_⟩
  by_cases en:aL x.1 x.2=.non
  ·rw [decide_eq_true en]
   refine bu ⟨fun σ' H2=>∃zs',σ'=[some (.ref sl),some (.int ((zs':List Int).length:Nat))]/\H2=H'/\own xs zs'=own xs ys/\zs'.length=zs.length+1,fun σ' H2 ⟨zs',e1,e2,e3,e4⟩=>⟨xs.length-zs'.length,by omega,zs',e1,e2,e3,by omega,rfl⟩,?_⟩
   refine ⟨_,rfl,_,_,rfl,rfl,zs++[gG x (ba zs)],?_,rfl,(io ex en).symm.trans eo,by rw [List.length_append];rfl⟩
   have e2:(((zs++[gG x (ba zs)]).length:Nat):Int)=((zs.length:Nat):Int)+1:=by rw [List.length_append];rfl
   rw [e2]
   rfl
  ·rw [decide_eq_false en]
   exact aJ ⟨_,rfl,fin (.inl (by unfold aX;rw [ex];exact en))⟩
 ·have z:¬((zs.length:Nat):Int)<((us.length:Nat):Int):=λz=>c (decide_eq_true z)
  omega
def yr(H:Hp)(a b:Addr):Prop:=a=b\/(∃i j s,H a=some (.tup [.int i,.int j,.str s])/\H b=some (.tup [.int i,.int j,.str s]))\/(H a=some (.tup [])/\H b=some (.tup []))
def EqW(H:Hp)(x y:Ws):Prop:=x.1=y.1/\x.2.1=y.2.1/\x.2.2.1=y.2.2.1/\yr H x.2.2.2 y.2.2.2
theorem EqW.rfl'{H:Hp}(x:Ws):EqW H x x:=⟨rfl,rfl,rfl,.inl rfl⟩
theorem EqW.keep{H H':Hp}{x y:Ws}(s:bJ H H')(h:EqW H x y):EqW H' x y:=⟨h.1,h.2.1,h.2.2.1,h.2.2.2.imp id λz=>z.imp (λ⟨i,j,t,a,b⟩=>⟨i,j,t,s _ _ a,s _ _ b⟩) λ⟨a,b⟩=>⟨s _ _ a,s _ _ b⟩⟩
theorem jA{H:Hp}:∀ws:List Ws,Paired (EqW H) ws ws
 | []=>.nil
 | x::r=>.cons (EqW.rfl' x) (jA r)
theorem zk{H:Hp}{x y:Ws}{u v:V}(hx:LtAt K H [] x u)(hy:LtAt K H [] y v)(e:EqW H x y):EqIs K 3 H u v true:=by
 obtain ⟨t,t2,nv,rfl,h1,h2,hn⟩:=hx
 obtain ⟨r,r2,nw,rfl,g1,g2,gn⟩:=hy
 obtain ⟨t3,rfl,h3⟩:=nZ hn
 obtain ⟨r3,rfl,g3⟩:=nZ gn
 obtain ⟨e1,e2,e3,e4⟩:=e
 rw [e1] at h1
 rw [e2,e3] at h2
 have em:EqIs K 1 H (.ref x.2.2.2) (.ref y.2.2.2) true:=by
  rcases e4 with z | ⟨i,j,s,a,b⟩ | ⟨a,b⟩
  ·rw [z]
   exact qm 1
  ·exact (j8 (K:=K) (n:=0) (SqT.of a) (SqT.of b) (.cons (eq_int 0 _) (.cons (eq_int 0 _) (.cons (eq_str 0 _) .nil)))).1
  ·exact (j8 (K:=K) (n:=0) (SqT.of a) (SqT.of b) .nil).1
 have en:=(j8 (K:=K) (n:=0) (SqT.of h3) (SqT.of g3) .nil).1
 have ei:=(j8 (K:=K) (n:=1) (SqT.of h2) (SqT.of g2) (.cons (eq_str 1 _) (.cons (qm 1) (.cons em (.cons en .nil))))).1
 exact (j8 (K:=K) (n:=2) (SqT.of h1) (SqT.of g1) (.cons (eq_int 2 _) (.cons ei .nil))).1
theorem pL{H:Hp}:∀{xs ys:List Ws} {us vs:List V},Paired (LtAt K H []) xs us->Paired (LtAt K H []) ys vs->Paired (EqW H) xs ys->Paired (λx y=>EqIs K 3 H x y true) us vs
 | _,_,_,_,.nil,.nil,_=>.nil
 | _,_,_,_,.cons a r,.cons b t,.cons e q=>.cons (zk a b e) (pL r t q)
 | _,_,_,_,.nil,.cons _ _,h=>nomatch h
 | _,_,_,_,.cons _ _,.nil,h=>nomatch h
theorem wj(xs:List V)(m:Nat)(h0:1<=m)(h:m<=xs.length):gm xs (some (0-(m:Int))) none=xs.drop (xs.length-m):=by
 have e:HT.sIx xs.length 0 (some (0-(m:Int)))=xs.length-m:=by
  show (if (0-(m:Int))<0 then ((0-(m:Int))+(xs.length:Int)).toNat else min (0-(m:Int)).toNat xs.length)=_
  rw [if_pos (by omega)]
  omega
 unfold gm
 rw [e,HT.ny,← List.length_drop,List.take_length]
def flt(sd:Bool)(n:Int)(ws:List Ws):List Ws:=if sd=true then ws.filter (λx=>!decide (V.int x.1=V.int n)) else ws
def su(CS CH:Addr)(K:PySem.W.Frag):Sp:=λvs H Q _=>∃S h d ws v m n sd,vs=[.ref (h:Ah).l,.int ((m:Nat):Int),.int n,.bl sd]/\ShA CS CH K H S h d [] ws v/\d.ends=[]/\ws.length<=900/\1<=m/\m<=ws.length/\∀l ds H',Same H H'->H l=none->H' l=some (.lst ds)->Paired (LtAt K H' []) (flt sd n (ws.drop (ws.length-m))) ds->Q (.ref l) H'
theorem xP(F:Fun K "_law_due" "_law_due" dy f fd)(DH:TxH K CH)(GLT:GM P w K mg base CX0 2 CH "letters_told" ["self"] (hZ CS CH K)):FnOk P w K mg base CX0 3 f fd ["_law_sheet","_law_many","_law_first","_law_said"] (su CS CH K):=by
 refine F.ok sc__law_due (λvs H Q E h=>?_) (λcdv A outer s H vs Q E hr h=>?_)
 ·obtain ⟨S,h,d,ws,v,m,n,sd,rfl,_⟩:=h
  rfl
 obtain ⟨S,h,d,ws,v,m,n,sd,rfl,sh,en,lw,m1,ml,q⟩:=h
 have nd:=sc__law_due.nd
 refine ⟨_,ac (aD (i:=4) nd rfl (Or.inl rfl) (dD h9 (pm0 GLT (pv 0) DH.cl hr) (cT (aE o9 aj (pv 1))) jv))
  (ac (aC (am aR (pv 1) aj (ap _)) aB au)
  (ac (aC (bD (pv 3)) (af (ao (fY kq rfl (dU (pv 4)) (λ_ _ _ _=>gy (am f8 (aI (r:=dt K) bj (pv 0) aj (λ_ _=>rfl)) (pv 1) (ap _))) (λ_ _ _ _=>pv 0)))) au)
  (af (ao (pv 4))))),?_⟩
 have hz:(100000:Nat)<=sizeLine:=by decide
 refine ⟨_,rfl,h.l,h.dx,_,rfl,sh.ins,eT (by decide +kernel),S,h,d,[],ws,v,rfl,sh,en,lw,λfl lt H1 s1 nfl hfl pl=>?_⟩
 rw [en] at pl
 have ll:ws.length=lt.length:=pl.len
 refine ⟨_,rfl,_,_,rfl,rfl,_,rfl,fl,_,rfl,SqL.of hfl,λcl hcl=>?_⟩
 have e9:gm lt (some (0-((m:Nat):Int))) none=lt.drop (ws.length-m):=by rw [wj lt m m1 (by omega),ll]
 have s2:=ai (o:=.lst (lt.drop (ws.length-m))) hcl
 have pl2:=dY (ws.length-m) (Paired.mapP pl λ_ _ z=>LtAt.keep s2.ts z)
 have hc2:(upd H1 cl (.lst (lt.drop (ws.length-m)))) cl=some (.lst (lt.drop (ws.length-m))):=ae
 show jg 4 (V.ref cl) _ (upd H1 cl (.lst (gm lt (some (0-((m:Nat):Int))) none))) _
 rw [e9]
 have s02:=s1.trans s2
 have ncl:=none_of s1 hcl
 generalize (upd H1 cl (HO.lst (lt.drop (ws.length-m))))=H2 at s2 pl2 hc2 s02 ⊢
 refine ⟨_,rfl,rfl,_,rfl,bx (λc=>absurd (V.int.inj (of_decide_eq_true c)) (by omega)) (λ_=>⟨_,rfl,sd,rfl,?_⟩)⟩
 cases sd with
 | false=>exact aJ ⟨_,rfl,q cl _ H2 s02 ncl hc2 pl2⟩
 | true =>
  obtain ⟨tw,etw⟩:∃tw,ws.drop (ws.length-m)=tw:=⟨_,rfl⟩
  obtain ⟨tu,etu⟩:∃tu,lt.drop (ws.length-m)=tu:=⟨_,rfl⟩
  rw [etw,etu] at pl2
  rw [etu] at hc2
  rw [etw] at q
  have lt3:tw.length=tu.length:=pl2.len
  have lt4:tw.length<=900:=by rw [← etw,List.length_drop];omega
  refine bu ⟨_,rfl,cl,rfl,⟨_,SqL.of hc2⟩,?_⟩
  refine gA (xs:=tu) (λi ys H'=>H'=H2/\Paired (LtAt K H2 []) (flt true n (tw.take i)) ys) ⟨rfl,.nil⟩ (by omega) (λi ys H' _ z=>by rw [z.1];exact SqL.of hc2) ?_ ?_
  ·rintro i u ys H' hu ⟨rfl,py⟩
   obtain ⟨x,ex,lx⟩:=pl2.get hu
   obtain ⟨t,t2,nv,rfl,h1,h2,hn⟩:=id lx
   have et:tw.take (i+1)=tw.take i++[x]:=by rw [List.take_add_one,ex];rfl
   have ef:flt true n (tw.take (i+1))=flt true n (tw.take i)++flt true n [x]:=by rw [et];exact List.filter_append _ _
   refine ⟨_,rfl,t,_,_,_,rfl,rfl,SqT.of h1,St.at0,_,rfl,rfl,_,rfl,?_⟩
   by_cases e:V.int x.1=V.int n
   ·have e2:flt true n [x]=[]:=by
     show [x].filter (λx=>!decide (V.int x.1=V.int n))=[]
     rw [List.filter_cons,decide_eq_true e]
     rfl
    rw [decide_eq_true e]
    refine aJ ⟨rfl,?_⟩
    rw [ef,e2,List.append_nil]
    exact py
   ·have e2:flt true n [x]=[x]:=by
     show [x].filter (λx=>!decide (V.int x.1=V.int n))=[x]
     rw [List.filter_cons,decide_eq_false e]
     rfl
    rw [decide_eq_false e]
    refine bu ⟨_,rfl,rfl,?_⟩
    rw [ef,e2]
    exact py.app (.cons lx .nil)
  ·rintro ys H' ⟨rfl,py⟩ l hl
   rw [← lt3,List.take_length] at py
   have s3:=ai (o:=.lst ys) hl
   exact q l ys _ (s02.trans s3) (none_of s02 hl) ae (Paired.mapP py λ_ _ z=>LtAt.keep s3.ts z)
def lP(CLb:Bool->Addr)(CS CH:Addr)(CW:Wd->Addr)(K:PySem.W.Frag):Sp:=λvs H Q _=>∃b g hl,vs=[.ref (g:Sg).A.l,.ref g.h.l,.ref g.A.na,.str (mS b),.ref hl]/\Lg b (CLb b) CS CH CW K H g/\(b=false->g.cl=false/\H hl=some (.lst (g.hs.map V.int))/\hl∉gJ g.A g.ag g.S g.h/\g.d.ends=[]/\g.ws.length<=860)/\∀H',Q (.bl true) H'
def TellQ(CLb:Bool->Addr)(CS CH:Addr)(CW:Wd->Addr)(K:PySem.W.Frag)(H:Hp)(g:Sg)(es:List Ws)(du:Addr)(ds:List V):Prop:=Lg false (CLb false) CS CH CW K H {g with nm:=.str "broken",cl:=true,ws:=g.ws++es}/\H du=some (.lst ds)/\∃ws',Paired (LtAt K H []) ws' ds/\Paired (EqW H) es ws'
theorem TellQ.keep{H H':Hp}{g:Sg}{es:List Ws}{du:Addr}{ds:List V}(s:Same H H')(h:TellQ CLb CS CH CW K H g es du ds):TellQ CLb CS CH CW K H' g es du ds:=by
 obtain ⟨h1,h2,ws',h3,h4⟩:=h
 exact ⟨LSh.keep h1 s,s _ _ h2,ws',Paired.mapP h3 λ_ _ z=>LtAt.keep s.ts z,Paired.mapP h4 λ_ _ z=>EqW.keep s.ts z⟩
theorem t7(F:Fun K "_law_ended" "_law_ended" cB f fd)(B:TxB mg)(T:∀b,TxC K CW (CLb b) CH)(DH:TxH K CH)(GLT:GM P w K mg base CX0 2 CH "letters_told" ["self"] (hZ CS CH K))(GRT:GM P w K mg base CX0 1 CH "rows_told" ["self"] (lO CS CH K))
  (GE:GM P w K mg base CX0 3 (CLb false) "end" ["self","sheet","outcome"] (ss (CLb false) CS CH CW K))(GT:GM P w K mg base CX0 8 (CLb false) "turn" ["self","sheet"] (gw false (CLb false) CS CH CW K)) :
  FnOk P w K mg base CX0 9 f fd ["_law_lead","_law_sheet","_law_name","_law_manner","_law_houses_here"] (lP CLb CS CH CW K):=by
 refine F.ok sc__law_ended (λvs H Q E h=>?_) (λcdv A outer s H vs Q E hr h=>?_)
 ·obtain ⟨b,g,hl,rfl,_⟩:=h
  rfl
 obtain ⟨b,g,hl,rfl,lg,hb,q⟩:=h
 have nd:=sc__law_ended.nd
 have Tf:=(T false).t.cl
 refine ⟨_,ac (aC (am aR (pv 3) aA (ap _)) (af (ao dX)) au)
  (ac (aD (i:=5) nd rfl (Or.inl rfl) (aw az rfl B.len PySem.boot_len (aa (pm0 GLT (pv 1) DH.cl hr) ad)))
  (ac (bz (pm GE (pv 0) Tf hr (aa (pv 1) (aa aA ad))))
  (ac (nD (iy:=6) jm rfl (dU (pv 4)) (λ_ _ _ _=>gy (am f8 (pv 0) (aI (r:=dt K) bj (pv 1) aj (λ_ _=>rfl)) (ap _))) (λ_ _ _ _=>bi (aa (pv 0) (aa (bi (aa aA (aa (pv 1) (aa (bi ad) (aa (bi ad) ad))))) ad))) nd rfl (Or.inl rfl))
  (ac (jR PassesOwn.never rfl (dv rfl B.range (aa aj ad)) (fg (i:=7) nd rfl (Or.inl rfl))
   (af (aC (PW.pt (ij (am (qe 3 (hun (c:=3) hr)) (dD h9 (pm0 GLT (pv 1) DH.cl hr) (cT (pv 5)) jv) (pv 6) (ap _)) (gW (am cm (pm GT (pv 0) Tf hr (aa (pv 1) ad)) aO (ap _))))) aB au)))
  (af (ao (f7 (bL (vG 3 (hun (c:=3) hr)) (dD h9 (pm0 GLT (pv 1) DH.cl hr) (cT (pv 5)) jv) (pv 6) (ap _)) (gX (bL (nQ (Nat.lt_of_succ_lt (v7 hr))) (pm0 GRT (pv 1) DH.cl hr) (bU ad) (ap _)))))))))),?_⟩
 have hz:(100000:Nat)<=sizeLine:=by decide
 cases b with
 | true=>exact ⟨_,rfl,rfl,_,rfl,bx (λ_=>q _) (λc=>absurd (decide_eq_true rfl) c)⟩
 | false =>
  obtain ⟨ec,hhl,nhl,en,lw⟩:=hb rfl
  refine ⟨_,rfl,rfl,_,rfl,bx (λc=>absurd (V.str.inj (of_decide_eq_true c)) (by decide +kernel)) (λ_=>?_)⟩
  refine ⟨_,rfl,g.h.l,g.h.dx,_,rfl,lg.sh.ins,eT (by decide +kernel),g.S,g.h,g.d,[],g.ws,g.v,rfl,lg.sh,en,by omega,λfl lt H1 s1 nfl hfl pl=>⟨fl,_,rfl,.inl (SqL.of hfl),?_⟩⟩
  have ll:g.ws.length=lt.length:=pl.len
  rw [← ll]
  have lg1:=lg.keep s1
  refine ⟨_,rfl,g.A.l,g.A.dx,_,rfl,lg1.ld.ins,aQ (by decide +kernel),_,rfl,g,_,rfl,lg1,ec,λH2 lg2 k2=>⟨by show g.ws.length<=880;omega,λes H3 lg3 pt3 k3=>?_⟩⟩
  have k13:KpG g H H3:=(KpA.of s1).trans (k2.trans k3)
  have hhl3:=k13 _ _ nhl hhl
  have l12:=lg.hl
  refine ⟨_,rfl,hl,rfl,⟨_,SqL.of hhl3⟩,?_⟩
  refine gA (xs:=g.hs.map V.int) (λi ys H'=>Same H3 H'/\∃ws',Paired (LtAt K H' []) ws' ys/\Paired (pT H' g.A.na) (eC g.p (g.hs.take i)) ws') ⟨Same.refl _,[],.nil,.nil⟩ (by rw [List.length_map];omega) (λi ys H' _ z=>SqL.of (z.1 _ _ hhl3)) ?_ ?_
  ·rintro i u ys H4 hu ⟨s4,ws',pw',pt'⟩
   rw [List.getElem?_map] at hu
   obtain ⟨n,en',rfl⟩:=Option.map_eq_some_iff.mp hu
   have et:g.hs.take (i+1)=g.hs.take i++[n]:=by rw [List.take_add_one,en'];rfl
   have eo:eC g.p (g.hs.take (i+1))=eC g.p (g.hs.take i)++eC g.p [n]:=by rw [et];exact List.filter_append _ _
   refine ⟨_,rfl,_,rfl,g.A.na,_,_,_,rfl,rfl,SqT.of (s4 _ _ lg3.ld.nam),St.at0,rfl,_,rfl,?_⟩
   by_cases e:V.int n=V.int g.p.1
   ·have e2:eC g.p [n]=[]:=by unfold eC;rw [List.filter_cons,decide_eq_true e];rfl
    rw [decide_eq_true e]
    refine aJ ⟨s4,ws',pw',?_⟩
    rw [eo,e2,List.append_nil]
    exact pt'
   ·have e2:eC g.p [n]=[n]:=by unfold eC;rw [List.filter_cons,decide_eq_false e];rfl
    rw [decide_eq_false e]
    refine bu ⟨_,rfl,_,rfl,(by show 0<=sizeLine;decide),λa1 ha1=>⟨(by show 0<=sizeLine;decide),λa2 ha2=>⟨(by show 4<=sizeLine;decide),λt2 ht2=>⟨(by show 2<=sizeLine;decide),λt ht=>?_⟩⟩⟩⟩
    have z1:=ai (o:=.tup []) ha1
    have z2:=ai (o:=.tup []) ha2
    have z3:=ai (o:=.tup [.str "tell",.ref g.A.na,.ref a1,.ref a2]) ht2
    have z4:=ai (o:=.tup [.int n,.ref t2]) ht
    have zz:=z1.trans (z2.trans (z3.trans z4))
    have a1':=z4 _ _ (z3 _ _ (z2 _ _ (ae (H:=H4) (a:=a1) (o:=.tup []))))
    refine ⟨s4.trans zz,ws'++[(n,("tell":Str),g.A.na,a1)],(Paired.mapP pw' λ_ _ z=>LtAt.keep zz.ts z).app (.cons ⟨t,t2,_,rfl,ae,z4 _ _ ae,a2,[],rfl,z4 _ _ (z3 _ _ ae),.nil⟩ .nil),?_⟩
    rw [eo,e2]
    exact (Paired.mapP pt' λ_ _ ⟨a,b,c,d⟩=>⟨a,b,c,zz.ts _ _ d⟩).app (.cons ⟨rfl,rfl,rfl,a1'⟩ .nil)
  ·rintro ds H4 ⟨s4,ws',pw',pt'⟩ du hdu
   rw [List.length_map,List.take_length] at pt'
   have s5:=ai (o:=.lst ds) hdu
   have s35:=s4.trans s5
   have tq:TellQ CLb CS CH CW K (upd H4 du (.lst ds)) g es du ds:=⟨LSh.keep lg3 s35,ae,ws',Paired.mapP pw' λ_ _ z=>LtAt.keep s5.ts z,jc (λn x y ⟨a,b,c,d⟩ ⟨a',b',c',d'⟩=>⟨a.trans a'.symm,b.trans b'.symm,c.trans c'.symm,.inr (.inr ⟨s35 _ _ d,s5 _ _ d'⟩)⟩) pt3 pt'⟩
   have les:es.length<=12:=by
    have:=pt3.len
    have h2:(eC g.p g.hs).length<=g.hs.length:=List.length_filter_le _ _
    have h3:(eC ({g with nm:=.str "broken",cl:=true}:Sg).p ({g with nm:=.str "broken",cl:=true}:Sg).hs).length=es.length:=this
    have h4:(eC ({g with nm:=.str "broken",cl:=true}:Sg).p ({g with nm:=.str "broken",cl:=true}:Sg).hs)=eC g.p g.hs:=rfl
    rw [h4] at h3
    omega
   generalize (upd H4 du (HO.lst ds))=H5 at tq ⊢
   have told:∀{H6:Hp} {fl:Addr} {lt:List V},TellQ CLb CS CH CW K H6 g es du ds->Paired (LtAt K H6 []) (g.ws++es) lt->Paired (λx y=>EqIs K 3 H6 x y true) (lt.drop g.ws.length) ds:=λ{H6 fl lt} ⟨_,_,ws',p1,p2⟩ pl=>by
    have z:=dY g.ws.length pl
    rw [List.drop_left] at z
    exact pL z p1 p2
   refine ⟨_,rfl,by decide,by decide,?_⟩
   refine kX (n:=5) (λi σ H'=>∃y7,σ=[some (.ref g.A.l),some (.ref g.h.l),some (.ref g.A.na),some (.str (mS false)),some (.ref hl),some (.int (g.ws.length:Nat)),some (.ref du),y7]/\TellQ CLb CS CH CW K H' g es du ds) ⟨none,rfl,tq⟩ ?_ ?_
   ·rintro i σ H6 hi ⟨y7,rfl,tq6⟩
    have lg6:=tq6.1
    refine ⟨_,rfl,g.h.l,g.h.dx,_,rfl,lg6.sh.ins,eT (by decide +kernel),g.S,g.h,g.d,[],_,g.v,rfl,lg6.sh,en,(by rw [List.length_append];omega),λfl lt H7 s7 nfl hfl pl=>?_⟩
    rw [en] at pl
    have ll:(g.ws++es).length=lt.length:=pl.len
    rw [List.length_append] at ll
    refine ⟨_,rfl,_,rfl,fl,_,rfl,SqL.of hfl,λc2 hc2=>?_⟩
    rw [ka lt g.ws.length (by omega)] at *
    have s8:=ai (o:=.lst (lt.drop g.ws.length)) hc2
    have tq8:=(tq6.keep s7).keep s8
    refine ⟨_,rfl,c2,du,_,ds,rfl,rfl,SqL.of ae,SqL.of tq8.2.1,told (fl:=fl) tq8 (Paired.mapP pl λ_ _ z=>LtAt.keep s8.ts z),_,rfl,aJ ?_⟩
    refine ⟨_,rfl,g.A.l,g.A.dx,_,rfl,tq8.1.ld.ins,aQ (by decide +kernel),_,rfl,{g with nm:=.str "broken",cl:=true,ws:=g.ws++es},rfl,tq8.1,.inl ⟨rfl,(λz=>by cases z),rfl,rfl,_,rfl,aJ ?_⟩⟩
    exact ⟨_,rfl,tq8⟩
   ·rintro σ H6 ⟨y7,rfl,tq6⟩
    have lg6:=tq6.1
    refine ⟨_,rfl,g.h.l,g.h.dx,_,rfl,lg6.sh.ins,eT (by decide +kernel),g.S,g.h,g.d,[],_,g.v,rfl,lg6.sh,en,(by rw [List.length_append];omega),λfl lt H7 s7 nfl hfl pl=>?_⟩
    rw [en] at pl
    have ll:(g.ws++es).length=lt.length:=pl.len
    rw [List.length_append] at ll
    refine ⟨_,rfl,_,rfl,fl,_,rfl,SqL.of hfl,λc2 hc2=>?_⟩
    rw [ka lt g.ws.length (by omega)] at *
    have s8:=ai (o:=.lst (lt.drop g.ws.length)) hc2
    have tq8:=(tq6.keep s7).keep s8
    refine ⟨_,rfl,c2,du,_,ds,rfl,rfl,SqL.of ae,SqL.of tq8.2.1,told (fl:=fl) tq8 (Paired.mapP pl λ_ _ z=>LtAt.keep s8.ts z),_,rfl,bu ?_⟩
    refine ⟨_,rfl,g.h.l,g.h.dx,_,rfl,tq8.1.sh.ins,eT (by decide +kernel),g.S,g.h,g.d,[],_,g.v,rfl,tq8.1.sh,λrl H9 s9 nrl hrl=>⟨(by show 0<=sizeLine;decide),λe5 he5=>⟨rl,e5,_,rfl,rfl,SqL.of (ai he5 _ _ hrl),SqL.of ae,?_⟩⟩⟩
    exact q _
variable {CH:Addr}{CLb:Bool->Addr}{b:Bool}
theorem i8{H:Hp}{g:Sg}(lg:Lg b CL CS CH CW K H g){l:Addr}(nl:H l=none):l∉gJ g.A g.ag g.S g.h:=λhb=>by
 rcases List.mem_cons.mp hb with z | hb
 ·rw [z,lg.ld.ins] at nl;cases nl
 rcases List.mem_cons.mp hb with z | hb
 ·rw [z,lg.ld.han] at nl;cases nl
 rcases List.mem_cons.mp hb with z | hb
 ·rw [z,lg.agr] at nl;cases nl
 obtain ⟨o,e1,_⟩:=lg.sh.own hb
 rw [nl] at e1
 cases e1
structure JP(b:Bool)(CL CS CH:Addr)(CW:Wd->Addr)(K:PySem.W.Frag)(H:Hp)(g:Sg)(sl nl hl:Addr)(us cs:List V):Prop where
 lg:Lg b CL CS CH CW K H g
 hz:H sl=some (.lst us)
 nz:sl∉gJ g.A g.ag g.S g.h
 st:Paired (StT b H) g.xs us
 hn:H nl=some (.lst cs)
 nn:nl∉gJ g.A g.ag g.S g.h
 hh:H hl=some (.lst (g.hs.map V.int))
 nh:hl∉gJ g.A g.ag g.S g.h
 ok:OkG g
 ng:NoG b g
 en:g.d.ends=[]
 hi:HsIs g.xs g.hs
section
variable {H H':Hp}{g:Sg}{sl nl hl:Addr}{us cs:List V}
theorem JP.ts(j:JP b CL CS CH CW K H g sl nl hl us cs)(k:KpG g H H'):bJ H H':=LSh.ts j.lg k
theorem JP.to(j:JP b CL CS CH CW K H g sl nl hl us cs)(k:KpG g H H'){ys:List Int}{tn:Int}{nm:V}{as:List Int}{ws:List Ws}(lg:Lg b CL CS CH CW K H' {g with ys:=ys,tn:=tn,nm:=nm,as:=as,ws:=ws})(h0:0<=ba ys):JP b CL CS CH CW K H' {g with ys:=ys,tn:=tn,nm:=nm,as:=as,ws:=ws} sl nl hl us cs :=
 ⟨lg,k _ _ j.nz j.hz,j.nz,Paired.mapP j.st λ_ _ z=>z.keep (j.ts k),k _ _ j.nn j.hn,j.nn,k _ _ j.nh j.hh,j.nh,⟨j.ok.1,h0⟩,j.ng,j.en,j.hi⟩
theorem JP.keep(j:JP b CL CS CH CW K H g sl nl hl us cs)(s:Same H H'):JP b CL CS CH CW K H' g sl nl hl us cs:=j.to (KpA.of s) (j.lg.keep s) j.ok.2
end
def Stb(g:Sg):Prop:=aX g.xs g.ys≠.non\/g.xs.length<=g.ys.length
def Ph(b:Bool)(H:Hp)(g:Sg)(sd:Bool)(m:Nat):Prop :=
 (g.ys.length<g.xs.length/\g.as=[]/\sd=false/\m=1/\∃w0 x n t,g.ws=w0++[(n,wdB b,g.A.na,t)]/\g.xs[g.ys.length]?=some x/\aL x.1 x.2=.int n/\H t=some (.tup [.int (g.ys.length:Nat),.int (ba g.ys),.str (sx x)])) \/
 (b=false/\g.ys.length=g.xs.length/\∃hd tl w0,g.hs=hd::tl/\(
  (g.as=[]/\sd=false/\m=tl.length+1/\g.ws=w0++cz g.A.na g.A.ho (hd::tl)) \/
  (tl≠[]/\(∀n,n∈g.as↔n=hd)/\sd=true/\m=tl.length+1/\g.ws=w0++cz g.A.na g.A.ho (hd::tl)) \/
  (tl≠[]/\(∀n,n∈g.as↔n=hd)/\sd=false/\m=tl.length/\g.ws=w0++cz g.A.na g.A.ho tl)))
theorem Ph.keep{H H':Hp}{g:Sg}{sd:Bool}{m:Nat}(s:bJ H H')(h:Ph b H g sd m):Ph b H' g sd m:=h.imp (λ⟨a,c,d,e,w0,x,n,t,h1,h2,h3,h4⟩=>⟨a,c,d,e,w0,x,n,t,h1,h2,h3,s _ _ h4⟩) id
theorem Ph.few{H:Hp}{g:Sg}{sd:Bool}{m:Nat}(h:Ph b H g sd m):1<=m/\m<=g.ws.length:=by
 rcases h with ⟨_,_,_,rfl,w0,x,n,t,ew,_⟩ | ⟨_,_,hd,tl,w0,_,⟨_,_,rfl,ew⟩ | ⟨_,_,_,rfl,ew⟩ | ⟨ne,_,_,rfl,ew⟩⟩
 ·rw [ew,List.length_append]
  exact ⟨Nat.le_refl _,Nat.le_add_left _ _⟩
 ·rw [ew,List.length_append]
  unfold cz
  rw [List.length_map]
  exact ⟨Nat.succ_le_succ (Nat.zero_le _),Nat.le_add_left _ _⟩
 ·rw [ew,List.length_append]
  unfold cz
  rw [List.length_map]
  exact ⟨Nat.succ_le_succ (Nat.zero_le _),Nat.le_add_left _ _⟩
 ·rw [ew,List.length_append]
  unfold cz
  rw [List.length_map]
  exact ⟨List.length_pos_iff.mpr ne,Nat.le_add_left _ _⟩
structure Md(b:Bool)(H:Hp)(g:Sg)(t:Nat)(sd:Bool)(m i:Nat):Prop where
 stb:Stb g
 en:g.nm=.non
 ec:g.cl=false
 et:g.tn=(t:Nat)
 t3:t<=3
 lw:g.ws.length<=20+13*i
 la:g.as.length<=i
 ph:Ph b H g sd m
theorem Md.keep{H H':Hp}{g:Sg}{t:Nat}{sd:Bool}{m i:Nat}(s:bJ H H')(h:Md b H g t sd m i):Md b H' g t sd m i:=⟨h.stb,h.en,h.ec,h.et,h.t3,h.lw,h.la,h.ph.keep s⟩
theorem yL(hs:List Int):fL hs []=hs:=by
 unfold fL
 exact List.filter_eq_self.mpr λn _=>by simp
theorem xj{hd:Int}{tl as:List Int}(nd:(hd::tl).Nodup)(h:∀n,n∈as↔n=hd):fL (hd::tl) as=tl:=by
 unfold fL
 rw [List.filter_cons,if_neg (by simpa using (h hd).mpr rfl)]
 exact List.filter_eq_self.mpr λn hn=>by
  have:n≠hd:=λz=>(List.nodup_cons.mp nd).1 (z▸hn)
  simpa using λz=>this ((h n).mp z)
theorem zT{na ho:Addr}{hd:Int}{tl:List Int}(nd:(hd::tl).Nodup):flt true hd (cz na ho (hd::tl))=cz na ho tl:=by
 show (cz na ho (hd::tl)).filter (λx=>!decide (V.int x.1=V.int hd))=cz na ho tl
 unfold cz
 rw [List.map_cons,List.filter_cons,if_neg (by simp)]
 refine List.filter_eq_self.mpr λx hx=>?_
 obtain ⟨n,hn,rfl⟩:=List.mem_map.mp hx
 have:n≠hd:=λz=>(List.nodup_cons.mp nd).1 (z▸hn)
 simpa using this
theorem iw{α:Type}(xs ys:List α)(m:Nat)(h:ys.length=m):(xs++ys).drop ((xs++ys).length-m)=ys:=by
 rw [List.length_append,h,Nat.add_sub_cancel,List.drop_left]
theorem turned{H:Hp}{g:Sg}{sl nl hl:Addr}{us cs:List V}{t:Nat}{sd:Bool}{m i:Nat}{Q:V->Hp->Prop}(j:JP b CL CS CH CW K H g sl nl hl us cs)(md:Md b H g t sd m i)(hi:i<60)(t4:t+1≠4)
  (q:∀hd tl es H',g.hs=hd::tl->Lg b CL CS CH CW K H' {g with tn:=g.tn+1,ws:=g.ws++es}->KpG g H H'->Paired (EqW H') es (flt sd hd (g.ws.drop (g.ws.length-m)))->Ph b H' {g with tn:=g.tn+1,ws:=g.ws++es} false es.length->es.length<=12->Q .non H')(h1:g.hs≠[]):TuQ b CL CS CH CW K H g Q:=by
 have stb:=md.stb
 have lw:=md.lw
 have ar:=j.lg.ld.ar
 have l12:=j.lg.hl
 obtain ⟨hd,tl,ehs⟩:∃hd tl,g.hs=hd::tl:=by
  cases e:g.hs with
  | nil=>exact absurd e h1
  | cons a r=>exact ⟨a,r,rfl⟩
 have ndh:(hd::tl).Nodup:=by rw [← ehs];exact j.hi.1
 refine .inr (.inl ⟨md.ec,md.en,by rw [md.et];omega,λH1 lg1 k1=>⟨j.ok,j.ng,λH2 lg2 k2=>?_⟩⟩)
 have eo2:({g with tn:=g.tn+1}:Sg).own={g with tn:=g.tn+1}:=xz (g:={g with tn:=g.tn+1}) stb
 rw [eo2] at lg2 ⊢
 have k02:KpG g H H2:=k1.trans k2
 have ts2:=j.ts k02
 rcases md.ph with ⟨lt,ea,rfl,rfl,w0,x,n,tt,ew,ex,hv,ht⟩ | ⟨eb,el,hd',tl',w0,ehs',ph⟩
 ·refine .inl ⟨x,n,ex,hv,by show g.ws.length<=900;omega,λt' H3 lg3 ht3 k3=>?_⟩
  have k03:KpG g H H3:=k02.trans k3
  refine q hd tl [(n,wdB b,g.A.na,t')] H3 ehs lg3 k03 ?_ (.inl ⟨lt,ea,rfl,rfl,g.ws,x,n,t',rfl,ex,hv,ht3⟩) (by show 1<=12;decide)
  show Paired (EqW H3) _ (g.ws.drop (g.ws.length-1))
  rw [ew,iw _ _ 1 rfl]
  exact .cons ⟨rfl,rfl,rfl,.inr (.inl ⟨_,_,_,ht3,j.ts k03 _ _ ht⟩)⟩ .nil
 ·rw [ehs] at ehs'
  cases ehs'
  have go:∀ns,fL (hd::tl) g.as=ns->ns≠[]->ns.length<=12->Paired (EqW H2) (cz g.A.na g.A.ho ns) (flt sd hd (g.ws.drop (g.ws.length-m)))->(∀(H3:Hp) (w:List Ws),w=g.ws->Ph b H3 {g with tn:=g.tn+1,ws:=w++cz g.A.na g.A.ho ns} false ns.length)->GoQ b CL CS CH CW K H2 {g with tn:=g.tn+1} Q:=λns es ne ln pe ph'=>by
   have es':({g with tn:=g.tn+1}:Sg).sil=ns:=by show fL g.hs g.as=ns;rw [ehs,es]
   refine .inr ⟨el,.inl ⟨eb,by rw [es'];exact ne,by show g.ws.length<=880;omega,λH3 lg3 k3=>?_⟩⟩
   rw [es'] at lg3
   have k23:KpG g H2 H3:=k3
   have tsr:bJ H2 H3:=LSh.ts (j.to k02 (tn:=g.tn+1) (ys:=g.ys) (nm:=g.nm) (as:=g.as) (ws:=g.ws) lg2 j.ok.2).lg k23
   refine q hd tl (cz g.A.na g.A.ho ns) H3 ehs lg3 (k02.trans k23) (Paired.mapP pe λ_ _ z=>z.keep tsr) ?_ ?_
   ·have:=ph' H3 g.ws rfl
    unfold cz at *
    rw [List.length_map]
    exact this
   ·unfold cz
    rw [List.length_map]
    exact ln
  rw [ehs] at l12
  have l13:tl.length+1<=12:=l12
  rcases ph with ⟨ea,rfl,rfl,ew⟩ | ⟨ne,ha,rfl,rfl,ew⟩ | ⟨ne,ha,rfl,rfl,ew⟩
  ·refine go (hd::tl) (by rw [ea];exact yL _) (λz=>by cases z) l13 ?_ (λH3 w ew'=>.inr ⟨eb,el,hd,tl,w,ehs,.inl ⟨ea,rfl,rfl,rfl⟩⟩)
   show Paired (EqW H2) _ (g.ws.drop (g.ws.length-(tl.length+1)))
   rw [ew,iw _ _ _ (by unfold cz;rw [List.length_map];rfl)]
   exact jA _
  ·refine go tl (xj ndh ha) ne (by omega) ?_ (λH3 w ew'=>.inr ⟨eb,el,hd,tl,w,ehs,.inr (.inr ⟨ne,ha,rfl,rfl,rfl⟩)⟩)
   rw [ew,iw _ _ _ (by unfold cz;rw [List.length_map];rfl),zT ndh]
   exact jA _
  ·refine go tl (xj ndh ha) ne (by omega) ?_ (λH3 w ew'=>.inr ⟨eb,el,hd,tl,w,ehs,.inr (.inr ⟨ne,ha,rfl,rfl,rfl⟩)⟩)
   show Paired (EqW H2) _ (g.ws.drop (g.ws.length-tl.length))
   rw [ew,iw _ _ _ (by unfold cz;rw [List.length_map])]
   exact jA _
theorem uR{H:Hp}{g:Sg}{sl nl hl:Addr}{us cs:List V}{r:Int}{i:Nat}{Q:V->Hp->Prop}{H0:Hp}(j:JP b CL CS CH CW K H0 g sl nl hl us cs)(k0:KpG g H0 H)(en:g.nm=.non)(ea:g.as=[])(lt:g.ys.length<g.xs.length)(lw:g.ws.length<=800)(r0:0<=r)(h1:g.hs≠[])
  (q1:∀es H',Lg b CL CS CH CW K H' {g with ys:=own g.xs (g.ys++[r]),ws:=g.ws++es}->KpG g H0 H'->Ph b H' {g with ys:=own g.xs (g.ys++[r]),ws:=g.ws++es} false es.length->es.length<=12->Q .non H')
  (q2:b=true->(own g.xs (g.ys++[r])).length=g.xs.length->∀H',Lg b CL CS CH CW K H' {g with ys:=own g.xs (g.ys++[r]),nm:=.str "done"}->KpG g H0 H'->Q (.str "done") H'):GgQ b CL CS CH CW K H {g with ys:=g.ys++[r]} Q:=by
 have ar:=j.lg.ld.ar
 have l12:=j.lg.hl
 have e1:(g.ys++[r]).length=g.ys.length+1:=by rw [List.length_append];rfl
 have p0:0<=ba (g.ys++[r]):=by rw [gl];exact r0
 have lY:(own g.xs (g.ys++[r])).length<=g.xs.length:=vz (by omega)
 have eY:=mi g.xs (g.ys++[r])
 refine ⟨⟨j.ok.1,p0⟩,j.ng,λH1 lg1 k1=>?_⟩
 have k01:KpG g H0 H1:=k0.trans k1
 by_cases e:(own g.xs (g.ys++[r])).length=g.xs.length
 ·refine .inr ⟨e,?_⟩
  cases b with
  | true=>exact .inr ⟨rfl,λH2 lg2 k2=>q2 rfl e H2 lg2 (k01.trans k2)⟩
  | false =>
   obtain ⟨hd,tl,ehs⟩:∃hd tl,g.hs=hd::tl:=by
    cases e:g.hs with
    | nil=>exact absurd e h1
    | cons a r=>exact ⟨a,r,rfl⟩
   have es':({g with ys:=g.ys++[r]}:Sg).own.sil=g.hs:=by show fL g.hs g.as=g.hs;rw [ea,yL]
   refine .inl ⟨rfl,by rw [es'];exact h1,by show g.ws.length<=880;omega,λH2 lg2 k2=>?_⟩
   rw [es'] at lg2
   refine q1 (cz g.A.na g.A.ho g.hs) H2 lg2 (k01.trans k2) (.inr ⟨rfl,e,hd,tl,g.ws,ehs,.inl ⟨ea,rfl,?_,?_⟩⟩) ?_
   ·unfold cz
    rw [List.length_map,ehs]
    rfl
   ·rw [← ehs]
   ·unfold cz
    rw [List.length_map]
    exact l12
 ·obtain ⟨x,nn,ex,hv⟩:=nY ar eY (by omega)
  refine .inl ⟨x,nn,ex,hv,by show g.ws.length<=900;omega,λt' H2 lg2 ht2 k2=>?_⟩
  exact q1 [(nn,wdB b,g.A.na,t')] H2 lg2 (k01.trans k2) (.inl ⟨by show (own g.xs (g.ys++[r])).length<g.xs.length;omega,ea,rfl,rfl,g.ws,x,nn,t',rfl,ex,hv,ht2⟩) (by show 1<=12;decide)
abbrev s43(b:Bool)(g:Sg)(sl nl hl:Addr)(a t:Nat)(sd:Bool)(m:Nat)(y11 y12 y13 y14 y15 y16:Option V):L2.St:=[some (.ref g.A.l),some (.ref g.h.l),some (.ref g.A.na),some (.str (mS b)),some (.ref sl),some (.ref nl),some (.ref hl),some (.int ((a:Nat):Int)),some (.int ((t:Nat):Int)),some (.bl sd),some (.int ((m:Nat):Int)),y11,y12,y13,y14,y15,y16]
section
variable (CLb:Bool->Addr)(CS CH:Addr)(CW:Wd->Addr)(K:PySem.W.Frag)
def Pv(b:Bool)(sl nl hl:Addr)(us cs:List V)(i:Nat)(σ:L2.St)(H:Hp):Prop:=∃y11 y12 y13 y14 y15 y16 g t sd m,σ=s43 b g sl nl hl g.ys.length t sd m y11 y12 y13 y14 y15 y16/\JP b (CLb b) CS CH CW K H g sl nl hl us cs/\Md b H g t sd m i/\g.hs≠[]
def uA(k:Nat):TS:=λD σ H=>∃b sl nl hl us cs i y13 y14 y15 y16 g t sd m n,σ=s43 b g sl nl hl g.ys.length t sd m (some (.int n)) (some (.int ((g.ws.length:Nat):Int))) y13 y14 y15 y16/\JP b (CLb b) CS CH CW K H g sl nl hl us cs/\Md b H g t sd m i/\g.hs≠[]/\i<60/\(1<=k->n%3≠0)/\(2<=k->g.ys.length=g.xs.length)/\(∀σ' H',Pv CLb CS CH CW K b sl nl hl us cs (i+1) σ' H'->D.nx σ' H')/\∀H',D.rt (.bl true) H'
def uE:TS:=λD σ H=>∃b sl nl hl us cs i y13 y15 g ys nm es t sd m n r o f,σ=s43 b g sl nl hl (g:Sg).ys.length t sd m (some (.int n)) (some (.int ((g.ws.length:Nat):Int))) y13 (some f) y15 (some (.int o))/\JP b (CLb b) CS CH CW K H {g with ys:=ys,nm:=nm,ws:=g.ws++es} sl nl hl us cs/\g.hs≠[]/\i<60/\g.ws.length<=20+13*i/\es.length<=12 /\
 ((o=1/\f=.non/\ys=g.ys/\nm=g.nm/\es=[]/\Md b H g t sd m i)\/(o=0/\sd=false/\g.ys.length<g.xs.length/\ys=own g.xs (g.ys++[r])/\g.cl=false/\g.tn=((t:Nat):Int)/\t<=3/\g.as=[]/\((f=.non/\nm=.non/\Ph b H {g with ys:=ys,nm:=nm,ws:=g.ws++es} false es.length)\/(f=.str "done"/\b=true/\ys.length=g.xs.length)))) /\
 (∀σ' H',Pv CLb CS CH CW K b sl nl hl us cs (i+1) σ' H'->D.nx σ' H')/\∀H',D.rt (.bl true) H'
def uD:TS:=λD σ H=>∃b sl nl hl us cs i y13 y15 y16 g t sd m n s f,σ=s43 b g sl nl hl g.ys.length t sd m (some (.int n)) (some (.int s)) y13 (some f) y15 y16/\JP b (CLb b) CS CH CW K H g sl nl hl us cs/\((f=.non/\Md b H g t sd m (i+1)/\g.hs≠[])\/(f=.str "done"/\b=true/\g.ys.length=g.xs.length)) /\
 (∀σ' H',Pv CLb CS CH CW K b sl nl hl us cs (i+1) σ' H'->D.nx σ' H')/\∀H',D.rt (.bl true) H'
def xi:Sp:=λvs H Q _=>∃b g sl nl us cs,vs=[.ref (g:Sg).A.l,.ref g.h.l,.ref g.A.na,.str (mS b),.ref sl,.ref nl]/\Lg b (CLb b) CS CH CW K H g/\H sl=some (.lst us)/\sl∉gJ g.A g.ag g.S g.h/\Paired (StT b H) g.xs us/\H nl=some (.lst ((cs:List Int).map V.int))/\nl∉gJ g.A g.ag g.S g.h/\cs.length<=50/\OkG g/\NoG b g/\g.d.ends=[]/\HsIs g.xs g.hs/\g.hs≠[]/\g.ys=own g.xs []/\g.ws.length=1/\Md b H g 0 false 1 0/\∀H',Q (.bl true) H'
end
variable {CH:Addr}{CLb:Bool->Addr}{b:Bool}
theorem zr(b:Bool):atI ([.str "did",.str "went"]:List V) (if decide (V.str (mS b)=V.str (Str.ofString "walked"))=true then 1 else 0)=some (.str (anB b)):=by
 cases b with
 | true=>rw [decide_eq_true (show V.str (mS true)=V.str (Str.ofString "walked") from rfl)];rfl
 | false=>rw [decide_eq_false (λz=>absurd (V.str.inj z) (by decide +kernel))];rfl
theorem yZ(F:Fun K "_law_played" "_law_played" eB f fd)(B:TxB mg)(T:∀b,TxC K CW (CLb b) CH)(DH:TxH K CH)
  (GHs:GF P w K mg base CX0 1 "_law_houses" ["_law_steps"] (p5 K))(GNx:GF P w K mg base CX0 1 "_law_next" ["_law_steps","_law_at"] (se K))(GDu:GF P w K mg base CX0 3 "_law_due" ["_law_sheet","_law_many","_law_first","_law_said"] (su CS CH K))(GEn:GF P w K mg base CX0 9 "_law_ended" ["_law_lead","_law_sheet","_law_name","_law_manner","_law_houses_here"] (lP CLb CS CH CW K))
  (GLT:GM P w K mg base CX0 2 CH "letters_told" ["self"] (hZ CS CH K))(GT:∀b,GM P w K mg base CX0 8 (CLb b) "turn" ["self","sheet"] (gw b (CLb b) CS CH CW K))(GC:∀b,GM P w K mg base CX0 8 (CLb b) "came" ["self","sheet","word","sender","more"] (iI b (CLb b) CS CH CW K)) :
  FnOk P w K mg base CX0 10 f fd ["_law_lead","_law_sheet","_law_name","_law_manner","_law_steps","_law_numbers"] (xi CLb CS CH CW K):=by
 refine F.ok sc__law_played (λvs H Q E h=>?_) (λcdv A outer s H vs Q E hr h=>?_)
 ·obtain ⟨b,g,sl,nl,us,cs,rfl,_⟩:=h
  rfl
 obtain ⟨b,g,sl,nl,us,cs,rfl,lg,hsl,nsl,px,hnl,nnl,lc,ok,ng,en,hi,h1,ey,lw1,md0,q⟩:=h
 have nd:=sc__law_played.nd
 refine ⟨_,ac (aD (i:=6) nd rfl (Or.inl rfl) (pc GHs hr (aa (pv 4) ad)))
  (ac (aD (i:=7) nd rfl (Or.inl rfl) (pc GNx hr (aa (pv 4) (aa aj ad))))
  (ac (aD (i:=8) nd rfl (Or.inl rfl) aj)
  (ac (aD (i:=9) nd rfl (Or.inl rfl) dX)
  (ac (aD (i:=10) nd rfl (Or.inl rfl) (aw az rfl B.len PySem.boot_len (aa (pm0 GLT (pv 1) DH.cl hr) ad)))
  (ac (jR PassesOwn.never rfl (dU (pv 5)) (fg (i:=11) nd rfl (Or.inl rfl))
   (ac (aD (i:=12) nd rfl (Or.inl rfl) (aw az rfl B.len PySem.boot_len (aa (pm0 GLT (pv 1) DH.cl hr) ad)))
   (cZ (uA CLb CS CH CW K 0) (af (aC (am aR (aE cJ (pv 11) aj) aj (ap _))
    (ac (aD (i:=8) nd rfl (Or.inl rfl) (aE eE (pv 8) aj))
    (ac (aD (i:=13) nd rfl (Or.inl rfl) (pc GDu hr (aa (pv 1) (aa (pv 10) (aa (aI (r:=cY K) aN (pv 6) aj (λ_ _=>rfl)) (aa (pv 9) ad))))))
    (ac (aD (i:=14) nd rfl (Or.inl rfl) (f6 λb=>pm (GT b) (pv 0) (T b).t.cl hr (aa (pv 1) ad)))
    (ac (aC (am aR (pv 8) aj (ap _)) (af (ao (f7 (bL aR (pv 14) aA (ap _)) (f7 (bL aR (aw az rfl B.len PySem.boot_len (aa (pm0 GLT (pv 1) DH.cl hr) ad)) (pv 12) (ap _)) (gX (pc GEn hr (aa (pv 0) (aa (pv 1) (aa (pv 2) (aa (pv 3) (aa (pv 6) ad))))))))))) au)
    (ac (aC (PW.pt (ij (am cm (pv 14) aO (ap _)) (gW (am (qe 3 (hun (c:=3) hr)) (dD h9 (pm0 GLT (pv 1) DH.cl hr) (cT (pv 12)) jv) (pv 13) (ap _))))) aB au)
    (ac (aD (i:=10) nd rfl (Or.inl rfl) (aw az rfl B.len PySem.boot_len (aa (pv 13) ad)))
    (af (aD (i:=9) nd rfl (Or.inl rfl) dX))))))))
    (cZ (uA CLb CS CH CW K 1) (af (aC (am jV (pv 7) (aw az rfl B.len PySem.boot_len (aa (pv 4) ad)) (ap _))
     (ac (aD (i:=15) nd rfl (Or.inl rfl) (aI (r:=cY K) aN (bU (aa aA (aa aA ad))) (aF ly rfl B.int PyProof.Rows.boot_int (aa (bL aR (pv 3) aA (ap _)) ad)) (λ_ _=>rfl)))
     (ac (aD (i:=16) nd rfl (Or.inl rfl) (aF ly rfl B.int PyProof.Rows.boot_int (aa (bL aR (aE cJ (pv 11) aj) aj (ap _)) ad)))
     (ac (aD (i:=14) nd rfl (Or.inl rfl) (f6 λb=>pm (GC b) (pv 0) (T b).t.cl hr (aa (pv 1) (aa (pv 15) (aa (aI (r:=dt K) bj (aI (r:=cY K) aN (pv 4) (pv 7) (λ_ _=>rfl)) aj (λ_ _=>rfl)) (aa (bi (aa (aE eE (pv 7) (pv 16)) (aa (aE cJ (aE d0 (pv 11) aj) (aE jU aj aj)) ad))) ad))))))
     (cZ (uE CLb CS CH CW K) (ac (aC (am aR (pv 16) aj (ap _)) (ac (aD (i:=7) nd rfl (Or.inl rfl) (pc GNx hr (aa (pv 4) (aa (aE eE (pv 7) aj) ad)))) (af (aD (i:=10) nd rfl (Or.inl rfl) (aE o9 (aw az rfl B.len PySem.boot_len (aa (pm0 GLT (pv 1) DH.cl hr) ad)) (pv 12))))) au)
      (cZ (uD CLb CS CH CW K) (af (aC (am cm (pv 14) aO (ap _)) (af (ao (f7 (bL aR (pv 3) aA (ap _)) (f7 (bL aR (pv 14) aA (ap _)) (gX (bL aR (pv 7) (aw az rfl B.len PySem.boot_len (aa (pv 4) ad)) (ap _))))))) au)) ?vD)) ?vE))))
     (cZ (uA CLb CS CH CW K 2) (af (aC (PW.pt (da (am jd (aw az rfl B.len PySem.boot_len (aa (pv 6) ad)) aj (ap _)) (cS (am aR (aw az rfl B.len PySem.boot_len (aa (pv 6) ad)) (pv 10) (ap _)))))
      (ac (aD (i:=9) nd rfl (Or.inl rfl) dX)
      (af (aC (am cm (f6 λb=>pm (GC b) (pv 0) (T b).t.cl hr (aa (pv 1) (aa aA (aa (aI (r:=cY K) aN (pv 6) aj (λ_ _=>rfl)) (aa (bi ad) ad))))) aO (ap _)) aB au))) au)) ?vC))) ?vB))) ?vA)))
  (af (ao dX))))))),?_⟩
 case vA =>
  rintro D0 σ H ⟨b,sl,nl,hl,us,cs,i,y13,y14,y15,y16,g,t,sd,m,n,rfl,j,md,h1,hi,_,_,nx,q⟩
  have lw:=md.lw
  obtain ⟨m1,ml⟩:=md.ph.few
  refine ⟨_,rfl,_,_,rfl,rfl,(by show (0:Int)<3;decide),rfl,_,rfl,bx (λ_=>?_) (λc=>⟨b,sl,nl,hl,us,cs,i,_,_,_,_,g,t,sd,m,n,rfl,j,md,h1,hi,(λ_ z=>c (decide_eq_true (congrArg V.int z))),(λz=>by omega),nx,q⟩)⟩
  obtain ⟨hd,tl,ehs⟩:∃hd tl,g.hs=hd::tl:=by
   cases e:g.hs with
   | nil=>exact absurd e h1
   | cons a r=>exact ⟨a,r,rfl⟩
  have hh:=j.hh
  rw [ehs] at hh
  refine ⟨_,rfl,_,_,rfl,rfl,?_⟩
  refine ⟨_,rfl,_,rfl,_,rfl,hl,_,_,.int hd,rfl,rfl,SqL.of hh,St.at0,_,rfl,g.S,g.h,g.d,g.ws,g.v,m,hd,sd,rfl,j.lg.sh,j.en,by omega,m1,ml,λdl ds H1 s1 ndl hdl pd=>?_⟩
  have j1:=j.keep s1
  have md1:=md.keep s1.ts
  have ndo:dl∉gJ g.A g.ag g.S g.h:=i8 j.lg ndl
  refine ⟨b,_,rfl,g.A.l,g.A.dx,_,rfl,j1.lg.ld.ins,aQ (by decide +kernel),_,rfl,g,rfl,j1.lg,?_⟩
  by_cases t4:t+1=4
  ·have e4:((t:Nat):Int)+1=4:=by omega
   refine .inr (.inr ⟨md.en,by rw [md.et];exact e4,λH2 lg2 k2=>?_⟩)
   refine ⟨_,rfl,rfl,_,rfl,bx (λ_=>?_) (λc=>absurd (decide_eq_true (congrArg V.int e4)) c)⟩
   have j2:=j1.to k2 (ys:=g.ys) (tn:=g.tn+1) (nm:=.str "broken") (as:=g.as) (ws:=g.ws) lg2 j.ok.2
   refine ⟨_,rfl,rfl,_,rfl,bu ?_⟩
   refine ⟨_,rfl,g.h.l,g.h.dx,_,rfl,j2.lg.sh.ins,eT (by decide +kernel),g.S,g.h,g.d,[],g.ws,g.v,rfl,j2.lg.sh,j.en,by omega,λfl lt H3 s3 nfl hfl pl=>⟨fl,_,rfl,.inl (SqL.of hfl),_,rfl,rfl,_,rfl,?_⟩⟩
   have ll:g.ws.length=lt.length:=pl.len
   refine bx (λ_=>?_) (λc=>absurd (decide_eq_true (congrArg V.int (by rw [ll]))) c)
   have j3:=j2.keep s3
   refine ⟨_,rfl,_,rfl,_,rfl,_,rfl,_,rfl,b,{g with tn:=g.tn+1,nm:=.str "broken"},hl,rfl,j3.lg,λ_=>⟨md.ec,j3.hh,j3.nh,j3.en,by show g.ws.length<=860;omega⟩,λH'=>q H'⟩
  ·refine turned j1 md1 hi t4 (λhd' tl' es H2 ehs' lg2 k2 pe ph le=>?_) h1
   rw [ehs] at ehs'
   cases ehs'
   have j2:=j1.to k2 (ys:=g.ys) (tn:=g.tn+1) (nm:=g.nm) (as:=g.as) (ws:=g.ws++es) lg2 j.ok.2
   have hdl2:=k2 _ _ ndo hdl
   have pd2:=Paired.mapP pd λ_ _ z=>LtAt.keep (j1.ts k2) z
   refine ⟨_,rfl,rfl,_,rfl,bx (λc=>absurd (V.int.inj (of_decide_eq_true c)) (by omega)) (λ_=>?_)⟩
   refine ⟨_,rfl,rfl,_,rfl,aJ ?_⟩
   refine ⟨_,rfl,g.h.l,g.h.dx,_,rfl,j2.lg.sh.ins,eT (by decide +kernel),g.S,g.h,g.d,[],g.ws++es,g.v,rfl,j2.lg.sh,j.en,by rw [List.length_append];omega,λfl lt H3 s3 nfl hfl pl=>?_⟩
   rw [j.en] at pl
   have ll:(g.ws++es).length=lt.length:=pl.len
   rw [List.length_append] at ll
   refine ⟨_,rfl,_,rfl,fl,_,rfl,SqL.of hfl,λc2 hc2=>?_⟩
   rw [ka lt g.ws.length (by omega)] at *
   have s4:=ai (o:=.lst (lt.drop g.ws.length)) hc2
   have s34:=s3.trans s4
   have pl4:=dY g.ws.length (Paired.mapP pl λ_ _ z=>LtAt.keep s4.ts z)
   rw [List.drop_left] at pl4
   refine ⟨_,rfl,c2,dl,_,ds,rfl,rfl,SqL.of ae,SqL.of (s34 _ _ hdl2),pL pl4 (Paired.mapP pd2 λ_ _ z=>LtAt.keep s34.ts z) (Paired.mapP pe λ_ _ z=>z.keep s34.ts),_,rfl,aJ ?_⟩
   have eds:ds.length=es.length:=by
    have z1:=pe.len
    have z2:=pd.len
    omega
   refine ⟨_,rfl,dl,_,rfl,.inl (SqL.of (s34 _ _ hdl2)),?_⟩
   rw [eds]
   refine nx _ _ ⟨_,_,_,_,_,_,{g with tn:=g.tn+1,ws:=g.ws++es},t+1,false,es.length,rfl,j2.keep s34,⟨md.stb,md.en,md.ec,?_,?_,?_,Nat.le_succ_of_le md.la,ph.keep s34.ts⟩,h1⟩
   ·show g.tn+1=((t+1:Nat):Int)
    rw [md.et]
    rfl
   ·have:=md.t3
    omega
   ·show (g.ws++es).length<=_
    rw [List.length_append]
    omega
 case vB =>
  rintro D0 σ H ⟨b,sl,nl,hl,us,cs,i,y13,y14,y15,y16,g,t,sd,m,n,rfl,j,md,h1,hi,n3,_,nx,q⟩
  have lw:=md.lw
  have le:=j.lg.ld.le
  have pl:g.xs.length=us.length:=j.st.len
  have n3':=n3 (Nat.le_refl _)
  refine ⟨_,rfl,_,rfl,sl,_,rfl,.inl (SqL.of j.hz),_,_,rfl,rfl,_,rfl,bx (λc=>?_) (λc=>⟨b,sl,nl,hl,us,cs,i,_,_,_,_,g,t,sd,m,n,rfl,j,md,h1,hi,(λ_=>n3'),(λ_=>?_),nx,q⟩)⟩
  rotate_left
  ·have z:¬((g.ys.length:Nat):Int)<((us.length:Nat):Int):=λz=>c (decide_eq_true z)
   omega
  have lt:g.ys.length<g.xs.length:=by have z:=of_decide_eq_true c;omega
  obtain ⟨_,ea,esd,em,w0,x,nn,tt,ew,ex,hv,htt⟩:=md.ph.resolve_right (λz=>by have:=z.2.1;omega)
  refine ⟨(by show 2<=sizeLine;decide),λwl hwl=>?_⟩
  have s1:=ai (o:=.lst [.str "did",.str "went"]) hwl
  refine ⟨_,rfl,rfl,.inr ⟨_,rfl,wl,_,_,_,rfl,rfl,SqL.of ae,zr b,?_⟩⟩
  have j1:=j.keep s1
  have md1:=md.keep s1.ts
  generalize (upd H wl (HO.lst [.str "did",.str "went"]))=H1 at s1 j1 md1 ⊢
  refine ⟨_,rfl,_,_,rfl,rfl,(by show (0:Int)<3;decide),rfl,.inr ⟨_,rfl,?_⟩⟩
  obtain ⟨u,eu,t1,rfl,ht1,arx,_⟩:=j1.st.get1 ex
  rw [hv] at ht1
  refine ⟨b,_,rfl,g.A.l,g.A.dx,_,rfl,j1.lg.ld.ins,aQ (by decide +kernel),_,rfl,_,rfl,_,rfl,_,rfl,sl,_,_,_,rfl,rfl,SqL.of j1.hz,bv eu,t1,_,_,_,rfl,rfl,SqT.of ht1,St.at0,_,rfl,_,rfl,_,_,rfl,rfl,_,rfl,_,_,rfl,rfl,⟨by decide,by decide⟩,_,_,rfl,rfl,⟨by decide,by decide,by decide⟩,_,_,rfl,rfl,(by show (0:Int)<10 ^ 40;decide +kernel),(by show 2<=sizeLine;decide),λmm hmm=>?_⟩
  have r0:0<=n/3%(10 ^ 40:Int):=Int.emod_nonneg _ (by decide +kernel)
  obtain ⟨r,er⟩:∃r,n/3%(10 ^ 40:Int)=r:=⟨_,rfl⟩
  by_cases c2:n%3=2
  ·have eo:(if decide (V.int (n%3)=V.int 2)=true then (1:Int) else 0)=1:=by rw [decide_eq_true (congrArg V.int c2)];rfl
   rw [eo] at *
   have s2:=ai (o:=.tup [.int (((g.ys.length:Nat):Int)+1),.int (n/3%10 ^ 40)]) hmm
   have j2:=j1.keep s2
   refine ⟨g,_,nn,mm,rfl,j2.lg,md.en,md.ec,.inl ⟨rfl,_,_,ae,.inr ⟨λz=>by have z1:((g.ys.length:Nat):Int)+1=((g.ys.length:Nat):Int):=z.1;omega,?_⟩⟩⟩
   have e0:({g with ys:=g.ys,nm:=g.nm,ws:=g.ws++[]}:Sg)=g:=by rw [List.append_nil]
   exact ⟨b,sl,nl,hl,us,cs,i,_,_,g,g.ys,g.nm,[],t,sd,m,n,0,1,.non,rfl,by rw [e0];exact j2,h1,hi,lw,Nat.zero_le _,.inl ⟨rfl,rfl,rfl,rfl,rfl,md1.keep s2.ts⟩,nx,q⟩
  ·have eo:(if decide (V.int (n%3)=V.int 2)=true then (1:Int) else 0)=0:=by rw [decide_eq_false (λz=>c2 (V.int.inj z))];rfl
   rw [eo] at *
   have s2:=ai (o:=.tup [.int (((g.ys.length:Nat):Int)+0),.int (n/3%10 ^ 40)]) hmm
   have j2:=j1.keep s2
   refine ⟨g,_,nn,mm,rfl,j2.lg,md.en,md.ec,.inl ⟨rfl,_,n/3%10 ^ 40,ae,.inl ⟨Int.add_zero _,md.stb.resolve_right (by omega),λH3 lg3 k3=>?_⟩⟩⟩
   subst esd
   refine uR (i:=i) j2 k3 md.en ea lt (by omega) r0 h1 (λes H4 lg4 k4 ph le4=>?_) (λeb el H4 lg4 k4=>?_)
   ·refine ⟨b,sl,nl,hl,us,cs,i,_,_,g,own g.xs (g.ys++[n/3%10 ^ 40]),.non,es,t,false,m,n,n/3%10 ^ 40,0,.non,rfl,?_,h1,hi,lw,le4,.inr ⟨rfl,rfl,lt,rfl,md.ec,md.et,md.t3,ea,.inl ⟨rfl,rfl,?_⟩⟩,nx,q⟩
    ·have z:=j2.to k4 (ys:=own g.xs (g.ys++[n/3%10 ^ 40])) (tn:=g.tn) (nm:=g.nm) (as:=g.as) (ws:=g.ws++es) lg4 (mf j.ok.1 (by rw [gl];exact r0))
     rw [md.en] at z
     exact z
    ·rw [md.en] at ph
     exact ph
   ·have e0:g.ws++[]=g.ws:=List.append_nil _
    refine ⟨b,sl,nl,hl,us,cs,i,_,_,g,own g.xs (g.ys++[n/3%10 ^ 40]),.str "done",[],t,false,m,n,n/3%10 ^ 40,0,.str "done",rfl,?_,h1,hi,lw,Nat.zero_le _,.inr ⟨rfl,rfl,lt,rfl,md.ec,md.et,md.t3,ea,.inr ⟨rfl,eb,el⟩⟩,nx,q⟩
    rw [e0]
    exact j2.to k4 (ys:=own g.xs (g.ys++[n/3%10 ^ 40])) (tn:=g.tn) (nm:=.str "done") (as:=g.as) (ws:=g.ws) lg4 (mf j.ok.1 (by rw [gl];exact r0))
 case vE =>
  rintro D0 σ H ⟨b,sl,nl,hl,us,cs,i,y13,y15,g,ys,nm,es,t,sd,m,n,r,o,f,rfl,j,h1,hi,lw,les,hc,nx,q⟩
  rcases hc with ⟨rfl,rfl,rfl,rfl,rfl,md⟩ | ⟨rfl,rfl,lt,rfl,ec,et,t3,ea,hf⟩
  ·refine ⟨_,rfl,rfl,_,rfl,bx (λc=>absurd (V.int.inj (of_decide_eq_true c)) (by decide)) (λ_=>?_)⟩
   have e0:({g with ys:=g.ys,nm:=g.nm,ws:=g.ws++[]}:Sg)=g:=by rw [List.append_nil]
   rw [e0] at j
   exact ⟨b,sl,nl,hl,us,cs,i,_,_,_,g,t,sd,m,n,_,.non,rfl,j,.inl ⟨rfl,⟨md.stb,md.en,md.ec,md.et,md.t3,by have:=md.lw;omega,Nat.le_succ_of_le md.la,md.ph⟩,h1⟩,nx,q⟩
  ·refine ⟨_,rfl,rfl,_,rfl,bx (λ_=>?_) (λc=>absurd (decide_eq_true rfl) c)⟩
   have e1:(g.ys++[r]).length=g.ys.length+1:=by rw [List.length_append];rfl
   refine ⟨_,rfl,_,rfl,_,_,rfl,rfl,sl,g.xs,us,b,g.ys++[r],?_,j.hz,j.st,by omega,?_⟩
   ·rw [e1]
    rfl
   refine ⟨_,rfl,g.h.l,g.h.dx,_,rfl,j.lg.sh.ins,eT (by decide +kernel),g.S,g.h,g.d,[],g.ws++es,g.v,rfl,j.lg.sh,j.en,by rw [List.length_append];omega,λfl lt' H3 s3 nfl hfl pl=>⟨fl,_,rfl,.inl (SqL.of hfl),_,rfl,_,_,rfl,rfl,?_⟩⟩
   have ll:(g.ws++es).length=lt'.length:=pl.len
   rw [List.length_append] at ll
   have e2:((lt'.length:Nat):Int)-((g.ws.length:Nat):Int)=((es.length:Nat):Int):=by omega
   show jg 10 (V.int (((lt'.length:Nat):Int)-((g.ws.length:Nat):Int))) _ _ _
   rw [e2]
   have j3:=j.keep s3
   refine ⟨b,sl,nl,hl,us,cs,i,_,_,_,{g with ys:=own g.xs (g.ys++[r]),nm:=nm,ws:=g.ws++es},t,false,es.length,n,_,f,rfl,j3,?_,nx,q⟩
   rcases hf with ⟨rfl,rfl,ph⟩ | ⟨rfl,eb,el⟩
   ·refine .inl ⟨rfl,⟨mi g.xs (g.ys++[r]),rfl,ec,et,t3,?_,?_,ph.keep s3.ts⟩,h1⟩
    ·show (g.ws++es).length<=_
     rw [List.length_append]
     omega
    ·show g.as.length<=_
     rw [ea]
     exact Nat.zero_le _
   ·exact .inr ⟨rfl,eb,el⟩
 case vD =>
  rintro D0 σ H ⟨b,sl,nl,hl,us,cs,i,y13,y15,y16,g,t,sd,m,n,s,f,rfl,j,hf,nx,q⟩
  have pl:g.xs.length=us.length:=j.st.len
  rcases hf with ⟨rfl,md,h1⟩ | ⟨rfl,rfl,el⟩
  ·exact ⟨_,rfl,rfl,_,rfl,aJ (nx _ _ ⟨_,_,_,_,_,_,g,t,sd,m,rfl,j,md,h1⟩)⟩
  ·refine ⟨_,rfl,rfl,_,rfl,bu ?_⟩
   refine ⟨_,rfl,rfl,_,rfl,bu ⟨_,rfl,rfl,_,rfl,bu ⟨_,rfl,_,rfl,sl,_,rfl,.inl (SqL.of j.hz),rfl,?_⟩⟩⟩
   rw [decide_eq_true (congrArg V.int (by rw [el,pl]))]
   exact q _
 case vC =>
  rintro D0 σ H ⟨b,sl,nl,hl,us,cs,i,y13,y14,y15,y16,g,t,sd,m,n,rfl,j,md,h1,hi,_,el,nx,q⟩
  have el':=el (Nat.le_refl _)
  have lw:=md.lw
  have la:=md.la
  obtain ⟨eb,_,hd,tl,w0,ehs,ph⟩:=md.ph.resolve_left (λz=>by have:=z.1;omega)
  subst eb
  have same:Pv CLb CS CH CW K false sl nl hl us cs (i+1) (s43 false g sl nl hl g.ys.length t sd m (some (.int n)) (some (.int ((g.ws.length:Nat):Int))) y13 y14 y15 y16) H:=⟨_,_,_,_,_,_,g,t,sd,m,rfl,j,⟨md.stb,md.en,md.ec,md.et,md.t3,by omega,Nat.le_succ_of_le la,md.ph⟩,h1⟩
  have hh:=j.hh
  rw [ehs] at hh
  have hlen:(((hd::tl).map V.int).length:Nat)=tl.length+1:=by rw [List.length_map];rfl
  have ndh:(hd::tl).Nodup:=by rw [← ehs];exact j.hi.1
  refine ⟨_,rfl,hl,_,rfl,.inl (SqL.of hh),_,_,rfl,rfl,_,rfl,bx (λc1=>?_) (λ_=>aJ (nx _ _ same))⟩
  refine ⟨_,rfl,hl,_,rfl,.inl (SqL.of hh),_,rfl,rfl,_,rfl,bx (λc2=>?_) (λ_=>nx _ _ same)⟩
  have ht1:tl≠[]:=λz=>by
   have z1:(1:Int)<(((hd::tl).map V.int).length:Nat):=of_decide_eq_true c1
   rw [hlen,z] at z1
   exact absurd z1 (by decide)
  have hm:m=tl.length+1:=by
   have z1:(((((hd::tl).map V.int).length:Nat)):Int)=((m:Nat):Int):=V.int.inj (of_decide_eq_true c2)
   rw [hlen] at z1
   omega
  have ew:g.ws=w0++cz g.A.na g.A.ho (hd::tl):=by
   rcases ph with ⟨_,_,_,e⟩ | ⟨_,_,_,_,e⟩ | ⟨_,_,_,e,_⟩
   ·exact e
   ·exact e
   ·omega
  have ha:∀n,n∈g.as\/n=hd↔n=hd:=by
   rcases ph with ⟨e,_⟩ | ⟨_,e,_⟩ | ⟨_,e,_⟩
   ·intro n
    rw [e]
    exact ⟨λz=>z.elim (λy=>by cases y) id,.inr⟩
   ·exact λn=>⟨λz=>z.elim (e n).mp id,.inr⟩
   ·exact λn=>⟨λz=>z.elim (e n).mp id,.inr⟩
  refine ⟨false,_,rfl,g.A.l,g.A.dx,_,rfl,j.lg.ld.ins,aQ (by decide +kernel),_,rfl,_,rfl,hl,_,_,.int hd,rfl,rfl,SqL.of hh,St.at0,(by show 0<=sizeLine;decide),λmm hmm=>?_⟩
  have s1:=ai (o:=.tup []) hmm
  have j1:=j.keep s1
  refine ⟨g,_,hd,mm,rfl,j1.lg,md.en,md.ec,.inr ⟨rfl,rfl,el',by omega,λas' H2 la' ha' lg2 k2=>⟨?_,λH3 s3=>?_⟩⟩⟩
  ·rw [ehs,xj ndh (λn=>(ha' n).trans (ha n))]
   exact ht1
  ·refine ⟨rfl,_,rfl,aJ ?_⟩
   have k12:KpG g H H2:=(KpA.of s1).trans k2
   have j3:=(j.to k12 (ys:=g.ys) (tn:=g.tn) (nm:=g.nm) (as:=as') (ws:=g.ws) lg2 j.ok.2).keep s3
   exact nx _ _ ⟨_,_,_,_,_,_,{g with as:=as'},t,true,m,rfl,j3,⟨md.stb,md.en,md.ec,md.et,md.t3,by show g.ws.length<=_;omega,by show as'.length<=_;omega,.inr ⟨rfl,el',hd,tl,w0,ehs,.inr (.inl ⟨ht1,λn=>(ha' n).trans (ha n),rfl,hm,ew⟩)⟩⟩,h1⟩
 have l12:=lg.ld.lx
 refine ⟨_,rfl,sl,g.xs,us,b,rfl,hsl,px,by omega,λhl hs' H1 s1 nhl hhl his=>?_⟩
 obtain rfl:hs'=g.hs:=his.one hi
 have nhl':hl∉gJ g.A g.ag g.S g.h:=i8 lg nhl
 have j1:JP b (CLb b) CS CH CW K H1 g sl nl hl us (cs.map V.int):=⟨lg.keep s1,s1 _ _ hsl,nsl,Paired.mapP px λ_ _ z=>z.keep s1.ts,s1 _ _ hnl,nnl,hhl,nhl',ok,ng,en,hi⟩
 have md1:=md0.keep s1.ts
 refine ⟨_,rfl,sl,g.xs,us,b,[],rfl,j1.hz,j1.st,Nat.zero_le _,?_⟩
 rw [← ey]
 refine ⟨_,rfl,g.h.l,g.h.dx,_,rfl,j1.lg.sh.ins,eT (by decide +kernel),g.S,g.h,g.d,[],g.ws,g.v,rfl,j1.lg.sh,en,by omega,λfl lt H2 s2 nfl hfl pl=>⟨fl,_,rfl,.inl (SqL.of hfl),?_⟩⟩
 have ll:g.ws.length=lt.length:=pl.len
 have e1:lt.length=1:=by omega
 rw [e1]
 have j2:=j1.keep s2
 refine ⟨_,rfl,nl,rfl,⟨_,SqL.of j2.hn⟩,?_⟩
 refine oq (xs:=cs.map V.int) (Pv CLb CS CH CW K b sl nl hl us (cs.map V.int)) ⟨none,none,none,none,none,none,g,0,false,1,rfl,j2,md1.keep s2.ts,h1⟩ (λi σ H' _ z=>by obtain ⟨_,_,_,_,_,_,_,_,_,_,_,z,_⟩:=z;exact SqL.of z.hn) ?_ (fun σ H' _=>q H')
 rintro i u σ H3 hu ⟨y11,y12,y13,y14,y15,y16,g,t,sd,m,rfl,j,md,h1⟩
 rw [List.getElem?_map] at hu
 obtain ⟨n,en',rfl⟩:=Option.map_eq_some_iff.mp hu
 have hi:i<60:=by
  have:=(List.getElem?_eq_some_iff.mp en').1
  omega
 have lw:=md.lw
 refine ⟨_,rfl,g.h.l,g.h.dx,_,rfl,j.lg.sh.ins,eT (by decide +kernel),g.S,g.h,g.d,[],g.ws,g.v,rfl,j.lg.sh,j.en,by omega,λfl lt H4 s4 nfl hfl pl=>⟨fl,_,rfl,.inl (SqL.of hfl),?_⟩⟩
 have ll:g.ws.length=lt.length:=pl.len
 rw [← ll]
 exact ⟨b,sl,nl,hl,us,_,i,_,_,_,_,g,t,sd,m,n,rfl,j.keep s4,md.keep s4.ts,h1,hi,(λz=>by omega),(λz=>by omega),fun σ' H' z=>z,q⟩
variable {CH:Addr}{CLb:Bool->Addr}
def lmk(a c:Addr):Bool->Addr
 | false=>a
 | true=>c
structure TxI(K:PySem.W.Frag)(mg:Str->Option Value)(CLb:Bool->Addr)(CA:Addr):Prop where
 mA:mg "Lead"=some (.ref CA)
 mB:∀b,mg (if b=true then "WalkedLead" else "HeldLead")=some (.ref (CLb b))
 ha:∀b,PySem.W.findIn K (.ref (CLb b)) "__class__"=some (some (.builtin "object.__class__"))
 hn:PySem.W.specialIn K (.builtin "object.__class__") "__get__"=some (some (.builtin "getset_descriptor.__get__"))
 htk:PySem.W.takesIn K (.builtin "object.__class__")=some true
 hm:∀b,PySem.W.mroIn K (CLb b) (.type "object")=some true
 iB:∀b c,PySem.W.kitOne K (.ref (CLb b)) (.ref (CLb c))=some (b==c)
 iA:∀b,PySem.W.kitOne K (.ref (CLb b)) (.ref CA)=some true
theorem zp(ns:List Int):(gm (ns.map V.int) (some 2) (some 50)).length<=48:=by
 unfold gm
 rw [List.length_take]
 show min (min 50 _-min 2 _) _<=48
 omega
theorem tf(xs:List Stp)(ys:List Int):∀(k:Nat) (x:Stp),ys.length<=k->k<(own xs ys).length->xs[k]?=some x->aL x.1 x.2=.non :=
 mh xs (λzs=>∀(k:Nat) (x:Stp),ys.length<=k->k<zs.length->xs[k]?=some x->aL x.1 x.2=.non) (λzs x hx hh r k y h1 h2 h3=>by
  rw [List.length_append] at h2
  have h2':k<zs.length+1:=h2
  by_cases e:k=zs.length
  ·rw [e,hx] at h3
   cases h3
   exact hh
  ·exact r k y h1 (by omega) h3) ys (λk x h1 h2 _=>absurd h2 (Nat.not_lt.mpr h1))
theorem sZ{xs:List Stp}(h:∃x∈xs,aL x.1 x.2≠.non):(own xs []).length<xs.length:=by
 obtain ⟨x,hx,hn⟩:=h
 obtain ⟨k,ek⟩:=List.mem_iff_getElem?.mp hx
 have kl:=(List.getElem?_eq_some_iff.mp ek).1
 by_cases e:(own xs []).length<xs.length
 ·exact e
 ·exact absurd (tf xs [] k x (Nat.zero_le _) (by omega) ek) hn
theorem wT{xs:List Stp}{hs:List Int}(ar:ArS xs)(h:HsIs xs hs):hs≠[]↔∃x∈xs,aL x.1 x.2≠.non:=by
 constructor
 ·intro ne
  obtain ⟨n,hn⟩:=List.exists_mem_of_ne_nil _ ne
  obtain ⟨x,hx,ex⟩:=List.mem_filterMap.mp ((h.2.2 n).mp hn)
  exact ⟨x,hx,λz=>by rw [z] at ex;cases ex⟩
 ·rintro ⟨x,hx,hn⟩ z
  rcases eR (ar x hx) with ⟨y,_⟩ | ⟨n,y⟩
  ·exact hn y
  ·have:n∈hs:=(h.2.2 n).mpr (List.mem_filterMap.mpr ⟨x,hx,by rw [y];rfl⟩)
   rw [z] at this
   cases this
section
variable (CLb:Bool->Addr)(CS CH:Addr)(CW:Wd->Addr)(K:PySem.W.Frag)
def u1:TS:=λD σ H=>∃a zs na p b M sl us xs,σ=[some (.ref a),some (.ref na),some (.str (mS b)),some (.int M),some (.ref sl),none,none,none]/\H na=some (.tup [.int (p:Pa).1,.int p.2])/\SqL K H a ((zs:List Int).map V.int)/\H sl=some (.lst us)/\Paired (StT b H) xs us/\1<=xs.length/\xs.length<=9/\(∃x∈xs,aL x.1 x.2≠.non)/\∀H',D.rt (.bl true) H'
def u2:TS:=λD σ H=>∃a zs b M sl us y5 g,σ=[some (.ref a),some (.ref (g:Sg).A.na),some (.str (mS b)),some (.int M),some (.ref sl),y5,some (.ref g.A.l),some (.ref g.h.l)]/\Lg b (CLb b) CS CH CW K H g/\SqL K H a ((zs:List Int).map V.int)/\Scr K H a (zs.map V.int) (gJ g.A g.ag g.S g.h)/\H sl=some (.lst us)/\sl∉gJ g.A g.ag g.S g.h/\Paired (StT b H) g.xs us/\HsIs g.xs g.hs/\(∃x∈g.xs,aL x.1 x.2≠.non)/\g.d.ends=[]/\g.ys=[]/\g.tn=0/\g.nm=.non/\g.cl=false/\g.as=[]/\g.ws=[]/\∀H',D.rt (.bl true) H'
end
theorem xI{fSI fHI CA:Addr}{dSI dHI:FuncData}(F:Fun K "law" "law" jN f fd)(B:TxB mg)(T:∀b,TxC K CW (CLb b) CH)(D:TxD K CS)(DH:TxH K CH)(I:TxI K mg CLb CA)(cP:∃t,mg "PATIENCE"=some (.int 4 t))
  (MS:Mk K CS fSI)(mgS:mg "Stand"=some (.ref CS))(GSI:FnOk P w K mg base CX0 1 fSI dSI ["self","cells"] (pX CS K))(bSI:Binds K dSI ["self","cells"] [])
  (MH:Mk K CH fHI)(mgH:mg "Sheet"=some (.ref CH))(GHI:FnOk P w K mg base CX0 1 fHI dHI ["self","stand"] (p6 CS CH K))(bHI:Binds K dHI ["self","stand"] [])
  (GLo:GF P w K mg base CX0 6 "lead_of" ["name","pact"] (sj CLb CP CW))(GRP:GF P w K mg base CX0 8 "read_pact" ["text"] (lL CP CW))(GA:GF P w K mg base CX0 1 "_law_cell_at" ["_law_script","_law_k"] (oR K))(GSt:GF P w K mg base CX0 1 "_law_step" ["_law_number","_law_manner"] si)(GHs:GF P w K mg base CX0 1 "_law_houses" ["_law_steps"] (p5 K))
  (GG:∀b,GM P w K mg base CX0 7 (CLb b) "go" ["self","sheet"] (mY b (CLb b) CS CH CW K))(GPl:GF P w K mg base CX0 10 "_law_played" ["_law_lead","_law_sheet","_law_name","_law_manner","_law_steps","_law_numbers"] (xi CLb CS CH CW K)) :
  FnOk P w K mg base CX0 11 f fd ["_law_script"] (p4 K):=by
 refine F.ok sc_law (λvs H Q E h=>?_) (λcdv A outer s H vs Q E hr h=>?_)
 ·obtain ⟨a,ns,rfl,_⟩:=h
  rfl
 obtain ⟨a,ns,rfl,hS,hl0,q⟩:=h
 have nd:=sc_law.nd
 have hr1:Room (1+1) _:=hr.mono (by decide)
 obtain ⟨tP,cP⟩:=cP
 refine ⟨_,ac (aD (i:=1) nd rfl (Or.inl rfl) (bi (aa (aE cJ (pc GA hr (aa (pv 0) (aa aj ad))) aj) (aa (aE cJ (aE d0 (pc GA hr (aa (pv 0) (aa aj ad))) aj) (aE jU aj aj)) ad))))
  (ac (aD (i:=2) nd rfl (Or.inr rfl) (aI (r:=cY K) aN (bU (aa aA (aa aA ad))) (aE cJ (pc GA hr (aa (pv 0) (aa aj ad))) aj) (λ_ _=>rfl)))
  (ac (aD (i:=3) nd rfl (Or.inl rfl) (aE eE aj (aE cJ (aE d0 (pc GA hr (aa (pv 0) (aa aj ad))) aj) aj)))
  (ac (nD (iy:=4) sF rfl (dv rfl B.range (aa (pv 3) ad)) (λ_ _ _ _=>fe) (λ_ _ _ _=>pc GSt hr (aa (pc GA hr (aa (pv 1) (aa (aE eE aj (pv 0)) ad))) (aa (pv 2) ad))) nd rfl (Or.inl rfl))
  (ac (aC (am (nQ (Nat.lt_of_succ_lt (v7 hr))) (pc GHs hr (aa (pv 4) ad)) (bU ad) (ap _)) (af (bz (eL PySem.F.plainAttrs_list PySem.F.slot_list_append PySem.F.type_list_append eO (pv 4) (aa (bi (aa aj (aa aA ad))) ad)))) au)
  (cZ (u1 K)
  (ac (aD (i:=5) nd rfl (Or.inl rfl) (aE aK (aE aK (pv 2) aA) (eL PySem.F.plainAttrs_str PySem.F.slot_str_join PySem.F.type_str_join qi aA (aa (fY sE rfl (dU (pv 4)) (λ_ _ _ _=>fe) (λ_ _ _ _=>aI (r:=dt K) bj (pv 0) aj (λ_ _=>rfl))) ad))))
  (ac (aD (i:=6) nd rfl (Or.inl rfl) (pc GLo hr (aa (pv 1) (aa (pc GRP hr (aa (pv 5) ad)) ad))))
  (ac (aD (i:=7) nd rfl (Or.inl rfl) (ce MH GHI hr1 rfl mgH bHI .nil bo (aa (ce MS GSI hr1 rfl mgS bSI .nil bo (aa (bU (aa aj ad)) ad)) ad)))
  (cZ (u2 CLb CS CH CW K)
  (ac (aC (PW.pt (ij (am f8 (aw ft rfl B.isi PyProof.Rows.boot_isinstance (aa (pv 6) (aa (bK (v:=.ref (CLb false)) rfl (I.mB false) rfl) ad))) (bL aR (pv 2) aA (ap _)) (ap _)) (gW (am f8 (aw ft rfl B.isi PyProof.Rows.boot_isinstance (aa (pv 6) (aa (bK (v:=.ref (CLb true)) rfl (I.mB true) rfl) ad))) (bL aR (pv 2) aA (ap _)) (ap _))))) aB au)
  (ac (aC (PW.pt (ij (jP (bD (aw ft rfl B.isi PyProof.Rows.boot_isinstance (aa (pv 6) (aa (bK (v:=.ref CA) rfl I.mA rfl) ad))))) (ij (bD (aw d8 rfl B.isi PyProof.Rows.boot_isinstance (aa (bK (v:=.int 4) rfl cP ⟨_,rfl⟩) (aa (jw (v:=.ty "bool") rfl B.bool PyProof.Rows.boot_bool rfl) ad)))) (ij (am f8 (bK (v:=.int 4) rfl cP ⟨_,rfl⟩) aj (ap _)) (gW (am cm (f6 λb=>pm (GG b) (pv 6) (T b).t.cl hr (aa (pv 7) ad)) aO (ap _))))))) aB au)
  (af (ao (pc GPl hr (aa (pv 6) (aa (pv 7) (aa (pv 1) (aa (pv 2) (aa (pv 4) (aa (dD h9 (pv 0) (cT aj) (cT aj)) ad))))))))))) ?v2)))) ?v1))))),?_⟩
 case v1 =>
  rintro D0 σ H ⟨a,zs,na,p,b,M,sl,us,xs,rfl,hna,hS,hsl,pst,n1,n9,hx,q⟩
  have pl:xs.length=us.length:=pst.len
  have hz:(100000:Nat)<=sizeLine:=by decide
  have ar:ArS xs:=λx hx=>by
   obtain ⟨i,ei⟩:=List.mem_iff_getElem?.mp hx
   obtain ⟨u,_,_,_,_,h2,_⟩:=pst.get1 ei
   exact h2
  have lm:(mS b).length<=6:=by cases b<;>decide +kernel
  have l1:(Str.ofString " ").length=1:=by decide +kernel
  refine ⟨_,rfl,_,_,rfl,rfl,(by show (mS b).length+(Str.ofString " ").length<=sizeLine;omega),rfl,_,rfl,sl,rfl,⟨_,SqL.of hsl⟩,?_⟩
  refine gA (xs:=us) (λi ys H'=>H'=H/\ys=((xs.take i).map sx).map V.str) ⟨rfl,rfl⟩ (by omega) (λi ys H' _ z=>by rw [z.1];exact SqL.of hsl) ?_ ?_
  ·rintro i u ys H' hu ⟨rfl,rfl⟩
   obtain ⟨x,ex,tt,rfl,h1,_⟩:=pst.get hu
   have et:xs.take (i+1)=xs.take i++[x]:=by rw [List.take_add_one,ex];rfl
   refine kE ⟨_,rfl,tt,_,_,_,rfl,rfl,SqT.of h1,St.at1,rfl,?_⟩
   rw [et,List.map_append,List.map_append]
   rfl
  rintro ys H6' ⟨rfl,rfl⟩ jl hjl
  rw [← pl,List.take_length]
  have s6:=ai (o:=.lst ((xs.map sx).map V.str)) hjl
  have l2:(Str.ofString "; ").length=2:=by decide +kernel
  have sm:=rT ar
  have js:=jY ar (by omega)
  refine ⟨_,jl,xs.map sx,rfl,rfl,SqL.of ae,by rw [l2,List.length_map];omega,?_⟩
  refine ⟨_,_,rfl,rfl,?_,?_⟩
  ·show (mS b++Str.ofString " ").length+_<=sizeLine
   simp only [pR]
   omega
  refine ⟨_,rfl,_,rfl,b,xs,rfl,ar,List.length_pos_iff.mp n1,by omega,λpa pdx psl ptp pus H7 s7 _ pau=>?_⟩
  have s17:=s6.trans s7
  refine ⟨na,_,p,b,xs,rfl,s17 _ _ hna,⟨pa,pdx,psl,ptp,pus,rfl,pau⟩,ar,by omega,λA ag ks hs H8 eN s8 ld hag his nx nhd7 nag7 nah=>?_⟩
  subst eN
  refine ⟨(by show 1<=sizeLine;decide),λcl hcl=>?_⟩
  have s9:=ai (o:=.lst [.int 0]) hcl
  have hcl9:=ae (H:=H8) (a:=cl) (o:=.lst [.int 0])
  generalize (upd H8 cl (HO.lst [.int 0]))=H9 at s9 hcl9 ⊢
  intro x1 dx1 nx1 ndx1 nex1
  have s10':∀{o1 o2:HO},Same H9 (upd (upd H9 dx1 o1) x1 o2):=λ{o1 o2}=>jx nx1 ndx1
  refine ⟨x1,dx1,cl,[0],rfl,ae,s10' _ _ hcl9,(by show 1<=1000;decide),λS H10 eS st10 fr10 k10=>⟨rfl,?_⟩⟩
  subst eS
  have s10:Same H9 H10:=fw nx1 ndx1 k10
  intro x2 dx2 nx2 ndx2 nex2
  have s11':∀{o1 o2:HO},Same H10 (upd (upd H10 dx2 o1) x2 o2):=λ{o1 o2}=>jx nx2 ndx2
  refine ⟨x2,dx2,S,Sd.new [0],rfl,ae,st10.keep s11',ah st10.ins nx2,λh H11 eh sh11 nrw nsn k11=>⟨rfl,?_⟩⟩
  subst eh
  have s11:Same H10 H11:=fw nx2 ndx2 k11
  have s811:=s9.trans (s10.trans s11)
  have s711:=s8.trans s811
  have fr8:∀b∈S.l::h.own S,H8 b=none:=λb hb=>by
   rcases List.mem_cons.mp hb with z | hb
   ·rw [z];exact none_of s9 nx1
   rcases List.mem_cons.mp hb with z | hb
   ·rw [z];exact none_of (s9.trans s10) nx2
   rcases List.mem_cons.mp hb with z | hb
   ·rw [z];exact none_of (s9.trans (s10.trans s11')) nrw
   rcases List.mem_cons.mp hb with z | hb
   ·rw [z];exact none_of (s9.trans (s10.trans s11')) nsn
   ·exact none_of (s9.trans s10') (fr10 b hb)
  have out:∀{b:Addr} {o:HO},H8 b=some o->b∉S.l::h.own S:=λe hb=>by
   rw [fr8 _ hb] at e
   cases e
  have fr7:∀b∈gJ A ag S h,H7 b=none:=λb hb=>by
   rcases List.mem_cons.mp hb with z | hb
   ·rw [z];exact nx
   rcases List.mem_cons.mp hb with z | hb
   ·rw [z];exact nhd7
   rcases List.mem_cons.mp hb with z | hb
   ·rw [z];exact nag7
   ·exact none_of s8 (fr8 b (.tail _ hb))
  have hl12:hs.length<=12:=by
   have h1:hs.length<=(cQ xs).length:=List.Nodup.length_le_of_subset his.1 λn hn=>(his.2.2 n).mp hn
   have h2:(cQ xs).length<=xs.length:=List.length_filterMap_le _ _
   omega
  have lg:Lg b (CLb b) CS CH CW K H11 ⟨A,ag,S,h,p,xs,hs,[],0,.non,false,[],ks,Sd.new [0],[],.non⟩:=⟨ld.keep s811,s811 _ _ hag,sh11,out ld.ins,out ld.han,out hag,nah,hl12⟩
  have s011:=s17.trans s711
  have nsl:sl∉gJ A ag S h:=λy=>by
   have e:=s17 _ _ hsl
   rw [fr7 _ y] at e
   cases e
  exact ⟨a,zs,b,M,sl,us,_,⟨A,ag,S,h,p,xs,hs,[],0,.non,false,[],ks,Sd.new [0],[],.non⟩,rfl,lg,s011.seq hS,(Scr.mk hS λc hc=>none_of s17 (fr7 c hc)).same s011,s011 _ _ hsl,nsl,Paired.mapP pst λ_ _ z=>z.keep s011.ts,his,hx,rfl,rfl,rfl,rfl,rfl,rfl,rfl,q⟩
 case v2 =>
  rintro D0 σ H ⟨a,zs,b,M,sl,us,y5,g,rfl,lg,hS,scr,hsl,nsl,pst,his,hx,en,ey,et,enm,ec,ea,ew,q⟩
  have ar:=lg.ld.ar
  have ty:TyOf K H (.ref g.A.l) (.ref (CLb b)):=TyOf.ins lg.ld.ins (T b).t.cl (I.ha b) I.hn I.htk (I.hm b)
  have hne:=(wT ar his).mpr hx
  have okx:∀x∈g.xs,OkS x:=λx hx=>by
   obtain ⟨i,ei⟩:=List.mem_iff_getElem?.mp hx
   obtain ⟨u,_,_,_,_,_,h2,_⟩:=pst.get1 ei
   exact h2
  have ng:NoG b g:=λeb=>kD λx hx=>by
   obtain ⟨i,ei⟩:=List.mem_iff_getElem?.mp hx
   obtain ⟨u,_,_,_,_,_,_,h2⟩:=pst.get1 ei
   exact h2 eb
  have okg:OkG g:=⟨okx,by rw [ey];exact Int.le_refl 0⟩
  have eH:decide (V.str (mS b)=V.str (Str.ofString "held"))=(b==false):=by
   cases b with
   | false=>exact decide_eq_true rfl
   | true=>exact decide_eq_false λz=>absurd (V.str.inj z) (by decide +kernel)
  have eW:decide (V.str (mS b)=V.str (Str.ofString "walked"))=(b==true):=by
   cases b with
   | true=>exact decide_eq_true rfl
   | false=>exact decide_eq_false λz=>absurd (V.str.inj z) (by decide +kernel)
  refine ⟨_,rfl,_,_,_,_,rfl,ty,I.iB b false,_,rfl,rfl,rfl,_,rfl,?_⟩
  rw [eH,decide_eq_true rfl]
  refine aJ ⟨_,rfl,_,_,_,_,rfl,ty,I.iB b true,_,rfl,rfl,rfl,_,rfl,?_⟩
  rw [eW,decide_eq_true rfl]
  refine aJ ⟨_,rfl,_,_,_,_,rfl,ty,I.iA b,_,rfl,aJ ?_⟩
  refine ⟨_,_,_,_,rfl,TyOf.int _,pD,_,rfl,aJ ?_⟩
  refine ⟨rfl,_,rfl,?_⟩
  rw [decide_eq_true rfl]
  refine aJ ⟨b,_,rfl,g.A.l,g.A.dx,_,rfl,lg.ld.ins,aQ (by decide +kernel),_,rfl,g,rfl,lg,.inr ⟨ec,enm,okg,ng,λH1 lg1 k1=>?_⟩⟩
  have lt:(own g.xs []).length<g.xs.length:=sZ hx
  have eY:=mi g.xs []
  have eo:own g.xs g.ys=own g.xs []:=by rw [ey]
  obtain ⟨x,n,ex,hv⟩:=nY ar eY lt
  refine .inl ⟨x,n,by show g.xs[(own g.xs g.ys).length]?=some x;rw [eo];exact ex,hv,by show g.ws.length<=900;rw [ew];exact Nat.zero_le _,λt H2 lg2 ht2 k2=>?_⟩
  refine ⟨rfl,_,rfl,aJ ?_⟩
  have k02:KpG g H H2:=k1.trans k2
  have ts2:=LSh.ts lg k02
  obtain ⟨cs,ecs,_⟩:=uI zs (some 2) (some 50)
  have l48:=zp zs
  rw [ecs,List.length_map] at l48
  refine ⟨_,rfl,_,rfl,_,rfl,_,rfl,_,rfl,_,rfl,_,rfl,_,rfl,a,_,rfl,(scr.kp k02).seq,λnl hnl=>?_⟩
  have s3:=ai (o:=.lst (gm (zs.map V.int) (some 2) (some 50))) hnl
  have hnl3:(upd H2 nl (.lst (gm (zs.map V.int) (some 2) (some 50)))) nl=some (.lst (cs.map V.int)):=by rw [ae,ecs]
  have lg3:=LSh.keep lg2 s3
  have nnl:=i8 (b:=b) (g:={g.own with ws:=g.own.ws++[(n,wdB b,g.own.A.na,t)]}) lg2 hnl
  have ht3:=s3 _ _ ht2
  have hsl3:=s3 _ _ (k02 _ _ nsl hsl)
  have pst3:=Paired.mapP pst λ_ _ z=>(StT.keep ts2 z).keep s3.ts
  generalize (upd H2 nl (HO.lst (gm (zs.map V.int) (some 2) (some 50))))=H3 at s3 hnl3 lg3 ht3 hsl3 pst3 ⊢
  have p0:0<=ba (own g.xs g.ys):=mf okx okg.2
  refine ⟨b,{g.own with ws:=g.own.ws++[(n,wdB b,g.own.A.na,t)]},sl,nl,us,cs,rfl,lg3,hsl3,nsl,pst3,hnl3,nnl,by omega,⟨okx,p0⟩,ng,en,his,hne,eo,?_,⟨?_,enm,ec,et,Nat.zero_le _,?_,?_,.inl ⟨?_,ea,rfl,rfl,g.ws,x,n,t,rfl,?_,hv,ht3⟩⟩,q⟩
  ·show (g.ws++_).length=1
   rw [ew]
   rfl
  ·show aX g.xs (own g.xs g.ys)≠.non\/g.xs.length<=(own g.xs g.ys).length
   rw [eo]
   exact eY
  ·show (g.ws++_).length<=_
   rw [ew]
   show 1<=_
   omega
  ·show g.as.length<=0
   rw [ea]
   exact Nat.le_refl _
  ·show (own g.xs g.ys).length<g.xs.length
   rw [eo]
   exact lt
  ·show g.xs[(own g.xs g.ys).length]?=some x
   rw [eo]
   exact ex
 have hz:(100000:Nat)<=sizeLine:=by decide
 refine ⟨_,rfl,a,ns,0,rfl,hS,_,_,rfl,rfl,(by show (0:Int)<5;decide),_,rfl,a,ns,0,rfl,hS,_,_,rfl,rfl,⟨by decide,by decide⟩,_,_,rfl,rfl,⟨by decide,by decide,by decide⟩,_,_,rfl,rfl,(by show (0:Int)<10 ^ 9;decide +kernel),(by show 2<=sizeLine;decide),λna hna=>?_⟩
 obtain ⟨p,ep⟩:∃p:Pa,p=(aU ns 0%5,aU ns 0/5%10 ^ 9):=⟨_,rfl⟩
 have s0:=ai (o:=.tup [.int (aU ns 0%5),.int (aU ns 0/5%10 ^ 9)]) hna
 have na0:(upd H na (.tup [.int (aU ns 0%5),.int (aU ns 0/5%10 ^ 9)])) na=some (.tup [.int p.1,.int p.2]):=by rw [ep];exact ae
 have e00:(upd H na (HO.tup [V.int (aU ns 0%5),V.int (aU ns 0/5%10 ^ Int.toNat 9)]))=(upd H na (.tup [.int (aU ns 0%5),.int (aU ns 0/5%10 ^ 9)])):=rfl
 erw [e00]
 generalize (upd H na (HO.tup [.int (aU ns 0%5),.int (aU ns 0/5%10 ^ 9)]))=H0 at s0 na0 ⊢
 have hS0:=s0.seq hS
 refine ⟨(by show 2<=sizeLine;decide),λml hml=>?_⟩
 have s1:=ai (o:=.lst [.str "held",.str "walked"]) hml
 have m0:0<=aU ns 1%2:=Int.emod_nonneg _ (by decide)
 have m1:aU ns 1%2<2:=Int.emod_lt_of_pos _ (by decide)
 obtain ⟨b,eb⟩:∃b,atI ([.str "held",.str "walked"]:List V) (aU ns 1%2)=some (.str (mS b)):=by
  have:aU ns 1%2=0\/aU ns 1%2=1:=by omega
  rcases this with e | e
  ·exact ⟨false,by rw [e];rfl⟩
  ·exact ⟨true,by rw [e];rfl⟩
 refine ⟨_,rfl,a,ns,1,rfl,s1.seq hS0,_,_,rfl,rfl,(by show (0:Int)<2;decide),ml,_,_,_,rfl,rfl,SqL.of ae,eb,?_⟩
 have na1:=s1 _ _ na0
 have hS1:=s1.seq hS0
 generalize (upd H0 ml (HO.lst [.str "held",.str "walked"]))=H1 at s1 na1 hS1 ⊢
 have k0:0<=aU ns 1/2%8:=Int.emod_nonneg _ (by decide)
 have k8:aU ns 1/2%8<8:=Int.emod_lt_of_pos _ (by decide)
 obtain ⟨m,em⟩:∃m:Nat,(1+aU ns 1/2%8:Int)=m:=⟨(1+aU ns 1/2%8).toNat,by omega⟩
 refine ⟨_,rfl,a,ns,1,rfl,hS1,_,_,rfl,rfl,⟨by decide,by decide⟩,_,_,rfl,rfl,(by show (0:Int)<8;decide),_,_,rfl,rfl,?_⟩
 show jg 3 (V.int (1+aU ns 1/2%8)) _ _ _
 rw [em]
 refine ⟨_,rfl,_,rfl,by omega,by omega,?_⟩
 have e0:((m:Nat):Int).toNat=m:=rfl
 rw [e0]
 refine iu (n:=m) (λi ys H'=>Same H1 H'/\∃xs,Paired (StT b H') xs ys/\xs.length=i) ⟨Same.refl _,[],.nil,rfl⟩ (by omega) ?_ ?_
 ·rintro i ys H2 hi ⟨s2,xs,px,lx⟩
  refine kE ⟨_,rfl,_,rfl,_,_,rfl,rfl,a,ns,2+i,rfl,s2.seq hS1,_,rfl,_,b,rfl,λu x H3 s3 st=>⟨s2.trans s3,xs++[x],(Paired.mapP px λ_ _ z=>z.keep s3.ts).app (.cons st .nil),by rw [List.length_append,lx];rfl⟩⟩
 ·rintro us H2 ⟨s2,xs,px,lx⟩ sl hsl
  have s3:=ai (o:=.lst us) hsl
  have h3:(upd H2 sl (.lst us)) sl=some (.lst us):=ae
  have px3:=Paired.mapP px λ_ _ z=>StT.keep s3.ts z
  have s13:=s2.trans s3
  have na3:=s13 _ _ na1
  have sc3:Scr K (upd H2 sl (.lst us)) a (ns.map V.int) [sl]:=((Scr.mk (N:=[]) (s2.seq hS1) (λb hb=>by cases hb)).add hsl).same s3
  generalize (upd H2 sl (HO.lst us))=H3 at s3 h3 px3 s13 na3 sc3 ⊢
  have ar3:ArS xs:=λx hx=>by
   obtain ⟨i,ei⟩:=List.mem_iff_getElem?.mp hx
   obtain ⟨u,_,_,_,_,h2,_⟩:=px3.get1 ei
   exact h2
  refine ⟨_,rfl,sl,xs,us,b,rfl,h3,px3,by omega,λhl hs H4 s4 nhl hhl his=>⟨(by show 0<=sizeLine;decide),λe5 he5=>?_⟩⟩
  have s5:=ai (o:=.lst []) he5
  have s45:=s4.trans s5
  refine ⟨hl,e5,_,rfl,rfl,SqL.of (s5 _ _ hhl),SqL.of ae,_,rfl,?_⟩
  have na5:=s45 _ _ na3
  have h5:=s45 _ _ h3
  have px5:=Paired.mapP px3 λ_ _ z=>StT.keep s45.ts z
  have sc5:=sc3.same s45
  generalize (upd H4 e5 (HO.lst []))=H5 at s45 na5 h5 px5 sc5 ⊢
  have pl5:=px5.len
  by_cases ehs:hs=[]
  ·rw [ehs]
   refine bu ⟨_,rfl,.inl ⟨rfl,_,SqL.of h5⟩,(by show 2<=sizeLine;decide),λtt htt=>?_⟩
   have s6:=ai (o:=.tup [.int 0,.str "take 0 0"]) htt
   have h6:=s6 _ _ h5
   refine ⟨sl,_,_,rfl,rfl,h6,cI (by omega),?_⟩
   have et:Str.ofString "take 0 0"=sx (.take,[0,0]):=by decide +kernel
   have st6:StT b (upd H5 tt (.tup [.int 0,.str "take 0 0"])) (.take,[0,0]) (.ref tt):=⟨tt,rfl,by rw [ae];show some (HO.tup [V.int 0,V.str (Str.ofString "take 0 0")])=_;rw [et];rfl,⟨⟨Int.le_refl 0,by decide⟩,⟨Int.le_refl 0,by decide⟩⟩,ip _ _ (by decide) (by decide),λ_ z=>by cases z⟩
   have kk:Kp sl (upd H5 tt (.tup [.int 0,.str "take 0 0"])) (upd (upd H5 tt (.tup [.int 0,.str "take 0 0"])) sl (.lst (us++[.ref tt]))):=bn
   have tt7:bJ (upd H5 tt (.tup [.int 0,.str "take 0 0"])) (upd (upd H5 tt (.tup [.int 0,.str "take 0 0"])) sl (.lst (us++[.ref tt]))):=λc zs e=>kk c _ (λz=>by rw [z,h6] at e;cases e) e
   refine ⟨a,ns,na,p,b,_,sl,us++[.ref tt],xs++[(.take,[0,0])],rfl,tt7 _ _ (s6 _ _ na5),((sc5.same s6).kp λc o n e=>kk c o (λz=>n (by rw [z];exact .head _)) e).seq,ae,(Paired.mapP px5 λ_ _ z=>(StT.keep s6.ts z).keep tt7).app (.cons (st6.keep tt7) .nil),by rw [List.length_append];exact Nat.le_add_left _ _,by rw [List.length_append];show xs.length+1<=9;omega,⟨_,List.mem_append_right _ (.head _),λz=>by cases z⟩,q⟩
  ·have ne':hs.map V.int≠[]:=λy=>ehs (by simpa using y)
   rw [decide_eq_false ne']
   exact aJ ⟨a,ns,na,p,b,_,sl,us,xs,rfl,na5,sc5.seq,h5,px5,by omega,by omega,(wT ar3 his).mp ehs,q⟩
end
end K43
namespace K43
open PySem L2 Lo St
def wmk(a b c d e f g:Addr):Wd->Addr
 | .take=>a
 | .mean=>b
 | .sum=>c
 | .give=>d
 | .add=>e
 | .plus=>f
 | .need=>g
abbrev bmV:List Value:=[.type "ValueError",.type "Exception",.type "BaseException",.type "object"]
def FnX(K:PySem.W.Frag)(f:Addr)(x q:Str)(st:Stmt):Prop:=∃fd,Fun K x q st f fd
theorem fnx{K:PySem.W.Frag}{f:Addr}{x q:Str}{st:Stmt}{oc kV dc pm cd ct:Value}{od an:Option Addr}{sl:Array (Option Value)}(l:K.lookup f=some ⟨oc,od,.func (PySem.W.fnOf x q (defArgs st) (defBody st) (defScope st) .none kV dc pm an cd ct),sl⟩)(c:PySem.W.codeIn K cd q=true)(k:PySem.W.keepIn K (.ref f)=true):FnX K f x q st:=⟨_,yk l c k⟩
section
variable {K:PySem.W.Frag}{f:Addr}{x q:Str}{st:Stmt}{fd:FuncData}
abbrev BdF(x q:Str)(st:Stmt)(us:List Value)(ps:List Str):Prop:=∀(kV doc pm:Value) (an:Option Addr) (cdv ct:Value),bindArgs (PySem.W.fnOf x q (defArgs st) (defBody st) (defScope st) .none kV doc pm an cdv ct) ⟨us,[]⟩=pure (ps.zip us)
theorem _root_.L2.Fun.b1(F:Fun K x q st f fd)(p:Str)(h:∀u,BdF x q st [u] [p]):Binds K fd [p] []:=F.binds λa b c d e g us hl=>match us,hl with | [u],_=>h u a b c d e g
theorem _root_.L2.Fun.b2(F:Fun K x q st f fd)(p r:Str)(h:∀u v,BdF x q st [u,v] [p,r]):Binds K fd [p,r] []:=F.binds λa b c d e g us hl=>match us,hl with | [u,v],_=>h u v a b c d e g
theorem _root_.L2.Fun.b3(F:Fun K x q st f fd)(p r s:Str)(h:∀u v w,BdF x q st [u,v,w] [p,r,s]):Binds K fd [p,r,s] []:=F.binds λa b c d e g us hl=>match us,hl with | [u,v,w],_=>h u v w a b c d e g
theorem _root_.L2.Fun.b4(F:Fun K x q st f fd)(p r s t:Str)(h:∀u v w y,BdF x q st [u,v,w,y] [p,r,s,t]):Binds K fd [p,r,s,t] []:=F.binds λa b c d e g us hl=>match us,hl with | [u,v,w,y],_=>h u v w y a b c d e g
theorem _root_.L2.Fun.b5(F:Fun K x q st f fd)(p r s t m:Str)(h:∀u v w y z,BdF x q st [u,v,w,y,z] [p,r,s,t,m]):Binds K fd [p,r,s,t,m] []:=F.binds λa b c d e g us hl=>match us,hl with | [u,v,w,y,z],_=>h u v w y z a b c d e g
theorem _root_.L2.Fun.b6(F:Fun K x q st f fd)(p r s t m n:Str)(h:∀u v w y z j,BdF x q st [u,v,w,y,z,j] [p,r,s,t,m,n]):Binds K fd [p,r,s,t,m,n] []:=F.binds λa b c d e g us hl=>match us,hl with | [u,v,w,y,z,j],_=>h u v w y z j a b c d e g
end
open PySem.W (readsIn findCls fnOf codeIn handedIn findIn nsIn keepIn isFn plainGet hasDictIn plainOver makesIn mroIn kitOne specialIn takesIn excIn mg_of mg_none_of)
theorem all_mk {l : PySem.W.OpenLaw} {w : World} {K : PySem.W.Frag} {h : Heap} {mg : Str → Option Value} {fa CRd fri frp fra frb frn frx WA fxiY fxhY fxpA fxsZ fxdA WB fxpB fxdB WD fxiD fxhD fxpD fxdD WE fxpE fxsE fxdE WF fxiF fxpF fxdF WG fxiG fxhZ fxpG fxdG WN fxiN fxpN fxdN CY CP fpi CS fsdI fsdN CH fshI fshS fshW fshL CLH fleT fleG fleN fleO fleX fleP fleS fleA fleE fheI fheG fheC fheL fheD fheF fheB CLW fwlI fwlG fwlC fwlK fwlB CA fleI fW1 fH1 fR1 fG1 fP1 fS1 fN1 fM1 fU1 fA3 fB3 fC3 fD3 fV1 fY3 fA2 fS2 fH2 fN2 fD2 fE2 fP2 fZ aSh aMn CNo : Addr} (X : K.In h) (G : h.Ns mainGlobals mg) (hfa : mg "law" = some (.ref fa))
     {t_MOST_FIGURES_things t_MOST_SIGNS t_MOST_DEEP t_LONGEST t_BLANK t_PERCENT t_TILDE t_MOST_FIGURES_steps t_MOST_STEPS t_PATIENCE:Tok} {esR:Array DictEntry} {epR:Nat} {dMn:Option Addr} {mn1 mn2:Tok} {nMn:Nat} {sMn:Array (Option Value)}
  (nrd:nsIn K mainGlobals "Reader"=some (some (.ref CRd)))
  (pgrd:plainGet K CRd Str.empty=true)
  (hdrd:hasDictIn K CRd=true)
  (pord:plainOver K CRd=true)
  (sard:findIn K (.ref CRd) "__setattr__"=some (some (.builtin "object.__setattr__")))
  (mkrd:makesIn K CRd=true)
  (kcrd:keepIn K (.ref CRd)=true)
  (nTx:findIn K (.ref CRd) "text"=some none)
  (nPl:findIn K (.ref CRd) "place"=some none)
  (ari:findIn K (.ref CRd) "__init__"=some (some (.ref fri)))
  (jri:isFn K (.ref fri)=true)
  (lri:FnX K fri "__init__" "Reader.__init__" gK)
  (arp:findIn K (.ref CRd) "passes"=some (some (.ref frp)))
  (jrp:isFn K (.ref frp)=true)
  (lrp:FnX K frp "passes" "Reader.passes" fy)
  (ara:findIn K (.ref CRd) "read_any"=some (some (.ref fra)))
  (jra:isFn K (.ref fra)=true)
  (lra:FnX K fra "read_any" "Reader.read_any" d7)
  (arb:findIn K (.ref CRd) "read_below"=some (some (.ref frb)))
  (jrb:isFn K (.ref frb)=true)
  (lrb:FnX K frb "read_below" "Reader.read_below" dn)
  (arn:findIn K (.ref CRd) "read_number"=some (some (.ref frn)))
  (jrn:isFn K (.ref frn)=true)
  (lrn:FnX K frn "read_number" "Reader.read_number" c8)
  (arx:findIn K (.ref CRd) "read_signs"=some (some (.ref frx)))
  (jrx:isFn K (.ref frx)=true)
  (lrx:FnX K frx "read_signs" "Reader.read_signs" dm)
  (nwA:nsIn K mainGlobals "TakeStep"=some (some (.ref WA)))
  (pgwA:plainGet K WA Str.empty=true)
  (hdwA:hasDictIn K WA=true)
  (powA:plainOver K WA=true)
  (sawA:findIn K (.ref WA) "__setattr__"=some (some (.builtin "object.__setattr__")))
  (mkwA:makesIn K WA=true)
  (kcwA:keepIn K (.ref WA)=true)
  (nWwA:findIn K (.ref WA) "where"=some none)
  (nCwA:findIn K (.ref WA) "cell"=some none)
  (nLwA:findIn K (.ref WA) "low"=some none)
  (nHwA:findIn K (.ref WA) "high"=some none)
  (nAwA:findIn K (.ref WA) "amount"=some none)
  (uxiYA:findIn K (.ref WA) "__init__"=some (some (.ref fxiY)))
  (jxiY:isFn K (.ref fxiY)=true)
  (lxiY:FnX K fxiY "__init__" "CellStep.__init__" dk)
  (uxhYA:findIn K (.ref WA) "house"=some (some (.ref fxhY)))
  (jxhY:isFn K (.ref fxhY)=true)
  (lxhY:FnX K fxhY "house" "CellStep.house" cO)
  (uxpAA:findIn K (.ref WA) "spelled"=some (some (.ref fxpA)))
  (jxpA:isFn K (.ref fxpA)=true)
  (lxpA:FnX K fxpA "spelled" "TakeStep.spelled" cp)
  (uxsZA:findIn K (.ref WA) "sure"=some (some (.ref fxsZ)))
  (jxsZ:isFn K (.ref fxsZ)=true)
  (lxsZ:FnX K fxsZ "sure" "Step.sure" gb)
  (uxdAA:findIn K (.ref WA) "step_done"=some (some (.ref fxdA)))
  (jxdA:isFn K (.ref fxdA)=true)
  (lxdA:FnX K fxdA "step_done" "TakeStep.step_done" f9)
  (nwB:nsIn K mainGlobals "MeanStep"=some (some (.ref WB)))
  (pgwB:plainGet K WB Str.empty=true)
  (hdwB:hasDictIn K WB=true)
  (powB:plainOver K WB=true)
  (sawB:findIn K (.ref WB) "__setattr__"=some (some (.builtin "object.__setattr__")))
  (mkwB:makesIn K WB=true)
  (kcwB:keepIn K (.ref WB)=true)
  (nWwB:findIn K (.ref WB) "where"=some none)
  (nCwB:findIn K (.ref WB) "cell"=some none)
  (nLwB:findIn K (.ref WB) "low"=some none)
  (nHwB:findIn K (.ref WB) "high"=some none)
  (nAwB:findIn K (.ref WB) "amount"=some none)
  (uxiYB:findIn K (.ref WB) "__init__"=some (some (.ref fxiY)))
  (uxhYB:findIn K (.ref WB) "house"=some (some (.ref fxhY)))
  (uxpBB:findIn K (.ref WB) "spelled"=some (some (.ref fxpB)))
  (jxpB:isFn K (.ref fxpB)=true)
  (lxpB:FnX K fxpB "spelled" "MeanStep.spelled" cu)
  (uxsZB:findIn K (.ref WB) "sure"=some (some (.ref fxsZ)))
  (uxdBB:findIn K (.ref WB) "step_done"=some (some (.ref fxdB)))
  (jxdB:isFn K (.ref fxdB)=true)
  (lxdB:FnX K fxdB "step_done" "MeanStep.step_done" gf)
  (nwD:nsIn K mainGlobals "SumStep"=some (some (.ref WD)))
  (pgwD:plainGet K WD Str.empty=true)
  (hdwD:hasDictIn K WD=true)
  (powD:plainOver K WD=true)
  (sawD:findIn K (.ref WD) "__setattr__"=some (some (.builtin "object.__setattr__")))
  (mkwD:makesIn K WD=true)
  (kcwD:keepIn K (.ref WD)=true)
  (nWwD:findIn K (.ref WD) "where"=some none)
  (nCwD:findIn K (.ref WD) "cell"=some none)
  (nLwD:findIn K (.ref WD) "low"=some none)
  (nHwD:findIn K (.ref WD) "high"=some none)
  (nAwD:findIn K (.ref WD) "amount"=some none)
  (uxiDD:findIn K (.ref WD) "__init__"=some (some (.ref fxiD)))
  (jxiD:isFn K (.ref fxiD)=true)
  (lxiD:FnX K fxiD "__init__" "SumStep.__init__" dJ)
  (uxhDD:findIn K (.ref WD) "house"=some (some (.ref fxhD)))
  (jxhD:isFn K (.ref fxhD)=true)
  (lxhD:FnX K fxhD "house" "SumStep.house" db)
  (uxpDD:findIn K (.ref WD) "spelled"=some (some (.ref fxpD)))
  (jxpD:isFn K (.ref fxpD)=true)
  (lxpD:FnX K fxpD "spelled" "SumStep.spelled" cD)
  (uxsZD:findIn K (.ref WD) "sure"=some (some (.ref fxsZ)))
  (uxdDD:findIn K (.ref WD) "step_done"=some (some (.ref fxdD)))
  (jxdD:isFn K (.ref fxdD)=true)
  (lxdD:FnX K fxdD "step_done" "SumStep.step_done" gH)
  (nwE:nsIn K mainGlobals "GiveStep"=some (some (.ref WE)))
  (pgwE:plainGet K WE Str.empty=true)
  (hdwE:hasDictIn K WE=true)
  (powE:plainOver K WE=true)
  (sawE:findIn K (.ref WE) "__setattr__"=some (some (.builtin "object.__setattr__")))
  (mkwE:makesIn K WE=true)
  (kcwE:keepIn K (.ref WE)=true)
  (nWwE:findIn K (.ref WE) "where"=some none)
  (nCwE:findIn K (.ref WE) "cell"=some none)
  (nLwE:findIn K (.ref WE) "low"=some none)
  (nHwE:findIn K (.ref WE) "high"=some none)
  (nAwE:findIn K (.ref WE) "amount"=some none)
  (uxiYE:findIn K (.ref WE) "__init__"=some (some (.ref fxiY)))
  (uxhYE:findIn K (.ref WE) "house"=some (some (.ref fxhY)))
  (uxpEE:findIn K (.ref WE) "spelled"=some (some (.ref fxpE)))
  (jxpE:isFn K (.ref fxpE)=true)
  (lxpE:FnX K fxpE "spelled" "GiveStep.spelled" cv)
  (uxsEE:findIn K (.ref WE) "sure"=some (some (.ref fxsE)))
  (jxsE:isFn K (.ref fxsE)=true)
  (lxsE:FnX K fxsE "sure" "GiveStep.sure" dj)
  (uxdEE:findIn K (.ref WE) "step_done"=some (some (.ref fxdE)))
  (jxdE:isFn K (.ref fxdE)=true)
  (lxdE:FnX K fxdE "step_done" "GiveStep.step_done" gi)
  (nwF:nsIn K mainGlobals "AddStep"=some (some (.ref WF)))
  (pgwF:plainGet K WF Str.empty=true)
  (hdwF:hasDictIn K WF=true)
  (powF:plainOver K WF=true)
  (sawF:findIn K (.ref WF) "__setattr__"=some (some (.builtin "object.__setattr__")))
  (mkwF:makesIn K WF=true)
  (kcwF:keepIn K (.ref WF)=true)
  (nWwF:findIn K (.ref WF) "where"=some none)
  (nCwF:findIn K (.ref WF) "cell"=some none)
  (nLwF:findIn K (.ref WF) "low"=some none)
  (nHwF:findIn K (.ref WF) "high"=some none)
  (nAwF:findIn K (.ref WF) "amount"=some none)
  (uxiFF:findIn K (.ref WF) "__init__"=some (some (.ref fxiF)))
  (jxiF:isFn K (.ref fxiF)=true)
  (lxiF:FnX K fxiF "__init__" "AddStep.__init__" dL)
  (uxhYF:findIn K (.ref WF) "house"=some (some (.ref fxhY)))
  (uxpFF:findIn K (.ref WF) "spelled"=some (some (.ref fxpF)))
  (jxpF:isFn K (.ref fxpF)=true)
  (lxpF:FnX K fxpF "spelled" "AddStep.spelled" cH)
  (uxsZF:findIn K (.ref WF) "sure"=some (some (.ref fxsZ)))
  (uxdFF:findIn K (.ref WF) "step_done"=some (some (.ref fxdF)))
  (jxdF:isFn K (.ref fxdF)=true)
  (lxdF:FnX K fxdF "step_done" "AddStep.step_done" gI)
  (nwG:nsIn K mainGlobals "PlusStep"=some (some (.ref WG)))
  (pgwG:plainGet K WG Str.empty=true)
  (hdwG:hasDictIn K WG=true)
  (powG:plainOver K WG=true)
  (sawG:findIn K (.ref WG) "__setattr__"=some (some (.builtin "object.__setattr__")))
  (mkwG:makesIn K WG=true)
  (kcwG:keepIn K (.ref WG)=true)
  (nWwG:findIn K (.ref WG) "where"=some none)
  (nCwG:findIn K (.ref WG) "cell"=some none)
  (nLwG:findIn K (.ref WG) "low"=some none)
  (nHwG:findIn K (.ref WG) "high"=some none)
  (nAwG:findIn K (.ref WG) "amount"=some none)
  (uxiGG:findIn K (.ref WG) "__init__"=some (some (.ref fxiG)))
  (jxiG:isFn K (.ref fxiG)=true)
  (lxiG:FnX K fxiG "__init__" "PlusStep.__init__" df)
  (uxhZG:findIn K (.ref WG) "house"=some (some (.ref fxhZ)))
  (jxhZ:isFn K (.ref fxhZ)=true)
  (lxhZ:FnX K fxhZ "house" "Step.house" fh)
  (uxpGG:findIn K (.ref WG) "spelled"=some (some (.ref fxpG)))
  (jxpG:isFn K (.ref fxpG)=true)
  (lxpG:FnX K fxpG "spelled" "PlusStep.spelled" cq)
  (uxsZG:findIn K (.ref WG) "sure"=some (some (.ref fxsZ)))
  (uxdGG:findIn K (.ref WG) "step_done"=some (some (.ref fxdG)))
  (jxdG:isFn K (.ref fxdG)=true)
  (lxdG:FnX K fxdG "step_done" "PlusStep.step_done" bX)
  (nwN:nsIn K mainGlobals "NeedStep"=some (some (.ref WN)))
  (pgwN:plainGet K WN Str.empty=true)
  (hdwN:hasDictIn K WN=true)
  (powN:plainOver K WN=true)
  (sawN:findIn K (.ref WN) "__setattr__"=some (some (.builtin "object.__setattr__")))
  (mkwN:makesIn K WN=true)
  (kcwN:keepIn K (.ref WN)=true)
  (nWwN:findIn K (.ref WN) "where"=some none)
  (nCwN:findIn K (.ref WN) "cell"=some none)
  (nLwN:findIn K (.ref WN) "low"=some none)
  (nHwN:findIn K (.ref WN) "high"=some none)
  (nAwN:findIn K (.ref WN) "amount"=some none)
  (uxiNN:findIn K (.ref WN) "__init__"=some (some (.ref fxiN)))
  (jxiN:isFn K (.ref fxiN)=true)
  (lxiN:FnX K fxiN "__init__" "NeedStep.__init__" dg)
  (uxhZN:findIn K (.ref WN) "house"=some (some (.ref fxhZ)))
  (uxpNN:findIn K (.ref WN) "spelled"=some (some (.ref fxpN)))
  (jxpN:isFn K (.ref fxpN)=true)
  (lxpN:FnX K fxpN "spelled" "NeedStep.spelled" cr)
  (uxsZN:findIn K (.ref WN) "sure"=some (some (.ref fxsZ)))
  (uxdNN:findIn K (.ref WN) "step_done"=some (some (.ref fxdN)))
  (jxdN:isFn K (.ref fxdN)=true)
  (lxdN:FnX K fxdN "step_done" "NeedStep.step_done" bY)
  (nCY:nsIn K mainGlobals "CellStep"=some (some (.ref CY)))
  (gaY:specialIn K (.ref CY) "__getattribute__"=some (some (.builtin "type.__getattribute__")))
  (rdY:readsIn K CY (.type "type")=true)
  (fcY:findCls K (.ref CY) (.type "type") "__init__"=some (.val (.ref fxiY)))
  (hiY:handedIn (.ref fxiY)=true)
  (nP:nsIn K mainGlobals "Pact"=some (some (.ref CP)))
  (pgP:plainGet K CP Str.empty=true)
  (hdP:hasDictIn K CP=true)
  (poP:plainOver K CP=true)
  (saP:findIn K (.ref CP) "__setattr__"=some (some (.builtin "object.__setattr__")))
  (mkP:makesIn K CP=true)
  (kcP:keepIn K (.ref CP)=true)
  (nPm:findIn K (.ref CP) "manner"=some none)
  (nPs:findIn K (.ref CP) "steps"=some none)
  (nPp:findIn K (.ref CP) "parts"=some none)
  (api:findIn K (.ref CP) "__init__"=some (some (.ref fpi)))
  (jpi:isFn K (.ref fpi)=true)
  (lpi:FnX K fpi "__init__" "Pact.__init__" gc)
  (nS:nsIn K mainGlobals "Stand"=some (some (.ref CS)))
  (pgS:plainGet K CS Str.empty=true)
  (hdS:hasDictIn K CS=true)
  (poS:plainOver K CS=true)
  (saS:findIn K (.ref CS) "__setattr__"=some (some (.builtin "object.__setattr__")))
  (mkS:makesIn K CS=true)
  (kcS:keepIn K (.ref CS)=true)
  (qsc:findIn K (.ref CS) "cells"=some none)
  (qsb:findIn K (.ref CS) "begins"=some none)
  (qsw:findIn K (.ref CS) "worked"=some none)
  (qsr:findIn K (.ref CS) "readies"=some none)
  (qse:findIn K (.ref CS) "ends"=some none)
  (qsa:findIn K (.ref CS) "walks"=some none)
  (qso:findIn K (.ref CS) "overs"=some none)
  (asdI:findIn K (.ref CS) "__init__"=some (some (.ref fsdI)))
  (jsdI:isFn K (.ref fsdI)=true)
  (lsdI:FnX K fsdI "__init__" "Stand.__init__" fj)
  (asdN:findIn K (.ref CS) "news"=some (some (.ref fsdN)))
  (jsdN:isFn K (.ref fsdN)=true)
  (lsdN:FnX K fsdN "news" "Stand.news" fi)
  (nH:nsIn K mainGlobals "Sheet"=some (some (.ref CH)))
  (pgH:plainGet K CH Str.empty=true)
  (hdH:hasDictIn K CH=true)
  (poH:plainOver K CH=true)
  (saH:findIn K (.ref CH) "__setattr__"=some (some (.builtin "object.__setattr__")))
  (mkH:makesIn K CH=true)
  (kcH:keepIn K (.ref CH)=true)
  (qhs:findIn K (.ref CH) "stand"=some none)
  (qhr:findIn K (.ref CH) "rows"=some none)
  (qhe:findIn K (.ref CH) "sent"=some none)
  (qhl:findIn K (.ref CH) "latest"=some none)
  (nKH:findIn K (.ref CH) "spelled"=some none)
  (ashI:findIn K (.ref CH) "__init__"=some (some (.ref fshI)))
  (jshI:isFn K (.ref fshI)=true)
  (lshI:FnX K fshI "__init__" "Sheet.__init__" fo)
  (ashS:findIn K (.ref CH) "send"=some (some (.ref fshS)))
  (jshS:isFn K (.ref fshS)=true)
  (lshS:FnX K fshS "send" "Sheet.send" fm)
  (ashW:findIn K (.ref CH) "rows_told"=some (some (.ref fshW)))
  (jshW:isFn K (.ref fshW)=true)
  (lshW:FnX K fshW "rows_told" "Sheet.rows_told" cE)
  (ashL:findIn K (.ref CH) "letters_told"=some (some (.ref fshL)))
  (jshL:isFn K (.ref fshL)=true)
  (lshL:FnX K fshL "letters_told" "Sheet.letters_told" aY)
  (nL:nsIn K mainGlobals "HeldLead"=some (some (.ref CLH)))
  (pgL:plainGet K CLH Str.empty=true)
  (hdL:hasDictIn K CLH=true)
  (poL:plainOver K CLH=true)
  (saL:findIn K (.ref CLH) "__setattr__"=some (some (.builtin "object.__setattr__")))
  (mkL:makesIn K CLH=true)
  (kcL:keepIn K (.ref CLH)=true)
  (qan:findIn K (.ref CLH) "name"=some none)
  (qas:findIn K (.ref CLH) "steps"=some none)
  (qah:findIn K (.ref CLH) "houses"=some none)
  (qad:findIn K (.ref CLH) "hands"=some none)
  (qat:findIn K (.ref CLH) "turns"=some none)
  (qam:findIn K (.ref CLH) "named"=some none)
  (qac:findIn K (.ref CLH) "closed"=some none)
  (qag:findIn K (.ref CLH) "agreed"=some none)
  (nKL:findIn K (.ref CLH) "spelled"=some none)
  (nSL:findIn K (.ref CLH) "send"=some none)
  (aleT:findIn K (.ref CLH) "turn"=some (some (.ref fleT)))
  (jleT:isFn K (.ref fleT)=true)
  (lleT:FnX K fleT "turn" "Lead.turn" gg)
  (aleG:findIn K (.ref CLH) "go"=some (some (.ref fleG)))
  (jleG:isFn K (.ref fleG)=true)
  (lleG:FnX K fleG "go" "Lead.go" i4)
  (aleN:findIn K (.ref CLH) "naming"=some (some (.ref fleN)))
  (jleN:isFn K (.ref fleN)=true)
  (lleN:FnX K fleN "naming" "Lead.naming" eF)
  (aleO:findIn K (.ref CLH) "own_steps_done"=some (some (.ref fleO)))
  (jleO:isFn K (.ref fleO)=true)
  (lleO:FnX K fleO "own_steps_done" "Lead.own_steps_done" bR)
  (aleX:findIn K (.ref CLH) "next_house"=some (some (.ref fleX)))
  (jleX:isFn K (.ref fleX)=true)
  (lleX:FnX K fleX "next_house" "Lead.next_house" cG)
  (aleP:findIn K (.ref CLH) "present_hand"=some (some (.ref fleP)))
  (jleP:isFn K (.ref fleP)=true)
  (lleP:FnX K fleP "present_hand" "Lead.present_hand" cg)
  (aleS:findIn K (.ref CLH) "send_step"=some (some (.ref fleS)))
  (jleS:isFn K (.ref fleS)=true)
  (lleS:FnX K fleS "send_step" "Lead.send_step" cL)
  (aleA:findIn K (.ref CLH) "is_answer"=some (some (.ref fleA)))
  (jleA:isFn K (.ref fleA)=true)
  (lleA:FnX K fleA "is_answer" "Lead.is_answer" cN)
  (aleE:findIn K (.ref CLH) "end"=some (some (.ref fleE)))
  (jleE:isFn K (.ref fleE)=true)
  (lleE:FnX K fleE "end" "Lead.end" gZ)
  (aheI:findIn K (.ref CLH) "__init__"=some (some (.ref fheI)))
  (jheI:isFn K (.ref fheI)=true)
  (lheI:FnX K fheI "__init__" "HeldLead.__init__" dh)
  (aheG:findIn K (.ref CLH) "go_ahead"=some (some (.ref fheG)))
  (jheG:isFn K (.ref fheG)=true)
  (lheG:FnX K fheG "go_ahead" "HeldLead.go_ahead" ci)
  (aheC:findIn K (.ref CLH) "came"=some (some (.ref fheC)))
  (jheC:isFn K (.ref fheC)=true)
  (lheC:FnX K fheC "came" "HeldLead.came" di)
  (aheL:findIn K (.ref CLH) "silent"=some (some (.ref fheL)))
  (jheL:isFn K (.ref fheL)=true)
  (lheL:FnX K fheL "silent" "HeldLead.silent" bq)
  (aheD:findIn K (.ref CLH) "done_if_all_agree"=some (some (.ref fheD)))
  (jheD:isFn K (.ref fheD)=true)
  (lheD:FnX K fheD "done_if_all_agree" "HeldLead.done_if_all_agree" bb)
  (aheF:findIn K (.ref CLH) "go_from_end"=some (some (.ref fheF)))
  (jheF:isFn K (.ref fheF)=true)
  (lheF:FnX K fheF "go_from_end" "HeldLead.go_from_end" bO)
  (aheB:findIn K (.ref CLH) "go_behind"=some (some (.ref fheB)))
  (jheB:isFn K (.ref fheB)=true)
  (lheB:FnX K fheB "go_behind" "HeldLead.go_behind" bZ)
  (nM:nsIn K mainGlobals "WalkedLead"=some (some (.ref CLW)))
  (pgM:plainGet K CLW Str.empty=true)
  (hdM:hasDictIn K CLW=true)
  (poM:plainOver K CLW=true)
  (saM:findIn K (.ref CLW) "__setattr__"=some (some (.builtin "object.__setattr__")))
  (mkM:makesIn K CLW=true)
  (kcM:keepIn K (.ref CLW)=true)
  (rqan:findIn K (.ref CLW) "name"=some none)
  (rqas:findIn K (.ref CLW) "steps"=some none)
  (rqah:findIn K (.ref CLW) "houses"=some none)
  (rqad:findIn K (.ref CLW) "hands"=some none)
  (rqat:findIn K (.ref CLW) "turns"=some none)
  (rqam:findIn K (.ref CLW) "named"=some none)
  (rqac:findIn K (.ref CLW) "closed"=some none)
  (qbd:findIn K (.ref CLW) "bend"=some none)
  (qun:findIn K (.ref CLW) "undoing"=some none)
  (qsg:findIn K (.ref CLW) "signed"=some none)
  (nKM:findIn K (.ref CLW) "spelled"=some none)
  (nSM:findIn K (.ref CLW) "send"=some none)
  (vleT:findIn K (.ref CLW) "turn"=some (some (.ref fleT)))
  (vleG:findIn K (.ref CLW) "go"=some (some (.ref fleG)))
  (vleN:findIn K (.ref CLW) "naming"=some (some (.ref fleN)))
  (vleO:findIn K (.ref CLW) "own_steps_done"=some (some (.ref fleO)))
  (vleX:findIn K (.ref CLW) "next_house"=some (some (.ref fleX)))
  (vleP:findIn K (.ref CLW) "present_hand"=some (some (.ref fleP)))
  (vleS:findIn K (.ref CLW) "send_step"=some (some (.ref fleS)))
  (vleA:findIn K (.ref CLW) "is_answer"=some (some (.ref fleA)))
  (awlI:findIn K (.ref CLW) "__init__"=some (some (.ref fwlI)))
  (jwlI:isFn K (.ref fwlI)=true)
  (lwlI:FnX K fwlI "__init__" "WalkedLead.__init__" bp)
  (awlG:findIn K (.ref CLW) "go_ahead"=some (some (.ref fwlG)))
  (jwlG:isFn K (.ref fwlG)=true)
  (lwlG:FnX K fwlG "go_ahead" "WalkedLead.go_ahead" bQ)
  (awlC:findIn K (.ref CLW) "came"=some (some (.ref fwlC)))
  (jwlC:isFn K (.ref fwlC)=true)
  (lwlC:FnX K fwlC "came" "WalkedLead.came" cC)
  (awlK:findIn K (.ref CLW) "is_walking"=some (some (.ref fwlK)))
  (jwlK:isFn K (.ref fwlK)=true)
  (lwlK:FnX K fwlK "is_walking" "WalkedLead.is_walking" bE)
  (awlB:findIn K (.ref CLW) "go_behind"=some (some (.ref fwlB)))
  (jwlB:isFn K (.ref fwlB)=true)
  (lwlB:FnX K fwlB "go_behind" "WalkedLead.go_behind" bM)
  (nCA:nsIn K mainGlobals "Lead"=some (some (.ref CA)))
  (gaA:specialIn K (.ref CA) "__getattribute__"=some (some (.builtin "type.__getattribute__")))
  (rdA:readsIn K CA (.type "type")=true)
  (fcA:findCls K (.ref CA) (.type "type") "__init__"=some (.val (.ref fleI)))
  (hiA:handedIn (.ref fleI)=true)
  (jleI:isFn K (.ref fleI)=true)
  (lleI:FnX K fleI "__init__" "Lead.__init__" gh)
  (haL:findIn K (.ref CLH) "__class__"=some (some (.builtin "object.__class__")))
  (hmL:mroIn K CLH (.type "object")=some true)
  (iAL:kitOne K (.ref CLH) (.ref CA)=some true)
  (iBLL:kitOne K (.ref CLH) (.ref CLH)=some true)
  (iBLM:kitOne K (.ref CLH) (.ref CLW)=some false)
  (haM:findIn K (.ref CLW) "__class__"=some (some (.builtin "object.__class__")))
  (hmM:mroIn K CLW (.type "object")=some true)
  (iAM:kitOne K (.ref CLW) (.ref CA)=some true)
  (iBML:kitOne K (.ref CLW) (.ref CLH)=some false)
  (iBMM:kitOne K (.ref CLW) (.ref CLW)=some true)
  (hn:specialIn K (.builtin "object.__class__") "__get__"=some (some (.builtin "getset_descriptor.__get__")))
  (htk:takesIn K (.builtin "object.__class__")=some true)
  (aW1:nsIn K mainGlobals "is_whole"=some (some (.ref fW1)))
  (lW1:FnX K fW1 "is_whole" "is_whole" jO)
  (aH1:nsIn K mainGlobals "shown"=some (some (.ref fH1)))
  (lH1:FnX K fH1 "shown" "shown" p8)
  (aR1:nsIn K mainGlobals "read_thing"=some (some (.ref fR1)))
  (lR1:FnX K fR1 "read_thing" "read_thing" ii)
  (aG1:nsIn K mainGlobals "is_sign"=some (some (.ref fG1)))
  (lG1:FnX K fG1 "is_sign" "is_sign" kJ)
  (aP1:nsIn K mainGlobals "spell"=some (some (.ref fP1)))
  (lP1:FnX K fP1 "spell" "spell" ig)
  (aS1:nsIn K mainGlobals "read_step"=some (some (.ref fS1)))
  (lS1:FnX K fS1 "read_step" "read_step" cV)
  (aN1:nsIn K mainGlobals "read_number"=some (some (.ref fN1)))
  (lN1:FnX K fN1 "read_number" "read_number" ed)
  (aM1:nsIn K mainGlobals "made_step"=some (some (.ref fM1)))
  (lM1:FnX K fM1 "made_step" "made_step" fU)
  (aU1:nsIn K mainGlobals "made_sum"=some (some (.ref fU1)))
  (lU1:FnX K fU1 "made_sum" "made_sum" gV)
  (aA3:nsIn K mainGlobals "read_part"=some (some (.ref fA3)))
  (lA3:FnX K fA3 "read_part" "read_part" fT)
  (aB3:nsIn K mainGlobals "read_pact"=some (some (.ref fB3)))
  (lB3:FnX K fB3 "read_pact" "read_pact" cW)
  (aC3:nsIn K mainGlobals "houses_of"=some (some (.ref fC3)))
  (lC3:FnX K fC3 "houses_of" "houses_of" cX)
  (aD3:nsIn K mainGlobals "turning"=some (some (.ref fD3)))
  (lD3:FnX K fD3 "turning" "turning" iR)
  (aV1:nsIn K mainGlobals "no_value"=some (some (.ref fV1)))
  (lV1:FnX K fV1 "no_value" "no_value" oX)
  (aY3:nsIn K mainGlobals "lead_of"=some (some (.ref fY3)))
  (lY3:FnX K fY3 "lead_of" "lead_of" iT)
  (aA2:nsIn K mainGlobals "_law_cell_at"=some (some (.ref fA2)))
  (lA2:FnX K fA2 "_law_cell_at" "_law_cell_at" dz)
  (aS2:nsIn K mainGlobals "_law_step"=some (some (.ref fS2)))
  (lS2:FnX K fS2 "_law_step" "_law_step" fV)
  (aH2:nsIn K mainGlobals "_law_houses"=some (some (.ref fH2)))
  (lH2:FnX K fH2 "_law_houses" "_law_houses" cj)
  (aN2:nsIn K mainGlobals "_law_next"=some (some (.ref fN2)))
  (lN2:FnX K fN2 "_law_next" "_law_next" fX)
  (aD2:nsIn K mainGlobals "_law_due"=some (some (.ref fD2)))
  (lD2:FnX K fD2 "_law_due" "_law_due" dy)
  (aE2:nsIn K mainGlobals "_law_ended"=some (some (.ref fE2)))
  (lE2:FnX K fE2 "_law_ended" "_law_ended" cB)
  (aP2:nsIn K mainGlobals "_law_played"=some (some (.ref fP2)))
  (lP2:FnX K fP2 "_law_played" "_law_played" eB)
  (aZ:nsIn K mainGlobals "law"=some (some (.ref fZ)))
  (lZ:FnX K fZ "law" "law" jN)
  (y_isinstance:nsIn K mainGlobals "isinstance"=some none)
  (y_int:nsIn K mainGlobals "int"=some none)
  (y_bool:nsIn K mainGlobals "bool"=some none)
  (y_str:nsIn K mainGlobals "str"=some none)
  (y_len:nsIn K mainGlobals "len"=some none)
  (y_range:nsIn K mainGlobals "range"=some none)
  (y_tuple:nsIn K mainGlobals "tuple"=some none)
  (y_list:nsIn K mainGlobals "list"=some none)
  (y_any:nsIn K mainGlobals "any"=some none)
  (y_all:nsIn K mainGlobals "all"=some none)
  (y_max:nsIn K mainGlobals "max"=some none)
  (y_sorted:nsIn K mainGlobals "sorted"=some none)
  (y_ord:nsIn K mainGlobals "ord"=some none)
  (y_set:nsIn K mainGlobals "set"=some none)
  (q_MOST_FIGURES_things:nsIn K mainGlobals "MOST_FIGURES_things"=some (some (.int 400 t_MOST_FIGURES_things)))
  (q_MOST_SIGNS:nsIn K mainGlobals "MOST_SIGNS"=some (some (.int 2000 t_MOST_SIGNS)))
  (q_MOST_DEEP:nsIn K mainGlobals "MOST_DEEP"=some (some (.int 8 t_MOST_DEEP)))
  (q_LONGEST:nsIn K mainGlobals "LONGEST"=some (some (.int 100000 t_LONGEST)))
  (q_BLANK:nsIn K mainGlobals "BLANK"=some (some (.int 32 t_BLANK)))
  (q_PERCENT:nsIn K mainGlobals "PERCENT"=some (some (.int 37 t_PERCENT)))
  (q_TILDE:nsIn K mainGlobals "TILDE"=some (some (.int 126 t_TILDE)))
  (q_MOST_FIGURES_steps:nsIn K mainGlobals "MOST_FIGURES_steps"=some (some (.int 40 t_MOST_FIGURES_steps)))
  (q_MOST_STEPS:nsIn K mainGlobals "MOST_STEPS"=some (some (.int 12 t_MOST_STEPS)))
  (q_PATIENCE:nsIn K mainGlobals "PATIENCE"=some (some (.int 4 t_PATIENCE)))
  (nSh:nsIn K mainGlobals "SHAPES"=some (some (.ref aSh)))
  (lSh:K.lookup aSh=some ⟨.type "dict",none,.dict esR epR,#[]⟩)
  (qSh:(aSh==sysModules)=false)
  (tSh:PyProof.Rows.KTD.rowsLook wf esR.toList ju=true)
  (nMnn:nsIn K mainGlobals "MANNERS"=some (some (.ref aMn)))
  (lMn:K.lookup aMn=some ⟨.type "tuple",dMn,.seq #[.str "held" mn1,.str "walked" mn2] nMn,sMn⟩)
  (nNo:nsIn K mainGlobals "NoThing"=some (some (.ref CNo)))
  (xNo:excIn K CNo bmV "ValueError.__new__"=true) :
  ∃fd:FuncData,(∀(s:Shared) (v:Value),BindsTo s fd ⟨[v],[]⟩ [("_law_script",v)])/\∀base:Heap,K.In base->base.Ns mainGlobals mg->FnOk l.prog w K mg base CX0 11 fa fd ["_law_script"] (p4 K):=by
 have e:=hfa.symm.trans (PySem.W.mg_of X G aZ)
 cases e
 obtain ⟨dri,Fri⟩:=lri
 have eri:=Fri.kp
 have bri:=Fri.b2 "self" "text" λ_ _ _ _ _ _ _ _=>rfl
 obtain ⟨drp,Frp⟩:=lrp
 have erp:=Frp.kp
 have brp:=Frp.b2 "self" "sign" λ_ _ _ _ _ _ _ _=>rfl
 obtain ⟨dra,Fra⟩:=lra
 have era:=Fra.kp
 have bra:=Fra.b2 "self" "deep" λ_ _ _ _ _ _ _ _=>rfl
 obtain ⟨drb,Frb⟩:=lrb
 have erb:=Frb.kp
 have brb:=Frb.b1 "self" λ_ _ _ _ _ _ _=>rfl
 obtain ⟨drn,Frn⟩:=lrn
 have ern:=Frn.kp
 have brn:=Frn.b1 "self" λ_ _ _ _ _ _ _=>rfl
 obtain ⟨drx,Frx⟩:=lrx
 have erx:=Frx.kp
 have brx:=Frx.b2 "self" "many" λ_ _ _ _ _ _ _ _=>rfl
 obtain ⟨dxiY,FxiY⟩:=lxiY
 have exiY:=FxiY.kp
 have bxiY:=FxiY.b3 "self" "where" "cell" λ_ _ _ _ _ _ _ _ _=>rfl
 obtain ⟨dxhY,FxhY⟩:=lxhY
 have exhY:=FxhY.kp
 have bxhY:=FxhY.b1 "self" λ_ _ _ _ _ _ _=>rfl
 obtain ⟨dxpA,FxpA⟩:=lxpA
 have expA:=FxpA.kp
 have bxpA:=FxpA.b1 "self" λ_ _ _ _ _ _ _=>rfl
 obtain ⟨dxsZ,FxsZ⟩:=lxsZ
 have exsZ:=FxsZ.kp
 have bxsZ:=FxsZ.b1 "self" λ_ _ _ _ _ _ _=>rfl
 obtain ⟨dxdA,FxdA⟩:=lxdA
 have exdA:=FxdA.kp
 have bxdA:=FxdA.b3 "self" "hand" "value_of" λ_ _ _ _ _ _ _ _ _=>rfl
 obtain ⟨dxpB,FxpB⟩:=lxpB
 have expB:=FxpB.kp
 have bxpB:=FxpB.b1 "self" λ_ _ _ _ _ _ _=>rfl
 obtain ⟨dxdB,FxdB⟩:=lxdB
 have exdB:=FxdB.kp
 have bxdB:=FxdB.b3 "self" "hand" "value_of" λ_ _ _ _ _ _ _ _ _=>rfl
 obtain ⟨dxiD,FxiD⟩:=lxiD
 have exiD:=FxiD.kp
 have bxiD:=FxiD.b4 "self" "where" "low" "high" λ_ _ _ _ _ _ _ _ _ _=>rfl
 obtain ⟨dxhD,FxhD⟩:=lxhD
 have exhD:=FxhD.kp
 have bxhD:=FxhD.b1 "self" λ_ _ _ _ _ _ _=>rfl
 obtain ⟨dxpD,FxpD⟩:=lxpD
 have expD:=FxpD.kp
 have bxpD:=FxpD.b1 "self" λ_ _ _ _ _ _ _=>rfl
 obtain ⟨dxdD,FxdD⟩:=lxdD
 have exdD:=FxdD.kp
 have bxdD:=FxdD.b3 "self" "hand" "value_of" λ_ _ _ _ _ _ _ _ _=>rfl
 obtain ⟨dxpE,FxpE⟩:=lxpE
 have expE:=FxpE.kp
 have bxpE:=FxpE.b1 "self" λ_ _ _ _ _ _ _=>rfl
 obtain ⟨dxsE,FxsE⟩:=lxsE
 have exsE:=FxsE.kp
 have bxsE:=FxsE.b1 "self" λ_ _ _ _ _ _ _=>rfl
 obtain ⟨dxdE,FxdE⟩:=lxdE
 have exdE:=FxdE.kp
 have bxdE:=FxdE.b3 "self" "hand" "value_of" λ_ _ _ _ _ _ _ _ _=>rfl
 obtain ⟨dxiF,FxiF⟩:=lxiF
 have exiF:=FxiF.kp
 have bxiF:=FxiF.b4 "self" "where" "cell" "amount" λ_ _ _ _ _ _ _ _ _ _=>rfl
 obtain ⟨dxpF,FxpF⟩:=lxpF
 have expF:=FxpF.kp
 have bxpF:=FxpF.b1 "self" λ_ _ _ _ _ _ _=>rfl
 obtain ⟨dxdF,FxdF⟩:=lxdF
 have exdF:=FxdF.kp
 have bxdF:=FxdF.b3 "self" "hand" "value_of" λ_ _ _ _ _ _ _ _ _=>rfl
 obtain ⟨dxiG,FxiG⟩:=lxiG
 have exiG:=FxiG.kp
 have bxiG:=FxiG.b2 "self" "amount" λ_ _ _ _ _ _ _ _=>rfl
 obtain ⟨dxhZ,FxhZ⟩:=lxhZ
 have exhZ:=FxhZ.kp
 have bxhZ:=FxhZ.b1 "self" λ_ _ _ _ _ _ _=>rfl
 obtain ⟨dxpG,FxpG⟩:=lxpG
 have expG:=FxpG.kp
 have bxpG:=FxpG.b1 "self" λ_ _ _ _ _ _ _=>rfl
 obtain ⟨dxdG,FxdG⟩:=lxdG
 have exdG:=FxdG.kp
 have bxdG:=FxdG.b3 "self" "hand" "value_of" λ_ _ _ _ _ _ _ _ _=>rfl
 obtain ⟨dxiN,FxiN⟩:=lxiN
 have exiN:=FxiN.kp
 have bxiN:=FxiN.b2 "self" "amount" λ_ _ _ _ _ _ _ _=>rfl
 obtain ⟨dxpN,FxpN⟩:=lxpN
 have expN:=FxpN.kp
 have bxpN:=FxpN.b1 "self" λ_ _ _ _ _ _ _=>rfl
 obtain ⟨dxdN,FxdN⟩:=lxdN
 have exdN:=FxdN.kp
 have bxdN:=FxdN.b3 "self" "hand" "value_of" λ_ _ _ _ _ _ _ _ _=>rfl
 have W:TxW K (wmk WA WB WD WE WF WG WN):=⟨λk=>match k with | .take=>⟨pgwA,hdwA,powA,sawA⟩ | .mean=>⟨pgwB,hdwB,powB,sawB⟩ | .sum=>⟨pgwD,hdwD,powD,sawD⟩ | .give=>⟨pgwE,hdwE,powE,sawE⟩ | .add=>⟨pgwF,hdwF,powF,sawF⟩ | .plus=>⟨pgwG,hdwG,powG,sawG⟩ | .need=>⟨pgwN,hdwN,powN,sawN⟩,λk=>match k with | .take=>nWwA | .mean=>nWwB | .sum=>nWwD | .give=>nWwE | .add=>nWwF | .plus=>nWwG | .need=>nWwN,λk=>match k with | .take=>nCwA | .mean=>nCwB | .sum=>nCwD | .give=>nCwE | .add=>nCwF | .plus=>nCwG | .need=>nCwN,λk=>match k with | .take=>nLwA | .mean=>nLwB | .sum=>nLwD | .give=>nLwE | .add=>nLwF | .plus=>nLwG | .need=>nLwN,λk=>match k with | .take=>nHwA | .mean=>nHwB | .sum=>nHwD | .give=>nHwE | .add=>nHwF | .plus=>nHwG | .need=>nHwN,λk=>match k with | .take=>nAwA | .mean=>nAwB | .sum=>nAwD | .give=>nAwE | .add=>nAwF | .plus=>nAwG | .need=>nAwN⟩
 obtain ⟨dpi,Fpi⟩:=lpi
 have epi:=Fpi.kp
 have bpi:=Fpi.b3 "self" "manner" "steps" λ_ _ _ _ _ _ _ _ _=>rfl
 have TP:TxP K CP:=⟨⟨pgP,hdP,poP,saP⟩,nPm,nPs,nPp⟩
 obtain ⟨dsdI,FsdI⟩:=lsdI
 have esdI:=FsdI.kp
 have bsdI:=FsdI.b2 "self" "cells" λ_ _ _ _ _ _ _ _=>rfl
 obtain ⟨dsdN,FsdN⟩:=lsdN
 have esdN:=FsdN.kp
 have bsdN:=FsdN.b1 "self" λ_ _ _ _ _ _ _=>rfl
 obtain ⟨dshI,FshI⟩:=lshI
 have eshI:=FshI.kp
 have bshI:=FshI.b2 "self" "stand" λ_ _ _ _ _ _ _ _=>rfl
 obtain ⟨dshS,FshS⟩:=lshS
 have eshS:=FshS.kp
 have bshS:=FshS.b5 "self" "to" "word" "p" "more" λ_ _ _ _ _ _ _ _ _ _ _=>rfl
 obtain ⟨dshW,FshW⟩:=lshW
 have eshW:=FshW.kp
 have bshW:=FshW.b1 "self" λ_ _ _ _ _ _ _=>rfl
 obtain ⟨dshL,FshL⟩:=lshL
 have eshL:=FshL.kp
 have bshL:=FshL.b1 "self" λ_ _ _ _ _ _ _=>rfl
 obtain ⟨dleT,FleT⟩:=lleT
 have eleT:=FleT.kp
 have bleT:=FleT.b2 "self" "sheet" λ_ _ _ _ _ _ _ _=>rfl
 obtain ⟨dleG,FleG⟩:=lleG
 have eleG:=FleG.kp
 have bleG:=FleG.b2 "self" "sheet" λ_ _ _ _ _ _ _ _=>rfl
 obtain ⟨dleN,FleN⟩:=lleN
 have eleN:=FleN.kp
 have bleN:=FleN.b2 "self" "outcome" λ_ _ _ _ _ _ _ _=>rfl
 obtain ⟨dleO,FleO⟩:=lleO
 have eleO:=FleO.kp
 have bleO:=FleO.b1 "self" λ_ _ _ _ _ _ _=>rfl
 obtain ⟨dleX,FleX⟩:=lleX
 have eleX:=FleX.kp
 have bleX:=FleX.b1 "self" λ_ _ _ _ _ _ _=>rfl
 obtain ⟨dleP,FleP⟩:=lleP
 have eleP:=FleP.kp
 have bleP:=FleP.b1 "self" λ_ _ _ _ _ _ _=>rfl
 obtain ⟨dleS,FleS⟩:=lleS
 have eleS:=FleS.kp
 have bleS:=FleS.b3 "self" "sheet" "word" λ_ _ _ _ _ _ _ _ _=>rfl
 obtain ⟨dleA,FleA⟩:=lleA
 have eleA:=FleA.kp
 have bleA:=FleA.b2 "self" "more" λ_ _ _ _ _ _ _ _=>rfl
 obtain ⟨dleE,FleE⟩:=lleE
 have eleE:=FleE.kp
 have bleE:=FleE.b3 "self" "sheet" "outcome" λ_ _ _ _ _ _ _ _ _=>rfl
 obtain ⟨dheI,FheI⟩:=lheI
 have eheI:=FheI.kp
 have bheI:=FheI.b3 "self" "name" "pact" λ_ _ _ _ _ _ _ _ _=>rfl
 obtain ⟨dheG,FheG⟩:=lheG
 have eheG:=FheG.kp
 have bheG:=FheG.b2 "self" "sheet" λ_ _ _ _ _ _ _ _=>rfl
 obtain ⟨dheC,FheC⟩:=lheC
 have eheC:=FheC.kp
 have bheC:=FheC.b5 "self" "sheet" "word" "sender" "more" λ_ _ _ _ _ _ _ _ _ _ _=>rfl
 obtain ⟨dheL,FheL⟩:=lheL
 have eheL:=FheL.kp
 have bheL:=FheL.b1 "self" λ_ _ _ _ _ _ _=>rfl
 obtain ⟨dheD,FheD⟩:=lheD
 have eheD:=FheD.kp
 have bheD:=FheD.b1 "self" λ_ _ _ _ _ _ _=>rfl
 obtain ⟨dheF,FheF⟩:=lheF
 have eheF:=FheF.kp
 have bheF:=FheF.b2 "self" "sheet" λ_ _ _ _ _ _ _ _=>rfl
 obtain ⟨dheB,FheB⟩:=lheB
 have eheB:=FheB.kp
 have bheB:=FheB.b2 "self" "sheet" λ_ _ _ _ _ _ _ _=>rfl
 obtain ⟨dwlI,FwlI⟩:=lwlI
 have ewlI:=FwlI.kp
 have bwlI:=FwlI.b3 "self" "name" "pact" λ_ _ _ _ _ _ _ _ _=>rfl
 obtain ⟨dwlG,FwlG⟩:=lwlG
 have ewlG:=FwlG.kp
 have bwlG:=FwlG.b2 "self" "sheet" λ_ _ _ _ _ _ _ _=>rfl
 obtain ⟨dwlC,FwlC⟩:=lwlC
 have ewlC:=FwlC.kp
 have bwlC:=FwlC.b5 "self" "sheet" "word" "sender" "more" λ_ _ _ _ _ _ _ _ _ _ _=>rfl
 obtain ⟨dwlK,FwlK⟩:=lwlK
 have ewlK:=FwlK.kp
 have bwlK:=FwlK.b1 "self" λ_ _ _ _ _ _ _=>rfl
 obtain ⟨dwlB,FwlB⟩:=lwlB
 have ewlB:=FwlB.kp
 have bwlB:=FwlB.b2 "self" "sheet" λ_ _ _ _ _ _ _ _=>rfl
 obtain ⟨dleI,FleI⟩:=lleI
 have eleI:=FleI.kp
 have bleI:=FleI.b3 "self" "name" "pact" λ_ _ _ _ _ _ _ _ _=>rfl
 have D:TxD K CS:=⟨⟨pgS,hdS,poS,saS⟩,qsc,qsb,qsw,qsr,qse,qsa,qso⟩
 have DH:TxH K CH:=⟨⟨pgH,hdH,poH,saH⟩,qhs,qhr,qhe,qhl⟩
 have TAh:TxA K CLH:=⟨⟨pgL,hdL,poL,saL⟩,qan,qas,qah,qad,qat,qam,qac⟩
 have TAw:TxA K CLW:=⟨⟨pgM,hdM,poM,saM⟩,rqan,rqas,rqah,rqad,rqat,rqam,rqac⟩
 have TCh:TxC K (wmk WA WB WD WE WF WG WN) CLH CH:=⟨TAh,λk=>match k with | .take=>λe=>(by have e':WA=CLH:=e;rw [← e',uxpAA] at nKL;cases nKL) | .mean=>λe=>(by have e':WB=CLH:=e;rw [← e',uxpBB] at nKL;cases nKL) | .sum=>λe=>(by have e':WD=CLH:=e;rw [← e',uxpDD] at nKL;cases nKL) | .give=>λe=>(by have e':WE=CLH:=e;rw [← e',uxpEE] at nKL;cases nKL) | .add=>λe=>(by have e':WF=CLH:=e;rw [← e',uxpFF] at nKL;cases nKL) | .plus=>λe=>(by have e':WG=CLH:=e;rw [← e',uxpGG] at nKL;cases nKL) | .need=>λe=>(by have e':WN=CLH:=e;rw [← e',uxpNN] at nKL;cases nKL),λk=>match k with | .take=>λe=>(by have e':WA=CH:=e;rw [← e',uxpAA] at nKH;cases nKH) | .mean=>λe=>(by have e':WB=CH:=e;rw [← e',uxpBB] at nKH;cases nKH) | .sum=>λe=>(by have e':WD=CH:=e;rw [← e',uxpDD] at nKH;cases nKH) | .give=>λe=>(by have e':WE=CH:=e;rw [← e',uxpEE] at nKH;cases nKH) | .add=>λe=>(by have e':WF=CH:=e;rw [← e',uxpFF] at nKH;cases nKH) | .plus=>λe=>(by have e':WG=CH:=e;rw [← e',uxpGG] at nKH;cases nKH) | .need=>λe=>(by have e':WN=CH:=e;rw [← e',uxpNN] at nKH;cases nKH),λe=>by rw [e,ashS] at nSL;cases nSL⟩
 have TCw:TxC K (wmk WA WB WD WE WF WG WN) CLW CH:=⟨TAw,λk=>match k with | .take=>λe=>(by have e':WA=CLW:=e;rw [← e',uxpAA] at nKM;cases nKM) | .mean=>λe=>(by have e':WB=CLW:=e;rw [← e',uxpBB] at nKM;cases nKM) | .sum=>λe=>(by have e':WD=CLW:=e;rw [← e',uxpDD] at nKM;cases nKM) | .give=>λe=>(by have e':WE=CLW:=e;rw [← e',uxpEE] at nKM;cases nKM) | .add=>λe=>(by have e':WF=CLW:=e;rw [← e',uxpFF] at nKM;cases nKM) | .plus=>λe=>(by have e':WG=CLW:=e;rw [← e',uxpGG] at nKM;cases nKM) | .need=>λe=>(by have e':WN=CLW:=e;rw [← e',uxpNN] at nKM;cases nKM),TCh.n2,λe=>by rw [e,ashS] at nSM;cases nSM⟩
 have TCb:∀b,TxC K (wmk WA WB WD WE WF WG WN) (lmk CLH CLW b) CH:=λb=>match b with | true=>TCw | false=>TCh
 have TI:TxI K mg (lmk CLH CLW) CA:=⟨mg_of X G nCA,λb=>match b with | true=>mg_of X G nM | false=>mg_of X G nL,λb=>match b with | true=>haM | false=>haL,hn,htk,λb=>match b with | true=>hmM | false=>hmL,λb c=>match b,c with | true,true=>iBMM | true,false=>iBML | false,true=>iBLM | false,false=>iBLL,λb=>match b with | true=>iAM | false=>iAL⟩
 obtain ⟨dW1,FW1⟩:=lW1
 have eW1:=FW1.kp
 have bW1:=FW1.b1 "thing" λ_ _ _ _ _ _ _=>rfl
 have mW1:mg "is_whole"=some (.ref fW1):=mg_of X G aW1
 obtain ⟨dH1,FH1⟩:=lH1
 have eH1:=FH1.kp
 have bH1:=FH1.b1 "thing" λ_ _ _ _ _ _ _=>rfl
 have mH1:mg "shown"=some (.ref fH1):=mg_of X G aH1
 obtain ⟨dR1,FR1⟩:=lR1
 have eR1:=FR1.kp
 have bR1:=FR1.b1 "text" λ_ _ _ _ _ _ _=>rfl
 have mR1:mg "read_thing"=some (.ref fR1):=mg_of X G aR1
 obtain ⟨dG1,FG1⟩:=lG1
 have eG1:=FG1.kp
 have bG1:=FG1.b1 "sign" λ_ _ _ _ _ _ _=>rfl
 have mG1:mg "is_sign"=some (.ref fG1):=mg_of X G aG1
 obtain ⟨dP1,FP1⟩:=lP1
 have eP1:=FP1.kp
 have bP1:=FP1.b2 "word" "numbers" λ_ _ _ _ _ _ _ _=>rfl
 have mP1:mg "spell"=some (.ref fP1):=mg_of X G aP1
 obtain ⟨dS1,FS1⟩:=lS1
 have eS1:=FS1.kp
 have bS1:=FS1.b1 "text" λ_ _ _ _ _ _ _=>rfl
 have mS1:mg "read_step"=some (.ref fS1):=mg_of X G aS1
 obtain ⟨dN1,FN1⟩:=lN1
 have eN1:=FN1.kp
 have bN1:=FN1.b2 "word" "letter" λ_ _ _ _ _ _ _ _=>rfl
 have mN1:mg "read_number"=some (.ref fN1):=mg_of X G aN1
 obtain ⟨dM1,FM1⟩:=lM1
 have eM1:=FM1.kp
 have bM1:=FM1.b2 "word" "numbers" λ_ _ _ _ _ _ _ _=>rfl
 have mM1:mg "made_step"=some (.ref fM1):=mg_of X G aM1
 obtain ⟨dU1,FU1⟩:=lU1
 have eU1:=FU1.kp
 have bU1:=FU1.b3 "where" "low" "high" λ_ _ _ _ _ _ _ _ _=>rfl
 have mU1:mg "made_sum"=some (.ref fU1):=mg_of X G aU1
 obtain ⟨dA3,FA3⟩:=lA3
 have eA3:=FA3.kp
 have bA3:=FA3.b2 "text" "number" λ_ _ _ _ _ _ _ _=>rfl
 have mA3:mg "read_part"=some (.ref fA3):=mg_of X G aA3
 obtain ⟨dB3,FB3⟩:=lB3
 have eB3:=FB3.kp
 have bB3:=FB3.b1 "text" λ_ _ _ _ _ _ _=>rfl
 have mB3:mg "read_pact"=some (.ref fB3):=mg_of X G aB3
 obtain ⟨dC3,FC3⟩:=lC3
 have eC3:=FC3.kp
 have bC3:=FC3.b1 "pact" λ_ _ _ _ _ _ _=>rfl
 have mC3:mg "houses_of"=some (.ref fC3):=mg_of X G aC3
 obtain ⟨dD3,FD3⟩:=lD3
 have eD3:=FD3.kp
 have bD3:=FD3.b1 "pact" λ_ _ _ _ _ _ _=>rfl
 have mD3:mg "turning"=some (.ref fD3):=mg_of X G aD3
 obtain ⟨dV1,FV1⟩:=lV1
 have eV1:=FV1.kp
 have bV1:=FV1.b1 "cell" λ_ _ _ _ _ _ _=>rfl
 have mV1:mg "no_value"=some (.ref fV1):=mg_of X G aV1
 obtain ⟨dY3,FY3⟩:=lY3
 have eY3:=FY3.kp
 have bY3:=FY3.b2 "name" "pact" λ_ _ _ _ _ _ _ _=>rfl
 have mY3:mg "lead_of"=some (.ref fY3):=mg_of X G aY3
 obtain ⟨dA2,FA2⟩:=lA2
 have eA2:=FA2.kp
 have bA2:=FA2.b2 "_law_script" "_law_k" λ_ _ _ _ _ _ _ _=>rfl
 have mA2:mg "_law_cell_at"=some (.ref fA2):=mg_of X G aA2
 obtain ⟨dS2,FS2⟩:=lS2
 have eS2:=FS2.kp
 have bS2:=FS2.b2 "_law_number" "_law_manner" λ_ _ _ _ _ _ _ _=>rfl
 have mS2:mg "_law_step"=some (.ref fS2):=mg_of X G aS2
 obtain ⟨dH2,FH2⟩:=lH2
 have eH2:=FH2.kp
 have bH2:=FH2.b1 "_law_steps" λ_ _ _ _ _ _ _=>rfl
 have mH2:mg "_law_houses"=some (.ref fH2):=mg_of X G aH2
 obtain ⟨dN2,FN2⟩:=lN2
 have eN2:=FN2.kp
 have bN2:=FN2.b2 "_law_steps" "_law_at" λ_ _ _ _ _ _ _ _=>rfl
 have mN2:mg "_law_next"=some (.ref fN2):=mg_of X G aN2
 obtain ⟨dD2,FD2⟩:=lD2
 have eD2:=FD2.kp
 have bD2:=FD2.b4 "_law_sheet" "_law_many" "_law_first" "_law_said" λ_ _ _ _ _ _ _ _ _ _=>rfl
 have mD2:mg "_law_due"=some (.ref fD2):=mg_of X G aD2
 obtain ⟨dE2,FE2⟩:=lE2
 have eE2:=FE2.kp
 have bE2:=FE2.b5 "_law_lead" "_law_sheet" "_law_name" "_law_manner" "_law_houses_here" λ_ _ _ _ _ _ _ _ _ _ _=>rfl
 have mE2:mg "_law_ended"=some (.ref fE2):=mg_of X G aE2
 obtain ⟨dP2,FP2⟩:=lP2
 have eP2:=FP2.kp
 have bP2:=FP2.b6 "_law_lead" "_law_sheet" "_law_name" "_law_manner" "_law_steps" "_law_numbers" λ_ _ _ _ _ _ _ _ _ _ _ _=>rfl
 have mP2:mg "_law_played"=some (.ref fP2):=mg_of X G aP2
 obtain ⟨dZ,FZ⟩:=lZ
 have eZ:=FZ.kp
 have B:TxB mg:=⟨mg_none_of X G y_isinstance,mg_none_of X G y_int,mg_none_of X G y_bool,mg_none_of X G y_str,mg_none_of X G y_len,mg_none_of X G y_range,mg_none_of X G y_tuple,mg_none_of X G y_list,mg_none_of X G y_any,mg_none_of X G y_all,mg_none_of X G y_max,mg_none_of X G y_sorted⟩
 have TT:K43T.Tx K mg CRd:=⟨⟨pgrd,hdrd,pord,sard⟩,nTx,nPl,mg_of X G nrd,mg_none_of X G y_isinstance,mg_none_of X G y_int,mg_none_of X G y_bool,mg_none_of X G y_str,mg_none_of X G y_len,mg_none_of X G y_ord,mg_none_of X G y_all,mg_none_of X G y_range,⟨_,mg_of X G q_MOST_FIGURES_things⟩,⟨_,mg_of X G q_MOST_SIGNS⟩,⟨_,mg_of X G q_MOST_DEEP⟩,⟨_,mg_of X G q_LONGEST⟩,⟨_,mg_of X G q_BLANK⟩,⟨_,mg_of X G q_PERCENT⟩,⟨_,mg_of X G q_TILDE⟩⟩
 have tM:∀H,SqT K H aMn [.str "held",.str "walked"]:=λH=>.inr ⟨_,_,_,lMn,rfl,rfl,(by show 2<=sizeLine;decide),.cons ⟨mn1,rfl⟩ (.cons ⟨mn2,rfl⟩ .nil)⟩
 refine ⟨dZ,(by obtain ⟨oc,od,kV,doc,pm,an,cdv,ct,osl,rfl,lk,hcd⟩:=FZ.ex;exact λs v=>.of_eq rfl),λbase _ _=>?_⟩
 have GCI:=ua (P:=l.prog) (w:=w) (mg:=mg) (base:=base) FxiY W
 have WI:∀wd,WI l.prog w K mg base (wmk WA WB WD WE WF WG WN) wd:=λwd=>match wd with | .take=>⟨fxiY,_,_,⟨mkwA,uxiYA,jxiY,kcwA⟩,(GCI.imp λ_ _ _ _ z=>mz rfl z).mono (by decide),bxiY,mg_of X G nwA⟩ | .mean=>⟨fxiY,_,_,⟨mkwB,uxiYB,jxiY,kcwB⟩,(GCI.imp λ_ _ _ _ z=>mz rfl z).mono (by decide),bxiY,mg_of X G nwB⟩ | .sum=>⟨fxiD,_,_,⟨mkwD,uxiDD,jxiD,kcwD⟩,(tm FxiD W).mono (by decide),bxiD,mg_of X G nwD⟩ | .give=>⟨fxiY,_,_,⟨mkwE,uxiYE,jxiY,kcwE⟩,(GCI.imp λ_ _ _ _ z=>mz rfl z).mono (by decide),bxiY,mg_of X G nwE⟩ | .add=>⟨fxiF,_,_,⟨mkwF,uxiFF,jxiF,kcwF⟩,ue FxiF W (mg_of X G nCY) ⟨gaY,rdY,fcY,hiY,exiY⟩ GCI bxiY,bxiF,mg_of X G nwF⟩ | .plus=>⟨fxiG,_,_,⟨mkwG,uxiGG,jxiG,kcwG⟩,(tO FxiG W).mono (by decide),bxiG,mg_of X G nwG⟩ | .need=>⟨fxiN,_,_,⟨mkwN,uxiNN,jxiN,kcwN⟩,(tT FxiN W).mono (by decide),bxiN,mg_of X G nwN⟩
 have Hi:=K43T.vP (P:=l.prog) (w:=w) (mg:=mg) (base:=base) Fri TT
 have Hp:=K43T.vM (P:=l.prog) (w:=w) (mg:=mg) (base:=base) Frp TT
 have Hn:=K43T.xF (P:=l.prog) (w:=w) (mg:=mg) (base:=base) Frn TT
 have Hx:=K43T.tD (P:=l.prog) (w:=w) (mg:=mg) (base:=base) Frx TT
 have Mrn:g7 K CRd "read_number" frn:=⟨arn,jrn,ern⟩
 have Mrp:g7 K CRd "passes" frp:=⟨arp,jrp,erp⟩
 have Mrb:g7 K CRd "read_below" frb:=⟨arb,jrb,erb⟩
 have Mrx:g7 K CRd "read_signs" frx:=⟨arx,jrx,erx⟩
 have Mra:g7 K CRd "read_any" fra:=⟨ara,jra,era⟩
 have Hb:=K43T.ud Frb TT Hn brn Mrn
 have Ha:=K43T.xQ Fra TT Hp brp Mrp Hb brb Mrb Hn brn Mrn Hx brx Mrx
 have HG:=K43T.vI (P:=l.prog) (w:=w) (mg:=mg) (base:=base) FG1 TT
 have HW:=K43T.ti (P:=l.prog) (w:=w) (mg:=mg) (base:=base) FW1 TT
 have GW1:GF l.prog w K mg base CX0 1 "is_whole" ["thing"] K43T.jt:=⟨fW1,_,HW,bW1,eW1,mW1⟩
 have GH1:GF l.prog w K mg base CX0 2 "shown" ["thing"] K43T.lI:=⟨fH1,_,K43T.tE FH1 TT HW bW1 eW1 mW1,bH1,eH1,mH1⟩
 have GR1:GF l.prog w K mg base CX0 4 "read_thing" ["text"] K43T.oN:=⟨fR1,_,K43T.vK FR1 TT ⟨mkrd,ari,jri,kcrd⟩ HG bG1 eG1 mG1 Hi bri Ha bra Mra,bR1,eR1,mR1⟩
 have GP1:GF l.prog w K mg base CX0 3 "spell" ["word","numbers"] dr:=⟨fP1,_,tj FP1 GH1,bP1,eP1,mP1⟩
 have GU1:GF l.prog w K mg base CX0 4 "made_sum" ["where","low","high"] (oQ (wmk WA WB WD WE WF WG WN)):=⟨fU1,_,vO FU1 (WI .sum),bU1,eU1,mU1⟩
 have GM1:GF l.prog w K mg base CX0 5 "made_step" ["word","numbers"] (St.oP (wmk WA WB WD WE WF WG WN)):=⟨fM1,_,tW FM1 WI GU1,bM1,eM1,mM1⟩
 have GN1:GF l.prog w K mg base CX0 5 "read_number" ["word","letter"] oO:=⟨fN1,_,vJ FN1 B (mg_of X G nNo) xNo (by decide +kernel) ⟨_,mg_of X G q_MOST_FIGURES_steps⟩ GR1 GW1,bN1,eN1,mN1⟩
 have GS1:GF l.prog w K mg base CX0 6 "read_step" ["text"] (lJ (wmk WA WB WD WE WF WG WN)):=⟨fS1,_,tG FS1 B (mg_of X G nSh) (w8 lSh qSh tSh) GN1 GM1,bS1,eS1,mS1⟩
 have Gh:∀wd,GM l.prog w K mg base CX0 1 ((wmk WA WB WD WE WF WG WN) wd) "house" ["self"] (eV (wmk WA WB WD WE WF WG WN) wd):=λwd=>match wd with | .take=>⟨fxhY,_,iq (.inl rfl) FxhY W,bxhY,⟨uxhYA,jxhY,exhY⟩⟩ | .mean=>⟨fxhY,_,iq (.inl rfl) FxhY W,bxhY,⟨uxhYB,jxhY,exhY⟩⟩ | .sum=>⟨fxhD,_,vQ FxhD W,bxhD,⟨uxhDD,jxhD,exhD⟩⟩ | .give=>⟨fxhY,_,iq (.inl rfl) FxhY W,bxhY,⟨uxhYE,jxhY,exhY⟩⟩ | .add=>⟨fxhY,_,iq (.inr rfl) FxhY W,bxhY,⟨uxhYF,jxhY,exhY⟩⟩ | .plus=>⟨fxhZ,_,nU (.inl rfl) FxhZ,bxhZ,⟨uxhZG,jxhZ,exhZ⟩⟩ | .need=>⟨fxhZ,_,nU (.inr rfl) FxhZ,bxhZ,⟨uxhZN,jxhZ,exhZ⟩⟩
 have Gp:∀wd,GM l.prog w K mg base CX0 4 ((wmk WA WB WD WE WF WG WN) wd) "spelled" ["self"] (cb (wmk WA WB WD WE WF WG WN) wd):=λwd=>match wd with | .take=>⟨fxpA,_,tJ FxpA W GP1,bxpA,⟨uxpAA,jxpA,expA⟩⟩ | .mean=>⟨fxpB,_,tN FxpB W GP1,bxpB,⟨uxpBB,jxpB,expB⟩⟩ | .sum=>⟨fxpD,_,vL FxpD W GP1,bxpD,⟨uxpDD,jxpD,expD⟩⟩ | .give=>⟨fxpE,_,tQ FxpE W GP1,bxpE,⟨uxpEE,jxpE,expE⟩⟩ | .add=>⟨fxpF,_,vN FxpF W GP1,bxpF,⟨uxpFF,jxpF,expF⟩⟩ | .plus=>⟨fxpG,_,tK FxpG W GP1,bxpG,⟨uxpGG,jxpG,expG⟩⟩ | .need=>⟨fxpN,_,tL FxpN W GP1,bxpN,⟨uxpNN,jxpN,expN⟩⟩
 have GPI:=qY (P:=l.prog) (w:=w) (mg:=mg) (base:=base) Fpi B TP
 have GA3:GF l.prog w K mg base CX0 7 "read_part" ["text","number"] (lK (wmk WA WB WD WE WF WG WN)):=⟨fA3,_,tH FA3 GS1,bA3,eA3,mA3⟩
 have GB3:GF l.prog w K mg base CX0 8 "read_pact" ["text"] (lL CP (wmk WA WB WD WE WF WG WN)):=⟨fB3,_,tI FB3 B (mg_of X G nMnn) tM ⟨_,mg_of X G q_MOST_STEPS⟩ ⟨mkP,api,jpi,kcP⟩ (mg_of X G nP) GPI bpi GA3,bB3,eB3,mB3⟩
 have GC3:GF l.prog w K mg base CX0 2 "houses_of" ["pact"] (jE CP (wmk WA WB WD WE WF WG WN)):=⟨fC3,_,qZ FC3 B (mg_none_of X G y_set) TP W Gh,bC3,eC3,mC3⟩
 have Gu:∀wd,GM l.prog w K mg base CX0 1 ((wmk WA WB WD WE WF WG WN) wd) "sure" ["self"] (lH wd):=λwd=>match wd with | .take=>⟨fxsZ,_,eM (by decide) FxsZ,bxsZ,⟨uxsZA,jxsZ,exsZ⟩⟩ | .mean=>⟨fxsZ,_,eM (by decide) FxsZ,bxsZ,⟨uxsZB,jxsZ,exsZ⟩⟩ | .sum=>⟨fxsZ,_,eM (by decide) FxsZ,bxsZ,⟨uxsZD,jxsZ,exsZ⟩⟩ | .give=>⟨fxsE,_,tF FxsE,bxsE,⟨uxsEE,jxsE,exsE⟩⟩ | .add=>⟨fxsZ,_,eM (by decide) FxsZ,bxsZ,⟨uxsZF,jxsZ,exsZ⟩⟩ | .plus=>⟨fxsZ,_,eM (by decide) FxsZ,bxsZ,⟨uxsZG,jxsZ,exsZ⟩⟩ | .need=>⟨fxsZ,_,eM (by decide) FxsZ,bxsZ,⟨uxsZN,jxsZ,exsZ⟩⟩
 have GD3:GF l.prog w K mg base CX0 2 "turning" ["pact"] (oM CP (wmk WA WB WD WE WF WG WN)):=⟨fD3,_,pb FD3 B TP W Gu,bD3,eD3,mD3⟩
 have GSI:=qX (P:=l.prog) (w:=w) (mg:=mg) (base:=base) FsdI B D
 have GHI:=t6 (P:=l.prog) (w:=w) (mg:=mg) (base:=base) (CS:=CS) FshI DH
 have GsdN:GM l.prog w K mg base CX0 1 CS "news" ["self"] (lM CS K):=⟨fsdN,_,tU FsdN B D,bsdN,⟨asdN,jsdN,esdN⟩⟩
 have GshS:GM l.prog w K mg base CX0 1 CH "send" ["self","to","word","p","more"] (hX CS CH K):=⟨fshS,_,tY FshS DH,bshS,⟨ashS,jshS,eshS⟩⟩
 have GshW:GM l.prog w K mg base CX0 1 CH "rows_told" ["self"] (lO CS CH K):=⟨fshW,_,tZ FshW B DH,bshW,⟨ashW,jshW,eshW⟩⟩
 have GshL:GM l.prog w K mg base CX0 2 CH "letters_told" ["self"] (hZ CS CH K):=⟨fshL,_,vR FshL D DH GsdN,bshL,⟨ashL,jshL,eshL⟩⟩
 have GD:∀b,GM l.prog w K mg base CX0 1 ((wmk WA WB WD WE WF WG WN) (pw b)) "step_done" ["self","hand","value_of"] (va (wmk WA WB WD WE WF WG WN) b):=λb=>match b with | true=>⟨fxdG,_,t8 FxdG W,bxdG,⟨uxdGG,jxdG,exdG⟩⟩ | false=>⟨fxdN,_,t9 FxdN W,bxdN,⟨uxdNN,jxdN,exdN⟩⟩
 have hleX:GM l.prog w K mg base CX0 2 CLH "next_house" ["self"] (gN CLH (wmk WA WB WD WE WF WG WN)):=⟨fleX,_,qg FleX B TAh W Gh,bleX,⟨aleX,jleX,eleX⟩⟩
 have hleP:GM l.prog w K mg base CX0 1 CLH "present_hand" ["self"] (jF CLH (wmk WA WB WD WE WF WG WN)):=⟨fleP,_,qh FleP TAh,bleP,⟨aleP,jleP,eleP⟩⟩
 have hleA:GM l.prog w K mg base CX0 3 CLH "is_answer" ["self","more"] (mT CLH (wmk WA WB WD WE WF WG WN)):=⟨fleA,_,tX FleA B TAh hleX,bleA,⟨aleA,jleA,eleA⟩⟩
 have hleN:GM l.prog w K mg base CX0 1 CLH "naming" ["self","outcome"] (mR CLH (wmk WA WB WD WE WF WG WN)):=⟨fleN,_,tV FleN TAh,bleN,⟨aleN,jleN,eleN⟩⟩
 have hleO:GM l.prog w K mg base CX0 3 CLH "own_steps_done" ["self"] (pZ false CLH CS CH (wmk WA WB WD WE WF WG WN) K):=⟨fleO,_,tR FleO B TCh W mV1 hleX hleP GD,bleO,⟨aleO,jleO,eleO⟩⟩
 have hleS:GM l.prog w K mg base CX0 5 CLH "send_step" ["self","sheet","word"] (hW false CLH CS CH (wmk WA WB WD WE WF WG WN) K):=⟨fleS,_,nR FleS B TCh W DH Gp hleX hleP GshS,bleS,⟨aleS,jleS,eleS⟩⟩
 have hheL:GM l.prog w K mg base CX0 1 CLH "silent" ["self"] (pV CLH CS CH (wmk WA WB WD WE WF WG WN) K):=⟨fheL,_,xD FheL TCh qag,bheL,⟨aheL,jheL,eheL⟩⟩
 have hheD:GM l.prog w K mg base CX0 2 CLH "done_if_all_agree" ["self"] (lQ CLH CS CH (wmk WA WB WD WE WF WG WN) K):=⟨fheD,_,vS FheD TCh hheL,bheD,⟨aheD,jheD,eheD⟩⟩
 have hheG:GM l.prog w K mg base CX0 6 CLH "go_ahead" ["self","sheet"] (mV false CLH CS CH (wmk WA WB WD WE WF WG WN) K):=⟨fheG,_,xL FheG TCh DH hleX hleS hheL hheD GshS,bheG,⟨aheG,jheG,eheG⟩⟩
 have hheB:GM l.prog w K mg base CX0 1 CLH "go_behind" ["self","sheet"] (mZ false):=⟨fheB,_,vW FheB,bheB,⟨aheB,jheB,eheB⟩⟩
 have hleG:GM l.prog w K mg base CX0 7 CLH "go" ["self","sheet"] (mY false CLH CS CH (wmk WA WB WD WE WF WG WN) K):=⟨fleG,_,wK FleG TCh hheB hleO hheG,bleG,⟨aleG,jleG,eleG⟩⟩
 have hleT:GM l.prog w K mg base CX0 8 CLH "turn" ["self","sheet"] (gw false CLH CS CH (wmk WA WB WD WE WF WG WN) K):=⟨fleT,_,qf FleT TCh ⟨_,mg_of X G q_PATIENCE⟩ hleN hleG,bleT,⟨aleT,jleT,eleT⟩⟩
 have hheC:GM l.prog w K mg base CX0 8 CLH "came" ["self","sheet","word","sender","more"] (iI false CLH CS CH (wmk WA WB WD WE WF WG WN) K):=⟨fheC,_,uc FheC B TCh qag hleA hleG hheD,bheC,⟨aheC,jheC,eheC⟩⟩
 have hheF:GM l.prog w K mg base CX0 2 CLH "go_from_end" ["self","sheet"] (so CLH CS CH (wmk WA WB WD WE WF WG WN) K):=⟨fheF,_,xM FheF TCh DH GshS,bheF,⟨aheF,jheF,eheF⟩⟩
 have hleE:GM l.prog w K mg base CX0 3 CLH "end" ["self","sheet","outcome"] (ss CLH CS CH (wmk WA WB WD WE WF WG WN) K):=⟨fleE,_,xO FleE TCh hheF,bleE,⟨aleE,jleE,eleE⟩⟩
 have wleX:GM l.prog w K mg base CX0 2 CLW "next_house" ["self"] (gN CLW (wmk WA WB WD WE WF WG WN)):=⟨fleX,_,qg FleX B TAw W Gh,bleX,⟨vleX,jleX,eleX⟩⟩
 have wleP:GM l.prog w K mg base CX0 1 CLW "present_hand" ["self"] (jF CLW (wmk WA WB WD WE WF WG WN)):=⟨fleP,_,qh FleP TAw,bleP,⟨vleP,jleP,eleP⟩⟩
 have wleA:GM l.prog w K mg base CX0 3 CLW "is_answer" ["self","more"] (mT CLW (wmk WA WB WD WE WF WG WN)):=⟨fleA,_,tX FleA B TAw wleX,bleA,⟨vleA,jleA,eleA⟩⟩
 have wleN:GM l.prog w K mg base CX0 1 CLW "naming" ["self","outcome"] (mR CLW (wmk WA WB WD WE WF WG WN)):=⟨fleN,_,tV FleN TAw,bleN,⟨vleN,jleN,eleN⟩⟩
 have wleO:GM l.prog w K mg base CX0 3 CLW "own_steps_done" ["self"] (pZ true CLW CS CH (wmk WA WB WD WE WF WG WN) K):=⟨fleO,_,tR FleO B TCw W mV1 wleX wleP GD,bleO,⟨vleO,jleO,eleO⟩⟩
 have wleS:GM l.prog w K mg base CX0 5 CLW "send_step" ["self","sheet","word"] (hW true CLW CS CH (wmk WA WB WD WE WF WG WN) K):=⟨fleS,_,nR FleS B TCw W DH Gp wleX wleP GshS,bleS,⟨vleS,jleS,eleS⟩⟩
 have wwlG:GM l.prog w K mg base CX0 6 CLW "go_ahead" ["self","sheet"] (mV true CLW CS CH (wmk WA WB WD WE WF WG WN) K):=⟨fwlG,_,xK FwlG B TCw qbd wleS wleN,bwlG,⟨awlG,jwlG,ewlG⟩⟩
 have wwlB:GM l.prog w K mg base CX0 1 CLW "go_behind" ["self","sheet"] (mZ true):=⟨fwlB,_,vV FwlB,bwlB,⟨awlB,jwlB,ewlB⟩⟩
 have wleG:GM l.prog w K mg base CX0 7 CLW "go" ["self","sheet"] (mY true CLW CS CH (wmk WA WB WD WE WF WG WN) K):=⟨fleG,_,wK FleG TCw wwlB wleO wwlG,bleG,⟨vleG,jleG,eleG⟩⟩
 have wleT:GM l.prog w K mg base CX0 8 CLW "turn" ["self","sheet"] (gw true CLW CS CH (wmk WA WB WD WE WF WG WN) K):=⟨fleT,_,qf FleT TCw ⟨_,mg_of X G q_PATIENCE⟩ wleN wleG,bleT,⟨vleT,jleT,eleT⟩⟩
 have wwlK:GM l.prog w K mg base CX0 1 CLW "is_walking" ["self"] (rY CLW CS CH (wmk WA WB WD WE WF WG WN) K):=⟨fwlK,_,xC FwlK TCw,bwlK,⟨awlK,jwlK,ewlK⟩⟩
 have wwlC:GM l.prog w K mg base CX0 8 CLW "came" ["self","sheet","word","sender","more"] (iI true CLW CS CH (wmk WA WB WD WE WF WG WN) K):=⟨fwlC,_,ub FwlC TCw wwlK wleA wleG,bwlC,⟨awlC,jwlC,ewlC⟩⟩
 have GTb:∀b,GM l.prog w K mg base CX0 8 (lmk CLH CLW b) "turn" ["self","sheet"] (gw b (lmk CLH CLW b) CS CH (wmk WA WB WD WE WF WG WN) K):=λb=>match b with | true=>wleT | false=>hleT
 have GGb:∀b,GM l.prog w K mg base CX0 7 (lmk CLH CLW b) "go" ["self","sheet"] (mY b (lmk CLH CLW b) CS CH (wmk WA WB WD WE WF WG WN) K):=λb=>match b with | true=>wleG | false=>hleG
 have GCb:∀b,GM l.prog w K mg base CX0 8 (lmk CLH CLW b) "came" ["self","sheet","word","sender","more"] (iI b (lmk CLH CLW b) CS CH (wmk WA WB WD WE WF WG WN) K):=λb=>match b with | true=>wwlC | false=>hheC
 have GLh:=kM (P:=l.prog) (w:=w) (mg:=mg) (base:=base) FleI TAh TP TCh.n1 GC3
 have GLw:=kM (P:=l.prog) (w:=w) (mg:=mg) (base:=base) FleI TAw TP TCw.n1 GC3
 have GEI:=ra (P:=l.prog) (w:=w) (mg:=mg) (base:=base) (CP:=CP) FheI TCh qag (mg_of X G nCA) ⟨gaA,rdA,fcA,hiA,eleI⟩ GLh bleI
 have GWI:=qW (P:=l.prog) (w:=w) (mg:=mg) (base:=base) (CP:=CP) FwlI B TCw qbd qun qsg TP W (mg_of X G nCA) ⟨gaA,rdA,fcA,hiA,eleI⟩ GLw bleI GD3 Gh
 have GY3:GF l.prog w K mg base CX0 6 "lead_of" ["name","pact"] (sj (lmk CLH CLW) CP (wmk WA WB WD WE WF WG WN)):=⟨fY3,_,xH FY3 TP ⟨mkL,aheI,jheI,kcL⟩ (mg_of X G nL) GEI bheI ⟨mkM,awlI,jwlI,kcM⟩ (mg_of X G nM) GWI bwlI,bY3,eY3,mY3⟩
 have GA2:GF l.prog w K mg base CX0 1 "_law_cell_at" ["_law_script","_law_k"] (oR K):=⟨fA2,_,vU FA2 B,bA2,eA2,mA2⟩
 have GS2:GF l.prog w K mg base CX0 1 "_law_step" ["_law_number","_law_manner"] si:=⟨fS2,_,xG FS2 B,bS2,eS2,mS2⟩
 have GH2:GF l.prog w K mg base CX0 1 "_law_houses" ["_law_steps"] (p5 K):=⟨fH2,_,xJ FH2 B (mg_none_of X G y_set),bH2,eH2,mH2⟩
 have GN2:GF l.prog w K mg base CX0 1 "_law_next" ["_law_steps","_law_at"] (se K):=⟨fN2,_,xE FN2 B,bN2,eN2,mN2⟩
 have GD2:GF l.prog w K mg base CX0 3 "_law_due" ["_law_sheet","_law_many","_law_first","_law_said"] (su CS CH K):=⟨fD2,_,xP FD2 DH GshL,bD2,eD2,mD2⟩
 have GE2:GF l.prog w K mg base CX0 9 "_law_ended" ["_law_lead","_law_sheet","_law_name","_law_manner","_law_houses_here"] (lP (lmk CLH CLW) CS CH (wmk WA WB WD WE WF WG WN) K):=⟨fE2,_,t7 FE2 B TCb DH GshL GshW hleE hleT,bE2,eE2,mE2⟩
 have GP2:GF l.prog w K mg base CX0 10 "_law_played" ["_law_lead","_law_sheet","_law_name","_law_manner","_law_steps","_law_numbers"] (xi (lmk CLH CLW) CS CH (wmk WA WB WD WE WF WG WN) K):=⟨fP2,_,yZ FP2 B TCb DH GH2 GN2 GD2 GE2 GshL GTb GCb,bP2,eP2,mP2⟩
 exact xI FZ B TCb D DH TI ⟨_,mg_of X G q_PATIENCE⟩ ⟨mkS,asdI,jsdI,kcS⟩ (mg_of X G nS) GSI bsdI ⟨mkH,ashI,jshI,kcH⟩ (mg_of X G nH) GHI bshI GY3 GB3 GA2 GS2 GH2 GGb GP2
theorem walk{l:PySem.W.OpenLaw}{q:Program}{loose:List Str}{XP:(Str->Option Value)->Heap->Prop}{YP:World->Heap->Prop}{d:DefRec}{K:Params->PySem.W.Frag}(hn:l.most=some 63)(hdf:d.params.defaults=[])
  (hY:∀(w:World) (h:Heap),YP w h->(K w.params).In h)
  (F:∀(w:World) (mg:Str->Option Value) (fa:Addr) (h:Heap),(K w.params).In h->h.Ns mainGlobals mg->mg d.name=some (.ref fa) ->
   ∃fd:FuncData,(∀(s:Shared) (u:Value),BindsTo s fd ⟨[u],[]⟩ [("_law_script",u)])/\∀base:Heap,(K w.params).In base->base.Ns mainGlobals mg->FnOk l.prog w (K w.params) mg base CX0 11 fa fd ["_law_script"] (p4 (K w.params))) :
  PySem.W.WalkO q loose XP YP l.row.toRowW d [] (λf vs=>PySem.call f vs) :=
 L2.uW (n:=63) (k:=11) (x:="_law_script") (CX:=λ_=>CX0) (sp:=λw=>p4 (K w.params)) hn (by decide) hdf ⟨rfl,by decide,by decide⟩ hY F (λ_ _ a ns hl _ hS=>⟨a,ns,rfl,hS,hl,λ_=>rfl⟩) λ_ _ _ _ _ z=>z
end K43
open PySem PySem.W PyProof.Rows
set_option maxRecDepth 100000 in
set_option maxHeartbeats 0 in
theorem PySem.Challenge.cw_pactroom_k43_patience_holds : PySem.Challenge.rw_pactroom_k43_patience.Holds := by
 w_on;o_law
 refine holds_open (q:=Q.qv) (loose:=Q.lo) (Xt:=Q.Xt) (XP:=XL Q.qv Q.lvv) (Yf:=Hook.obs (kHook Q.Kf Q.Ka Q.ke)) (Ya:=Hook.val (kHook Q.Kf Q.Ka Q.ke)) (YP:=Hook.says (kHook Q.Kf Q.Ka Q.ke)) (N:=16334) Q.left (Hook.of (kHook Q.Kf Q.Ka Q.ke)) (Hook.keeps (kHook Q.Kf Q.Ka Q.ke)) (λs e=>xl_of s (Bool.and_eq_true_iff.mp e).1) XL.keeps (by rfl) (by rfl) (by rfl) (λs e=>recFacts_of (Bool.and_eq_true_iff.mp e).2) (by rfl) (by first | assumption | decide +kernel) (by decide +kernel) ⟨rfl,rfl,rfl,rfl,rfl,by decide +kernel⟩ ?hw ?hc
 (case hw=>w_witness2)
 k_fill
 refine K43.walk (l:=PySem.Challenge.rw_pactroom_k43_patience) rfl rfl (λw h Y=>PySem.W.kIn_of Y) ?F
 case F =>
  intro w mg fa h KX G hmg
  apply K43.all_mk KX G hmg
  all_goals first | k_is | exact K43.fnx (by k_is) (by k_is) (by k_is) | kit_is | k_exc | kernel_rfl | skip
#print axioms PySem.Challenge.cw_pactroom_k43_patience_holds
