import PyProof.Rows.All
import Wide.All
import OpenK.AllK
import Wide.FinOn
import Lean
import PyProof.EqAt
import PyProof.EqKinds
import PyProof.TupleCall
import KE.KNestM
import PyProof.DictRoadsH
import PyProof.MeetsDict
import KE.KLam
import KE.KMinKey
import KE.KRevSl
import KE.KRevIter
import KE.KDictList
import KE.KDictOf
import PyProof.DictUpdate
import PyProof.AttrMissHeap
import PyProof.SetScanFacts
import PyProof.SetKind
import PyProof.TupleKey
import PyProof.Rows.SetFrom
import PyProof.WalksS
import PyProof.CollectWalk
import PySem.Challenge.RW_pactroom_k52_ready_and_up_again
set_option Elab.async false
set_option linter.all false
set_option genSizeOf false
set_option maxHeartbeats 4000000
set_option maxRecDepth 100000
abbrev ν:=@List.length_map
abbrev ϕ:=@List.mem_cons
abbrev ϵ:=@List.mem_singleton
abbrev ϑ:=@List.mem_map
abbrev ϖ:=@Nat.zero_le
abbrev ϰ:=@True.intro
theorem ϱ.{u}{α:Sort u}{a:α}:a=a:=rfl
theorem θ{p:Prop}(h:p:=by decide +kernel):p:=h
theorem ζ{p:Prop}(h:p:=by decide):p:=h
theorem ω{p:Prop}(h:p:=by omega):p:=h
theorem χ{a b:Nat}(h:a.ble b=true:=by rfl):a<=b:=Nat.le_of_ble_eq_true h
abbrev ε:=@PySem.wpAny_bind
abbrev π:=@PySem.wpAny_pure
abbrev ρ:=@PySem.Heap.get?_push_of_some
abbrev ξ:=@List.getElem?_eq_getElem
abbrev τ:=@decide_eq_true
abbrev υ:=@Nat.le_succ_of_le
abbrev ι:=@Nat.le_refl
abbrev η:=@PySem.Heap.lt_size
abbrev ψ:=@PySem.Heap.get?_push_size
abbrev Γ:=@decide_eq_false
abbrev Δ:=@Option.some.inj
abbrev Θ:=@List.mem_cons_of_mem
abbrev Λ:=@Nat.le_trans
abbrev Ξ:=@of_decide_eq_true
abbrev Φ:=@Nat.ne_of_lt
abbrev Ψ:=@List.mem_append_right
abbrev Ω:=@List.mem_cons_self
open PySem.W (Frag)
namespace L2
open PySem PySem.Spec PyProof.Rows
abbrev Key:=Sum Int Str
def jS:Key->Value->Bool
 | .inl k,v=>Value.isInt k v
 | .inr x,v=>Value.isStrOf x v
def Cg(w:World):Key->Int
 | .inl k=>hashInt k
 | .inr x=>hashStr w x
theorem bw:∀{k:Key} {v:Value},jS k v=true->(∃i t,k=Sum.inl i/\v=Value.int i t)\/(∃x t,k=Sum.inr x/\v=Value.str x t)
 | .inl i,v,h=>by
  obtain ⟨t,e⟩:=Value.isInt_shape (k:=i) (v:=v) h
  exact .inl ⟨i,t,ϱ,e⟩
 | .inr x,v,h=>by
  obtain ⟨t,e⟩:=Value.isStrOf_shape (x:=x) (v:=v) h
  exact .inr ⟨x,t,ϱ,e⟩
theorem tY(i:Int)(t:Tok):jS (.inl i) (.int i t)=true:=by simp [jS,Value.isInt]
theorem tX(x:Str)(t:Tok):jS (.inr x) (.str x t)=true:=by simp [jS,Value.isStrOf]
theorem AT(a b:Int):decide ((Sum.inl a:Key)=Sum.inl b)=(a==b):=by
 by_cases e:a=b
 ·subst e;simp
 ·have h:¬(Sum.inl a:Key)=Sum.inl b:=λq=>e (Sum.inl.inj q)
  rw [Γ h]
  exact (beq_eq_false_iff_ne.mpr e).symm
theorem AQ(a b:Str):decide ((Sum.inr a:Key)=Sum.inr b)=decide (a=b):=by
 by_cases e:a=b
 ·subst e;simp
 ·have h:¬(Sum.inr a:Key)=Sum.inr b:=λq=>e (Sum.inr.inj q)
  rw [Γ h,Γ e]
theorem AS(a:Int)(b:Str):decide ((Sum.inl a:Key)=Sum.inr b)=false:=Γ (λq=>nomatch q)
theorem AR(a:Str)(b:Int):decide ((Sum.inr a:Key)=Sum.inl b)=false:=Γ (λq=>nomatch q)
def aJ(prog:Program)(w:World):PySem.KeyKind prog w Key where
 is:=jS
 hash:=Cg w
 inj:=λv a b ha hb=>by
  rcases bw ha with ⟨i,t,rfl,rfl⟩ | ⟨x,t,rfl,rfl⟩
  ·rcases bw hb with ⟨j,u,rfl,e⟩ | ⟨y,u,rfl,e⟩
   ·injection e with e1 _;rw [e1]
   ·exact nomatch e
  ·rcases bw hb with ⟨j,u,rfl,e⟩ | ⟨y,u,rfl,e⟩
   ·exact nomatch e
   ·injection e with e1 _;rw [e1]
 byValue:=λk v h=>by
  rcases bw h with ⟨i,t,rfl,rfl⟩ | ⟨x,t,rfl,rfl⟩<;>rfl
 pyHash:=λhv h=>by
  rcases bw hv with ⟨i,t,rfl,rfl⟩ | ⟨x,t,rfl,rfl⟩
  ·exact wpAny_pyHash_int h
  ·exact wpAny_pyHash_str h
 eqBool:=λhu hv h=>by
  rcases bw hu with ⟨i,t,rfl,rfl⟩ | ⟨x,t,rfl,rfl⟩
  ·rcases bw hv with ⟨j,u,rfl,rfl⟩ | ⟨y,u,rfl,rfl⟩
   ·rw [AT] at h;exact wpAny_eqBool_int h
   ·rw [AS] at h;exact SeqAt.EqAt.int_str i t y u _ _ _ _ h
  ·rcases bw hv with ⟨j,u,rfl,rfl⟩ | ⟨y,u,rfl,rfl⟩
   ·rw [AR] at h;exact SeqAt.EqAt.str_int x t j u _ _ _ _ h
   ·rw [AQ] at h;exact wpAny_eqBool_str h
 «strs» := fun k x t v h => by
  rcases bw h with ⟨i,u,rfl,e⟩ | ⟨y,u,rfl,e⟩
  ·exact nomatch e
  ·injection e with e1 _
   subst e1
   cases v<;>rfl
theorem pU(prog:Program)(w:World)(i:Int)(t:Tok):(aJ prog w).is (.inl i) (.int i t)=true:=tY i t
theorem pT(prog:Program)(w:World)(x:Str)(t:Tok):(aJ prog w).is (.inr x) (.str x t)=true:=tX x t
inductive V where
 | non | bl (b:Bool) | int (i:Int) | str (x:Str) | byt (b:Array UInt8) | flt (b:UInt64) | ref (a:Addr) | ty (n:String)
 deriving DecidableEq
def RelV:V->Value->Prop
 | .non,u=>u=Value.none
 | .bl b,u=>u=Value.bool b
 | .int i,u=>∃t,u=Value.int i t
 | .str x,u=>∃t,u=Value.str x t
 | .byt b,u=>∃t,u=Value.bytes b t
 | .flt b,u=>∃t,u=Value.float b t
 | .ref a,u=>u=Value.ref a
 | .ty n,u=>u=Value.type n
abbrev Vals:List V->List Value->Prop:=Paired RelV
theorem Vals.length{xs:List V}{us:List Value}(r:Vals xs us):xs.length=us.length:=Paired.length r
theorem Vals.get:∀{xs:List V} {us:List Value} {i:Nat} {x:V},Vals xs us->xs[i]?=some x->∃u,us[i]?=some u/\RelV x u
 | _,_,_,_,.nil,e=>by simp at e
 | _,_,0,_,.cons r _,e=>by simp at e;subst e;exact ⟨_,rfl,r⟩
 | _,_,i+1,x,.cons _ t,e=>by
  obtain ⟨u,h1,h2⟩:=Vals.get (i:=i) (x:=x) t (by simpa using e)
  exact ⟨u,by simpa using h1,h2⟩
theorem Vals.set{x:V}{u:Value}(r:RelV x u):∀{xs:List V} {us:List Value} (i:Nat),Vals xs us->Vals (xs.set i x) (us.set i u)
 | _,_,_,.nil=>.nil
 | _,_,0,.cons _ t=>.cons r t
 | _,_,i+1,.cons q t=>.cons q (Vals.set r i t)
theorem Vals.append:∀{xs ys:List V} {us ws:List Value},Vals xs us->Vals ys ws->Vals (xs++ys) (us++ws)
 | _,_,_,_,.nil,s=>s
 | _,_,_,_,.cons r t,s=>.cons r (Vals.append t s)
theorem Vals.take:∀{xs:List V} {us:List Value} (n:Nat),Vals xs us->Vals (xs.take n) (us.take n)
 | _,_,0,_=>.nil
 | _,_,_+1,.nil=>.nil
 | _,_,n+1,.cons r t=>.cons r (Vals.take n t)
theorem Vals.drop:∀{xs:List V} {us:List Value} (n:Nat),Vals xs us->Vals (xs.drop n) (us.drop n)
 | _,_,0,r=>r
 | _,_,_+1,.nil=>.nil
 | _,_,n+1,.cons _ t=>Vals.drop n t
def RelO:Option V->Option Value->Prop
 | some v,some u=>RelV v u
 | none,none=>True
 | _,_=>False
def KV{κ:Type}:List (κ×V)->List (κ×Value)->Prop:=Paired λ(p:κ×V) (q:κ×Value)=>p.1=q.1/\RelV p.2 q.2
def kV:Key->V
 | .inl i=>.int i
 | .inr x=>.str x
inductive HO where
 | lst (xs:List V)
 | tup (xs:List V)
 | dK (kvs:List (Key×V)) | dT (kvs:List (List Key×V))
 | set (S:Int->Bool) (n:Nat)
 | ins (C dx:Addr) (fs:List (Str×V))
 | own (x:Addr)
 | xd (fs:List (Str×V))
 | met (f x:Addr)
 | rng (lo hi:Int)
 | frz (o:Obj) (u:HO)
 | tbl (ps:Array Value)
 | ext (φ:Heap->Prop)
abbrev Hp:=Addr->Option HO
def upd(H:Hp)(a:Addr)(o:HO):Hp:=λb=>if b=a then some o else H b
theorem ae{H:Hp}{a:Addr}{o:HO}:upd H a o a=some o:=by unfold upd;rw [if_pos rfl]
theorem am{H:Hp}{a b:Addr}{o:HO}(h:b≠a):upd H a o b=H b:=by unfold upd;rw [if_neg h]
theorem gs{H:Hp}{a b:Addr}{o u:HO}(h:H a=some o)(h':H b=some u)(d:o≠u):a≠b:=by
 intro e;subst e;rw [h] at h';exact d (Δ h')
theorem ap{H:Hp}{a b:Addr}{o:HO}(h:H a=some o)(h':H b=none):a≠b:=by
 intro e;subst e;rw [h] at h';cases h'
section
variable (P:Program)(w:World)
def ObjOk(H:Hp)(h:Heap)(a:Addr):HO->Prop
 | .lst xs=>xs.length<=sizeLine/\∃(its:List Value) (n:Nat),Vals xs its/\h.get? a=some {cls:=.type "list",data:=.seq its.toArray n}
 | .tup xs=>xs.length<=sizeLine/\∃its:List Value,Vals xs its/\IsTup h a its.toArray
 | .dK kvs=>kvs.length<=sizeLine/\(a==sysModules)=false/\∃vs,KV kvs vs/\h.DictOf (aJ P w) a vs
 | .dT kvs=>kvs.length<=sizeLine/\(a==sysModules)=false/\∃xs:List (List Key×Addr×Value),
   Paired (λ(p:List Key×V) (q:List Key×Addr×Value)=>p.1=q.1/\H q.2.1=some (.tup (p.1.map kV))/\RelV p.2 q.2.2) kvs xs /\
   ∃o es ep,h.get? a=some o/\o.ExactDict/\o.data=.dict es ep/\es.toList=xs.map (entryOfKey (tupleKind (aJ P w)))/\(xs.map (·.1)).Nodup
 | .set S n=>h.SetOf (intKind P w) a S n
 | .ins C dx fs=>H dx=some (.own a)/\fs.length<=1000/\dx≠a/\h.get? a=some (PySem.W.instObj C dx) /\
   ∃mA,h.Ns1 dx mA/\(∀f,RelO (fs.lookup f) (mA f))/\PySem.Within mA (fs.map (·.1))
 | .own _=>∃o,h.get? a=some o
 | .xd fs=>∃mA,h.Ns1 a mA/\∀f,RelO (fs.lookup f) (mA f)
 | .rng lo hi=>∃t u v,h.get? a=some {cls:=.type "range",data:=.fields #[.int lo t,.int hi u,.int 1 v]}
 | .frz o u=>h.get? a=some o/\ObjOk H h a u
 | .tbl ps=>h.get? a=some {cls:=.none,data:=.fields ps}
 | .met f x=>h.get? a=some (PySem.W.methodObj (.ref f) (.ref x))
 | .ext φ=>φ h/\(∃o,h.get? a=some o)/\∀h1 h2:Heap,φ h1->(∀o,h1.get? a=some o->h2.get? a=some o)->φ h2
def HOk(H:Hp)(h:Heap):Prop:=∀a o,H a=some o->ObjOk P w H h a o
end
section
variable {P:Program}{w:World}{H H':Hp}{h h':Heap}{a:Addr}{o:HO}
theorem ObjOk.lt(x:ObjOk P w H h a o):a<h.objs.size:=by
 cases o with
 | lst xs=>obtain ⟨_,_,_,_,e⟩:=x;exact η e
 | tup xs=>obtain ⟨_,_,_,p⟩:=x;exact p.lt
 | dK kvs=>obtain ⟨_,_,_,_,o,_,_,e,_⟩:=x;exact η e
 | dT kvs=>obtain ⟨_,_,_,_,o,_,_,e,_⟩:=x;exact η e
 | set S n=>obtain ⟨o,_,_,_,e,_⟩:=x;exact η e
 | ins C dx fs=>obtain ⟨_,_,_,e,_⟩:=x;exact η e
 | own y=>obtain ⟨_,e⟩:=x;exact η e
 | xd fs=>obtain ⟨_,⟨_,_,_,e,_⟩,_⟩:=x;exact η e
 | rng lo hi=>obtain ⟨_,_,_,e⟩:=x;exact η e
 | frz ob u=>obtain ⟨e,_⟩:=x;exact η e
 | tbl ps=>exact η (show h.get? a=some _ from x)
 | met f y=>exact η (show h.get? a=some _ from x)
 | ext φ=>obtain ⟨_,⟨_,e⟩,_⟩:=x;exact η e
theorem Paired.mapP{α β:Type}{F G:α->β->Prop}:∀{l₁:List α} {l₂:List β},Paired F l₁ l₂->(∀a b,F a b->G a b)->Paired G l₁ l₂
 | _,_,.nil,_=>.nil
 | _,_,.cons r t,f=>.cons (f _ _ r) (Paired.mapP t f)
theorem ObjOk.stay(x:ObjOk P w H h a o)(k:∀b u,(b=a\/H b=some (.own a))->h.get? b=some u->h'.get? b=some u)
  (G:∀b,H b=some (.own a)->H' b=some (.own a))(I:∀b xs,H b=some (.tup xs)->H' b=some (.tup xs)):ObjOk P w H' h' a o:=by
 induction o with
 | lst xs=>obtain ⟨z,l,n,r,e⟩:=x;exact ⟨z,l,n,r,k _ _ (.inl rfl) e⟩
 | tup xs=>obtain ⟨z,l,r,g,e,c⟩:=x;exact ⟨z,l,r,g,k _ _ (.inl rfl) e,c⟩
 | dK kvs=>obtain ⟨z,y,vs,r,g,i,j,e,c⟩:=x;exact ⟨z,y,vs,r,g,i,j,k _ _ (.inl rfl) e,c⟩
 | dT kvs =>
  obtain ⟨z,y,xs,r,g,i,j,e,c⟩:=x
  exact ⟨z,y,xs,Paired.mapP r λp q z=>⟨z.1,I _ _ z.2.1,z.2.2⟩,g,i,j,k _ _ (.inl rfl) e,c⟩
 | set S n=>obtain ⟨g,i,j,t,e,c⟩:=x;exact ⟨g,i,j,t,k _ _ (.inl rfl) e,c⟩
 | ins C dx fs =>
  obtain ⟨d,z,ne,e,m,⟨od,i,j,F,c⟩,r⟩:=x
  exact ⟨G _ d,z,ne,k _ _ (.inl rfl) e,m,⟨od,i,j,k _ _ (.inr d) F,c⟩,r⟩
 | own y=>obtain ⟨g,e⟩:=x;exact ⟨g,k _ _ (.inl rfl) e⟩
 | xd fs=>obtain ⟨m,⟨od,i,j,e,c⟩,r⟩:=x;exact ⟨m,⟨od,i,j,k _ _ (.inl rfl) e,c⟩,r⟩
 | rng lo hi=>obtain ⟨t,u,v,e⟩:=x;exact ⟨t,u,v,k _ _ (.inl rfl) e⟩
 | frz g u ih=>obtain ⟨e,q⟩:=x;exact ⟨k _ _ (.inl rfl) e,ih q⟩
 | tbl ps =>
  have e:h.get? a=some {cls:=.none,data:=.fields ps}:=x
  show h'.get? a=some {cls:=.none,data:=.fields ps}
  exact k a _ (.inl rfl) e
 | met f y =>
  have e:h.get? a=some (PySem.W.methodObj (.ref f) (.ref y)):=x
  show h'.get? a=some (PySem.W.methodObj (.ref f) (.ref y))
  exact k a _ (.inl rfl) e
 | ext φ=>obtain ⟨p,⟨o,e⟩,D⟩:=x;exact ⟨D _ _ p λo q=>k _ _ (.inl rfl) q,⟨o,k _ _ (.inl rfl) e⟩,D⟩
theorem HOk.lt(x:HOk P w H h)(e:H a=some o):a<h.objs.size:=(x a o e).lt
theorem HOk.fresh(x:HOk P w H h)(e:h.objs.size<=a):H a=none:=by
 cases q:H a with
 | none=>rfl
 | some u=>exact absurd (Nat.lt_of_lt_of_le (x.lt q) e) (Nat.lt_irrefl _)
theorem HOk.kept(x:HOk P w H h)(k:∀b u,h.get? b=some u->h'.get? b=some u):HOk P w H h':=λa o e =>
 (x a o e).stay (λb u _ q=>k b u q) (λ_ q=>q) λ_ _ q=>q
theorem HOk.laid(x:HOk P w H h)(k:∀b u,h.get? b=some u->h'.get? b=some u)(hp:h.objs.size<=a)(new:ObjOk P w (upd H a o) h' a o):HOk P w (upd H a o) h':=λb u e=>by
 have hn:=x.fresh hp
 by_cases hb:b=a
 ·subst hb;rw [ae] at e;cases e;exact new
 ·rw [am hb] at e
  exact (x b u e).stay (λc v _ q=>k c v q) (λc q=>by rw [am (ap q hn)];exact q) λc xs q=>by rw [am (ap q hn)];exact q
end
def Rd(H:Hp)(a:Addr)(u:HO):Prop:=H a=some u\/∃o,H a=some (.frz o u)
theorem Rd.ok{P:Program}{w:World}{H:Hp}{h:Heap}{a:Addr}{u:HO}(r:Rd H a u)(x:HOk P w H h):ObjOk P w H h a u:=by
 rcases r with r | ⟨o,r⟩
 ·exact x a u r
 ·obtain ⟨_,q⟩:=x a _ r
  exact q
def Mut:Option HO->Prop
 | some (.lst _)=>True
 | some (.dK _)=>True
 | some (.dT _)=>True
 | some (.set _ _)=>True
 | some (.ins _ _ _)=>True
 | some (.ext _)=>True
 | _=>False
section
variable {P:Program}{w:World}{H:Hp}{h h':Heap}{x e:Addr}{o':HO}
theorem HOk.write(ok:HOk P w H h)(d:Mut (H x))(g:e=x\/H e=some (.own x))(k:∀b u,b≠e->h.get? b=some u->h'.get? b=some u)(f:∃u,h'.get? e=some u)
  (new:ObjOk P w (upd H x o') h' x o'):HOk P w (upd H x o') h':=λb u q=>by
 have nown:∀c y,H c=some (.own y)->c≠x:=λc y r z=>by subst z;rw [r] at d;exact d
 have ntup:∀c xs,H c=some (.tup xs)->c≠x:=λc xs r z=>by subst z;rw [r] at d;exact d
 by_cases hb:b=x
 ·subst hb;rw [ae] at q;cases q;exact new
 ·rw [am hb] at q
  by_cases hbe:b=e
  ·have q':H b=some (.own x):=by
    rcases g with z | z
    ·exact absurd (hbe.trans z) hb
    ·rw [hbe];exact z
   rw [q] at q';cases q'
   obtain ⟨v,i⟩:=f
   exact ⟨v,by rw [hbe];exact i⟩
  ·refine (ok b u q).stay (λc v hc r=>k c v ?_ r) (λc r=>by rw [am (nown c b r)];exact r) λc xs r=>by rw [am (ntup c xs r)];exact r
   rcases hc with rfl | hc
   ·exact hbe
   ·rintro rfl
    rcases g with z | z
    ·exact nown c b hc z
    ·rw [hc] at z;cases z;exact hb rfl
end
structure Un(fs ex:List Addr)(H H':Hp)(h h':Heap):Prop where
 keep:∀b o,h.get? b=some o->H b=none->b∉fs->b∉ex->h'.get? b=some o
 slot:∀b o,h.get? b=some o->H b=none->b∈fs->b∉ex->∃sl,h'.get? b=some {o with slots:=sl}
 free:∀b o,h.get? b=some o->H b=none->b∉ex->H' b=none
 there:∀b o,h.get? b=some o->b∉ex->∃o',h'.get? b=some o'
 tups:∀b xs,H b=some (.tup xs)->H' b=some (.tup xs)
 frzs:∀b o u,H b=some (.frz o u)->H' b=some (.frz o u)
 tbls:∀b ps,H b=some (.tbl ps)->∃more,H' b=some (.tbl (ps++more))
section
variable {fs fs' ex ex':List Addr}{H H1 H2:Hp}{h h1 h2 h':Heap}{a x e:Addr}{o:HO}
theorem Un.any(u:Un fs ex H H1 h h1){b:Addr}{d:Obj}(q:h.get? b=some d)(n:H b=none)(e:b∉ex):∃sl,h1.get? b=some {d with slots:=sl}:=by
 by_cases hb:b∈fs
 ·exact u.slot b d q n hb e
 ·exact ⟨d.slots,u.keep b d q n hb e⟩
theorem Un.kept(k:∀b u,h.get? b=some u->h'.get? b=some u):Un fs ex H H h h' :=
 ⟨λb ob q _ _ _=>k b ob q,λb ob q _ _ _=>⟨ob.slots,k b ob q⟩,λ_ _ _ n _=>n,λb ob q _=>⟨ob,k b ob q⟩,λ_ _ q=>q,λ_ _ _ q=>q,λ_ ps q=>⟨#[],by rw [q];simp⟩⟩
theorem Un.refl:Un fs ex H H h h:=Un.kept λ_ _ q=>q
theorem Un.laid(k:∀b u,h.get? b=some u->h'.get? b=some u)(hp:h.objs.size<=a)(hn:H a=none):Un fs ex H (upd H a o) h h' where
 keep:=λb u q _ _ _=>k b u q
 slot:=λb u q _ _ _=>⟨u.slots,k b u q⟩
 free:=λb u q n _=>by rw [am (Φ (Nat.lt_of_lt_of_le (η q) hp))];exact n
 there:=λb u q _=>⟨u,k b u q⟩
 tups:=λb xs q=>by rw [am (ap q hn)];exact q
 frzs:=λb u xs q=>by rw [am (ap q hn)];exact q
 tbls:=λb ps q=>⟨#[],by rw [am (ap q hn),q];simp⟩
theorem Un.write(d:Mut (H x))(w:e=x\/H e=some (.own x))(k:∀b u,b≠e->h.get? b=some u->h'.get? b=some u)(g:∃u,h'.get? e=some u):Un fs ex H (upd H x o) h h':=by
 have i:∀b,H b=none->b≠x:=λb n z=>by subst z;rw [n] at d;exact d
 have j:∀b,H b=none->b≠e:=λb n z=>by
  subst z
  rcases w with r | r
  ·exact i b n r
  ·rw [n] at r;cases r
 have f:∀b u,H b=some u->¬Mut (some u)->b≠x:=λb u q l z=>by subst z;rw [q] at d;exact l d
 refine ⟨λb u q n _ _=>k b u (j b n) q,λb u q n _ _=>⟨u.slots,k b u (j b n) q⟩,λb u q n _=>by rw [am (i b n)];exact n,λb u q _=>?_,
  λb m q=>by rw [am (f b _ q λz=>z)];exact q,λb u m q=>by rw [am (f b _ q λz=>z)];exact q,λb y q=>⟨#[],by rw [am (f b _ q λz=>z),q];simp⟩⟩
 by_cases hbe:b=e
 ·subst hbe;exact g
 ·exact ⟨u,k b u hbe q⟩
end
def trk(h:Heap)(H:Hp):List Addr:=(List.range h.objs.size).filter λa=>(H a).isSome
def mz(h:Heap)(H:Hp):Heap:=PySem.W.hideAll h (trk h H)
theorem ub(h:Heap)(H:Hp):(mz h H).objs.size=h.objs.size:=PySem.W.hideAll_size _ _
theorem wI{h:Heap}{H:Hp}{b:Addr}{o:Obj}(e:h.get? b=some o)(n:H b=none):(mz h H).get? b=some o :=
 PySem.W.hideAll_get _ e λhm=>by
  have q:(H b).isSome=true:=(List.mem_filter.mp hm).2
  rw [n] at q;simp at q
theorem yL{h:Heap}{H:Hp}{b:Addr}{o:Obj}(e:(mz h H).get? b=some o):h.get? b=some o/\H b=none:=by
 have d:h.get? b=some o:=PySem.W.of_hideAll (trk h H) e
 refine ⟨d,?_⟩
 cases q:H b with
 | none=>rfl
 | some x =>
  have f:b∈trk h H:=List.mem_filter.mpr ⟨List.mem_range.mpr (Heap.lt_size d),by simp [q]⟩
  have z:(mz h H).get? b=none:=PySem.W.hideAll_none (trk h H) f
  rw [z] at e;cases e
structure Mod(K:Frag)(mg:Str->Option Value)(base:Heap):Prop where
 kin:K.In base
 glob:base.Ns mainGlobals mg
 blt:∃mb,base.Ns builtinsNs mb/\∀x:Str,x≠"__name__"->mb x=bootBuiltins x
 nolimit:base.NoLimit
structure Cx where
 prog:Program
 w:World
 K:Frag
 mg:Str->Option Value
 base:Heap
 A:Around
 N:List Str
 s₀:Shared
 H₀:Hp
 env:Env
 outer:List Env
 stack:List Env
 ex:List Addr
 fn:Str->Bool
 calm:Bool
 pn:List (Addr×Obj)
 xe:Value->Shared->Prop
def frs(l:List Env):List Addr:=l.filterMap (·.frame)
abbrev Cx.fs(X:Cx):List Addr:=frs X.outer
def Vis(sc:Scope)(x:Str):Prop:=sc.names.lookup x=some .local\/sc.names.lookup x=some .cell\/sc.names.lookup x=some .free
def Loc(sc:Scope)(x:Str):Prop:=sc.names.lookup x=some .local\/sc.names.lookup x=some .cell
def Cq(env:Env)(h:Heap)(m:Str->Option Value)(x:Str)(u:Value):Prop :=
 (env.kindOf x=some .local/\m x=some u)\/((env.kindOf x=some .cell\/env.kindOf x=some .free)/\∃c,env.cells.lookup x=some c/\h.IsCell c (some u))
structure Cx.Ok(X:Cx):Prop where
 mod:Mod X.K X.mg X.base
 kind:X.env.scope.kind=.function
 glob:X.env.globals=mainGlobals
 blt:X.env.builtins=builtinsNs
 above:X.s₀.heap.objs.size<=X.env.locals
 inj:∀x y c,X.env.cells.lookup x=some c->X.env.cells.lookup y=some c->x=y
 has:∀x,(X.env.kindOf x=some .cell\/X.env.kindOf x=some .free)->∃c,X.env.cells.lookup x=some c
 cab:∀x c,X.fn x=true->X.env.cells.lookup x=some c->X.s₀.heap.objs.size<=c
 hd:X.calm=true->X.A.handled=none
 frames:X.A.frames=some X.stack
 stk:X.stack=X.outer\/(X.stack=X.env::X.outer/\X.env.frame=some X.env.locals)
 exf:∀b∈X.ex,b≠X.env.locals/\∀x c,X.env.cells.lookup x=some c->c≠b
 bs:∀b o,X.base.get? b=some o->X.s₀.heap.get? b=some o/\X.H₀ b=none
 bsz:X.base.objs.size<=X.s₀.heap.objs.size
 noex:∀b o,X.base.get? b=some o->b∉X.ex
 exfs:∀b∈X.ex,b∉X.fs
 funs:X.s₀.heap.FunFrames X.base X.outer
 frf:∀b∈X.fs,X.H₀ b=none
structure Inv(X:Cx)(pins:List (Addr×Obj))(σ:List (Option V))(H:Hp)(s:Shared):Prop where
 ok:X.Ok
 os:s.os=X.s₀.os
 bare:AllBare s.gens
 base:Un X.fs X.ex X.H₀ H X.s₀.heap s.heap
 loc:∃m,s.heap.Ns X.env.locals m/\∀(i:Nat) (x:Str) (v:V),X.N[i]?=some x->σ[i]?=some (some v)->Vis X.env.scope x->∃u,RelV v u/\Cq X.env s.heap m x u
 cell:∀x c,X.env.cells.lookup x=some c->∃v,s.heap.IsCell c v
 free:H X.env.locals=none
 freeC:∀x c,X.env.cells.lookup x=some c->H c=none
 pin:∀p∈X.pn++pins,s.heap.get? p.1=some p.2/\H p.1=none/\p.1≠X.env.locals/\p.1∉X.fs/\∀v,p.2.data≠.cell v
 hok:HOk X.prog X.w H s.heap
 len:σ.length=X.N.length
section
variable {X:Cx}{pins:List (Addr×Obj)}{σ:List (Option V)}{H H':Hp}{s:Shared}{h':Heap}
theorem Cx.Ok.nofr(ok:X.Ok){b:Addr}{o:Obj}(e:X.base.get? b=some o):b∉X.fs:=λhb=>by
 have:=(ok.funs.mem hb).1
 rw [e] at this;cases this
theorem Inv.bs(I:Inv X pins σ H s):∀b o,X.base.get? b=some o->s.heap.get? b=some o/\H b=none:=λb o e =>
 ⟨I.base.keep b o (I.ok.bs b o e).1 (I.ok.bs b o e).2 (I.ok.nofr e) (I.ok.noex b o e),I.base.free b o (I.ok.bs b o e).1 (I.ok.bs b o e).2 (I.ok.noex b o e)⟩
theorem Inv.bk(I:Inv X pins σ H s):∀b o,X.base.get? b=some o->s.heap.get? b=some o:=λb o e=>(I.bs b o e).1
theorem Inv.mod(I:Inv X pins σ H s):Mod X.K X.mg X.base:=I.ok.mod
theorem Inv.kIn(I:Inv X pins σ H s):X.K.In s.heap:=I.ok.mod.kin.keeps I.bk
theorem Inv.lt(I:Inv X pins σ H s):X.env.locals<s.heap.objs.size:=let ⟨_,hn,_⟩:=I.loc;hn.lt
theorem Inv.sz(I:Inv X pins σ H s):X.s₀.heap.objs.size<=s.heap.objs.size:=Λ I.ok.above (Nat.le_of_lt I.lt)
theorem Inv.nofs(I:Inv X pins σ H s){a:Addr}(h:s.heap.objs.size<=a):a∉X.fs:=λhb=>by
 obtain ⟨_,o,ho,_⟩:=I.ok.funs.mem hb
 exact absurd (Nat.lt_of_lt_of_le (η ho) (Λ I.sz h)) (Nat.lt_irrefl _)
theorem Inv.cne(I:Inv X pins σ H s):∀x c,X.env.cells.lookup x=some c->c≠X.env.locals:=λx c e z=>by
 obtain ⟨v,o,ho,hd⟩:=I.cell x c e
 obtain ⟨m,⟨o',es,ep,ho',hd',_⟩,_⟩:=I.loc
 rw [z,ho'] at ho;cases ho;rw [hd'] at hd;cases hd
theorem Inv.funs(I:Inv X pins σ H s):s.heap.FunFrames X.base X.outer:=by
 have all:∀(l:List Env),(∀b∈frs l,b∈X.fs)->X.s₀.heap.FunFrames X.base l->s.heap.FunFrames X.base l:=by
  intro l
  induction l with
  | nil=>intro _ _;trivial
  | cons env r ih =>
   intro g u
   obtain ⟨h,⟨L,o,hf,i,j,m⟩,q⟩:=u
   have d:L∈X.fs:=g L (by unfold frs;rw [List.filterMap_cons,hf];exact List.mem_cons_self)
   obtain ⟨w,e⟩:=I.base.slot L o j (I.ok.frf L d) d λz=>I.ok.exfs L z d
   exact ⟨h,⟨L,_,hf,i,e,m⟩,ih (λb f=>g b (by unfold frs;rw [List.filterMap_cons,hf];exact List.mem_cons_of_mem _ f)) q⟩
 exact all X.outer (λ_ f=>f) I.ok.funs
theorem Inv.stack(I:Inv X pins σ H s):s.heap.FunFrames X.base X.stack:=by
 rcases I.ok.stk with e | ⟨e,hf⟩
 ·rw [e];exact I.funs
 ·rw [e]
  obtain ⟨m,b,_⟩:=I.loc
  refine .cons (by rw [I.ok.kind];decide) hf b ?_ I.funs
  exact Heap.get?_none_of_le (Λ I.ok.bsz I.ok.above)
theorem Inv.stkSub(I:Inv X pins σ H s):∀b∈frs X.stack,b∈X.env.locals::X.fs:=λb hb=>by
 rcases I.ok.stk with e | ⟨e,hf⟩
 ·rw [e] at hb;exact Θ _ hb
 ·rw [e] at hb
  unfold frs at hb
  rw [List.filterMap_cons,hf] at hb
  exact hb
theorem Inv.stkFree(I:Inv X pins σ H s):∀b∈frs X.stack,H b=none:=λb hb=>by
 rcases ϕ.mp (I.stkSub b hb) with e | hb
 ·rw [e];exact I.free
 ·obtain ⟨_,o,ho,_⟩:=I.ok.funs.mem hb
  exact I.base.free b o ho (I.ok.frf b hb) λz=>I.ok.exfs b z hb
theorem Inv.step{g':Array GenState}{t':Nat}{d':Drawn}{ch:List Addr}(I:Inv X pins σ H s)
  (j:∀b∈ch,(b∈X.ex\/X.s₀.heap.objs.size<=b)/\b≠X.env.locals/\(∀x c,X.env.cells.lookup x=some c->c≠b)/\∀p∈X.pn++pins,p.1≠b)
  (keep:∀b o,b≠X.env.locals->b∉X.fs->b∉ch->s.heap.get? b=some o->H b=none->h'.get? b=some o)
  (D:∀b o,b≠X.env.locals->b∈X.fs->b∉ch->s.heap.get? b=some o->H b=none->∃sl,h'.get? b=some {o with slots:=sl})(free:∀b o,b∉ch->s.heap.get? b=some o->H b=none->H' b=none)
  (there:∀b o,b∉ch->s.heap.get? b=some o->∃o',h'.get? b=some o')
  (tups:∀b xs,H b=some (.tup xs)->H' b=some (.tup xs))(L:∀b o u,H b=some (.frz o u)->H' b=some (.frz o u))(O:∀b ps,H b=some (.tbl ps)->∃more,H' b=some (.tbl (ps++more)))
  (ns:∀m,s.heap.Ns X.env.locals m->h'.Ns X.env.locals m)(U:HOk X.prog X.w H' h')(hg:AllBare g') :
  Inv X pins σ H' {s with heap:=h',gens:=g',drawn:=d',toks:=t'}:=by
 have K:∀b o,X.s₀.heap.get? b=some o->b≠X.env.locals:=λb o e=>Φ (Nat.lt_of_lt_of_le (η e) I.ok.above)
 have C:∀b o,X.s₀.heap.get? b=some o->b∉X.ex->b∉ch:=λb o e f F=>by
  rcases (j b F).1 with z | z
  ·exact f z
  ·exact absurd (Nat.lt_of_lt_of_le (η e) z) (Nat.lt_irrefl _)
 have g:∀x c,X.env.cells.lookup x=some c->∀v,s.heap.IsCell c v->h'.IsCell c v:=λx c e v ⟨o,G,Q⟩=>by
  have h:c∉ch:=λz=>(j c z).2.2.1 x c e rfl
  by_cases hc:c∈X.fs
  ·obtain ⟨sl,q⟩:=D c o (I.cne x c e) hc h G (I.freeC x c e)
   exact ⟨_,q,Q⟩
  ·exact ⟨o,keep c o (I.cne x c e) hc h G (I.freeC x c e),Q⟩
 refine ⟨I.ok,I.os,hg,⟨λb o e n F f=>?_,λb o e n F f=>?_,λb o e n f=>?_,λb o e f=>?_,λb xs e=>tups b xs (I.base.tups b xs e),λb o xs e=>L b o xs (I.base.frzs b o xs e),λb ps e=>?_⟩,?_,λx c e=>?_,?_,λx c e=>?_,λp Y=>?_,U,I.len⟩
 ·exact keep b o (K b o e) F (C b o e f) (I.base.keep b o e n F f) (I.base.free b o e n f)
 ·obtain ⟨sl,y⟩:=I.base.slot b o e n F f
  obtain ⟨P,J⟩:=D b _ (K b o e) F (C b o e f) y (I.base.free b o e n f)
  exact ⟨P,J⟩
 ·obtain ⟨o',y⟩:=I.base.there b o e f
  exact free b o' (C b o e f) y (I.base.free b o e n f)
 ·obtain ⟨o',y⟩:=I.base.there b o e f
  exact there b o' (C b o e f) y
 ·obtain ⟨m1,y⟩:=I.base.tbls b ps e
  obtain ⟨m2,J⟩:=O b _ y
  exact ⟨m1++m2,by rw [J,Array.append_assoc]⟩
 ·obtain ⟨m,Z,hl⟩:=I.loc
  refine ⟨m,ns m Z,λi x v y J e3=>?_⟩
  obtain ⟨u,r,l⟩:=hl i x v y J e3
  refine ⟨u,r,?_⟩
  rcases l with l | ⟨k,c,e,z⟩
  ·exact .inl l
  ·exact .inr ⟨k,c,e,g x c e _ z⟩
 ·obtain ⟨v,z⟩:=I.cell x c e
  exact ⟨v,g x c e v z⟩
 ·obtain ⟨m,⟨o,_,_,G,_⟩,_⟩:=I.loc
  exact free _ o (λz=>(j _ z).2.1 rfl) G I.free
 ·obtain ⟨v,o,G,Q⟩:=I.cell x c e
  exact free c o (λz=>(j c z).2.2.1 x c e rfl) G (I.freeC x c e)
 ·obtain ⟨e,n,ne,W,d⟩:=I.pin p Y
  have h:p.1∉ch:=λz=>(j p.1 z).2.2.2 p Y rfl
  exact ⟨keep p.1 p.2 ne W h e n,free p.1 p.2 h e n,ne,W,d⟩
theorem Inv.un{t':Nat}(I:Inv X pins σ H s)(u:Un X.fs [] H H' s.heap h')(i:HOk X.prog X.w H' h'):Inv X pins σ H' {s with heap:=h',toks:=t'}:=by
 obtain ⟨m,⟨o,y,C,j,r⟩,_⟩:=id I.loc
 obtain ⟨D,l⟩:=u.any j I.free (by simp)
 exact I.step (g':=s.gens) (d':=s.drawn) (ch:=[]) (λ_ z=>nomatch z) (λb o _ h _ e n=>u.keep b o e n h (by simp)) (λb o _ h _ e n=>u.slot b o e n h (by simp)) (λb o _ e n=>u.free b o e n (by simp)) (λb o _ e=>u.there b o e (by simp)) u.tups u.frzs u.tbls (λG x=>by
  obtain ⟨F,f,g,d,q⟩:=x
  rw [j] at d;cases d
  exact ⟨_,f,g,l,q⟩) i I.bare
theorem Inv.call{g':Array GenState}{t':Nat}{d':Drawn}{ch:List Addr}(I:Inv X pins σ H s)(u:Un (frs X.stack) ch H H' s.heap h')(l:HOk X.prog X.w H' h')(F:AllBare g')
  (g:∀b∈ch,(b∈X.ex\/X.s₀.heap.objs.size<=b)/\b≠X.env.locals/\(∀x c,X.env.cells.lookup x=some c->c≠b)/\∀p∈X.pn++pins,p.1≠b) :
  Inv X pins σ H' {s with heap:=h',gens:=g',drawn:=d',toks:=t'}:=by
 obtain ⟨m,⟨o,G,J,q,r⟩,_⟩:=id I.loc
 obtain ⟨K,h⟩:=u.any q I.free λz=>(g _ z).2.1 rfl
 exact I.step (ch:=ch) g (λb o h C d e n=>u.keep b o e n (λz=>(ϕ.mp (I.stkSub b z)).elim h C) d) (λb o _ _ d e n=>u.any e n d) (λb o d e n=>u.free b o e n d) (λb o d e=>u.there b o e d) u.tups u.frzs u.tbls (λO D=>by
  obtain ⟨L,i,j,f,y⟩:=D
  rw [q] at f;cases f
  exact ⟨_,i,j,h,y⟩) l F
theorem Inv.turned{t':Nat}{it:Addr}(I:Inv X pins σ H s)(k:∀b o,b≠it->s.heap.get? b=some o->h'.get? b=some o)(y:H it=none)(g:it≠X.env.locals)
  (h1:it∈X.ex\/X.s₀.heap.objs.size<=it)(C:∀x c,X.env.cells.lookup x=some c->c≠it)(D:∀p∈X.pn++pins,p.1≠it):Inv X pins σ H {s with heap:=h',toks:=t'}:=by
 have f:∀b u,H b=some u->b≠it:=λb u e z=>by rw [z,y] at e;cases e
 refine I.step (g':=s.gens) (d':=s.drawn) (ch:=[it]) (λb l=>?_) (λb o _ _ d e _=>k b o (λz=>d (by simp [z])) e) (λb o _ _ d e _=>⟨o.slots,k b o (λz=>d (by simp [z])) e⟩) (λ_ _ _ _ n=>n)
  (λb o d e=>⟨o,k b o (λz=>d (by simp [z])) e⟩) (λ_ _ e=>e) (λ_ _ _ e=>e) (λb F e=>⟨#[],by rw [e];simp⟩) (λm w=>?_) (λb u e=>?_) I.bare
 ·have e:b=it:=by simpa using l
  subst e
  exact ⟨h1,g,C,D⟩
 ·obtain ⟨o,h,i,j,r⟩:=w
  exact ⟨o,h,i,k _ o (Ne.symm g) j,r⟩
 ·refine (I.hok b u e).stay (λc v d q=>k c v ?_ q) (λ_ q=>q) λ_ _ q=>q
  rcases d with z | z
  ·rw [z];exact f b u e
  ·exact f c _ z
theorem Inv.tok(I:Inv X pins σ H s)(t:Nat):Inv X pins σ H {s with toks:=t}:=I.un (h':=s.heap) (t':=t) Un.refl I.hok
theorem Inv.kept{t':Nat}(I:Inv X pins σ H s)(k:∀b u,s.heap.get? b=some u->h'.get? b=some u):Inv X pins σ H {s with heap:=h',toks:=t'}:=I.un (Un.kept k) (I.hok.kept k)
theorem Inv.laid{a:Addr}{o:HO}{t':Nat}(I:Inv X pins σ H s)(k:∀b u,s.heap.get? b=some u->h'.get? b=some u)(hp:s.heap.objs.size<=a)(new:ObjOk X.prog X.w (upd H a o) h' a o) :
  Inv X pins σ (upd H a o) {s with heap:=h',toks:=t'}:=I.un (Un.laid k hp (I.hok.fresh hp)) (I.hok.laid k hp new)
theorem Inv.write{x e:Addr}{o:HO}{t':Nat}(I:Inv X pins σ H s)(mu:Mut (H x))(he:e=x\/H e=some (.own x))(k:∀b u,b≠e->s.heap.get? b=some u->h'.get? b=some u)(heo:∃u,h'.get? e=some u)
  (new:ObjOk X.prog X.w (upd H x o) h' x o):Inv X pins σ (upd H x o) {s with heap:=h',toks:=t'}:=I.un (Un.write mu he k heo) (I.hok.write mu he k heo new)
theorem Inv.weak{σ':List (Option V)}(I:Inv X pins σ H s)(hl:σ'.length=σ.length)(w:∀(i:Nat) v,σ'[i]?=some (some v)->σ[i]?=some (some v)):Inv X pins σ' H s :=
 ⟨I.ok,I.os,I.bare,I.base,let ⟨m,hn,hl'⟩:=I.loc;⟨m,hn,λi x v e1 e2 e3=>hl' i x v e1 (w i v e2) e3⟩,I.cell,I.free,I.freeC,I.pin,I.hok,hl.trans I.len⟩
theorem Inv.pins_of{pins':List (Addr×Obj)}(I:Inv X pins σ H s)(h:∀p∈pins',s.heap.get? p.1=some p.2/\H p.1=none/\p.1≠X.env.locals/\p.1∉X.fs/\∀v,p.2.data≠.cell v):Inv X pins' σ H s :=
 ⟨I.ok,I.os,I.bare,I.base,I.loc,I.cell,I.free,I.freeC,λp hp=>(List.mem_append.mp hp).elim (λz=>I.pin p (List.mem_append_left _ z)) (h p),I.hok,I.len⟩
theorem pS{N:List Str}(f:N.Nodup){i j:Nat}{x:Str}(a:N[i]?=some x)(b:N[j]?=some x):i=j:=by
 obtain ⟨h1,d⟩:=List.getElem?_eq_some_iff.mp a
 obtain ⟨g,e⟩:=List.getElem?_eq_some_iff.mp b
 exact (List.getElem_inj f).mp (d.trans e.symm)
theorem mH{M:Model}{A:Around}{E:Value->Shared->Prop}{i:Nat}{x:Str}{v:V}{u:Value}{Q:Unit->Shared->Prop}(I:Inv X pins σ H s)(hN:X.N.Nodup)(W:X.N[i]?=some x)(C:Loc X.env.scope x)(r:RelV v u)
  (h:∀s',Inv X pins (σ.set i (some v)) H s'->(∃a,Heap.SameBut a s.heap s'.heap/\(a=X.env.locals\/X.env.cells.lookup x=some a))->Q () s')(hf:X.fn x=true\/X.env.scope.names.lookup x=some .local:=by first | exact .inl rfl | exact .inr rfl | assumption):wpAny M A (storeName X.env x u) Q E s:=by
 obtain ⟨m,hn,hl⟩:=id I.loc
 have O:(X.env.scope.kind==.class||(X.env.scope.kind==.module&&X.env.locals != X.env.globals))=false:=by rw [I.ok.kind];rfl
 have P:i<σ.length:=by rw [I.len];exact (List.getElem?_eq_some_iff.mp W).1
 have cne:=I.cne
 have l:∀{a:Addr} {h':Heap},(∃o,s.heap.get? a=some o/\H a=none)->Heap.SameBut a s.heap h'->HOk X.prog X.w H h':=λ{a h'} ha f b ob e=>by
  obtain ⟨_,_,D⟩:=ha
  refine (I.hok b ob e).stay (λc Y hc q=>(f.2 c ?_).trans q) (λ_ q=>q) λ_ _ q=>q
  rintro rfl
  rcases hc with rfl | hc
  ·rw [D] at e;cases e
  ·rw [D] at hc;cases hc
 rcases C with hk | hk
 ·refine wpAny_storeName_local hk hn (λh' a7 f=>?_) O
  obtain ⟨oL,_,_,a1,_⟩:=id hn
  refine h _ ⟨I.ok,I.os,I.bare,⟨λb o e n J C=>?_,λb o e n J C=>?_,I.base.free,λb o e C=>?_,I.base.tups,I.base.frzs,I.base.tbls⟩,⟨_,a7,λj y v' g F e3=>?_⟩,λy c e=>?_,I.free,I.freeC,λp hp=>?_,l ⟨oL,a1,I.free⟩ f,by simpa using I.len⟩ ⟨_,f,.inl rfl⟩
  ·exact (f.2 b (Φ (Nat.lt_of_lt_of_le (η e) I.ok.above))).trans (I.base.keep b o e n J C)
  ·obtain ⟨sl,g⟩:=I.base.slot b o e n J C
   exact ⟨sl,(f.2 b (Φ (Nat.lt_of_lt_of_le (η e) I.ok.above))).trans g⟩
  ·obtain ⟨o',g⟩:=I.base.there b o e C
   exact ⟨o',(f.2 b (Φ (Nat.lt_of_lt_of_le (η e) I.ok.above))).trans g⟩
  ·by_cases hj:j=i
   ·subst hj
    rw [W] at g;cases g
    rw [List.getElem?_set_self P] at F
    cases F
    exact ⟨u,r,.inl ⟨hk,by simp⟩⟩
   ·rw [List.getElem?_set_ne (Ne.symm hj)] at F
    obtain ⟨u',r',q⟩:=hl j y v' g F e3
    refine ⟨u',r',?_⟩
    rcases q with ⟨k,e⟩ | ⟨k,c,e,z⟩
    ·refine .inl ⟨k,?_⟩
     have:y≠x:=λe=>hj (pS hN g (e▸W))
     simp [this,e]
    ·exact .inr ⟨k,c,e,z.sameBut f (cne y c e)⟩
  ·obtain ⟨Y,z⟩:=I.cell y c e
   exact ⟨Y,z.sameBut f (cne y c e)⟩
  ·obtain ⟨e,n,ne,nf,d⟩:=I.pin p hp
   exact ⟨(f.2 p.1 ne).trans e,n,ne,nf,d⟩
 ·have G:X.fn x=true:=by
   rcases hf with z | z
   ·exact z
   ·rw [z] at hk;cases hk
  obtain ⟨c,hc⟩:=I.ok.has x (.inl hk)
  obtain ⟨Y,z⟩:=I.cell x c hc
  refine wpAny_storeName_cell I.ok.kind hk hc z (λh' U f=>?_)
  obtain ⟨oc,K,L⟩:=id z
  refine h {s with heap:=h'} ⟨I.ok,I.os,I.bare,⟨λb o e n J C=>?_,λb o e n J C=>?_,I.base.free,λb o e C=>?_,I.base.tups,I.base.frzs,I.base.tbls⟩,⟨m,hn.sameBut f (Ne.symm (cne x c hc)),λj y v' g F e3=>?_⟩,λy Z e=>?_,I.free,I.freeC,λp hp=>?_,l ⟨oc,K,I.freeC x c hc⟩ f,by simpa using I.len⟩ ⟨c,f,.inr hc⟩
  ·exact (f.2 b (Φ (Nat.lt_of_lt_of_le (η e) (I.ok.cab x c G hc)))).trans (I.base.keep b o e n J C)
  ·obtain ⟨sl,g⟩:=I.base.slot b o e n J C
   exact ⟨sl,(f.2 b (Φ (Nat.lt_of_lt_of_le (η e) (I.ok.cab x c G hc)))).trans g⟩
  ·obtain ⟨o',g⟩:=I.base.there b o e C
   exact ⟨o',(f.2 b (Φ (Nat.lt_of_lt_of_le (η e) (I.ok.cab x c G hc)))).trans g⟩
  ·by_cases hj:j=i
   ·subst hj
    rw [W] at g;cases g
    rw [List.getElem?_set_self P] at F
    cases F
    exact ⟨u,r,.inr ⟨.inl hk,c,hc,U⟩⟩
   ·rw [List.getElem?_set_ne (Ne.symm hj)] at F
    obtain ⟨u',r',q⟩:=hl j y v' g F e3
    refine ⟨u',r',?_⟩
    rcases q with q | ⟨k,Z,e,z'⟩
    ·exact .inl q
    ·refine .inr ⟨k,Z,e,z'.sameBut f ?_⟩
     rintro rfl
     exact hj (pS hN g (I.ok.inj _ _ _ e hc▸W))
  ·by_cases hcc:Z=c
   ·subst hcc;exact ⟨_,U⟩
   ·obtain ⟨w2,z2⟩:=I.cell y Z e
    exact ⟨w2,z2.sameBut f hcc⟩
  ·obtain ⟨e,n,ne,nf,d⟩:=I.pin p hp
   refine ⟨(f.2 p.1 ?_).trans e,n,ne,nf,d⟩
   intro q
   rw [q,K] at e
   have q':oc=p.2:=Δ e
   exact d Y (by rw [← q'];exact L)
theorem kN{M:Model}{A:Around}{E:Value->Shared->Prop}{i:Nat}{x:Str}{v:V}{u:Value}{Q:Unit->Shared->Prop}(I:Inv X pins σ H s)(hN:X.N.Nodup)(hi:X.N[i]?=some x)(hx:Loc X.env.scope x)(r:RelV v u)
  (h:∀s',Inv X pins (σ.set i (some v)) H s'->Q () s')(hf:X.fn x=true\/X.env.scope.names.lookup x=some .local:=by first | exact .inl rfl | exact .inr rfl | assumption):wpAny M A (storeName X.env x u) Q E s :=
 mH I hN hi hx r (λs' I' _=>h s' I') hf
theorem Inv.call'{s':Shared}{ch:List Addr}(I:Inv X pins σ H s)(h:s'.os=s.os)(u:Un (frs X.stack) ch H H' s.heap s'.heap)(d:HOk X.prog X.w H' s'.heap)(i:AllBare s'.gens)
  (f:∀b∈ch,(b∈X.ex\/X.s₀.heap.objs.size<=b)/\b≠X.env.locals/\(∀x c,X.env.cells.lookup x=some c->c≠b)/\∀p∈X.pn++pins,p.1≠b):Inv X pins σ H' s':=by
 obtain ⟨h',g',d',t',g⟩:=s'
 have e:g=s.os:=h
 subst e
 exact I.call (g':=g') (t':=t') (d':=d') u d i f
end
abbrev XK:=Value->Option Addr->Hp->Prop
abbrev St:=List (Option V)
abbrev VK:=V->Hp->Prop
abbrev TE:=St->Hp->VK->Prop
abbrev TT:=St->Hp->(Bool->Hp->Prop)->Prop
abbrev TA:=St->Hp->(List V->Hp->Prop)->Prop
structure Ends where
 nx:St->Hp->Prop
 rt:VK
 bk:St->Hp->Prop:=λ_ _=>False
 ct:St->Hp->Prop:=λ_ _=>False
abbrev TS:=Ends->St->Hp->Prop
def EP(X:Cx)(pins:List (Addr×Obj))(σ:St)(Q:VK)(u:Value)(s':Shared):Prop:=∃v H',Inv X pins σ H' s'/\RelV v u/\Q v H'
def TP(X:Cx)(pins:List (Addr×Obj))(σ:St)(Q:Bool->Hp->Prop)(b:Bool)(s':Shared):Prop:=∃H',Inv X pins σ H' s'/\Q b H'
def AP(X:Cx)(pins:List (Addr×Obj))(σ:St)(Q:List V->Hp->Prop)(us:List Value)(s':Shared):Prop:=∃vs H',Inv X pins σ H' s'/\Vals vs us/\Q vs H'
def SP(X:Cx)(pins:List (Addr×Obj))(D:Ends)(f:Flow)(s':Shared):Prop :=
 match f with
 | .next=>∃σ' H',Inv X pins σ' H' s'/\D.nx σ' H'
 | .brk=>∃σ' H',Inv X pins σ' H' s'/\D.bk σ' H'
 | .cont=>∃σ' H',Inv X pins σ' H' s'/\D.ct σ' H'
 | .ret u=>∃v σ' H',Inv X pins σ' H' s'/\RelV v u/\D.rt v H'
def PE(X:Cx)(e:Expr)(t:TE):Prop :=
 ∀(pins:List (Addr×Obj)) (s:Shared) (σ:St) (H:Hp) (Q:VK),Inv X pins σ H s->t σ H Q->wpAny (model X.prog X.w) X.A (eval e X.env) (EP X pins σ Q) X.xe s
def PT(X:Cx)(e:Expr)(t:TT):Prop :=
 ∀(pins:List (Addr×Obj)) (s:Shared) (σ:St) (H:Hp) (Q:Bool->Hp->Prop),Inv X pins σ H s->t σ H Q->wpAny (model X.prog X.w) X.A (isTrue e X.env (eval e X.env)) (TP X pins σ Q) X.xe s
def PW(X:Cx)(e:Expr)(t:TT):Prop :=
 ∀(whole:Sem Value) (pins:List (Addr×Obj)) (s:Shared) (σ:St) (H:Hp) (Q:Bool->Hp->Prop),Inv X pins σ H s->t σ H Q->wpAny (model X.prog X.w) X.A (isTrue e X.env whole) (TP X pins σ Q) X.xe s
theorem PW.pt{X:Cx}{e:Expr}{t:TT}(h:PW X e t):PT X e t:=h _
def PA(X:Cx)(es:List Expr)(t:TA):Prop :=
 ∀(pos:Pos) (pins:List (Addr×Obj)) (s:Shared) (σ:St) (H:Hp) (Q:List V->Hp->Prop),Inv X pins σ H s->t σ H Q->wpAny (model X.prog X.w) X.A (spliced (backTo pos (starEach es X.env))) (AP X pins σ Q) X.xe s
def PS(X:Cx)(st:Stmt)(t:TS):Prop :=
 ∀(pins:List (Addr×Obj)) (s:Shared) (σ:St) (H:Hp) (D:Ends),Inv X pins σ H s->t D σ H->wpAny (model X.prog X.w) X.A (exec st X.env) (SP X pins D) X.xe s
def PSs(X:Cx)(st:List Stmt)(t:TS):Prop :=
 ∀(pins:List (Addr×Obj)) (s:Shared) (σ:St) (H:Hp) (D:Ends),Inv X pins σ H s->t D σ H->wpAny (model X.prog X.w) X.A (execs st X.env) (SP X pins D) X.xe s
theorem thn{α:Type}{t:Sem α}{Q Q':α->Shared->Prop}{M:Model}{A:Around}{E:Value->Shared->Prop}{s:Shared}(h:wpAny M A t Q E s)(hQ:∀a s,Q a s->Q' a s):wpAny M A t Q' E s:=wpAny_mono h hQ λ_ _ x=>x
section
variable {X:Cx}
inductive XV (i:Nat) (σ:St) (H:Hp) (Q:VK):Prop|mk v:σ[i]?=some (some v)->Q v H->XV i σ H Q
def qt(i:Nat):TE:=fun σ H Q=>XV i σ H Q
def tC(v:V):TE:=λ_ H Q=>Q v H
theorem qO{i:Nat}{x:Str}{pos:Pos}(q:X.N[i]?=some x)(w:Vis X.env.scope x)(f:(x==("__debug__":Str))=false:=by decide)(g:(x==("__classdict__":Str))=false:=by decide):PE X (.Name x pos) (qt i):=by
 intro d s σ H Q I h
 obtain ⟨v,e,h⟩:=h
 obtain ⟨m,j,o⟩:=I.loc
 obtain ⟨u,r,l⟩:=o i x v q e w
 have b:EP X d σ Q u s:=⟨v,H,I,r,h⟩
 rcases l with ⟨hk,hm⟩ | ⟨hk,c,hc,hcell⟩
 ·exact wpAny_Name (wpAny_loadName_local I.ok.kind hk j hm b) f
 ·rcases hk with hk | hk
  ·exact wpAny_Name (wpAny_loadName_cell I.ok.kind hk hc hcell b) f
  ·exact wpAny_Name (wpAny_loadName_free I.ok.kind hk hc hcell b g) f
theorem aj{i j pos}:PE X (.Constant (.int i) j pos) (tC (.int i)):=λ_ _ _ H _ I h=>wpAny_Constant_int ⟨.int i,H,I.tok _,⟨_,ϱ⟩,h⟩
theorem pN{b j pos}:PE X (.Constant (.bool b) j pos) (tC (.bl b)):=λ_ _ _ H _ I h=>Constant_bool ⟨.bl b,H,I,ϱ,h⟩
theorem bX{j pos}:PE X (.Constant .none j pos) (tC .non):=λ_ _ _ H _ I h=>Constant_none ⟨.non,H,I,ϱ,h⟩
theorem aB{x j pos}:PE X (.Constant (.str x) j pos) (tC (.str x)):=λ_ _ _ H _ I h=>Calls.Constant_str ⟨.str x,H,I.tok _,⟨_,ϱ⟩,h⟩
def Gl(X:Cx)(x:Str):Prop:=X.env.kindOf x=some .globalImplicit
theorem i7{E:Value->Shared->Prop}{pins:List (Addr×Obj)}{s:Shared}{σ:St}{H:Hp}{x:Str}{u:Value}{pos:Pos}{Q:Value->Shared->Prop}(I:Inv X pins σ H s)(hg:Gl X x)(hm:X.mg x=some u)(h:Q u s)
  (hd:(x==("__debug__":Str))=false:=by decide):wpAny (model X.prog X.w) X.A (eval (.Name x pos) X.env) Q E s :=
 Calls.Name_function_global I.ok.kind hg (Calls.loadGlobal_global (by rw [I.ok.glob];exact I.mod.glob.keeps I.bk) hm h) hd
theorem lO{E:Value->Shared->Prop}{b:List (Addr×Obj)}{s:Shared}{σ:St}{H:Hp}{x:Str}{u:Value}{pos:Pos}{Q:Value->Shared->Prop}(I:Inv X b σ H s)(e:Gl X x)(f:X.mg x=none)(g:bootBuiltins x=some u)(h:Q u s)
  (i:x≠"__name__":=by decide)(j:(x==("__debug__":Str))=false:=by decide):wpAny (model X.prog X.w) X.A (eval (.Name x pos) X.env) Q E s:=by
 obtain ⟨l,h1,d⟩:=I.mod.blt
 exact Calls.Name_function_global I.ok.kind e (Calls.loadGlobal_builtin (by rw [I.ok.glob];exact I.mod.glob.keeps I.bk) f (by rw [I.ok.blt];exact h1.keeps I.bk) ((d x i).trans g) h) j
theorem hW{x:Str}{v:V}{u:Value}{pos:Pos}(hg:Gl X x)(hm:X.mg x=some u)(r:RelV v u)(hd:(x==("__debug__":Str))=false:=by decide):PE X (.Name x pos) (tC v) :=
 λ_ _ _ H _ I h=>i7 I hg hm ⟨v,H,I,r,h⟩ hd
theorem so{x:Str}{v:V}{u:Value}{pos:Pos}(hg:Gl X x)(hm:X.mg x=none)(hv:bootBuiltins x=some u)(r:RelV v u)(hn:x≠"__name__":=by decide)(hd:(x==("__debug__":Str))=false:=by decide):PE X (.Name x pos) (tC v) :=
 λ_ _ _ H _ I h=>lO I hg hm hv ⟨v,H,I,r,h⟩ hn hd
variable {a b:Expr}{ta tb:TE}{pos:Pos}
def PC(X:Cx)(op:CmpOp)(a b:Expr)(t:TE):Prop :=
 ∀(pins:List (Addr×Obj)) (s:Shared) (σ:St) (H:Hp) (Q:VK),Inv X pins σ H s->t σ H Q ->
  wpAny (model X.prog X.w) X.A (eval a X.env) (λv s₁=>wpAny (model X.prog X.w) X.A (eval b X.env) (λu s₂=>wpAny (model X.prog X.w) X.A (compareOp op v u) (EP X pins σ Q) X.xe s₂) X.xe s₁) X.xe s
inductive XB (Q:Bool->Hp->Prop) (x:V) (H:Hp):Prop|mk c:x=.bl c->Q c H->XB Q x H
def tB(t:TE):TT:=fun σ H Q=>t σ H λx H1=>XB Q x H1
theorem gO{f:CmpOp}{t:TE}(h:PC X f a b t)(h1:behindInMarks f b=false:=by first | exact nobehind _ ζ ζ | rfl):PT X (.Compare a [f] [b] pos) (tB t):=by
 intro e s σ H Q I l
 refine wpAny_isTrue_Compare1 (thn (h e s σ H _ I l) λv m h1=>thn h1 λu o g=>thn g λc r ⟨x,H1,i,j,q1⟩=>?_) h1
 obtain ⟨d,rfl,q⟩:=q1
 cases j
 exact wpAny_truthy_bool ⟨H1,i,q⟩
theorem bL{e:Expr}{t:TE}(h:PE X e t)(j:∀whole,isTrue e X.env whole=(do let v ← whole;standAt e.pos;holding [v] (truthy v)):=by intro _;rfl):PT X e (tB t):=by
 intro b s σ H Q I i
 refine isTrue_plain (thn (h b s σ H _ I i) λv l ⟨x,H1,f,g,q1⟩=>?_) (j _)
 obtain ⟨d,rfl,q⟩:=q1
 cases g
 exact wpAny_truthy_bool ⟨H1,f,q⟩
variable {tA tB':TT}{rest:List Expr}
def By(t u:TT):TT:=fun σ H Q=>t σ H λc H1=>if c=true then u σ H1 Q else Q false H1
def tOr(t u:TT):TT:=fun σ H Q=>t σ H λc H1=>if c=true then Q true H1 else u σ H1 Q
def B7(t:TT):TT:=fun σ H Q=>t σ H λc H1=>Q (!c) H1
theorem iU(d:PT X a tA):PW X (.BoolOp .And [a] pos) tA:=by
 intro g b s σ H Q I h
 refine isTrue_and (thn (d b s σ H Q I h) λc f e=>?_)
 cases c with
 | true=>exact isTrue_and_nil e
 | false=>exact e
theorem fQ(d:PT X a tA):PW X (.BoolOp .Or [a] pos) tA:=by
 intro g b s σ H Q I h
 refine isTrue_or (thn (d b s σ H Q I h) λc f e=>?_)
 cases c with
 | false=>exact isTrue_or_nil e
 | true=>exact e
theorem gN(i:PT X a tA)(j:PW X (.BoolOp .And (b::rest) pos) tB'):PW X (.BoolOp .And (a::b::rest) pos) (By tA tB'):=by
 intro g d s σ H Q I h
 refine isTrue_and (thn (i d s σ H _ I h) λc f ⟨H1,e,q1⟩=>?_)
 cases c with
 | true=>exact j g d f σ H1 Q e q1
 | false=>exact ⟨H1,e,q1⟩
theorem io(i:PT X a tA)(j:PW X (.BoolOp .Or (b::rest) pos) tB'):PW X (.BoolOp .Or (a::b::rest) pos) (tOr tA tB'):=by
 intro g d s σ H Q I h
 refine isTrue_or (thn (i d s σ H _ I h) λc f ⟨H1,e,q1⟩=>?_)
 cases c with
 | true=>exact ⟨H1,e,q1⟩
 | false=>exact j g d f σ H1 Q e q1
theorem dY(d:PT X a tA):PT X (.UnaryOp .Not a pos) (B7 tA):=by
 intro b s σ H Q I h
 exact isTrue_not (d b s σ H (λc H1=>Q (!c) H1) I h)
inductive XIf (x:V) (P R:Prop):Prop|mk c:x=.bl c->(if c=true then P else R)->XIf x P R
def Bw(ta tb:TE):TE:=fun σ H Q=>ta σ H λx H1=>XIf x (tb σ H1 Q) (Q (.bl false) H1)
def Bo(ta:TE):TE:=fun σ H Q=>ta σ H λx H1=>∃c,x=.bl c/\Q (.bl (!c)) H1
theorem eY{op}{t:TE}(h:PE X a t):PE X (.BoolOp op [a] pos) t:=λpins s σ H Q I hw=>BoolOp_one (h pins s σ H Q I hw)
theorem d6(i:PE X a ta)(j:PE X (.BoolOp .And (b::rest) pos) tb):PE X (.BoolOp .And (a::b::rest) pos) (Bw ta tb):=by
 intro d s σ H Q I h
 refine BoolOp_and (thn (i d s σ H _ I h) λv f ⟨x,H1,e,g,q1⟩=>?_)
 obtain ⟨c,rfl,q1⟩:=q1
 cases g
 refine wpAny_truthy_bool ?_
 cases c with
 | true=>exact j d f σ H1 Q e q1
 | false=>exact ⟨.bl false,H1,e,rfl,q1⟩
theorem Ak(f:PE X a ta):PE X (.UnaryOp .Not a pos) (Bo ta):=by
 intro b s σ H Q I h
 refine UnaryOp_ (thn (f b s σ H _ I h) λv g ⟨x,H1,d,e,q1⟩=>?_)
 obtain ⟨c,rfl,q1⟩:=q1
 cases e
 exact not_of (wpAny_truthy_bool ⟨.bl (!c),H1,d,ϱ,q1⟩)
def tIf(t:TT)(ta tb:TE):TE:=fun σ H Q=>t σ H λc H1=>if c=true then ta σ H1 Q else tb σ H1 Q
theorem pM{c:Expr}(i:PT X c tA)(j:PE X a ta)(l:PE X b tb):PE X (.IfExp c a b pos) (tIf tA ta tb):=by
 intro e s σ H Q I h
 refine wpAny_IfExp (thn (i e s σ H _ I h) λd f ⟨H1,g,q1⟩=>?_)
 cases d with
 | true=>exact j e f σ H1 Q g q1
 | false=>exact l e f σ H1 Q g q1
end
def SqL(K:Frag)(H:Hp)(a:Addr)(xs:List V):Prop :=
 Rd H a (.lst xs) \/
  ∃(o:Obj) (its:Array Value) (n:Nat),K.lookup a=some o/\o.cls=.type "list"/\o.dict=none/\o.data=.seq its n/\its.size<=sizeLine/\Vals xs its.toList
def SqT(K:Frag)(H:Hp)(a:Addr)(xs:List V):Prop :=
 Rd H a (.tup xs) \/
  ∃(o:Obj) (its:Array Value) (n:Nat),K.lookup a=some o/\o.cls=.type "tuple"/\o.data=.seq its n/\its.size<=sizeLine/\Vals xs its.toList
def Cp:Value->Option V
 | .none=>some .non
 | .bool b=>some (.bl b)
 | .int i _=>some (.int i)
 | .str x _=>some (.str x)
 | .bytes b _=>some (.byt b)
 | .float b _=>some (.flt b)
 | .ref a=>some (.ref a)
 | .type n=>some (.ty n)
 | _=>none
theorem RelV.abs{x:V}{u:Value}(r:RelV x u):Cp u=some x:=by
 cases x with
 | non=>cases r;rfl
 | bl _=>cases r;rfl
 | int _=>obtain ⟨t,rfl⟩:=r;rfl
 | str _=>obtain ⟨t,rfl⟩:=r;rfl
 | byt _=>obtain ⟨t,rfl⟩:=r;rfl
 | flt _=>obtain ⟨t,rfl⟩:=r;rfl
 | ref _=>cases r;rfl
 | ty _=>cases r;rfl
theorem RelV.inj{x y:V}{u:Value}(r:RelV x u)(q:RelV y u):x=y:=Δ (r.abs.symm.trans q.abs)
theorem Vals.inj:∀{xs ys:List V} {us:List Value},Vals xs us->Vals ys us->xs=ys
 | _,_,_,.nil,.nil=>rfl
 | _,_,_,.cons r t,.cons r' t'=>by rw [r.inj r',Vals.inj t t']
section
variable {X:Cx}{pins:List (Addr×Obj)}{σ:St}{H:Hp}{s:Shared}{a:Addr}{xs ys:List V}
theorem SqL.of{K:Frag}(h:H a=some (.lst xs)):SqL K H a xs:=.inl (.inl h)
theorem SqT.of{K:Frag}(h:H a=some (.tup xs)):SqT K H a xs:=.inl (.inl h)
theorem Inv.list(I:Inv X pins σ H s)(h:SqL X.K H a xs):∃its:List Value,Vals xs its/\PlainL s.heap a its.toArray/\xs.length<=sizeLine:=by
 rcases h with h | ⟨o,its,n,hk,hc,hd,hs,hz,r⟩
 ·obtain ⟨z,its,n,r,e⟩:=h.ok I.hok
  exact ⟨its,r,⟨_,n,e,ϱ,ϱ,ϱ⟩,z⟩
 ·refine ⟨its.toList,r,⟨o,n,I.kIn a o hk,hc,hd,by simpa using hs⟩,?_⟩
  have e:=r.length
  simp only [Array.length_toList] at e
  omega
theorem Inv.tuple(I:Inv X pins σ H s)(h:SqT X.K H a xs):∃its:List Value,Vals xs its/\IsTup s.heap a its.toArray/\xs.length<=sizeLine:=by
 rcases h with h | ⟨o,its,n,hk,hc,hs,hz,r⟩
 ·obtain ⟨z,its,r,p⟩:=h.ok I.hok
  exact ⟨its,r,p,z⟩
 ·refine ⟨its.toList,r,⟨o,I.kIn a o hk,hc,n,by simpa using hs⟩,?_⟩
  have e:=r.length
  simp only [Array.length_toList] at e
  omega
theorem Inv.list_inj(I:Inv X pins σ H s)(h:SqL X.K H a xs)(h':SqL X.K H a ys):xs=ys:=by
 obtain ⟨f,r,⟨o,n,e,_,_,d⟩,_⟩:=I.list h
 obtain ⟨b,j,⟨l,m,g,_,_,i⟩,_⟩:=I.list h'
 rw [e] at g;cases g
 rw [d] at i
 injection i with d1 _
 have:f=b:=by simpa using congrArg Array.toList d1
 subst this
 exact r.inj j
theorem Inv.tuple_inj(I:Inv X pins σ H s)(h:SqT X.K H a xs)(h':SqT X.K H a ys):xs=ys:=by
 obtain ⟨f,r,⟨o,e,_,n,d⟩,_⟩:=I.tuple h
 obtain ⟨b,j,⟨l,g,_,m,i⟩,_⟩:=I.tuple h'
 rw [e] at g;cases g
 rw [d] at i
 injection i with d1 _
 have:f=b:=by simpa using congrArg Array.toList d1
 subst this
 exact r.inj j
end
abbrev Cx.wish(X:Cx)(E:Value->Shared->Prop):Cx:={X with xe:=E}
abbrev Cx.nox(X:Cx):Cx:=X.wish λ_ _=>False
theorem Cx.Ok.wish{X:Cx}(ok:X.Ok)(E:Value->Shared->Prop):(X.wish E).Ok :=
 ⟨ok.mod,ok.kind,ok.glob,ok.blt,ok.above,ok.inj,ok.has,ok.cab,ok.hd,ok.frames,ok.stk,ok.exf,ok.bs,ok.bsz,ok.noex,ok.exfs,ok.funs,ok.frf⟩
theorem Cx.Ok.unwish{X:Cx}{E:Value->Shared->Prop}(ok:(X.wish E).Ok):X.Ok :=
 ⟨ok.mod,ok.kind,ok.glob,ok.blt,ok.above,ok.inj,ok.has,ok.cab,ok.hd,ok.frames,ok.stk,ok.exf,ok.bs,ok.bsz,ok.noex,ok.exfs,ok.funs,ok.frf⟩
section
variable {X:Cx}{pins:List (Addr×Obj)}{σ:St}{H:Hp}{s:Shared}{E:Value->Shared->Prop}
theorem Inv.wish(I:Inv X pins σ H s)(E:Value->Shared->Prop):Inv (X.wish E) pins σ H s:=⟨I.ok.wish E,I.os,I.bare,I.base,I.loc,I.cell,I.free,I.freeC,I.pin,I.hok,I.len⟩
theorem Inv.unwish(I:Inv (X.wish E) pins σ H s):Inv X pins σ H s:=⟨I.ok.unwish,I.os,I.bare,I.base,I.loc,I.cell,I.free,I.freeC,I.pin,I.hok,I.len⟩
theorem SP.unwish{D:Ends}{f:Flow}{s':Shared}(h:SP (X.wish E) pins D f s'):SP X pins D f s':=by
 cases f with
 | next=>obtain ⟨b,d,I,q⟩:=h;exact ⟨b,d,I.unwish,q⟩
 | brk=>obtain ⟨b,d,I,q⟩:=h;exact ⟨b,d,I.unwish,q⟩
 | cont=>obtain ⟨b,d,I,q⟩:=h;exact ⟨b,d,I.unwish,q⟩
 | ret u=>obtain ⟨v,b,d,I,r,q⟩:=h;exact ⟨v,b,d,I.unwish,r,q⟩
theorem PSs.nox{st:List Stmt}{t:TS}(h:PSs X.nox st t):PSs X st t:=λpins s σ H D I hw =>
 wpAny_mono (h pins s σ H D (I.wish _) hw) (λ_ _ q=>q.unwish) λ_ _ z=>False.elim z
end
section
variable {X:Cx}{st:Stmt}{rest:List Stmt}{t u:TS}{e:Expr}{te:TE}{pos:Pos}
def Bp:TS:=λD σ H=>D.nx σ H
def Bl(t u:TS):TS:=λD σ H=>t {D with nx:=u D} σ H
theorem aA:PSs X [] Bp:=λ_ _ σ H _ I h=>wpAny_execs_nil ⟨σ,H,I,h⟩
theorem ah(h1:PS X st t)(j:PSs X rest u):PSs X (st::rest) (Bl t u):=by
 intro b s σ H D I h
 refine wpAny_execs_cons (thn (h1 b s σ H {D with nx:=u D} I h) λf i q=>?_)
 cases f with
 | next =>
  obtain ⟨d,e,g,q⟩:=q
  exact j b i d e D g q
 | ret v=>exact q
 | brk=>exact q
 | cont=>exact q
theorem ai(h1:PS X st t):PSs X [st] t:=by
 intro b s σ H D I h
 refine wpAny_execs_cons (thn (h1 b s σ H D I h) λf d q=>?_)
 cases f with
 | next=>exact wpAny_execs_nil q
 | ret v=>exact q
 | brk=>exact q
 | cont=>exact q
theorem Inv.quiet{pins:List (Addr×Obj)}{σ:St}{H:Hp}{s:Shared}(I:Inv X pins σ H s):interactive X.env=false:=by simp [interactive,I.ok.kind]
def Br(te:TE):TS:=λD σ H=>te σ H λ_ H1=>D.nx σ H1
theorem aV(f:PE X e te)(g:swapsWith e none pos.line X.env=pure false:=by rfl):PS X (.Expr e pos) (Br te):=by
 intro b s σ H D I h
 exact wpAny_Expr_any (thn (f b s σ H _ I h) λv i ⟨x,H1,d,j,q1⟩=>⟨σ,H1,d,q1⟩) I.quiet g
def B6(te:TE):TS:=λD σ H=>te σ H D.rt
theorem au(g:PE X e te):PS X (.Return (some e) pos) (B6 te):=by
 intro b s σ H D I h
 exact wpAny_Return_some (thn (g b s σ H _ I h) λv i ⟨x,H1,d,f,q1⟩=>⟨x,σ,H1,d,f,q1⟩)
def Bm:TS:=λD _ H=>D.rt .non H
theorem se:PS X (.Return none pos) Bm:=λ_ _ σ H _ I h=>wpAny_Return_none ⟨.non,σ,H,I,ϱ,h⟩
def B8(c:TT)(t u:TS):TS:=λD σ H=>c σ H λb H1=>if b=true then t D σ H1 else u D σ H1
theorem aG{c:Expr}{a b:List Stmt}{tc:TT}(i:PT X c tc)(j:PSs X a t)(l:PSs X b u):PS X (.If c a b pos) (B8 tc t u):=by
 intro e s σ H D I h
 refine wpAny_If (thn (i e s σ H _ I h) λd f ⟨H1,g,q1⟩=>?_)
 cases d with
 | true=>exact j e f σ H1 D g q1
 | false=>exact l e f σ H1 D g q1
def zO:TS:=λ_ _ _=>False
theorem aD{sts:List Stmt}:PSs X sts zO:=λ_ _ _ _ _ _ h=>h.elim
end
abbrev TG:=V->St->Hp->(St->Hp->Prop)->Prop
abbrev TGs:=List V->St->Hp->(St->Hp->Prop)->Prop
def PG(X:Cx)(target:Expr)(t:TG):Prop :=
 ∀(pins:List (Addr×Obj)) (s:Shared) (σ:St) (H:Hp) (v:V) (u:Value) (Q:St->Hp->Prop),Inv X pins σ H s->RelV v u->t v σ H Q ->
  wpAny (model X.prog X.w) X.A (assign target X.env u) (λ_ s'=>∃σ' H',Inv X pins σ' H' s'/\Q σ' H') X.xe s
def PGs(X:Cx)(ts:List Expr)(t:TGs):Prop :=
 ∀(pins:List (Addr×Obj)) (s:Shared) (σ:St) (H:Hp) (vs:List V) (us:List Value) (Q:St->Hp->Prop),Inv X pins σ H s->Vals vs us->t vs σ H Q ->
  wpAny (model X.prog X.w) X.A (assignInOrder ((assignEach ts X.env).map (·.2)) us) (λ_ s'=>∃σ' H',Inv X pins σ' H' s'/\Q σ' H') X.xe s
abbrev A9:=V->V->V->Hp->(Hp->Prop)->Prop
def B4(X:Cx)(t:A9):Prop :=
 ∀(pins:List (Addr×Obj)) (s:Shared) (σ:St) (H:Hp) (o i v:V) (ov iv u:Value) (Q:Hp->Prop),Inv X pins σ H s->RelV o ov->RelV i iv->RelV v u->t o i v H Q ->
  wpAny (model X.prog X.w) X.A (setItem ov iv u) (λ_ s'=>∃H',Inv X pins σ H' s'/\Q H') X.xe s
section
variable {X:Cx}{pos:Pos}
def sG(i:Nat):TG:=λv σ H Q=>Q (σ.set i (some v)) H
theorem ci{i:Nat}{x:Str}(e:X.N.Nodup)(f:X.N[i]?=some x)(g:Loc X.env.scope x)(hf:X.fn x=true\/X.env.scope.names.lookup x=some .local:=by first | exact .inl rfl | exact .inr rfl | assumption):PG X (.Name x pos) (sG i):=by
 intro b s σ H v u Q I r h
 exact wpAny_assign_Name (kN I e f g r (λj d=>⟨_,H,d,h⟩) hf)
def Cm:TGs:=λvs σ H Q=>vs=[]/\Q σ H
inductive XGC (t:TG) (u:TGs) (vs:List V) (σ:St) (H:Hp) (Q:St->Hp->Prop):Prop|mk v r:vs=v::r->(t v σ H fun σ' H'=>u r σ' H' Q)->XGC t u vs σ H Q
def B1(t:TG)(u:TGs):TGs:=λvs σ H Q=>XGC t u vs σ H Q
theorem sg:PGs X [] Cm:=by
 intro b s σ H vs d Q I r h
 obtain ⟨e,h⟩:=h
 subst e
 cases r
 exact assignInOrder_nil ⟨σ,H,I,h⟩
theorem iV{e:Expr}{es:List Expr}{t:TG}{u:TGs}(h1:PG X e t)(j:PGs X es u)
  (l:(assignEach (e::es) X.env).map (·.2)=assign e X.env::(assignEach es X.env).map (·.2):=by rfl):PGs X (e::es) (B1 t u):=by
 intro b s σ H vs m Q I r h
 obtain ⟨v,vr,d,h⟩:=h
 subst d
 cases r with
 | cons r rr =>
  rw [l]
  refine assignInOrder_cons (thn (h1 b s σ H _ _ _ I r h) λ_ f ⟨g,H1,i,q1⟩=>?_)
  exact j b f g H1 _ _ Q i rr q1
inductive XGT (K:Frag) (n:Nat) (t:TGs) (v:V) (σ:St) (H:Hp) (Q:St->Hp->Prop):Prop|mk a xs:v=.ref a->SqT K H a xs->xs.length=n->t xs σ H Q->XGT K n t v σ H Q
def Cj(K:Frag)(n:Nat)(t:TGs):TG:=λv σ H Q=>XGT K n t v σ H Q
theorem vo{es:List Expr}{k:Nat}{t:TGs}{n:Nat}(D:X.calm=true)(h:PGs X es t)
  (F:(assignEach es X.env).length=n:=by rfl)(g:(assignEach es X.env).findIdx? (·.1)=none:=by rfl):PG X (.Tuple es k pos) (Cj X.K n t):=by
 intro d s σ H v u Q I r f
 obtain ⟨a,j,l,m,q,f⟩:=f
 subst l
 cases r
 obtain ⟨w,i,x,G⟩:=I.tuple m
 refine assign_Tuple_tuple (I.ok.hd D) x (by simp [F,← q,i.length]) g λz C=>?_
 have y:Inv X d σ H {s with heap:=z}:=I.kept (t':=s.toks) λb o e=>C b o (Φ (η e)) e
 exact h d _ σ H j _ Q y (by simpa using i) f
def Cl(to ti:TE)(t:A9):TG:=λv σ H Q=>to σ H λo H1=>ti σ H1 λi H2=>t o i v H2 λH3=>Q σ H3
theorem vp{o i:Expr}{d e:TE}{t:A9}(D:PE X o d)(F:PE X i e)(G:B4 X t)
  (J:∀v,assign (.Subscript o i pos) X.env v=(do
   let ov ← holding [v] (eval o X.env)
   let iv ← holding [v,ov] (eval i X.env)
   standAt pos
   holding [v,ov,iv] (setItem ov iv v)
   release [v,ov,iv] []):=by intro _;rfl):PG X (.Subscript o i pos) (Cl d e t):=by
 intro b s σ H v u Q I r h
 rw [J]
 refine ε (wpAny_holding (thn (D b s σ H _ I h) λov f ⟨x,H1,g,j,q1⟩=>?_))
 refine ε (wpAny_holding (thn (F b f σ H1 _ g q1) λiv l ⟨y,m,q,w,q2⟩=>?_))
 refine ε (wpAny_standAt (ε (wpAny_holding (thn (G b l σ m x y v ov iv u _ q j w r q2) λ_ K ⟨z,C,q3⟩=>?_))))
 exact wpAny_release ⟨σ,z,C,q3⟩
def xJ(te:TE)(g:TG):TS:=λD σ H=>te σ H λx H1=>g x σ H1 D.nx
theorem qN{d e:Expr}{f:TE}{g:TG}(m:PE X e f)(o:PG X d g)(r:swapsWithSole [d] e pos.line X.env=pure false:=by rfl)(hw:swappedStores [d] e X.env=pure none:=by rfl)
  (h1:(assignEach [d] X.env).map (·.2)=[assign d X.env]:=by rfl):PS X (.Assign [d] e pos) (xJ f g):=by
 intro b s σ H D I h
 refine wpAny_Assign_stores (thn (m b s σ H _ I h) λv i ⟨x,H1,j,l,q1⟩=>?_) r hw
 rw [h1]
 exact thn (o b i σ H1 x v _ j l q1) λ_ u q=>q
theorem aH{i:Nat}{x:Str}{e:Expr}{f:TE}{b:Pos}(m:X.N.Nodup)(o:X.N[i]?=some x)(q:Loc X.env.scope x)(r:PE X e f)(u:swapsWith e (some (.Name x b)) pos.line X.env=pure false:=by rfl)(hf:X.fn x=true\/X.env.scope.names.lookup x=some .local:=by first | exact .inl rfl | exact .inr rfl | assumption) :
  PS X (.Assign [.Name x b] e pos) (xJ f (sG i)):=by
 intro d s σ H D I h
 refine wpAny_Assign_Name (thn (r d s σ H _ I h) λv w ⟨y,H1,g,j,q1⟩=>?_) u
 exact kN g m o q j (λz l=>⟨_,H1,l,q1⟩) hf
end
section
variable {X:Cx}{pos:Pos}
def zN(c:TT)(tb:TS):TS:=λD σ H=>∃W:Nat->St->Hp->Prop,(∃m,W m σ H)/\∀m σ H,W m σ H ->
 c σ H λb H1=>if b=true then ∃N:St->Hp->Prop,(∀σ' H',N σ' H'->∃m',m'<m/\W m' σ' H')/\tb {D with nx:=N,ct:=N,bk:=D.nx} σ H1 else D.nx σ H1
theorem vm{c:Expr}{body:List Stmt}{tc:TT}{tb:TS}(z:PassesOwn (model X.prog X.w) X.A X.env X.xe)(O:PT X c tc)(P:PSs X body tb):PS X (.While c body [] pos) (zN tc tb):=by
 intro d s σ H D I h
 obtain ⟨W,⟨m0,C⟩,e⟩:=h
 refine wpAny_While (codeAny_whileLoop (λn F=>∃σ' H',Inv X d σ' H' F/\W n σ' H') ?_ m0 ⟨σ,H,I,C⟩)
 rintro n J ⟨j,H1,K,L⟩
 refine wpAny_passesOwn z (thn (O d J j H1 _ K (e n j H1 L)) λb G ⟨x,y,q2⟩=>?_)
 cases b with
 | true =>
  obtain ⟨N,u,q2⟩:=q2
  rw [if_pos rfl]
  refine wpAny_passesOwn z (thn (P d G j x _ y q2) λf Q q3=>?_)
  cases f with
  | next =>
   obtain ⟨g,i,l,m⟩:=q3
   obtain ⟨o,q,r⟩:=u g i m
   exact ⟨o,q,g,i,l,r⟩
  | cont =>
   obtain ⟨g,i,l,m⟩:=q3
   obtain ⟨o,q,r⟩:=u g i m
   exact ⟨o,q,g,i,l,r⟩
  | brk=>exact q3
  | ret v=>exact q3
 | false =>
  rw [if_neg Bool.false_ne_true]
  exact wpAny_execs_nil ⟨j,x,y,q2⟩
end
structure It where
 go:Nat->Hp->Prop
 yld:Nat->Hp->V->Hp->Prop
 stop:Nat->Hp->Prop
def pi(X:Cx)(pins:List (Addr×Obj))(H:Hp)(b:Addr):Prop :=
 H b=none/\b≠X.env.locals/\b∉X.fs/\(b∈X.ex\/X.s₀.heap.objs.size<=b)/\(∀x c,X.env.cells.lookup x=some c->c≠b)/\∀p∈X.pn++pins,p.1≠b
theorem Inv.fpOk{X:Cx}{d:List (Addr×Obj)}{σ:St}{H H':Hp}{s:Shared}{b:Addr}(I:Inv X d σ H s)(f:s.heap.objs.size<=b)(h:H' b=none):pi X d H' b:=by
 refine ⟨h,Nat.ne_of_gt (Nat.lt_of_lt_of_le I.lt f),I.nofs f,.inr (Λ I.sz f),λx c e z=>?_,λp g z=>?_⟩
 ·obtain ⟨v,q⟩:=I.cell x c e
  exact absurd (Nat.lt_of_lt_of_le q.lt (by rw [z];exact f)) (Nat.lt_irrefl _)
 ·exact absurd (Nat.lt_of_lt_of_le (η (I.pin p g).1) (by rw [z];exact f)) (Nat.lt_irrefl _)
structure rE(P:Program)(w:World)(K:Frag)(tg:Expr)(J:It)(fp:List Addr)(it:Addr)(tn:Nat->Heap->Prop):Prop where
 mem:it∈fp
 obj:∀i h,tn i h->∀b∈fp,∃o,h.get? b=some o/\∀v,o.data≠.cell v
 keep:∀i h h',tn i h->(∀b∈fp,∀o,h.get? b=some o->h'.get? b=some o)->tn i h'
 item:∀(X:Cx),X.prog=P->X.w=w->X.K=K->X.calm=true->∀(i:Nat) (pins:List (Addr×Obj)) (s:Shared) (σ:St) (H:Hp) (E:Value->Shared->Prop),Inv X pins σ H s->(∀b∈fp,pi X pins H b)->tn i s.heap->J.go i H ->
  wpAny (model P w) X.A (pyNext (.ref it)) (λr s1=>∃u,r=some u /\
   wpAny (model P w) X.A (letOwnedTupleGo tg (.ref it) u) (λ_ s2=>∃x H',Inv X pins σ H' s2/\RelV x u/\J.yld i H x H'/\tn (i+1) s2.heap/\∀b∈fp,H' b=none) E s1) E s
 done:∀(X:Cx),X.prog=P->X.w=w->X.K=K->X.calm=true->∀(i:Nat) (pins:List (Addr×Obj)) (s:Shared) (σ:St) (H:Hp) (E:Value->Shared->Prop),Inv X pins σ H s->(∀b∈fp,pi X pins H b)->tn i s.heap->J.stop i H ->
  wpAny (model P w) X.A (pyNext (.ref it)) (λr s1=>r=none/\Inv X pins σ H s1) E s
 self:∀(A:Around) (i:Nat) (s:Shared) (Q:Value->Shared->Prop) (E:Value->Shared->Prop),tn i s.heap->Q (.ref it) s->wpAny (model P w) A (pyIter (.ref it)) Q E s
abbrev TI:=St->Hp->(It->Hp->Prop)->Prop
def PIE(X:Cx)(pins:List (Addr×Obj))(σ:St)(tg:Expr)(R:It->Hp->Prop)(itv:Value)(s2:Shared):Prop :=
 ∃(it:Addr) (fp:List Addr) (tn:Nat->Heap->Prop) (J:It) (H':Hp),itv=.ref it/\Inv X pins σ H' s2/\rE X.prog X.w X.K tg J fp it tn/\tn 0 s2.heap/\(∀b∈fp,pi X pins H' b)/\R J H'
def PI(X:Cx)(tg iter:Expr)(wi:TI):Prop :=
 ∀(pins:List (Addr×Obj)) (s:Shared) (σ:St) (H:Hp) (R:It->Hp->Prop),Inv X pins σ H s->wi σ H R ->
  wpAny (model X.prog X.w) X.A (eval iter X.env) (λv s1=>wpAny (model X.prog X.w) X.A (pyIter v) (PIE X pins σ tg R) X.xe s1) X.xe s
theorem mY{M:Model}{A:Around}{E:Value->Shared->Prop}{s:Shared}{d:Expr}{it:Addr}{u:Value}{o:Obj}{n:String}{vs:Array Value}{Q:Unit->Shared->Prop}(e:s.heap.get? it=some o)(f:o.cls=.type n)(g:o.data=.fields vs)
  (i:["enumerate","zip","dict_itemiterator","dict_reverseitemiterator","odict_iterator","itertools.zip_longest","itertools.pairwise"].contains n=false)(b:Q () s):wpAny M A (letOwnedTupleGo d (.ref it) u) Q E s:=by
 unfold letOwnedTupleGo
 cases d<;>first
  | exact π b
  | (cases u<;>first
    | exact π b
    | (refine ε (wpAny_load e ?_)
       rw [f,g]
       show wpAny M A (if (["enumerate","zip","dict_itemiterator","dict_reverseitemiterator","odict_iterator","itertools.zip_longest","itertools.pairwise"].contains n&&vs[0]?==some (rawInt _))=true then _ else _) Q E s
       rw [if_neg (by intro h;rw [i,Bool.false_and] at h;cases h)]
       exact π b))
def Itl(K:Frag)(a:Addr):It :=
 ⟨λi H=>∃xs x,SqL K H a xs/\xs[i]?=some x,λi H x H'=>H'=H/\∀xs,SqL K H a xs->xs[i]?=some x,λi H=>∃xs,SqL K H a xs/\xs.length<=i⟩
def Itt(K:Frag)(a:Addr):It :=
 ⟨λi H=>∃xs x,SqT K H a xs/\xs[i]?=some x,λi H x H'=>H'=H/\∀xs,SqT K H a xs->xs[i]?=some x,λi H=>∃xs,SqT K H a xs/\xs.length<=i⟩
def Itr(lo:Int)(n:Nat):It:=⟨λi _=>i<n,λi H x H'=>H'=H/\x=.int (lo+i),λi _=>n<=i⟩
theorem sV{P:Program}{w:World}{K:Frag}{tg:Expr}(a it:Addr):rE P w K tg (Itl K a) [it] it (λi h=>h.IsListIter it a i) where
 mem:=by simp
 obj:=λi h st b hb=>by
  have e:b=it:=by simpa using hb
  subst e
  obtain ⟨o,e,c,d⟩:=st
  exact ⟨o,e,λv z=>by rw [d] at z;cases z⟩
 keep:=λi h h' st k=>st.at λo e=>k it (by simp) o e
 item:=by
  intro X G J L Q i f s σ H E I hf st O
  subst G J L
  obtain ⟨U,x,j,l⟩:=O
  obtain ⟨m,q,p,W⟩:=I.list j
  obtain ⟨u,Y,Z⟩:=q.get l
  obtain ⟨r,y,f2,C,D,F⟩:=hf it (by simp)
  refine wpAny_pyNext_list_item st p.isList (x:=u) (by simpa using Y) λh' g sb=>?_
  have I1:Inv X f σ H {s with heap:=h'}:=I.turned (t':=s.toks) (λb o hb e=>(sb.2 b hb).trans e) r y C D F
  obtain ⟨o,e,c,d⟩:=id g
  exact ⟨u,ϱ,mY (s:={s with heap:=h'}) e c d ζ ⟨x,H,I1,Z,⟨ϱ,λys hy=>by rw [I.list_inj hy j];exact l⟩,g,λb hb=>(hf b hb).1⟩⟩
 done:=by
  intro X G J L Q i f s σ H E I hf st O
  subst G J L
  obtain ⟨U,j,l⟩:=O
  obtain ⟨m,q,p,W⟩:=I.list j
  obtain ⟨r,y,f2,C,D,F⟩:=hf it (by simp)
  have hl:=q.length
  exact wpAny_pyNext_list_end (I.ok.hd Q) st p.isList (by simp;omega) λh' eb=>⟨ϱ,I.turned (t':=s.toks) (λb o hb e=>eb b o hb e) r y C D F⟩
 self:=λ_ _ _ _ _ st h=>wpAny_pyIter_listiter st h
theorem qq{P:Program}{w:World}{K:Frag}{tg:Expr}(a it:Addr):rE P w K tg (Itt K a) [it] it (λi h=>h.IsTupleIter it a i) where
 mem:=by simp
 obj:=λi h st b hb=>by
  have e:b=it:=by simpa using hb
  subst e
  obtain ⟨o,e,c,d⟩:=st
  exact ⟨o,e,λv z=>by rw [d] at z;cases z⟩
 keep:=λi h h' st k=>st.at λo e=>k it (by simp) o e
 item:=by
  intro X G J L Q i f s σ H E I hf st O
  subst G J L
  obtain ⟨U,x,l,m⟩:=O
  obtain ⟨g,q,p,W⟩:=I.tuple l
  obtain ⟨u,Y,Z⟩:=q.get m
  obtain ⟨r,y,f2,C,D,F⟩:=hf it (by simp)
  refine wpAny_pyNext_tuple_item st (show s.heap.IsTuple a g.toArray from p) (x:=u) (by simpa using Y) λh' j sb=>?_
  have I1:Inv X f σ H {s with heap:=h'}:=I.turned (t':=s.toks) (λb o hb e=>(sb.2 b hb).trans e) r y C D F
  obtain ⟨o,e,c,d⟩:=id j
  exact ⟨u,ϱ,mY (s:={s with heap:=h'}) e c d ζ ⟨x,H,I1,Z,⟨ϱ,λys hy=>by rw [I.tuple_inj hy l];exact m⟩,j,λb hb=>(hf b hb).1⟩⟩
 done:=by
  intro X G J L Q i f s σ H E I hf st O
  subst G J L
  obtain ⟨U,l,m⟩:=O
  obtain ⟨g,q,p,W⟩:=I.tuple l
  obtain ⟨r,y,f2,C,D,F⟩:=hf it (by simp)
  have hl:=q.length
  exact wpAny_pyNext_tuple_end (I.ok.hd Q) st (show s.heap.IsTuple a g.toArray from p) (by simp;omega) λh' eb=>⟨ϱ,I.turned (t':=s.toks) (λb o hb e=>eb b o hb e) r y C D F⟩
 self:=λ_ _ _ _ _ st h=>wpAny_pyIter_tupleiter st h
theorem kL{P:Program}{w:World}{K:Frag}{Q:Expr}(it:Addr)(lo:Int)(n:Nat):rE P w K Q (Itr lo n) [it] it (λi h=>IsRangeIter h it (lo+(i:Nat)*1) ((n:Int)-(i:Nat)) 1) where
 mem:=by simp
 obj:=λi h st b hb=>by
  have e:b=it:=by simpa using hb
  subst e
  exact ⟨_,st,λv z=>by
   have z':Data.fields _=Data.cell v:=z
   cases z'⟩
 keep:=λi h h' st k=>k it (by simp) _ st
 item:=by
  intro X r u x y i d s σ H E I hf st C
  subst r u x
  obtain ⟨g,j,F,l,m,q⟩:=hf it (by simp)
  have W:=Walks.range (prog:=X.prog) (w:=X.w) (I.ok.hd y) it lo 1 n
  refine W.item i s _ _ C st λv h' D J f L=>?_
  obtain ⟨t,rfl⟩:=J
  have G:Inv X d σ H {s with heap:=h',toks:=D}:=I.turned (λb o hb e=>L b o (by simpa using hb) e) g j l m q
  refine ⟨_,ϱ,mY (s:={s with heap:=h',toks:=D}) (n:="range_iterator") f rfl rfl ζ ⟨.int (lo+i),H,G,⟨t,?_⟩,⟨ϱ,ϱ⟩,f,λb hb=>(hf b hb).1⟩⟩
  rw [Int.mul_one]
 done:=by
  intro X r u x y i d s σ H E I hf st C
  subst r u x
  obtain ⟨g,j,F,l,m,q⟩:=hf it (by simp)
  exact wpAny_pyNext_range_end (I.ok.hd y) st (by have:n<=i:=C;omega) λh' O=>⟨ϱ,I.turned (t':=s.toks) (λb o hb e=>O b o hb e) g j l m q⟩
 self:=λ_ _ _ _ _ st h=>wpAny_pyIter_rangeiter st h
section
variable {X:Cx}{tg:Expr}
inductive XIL (K:Frag) (R:It->Hp->Prop) (x:V) (H:Hp):Prop|mk a:x=.ref a->(∃xs,SqL K H a xs)->R (Itl K a) H->XIL K R x H
def BZ(K:Frag)(tl:TE):TI:=fun σ H R=>tl σ H λx H1=>XIL K R x H1
inductive XIT (K:Frag) (R:It->Hp->Prop) (x:V) (H:Hp):Prop|mk a:x=.ref a->(∃xs,SqT K H a xs)->R (Itt K a) H->XIT K R x H
def Ch(K:Frag)(tl:TE):TI:=fun σ H R=>tl σ H λx H1=>XIT K R x H1
theorem bV{l:Expr}{tl:TE}(u:PE X l tl):PI X tg l (BZ X.K tl):=by
 intro d s σ H R I h
 refine thn (u d s σ H _ I h) λv f ⟨x,H1,g,m,q1⟩=>?_
 obtain ⟨a,e,⟨w,i⟩,q⟩:=q1
 subst e
 cases m
 obtain ⟨j,y,p,z⟩:=g.list i
 refine wpAny_pyIter_list p.isList ?_
 refine ⟨f.heap.objs.size,[f.heap.objs.size],_,_,H1,ϱ,g.kept (t':=f.toks) λb o e=>ρ _ e,sV a _,⟨_,ψ _ rfl,ϱ,ϱ⟩,λb r=>?_,q⟩
 have e:b=f.heap.objs.size:=by simpa using r
 subst e
 exact g.fpOk (ι _) (g.hok.fresh (ι _))
theorem oJ{l:Expr}{tl:TE}(u:PE X l tl):PI X tg l (Ch X.K tl):=by
 intro f s σ H R I h
 refine thn (u f s σ H _ I h) λv d ⟨x,H1,g,m,q1⟩=>?_
 obtain ⟨a,e,⟨w,j⟩,q⟩:=q1
 subst e
 cases m
 obtain ⟨i,y,p,z⟩:=g.tuple j
 refine wpAny_pyIter_tuple (show d.heap.IsTuple a i.toArray from p) ?_
 refine ⟨d.heap.objs.size,[d.heap.objs.size],_,_,H1,ϱ,g.kept (t':=d.toks) λb o e=>ρ _ e,qq a _,⟨_,ψ _ rfl,ϱ,ϱ⟩,λb r=>?_,q⟩
 have e:b=d.heap.objs.size:=by simpa using r
 subst e
 exact g.fpOk (ι _) (g.hok.fresh (ι _))
theorem vj{f:List (Addr×Obj)}{σ:St}{H:Hp}{s:Shared}{R:It->Hp->Prop}{E:Value->Shared->Prop}{lo d:Int}{t u v:Tok}{h:Nat}(I:Inv X f σ H s)(h1:-(2 ^ 62)<=lo)(m:lo<2 ^ 62)(r:-(2 ^ 62)<=d)(x:d<2 ^ 62)
  (q:R (Itr lo (d-lo).toNat) H):wpAny (model X.prog X.w) X.A (pyIter (.ref s.heap.objs.size)) (PIE X f σ tg R) E {s with heap:=s.heap.push {cls:=.type "range",data:=.fields #[.int lo t,.int d u,.int 1 v]},toks:=h}:=by
 refine wpAny_pyIter_range (IsRange.new ..) (small_one h1 m r x) ?_
 have g:Inv X f σ H {s with heap:=s.heap.push {cls:=.type "range",data:=.fields #[.int lo t,.int d u,.int 1 v]},toks:=h}:=I.kept λb o e=>ρ _ e
 refine ⟨(s.heap.push {cls:=.type "range",data:=.fields #[.int lo t,.int d u,.int 1 v]}).objs.size,[(s.heap.push {cls:=.type "range",data:=.fields #[.int lo t,.int d u,.int 1 v]}).objs.size],_,_,H,ϱ,
  g.kept (t':=h) λb o e=>ρ _ e,kL _ lo (d-lo).toNat,?_,λb l=>?_,q⟩
 ·have i:lo+((0:Nat):Int)*1=lo:=by simp
  have j:(((d-lo).toNat:Nat):Int)-((0:Nat):Int)=Builtin.Range.rangeSize lo d 1:=by rw [rangeSize_one];split<;>omega
  show IsRangeIter _ _ (lo+((0:Nat):Int)*1) ((((d-lo).toNat:Nat):Int)-((0:Nat):Int)) 1
  rw [i,j]
  exact ψ _ rfl
 ·have e:b=(s.heap.push {cls:=.type "range",data:=.fields #[.int lo t,.int d u,.int 1 v]}).objs.size:=by simpa using l
  subst e
  exact g.fpOk (ι _) (g.hok.fresh (ι _))
def BY(ta:TA):TI:=fun σ H R=>ta σ H λvs H1=>∃j:Int,vs=[.int j]/\-(2 ^ 62)<=j/\j<2 ^ 62/\R (Itr 0 j.toNat) H1
theorem cO{a:Expr}{ta:TA}{p pos:Pos}(g:Gl X "range")(i:X.mg "range"=none)(l:PA X [a] ta)(m:starEach [a] X.env=[(false,eval a X.env)]:=by rfl):PI X tg (.Call (.Name "range" p) [a] [] pos) (BY ta):=by
 intro b s σ H R I h
 refine Call_ (lO I g i boot_range (PyProof.Rows.callWith_type1 (thn (l pos b s σ H _ I h) λo u ⟨vs,H1,d,f,q1⟩=>?_) m rfl))
 obtain ⟨j,e,q1,q2,q⟩:=q1
 subst e
 cases f with
 | cons r rr =>
  cases rr
  obtain ⟨t,rfl⟩:=r
  exact call_range_1 (vj d ω ω q1 q2 (by simpa using q))
def B9(wi:TI)(g:TG)(tb:TS):TS:=λD σ H=>wi σ H λJ H1=>∃W:Nat->Nat->St->Hp->Prop,(∃m,W 0 m σ H1)/\∀i m σ H,W i m σ H ->
 (J.stop i H/\D.nx σ H)\/(J.go i H/\∃N:St->Hp->Prop,(∀σ' H',N σ' H'->∃m',m'<m/\W (i+1) m' σ' H')/\∀x H',J.yld i H x H'->g x σ H' fun σ2 H2=>tb {D with nx:=N,ct:=N,bk:=D.nx} σ2 H2)
def jA(fp:List Addr)(h:Heap):List (Addr×Obj):=fp.filterMap λb=>(h.get? b).map λo=>(b,o)
theorem cQ{fp:List Addr}{h:Heap}{b:Addr}{o:Obj}(hb:b∈fp)(e:h.get? b=some o):(b,o)∈jA fp h:=List.mem_filterMap.mpr ⟨b,hb,by rw [e];rfl⟩
theorem tQ{d:List Addr}{h:Heap}{p:Addr×Obj}(i:p∈jA d h):p.1∈d/\h.get? p.1=some p.2:=by
 obtain ⟨b,f,e⟩:=List.mem_filterMap.mp i
 cases q:h.get? b with
 | none=>rw [q] at e;cases e
 | some o =>
  rw [q] at e
  have g:(b,o)=p:=Δ e
  subst g
  exact ⟨f,q⟩
theorem Inv.pinned{pins:List (Addr×Obj)}{σ:St}{H:Hp}{s:Shared}{fp:List Addr}(I:Inv X pins σ H s)(hf:∀b∈fp,pi X pins H b)(ho:∀b∈fp,∃o,s.heap.get? b=some o/\∀v,o.data≠.cell v):Inv X (pins++jA fp s.heap) σ H s :=
 I.pins_of λp hp=>(List.mem_append.mp hp).elim (λz=>I.pin p (Ψ _ z)) λz=>by
  obtain ⟨hb,e⟩:=tQ z
  obtain ⟨f0,f1,f2,_⟩:=hf p.1 hb
  obtain ⟨o,e',d⟩:=ho p.1 hb
  rw [e] at e';cases e'
  exact ⟨e,f0,f1,f2,d⟩
theorem Inv.unpinned{pins pl:List (Addr×Obj)}{σ:St}{H:Hp}{s:Shared}(I:Inv X (pins++pl) σ H s):Inv X pins σ H s:=I.pins_of λp hp=>I.pin p (Ψ _ (List.mem_append_left _ hp))
theorem gP{G:Expr}{body:List Stmt}{wi:TI}{g:TG}{tb:TS}{pos:Pos}(Z:PassesOwn (model X.prog X.w) X.A X.env X.xe)(hc:X.calm=true)(hi:PI X tg G wi)(hg:PG X tg g)(F:PSs X body tb)
  (hs:∀x,foldedSetIterable G X.env x=pure x:=by intro _;rfl):PS X (.For tg G body [] pos) (B9 wi g tb):=by
 intro j s σ H D I h
 refine wpAny_For (thn (hi j s σ H _ I h) λv s1 h1=>thn h1 λbt s2 h2=>?_) hs
 obtain ⟨it,L,tn,J,H2,e,I2,T,a1,f2,W,⟨m0,w0⟩,O⟩:=h2
 subst e
 have z:∀{H':Hp},(∀b∈L,H' b=none)->∀b∈L,pi X j H' b:=λhn b F=>⟨hn b F,(f2 b F).2⟩
 refine codeAny_forLoop_any (λn s'=>∃i σ' H',Inv X j σ' H' s'/\tn i s'.heap/\(∀b∈L,H' b=none)/\W i n σ' H') ?_ m0 ⟨0,σ,H2,I2,a1,λb F=>(f2 b F).1,w0⟩
 rintro n s3 ⟨i,Q,H3,I3,U,Y,w3⟩
 rcases O i n Q H3 w3 with ⟨stop,qn⟩ | ⟨go,N,hN,step⟩
 ·refine wpAny_passesOwn Z (thn (T.done X rfl rfl rfl hc i j s3 Q H3 X.xe I3 (z Y) U stop) λr s4 ⟨hr,I4⟩=>?_)
  subst hr
  exact wpAny_execs_nil ⟨Q,H3,I4,qn⟩
 ·refine wpAny_passesOwn Z (thn (T.item X rfl rfl rfl hc i j s3 Q H3 X.xe I3 (z Y) U go) λr s4 ⟨u,hr,h4⟩=>?_)
  subst hr
  refine wpAny_passesOwn Z (thn h4 λ_ s5 ⟨x,H5,I5,r5,y5,K,a4⟩=>?_)
  have a2:=I5.pinned (z a4) (T.obj _ _ K)
  refine wpAny_passesOwn Z (thn (hg _ s5 Q H5 x u _ a2 r5 (step x H5 y5)) λ_ s6 ⟨σ6,H6,I6,q6⟩=>?_)
  refine wpAny_passesOwn Z (thn (F _ s6 σ6 H6 _ I6 q6) λf s7 q7=>?_)
  have C:∀{l:St} {q:Hp},Inv X (j++jA L s5.heap) l q s7->N l q->∃m,m<n/\∃i σ' H',Inv X j σ' H' s7/\tn i s7.heap/\(∀b∈L,H' b=none)/\W i m σ' H':=λ{l q} y P=>by
   obtain ⟨m',hm,w7⟩:=hN l q P
   refine ⟨m',hm,i+1,l,q,y.unpinned,T.keep _ _ _ K λb F o e=>(y.pin (b,o) (Ψ _ (Ψ _ (cQ F e)))).1,λb F=>?_,w7⟩
   obtain ⟨o,e,d⟩:=T.obj _ _ K b F
   exact (y.pin (b,o) (Ψ _ (Ψ _ (cQ F e)))).2.1
  cases f with
  | next=>obtain ⟨l,q,y,P⟩:=q7;exact C y P
  | cont=>obtain ⟨l,q,y,P⟩:=q7;exact C y P
  | brk=>obtain ⟨l,q,y,q7⟩:=q7;exact ⟨l,q,y.unpinned,q7⟩
  | ret v=>obtain ⟨x7,l,q,y,r7,q7⟩:=q7;exact ⟨x7,l,q,y.unpinned,r7,q7⟩
end
theorem qb{K:Frag}{a:Addr}{xs:List V}{g:TG}{tb:TS}{D:Ends}{σ:St}{H:Hp}(b:Nat->St->Hp->Prop)(h0:b 0 σ H)(h:∀i σ H,i<=xs.length->b i σ H->SqL K H a xs)
  (j:∀i x σ H,xs[i]?=some x->b i σ H->g x σ H fun σ2 H2=>tb {D with nx:=b (i+1),ct:=b (i+1),bk:=D.nx} σ2 H2)(l:∀σ H,b xs.length σ H->D.nx σ H) :
  ∃W:Nat->Nat->St->Hp->Prop,(∃m,W 0 m σ H)/\∀i m σ H,W i m σ H ->
   ((Itl K a).stop i H/\D.nx σ H)\/((Itl K a).go i H/\∃N:St->Hp->Prop,(∀σ' H',N σ' H'->∃m',m'<m/\W (i+1) m' σ' H')/\∀x H',(Itl K a).yld i H x H'->g x σ H' fun σ2 H2=>tb {D with nx:=N,ct:=N,bk:=D.nx} σ2 H2):=by
 refine ⟨λi m σ H=>m=xs.length-i/\i<=xs.length/\b i σ H,⟨xs.length,by simp,Nat.zero_le _,h0⟩,?_⟩
 rintro i m σ H ⟨rfl,f,p⟩
 have q:=h i σ H f p
 by_cases hlt:i<xs.length
 ·refine .inr ⟨⟨xs,xs[i],q,by simp [hlt]⟩,b (i+1),fun σ' H' d=>⟨xs.length-(i+1),ω,ϱ,hlt,d⟩,λx H' y=>?_⟩
  obtain ⟨e,y⟩:=y
  subst e
  exact j i x σ _ (y xs q) p
 ·have e:i=xs.length:=by omega
  subst e
  exact .inl ⟨⟨xs,q,ι _⟩,l σ H p⟩
theorem oT{K:Frag}{a:Addr}{xs:List V}{g:TG}{tb:TS}{D:Ends}{σ:St}{H:Hp}(b:Nat->St->Hp->Prop)(h0:b 0 σ H)(h:∀i σ H,i<=xs.length->b i σ H->SqT K H a xs)
  (j:∀i x σ H,xs[i]?=some x->b i σ H->g x σ H fun σ2 H2=>tb {D with nx:=b (i+1),ct:=b (i+1),bk:=D.nx} σ2 H2)(l:∀σ H,b xs.length σ H->D.nx σ H) :
  ∃W:Nat->Nat->St->Hp->Prop,(∃m,W 0 m σ H)/\∀i m σ H,W i m σ H ->
   ((Itt K a).stop i H/\D.nx σ H)\/((Itt K a).go i H/\∃N:St->Hp->Prop,(∀σ' H',N σ' H'->∃m',m'<m/\W (i+1) m' σ' H')/\∀x H',(Itt K a).yld i H x H'->g x σ H' fun σ2 H2=>tb {D with nx:=N,ct:=N,bk:=D.nx} σ2 H2):=by
 refine ⟨λi m σ H=>m=xs.length-i/\i<=xs.length/\b i σ H,⟨xs.length,by simp,Nat.zero_le _,h0⟩,?_⟩
 rintro i m σ H ⟨rfl,f,p⟩
 have q:=h i σ H f p
 by_cases hlt:i<xs.length
 ·refine .inr ⟨⟨xs,xs[i],q,by simp [hlt]⟩,b (i+1),fun σ' H' d=>⟨xs.length-(i+1),ω,ϱ,hlt,d⟩,λx H' y=>?_⟩
  obtain ⟨e,y⟩:=y
  subst e
  exact j i x σ _ (y xs q) p
 ·have e:i=xs.length:=by omega
  subst e
  exact .inl ⟨⟨xs,q,ι _⟩,l σ H p⟩
theorem jG{lo:Int}{n:Nat}{g:TG}{tb:TS}{D:Ends}{σ:St}{H:Hp}(b:Nat->St->Hp->Prop)(h0:b 0 σ H)
  (f:∀i σ H,i<n->b i σ H->g (.int (lo+i)) σ H fun σ2 H2=>tb {D with nx:=b (i+1),ct:=b (i+1),bk:=D.nx} σ2 H2)(h:∀σ H,b n σ H->D.nx σ H) :
  ∃W:Nat->Nat->St->Hp->Prop,(∃m,W 0 m σ H)/\∀i m σ H,W i m σ H ->
   ((Itr lo n).stop i H/\D.nx σ H)\/((Itr lo n).go i H/\∃N:St->Hp->Prop,(∀σ' H',N σ' H'->∃m',m'<m/\W (i+1) m' σ' H')/\∀x H',(Itr lo n).yld i H x H'->g x σ H' fun σ2 H2=>tb {D with nx:=N,ct:=N,bk:=D.nx} σ2 H2):=by
 refine ⟨λi m σ H=>m=n-i/\i<=n/\b i σ H,⟨n,by simp,Nat.zero_le _,h0⟩,?_⟩
 rintro i m σ H ⟨rfl,j,p⟩
 by_cases hlt:i<n
 ·refine .inr ⟨hlt,b (i+1),fun σ' H' d=>⟨n-(i+1),ω,ϱ,hlt,d⟩,λx H' y=>?_⟩
  obtain ⟨e,y⟩:=y
  subst e y
  exact f i σ _ hlt p
 ·have e:i=n:=by omega
  subst e
  exact .inl ⟨ι _,h σ H p⟩
abbrev R2:=V->V->Hp->VK->Prop
def OpR(X:Cx)(f:Value->Value->Sem Value)(r:R2):Prop :=
 ∀(pins:List (Addr×Obj)) (s:Shared) (σ:St) (H:Hp) (x y:V) (v u:Value) (Q:VK),Inv X pins σ H s->RelV x v->RelV y u->r x y H Q ->
  wpAny (model X.prog X.w) X.A (f v u) (EP X pins σ Q) X.xe s
def UnR(X:Cx)(f:Value->Sem Value)(r:V->Hp->VK->Prop):Prop :=
 ∀(pins:List (Addr×Obj)) (s:Shared) (σ:St) (H:Hp) (x:V) (v:Value) (Q:VK),Inv X pins σ H s->RelV x v->r x H Q ->
  wpAny (model X.prog X.w) X.A (f v) (EP X pins σ Q) X.xe s
def cG(X:Cx)(f:Value)(r:List V->Hp->VK->Prop):Prop :=
 ∀(pins:List (Addr×Obj)) (s:Shared) (σ:St) (H:Hp) (xs:List V) (us:List Value) (Q:VK),Inv X pins σ H s->Vals xs us->r xs H Q ->
  wpAny (model X.prog X.w) X.A (call f us) (EP X pins σ Q) X.xe s
def tOp(r:R2)(ta tb:TE):TE:=fun σ H Q=>ta σ H λx H1=>tb σ H1 λy H2=>r x y H2 Q
def tUn(r:V->Hp->VK->Prop)(ta:TE):TE:=fun σ H Q=>ta σ H λx H1=>r x H1 Q
inductive XI (C:Int->Int->Prop) (g:Int->Int->V) (x y:V) (H:Hp) (Q:VK):Prop|mk i j:x=.int i->y=.int j->C i j->Q (g i j) H->XI C g x y H Q
def rI(C:Int->Int->Prop)(g:Int->Int->V):R2:=λx y H Q=>XI C g x y H Q
inductive XI0 (g:Int->Int->V) (x y:V) (H:Hp) (Q:VK):Prop|mk i j:x=.int i->y=.int j->Q (g i j) H->XI0 g x y H Q
def rI0(g:Int->Int->V):R2:=λx y H Q=>XI0 g x y H Q
def rU(g:Int->V):V->Hp->VK->Prop:=λx H Q=>∃i,x=.int i/\Q (g i) H
section
variable {X:Cx}{a b c:Expr}{ta tb tc:TE}{pos:Pos}
theorem A6(m:PE X a ta)(o:PE X b tb){d:List (Addr×Obj)}{s:Shared}{σ:St}{H:Hp}{R:V->V->Hp->Prop}(I:Inv X d σ H s)
  (h:ta σ H λx H1=>tb σ H1 λy H2=>R x y H2){Q:Value->Shared->Prop}{f:Value->Value->Sem Value}
  (hf:∀v u s2 x y H2,Inv X d σ H2 s2->RelV x v->RelV y u->R x y H2->wpAny (model X.prog X.w) X.A (f v u) Q X.xe s2) :
  wpAny (model X.prog X.w) X.A (eval a X.env) (λv s₁=>wpAny (model X.prog X.w) X.A (eval b X.env) (λu s₂=>wpAny (model X.prog X.w) X.A (f v u) Q X.xe s₂) X.xe s₁) X.xe s:=by
 refine thn (m d s σ H _ I h) λv e ⟨x,H1,g,i,q1⟩=>?_
 refine thn (o d e σ H1 _ g q1) λu s2 ⟨y,H2,j,l,q2⟩=>?_
 exact hf v u s2 x y H2 j i l q2
theorem aN{e:Operator}{r:R2}(m:OpR X (binaryOp e) r)(o:PE X a ta)(w:PE X b tb):PE X (.BinOp a e b pos) (tOp r ta tb):=by
 intro d s σ H Q I h
 exact wpAny_BinOp (A6 o w I h λv u f x y g i j l q=>m d f σ g x y v u Q i j l q)
theorem zv{d:UnaryOp}{r:V->Hp->VK->Prop}(i:UnR X (unaryOp d) r)(j:PE X a ta):PE X (.UnaryOp d a pos) (tUn r ta):=by
 intro b s σ H Q I h
 exact UnaryOp_ (thn (j b s σ H _ I h) λv e ⟨x,H1,f,g,q1⟩=>i b e σ H1 x v Q f g q1)
theorem opI{f:Value->Value->Sem Value}{C:Int->Int->Prop}{g:Int->Int->Int}
  (b:∀(i j:Int) (t u:Tok) (s:Shared) (Q:Value->Shared->Prop) (E:Value->Shared->Prop),C i j->Q (.int (g i j) s.toks) {s with toks:=s.toks+1}->wpAny (model X.prog X.w) X.A (f (.int i t) (.int j u)) Q E s) :
  OpR X f (rI C λi j=>.int (g i j)):=by
 intro d s σ H x y v u Q I m o h
 obtain ⟨i,j,rfl,rfl,e,q⟩:=h
 obtain ⟨t,rfl⟩:=m
 obtain ⟨l,rfl⟩:=o
 exact b i j t l s _ _ e ⟨.int (g i j),H,I.tok _,⟨_,ϱ⟩,q⟩
theorem BL{f:Value->Value->Sem Value}{g:Int->Int->Int}
  (b:∀(i j:Int) (t u:Tok) (s:Shared) (Q:Value->Shared->Prop) (E:Value->Shared->Prop),Q (.int (g i j) s.toks) {s with toks:=s.toks+1}->wpAny (model X.prog X.w) X.A (f (.int i t) (.int j u)) Q E s) :
  OpR X f (rI0 λi j=>.int (g i j)):=by
 intro d s σ H x y v u Q I l m h
 obtain ⟨i,j,rfl,rfl,q⟩:=h
 obtain ⟨t,rfl⟩:=l
 obtain ⟨e,rfl⟩:=m
 exact b i j t e s _ _ ⟨.int (g i j),H,I.tok _,⟨_,ϱ⟩,q⟩
theorem ym{f:Value->Value->Sem Value}{g:Int->Int->Bool}
  (b:∀(i j:Int) (t u:Tok) (s:Shared) (Q:Value->Shared->Prop) (E:Value->Shared->Prop),Q (.bool (g i j)) s->wpAny (model X.prog X.w) X.A (f (.int i t) (.int j u)) Q E s) :
  OpR X f (rI0 λi j=>.bl (g i j)):=by
 intro d s σ H x y v u Q I l m h
 obtain ⟨i,j,rfl,rfl,q⟩:=h
 obtain ⟨t,rfl⟩:=l
 obtain ⟨e,rfl⟩:=m
 exact b i j t e s _ _ ⟨.bl (g i j),H,I,ϱ,q⟩
def Ct(i j:Int):Prop:=0<j/\j<1073741824
def Cr(i j:Int):Prop:=0<=j/\j<=1000000/\i.natAbs<2 ^ 64
def CMul(i j:Int):Prop:=(-(2 ^ 64)<i/\i<2 ^ 64)\/(-(2 ^ 64)<j/\j<2 ^ 64)
theorem CMul.ok{i j:Int}(h:CMul i j):IntMulOk i j:=by
 rcases h with ⟨h1,h2⟩ | ⟨h1,h2⟩
 ·exact .of_left (intBits_le_64 h1 h2)
 ·exact .of_right (intBits_le_64 h1 h2)
theorem d7:OpR X (binaryOp .Add) (rI0 λi j=>.int (i+j)):=BL λ_ _ _ _ _ _ _ q=>add_int q
theorem lG:OpR X (binaryOp .Sub) (rI0 λi j=>.int (i-j)):=BL λ_ _ _ _ _ _ _ q=>sub_int q
theorem vG:OpR X (binaryOp .Mult) (rI CMul λi j=>.int (i*j)):=opI λ_ _ _ _ _ _ _ hc q=>mul_int q hc.ok
theorem cH:OpR X (binaryOp .FloorDiv) (rI Ct λi j=>.int (i/j)):=opI λi j _ _ _ _ _ hc q=>by
 have h1:(0:Int)<j:=hc.1
 have h2:j<1073741824:=hc.2
 exact floordiv_int ω (by rw [Int.fdiv_eq_ediv_of_nonneg i ω];exact q) (.inl (PyProof.noPylong_small ω))
theorem dh:OpR X (binaryOp .Mod) (rI (λ_ j=>0<j) λi j=>.int (i%j)):=opI λi j _ _ _ _ _ hc q=>by
 have h1:(0:Int)<j:=hc
 exact mod_int' ω (by rw [Int.fmod_eq_emod_of_nonneg i ω];exact q)
theorem vD:OpR X (binaryOp .Pow) (rI Cr λi j=>.int (i ^ j.toNat)):=opI λ_ _ _ _ _ _ _ hc q=>pow_int_small hc.1 hc.2.1 hc.2.2 q
theorem unI{f:Value->Sem Value}{g:Int->Int}
  (b:∀(i:Int) (t:Tok) (s:Shared) (Q:Value->Shared->Prop) (E:Value->Shared->Prop),Q (.int (g i) s.toks) {s with toks:=s.toks+1}->wpAny (model X.prog X.w) X.A (f (.int i t)) Q E s) :
  UnR X f (rU λi=>.int (g i)):=by
 intro d s σ H x v Q I e h
 obtain ⟨i,rfl,q⟩:=h
 obtain ⟨t,rfl⟩:=e
 exact b i t s _ _ ⟨.int (g i),H,I.tok _,⟨_,ϱ⟩,q⟩
theorem uz:UnR X (unaryOp .USub) (rU λi=>.int (-i)):=unI λ_ _ _ _ _ q=>neg_int q
end
def BD:V->V->Bool
 | .non,.non=>true | .non,.int _=>true | .int _,.non=>true | .non,.bl _=>true | .bl _,.non=>true | .non,.str _=>true | .str _,.non=>true
 | .int _,.int _=>true | .bl _,.bl _=>true | .str _,.str _=>true | .byt _,.byt _=>true
 | .int _,.str _=>true | .str _,.int _=>true | .bl _,.str _=>true | .str _,.bl _=>true
 | _,_=>false
def rEq:R2:=λx y H Q=>BD x y=true/\Q (.bl (decide (x=y))) H
def rNe:R2:=λx y H Q=>BD x y=true/\Q (.bl (!decide (x=y))) H
theorem oY{i j:Int}:decide (V.int i=V.int j)=(i==j):=by
 rw [Bool.eq_iff_iff]
 simp
theorem wZ{i j:Bool}:decide (V.bl i=V.bl j)=(i==j):=by
 rw [Bool.eq_iff_iff]
 simp
theorem sM{i j:Str}:decide (V.str i=V.str j)=(i==j):=by
 rw [Bool.eq_iff_iff]
 simp
theorem sN{i j:Array UInt8}:decide (V.byt i=V.byt j)=(i.toList==j.toList):=by
 rw [Bool.eq_iff_iff]
 cases i
 cases j
 simp
section
variable {X:Cx}{a b c:Expr}{ta tb tc:TE}{pos:Pos}
theorem aU{b:List (Addr×Obj)}{σ:St}{H:Hp}{s:Shared}{Q:VK}{k d:Bool}(I:Inv X b σ H s)(q:Q (.bl k) H)(e:k=d):EP X b σ Q (.bool d) s:=by
 subst e
 exact ⟨.bl k,H,I,ϱ,q⟩
theorem bJ:OpR X (compareOp .Eq) rEq:=by
 intro g s σ H x y v u Q I f b h
 obtain ⟨e,q⟩:=h
 cases x with
 | non =>
  cases f
  cases y with
  | non=>cases b;exact PySem.EqNone.eq_none_none (aU I q (by simp))
  | bl j=>cases b;exact PySem.EqNone.eq_none_bool (aU I q (by simp))
  | int j=>obtain ⟨d,rfl⟩:=b;exact PySem.EqNone.eq_none_int (aU I q (by simp))
  | str j=>obtain ⟨d,rfl⟩:=b;exact PySem.EqNone.eq_none_str (aU I q (by simp))
  | _=>exact absurd (show false=true from e) Bool.false_ne_true
 | bl i =>
  cases f
  cases y with
  | non=>cases b;exact PySem.EqNone.eq_bool_none (aU I q (by simp))
  | bl j=>cases b;exact eq_bool (aU I q wZ)
  | str j=>obtain ⟨d,rfl⟩:=b;exact PySem.EqMixed.eq_bool_str (aU I q (by simp))
  | _=>exact absurd (show false=true from e) Bool.false_ne_true
 | int i =>
  obtain ⟨t,rfl⟩:=f
  cases y with
  | non=>cases b;exact PySem.EqNone.eq_int_none (aU I q (by simp))
  | int j=>obtain ⟨d,rfl⟩:=b;exact eq_int (aU I q oY)
  | str j=>obtain ⟨d,rfl⟩:=b;exact PySem.EqMixed.eq_int_str (aU I q (by simp))
  | _=>exact absurd (show false=true from e) Bool.false_ne_true
 | str i =>
  obtain ⟨t,rfl⟩:=f
  cases y with
  | non=>cases b;exact PySem.EqNone.eq_str_none (aU I q (by simp))
  | bl j=>cases b;exact PySem.EqMixed.eq_str_bool (aU I q (by simp))
  | int j=>obtain ⟨d,rfl⟩:=b;exact PySem.EqMixed.eq_str_int (aU I q (by simp))
  | str j=>obtain ⟨d,rfl⟩:=b;exact eq_str (aU I q sM)
  | _=>exact absurd (show false=true from e) Bool.false_ne_true
 | byt i =>
  obtain ⟨t,rfl⟩:=f
  cases y with
  | byt j=>obtain ⟨d,rfl⟩:=b;exact PySem.W.eq_bytes (aU I q sN)
  | _=>exact absurd (show false=true from e) Bool.false_ne_true
 | _=>cases y<;>exact absurd (show false=true from e) Bool.false_ne_true
theorem pQ:OpR X (compareOp .NotEq) rNe:=by
 intro g s σ H x y v u Q I f b h
 obtain ⟨e,q⟩:=h
 cases x with
 | non =>
  cases f
  cases y with
  | non=>cases b;exact PySem.EqNone.ne_none_none (aU I q (by simp))
  | bl j=>cases b;exact PySem.EqNone.ne_none_bool (aU I q (by simp))
  | int j=>obtain ⟨d,rfl⟩:=b;exact PySem.EqNone.ne_none_int (aU I q (by simp))
  | str j=>obtain ⟨d,rfl⟩:=b;exact PySem.EqNone.ne_none_str (aU I q (by simp))
  | _=>exact absurd (show false=true from e) Bool.false_ne_true
 | bl i =>
  cases f
  cases y with
  | non=>cases b;exact PySem.EqNone.ne_bool_none (aU I q (by simp))
  | bl j=>cases b;exact ne_bool (aU I q (congrArg not wZ))
  | str j=>obtain ⟨d,rfl⟩:=b;exact PySem.EqMixed.ne_bool_str (aU I q (by simp))
  | _=>exact absurd (show false=true from e) Bool.false_ne_true
 | int i =>
  obtain ⟨t,rfl⟩:=f
  cases y with
  | non=>cases b;exact PySem.EqNone.ne_int_none (aU I q (by simp))
  | int j=>obtain ⟨d,rfl⟩:=b;exact ne_int (aU I q (congrArg not oY))
  | str j=>obtain ⟨d,rfl⟩:=b;exact PySem.EqMixed.ne_int_str (aU I q (by simp))
  | _=>exact absurd (show false=true from e) Bool.false_ne_true
 | str i =>
  obtain ⟨t,rfl⟩:=f
  cases y with
  | non=>cases b;exact PySem.EqNone.ne_str_none (aU I q (by simp))
  | bl j=>cases b;exact PySem.EqMixed.ne_str_bool (aU I q (by simp))
  | int j=>obtain ⟨d,rfl⟩:=b;exact PySem.EqMixed.ne_str_int (aU I q (by simp))
  | str j=>obtain ⟨d,rfl⟩:=b;exact ne_str (aU I q (congrArg not sM))
  | _=>exact absurd (show false=true from e) Bool.false_ne_true
 | byt i =>
  obtain ⟨t,rfl⟩:=f
  cases y with
  | byt j=>obtain ⟨d,rfl⟩:=b;exact PySem.W.ne_bytes (aU I q (congrArg not sN))
  | _=>exact absurd (show false=true from e) Bool.false_ne_true
 | _=>cases y<;>exact absurd (show false=true from e) Bool.false_ne_true
theorem su:OpR X (compareOp .Lt) (rI0 λi j=>.bl (decide (i<j))):=ym λ_ _ _ _ _ _ _ q=>lt_int q
theorem mM:OpR X (compareOp .LtE) (rI0 λi j=>.bl (decide (i<=j))):=ym λ_ _ _ _ _ _ _ q=>le_int q
theorem mO:OpR X (compareOp .Gt) (rI0 λi j=>.bl (decide (j<i))):=ym λ_ _ _ _ _ _ _ q=>gt_int q
theorem BK:OpR X (compareOp .GtE) (rI0 λi j=>.bl (decide (j<=i))):=ym λ_ _ _ _ _ _ _ q=>ge_int q
theorem lJ:OpR X (compareOp .Is) (λx y H Q=>y=.non/\Q (.bl (decide (x=.non))) H):=by
 intro b s σ H x y v u Q I d e h
 obtain ⟨rfl,q⟩:=h
 cases e
 refine is_none_gen (aU I q ?_)
 cases x<;>first
  | (cases d;rfl)
  | (obtain ⟨t,rfl⟩:=d;rfl)
theorem oN:OpR X (compareOp .IsNot) (λx y H Q=>y=.non/\Q (.bl (!decide (x=.non))) H):=by
 intro b s σ H x y v u Q I d e h
 obtain ⟨rfl,q⟩:=h
 cases e
 refine isnot_none_gen (aU I q ?_)
 cases x<;>first
  | (cases d;rfl)
  | (obtain ⟨t,rfl⟩:=d;rfl)
theorem aw(b:Expr){d:CmpOp}(h:d≠.In:=by decide)(g:d≠.NotIn:=by decide):behindInMarks d b=false:=by
 have e:(d==CmpOp.In)=false:=by cases d<;>first | rfl | exact absurd rfl h
 have f:(d==CmpOp.NotIn)=false:=by cases d<;>first | rfl | exact absurd rfl g
 cases b<;>simp [behindInMarks,e,f]
theorem bo{e:CmpOp}{r:R2}(m:OpR X (compareOp e) r)(o:PE X a ta)(w:PE X b tb)(z:behindInMarks e b=false):PE X (.Compare a [e] [b] pos) (tOp r ta tb):=by
 intro d s σ H Q I h
 exact wpAny_Compare1 (A6 o w I h λv u f x y g i j l q=>m d f σ g x y v u Q i j l q) z
def zk(t:TE):TT:=fun σ H Q=>t σ H λx H'=>XB Q x H'
theorem ax{f:CmpOp}{r:R2}(F:OpR X (compareOp f) r)(G:PE X a ta)(J:PE X b tb)(K:behindInMarks f b=false):PT X (.Compare a [f] [b] pos) (zk (tOp r ta tb)):=by
 intro d s σ H Q I h
 refine wpAny_isTrue_Compare1 (thn (G d s σ H _ I h) λv g ⟨x,H1,i,j,q1⟩=>thn (J d g σ H1 _ i q1) λu l ⟨y,m,o,q,q2⟩ =>
  thn (F d l σ m x y v u _ o j q q2) λc L ⟨z,w,C,D,k,e,q3⟩=>?_) K
 subst e
 cases D
 exact wpAny_truthy_bool ⟨w,C,q3⟩
def zU(r r':R2)(ta tb tc:TE):TE:=fun σ H Q=>ta σ H λx H1=>tb σ H1 λy H2=>r x y H2 λz H3=>∃k,z=.bl k /\
 (if k=true then tc σ H3 λw' H4=>r' y w' H4 Q else Q (.bl false) H3)
theorem vy{i g:CmpOp}{r q:R2}(ho:OpR X (compareOp i) r)(j:OpR X (compareOp g) q)(ha:PE X a ta)(hb:PE X b tb)(hc:PE X c tc)
  (hm:lastMarks [i,g] [b,c]=false:=by with_unfolding_all rfl):PE X (.Compare a [i,g] [b,c] pos) (zU r q ta tb tc):=by
 intro f s σ H Q I h
 refine Compare_chain (thn (ha f s σ H _ I h) λv w ⟨x,H1,C,D,q1⟩=>chain_link (thn (hb f w σ H1 _ C q1) λu F ⟨y,G,J,l,q2⟩ =>
  thn (ho f F σ G x y v u _ J D l q2) λd K ⟨z,m,o,L,k,e,q3⟩=>?_)) hm
 subst e
 cases L
 refine wpAny_truthy_bool ?_
 cases k with
 | false=>exact ite_ff ⟨.bl false,m,o,rfl,q3⟩
 | true=>exact ite_tt (chain_last (thn (hc f K σ m _ o q3) λO P ⟨U,W,Y,Z,q4⟩=>j f P σ W y U u O Q Y l Z q4))
theorem jE:(sizeLine:Nat)<2 ^ 63:=by rw [sizeLine_eq];decide
theorem cP:OpR X (binaryOp .Add) (λx y H Q=>∃i j,x=.str i/\y=.str j/\i.length+j.length<=sizeLine/\Q (.str (i++j)) H):=by
 intro b s σ H x y v u Q I f g h
 obtain ⟨i,j,rfl,rfl,d,q⟩:=h
 obtain ⟨t,rfl⟩:=f
 obtain ⟨e,rfl⟩:=g
 exact add_str (λe l=>⟨.str (i++j),H,I.tok _,⟨_,ϱ⟩,q⟩) d
theorem cL{x:V}{us:List Value}(r:Vals [x] us):∃u,us=[u]/\RelV x u:=by
 cases r with
 | cons r1 r2=>cases r2;exact ⟨_,rfl,r1⟩
theorem rK{x y:V}{us:List Value}(r:Vals [x,y] us):∃u w',us=[u,w']/\RelV x u/\RelV y w':=by
 cases r with
 | cons r1 r2 =>
  cases r2 with
  | cons r3 r4=>cases r4;exact ⟨_,_,rfl,r1,r3⟩
theorem gm:cG X (.type "str") (λxs H Q=>∃i,xs=[.int i]/\i.natAbs.log2<1920/\Q (.str (toString i)) H):=by
 intro b s σ H xs e Q I r h
 obtain ⟨i,rfl,d,q⟩:=h
 obtain ⟨u,rfl,t,rfl⟩:=cL r
 exact PySem.P.str_of_int d ⟨.str _,H,I.tok _,⟨_,ϱ⟩,q⟩
theorem xj:cG X (.builtin "ord") (λxs H Q=>∃x,xs=[.str x]/\x.length=1/\Q (.int (x.cps.getD 0 0:Nat)) H):=by
 intro b s σ H xs e Q I r h
 obtain ⟨x,rfl,d,q⟩:=h
 obtain ⟨u,rfl,t,rfl⟩:=cL r
 exact ord_of_one d ⟨.int _,H,I.tok _,⟨_,ϱ⟩,q⟩
end
structure ObjM(h:Heap)(x dx C:Addr)(mA:Str->Option Value):Prop where
 obj:h.get? x=some (PySem.W.instObj C dx)
 ns:h.Ns1 dx mA
 ne:dx≠x
theorem tU{h:Heap}{f:Addr}{g:Str->Option Value}(n:h.Ns1 f g):∃od,h.get? f=some od/\∀name,PySem.W.lookIn name od=some (g name):=by
 obtain ⟨o,d,w,i,j,l,_,m⟩:=n
 refine ⟨o,i,λname=>?_⟩
 have e:=m name
 unfold nsFind findBy at e
 rw [← Array.find?_toList] at e
 unfold PySem.W.lookIn
 rw [j]
 dsimp only
 split
 ·rename_i y q
  rw [q] at e
  exact congrArg some e
 ·rename_i q
  rw [q] at e
  have a:d.toList.any (·.refKey)=false:=by
   rw [List.any_eq_false]
   intro y u
   obtain ⟨z,t,b⟩:=l y (Array.mem_toList_iff.mp u)
   simp [DictEntry.refKey,b]
  have r:¬d.toList.any (·.refKey)=true:=by rw [a];exact Bool.false_ne_true
  rw [if_neg r]
  exact congrArg some e
theorem ObjM.look{h:Heap}{x dx C:Addr}{mA:Str->Option Value}(I:ObjM h x dx C mA):∃od,PySem.W.InstAt h x (PySem.W.instObj C dx) C (some od)/\∀name,PySem.W.lookIn name od=some (mA name) :=
 let ⟨od,ho,hl⟩:=tU I.ns
 ⟨od,⟨I.obj,ϱ,ϱ,ho⟩,hl⟩
section
variable {prog:Program}{w:World}{A:Around}{E:Value->Shared->Prop}{s:Shared}{K:Frag}{x dx C f:Addr}{mA:Str->Option Value}{name:Str}{v:Value}
theorem yW{b:Bool}{Q:Value->Shared->Prop}(X:K.In s.heap)(I:ObjM s.heap x dx C mA)(f:PySem.W.plainGet K C name=true)(g:PySem.W.hasDictIn K C=true)
  (i:PySem.W.findIn K (.ref C) name=some none)(j:mA name=some v)(d:PySem.W.handedIn v=true)(h:Q v {s with toks:=s.toks+1}) :
  wpAny (model prog w) A (getAttr (.ref x) name b) Q E s:=by
 obtain ⟨od,J,e⟩:=I.look
 exact PySem.W.get_value X J (PySem.W.plainGet_of f).1 (PySem.W.findObj_own g i rfl (by rw [e,j])) d h
theorem wK{pl:Sem Bool}{Q:Value×List Value->Shared->Prop}(X:K.In s.heap)(I:ObjM s.heap x dx C mA)(b:PySem.W.plainGet K C name=true)
  (hf:PySem.W.findIn K (.ref C) name=some (some (.ref f)))(e:PySem.W.isFn K (.ref f)=true)(g:mA name=none)(h:Q (.ref f,[.ref x]) s) :
  wpAny (model prog w) A (getMethod (.ref x) name pl) Q E s:=by
 obtain ⟨od,J,d⟩:=I.look
 exact PySem.W.method_fn X J (PySem.W.plainGet_of b).1 (PySem.W.plainGet_of b).2 hf (beq_iff_eq.mp e) (by show (PySem.W.lookIn name od).map (·.isSome)=some false;rw [d,g];rfl) h
theorem xT{l:List Str}{Q:Unit->Shared->Prop}(X:K.In s.heap)(I:ObjM s.heap x dx C mA)
  (z:PySem.W.findIn K (.ref C) "__setattr__"=some (some (.builtin "object.__setattr__")))(D:PySem.W.plainOver K C=true)(F:PySem.W.takerIn K C name=some none)(G:PySem.W.hasDictIn K C=true)
  (hw:PySem.Within mA l)(hsz:l.length<=sizeLine)
  (h:∀h',ObjM h' x dx C (λy=>if y=name then some v else mA y)->Heap.SameBut dx s.heap h'->Q () {s with heap:=h',toks:=s.toks+2}) :
  wpAny (model prog w) A (setAttr (.ref x) name v) Q E s:=by
 obtain ⟨od,J,H⟩:=I.look
 refine PySem.W.set_plain X J z (PySem.W.osa_open (s:={s with toks:=s.toks+1}) (r:=none) X J D F λb=>?_)
 obtain ⟨L,m,f⟩:=PySem.W.any_some G
 have u:s.heap.get? x=some ⟨.ref C,some dx,.plain,#[]⟩:=I.obj
 refine ε (π (ε (ε (wpAny_loadPart u (ε (PySem.W.Looks.here (s:={s with toks:=s.toks+1}) (PySem.W.looks_clsIn X m) ?_))))))
 rw [f]
 refine π (a:=some dx) (ε (π (ε ?_)))
 refine wpAny_nsSet1 (s:={s with toks:=s.toks+1}) I.ns λh' d e=>?_
 obtain ⟨O,o,q,g,i,j⟩:=d.count (PySem.Within.cons name v hw)
 refine ε (wpAny_lookBehind g (by rw [i];exact pastItsLine_dict (Λ j (by rw [List.length_cons];omega))) ?_)
 exact π (h _ ⟨(e.2 _ (Ne.symm I.ne)).trans I.obj,d,I.ne⟩ e)
theorem wA{R:Result->Shared->Prop}{vs:List Value}{b:List (Str×Value)}(X:K.In s.heap)(e:PySem.W.makesIn K C=true)
  (i:PySem.W.findIn K (.ref C) "__init__"=some (some (.ref f)))(hf:PySem.W.typeIn K (.ref f)=some (.type "function"))
  (h:codeAny (model prog w) (A.under (.builtin "type.__call__" ⟨.ref C::vs,b⟩)) (.call (.ref f) ⟨.ref (s.heap.objs.size+1)::vs,b⟩) (PySem.W.InitBack (s.heap.objs.size+1) R)
   {s with heap:=(s.heap.push PySem.W.emptyDict).push (PySem.W.instObj C s.heap.objs.size)}) :
  codeAny (model prog w) A (.call (.ref C) ⟨vs,b⟩) R s:=by
 obtain ⟨j,g,d,t,l⟩:=s
 exact PySem.W.make_core (PySem.W.makes_of X e) (PySem.W.looks_findIn X i) (λself=>PySem.W.bind_fn X self hf) (.inl rfl) h
end
def ay(f:Str)(v:V):List (Str×V)->List (Str×V)
 | []=>[(f,v)]
 | (g,x)::r=>if g=f then (g,v)::r else (g,x)::ay f v r
theorem al(f g:Str)(v:V):∀fs:List (Str×V),(ay f v fs).lookup g=if g=f then some v else fs.lookup g
 | []=>by
  show List.lookup g [(f,v)]=_
  by_cases h:g=f
  ·have hb:(g==f)=true:=beq_iff_eq.mpr h
   simp only [List.lookup,hb,if_pos h]
  ·have hb:(g==f)=false:=beq_eq_false_iff_ne.mpr h
   simp only [List.lookup,hb,if_neg h]
 | (k,x)::r=>by
  have ih:=al f g v r
  rw [show ay f v ((k,x)::r)=(if k=f then (k,v)::r else (k,x)::ay f v r) from rfl]
  by_cases hk:k=f
  ·rw [if_pos hk]
   by_cases h:g=k
   ·have hb:(g==k)=true:=beq_iff_eq.mpr h
    simp only [List.lookup,hb,if_pos (h.trans hk)]
   ·have hb:(g==k)=false:=beq_eq_false_iff_ne.mpr h
    simp only [List.lookup,hb,if_neg (λe:g=f=>h (e.trans hk.symm))]
  ·rw [if_neg hk]
   by_cases h:g=k
   ·have hb:(g==k)=true:=beq_iff_eq.mpr h
    simp only [List.lookup,hb,if_neg (λe:g=f=>hk (h.symm.trans e))]
   ·have hb:(g==k)=false:=beq_eq_false_iff_ne.mpr h
    simp only [List.lookup,hb]
    exact ih
theorem jF(f:Str)(v:V):∀fs:List (Str×V),f∈(ay f v fs).map (·.1)/\∀g,g∈fs.map (·.1)->g∈(ay f v fs).map (·.1)
 | []=>⟨by simp [ay],λg h=>by simp at h⟩
 | (k,x)::r=>by
  obtain ⟨i1,i2⟩:=jF f v r
  rw [show ay f v ((k,x)::r)=(if k=f then (k,v)::r else (k,x)::ay f v r) from rfl]
  by_cases hk:k=f
  ·rw [if_pos hk]
   subst hk
   exact ⟨by simp,λg h=>by simpa using h⟩
  ·rw [if_neg hk]
   refine ⟨?_,λg h=>?_⟩
   ·rw [List.map_cons]
    exact Θ _ i1
   ·rw [List.map_cons] at h ⊢
    rcases ϕ.mp h with e | e
    ·exact ϕ.mpr (.inl e)
    ·exact Θ _ (i2 g e)
theorem c9(f:Str)(v:V):∀fs:List (Str×V),(ay f v fs).length<=fs.length+1
 | []=>by simp [ay]
 | (k,x)::r=>by
  have ih:=c9 f v r
  rw [show ay f v ((k,x)::r)=(if k=f then (k,v)::r else (k,x)::ay f v r) from rfl]
  by_cases hk:k=f
  ·rw [if_pos hk,List.length_cons,List.length_cons];omega
  ·rw [if_neg hk,List.length_cons,List.length_cons];omega
theorem RelO.some_of{v:V}{o:Option Value}(r:RelO (some v) o):∃u,o=some u/\RelV v u:=by
 cases o with
 | none=>exact (show False from r).elim
 | some u=>exact ⟨u,rfl,r⟩
theorem RelO.none_of{o:Option Value}(r:RelO none o):o=none:=by
 cases o with
 | none=>rfl
 | some u=>exact (show False from r).elim
theorem uc{v:V}{u:Value}(r:RelV v u):PySem.W.handedIn u=true:=by
 cases v with
 | non=>cases (show u=Value.none from r);rfl
 | bl b=>cases (show u=Value.bool b from r);rfl
 | int i=>obtain ⟨t,e⟩:=(show ∃t,u=Value.int i t from r);cases e;rfl
 | str x=>obtain ⟨t,e⟩:=(show ∃t,u=Value.str x t from r);cases e;rfl
 | byt b=>obtain ⟨t,e⟩:=(show ∃t,u=Value.bytes b t from r);cases e;rfl
 | flt b=>obtain ⟨t,e⟩:=(show ∃t,u=Value.float b t from r);cases e;rfl
 | ref a=>cases (show u=Value.ref a from r);rfl
 | ty n=>cases (show u=Value.type n from r);rfl
section
variable {P:Program}{w:World}{H H':Hp}{h h':Heap}{a C dx:Addr}{fs fs':List (Str×V)}
theorem kJ(b:HOk P w H h)(e:H a=some (.ins C dx fs)):∃mA,ObjM h a dx C mA/\(∀f,RelO (fs.lookup f) (mA f))/\PySem.Within mA (fs.map (·.1))/\fs.length<=1000/\H dx=some (.own a):=by
 obtain ⟨d,z,ne,g,mA,n,r,q⟩:=(show ObjOk P w H h a (.ins C dx fs) from b a _ e)
 exact ⟨mA,⟨g,n,ne⟩,r,q,z,d⟩
end
structure Cls(K:Frag)(C:Addr):Prop where
 pg:PySem.W.plainGet K C Str.empty=true
 hd:PySem.W.hasDictIn K C=true
 po:PySem.W.plainOver K C=true
 sa:PySem.W.findIn K (.ref C) "__setattr__"=some (some (.builtin "object.__setattr__"))
theorem Cls.get{K:Frag}{C:Addr}(c:Cls K C)(f:Str):PySem.W.plainGet K C f=true:=c.pg
def NoAttr(K:Frag)(C:Addr)(f:Str):Prop:=PySem.W.findIn K (.ref C) f=some none
theorem NoAttr.taker{K:Frag}{C:Addr}{f:Str}(n:NoAttr K C f):PySem.W.takerIn K C f=some none:=by
 unfold PySem.W.takerIn
 rw [show PySem.W.findIn K (.ref C) f=some none from n]
 rfl
structure gH(K:Frag)(C:Addr)(m:Str)(f:Addr):Prop where
 at_:PySem.W.findIn K (.ref C) m=some (some (.ref f))
 fn:PySem.W.isFn K (.ref f)=true
 kp:PySem.W.keepIn K (.ref f)=true
section
variable {X:Cx}{pins:List (Addr×Obj)}{σ:St}{H:Hp}{s:Shared}{a C dx:Addr}{fs:List (Str×V)}{f:Str}{v:V}{A:Around}{E:Value->Shared->Prop}
theorem lT{b:Bool}{Q:Value->Shared->Prop}(I:Inv X pins σ H s)(e:H a=some (.ins C dx fs))(c:Cls X.K C)(n:NoAttr X.K C f)(l:fs.lookup f=some v)
  (h:∀u s',Inv X pins σ H s'->RelV v u->Q u s'):wpAny (model X.prog X.w) A (getAttr (.ref a) f b) Q E s:=by
 obtain ⟨g,O,r,_,_,_⟩:=kJ I.hok e
 obtain ⟨u,i,d⟩:=RelO.some_of (v:=v) (o:=g f) (by rw [← l];exact r f)
 exact yW I.kIn O (c.get f) c.hd n i (uc d) (h u _ (I.tok _) d)
theorem iE{m:Str}{g:Addr}{pl:Sem Bool}{Q:Value×List Value->Shared->Prop}(I:Inv X pins σ H s)(e:H a=some (.ins C dx fs))(c:Cls X.K C)(k:gH X.K C m g)(l:fs.lookup m=none)
  (h:Q (.ref g,[.ref a]) s):wpAny (model X.prog X.w) A (getMethod (.ref a) m pl) Q E s:=by
 obtain ⟨b,O,r,_,_,_⟩:=kJ I.hok e
 have d:b m=none:=RelO.none_of (by rw [← l];exact r m)
 exact wK I.kIn O (c.get m) k.at_ k.fn d h
theorem kX{y:V}{u:Value}{Q:Unit->Shared->Prop}(I:Inv X pins σ H s)(e:H a=some (.ins C dx fs))(c:Cls X.K C)(n:NoAttr X.K C f)(P:fs.length<1000)(L:RelV y u)
  (h:∀s',Inv X pins σ (upd H a (.ins C dx (ay f y fs))) s'->Q () s'):wpAny (model X.prog X.w) A (setAttr (.ref a) f u) Q E s:=by
 obtain ⟨i,O,r,j,_,l⟩:=kJ I.hok e
 have m:(fs.map (·.1)).length<=sizeLine:=by rw [ν,sizeLine_eq];omega
 refine xT I.kIn O c.sa c.po n.taker c.hd j m λF d sb=>h _ ?_
 have D:∃o,F.get? dx=some o:=let ⟨o,_,_,e',_⟩:=d.ns;⟨o,e'⟩
 refine I.write (x:=a) (e:=dx) (by rw [e];exact ϰ) (.inr l) (λb q G z=>(sb.2 b G).trans z) D ?_
 refine ⟨by rw [am O.ne];exact l,?_,O.ne,d.obj,_,d.ns,λg=>?_,λg J=>?_⟩
 ·have:=c9 f y fs;omega
 ·show RelO ((ay f y fs).lookup g) (if g=f then some u else i g)
  rw [al]
  by_cases q:g=f
  ·rw [if_pos q,if_pos q];exact L
  ·rw [if_neg q,if_neg q];exact r g
 ·by_cases q:g=f
  ·rw [q];exact (jF f y fs).1
  ·refine (jF f y fs).2 g (j g λz=>J ?_)
   show (if g=f then some u else i g)=none
   rw [if_neg q];exact z
theorem Inv.made(I:Inv X pins σ H s):Inv X pins σ (upd (upd H s.heap.objs.size (.own (s.heap.objs.size+1))) (s.heap.objs.size+1) (.ins C s.heap.objs.size []))
  {s with heap:=(s.heap.push PySem.W.emptyDict).push (PySem.W.instObj C s.heap.objs.size)}:=by
 have d:(s.heap.push PySem.W.emptyDict).get? s.heap.objs.size=some PySem.W.emptyDict:=ψ s.heap rfl
 have f:((s.heap.push PySem.W.emptyDict).push (PySem.W.instObj C s.heap.objs.size)).get? (s.heap.objs.size+1)=some (PySem.W.instObj C s.heap.objs.size):=by
  have:=ψ (s.heap.push PySem.W.emptyDict) (o:=PySem.W.instObj C s.heap.objs.size) rfl
  rwa [Heap.size_push] at this
 have g:(s.heap.push PySem.W.emptyDict).Ns s.heap.objs.size (λ_=>none):=⟨PySem.W.emptyDict,#[],_,d,ϱ,(λe i=>absurd i (by simp)),λ_=>rfl⟩
 have h:=I.laid (a:=s.heap.objs.size) (o:=.own (s.heap.objs.size+1)) (h':=s.heap.push PySem.W.emptyDict) (t':=s.toks) (λb u q=>ρ _ q) (ι _) ⟨_,d⟩
 refine h.laid (a:=s.heap.objs.size+1) (o:=.ins C s.heap.objs.size []) (t':=s.toks) (λb u q=>ρ _ q) (Nat.le_of_eq (Heap.size_push _ _)) ?_
 have ne:s.heap.objs.size≠s.heap.objs.size+1:=Φ (Nat.lt_succ_self _)
 refine ⟨by rw [am ne,ae],ϖ _,ne,f,λ_=>none,(Heap.Ns1.of_empty g).at λo q=>ρ _ q,λ_=>ϰ,λy j=>absurd rfl j⟩
theorem zc{prog:Program}{w:World}{env:Env}{e:Expr}{f:Str}{pos:Pos}{s:Shared}{Q:Value->Shared->Prop}(hb:attributeBase e f env (eval e env)=eval e env)
  (h:wpAny (model prog w) A (eval e env) (λo s₁=>wpAny (model prog w) A (getAttr o f true) Q E s₁) E s):wpAny (model prog w) A (eval (.Attribute e f pos) env) Q E s :=
 Attribute_any_ h (by rw [arm_eval_Attribute,hb])
end
inductive XF (K:Frag) (f:Str) (Q:VK) (x:V) (H:Hp):Prop|mk a C dx fs v:x=.ref a->H a=some (.ins C dx fs)->Cls K C->NoAttr K C f->fs.lookup f=some v->Q v H->XF K f Q x H
def sZ(K:Frag)(ta:TE)(f:Str):TE:=fun σ H Q=>ta σ H λx H1=>XF K f Q x H1
def Cb(K:Frag)(ta tv:TE)(f:Str):TS:=λD σ H=>tv σ H λy H1=>ta σ H1 λx H2=>∃a C dx fs,x=.ref a/\H2 a=some (.ins C dx fs)/\Cls K C/\NoAttr K C f/\fs.length<1000 /\
 D.nx σ (upd H2 a (.ins C dx (ay f y fs)))
def B5(X:Cx)(op:Operator)(rd:V->V->Hp->VK->Prop):Prop :=
 ∀(pins:List (Addr×Obj)) (s:Shared) (σ:St) (H:Hp) (x y:V) (u v:Value) (Q:VK),Inv X pins σ H s->RelV x u->RelV y v->rd x y H Q->wpAny (model X.prog X.w) X.A (inplaceOp op u v) (EP X pins σ Q) X.xe s
def xY(K:Frag)(ta tv:TE)(rd:V->V->Hp->VK->Prop)(f:Str):TS:=λD σ H=>ta σ H λx H1=>∃a C dx fs v,x=.ref a/\H1 a=some (.ins C dx fs)/\Cls K C/\NoAttr K C f/\fs.lookup f=some v /\
 tv σ H1 λy H2=>rd v y H2 λz H3=>∃dx' fs',H3 a=some (.ins C dx' fs')/\fs'.length<1000/\D.nx σ (upd H3 a (.ins C dx' (ay f z fs')))
section
variable {X:Cx}{o e value:Expr}{f:Str}{pos pos' tpos:Pos}{ta tv:TE}
theorem aq(o:PE X e ta)(r:attributeBase e f X.env (eval e X.env)=eval e X.env):PE X (.Attribute e f pos) (sZ X.K ta f):=by
 intro b s σ H Q I h
 refine zc r (thn (o b s σ H _ I h) λu w ⟨x,H1,d,g,a,C,y,fs,v,ex,i,c,n,l,q⟩=>?_)
 subst ex
 obtain rfl:u=Value.ref a:=g
 exact lT d i c n l λz D j m=>⟨v,H1,j,m,q⟩
theorem aT(z:PE X o ta)(F:PE X value tv)(G:swapsWith value (some (.Attribute o f pos')) pos.line X.env=pure false):PS X (.Assign [.Attribute o f pos'] value pos) (Cb X.K ta tv f):=by
 intro b s σ H D I h
 refine plainObj_wpAny_Assign_Attribute (thn (F b s σ H _ I h) λu d ⟨y,H1,e,g,q⟩=>thn (z b d σ H1 _ e q) λi J ⟨x,L,j,m,a,C,O,fs,ex,r,c,n,l,q2⟩=>?_) G
 subst ex
 obtain rfl:i=Value.ref a:=m
 exact kX j r c n l g λP w=>⟨σ,_,w,q2⟩
theorem mL{g:Operator}{i:V->V->Hp->VK->Prop}(ha:PE X o ta)(hv:PE X value tv)(e:B5 X g i):PS X (.AugAssign (.Attribute o f tpos) g value pos) (xY X.K ta tv i f):=by
 intro b s σ H D I h
 refine wpAny_AugAssign_AttributeAny (thn (ha b s σ H _ I h) λj s1 ⟨x,H1,m,r,a,C,dx,fs,v,ex,w,c,n,l,q⟩=>?_)
 subst ex
 obtain rfl:j=Value.ref a:=r
 refine lT m w c n l λu F G J=>thn (hv b F σ H1 _ G q) λL O ⟨y,P,Q,U,q3⟩=>thn (e b O σ P v y u L _ Q J U q3) λw4 s4 ⟨z,H3,W,Y,Z,a0,d,l',q4⟩=>?_
 exact kX W d c n l' Y λs5 I5=>⟨σ,_,I5,q4⟩
def Cf:V->V->Hp->VK->Prop:=λx y H Q=>∃i j,x=.int i/\y=.int j/\Q (.int (i+j)) H
theorem wH:B5 X .Add Cf:=by
 rintro d s σ H x y u v Q I e f ⟨i,j,rfl,rfl,q⟩
 obtain ⟨t,rfl⟩:=(show ∃t,u=Value.int i t from e)
 obtain ⟨b,rfl⟩:=(show ∃b,v=Value.int j b from f)
 exact PyProof.Rows.iadd_int ⟨.int (i+j),H,I.tok _,⟨_,ϱ⟩,q⟩
end
section
variable {X:Cx}{pins:List (Addr×Obj)}{σ:St}{H:Hp}{s:Shared}{A:Around}{E:Value->Shared->Prop}{Q:Value->Shared->Prop}{c:Value}{b:Bool}
inductive TyOf (K:Frag) (H:Hp):V->Value->Prop where
 | non:TyOf K H .non (.type "NoneType")
 | bl (x:Bool):TyOf K H (.bl x) (.type "bool")
 | int (i:Int):TyOf K H (.int i) (.type "int")
 | str (x:Str):TyOf K H (.str x) (.type "str")
 | flt (x:UInt64):TyOf K H (.flt x) (.type "float")
 | lst {a:Addr} {xs:List V} (e:H a=some (.lst xs)):TyOf K H (.ref a) (.type "list")
 | frz {a:Addr} {o:Obj} {xs:List V} (e:H a=some (.frz o (.lst xs))):TyOf K H (.ref a) (.type "list")
 | tup {a:Addr} {xs:List V} (e:H a=some (.tup xs)):TyOf K H (.ref a) (.type "tuple")
 | dK {a:Addr} {kvs:List (Key×V)} (e:H a=some (.dK kvs)):TyOf K H (.ref a) (.type "dict")
 | dT {a:Addr} {kvs:List (List Key×V)} (e:H a=some (.dT kvs)):TyOf K H (.ref a) (.type "dict")
 | ins {a C dx:Addr} {fs:List (Str×V)} (e:H a=some (.ins C dx fs)) (cl:Cls K C) (ha:PySem.W.findIn K (.ref C) "__class__"=some (some (.builtin "object.__class__")))
   (hn:PySem.W.specialIn K (.builtin "object.__class__") "__get__"=some (some (.builtin "getset_descriptor.__get__"))) (htk:PySem.W.takesIn K (.builtin "object.__class__")=some true)
   (hm:PySem.W.mroIn K C (.type "object")=some true):TyOf K H (.ref a) (.ref C)
theorem t9{x:V}{u t:Value}(I:Inv X pins σ H s)(d:RelV x u)(m:TyOf X.K H x t)(e:PySem.W.kitOne X.K t c=some b)(h:∀tk,Q (.bool b) {s with toks:=tk}) :
  wpAny (model X.prog X.w) A (call (.builtin "isinstance") [u,c]) Q E s:=by
 cases m with
 | non=>cases (show u=Value.none from d);exact PySem.W.kia_one PySem.W.kitx_none I.kIn ϰ e (λz=>nomatch z) h
 | bl y=>cases (show u=Value.bool y from d);exact PySem.W.kia_one PySem.W.kitx_bool I.kIn ϰ e (λz=>nomatch z) h
 | int i=>obtain ⟨t,q⟩:=(show ∃t,u=Value.int i t from d);cases q;exact PySem.W.kia_one PySem.W.kitx_int I.kIn ϰ e (λz=>nomatch z) h
 | str y=>obtain ⟨t,q⟩:=(show ∃t,u=Value.str y t from d);cases q;exact PySem.W.kia_one PySem.W.kitx_str I.kIn ϰ e (λz=>nomatch z) h
 | flt y=>obtain ⟨t,q⟩:=(show ∃t,u=Value.float y t from d);cases q;exact PySem.W.kia_one PySem.W.kitx_float I.kIn ϰ e (λz=>nomatch z) h
 | @lst a f ea =>
  cases (show u=Value.ref a from d)
  obtain ⟨_,_,n,_,h1⟩:=(show ObjOk X.prog X.w H s.heap a (.lst f) from I.hok a _ ea)
  exact PySem.W.kia_one PySem.W.kitx_list I.kIn ⟨_,h1,ϱ⟩ e (λz=>nomatch z) h
 | @frz a ob f ea =>
  cases (show u=Value.ref a from d)
  obtain ⟨_,_,_,n,_,h1⟩:=(show ObjOk X.prog X.w H s.heap a (.frz ob (.lst f)) from I.hok a _ ea)
  exact PySem.W.kia_one PySem.W.kitx_list I.kIn ⟨_,h1,ϱ⟩ e (λz=>nomatch z) h
 | @tup a f ea =>
  cases (show u=Value.ref a from d)
  obtain ⟨_,_,_,p⟩:=(show ObjOk X.prog X.w H s.heap a (.tup f) from I.hok a _ ea)
  obtain ⟨o,h1,g,_⟩:=p
  exact PySem.W.kia_one PySem.W.kitx_tuple I.kIn ⟨o,h1,g⟩ e (λz=>nomatch z) h
 | @dK a kvs ea =>
  cases (show u=Value.ref a from d)
  obtain ⟨_,_,vs,_,p⟩:=(show ObjOk X.prog X.w H s.heap a (.dK kvs) from I.hok a _ ea)
  obtain ⟨o,j,l,h1,g,_⟩:=p
  exact PySem.W.kia_one PySem.W.kitx_dict I.kIn ⟨o,h1,g.1⟩ e (λz=>nomatch z) h
 | @dT a kvs ea =>
  cases (show u=Value.ref a from d)
  obtain ⟨_,_,f,_,o,j,l,h1,g,_⟩:=(show ObjOk X.prog X.w H s.heap a (.dT kvs) from I.hok a _ ea)
  exact PySem.W.kia_one PySem.W.kitx_dict I.kIn ⟨o,h1,g.1⟩ e (λz=>nomatch z) h
 | @ins a C dx fs ea cl ha hn htk hm =>
  cases (show u=Value.ref a from d)
  obtain ⟨r,O,_⟩:=kJ I.hok ea
  obtain ⟨od,J,_⟩:=O.look
  exact PySem.W.kia_one (PySem.W.kitx_own (cl.get _) cl.hd ha hn htk hm) I.kIn J e (λz=>nomatch z) h
end
structure Room(k:Nat)(A:Around):Prop where
 hd:A.handled=none
 dp:A.depth+3*k+5<recursionLimit
 un:A.units+16*k+200<cLine
theorem Room.mono{j k:Nat}{A:Around}(r:Room k A)(h:j<=k):Room j A:=⟨r.hd,by have:=r.dp;omega,by have:=r.un;omega⟩
theorem Room.deeper{k:Nat}{A:Around}(r:Room (k+1) A)(env:Env):Room k (A.deeper env) :=
 ⟨r.hd,by have:=r.dp;show A.depth+1+3*k+5<_;omega,by have:=r.un;show A.units+3+16*k+200<_;omega⟩
theorem qY{A:Around}{C:Addr}{us:List Value}{b:List (Str×Value)}:(A.under (.builtin "type.__call__" ⟨.ref C::us,b⟩)).depth=A.depth+1:=by
 first | rfl | simp [Around.under,Code.weight,Code.isCreation,Code.isGuard,Code.isCaller,Code.frames,Code.isFrame,guardIds]
theorem qX{A:Around}{C:Addr}{us:List Value}{b:List (Str×Value)}:(A.under (.builtin "type.__call__" ⟨.ref C::us,b⟩)).units=A.units+1:=by
 first | rfl | simp [Around.under,Code.cUnits,Code.frames,Code.isFrame]
theorem Room.make{k:Nat}{A:Around}(r:Room (k+1) A)(C:Addr)(us:List Value)(kw:List (Str×Value)):Room k (A.under (.builtin "type.__call__" ⟨.ref C::us,kw⟩)) :=
 ⟨r.hd,by have:=r.dp;rw [qY];omega,by have:=r.un;rw [qX];omega⟩
theorem Room.depth{k:Nat}{A:Around}(r:Room k A):A.depth<recursionLimit:=by have:=r.dp;omega
theorem Room.units{k:Nat}{A:Around}(r:Room k A):A.units+64<cLine:=by have:=r.un;omega
def jY:TA:=λ_ H Q=>Q [] H
def cE(ta:TE)(tr:TA):TA:=fun σ H Q=>ta σ H λx H1=>tr σ H1 λxs H2=>Q (x::xs) H2
section
variable {X:Cx}{e:Expr}{es:List Expr}{te:TE}{t:TA}{pos:Pos}
theorem af:PA X [] jY:=λ_ _ _ _ H Q I h=>Calls.spliced_nil ⟨[],H,I,.nil,h⟩
theorem ac(o:PE X e te)(q:PA X es t)(r:starEach (e::es) X.env=(false,eval e X.env)::starEach es X.env:=by rfl):PA X (e::es) (cE te t):=by
 intro pos b s σ H Q I h
 rw [r]
 show wpAny _ _ (spliced ((false,eval e X.env)::backTo pos (starEach es X.env))) _ _ s
 refine Calls.spliced_cons (thn (o b s σ H _ I h) λu d ⟨x,H1,f,g,q1⟩=>?_)
 exact thn (q pos b d σ H1 _ f q1) λw y ⟨i,j,l,m,q2⟩=>⟨x::i,j,l,.cons g m,q2⟩
def uK(t:TA):TE:=fun σ H Q=>t σ H λxs H1=>xs.length<=sizeLine/\∀p,H1 p=none->Q (.ref p) (upd H1 p (.tup xs))
def xE(t:TA):TE:=fun σ H Q=>t σ H λxs H1=>xs.length<=sizeLine/\∀p,H1 p=none->Q (.ref p) (upd H1 p (.lst xs))
theorem aI{x1}(h:PA X es t):PE X (.Tuple es x1 pos) (uK t):=by
 intro d s σ H Q I l
 refine wpAny_Tuple_spliced (thn (h pos d s σ H _ I l) λi f ⟨j,H1,g,r,z,q⟩=>⟨by rw [← r.length];exact z,?_⟩)
 have hf:H1 f.heap.objs.size=none:=g.hok.fresh (ι _)
 refine ⟨.ref f.heap.objs.size,upd H1 f.heap.objs.size (.tup j),g.laid (t':=f.toks) (λb u e=>ρ _ e) (ι _) ?_,ϱ,q _ hf⟩
 exact ⟨z,i,r,⟨_,ψ _ rfl,ϱ,_,ϱ⟩⟩
theorem bf(h:PA X es t):PE X (.List es pos) (xE t):=by
 intro d s σ H Q I l
 refine wpAny_List_spliced (thn (h pos d s σ H _ I l) λi f ⟨j,H1,g,r,z,q⟩=>⟨by rw [← r.length];exact z,?_⟩)
 have hf:H1 f.heap.objs.size=none:=g.hok.fresh (ι _)
 refine ⟨.ref f.heap.objs.size,upd H1 f.heap.objs.size (.lst j),g.laid (t':=f.toks) (λb u e=>ρ _ e) (ι _) ?_,ϱ,q _ hf⟩
 exact ⟨z,i,0,r,ψ _ rfl⟩
end
abbrev Sp:=List V->Hp->VK->XK->Prop
abbrev CXT:=List Env->Hp->Shared->XK->Value->Shared->Prop
structure Env0(P:Program)(w:World)(K:Frag)(mg:Str->Option Value)(base:Heap)(A:Around)(outer:List Env)(s:Shared)(H:Hp):Prop where
 frames:A.frames=some outer
 mod:Mod K mg base
 bs:∀b o,base.get? b=some o->s.heap.get? b=some o/\H b=none
 bsz:base.objs.size<=s.heap.objs.size
 funs:s.heap.FunFrames base outer
 frf:∀b∈frs outer,H b=none
 hok:HOk P w H s.heap
 bare:AllBare s.gens
def CE(outer:List Env)(P:Program)(w:World)(H:Hp)(s:Shared)(Q:VK)(u:Value)(s':Shared):Prop :=
 ∃v H',s'.os=s.os/\AllBare s'.gens/\Un (frs outer) [] H H' s.heap s'.heap/\HOk P w H' s'.heap/\RelV v u/\Q v H'
def CR(CX:CXT)(outer:List Env)(P:Program)(w:World)(H:Hp)(s:Shared)(Q:VK)(E:XK)(r:Result)(s':Shared):Prop :=
 match r with
 | .ok (.ret u)=>CE outer P w H s Q u s'
 | .ok _=>False
 | .error e=>CX outer H s E e s'
structure FnOk(P:Program)(w:World)(K:Frag)(mg:Str->Option Value)(base:Heap)(CX:CXT)(k:Nat)(f:Addr)(fd:FuncData)(ps:List Str)(sp:Sp):Prop where
 len:∀vs H Q E,sp vs H Q E->vs.length=ps.length
 run:∀(A:Around) (outer:List Env) (s:Shared) (H:Hp) (args:Args) (us:List Value) (vs:List V) (Q:VK) (E:XK),Room k A->Env0 P w K mg base A outer s H->BindsTo s fd args (ps.zip us)->Vals vs us->sp vs H Q E ->
  codeAny (model P w) A (.call (.ref f) args) (CR CX outer P w H s Q E) s
theorem FnOk.mono{P:Program}{w:World}{K:Frag}{mg:Str->Option Value}{base:Heap}{CX:CXT}{j k:Nat}{f:Addr}{fd:FuncData}{ps:List Str}{sp:Sp}(F:FnOk P w K mg base CX j f fd ps sp)(h:j<=k) :
  FnOk P w K mg base CX k f fd ps sp:=⟨F.len,λA outer s H args us vs Q E hr=>F.run A outer s H args us vs Q E (hr.mono h)⟩
theorem FnOk.imp{P:Program}{w:World}{K:Frag}{mg:Str->Option Value}{base:Heap}{CX:CXT}{k:Nat}{f:Addr}{fd:FuncData}{ps:List Str}{sp sp':Sp}(F:FnOk P w K mg base CX k f fd ps sp)
  (h:∀vs H Q E,sp' vs H Q E->sp vs H Q E):FnOk P w K mg base CX k f fd ps sp' :=
 ⟨λvs H Q E q=>F.len vs H Q E (h _ _ _ _ q),λA outer s H args us vs Q E hr he hb hv hs=>F.run A outer s H args us vs Q E hr he hb hv (h _ _ _ _ hs)⟩
theorem Env0.make{P:Program}{w:World}{K:Frag}{mg:Str->Option Value}{base:Heap}{A:Around}{outer:List Env}{s:Shared}{H:Hp}(e:Env0 P w K mg base A outer s H)(C:Addr)(us:List Value)(kw:List (Str×Value)) :
  Env0 P w K mg base (A.under (.builtin "type.__call__" ⟨.ref C::us,kw⟩)) outer s H:=⟨by first | exact e.frames | (simpa [Around.under,Code.envs,Code.isFrame,pushEnvs] using e.frames),e.mod,e.bs,e.bsz,e.funs,e.frf,e.hok,e.bare⟩
section
variable {X:Cx}{pins:List (Addr×Obj)}{σ:St}{H:Hp}{s s':Shared}
theorem Inv.env0(I:Inv X pins σ H s):Env0 X.prog X.w X.K X.mg X.base X.A X.stack s H :=
 ⟨I.ok.frames,I.ok.mod,I.bs,Λ I.ok.bsz I.sz,I.stack,I.stkFree,I.hok,I.bare⟩
theorem Inv.after{Q:VK}{u:Value}(I:Inv X pins σ H s)(h:CE X.stack X.prog X.w H s Q u s'):EP X pins σ Q u s':=by
 obtain ⟨v,j,l,e,un,f,r,q⟩:=h
 obtain ⟨m,g,d,t,i⟩:=s'
 obtain rfl:i=s.os:=l
 exact ⟨v,j,I.call (h':=m) (g':=g) (d':=d) (t':=t) (ch:=[]) un f e (λb z=>absurd z (by simp)),r,q⟩
end
def uM(sp:Sp)(dvs:List V)(E:XK)(t:TA):TE:=fun σ H Q=>t σ H λvs H1=>sp (vs++dvs) H1 Q E
inductive XM (C:Addr) (m:Str) (x:V) (H:Hp) (P:Prop):Prop|mk a dx fs:x=.ref a->H a=some (.ins C dx fs)->fs.lookup m=none->P->XM C m x H P
def rN(C:Addr)(m:Str)(sp:Sp)(dvs:List V)(E:XK)(ta:TE)(t:TA):TE:=fun σ H Q=>ta σ H λx H1=>XM C m x H1 (t σ H1 λvs H2=>sp (x::(vs++dvs)) H2 Q E)
def zm(C:Addr)(sp:Sp)(dvs:List V)(E:XK)(t:TA):TE:=fun σ H Q=>t σ H λvs H1=>∀x dx,H1 x=none->H1 dx=none->dx≠x ->
 sp (.ref x::(vs++dvs)) (upd (upd H1 dx (.own x)) x (.ins C dx [])) (λv H2=>v=.non/\Q (.ref x) H2) E
def Binds(K:Frag)(fd:FuncData)(ps:List Str)(ds:List Value):Prop :=
 ∀(s:Shared) (us:List Value),K.In s.heap->(us++ds).length=ps.length->BindsTo s fd ⟨us,[]⟩ (ps.zip (us++ds))
theorem Binds.all{K:Frag}{fd:FuncData}{ps:List Str}(h:∀us:List Value,us.length=ps.length->bindArgs fd ⟨us,[]⟩=pure (ps.zip us)):Binds K fd ps []:=λs us _ hl=>by
 rw [List.append_nil] at hl ⊢
 exact .of_eq (h us hl)
def cU(CX:CXT)(X:Cx)(E:XK):Prop:=∀(pins:List (Addr×Obj)) (σ:St) (H:Hp) (s:Shared) (e:Value) (s':Shared),Inv X pins σ H s->CX X.stack H s E e s'->X.xe e s'
section
variable {X:Cx}{CX:CXT}{k:Nat}{f C:Addr}{fd:FuncData}{ps:List Str}{sp:Sp}{dvs:List V}{ds:List Value}{E:XK}{x m:Str}{p pos apos:Pos}{e o:Expr}{es:List Expr}{ta:TE}{t:TA}
theorem oE{b:List (Addr×Obj)}{σ:St}{H:Hp}{s:Shared}{Q:VK}{us:List Value}{vs:List V}(F:FnOk X.prog X.w X.K X.mg X.base CX k f fd ps sp)(l:Room k X.A)(m:Binds X.K fd ps ds)(o:Vals dvs ds)(q:cU CX X E)
  (I:Inv X b σ H s)(r:Vals vs us)(h:sp (vs++dvs) H Q E):wpAny (model X.prog X.w) X.A (call (.ref f) us) (EP X b σ Q) X.xe s:=by
 have g:Vals (vs++dvs) (us++ds):=r.append o
 have i:(us++ds).length=ps.length:=by rw [← g.length];exact F.len _ _ _ _ h
 refine wpAny_call (codeAny_mono (F.run X.A X.stack s H ⟨us,[]⟩ (us++ds) (vs++dvs) Q E l I.env0 (m s us I.kIn i) g h) λr j d=>?_)
 cases r with
 | error e=>exact q b σ H s e j I d
 | ok fl =>
  cases fl with
  | ret u=>exact I.after d
  | next=>exact False.elim d
  | brk=>exact False.elim d
  | cont=>exact False.elim d
theorem sk(F:FnOk X.prog X.w X.K X.mg X.base CX k f fd ps sp)(j:Room k X.A)(l:Gl X x)(m:X.mg x=some (.ref f))(o:PySem.W.keepIn X.K (.ref f)=true)(u:Binds X.K fd ps ds)(y:Vals dvs ds)(z:cU CX X E)
  (C:PA X (e::es) t)(d:(x==("__debug__":Str))=false:=by decide)(D:starEach (e::es) X.env=(false,eval e X.env)::starEach es X.env:=by rfl)(g:(backTo pos (starEach es X.env)).any (·.1)=false:=by rfl) :
  PE X (.Call (.Name x p) (e::es) [] pos) (uM sp dvs E t):=by
 intro b s σ H Q I h
 refine wpAny_Call_Name_kw (i7 I l m ?_ d)
 refine PySem.W.callWith_K (h₀:=X.base) I.ok.mod.kin o (thn (C pos b s σ H _ I h) λG J ⟨vs,H1,i,r,q⟩=>⟨i.kIn,?_⟩) D g
 exact oE F j u y z i r q
theorem hV{pl:Sem Bool}(J:PE X o ta)(c:Cls X.K C)(y:gH X.K C m f)(F:FnOk X.prog X.w X.K X.mg X.base CX k f fd ps sp)(L:Room k X.A)(O:Binds X.K fd ps ds)(P:Vals dvs ds)(U:cU CX X E)(Y:PA X (e::es) t)
  (d:starEach (e::es) X.env=(false,eval e X.env)::starEach es X.env:=by rfl)(g:(backTo pos (starEach es X.env)).any (·.1)=false:=by rfl)
  (Z:eval (.Call (.Attribute o m apos) (e::es) [] pos) X.env=(do
   let ov ← eval o X.env
   standAt apos.atName
   let (f,first) ← holding [ov] (getMethod ov m pl)
   callWith pos f first (backTo pos (starEach (e::es) X.env)) (backToKw pos (keywordEach [] X.env))):=by rfl) :
  PE X (.Call (.Attribute o m apos) (e::es) [] pos) (rN C m sp dvs E ta t):=by
 intro b s σ H Q I h
 refine PySem.W.methodCall_KW (pl:=pl) (thn (J b s σ H _ I h) λu z ⟨x,H1,i,D,a,dx,fs,ex,G,l,q⟩=>?_) Z
 subst ex
 obtain rfl:u=Value.ref a:=D
 refine iE i G c y l ?_
 refine PySem.W.callWith_K (first:=[.ref a]) (h₀:=X.base) I.ok.mod.kin y.kp (thn (Y pos b z σ H1 _ i q) λus s2 ⟨vs,H2,j,r,q2⟩=>⟨j.kIn,?_⟩) d g
 exact oE (us:=.ref a::us) (vs:=.ref a::vs) F L O P U j (.cons rfl r) q2
theorem iX{pl:Sem Bool}(j:PE X o ta)(c:Cls X.K C)(e:gH X.K C m f)(F:FnOk X.prog X.w X.K X.mg X.base CX k f fd ps sp)(r:Room k X.A)(y:Binds X.K fd ps ds)(z:Vals dvs ds)(D:cU CX X E)
  (G:eval (.Call (.Attribute o m apos) [] [] pos) X.env=(do
   let ov ← eval o X.env
   standAt apos.atName
   let (f,first) ← holding [ov] (getMethod ov m pl)
   callWith pos f first (backTo pos (starEach [] X.env)) (backToKw pos (keywordEach [] X.env))):=by rfl) :
  PE X (.Call (.Attribute o m apos) [] [] pos) (rN C m sp dvs E ta jY):=by
 intro b s σ H Q I h
 refine PySem.W.methodCall_KW (pl:=pl) (thn (j b s σ H _ I h) λu J ⟨x,H1,d,g,a,L,fs,ex,i,l,q⟩=>?_) G
 subst ex
 obtain rfl:u=Value.ref a:=g
 refine iE d i c e l ?_
 exact PySem.W.callWith_K0 (first:=[.ref a]) d.kIn e.kp (oE (us:=[.ref a]) (vs:=[.ref a]) F r y z D d (.cons rfl .nil) q)
structure Mk(K:Frag)(C f:Addr):Prop where
 makes:PySem.W.makesIn K C=true
 init:PySem.W.findIn K (.ref C) "__init__"=some (some (.ref f))
 fn:PySem.W.isFn K (.ref f)=true
 kp:PySem.W.keepIn K (.ref C)=true
theorem pI{d:List (Addr×Obj)}{σ:St}{H:Hp}{s:Shared}{Q:VK}{us:List Value}{vs:List V}(M:Mk X.K C f)(F:FnOk X.prog X.w X.K X.mg X.base CX k f fd ps sp)(D:Room (k+1) X.A)(G:Binds X.K fd ps ds)(J:Vals dvs ds)
  (L:cU CX X E)(I:Inv X d σ H s)(r:Vals vs us)
  (h:∀x dx,H x=none->H dx=none->dx≠x->sp (.ref x::(vs++dvs)) (upd (upd H dx (.own x)) x (.ins C dx [])) (λv H2=>v=.non/\Q (.ref x) H2) E) :
  wpAny (model X.prog X.w) X.A (call (.ref C) us) (EP X d σ Q) X.xe s:=by
 have i:=h (s.heap.objs.size+1) s.heap.objs.size (I.hok.fresh (Nat.le_succ _)) (I.hok.fresh (ι _)) (Φ (Nat.lt_succ_self _))
 have g:=Inv.made (C:=C) I
 have j:Vals (V.ref (s.heap.objs.size+1)::(vs++dvs)) (Value.ref (s.heap.objs.size+1)::(us++ds)):=.cons rfl (r.append J)
 have y:(Value.ref (s.heap.objs.size+1)::us++ds).length=ps.length:=by
  have e:=j.length
  rw [F.len _ _ _ _ i] at e
  exact e.symm
 refine wpAny_call (wA (f:=f) I.kIn M.makes M.init (beq_iff_eq.mp M.fn) (codeAny_mono (F.run _ X.stack _ _ ⟨Value.ref (s.heap.objs.size+1)::us,[]⟩ (Value.ref (s.heap.objs.size+1)::(us++ds)) _ _ E (D.make C us [])
  (g.env0.make C us []) (G _ (Value.ref (s.heap.objs.size+1)::us) g.kIn y) j i) λr z b=>?_))
 cases r with
 | error e=>exact L d σ _ _ e z g b
 | ok fl =>
  cases fl with
  | ret u =>
   obtain ⟨v,l,m,o,q,q3⟩:=g.after b
   subst q
   exact ⟨o,⟨V.ref (s.heap.objs.size+1),l,m,ϱ,q3⟩⟩
  | next=>exact False.elim b
  | brk=>exact False.elim b
  | cont=>exact False.elim b
theorem aY(M:Mk X.K C f)(F:FnOk X.prog X.w X.K X.mg X.base CX k f fd ps sp)(j:Room (k+1) X.A)(l:Gl X x)(m:X.mg x=some (.ref C))(o:Binds X.K fd ps ds)(u:Vals dvs ds)(y:cU CX X E)
  (z:PA X (e::es) t)(d:(x==("__debug__":Str))=false:=by decide)(D:starEach (e::es) X.env=(false,eval e X.env)::starEach es X.env:=by rfl)(g:(backTo pos (starEach es X.env)).any (·.1)=false:=by rfl) :
  PE X (.Call (.Name x p) (e::es) [] pos) (zm C sp dvs E t):=by
 intro b s σ H Q I h
 refine wpAny_Call_Name_kw (i7 I l m ?_ d)
 refine PySem.W.callWith_K (h₀:=X.base) I.ok.mod.kin M.kp (thn (z pos b s σ H _ I h) λG J ⟨vs,H1,i,r,q⟩=>⟨i.kIn,?_⟩) D g
 exact pI M F j o u y i r q
theorem vt(M:Mk X.K C f)(F:FnOk X.prog X.w X.K X.mg X.base CX k f fd ps sp)(e:Room (k+1) X.A)(g:Gl X x)(i:X.mg x=some (.ref C))(j:Binds X.K fd ps ds)(l:Vals dvs ds)(m:cU CX X E)
  (b:(x==("__debug__":Str))=false:=by decide):PE X (.Call (.Name x p) [] [] pos) (zm C sp dvs E jY):=by
 intro d s σ H Q I h
 refine wpAny_Call_Name_kw (i7 I g i ?_ b)
 exact PySem.W.callWith_K0 I.kIn M.kp (pI (us:=[]) M F e j l m I .nil h)
end
structure ao(N P:List Str)(sc:Scope):Prop where
 kind:sc.kind=.function
 co:sc.isCoroutine=false
 gen:sc.isGenerator=false
 nd:N.Nodup
 pre:N.take P.length=P
 par:∀x∈P,sc.names.lookup x=some .local\/sc.names.lookup x=some .cell
 nofree:∀y∈sc.names,y.2≠.free
theorem nq{kindOf:Str->Option NameKind}{x:Str}:∀{binds:List (Str×Value)} {m:Str->Option Value},(∀v,(x,v)∉binds)->bindL kindOf binds m x=m x
 | [],_,_=>rfl
 | (n,v)::r,m,h=>by
  unfold bindL
  rw [nq λw hw=>h w (Θ _ hw)]
  split
  ·have:x≠n:=by rintro rfl;exact h v Ω
   simp [this]
  ·rfl
theorem ny{kindOf:Str->Option NameKind}{x:Str}:∀{binds:List (Str×Value)} {m:Str->Option Value},(∀v,(x,v)∉binds)->bindC kindOf binds m x=m x
 | [],_,_=>rfl
 | (n,v)::r,m,h=>by
  unfold bindC
  rw [ny λw hw=>h w (Θ _ hw)]
  split
  ·rfl
  ·have:x≠n:=by rintro rfl;exact h v Ω
   simp [this]
theorem nu{kindOf:Str->Option NameKind}{x:Str}{v:Value}:∀{P:List Str} {vs:List Value} {i:Nat} {m:Str->Option Value},P.Nodup->P[i]?=some x->vs[i]?=some v->kindOf x=some .local ->
  bindL kindOf (P.zip vs) m x=some v
 | [],_,_,_,_,h,_,_=>by simp at h
 | _::_,[],_,_,_,_,h,_=>by simp at h
 | p::P,w::vs,0,m,nd,h1,h2,hk=>by
  simp at h1 h2;subst h1;subst h2
  show bindL kindOf ((p,w)::P.zip vs) m p=_
  unfold bindL
  rw [nq λv hv=>(List.nodup_cons.mp nd).1 (List.of_mem_zip hv).1,if_pos hk]
  simp
 | p::P,w::vs,i+1,m,nd,h1,h2,hk=>by
  show bindL kindOf ((p,w)::P.zip vs) m x=_
  unfold bindL
  exact nu (i:=i) (List.nodup_cons.mp nd).2 (by simpa using h1) (by simpa using h2) hk
theorem nB{kindOf:Str->Option NameKind}{x:Str}{v:Value}:∀{P:List Str} {vs:List Value} {i:Nat} {m:Str->Option Value},P.Nodup->P[i]?=some x->vs[i]?=some v->kindOf x≠some .local ->
  bindC kindOf (P.zip vs) m x=some v
 | [],_,_,_,_,h,_,_=>by simp at h
 | _::_,[],_,_,_,_,h,_=>by simp at h
 | p::P,w::vs,0,m,nd,h1,h2,hk=>by
  simp at h1 h2;subst h1;subst h2
  show bindC kindOf ((p,w)::P.zip vs) m p=_
  unfold bindC
  rw [ny λv hv=>(List.nodup_cons.mp nd).1 (List.of_mem_zip hv).1,if_neg hk]
  simp
 | p::P,w::vs,i+1,m,nd,h1,h2,hk=>by
  show bindC kindOf ((p,w)::P.zip vs) m x=_
  unfold bindC
  exact nB (i:=i) (List.nodup_cons.mp nd).2 (by simpa using h1) (by simpa using h2) hk
def start(N:List Str)(vs:List V):St:=vs.map some++List.replicate (N.length-vs.length) none
def rm(CX:CXT)(P:Program)(w:World)(K:Frag)(mg:Str->Option Value)(base:Heap)(N:List Str)(qual:Str)(scope:Scope)(f:Addr)(cd:Value)(A:Around)(outer:List Env)(s:Shared)(H:Hp)(E:XK):Cx where
 prog:=P
 w:=w
 K:=K
 mg:=mg
 base:=base
 A:=A.deeper (envOfC qual scope s.heap.objs.size f cd)
 N:=N
 s₀:=s
 H₀:=H
 env:=envOfC qual scope s.heap.objs.size f cd
 outer:=outer
 stack:=envOfC qual scope s.heap.objs.size f cd::outer
 ex:=[]
 calm:=true
 fn:=λ_=>true
 pn:=[]
 xe:=λe s'=>wpAny (model P w) (A.deeper (envOfC qual scope s.heap.objs.size f cd)) (leaving (envOfC qual scope s.heap.objs.size f cd) e) (λ_ s''=>CX outer H s E e s'') (λe' s''=>CX outer H s E e' s'') s'
theorem qg{b:Scope}{n:Nat}{x:Str}(h:b.names.lookup x=some .cell):∃c,(cellsFrom n b.names []).lookup x=some c:=by
 have q:=PySem.W.cellsFrom_some b.names n [] (.inl h)
 exact Option.isSome_iff_exists.mp q
theorem ua{I:CXT}{P:Program}{w:World}{K:Frag}{mg:Str->Option Value}{base:Heap}{N ps:List Str}{g:Str}{scope:Scope}{f:Addr}{D:Value}{A:Around}{d:List Env}{s s1:Shared}{H:Hp}{E:XK}{us:List Value}{vs:List V}
  (S:ao N ps scope)(Q:A.handled=none)(e0:Env0 P w K mg base A d s H)(X:vs.length=ps.length)(r:Vals vs us)
  (x:InCallC s s.heap.objs.size (bindL (envOfC g scope s.heap.objs.size f D).kindOf (ps.zip us) λ_=>none) (cellsFrom (s.heap.objs.size+1) scope.names []) (bindC (envOfC g scope s.heap.objs.size f D).kindOf (ps.zip us) λ_=>none) s1) :
  Inv (rm I P w K mg base N g scope f D A d s H E) [] (start N vs) H s1:=by
 have L:ps.length<=N.length:=by have:=congrArg List.length S.pre;rw [List.length_take] at this;omega
 obtain ⟨h1,U,rfl,F⟩:=x.done
 have l:∀b:Addr,b∉(rm I P w K mg base N g scope f D A d s H E).ex:=λb z=>absurd (show b∈([]:List Addr) from z) (by simp)
 refine ⟨⟨e0.mod,S.kind,ϱ,ϱ,ι _,λy z c h1 j=>?_,λy hy=>?_,λy c _ h=>?_,λ_=>Q,Around.frames_deeper e0.frames,.inr ⟨ϱ,ϱ⟩,λb z=>absurd z (l b),e0.bs,e0.bsz,λb _ _=>l b,λb z=>absurd z (l b),e0.funs,e0.frf⟩,
  rfl,e0.bare,Un.kept F,⟨_,x.toInCall.ns,λi y v h1 j W=>?_⟩,λy c h=>⟨_,x.cell y c h⟩,e0.hok.fresh (Nat.le_refl _),λy c h=>?_,λp m=>absurd (show p∈([]:List (Addr×Obj)) from m) (by simp),e0.hok.kept F,?_⟩
 ·exact name_of_addr x.apart (PySem.mem_of_lookup h1) (PySem.mem_of_lookup j)
 ·have hy:scope.names.lookup y=some .cell\/scope.names.lookup y=some .free:=hy
  rcases hy with hy | hy
  ·exact qg hy
  ·exact absurd rfl (S.nofree _ (PySem.mem_of_lookup hy))
 ·exact Nat.le_of_lt (x.above y c (PySem.mem_of_lookup h))
 ·have C:i<vs.length:=by
   unfold start at j
   by_cases C:i<vs.length
   ·exact C
   ·rw [List.getElem?_append_right (by simpa using C)] at j
    rw [List.getElem?_replicate] at j
    split at j<;>cases j
  have O:vs[i]?=some v:=by
   unfold start at j
   rw [List.getElem?_append_left (by simpa using C),List.getElem?_map] at j
   cases e:vs[i]? with
   | none=>rw [e] at j;cases j
   | some a=>rw [e] at j;cases j;rfl
  obtain ⟨u,G,J⟩:=r.get O
  have m:ps[i]?=some y:=by
   rw [← S.pre,List.getElem?_take_of_lt ω];exact h1
  have o:ps.Nodup:=by rw [← S.pre];exact S.nd.sublist (List.take_sublist _ _)
  refine ⟨u,J,?_⟩
  rcases S.par y (List.mem_of_getElem? m) with k | k
  ·exact .inl ⟨k,nu o m G k⟩
  ·obtain ⟨c,e⟩:=qg (n:=s.heap.objs.size+1) k
   refine .inr ⟨.inl k,c,e,?_⟩
   have q:=x.cell y c e
   rw [nB o m G (by show scope.names.lookup y≠_;rw [k];decide)] at q
   exact q
 ·exact e0.hok.fresh (Nat.le_of_lt (x.above y c (PySem.mem_of_lookup h)))
 ·unfold start
  show _=N.length
  rw [List.length_append,ν,List.length_replicate]
  omega
theorem zH{G:CXT}{P:Program}{w:World}{K:Frag}{mg:Str->Option Value}{base:Heap}{k:Nat}{f:Addr}{name g:Str}{i:Arguments}{body:List Stmt}{scope:Scope}{dV kV D pm h ct oc:Value}{an od:Option Addr}
  {Y:Array (Option Value)}{N ps:List Str}{sp:Sp}(lk:K.lookup f=some ⟨oc,od,.func (PySem.W.fnOf name g i body scope dV kV D pm an h ct),Y⟩)(Z:PySem.W.codeIn K h g=true)(S:ao N ps scope)
  (len:∀vs H Q E,sp vs H Q E->vs.length=ps.length)
  (l:∀(A:Around) (d:List Env) (s:Shared) (H:Hp) (vs:List V) (Q:VK) (E:XK),Room k (A.deeper (envOfC g scope s.heap.objs.size f h))->sp vs H Q E ->
   ∃t,PSs (rm G P w K mg base N g scope f h A d s H E) body t/\t {nx:=λ_ H'=>Q .non H',rt:=Q} (start N vs) H) :
  FnOk P w K mg base G (k+1) f (PySem.W.fnOf name g i body scope dV kV D pm an h ct) ps sp:=by
 refine ⟨len,λA d s H a1 us vs Q E U e0 hb r C=>?_⟩
 have hl:=len _ _ _ _ C
 have KX:K.In s.heap:=e0.mod.kin.keeps λb o e=>(e0.bs b o e).1
 have O:s.heap.NoLimit:=e0.mod.nolimit.keeps λb o e=>(e0.bs b o e).1
 have j:∀y∈ps.zip us,scope.names.lookup y.1=some .local\/(scope.names.lookup y.1=some .cell/\((cellsFrom (s.heap.objs.size+1) scope.names []).lookup y.1).isSome=true):=λ⟨n,v⟩ hy=>by
  rcases S.par n (List.of_mem_zip hy).1 with q | q
  ·exact .inl q
  ·exact .inr ⟨q,PySem.W.cellsFrom_some _ _ _ (.inl q)⟩
 refine codeAny_call_function U.depth (KX _ _ lk) rfl S.co S.gen rfl (PySem.W.codeRec_of KX Z) (hb _ _ _ _ ?_)
 refine wpAny_newFunctionEnv_cells S.kind j λar he s1 x=>?_
 subst he
 refine ⟨O.keeps x.toInCall.keep,codeAny_func ?_⟩
 obtain ⟨t,ht,hq⟩:=l A d s H vs Q E (U.deeper _) C
 have I:Inv (rm G P w K mg base N g scope f h A d s H E) [] (start N vs) H s1:=ua S U.hd e0 hl r x
 refine wpAny_mono (ht [] s1 (start N vs) H _ I hq) (λfl X m=>?_) λe X m=>m
 have z:∀{F:St} {H':Hp} {v:V} {u:Value},Inv (rm G P w K mg base N g scope f h A d s H E) [] F H' X->RelV v u->Q v H'->CE d P w H s Q u X :=
  λ{F H' v u} J L q=>⟨v,H',J.os,J.bare,J.base,J.hok,L,q⟩
 cases fl with
 | ret u =>
  obtain ⟨v,F,H',J,L,q⟩:=m
  exact z J L q
 | next =>
  obtain ⟨F,H',J,q⟩:=m
  exact z (v:=V.non) (u:=Value.none) J rfl q
 | brk =>
  obtain ⟨_,_,_,q⟩:=m
  exact False.elim q
 | cont =>
  obtain ⟨_,_,_,q⟩:=m
  exact False.elim q
section
variable {X:Cx}{x:Str}{p pos:Pos}{e:Expr}{es:List Expr}{t:TA}{id T:String}{r:List V->Hp->VK->Prop}
def tCB(r:List V->Hp->VK->Prop)(t:TA):TE:=fun σ H Q=>t σ H λvs H1=>r vs H1 Q
theorem aK(m:cG X (.builtin id) r)(o:Gl X x)(q:X.mg x=none)(u:bootBuiltins x=some (.builtin id))(w:PA X (e::es) t)(y:x≠"__name__":=by decide)(d:(x==("__debug__":Str))=false:=by decide)
  (z:starEach (e::es) X.env=(false,eval e X.env)::starEach es X.env:=by rfl)(f:(backTo pos (starEach es X.env)).any (·.1)=false:=by rfl):PE X (.Call (.Name x p) (e::es) [] pos) (tCB r t):=by
 intro b s σ H Q I h
 refine wpAny_Call_Name_kw (lO I o q u ?_ y d)
 exact PyProof.Rows.callWith_builtin1 (thn (w pos b s σ H _ I h) λg i ⟨vs,H1,j,l,q1⟩=>m b i σ H1 vs g Q j l q1) z f
theorem aP(m:cG X (.type T) r)(o:Gl X x)(q:X.mg x=none)(u:bootBuiltins x=some (.type T))(w:PA X (e::es) t)(y:x≠"__name__":=by decide)(d:(x==("__debug__":Str))=false:=by decide)
  (z:starEach (e::es) X.env=(false,eval e X.env)::starEach es X.env:=by rfl)(f:(backTo pos (starEach es X.env)).any (·.1)=false:=by rfl):PE X (.Call (.Name x p) (e::es) [] pos) (tCB r t):=by
 intro b s σ H Q I h
 refine wpAny_Call_Name_kw (lO I o q u ?_ y d)
 exact PyProof.Rows.callWith_type1 (thn (w pos b s σ H _ I h) λg i ⟨vs,H1,j,l,q1⟩=>m b i σ H1 vs g Q j l q1) z f
end
end L2
namespace HT
open PySem PyProof.Rows
section
open PySem.SeqAt
open PySem.AutoSeq1 (wpAny_loadPart')
open PySem.MeetsSeq PySem.MeetsSeq2 PySem.MeetsSeq3
end
section
variable {prog:Program}{w:World}{A:Around}{E:Value->Shared->Prop}{s:Shared}
theorem zb{t b:Addr}{vs d:List Value}{Q:Value->Shared->Prop}(z:IsTup s.heap t vs.toArray)(C:IsTup s.heap b d.toArray)(y:vs≠[])
  (h1:d=[]->Q (.ref t) s)(D:d≠[]->Q (.ref s.heap.objs.size) {s with heap:=s.heap.push {cls:=.type "tuple",data:=.seq (vs++d).toArray}})
  (hsz:vs.length+d.length<=sizeLine):wpAny (model prog w) A (binaryOp .Add (.ref t) (.ref b)) Q E s:=by
 obtain ⟨⟨cls,dd,data,o⟩,l,q,n,r⟩:=id z
 obtain ⟨⟨u,g,m,h⟩,f,i,x,j⟩:=id C
 simp only at q r i j
 subst q r i j
 have e:vs.toArray++d.toArray=(vs++d).toArray:=by simp
 by_cases hw:d=[]
 ·exact concat_meets ⟨_,l,ϱ⟩ ⟨_,f,ϱ⟩ noFill_tuple_add seq_tuple_add PySem.F.slot_tuple_add PySem.F.entry_tuple_add (PySem.F.args_tuple_add_2 _ _)
   (tuple_addW1 t b vs.toArray d.toArray n x dd g o h (by simpa using y) (by simp [hw])) ⟨l,f,h1 hw⟩
 ·refine concat_meets ⟨_,l,ϱ⟩ ⟨_,f,ϱ⟩ noFill_tuple_add seq_tuple_add PySem.F.slot_tuple_add PySem.F.entry_tuple_add (PySem.F.args_tuple_add_2 _ _)
   (tuple_addW2 t b vs.toArray d.toArray n x dd g o h (by simpa using y) (by simpa using hw) (by rw [List.size_toArray,List.size_toArray];exact hsz)) ⟨l,f,?_⟩
  rw [e]
  exact D hw
def sIx(n d:Nat):Option Int->Nat
 | none=>d
 | some v=>if v<0 then (v+(n:Int)).toNat else min v.toNat n
end
end HT
namespace L2
open PySem PySem.Spec PyProof.Rows
abbrev TO:=St->Hp->(Option Int->Hp->Prop)->Prop
def PO(X:Cx)(e:Option Expr)(t:TO):Prop :=
 ∀(pins:List (Addr×Obj)) (s:Shared) (σ:St) (H:Hp) (Q:Option Int->Hp->Prop),Inv X pins σ H s->t σ H Q ->
  wpAny (model X.prog X.w) X.A (evalPart e X.env) (λu s'=>∃o H',Inv X pins σ H' s'/\IsPart u o/\Q o H') X.xe s
def Bn(t:TE):TO:=fun σ H Q=>t σ H λx H1=>∃i,x=.int i/\Q (some i) H1
theorem lR{b:List Int}:∀{us:List Value},Vals (b.map V.int) us->IntsAre us b:=by
 induction b with
 | nil=>intro us r;rw [List.map_nil] at r;cases r;exact .nil
 | cons n b ih =>
  intro us r
  rw [List.map_cons] at r
  cases r with
  | cons r1 r2 =>
   obtain ⟨t,e⟩:=r1
   subst e
   exact .cons n t (ih r2)
section
variable {X:Cx}{e:Expr}{te:TE}{lo hi:Option Expr}{tl th:TO}{pos p2:Pos}
theorem hU(h:PE X e te):PO X (some e) (Bn te):=by
 intro b s σ H Q I g
 rw [evalPart_some]
 refine thn (h b s σ H _ I g) λu j ⟨x,H1,d,f,q1⟩=>?_
 obtain ⟨i,rfl,q⟩:=q1
 obtain ⟨t,rfl⟩:=f
 exact ⟨some i,H1,d,.int i t,q⟩
def SlR(X:Cx)(r:V->Option Int->Option Int->Hp->VK->Prop):Prop :=
 ∀(pins:List (Addr×Obj)) (s:Shared) (σ:St) (H:Hp) (x:V) (v vl vu:Value) (lo hi:Option Int) (sl:Addr) (Q:VK),Inv X pins σ H s->RelV x v->s.heap.IsSliceOf sl vl vu .none->IsPart vl lo->IsPart vu hi->r x lo hi H Q ->
  ∃T id,typeLookup (.type T) "__getitem__"=pure (some (.builtin id))/\s.TypeIs v T/\wpAny (model X.prog X.w) X.A (getItem v (.ref sl)) (EP X pins σ Q) X.xe s
def tSl(r:V->Option Int->Option Int->Hp->VK->Prop)(te:TE)(tl th:TO):TE:=fun σ H Q=>te σ H λx H1=>tl σ H1 λl H2=>th σ H2 λu H3=>r x l u H3 Q
theorem lD{r:V->Option Int->Option Int->Hp->VK->Prop}(U:SlR X r)(W:PE X e te)(Y:PO X lo tl)(Z:PO X hi th):PE X (.Subscript e (.Slice lo hi none p2) pos) (tSl r te tl th):=by
 intro d s σ H Q I h
 refine Subscript_ (thn (W d s σ H _ I h) λv C ⟨x,H1,D,F,q1⟩=>?_)
 refine wpAny_Slice (thn (Y d C σ H1 _ D q1) λg G ⟨l,J,K,L,q2⟩=>thn (Z d G σ J _ K q2) λi f ⟨u,j,O,P,q3⟩=>?_)
 rw [evalPart_none]
 refine π ?_
 have z:Inv X d σ j {f with heap:=f.heap.push {cls:=.type "slice",data:=.fields #[g,i,.none]}}:=O.kept (t':=f.toks) λb ob q=>ρ _ q
 obtain ⟨T,id,m,o,y⟩:=U d {f with heap:=f.heap.push {cls:=.type "slice",data:=.fields #[g,i,.none]}} σ j x v g i l u f.heap.objs.size Q z F (Heap.IsSliceOf.new ..) L P q3
 show wpAny (model X.prog X.w) X.A (subscriptTail e (.Slice lo hi none p2) v (.ref f.heap.objs.size)) (EP X d σ Q) X.xe {f with heap:=f.heap.push {cls:=.type "slice",data:=.fields #[g,i,.none]}}
 exact tail_any (ops:=[.ref f.heap.objs.size,v]) o m y (by with_unfolding_all rfl)
def qf(xs:List V)(lo hi:Option Int):List V:=(xs.drop (HT.sIx xs.length 0 lo)).take (HT.sIx xs.length xs.length hi-HT.sIx xs.length 0 lo)
theorem qe(xs:List V)(lo hi:Option Int):(qf xs lo hi).length<=xs.length:=by
 unfold qf
 rw [List.length_take,List.length_drop]
 omega
def zt(K:Frag):R2:=λx y H Q=>∃a b xs ys,x=.ref a/\y=.ref b/\SqT K H a xs/\SqT K H b ys/\xs≠[]/\xs.length+ys.length<=sizeLine /\
 (ys=[]->Q (.ref a) H)/\(ys≠[]->∀p,H p=none->Q (.ref p) (upd H p (.tup (xs++ys))))
theorem Vals.nil_iff{xs:List V}{us:List Value}(r:Vals xs us):us=[]↔xs=[]:=by
 cases r with
 | nil=>simp
 | cons _ _=>simp
theorem yl:OpR X (binaryOp .Add) (zt X.K):=by
 intro i s σ H x y v u Q I G J h
 obtain ⟨a,b,j,l,rfl,rfl,m,r,C,f,q1,q2⟩:=h
 cases G
 cases J
 obtain ⟨D,e,F,_⟩:=I.tuple m
 obtain ⟨g,d,p2,_⟩:=I.tuple r
 refine HT.zb F p2 (λz=>C (e.nil_iff.mp z)) (λz=>⟨.ref a,H,I,ϱ,q1 (d.nil_iff.mp z)⟩) (λz=>?_) (by rw [← e.length,← d.length];exact f)
 refine ⟨.ref s.heap.objs.size,_,I.laid (t':=s.toks) (o:=.tup (j++l)) (λb L q=>ρ _ q) (ι _) ?_,ϱ,q2 (λw=>z (d.nil_iff.mpr w)) _ (I.hok.fresh (ι _))⟩
 exact ⟨by rw [List.length_append];exact f,_,e.append d,IsTup.new _ _⟩
end
def ixN(n:Nat)(i:Int):Option Nat:=if 0<=i then (if i<n then some i.toNat else none) else if -(n:Int)<=i then some (i+n).toNat else none
def atI{α:Type}(xs:List α)(i:Int):Option α:=(ixN xs.length i).bind λj=>xs[j]?
theorem sD{n:Nat}{i:Int}{j:Nat}(h:ixN n i=some j):seqIndex? i n=some j/\j<n/\-(n:Int)<=i/\i<n:=by
 unfold ixN at h
 by_cases h0:0<=i
 ·rw [if_pos h0] at h
  by_cases h1:i<n
  ·rw [if_pos h1] at h
   have e:i.toNat=j:=Δ h
   exact ⟨by rw [seqIndex_of h0 h1,e],ω,ω,h1⟩
  ·rw [if_neg h1] at h;cases h
 ·rw [if_neg h0] at h
  by_cases h1:-(n:Int)<=i
  ·rw [if_pos h1] at h
   have e:(i+n).toNat=j:=Δ h
   exact ⟨by rw [seqIndex_neg ω h1,e],ω,h1,ω⟩
  ·rw [if_neg h1] at h;cases h
theorem pd{α:Type}{xs:List α}{i:Int}{v:α}(h:atI xs i=some v):∃j,seqIndex? i xs.length=some j/\xs[j]?=some v/\j<xs.length/\-(xs.length:Int)<=i/\i<xs.length:=by
 unfold atI at h
 cases e:ixN xs.length i with
 | none=>rw [e] at h;cases h
 | some j =>
  rw [e] at h
  obtain ⟨h1,b,d,f⟩:=sD e
  exact ⟨j,h1,h,b,d,f⟩
theorem bb{α:Type}{xs:List α}{j:Nat}{v:α}(h:xs[j]?=some v):atI xs (j:Int)=some v:=by
 have b:j<xs.length:=(List.getElem?_eq_some_iff.mp h).1
 have e:ixN xs.length (j:Int)=some j:=by
  unfold ixN
  rw [if_pos ω,if_pos ω];simp
 unfold atI;rw [e];exact h
theorem xm{α:Type}(xs:List α)(v:α):atI (xs++[v]) (-1)=some v:=by
 have b:(xs++[v]).length=xs.length+1:=by simp
 have e:ixN (xs++[v]).length (-1)=some xs.length:=by
  unfold ixN
  rw [b,if_neg ζ,if_pos ω]
  congr 1
  omega
 unfold atI
 rw [e]
 show (xs++[v])[xs.length]?=some v
 simp
def sR(b:Expr):Prop:=∀o i,subscripted b false o i=operate [o,i] (getItem o i)
def IxR(X:Cx)(r:R2):Prop :=
 ∀(value slice:Expr) (pins:List (Addr×Obj)) (s:Shared) (σ:St) (H:Hp) (x y:V) (v u:Value) (Q:VK),Inv X pins σ H s->RelV x v->RelV y u->r x y H Q ->
  subscripted slice false v u=operate [v,u] (getItem v u)->wpAny (model X.prog X.w) X.A (subscriptTail value slice v u) (EP X pins σ Q) X.xe s
def MtR(X:Cx)(id:String)(r:V->List V->Hp->VK->Prop):Prop :=
 ∀(pins:List (Addr×Obj)) (s:Shared) (σ:St) (H:Hp) (x:V) (xs:List V) (v:Value) (us:List Value) (Q:VK),Inv X pins σ H s->RelV x v->Vals xs us->r x xs H Q ->
  wpAny (model X.prog X.w) X.A (call (.builtin id) (v::us)) (EP X pins σ Q) X.xe s
section
variable {X:Cx}{a b:Expr}{ta tb:TE}{pos:Pos}
theorem az{r:R2}(l:IxR X r)(m:PE X a ta)(o:PE X b tb)(w:sR b):PE X (.Subscript a b pos) (tOp r ta tb):=by
 intro d s σ H Q I h
 exact Subscript_ (A6 m o I h λv u e x y f g i j q=>l a b d e σ f x y v u Q g i j q (w _ _))
inductive XXL (K:Frag) (x y:V) (H:Hp) (Q:VK):Prop|mk p xs i v:x=.ref p->y=.int i->SqL K H p xs->atI xs i=some v->Q v H->XXL K x y H Q
def bK(K:Frag):R2:=λx y H Q=>XXL K x y H Q
inductive XXT (K:Frag) (x y:V) (H:Hp) (Q:VK):Prop|mk p xs i v:x=.ref p->y=.int i->SqT K H p xs->atI xs i=some v->Q v H->XXT K x y H Q
def ba(K:Frag):R2:=λx y H Q=>XXT K x y H Q
def BI:R2:=λx y H Q=>∃z i c,x=.str z/\y=.int i/\z.length<=sizeLine/\atI z.cps.toList i=some c/\Q (.str ⟨#[c]⟩) H
theorem aE:IxR X (bK X.K):=by
 intro m o b s σ H x y v u Q I W Y h D
 obtain ⟨p,Z,i,z,rfl,rfl,F,G,q⟩:=h
 cases W
 obtain ⟨t,rfl⟩:=Y
 obtain ⟨e,r,f,hz⟩:=I.list F
 obtain ⟨j,h1,J,h3,L,O⟩:=pd G
 obtain ⟨w,C,g⟩:=r.get J
 have P:=r.length
 have hn:=jE
 have d:EP X b σ Q w s:=⟨z,H,I,g,q⟩
 by_cases h0:0<=i
 ·have l:i.toNat=j:=by
   rw [seqIndex_of h0 O] at h1
   exact Δ h1
  exact item_listR f.isList h0 ω (by rw [l];simpa using C) d D
 ·have l:(i+(e.toArray.size:Int)).toNat=j:=by
   rw [seqIndex_neg ω L] at h1
   rw [List.size_toArray,← P]
   exact Δ h1
  exact subscriptTail_builtinR (x:=w) f.isList.typeIs slot_list_getitem.lookup
   (wpAny_getItem_list_neg (Q:=λr U=>r=w/\EP X b σ Q r U) f.isList ω (by rw [List.size_toArray]<;>omega) ω (by rw [l];simpa using C) ⟨ϱ,d⟩) D
theorem aC:IxR X (ba X.K):=by
 intro f g b s σ H x y v u Q I L O h P
 obtain ⟨p,U,i,z,rfl,rfl,m,o,q⟩:=h
 cases L
 obtain ⟨t,rfl⟩:=O
 obtain ⟨C,r,l,W⟩:=I.tuple m
 obtain ⟨j,h1,D,Y,Z,h5⟩:=pd o
 obtain ⟨w,F,d⟩:=r.get D
 have G:=r.length
 have hn:=jE
 have e:EP X b σ Q w s:=⟨z,H,I,d,q⟩
 exact subscriptTail_builtinR (x:=w) l.typeIs slot_tuple_getitem.lookup
  (getItem_tuple (j:=j) (Q:=λr J=>r=w/\EP X b σ Q r J) l ω ω (by rw [List.size_toArray,← G];exact h1) (by simpa using F) ⟨ϱ,e⟩) P
theorem wF:IxR X BI:=by
 intro b d e s σ H x y v u Q I C D h F
 obtain ⟨z,i,c,rfl,rfl,G,f,q⟩:=h
 obtain ⟨t,rfl⟩:=C
 obtain ⟨J,rfl⟩:=D
 obtain ⟨j,h1,g,K,l,m⟩:=pd f
 have o:z.cps.toList.length=z.length:=by simp [Str.length]
 rw [o] at h1 l m
 have L:=jE
 exact tail_any (typeIs_str s z t) slot_str_getitem.lookup (getItem_str (c:=c) (by
  have r:decide (i < -(2 ^ 63:Int))=false:=Γ ω
  have w:decide (i≥2 ^ 63)=false:=Γ ω
  rw [r,w,Bool.or_false]) (by rw [h1];simpa using g) ⟨.str ⟨#[c]⟩,H,I.tok _,⟨_,ϱ⟩,q⟩) F
theorem qW(b:List Value)(n j:Nat)(u:Value):Obj.mapSeq (·.setIfInBounds j u) {cls:=.type "list",data:=.seq b.toArray n}={cls:=.type "list",data:=.seq (b.set j u).toArray n}:=by
 simp [Obj.mapSeq]
theorem Inv.lst{d:List (Addr×Obj)}{σ:St}{H:Hp}{s:Shared}{p:Addr}{xs:List V}(I:Inv X d σ H s)(h:H p=some (.lst xs)) :
  ∃(b:List Value) (n:Nat),Vals xs b/\s.heap.get? p=some {cls:=.type "list",data:=.seq b.toArray n}/\xs.length<=sizeLine:=by
 obtain ⟨z,b,n,r,e⟩:=I.hok p _ h
 exact ⟨b,n,r,e,z⟩
theorem Inv.lstUpd{d:List (Addr×Obj)}{σ:St}{H:Hp}{s:Shared}{p:Addr}{xs ys:List V}{g its':List Value}{n i:Nat}{f:Obj->Obj}(I:Inv X d σ H s)(h:H p=some (.lst xs))
  (l:s.heap.get? p=some {cls:=.type "list",data:=.seq g.toArray n})(hf:f {cls:=.type "list",data:=.seq g.toArray n}={cls:=.type "list",data:=.seq its'.toArray i})(r:Vals ys its')(hz:ys.length<=sizeLine)(t:Nat) :
  Inv X d σ (upd H p (.lst ys)) {s with heap:=s.heap.update p f,toks:=t}:=by
 have e:(s.heap.update p f).get? p=some {cls:=.type "list",data:=.seq its'.toArray i}:=by
  rw [Heap.get?_update_self f l (by rw [hf]<;>rfl),hf]
 refine I.write (x:=p) (e:=p) (by rw [h];trivial) (.inl rfl) (λb u j q=>(Heap.get?_update_other _ _ (Ne.symm j)).trans q) ⟨_,e⟩ ?_
 exact ⟨hz,its',i,r,e⟩
def BH:V->V->V->Hp->(Hp->Prop)->Prop:=λo i v H Q=>∃p xs k j,o=.ref p/\i=.int k/\H p=some (.lst xs)/\ixN xs.length k=some j/\Q (upd H p (.lst (xs.set j v)))
theorem pF:B4 X BH:=by
 intro d s σ H o i v L O u Q I D F G h
 obtain ⟨p,y,k,j,rfl,rfl,l,z,q⟩:=h
 cases D
 obtain ⟨t,rfl⟩:=F
 obtain ⟨b,n,r,e,C⟩:=I.lst l
 obtain ⟨h1,J,m,w⟩:=sD z
 have f:=r.length
 have K:=jE
 have x:Inv X d σ (upd H p (.lst (y.set j v))) {s with heap:=s.heap.update p (Obj.mapSeq (·.setIfInBounds j u))} :=
  I.lstUpd l e (qW b n j u) (r.set G j) (by rw [List.length_set];exact C) s.toks
 by_cases h0:0<=k
 ·have g:k.toNat=j:=by
   rw [seqIndex_of h0 w] at h1
   exact Δ h1
  exact PySem.W.ki_setAt e h0 ω (by rw [List.size_toArray,← f];exact w) (by rw [g];exact ⟨_,x,q⟩)
 ·have g:(k+(b.toArray.size:Int)).toNat=j:=by
   rw [seqIndex_neg ω m] at h1
   rw [List.size_toArray,← f]
   exact Δ h1
  exact PySem.W.ki_setBack e ω (by rw [List.size_toArray,← f];exact m) ω (by rw [g];exact ⟨_,x,q⟩)
theorem oo(lo b:Option Int)(n:Nat):(sliceBounds lo b none n).1=((HT.sIx n 0 lo:Nat):Int)/\(sliceBounds lo b none n).2.1=((HT.sIx n n b:Nat):Int)/\(sliceBounds lo b none n).2.2=1:=by
 refine ⟨?_,?_,ϱ⟩
 ·cases lo with
  | none=>simp [sliceBounds,HT.sIx]
  | some i =>
   simp only [sliceBounds,HT.sIx,Option.getD_none,show (1:Int)>0 by decide,if_true]
   by_cases h:i<0
   ·simp only [h,if_true]<;>omega
   ·simp only [h,if_false]<;>omega
 ·cases b with
  | none=>simp [sliceBounds,HT.sIx]
  | some i =>
   simp only [sliceBounds,HT.sIx,Option.getD_none,show (1:Int)>0 by decide,if_true]
   by_cases h:i<0
   ·simp only [h,if_true]<;>omega
   ·simp only [h,if_false]<;>omega
theorem mj(b:List Value)(lo d:Option Int):slicePick b.toArray lo d none=((b.drop (HT.sIx b.length 0 lo)).take (HT.sIx b.length b.length d-HT.sIx b.length 0 lo)).toArray:=by
 obtain ⟨h1,e,f⟩:=oo lo d b.toArray.size
 unfold slicePick
 rw [h1,e,f]
 simp only [sliceRange_one,pick_run,List.size_toArray]<;>rfl
def Cc(K:Frag):V->Option Int->Option Int->Hp->VK->Prop:=λx lo hi H Q=>∃a xs,x=.ref a/\SqL K H a xs/\∀p,H p=none->Q (.ref p) (upd H p (.lst (qf xs lo hi)))
theorem xR:SlR X (Cc X.K):=by
 intro i s σ H x v D F lo f G Q I u w y z h
 obtain ⟨a,d,rfl,j,q⟩:=h
 cases u
 obtain ⟨l,r,g,m⟩:=I.list j
 have e:=r.length
 refine ⟨"list",_,slot_list_getitem.lookup,g.isList.typeIs,?_⟩
 refine wpAny_getItem_list_slice g.isList w y z .none (by simp) ?_ (by rw [List.size_toArray]<;>omega)
 rw [mj,← e]
 refine ⟨.ref s.heap.objs.size,_,I.laid (t':=s.toks) (o:=.lst (qf d lo f)) (λb C q=>ρ _ q) (ι _) ?_,ϱ,q _ (I.hok.fresh (ι _))⟩
 exact ⟨Λ (qe d lo f) m,_,0,(r.drop (HT.sIx d.length 0 lo)).take (HT.sIx d.length d.length f-HT.sIx d.length 0 lo),ψ _ rfl⟩
def mZ:V->Bool
 | .non=>true
 | .bl _=>true
 | .int _=>true
 | .str _=>true
 | _=>false
def eqV:V->V->Bool
 | .non,.non=>true
 | .bl a,.bl b=>a==b
 | .bl a,.int b=>(if a then 1 else 0)==b
 | .int a,.bl b=>a==(if b then 1 else 0)
 | .int a,.int b=>a==b
 | .str a,.str b=>a==b
 | _,_=>false
theorem AZ{A:Around}{s:Shared}{y x:V}{u v:Value}(f:RelV y u)(d:RelV x v)(h:mZ y=true)(g:mZ x=true):SeqAt.EqAt A s u v (eqV y x):=by
 cases y with
 | non =>
  cases f
  cases x with
  | non=>cases d;exact SeqAt.EqAt.same _
  | bl b=>cases d;exact SeqAt.EqAt.none_bool b
  | int b=>obtain ⟨t,rfl⟩:=d;exact SeqAt.EqAt.none_int b t
  | str b=>obtain ⟨t,rfl⟩:=d;exact SeqAt.EqAt.none_str b t
  | _=>exact absurd (show false=true from g) Bool.false_ne_true
 | bl a =>
  cases f
  cases x with
  | non=>cases d;exact SeqAt.EqAt.bool_none a
  | bl b=>cases d;exact SeqAt.EqAt.bool_bool a b
  | int b=>obtain ⟨t,rfl⟩:=d;exact SeqAt.EqAt.bool_int a b t
  | str b=>obtain ⟨t,rfl⟩:=d;exact SeqAt.EqAt.bool_str a b t
  | _=>exact absurd (show false=true from g) Bool.false_ne_true
 | int a =>
  obtain ⟨e,rfl⟩:=f
  cases x with
  | non=>cases d;exact SeqAt.EqAt.int_none a e
  | bl b=>cases d;exact SeqAt.EqAt.int_bool a e b
  | int b=>obtain ⟨t,rfl⟩:=d;exact SeqAt.EqAt.int_int a e b t
  | str b=>obtain ⟨t,rfl⟩:=d;exact SeqAt.EqAt.int_str a e b t
  | _=>exact absurd (show false=true from g) Bool.false_ne_true
 | str a =>
  obtain ⟨e,rfl⟩:=f
  cases x with
  | non=>cases d;exact SeqAt.EqAt.str_none a e
  | bl b=>cases d;exact SeqAt.EqAt.str_bool a e b
  | int b=>obtain ⟨t,rfl⟩:=d;exact SeqAt.EqAt.str_int a e b t
  | str b=>obtain ⟨t,rfl⟩:=d;exact SeqAt.EqAt.str_str a e b t
  | _=>exact absurd (show false=true from g) Bool.false_ne_true
 | _=>exact absurd (show false=true from h) Bool.false_ne_true
def eqU(x:V)(u:Value):Bool:=match u with
 | .none=>eqV .non x
 | .bool b=>eqV (.bl b) x
 | .int i _=>eqV (.int i) x
 | .str z _=>eqV (.str z) x
 | _=>false
theorem wQ{x y:V}{u:Value}(r:RelV y u)(f:mZ y=true):eqU x u=eqV y x:=by
 cases y with
 | non=>cases r;rfl
 | bl b=>cases r;rfl
 | int i=>obtain ⟨t,rfl⟩:=r;rfl
 | str z=>obtain ⟨t,rfl⟩:=r;rfl
 | _=>exact absurd (show false=true from f) Bool.false_ne_true
theorem pV{A:Around}{s:Shared}{x:V}{v:Value}(rx:RelV x v)(fx:mZ x=true):∀{xs:List V} {us:List Value},Vals xs us->xs.all mZ=true->∀u∈us,SeqAt.EqAt A s u v (eqU x u)
 | _,_,.nil,_=>λu hu=>by cases hu
 | y::xs,u::us,.cons r t,f=>λu' hu=>by
  rw [List.all_cons,Bool.and_eq_true] at f
  rcases ϕ.mp hu with rfl | hu
  ·rw [wQ r f.1];exact AZ r rx f.1 fx
  ·exact pV rx fx t f.2 u' hu
theorem bD:cG X (.builtin "len") (λxs H Q=>∃p ys,xs=[.ref p]/\(SqL X.K H p ys\/SqT X.K H p ys)/\Q (.int ys.length) H):=by
 intro g s σ H xs m Q I r h
 obtain ⟨p,ys,rfl,hq,q⟩:=h
 obtain ⟨u,rfl,i⟩:=cL r
 cases i
 have l:=jE
 rcases hq with hq | hq
 ·obtain ⟨d,e,f,j⟩:=I.list hq
  have b:=e.length
  exact Calls.call_len_list f.isList (by simp only [List.size_toArray]<;>omega) ⟨.int ys.length,H,I.tok _,⟨s.toks+1,by rw [List.size_toArray,b]⟩,q⟩
 ·obtain ⟨d,e,f,j⟩:=I.tuple hq
  have b:=e.length
  exact len_tuple f (by simp only [List.size_toArray]<;>omega) ⟨.int ys.length,H,I.tok _,⟨s.toks+1,by rw [List.size_toArray,b]⟩,q⟩
theorem bz:cG X (.builtin "len") (λxs H Q=>∃z,xs=[.str z]/\z.length<=sizeLine/\Q (.int z.length) H):=by
 intro b s σ H xs f Q I r h
 obtain ⟨z,rfl,d,q⟩:=h
 obtain ⟨u,rfl,t,rfl⟩:=cL r
 have e:=jE
 exact len_str ω ⟨.int z.length,H,I.tok _,⟨_,ϱ⟩,q⟩
theorem dQ:cG X (.type "list") (λxs H Q=>∃p ys,xs=[.ref p]/\(SqL X.K H p ys\/SqT X.K H p ys)/\∀l,H l=none->Q (.ref l) (upd H l (.lst ys))):=by
 intro y s σ H xs J Q I r h
 obtain ⟨p,ys,rfl,hq,q⟩:=h
 obtain ⟨u,rfl,G⟩:=cL r
 cases G
 have m:∀(d:List Value),Vals ys d->ys.length<=sizeLine->∀(f:Heap) (i:Nat),(∀b o',s.heap.get? b=some o'->f.get? b=some o') ->
   f.get? s.heap.objs.size=some {cls:=.type "list",dict:=none,data:=.seq d.toArray i,slots:=#[]}->EP X y σ Q (.ref s.heap.objs.size) {s with heap:=f}:=λd g j f i kp e =>
  ⟨.ref s.heap.objs.size,_,I.laid (t':=s.toks) kp (ι _) (show ObjOk X.prog X.w _ f _ (.lst ys) from ⟨j,d,i,g,e⟩),ϱ,q _ (I.hok.fresh (ι _))⟩
 rcases hq with hq | hq
 ·obtain ⟨d,g,z,j⟩:=I.list hq
  have x:=g.length
  obtain ⟨o,C,D,n,F⟩:=z.isList
  exact call_list_seq p (.inl rfl) C D F (λf i kp e=>m d g j f i kp e) (by simp only [List.size_toArray]<;>omega)
 ·obtain ⟨d,g,z,j⟩:=I.tuple hq
  have x:=g.length
  obtain ⟨o,C,D,n,F⟩:=z
  exact call_list_seq p (.inr rfl) C D F (λf i kp e=>m d g j f i kp e) (by simp only [List.size_toArray]<;>omega)
theorem cw:cG X (.type "tuple") (λxs H Q=>∃p ys,xs=[.ref p]/\((SqL X.K H p ys/\∀l,H l=none->Q (.ref l) (upd H l (.tup ys)))\/(SqT X.K H p ys/\Q (.ref p) H))):=by
 intro d s σ H xs D Q I r h
 obtain ⟨p,ys,rfl,h⟩:=h
 obtain ⟨u,rfl,z⟩:=cL r
 cases z
 rcases h with ⟨hq,q⟩ | ⟨hq,q⟩
 ·obtain ⟨f,i,j,m⟩:=I.list hq
  have x:=i.length
  refine call_tuple_list j.isList (λg kp=>?_) (by simp only [List.size_toArray]<;>omega)
  have y:Inv X d σ H {s with heap:=g}:=I.kept (t':=s.toks) kp
  have C:Inv X d σ (upd H g.objs.size (.tup ys)) {s with heap:=g.push {cls:=.type "tuple",data:=.seq f.toArray}} :=
   y.laid (t':=s.toks) (λb o e=>ρ _ e) (ι _) (show ObjOk X.prog X.w _ _ _ (.tup ys) from ⟨m,f,i,IsTup.new _ _⟩)
  exact ⟨.ref g.objs.size,_,C,ϱ,q _ (y.hok.fresh (ι _))⟩
 ·obtain ⟨f,i,j,m⟩:=I.tuple hq
  exact call_tuple_same j ⟨.ref p,H,I,ϱ,q⟩
def tyV(K:Frag)(T:String)(x:V)(H:Hp):Prop:=match x with
 | .str _=>T="str"
 | .int _=>T="int"
 | .ref p=>(T="list"/\∃xs,SqL K H p xs)\/(T="tuple"/\∃o,K.lookup p=some o/\o.cls=.type "tuple"/\o.dict=none) \/
   (T="dict"/\((∃kvs,H p=some (.dK kvs))\/∃kvs,H p=some (.dT kvs)))\/(T="set"/\∃S n,H p=some (.set S n))
 | _=>False
theorem uB{b:List (Addr×Obj)}{σ:St}{H:Hp}{s:Shared}{T:String}{x:V}{v:Value}(I:Inv X b σ H s)(r:RelV x v)(d:tyV X.K T x H) :
  s.TypeIs v T/\∀a,v=.ref a->∃ob,s.heap.get? a=some ob/\ob.dict=none:=by
 cases x with
 | str z =>
  obtain ⟨t,rfl⟩:=r
  cases (show T="str" from d)
  exact ⟨typeIs_str s z t,λ_ e=>nomatch e⟩
 | int i =>
  obtain ⟨t,rfl⟩:=r
  cases (show T="int" from d)
  exact ⟨typeIs_int s i t,λ_ e=>nomatch e⟩
 | ref p =>
  cases r
  rcases d with ⟨rfl,xs,hq⟩ | ⟨rfl,o,hk,hc,f⟩ | ⟨rfl,hk⟩ | ⟨rfl,S,n,hk⟩
  ·obtain ⟨j,_,h,_⟩:=I.list hq
   refine ⟨h.isList.typeIs,λa e=>?_⟩
   cases e
   obtain ⟨o,n,e,c,f,_⟩:=h
   exact ⟨o,e,f⟩
  ·refine ⟨⟨o,I.kIn p o hk,hc⟩,λa e=>?_⟩
   cases e
   exact ⟨o,I.kIn _ o hk,f⟩
  ·have z:∃o,s.heap.get? p=some o/\o.ExactDict:=by
    rcases hk with ⟨kvs,hk⟩ | ⟨kvs,hk⟩
    ·obtain ⟨_,_,_,_,o,_,_,e,ex,_⟩:=I.hok p _ hk
     exact ⟨o,e,ex⟩
    ·obtain ⟨_,_,_,_,o,_,_,e,ex,_⟩:=I.hok p _ hk
     exact ⟨o,e,ex⟩
   obtain ⟨o,e,ex⟩:=z
   refine ⟨⟨o,e,ex.1⟩,λa g=>?_⟩
   cases g
   exact ⟨o,e,ex.2.1⟩
  ·obtain ⟨o,_,_,_,e,ex,_⟩:=I.hok p _ hk
   refine ⟨⟨o,e,ex.1⟩,λa g=>?_⟩
   cases g
   exact ⟨o,e,ex.2.1⟩
 | _=>exact False.elim d
def Bv(K:Frag)(T:String)(r:V->List V->Hp->VK->Prop)(to:TE):TE:=fun σ H Q=>to σ H λx H1=>tyV K T x H1/\r x [] H1 Q
def tBM(K:Frag)(T:String)(r:V->List V->Hp->VK->Prop)(to:TE)(t:TA):TE:=fun σ H Q=>to σ H λx H1=>tyV K T x H1/\t σ H1 λxs H2=>r x xs H2 Q
variable {o e:Expr}{es:List Expr}{to:TE}{t:TA}{name:Str}{apos cpos:Pos}{T id:String}{r:V->List V->Hp->VK->Prop}
theorem Al(u:PlainAttrs T)(f:Slot T name id)(g:typeOf (.builtin id)=pure (.type "method_descriptor"))(w:MtR X id r)(y:PE X o to)
  (d:attributeBase o name X.env (eval o X.env)=eval o X.env:=by rfl)(e:(apos.endLine==cpos.line)=true:=by rfl):PE X (.Call (.Attribute o name apos) [] [] cpos) (Bv X.K T r to):=by
 intro b s σ H Q I h
 refine wpAny_Call_method0_late d e (thn (y b s σ H _ I h) λv m ⟨x,H1,i,j,q,q1⟩=>?_)
 obtain ⟨h1,l⟩:=uB i j q
 exact ⟨T,id,u,f,g,h1,l,Calls.callWith_builtin rfl (PySem.evalArgs_none (w b m σ H1 x [] v [] Q i j .nil q1))⟩
theorem gq(L:PlainAttrs T)(i:Slot T name id)(l:typeOf (.builtin id)=pure (.type "method_descriptor"))(O:MtR X id r)(P:PE X o to)(U:PA X (e::es) t)
  (f:attributeBase o name X.env (eval o X.env)=eval o X.env:=by rfl)
  (j:((backTo cpos (starEach (e::es) X.env)).all (λx=>!x.1)&&(backToKw cpos (keywordEach [] X.env)).all (λx=>x.1.isSome)
   && decide ((e::es).length+([]:List Keyword).length+(if ([]:List Keyword).isEmpty then 0 else 1)<30))=true:=by rfl)
  (g:(apos.endLine==cpos.line)=true:=by rfl) (W:starEach (e::es) X.env=(false,eval e X.env)::starEach es X.env:=by rfl) (d:(backTo cpos (starEach es X.env)).any (·.1)=false:=by rfl) :
  PE X (.Call (.Attribute o name apos) (e::es) [] cpos) (tBM X.K T r to t):=by
 intro b s σ H Q I h
 refine wpAny_Call_method_late f j g rfl (thn (P b s σ H _ I h) λv y ⟨x,H1,q,u,z,q1⟩=>?_)
 obtain ⟨h1,w⟩:=uB q u z
 refine ⟨T,id,L,i,l,h1,w,?_⟩
 have m:=U cpos b y σ H1 _ q q1
 rw [W] at m ⊢
 refine Calls.callWith_builtin (by show (false||(backTo cpos (starEach es X.env)).any (·.1))=false;rw [d]<;>rfl) (Calls.evalArgs_plain ?_)
 exact thn m λC D ⟨vs,F,G,J,q2⟩=>O b D σ F x vs v C Q G u J q2
end
def MtM(X:Cx)(id:String)(r:V->List V->Hp->VK->Prop):Prop :=
 ∀(pins:List (Addr×Obj)) (s:Shared) (σ:St) (H:Hp) (x:V) (xs:List V) (v:Value) (us:List Value) (Q:VK),Inv X pins σ H s->RelV x v->Vals xs us->r x xs H Q ->
  wpAny (model X.prog X.w) X.A (call (.builtin id) (v::us)) (EP X pins σ Q) X.xe s
theorem Vals.one:∀{x:V} {us:List Value},Vals [x] us->∃u,us=[u]/\RelV x u
 | _,_,.cons r .nil=>⟨_,rfl,r⟩
section
variable {X:Cx}{pins:List (Addr×Obj)}{σ:St}{H:Hp}{s:Shared}{l b:Addr}{xs ys zs:List V}
theorem Inv.lset{b its':List Value}{n:Nat}{f:Array Value->Array Value}{t':Nat}(I:Inv X pins σ H s)(h:H l=some (.lst xs))
  (e:s.heap.get? l=some {cls:=.type "list",data:=.seq b.toArray n})(hf:f b.toArray=its'.toArray)(i:Vals ys its')(hz:ys.length<=sizeLine) :
  Inv X pins σ (upd H l (.lst ys)) {s with heap:=s.heap.update l (Obj.mapSeq f),toks:=t'}:=by
 have q:=PySem.IsL.update e f
 rw [hf] at q
 refine I.write (x:=l) (e:=l) (by rw [h];exact trivial) (.inl rfl) (λj u d g=>(Heap.get?_update_other s.heap (Obj.mapSeq f) (Ne.symm d)).trans g) ⟨_,q⟩ ?_
 exact ⟨hz,its',_,i,q⟩
theorem Inv.lstM(I:Inv X pins σ H s)(d:H l=some (.lst xs)):xs.length<=sizeLine/\∃(b:List Value) (n:Nat),Vals xs b/\xs.length=b.length/\s.heap.get? l=some {cls:=.type "list",data:=.seq b.toArray n}:=by
 obtain ⟨z,b,n,r,e⟩:=I.hok l _ d
 exact ⟨z,b,n,r,r.length,e⟩
end
section
variable {X:Cx}
def yb:V->List V->Hp->VK->Prop:=λx vs H Q=>∃l xs y,x=.ref l/\vs=[y]/\H l=some (.lst xs)/\xs.length<sizeLine/\Q .non (upd H l (.lst (xs++[y])))
theorem h8:MtM X "list.append" yb:=by
 intro f s σ H x vs v C Q I i j h
 obtain ⟨l,m,y,rfl,rfl,d,o,q⟩:=h
 cases i
 obtain ⟨u,rfl,g⟩:=j.one
 obtain ⟨z,b,n,r,w,e⟩:=I.lstM d
 refine call_meets F.slot_list_append ⟨_,e,ϱ⟩ F.entry_list_append (F.args_list_append_2 _ _) (PySem.list_append l b.toArray n u (by rw [List.size_toArray];omega)) ⟨e,?_⟩
 refine ⟨.non,_,I.lset (its':=b++[u]) d e (by simp) (r.append (.cons g .nil)) ?_,ϱ,q⟩
 rw [List.length_append,List.length_singleton]
 omega
end
end L2
namespace Att
open PySem PySem.W PySem.Calls PyProof.Rows
theorem kl{P:Params}{h:Heap}:∀(d:List Int) (vs:List Value),WellAll P h vs (d.map WData.int)->IntsAre vs d:=by
 intro d
 induction d with
 | nil =>
  intro vs w
  rw [List.map_nil] at w
  cases w
  exact .nil
 | cons n d ih =>
  intro vs w
  rw [List.map_cons] at w
  cases w with
  | cons a b =>
   cases a
   exact .cons _ _ (ih _ b)
theorem tq{l:OpenLaw}{n:Nat}(y:l.most=some n){P:Params}{h:Heap}{args:List WData}{b:List Value}
  (e:l.row.toRowW.claim.pre args=true)(m:WellAll P h b args) :
  ∃a vs ns,b=[Value.ref a]/\args=[WData.list (ns.map WData.int)]/\h.get? a=some {cls:=.type "list",data:=.seq vs.toArray}/\IntsAre vs ns/\ns.length<=n:=by
 have j:WShape.hasAll [] args [.list .int]=true:=(pre_splitW e).1
 have o:l.pre.holds [] {args:=args}=true:=(pre_splitW e).2
 obtain ⟨d,r,rfl,h1,u⟩:=hasAllW_cons j
 obtain rfl:=hasAllW_nil u
 obtain ⟨z,rfl,w⟩:=hasW_list h1
 obtain ⟨ns,rfl⟩:=items_int w
 have f:ns.length<=n:=by
  unfold OpenLaw.pre at o
  have g:(WTm.not (.lt (.lit (.int (n:Int))) (.len (.arg 0)))).holds [] {args:=[.list (ns.map .int)]}=true:=by
   have g:=(holds_andW o).1
   rw [y] at g
   exact g
  have i:=condW_of g (w_not (w_lt w_lit (w_len_list (w_arg rfl))))
  rw [ν] at i
  refine Nat.le_of_not_lt λq=>?_
  have x:(n:Int)<((ns.length:Nat):Int):=by omega
  first
   | (rw [τ x] at i;exact absurd i ζ)
   | (simp at i;omega)
 cases m with
 | cons w1 w2 =>
  cases w2
  cases w1 with
  | list ho hall=>exact ⟨_,_,ns,rfl,rfl,ho,kl ns _ hall,f⟩
theorem tE(l:OpenLaw)(args:List WData):l.row.toRowW.claim.post args (.bool true) args=true :=
 postW_of (r:=l.row.toRowW) (X:=(true==true))
  (show WShape.has [] (.bool true) .bool=true by first | rfl | decide | simp [WShape.has,WShape.arms,WShape.armsAll])
  (show (WTm.eq .res (.lit (.bool true))).value [] {args:=args,res:=some (.bool true),after:=args}=some (.bool (true==true)) from w_eq_bool (w_res rfl) w_lit) rfl
theorem qk{l:OpenLaw}{n:Nat}{q:Program}{loose:List Str}{XP:(Str->Option Value)->Heap->Prop}{YP:World->Heap->Prop}{d:DefRec}
  (hn:l.most=some n)(H:d.params.defaults=[])
  (call:∀(w:World) (y b:Shared) (mg z:Str->Option Value) (j:Addr) (o:Obj) (pm x g:Value) (a:Addr) (vs:List Value) (u:List Int),
   Ground q loose [] XP w y mg z b.heap->YP w b.heap ->
   b.heap.get? j=some o->o.data=.func (docDef d.name d.params d.body d.scope pm x g)->b.heap.CodeRec x d.name->mg d.name=some (.ref j) ->
   b.heap.get? a=some {cls:=.type "list",data:=.seq vs.toArray}->IntsAre vs u->u.length<=n->b.gens=#[] ->
   codeAny (model l.prog w) callerA (.call (.ref j) ⟨[.ref a],[]⟩) (λr s'=>r=.ok (.ret (.bool true))/\OldK b.heap s'.heap/\s'.os=b.os/\AllBare s'.gens) b) :
  WalkO q loose XP YP l.row.toRowW d [] (λf vs=>PySem.call f vs):=by
 intro w y b mg z G Y j o pm x g X kV Z hd C I D hg J K as m L a2 F a3
 obtain rfl:X=.none:=Dflts.none I H
 obtain rfl:kV=.none:=Dflts.noKw I
 obtain ⟨a,vs,u,rfl,rfl,h,e,i⟩:=tq hn m F
 refine enter_call (codeAny_mono (call w y b mg z j o pm x g a vs u G Y Z (fd_plain hd) C D h e i hg) λr s' U=>?_)
 obtain ⟨rfl,O,P,Q⟩:=U
 exact ⟨.inl ⟨.bool true,.bool true,[],ϱ,λ_=>rfl,.bool true,tE l _,λ_=>⟨List.Pairwise.nil,λ_ W=>(nomatch W)⟩⟩,O,P,Q⟩
section
variable {prog:Program}{w:World}{A:Around}{E:Value->Shared->Prop}{s:Shared}{K:Frag}
def gS(h:Heap):Heap:={h with objs:=#[]}
theorem fW(h:Heap)(b:Addr):(gS h).get? b=none:=by
 cases e:(gS h).get? b with
 | none=>rfl
 | some o=>exact absurd (η e) (Nat.not_lt_zero _)
def iC(h:Heap)(L d:Addr):List (Addr×Obj):=(List.range h.objs.size).filterMap λa=>if a=L\/a=d then none else (h.get? a).map λo=>(a,o)
theorem mem_ledger{h:Heap}{L d a:Addr}{o:Obj}:(a,o)∈iC h L d↔a≠L/\a≠d/\h.get? a=some o:=by
 unfold iC
 rw [List.mem_filterMap]
 constructor
 ·rintro ⟨b,_,e⟩
  split at e
  ·cases e
  ·rename_i hb
   obtain ⟨l,f,g⟩:=Option.map_eq_some_iff.mp e
   cases g
   exact ⟨λq=>hb (.inl q),λq=>hb (.inr q),f⟩
 ·rintro ⟨i,j,f⟩
  refine ⟨a,List.mem_range.mpr (η f),?_⟩
  rw [if_neg (show ¬(a=L\/a=d) from λq=>q.elim i j),f]<;>rfl
theorem AY{h:Heap}{L:Addr}{m:Str->Option Value}(n:h.Ns L m):Fr (gS h) L h m :=
 ⟨n,λb o e=>(by rw [fW] at e;cases e),ϖ _⟩
end
end Att
namespace L2
open PySem PySem.Spec PyProof.Rows
theorem hE:∀{vs:List Value} {ns:List Int},IntsAre vs ns->Vals (ns.map V.int) vs
 | _,_,.nil=>.nil
 | _,_,.cons n t h=>.cons ⟨t,rfl⟩ (hE h)
def inClass(s:Stmt)(j:Nat):Stmt:=match s with
 | .ClassDef _ _ _ body _ _ _ _ _ _ _=>body.getD j (.Pass ⟨0,0,0,0⟩)
 | _=>.Pass ⟨0,0,0,0⟩
def defArgs(s:Stmt):Arguments:=match s with
 | .FunctionDef _ a _ _ _ _ _ _ _ _=>a
 | _=>{posonlyargs:=[],args:=[],vararg:=none,kwonlyargs:=[],kw_defaults:=[],kwarg:=none,defaults:=[]}
def defBody(s:Stmt):List Stmt:=match s with
 | .FunctionDef _ _ b _ _ _ _ _ _ _=>b
 | _=>[]
def defScope(s:Stmt):Scope:=match s with
 | .FunctionDef _ _ _ _ _ _ sc _ _ _=>sc
 | _=>{kind:=.function,names:=[],isGenerator:=false,isCoroutine:=false}
abbrev CX0:CXT:=λ_ _ _ _ _ _=>False
abbrev E0:XK:=λ_ _ _=>False
theorem a9{X:Cx}:cU CX0 X E0:=λ_ _ _ _ _ _ _ h=>h.elim
structure Fun(K:Frag)(x qual:Str)(st:Stmt)(f:Addr)(fd:FuncData):Prop where
 ex:∃(oc:Value) (od:Option Addr) (kV doc pm:Value) (an:Option Addr) (cdv ct:Value) (osl:Array (Option Value)),
  fd=PySem.W.fnOf x qual (defArgs st) (defBody st) (defScope st) .none kV doc pm an cdv ct/\K.lookup f=some ⟨oc,od,.func fd,osl⟩/\PySem.W.codeIn K cdv qual=true
 kp:PySem.W.keepIn K (.ref f)=true
section
variable {P:Program}{w:World}{K:Frag}{mg:Str->Option Value}{base:Heap}
theorem Fun.ok{x d:Str}{st:Stmt}{f:Addr}{l:FuncData}{N ps:List Str}{k:Nat}{sp:Sp}(F:Fun K x d st f l)(S:ao N ps (defScope st))(len:∀vs H Q E,sp vs H Q E->vs.length=ps.length)
  (g:∀(e:Value) (A:Around) (b:List Env) (s:Shared) (H:Hp) (vs:List V) (Q:VK) (E:XK),Room k (A.deeper (envOfC d (defScope st) s.heap.objs.size f e))->sp vs H Q E ->
   ∃t,PSs (rm CX0 P w K mg base N d (defScope st) f e A b s H E).nox (defBody st) t/\t {nx:=λ_ H'=>Q .non H',rt:=Q} (start N vs) H):FnOk P w K mg base CX0 (k+1) f l ps sp:=by
 obtain ⟨y,od,kV,m,pm,an,e,z,o,rfl,r,i⟩:=F.ex
 refine zH r i S len λA b s H vs Q E u j=>?_
 obtain ⟨t,h,q⟩:=g e A b s H vs Q E u j
 exact ⟨t,h.nox,q⟩
theorem Fun.binds{x b:Str}{st:Stmt}{f:Addr}{i:FuncData}{ps:List Str}(F:Fun K x b st f i)
  (h:∀(kV d pm:Value) (an:Option Addr) (e g:Value) (us:List Value),us.length=ps.length->bindArgs (PySem.W.fnOf x b (defArgs st) (defBody st) (defScope st) .none kV d pm an e g) ⟨us,[]⟩=pure (ps.zip us)):Binds K i ps []:=by
 obtain ⟨m,od,kV,d,pm,an,e,g,j,rfl,o,l⟩:=F.ex
 exact .all (h kV d pm an e g)
theorem wL{x qual:Str}{st:Stmt}{f:Addr}{oc:Value}{od an:Option Addr}{osl:Array (Option Value)}{kV doc pm cdv ct:Value}(l:K.lookup f=some ⟨oc,od,.func (PySem.W.fnOf x qual (defArgs st) (defBody st) (defScope st) .none kV doc pm an cdv ct),osl⟩)
  (c:PySem.W.codeIn K cdv qual=true)(k:PySem.W.keepIn K (.ref f)=true):Fun K x qual st f (PySem.W.fnOf x qual (defArgs st) (defBody st) (defScope st) .none kV doc pm an cdv ct):=⟨⟨oc,od,kV,doc,pm,an,cdv,ct,osl,ϱ,l,c⟩,k⟩
end
theorem dR{n:Nat}(h:n<=1000):n<sizeLine:=Nat.lt_of_le_of_lt h ζ
section
variable {X:Cx}
theorem pv(i:Nat){x:Str}{pos:Pos}(hN:X.N[i]?=some x:=by rfl)(hv:Vis X.env.scope x:=by first | exact Or.inl rfl | exact Or.inr (Or.inl rfl) | exact Or.inr (Or.inr rfl))(hd:(x==("__debug__":Str))=false:=by decide)
  (hcd:(x==("__classdict__":Str))=false:=by decide):PE X (.Name x pos) (qt i):=qO hN hv hd hcd
end
theorem aL{A B:Prop}(h:B):if false=true then A else B:=by
 rw [if_neg Bool.false_ne_true]
 exact h
theorem cj{A B:Prop}(h:A):if true=true then A else B:=by
 rw [if_pos rfl]
 exact h
theorem bx{c A B:Prop} [Decidable c](h1:c->A)(b:¬c->B):if c then A else B:=by
 by_cases h:c
 ·rw [if_pos h]
  exact h1 h
 ·rw [if_neg h]
  exact b h
theorem zB{c A B:Prop} [Decidable c](b:c)(h:B):if (!decide c)=true then A else B:=by
 rw [τ b]
 exact aL h
def Same(H H':Hp):Prop:=∀b o,H b=some o->H' b=some o
theorem Same.refl(H:Hp):Same H H:=λ_ _ h=>h
theorem Same.trans{H H1 H2:Hp}(a:Same H H1)(b:Same H1 H2):Same H H2:=λc o h=>b c o (a c o h)
theorem Same.free{H H':Hp}(e:Same H H'){l:Addr}(h:H' l=Option.none):H l=Option.none:=by
 cases q:H l with
 | none=>rfl
 | some o =>
  rw [e l o q] at h
  cases h
theorem Same.seq{K:Frag}{H H':Hp}{a:Addr}{xs:List V}(e:Same H H')(h:SqL K H a xs):SqL K H' a xs:=by
 rcases h with (h | ⟨o,h⟩) | h
 ·exact .inl (.inl (e _ _ h))
 ·exact .inl (.inr ⟨o,e _ _ h⟩)
 ·exact .inr h
end L2
section
set_option maxHeartbeats 0
open PySem PySem.W PyProof.Rows
lay_quick PySem.Challenge.pw_pactroom_k52_ready_and_up_again
namespace Q
noncomputable section
noncomputable abbrev vT:Value:=Value.bool true
noncomputable abbrev vF:Value:=Value.bool false
noncomputable abbrev A{α:Type}(l:List α):Array α:=Array.mk l
noncomputable abbrev E{α:Type}:Array α:=Array.mk []
noncomputable abbrev vn:Value:=Value.none
noncomputable abbrev vr(n:Nat):Value:=Value.ref n
noncomputable abbrev sr(n:Nat):Option Value:=some (Value.ref n)
noncomputable abbrev vi(a:Int)(n:Nat):Value:=Value.int a n
noncomputable abbrev vs(q:Str)(n:Nat):Value:=Value.str q n
noncomputable abbrev de(P:Params)(q:Str)(n:Nat)(v:Value):DictEntry:=DictEntry.mk (PyData.keyHash P q) (Value.str q n) v
noncomputable abbrev nd(o:Obj)(a b:BT):BT:=.node o a b
noncomputable abbrev l1(o:Obj):BT:=.node o .nil .nil
noncomputable abbrev S(l:List Nat):Str:=@Str.mk (Array.mk l)
abbrev q0:=S [60,109,111,100,117,108,101,62]
abbrev q1:=S [47,99,108,97,105,109,47,99,117,116,46,112,121]
abbrev q2:=S [95,95,109,97,105,110,95,95]
abbrev q3:=S [95,95,110,97,109,101,95,95]
abbrev q4:=S [112,97,99,116,114,111,111,109,46,115,116,101,112,115]
abbrev q5:=S [95,95,100,111,99,95,95]
abbrev q6:=S [95,95,112,97,99,107,97,103,101,95,95]
abbrev q7:=S [95,95,108,111,97,100,101,114,95,95]
abbrev q8:=S [95,95,115,112,101,99,95,95]
abbrev q9:=S [95,95,97,110,110,111,116,97,116,105,111,110,115,95,95]
abbrev q10:=S [95,95,98,117,105,108,116,105,110,115,95,95]
abbrev q11:=S [95,95,102,105,108,101,95,95]
abbrev q12:=S [95,95,99,97,99,104,101,100,95,95]
abbrev q13:=S [95,119,97,108,108]
abbrev q14:=S [82,65,78,75,83]
abbrev q15:=S [83,72,65,82,73,78,71]
abbrev q16:=S [76,111,99,107]
abbrev q17:=S [82,101,97,100]
abbrev q18:=S [77,101,97,110]
abbrev q19:=S [67,104,97,110,103,101]
abbrev q20:=S [108,111,99,107,95,111,102]
abbrev q21:=S [80,97,99,116,69,114,114,111,114]
abbrev q22:=S [78,111,84,104,105,110,103]
abbrev q23:=S [78,111,78,101,101,100]
abbrev q24:=S [87,97,105,116,105,110,103]
abbrev q25:=S [78,111,84,101,120,116]
abbrev q26:=S [76,111,99,107,115]
abbrev q27:=S [77,79,83,84,95,70,73,71,85,82,69,83,95,116,104,105,110,103,115]
abbrev q28:=S [77,79,83,84,95,83,73,71,78,83]
abbrev q29:=S [77,79,83,84,95,80,65,82,84,83]
abbrev q30:=S [77,79,83,84,95,68,69,69,80]
abbrev q31:=S [76,79,78,71,69,83,84]
abbrev q32:=S [66,76,65,78,75]
abbrev q33:=S [80,69,82,67,69,78,84]
abbrev q34:=S [84,73,76,68,69]
abbrev q35:=S [105,115,95,119,104,111,108,101]
abbrev q36:=S [114,101,97,100,95,116,104,105,110,103]
abbrev q37:=S [105,115,95,115,105,103,110]
abbrev q38:=S [82,101,97,100,101,114]
abbrev q39:=S [77,79,83,84,95,70,73,71,85,82,69,83,95,115,116,101,112,115]
abbrev q40:=S [83,72,65,80,69,83]
abbrev q41:=S [83,116,101,112]
abbrev q42:=S [67,101,108,108,83,116,101,112]
abbrev q43:=S [84,97,107,101,83,116,101,112]
abbrev q44:=S [77,101,97,110,83,116,101,112]
abbrev q45:=S [83,117,109,83,116,101,112]
abbrev q46:=S [71,105,118,101,83,116,101,112]
abbrev q47:=S [65,100,100,83,116,101,112]
abbrev q48:=S [107]
abbrev q49:=S [114,101,97,100]
abbrev q50:=S [109,101,97,110]
abbrev q51:=S [99,104,97,110,103,101]
abbrev q52:=S [95,95,109,111,100,117,108,101,95,95]
abbrev q53:=S [112,97,99,116,114,111,111,109,46,107,105,110,100,115]
abbrev q54:=S [95,95,113,117,97,108,110,97,109,101,95,95]
abbrev q55:=S [95,95,102,105,114,115,116,108,105,110,101,110,111,95,95]
abbrev q56:=S [95,95,105,110,105,116,95,95]
abbrev q57:=S [107,105,110,100]
abbrev q58:=S [98,101,115,105,100,101]
abbrev q59:=S [99,111,118,101,114,115]
abbrev q60:=S [116,111,108,100]
abbrev q61:=S [95,95,115,116,97,116,105,99,95,97,116,116,114,105,98,117,116,101,115,95,95]
abbrev q62:=S [115,101,108,102]
abbrev q63:=S [102,105,114,115,116]
abbrev q64:=S [108,97,115,116]
abbrev q65:=S [76,111,99,107,46,95,95,105,110,105,116,95,95]
abbrev q66:=S [76,111,99,107,46,107,105,110,100]
abbrev q67:=S [111,116,104,101,114]
abbrev q68:=S [97,112,97,114,116]
abbrev q69:=S [76,111,99,107,46,98,101,115,105,100,101]
abbrev q70:=S [119,105,116,104,105,110]
abbrev q71:=S [76,111,99,107,46,99,111,118,101,114,115]
abbrev q72:=S [76,111,99,107,46,116,111,108,100]
abbrev q73:=S [95,95,100,105,99,116,95,95]
abbrev q74:=S [95,95,119,101,97,107,114,101,102,95,95]
abbrev q75:=S [82,101,97,100,46,107,105,110,100]
abbrev q76:=S [77,101,97,110,46,107,105,110,100]
abbrev q77:=S [67,104,97,110,103,101,46,107,105,110,100]
abbrev q78:=S [112,97,99,116,114,111,111,109,46,101,114,114,111,114,115]
abbrev q79:=S [97,116]
abbrev q80:=S [78,111,84,101,120,116,46,95,95,105,110,105,116,95,95]
abbrev q81:=S [112,97,99,116,114,111,111,109,46,108,111,99,107,115]
abbrev q82:=S [97,115,107]
abbrev q83:=S [102,114,101,101]
abbrev q84:=S [115,116,97,110,100,115]
abbrev q85:=S [98,101,104,105,110,100]
abbrev q86:=S [104,101,108,100]
abbrev q87:=S [119,97,105,116,105,110,103]
abbrev q88:=S [104,105,110,100,101,114,101,114]
abbrev q89:=S [104,101,108,100,95,112,97,105,114,115]
abbrev q90:=S [119,97,105,116,105,110,103,95,112,97,105,114,115]
abbrev q91:=S [119,97,105,116,105,110,103,95,112,108,97,99,101]
abbrev q92:=S [76,111,99,107,115,46,95,95,105,110,105,116,95,95]
abbrev q93:=S [76,111,99,107,115,46,97,115,107]
abbrev q94:=S [76,111,99,107,115,46,102,114,101,101]
abbrev q95:=S [112]
abbrev q96:=S [108,111,99,107]
abbrev q97:=S [76,111,99,107,115,46,115,116,97,110,100,115]
abbrev q98:=S [112,108,97,99,101]
abbrev q99:=S [76,111,99,107,115,46,98,101,104,105,110,100]
abbrev q100:=S [76,111,99,107,115,46,104,101,108,100]
abbrev q101:=S [76,111,99,107,115,46,119,97,105,116,105,110,103]
abbrev q102:=S [112,97,105,114]
abbrev q103:=S [97,104,101,97,100]
abbrev q104:=S [76,111,99,107,115,46,104,105,110,100,101,114,101,114]
abbrev q105:=S [76,111,99,107,115,46,104,101,108,100,95,112,97,105,114,115]
abbrev q106:=S [76,111,99,107,115,46,119,97,105,116,105,110,103,95,112,97,105,114,115]
abbrev q107:=S [76,111,99,107,115,46,119,97,105,116,105,110,103,95,112,108,97,99,101]
abbrev q108:=S [112,97,105,114,115]
abbrev q109:=S [116,104,105,110,103]
abbrev q110:=S [112,97,99,116,114,111,111,109,46,116,104,105,110,103,115]
abbrev q111:=S [115,105,103,110]
abbrev q112:=S [110,117,109,98,101,114]
abbrev q113:=S [112,97,115,115,101,115]
abbrev q114:=S [114,101,97,100,95,97,110,121]
abbrev q115:=S [114,101,97,100,95,112,97,114,116,115]
abbrev q116:=S [114,101,97,100,95,98,101,108,111,119]
abbrev q117:=S [114,101,97,100,95,110,117,109,98,101,114]
abbrev q118:=S [114,101,97,100,95,115,105,103,110,115]
abbrev q119:=S [116,101,120,116]
abbrev q120:=S [82,101,97,100,101,114,46,95,95,105,110,105,116,95,95]
abbrev q121:=S [82,101,97,100,101,114,46,112,97,115,115,101,115]
abbrev q122:=S [100,101,101,112]
abbrev q123:=S [82,101,97,100,101,114,46,114,101,97,100,95,97,110,121]
abbrev q124:=S [112,97,114,116,115]
abbrev q125:=S [82,101,97,100,101,114,46,114,101,97,100,95,112,97,114,116,115]
abbrev q126:=S [82,101,97,100,101,114,46,114,101,97,100,95,98,101,108,111,119]
abbrev q127:=S [115,116,97,114,116]
abbrev q128:=S [102,105,103,117,114,101,115]
abbrev q129:=S [82,101,97,100,101,114,46,114,101,97,100,95,110,117,109,98,101,114]
abbrev q130:=S [109,97,110,121]
abbrev q131:=S [115,105,103,110,115]
abbrev q132:=S [82,101,97,100,101,114,46,114,101,97,100,95,115,105,103,110,115]
abbrev q133:=S [116,97,107,101]
abbrev q134:=S [72,67]
abbrev q135:=S [115,117,109]
abbrev q136:=S [72,65,66]
abbrev q137:=S [103,105,118,101]
abbrev q138:=S [97,100,100]
abbrev q139:=S [72,67,86]
abbrev q140:=S [112,108,117,115]
abbrev q141:=S [86]
abbrev q142:=S [110,101,101,100]
abbrev q143:=S [104,111,117,115,101]
abbrev q144:=S [115,116,101,112,95,100,111,110,101]
abbrev q145:=S [98,97,99,107]
abbrev q146:=S [115,117,114,101]
abbrev q147:=S [115,112,101,108,108,101,100]
abbrev q148:=S [83,116,101,112,46,104,111,117,115,101]
abbrev q149:=S [83,116,101,112,46,108,111,99,107]
abbrev q150:=S [104,97,110,100]
abbrev q151:=S [118,97,108,117,101,95,111,102]
abbrev q152:=S [83,116,101,112,46,115,116,101,112,95,100,111,110,101]
abbrev q153:=S [83,116,101,112,46,98,97,99,107]
abbrev q154:=S [83,116,101,112,46,115,117,114,101]
abbrev q155:=S [83,116,101,112,46,115,112,101,108,108,101,100]
abbrev q156:=S [119,104,101,114,101]
abbrev q157:=S [99,101,108,108]
abbrev q158:=S [67,101,108,108,83,116,101,112,46,95,95,105,110,105,116,95,95]
abbrev q159:=S [67,101,108,108,83,116,101,112,46,104,111,117,115,101]
abbrev q160:=S [84,97,107,101,83,116,101,112,46,108,111,99,107]
abbrev q161:=S [84,97,107,101,83,116,101,112,46,115,116,101,112,95,100,111,110,101]
abbrev q162:=S [84,97,107,101,83,116,101,112,46,115,112,101,108,108,101,100]
abbrev q163:=S [77,101,97,110,83,116,101,112,46,108,111,99,107]
abbrev q164:=S [77,101,97,110,83,116,101,112,46,115,116,101,112,95,100,111,110,101]
abbrev q165:=S [77,101,97,110,83,116,101,112,46,115,112,101,108,108,101,100]
abbrev q166:=S [108,111,119]
abbrev q167:=S [104,105,103,104]
abbrev q168:=S [83,117,109,83,116,101,112,46,95,95,105,110,105,116,95,95]
abbrev q169:=S [83,117,109,83,116,101,112,46,104,111,117,115,101]
abbrev q170:=S [83,117,109,83,116,101,112,46,108,111,99,107]
abbrev q171:=S [83,117,109,83,116,101,112,46,115,116,101,112,95,100,111,110,101]
abbrev q172:=S [83,117,109,83,116,101,112,46,115,112,101,108,108,101,100]
abbrev q173:=S [71,105,118,101,83,116,101,112,46,108,111,99,107]
abbrev q174:=S [71,105,118,101,83,116,101,112,46,115,116,101,112,95,100,111,110,101]
abbrev q175:=S [71,105,118,101,83,116,101,112,46,115,117,114,101]
abbrev q176:=S [71,105,118,101,83,116,101,112,46,115,112,101,108,108,101,100]
abbrev q177:=S [97,109,111,117,110,116]
abbrev q178:=S [65,100,100,83,116,101,112,46,95,95,105,110,105,116,95,95]
abbrev q179:=S [65,100,100,83,116,101,112,46,108,111,99,107]
abbrev q180:=S [65,100,100,83,116,101,112,46,115,116,101,112,95,100,111,110,101]
abbrev q181:=S [65,100,100,83,116,101,112,46,98,97,99,107]
abbrev q182:=S [65,100,100,83,116,101,112,46,115,112,101,108,108,101,100]
abbrev q183:=S [108,97,119,95,112,97,99,116,114,111,111,109,95,107,53,50,95,114,101,97,100,121,95,97,110,100,95,117,112,95,97,103,97,105,110]
abbrev q184:=S [80,108,117,115,83,116,101,112]
abbrev q185:=S [78,101,101,100,83,116,101,112]
abbrev q186:=S [114,101,97,100,95,115,116,101,112]
abbrev q187:=S [109,97,100,101,95,115,116,101,112]
abbrev q188:=S [109,97,100,101,95,115,117,109]
abbrev q189:=S [87,111,114,107,115]
abbrev q190:=S [83,104,101,101,116]
abbrev q191:=S [83,116,97,110,100]
abbrev q192:=S [95,108,97,119,95,99,101,108,108,95,97,116]
abbrev q193:=S [95,108,97,119,95,110,117,109,98,101,114]
abbrev q194:=S [95,108,97,119,95,115,116,101,112]
abbrev q195:=S [95,108,97,119,95,108,111,99,107]
abbrev q196:=S [95,108,97,119,95,99,111,118,101,114,115]
abbrev q197:=S [95,108,97,119,95,119,111,114,107,101,100]
abbrev q198:=S [95,108,97,119,95,97,115,107,101,100]
abbrev q199:=S [95,108,97,119,95,113,117,105,101,116]
abbrev q200:=S [95,108,97,119,95,101,110,100,101,100]
abbrev q201:=S [108,97,119]
abbrev q202:=S [80,108,117,115,83,116,101,112,46,95,95,105,110,105,116,95,95]
abbrev q203:=S [80,108,117,115,83,116,101,112,46,115,116,101,112,95,100,111,110,101]
abbrev q204:=S [80,108,117,115,83,116,101,112,46,115,112,101,108,108,101,100]
abbrev q205:=S [78,101,101,100,83,116,101,112,46,95,95,105,110,105,116,95,95]
abbrev q206:=S [78,101,101,100,83,116,101,112,46,115,116,101,112,95,100,111,110,101]
abbrev q207:=S [78,101,101,100,83,116,101,112,46,115,112,101,108,108,101,100]
abbrev q208:=S [119,111,114,100]
abbrev q209:=S [108,101,116,116,101,114]
abbrev q210:=S [110,117,109,98,101,114,115]
abbrev q211:=S [112,97,99,116,114,111,111,109,46,119,111,114,107,115]
abbrev q212:=S [116,97,107,101,95,117,112]
abbrev q213:=S [119,111,114,107]
abbrev q214:=S [100,111,95,115,116,101,112]
abbrev q215:=S [118,97,108,117,101,95,97,116]
abbrev q216:=S [115,101,110,100,95,100,105,100]
abbrev q217:=S [114,101,97,100,121]
abbrev q218:=S [101,110,100,101,100]
abbrev q219:=S [119,97,108,107]
abbrev q220:=S [117,110,100,111]
abbrev q221:=S [108,111,99,107,95,115,116,97,110,100,115]
abbrev q222:=S [116,117,114,110]
abbrev q223:=S [99,104,97,115,101]
abbrev q224:=S [105,115,95,98,111,117,110,100]
abbrev q225:=S [115,116,97,110,100]
abbrev q226:=S [104,111,109,101]
abbrev q227:=S [114,111,119]
abbrev q228:=S [87,111,114,107,115,46,95,95,105,110,105,116,95,95]
abbrev q229:=S [87,111,114,107,115,46,116,97,107,101,95,117,112]
abbrev q230:=S [115,104,101,101,116]
abbrev q231:=S [105]
abbrev q232:=S [87,111,114,107,115,46,119,111,114,107]
abbrev q233:=S [119,97,105,116,101,100]
abbrev q234:=S [87,111,114,107,115,46,100,111,95,115,116,101,112]
abbrev q235:=S [100,114,97,102,116]
abbrev q236:=S [87,111,114,107,115,46,118,97,108,117,101,95,97,116]
abbrev q237:=S [87,111,114,107,115,46,115,101,110,100,95,100,105,100]
abbrev q238:=S [87,111,114,107,115,46,114,101,97,100,121]
abbrev q239:=S [102,114,101,101,100]
abbrev q240:=S [87,111,114,107,115,46,101,110,100,101,100]
abbrev q241:=S [87,111,114,107,115,46,119,97,108,107]
abbrev q242:=S [87,111,114,107,115,46,117,110,100,111]
abbrev q243:=S [115,116,101,112]
abbrev q244:=S [87,111,114,107,115,46,108,111,99,107,95,115,116,97,110,100,115]
abbrev q245:=S [87,111,114,107,115,46,116,117,114,110]
abbrev q246:=S [112,97,116,104]
abbrev q247:=S [87,111,114,107,115,46,99,104,97,115,101]
abbrev q248:=S [87,111,114,107,115,46,104,101,108,100]
abbrev q249:=S [87,111,114,107,115,46,119,97,105,116,105,110,103]
abbrev q250:=S [87,111,114,107,115,46,105,115,95,98,111,117,110,100]
abbrev q251:=S [97,110,115,119,101,114,115]
abbrev q252:=S [100,114,97,102,116,115]
abbrev q253:=S [108,111,99,107,115]
abbrev q254:=S [112,101,110,100,105,110,103]
abbrev q255:=S [112,97,99,116,114,111,111,109,46,115,104,101,101,116,115]
abbrev q256:=S [115,101,110,100]
abbrev q257:=S [114,111,119,115,95,116,111,108,100]
abbrev q258:=S [108,101,116,116,101,114,115,95,116,111,108,100]
abbrev q259:=S [83,104,101,101,116,46,95,95,105,110,105,116,95,95]
abbrev q260:=S [83,104,101,101,116,46,114,111,119]
abbrev q261:=S [116,111]
abbrev q262:=S [109,111,114,101]
abbrev q263:=S [83,104,101,101,116,46,115,101,110,100]
abbrev q264:=S [83,104,101,101,116,46,114,111,119,115,95,116,111,108,100]
abbrev q265:=S [83,104,101,101,116,46,108,101,116,116,101,114,115,95,116,111,108,100]
abbrev q266:=S [108,97,116,101,115,116]
abbrev q267:=S [114,111,119,115]
abbrev q268:=S [115,101,110,116]
abbrev q269:=S [112,97,99,116,114,111,111,109,46,115,116,97,110,100,115]
abbrev q270:=S [107,101,101,112]
abbrev q271:=S [99,104,97,110,103,101,115,95,111,102]
abbrev q272:=S [99,101,108,108,95,97,116]
abbrev q273:=S [99,101,108,108,115,95,116,111,108,100]
abbrev q274:=S [111,117,116,99,111,109,101]
abbrev q275:=S [110,101,119,115]
abbrev q276:=S [98,111,117,110,100]
abbrev q277:=S [108,111,115,116]
abbrev q278:=S [98,101,103,117,110]
abbrev q279:=S [119,97,108,107,101,100,95,97,116]
abbrev q280:=S [105,115,95,111,118,101,114]
abbrev q281:=S [99,101,108,108,115]
abbrev q282:=S [83,116,97,110,100,46,95,95,105,110,105,116,95,95]
abbrev q283:=S [83,116,97,110,100,46,107,101,101,112]
abbrev q284:=S [83,116,97,110,100,46,99,104,97,110,103,101,115,95,111,102]
abbrev q285:=S [83,116,97,110,100,46,99,101,108,108,95,97,116]
abbrev q286:=S [83,116,97,110,100,46,99,101,108,108,115,95,116,111,108,100]
abbrev q287:=S [83,116,97,110,100,46,111,117,116,99,111,109,101]
abbrev q288:=S [83,116,97,110,100,46,110,101,119,115]
abbrev q289:=S [83,116,97,110,100,46,98,111,117,110,100]
abbrev q290:=S [83,116,97,110,100,46,108,111,115,116]
abbrev q291:=S [83,116,97,110,100,46,98,101,103,117,110]
abbrev q292:=S [83,116,97,110,100,46,119,97,108,107,101,100,95,97,116]
abbrev q293:=S [83,116,97,110,100,46,105,115,95,111,118,101,114]
abbrev q294:=S [98,101,103,105,110,115]
abbrev q295:=S [101,110,100,115]
abbrev q296:=S [111,118,101,114,115]
abbrev q297:=S [114,101,97,100,105,101,115]
abbrev q298:=S [119,97,108,107,115]
abbrev q299:=S [119,111,114,107,101,100]
abbrev q300:=S [95,108,97,119,95,115,99,114,105,112,116]
abbrev q301:=S [95,108,97,119,95,107]
abbrev q302:=S [95,108,97,119,95,99,101,108,108]
abbrev q303:=S [95,108,97,119,95,109,97,110,121]
abbrev q304:=S [95,108,97,119,95,97,116]
abbrev q305:=S [95,108,97,119,95,119,111,114,100]
abbrev q306:=S [95,108,97,119,95,116,101,120,116]
abbrev q307:=S [95,108,97,119,95,119,111,114,100,115]
abbrev q308:=S [95,108,97,119,95,111,110,101]
abbrev q309:=S [95,108,97,119,95,111,116,104,101,114]
abbrev q310:=S [95,108,97,119,95,111,114,100,101,114]
abbrev q311:=S [95,108,97,119,95,119,111,114,107,115]
abbrev q312:=S [95,108,97,119,95,115,116,97,110,100]
abbrev q313:=S [95,108,97,119,95,112]
abbrev q314:=S [95,108,97,119,95,104,111,117,115,101,115]
abbrev q315:=S [95,108,97,119,95,114,111,119,115]
abbrev q316:=S [95,108,97,119,95,115,104,101,101,116]
abbrev q317:=S [95,108,97,119,95,102,105,114,115,116]
abbrev q318:=S [95,108,97,119,95,100,114,97,102,116]
abbrev q319:=S [95,108,97,119,95,111,117,116,99,111,109,101]
abbrev q320:=S [95,108,97,119,95,99,101,108,108,115]
abbrev q321:=S [95,108,97,119,95,118,97,108,117,101]
noncomputable abbrev y0:Value:=(@Value.type SL.s2766695959194262286x5)
noncomputable abbrev y1:Value:=(@Value.type SL.s5856160107412720595x4)
noncomputable abbrev y2:Value:=(@Value.type SL.s658472552662922059x5)
noncomputable abbrev y3:Value:=(@Value.type SL.s14018661285674007319x4)
noncomputable abbrev y4:Value:=(@Value.builtin SL.s7097527257260152453x26)
noncomputable abbrev y5:Value:=(@Value.type SL.s7174869446012820540x8)
noncomputable abbrev y6:Value:=(@Value.type SL.s11030030927630378310x26)
noncomputable abbrev y7:Value:=(@Value.builtin SL.s10062305145149207511x16)
noncomputable abbrev y8:Value:=(@Value.type SL.s17162191345867700912x4)
noncomputable abbrev y9:Value:=(@Value.type SL.s2742458400755230247x6)
noncomputable abbrev y10:Value:=(@Value.builtin SL.s11443829558043349243x14)
noncomputable abbrev y11:Value:=(@Value.type SL.s14755015743595814543x17)
noncomputable abbrev y12:Value:=(@Value.builtin SL.s6511155373996960695x17)
noncomputable abbrev y13:Value:=(@Value.builtin SL.s12411053484034534018x21)
noncomputable abbrev y14:Value:=(@Value.builtin SL.s10220274742760427390x26)
noncomputable abbrev y15:Value:=(@Value.type SL.s4290257624100764138x5)
noncomputable abbrev y16:Value:=(@Value.builtin SL.s4860613602091757760x24)
noncomputable abbrev y17:Value:=(@Value.type SL.s6070975301684473832x10)
noncomputable abbrev y18:Value:=(@Value.type SL.s5946037652744460706x9)
noncomputable abbrev y19:Value:=(@Value.type SL.s4278001404047624695x13)
noncomputable abbrev y20:Value:=(@Value.builtin SL.s4209523147560561109x18)
noncomputable abbrev p0:Program:=PySem.Challenge.pw_pactroom_k52_ready_and_up_again
noncomputable abbrev pq:Program:=PySem.W.Fast.tw10955822627550605510
theorem pe:p0=pq:=PySem.W.Fast.te10955822627550605510
noncomputable def B(i:Nat):Stmt:=pq.main.body.getD i (.Pass ⟨0,0,0,0⟩)
noncomputable def T(i:Nat):Stmt:=p0.main.body.getD i (.Pass ⟨0,0,0,0⟩)
noncomputable def M(k j:Nat):Stmt:=L2.inClass (B k) j
noncomputable def N(k j:Nat):Stmt:=L2.inClass (T k) j
noncomputable abbrev fk(a b:Str)(s:Stmt):=FuncData.mk a b (L2.defArgs s) (.stmts (L2.defBody s)) (L2.defScope s)
section
variable (P:Params)
def a11:=Obj.mk y0 none (Data.seq E 0) E
def a12:=Obj.mk vn none (Data.fields E) E
def m0(x0:Str)(x1:Nat)(x2:Nat)(x3:Nat)(x4:Int)(x5:Nat)(x6:Nat)(x7:Int)(x8:Nat):=Obj.mk y1 none (Data.fields (A [vs x0 x1,vs x0 x2,vs q1 x3,vi x4 0,vi 0 0,vi 0 0,vi 0 0,vi 0 0,vr x5,vF,vi 181 0,vr x6,vn,vn,vn,vn,vi x7 0,vi x4 0,vs q1 x8])) E
def a13:=m0 q0 182 183 184 1 11 12 185 186
def m1(x0:Nat)(x1:Nat)(x2:Str)(x3:Nat):=Obj.mk y2 none Data.plain (A [sr x0,sr 3,sr x1,none,some (vs x2 x3),none,sr 0])
def a14:=m1 13 3 q2 164
def u0:=nd (boot_o_0 P) (nd (boot_o_1 P) (nd (boot_o_3 P) (l1 (boot_o_7 P)) (l1 a11)) (nd (boot_o_5 P) (l1 (boot_o_9 P)) (l1 a13))) (nd (boot_o_2 P) (nd (boot_o_4 P) (l1 (boot_o_8 P)) (l1 a12)) (nd (boot_o_6 P) (l1 (boot_o_10 P)) (l1 a14)))
def ta:=u0 P
def tb:=u0 P
def c0_3:=Obj.mk y3 none (Data.dict (A [de P q3 165 (vs q4 671),de P q5 166 vn,de P q6 167 vn,de P q7 168 y4,de P q8 169 vn,de P q9 170 (vr 6),de P q10 171 (vr 4),de P q11 173 (vs q1 172),de P q12 174 vn,de P q13 193 (vr 21),de P q14 205 (vr 22),de P q15 212 (vr 26),de P q16 275 (vr 71),de P q17 298 (vr 92),de P q18 321 (vr 111),de P q19 344 (vr 130),de P q20 351 (vr 139),de P q21 371 (vr 149),de P q22 387 (vr 162),de P q23 403 (vr 174),de P q24 419 (vr 186),de P q25 444 (vr 205),de P q26 548 (vr 282),de P q27 552 (vi 400 551),de P q28 554 (vi 2000 553),de P q29 556 (vi 2000 555),de P q30 558 (vi 8 557),de P q31 560 (vi 100000 559),de P q32 562 (vi 32 561),de P q33 564 (vi 37 563),de P q34 566 (vi 126 565),de P q35 573 (vr 293),de P q36 579 (vr 298),de P q37 587 (vr 305),de P q38 670 (vr 364),de P q39 674 (vi 40 673),de P q40 696 (vr 369),de P q41 761 (vr 421),de P q42 795 (vr 449),de P q43 834 (vr 482),de P q44 873 (vr 515),de P q45 929 (vr 560),de P q46 975 (vr 600),de P q47 1033 (vr 647)]) 44) E
def c0_12:=Obj.mk vn none (Data.fields (A [vi 1 0,vi 0 0,vr 20,vi 7 0,vi 0 0,vr 32,vi 26 0,vi 0 0,vr 81,vi 30 0,vi 0 0,vr 100,vi 34 0,vi 0 0,vr 119,vi 38 0,vi 0 0,vr 138,vi 45 0,vi 0 0,vr 145,vi 47 0,vi 0 0,vr 158,vi 49 0,vi 0 0,vr 170,vi 51 0,vi 0 0,vr 182,vi 53 0,vi 0 0,vr 194,vi 58 0,vi 0 0,vr 213,vi 120 0,vi 0 0,vr 292,vi 122 0,vi 0 0,vr 297,vi 132 0,vi 0 0,vr 304,vi 135 0,vi 0 0,vr 311,vi 202 0,vi 0 0,vr 375,vi 221 0,vi 0 0,vr 431,vi 229 0,vi 0 0,vr 457,vi 239 0,vi 0 0,vr 490,vi 249 0,vi 0 0,vr 523,vi 267 0,vi 0 0,vr 568,vi 280 0,vi 0 0,vr 608])) E
def m2(x0:Str)(x1:Nat):=Obj.mk y0 none (Data.seq (A [vs x0 x1]) 0) E
def c0_17:=m2 q48 190
def m3(x0:Str)(x1:Str)(x2:Stmt):=Obj.mk vn none (Data.func (fk x0 x1 x2 0 [] vn vn vn vn none vn vn 0)) E
def c0_19:=m3 q13 q13 (B 0)
def m4(x0:Str)(x1:Nat)(x2:Str)(x3:Nat)(x4:Nat)(x5:Int)(x6:Int)(x7:Nat)(x8:Nat)(x9:Nat)(x10:Nat)(x11:Nat)(x12:Int)(x13:Nat):=Obj.mk y1 none (Data.fields (A [vs x0 x1,vs x2 x3,vs q1 x4,vi x5 0,vi x6 0,vi 0 0,vi 0 0,vi 3 0,vr x7,vT,vi 181 0,vr x8,vn,vr x9,vr x10,vr x11,vi x12 0,vi x5 0,vs q1 x13])) E
def c0_20:=m4 q13 187 q13 188 189 1 1 15 16 17 18 19 191 192
def m5(x0:Str)(x1:Str)(x2:Stmt)(x3:Str)(x4:Nat)(x5:Nat):=Obj.mk y5 none (Data.func (fk x0 x1 x2 3 [] vn vn vn (vs x3 x4) none (vr x5) vn 0)) E
def c0_21:=m5 q13 q13 (B 0) q2 164 20
def c0_22:=Obj.mk y3 none (Data.dict (A [de P q49 196 (vi 0 197),de P q50 198 (vi 1 199),de P q51 200 (vi 2 201)]) 3) E
def m6(x0:Str)(x1:Nat)(x2:Str)(x3:Nat):=Obj.mk y0 none (Data.seq (A [vs x0 x1,vs x2 x3]) 0) E
def c0_23:=m6 q49 206 q49 207
def c0_24:=m6 q49 208 q50 209
def c0_25:=m6 q50 210 q49 211
def c0_26:=Obj.mk y0 none (Data.seq (A [vr 23,vr 24,vr 25]) 0) E
def c0_28:=Obj.mk y6 none (Data.fields (A [y7,y8])) E
def m7(x0:Nat)(x1:Str)(x2:Nat)(x3:Nat)(x4:Str)(x5:Nat)(x6:Nat)(x7:Int)(x8:Nat)(x9:Nat)(x10:Nat)(x11:Str)(x12:Nat)(x13:Nat)(x14:Str)(x15:Nat)(x16:Nat)(x17:Str)(x18:Nat)(x19:Nat)(x20:Str)(x21:Nat)(x22:Nat)(x23:Nat)(x24:Nat):=Obj.mk y3 none (Data.dict (A [de P q52 x0 (vs x1 x2),de P q54 x3 (vs x4 x5),de P q55 x6 (vi x7 x8),de P q56 x9 (vr x10),de P x11 x12 (vr x13),de P x14 x15 (vr x16),de P x17 x18 (vr x19),de P x20 x21 (vr x22),de P q61 x23 (vr x24)]) 9) E
def c0_29:=m7 P 220 q53 194 222 q16 221 224 7 223 233 40 q57 240 47 q58 249 54 q59 258 61 q60 265 68 268 69
def m8(x0:Int)(x1:Nat)(x2:Int)(x3:Nat)(x4:Int)(x5:Nat)(x6:Int)(x7:Nat)(x8:Int)(x9:Nat):=Obj.mk vn none (Data.fields (A [vi x0 0,vi 4 0,vr x1,vi x2 0,vi 4 0,vr x3,vi x4 0,vi 4 0,vr x5,vi x6 0,vi 4 0,vr x7,vi x8 0,vi 4 0,vr x9])) E
def c0_31:=m8 9 39 13 46 16 53 20 60 24 67
def c0_32:=m0 q16 215 216 217 7 30 31 218 219
def c0_33:=m1 32 29 q53 194
def m9(x0:Str)(x1:Nat)(x2:Str)(x3:Nat)(x4:Str)(x5:Nat):=Obj.mk y0 none (Data.seq (A [vs x0 x1,vs x2 x3,vs x4 x5]) 0) E
def c0_36:=m9 q62 228 q63 229 q64 230
def c0_38:=m3 q56 q65 (M 4 0)
def c0_39:=m4 q56 225 q65 226 227 9 3 34 35 36 37 38 231 232
def c0_40:=m5 q56 q65 (M 4 0) q53 194 39
def c0_43:=m2 q62 237
def c0_45:=m3 q57 q66 (M 4 1)
def c0_46:=m4 q57 234 q66 235 236 13 1 41 42 43 44 45 238 239
def c0_47:=m5 q57 q66 (M 4 1) q53 194 46
def c0_50:=m9 q62 244 q67 245 q68 246
def c0_52:=m3 q58 q69 (M 4 2)
def c0_53:=m4 q58 241 q69 242 243 16 2 48 49 50 51 52 247 248
def c0_54:=m5 q58 q69 (M 4 2) q53 194 53
def c0_57:=m9 q62 253 q67 254 q70 255
def c0_59:=m3 q59 q71 (M 4 3)
def c0_60:=m4 q59 250 q71 251 252 20 2 55 56 57 58 59 256 257
def c0_61:=m5 q59 q71 (M 4 3) q53 194 60
def c0_64:=m2 q62 262
def c0_66:=m3 q60 q72 (M 4 4)
def c0_67:=m4 q60 259 q72 260 261 24 1 62 63 64 65 66 263 264
def c0_68:=m5 q60 q72 (M 4 4) q53 194 67
def c0_69:=m6 q63 266 q64 267
def c0_70:=Obj.mk y3 none (Data.dict (A [de P q52 220 (vs q53 194),de P q55 224 (vi 7 223),de P q56 233 (vr 40),de P q57 240 (vr 47),de P q58 249 (vr 54),de P q59 258 (vr 61),de P q60 265 (vr 68),de P q61 268 (vr 69),de P q73 270 (vr 72),de P q74 272 (vr 73),de P q5 273 vn]) 4) E
def c0_71:=Obj.mk y8 none (Data.cls (ClassData.mk q16 [y9] [vr 71,y9] 70 q16 true [] [vr 92,vr 111,vr 130] false none false)) (A [none,none,some (vs q16 213),some (vs q16 221),some y10,some vT])
def m10(x0:Nat)(x1:Nat):=Obj.mk y11 none (Data.fields (A [vs q73 x0,vr x1,y12,y13])) E
def c0_72:=m10 269 71
def m11(x0:Nat)(x1:Nat):=Obj.mk y11 none (Data.fields (A [vs q74 x0,vr x1,y14,vn])) E
def c0_73:=m11 271 71
def m12(x0:Nat):=Obj.mk y15 none (Data.fields (A [vr x0,vr x0,vr x0])) E
def c0_74:=m12 71
def m13(x0:Nat):=Obj.mk y6 none (Data.fields (A [y16,vr x0])) E
def c0_75:=m13 71
def m14(x0:Nat):=Obj.mk y0 none (Data.seq (A [vr x0]) 0) E
def c0_76:=m14 71
def m15(x0:Nat)(x1:Str)(x2:Nat)(x3:Nat)(x4:Str)(x5:Nat)(x6:Nat)(x7:Int)(x8:Nat)(x9:Str)(x10:Nat)(x11:Nat)(x12:Nat)(x13:Nat):=Obj.mk y3 none (Data.dict (A [de P q52 x0 (vs x1 x2),de P q54 x3 (vs x4 x5),de P q55 x6 (vi x7 x8),de P x9 x10 (vr x11),de P q61 x12 (vr x13)]) 5) E
def c0_78:=m15 P 283 q53 194 285 q17 284 287 26 286 q57 294 89 295 90
def m16(x0:Int)(x1:Nat):=Obj.mk vn none (Data.fields (A [vi x0 0,vi 4 0,vr x1])) E
def c0_80:=m16 28 88
def c0_81:=m0 q17 278 279 280 26 79 80 281 282
def c0_82:=m1 81 78 q53 194
def c0_85:=m2 q62 291
def c0_87:=m3 q57 q75 (M 5 0)
def c0_88:=m4 q57 288 q75 289 290 28 1 83 84 85 86 87 292 293
def c0_89:=m5 q57 q75 (M 5 0) q53 194 88
def m17(x0:Nat)(x1:Str)(x2:Nat)(x3:Nat)(x4:Int)(x5:Nat)(x6:Str)(x7:Nat)(x8:Nat)(x9:Nat)(x10:Nat)(x11:Nat):=Obj.mk y3 none (Data.dict (A [de P q52 x0 (vs x1 x2),de P q55 x3 (vi x4 x5),de P x6 x7 (vr x8),de P q61 x9 (vr x10),de P q5 x11 vn]) 2) E
def c0_91:=m17 P 283 q53 194 287 26 286 q57 294 89 295 90 296
def c0_92:=Obj.mk y8 none (Data.cls (ClassData.mk q17 [vr 71] [vr 92,vr 71,y9] 91 q17 true [] [] false none false)) (A [sr 76,none,some (vs q17 276),some (vs q17 284),some y10,some vT])
def c0_93:=m12 92
def c0_94:=m13 92
def c0_97:=m15 P 306 q53 194 308 q18 307 310 30 309 q57 317 108 318 109
def c0_99:=m16 32 107
def c0_100:=m0 q18 301 302 303 30 98 99 304 305
def c0_101:=m1 100 97 q53 194
def c0_104:=m2 q62 314
def c0_106:=m3 q57 q76 (M 6 0)
def c0_107:=m4 q57 311 q76 312 313 32 1 102 103 104 105 106 315 316
def c0_108:=m5 q57 q76 (M 6 0) q53 194 107
def c0_110:=m17 P 306 q53 194 310 30 309 q57 317 108 318 109 319
def c0_111:=Obj.mk y8 none (Data.cls (ClassData.mk q18 [vr 71] [vr 111,vr 71,y9] 110 q18 true [] [] false none false)) (A [sr 95,none,some (vs q18 299),some (vs q18 307),some y10,some vT])
def c0_112:=m12 111
def c0_113:=m13 111
def c0_116:=m15 P 329 q53 194 331 q19 330 333 34 332 q57 340 127 341 128
def c0_118:=m16 36 126
def c0_119:=m0 q19 324 325 326 34 117 118 327 328
def c0_120:=m1 119 116 q53 194
def c0_123:=m2 q62 337
def c0_125:=m3 q57 q77 (M 7 0)
def c0_126:=m4 q57 334 q77 335 336 36 1 121 122 123 124 125 338 339
def c0_127:=m5 q57 q77 (M 7 0) q53 194 126
def c0_129:=m17 P 329 q53 194 333 34 332 q57 340 127 341 128 342
def c0_130:=Obj.mk y8 none (Data.cls (ClassData.mk q19 [vr 71] [vr 130,vr 71,y9] 129 q19 true [] [] false none false)) (A [sr 114,none,some (vs q19 322),some (vs q19 330),some y10,some vT])
def c0_131:=m12 130
def c0_132:=m13 130
def c0_135:=m2 q60 348
def c0_137:=m3 q20 q20 (B 8)
def c0_138:=m4 q20 345 q20 346 347 38 1 133 134 135 136 137 349 350
def c0_139:=m5 q20 q20 (B 8) q53 194 138
def c0_140:=Obj.mk y0 none (Data.seq (A [y17]) 0) E
def m18(x0:Nat)(x1:Nat)(x2:Str)(x3:Nat)(x4:Nat)(x5:Int)(x6:Nat)(x7:Nat)(x8:Nat):=Obj.mk y3 none (Data.dict (A [de P q52 x0 (vs q78 352),de P q54 x1 (vs x2 x3),de P q55 x4 (vi x5 x6),de P q61 x7 (vr x8)]) 4) E
def c0_142:=m18 P 361 363 q21 362 365 45 364 366 147
def c0_145:=m0 q21 356 357 358 45 143 144 359 360
def c0_146:=m1 145 142 q78 352
def c0_148:=Obj.mk y3 none (Data.dict (A [de P q52 361 (vs q78 352),de P q55 365 (vi 45 364),de P q61 366 (vr 147),de P q74 368 (vr 150),de P q5 369 vn]) 3) E
def c0_149:=Obj.mk y8 none (Data.cls (ClassData.mk q21 [y17] [vr 149,y17,y18,y19,y9] 148 q21 true [] [vr 162,vr 174,vr 186,vr 205] false none false)) (A [sr 140,none,some (vs q21 354),some (vs q21 362),some y20,some vT])
def c0_150:=m11 367 149
def c0_151:=m12 149
def c0_152:=m13 149
def c0_153:=m14 149
def c0_155:=m18 P 379 381 q22 380 383 47 382 384 160
def c0_158:=m0 q22 374 375 376 47 156 157 377 378
def c0_159:=m1 158 155 q78 352
def m19(x0:Nat)(x1:Nat)(x2:Int)(x3:Nat)(x4:Nat)(x5:Nat)(x6:Nat):=Obj.mk y3 none (Data.dict (A [de P q52 x0 (vs q78 352),de P q55 x1 (vi x2 x3),de P q61 x4 (vr x5),de P q5 x6 vn]) 2) E
def c0_161:=m19 P 379 383 47 382 384 160 385
def c0_162:=Obj.mk y8 none (Data.cls (ClassData.mk q22 [vr 149] [vr 162,vr 149,y17,y18,y19,y9] 161 q22 true [] [] false none false)) (A [sr 153,none,some (vs q22 372),some (vs q22 380),some y20,some vT])
def c0_163:=m12 162
def c0_164:=m13 162
def c0_167:=m18 P 395 397 q23 396 399 49 398 400 172
def c0_170:=m0 q23 390 391 392 49 168 169 393 394
def c0_171:=m1 170 167 q78 352
def c0_173:=m19 P 395 399 49 398 400 172 401
def c0_174:=Obj.mk y8 none (Data.cls (ClassData.mk q23 [vr 149] [vr 174,vr 149,y17,y18,y19,y9] 173 q23 true [] [] false none false)) (A [sr 165,none,some (vs q23 388),some (vs q23 396),some y20,some vT])
def c0_175:=m12 174
def c0_176:=m13 174
def c0_179:=m18 P 411 413 q24 412 415 51 414 416 184
def c0_182:=m0 q24 406 407 408 51 180 181 409 410
def c0_183:=m1 182 179 q78 352
def c0_185:=m19 P 411 415 51 414 416 184 417
def c0_186:=Obj.mk y8 none (Data.cls (ClassData.mk q24 [vr 149] [vr 186,vr 149,y17,y18,y19,y9] 185 q24 true [] [] false none false)) (A [sr 177,none,some (vs q24 404),some (vs q24 412),some y20,some vT])
def c0_187:=m12 186
def c0_188:=m13 186
def c0_191:=m15 P 427 q78 352 429 q25 428 431 53 430 q56 439 202 441 203
def c0_193:=m16 55 201
def c0_194:=m0 q25 422 423 424 53 192 193 425 426
def c0_195:=m1 194 191 q78 352
def c0_198:=m6 q62 435 q79 436
def c0_200:=m3 q56 q80 (M 14 0)
def c0_201:=m4 q56 432 q80 433 434 55 2 196 197 198 199 200 437 438
def c0_202:=m5 q56 q80 (M 14 0) q78 352 201
def c0_203:=m2 q79 440
def c0_204:=m17 P 427 q78 352 431 53 430 q56 439 202 441 203 442
def c0_205:=Obj.mk y8 none (Data.cls (ClassData.mk q25 [vr 149] [vr 205,vr 149,y17,y18,y19,y9] 204 q25 true [] [] false none false)) (A [sr 189,none,some (vs q25 420),some (vs q25 428),some y20,some vT])
def c0_206:=m12 205
def c0_207:=m13 205
def c0_210:=Obj.mk y3 none (Data.dict (A [de P q52 454 (vs q81 445),de P q54 456 (vs q26 455),de P q55 458 (vi 58 457),de P q56 465 (vr 221),de P q82 471 (vr 226),de P q83 477 (vr 231),de P q84 486 (vr 238),de P q85 495 (vr 245),de P q86 501 (vr 250),de P q87 507 (vr 255),de P q88 518 (vr 262),de P q89 524 (vr 267),de P q90 530 (vr 272),de P q91 539 (vr 279),de P q61 541 (vr 280)]) 15) E
def c0_212:=Obj.mk vn none (Data.fields (A [vi 60 0,vi 4 0,vr 220,vi 63 0,vi 4 0,vr 225,vi 71 0,vi 4 0,vr 230,vi 77 0,vi 4 0,vr 237,vi 80 0,vi 4 0,vr 244,vi 86 0,vi 4 0,vr 249,vi 89 0,vi 4 0,vr 254,vi 92 0,vi 4 0,vr 261,vi 100 0,vi 4 0,vr 266,vi 103 0,vi 4 0,vr 271,vi 106 0,vi 4 0,vr 278])) E
def c0_213:=m0 q26 449 450 451 58 211 212 452 453
def c0_214:=m1 213 210 q81 445
def c0_217:=m2 q62 462
def c0_219:=m3 q56 q92 (M 16 0)
def c0_220:=m4 q56 459 q92 460 461 60 1 215 216 217 218 219 463 464
def c0_221:=m5 q56 q92 (M 16 0) q81 445 220
def c0_224:=m3 q82 q93 (M 16 1)
def m20(x0:Str)(x1:Nat)(x2:Str)(x3:Nat)(x4:Nat)(x5:Int)(x6:Int)(x7:Nat)(x8:Nat)(x9:Nat)(x10:Int)(x11:Nat):=Obj.mk y1 none (Data.fields (A [vs x0 x1,vs x2 x3,vs q1 x4,vi x5 0,vi x6 0,vi 0 0,vi 0 0,vi 3 0,vr x7,vT,vi 181 0,vr x8,vn,vn,vn,vr x9,vi x10 0,vi x5 0,vs q1 x11])) E
def c0_225:=m20 q82 466 q93 467 468 63 3 222 223 224 469 470
def c0_226:=m5 q82 q93 (M 16 1) q81 445 225
def c0_229:=m3 q83 q94 (M 16 2)
def c0_230:=m20 q83 472 q94 473 474 71 2 227 228 229 475 476
def c0_231:=m5 q83 q94 (M 16 2) q81 445 230
def c0_234:=m9 q62 481 q95 482 q96 483
def c0_236:=m3 q84 q97 (M 16 3)
def c0_237:=m4 q84 478 q97 479 480 77 3 232 233 234 235 236 484 485
def c0_238:=m5 q84 q97 (M 16 3) q81 445 237
def c0_241:=m9 q62 490 q95 491 q98 492
def c0_243:=m3 q85 q99 (M 16 4)
def c0_244:=m4 q85 487 q99 488 489 80 2 239 240 241 242 243 493 494
def c0_245:=m5 q85 q99 (M 16 4) q81 445 244
def c0_248:=m3 q86 q100 (M 16 5)
def c0_249:=m20 q86 496 q100 497 498 86 1 246 247 248 499 500
def c0_250:=m5 q86 q100 (M 16 5) q81 445 249
def c0_253:=m3 q87 q101 (M 16 6)
def c0_254:=m20 q87 502 q101 503 504 89 1 251 252 253 505 506
def c0_255:=m5 q87 q101 (M 16 6) q81 445 254
def m21(x0:Str)(x1:Nat)(x2:Str)(x3:Nat)(x4:Str)(x5:Nat)(x6:Str)(x7:Nat)(x8:Str)(x9:Nat):=Obj.mk y0 none (Data.seq (A [vs x0 x1,vs x2 x3,vs x4 x5,vs x6 x7,vs x8 x9]) 0) E
def c0_258:=m21 q62 511 q98 512 q102 513 q48 514 q103 515
def c0_260:=m3 q88 q104 (M 16 7)
def c0_261:=m4 q88 508 q104 509 510 92 2 256 257 258 259 260 516 517
def c0_262:=m5 q88 q104 (M 16 7) q81 445 261
def c0_265:=m3 q89 q105 (M 16 8)
def c0_266:=m20 q89 519 q105 520 521 100 1 263 264 265 522 523
def c0_267:=m5 q89 q105 (M 16 8) q81 445 266
def c0_270:=m3 q90 q106 (M 16 9)
def c0_271:=m20 q90 525 q106 526 527 103 1 268 269 270 528 529
def c0_272:=m5 q90 q106 (M 16 9) q81 445 271
def c0_275:=m9 q62 534 q95 535 q48 536
def c0_277:=m3 q91 q107 (M 16 10)
def c0_278:=m4 q91 531 q107 532 533 106 2 273 274 275 276 277 537 538
def c0_279:=m5 q91 q107 (M 16 10) q81 445 278
def c0_280:=m2 q108 540
def c0_281:=Obj.mk y3 none (Data.dict (A [de P q52 454 (vs q81 445),de P q55 458 (vi 58 457),de P q56 465 (vr 221),de P q82 471 (vr 226),de P q83 477 (vr 231),de P q84 486 (vr 238),de P q85 495 (vr 245),de P q86 501 (vr 250),de P q87 507 (vr 255),de P q88 518 (vr 262),de P q89 524 (vr 267),de P q90 530 (vr 272),de P q91 539 (vr 279),de P q61 541 (vr 280),de P q73 543 (vr 283),de P q74 545 (vr 284),de P q5 546 vn]) 4) E
def c0_282:=Obj.mk y8 none (Data.cls (ClassData.mk q26 [y9] [vr 282,y9] 281 q26 true [] [] false none false)) (A [none,none,some (vs q26 447),some (vs q26 455),some y10,some vT])
def c0_283:=m10 542 282
def c0_284:=m11 544 282
def c0_285:=m12 282
def c0_286:=m13 282
def c0_289:=m2 q109 570
def c0_291:=m3 q35 q35 (B 26)
def c0_292:=m4 q35 567 q35 568 569 120 1 287 288 289 290 291 571 572
def c0_293:=m5 q35 q35 (B 26) q110 549 292
def c0_296:=m3 q36 q36 (B 27)
def c0_297:=m20 q36 574 q36 575 576 122 1 294 295 296 577 578
def c0_298:=m5 q36 q36 (B 27) q110 549 297
def c0_301:=m6 q111 583 q112 584
def c0_303:=m3 q37 q37 (B 28)
def c0_304:=m4 q37 580 q37 581 582 132 1 299 300 301 302 303 585 586
def c0_305:=m5 q37 q37 (B 28) q110 549 304
def c0_308:=Obj.mk y3 none (Data.dict (A [de P q52 595 (vs q110 549),de P q54 597 (vs q38 596),de P q55 599 (vi 135 598),de P q56 607 (vr 319),de P q113 615 (vr 326),de P q114 624 (vr 333),de P q115 633 (vr 340),de P q116 641 (vr 347),de P q117 650 (vr 354),de P q118 660 (vr 361),de P q61 663 (vr 362)]) 11) E
def c0_310:=Obj.mk vn none (Data.fields (A [vi 137 0,vi 4 0,vr 318,vi 141 0,vi 4 0,vr 325,vi 147 0,vi 4 0,vr 332,vi 157 0,vi 4 0,vr 339,vi 171 0,vi 4 0,vr 346,vi 177 0,vi 4 0,vr 353,vi 190 0,vi 4 0,vr 360])) E
def c0_311:=m0 q38 590 591 592 135 309 310 593 594
def c0_312:=m1 311 308 q110 549
def c0_315:=m6 q62 603 q119 604
def c0_317:=m3 q56 q120 (M 29 0)
def c0_318:=m4 q56 600 q120 601 602 137 2 313 314 315 316 317 605 606
def c0_319:=m5 q56 q120 (M 29 0) q110 549 318
def c0_322:=m6 q62 611 q111 612
def c0_324:=m3 q113 q121 (M 29 1)
def c0_325:=m4 q113 608 q121 609 610 141 2 320 321 322 323 324 613 614
def c0_326:=m5 q113 q121 (M 29 1) q110 549 325
def c0_329:=m9 q62 619 q122 620 q112 621
def c0_331:=m3 q114 q123 (M 29 2)
def c0_332:=m4 q114 616 q123 617 618 147 2 327 328 329 330 331 622 623
def c0_333:=m5 q114 q123 (M 29 2) q110 549 332
def c0_336:=m9 q62 628 q122 629 q124 630
def c0_338:=m3 q115 q125 (M 29 3)
def c0_339:=m4 q115 625 q125 626 627 157 2 334 335 336 337 338 631 632
def c0_340:=m5 q115 q125 (M 29 3) q110 549 339
def c0_343:=m6 q62 637 q112 638
def c0_345:=m3 q116 q126 (M 29 4)
def c0_346:=m4 q116 634 q126 635 636 171 1 341 342 343 344 345 639 640
def c0_347:=m5 q116 q126 (M 29 4) q110 549 346
def c0_350:=m9 q62 645 q127 646 q128 647
def c0_352:=m3 q117 q129 (M 29 5)
def c0_353:=m4 q117 642 q129 643 644 177 1 348 349 350 351 352 648 649
def c0_354:=m5 q117 q129 (M 29 5) q110 549 353
def m22(x0:Str)(x1:Nat)(x2:Str)(x3:Nat)(x4:Str)(x5:Nat)(x6:Str)(x7:Nat):=Obj.mk y0 none (Data.seq (A [vs x0 x1,vs x2 x3,vs x4 x5,vs x6 x7]) 0) E
def c0_357:=m22 q62 654 q130 655 q85 656 q131 657
def c0_359:=m3 q118 q132 (M 29 6)
def c0_360:=m4 q118 651 q132 652 653 190 2 355 356 357 358 359 658 659
def c0_361:=m5 q118 q132 (M 29 6) q110 549 360
def c0_362:=m6 q98 661 q119 662
def c0_363:=Obj.mk y3 none (Data.dict (A [de P q52 595 (vs q110 549),de P q55 599 (vi 135 598),de P q56 607 (vr 319),de P q113 615 (vr 326),de P q114 624 (vr 333),de P q115 633 (vr 340),de P q116 641 (vr 347),de P q117 650 (vr 354),de P q118 660 (vr 361),de P q61 663 (vr 362),de P q73 665 (vr 365),de P q74 667 (vr 366),de P q5 668 vn]) 4) E
def c0_364:=Obj.mk y8 none (Data.cls (ClassData.mk q38 [y9] [vr 364,y9] 363 q38 true [] [] false none false)) (A [none,none,some (vs q38 588),some (vs q38 596),some y10,some vT])
def c0_365:=m10 664 364
def c0_366:=m11 666 364
def c0_367:=m12 364
def c0_368:=m13 364
def c0_369:=Obj.mk y3 none (Data.dict (A [de P q133 675 (vs q134 676),de P q50 677 (vs q134 678),de P q135 679 (vs q136 680),de P q137 681 (vs q134 682),de P q138 683 (vs q139 684),de P q140 685 (vs q141 686),de P q142 687 (vs q141 688)]) 7) E
def c0_372:=Obj.mk y3 none (Data.dict (A [de P q52 704 (vs q4 671),de P q54 706 (vs q41 705),de P q55 708 (vi 202 707),de P q143 715 (vr 383),de P q96 722 (vr 390),de P q144 731 (vr 397),de P q145 739 (vr 404),de P q146 746 (vr 411),de P q147 753 (vr 418),de P q61 754 (vr 419)]) 10) E
def c0_374:=Obj.mk vn none (Data.fields (A [vi 204 0,vi 4 0,vr 382,vi 207 0,vi 4 0,vr 389,vi 210 0,vi 4 0,vr 396,vi 213 0,vi 4 0,vr 403,vi 216 0,vi 4 0,vr 410,vi 219 0,vi 4 0,vr 417])) E
def c0_375:=m0 q41 699 700 701 202 373 374 702 703
def c0_376:=m1 375 372 q4 671
def c0_379:=m2 q62 712
def c0_381:=m3 q143 q148 (M 33 0)
def c0_382:=m4 q143 709 q148 710 711 204 1 377 378 379 380 381 713 714
def c0_383:=m5 q143 q148 (M 33 0) q4 671 382
def c0_386:=m2 q62 719
def c0_388:=m3 q96 q149 (M 33 1)
def c0_389:=m4 q96 716 q149 717 718 207 1 384 385 386 387 388 720 721
def c0_390:=m5 q96 q149 (M 33 1) q4 671 389
def c0_393:=m9 q62 726 q150 727 q151 728
def c0_395:=m3 q144 q152 (M 33 2)
def c0_396:=m4 q144 723 q152 724 725 210 3 391 392 393 394 395 729 730
def c0_397:=m5 q144 q152 (M 33 2) q4 671 396
def c0_400:=m6 q62 735 q151 736
def c0_402:=m3 q145 q153 (M 33 3)
def c0_403:=m4 q145 732 q153 733 734 213 2 398 399 400 401 402 737 738
def c0_404:=m5 q145 q153 (M 33 3) q4 671 403
def c0_407:=m2 q62 743
def c0_409:=m3 q146 q154 (M 33 4)
def c0_410:=m4 q146 740 q154 741 742 216 1 405 406 407 408 409 744 745
def c0_411:=m5 q146 q154 (M 33 4) q4 671 410
def c0_414:=m2 q62 750
def c0_416:=m3 q147 q155 (M 33 5)
def c0_417:=m4 q147 747 q155 748 749 219 1 412 413 414 415 416 751 752
def c0_418:=m5 q147 q155 (M 33 5) q4 671 417
def c0_420:=Obj.mk y3 none (Data.dict (A [de P q52 704 (vs q4 671),de P q55 708 (vi 202 707),de P q143 715 (vr 383),de P q96 722 (vr 390),de P q144 731 (vr 397),de P q145 739 (vr 404),de P q146 746 (vr 411),de P q147 753 (vr 418),de P q61 754 (vr 419),de P q73 756 (vr 422),de P q74 758 (vr 423),de P q5 759 vn]) 4) E
def c0_421:=Obj.mk y8 none (Data.cls (ClassData.mk q41 [y9] [vr 421,y9] 420 q41 true [] [vr 449,vr 560] false none false)) (A [none,none,some (vs q41 697),some (vs q41 705),some y10,some vT])
def c0_422:=m10 755 421
def c0_423:=m11 757 421
def c0_424:=m12 421
def c0_425:=m13 421
def c0_426:=m14 421
def c0_428:=Obj.mk y3 none (Data.dict (A [de P q52 769 (vs q4 671),de P q54 771 (vs q42 770),de P q55 773 (vi 221 772),de P q56 782 (vr 439),de P q143 789 (vr 446),de P q61 792 (vr 447)]) 6) E
def c0_430:=Obj.mk vn none (Data.fields (A [vi 223 0,vi 4 0,vr 438,vi 227 0,vi 4 0,vr 445])) E
def c0_431:=m0 q42 764 765 766 221 429 430 767 768
def c0_432:=m1 431 428 q4 671
def c0_435:=m9 q62 777 q156 778 q157 779
def c0_437:=m3 q56 q158 (M 34 0)
def c0_438:=m4 q56 774 q158 775 776 223 3 433 434 435 436 437 780 781
def c0_439:=m5 q56 q158 (M 34 0) q4 671 438
def c0_442:=m2 q62 786
def c0_444:=m3 q143 q159 (M 34 1)
def c0_445:=m4 q143 783 q159 784 785 227 1 440 441 442 443 444 787 788
def c0_446:=m5 q143 q159 (M 34 1) q4 671 445
def c0_447:=m6 q157 790 q156 791
def c0_448:=Obj.mk y3 none (Data.dict (A [de P q52 769 (vs q4 671),de P q55 773 (vi 221 772),de P q56 782 (vr 439),de P q143 789 (vr 446),de P q61 792 (vr 447),de P q5 793 vn]) 2) E
def c0_449:=Obj.mk y8 none (Data.cls (ClassData.mk q42 [vr 421] [vr 449,vr 421,y9] 448 q42 true [] [vr 482,vr 515,vr 600,vr 647] false none false)) (A [sr 426,none,some (vs q42 762),some (vs q42 770),some y10,some vT])
def c0_450:=m12 449
def c0_451:=m13 449
def c0_452:=m14 449
def m23(x0:Nat)(x1:Nat)(x2:Str)(x3:Nat)(x4:Nat)(x5:Int)(x6:Nat)(x7:Str)(x8:Nat)(x9:Nat)(x10:Nat)(x11:Nat)(x12:Nat)(x13:Nat)(x14:Nat)(x15:Nat):=Obj.mk y3 none (Data.dict (A [de P q52 x0 (vs q4 671),de P q54 x1 (vs x2 x3),de P q55 x4 (vi x5 x6),de P x7 x8 (vr x9),de P q144 x10 (vr x11),de P q147 x12 (vr x13),de P q61 x14 (vr x15)]) 7) E
def c0_454:=m23 P 803 805 q43 804 807 229 806 q96 814 465 823 472 830 479 831 480
def m24(x0:Int)(x1:Nat)(x2:Int)(x3:Nat)(x4:Int)(x5:Nat):=Obj.mk vn none (Data.fields (A [vi x0 0,vi 4 0,vr x1,vi x2 0,vi 4 0,vr x3,vi x4 0,vi 4 0,vr x5])) E
def c0_456:=m24 231 464 234 471 237 478
def c0_457:=m0 q43 798 799 800 229 455 456 801 802
def c0_458:=m1 457 454 q4 671
def c0_461:=m2 q62 811
def c0_463:=m3 q96 q160 (M 35 0)
def c0_464:=m4 q96 808 q160 809 810 231 1 459 460 461 462 463 812 813
def c0_465:=m5 q96 q160 (M 35 0) q4 671 464
def c0_468:=m9 q62 818 q150 819 q151 820
def c0_470:=m3 q144 q161 (M 35 1)
def c0_471:=m4 q144 815 q161 816 817 234 3 466 467 468 469 470 821 822
def c0_472:=m5 q144 q161 (M 35 1) q4 671 471
def c0_475:=m2 q62 827
def c0_477:=m3 q147 q162 (M 35 2)
def c0_478:=m4 q147 824 q162 825 826 237 1 473 474 475 476 477 828 829
def c0_479:=m5 q147 q162 (M 35 2) q4 671 478
def m25(x0:Nat)(x1:Nat)(x2:Int)(x3:Nat)(x4:Str)(x5:Nat)(x6:Nat)(x7:Nat)(x8:Nat)(x9:Nat)(x10:Nat)(x11:Nat)(x12:Nat)(x13:Nat):=Obj.mk y3 none (Data.dict (A [de P q52 x0 (vs q4 671),de P q55 x1 (vi x2 x3),de P x4 x5 (vr x6),de P q144 x7 (vr x8),de P q147 x9 (vr x10),de P q61 x11 (vr x12),de P q5 x13 vn]) 2) E
def c0_481:=m25 P 803 807 229 806 q96 814 465 823 472 830 479 831 480 832
def c0_482:=Obj.mk y8 none (Data.cls (ClassData.mk q43 [vr 449] [vr 482,vr 449,vr 421,y9] 481 q43 true [] [] false none false)) (A [sr 452,none,some (vs q43 796),some (vs q43 804),some y10,some vT])
def c0_483:=m12 482
def c0_484:=m13 482
def c0_487:=m23 P 842 844 q44 843 846 239 845 q96 853 498 862 505 869 512 870 513
def c0_489:=m24 241 497 244 504 247 511
def c0_490:=m0 q44 837 838 839 239 488 489 840 841
def c0_491:=m1 490 487 q4 671
def c0_494:=m2 q62 850
def c0_496:=m3 q96 q163 (M 36 0)
def c0_497:=m4 q96 847 q163 848 849 241 1 492 493 494 495 496 851 852
def c0_498:=m5 q96 q163 (M 36 0) q4 671 497
def c0_501:=m9 q62 857 q150 858 q151 859
def c0_503:=m3 q144 q164 (M 36 1)
def c0_504:=m4 q144 854 q164 855 856 244 3 499 500 501 502 503 860 861
def c0_505:=m5 q144 q164 (M 36 1) q4 671 504
def c0_508:=m2 q62 866
def c0_510:=m3 q147 q165 (M 36 2)
def c0_511:=m4 q147 863 q165 864 865 247 1 506 507 508 509 510 867 868
def c0_512:=m5 q147 q165 (M 36 2) q4 671 511
def c0_514:=m25 P 842 846 239 845 q96 853 498 862 505 869 512 870 513 871
def c0_515:=Obj.mk y8 none (Data.cls (ClassData.mk q44 [vr 449] [vr 515,vr 449,vr 421,y9] 514 q44 true [] [] false none false)) (A [sr 485,none,some (vs q44 835),some (vs q44 843),some y10,some vT])
def c0_516:=m12 515
def c0_517:=m13 515
def c0_520:=m7 P 881 q4 671 883 q45 882 885 249 884 895 531 q143 902 538 q96 909 545 q144 915 550 q147 922 557 926 558
def c0_522:=m8 251 530 256 537 259 544 262 549 265 556
def c0_523:=m0 q45 876 877 878 249 521 522 879 880
def c0_524:=m1 523 520 q4 671
def c0_527:=m22 q62 889 q156 890 q166 891 q167 892
def c0_529:=m3 q56 q168 (M 37 0)
def c0_530:=m4 q56 886 q168 887 888 251 4 525 526 527 528 529 893 894
def c0_531:=m5 q56 q168 (M 37 0) q4 671 530
def c0_534:=m2 q62 899
def c0_536:=m3 q143 q169 (M 37 1)
def c0_537:=m4 q143 896 q169 897 898 256 1 532 533 534 535 536 900 901
def c0_538:=m5 q143 q169 (M 37 1) q4 671 537
def c0_541:=m2 q62 906
def c0_543:=m3 q96 q170 (M 37 2)
def c0_544:=m4 q96 903 q170 904 905 259 1 539 540 541 542 543 907 908
def c0_545:=m5 q96 q170 (M 37 2) q4 671 544
def c0_548:=m3 q144 q171 (M 37 3)
def c0_549:=m20 q144 910 q171 911 912 262 3 546 547 548 913 914
def c0_550:=m5 q144 q171 (M 37 3) q4 671 549
def c0_553:=m2 q62 919
def c0_555:=m3 q147 q172 (M 37 4)
def c0_556:=m4 q147 916 q172 917 918 265 1 551 552 553 554 555 920 921
def c0_557:=m5 q147 q172 (M 37 4) q4 671 556
def c0_558:=m9 q167 923 q166 924 q156 925
def c0_559:=Obj.mk y3 none (Data.dict (A [de P q52 881 (vs q4 671),de P q55 885 (vi 249 884),de P q56 895 (vr 531),de P q143 902 (vr 538),de P q96 909 (vr 545),de P q144 915 (vr 550),de P q147 922 (vr 557),de P q61 926 (vr 558),de P q5 927 vn]) 2) E
def c0_560:=Obj.mk y8 none (Data.cls (ClassData.mk q45 [vr 421] [vr 560,vr 421,y9] 559 q45 true [] [] false none false)) (A [sr 518,none,some (vs q45 874),some (vs q45 882),some y10,some vT])
def c0_561:=m12 560
def c0_562:=m13 560
def c0_565:=Obj.mk y3 none (Data.dict (A [de P q52 937 (vs q4 671),de P q54 939 (vs q46 938),de P q55 941 (vi 267 940),de P q96 948 (vr 576),de P q144 957 (vr 583),de P q146 964 (vr 590),de P q147 971 (vr 597),de P q61 972 (vr 598)]) 8) E
def c0_567:=Obj.mk vn none (Data.fields (A [vi 269 0,vi 4 0,vr 575,vi 272 0,vi 4 0,vr 582,vi 275 0,vi 4 0,vr 589,vi 278 0,vi 4 0,vr 596])) E
def c0_568:=m0 q46 932 933 934 267 566 567 935 936
def c0_569:=m1 568 565 q4 671
def c0_572:=m2 q62 945
def c0_574:=m3 q96 q173 (M 38 0)
def c0_575:=m4 q96 942 q173 943 944 269 1 570 571 572 573 574 946 947
def c0_576:=m5 q96 q173 (M 38 0) q4 671 575
def c0_579:=m9 q62 952 q150 953 q151 954
def c0_581:=m3 q144 q174 (M 38 1)
def c0_582:=m4 q144 949 q174 950 951 272 3 577 578 579 580 581 955 956
def c0_583:=m5 q144 q174 (M 38 1) q4 671 582
def c0_586:=m2 q62 961
def c0_588:=m3 q146 q175 (M 38 2)
def c0_589:=m4 q146 958 q175 959 960 275 1 584 585 586 587 588 962 963
def c0_590:=m5 q146 q175 (M 38 2) q4 671 589
def c0_593:=m2 q62 968
def c0_595:=m3 q147 q176 (M 38 3)
def c0_596:=m4 q147 965 q176 966 967 278 1 591 592 593 594 595 969 970
def c0_597:=m5 q147 q176 (M 38 3) q4 671 596
def c0_599:=Obj.mk y3 none (Data.dict (A [de P q52 937 (vs q4 671),de P q55 941 (vi 267 940),de P q96 948 (vr 576),de P q144 957 (vr 583),de P q146 964 (vr 590),de P q147 971 (vr 597),de P q61 972 (vr 598),de P q5 973 vn]) 2) E
def c0_600:=Obj.mk y8 none (Data.cls (ClassData.mk q46 [vr 449] [vr 600,vr 449,vr 421,y9] 599 q46 true [] [] false none false)) (A [sr 563,none,some (vs q46 930),some (vs q46 938),some y10,some vT])
def c0_601:=m12 600
def c0_602:=m13 600
def c0_605:=m7 P 983 q4 671 985 q47 984 987 280 986 997 616 q96 1004 623 q144 1013 630 q145 1021 637 q147 1028 644 1030 645
def c0_607:=m8 282 615 286 622 289 629 292 636 295 643
def c0_608:=m0 q47 978 979 980 280 606 607 981 982
def c0_609:=m1 608 605 q4 671
def c0_612:=m22 q62 991 q156 992 q157 993 q177 994
def c0_614:=m3 q56 q178 (M 39 0)
def c0_615:=m4 q56 988 q178 989 990 282 4 610 611 612 613 614 995 996
def c0_616:=m5 q56 q178 (M 39 0) q4 671 615
def c0_619:=m2 q62 1001
def c0_621:=m3 q96 q179 (M 39 1)
def c0_622:=m4 q96 998 q179 999 1000 286 1 617 618 619 620 621 1002 1003
def c0_623:=m5 q96 q179 (M 39 1) q4 671 622
def c0_626:=m9 q62 1008 q150 1009 q151 1010
def c0_628:=m3 q144 q180 (M 39 2)
def c0_629:=m4 q144 1005 q180 1006 1007 289 3 624 625 626 627 628 1011 1012
def c0_630:=m5 q144 q180 (M 39 2) q4 671 629
def c0_633:=m6 q62 1017 q151 1018
def c0_635:=m3 q145 q181 (M 39 3)
def c0_636:=m4 q145 1014 q181 1015 1016 292 2 631 632 633 634 635 1019 1020
def c0_637:=m5 q145 q181 (M 39 3) q4 671 636
def c0_640:=m2 q62 1025
def c0_642:=m3 q147 q182 (M 39 4)
def c0_643:=m4 q147 1022 q182 1023 1024 295 1 638 639 640 641 642 1026 1027
def c0_644:=m5 q147 q182 (M 39 4) q4 671 643
def c0_645:=m2 q177 1029
def c0_646:=Obj.mk y3 none (Data.dict (A [de P q52 983 (vs q4 671),de P q55 987 (vi 280 986),de P q56 997 (vr 616),de P q96 1004 (vr 623),de P q144 1013 (vr 630),de P q145 1021 (vr 637),de P q147 1028 (vr 644),de P q61 1030 (vr 645),de P q5 1031 vn]) 2) E
def c0_647:=Obj.mk y8 none (Data.cls (ClassData.mk q47 [vr 449] [vr 647,vr 449,vr 421,y9] 646 q47 true [] [] false none false)) (A [sr 603,none,some (vs q47 976),some (vs q47 984),some y10,some vT])
def c0_648:=m12 647
def c0_649:=m13 647
def tc0_:=nd (boot_o_0 P) (nd (boot_o_1 P) (nd (c0_3 P) (nd (boot_o_7 P) (nd a11 (nd c0_31 (nd a12 (nd c0_127 (nd c0_255 (l1 c0_511) .nil) (nd c0_383 (l1 a12) .nil)) (nd (c0_191 P) (nd c0_319 (l1 c0_575) .nil) (l1 c0_447))) (nd c0_76 (nd c0_159 (nd a11 (l1 c0_543) .nil) (l1 a11)) (nd a12 (nd a11 (l1 c0_607) .nil) (l1 c0_479)))) (nd c0_47 (nd a11 (nd a11 (nd c0_271 (l1 c0_527) .nil) (l1 a12)) (nd c0_207 (nd a12 (l1 a11) .nil) (l1 c0_463))) (nd c0_111 (nd c0_175 (nd c0_303 (l1 (c0_559 P)) .nil) (l1 c0_431)) (nd a11 (nd c0_367 (l1 c0_623) .nil) (l1 a11))))) (nd c0_23 (nd c0_39 (nd c0_71 (nd c0_135 (nd a11 (l1 c0_28) .nil) (nd a11 (l1 c0_647) .nil)) (nd a11 (nd a11 (l1 c0_583) .nil) (l1 a11))) (nd a12 (nd (c0_167 P) (nd a12 (l1 a11) .nil) (l1 c0_423)) (nd c0_231 (nd c0_359 (l1 c0_615) .nil) (l1 (c0_487 P))))) (nd a11 (nd c0_87 (nd c0_151 (nd c0_279 (l1 a11) .nil) (l1 c0_407)) (nd a11 (nd c0_343 (l1 (c0_599 P)) .nil) (l1 c0_471))) (nd c0_119 (nd c0_183 (nd c0_311 (l1 c0_567) .nil) (l1 c0_439)) (nd a12 (nd c0_375 (l1 a11) .nil) (l1 c0_503)))))) (nd a11 (nd c0_19 (nd a12 (nd c0_67 (nd c0_131 (nd a11 (l1 c0_515) .nil) (nd a11 (l1 c0_643) .nil)) (nd c0_195 (nd a11 (l1 c0_579) .nil) (l1 c0_451))) (nd c0_99 (nd c0_163 (nd c0_291 (l1 a12) .nil) (l1 a11)) (nd a11 (nd a11 (l1 a12) .nil) (l1 c0_483)))) (nd a11 (nd a11 (nd a11 (nd c0_275 (l1 c0_531) .nil) (l1 c0_403)) (nd a11 (nd c0_339 (l1 c0_595) .nil) (l1 a12))) (nd c0_28 (nd (c0_179 P) (nd c0_28 (l1 c0_452) .nil) (l1 c0_435)) (nd c0_243 (nd c0_28 (l1 a11) .nil) (l1 a11))))) (nd a11 (nd c0_43 (nd c0_75 (nd c0_139 (nd c0_267 (l1 c0_523) .nil) (l1 c0_395)) (nd c0_203 (nd c0_331 (l1 a11) .nil) (l1 a11))) (nd c0_107 (nd c0_171 (nd a11 (l1 c0_555) .nil) (l1 c0_28)) (nd a11 (nd (c0_363 P) (l1 c0_619) .nil) (l1 c0_491)))) (nd c0_59 (nd (c0_91 P) (nd (c0_155 P) (nd c0_283 (l1 a11) .nil) (l1 c0_411)) (nd c0_219 (nd c0_347 (l1 c0_452) .nil) (l1 c0_475))) (nd c0_123 (nd c0_187 (nd c0_315 (l1 a12) .nil) (l1 a11)) (nd a11 (nd c0_379 (l1 c0_635) .nil) (l1 a12))))))) (nd (boot_o_5 P) (nd (boot_o_9 P) (nd c0_17 (nd c0_33 (nd a11 (nd (c0_129 P) (nd a12 (l1 a11) .nil) (nd a12 (l1 a11) .nil)) (nd c0_193 (nd a12 (l1 a11) .nil) (l1 c0_449))) (nd (c0_97 P) (nd (c0_161 P) (nd c0_289 (l1 c0_545) .nil) (l1 c0_417)) (nd c0_225 (nd c0_353 (l1 c0_609) .nil) (l1 (c0_481 P))))) (nd a12 (nd c0_81 (nd c0_145 (nd a11 (l1 c0_529) .nil) (l1 a11)) (nd c0_28 (nd a11 (l1 c0_593) .nil) (l1 c0_465))) (nd c0_113 (nd c0_153 (nd c0_305 (l1 c0_561) .nil) (l1 a11)) (nd c0_241 (nd (c0_369 P) (l1 a12) .nil) (l1 c0_497))))) (nd c0_25 (nd a11 (nd c0_73 (nd c0_137 (nd c0_265 (l1 a11) .nil) (nd c0_393 (l1 c0_649) .nil)) (nd c0_201 (nd c0_329 (l1 a12) .nil) (l1 c0_457))) (nd a11 (nd a12 (nd c0_297 (l1 c0_553) .nil) (l1 c0_425)) (nd a12 (nd c0_361 (l1 a11) .nil) (l1 c0_489)))) (nd c0_57 (nd c0_89 (nd c0_153 (nd (c0_281 P) (l1 c0_537) .nil) (l1 c0_409)) (nd c0_217 (nd c0_345 (l1 c0_601) .nil) (l1 a11))) (nd a11 (nd (c0_185 P) (nd a11 (l1 c0_569) .nil) (l1 a12)) (nd c0_249 (nd a11 (l1 c0_633) .nil) (l1 c0_505)))))) (nd a13 (nd c0_21 (nd a11 (nd c0_69 (nd a11 (nd c0_261 (l1 c0_517) .nil) (nd c0_389 (l1 c0_645) .nil)) (nd a12 (nd c0_325 (l1 c0_581) .nil) (l1 c0_28))) (nd c0_101 (nd c0_153 (nd c0_293 (l1 c0_549) .nil) (l1 c0_421)) (nd c0_229 (nd c0_357 (l1 a11) .nil) (l1 c0_452)))) (nd c0_53 (nd c0_85 (nd c0_149 (nd c0_277 (l1 a12) .nil) (l1 a11)) (nd c0_213 (nd a11 (l1 c0_597) .nil) (l1 a11))) (nd a11 (nd a12 (nd a11 (l1 (c0_565 P)) .nil) (l1 c0_437)) (nd c0_245 (nd a11 (l1 c0_629) .nil) (l1 c0_501))))) (nd (c0_29 P) (nd c0_45 (nd c0_28 (nd c0_28 (nd a12 (l1 a11) .nil) (l1 c0_397)) (nd c0_205 (nd c0_333 (l1 c0_589) .nil) (l1 c0_461))) (nd a11 (nd (c0_173 P) (nd c0_301 (l1 c0_557) .nil) (l1 a11)) (nd c0_237 (nd c0_365 (l1 c0_621) .nil) (l1 a12)))) (nd c0_61 (nd c0_93 (nd a12 (nd c0_285 (l1 c0_541) .nil) (l1 a12)) (nd c0_221 (nd a12 (l1 (c0_605 P)) .nil) (l1 c0_477))) (nd c0_125 (nd c0_153 (nd c0_317 (l1 a11) .nil) (l1 c0_445)) (nd c0_253 (nd c0_381 (l1 c0_637) .nil) (l1 a11)))))))) (nd (boot_o_2 P) (nd (boot_o_4 P) (nd (boot_o_8 P) (nd a12 (nd c0_32 (nd c0_64 (nd a11 (nd a11 (l1 c0_512) .nil) (nd a11 (l1 c0_640) .nil)) (nd a11 (nd a11 (l1 c0_576) .nil) (l1 (c0_448 P)))) (nd c0_28 (nd a11 (nd a12 (l1 c0_544) .nil) (l1 c0_416)) (nd c0_224 (nd c0_352 (l1 c0_608) .nil) (l1 a11)))) (nd a11 (nd c0_80 (nd a12 (nd c0_272 (l1 a11) .nil) (l1 c0_400)) (nd a11 (nd c0_336 (l1 a12) .nil) (l1 c0_464))) (nd c0_112 (nd c0_176 (nd c0_304 (l1 c0_560) .nil) (l1 c0_432)) (nd a12 (nd c0_368 (l1 a11) .nil) (l1 c0_496))))) (nd c0_24 (nd c0_40 (nd c0_72 (nd a11 (nd a12 (l1 (c0_520 P)) .nil) (nd a12 (l1 c0_648) .nil)) (nd c0_200 (nd a12 (l1 a11) .nil) (l1 c0_456))) (nd c0_104 (nd a11 (nd c0_296 (l1 a12) .nil) (l1 c0_424)) (nd a11 (nd c0_360 (l1 c0_616) .nil) (l1 a11)))) (nd a12 (nd c0_88 (nd c0_152 (nd c0_280 (l1 c0_536) .nil) (l1 a11)) (nd a12 (nd a11 (l1 c0_600) .nil) (l1 c0_472))) (nd c0_120 (nd a11 (nd c0_312 (l1 c0_568) .nil) (l1 a11)) (nd c0_248 (nd c0_376 (l1 a12) .nil) (l1 c0_504)))))) (nd c0_12 (nd c0_20 (nd c0_36 (nd c0_68 (nd c0_132 (nd c0_260 (l1 c0_516) .nil) (nd c0_388 (l1 c0_644) .nil)) (nd a11 (nd c0_324 (l1 a11) .nil) (l1 c0_452))) (nd c0_100 (nd c0_164 (nd c0_292 (l1 c0_548) .nil) (l1 (c0_420 P))) (nd a12 (nd a12 (l1 c0_612) .nil) (l1 c0_484)))) (nd c0_52 (nd a12 (nd (c0_148 P) (nd a11 (l1 a11) .nil) (l1 c0_404)) (nd c0_212 (nd c0_340 (l1 c0_596) .nil) (l1 c0_468))) (nd (c0_116 P) (nd a11 (nd (c0_308 P) (l1 c0_28) .nil) (l1 a11)) (nd c0_244 (nd (c0_372 P) (l1 c0_628) .nil) (l1 a12))))) (nd c0_28 (nd a11 (nd c0_76 (nd c0_140 (nd a11 (l1 c0_524) .nil) (l1 c0_396)) (nd (c0_204 P) (nd c0_332 (l1 c0_588) .nil) (l1 a12))) (nd c0_108 (nd a11 (nd a12 (l1 c0_556) .nil) (l1 (c0_428 P))) (nd c0_236 (nd c0_364 (l1 a11) .nil) (l1 a11)))) (nd c0_60 (nd c0_92 (nd a11 (nd c0_284 (l1 a12) .nil) (l1 a11)) (nd c0_220 (nd a11 (l1 c0_28) .nil) (l1 a11))) (nd a11 (nd c0_188 (nd a11 (l1 c0_572) .nil) (l1 c0_444)) (nd a12 (nd a11 (l1 c0_636) .nil) (l1 c0_508))))))) (nd (boot_o_6 P) (nd (boot_o_10 P) (nd a11 (nd a11 (nd c0_66 (nd c0_130 (nd c0_258 (l1 (c0_514 P)) .nil) (nd c0_386 (l1 c0_642) .nil)) (nd c0_194 (nd c0_322 (l1 a12) .nil) (l1 c0_450))) (nd a11 (nd c0_162 (nd a11 (l1 a11) .nil) (l1 c0_418)) (nd c0_226 (nd c0_354 (l1 a11) .nil) (l1 c0_482)))) (nd c0_50 (nd c0_82 (nd c0_146 (nd a12 (l1 c0_530) .nil) (l1 c0_402)) (nd (c0_210 P) (nd c0_338 (l1 a11) .nil) (l1 a11))) (nd c0_76 (nd c0_28 (nd a11 (l1 c0_562) .nil) (l1 a12)) (nd a11 (nd a11 (l1 c0_626) .nil) (l1 c0_498))))) (nd c0_26 (nd a12 (nd c0_74 (nd c0_138 (nd c0_266 (l1 c0_522) .nil) (l1 a11)) (nd c0_202 (nd a11 (l1 c0_586) .nil) (l1 c0_458))) (nd c0_106 (nd c0_170 (nd c0_298 (l1 a11) .nil) (l1 c0_426)) (nd c0_234 (nd c0_362 (l1 a12) .nil) (l1 c0_490)))) (nd a11 (nd a11 (nd c0_28 (nd c0_282 (l1 c0_538) .nil) (l1 c0_410)) (nd a11 (nd c0_346 (l1 c0_602) .nil) (l1 a12))) (nd a12 (nd c0_186 (nd a12 (l1 a11) .nil) (l1 c0_442)) (nd c0_250 (nd a12 (l1 a11) .nil) (l1 a11)))))) (nd a14 (nd (c0_22 P) (nd c0_38 (nd (c0_70 P) (nd a12 (nd c0_262 (l1 c0_426) .nil) (nd c0_390 (l1 (c0_646 P)) .nil)) (nd c0_198 (nd c0_326 (l1 c0_582) .nil) (l1 (c0_454 P)))) (nd a11 (nd c0_28 (nd a11 (l1 c0_550) .nil) (l1 c0_422)) (nd c0_230 (nd a11 (l1 c0_614) .nil) (l1 c0_28)))) (nd c0_54 (nd a11 (nd c0_150 (nd c0_278 (l1 c0_534) .nil) (l1 a12)) (nd c0_214 (nd a12 (l1 a11) .nil) (l1 c0_470))) (nd c0_118 (nd c0_182 (nd c0_310 (l1 a11) .nil) (l1 c0_438)) (nd a11 (nd c0_374 (l1 c0_630) .nil) (l1 a11))))) (nd a11 (nd c0_46 (nd (c0_78 P) (nd (c0_142 P) (nd c0_270 (l1 a12) .nil) (l1 a11)) (nd c0_206 (nd a11 (l1 c0_590) .nil) (l1 a11))) (nd (c0_110 P) (nd c0_174 (nd a11 (l1 c0_558) .nil) (l1 c0_430)) (nd c0_238 (nd c0_366 (l1 c0_622) .nil) (l1 c0_494)))) (nd a11 (nd c0_94 (nd c0_158 (nd c0_286 (l1 a11) .nil) (l1 c0_414)) (nd a11 (nd c0_350 (l1 a11) .nil) (l1 c0_478))) (nd c0_126 (nd c0_28 (nd c0_318 (l1 c0_574) .nil) (l1 c0_446)) (nd c0_254 (nd c0_382 (l1 a11) .nil) (l1 c0_510))))))))
def c1_3:=Obj.mk y3 none (Data.dict (A [de P q3 165 (vs q183 1516),de P q5 166 vn,de P q6 167 vn,de P q7 168 y4,de P q8 169 vn,de P q9 170 (vr 6),de P q10 171 (vr 4),de P q11 173 (vs q1 172),de P q12 174 vn,de P q13 193 (vr 21),de P q14 205 (vr 22),de P q15 212 (vr 26),de P q16 275 (vr 71),de P q17 298 (vr 92),de P q18 321 (vr 111),de P q19 344 (vr 130),de P q20 351 (vr 139),de P q21 371 (vr 149),de P q22 387 (vr 162),de P q23 403 (vr 174),de P q24 419 (vr 186),de P q25 444 (vr 205),de P q26 548 (vr 282),de P q27 552 (vi 400 551),de P q28 554 (vi 2000 553),de P q29 556 (vi 2000 555),de P q30 558 (vi 8 557),de P q31 560 (vi 100000 559),de P q32 562 (vi 32 561),de P q33 564 (vi 37 563),de P q34 566 (vi 126 565),de P q35 573 (vr 293),de P q36 579 (vr 298),de P q37 587 (vr 305),de P q38 670 (vr 364),de P q39 674 (vi 40 673),de P q40 696 (vr 369),de P q41 761 (vr 421),de P q42 795 (vr 449),de P q43 834 (vr 482),de P q44 873 (vr 515),de P q45 929 (vr 560),de P q46 975 (vr 600),de P q47 1033 (vr 647),de P q184 1074 (vr 680),de P q185 1115 (vr 713),de P q186 1121 (vr 720),de P q117 1130 (vr 727),de P q187 1138 (vr 734),de P q188 1147 (vr 741),de P q189 1327 (vr 859),de P q190 1393 (vr 906),de P q191 1515 (vr 1002),de P q192 1525 (vr 1013),de P q193 1532 (vr 1020),de P q194 1543 (vr 1027),de P q195 1552 (vr 1034),de P q196 1561 (vr 1041),de P q197 1567 (vr 1046),de P q198 1579 (vr 1053),de P q199 1590 (vr 1060),de P q200 1606 (vr 1067),de P q201 1612 (vr 1072)]) 63) E
def c1_12:=Obj.mk vn none (Data.fields (A [vi 1 0,vi 0 0,vr 20,vi 7 0,vi 0 0,vr 32,vi 26 0,vi 0 0,vr 81,vi 30 0,vi 0 0,vr 100,vi 34 0,vi 0 0,vr 119,vi 38 0,vi 0 0,vr 138,vi 45 0,vi 0 0,vr 145,vi 47 0,vi 0 0,vr 158,vi 49 0,vi 0 0,vr 170,vi 51 0,vi 0 0,vr 182,vi 53 0,vi 0 0,vr 194,vi 58 0,vi 0 0,vr 213,vi 120 0,vi 0 0,vr 292,vi 122 0,vi 0 0,vr 297,vi 132 0,vi 0 0,vr 304,vi 135 0,vi 0 0,vr 311,vi 202 0,vi 0 0,vr 375,vi 221 0,vi 0 0,vr 431,vi 229 0,vi 0 0,vr 457,vi 239 0,vi 0 0,vr 490,vi 249 0,vi 0 0,vr 523,vi 267 0,vi 0 0,vr 568,vi 280 0,vi 0 0,vr 608,vi 297 0,vi 0 0,vr 655,vi 307 0,vi 0 0,vr 688,vi 319 0,vi 0 0,vr 719,vi 325 0,vi 0 0,vr 726,vi 335 0,vi 0 0,vr 733,vi 349 0,vi 0 0,vr 740,vi 354 0,vi 0 0,vr 747,vi 439 0,vi 0 0,vr 869,vi 462 0,vi 0 0,vr 916,vi 524 0,vi 0 0,vr 1012,vi 528 0,vi 0 0,vr 1019,vi 532 0,vi 0 0,vr 1026,vi 541 0,vi 0 0,vr 1033,vi 551 0,vi 0 0,vr 1040,vi 556 0,vi 0 0,vr 1045,vi 570 0,vi 0 0,vr 1052,vi 576 0,vi 0 0,vr 1059,vi 580 0,vi 0 0,vr 1066,vi 591 0,vi 0 0,vr 1071])) E
def c1_421:=Obj.mk y8 none (Data.cls (ClassData.mk q41 [y9] [vr 421,y9] 420 q41 true [] [vr 449,vr 560,vr 680,vr 713] false none false)) (A [none,none,some (vs q41 697),some (vs q41 705),some y10,some vT])
def c1_652:=m23 P 1041 1043 q184 1042 1045 297 1044 q56 1053 663 1062 670 1069 677 1071 678
def c1_654:=m24 299 662 302 669 305 676
def c1_655:=m0 q184 1036 1037 1038 297 653 654 1039 1040
def c1_656:=m1 655 652 q4 671
def c1_659:=m6 q62 1049 q177 1050
def c1_661:=m3 q56 q202 (M 40 0)
def c1_662:=m4 q56 1046 q202 1047 1048 299 2 657 658 659 660 661 1051 1052
def c1_663:=m5 q56 q202 (M 40 0) q4 671 662
def c1_666:=m9 q62 1057 q150 1058 q151 1059
def c1_668:=m3 q144 q203 (M 40 1)
def c1_669:=m4 q144 1054 q203 1055 1056 302 3 664 665 666 667 668 1060 1061
def c1_670:=m5 q144 q203 (M 40 1) q4 671 669
def c1_673:=m2 q62 1066
def c1_675:=m3 q147 q204 (M 40 2)
def c1_676:=m4 q147 1063 q204 1064 1065 305 1 671 672 673 674 675 1067 1068
def c1_677:=m5 q147 q204 (M 40 2) q4 671 676
def c1_678:=m2 q177 1070
def c1_679:=m25 P 1041 1045 297 1044 q56 1053 663 1062 670 1069 677 1071 678 1072
def c1_680:=Obj.mk y8 none (Data.cls (ClassData.mk q184 [vr 421] [vr 680,vr 421,y9] 679 q184 true [] [] false none false)) (A [sr 650,none,some (vs q184 1034),some (vs q184 1042),some y10,some vT])
def c1_681:=m12 680
def c1_682:=m13 680
def c1_685:=m23 P 1082 1084 q185 1083 1086 307 1085 q56 1094 696 1103 703 1110 710 1112 711
def c1_687:=m24 309 695 312 702 317 709
def c1_688:=m0 q185 1077 1078 1079 307 686 687 1080 1081
def c1_689:=m1 688 685 q4 671
def c1_692:=m6 q62 1090 q177 1091
def c1_694:=m3 q56 q205 (M 41 0)
def c1_695:=m4 q56 1087 q205 1088 1089 309 2 690 691 692 693 694 1092 1093
def c1_696:=m5 q56 q205 (M 41 0) q4 671 695
def c1_699:=m9 q62 1098 q150 1099 q151 1100
def c1_701:=m3 q144 q206 (M 41 1)
def c1_702:=m4 q144 1095 q206 1096 1097 312 3 697 698 699 700 701 1101 1102
def c1_703:=m5 q144 q206 (M 41 1) q4 671 702
def c1_706:=m2 q62 1107
def c1_708:=m3 q147 q207 (M 41 2)
def c1_709:=m4 q147 1104 q207 1105 1106 317 1 704 705 706 707 708 1108 1109
def c1_710:=m5 q147 q207 (M 41 2) q4 671 709
def c1_711:=m2 q177 1111
def c1_712:=m25 P 1082 1086 307 1085 q56 1094 696 1103 703 1110 710 1112 711 1113
def c1_713:=Obj.mk y8 none (Data.cls (ClassData.mk q185 [vr 421] [vr 713,vr 421,y9] 712 q185 true [] [] false none false)) (A [sr 683,none,some (vs q185 1075),some (vs q185 1083),some y10,some vT])
def c1_714:=m12 713
def c1_715:=m13 713
def c1_718:=m3 q186 q186 (B 42)
def c1_719:=m20 q186 1116 q186 1117 1118 319 1 716 717 718 1119 1120
def c1_720:=m5 q186 q186 (B 42) q4 671 719
def c1_723:=m9 q208 1125 q209 1126 q112 1127
def c1_725:=m3 q117 q117 (B 43)
def c1_726:=m4 q117 1122 q117 1123 1124 325 2 721 722 723 724 725 1128 1129
def c1_727:=m5 q117 q117 (B 43) q4 671 726
def c1_730:=m6 q208 1134 q210 1135
def c1_732:=m3 q187 q187 (B 44)
def c1_733:=m4 q187 1131 q187 1132 1133 335 2 728 729 730 731 732 1136 1137
def c1_734:=m5 q187 q187 (B 44) q4 671 733
def c1_737:=m9 q156 1142 q166 1143 q167 1144
def c1_739:=m3 q188 q188 (B 45)
def c1_740:=m4 q188 1139 q188 1140 1141 349 3 735 736 737 738 739 1145 1146
def c1_741:=m5 q188 q188 (B 45) q4 671 740
def c1_744:=Obj.mk y3 none (Data.dict (A [de P q52 1157 (vs q211 1148),de P q54 1159 (vs q189 1158),de P q55 1161 (vi 354 1160),de P q56 1172 (vr 755),de P q212 1181 (vr 762),de P q213 1193 (vr 769),de P q214 1206 (vr 776),de P q215 1216 (vr 783),de P q216 1226 (vr 790),de P q217 1232 (vr 795),de P q218 1242 (vr 802),de P q219 1254 (vr 809),de P q220 1265 (vr 816),de P q221 1274 (vr 823),de P q222 1282 (vr 830),de P q223 1292 (vr 837),de P q86 1299 (vr 844),de P q87 1306 (vr 851),de P q224 1312 (vr 856),de P q61 1320 (vr 857)]) 20) E
def c1_746:=Obj.mk vn none (Data.fields (A [vi 356 0,vi 4 0,vr 754,vi 367 0,vi 4 0,vr 761,vi 372 0,vi 4 0,vr 768,vi 383 0,vi 4 0,vr 775,vi 392 0,vi 4 0,vr 782,vi 396 0,vi 4 0,vr 789,vi 399 0,vi 4 0,vr 794,vi 408 0,vi 4 0,vr 801,vi 415 0,vi 4 0,vr 808,vi 418 0,vi 4 0,vr 815,vi 421 0,vi 4 0,vr 822,vi 424 0,vi 4 0,vr 829,vi 427 0,vi 4 0,vr 836,vi 430 0,vi 4 0,vr 843,vi 433 0,vi 4 0,vr 850,vi 436 0,vi 4 0,vr 855])) E
def c1_747:=m0 q189 1152 1153 1154 354 745 746 1155 1156
def c1_748:=m1 747 744 q211 1148
def c1_751:=m21 q62 1165 q225 1166 q226 1167 q130 1168 q227 1169
def c1_753:=m3 q56 q228 (M 47 0)
def c1_754:=m4 q56 1162 q228 1163 1164 356 4 749 750 751 752 753 1170 1171
def c1_755:=m5 q56 q228 (M 47 0) q211 1148 754
def c1_758:=m9 q62 1176 q227 1177 q60 1178
def c1_760:=m3 q212 q229 (M 47 1)
def c1_761:=m4 q212 1173 q229 1174 1175 367 2 756 757 758 759 760 1179 1180
def c1_762:=m5 q212 q229 (M 47 1) q211 1148 761
def c1_765:=Obj.mk y0 none (Data.seq (A [vs q62 1185,vs q230 1186,vs q95 1187,vs q231 1188,vs q150 1189,vs q119 1190]) 0) E
def c1_767:=m3 q213 q232 (M 47 2)
def c1_768:=m4 q213 1182 q232 1183 1184 372 6 763 764 765 766 767 1191 1192
def c1_769:=m5 q213 q232 (M 47 2) q211 1148 768
def c1_772:=m21 q62 1197 q230 1198 q95 1199 q233 1200 q85 1201
def c1_773:=m6 q62 1202 q95 1203
def c1_774:=m3 q214 q234 (M 47 3)
def c1_775:=m4 q214 1194 q234 1195 1196 383 4 770 771 772 773 774 1204 1205
def c1_776:=m5 q214 q234 (M 47 3) q211 1148 775
def c1_779:=m22 q62 1210 q95 1211 q157 1212 q235 1213
def c1_781:=m3 q215 q236 (M 47 4)
def c1_782:=m4 q215 1207 q236 1208 1209 392 3 777 778 779 780 781 1214 1215
def c1_783:=m5 q215 q236 (M 47 4) q211 1148 782
def c1_786:=m22 q62 1220 q230 1221 q95 1222 q231 1223
def c1_788:=m3 q216 q237 (M 47 5)
def c1_789:=m4 q216 1217 q237 1218 1219 396 4 784 785 786 787 788 1224 1225
def c1_790:=m5 q216 q237 (M 47 5) q211 1148 789
def c1_793:=m3 q217 q238 (M 47 6)
def c1_794:=m20 q217 1227 q238 1228 1229 399 4 791 792 793 1230 1231
def c1_795:=m5 q217 q238 (M 47 6) q211 1148 794
def c1_798:=m22 q62 1236 q230 1237 q95 1238 q239 1239
def c1_800:=m3 q218 q240 (M 47 7)
def c1_801:=m4 q218 1233 q240 1234 1235 408 3 796 797 798 799 800 1240 1241
def c1_802:=m5 q218 q240 (M 47 7) q211 1148 801
def c1_805:=Obj.mk y0 none (Data.seq (A [vs q62 1246,vs q230 1247,vs q95 1248,vs q231 1249,vs q150 1250,vs q119 1251]) 0) E
def c1_807:=m3 q219 q241 (M 47 8)
def c1_808:=m4 q219 1243 q241 1244 1245 415 6 803 804 805 806 807 1252 1253
def c1_809:=m5 q219 q241 (M 47 8) q211 1148 808
def c1_812:=m21 q62 1258 q230 1259 q95 1260 q231 1261 q119 1262
def c1_814:=m3 q220 q242 (M 47 9)
def c1_815:=m4 q220 1255 q242 1256 1257 418 5 810 811 812 813 814 1263 1264
def c1_816:=m5 q220 q242 (M 47 9) q211 1148 815
def c1_819:=m9 q62 1269 q95 1270 q243 1271
def c1_821:=m3 q221 q244 (M 47 10)
def c1_822:=m4 q221 1266 q244 1267 1268 421 3 817 818 819 820 821 1272 1273
def c1_823:=m5 q221 q244 (M 47 10) q211 1148 822
def c1_826:=m6 q62 1278 q230 1279
def c1_828:=m3 q222 q245 (M 47 11)
def c1_829:=m4 q222 1275 q245 1276 1277 424 2 824 825 826 827 828 1280 1281
def c1_830:=m5 q222 q245 (M 47 11) q211 1148 829
def c1_833:=m22 q62 1286 q230 1287 q95 1288 q246 1289
def c1_835:=m3 q223 q247 (M 47 12)
def c1_836:=m4 q223 1283 q247 1284 1285 427 4 831 832 833 834 835 1290 1291
def c1_837:=m5 q223 q247 (M 47 12) q211 1148 836
def c1_840:=m2 q62 1296
def c1_842:=m3 q86 q248 (M 47 13)
def c1_843:=m4 q86 1293 q248 1294 1295 430 1 838 839 840 841 842 1297 1298
def c1_844:=m5 q86 q248 (M 47 13) q211 1148 843
def c1_847:=m2 q62 1303
def c1_849:=m3 q87 q249 (M 47 14)
def c1_850:=m4 q87 1300 q249 1301 1302 433 1 845 846 847 848 849 1304 1305
def c1_851:=m5 q87 q249 (M 47 14) q211 1148 850
def c1_854:=m3 q224 q250 (M 47 15)
def c1_855:=m20 q224 1307 q250 1308 1309 436 2 852 853 854 1310 1311
def c1_856:=m5 q224 q250 (M 47 15) q211 1148 855
def c1_857:=Obj.mk y0 none (Data.seq (A [vs q251 1313,vs q252 1314,vs q226 1315,vs q253 1316,vs q130 1317,vs q254 1318,vs q225 1319]) 0) E
def c1_858:=Obj.mk y3 none (Data.dict (A [de P q52 1157 (vs q211 1148),de P q55 1161 (vi 354 1160),de P q56 1172 (vr 755),de P q212 1181 (vr 762),de P q213 1193 (vr 769),de P q214 1206 (vr 776),de P q215 1216 (vr 783),de P q216 1226 (vr 790),de P q217 1232 (vr 795),de P q218 1242 (vr 802),de P q219 1254 (vr 809),de P q220 1265 (vr 816),de P q221 1274 (vr 823),de P q222 1282 (vr 830),de P q223 1292 (vr 837),de P q86 1299 (vr 844),de P q87 1306 (vr 851),de P q224 1312 (vr 856),de P q61 1320 (vr 857),de P q73 1322 (vr 860),de P q74 1324 (vr 861),de P q5 1325 vn]) 4) E
def c1_859:=Obj.mk y8 none (Data.cls (ClassData.mk q189 [y9] [vr 859,y9] 858 q189 true [] [] false none false)) (A [none,none,some (vs q189 1150),some (vs q189 1158),some y10,some vT])
def c1_860:=m10 1321 859
def c1_861:=m11 1323 859
def c1_862:=m12 859
def c1_863:=m13 859
def c1_866:=m7 P 1337 q255 1328 1339 q190 1338 1341 439 1340 1349 877 q227 1357 884 q256 1368 891 q257 1375 898 q258 1381 903 1386 904
def c1_868:=m8 441 876 447 883 452 890 455 897 458 902
def c1_869:=m0 q190 1332 1333 1334 439 867 868 1335 1336
def c1_870:=m1 869 866 q255 1328
def c1_873:=m6 q62 1345 q225 1346
def c1_875:=m3 q56 q259 (M 49 0)
def c1_876:=m4 q56 1342 q259 1343 1344 441 2 871 872 873 874 875 1347 1348
def c1_877:=m5 q56 q259 (M 49 0) q255 1328 876
def c1_880:=m6 q62 1353 q227 1354
def c1_882:=m3 q227 q260 (M 49 1)
def c1_883:=m4 q227 1350 q260 1351 1352 447 2 878 879 880 881 882 1355 1356
def c1_884:=m5 q227 q260 (M 49 1) q255 1328 883
def c1_887:=m21 q62 1361 q261 1362 q208 1363 q95 1364 q262 1365
def c1_889:=m3 q256 q263 (M 49 2)
def c1_890:=m4 q256 1358 q263 1359 1360 452 5 885 886 887 888 889 1366 1367
def c1_891:=m5 q256 q263 (M 49 2) q255 1328 890
def c1_894:=m2 q62 1372
def c1_896:=m3 q257 q264 (M 49 3)
def c1_897:=m4 q257 1369 q264 1370 1371 455 1 892 893 894 895 896 1373 1374
def c1_898:=m5 q257 q264 (M 49 3) q255 1328 897
def c1_901:=m3 q258 q265 (M 49 4)
def c1_902:=m20 q258 1376 q265 1377 1378 458 1 899 900 901 1379 1380
def c1_903:=m5 q258 q265 (M 49 4) q255 1328 902
def c1_904:=m22 q266 1382 q267 1383 q268 1384 q225 1385
def c1_905:=Obj.mk y3 none (Data.dict (A [de P q52 1337 (vs q255 1328),de P q55 1341 (vi 439 1340),de P q56 1349 (vr 877),de P q227 1357 (vr 884),de P q256 1368 (vr 891),de P q257 1375 (vr 898),de P q258 1381 (vr 903),de P q61 1386 (vr 904),de P q73 1388 (vr 907),de P q74 1390 (vr 908),de P q5 1391 vn]) 4) E
def c1_906:=Obj.mk y8 none (Data.cls (ClassData.mk q190 [y9] [vr 906,y9] 905 q190 true [] [] false none false)) (A [none,none,some (vs q190 1330),some (vs q190 1338),some y10,some vT])
def c1_907:=m10 1387 906
def c1_908:=m11 1389 906
def c1_909:=m12 906
def c1_910:=m13 906
def c1_913:=Obj.mk y3 none (Data.dict (A [de P q52 1403 (vs q269 1394),de P q54 1405 (vs q191 1404),de P q55 1407 (vi 462 1406),de P q56 1415 (vr 924),de P q270 1425 (vr 931),de P q271 1433 (vr 938),de P q272 1441 (vr 945),de P q273 1448 (vr 952),de P q274 1456 (vr 959),de P q275 1463 (vr 966),de P q276 1469 (vr 971),de P q277 1476 (vr 978),de P q278 1483 (vr 985),de P q279 1492 (vr 992),de P q280 1500 (vr 999),de P q61 1508 (vr 1000)]) 16) E
def c1_915:=Obj.mk vn none (Data.fields (A [vi 464 0,vi 4 0,vr 923,vi 473 0,vi 4 0,vr 930,vi 490 0,vi 4 0,vr 937,vi 497 0,vi 4 0,vr 944,vi 500 0,vi 4 0,vr 951,vi 503 0,vi 4 0,vr 958,vi 506 0,vi 4 0,vr 965,vi 509 0,vi 4 0,vr 970,vi 512 0,vi 4 0,vr 977,vi 515 0,vi 4 0,vr 984,vi 518 0,vi 4 0,vr 991,vi 521 0,vi 4 0,vr 998])) E
def c1_916:=m0 q191 1398 1399 1400 462 914 915 1401 1402
def c1_917:=m1 916 913 q269 1394
def c1_920:=m6 q62 1411 q281 1412
def c1_922:=m3 q56 q282 (M 51 0)
def c1_923:=m4 q56 1408 q282 1409 1410 464 2 918 919 920 921 922 1413 1414
def c1_924:=m5 q56 q282 (M 51 0) q269 1394 923
def c1_927:=m22 q62 1419 q227 1420 q51 1421 q95 1422
def c1_929:=m3 q270 q283 (M 51 1)
def c1_930:=m4 q270 1416 q283 1417 1418 473 2 925 926 927 928 929 1423 1424
def c1_931:=m5 q270 q283 (M 51 1) q269 1394 930
def c1_934:=m6 q62 1429 q227 1430
def c1_936:=m3 q271 q284 (M 51 2)
def c1_937:=m4 q271 1426 q284 1427 1428 490 2 932 933 934 935 936 1431 1432
def c1_938:=m5 q271 q284 (M 51 2) q269 1394 937
def c1_941:=m6 q62 1437 q157 1438
def c1_943:=m3 q272 q285 (M 51 3)
def c1_944:=m4 q272 1434 q285 1435 1436 497 2 939 940 941 942 943 1439 1440
def c1_945:=m5 q272 q285 (M 51 3) q269 1394 944
def c1_948:=m2 q62 1445
def c1_950:=m3 q273 q286 (M 51 4)
def c1_951:=m4 q273 1442 q286 1443 1444 500 1 946 947 948 949 950 1446 1447
def c1_952:=m5 q273 q286 (M 51 4) q269 1394 951
def c1_955:=m6 q62 1452 q95 1453
def c1_957:=m3 q274 q287 (M 51 5)
def c1_958:=m4 q274 1449 q287 1450 1451 503 2 953 954 955 956 957 1454 1455
def c1_959:=m5 q274 q287 (M 51 5) q269 1394 958
def c1_962:=m2 q62 1460
def c1_964:=m3 q275 q288 (M 51 6)
def c1_965:=m4 q275 1457 q288 1458 1459 506 1 960 961 962 963 964 1461 1462
def c1_966:=m5 q275 q288 (M 51 6) q269 1394 965
def c1_969:=m3 q276 q289 (M 51 7)
def c1_970:=m20 q276 1464 q289 1465 1466 509 1 967 968 969 1467 1468
def c1_971:=m5 q276 q289 (M 51 7) q269 1394 970
def c1_974:=m2 q62 1473
def c1_976:=m3 q277 q290 (M 51 8)
def c1_977:=m4 q277 1470 q290 1471 1472 512 1 972 973 974 975 976 1474 1475
def c1_978:=m5 q277 q290 (M 51 8) q269 1394 977
def c1_981:=m2 q62 1480
def c1_983:=m3 q278 q291 (M 51 9)
def c1_984:=m4 q278 1477 q291 1478 1479 515 1 979 980 981 982 983 1481 1482
def c1_985:=m5 q278 q291 (M 51 9) q269 1394 984
def c1_988:=m9 q62 1487 q95 1488 q231 1489
def c1_990:=m3 q279 q292 (M 51 10)
def c1_991:=m4 q279 1484 q292 1485 1486 518 3 986 987 988 989 990 1490 1491
def c1_992:=m5 q279 q292 (M 51 10) q269 1394 991
def c1_995:=m6 q62 1496 q95 1497
def c1_997:=m3 q280 q293 (M 51 11)
def c1_998:=m4 q280 1493 q293 1494 1495 521 2 993 994 995 996 997 1498 1499
def c1_999:=m5 q280 q293 (M 51 11) q269 1394 998
def c1_1000:=Obj.mk y0 none (Data.seq (A [vs q294 1501,vs q281 1502,vs q295 1503,vs q296 1504,vs q297 1505,vs q298 1506,vs q299 1507]) 0) E
def c1_1001:=Obj.mk y3 none (Data.dict (A [de P q52 1403 (vs q269 1394),de P q55 1407 (vi 462 1406),de P q56 1415 (vr 924),de P q270 1425 (vr 931),de P q271 1433 (vr 938),de P q272 1441 (vr 945),de P q273 1448 (vr 952),de P q274 1456 (vr 959),de P q275 1463 (vr 966),de P q276 1469 (vr 971),de P q277 1476 (vr 978),de P q278 1483 (vr 985),de P q279 1492 (vr 992),de P q280 1500 (vr 999),de P q61 1508 (vr 1000),de P q73 1510 (vr 1003),de P q74 1512 (vr 1004),de P q5 1513 vn]) 4) E
def c1_1002:=Obj.mk y8 none (Data.cls (ClassData.mk q191 [y9] [vr 1002,y9] 1001 q191 true [] [] false none false)) (A [none,none,some (vs q191 1396),some (vs q191 1404),some y10,some vT])
def c1_1003:=m10 1509 1002
def c1_1004:=m11 1511 1002
def c1_1005:=m12 1002
def c1_1006:=m13 1002
def c1_1009:=m6 q300 1521 q301 1522
def c1_1011:=m3 q192 q192 (B 53)
def c1_1012:=m4 q192 1518 q192 1519 1520 524 2 1007 1008 1009 1010 1011 1523 1524
def c1_1013:=m5 q192 q192 (B 53) q183 1516 1012
def c1_1016:=m2 q302 1529
def c1_1018:=m3 q193 q193 (B 54)
def c1_1019:=m4 q193 1526 q193 1527 1528 528 1 1014 1015 1016 1017 1018 1530 1531
def c1_1020:=m5 q193 q193 (B 54) q183 1516 1019
def c1_1023:=m21 q302 1536 q303 1537 q304 1538 q305 1539 q306 1540
def c1_1025:=m3 q194 q194 (B 55)
def c1_1026:=m4 q194 1533 q194 1534 1535 532 2 1021 1022 1023 1024 1025 1541 1542
def c1_1027:=m5 q194 q194 (B 55) q183 1516 1026
def c1_1030:=m9 q306 1547 q307 1548 q304 1549
def c1_1032:=m3 q195 q195 (B 56)
def c1_1033:=m4 q195 1544 q195 1545 1546 541 1 1028 1029 1030 1031 1032 1550 1551
def c1_1034:=m5 q195 q195 (B 56) q183 1516 1033
def c1_1037:=m9 q308 1556 q309 1557 q310 1558
def c1_1039:=m3 q196 q196 (B 57)
def c1_1040:=m4 q196 1553 q196 1554 1555 551 2 1035 1036 1037 1038 1039 1559 1560
def c1_1041:=m5 q196 q196 (B 57) q183 1516 1040
def c1_1044:=m3 q197 q197 (B 58)
def c1_1045:=m20 q197 1562 q197 1563 1564 556 6 1042 1043 1044 1565 1566
def c1_1046:=m5 q197 q197 (B 58) q183 1516 1045
def c1_1049:=Obj.mk y0 none (Data.seq (A [vs q311 1571,vs q312 1572,vs q313 1573,vs q314 1574,vs q315 1575,vs q316 1576]) 0) E
def c1_1051:=m3 q198 q198 (B 59)
def c1_1052:=m4 q198 1568 q198 1569 1570 570 5 1047 1048 1049 1050 1051 1577 1578
def c1_1053:=m5 q198 q198 (B 59) q183 1516 1052
def c1_1056:=m21 q311 1583 q312 1584 q313 1585 q306 1586 q316 1587
def c1_1058:=m3 q199 q199 (B 60)
def c1_1059:=m4 q199 1580 q199 1581 1582 576 4 1054 1055 1056 1057 1058 1588 1589
def c1_1060:=m5 q199 q199 (B 60) q183 1516 1059
def c1_1063:=Obj.mk y0 none (Data.seq (A [vs q311 1594,vs q312 1595,vs q313 1596,vs q317 1597,vs q318 1598,vs q319 1599,vs q316 1600,vs q320 1601,vs q304 1602,vs q321 1603]) 0) E
def c1_1065:=m3 q200 q200 (B 61)
def c1_1066:=m4 q200 1591 q200 1592 1593 580 6 1061 1062 1063 1064 1065 1604 1605
def c1_1067:=m5 q200 q200 (B 61) q183 1516 1066
def c1_1070:=m3 q201 q201 (B 62)
def c1_1071:=m20 q201 1607 q201 1608 1609 591 1 1068 1069 1070 1610 1611
def c1_1072:=m5 q201 q201 (B 62) q183 1516 1071
def u1:=nd (boot_o_0 P) (nd (boot_o_1 P) (nd (c1_3 P) (nd (boot_o_7 P) (nd a11 (nd c0_31 (nd a12 (nd c0_127 (nd c0_255 (nd c0_511 (l1 c1_1023) .nil) (l1 c1_767)) (nd c0_383 (l1 a12) (l1 a11))) (nd (c0_191 P) (nd c0_319 (l1 c0_575) (l1 a11)) (nd c0_447 (l1 c1_703) (l1 c1_959)))) (nd c0_76 (nd c0_159 (nd a11 (nd c0_543 (l1 a12) .nil) (l1 a11)) (nd a11 (l1 a11) (l1 c1_927))) (nd a12 (nd a11 (l1 c0_607) (l1 c1_863)) (nd c0_479 (l1 a11) (l1 c1_991))))) (nd c0_47 (nd a11 (nd a11 (nd c0_271 (nd c0_527 (l1 c1_1039) .nil) (l1 c1_783)) (nd a12 (l1 c1_655) (l1 a11))) (nd c0_207 (nd a12 (l1 a11) (l1 c1_847)) (nd c0_463 (l1 c1_719) (l1 a11)))) (nd c0_111 (nd c0_175 (nd c0_303 (nd (c0_559 P) (l1 c1_1071) .nil) (l1 c1_815)) (nd c0_431 (l1 c1_687) (l1 c1_943))) (nd a11 (nd c0_367 (l1 c0_623) (l1 a12)) (nd a11 (l1 c1_751) (l1 a11)))))) (nd c0_23 (nd c0_39 (nd c0_71 (nd c0_135 (nd a11 (nd c0_28 (l1 a11) .nil) (l1 c1_775)) (nd a11 (l1 c0_647) (l1 c1_903))) (nd a11 (nd a11 (l1 c0_583) (l1 a12)) (nd a11 (l1 c1_711) (l1 a11)))) (nd a12 (nd (c0_167 P) (nd a12 (nd a11 (l1 c1_1063) .nil) (l1 c1_807)) (nd c0_423 (l1 (c1_679 P)) (l1 a11))) (nd c0_231 (nd c0_359 (l1 c0_615) (l1 a11)) (nd (c0_487 P) (l1 c0_28) (l1 c1_999))))) (nd a11 (nd c0_87 (nd c0_151 (nd c0_279 (nd a11 (l1 a11) .nil) (l1 a11)) (nd c0_407 (l1 c1_663) (l1 a12))) (nd a11 (nd c0_343 (l1 (c0_599 P)) (l1 c1_855)) (nd c0_471 (l1 c1_727) (l1 c1_983)))) (nd c0_119 (nd c0_183 (nd c0_311 (l1 c0_567) (l1 c1_823)) (nd c0_439 (l1 c1_695) (l1 c1_951))) (nd a12 (nd c0_375 (l1 a11) (l1 c1_887)) (nd c0_503 (l1 a11) (l1 a12))))))) (nd a11 (nd c0_19 (nd a12 (nd c0_67 (nd c0_131 (nd a11 (nd c0_515 (l1 c1_1027) .nil) (l1 a12)) (nd a11 (l1 c0_643) (l1 a11))) (nd c0_195 (nd a11 (l1 c0_579) (l1 c1_835)) (nd c0_451 (l1 a11) (l1 a11)))) (nd c0_99 (nd c0_163 (nd c0_291 (nd a12 (l1 c1_1059) .nil) (l1 a11)) (nd a11 (l1 c1_675) (l1 c1_931))) (nd a11 (nd a11 (l1 a12) (l1 a11)) (nd c0_483 (l1 c1_739) (l1 c1_995))))) (nd a11 (nd a11 (nd a11 (nd c0_275 (nd c0_531 (l1 a12) .nil) (l1 a11)) (nd c0_403 (l1 c1_659) (l1 c1_915))) (nd a11 (nd c0_339 (l1 c0_595) (l1 c1_851)) (nd a12 (l1 c1_723) (l1 a11)))) (nd c0_28 (nd (c0_179 P) (nd c0_28 (l1 c0_452) (l1 c1_819)) (nd c0_435 (l1 a12) (l1 a12))) (nd c0_243 (nd c0_28 (l1 a11) (l1 c1_883)) (nd a11 (l1 c1_755) (l1 c1_1011)))))) (nd a11 (nd c0_43 (nd c0_75 (nd c0_139 (nd c0_267 (nd c0_523 (l1 a11) .nil) (l1 c1_779)) (nd c0_395 (l1 c0_28) (l1 c1_907))) (nd c0_203 (nd c0_331 (l1 a11) (l1 c1_843)) (nd a11 (l1 c1_715) (l1 c1_971)))) (nd c0_107 (nd c0_171 (nd a11 (nd c0_555 (l1 c1_1067) .nil) (l1 a12)) (nd c0_28 (l1 c0_426) (l1 a11))) (nd a11 (nd (c0_363 P) (l1 c0_619) (l1 c1_875)) (nd c0_491 (l1 c1_747) (l1 c1_1003))))) (nd c0_59 (nd (c0_91 P) (nd (c0_155 P) (nd c0_283 (nd a11 (l1 c1_1051) .nil) (l1 c1_795)) (nd c0_411 (l1 a11) (l1 c1_923))) (nd c0_219 (nd c0_347 (l1 c0_452) (l1 c1_859)) (nd c0_475 (l1 a11) (l1 a12)))) (nd c0_123 (nd c0_187 (nd c0_315 (l1 a12) (l1 a11)) (nd a11 (l1 c1_699) (l1 c1_955))) (nd a11 (nd c0_379 (l1 c0_635) (l1 c1_891)) (nd a12 (l1 a11) (l1 c1_1019)))))))) (nd (boot_o_5 P) (nd (boot_o_9 P) (nd c0_17 (nd c0_33 (nd a11 (nd (c0_129 P) (nd a12 (nd a11 (l1 c1_1025) .nil) (l1 c1_769)) (nd a12 (l1 a11) (l1 c1_897))) (nd c0_193 (nd a12 (l1 a11) (l1 c1_833)) (nd c0_449 (l1 a12) (l1 a12)))) (nd (c0_97 P) (nd (c0_161 P) (nd c0_289 (nd c0_545 (l1 a11) .nil) (l1 c1_801)) (nd c0_417 (l1 c1_673) (l1 c1_929))) (nd c0_225 (nd c0_353 (l1 c0_609) (l1 c0_28)) (nd (c0_481 P) (l1 c1_737) (l1 a11))))) (nd a12 (nd c0_81 (nd c0_145 (nd a11 (nd c0_529 (l1 c1_1041) .nil) (l1 a12)) (nd a11 (l1 a11) (l1 (c1_913 P)))) (nd c0_28 (nd a11 (l1 c0_593) (l1 c1_849)) (nd c0_465 (l1 a11) (l1 c1_977)))) (nd c0_113 (nd c0_153 (nd c0_305 (l1 c0_561) (l1 a11)) (nd a11 (l1 c1_689) (l1 c1_945))) (nd c0_241 (nd (c0_369 P) (l1 a12) (l1 a11)) (nd c0_497 (l1 c1_753) (l1 c1_1009)))))) (nd c0_25 (nd a11 (nd c0_73 (nd c0_137 (nd c0_265 (nd a11 (l1 c1_1033) .nil) (l1 a11)) (nd c0_393 (l1 c0_649) (l1 (c1_905 P)))) (nd c0_201 (nd c0_329 (l1 a12) (l1 a11)) (nd c0_457 (l1 c1_713) (l1 c1_969)))) (nd a11 (nd a12 (nd c0_297 (nd c0_553 (l1 c1_1065) .nil) (l1 c1_809)) (nd c0_425 (l1 c1_681) (l1 c1_937))) (nd a12 (nd c0_361 (l1 a11) (l1 c1_873)) (nd c0_489 (l1 a11) (l1 (c1_1001 P)))))) (nd c0_57 (nd c0_89 (nd c0_153 (nd (c0_281 P) (nd c0_537 (l1 c1_1049) .nil) (l1 c1_793)) (nd c0_409 (l1 a12) (l1 a11))) (nd c0_217 (nd c0_345 (l1 c0_601) (l1 c1_857)) (nd a11 (l1 a12) (l1 c1_985)))) (nd a11 (nd (c0_185 P) (nd a11 (l1 c0_569) (l1 a12)) (nd a12 (l1 a11) (l1 a11))) (nd c0_249 (nd a11 (l1 c0_633) (l1 c1_889)) (nd c0_505 (l1 c1_761) (l1 a11))))))) (nd a13 (nd c0_21 (nd a11 (nd c0_69 (nd a11 (nd c0_261 (nd c0_517 (l1 a12) .nil) (l1 c1_773)) (nd c0_389 (l1 c0_645) (l1 c1_901))) (nd a12 (nd c0_325 (l1 c0_581) (l1 c1_837)) (nd c0_28 (l1 c1_709) (l1 c1_965)))) (nd c0_101 (nd c0_153 (nd c0_293 (nd c0_549 (l1 a11) .nil) (l1 c1_805)) (nd c1_421 (l1 c1_677) (l1 a12))) (nd c0_229 (nd c0_357 (l1 a11) (l1 c1_869)) (nd c0_452 (l1 c1_741) (l1 c1_997))))) (nd c0_53 (nd c0_85 (nd c0_149 (nd c0_277 (nd a12 (l1 c1_1045) .nil) (l1 c1_789)) (nd a11 (l1 c1_661) (l1 c1_917))) (nd c0_213 (nd a11 (l1 c0_597) (l1 a12)) (nd a11 (l1 c1_725) (l1 c1_981)))) (nd a11 (nd a12 (nd a11 (l1 (c0_565 P)) (l1 c1_821)) (nd c0_437 (l1 a11) (l1 a11))) (nd c0_245 (nd a11 (l1 c0_629) (l1 a11)) (nd c0_501 (l1 a12) (l1 c1_1013)))))) (nd (c0_29 P) (nd c0_45 (nd c0_28 (nd c0_28 (nd a12 (nd a11 (l1 c1_1037) .nil) (l1 c1_781)) (nd c0_397 (l1 a11) (l1 c1_909))) (nd c0_205 (nd c0_333 (l1 c0_589) (l1 a11)) (nd c0_461 (l1 a12) (l1 a12)))) (nd a11 (nd (c0_173 P) (nd c0_301 (nd c0_557 (l1 a12) .nil) (l1 a11)) (nd a11 (l1 (c1_685 P)) (l1 c1_941))) (nd c0_237 (nd c0_365 (l1 c0_621) (l1 c1_877)) (nd a12 (l1 a11) (l1 c1_1005))))) (nd c0_61 (nd c0_93 (nd a12 (nd c0_285 (nd c0_541 (l1 c1_1053) .nil) (l1 a12)) (nd a12 (l1 c1_669) (l1 a11))) (nd c0_221 (nd a12 (l1 (c0_605 P)) (l1 c1_861)) (nd c0_477 (l1 c1_733) (l1 a11)))) (nd c0_125 (nd c0_153 (nd c0_317 (l1 a11) (l1 c1_829)) (nd c0_445 (l1 c1_701) (l1 c1_957))) (nd c0_253 (nd c0_381 (l1 c0_637) (l1 a12)) (nd a11 (l1 c1_765) (l1 a11))))))))) (nd (boot_o_2 P) (nd (boot_o_4 P) (nd (boot_o_8 P) (nd a12 (nd c0_32 (nd c0_64 (nd a11 (nd a11 (nd c0_512 (l1 a11) .nil) (l1 c1_768)) (nd a11 (l1 c0_640) (l1 c1_896))) (nd a11 (nd a11 (l1 c0_576) (l1 a12)) (nd (c0_448 P) (l1 a11) (l1 a11)))) (nd c0_28 (nd a11 (nd a12 (nd c0_544 (l1 c1_1056) .nil) (l1 c1_800)) (nd c0_416 (l1 a12) (l1 a11))) (nd c0_224 (nd c0_352 (l1 c0_608) (l1 a11)) (nd a11 (l1 a12) (l1 c1_992))))) (nd a11 (nd c0_80 (nd a12 (nd c0_272 (nd a11 (l1 c1_1040) .nil) (l1 a11)) (nd c0_400 (l1 c1_656) (l1 c0_28))) (nd a11 (nd c0_336 (l1 a12) (l1 a11)) (nd c0_464 (l1 c1_720) (l1 c1_976)))) (nd c0_112 (nd c0_176 (nd c0_304 (nd c0_560 (l1 c1_1072) .nil) (l1 c1_816)) (nd c0_432 (l1 c1_688) (l1 c1_944))) (nd a12 (nd c0_368 (l1 a11) (l1 c1_880)) (nd c0_496 (l1 a11) (l1 a12)))))) (nd c0_24 (nd c0_40 (nd c0_72 (nd a11 (nd a12 (nd (c0_520 P) (l1 c1_1032) .nil) (l1 c1_776)) (nd a12 (l1 c0_648) (l1 c1_904))) (nd c0_200 (nd a12 (l1 a11) (l1 c1_840)) (nd c0_456 (l1 (c1_712 P)) (l1 a12)))) (nd c0_104 (nd a11 (nd c0_296 (nd a12 (l1 a11) .nil) (l1 c1_808)) (nd c0_424 (l1 c1_680) (l1 c1_936))) (nd a11 (nd c0_360 (l1 c0_616) (l1 a12)) (nd a11 (l1 (c1_744 P)) (l1 c1_1000))))) (nd a12 (nd c0_88 (nd c0_152 (nd c0_280 (nd c0_536 (l1 a12) .nil) (l1 a12)) (nd a11 (l1 a11) (l1 c1_920))) (nd a12 (nd a11 (l1 c0_600) (l1 c1_856)) (nd c0_472 (l1 a11) (l1 c1_984)))) (nd c0_120 (nd a11 (nd c0_312 (l1 c0_568) (l1 a11)) (nd a11 (l1 c1_696) (l1 c1_952))) (nd c0_248 (nd c0_376 (l1 a12) (l1 a11)) (nd c0_504 (l1 c1_760) (l1 c1_1016))))))) (nd c1_12 (nd c0_20 (nd c0_36 (nd c0_68 (nd c0_132 (nd c0_260 (nd c0_516 (l1 a11) .nil) (l1 c1_772)) (nd c0_388 (l1 c0_644) (l1 a12))) (nd a11 (nd c0_324 (l1 a11) (l1 c1_836)) (nd c0_452 (l1 c1_708) (l1 c1_964)))) (nd c0_100 (nd c0_164 (nd c0_292 (nd c0_548 (l1 c1_1060) .nil) (l1 a12)) (nd (c0_420 P) (l1 c1_676) (l1 a11))) (nd a12 (nd a12 (l1 c0_612) (l1 c1_868)) (nd c0_484 (l1 c1_740) (l1 a11))))) (nd c0_52 (nd a12 (nd (c0_148 P) (nd a11 (nd a11 (l1 c1_1044) .nil) (l1 c1_788)) (nd c0_404 (l1 a11) (l1 c1_916))) (nd c0_212 (nd c0_340 (l1 c0_596) (l1 a11)) (nd c0_468 (l1 a11) (l1 a12)))) (nd (c0_116 P) (nd a11 (nd (c0_308 P) (l1 c0_28) (l1 a11)) (nd a11 (l1 c1_692) (l1 c1_948))) (nd c0_244 (nd (c0_372 P) (l1 c0_628) (l1 c1_884)) (nd a12 (l1 a11) (l1 c1_1012)))))) (nd c0_28 (nd a11 (nd c0_76 (nd c0_140 (nd a11 (nd c0_524 (l1 a12) .nil) (l1 a11)) (nd c0_396 (l1 (c1_652 P)) (l1 c1_908))) (nd (c0_204 P) (nd c0_332 (l1 c0_588) (l1 c1_844)) (nd a12 (l1 a11) (l1 a11)))) (nd c0_108 (nd a11 (nd a12 (nd c0_556 (l1 a11) .nil) (l1 c1_812)) (nd (c0_428 P) (l1 c0_28) (l1 a12))) (nd c0_236 (nd c0_364 (l1 a11) (l1 c1_876)) (nd a11 (l1 c1_748) (l1 c1_1004))))) (nd c0_60 (nd c0_92 (nd a11 (nd c0_284 (nd a12 (l1 c1_1052) .nil) (l1 a11)) (nd a11 (l1 c1_668) (l1 c1_924))) (nd c0_220 (nd a11 (l1 c0_28) (l1 c1_860)) (nd a11 (l1 c1_732) (l1 c1_988)))) (nd a11 (nd c0_188 (nd a11 (l1 c0_572) (l1 c1_828)) (nd c0_444 (l1 a11) (l1 a11))) (nd a12 (nd a11 (l1 c0_636) (l1 a11)) (nd c0_508 (l1 a12) (l1 c1_1020)))))))) (nd (boot_o_6 P) (nd (boot_o_10 P) (nd a11 (nd a11 (nd c0_66 (nd c0_130 (nd c0_258 (nd (c0_514 P) (l1 c1_1026) .nil) (l1 a11)) (nd c0_386 (l1 c0_642) (l1 c1_898))) (nd c0_194 (nd c0_322 (l1 a12) (l1 a11)) (nd c0_450 (l1 c1_706) (l1 c1_962)))) (nd a11 (nd c0_162 (nd a11 (nd a11 (l1 c1_1058) .nil) (l1 c1_802)) (nd c0_418 (l1 a11) (l1 c1_930))) (nd c0_226 (nd c0_354 (l1 a11) (l1 (c1_866 P))) (nd c0_482 (l1 a11) (l1 a12))))) (nd c0_50 (nd c0_82 (nd c0_146 (nd a12 (nd c0_530 (l1 a11) .nil) (l1 c1_786)) (nd c0_402 (l1 a12) (l1 a11))) (nd (c0_210 P) (nd c0_338 (l1 a11) (l1 c1_850)) (nd a11 (l1 a12) (l1 c1_978)))) (nd c0_76 (nd c0_28 (nd a11 (l1 c0_562) (l1 a12)) (nd a12 (l1 a11) (l1 a11))) (nd a11 (nd a11 (l1 c0_626) (l1 c1_882)) (nd c0_498 (l1 c1_754) (l1 a11)))))) (nd c0_26 (nd a12 (nd c0_74 (nd c0_138 (nd c0_266 (nd c0_522 (l1 c1_1034) .nil) (l1 a12)) (nd a11 (l1 c0_426) (l1 c1_906))) (nd c0_202 (nd a11 (l1 c0_586) (l1 c1_842)) (nd c0_458 (l1 c1_714) (l1 c1_970)))) (nd c0_106 (nd c0_170 (nd c0_298 (nd a11 (l1 c1_1066) .nil) (l1 a11)) (nd c0_426 (l1 c1_682) (l1 c1_938))) (nd c0_234 (nd c0_362 (l1 a12) (l1 a11)) (nd c0_490 (l1 c1_746) (l1 c1_1002))))) (nd a11 (nd a11 (nd c0_28 (nd c0_282 (nd c0_538 (l1 a11) .nil) (l1 c1_794)) (nd c0_410 (l1 c1_666) (l1 c1_922))) (nd a11 (nd c0_346 (l1 c0_602) (l1 (c1_858 P))) (nd a12 (l1 c1_730) (l1 a11)))) (nd a12 (nd c0_186 (nd a12 (l1 a11) (l1 c1_826)) (nd c0_442 (l1 a12) (l1 a12))) (nd c0_250 (nd a12 (l1 a11) (l1 c1_890)) (nd a11 (l1 c1_762) (l1 c1_1018))))))) (nd a14 (nd (c0_22 P) (nd c0_38 (nd (c0_70 P) (nd a12 (nd c0_262 (nd c0_426 (l1 c1_1030) .nil) (l1 c1_774)) (nd c0_390 (l1 (c0_646 P)) (l1 c1_902))) (nd c0_198 (nd c0_326 (l1 c0_582) (l1 a11)) (nd (c0_454 P) (l1 c1_710) (l1 c1_966)))) (nd a11 (nd c0_28 (nd a11 (nd c0_550 (l1 a12) .nil) (l1 a11)) (nd c0_422 (l1 c1_678) (l1 c1_934))) (nd c0_230 (nd a11 (l1 c0_614) (l1 c1_870)) (nd c0_28 (l1 a11) (l1 c1_998))))) (nd c0_54 (nd a11 (nd c0_150 (nd c0_278 (nd c0_534 (l1 c1_1046) .nil) (l1 c1_790)) (nd a12 (l1 c1_662) (l1 a11))) (nd c0_214 (nd a12 (l1 a11) (l1 c1_854)) (nd c0_470 (l1 c1_726) (l1 a11)))) (nd c0_118 (nd c0_182 (nd c0_310 (l1 a11) (l1 c1_822)) (nd c0_438 (l1 c1_694) (l1 c1_950))) (nd a11 (nd c0_374 (l1 c0_630) (l1 a12)) (nd a11 (l1 c1_758) (l1 a11)))))) (nd a11 (nd c0_46 (nd (c0_78 P) (nd (c0_142 P) (nd c0_270 (nd a12 (l1 a11) .nil) (l1 c1_782)) (nd a11 (l1 c1_654) (l1 c1_910))) (nd c0_206 (nd a11 (l1 c0_590) (l1 a12)) (nd a11 (l1 c1_718) (l1 c1_974)))) (nd (c0_110 P) (nd c0_174 (nd a11 (nd c0_558 (l1 c1_1070) .nil) (l1 c1_814)) (nd c0_430 (l1 a11) (l1 a11))) (nd c0_238 (nd c0_366 (l1 c0_622) (l1 a11)) (nd c0_494 (l1 a12) (l1 c1_1006))))) (nd a11 (nd c0_94 (nd c0_158 (nd c0_286 (nd a11 (l1 a11) .nil) (l1 c1_798)) (nd c0_414 (l1 c1_670) (l1 a12))) (nd a11 (nd c0_350 (l1 a11) (l1 c1_862)) (nd c0_478 (l1 c1_734) (l1 c1_990)))) (nd c0_126 (nd c0_28 (nd c0_318 (l1 c0_574) (l1 c1_830)) (nd c0_446 (l1 c1_702) (l1 c1_958))) (nd c0_254 (nd c0_382 (l1 a11) (l1 c1_894)) (nd c0_510 (l1 a11) (l1 a12)))))))))
def tc1_:=u1 P
def tz:=u1 P
end
noncomputable def sa(w:World)(os:OsState):SharedT:=SharedT.mk (ta w.params) 15 (@Life.mk [] [] [] 0 [] [] false E [] 0 false false false 0 [2000,10,10] false 0 true [] [] 0 false) E (@Drawn.mk 0 0 0 0) 187 os
noncomputable def sb(w:World)(os:OsState):SharedT:=SharedT.mk (tb w.params) 15 (@Life.mk [] [] [] 0 [] [] false E [] 0 false false false 0 [2000,10,10] false 0 true [] [] 0 false) E (@Drawn.mk 0 0 0 0) 187 os
noncomputable def sc0_(w:World)(os:OsState):SharedT:=SharedT.mk (tc0_ w.params) 650 (@Life.mk [] [] [] 0 [] [] false E [] 0 false false false 0 [2000,10,10] false 0 true [] [] 0 false) E (@Drawn.mk 0 0 0 0) 1034 os
noncomputable def sc1_(w:World)(os:OsState):SharedT:=SharedT.mk (tc1_ w.params) 1073 (@Life.mk [] [] [] 0 [] [] false E [] 0 false false false 0 [2000,10,10] false 0 true [] [] 0 false) E (@Drawn.mk 0 0 0 0) 1613 os
noncomputable def sz(w:World)(os:OsState):SharedT:=SharedT.mk (tz w.params) 1073 (@Life.mk [] [] [] 0 [] [] false E [] 0 false false false 0 [2000,10,10] false 0 true [] [] 0 false) E (@Drawn.mk 0 0 0 0) 1613 os
noncomputable abbrev e0:Env:={scope:=p0.main.scope,locals:=mainNs,globals:=mainNs,cells:=[],code:=(vr 13),frame:=some 14}
noncomputable abbrev en:Env:={scope:=pq.main.scope,locals:=mainNs,globals:=mainNs,cells:=[],code:=(vr 13),frame:=some 14}
theorem bs:behindTheImports p0=((p0.main.body.drop 0).take 40++((p0.main.body.drop 40).take 23++[])):=by kernel_rfl
theorem pre_l(w:World)(b:OsState):topGo treeTable p0 w 11 (sr 6) 12 ⟨boot_heap w.params,Array.mk [],boot_drawn,boot_toks,b⟩ (topStub p0)=some ((sa w b).abs,⟨denote treeTable (Code.body (behindTheImports p0) e0),Code.body (behindTheImports p0) e0,(@Pos.mk 0 0 0 0),[topFrame (@Pos.mk 0 0 0 0)]⟩):=by
 rw [PySem.W.Fast.te15667345088766844465,PySem.W.Fast.te14364793385576792824,PySem.W.Fast.te11892475500146522536,pe]
 kernel_rfl
theorem blk_l(w:World)(b:OsState):segRun treeTable p0 w 11 (sr 6) 1 1 (sa w b).abs (blockOf (behindTheImports p0) e0 (Code.body (behindTheImports p0) e0) (@Pos.mk 0 0 0 0) [topFrame (@Pos.mk 0 0 0 0)])=some (Flow.next,(sb w b).abs,Code.body (behindTheImports p0) e0,(@Pos.mk 0 0 0 0)):=by
 refine segRun_of ?_
 rw [PySem.W.Fast.te10110043849684766642,PySem.W.Fast.te14364793385576792824,pe]
 kernel_rfl
theorem g0(p:Program)(b:List Stmt):∀w:World,(λos=>PySem.W.Fast.tw10110043849684766642 PySem.W.Fast.tw14364793385576792824 p w 11 (sr 6) 1 5964 (sb w os) (piecesOf ((pq.main.body.drop 0).take 40) en (Code.body b en) (@Pos.mk 0 0 0 0) [topFrame (@Pos.mk 0 0 0 0)]))=(λos=>some (Flow.next,sc0_ w os,Code.body b en,(@Pos.mk 280 0 296 17))):=byRow2 "special-get-raises" (P:=λw=>(λos=>PySem.W.Fast.tw10110043849684766642 PySem.W.Fast.tw14364793385576792824 p w 11 (sr 6) 1 5964 (sb w os) (piecesOf ((pq.main.body.drop 0).take 40) en (Code.body b en) (@Pos.mk 0 0 0 0) [topFrame (@Pos.mk 0 0 0 0)]))=(λos=>some (Flow.next,sc0_ w os,Code.body b en,(@Pos.mk 280 0 296 17)))) (λw=>by kernel_rfl) (λw=>by kernel_rfl)
theorem h0(b:List Stmt)(w:World)(d:OsState):segRun treeTable p0 w 11 (sr 6) 1 5964 (sb w d).abs (piecesOf ((p0.main.body.drop 0).take 40) e0 (Code.body b e0) (@Pos.mk 0 0 0 0) [topFrame (@Pos.mk 0 0 0 0)])=some (Flow.next,(sc0_ w d).abs,Code.body b e0,(@Pos.mk 280 0 296 17)):=by
 refine segRun_of ?_
 rw [PySem.W.Fast.te10110043849684766642,PySem.W.Fast.te14364793385576792824,pe]
 exact congrFun (g0 pq b w) d
theorem g1(p:Program)(b:List Stmt):∀w:World,(λos=>PySem.W.Fast.tw10110043849684766642 PySem.W.Fast.tw14364793385576792824 p w 11 (sr 6) 1 2737 (sc0_ w os) (piecesOf ((pq.main.body.drop 40).take 23) en (Code.body b en) (@Pos.mk 280 0 296 17) [topFrame (@Pos.mk 0 0 0 0)]))=(λos=>some (Flow.next,sc1_ w os,Code.body b en,(@Pos.mk 591 0 621 72))):=λw=>by kernel_rfl
theorem h1(b:List Stmt)(w:World)(d:OsState):segRun treeTable p0 w 11 (sr 6) 1 2737 (sc0_ w d).abs (piecesOf ((p0.main.body.drop 40).take 23) e0 (Code.body b e0) (@Pos.mk 280 0 296 17) [topFrame (@Pos.mk 0 0 0 0)])=some (Flow.next,(sc1_ w d).abs,Code.body b e0,(@Pos.mk 591 0 621 72)):=by
 refine segRun_of ?_
 rw [PySem.W.Fast.te10110043849684766642,PySem.W.Fast.te14364793385576792824,pe]
 exact congrFun (g1 pq b w) d
noncomputable abbrev H1:Params->Heap:=λP=>absHeap (tz P) 1073 (@Life.mk [] [] [] 0 [] [] false E [] 0 false false false 0 [2000,10,10] false 0 true [] [] 0 false)
theorem fin_l(b:List Stmt)(w:World)(d:OsState):topRun treeTable p0 w 11 (sr 6) 2 (sc1_ w d).abs ⟨doneF .next,Code.body b e0,(@Pos.mk 591 0 621 72),[topFrame (@Pos.mk 0 0 0 0)]⟩=some ⟨H1 w.params,Array.mk [],(@Drawn.mk 0 0 0 0),1613,d⟩:=by
 rw [PySem.W.Fast.te14082659384304107361,PySem.W.Fast.te14364793385576792824,pe]
 kernel_rfl
theorem run_l(w:World)(b:OsState):topRun treeTable p0 w 11 (sr 6) (12+(1+(5964+(2737+2)))) ⟨boot_heap w.params,Array.mk [],boot_drawn,boot_toks,b⟩ (topStub p0)=some ⟨H1 w.params,Array.mk [],(@Drawn.mk 0 0 0 0),1613,b⟩:=by
 refine go_top (pre_l w b) (piece_block (blk_l w b) ?k)
 rw [bs]
 exact piece_app (h0 _ w b) (piece_app (h1 _ w b) (piece_nil (fin_l _ w b)))
abbrev kF(a b:String)(s:Stmt)(m:String)(n v:Nat):Params->Obj:=λP=>(Obj.mk (@Value.type "function") none (Data.func (fk (@Str.ofString a) (@Str.ofString b) s 3 [] vn vn vn (@Value.str (@Str.ofString m) n) none (vr v) vn 0)) E)
abbrev k21:=kF "_wall" "_wall" (T 0) "__main__" 164 20
abbrev k40:=kF "__init__" "Lock.__init__" (N 4 0) "pactroom.kinds" 194 39
abbrev k47:=kF "kind" "Lock.kind" (N 4 1) "pactroom.kinds" 194 46
abbrev k54:=kF "beside" "Lock.beside" (N 4 2) "pactroom.kinds" 194 53
abbrev k61:=kF "covers" "Lock.covers" (N 4 3) "pactroom.kinds" 194 60
abbrev k68:=kF "told" "Lock.told" (N 4 4) "pactroom.kinds" 194 67
abbrev k89:=kF "kind" "Read.kind" (N 5 0) "pactroom.kinds" 194 88
abbrev k108:=kF "kind" "Mean.kind" (N 6 0) "pactroom.kinds" 194 107
abbrev k127:=kF "kind" "Change.kind" (N 7 0) "pactroom.kinds" 194 126
abbrev k139:=kF "lock_of" "lock_of" (T 8) "pactroom.kinds" 194 138
abbrev k202:=kF "__init__" "NoText.__init__" (N 14 0) "pactroom.errors" 352 201
abbrev k221:=kF "__init__" "Locks.__init__" (N 16 0) "pactroom.locks" 445 220
abbrev k226:=kF "ask" "Locks.ask" (N 16 1) "pactroom.locks" 445 225
abbrev k231:=kF "free" "Locks.free" (N 16 2) "pactroom.locks" 445 230
abbrev k238:=kF "stands" "Locks.stands" (N 16 3) "pactroom.locks" 445 237
abbrev k245:=kF "behind" "Locks.behind" (N 16 4) "pactroom.locks" 445 244
abbrev k250:=kF "held" "Locks.held" (N 16 5) "pactroom.locks" 445 249
abbrev k255:=kF "waiting" "Locks.waiting" (N 16 6) "pactroom.locks" 445 254
abbrev k262:=kF "hinderer" "Locks.hinderer" (N 16 7) "pactroom.locks" 445 261
abbrev k267:=kF "held_pairs" "Locks.held_pairs" (N 16 8) "pactroom.locks" 445 266
abbrev k272:=kF "waiting_pairs" "Locks.waiting_pairs" (N 16 9) "pactroom.locks" 445 271
abbrev k279:=kF "waiting_place" "Locks.waiting_place" (N 16 10) "pactroom.locks" 445 278
abbrev k293:=kF "is_whole" "is_whole" (T 26) "pactroom.things" 549 292
abbrev k298:=kF "read_thing" "read_thing" (T 27) "pactroom.things" 549 297
abbrev k305:=kF "is_sign" "is_sign" (T 28) "pactroom.things" 549 304
abbrev k319:=kF "__init__" "Reader.__init__" (N 29 0) "pactroom.things" 549 318
abbrev k326:=kF "passes" "Reader.passes" (N 29 1) "pactroom.things" 549 325
abbrev k333:=kF "read_any" "Reader.read_any" (N 29 2) "pactroom.things" 549 332
abbrev k340:=kF "read_parts" "Reader.read_parts" (N 29 3) "pactroom.things" 549 339
abbrev k347:=kF "read_below" "Reader.read_below" (N 29 4) "pactroom.things" 549 346
abbrev k354:=kF "read_number" "Reader.read_number" (N 29 5) "pactroom.things" 549 353
abbrev k361:=kF "read_signs" "Reader.read_signs" (N 29 6) "pactroom.things" 549 360
abbrev k383:=kF "house" "Step.house" (N 33 0) "pactroom.steps" 671 382
abbrev k390:=kF "lock" "Step.lock" (N 33 1) "pactroom.steps" 671 389
abbrev k397:=kF "step_done" "Step.step_done" (N 33 2) "pactroom.steps" 671 396
abbrev k404:=kF "back" "Step.back" (N 33 3) "pactroom.steps" 671 403
abbrev k411:=kF "sure" "Step.sure" (N 33 4) "pactroom.steps" 671 410
abbrev k418:=kF "spelled" "Step.spelled" (N 33 5) "pactroom.steps" 671 417
abbrev k439:=kF "__init__" "CellStep.__init__" (N 34 0) "pactroom.steps" 671 438
abbrev k446:=kF "house" "CellStep.house" (N 34 1) "pactroom.steps" 671 445
abbrev k465:=kF "lock" "TakeStep.lock" (N 35 0) "pactroom.steps" 671 464
abbrev k472:=kF "step_done" "TakeStep.step_done" (N 35 1) "pactroom.steps" 671 471
abbrev k479:=kF "spelled" "TakeStep.spelled" (N 35 2) "pactroom.steps" 671 478
abbrev k498:=kF "lock" "MeanStep.lock" (N 36 0) "pactroom.steps" 671 497
abbrev k505:=kF "step_done" "MeanStep.step_done" (N 36 1) "pactroom.steps" 671 504
abbrev k512:=kF "spelled" "MeanStep.spelled" (N 36 2) "pactroom.steps" 671 511
abbrev k531:=kF "__init__" "SumStep.__init__" (N 37 0) "pactroom.steps" 671 530
abbrev k538:=kF "house" "SumStep.house" (N 37 1) "pactroom.steps" 671 537
abbrev k545:=kF "lock" "SumStep.lock" (N 37 2) "pactroom.steps" 671 544
abbrev k550:=kF "step_done" "SumStep.step_done" (N 37 3) "pactroom.steps" 671 549
abbrev k557:=kF "spelled" "SumStep.spelled" (N 37 4) "pactroom.steps" 671 556
abbrev k576:=kF "lock" "GiveStep.lock" (N 38 0) "pactroom.steps" 671 575
abbrev k583:=kF "step_done" "GiveStep.step_done" (N 38 1) "pactroom.steps" 671 582
abbrev k590:=kF "sure" "GiveStep.sure" (N 38 2) "pactroom.steps" 671 589
abbrev k597:=kF "spelled" "GiveStep.spelled" (N 38 3) "pactroom.steps" 671 596
abbrev k616:=kF "__init__" "AddStep.__init__" (N 39 0) "pactroom.steps" 671 615
abbrev k623:=kF "lock" "AddStep.lock" (N 39 1) "pactroom.steps" 671 622
abbrev k630:=kF "step_done" "AddStep.step_done" (N 39 2) "pactroom.steps" 671 629
abbrev k637:=kF "back" "AddStep.back" (N 39 3) "pactroom.steps" 671 636
abbrev k644:=kF "spelled" "AddStep.spelled" (N 39 4) "pactroom.steps" 671 643
abbrev k663:=kF "__init__" "PlusStep.__init__" (N 40 0) "pactroom.steps" 671 662
abbrev k670:=kF "step_done" "PlusStep.step_done" (N 40 1) "pactroom.steps" 671 669
abbrev k677:=kF "spelled" "PlusStep.spelled" (N 40 2) "pactroom.steps" 671 676
abbrev k696:=kF "__init__" "NeedStep.__init__" (N 41 0) "pactroom.steps" 671 695
abbrev k703:=kF "step_done" "NeedStep.step_done" (N 41 1) "pactroom.steps" 671 702
abbrev k710:=kF "spelled" "NeedStep.spelled" (N 41 2) "pactroom.steps" 671 709
abbrev k720:=kF "read_step" "read_step" (T 42) "pactroom.steps" 671 719
abbrev k727:=kF "read_number" "read_number" (T 43) "pactroom.steps" 671 726
abbrev k734:=kF "made_step" "made_step" (T 44) "pactroom.steps" 671 733
abbrev k741:=kF "made_sum" "made_sum" (T 45) "pactroom.steps" 671 740
abbrev k755:=kF "__init__" "Works.__init__" (N 47 0) "pactroom.works" 1148 754
abbrev k762:=kF "take_up" "Works.take_up" (N 47 1) "pactroom.works" 1148 761
abbrev k769:=kF "work" "Works.work" (N 47 2) "pactroom.works" 1148 768
abbrev k776:=kF "do_step" "Works.do_step" (N 47 3) "pactroom.works" 1148 775
abbrev k783:=kF "value_at" "Works.value_at" (N 47 4) "pactroom.works" 1148 782
abbrev k790:=kF "send_did" "Works.send_did" (N 47 5) "pactroom.works" 1148 789
abbrev k795:=kF "ready" "Works.ready" (N 47 6) "pactroom.works" 1148 794
abbrev k802:=kF "ended" "Works.ended" (N 47 7) "pactroom.works" 1148 801
abbrev k809:=kF "walk" "Works.walk" (N 47 8) "pactroom.works" 1148 808
abbrev k816:=kF "undo" "Works.undo" (N 47 9) "pactroom.works" 1148 815
abbrev k823:=kF "lock_stands" "Works.lock_stands" (N 47 10) "pactroom.works" 1148 822
abbrev k830:=kF "turn" "Works.turn" (N 47 11) "pactroom.works" 1148 829
abbrev k837:=kF "chase" "Works.chase" (N 47 12) "pactroom.works" 1148 836
abbrev k844:=kF "held" "Works.held" (N 47 13) "pactroom.works" 1148 843
abbrev k851:=kF "waiting" "Works.waiting" (N 47 14) "pactroom.works" 1148 850
abbrev k856:=kF "is_bound" "Works.is_bound" (N 47 15) "pactroom.works" 1148 855
abbrev k877:=kF "__init__" "Sheet.__init__" (N 49 0) "pactroom.sheets" 1328 876
abbrev k884:=kF "row" "Sheet.row" (N 49 1) "pactroom.sheets" 1328 883
abbrev k891:=kF "send" "Sheet.send" (N 49 2) "pactroom.sheets" 1328 890
abbrev k898:=kF "rows_told" "Sheet.rows_told" (N 49 3) "pactroom.sheets" 1328 897
abbrev k903:=kF "letters_told" "Sheet.letters_told" (N 49 4) "pactroom.sheets" 1328 902
abbrev k924:=kF "__init__" "Stand.__init__" (N 51 0) "pactroom.stands" 1394 923
abbrev k931:=kF "keep" "Stand.keep" (N 51 1) "pactroom.stands" 1394 930
abbrev k938:=kF "changes_of" "Stand.changes_of" (N 51 2) "pactroom.stands" 1394 937
abbrev k945:=kF "cell_at" "Stand.cell_at" (N 51 3) "pactroom.stands" 1394 944
abbrev k952:=kF "cells_told" "Stand.cells_told" (N 51 4) "pactroom.stands" 1394 951
abbrev k959:=kF "outcome" "Stand.outcome" (N 51 5) "pactroom.stands" 1394 958
abbrev k966:=kF "news" "Stand.news" (N 51 6) "pactroom.stands" 1394 965
abbrev k971:=kF "bound" "Stand.bound" (N 51 7) "pactroom.stands" 1394 970
abbrev k978:=kF "lost" "Stand.lost" (N 51 8) "pactroom.stands" 1394 977
abbrev k985:=kF "begun" "Stand.begun" (N 51 9) "pactroom.stands" 1394 984
abbrev k992:=kF "walked_at" "Stand.walked_at" (N 51 10) "pactroom.stands" 1394 991
abbrev k999:=kF "is_over" "Stand.is_over" (N 51 11) "pactroom.stands" 1394 998
abbrev k1013:=kF "_law_cell_at" "_law_cell_at" (T 53) "law_pactroom_k52_ready_and_up_again" 1516 1012
abbrev k1020:=kF "_law_number" "_law_number" (T 54) "law_pactroom_k52_ready_and_up_again" 1516 1019
abbrev k1027:=kF "_law_step" "_law_step" (T 55) "law_pactroom_k52_ready_and_up_again" 1516 1026
abbrev k1034:=kF "_law_lock" "_law_lock" (T 56) "law_pactroom_k52_ready_and_up_again" 1516 1033
abbrev k1041:=kF "_law_covers" "_law_covers" (T 57) "law_pactroom_k52_ready_and_up_again" 1516 1040
abbrev k1046:=kF "_law_worked" "_law_worked" (T 58) "law_pactroom_k52_ready_and_up_again" 1516 1045
abbrev k1053:=kF "_law_asked" "_law_asked" (T 59) "law_pactroom_k52_ready_and_up_again" 1516 1052
abbrev k1060:=kF "_law_quiet" "_law_quiet" (T 60) "law_pactroom_k52_ready_and_up_again" 1516 1059
abbrev k1067:=kF "_law_ended" "_law_ended" (T 61) "law_pactroom_k52_ready_and_up_again" 1516 1066
abbrev k1072:=kF "law" "law" (T 62) "law_pactroom_k52_ready_and_up_again" 1516 1071
noncomputable def Kf:Params->Frag:=λP=>(nat_lit 2,boot_o_2 P)::(nat_lit 3,c1_3 P)::(nat_lit 15,a11)::(nat_lit 17,c0_17)::(nat_lit 18,a11)::(nat_lit 20,c0_20)::(nat_lit 21,k21 P)::(nat_lit 22,c0_22 P)::(nat_lit 23,c0_23)::(nat_lit 24,c0_24)::(nat_lit 25,c0_25)::(nat_lit 26,c0_26)::(nat_lit 34,a11)::(nat_lit 36,c0_36)::(nat_lit 37,a11)::(nat_lit 39,c0_39)::(nat_lit 40,k40 P)::(nat_lit 41,a11)::(nat_lit 43,c0_43)::(nat_lit 44,a11)::(nat_lit 46,c0_46)::(nat_lit 47,k47 P)::(nat_lit 48,a11)::(nat_lit 50,c0_50)::(nat_lit 51,a11)::(nat_lit 53,c0_53)::(nat_lit 54,k54 P)::(nat_lit 55,a11)::(nat_lit 57,c0_57)::(nat_lit 58,a11)::(nat_lit 60,c0_60)::(nat_lit 61,k61 P)::(nat_lit 62,a11)::(nat_lit 64,c0_64)::(nat_lit 65,a11)::(nat_lit 67,c0_67)::(nat_lit 68,k68 P)::(nat_lit 69,c0_69)::(nat_lit 70,c0_70 P)::(nat_lit 71,c0_71)::(nat_lit 72,c0_72)::(nat_lit 73,c0_73)::(nat_lit 76,c0_76)::(nat_lit 83,a11)::(nat_lit 85,c0_85)::(nat_lit 86,a11)::(nat_lit 88,c0_88)::(nat_lit 89,k89 P)::(nat_lit 90,a11)::(nat_lit 91,c0_91 P)::(nat_lit 92,c0_92)::(nat_lit 95,c0_76)::(nat_lit 102,a11)::(nat_lit 104,c0_104)::(nat_lit 105,a11)::(nat_lit 107,c0_107)::(nat_lit 108,k108 P)::(nat_lit 109,a11)::(nat_lit 110,c0_110 P)::(nat_lit 111,c0_111)::(nat_lit 114,c0_76)::(nat_lit 121,a11)::(nat_lit 123,c0_123)::(nat_lit 124,a11)::(nat_lit 126,c0_126)::(nat_lit 127,k127 P)::(nat_lit 128,a11)::(nat_lit 129,c0_129 P)::(nat_lit 130,c0_130)::(nat_lit 133,a11)::(nat_lit 135,c0_135)::(nat_lit 136,a11)::(nat_lit 138,c0_138)::(nat_lit 139,k139 P)::(nat_lit 140,c0_140)::(nat_lit 147,a11)::(nat_lit 148,c0_148 P)::(nat_lit 149,c0_149)::(nat_lit 150,c0_150)::(nat_lit 153,c0_153)::(nat_lit 160,a11)::(nat_lit 161,c0_161 P)::(nat_lit 162,c0_162)::(nat_lit 165,c0_153)::(nat_lit 172,a11)::(nat_lit 173,c0_173 P)::(nat_lit 174,c0_174)::(nat_lit 177,c0_153)::(nat_lit 184,a11)::(nat_lit 185,c0_185 P)::(nat_lit 186,c0_186)::(nat_lit 189,c0_153)::(nat_lit 196,a11)::(nat_lit 198,c0_198)::(nat_lit 199,a11)::(nat_lit 201,c0_201)::(nat_lit 202,k202 P)::(nat_lit 203,c0_203)::(nat_lit 204,c0_204 P)::(nat_lit 205,c0_205)::(nat_lit 215,a11)::(nat_lit 217,c0_217)::(nat_lit 218,a11)::(nat_lit 220,c0_220)::(nat_lit 221,k221 P)::(nat_lit 222,a11)::(nat_lit 225,c0_225)::(nat_lit 226,k226 P)::(nat_lit 227,a11)::(nat_lit 230,c0_230)::(nat_lit 231,k231 P)::(nat_lit 232,a11)::(nat_lit 234,c0_234)::(nat_lit 235,a11)::(nat_lit 237,c0_237)::(nat_lit 238,k238 P)::(nat_lit 239,a11)::(nat_lit 241,c0_241)::(nat_lit 242,a11)::(nat_lit 244,c0_244)::(nat_lit 245,k245 P)::(nat_lit 246,a11)::(nat_lit 249,c0_249)::(nat_lit 250,k250 P)::(nat_lit 251,a11)::(nat_lit 254,c0_254)::(nat_lit 255,k255 P)::(nat_lit 256,a11)::(nat_lit 258,c0_258)::(nat_lit 259,a11)::(nat_lit 261,c0_261)::(nat_lit 262,k262 P)::(nat_lit 263,a11)::(nat_lit 266,c0_266)::(nat_lit 267,k267 P)::(nat_lit 268,a11)::(nat_lit 271,c0_271)::(nat_lit 272,k272 P)::(nat_lit 273,a11)::(nat_lit 275,c0_275)::(nat_lit 276,a11)::(nat_lit 278,c0_278)::(nat_lit 279,k279 P)::(nat_lit 280,c0_280)::(nat_lit 281,c0_281 P)::(nat_lit 282,c0_282)::(nat_lit 283,c0_283)::(nat_lit 284,c0_284)::(nat_lit 287,a11)::(nat_lit 289,c0_289)::(nat_lit 290,a11)::(nat_lit 292,c0_292)::(nat_lit 293,k293 P)::(nat_lit 294,a11)::(nat_lit 297,c0_297)::(nat_lit 298,k298 P)::(nat_lit 299,a11)::(nat_lit 301,c0_301)::(nat_lit 302,a11)::(nat_lit 304,c0_304)::(nat_lit 305,k305 P)::(nat_lit 313,a11)::(nat_lit 315,c0_315)::(nat_lit 316,a11)::(nat_lit 318,c0_318)::(nat_lit 319,k319 P)::(nat_lit 320,a11)::(nat_lit 322,c0_322)::(nat_lit 323,a11)::(nat_lit 325,c0_325)::(nat_lit 326,k326 P)::(nat_lit 327,a11)::(nat_lit 329,c0_329)::(nat_lit 330,a11)::(nat_lit 332,c0_332)::(nat_lit 333,k333 P)::(nat_lit 334,a11)::(nat_lit 336,c0_336)::(nat_lit 337,a11)::(nat_lit 339,c0_339)::(nat_lit 340,k340 P)::(nat_lit 341,a11)::(nat_lit 343,c0_343)::(nat_lit 344,a11)::(nat_lit 346,c0_346)::(nat_lit 347,k347 P)::(nat_lit 348,a11)::(nat_lit 350,c0_350)::(nat_lit 351,a11)::(nat_lit 353,c0_353)::(nat_lit 354,k354 P)::(nat_lit 355,a11)::(nat_lit 357,c0_357)::(nat_lit 358,a11)::(nat_lit 360,c0_360)::(nat_lit 361,k361 P)::(nat_lit 362,c0_362)::(nat_lit 363,c0_363 P)::(nat_lit 364,c0_364)::(nat_lit 365,c0_365)::(nat_lit 366,c0_366)::(nat_lit 369,c0_369 P)::(nat_lit 377,a11)::(nat_lit 379,c0_379)::(nat_lit 380,a11)::(nat_lit 382,c0_382)::(nat_lit 383,k383 P)::(nat_lit 384,a11)::(nat_lit 386,c0_386)::(nat_lit 387,a11)::(nat_lit 389,c0_389)::(nat_lit 390,k390 P)::(nat_lit 391,a11)::(nat_lit 393,c0_393)::(nat_lit 394,a11)::(nat_lit 396,c0_396)::(nat_lit 397,k397 P)::(nat_lit 398,a11)::(nat_lit 400,c0_400)::(nat_lit 401,a11)::(nat_lit 403,c0_403)::(nat_lit 404,k404 P)::(nat_lit 405,a11)::(nat_lit 407,c0_407)::(nat_lit 408,a11)::(nat_lit 410,c0_410)::(nat_lit 411,k411 P)::(nat_lit 412,a11)::(nat_lit 414,c0_414)::(nat_lit 415,a11)::(nat_lit 417,c0_417)::(nat_lit 418,k418 P)::(nat_lit 419,a11)::(nat_lit 420,c0_420 P)::(nat_lit 421,c1_421)::(nat_lit 422,c0_422)::(nat_lit 423,c0_423)::(nat_lit 426,c0_426)::(nat_lit 433,a11)::(nat_lit 435,c0_435)::(nat_lit 436,a11)::(nat_lit 438,c0_438)::(nat_lit 439,k439 P)::(nat_lit 440,a11)::(nat_lit 442,c0_442)::(nat_lit 443,a11)::(nat_lit 445,c0_445)::(nat_lit 446,k446 P)::(nat_lit 447,c0_447)::(nat_lit 448,c0_448 P)::(nat_lit 449,c0_449)::(nat_lit 452,c0_452)::(nat_lit 459,a11)::(nat_lit 461,c0_461)::(nat_lit 462,a11)::(nat_lit 464,c0_464)::(nat_lit 465,k465 P)::(nat_lit 466,a11)::(nat_lit 468,c0_468)::(nat_lit 469,a11)::(nat_lit 471,c0_471)::(nat_lit 472,k472 P)::(nat_lit 473,a11)::(nat_lit 475,c0_475)::(nat_lit 476,a11)::(nat_lit 478,c0_478)::(nat_lit 479,k479 P)::(nat_lit 480,a11)::(nat_lit 481,c0_481 P)::(nat_lit 482,c0_482)::(nat_lit 485,c0_452)::(nat_lit 492,a11)::(nat_lit 494,c0_494)::(nat_lit 495,a11)::(nat_lit 497,c0_497)::(nat_lit 498,k498 P)::(nat_lit 499,a11)::(nat_lit 501,c0_501)::(nat_lit 502,a11)::(nat_lit 504,c0_504)::(nat_lit 505,k505 P)::(nat_lit 506,a11)::(nat_lit 508,c0_508)::(nat_lit 509,a11)::(nat_lit 511,c0_511)::(nat_lit 512,k512 P)::(nat_lit 513,a11)::(nat_lit 514,c0_514 P)::(nat_lit 515,c0_515)::(nat_lit 518,c0_426)::(nat_lit 525,a11)::(nat_lit 527,c0_527)::(nat_lit 528,a11)::(nat_lit 530,c0_530)::(nat_lit 531,k531 P)::(nat_lit 532,a11)::(nat_lit 534,c0_534)::(nat_lit 535,a11)::(nat_lit 537,c0_537)::(nat_lit 538,k538 P)::(nat_lit 539,a11)::(nat_lit 541,c0_541)::(nat_lit 542,a11)::(nat_lit 544,c0_544)::(nat_lit 545,k545 P)::(nat_lit 546,a11)::(nat_lit 549,c0_549)::(nat_lit 550,k550 P)::(nat_lit 551,a11)::(nat_lit 553,c0_553)::(nat_lit 554,a11)::(nat_lit 556,c0_556)::(nat_lit 557,k557 P)::(nat_lit 558,c0_558)::(nat_lit 559,c0_559 P)::(nat_lit 560,c0_560)::(nat_lit 563,c0_452)::(nat_lit 570,a11)::(nat_lit 572,c0_572)::(nat_lit 573,a11)::(nat_lit 575,c0_575)::(nat_lit 576,k576 P)::(nat_lit 577,a11)::(nat_lit 579,c0_579)::(nat_lit 580,a11)::(nat_lit 582,c0_582)::(nat_lit 583,k583 P)::(nat_lit 584,a11)::(nat_lit 586,c0_586)::(nat_lit 587,a11)::(nat_lit 589,c0_589)::(nat_lit 590,k590 P)::(nat_lit 591,a11)::(nat_lit 593,c0_593)::(nat_lit 594,a11)::(nat_lit 596,c0_596)::(nat_lit 597,k597 P)::(nat_lit 598,a11)::(nat_lit 599,c0_599 P)::(nat_lit 600,c0_600)::(nat_lit 603,c0_452)::(nat_lit 610,a11)::(nat_lit 612,c0_612)::(nat_lit 613,a11)::(nat_lit 615,c0_615)::(nat_lit 616,k616 P)::(nat_lit 617,a11)::(nat_lit 619,c0_619)::(nat_lit 620,a11)::(nat_lit 622,c0_622)::(nat_lit 623,k623 P)::(nat_lit 624,a11)::(nat_lit 626,c0_626)::(nat_lit 627,a11)::(nat_lit 629,c0_629)::(nat_lit 630,k630 P)::(nat_lit 631,a11)::(nat_lit 633,c0_633)::(nat_lit 634,a11)::(nat_lit 636,c0_636)::(nat_lit 637,k637 P)::(nat_lit 638,a11)::(nat_lit 640,c0_640)::(nat_lit 641,a11)::(nat_lit 643,c0_643)::(nat_lit 644,k644 P)::(nat_lit 645,c0_645)::(nat_lit 646,c0_646 P)::(nat_lit 647,c0_647)::(nat_lit 650,c0_426)::(nat_lit 657,a11)::(nat_lit 659,c1_659)::(nat_lit 660,a11)::(nat_lit 662,c1_662)::(nat_lit 663,k663 P)::(nat_lit 664,a11)::(nat_lit 666,c1_666)::(nat_lit 667,a11)::(nat_lit 669,c1_669)::(nat_lit 670,k670 P)::(nat_lit 671,a11)::(nat_lit 673,c1_673)::(nat_lit 674,a11)::(nat_lit 676,c1_676)::(nat_lit 677,k677 P)::(nat_lit 678,c1_678)::(nat_lit 679,c1_679 P)::(nat_lit 680,c1_680)::(nat_lit 683,c0_426)::(nat_lit 690,a11)::(nat_lit 692,c1_692)::(nat_lit 693,a11)::(nat_lit 695,c1_695)::(nat_lit 696,k696 P)::(nat_lit 697,a11)::(nat_lit 699,c1_699)::(nat_lit 700,a11)::(nat_lit 702,c1_702)::(nat_lit 703,k703 P)::(nat_lit 704,a11)::(nat_lit 706,c1_706)::(nat_lit 707,a11)::(nat_lit 709,c1_709)::(nat_lit 710,k710 P)::(nat_lit 711,c1_711)::(nat_lit 712,c1_712 P)::(nat_lit 713,c1_713)::(nat_lit 716,a11)::(nat_lit 719,c1_719)::(nat_lit 720,k720 P)::(nat_lit 721,a11)::(nat_lit 723,c1_723)::(nat_lit 724,a11)::(nat_lit 726,c1_726)::(nat_lit 727,k727 P)::(nat_lit 728,a11)::(nat_lit 730,c1_730)::(nat_lit 731,a11)::(nat_lit 733,c1_733)::(nat_lit 734,k734 P)::(nat_lit 735,a11)::(nat_lit 737,c1_737)::(nat_lit 738,a11)::(nat_lit 740,c1_740)::(nat_lit 741,k741 P)::(nat_lit 749,a11)::(nat_lit 751,c1_751)::(nat_lit 752,a11)::(nat_lit 754,c1_754)::(nat_lit 755,k755 P)::(nat_lit 756,a11)::(nat_lit 758,c1_758)::(nat_lit 759,a11)::(nat_lit 761,c1_761)::(nat_lit 762,k762 P)::(nat_lit 763,a11)::(nat_lit 765,c1_765)::(nat_lit 766,a11)::(nat_lit 768,c1_768)::(nat_lit 769,k769 P)::(nat_lit 770,a11)::(nat_lit 772,c1_772)::(nat_lit 773,c1_773)::(nat_lit 775,c1_775)::(nat_lit 776,k776 P)::(nat_lit 777,a11)::(nat_lit 779,c1_779)::(nat_lit 780,a11)::(nat_lit 782,c1_782)::(nat_lit 783,k783 P)::(nat_lit 784,a11)::(nat_lit 786,c1_786)::(nat_lit 787,a11)::(nat_lit 789,c1_789)::(nat_lit 790,k790 P)::(nat_lit 791,a11)::(nat_lit 794,c1_794)::(nat_lit 795,k795 P)::(nat_lit 796,a11)::(nat_lit 798,c1_798)::(nat_lit 799,a11)::(nat_lit 801,c1_801)::(nat_lit 802,k802 P)::(nat_lit 803,a11)::(nat_lit 805,c1_805)::(nat_lit 806,a11)::(nat_lit 808,c1_808)::(nat_lit 809,k809 P)::(nat_lit 810,a11)::(nat_lit 812,c1_812)::(nat_lit 813,a11)::(nat_lit 815,c1_815)::(nat_lit 816,k816 P)::(nat_lit 817,a11)::(nat_lit 819,c1_819)::(nat_lit 820,a11)::(nat_lit 822,c1_822)::(nat_lit 823,k823 P)::(nat_lit 824,a11)::(nat_lit 826,c1_826)::(nat_lit 827,a11)::(nat_lit 829,c1_829)::(nat_lit 830,k830 P)::(nat_lit 831,a11)::(nat_lit 833,c1_833)::(nat_lit 834,a11)::(nat_lit 836,c1_836)::(nat_lit 837,k837 P)::(nat_lit 838,a11)::(nat_lit 840,c1_840)::(nat_lit 841,a11)::(nat_lit 843,c1_843)::(nat_lit 844,k844 P)::(nat_lit 845,a11)::(nat_lit 847,c1_847)::(nat_lit 848,a11)::(nat_lit 850,c1_850)::(nat_lit 851,k851 P)::(nat_lit 852,a11)::(nat_lit 855,c1_855)::(nat_lit 856,k856 P)::(nat_lit 857,c1_857)::(nat_lit 858,c1_858 P)::(nat_lit 859,c1_859)::(nat_lit 860,c1_860)::(nat_lit 861,c1_861)::(nat_lit 871,a11)::(nat_lit 873,c1_873)::(nat_lit 874,a11)::(nat_lit 876,c1_876)::(nat_lit 877,k877 P)::(nat_lit 878,a11)::(nat_lit 880,c1_880)::(nat_lit 881,a11)::(nat_lit 883,c1_883)::(nat_lit 884,k884 P)::(nat_lit 885,a11)::(nat_lit 887,c1_887)::(nat_lit 888,a11)::(nat_lit 890,c1_890)::(nat_lit 891,k891 P)::(nat_lit 892,a11)::(nat_lit 894,c1_894)::(nat_lit 895,a11)::(nat_lit 897,c1_897)::(nat_lit 898,k898 P)::(nat_lit 899,a11)::(nat_lit 902,c1_902)::(nat_lit 903,k903 P)::(nat_lit 904,c1_904)::(nat_lit 905,c1_905 P)::(nat_lit 906,c1_906)::(nat_lit 907,c1_907)::(nat_lit 908,c1_908)::(nat_lit 918,a11)::(nat_lit 920,c1_920)::(nat_lit 921,a11)::(nat_lit 923,c1_923)::(nat_lit 924,k924 P)::(nat_lit 925,a11)::(nat_lit 927,c1_927)::(nat_lit 928,a11)::(nat_lit 930,c1_930)::(nat_lit 931,k931 P)::(nat_lit 932,a11)::(nat_lit 934,c1_934)::(nat_lit 935,a11)::(nat_lit 937,c1_937)::(nat_lit 938,k938 P)::(nat_lit 939,a11)::(nat_lit 941,c1_941)::(nat_lit 942,a11)::(nat_lit 944,c1_944)::(nat_lit 945,k945 P)::(nat_lit 946,a11)::(nat_lit 948,c1_948)::(nat_lit 949,a11)::(nat_lit 951,c1_951)::(nat_lit 952,k952 P)::(nat_lit 953,a11)::(nat_lit 955,c1_955)::(nat_lit 956,a11)::(nat_lit 958,c1_958)::(nat_lit 959,k959 P)::(nat_lit 960,a11)::(nat_lit 962,c1_962)::(nat_lit 963,a11)::(nat_lit 965,c1_965)::(nat_lit 966,k966 P)::(nat_lit 967,a11)::(nat_lit 970,c1_970)::(nat_lit 971,k971 P)::(nat_lit 972,a11)::(nat_lit 974,c1_974)::(nat_lit 975,a11)::(nat_lit 977,c1_977)::(nat_lit 978,k978 P)::(nat_lit 979,a11)::(nat_lit 981,c1_981)::(nat_lit 982,a11)::(nat_lit 984,c1_984)::(nat_lit 985,k985 P)::(nat_lit 986,a11)::(nat_lit 988,c1_988)::(nat_lit 989,a11)::(nat_lit 991,c1_991)::(nat_lit 992,k992 P)::(nat_lit 993,a11)::(nat_lit 995,c1_995)::(nat_lit 996,a11)::(nat_lit 998,c1_998)::(nat_lit 999,k999 P)::(nat_lit 1000,c1_1000)::(nat_lit 1001,c1_1001 P)::(nat_lit 1002,c1_1002)::(nat_lit 1003,c1_1003)::(nat_lit 1004,c1_1004)::(nat_lit 1007,a11)::(nat_lit 1009,c1_1009)::(nat_lit 1010,a11)::(nat_lit 1012,c1_1012)::(nat_lit 1013,k1013 P)::(nat_lit 1014,a11)::(nat_lit 1016,c1_1016)::(nat_lit 1017,a11)::(nat_lit 1019,c1_1019)::(nat_lit 1020,k1020 P)::(nat_lit 1021,a11)::(nat_lit 1023,c1_1023)::(nat_lit 1024,a11)::(nat_lit 1026,c1_1026)::(nat_lit 1027,k1027 P)::(nat_lit 1028,a11)::(nat_lit 1030,c1_1030)::(nat_lit 1031,a11)::(nat_lit 1033,c1_1033)::(nat_lit 1034,k1034 P)::(nat_lit 1035,a11)::(nat_lit 1037,c1_1037)::(nat_lit 1038,a11)::(nat_lit 1040,c1_1040)::(nat_lit 1041,k1041 P)::(nat_lit 1042,a11)::(nat_lit 1045,c1_1045)::(nat_lit 1046,k1046 P)::(nat_lit 1047,a11)::(nat_lit 1049,c1_1049)::(nat_lit 1050,a11)::(nat_lit 1052,c1_1052)::(nat_lit 1053,k1053 P)::(nat_lit 1054,a11)::(nat_lit 1056,c1_1056)::(nat_lit 1057,a11)::(nat_lit 1059,c1_1059)::(nat_lit 1060,k1060 P)::(nat_lit 1061,a11)::(nat_lit 1063,c1_1063)::(nat_lit 1064,a11)::(nat_lit 1066,c1_1066)::(nat_lit 1067,k1067 P)::(nat_lit 1068,a11)::(nat_lit 1071,c1_1071)::(nat_lit 1072,k1072 P)::[]
noncomputable def Ka:List Addr:=[2,3,15,17,18,20,21,22,23,24,25,26,34,36,37,39,40,41,43,44,46,47,48,50,51,53,54,55,57,58,60,61,62,64,65,67,68,69,70,71,72,73,76,83,85,86,88,89,90,91,92,95,102,104,105,107,108,109,110,111,114,121,123,124,126,127,128,129,130,133,135,136,138,139,140,147,148,149,150,153,160,161,162,165,172,173,174,177,184,185,186,189,196,198,199,201,202,203,204,205,215,217,218,220,221,222,225,226,227,230,231,232,234,235,237,238,239,241,242,244,245,246,249,250,251,254,255,256,258,259,261,262,263,266,267,268,271,272,273,275,276,278,279,280,281,282,283,284,287,289,290,292,293,294,297,298,299,301,302,304,305,313,315,316,318,319,320,322,323,325,326,327,329,330,332,333,334,336,337,339,340,341,343,344,346,347,348,350,351,353,354,355,357,358,360,361,362,363,364,365,366,369,377,379,380,382,383,384,386,387,389,390,391,393,394,396,397,398,400,401,403,404,405,407,408,410,411,412,414,415,417,418,419,420,421,422,423,426,433,435,436,438,439,440,442,443,445,446,447,448,449,452,459,461,462,464,465,466,468,469,471,472,473,475,476,478,479,480,481,482,485,492,494,495,497,498,499,501,502,504,505,506,508,509,511,512,513,514,515,518,525,527,528,530,531,532,534,535,537,538,539,541,542,544,545,546,549,550,551,553,554,556,557,558,559,560,563,570,572,573,575,576,577,579,580,582,583,584,586,587,589,590,591,593,594,596,597,598,599,600,603,610,612,613,615,616,617,619,620,622,623,624,626,627,629,630,631,633,634,636,637,638,640,641,643,644,645,646,647,650,657,659,660,662,663,664,666,667,669,670,671,673,674,676,677,678,679,680,683,690,692,693,695,696,697,699,700,702,703,704,706,707,709,710,711,712,713,716,719,720,721,723,724,726,727,728,730,731,733,734,735,737,738,740,741,749,751,752,754,755,756,758,759,761,762,763,765,766,768,769,770,772,773,775,776,777,779,780,782,783,784,786,787,789,790,791,794,795,796,798,799,801,802,803,805,806,808,809,810,812,813,815,816,817,819,820,822,823,824,826,827,829,830,831,833,834,836,837,838,840,841,843,844,845,847,848,850,851,852,855,856,857,858,859,860,861,871,873,874,876,877,878,880,881,883,884,885,887,888,890,891,892,894,895,897,898,899,902,903,904,905,906,907,908,918,920,921,923,924,925,927,928,930,931,932,934,935,937,938,939,941,942,944,945,946,948,949,951,952,953,955,956,958,959,960,962,963,965,966,967,970,971,972,974,975,977,978,979,981,982,984,985,986,988,989,991,992,993,995,996,998,999,1000,1001,1002,1003,1004,1007,1009,1010,1012,1013,1014,1016,1017,1019,1020,1021,1023,1024,1026,1027,1028,1030,1031,1033,1034,1035,1037,1038,1040,1041,1042,1045,1046,1047,1049,1050,1052,1053,1054,1056,1057,1059,1060,1061,1063,1064,1066,1067,1068,1071,1072]
theorem ke(P:Params):Ka=(Kf P).map (·.1):=by kernel_rfl
noncomputable abbrev HK:Hook:=kmHook Kf Ka ke [771]
noncomputable abbrev R:RowW:=PySem.Challenge.rw_pactroom_k52_ready_and_up_again.row.toRowW
noncomputable abbrev lo:List Str:=[Str.ofString "RANKS",Str.ofString "SHAPES"]
noncomputable abbrev lvv:List (Str×WData):=[]
noncomputable def qv:Program:={p0 with main:={p0.main with body:=[T 0,T 2,T 3,T 4,T 5,T 6,T 7,T 8,T 10,T 11,T 12,T 13,T 14,T 16,T 18,T 19,T 20,T 21,T 22,T 23,T 24,T 25,T 26,T 27,T 28,T 29,T 31,T 32,T 33,T 34,T 35,T 36,T 37,T 38,T 39,T 40,T 41,T 42,T 43,T 44,T 45,T 47,T 49,T 51,T 53,T 54,T 55,T 56,T 57,T 58,T 59,T 60,T 61,T 62]}}
noncomputable abbrev Xt:Shared->Bool:=λs=>xlAt qv lvv s&&recOk (RowW.records R) s
theorem size_l(w:World):((boot_heap w.params).isNs mainGlobals&&(A []:Array GenState).size==0,(boot_heap w.params).objs.size,(boot_heap w.params).nsMap mainGlobals "__annotations__")=(true,11,(sr 6)):=by kernel_rfl
theorem look1(w:World)(os:OsState):(staticsOk (importedModules p0.main.body) (boot_heap w.params) (H1 w.params)&&namesBound p0 (H1 w.params)&&gensDone ⟨H1 w.params,Array.mk [],(@Drawn.mk 0 0 0 0),1613,os⟩&&laidKept (boot_heap w.params) (H1 w.params))=true:=by kernel_rfl
theorem look2(w:World)(os:OsState):openSeen qv lo (importedModules p0.main.body) Xt true ⟨H1 w.params,Array.mk [],(@Drawn.mk 0 0 0 0),1613,os⟩=openGood qv lo:=by kernel_rfl
theorem look3(w:World)(os:OsState):Hook.obs HK ⟨H1 w.params,Array.mk [],(@Drawn.mk 0 0 0 0),1613,os⟩=Hook.val HK w:=by kernel_rfl
theorem left:LeftO p0 qv lo Xt (Hook.obs HK) (Hook.val HK) 17524:=LeftO.of_pieces (boot_open (by kernel_rfl) (by kernel_rfl) (λs=>by kernel_rfl)) size_l run_l (by decide) λw=>funext λos=>looks_pair (look1 w os) (looks_pair (look2 w os) (look3 w os))
end
end Q
end
namespace L2
open PySem PySem.Spec PyProof.Rows
section
variable {X:Cx}
theorem jW:cG X (.builtin "isinstance") (λxs H Q=>∃x t n b,xs=[x,.ty n]/\TyOf X.K H x t/\PySem.W.kitOne X.K t (.type n)=some b/\Q (.bl b) H):=by
 intro d s σ H xs j Q I r h
 obtain ⟨x,t,n,b,rfl,ty,e,q⟩:=h
 obtain ⟨u,u2,rfl,f,g⟩:=rK r
 cases (show u2=Value.type n from g)
 exact t9 I f ty e λi=>⟨.bl b,H,I.tok _,ϱ,q⟩
theorem lL:MtR X "str.startswith" (λx vs H Q=>∃z y i,x=.str z/\vs=[.str y,.int i]/\Q (.bl (Txt.startswith3 z y i)) H):=by
 intro b s σ H x g v j Q I d r h
 obtain ⟨z,y,i,rfl,rfl,q⟩:=h
 obtain ⟨t,rfl⟩:=d
 obtain ⟨u,u2,rfl,⟨e,rfl⟩,⟨f,rfl⟩⟩:=rK r
 exact SC.startswith3 ⟨.bl _,H,I,ϱ,q⟩
theorem my:MtR X "str.startswith" (λx vs H Q=>∃z y,x=.str z/\vs=[.str y]/\Q (.bl (Txt.startswith z y)) H):=by
 intro b s σ H x f v g Q I d r h
 obtain ⟨z,y,rfl,rfl,q⟩:=h
 obtain ⟨t,rfl⟩:=d
 obtain ⟨u,rfl,⟨e,rfl⟩⟩:=cL r
 exact SC.startswith ⟨.bl _,H,I,ϱ,q⟩
theorem qV:MtR X "str.isdigit" (λx vs H Q=>∃z,x=.str z/\vs=[]/\Q (.bl (Txt.isdigit z)) H):=by
 intro b s σ H x e v f Q I d r h
 obtain ⟨z,rfl,rfl,q⟩:=h
 obtain ⟨t,rfl⟩:=d
 cases r
 exact SC.isdigit ⟨.bl _,H,I,ϱ,q⟩
theorem cy:cG X (.type "int") (λxs H Q=>∃z n,xs=[.str z]/\PySem.intText? z=some n/\z.length<=640/\Q (.int n) H):=by
 intro b s σ H xs f Q I r h
 obtain ⟨z,n,rfl,e,d,q⟩:=h
 obtain ⟨u,rfl,⟨t,rfl⟩⟩:=cL r
 exact PySem.W.KIN.call_text e d ⟨.int n,H,I.tok _,⟨_,ϱ⟩,q⟩
theorem uY:SlR X (λx lo hi H Q=>∃z,x=.str z/\z.length<=sizeLine/\Q (.str (Txt.slice z lo hi)) H):=by
 intro f s σ H x v m o lo hi r Q I g d i j h
 obtain ⟨z,rfl,b,q⟩:=h
 obtain ⟨t,rfl⟩:=g
 refine ⟨"str",_,F.slot_str_getitem.lookup,typeIs_str _ _ _,?_⟩
 cases i<;>cases j
 ·exact wpAny_getItem_str_slice (l:=none) (u:=none) (st:=none) d rfl (post_val_or_str ⟨Λ (Txt.slice_le z _ _) b,λe k=>⟨.str _,H,I.tok _,⟨_,ϱ⟩,q⟩⟩)
 ·exact wpAny_getItem_str_slice (l:=none) (u:=some (_,_)) (st:=none) d rfl (post_val_or_str ⟨Λ (Txt.slice_le z _ _) b,λe k=>⟨.str _,H,I.tok _,⟨_,ϱ⟩,q⟩⟩)
 ·exact wpAny_getItem_str_slice (l:=some (_,_)) (u:=none) (st:=none) d rfl (post_val_or_str ⟨Λ (Txt.slice_le z _ _) b,λe k=>⟨.str _,H,I.tok _,⟨_,ϱ⟩,q⟩⟩)
 ·exact wpAny_getItem_str_slice (l:=some (_,_)) (u:=some (_,_)) (st:=none) d rfl (post_val_or_str ⟨Λ (Txt.slice_le z _ _) b,λe k=>⟨.str _,H,I.tok _,⟨_,ϱ⟩,q⟩⟩)
theorem qj(U:X.calm=true):cG X (.builtin "all") (λxs H Q=>∃(p:Addr) (bs:List Bool),xs=[.ref p]/\SqL X.K H p (bs.map V.bl)/\Q (.bl (bs.all id)) H):=by
 intro w s σ H xs us Q I r h
 obtain ⟨p,bs,rfl,x,q⟩:=h
 obtain ⟨u,rfl,y⟩:=cL r
 cases (show u=Value.ref p from y)
 obtain ⟨b,m,z,W⟩:=I.list x
 have j:=z.isList
 have l:p<s.heap.objs.size:=by obtain ⟨_,e,_⟩:=j;exact η e
 have D:X.A.handled=none:=I.ok.hd U
 have d:bs.length=b.length:=by have:=m.length;rw [ν] at this;exact this
 refine call_all_walk (wpAny_pyIter_list j ?_)
 refine ⟨s.heap.objs.size,[s.heap.objs.size,p],[s.heap.objs.size],b.toArray.size,_,_,λi=>(bs[i]?).getD true,ϱ,Walks.list (A:=X.A.in1) D _ p (Φ l) b.toArray,
  ⟨⟨_,ψ _ rfl,ϱ,ϱ⟩,j.push _⟩,λi v G J E' L O=>?_,λh' tk P=>?_⟩
 ·have f:b[i]?=some v:=by simpa using L
  have Z:i<b.length:=(List.getElem?_eq_some_iff.mp f).1
  have F:(bs.map V.bl)[i]?=some (V.bl (bs[i]'(ω))):=by rw [List.getElem?_map,ξ ω];rfl
  obtain ⟨Y,o,C⟩:=m.get F
  rw [f] at o
  cases o
  cases (show v=Value.bool _ from C)
  have g:J ((bs[i]?).getD true) G:=O
  rw [ξ ω] at g
  exact wpAny_truthy_bool g
 ·have e:((List.range b.toArray.size).all λi=>(bs[i]?).getD true)=bs.all id:=by
   rw [List.size_toArray,← d];exact LSm.range_all bs
  rw [e]
  exact ⟨.bl _,H,I.kept (LSm.kept_iter P),ϱ,q⟩
end
def df(env:Env):List (Str×NameKind)->List (Str×Addr)->List (Str×Addr)
 | [],cs=>cs
 | (n,k)::r,cs=>df env r (if k==.free then match env.cells.lookup n with | some a=>(n,a)::cs | none=>cs else cs)
theorem gw{scope:Scope}{env:Env}(h:∀y∈scope.names,y.2=.free->∃c,env.cells.lookup y.1=some c):closureFor scope env=pure (df env scope.names []):=by
 have d:∀(l:List (Str×NameKind)) (b:List (Str×Addr)),(∀y∈l,y.2=.free->∃c,env.cells.lookup y.1=some c) ->
   (forIn l b (λ(x:Str×NameKind) (r:List (Str×Addr))=>(if (x.2==NameKind.free)=true then (do let a ← cellOf env x.1;pure (ForInStep.yield ((x.1,a)::r))) else pure (ForInStep.yield r):Sem (ForInStep (List (Str×Addr))))))=(pure (df env l b):Sem _):=by
  intro l
  induction l with
  | nil=>intro b _;rfl
  | cons y r ih =>
   intro b j
   obtain ⟨n,k⟩:=y
   have i:∀z∈r,z.2=.free->∃c,env.cells.lookup z.1=some c:=λz m=>j z (Θ _ m)
   rw [List.forIn_cons]
   by_cases hk:(k==NameKind.free)=true
   ·obtain ⟨c,g⟩:=j (n,k) List.mem_cons_self (by simpa using hk)
    have e:cellOf env n=pure c:=by unfold cellOf;rw [g]
    simp only [hk,if_true,e,pure_bind,df,g]
    exact ih _ i
   ·have f:(k==NameKind.free)=false:=by simpa using hk
    simp only [f,Bool.false_eq_true,if_false,pure_bind,df]
    exact ih _ i
 have e:closureFor scope env=(forIn scope.names ([]:List (Str×Addr)) (λ(x:Str×NameKind) (r:List (Str×Addr))=>(if (x.2==NameKind.free)=true then (do let a ← cellOf env x.1;pure (ForInStep.yield ((x.1,a)::r))) else pure (ForInStep.yield r):Sem (ForInStep (List (Str×Addr))))) >>= λb=>pure b):=by
  unfold closureFor
  rfl
 rw [e,d scope.names [] h]
 all_goals rfl
theorem jL{env:Env}:∀(l:List (Str×NameKind)) (cs:List (Str×Addr)),(∀p∈cs,env.cells.lookup p.1=some p.2)->∀p∈df env l cs,env.cells.lookup p.1=some p.2
 | [],cs,h,p,hp=>h p hp
 | (n,k)::r,cs,h,p,hp=>by
  unfold df at hp
  refine jL r _ ?_ p hp
  split
  ·split
   ·rename_i a ea
    intro q hq
    rcases ϕ.mp hq with e | hq
    ·rw [e];exact ea
    ·exact h q hq
   ·exact h
  ·exact h
theorem jV{env:Env}:∀(l:List (Str×NameKind)) (cs:List (Str×Addr)) {y:Str},(∃p∈cs,p.1=y)->∃p∈df env l cs,p.1=y
 | [],cs,y,h=>h
 | (n,k)::r,cs,y,⟨p,hp,e⟩=>by
  unfold df
  refine jV r _ ?_
  split
  ·split
   ·exact ⟨p,Θ _ hp,e⟩
   ·exact ⟨p,hp,e⟩
  ·exact ⟨p,hp,e⟩
theorem nj{env:Env}:∀(l:List (Str×NameKind)) (cs:List (Str×Addr)) {y:Str} {c:Addr},(y,NameKind.free)∈l->env.cells.lookup y=some c->∃p∈df env l cs,p.1=y
 | (n,k)::r,cs,y,c,hm,hc=>by
  unfold df
  rcases ϕ.mp hm with e | hm
  ·cases e
   refine jV r _ ?_
   rw [if_pos (by rfl),hc]
   exact ⟨_,Ω,ϱ⟩
  ·exact nj r _ hm hc
theorem ir{α:Type}:∀{l:List (Str×α)} {p:Str×α},p∈l->∃c,l.lookup p.1=some c
 | q::l,p,h=>by
  obtain ⟨n,a⟩:=q
  rw [List.lookup_cons]
  split
  ·exact ⟨_,ϱ⟩
  ·rename_i hne
   rcases ϕ.mp h with e | h
   ·subst e;simp at hne
   ·exact ir h
theorem jc{env:Env}{l:List (Str×NameKind)}{y:Str}{c:Addr}(g:(y,NameKind.free)∈l)(d:env.cells.lookup y=some c):(df env l []).lookup y=some c:=by
 obtain ⟨p,f,e⟩:=nj l [] g d
 obtain ⟨h,b⟩:=ir f
 rw [e] at b
 have q:=jL l [] (λ_ z=>nomatch z) _ (PySem.mem_of_lookup b)
 rw [d] at q
 rw [b]
 exact q.symm
theorem bO{env:Env}{l:List (Str×NameKind)}{y:Str}{c:Addr}(h:(df env l []).lookup y=some c):env.cells.lookup y=some c :=
 jL l [] (λ_ z=>nomatch z) _ (PySem.mem_of_lookup h)
theorem fO{env:Env}:∀{names:List (Str×NameKind)} {x:Str} {k:NameKind},(names.map λ(n,k)=>if (k==NameKind.free&&env.scope.kind==.function&&env.kindOf n==some .cell) then (n,NameKind.cell) else (n,k)).lookup x=some k ->
  ∃k',names.lookup x=some k'/\(k'=k\/k'=.free)
 | [],_,_,h=>by simp at h
 | (n,k0)::r,x,k,h=>by
  have ih:=@fO env r x k
  have h:List.lookup x ((if (k0==NameKind.free&&env.scope.kind==.function&&env.kindOf n==some .cell)=true then (n,NameKind.cell) else (n,k0))::_)=some k:=h
  cases hx:x==n with
  | true =>
   refine ⟨k0,by simp only [List.lookup_cons,hx],?_⟩
   by_cases hc:(k0==NameKind.free&&env.scope.kind==.function&&env.kindOf n==some .cell)=true
   ·refine .inr ?_
    simp only [Bool.and_eq_true] at hc
    exact beq_iff_eq.mp hc.1.1
   ·rw [if_neg hc] at h
    simp only [List.lookup_cons,hx] at h
    exact .inl (Δ h)
  | false =>
   have h2:List.lookup x (r.map λ(n,k)=>if (k==NameKind.free&&env.scope.kind==.function&&env.kindOf n==some .cell) then (n,NameKind.cell) else (n,k))=some k:=by
    by_cases hc:(k0==NameKind.free&&env.scope.kind==.function&&env.kindOf n==some .cell)=true
    ·rw [if_pos hc] at h;simp only [List.lookup_cons,hx] at h;exact h
    ·rw [if_neg hc] at h;simp only [List.lookup_cons,hx] at h;exact h
   obtain ⟨k',b,d⟩:=ih h2
   exact ⟨k',by simp only [List.lookup_cons,hx];exact b,d⟩
theorem gp{env:Env}:∀{names:List (Str×NameKind)} {x:Str},names.lookup x=some .free ->
  (names.map λ(n,k)=>if (k==NameKind.free&&env.scope.kind==.function&&env.kindOf n==some .cell) then (n,NameKind.cell) else (n,k)).lookup x=some .cell \/
  (names.map λ(n,k)=>if (k==NameKind.free&&env.scope.kind==.function&&env.kindOf n==some .cell) then (n,NameKind.cell) else (n,k)).lookup x=some .free
 | [],_,h=>by simp at h
 | (n,k0)::r,x,h=>by
  have ih:=@gp env r x
  show List.lookup x ((if (k0==NameKind.free&&env.scope.kind==.function&&env.kindOf n==some .cell)=true then (n,NameKind.cell) else (n,k0))::_)=some .cell\/List.lookup x ((if (k0==NameKind.free&&env.scope.kind==.function&&env.kindOf n==some .cell)=true then (n,NameKind.cell) else (n,k0))::_)=some .free
  cases hx:x==n with
  | true =>
   simp only [List.lookup_cons,hx] at h
   by_cases hc:(k0==NameKind.free&&env.scope.kind==.function&&env.kindOf n==some .cell)=true
   ·rw [if_pos hc];simp only [List.lookup_cons,hx];simp
   ·rw [if_neg hc];simp only [List.lookup_cons,hx];exact .inr (by rw [Option.some.inj h])
  | false =>
   simp only [List.lookup_cons,hx] at h
   by_cases hc:(k0==NameKind.free&&env.scope.kind==.function&&env.kindOf n==some .cell)=true
   ·rw [if_pos hc];simp only [List.lookup_cons,hx];exact ih h
   ·rw [if_neg hc];simp only [List.lookup_cons,hx];exact ih h
def Its(z:Str):It:=⟨λi _=>i<z.length,λi H x H'=>H'=H/\∃c,z.cps.toList[i]?=some c/\x=.str ⟨#[c]⟩,λi _=>z.length<=i⟩
structure StrIt(P:Program)(w:World)(it:Addr)(ty:String)(z:Str)(t:Tok):Prop where
 W:∀A':Around,A'.handled=none->Walks P w A' it [it] [it] z.cps.size (SignAt z) (λi h=>h.IsStrIter it ty z t i)
 en:∀(A:Around) (i:Nat) (s:Shared) (Q:Option Value->Shared->Prop) (E:Value->Shared->Prop),A.handled=none->s.heap.IsStrIter it ty z t i->z.cps[i]?=none ->
  (∀h',Heap.ExtBut it s.heap h'->Q none {s with heap:=h'})->wpAny (model P w) A (pyNext (.ref it)) Q E s
 me:∀(A:Around) (i:Nat) (s:Shared) (Q:Value->Shared->Prop) (E:Value->Shared->Prop),s.heap.IsStrIter it ty z t i->Q (.ref it) s->wpAny (model P w) A (pyIter (.ref it)) Q E s
 ne:["enumerate","zip","dict_itemiterator","dict_reverseitemiterator","odict_iterator","itertools.zip_longest","itertools.pairwise"].contains ty=false
theorem StrIt.ascii{P:Program}{w:World}(it:Addr)(z:Str)(t:Tok):StrIt P w it "str_ascii_iterator" z t :=
 ⟨λ_ hA=>Walks.strAscii hA it z t,λ_ _ _ _ _ hA st hx hQ=>wpAny_pyNext_ascii_end hA st hx hQ,λ_ _ _ _ _ st h=>wpAny_pyIter_striter_ascii st h,ζ⟩
theorem StrIt.wide{P:Program}{w:World}(it:Addr)(z:Str)(t:Tok):StrIt P w it "str_iterator" z t :=
 ⟨λ_ hA=>Walks.strWide hA it z t,λ_ _ _ _ _ hA st hx hQ=>wpAny_pyNext_wide_end hA st hx hQ,λ_ _ _ _ _ st h=>wpAny_pyIter_striter_wide st h,ζ⟩
theorem uD{P:Program}{w:World}{K:Frag}{tg:Expr}{z:Str}{t:Tok}{it:Addr}{U:String}(S:StrIt P w it U z t) :
  rE P w K tg (Its z) [it] it (λi h=>h.IsStrIter it U z t i) where
 mem:=by simp
 obj:=λi h st b hb=>by
  have e:b=it:=by simpa using hb
  subst e
  obtain ⟨o,e,c,d⟩:=st
  exact ⟨o,e,λv q=>by rw [d] at q;cases q⟩
 keep:=λi h h' st k=>by
  obtain ⟨o,e,r⟩:=st
  exact ⟨o,k it (by simp) o e,r⟩
 item:=by
  intro X D F G J i f s σ H E I hf st L
  subst D F G
  obtain ⟨j,l,Y,m,x,y⟩:=hf it (by simp)
  refine (S.W X.A (I.ok.hd J)).item i s _ _ L st λv h' O hv g kk=>?_
  obtain ⟨c,u,C,rfl⟩:=hv
  have I1:Inv X f σ H {s with heap:=h',toks:=O}:=I.turned (λb o hb e=>kk b o (by simpa using hb) e) j l m x y
  obtain ⟨o,e,Z,d1⟩:=id g
  exact ⟨_,ϱ,mY (s:={s with heap:=h',toks:=O}) e Z d1 S.ne ⟨.str ⟨#[c]⟩,H,I1,⟨u,ϱ⟩,⟨ϱ,c,by rw [Array.getElem?_toList];exact C,ϱ⟩,g,λb hb=>(hf b hb).1⟩⟩
 done:=by
  intro X D F G J i f s σ H E I hf st L
  subst D F G
  obtain ⟨j,l,Y,m,x,y⟩:=hf it (by simp)
  refine S.en X.A i s _ _ (I.ok.hd J) st ?_ λh' eb=>⟨ϱ,I.turned (t':=s.toks) (λb o hb e=>eb b o hb e) j l m x y⟩
  exact Array.getElem?_eq_none L
 self:=λA i s Q E st h=>S.me A i s Q E st h
def Ci(tl:TE):TI:=fun σ H R=>tl σ H λx H1=>∃z,x=.str z/\R (Its z) H1
theorem Ai{X:Cx}{m l:Expr}{tl:TE}(C:PE X l tl):PI X m l (Ci tl):=by
 intro f s σ H R I h
 refine thn (C f s σ H _ I h) λv d ⟨x,H1,i,r,q1⟩=>?_
 obtain ⟨z,rfl,q⟩:=q1
 obtain ⟨t,rfl⟩:=r
 have g:∀(o:Obj) (j:String),StrIt X.prog X.w d.heap.objs.size j z t->(d.heap.push o).IsStrIter d.heap.objs.size j z t 0->PIE X f σ m R (.ref d.heap.objs.size) {d with heap:=d.heap.push o}:=λo j S u=>by
  refine ⟨d.heap.objs.size,[d.heap.objs.size],_,Its z,H1,ϱ,i.kept (t':=d.toks) λb o e=>ρ _ e,uD S,u,λb y=>?_,q⟩
  have e:b=d.heap.objs.size:=by simpa using y
  subst e
  exact i.fpOk (ι _) (i.hok.fresh (ι _))
 cases ha:z.cps.all (·<128)
 ·exact wpAny_pyIter_wide ha (g _ _ (.wide _ z t) ⟨_,ψ _ rfl,ϱ,ϱ⟩)
 ·exact wpAny_pyIter_ascii ha (g _ _ (.ascii _ z t) ⟨_,ψ _ rfl,ϱ,ϱ⟩)
def Cx.blk(X:Cx)(N':List Str)(scope:Scope)(C:Addr)(fp:List Addr)(s:Shared)(H:Hp):Cx :=
 {X with N:=N',s₀:=s,H₀:=H,env:=compEnvC scope (df X.env scope.names []) C X.env,outer:=X.stack,ex:=fp,fn:=λ_=>false,pn:=[],xe:=λ_ _=>False}
structure aQ(N:List Str)(sc scope:Scope)(x:Str)(N':List Str)(fv:List Nat):Prop where
 nocell:∀y∈scope.names,y.2≠.cell
 kind:scope.kind=.function
 names:∀y∈scope.names,y.2=.local->scope.names.lookup y.1=some .local
 loc:scope.names.lookup x=some .local
 free:∀y∈scope.names,y.2=.free->sc.names.lookup y.1=some .cell\/sc.names.lookup y.1=some .free
 nd:N'.Nodup
 hd:N'[0]?=some x
 len:N'.length=fv.length+1
 at_:∀j,j<fv.length->(N'[j+1]?).isSome=true/\N'[j+1]?=(fv[j]?).bind (λi=>N[i]?)/\(N'[j+1]?).bind (λy=>scope.names.lookup y)=some .free
def be(fv:List Nat)(σ:St):St:=fv.map λk=>(σ[k]?).join
abbrev nI(ifs:List Expr)(env:Env):Sem Bool:=forIn ifs true λc r=>if r=true then do let ok ← isTrue c env (eval c env);pure (ForInStep.yield ok) else pure (ForInStep.yield r)
def PTs(X:Cx)(ifs:List Expr)(t:TT):Prop :=
 ∀(pins:List (Addr×Obj)) (s:Shared) (σ:St) (H:Hp) (Q:Bool->Hp->Prop),Inv X pins σ H s->t σ H Q->wpAny (model X.prog X.w) X.A (nI ifs X.env) (TP X pins σ Q) X.xe s
def Bz:TT:=λ_ H Q=>Q true H
theorem cg{X:Cx}:PTs X [] Bz:=λpins s σ H Q I h=>π ⟨H,I,h⟩
theorem fR{X:Cx}{c:Expr}{t:TT}(f:PT X c t):PTs X [c] t:=by
 intro d s σ H Q I h
 have e:nI [c] X.env=(isTrue c X.env (eval c X.env) >>= λok=>pure ok):=by
  unfold nI
  rw [List.forIn_cons]
  simp
 rw [e]
 exact ε (thn (f d s σ H Q I h) λb g q=>π q)
def tLC(wi:TI)(fv:List Nat)(tt:TT)(te:TE):TE:=fun σ H Q=>wi σ H λJ H1=>∃(W:Nat->List V->Hp->Prop) (n:Nat),W 0 [] H1/\n<=sizeLine/\∀i ys H,W i ys H ->
 (J.stop i H/\∀p,H p=none->Q (.ref p) (upd H p (.lst ys))) \/
 (J.go i H/\i<n/\∀x H',J.yld i H x H'->tt (some x::be fv σ) H' λc H2=>if c=true then te (some x::be fv σ) H2 λy H3=>W (i+1) (ys++[y]) H3 else W (i+1) ys H2)
section
variable {X:Cx}{N':List Str}{scope:Scope}{x:Str}{fv:List Nat}
theorem sO{h:List (Addr×Obj)}{σ:St}{H:Hp}{s:Shared}{W:List Addr}{C:Addr}{h1:Heap}{m:Str->Option Value}{tk:Nat}{pl:List (Addr×Obj)}(S:aQ X.N X.env.scope scope x N' fv)(I:Inv X h σ H s)
  (hf:∀b∈W,pi X h H b)(Y:∀b∈W,b<s.heap.objs.size)(Z:s.heap.objs.size<=C)(kp:∀b o,s.heap.get? b=some o->h1.get? b=some o)(hn:h1.Ns C m)
  (a0:∀p∈pl,h1.get? p.1=some p.2/\s.heap.objs.size<=p.1/\p.1≠C/\∀v,p.2.data≠.cell v) :
  Inv (X.blk N' scope C W s H) pl (none::be fv σ) H {s with heap:=h1,toks:=tk}:=by
 have g:∀y c,(df X.env scope.names []).lookup y=some c->X.env.cells.lookup y=some c:=λy c e=>bO e
 have cell:∀y c,(df X.env scope.names []).lookup y=some c->∃v,s.heap.IsCell c v:=λy c e=>I.cell y c (g y c e)
 have lt:∀y c,(df X.env scope.names []).lookup y=some c->c<s.heap.objs.size:=λy c e=>by obtain ⟨v,q⟩:=cell y c e;exact q.lt
 have kc:∀c v,s.heap.IsCell c v->h1.IsCell c v:=λc v q=>by obtain ⟨o,e,d⟩:=q;exact ⟨o,kp _ _ e,d⟩
 refine ⟨⟨I.ok.mod,S.kind,I.ok.glob,I.ok.blt,Z,λy z c l e2=>I.ok.inj y z c (g y c l) (g z c e2),λy hy=>?_,λy c e=>?_,I.ok.hd,I.ok.frames,.inl rfl,λb r=>⟨?_,λy c e z=>(hf b r).2.2.2.2.1 y c (g y c e) z⟩,λb o e=>I.bs b o e,Λ I.ok.bsz I.sz,λb o e r=>?_,λb r Q=>?_,I.stack,I.stkFree⟩,
  rfl,I.bare,Un.kept kp,⟨m,hn,λi y v U h2 h3=>?_⟩,λy c e=>?_,I.hok.fresh Z,λy c e=>I.freeC y c (g y c e),λp hp=>?_,I.hok.kept kp,?_⟩
 ·have O:∃k,scope.names.lookup y=some k/\k=.free:=by
   rcases hy with hy | hy
   ·obtain ⟨F,l,e2⟩:=fO (env:=X.env) (names:=scope.names) (x:=y) (k:=.cell) hy
    rcases e2 with e2 | e2
    ·exact absurd e2 (S.nocell _ (PySem.mem_of_lookup l))
    ·exact ⟨F,l,e2⟩
   ·obtain ⟨F,l,e2⟩:=fO (env:=X.env) (names:=scope.names) (x:=y) (k:=.free) hy
    rcases e2 with e2 | e2
    ·exact ⟨F,l,e2⟩
    ·exact ⟨F,l,e2⟩
  obtain ⟨k,e,rfl⟩:=O
  have w:=PySem.mem_of_lookup e
  obtain ⟨c,J⟩:=I.ok.has y (S.free _ w rfl)
  exact ⟨c,jc w J⟩
 ·exact (Bool.false_ne_true (show false=true from e)).elim
 ·exact Φ (Nat.lt_of_lt_of_le (Y b r) Z)
 ·have e':=e
  rcases (hf b r).2.2.2.1 with z | z
  ·exact I.ok.noex b o e z
  ·exact absurd (Nat.lt_of_lt_of_le (η e) (Λ I.ok.bsz z)) (Nat.lt_irrefl _)
 ·have q:=I.stkSub b Q
  rcases ϕ.mp q with z | z
  ·exact (hf b r).2.1 z
  ·exact (hf b r).2.2.1 z
 ·cases i with
  | zero =>
   have z:(none:Option V)=some v:=Δ h2
   cases z
  | succ j =>
   have f:(be fv σ)[j]?=some (some v):=h2
   unfold be at f
   rw [List.getElem?_map] at f
   cases ej:fv[j]? with
   | none=>rw [ej] at f;cases f
   | some k =>
    rw [ej] at f
    have G:(σ[k]?).join=some v:=Δ f
    have h5:σ[k]?=some (some v):=by
     cases es:σ[k]? with
     | none=>rw [es] at G;cases G
     | some w'=>rw [es] at G;rw [show w'=some v from G]
    have hj:j<fv.length:=(List.getElem?_eq_some_iff.mp ej).1
    obtain ⟨_,K,a2⟩:=S.at_ j hj
    have D:N'[j+1]?=some y:=U
    rw [D] at K a2
    rw [ej] at K
    have a3:X.N[k]?=some y:=K.symm
    have a4:scope.names.lookup y=some .free:=a2
    have w:=PySem.mem_of_lookup a4
    have kd:X.env.kindOf y=some .cell\/X.env.kindOf y=some .free:=S.free _ w rfl
    obtain ⟨mX,_,L⟩:=I.loc
    obtain ⟨u,ru,lk⟩:=L k y v a3 h5 (kd.elim (λz=>.inr (.inl z)) λz=>.inr (.inr z))
    refine ⟨u,ru,.inr ?_⟩
    rcases lk with ⟨z,_⟩ | ⟨_,c,J,hcell⟩
    ·rcases kd with z' | z'<;>rw [z'] at z<;>cases z
    ·exact ⟨gp (env:=X.env) a4,c,jc w J,kc _ _ hcell⟩
 ·obtain ⟨v,q⟩:=cell y c e
  exact ⟨v,kc _ _ q⟩
 ·have P:p∈pl:=hp
  obtain ⟨e,l1,l2,d⟩:=a0 p P
  exact ⟨e,I.hok.fresh l1,l2,λz=>absurd (I.stkSub _ z) (λq=>by
   rcases ϕ.mp q with q | q
   ·exact absurd I.lt (by rw [← q];exact Nat.not_lt.mpr l1)
   ·exact I.nofs l1 q),d⟩
 ·show (none::be fv σ).length=N'.length
  rw [S.len]
  unfold be
  simp
end
theorem nox{α:Type}{t:Sem α}{Q Q':α->Shared->Prop}{M:Model}{A:Around}{E:Value->Shared->Prop}{s:Shared}(h:wpAny M A t Q (λ_ _=>False) s)(hQ:∀a s,Q a s->Q' a s):wpAny M A t Q' E s:=wpAny_mono h hQ λ_ _ f=>f.elim
set_option maxHeartbeats 1600000 in
theorem cM{X:Cx}{aR O:Expr}{x:Str}{px:Pos}{aS:List Expr}{scope:Scope}{pos:Pos}{K:List Str}{fv:List Nat}{wi:TI}{tt:TT}{te:TE}
  (S:aQ X.N X.env.scope scope x K fv)(hc:X.calm=true)(hi:PI X (.Name x px) O wi)
  (ht:∀C fp s H,PTs (X.blk K scope C fp s H) aS tt)(he:∀C fp s H,PE (X.blk K scope C fp s H) aR te)
  (hs:∀x,foldedSetIterable O X.env x=pure x:=by intro _;rfl) :
  PE X (.ListComp aR [⟨.Name x px,O,aS,0⟩] scope pos) (tLC wi fv tt te):=by
 intro a4 s σ H Q I h
 rw [eval_ListComp]
 refine wpAny_comprehension_free (use:=none) rfl hs (gw λy hy hk=>I.ok.has y.1 (S.free y hy hk)) S.kind S.names
  (wpAny_mono (hi a4 s σ H _ I h) (λxv s1 h1=>wpAny_mono h1 (λea g h2=>?_) λ_ _ e=>e) λ_ _ e=>e)
 obtain ⟨it,fp,tn,J,F,rfl,Y,T,a5,f2,W,n,w0,hn,aZ⟩:=h2
 refine wpAny_newObj_type (wpAny_newFunctionEnv S.nocell (by intro y hy;simp at hy) (λh1 ak ar=>?_) S.kind)
 dsimp only at ak ar ⊢
 generalize hH:g.heap.push {cls:=.type "list",dict:=none,data:=.seq ([]:List Value).toArray}=G at ak ar ⊢
 have hG:G.objs.size=g.heap.objs.size+1:=by rw [← hH,Heap.size_push]
 have cs:∀b o,g.heap.get? b=some o->G.get? b=some o:=λb o e=>hH▸ρ _ e
 have b0:∀b o,b<G.objs.size->G.get? b=some o->h1.get? b=some o:=λb o lt e=>ar.extBut b o (Φ lt) (ρ _ e)
 have kp:∀b o,g.heap.get? b=some o->h1.get? b=some o:=λb o e=>b0 b o (by rw [hG];exact Nat.lt_succ_of_lt (η e)) (cs b o e)
 have hD:h1.PlainList g.heap.objs.size #[]:=⟨_,b0 _ _ (by rw [hG];exact Nat.lt_succ_self _) (hH▸ψ _ rfl)⟩
 have a6:g.heap.objs.size≠G.objs.size:=by rw [hG];exact Φ (Nat.lt_succ_self _)
 have hC:g.heap.objs.size<=G.objs.size:=by rw [hG];exact Nat.le_succ _
 have a7:∀b∈fp,b<g.heap.objs.size:=λb m=>by obtain ⟨o,e,_⟩:=T.obj 0 _ a5 b m;exact η e
 have U:∀{D:Hp} {pl:List (Addr×Obj)},(∀b∈fp,D b=none)->(∀p∈pl,p.1∉fp)->∀b∈fp,pi (X.blk K scope G.objs.size fp g F) pl D b:=λ{D pl} hn hpl b m=>by
  obtain ⟨_,g1,g2,g3,g4,g5⟩:=f2 b m
  refine ⟨hn b m,Φ (Nat.lt_of_lt_of_le (a7 b m) hC),λz=>?_,.inl m,λy c e=>g4 y c (bO e),λp P e=>?_⟩
  ·rcases ϕ.mp (Y.stkSub b z) with q | q
   ·exact g1 q
   ·exact g2 q
  ·exact hpl p P (e▸m)
 have bd:g.heap.objs.size∉fp:=λz=>absurd (a7 _ z) (Nat.lt_irrefl _)
 have bg:(X.blk K scope G.objs.size fp g F).env.scope.names.lookup x=some .local:=lookup_relabel_local S.loc
 have cv:∀y c,(X.blk K scope G.objs.size fp g F).env.cells.lookup y=some c->c≠g.heap.objs.size:=λy c e z=>by
  obtain ⟨v,q⟩:=Y.cell y c (bO e)
  exact absurd q.lt (by rw [z];exact Nat.lt_irrefl _)
 have bi:∀{s':Shared} {D:Hp} {ob:Obj} {i:Nat} {ys:List V},Inv (X.blk K scope G.objs.size fp g F) [] (none::be fv σ) D s'->s'.heap.get? g.heap.objs.size=some ob->(∀v,ob.data≠.cell v)->D g.heap.objs.size=none ->
   Inv (X.blk K scope G.objs.size fp g F) [(g.heap.objs.size,ob)] (none::be fv σ) D s':=λ{s' D ob i ys} J1 e d f=>J1.pins_of λp P=>by
  have z:p=(g.heap.objs.size,ob):=by simpa using P
  subst z
  refine ⟨e,f,a6,λz=>?_,d⟩
  rcases ϕ.mp (Y.stkSub _ z) with q | q
  ·exact absurd Y.lt (by rw [← q];exact Nat.lt_irrefl _)
  ·exact Y.nofs (ι _) q
 have a3:∀s3:Shared,s3={g with heap:=h1,toks:=g.toks+([]:List (Str×Value)).length} ->
   codeAny (model X.prog X.w) X.A (.compLoop (.ListComp aR [⟨.Name x px,O,aS,0⟩] scope pos) 0 (.ref it) (.ref g.heap.objs.size) (X.blk K scope G.objs.size fp g F).env)
    (compPost (model X.prog X.w) X.A X.xe none (EP X a4 σ Q) (.ref g.heap.objs.size) G.objs.size) s3:=by
  rintro s3 rfl
  refine codeAny_compLoop_tests (λk s'=>∃i ys D l,k=n+1-i/\i<=n/\ys.length<=i/\Vals ys l/\s'.heap.PlainList g.heap.objs.size l.toArray /\
   Inv (X.blk K scope G.objs.size fp g F) [] (none::be fv σ) D s'/\D g.heap.objs.size=none/\tn i s'.heap/\(∀b∈fp,D b=none)/\W i ys D) ?_ (n+1)
   ⟨0,[],F,[],ϱ,ϖ _,ι _,.nil,hD,sO S Y f2 a7 hC kp ak (λp P=>nomatch P),Y.hok.fresh (ι _),T.keep _ _ _ a5 λb _ o e=>kp b o e,λb m=>(f2 b m).1,w0⟩
  rintro k s4 ⟨i,ys,H4,l,rfl,bI,a0,rv,pl4,I4,a1,bN,bP,w4⟩
  obtain ⟨L,eD⟩:=id pl4
  have bl:=bi (i:=i) (ys:=ys) I4 eD (λv z=>by cases z) a1
  have np:∀p∈[(g.heap.objs.size,({cls:=.type "list",data:=.seq l.toArray L}:Obj))],p.1∉fp:=λp P=>by
   have z:p=(g.heap.objs.size,({cls:=.type "list",data:=.seq l.toArray L}:Obj)):=by simpa using P
   subst z;exact bd
  rcases aZ i ys H4 w4 with ⟨stop,fin⟩ | ⟨go,hi2,step⟩
  ·refine wpAny_mono (T.done (X.blk K scope G.objs.size fp g F) rfl rfl rfl hc i _ s4 _ H4 _ bl (U bP np) bN stop) (λr s5 ⟨hr,I5⟩=>?_) λ_ _ e=>e
   subst hr
   obtain ⟨m5,cc,_⟩:=I5.loc
   have cz:s5.heap.get? g.heap.objs.size=some {cls:=.type "list",data:=.seq l.toArray L}:=(I5.pin _ (Ψ _ Ω)).1
   refine ⟨m5,cc,λh' sb=>⟨.ref g.heap.objs.size,upd H4 g.heap.objs.size (.lst ys),?_,ϱ,fin _ a1⟩⟩
   have a8:∀{b:Addr} {o:Obj},g.heap.get? b=some o->b≠G.objs.size:=λ{b o} e=>Φ (Nat.lt_of_lt_of_le (η e) hC)
   have ab:F g.heap.objs.size=none:=Y.hok.fresh (ι _)
   have cF:∀{b:Addr} {o:Obj},g.heap.get? b=some o->b≠g.heap.objs.size:=λ{b o} e=>Φ (η e)
   have B:=I5.base
   refine Y.call' (s':={s5 with heap:=h'}) (ch:=fp) I5.os ⟨λb o e nb m hx=>?_,λb o e nb m hx=>?_,λb o e nb hx=>?_,λb o e hx=>?_,λb xs e=>?_,λb o u e=>?_,λb ps e=>?_⟩ ?_ I5.bare λb m=>?_
   ·exact sb.extBut b o (a8 e) (B.keep b o e nb m hx)
   ·obtain ⟨sl,q⟩:=B.slot b o e nb m hx
    exact ⟨sl,sb.extBut b _ (a8 e) q⟩
   ·rw [am (cF e)];exact B.free b o e nb hx
   ·obtain ⟨o',q⟩:=B.there b o e hx
    exact ⟨o',sb.extBut b o' (a8 e) q⟩
   ·have e':F b=some (.tup xs):=e
    rw [am (ap e' ab)];exact B.tups b xs e
   ·have e':F b=some (.frz o u):=e
    rw [am (ap e' ab)];exact B.frzs b o u e
   ·have e':F b=some (.tbl ps):=e
    rw [am (ap e' ab)];exact B.tbls b ps e
   ·intro b u e
    by_cases m:b=g.heap.objs.size
    ·subst m
     rw [ae] at e
     cases e
     exact ⟨Λ a0 (Λ bI hn),l,L,rv,sb.extBut _ _ a6 cz⟩
    ·rw [am m] at e
     have fC:H4 G.objs.size=none:=I5.free
     refine (I5.hok b u e).stay (λc v da q=>sb.extBut c v ?_ q) (λc q=>by rw [am (ap q a1)];exact q) λc xs q=>by rw [am (ap q a1)];exact q
     rcases da with z | z
     ·subst z;exact ap e fC
     ·exact ap z fC
   ·obtain ⟨_,g1,g2,g3,g4,g5⟩:=f2 b m
    exact ⟨g3,g1,g4,g5⟩
  ·refine wpAny_mono (T.item (X.blk K scope G.objs.size fp g F) rfl rfl rfl hc i _ s4 _ H4 _ bl (U bP np) bN go) (λr s5 ⟨u,hr,h5⟩=>?_) λ_ _ e=>e
   subst hr
   show wpAny _ _ (letOwnedTupleGo (.Name x px) (.ref it) u >>= λ_=>assign (.Name x px) (X.blk K scope G.objs.size fp g F).env u) _ _ s5
   refine ε (wpAny_mono h5 (λ_ s6 ⟨xv,H6,I6,r6,y6,Z,dg⟩=>?_) λ_ _ e=>e)
   have d0:=I6.pinned (U dg np) (T.obj _ _ Z)
   have out:∀{σ':St} {D:Hp} {s':Shared},Inv (X.blk K scope G.objs.size fp g F) ([(g.heap.objs.size,({cls:=.type "list",data:=.seq l.toArray L}:Obj))]++jA fp s6.heap) σ' D s' ->
     s'.heap.PlainList g.heap.objs.size l.toArray/\D g.heap.objs.size=none/\(∀b∈fp,D b=none)/\(∀b∈fp,∀o,s6.heap.get? b=some o->s'.heap.get? b=some o):=λ{σ' D s'} J1=>by
    have q:=J1.pin (g.heap.objs.size,({cls:=.type "list",data:=.seq l.toArray L}:Obj)) (Ψ _ (List.mem_append_left _ Ω))
    refine ⟨⟨L,q.1⟩,q.2.1,λb m=>?_,λb m o e=>(J1.pin (b,o) (Ψ _ (Ψ _ (cQ m e)))).1⟩
    obtain ⟨o,e,d⟩:=T.obj _ _ Z b m
    exact (J1.pin (b,o) (Ψ _ (Ψ _ (cQ m e)))).2.1
   refine nox ((ci (X:=X.blk K scope G.objs.size fp g F) (i:=0) S.nd S.hd (.inl bg) (.inr bg)) _ s6 _ H6 xv u (fun σ' D=>σ'=some xv::be fv σ/\D=H6) d0 r6 ⟨ϱ,ϱ⟩) λ_ s7 ⟨σ7,H7,I7,e7,di⟩=>?_
   subst e7 di
   refine nox (ht _ _ _ _ _ s7 _ H7 _ I7 (step xv H7 y6)) λok s8 ⟨H8,I8,q8⟩=>?_
   cases ok with
   | false =>
    obtain ⟨o1,o2,o3,o4⟩:=out I8
    exact ⟨n+1-(i+1),ω,i+1,ys,H8,l,ϱ,hi2,υ a0,rv,o1,(I8.pins_of (pins':=[]) λp P=>nomatch P).weak (σ':=none::be fv σ) rfl (λj v e=>by
     cases j with
     | zero=>cases (show (none:Option V)=some v from Δ e)
     | succ j=>exact e),o2,T.keep _ _ _ Z o4,o3,q8⟩
   | true =>
    refine nox (he _ _ _ _ _ s8 _ H8 _ I8 q8) λyv s9 ⟨y,H9,I9,r9,q9⟩=>?_
    obtain ⟨o1,o2,o3,o4⟩:=out I9
    have bt:=rv.length
    refine wpAny_list_append_plain (hsz:=by rw [List.size_toArray,← bt];exact Λ a0 (Λ bI hn)) o1 λh' dp bC=>?_
    have d1:Inv (X.blk K scope G.objs.size fp g F) [] (some xv::be fv σ) H9 {s9 with heap:=h'} :=
     (I9.pins_of (pins':=[]) λp P=>nomatch P).turned (t':=s9.toks) (it:=g.heap.objs.size) (λb o m e=>bC.extBut b o m e) o2 a6 (.inr (ι _)) cv (λp P=>nomatch P)
    refine ⟨n+1-(i+1),ω,i+1,ys++[y],H9,l++[yv],ϱ,hi2,by rw [List.length_append];exact Nat.succ_le_succ a0,rv.append (.cons r9 .nil),?_,d1.weak (σ':=none::be fv σ) rfl (λj v e=>by
     cases j with
     | zero=>cases (show (none:Option V)=some v from Δ e)
     | succ j=>exact e),o2,T.keep _ _ _ Z λb m o e=>bC.extBut b o (λz=>bd (z▸m)) (o4 b m o e),o3,q9⟩
    have e9:(l++[yv]).toArray=l.toArray.push yv:=by simp
    rw [e9]
    exact dp
 exact codeAny_compStart_list (a3 _ rfl) (T.self _ 0 _ _ _ (T.keep _ _ _ a5 λb _ o e=>kp b o e) (a3 _ rfl))
open Builtin Builtin.Str
theorem mT(c:Nat):∀ys:List Str,ys.length<=(Str.join ⟨#[c]⟩ ys).length+1
 | []=>ϖ _
 | [y]=>by simp
 | y::u::ys=>by
  have ih:=mT c (u::ys)
  rw [join_cons_cons]
  have e:(y++(⟨#[c]⟩:Str)++Str.join ⟨#[c]⟩ (u::ys)).length=y.length+1+(Str.join ⟨#[c]⟩ (u::ys)).length:=by
   show ((y.cps++#[c])++(Str.join ⟨#[c]⟩ (u::ys)).cps).size=_
   rw [Array.size_append,Array.size_append]
   rfl
  rw [e,List.length_cons]
  omega
theorem mE:∀(l:List (Str×Tok)),Vals ((l.map (·.1)).map V.str) (strValues l)
 | []=>.nil
 | p::l=>.cons ⟨p.2,rfl⟩ (mE l)
section
variable {X:Cx}
theorem mD(z:X.calm=true):cG X (.builtin "sum") (λxs H Q=>∃(p:Addr) (b:List Int),xs=[.ref p]/\SqL X.K H p (b.map V.int)/\Q (.int b.sum) H):=by
 intro i s σ H xs G Q I r h
 obtain ⟨p,b,rfl,j,q⟩:=h
 obtain ⟨u,rfl,l⟩:=cL r
 cases (show u=Value.ref p from l)
 obtain ⟨d,m,o,C⟩:=I.list j
 have g:IntsAre d b:=lR m
 obtain ⟨e,f⟩:=g.allInts.items
 have w:s.heap.IsList p (intItems e):=f▸o.isList
 refine sum_intListG (I.ok.hd z) w λD F x y=>⟨.int b.sum,H,I.kept y,⟨x,?_⟩,q⟩
 have en:b=e.toList.map (·.1):=(show numsOf d.toArray.toList=b from g.numsOf).symm.trans (by rw [f,nums_intItems])
 rw [preSum_eq,List.take_of_length_le (by simp),en]
theorem jD:MtR X "str.split" (λx vs H Q=>∃(z:Str) (c:Nat),x=.str z/\vs=[.str ⟨#[c]⟩]/\z.length<=1000000/\∀p,H p=none->Q (.ref p) (upd H p (.lst ((Txt.split z ⟨#[c]⟩).map V.str)))):=by
 intro i s σ H x J v K Q I C r h
 obtain ⟨z,c,rfl,rfl,D,q⟩:=h
 obtain ⟨t,rfl⟩:=C
 obtain ⟨u,rfl,⟨j,rfl⟩⟩:=cL r
 have G:(1000002:Nat)<=sizeLine:=by decide
 have d:(Txt.split z ⟨#[c]⟩).length<=sizeLine:=by
  have:=mT c (Txt.split z ⟨#[c]⟩)
  rw [StrLaws.join_split] at this
  omega
 have f:∀(l:List (Str×Tok)) (k:Nat),l.map (·.1)=Txt.split z ⟨#[c]⟩->EP X i σ Q (.ref s.heap.objs.size) {s with toks:=k,heap:=s.heap.push {cls:=.type "list",data:=.seq (strValues l).toArray}}:=λl k y =>
  ⟨.ref s.heap.objs.size,_,I.laid (t':=k) (o:=.lst ((Txt.split z ⟨#[c]⟩).map V.str)) (λb o e=>ρ _ e) (ι _)
   (show ObjOk X.prog X.w _ _ _ (.lst ((Txt.split z ⟨#[c]⟩).map V.str)) from ⟨by rw [ν];exact d,strValues l,0,y▸mE l,ψ _ rfl⟩),ϱ,q _ (I.hok.fresh (ι _))⟩
 have m:((⟨#[c]⟩:Str).length==0)=false:=rfl
 cases h1:(decide (z.length<(⟨#[c]⟩:Str).length)||decide (strKind z<strKind ⟨#[c]⟩)) with
 | true =>
  have g:Txt.split z ⟨#[c]⟩=[z]:=by unfold Txt.split;rw [if_pos h1]
  exact call_meets F.slot_str_split (typeIs_str _ _ _) F.entry_str_split (F.args_str_split_2 _ _) (meets_str_split_cannot_occur z ⟨#[c]⟩ t j h1) (f [(z,t)] s.toks g.symm)
 | false =>
  cases hf:(occurrences z ⟨#[c]⟩ 0 z.length (z.length+1)).isEmpty with
  | true =>
   have g:Txt.split z ⟨#[c]⟩=[z]:=by unfold Txt.split;rw [if_neg (by rw [h1];decide),if_pos hf]
   exact call_meets F.slot_str_split (typeIs_str _ _ _) F.entry_str_split (F.args_str_split_2 _ _) (meets_str_split_not_found z ⟨#[c]⟩ t j h1 m hf) (f [(z,t)] s.toks g.symm)
  | false =>
   have g:Txt.split z ⟨#[c]⟩=partsBetween z (occurrences z ⟨#[c]⟩ 0 z.length (z.length+1)) (⟨#[c]⟩:Str).length:=by unfold Txt.split;rw [if_neg (by rw [h1];decide),if_neg (by rw [hf];decide)]
   refine call_meets F.slot_str_split (typeIs_str _ _ _) F.entry_str_split (F.args_str_split_2 _ _) (meets_str_split_sep z ⟨#[c]⟩ t j h1 m hf ω (by rw [← g];exact d)) ?_
   rw [strsFrom_eq]
   exact f _ _ ((numbered_texts _ _).trans g.symm)
end
end L2
namespace L2
open PySem PySem.Spec PyProof.Rows
def Cov(l:List Env)(h0:Heap)(H:Hp)(B h:Heap):Prop:=∀b o,h.get? b=some o->b∉frs l->(H b≠none\/∃o0,h0.get? b=some o0)->B.get? b=some o
def Fly(l:List Env)(h0:Heap)(H:Hp)(ea C:Addr)(h:Heap):Prop:=∃B a0,Heap.FlyingW B l ea (.ref C) a0 h/\Cov l h0 H B h
theorem ObjOk.there{P:Program}{w:World}{H:Hp}{h:Heap}{a:Addr}{o:HO}(x:ObjOk P w H h a o):∃ob,h.get? a=some ob:=by
 cases o with
 | lst xs=>obtain ⟨_,_,_,_,e⟩:=x;exact ⟨_,e⟩
 | tup xs=>obtain ⟨_,_,_,o,e,_⟩:=x;exact ⟨_,e⟩
 | dK kvs=>obtain ⟨_,_,_,_,o,_,_,e,_⟩:=x;exact ⟨_,e⟩
 | dT kvs=>obtain ⟨_,_,_,_,o,_,_,e,_⟩:=x;exact ⟨_,e⟩
 | set S n=>obtain ⟨o,_,_,_,e,_⟩:=x;exact ⟨_,e⟩
 | ins C dx fs=>obtain ⟨_,_,_,e,_⟩:=x;exact ⟨_,e⟩
 | own y=>obtain ⟨_,e⟩:=x;exact ⟨_,e⟩
 | xd fs=>obtain ⟨_,⟨_,_,_,e,_⟩,_⟩:=x;exact ⟨_,e⟩
 | rng lo hi=>obtain ⟨_,_,_,e⟩:=x;exact ⟨_,e⟩
 | frz ob u=>obtain ⟨e,_⟩:=x;exact ⟨_,e⟩
 | tbl ps=>exact ⟨_,(show h.get? a=some _ from x)⟩
 | met f y=>exact ⟨_,(show h.get? a=some _ from x)⟩
 | ext φ=>obtain ⟨_,⟨_,e⟩,_⟩:=x;exact ⟨_,e⟩
section
variable {l:List Env}{H:Hp}{B h h' hc:Heap}{P:Program}{w:World}
theorem Cov.stay(c:Cov l hc H B h)(st:B.StaysIn h'):∀b o,h.get? b=some o->b∉frs l->(H b≠none\/∃o0,hc.get? b=some o0)->h'.get? b=some o:=λb o e nb hb=>st b o (c b o e nb hb)
theorem HOk.moved(x:HOk P w H h)(c:Cov l hc H B h)(st:B.StaysIn h')(d:∀b∈frs l,H b=none):HOk P w H h':=λa o e=>by
 refine (x a o e).stay (λb u hb q=>?_) (λb q=>q) λb xs q=>q
 have tr:H b≠none:=by
  rcases hb with rfl | hb
  ·rw [e];intro z;cases z
  ·rw [hb];intro z;cases z
 exact c.stay st b u q (λz=>tr (d b z)) (.inl tr)
theorem Un.moved{fs:List Addr}{y:Hp}{h0:Heap}(u:Un fs [] y H h0 h)(c:Cov l hc H B h)(st:B.StaysIn h')(C:h.UpToSlots h')(D:h.FunFrames B l)(F:∀b o,h0.get? b=some o->∃o',hc.get? b=some o')
  (hf:∀b∈fs,b∈frs l)(G:∀b o,h0.get? b=some o->b∈frs l->b∈fs):Un fs [] y H h0 h':=by
 have kp:∀b j o,h0.get? b=some j->b∉fs->h.get? b=some o->h'.get? b=some o:=λb j o e0 m e=>c.stay st b o e (λz=>m (G b j e0 z)) (.inr (F b j e0))
 have i:∀b o,b∈fs->h.get? b=some o->∃i,h'.get? b=some {o with slots:=i}:=λb o f e=>by
  obtain ⟨_,o',r,d⟩:=D.mem (show b∈l.filterMap (·.frame) from hf b f)
  rw [e] at r
  cases r
  exact C b o e d
 refine ⟨λb o e z m g=>kp b o o e m (u.keep b o e z m g),λb o e z f g=>?_,u.free,λb o e g=>?_,u.tups,u.frzs,u.tbls⟩
 ·obtain ⟨I,q⟩:=u.slot b o e z f g
  obtain ⟨w,q2⟩:=i b _ f q
  exact ⟨w,q2⟩
 ·obtain ⟨x,q⟩:=u.there b o e g
  by_cases f:b∈fs
  ·obtain ⟨w,q2⟩:=i b _ f q
   exact ⟨_,q2⟩
  ·exact ⟨x,kp b o x e f q⟩
end
section
variable {X:Cx}{E:XK}{pins:List (Addr×Obj)}{σ:St}{H H':Hp}{s s':Shared}
theorem qa(D:X.stack=X.env::X.outer)(b:X.env.frame=some X.env.locals):frs X.stack=X.env.locals::frs X.outer:=by
 rw [D]
 show List.filterMap _ (X.env::X.outer)=_
 rw [List.filterMap_cons,b]
 rfl
end
theorem Am{K:Frag}{h:Heap}{mg:Str->Option Value}{x:Str}{C:Addr}{u:List Value}{new:String}(b:K.In h)(G:mg x=some (.ref C))(q:PySem.W.excIn K C u new=true):OwnCls x C u new mg h:=by
 have m:∀o,K.lookup C=some o->∃tl N g i bs hdct j sub l d dd k0 k1 k2 k3 k5 mN,h.get? C=some (excClassObj g i C N bs tl hdct j sub l d dd k0 k1 k2 k3 k5 new)/\h.Ns N mN/\mN "__init__"=none/\OwnTail h u tl:=λo e=>by
  unfold PySem.W.excIn at q
  rw [e] at q
  obtain ⟨H,od,w,f⟩:=o
  split at q
  ·rename_i dd cd sl e0
   cases (Δ e0)
   obtain ⟨g,bs,y,z,i,D,j,sub,l,d,F⟩:=cd
   split at q
   ·rename_i C2 tl k0 k1 k2 k3 n2 k5 em es
    dsimp only at em q
    simp only [Bool.and_eq_true,beq_iff_eq,Bool.not_eq_true'] at q
    obtain ⟨⟨⟨⟨⟨q1,q2⟩,q3⟩,q4⟩,q5⟩,q6⟩:=q
    subst q1 q2 q3 em
    have r:f=#[k0,k1,k2,k3,some (.builtin n2),k5]:=Array.toList_inj.mp es
    subst r
    exact ⟨tl,z,g,i,bs,D,j,sub,l,d,od,k0,k1,k2,k3,k5,_,b _ _ e,.of_isNs (PySem.W.isNs_of_in b q5),PySem.W.nsMap_none_of_in b q5 q6,PySem.W.tail_of_in b q4⟩
   ·cases q
  ·cases q
 refine ⟨G,?_⟩
 cases e:K.lookup C with
 | none=>unfold PySem.W.excIn at q;rw [e] at q;cases q
 | some o=>exact m o e
def Ba(ea C:Addr):HO:=.ext λh=>∃o,h.get? ea=some o/\o.cls=.ref C
abbrev Cx.hnd(X:Cx)(ev:Value):Cx:={X with A:=X.A.mark (some ev),calm:=false,xe:=λ_ _=>False}
section
variable {X:Cx}{pins:List (Addr×Obj)}{σ:St}{H H1:Hp}{s s1:Shared}{ev:Value}
theorem Cx.Ok.hnd(ok:X.Ok)(ev:Value):(X.hnd ev).Ok :=
 ⟨ok.mod,ok.kind,ok.glob,ok.blt,ok.above,ok.inj,ok.has,ok.cab,λh=>(by cases h),ok.frames,ok.stk,ok.exf,ok.bs,ok.bsz,ok.noex,ok.exfs,ok.funs,ok.frf⟩
theorem Inv.hnd(I:Inv X pins σ H s)(ev:Value):Inv (X.hnd ev) pins σ H s:=⟨I.ok.hnd ev,I.os,I.bare,I.base,I.loc,I.cell,I.free,I.freeC,I.pin,I.hok,I.len⟩
theorem Inv.unhnd(ok:X.Ok)(I:Inv (X.hnd ev) pins σ H s):Inv X pins σ H s:=⟨ok,I.os,I.bare,I.base,I.loc,I.cell,I.free,I.freeC,I.pin,I.hok,I.len⟩
theorem SP.unhnd{D:Ends}{f:Flow}{s':Shared}(ok:X.Ok)(h:SP (X.hnd ev) pins D f s'):SP X pins D f s':=by
 cases f with
 | next=>obtain ⟨b,d,e,q⟩:=h;exact ⟨b,d,e.unhnd ok,q⟩
 | brk=>obtain ⟨b,d,e,q⟩:=h;exact ⟨b,d,e.unhnd ok,q⟩
 | cont=>obtain ⟨b,d,e,q⟩:=h;exact ⟨b,d,e.unhnd ok,q⟩
 | ret v=>obtain ⟨x,b,d,e,r,q⟩:=h;exact ⟨x,b,d,e.unhnd ok,r,q⟩
theorem UpToSlots.isCell{h h':Heap}{c:Addr}{v:Option Value}(f:h.UpToSlots h')(x:h.IsCell c v):h'.IsCell c v:=by
 obtain ⟨o,e,d⟩:=x
 obtain ⟨g,b⟩:=f c o e λvs q=>by rw [d] at q;cases q
 exact ⟨_,b,d⟩
theorem Inv.moved{B y:Heap}(J:Inv X pins σ H1 s1)(I:Inv X pins σ H s)(C:X.stack=X.env::X.outer)(U:X.env.frame=some X.env.locals)(g:X.ex=[])(c:Cov X.stack s1.heap H B s.heap)(st:B.StaysIn y)(j:s.heap.UpToSlots y)
  (W:s.heap.FunFrames B X.stack):Inv X pins σ H {s with heap:=y}:=by
 have l:=qa C U
 have P:Un X.fs [] X.H₀ H X.s₀.heap s.heap:=by have:=I.base;rw [g] at this;exact this
 have sub:∀b o,X.s₀.heap.get? b=some o->∃o',s1.heap.get? b=some o':=λb o e=>J.base.there b o e (by rw [g];simp)
 have Q:∀b o,X.s₀.heap.get? b=some o->b≠X.env.locals:=λb o e z=>absurd (η e) (by rw [z];exact Nat.not_lt.mpr I.ok.above)
 refine ⟨I.ok,I.os,I.bare,?_,?_,λx w e=>?_,I.free,I.freeC,λp G=>?_,I.hok.moved c st I.stkFree,I.len⟩
 ·rw [g]
  refine P.moved c st j W sub (λb h=>by rw [l];exact Θ _ h) λb o e h=>?_
  rw [l] at h
  rcases ϕ.mp h with z | z
  ·exact absurd z (Q b o e)
  ·exact z
 ·obtain ⟨m,K,L⟩:=I.loc
  refine ⟨m,j.ns K,λi x v a b w=>?_⟩
  obtain ⟨u,r,O⟩:=L i x v a b w
  refine ⟨u,r,?_⟩
  rcases O with z | ⟨z,cl,e,ic⟩
  ·exact .inl z
  ·exact .inr ⟨z,cl,e,UpToSlots.isCell j ic⟩
 ·obtain ⟨v,q⟩:=I.cell x w e
  exact ⟨v,UpToSlots.isCell j q⟩
 ·obtain ⟨e,f,D,F,d⟩:=I.pin p G
  refine ⟨c.stay st p.1 p.2 e (λz=>?_) (.inr ⟨_,(J.pin p G).1⟩),f,D,F,d⟩
  rw [l] at z
  rcases ϕ.mp z with z | z
  ·exact D z
  ·exact F z
theorem Inv.exc{d C:Addr}{j:Obj}(I:Inv X pins σ H s)(i:H d=none)(w:s.heap.get? d=some j)(G:j.cls=.ref C)(h0:X.s₀.heap.get? d=none)(J:d≠X.env.locals)(l:∀y c,X.env.cells.lookup y=some c->c≠d)
  (K:∀p∈X.pn++pins,p.1≠d):Inv X pins σ (upd H d (Ba d C)) s:=by
 refine ⟨I.ok,I.os,I.bare,⟨I.base.keep,I.base.slot,λb o e z x=>?_,I.base.there,λb m e=>?_,λb o u e=>?_,λb D e=>?_⟩,I.loc,I.cell,?_,λy c e=>?_,λp h=>?_,λb u e=>?_,I.len⟩
 ·rw [am (λF=>by rw [F,h0] at e;cases e)];exact I.base.free b o e z x
 ·have q:=I.base.tups b m e
  rw [am (ap q i)];exact q
 ·have q:=I.base.frzs b o u e
  rw [am (ap q i)];exact q
 ·obtain ⟨g,q⟩:=I.base.tbls b D e
  exact ⟨g,by rw [am (ap q i)];exact q⟩
 ·rw [am J.symm];exact I.free
 ·rw [am (l y c e)];exact I.freeC y c e
 ·obtain ⟨e,f,r⟩:=I.pin p h
  exact ⟨e,by rw [am (K p h)];exact f,r⟩
 ·by_cases hb:b=d
  ·subst hb
   rw [ae] at e
   cases e
   exact ⟨⟨j,w,G⟩,⟨j,w⟩,λh1 L ⟨o,e,c⟩ k=>⟨o,k o e,c⟩⟩
  ·rw [am hb] at e
   exact (I.hok b u e).stay (λc v _ q=>q) (λc q=>by rw [am (ap q i)];exact q) λc m q=>by rw [am (ap q i)];exact q
def xo(X:Cx)(C CB:Addr):Prop:=∀(A:Around) (s:Shared) (ea:Addr) (ob:Obj) (Q:Bool->Shared->Prop) (E:Value->Shared->Prop),X.K.In s.heap->s.heap.get? ea=some ob->ob.cls=.ref C->Q true s->wpAny (model X.prog X.w) A (excMatches (.ref ea) (.ref CB)) Q E s
theorem qr{x:Str}{C:Addr}{e:List Value}{new:String}(o:X.mg x=some (.ref C))(r:PySem.W.excIn X.K C e new=true)(u:e.contains (.type "BaseException")=true):xo X C C:=by
 intro A s U Y Q E k l m q
 obtain ⟨tl,N,w,y,bs,b,z,sub,D,f,dd,F,G,H,I,J,L,i,O,j,T⟩:=(Am k o r).obj
 obtain ⟨h,g,d,t,P⟩:=s
 exact wpAny_excMatches_sub_self i l m (T.hasType u) q
theorem BR{b C CB:Addr}{Y:Str}{np U:Pos}{b₀:Stmt}{g:List Stmt}{rest:List ExceptHandler}{D:Ends}{th:TS}{E:Value->Shared->Prop}(W:Inv X pins σ H1 s1)(I:Inv X pins σ H s)(d:X.stack=X.env::X.outer)(Z:X.env.frame=some X.env.locals)(x:X.ex=[])
  (a7:Fly X.stack s1.heap H b C s.heap)(hg:Gl X Y)(hm:X.mg Y=some (.ref CB))(tk:xo X C CB)(hs:∀ev,PSs (X.hnd ev) (b₀::g) th)(q:H b=none->th D σ (upd H b (Ba b C)))(hd:(Y==("__debug__":Str))=false) :
  wpAny (model X.prog X.w) X.A (noteFrame (.ref b) X.env) (λ_ s₂=>wpAny (model X.prog X.w) X.A (setFlight (.ref b) none) (λ_ s₃ =>
   wpAny (model X.prog X.w) X.A (handleBy (.ref b) X.env (.ExceptHandler (some (.Name Y np)) none (b₀::g) U::rest)) (SP X pins D) E s₃) E s₂) E s:=by
 obtain ⟨B,a0,fl,c⟩:=a7
 have a2:X.A.frames=some (X.env::X.outer):=by rw [I.ok.frames,d]
 have ff:=fl.2.2.1
 have a3:Heap.FlyingW B (X.env::X.outer) b (.ref C) a0 s.heap:=by rw [← d];exact fl
 refine wpAny_looks_onW a2 Z a3 λh₄ l P=>?_
 refine wpAny_landsW l λh₅ m Q=>?_
 have I5:=Inv.moved W I d Z x c m.1 (P.trans Q) ff
 obtain ⟨ob,a1,F⟩:=m.there
 refine wpAny_handleBy_cons (codeAny_handlers_test (i7 (X:=X.hnd (.ref b)) (I5.hnd (.ref b)) hg hm ?_ hd)) (by intro z;cases z)
 refine tk _ _ b ob _ _ I5.kIn a1 F (codeAny_handlers_suite ?_)
 refine lands_againW (s:={s with heap:=h₅}) m λh₆ r a6=>?_
 have I6:=Inv.moved W I d Z x c r.1 ((P.trans Q).trans a6) ff
 obtain ⟨oe,ws,G,J,K,a8⟩:=r.first
 have i:b∉frs X.stack:=λz=>by
  have L:=r.2.2.1
  rw [← d] at L
  obtain ⟨_,o',h,d'⟩:=L.mem (show b∈X.stack.filterMap (·.frame) from z)
  rw [G] at h
  cases h
  exact d' ws K
 obtain ⟨o1,e1,_⟩:=fl.there
 have hB:=fl.2.1
 have O:H b=none:=by
  cases z:H b with
  | none=>rfl
  | some u =>
   have:=c b o1 e1 i (.inl (by rw [z];intro y;cases y))
   rw [hB] at this;cases this
 have j:s1.heap.get? b=none:=by
  cases z:s1.heap.get? b with
  | none=>rfl
  | some u =>
   have:=c b o1 e1 i (.inr ⟨u,z⟩)
   rw [hB] at this;cases this
 have a4:X.s₀.heap.get? b=none:=by
  cases z:X.s₀.heap.get? b with
  | none=>rfl
  | some u =>
   obtain ⟨o',h⟩:=W.base.there b u z (by rw [x];simp)
   rw [j] at h;cases h
 have a5:=I6.exc O G J a4 (λz=>i (by rw [qa d Z,z];exact Ω)) (λy cc e z=>by
  obtain ⟨v,o,h,_⟩:=W.cell y cc e
  rw [z,j] at h;cases h) λp hp z=>by
   have:=(W.pin p hp).1
   rw [z,j] at this;cases this
 exact wpAny_mono (hs (.ref b) pins _ σ _ D (a5.hnd _) (q O)) (λf s7 h7=>SP.unhnd I.ok h7) λ_ _ z=>z.elim
abbrev TX:=St->Hp->VK->XK->Prop
def XP(X:Cx)(pins:List (Addr×Obj))(σ:St)(E:XK)(ev:Value)(s':Shared):Prop:=∃s1 H1 ea C H',Inv X pins σ H1 s1/\ev=.ref ea/\Inv X pins σ H' s'/\Fly X.stack s1.heap H' ea C s'.heap/\E ev (some C) H'
def PEX(X:Cx)(e:Expr)(t:TX):Prop :=
 ∀(pins:List (Addr×Obj)) (s:Shared) (σ:St) (H:Hp) (Q:VK) (E:XK),Inv X pins σ H s->t σ H Q E->wpAny (model X.prog X.w) X.A (eval e X.env) (EP X pins σ Q) (XP X pins σ E) s
end
section
variable {X:Cx}{e:Expr}{t:TX}{C CB:Addr}{cx y:Str}{np hpos pos py apos:Pos}{b₀:Stmt}{suite:List Stmt}{th:TS}{j:Nat}
def xD(j:Nat)(C:Addr)(t:TX)(th:TS):TS:=λD σ H=>t σ H (λv H1=>D.nx (σ.set j (some v)) H1) λev c H1=>∃ea,ev=.ref ea/\c=some C/\(H1 ea=none->th D σ (upd H1 ea (Ba ea C)))
theorem tD(l:X.stack=X.env::X.outer)(O:X.env.frame=some X.env.locals)(m:X.ex=[])(P:X.N.Nodup)(U:X.N[j]?=some y)(W:Loc X.env.scope y)(Y:PEX X e t)(Z:Gl X cx)(hm:X.mg cx=some (.ref CB))(tk:xo X C CB)
  (hs:∀ev,PSs (X.hnd ev) (b₀::suite) th)(hd:(cx==("__debug__":Str))=false:=by decide)(o:swapsWith e (some (.Name y py)) apos.line X.env=pure false:=by rfl)
  (hf:X.fn y=true\/X.env.scope.names.lookup y=some .local:=by first | exact .inl rfl | exact .inr rfl | assumption) :
  PS X (.Try [.Assign [.Name y py] e apos] [.ExceptHandler (some (.Name cx np)) none (b₀::suite) hpos] [] [] pos) (xD j C t th):=by
 intro b s σ H D I h
 refine wpAny_Try_except (wpAny_execs_cons (wpAny_mono (wpAny_Assign_Name (Q:=λf g=>f=.next/\SP X b D .next g) (wpAny_mono (Y b s σ H _ _ I h) (λv g ⟨y1,H1,G,J,q1⟩=>?_) λev g K=>?_) o) (λf g i=>?_) λ_ _ z=>z))
 ·exact kN G P U W J (λs2 L=>⟨ϱ,_,H1,L,q1⟩) hf
 ·obtain ⟨s0,H0,ea,r,H',u,rfl,w,fl,x,F,d,q⟩:=K
  cases F
  obtain rfl:r=C:=Δ d
  exact BR u w l O m fl Z hm tk hs q hd
 ·obtain ⟨rfl,i⟩:=i
  exact wpAny_execs_nil (wpAny_execs_nil i)
end
open PySem.Builtin PySem.Builtin.ObjectAttr PySem.Builtin.Getset_descriptor
end L2
namespace L2
open PySem PySem.Spec PyProof.Rows
theorem PE.ex{X:Cx}{α:Type}{e:Expr}{t:α->TE}(h:∀a,PE X e (t a)):PE X e (fun σ H Q=>∃a,t a σ H Q):=by
 intro b s σ H Q I q
 obtain ⟨a,q⟩:=q
 exact h a b s σ H Q I q
section
variable {P:Program}{w:World}{K:Frag}{H:Hp}{h:Heap}{a b:Addr}{xs ys:List V}
theorem rS(b:HOk P w H h)(d:K.In h)(q:SqL K H a xs):∃its:List Value,Vals xs its/\PlainL h a its.toArray/\xs.length<=sizeLine:=by
 rcases q with q | ⟨o,its,n,hk,hc,hd,hs,hz,r⟩
 ·obtain ⟨z,its,n,r,e⟩:=q.ok b
  exact ⟨its,r,⟨_,n,e,ϱ,ϱ,ϱ⟩,z⟩
 ·refine ⟨its.toList,r,⟨o,n,d a o hk,hc,hd,by simpa using hs⟩,?_⟩
  have e:=r.length
  simp only [Array.length_toList] at e
  omega
theorem kx(b:HOk P w H h)(d:K.In h)(q:SqT K H a xs):∃its:List Value,Vals xs its/\IsTup h a its.toArray/\xs.length<=sizeLine:=by
 rcases q with q | ⟨o,its,n,hk,hc,hs,hz,r⟩
 ·obtain ⟨z,its,r,p⟩:=q.ok b
  exact ⟨its,r,p,z⟩
 ·refine ⟨its.toList,r,⟨o,d a o hk,hc,n,by simpa using hs⟩,?_⟩
  have e:=r.length
  simp only [Array.length_toList] at e
  omega
theorem rR(f:HOk P w H h)(g:K.In h)(q:SqT K H a xs)(u:SqT K H a ys):xs=ys:=by
 obtain ⟨i,r,⟨o,e,_,n,d⟩,_⟩:=kx f g q
 obtain ⟨b,m,⟨x,j,_,y,l⟩,_⟩:=kx f g u
 rw [e] at j;cases j
 rw [d] at l
 injection l with d1 _
 have:i=b:=by simpa using congrArg Array.toList d1
 subst this
 exact r.inj m
def SqU(K:Frag)(H:Hp)(a:Addr)(xs:List V):Prop :=
 H a=some (.tup xs)\/∃(o:Obj) (its:Array Value) (n:Nat),K.lookup a=some o/\o.cls=.type "tuple"/\o.data=.seq its n/\its.size<=sizeLine/\Vals xs its.toList
theorem SqU.sq(q:SqU K H a xs):SqT K H a xs:=q.elim (λz=>.inl (.inl z)) .inr
def TSame(H H':Hp):Prop:=∀b xs,H b=some (.tup xs)->H' b=some (.tup xs)
theorem Same.ts{H H':Hp}(e:Same H H'):TSame H H':=λb xs h=>e b _ h
theorem TSame.trans{H H1 H2:Hp}(a:TSame H H1)(b:TSame H1 H2):TSame H H2:=λc xs h=>b c xs (a c xs h)
theorem SqU.keep{H':Hp}(e:TSame H H')(q:SqU K H a xs):SqU K H' a xs:=q.elim (λz=>.inl (e _ _ z)) .inr
end
def EqIs(K:Frag)(n:Nat)(H:Hp)(x y:V)(b:Bool):Prop :=
 ∀(P:Program) (w:World) (A:Around) (s:Shared) (u v:Value),A.units+n<cLine->HOk P w H s.heap->K.In s.heap->RelV x u->RelV y v->SeqAt.EqAt A s u v b
def qp(K:Frag)(n:Nat)(H:Hp)(x y:V)(b:Bool):Prop :=
 ∀(P:Program) (w:World) (A:Around) (s:Shared) (u v:Value),A.units+n<cLine->HOk P w H s.heap->K.In s.heap->RelV x u->RelV y v->SeqAt.RcAt A s u v b
def um(K:Frag)(n:Nat)(H:Hp)(x y:V)(b:Bool):Prop :=
 ∀(P:Program) (w:World) (A:Around) (s:Shared) (u v:Value),A.units+n<cLine->HOk P w H s.heap->K.In s.heap->RelV x u->RelV y v->SeqAt.RcNeAt A s u v (!b)
section
variable {K:Frag}{H:Hp}{a b:Addr}{n m:Nat}{x y:V}{r:Bool}
theorem EqIs.mono(h:EqIs K n H x y r)(le:n<=m):EqIs K m H x y r:=λP w A s u v hA=>h P w A s u v ω
theorem uE{us vs:List V}{e:Nat->Bool}(ha:SqT K H a us)(hb:SqT K H b vs)(hl:us.length=vs.length)(he:∀(j:Nat) x y,us[j]?=some x->vs[j]?=some y->EqIs K n H x y (e j)) :
  qp K (n+1) H (.ref a) (.ref b) ((List.range us.length).all e)/\um K (n+1) H (.ref a) (.ref b) ((List.range us.length).all e):=by
 have f:∀(P:Program) (w:World) (A:Around) (s:Shared) (u v:Value),A.units+(n+1)<cLine->HOk P w H s.heap->K.In s.heap->RelV (.ref a) u->RelV (.ref b) v ->
   SeqAt.RcAt A s u v ((List.range us.length).all e)/\SeqAt.RcNeAt A s u v (!(List.range us.length).all e):=by
  intro P w A s u v hA i l r1 r2
  cases r1
  cases r2
  obtain ⟨g,F,G,_⟩:=kx i l ha
  obtain ⟨h,I,J,_⟩:=kx i l hb
  have l1:=F.length
  have Z:=I.length
  have d:∀j (h1:j<g.toArray.size) (m:j<h.toArray.size),SeqAt.EqAt A.in1 s g.toArray[j] h.toArray[j] (e j):=λj h1 m=>by
   have o:j<g.length:=by simpa using h1
   have r:j<h.length:=by simpa using m
   have Q:us[j]?=some us[j]:=ξ ω
   have U:vs[j]?=some vs[j]:=ξ ω
   obtain ⟨u,L,X⟩:=F.get Q
   obtain ⟨v,O,Y⟩:=I.get U
   have q:=he j _ _ Q U P w A.in1 s u v (by show A.units+1+n<cLine;omega) i l X Y
   have z1:g.toArray[j]=u:=by
    rw [ξ o] at L
    simpa using Option.some.inj L
   have z2:h.toArray[j]=v:=by
    rw [ξ r] at O
    simpa using Option.some.inj O
   rw [z1,z2]
   exact q
  have W:((List.range (min g.toArray.size h.toArray.size)).all e&&g.toArray.size==h.toArray.size)=(List.range us.length).all e:=by
   have s1:g.toArray.size=us.length:=by simp [l1]
   have s2:h.toArray.size=us.length:=by simp [← Z,hl]
   rw [s1,s2,Nat.min_self]
   simp
  constructor
  ·have q:=SeqAt.RcAt.tuples (A:=A) (s:=s) (e:=e) G J ω d
   rw [W] at q
   exact q
  ·have q:=SeqAt.RcNeAt.tuples (A:=A) (s:=s) (e:=e) G J ω d
   rw [W] at q
   exact q
 exact ⟨λP w A s u v h1 m z C D=>(f P w A s u v h1 m z C D).1,λP w A s u v h1 m z C D=>(f P w A s u v h1 m z C D).2⟩
theorem lV(h:qp K n H (.ref a) (.ref b) r)(l:∀(P:Program) (w:World) (h:Heap),HOk P w H h->K.In h->a=b->r=true):EqIs K n H (.ref a) (.ref b) r:=by
 intro P w A s u v j d f g i
 have q:=h P w A s u v j d f g i
 cases g
 cases i
 by_cases e:a=b
 ·rw [l P w s.heap d f e,e]
  exact SeqAt.EqAt.same _
 ·exact SeqAt.EqAt.of_refs e q
end
structure Cod(α:Type) [DecidableEq α] where
 n:Nat
 rp:Frag->Hp->α->V->Prop
 inj:∀{P:Program} {w:World} {K:Frag} {H:Hp} {h:Heap} {x y:α} {v:V},HOk P w H h->K.In h->rp K H x v->rp K H y v->x=y
 eq:∀{K:Frag} {H:Hp} {x y:α} {u v:V},rp K H x u->rp K H y v->EqIs K n H u v (decide (x=y))
 rc:∀{K:Frag} {H:Hp} {x y:α} {u v:V},rp K H x u->rp K H y v->qp K n H u v (decide (x=y))
 ne:∀{K:Frag} {H:Hp} {x y:α} {u v:V},rp K H x u->rp K H y v->um K n H u v (decide (x=y))
 keep:∀{K:Frag} {H H':Hp} {x:α} {v:V},TSame H H'->rp K H x v->rp K H' x v
def cInt:Cod Int where
 n:=0
 rp _ _ i v:=v=.int i
 inj _ _ h1 h2:=by
  rw [h1] at h2
  exact V.int.inj h2
 eq h1 h2:=by
  intro P w A s u v _ _ _ r1 r2
  subst h1 h2
  obtain ⟨t,rfl⟩:=r1
  obtain ⟨t',rfl⟩:=r2
  rw [← Bool.beq_eq_decide_eq]
  exact SeqAt.EqAt.int_int _ t _ t'
 rc h1 h2:=by
  intro P w A s u v _ _ _ r1 r2
  subst h1 h2
  obtain ⟨t,rfl⟩:=r1
  obtain ⟨t',rfl⟩:=r2
  rw [← Bool.beq_eq_decide_eq]
  exact SeqAt.RcAt.int_int _ t _ t'
 ne h1 h2:=by
  intro P w A s u v _ _ _ r1 r2
  subst h1 h2
  obtain ⟨t,rfl⟩:=r1
  obtain ⟨t',rfl⟩:=r2
  rw [← Bool.beq_eq_decide_eq]
  exact SeqAt.RcNeAt.int_int _ t _ t'
 keep _ h:=h
theorem eF(x y:Str):decide (x=y)=(x==y):=by
 rw [Bool.eq_iff_iff]
 simp
def cStr:Cod Str where
 n:=0
 rp _ _ i v:=v=.str i
 inj _ _ h1 h2:=by
  rw [h1] at h2
  exact V.str.inj h2
 eq h1 h2:=by
  intro P w A s u v _ _ _ r1 r2
  subst h1 h2
  obtain ⟨t,rfl⟩:=r1
  obtain ⟨t',rfl⟩:=r2
  rw [eF]
  exact SeqAt.EqAt.str_str _ t _ t'
 rc h1 h2:=by
  intro P w A s u v _ _ _ r1 r2
  subst h1 h2
  obtain ⟨t,rfl⟩:=r1
  obtain ⟨t',rfl⟩:=r2
  rw [eF]
  exact SeqAt.RcAt.str_str _ t _ t'
 ne h1 h2:=by
  intro P w A s u v _ _ _ r1 r2
  subst h1 h2
  obtain ⟨t,rfl⟩:=r1
  obtain ⟨t',rfl⟩:=r2
  rw [eF]
  exact SeqAt.RcNeAt.str_str _ t _ t'
 keep _ h:=h
section
variable {α β γ:Type} [DecidableEq α] [DecidableEq β] [DecidableEq γ]
def Co(f:β->α)(hf:∀x y,f x=f y->x=y)(c:Cod α):Cod β where
 n:=c.n
 rp K H x v:=c.rp K H (f x) v
 inj h1 h2 h3 h4:=hf _ _ (c.inj h1 h2 h3 h4)
 eq {K H x y u v} h1 h2:=by
  have e:decide (x=y)=decide (f x=f y):=decide_eq_decide.mpr ⟨λz=>by rw [z],λz=>hf _ _ z⟩
  rw [e]
  exact c.eq h1 h2
 rc {K H x y u v} h1 h2:=by
  have e:decide (x=y)=decide (f x=f y):=decide_eq_decide.mpr ⟨λz=>by rw [z],λz=>hf _ _ z⟩
  rw [e]
  exact c.rc h1 h2
 ne {K H x y u v} h1 h2:=by
  have e:decide (x=y)=decide (f x=f y):=decide_eq_decide.mpr ⟨λz=>by rw [z],λz=>hf _ _ z⟩
  rw [e]
  exact c.ne h1 h2
 keep h1 h2:=c.keep h1 h2
def rT2(c:Cod α)(d:Cod β)(K:Frag)(H:Hp)(x:α×β)(v:V):Prop:=∃a u w,v=.ref a/\SqU K H a [u,w]/\c.rp K H x.1 u/\d.rp K H x.2 w
theorem sd{c:Cod α}{d:Cod β}{P:Program}{w:World}{K:Frag}{H:Hp}{h:Heap}{x y:α×β}{v:V}(f:HOk P w H h)(g:K.In h)(h1:rT2 c d K H x v)(r:rT2 c d K H y v):x=y:=by
 obtain ⟨a,u,t,rfl,l,m,o⟩:=h1
 obtain ⟨b,C,D,e,q,i,j⟩:=r
 cases e
 have z:=rR f g l.sq q.sq
 cases z
 exact Prod.ext (c.inj f g m i) (d.inj f g o j)
theorem qM{c:Cod α}{d:Cod β}{K:Frag}{H:Hp}{x y:α×β}{u v:V}(h1:rT2 c d K H x u)(w:rT2 c d K H y v) :
  qp K (max c.n d.n+1) H u v (decide (x=y))/\um K (max c.n d.n+1) H u v (decide (x=y)):=by
 obtain ⟨a,u,t,rfl,l,m,o⟩:=h1
 obtain ⟨b,z,C,rfl,r,h,i⟩:=w
 have T:=uE (n:=max c.n d.n) (e:=λj=>if j=0 then decide (x.1=y.1) else decide (x.2=y.2)) l.sq r.sq rfl (λj p q f g=>by
  match j,f,g with
  | 0,f,g=>cases f;cases g;exact (c.eq m h).mono (Nat.le_max_left _ _)
  | 1,f,g=>cases f;cases g;exact (d.eq o i).mono (Nat.le_max_right _ _))
 have e:((List.range ([u,t]:List V).length).all λj=>if j=0 then decide (x.1=y.1) else decide (x.2=y.2))=decide (x=y):=by
  show (decide (x.1=y.1)&&(decide (x.2=y.2)&&true))=decide (x=y)
  rw [Bool.and_true,← Bool.decide_and]
  exact decide_eq_decide.mpr (Prod.ext_iff (x:=x) (y:=y)).symm
 rw [e] at T
 exact T
def cT2(c:Cod α)(d:Cod β):Cod (α×β) where
 n:=max c.n d.n+1
 rp:=rT2 c d
 inj:=sd
 rc h1 h2:=(qM h1 h2).1
 ne h1 h2:=(qM h1 h2).2
 eq {K H x y u v} h1 h2:=by
  have r:=(qM h1 h2).1
  have i:=λP w h hok kin=>sd (c:=c) (d:=d) (P:=P) (w:=w) (K:=K) (H:=H) (h:=h) (x:=x) (y:=y) (v:=v) hok kin
  obtain ⟨a,_,_,rfl,_⟩:=id h1
  obtain ⟨b,_,_,rfl,_⟩:=id h2
  refine lV r λP w h hok kin e=>?_
  subst e
  exact τ (i P w h hok kin h1 h2)
 keep e h:=let ⟨a,u,w,h1,h2,h3,h4⟩:=h;⟨a,u,w,h1,h2.keep e,c.keep e h3,d.keep e h4⟩
def rT3(c:Cod α)(d:Cod β)(f:Cod γ)(K:Frag)(H:Hp)(x:α×β×γ)(v:V):Prop:=∃a u w z,v=.ref a/\SqU K H a [u,w,z]/\c.rp K H x.1 u/\d.rp K H x.2.1 w/\f.rp K H x.2.2 z
theorem r8{c:Cod α}{d:Cod β}{f:Cod γ}{P:Program}{w:World}{K:Frag}{H:Hp}{h:Heap}{x y:α×β×γ}{v:V}(g:HOk P w H h)(i:K.In h)(h1:rT3 c d f K H x v)(G:rT3 c d f K H y v):x=y:=by
 obtain ⟨a,u,t,z,rfl,o,r,C,D⟩:=h1
 obtain ⟨b,I,J,L,e,F,j,l,m⟩:=G
 cases e
 have q:=rR g i o.sq F.sq
 cases q
 exact Prod.ext (c.inj g i r j) (Prod.ext (d.inj g i C l) (f.inj g i D m))
theorem qL{c:Cod α}{d:Cod β}{f:Cod γ}{K:Frag}{H:Hp}{x y:α×β×γ}{u v:V}(h1:rT3 c d f K H x u)(F:rT3 c d f K H y v) :
  qp K (max c.n (max d.n f.n)+1) H u v (decide (x=y))/\um K (max c.n (max d.n f.n)+1) H u v (decide (x=y)):=by
 obtain ⟨a,u,t,z,rfl,o,r,w,C⟩:=h1
 obtain ⟨b,G,I,J,rfl,D,i,l,m⟩:=F
 have T:=uE (n:=max c.n (max d.n f.n)) (e:=λj=>if j=0 then decide (x.1=y.1) else if j=1 then decide (x.2.1=y.2.1) else decide (x.2.2=y.2.2)) o.sq D.sq rfl (λj p q g h=>by
  match j,g,h with
  | 0,g,h=>cases g;cases h;exact (c.eq r i).mono (Nat.le_max_left _ _)
  | 1,g,h=>cases g;cases h;exact (d.eq w l).mono (Λ (Nat.le_max_left _ _) (Nat.le_max_right _ _))
  | 2,g,h=>cases g;cases h;exact (f.eq C m).mono (Λ (Nat.le_max_right _ _) (Nat.le_max_right _ _)))
 have e:((List.range ([u,t,z]:List V).length).all λj=>if j=0 then decide (x.1=y.1) else if j=1 then decide (x.2.1=y.2.1) else decide (x.2.2=y.2.2))=decide (x=y):=by
  show (decide (x.1=y.1)&&(decide (x.2.1=y.2.1)&&(decide (x.2.2=y.2.2)&&true)))=decide (x=y)
  rw [Bool.and_true,← Bool.decide_and,← Bool.decide_and]
  refine decide_eq_decide.mpr ⟨λz=>Prod.ext z.1 (Prod.ext z.2.1 z.2.2),λz=>?_⟩
  rw [z]
  exact ⟨ϱ,ϱ,ϱ⟩
 rw [e] at T
 exact T
def cT3(c:Cod α)(d:Cod β)(f:Cod γ):Cod (α×β×γ) where
 n:=max c.n (max d.n f.n)+1
 rp:=rT3 c d f
 inj:=r8
 rc h1 h2:=(qL h1 h2).1
 ne h1 h2:=(qL h1 h2).2
 eq {K H x y u v} h1 h2:=by
  have r:=(qL h1 h2).1
  have i:=λP w h hok kin=>r8 (c:=c) (d:=d) (f:=f) (P:=P) (w:=w) (K:=K) (H:=H) (h:=h) (x:=x) (y:=y) (v:=v) hok kin
  obtain ⟨a,_,_,_,rfl,_⟩:=id h1
  obtain ⟨b,_,_,_,rfl,_⟩:=id h2
  refine lV r λP w h hok kin e=>?_
  subst e
  exact τ (i P w h hok kin h1 h2)
 keep e h:=let ⟨a,u,w,z,h1,h2,h3,h4,h5⟩:=h;⟨a,u,w,z,h1,h2.keep e,c.keep e h3,d.keep e h4,f.keep e h5⟩
end
section
variable {α:Type} [DecidableEq α] {K:Frag}{H:Hp}
theorem _root_.PySem.Paired.get{β γ:Type}{R:β->γ->Prop}:∀{xs:List β} {us:List γ},Paired R xs us->∀{j:Nat} {u:γ},us[j]?=some u->∃x,xs[j]?=some x/\R x u
 | _,_,.nil,j,u,e=>by simp at e
 | _,_,.cons r t,0,u,e=>by simp at e;subst e;exact ⟨_,rfl,r⟩
 | _,_,.cons r t,j+1,u,e=>PySem.Paired.get t (j:=j) (by simpa using e)
theorem _root_.PySem.Paired.get1{β γ:Type}{R:β->γ->Prop}:∀{xs:List β} {us:List γ},Paired R xs us->∀{j:Nat} {x:β},xs[j]?=some x->∃u,us[j]?=some u/\R x u
 | _,_,.nil,j,u,e=>by simp at e
 | _,_,.cons r t,0,u,e=>by simp at e;subst e;exact ⟨_,rfl,r⟩
 | _,_,.cons r t,j+1,u,e=>PySem.Paired.get1 t (j:=j) (by simpa using e)
theorem _root_.PySem.Paired.len{β γ:Type}{R:β->γ->Prop}:∀{xs:List β} {us:List γ},Paired R xs us->xs.length=us.length
 | _,_,.nil=>rfl
 | _,_,.cons r t=>by simp [PySem.Paired.len t]
theorem _root_.PySem.Paired.app{β γ:Type}{R:β->γ->Prop}:∀{xs ys:List β} {us vs:List γ},Paired R xs us->Paired R ys vs->Paired R (xs++ys) (us++vs)
 | _,_,_,_,.nil,s=>s
 | _,_,_,_,.cons r t,s=>.cons r (PySem.Paired.app t s)
theorem oF{xs ys:List α}{n:Nat}(h1:xs.length=n)(b:ys.length=n):((List.range n).all λj=>decide (xs[j]?=ys[j]?))=decide (xs=ys):=by
 rw [Bool.eq_iff_iff,List.all_eq_true,decide_eq_true_eq]
 constructor
 ·intro h
  apply List.ext_getElem?
  intro i
  by_cases hi:i<n
  ·exact Ξ (h i (List.mem_range.mpr hi))
  ·rw [List.getElem?_eq_none ω,List.getElem?_eq_none ω]
 ·intro h i _
  rw [h]
  exact τ rfl
theorem wD{c:Cod α}{a b:Addr}{us vs:List V}{xs ys:List α}(ha:SqL K H a us)(hb:SqL K H b vs)(Z:Paired (c.rp K H) xs us)(py:Paired (c.rp K H) ys vs) :
  qp K (c.n+1) H (.ref a) (.ref b) (decide (xs=ys))/\um K (c.n+1) H (.ref a) (.ref b) (decide (xs=ys)):=by
 have f:∀(P:Program) (w:World) (A:Around) (s:Shared) (u v:Value),A.units+(c.n+1)<cLine->HOk P w H s.heap->K.In s.heap->RelV (.ref a) u->RelV (.ref b) v ->
   SeqAt.RcAt A s u v (decide (xs=ys))/\SeqAt.RcNeAt A s u v (!decide (xs=ys)):=by
  intro P w A s u v hA h i r1 r2
  cases r1
  cases r2
  obtain ⟨g,L,r,_⟩:=rS h i ha
  obtain ⟨l,O,C,_⟩:=rS h i hb
  have l1:=L.length
  have l2:=O.length
  have m1:=Z.len
  have m2:=py.len
  by_cases hl:g.length=l.length
  ·have d:∀j (h1:j<g.toArray.size) (m:j<l.toArray.size),SeqAt.EqAt A.in1 s g.toArray[j] l.toArray[j] (decide (xs[j]?=ys[j]?)):=λj h1 m=>by
    have D:j<g.length:=by simpa using h1
    have F:j<l.length:=by simpa using m
    have W:us[j]?=some us[j]:=ξ ω
    have X:vs[j]?=some vs[j]:=ξ ω
    obtain ⟨u,Q,ru⟩:=L.get W
    obtain ⟨v,U,rv⟩:=O.get X
    obtain ⟨x,ex,rx⟩:=Z.get W
    obtain ⟨y,ey,ry⟩:=py.get X
    have q:=c.eq rx ry P w A.in1 s u v (by show A.units+1+c.n<cLine;omega) h i ru rv
    have z1:g.toArray[j]=u:=by
     rw [ξ D] at Q
     simpa using Option.some.inj Q
    have z2:l.toArray[j]=v:=by
     rw [ξ F] at U
     simpa using Option.some.inj U
    rw [z1,z2,ex,ey]
    have e:decide ((some x:Option α)=some y)=decide (x=y):=decide_eq_decide.mpr ⟨λz=>Δ z,λz=>by rw [z]⟩
    rw [e]
    exact q
   have Y:(List.range g.toArray.size).all (λj=>decide (xs[j]?=ys[j]?))=decide (xs=ys):=oF (by rw [List.size_toArray];omega) (by rw [List.size_toArray];omega)
   constructor
   ·have q:=SeqAt.RcAt.lists (A:=A) (s:=s) r.isList C.isList (by simpa using hl) ω d
    rw [Y] at q
    exact q
   ·have q:=SeqAt.RcNeAt.lists (A:=A) (s:=s) r.isList C.isList (by simpa using hl) ω d
    rw [Y] at q
    exact q
  ·have o:(g.toArray.size != l.toArray.size)=true:=by simpa using hl
   have e:decide (xs=ys)=false:=Γ λz=>hl (by rw [← l1,← l2,← m1,← m2,z])
   rw [e]
   exact ⟨SeqAt.RcAt.lists_lengths r.isList C.isList o ω,SeqAt.RcNeAt.lists_lengths r.isList C.isList o ω⟩
 exact ⟨λP w A s u v h1 m G I J=>(f P w A s u v h1 m G I J).1,λP w A s u v h1 m G I J=>(f P w A s u v h1 m G I J).2⟩
end
section
variable {X:Cx}{α:Type} [DecidableEq α]
theorem hun{c:Nat}{k:Nat}{A:Around}(b:Room k A)(h:c<=60:=by decide):A.units+c+1<cLine:=by
 have:=b.units
 omega
theorem vI(c:Cod α)(j:X.A.units+c.n+1<cLine):OpR X (compareOp .Eq) (λx y H Q=>∃a b,c.rp X.K H a x/\c.rp X.K H b y/\Q (.bl (decide (a=b))) H):=by
 intro d s σ H x y v u Q I g i h
 obtain ⟨a,b,e,f,q⟩:=h
 exact c.rc e f X.prog X.w X.A s v u ω I.hok I.kIn g i X.prog X.w X.xe _ ⟨.bl _,H,I,ϱ,q⟩
theorem vE(c:Cod α)(j:X.A.units+c.n+1<cLine):OpR X (compareOp .NotEq) (λx y H Q=>∃a b,c.rp X.K H a x/\c.rp X.K H b y/\Q (.bl (!decide (a=b))) H):=by
 intro d s σ H x y v u Q I g i h
 obtain ⟨a,b,e,f,q⟩:=h
 exact c.ne e f X.prog X.w X.A s v u ω I.hok I.kIn g i X.prog X.w X.xe _ ⟨.bl _,H,I,ϱ,q⟩
def xr(c:Cod α)(K:Frag)(H:Hp)(xs:List α)(v:V):Prop:=∃a us,v=.ref a/\SqL K H a us/\Paired (c.rp K H) xs us
theorem eZ(c:Cod α)(o:X.A.units+c.n+1<cLine):OpR X (compareOp .Eq) (λx y H Q=>∃xs ys,xr c X.K H xs x/\xr c X.K H ys y/\Q (.bl (decide (xs=ys))) H):=by
 intro d s σ H x y v u Q I j l h
 obtain ⟨xs,ys,⟨a,m,rfl,e,f⟩,⟨b,vs,rfl,g,i⟩,q⟩:=h
 exact (wD e g f i).1 X.prog X.w X.A s v u ω I.hok I.kIn j l X.prog X.w X.xe _ ⟨.bl _,H,I,ϱ,q⟩
theorem lH(c:Cod α)(o:X.A.units+c.n+1<cLine):OpR X (compareOp .NotEq) (λx y H Q=>∃xs ys,xr c X.K H xs x/\xr c X.K H ys y/\Q (.bl (!decide (xs=ys))) H):=by
 intro d s σ H x y v u Q I j l h
 obtain ⟨xs,ys,⟨a,m,rfl,e,f⟩,⟨b,vs,rfl,g,i⟩,q⟩:=h
 exact (wD e g f i).2 X.prog X.w X.A s v u ω I.hok I.kIn j l X.prog X.w X.xe _ ⟨.bl _,H,I,ϱ,q⟩
noncomputable def eqR(c:Cod α)(K:Frag)(H:Hp)(a:α)(u:Value):Bool:=@decide (∃v,RelV v u/\c.rp K H a v) (Classical.propDecidable _)
theorem wR{c:Cod α}{P:Program}{w:World}{K:Frag}{H:Hp}{h:Heap}{a z:α}{v:V}{u:Value}(b:HOk P w H h)(d:K.In h)(r:RelV v u)(q:c.rp K H z v):eqR c K H a u=decide (z=a):=by
 unfold eqR
 by_cases e:z=a
 ·subst e
  rw [τ (show z=z from rfl)]
  exact @decide_eq_true _ (Classical.propDecidable _) ⟨v,r,q⟩
 ·rw [Γ e]
  refine @decide_eq_false _ (Classical.propDecidable _) λ⟨i,f,g⟩=>e ?_
  have:=r.inj f
  subst this
  exact c.inj b d q g
theorem pf{c:Cod α}{P:Program}{w:World}{K:Frag}{H:Hp}{h:Heap}{a:α}(hok:HOk P w H h)(kin:K.In h):∀{xs:List α} {us:List V} {its:List Value},Paired (c.rp K H) xs us->Vals us its->its.any (eqR c K H a)=decide (a∈xs)
 | _,_,_,.nil,.nil=>by simp
 | x::xs,_,_,.cons p t,.cons r s=>by
  rw [List.any_cons,wR hok kin r p,pf hok kin t s,Bool.eq_iff_iff]
  simp only [Bool.or_eq_true,decide_eq_true_eq,List.mem_cons]
  exact ⟨λz=>z.elim (λe=>.inl e.symm) .inr,λz=>z.elim (λe=>.inl e.symm) .inr⟩
theorem oP{c:Cod α}{P:Program}{w:World}{A:Around}{s:Shared}{K:Frag}{H:Hp}{a:α}{x:V}{v:Value}(hok:HOk P w H s.heap)(kin:K.In s.heap)(hA:A.units+c.n<cLine)(rx:RelV x v)(qx:c.rp K H a x) :
  ∀{xs:List α} {us:List V} {its:List Value},Paired (c.rp K H) xs us->Vals us its->∀u∈its,SeqAt.EqAt A s u v (eqR c K H a u)
 | _,_,_,.nil,.nil=>λu hu=>by cases hu
 | _,_,_,.cons p t,.cons r q=>λu' hu=>by
  rcases ϕ.mp hu with rfl | hu
  ·rw [wR hok kin r p]
   exact c.eq p qx P w A s _ v hA hok kin r rx
  ·exact oP hok kin hA rx qx t q u' hu
def Ce(c:Cod α)(K:Frag):R2:=λx y H Q=>∃a p us xs,c.rp K H a x/\y=.ref p/\(SqL K H p us\/SqT K H p us)/\Paired (c.rp K H) xs us/\Q (.bl (decide (a∈xs))) H
theorem Ap(c:Cod α)(C:X.A.units+c.n+1<cLine):OpR X (compareOp .In) (Ce c X.K):=by
 intro i s σ H x y v u Q I j m h
 obtain ⟨a,p,o,z,g,rfl,hq,d,q⟩:=h
 cases m
 rcases hq with hq | hq
 ·obtain ⟨b,r,e,l⟩:=I.list hq
  refine SeqAt.in_listAt (eqR c X.K H a) e.isList (λw f=>oP I.hok I.kIn (by show X.A.units+1+c.n<cLine;omega) j g d r w (by simpa using f)) ⟨.bl _,H,I,ϱ,?_⟩
  rw [show b.toArray.any (eqR c X.K H a)=b.any (eqR c X.K H a) by simp,pf I.hok I.kIn d r]
  exact q
 ·obtain ⟨b,r,e,l⟩:=I.tuple hq
  refine SeqAt.in_tupleAt (eqR c X.K H a) e (λw f=>oP I.hok I.kIn (by show X.A.units+1+c.n<cLine;omega) j g d r w (by simpa using f)) ⟨.bl _,H,I,ϱ,?_⟩
  rw [show b.toArray.any (eqR c X.K H a)=b.any (eqR c X.K H a) by simp,pf I.hok I.kIn d r]
  exact q
end
section
variable {X:Cx}
theorem qi(hc:X.calm=true):cG X (.builtin "any") (λxs H Q=>∃(p:Addr) (bs:List Bool),xs=[.ref p]/\SqL X.K H p (bs.map V.bl)/\Q (.bl (bs.any id)) H):=by
 intro D s σ H xs us Q I r h
 obtain ⟨p,bs,rfl,F,q⟩:=h
 obtain ⟨u,rfl,G⟩:=cL r
 cases (show u=Value.ref p from G)
 obtain ⟨d,z,J,hz⟩:=I.list F
 have w:=J.isList
 have x:p<s.heap.objs.size:=by obtain ⟨_,e,_⟩:=w;exact η e
 have O:X.A.handled=none:=I.ok.hd hc
 have j:bs.length=d.length:=by have:=z.length;rw [ν] at this;exact this
 refine call_any_walk (wpAny_pyIter_list w ?_)
 refine ⟨s.heap.objs.size,[s.heap.objs.size,p],[s.heap.objs.size],d.toArray.size,_,_,λi=>(bs[i]?).getD false,ϱ,Walks.list (A:=X.A.in1) O _ p (Φ x) d.toArray,
  ⟨⟨_,ψ _ rfl,ϱ,ϱ⟩,w.push _⟩,λi v P U E' W Y=>?_,λh' tk Z=>?_⟩
 ·have l:d[i]?=some v:=by simpa using W
  have g:i<d.length:=(List.getElem?_eq_some_iff.mp l).1
  have f:(bs.map V.bl)[i]?=some (V.bl (bs[i]'(ω))):=by rw [List.getElem?_map,ξ ω];rfl
  obtain ⟨u',C,L⟩:=z.get f
  rw [l] at C
  cases C
  cases (show v=Value.bool _ from L)
  have m:U ((bs[i]?).getD false) P:=Y
  rw [ξ ω] at m
  exact wpAny_truthy_bool m
 ·have e:((List.range d.toArray.size).any λi=>(bs[i]?).getD false)=bs.any id:=by
   rw [List.size_toArray,← j,Bool.eq_iff_iff,List.any_eq_true,List.any_eq_true]
   constructor
   ·rintro ⟨i,g,f⟩
    have o:=List.mem_range.mp g
    rw [ξ o] at f
    exact ⟨bs[i],List.getElem_mem o,f⟩
   ·rintro ⟨b,f,y⟩
    obtain ⟨i,g,e⟩:=List.getElem_of_mem f
    refine ⟨i,List.mem_range.mpr g,?_⟩
    rw [ξ g,e]
    exact y
  rw [e]
  exact ⟨.bl _,H,I.kept (LSm.kept_iter Z),ϱ,q⟩
theorem mQ:MtR X "list.index" (λx vs H Q=>∃(l:Addr) (ys:List Str) (z:Str) (j:Nat),x=.ref l/\vs=[.str z]/\SqL X.K H l (ys.map V.str)/\ys[j]?=some z/\(∀m,m<j->ys[m]?≠some z)/\Q (.int (j:Nat)) H):=by
 intro W s σ H x vs v us Q I rx rv h
 obtain ⟨l,ys,z,j,rfl,rfl,Y,J,C,q⟩:=h
 cases rx
 obtain ⟨u,rfl,Z⟩:=rv.one
 obtain ⟨b,r,pl,hz⟩:=I.list Y
 have hl:=r.length
 rw [ν] at hl hz
 obtain ⟨⟨a2,dd,L,sl⟩,n,O,P,U,d⟩:=id pl
 simp only at P U d
 subst P U d
 have fl:(ys.map V.str).all mZ=true:=by rw [List.all_map];exact List.all_eq_true.mpr λ_ _=>rfl
 have i:∀m (w:m<b.toArray.size),∃y,ys[m]?=some y/\eqU (.str z) b.toArray[m]=decide (y=z):=λm w=>by
  have D:m<b.length:=by simpa using w
  have g:(ys.map V.str)[m]?=some (V.str (ys[m]'(ω))):=by rw [List.getElem?_map,ξ ω];rfl
  obtain ⟨u',f,r2⟩:=r.get g
  refine ⟨ys[m]'(ω),ξ ω,?_⟩
  have e3:b.toArray[m]=u':=by
   rw [ξ D] at f
   simpa using Option.some.inj f
  rw [e3,wQ r2 rfl,eF]
  rfl
 have a8:j<ys.length:=(List.getElem?_eq_some_iff.mp J).1
 have o:j<b.toArray.size:=by simpa using (by omega:j<b.length)
 refine call_meets F.slot_list_index ⟨_,O,ϱ⟩ F.entry_list_index (F.args_list_index_2 _ _) (SeqAt.list_indexAt l b.toArray n none sl u (eqU (.str z)) j o (by have:=sizeLine_eq;omega) ?_ ?_) ⟨O,λy hy=>pV Z rfl r fl y (by simpa using hy),⟨.int (j:Nat),H,I.tok _,⟨_,ϱ⟩,q⟩⟩
 ·obtain ⟨y,g,f⟩:=i j o
  rw [f]
  rw [J] at g
  cases g
  exact τ rfl
 ·intro m w G
  obtain ⟨y,g,f⟩:=i m w
  rw [f]
  exact Γ λe=>C m G (by rw [g,e])
def w5:KTD.Dat->Value->Bool
 | .flat d,v=>KTD.flatLooks d v
 | _,_=>false
theorem yZ{h:Heap}:∀(d:KTD.Dat) (v:Value),w5 d v=true->d.At h v
 | .flat d,v,e=>KTD.flat_of_looks (d:=d) e
 | .float _,_,e=>by cases e
 | .nums _,_,e=>by cases e
 | .words _,_,e=>by cases e
 | .tup _,_,e=>by cases e
 | .tab _,_,e=>by cases e
def TabK(K:Frag)(a:Addr)(D:List (Str×KTD.Dat)):Prop:=KTD.tabLook w5 (λb=>K.lookup b) a D=true
theorem TabK.at{K:Frag}{a:Addr}{D:List (Str×KTD.Dat)}{h:Heap}(t:TabK K a D)(kin:K.In h):KTD.TextTab h a D:=KTD.tab_of_look yZ (λa o e=>kin a o e) t
theorem oV{h₀:Heap}{k:Str}{Pr:Value->Prop}:∀{D:List (Str×KTD.Dat)} {d:KTD.Dat},KTD.datumAt k D=some d->KTD.Opened h₀ Pr d->KTD.EachL h₀ k Pr D
 | [],_,e,_=>by cases e
 | (x,d')::D,d,e,o=>by
  have e':(if decide (k=x)=true then some d' else KTD.datumAt k D)=some d:=e
  by_cases hx:k=x
  ·rw [if_pos (τ hx)] at e'
   cases e'
   exact KTD.eachL_hit hx o
  ·rw [if_neg (by simp [hx])] at e'
   exact KTD.eachL_miss hx (oV e' o)
theorem sC{D:List (Str×KTD.Dat)}:IxR X (λx y H Q=>∃a k i,x=.ref a/\y=.str k/\TabK X.K a D/\KTD.datumAt k D=some (.flat (.int i))/\(D.all λp=>KTD.plain p.2)=true/\Q (.int i) H):=by
 intro b d g s σ H x y v u Q I m o h r
 obtain ⟨a,k,i,rfl,rfl,j,f,l,q⟩:=h
 cases m
 obtain ⟨t,rfl⟩:=o
 refine KTD.item_textA (h₀:=s.heap) ⟨j.at I.kIn,λ_ _ e=>e⟩ l ?_ ?_ r
 ·rw [← KTD.isSome_datumAt,f];rfl
 ·exact oV f (KTD.opened_int λw=>⟨.int i,H,I.tok _,⟨_,ϱ⟩,q⟩)
end
section
variable {X:Cx}{α:Type} [DecidableEq α]
theorem pfK(K:Frag)(i:Nat){x f:Str}{b pos:Pos}(e:X.K=K:=by rfl)(g:X.N[i]?=some x:=by rfl)(h:Vis X.env.scope x:=by first | exact Or.inl rfl | exact Or.inr (Or.inl rfl) | exact Or.inr (Or.inr rfl))(j:(x==("__debug__":Str))=false:=by decide)
  (d:(x==("__classdict__":Str))=false:=by decide)(l:attributeBase (.Name x b) f X.env (eval (.Name x b) X.env)=eval (.Name x b) X.env:=by rfl):PE X (.Attribute (.Name x b) f pos) (sZ K (qt i) f):=by
 subst e
 exact aq (qO g h j d) l
theorem sw(K:Frag)(c:Cod α)(d:X.A.units+c.n+1<cLine)(e:X.K=K:=by rfl):OpR X (compareOp .Eq) (λx y H Q=>∃a b,c.rp K H a x/\c.rp K H b y/\Q (.bl (decide (a=b))) H):=by
 subst e
 exact vI c d
theorem ss(K:Frag)(c:Cod α)(d:X.A.units+c.n+1<cLine)(e:X.K=K:=by rfl):OpR X (compareOp .NotEq) (λx y H Q=>∃a b,c.rp K H a x/\c.rp K H b y/\Q (.bl (!decide (a=b))) H):=by
 subst e
 exact vE c d
end
structure GF(P:Program)(w:World)(K:Frag)(mg:Str->Option Value)(base:Heap)(CX:CXT)(k:Nat)(x:Str)(ps:List Str)(sp:Sp) where
 f:Addr
 fd:FuncData
 ok:FnOk P w K mg base CX k f fd ps sp
 bd:Binds K fd ps []
 kp:PySem.W.keepIn K (.ref f)=true
 mgx:mg x=some (.ref f)
structure GM(P:Program)(w:World)(K:Frag)(mg:Str->Option Value)(base:Heap)(CX:CXT)(k:Nat)(C:Addr)(m:Str)(ps:List Str)(sp:Sp) where
 f:Addr
 fd:FuncData
 ok:FnOk P w K mg base CX k f fd ps sp
 bd:Binds K fd ps []
 me:gH K C m f
section
variable {X:Cx}{CX:CXT}{j k:Nat}{x m:Str}{ps:List Str}{sp:Sp}{E:XK}{p pos apos:Pos}{e o:Expr}{es:List Expr}{t:TA}{ta:TE}{C:Addr}
theorem pc(G:GF X.prog X.w X.K X.mg X.base CX j x ps sp)(hr:Room k X.A)(ha:PA X (e::es) t)(hx:cU CX X E:=by exact a9)(hk:j<=k:=by decide)(hg:Gl X x:=by rfl)
  (hdb:(x==("__debug__":Str))=false:=by decide)(he:starEach (e::es) X.env=(false,eval e X.env)::starEach es X.env:=by rfl)(hpl:(backTo pos (starEach es X.env)).any (·.1)=false:=by rfl) :
  PE X (.Call (.Name x p) (e::es) [] pos) (uM sp [] E t):=sk G.ok (hr.mono hk) hg G.mgx G.kp G.bd .nil hx ha hdb he hpl
theorem pm{pl:Sem Bool}(G:GM X.prog X.w X.K X.mg X.base CX j C m ps sp)(ho:PE X o ta)(cl:Cls X.K C)(hr:Room k X.A)(ha:PA X (e::es) t)(hx:cU CX X E:=by exact a9)(hk:j<=k:=by decide)
  (hst:starEach (e::es) X.env=(false,eval e X.env)::starEach es X.env:=by rfl)(hpl:(backTo pos (starEach es X.env)).any (·.1)=false:=by rfl)
  (ht:eval (.Call (.Attribute o m apos) (e::es) [] pos) X.env=(do
   let ov ← eval o X.env
   standAt apos.atName
   let (f,first) ← holding [ov] (getMethod ov m pl)
   callWith pos f first (backTo pos (starEach (e::es) X.env)) (backToKw pos (keywordEach [] X.env))):=by rfl) :
  PE X (.Call (.Attribute o m apos) (e::es) [] pos) (rN C m sp [] E ta t):=hV ho cl G.me G.ok (hr.mono hk) G.bd .nil hx ha hst hpl ht
theorem pm0{pl:Sem Bool}(G:GM X.prog X.w X.K X.mg X.base CX j C m ps sp)(ho:PE X o ta)(cl:Cls X.K C)(hr:Room k X.A)(hx:cU CX X E:=by exact a9)(hk:j<=k:=by decide)
  (ht:eval (.Call (.Attribute o m apos) [] [] pos) X.env=(do
   let ov ← eval o X.env
   standAt apos.atName
   let (f,first) ← holding [ov] (getMethod ov m pl)
   callWith pos f first (backTo pos (starEach [] X.env)) (backToKw pos (keywordEach [] X.env))):=by rfl) :
  PE X (.Call (.Attribute o m apos) [] [] pos) (rN C m sp [] E ta jY):=iX ho cl G.me G.ok (hr.mono hk) G.bd .nil hx ht
end
section
variable {K:Frag}{a:Addr}{xs:List V}{tt:TT}{te:TE}{bl:St}{Fin:List V->Hp->Prop}{H:Hp}
theorem cA(b:Nat->List V->Hp->Prop)(h0:b 0 [] H)(h:xs.length<=sizeLine)(j:∀i ys H,i<=xs.length->b i ys H->SqL K H a xs)
  (l:∀i x ys H,xs[i]?=some x->b i ys H->tt (some x::bl) H λc H2=>if c=true then te (some x::bl) H2 λy H3=>b (i+1) (ys++[y]) H3 else b (i+1) ys H2)
  (m:∀ys H,b xs.length ys H->Fin ys H) :
  ∃(W:Nat->List V->Hp->Prop) (n:Nat),W 0 [] H/\n<=sizeLine/\∀i ys H,W i ys H->((Itl K a).stop i H/\Fin ys H) \/
   ((Itl K a).go i H/\i<n/\∀x H',(Itl K a).yld i H x H'->tt (some x::bl) H' λc H2=>if c=true then te (some x::bl) H2 λy H3=>W (i+1) (ys++[y]) H3 else W (i+1) ys H2):=by
 refine ⟨λi ys H=>i<=xs.length/\b i ys H,xs.length,⟨ϖ _,h0⟩,h,?_⟩
 rintro i ys H ⟨g,p⟩
 have q:=j i ys H g p
 by_cases hlt:i<xs.length
 ·refine .inr ⟨⟨xs,xs[i],q,by simp [hlt]⟩,hlt,λx H' y=>?_⟩
  obtain ⟨e,y⟩:=y
  subst e
  have z:=l i x ys _ (y xs q) p
  have d:(λ(c:Bool) (H2:Hp)=>if c=true then te (some x::bl) H2 λy H3=>i+1<=xs.length/\b (i+1) (ys++[y]) H3 else i+1<=xs.length/\b (i+1) ys H2)=λc H2=>if c=true then te (some x::bl) H2 λy H3=>b (i+1) (ys++[y]) H3 else b (i+1) ys H2:=by
   have f:(i+1<=xs.length)=True:=eq_true hlt
   funext c H2
   simp only [f,true_and]
  show tt _ _ _
  rw [d]
  exact z
 ·have e:i=xs.length:=by omega
  subst e
  exact .inl ⟨⟨xs,q,ι _⟩,m ys H p⟩
theorem il{σ:St}{A B:Hp->Prop}(h:A H):Bz σ H (λc H2=>if c=true then A H2 else B H2):=by
 show if true=true then A H else B H
 exact @cj (A H) (B H) h
theorem AH(b:Nat->List V->Hp->Prop)(h0:b 0 [] H)(h:xs.length<=sizeLine)(j:∀i ys H,i<=xs.length->b i ys H->SqT K H a xs)
  (l:∀i x ys H,xs[i]?=some x->b i ys H->tt (some x::bl) H λc H2=>if c=true then te (some x::bl) H2 λy H3=>b (i+1) (ys++[y]) H3 else b (i+1) ys H2)
  (m:∀ys H,b xs.length ys H->Fin ys H) :
  ∃(W:Nat->List V->Hp->Prop) (n:Nat),W 0 [] H/\n<=sizeLine/\∀i ys H,W i ys H->((Itt K a).stop i H/\Fin ys H) \/
   ((Itt K a).go i H/\i<n/\∀x H',(Itt K a).yld i H x H'->tt (some x::bl) H' λc H2=>if c=true then te (some x::bl) H2 λy H3=>W (i+1) (ys++[y]) H3 else W (i+1) ys H2):=by
 refine ⟨λi ys H=>i<=xs.length/\b i ys H,xs.length,⟨ϖ _,h0⟩,h,?_⟩
 rintro i ys H ⟨g,p⟩
 have q:=j i ys H g p
 by_cases hlt:i<xs.length
 ·refine .inr ⟨⟨xs,xs[i],q,by simp [hlt]⟩,hlt,λx H' y=>?_⟩
  obtain ⟨e,y⟩:=y
  subst e
  have z:=l i x ys _ (y xs q) p
  have d:(λ(c:Bool) (H2:Hp)=>if c=true then te (some x::bl) H2 λy H3=>i+1<=xs.length/\b (i+1) (ys++[y]) H3 else i+1<=xs.length/\b (i+1) ys H2)=λc H2=>if c=true then te (some x::bl) H2 λy H3=>b (i+1) (ys++[y]) H3 else b (i+1) ys H2:=by
   have f:(i+1<=xs.length)=True:=eq_true hlt
   funext c H2
   simp only [f,true_and]
  show tt _ _ _
  rw [d]
  exact z
 ·have e:i=xs.length:=by omega
  subst e
  exact .inl ⟨⟨xs,q,ι _⟩,m ys H p⟩
theorem i9{n:Nat}(b:Nat->List V->Hp->Prop)(h0:b 0 [] H)(g:n<=sizeLine)
  (h:∀(i:Nat) ys H,i<n->b i ys H->tt (some (.int i)::bl) H λc H2=>if c=true then te (some (.int i)::bl) H2 λy H3=>b (i+1) (ys++[y]) H3 else b (i+1) ys H2)
  (j:∀ys H,b n ys H->Fin ys H) :
  ∃(W:Nat->List V->Hp->Prop) (m:Nat),W 0 [] H/\m<=sizeLine/\∀i ys H,W i ys H->((Itr 0 n).stop i H/\Fin ys H) \/
   ((Itr 0 n).go i H/\i<m/\∀x H',(Itr 0 n).yld i H x H'->tt (some x::bl) H' λc H2=>if c=true then te (some x::bl) H2 λy H3=>W (i+1) (ys++[y]) H3 else W (i+1) ys H2):=by
 refine ⟨λi ys H=>i<=n/\b i ys H,n,⟨ϖ _,h0⟩,g,?_⟩
 rintro i ys H ⟨l,p⟩
 by_cases hlt:i<n
 ·refine .inr ⟨hlt,hlt,λx H' y=>?_⟩
  obtain ⟨e,y⟩:=y
  subst e
  rw [Int.zero_add] at y
  subst y
  have z:=h i ys _ hlt p
  have d:(λ(c:Bool) (H2:Hp)=>if c=true then te (some (.int i)::bl) H2 λy H3=>i+1<=n/\b (i+1) (ys++[y]) H3 else i+1<=n/\b (i+1) ys H2)=λc H2=>if c=true then te (some (.int i)::bl) H2 λy H3=>b (i+1) (ys++[y]) H3 else b (i+1) ys H2:=by
   have f:(i+1<=n)=True:=eq_true hlt
   funext c H2
   simp only [f,true_and]
  show tt _ _ _
  rw [d]
  exact z
 ·have e:i=n:=by omega
  subst e
  exact .inl ⟨ι _,j ys H p⟩
end
end L2
namespace Lo
open PySem L2
inductive Kd where
 | read | mean | change
 deriving DecidableEq
def kdS:Kd->Str
 | .read=>"read"
 | .mean=>"mean"
 | .change=>"change"
theorem xV:¬(("read":Str)="mean"):=by decide +kernel
theorem xW:¬(("read":Str)="change"):=by decide +kernel
theorem xX:¬(("mean":Str)="change"):=by decide +kernel
theorem yQ:∀x y,kdS x=kdS y->x=y
 | .read,.read,_=>rfl
 | .mean,.mean,_=>rfl
 | .change,.change,_=>rfl
 | .read,.mean,h=>absurd h xV
 | .read,.change,h=>absurd h xW
 | .mean,.change,h=>absurd h xX
 | .mean,.read,h=>absurd h.symm xV
 | .change,.read,h=>absurd h.symm xW
 | .change,.mean,h=>absurd h.symm xX
def iT:Kd->Int
 | .read=>0
 | .mean=>1
 | .change=>2
abbrev Lk:=Kd×Int×Int
abbrev Pa:=Int×Int
abbrev Pr:=Pa×Lk
def aM(a b:Lk):Bool:=(decide (a.2.1<=b.2.1)&&decide (b.2.2<=a.2.2))&&decide (iT b.1<=iT a.1)
def uF(k:Lk):Str×Int×Int:=(kdS k.1,k.2)
theorem sX:∀x y,uF x=uF y->x=y:=λx y h=>by
 obtain ⟨a,b⟩:=x
 obtain ⟨c,d⟩:=y
 have h1:=congrArg Prod.fst h
 have h2:=congrArg Prod.snd h
 exact Prod.ext (yQ _ _ h1) h2
def cLk:Cod Lk:=Co uF sX (cT3 cStr cInt cInt)
def cPa:Cod Pa:=cT2 cInt cInt
def cPr:Cod Pr:=cT2 cPa cLk
theorem rB{K:Frag}{H:Hp}{a:Addr}{k:Lk}(h:H a=some (.tup [.str (kdS k.1),.int k.2.1,.int k.2.2])):cLk.rp K H k (.ref a):=⟨a,_,_,_,ϱ,.inl h,ϱ,ϱ,ϱ⟩
theorem gn{K:Frag}{H:Hp}{a:Addr}{k:Pa}(h:H a=some (.tup [.int k.1,.int k.2])):cPa.rp K H k (.ref a):=⟨a,_,_,ϱ,.inl h,ϱ,ϱ⟩
theorem xk{K:Frag}{H:Hp}{a:Addr}{u v:V}{k:Pr}(h:H a=some (.tup [u,v]))(h1:cPa.rp K H k.1 u)(h2:cLk.rp K H k.2 v):cPr.rp K H k (.ref a):=⟨a,u,v,ϱ,.inl h,h1,h2⟩
def Fix(CL:Addr):HO->Prop
 | .tup _=>True
 | .ins C _ _=>C≠CL
 | _=>False
def FSame(CL:Addr)(H H':Hp):Prop:=∀b o,H b=some o->Fix CL o->H' b=some o
theorem FSame.ts{CL:Addr}{H H':Hp}(h:FSame CL H H'):TSame H H':=λb xs e=>h b _ e ϰ
theorem eQ{CL:Addr}{H H':Hp}(h:Same H H'):FSame CL H H':=λb o e _=>h b o e
theorem FSame.trans{CL:Addr}{H H1 H2:Hp}(a:FSame CL H H1)(b:FSame CL H1 H2):FSame CL H H2:=λc o e f=>b c o (a c o e f) f
theorem ag{H:Hp}{p:Addr}{o:HO}(h:H p=none):Same H (upd H p o):=λb u e=>by
 rw [am (ap e h)]
 exact e
def Kp(p:Addr)(H H':Hp):Prop:=∀b o,b≠p->H b=some o->H' b=some o
theorem Kp.of{p:Addr}{H H':Hp}(h:Same H H'):Kp p H H':=λb o _ e=>h b o e
theorem Kp.trans{p:Addr}{H H1 H2:Hp}(a:Kp p H H1)(b:Kp p H1 H2):Kp p H H2:=λc o n e=>b c o n (a c o n e)
theorem cm{p:Addr}{H:Hp}{o:HO}:Kp p H (upd H p o):=λb u n e=>by
 rw [am n]
 exact e
theorem Kp.fs{CL p:Addr}{H H':Hp}{xs:List V}(h:Kp p H H')(e:H p=some (.lst xs)):FSame CL H H':=λb o q f=>h b o (λz=>by rw [z,e] at q;cases q;exact f) q
theorem fl:¬(("first":Str)="last"):=by decide +kernel
def lf(f l:Int):List (Str×V):=ay "last" (.int l) (ay "first" (.int f) [])
theorem i5(f l:Int):(lf f l).lookup ("first":Str)=some (.int f):=by
 unfold lf
 rw [al,if_neg fl,al,if_pos rfl]
theorem oQ(f l:Int):(lf f l).lookup ("last":Str)=some (.int l):=by
 unfold lf
 rw [al,if_pos rfl]
theorem iu(f l:Int){m:Str}(h1:¬m="last")(b:¬m="first"):(lf f l).lookup m=none:=by
 unfold lf
 rw [al,if_neg h1,al,if_neg b]
 rfl
def LkO(C:Kd->Addr)(H:Hp)(k:Lk)(v:V):Prop:=∃a dx,v=.ref a/\H a=some (.ins (C k.1) dx (lf k.2.1 k.2.2))
theorem LkO.keep{C:Kd->Addr}{CL:Addr}{H H':Hp}{k:Lk}{v:V}(g:∀k,C k≠CL)(e:FSame CL H H')(h:LkO C H k v):LkO C H' k v:=by
 obtain ⟨a,b,d,f⟩:=h
 exact ⟨a,b,d,e a _ f (g _)⟩
def PrO(C:Kd->Addr)(K:Frag)(H:Hp)(x:Pr)(v:V):Prop:=∃a u l,v=.ref a/\SqU K H a [u,l]/\cPa.rp K H x.1 u/\LkO C H x.2 l
theorem PrO.keep{C:Kd->Addr}{CL:Addr}{K:Frag}{H H':Hp}{x:Pr}{v:V}(i:∀k,C k≠CL)(e:FSame CL H H')(h:PrO C K H x v):PrO C K H' x v:=by
 obtain ⟨a,u,l,b,d,f,g⟩:=h
 exact ⟨a,u,l,b,d.keep e.ts,cPa.keep e.ts f,g.keep i e⟩
def LS(C:Kd->Addr)(CL:Addr)(K:Frag)(H:Hp)(l p:Addr)(ps:List Pr):Prop :=
 ∃dx vs,H l=some (.ins CL dx [("pairs",.ref p)])/\H p=some (.lst vs)/\Paired (PrO C K H) ps vs
theorem pp{F:α->β->Prop}{G:α->β->Prop}{xs:List α}{ys:List β}(h:Paired F xs ys)(f:∀a b,F a b->G a b):Paired G xs ys:=Paired.mapP h f
theorem LS.keep{C:Kd->Addr}{CL:Addr}{K:Frag}{H H':Hp}{l p:Addr}{ps:List Pr}(i:∀k,C k≠CL)(e:Same H H')(h:LS C CL K H l p ps):LS C CL K H' l p ps:=by
 obtain ⟨b,vs,d,f,g⟩:=h
 exact ⟨b,vs,e l _ d,e p _ f,pp g λ_ _ q=>q.keep i (eQ e)⟩
theorem oS{X:Cx}{x:Str}{i:Int}{pos:Pos}(b:∃t,X.mg x=some (.int i t))(d:Gl X x)(f:(x==("__debug__":Str))=false:=by decide):PE X (.Name x pos) (tC (.int i)):=by
 obtain ⟨t,e⟩:=b
 exact hW d e ⟨t,ϱ⟩ f
structure TxB(mg:Str->Option Value):Prop where
 isi:mg "isinstance"=none
 int:mg "int"=none
 bool:mg "bool"=none
 str:mg "str"=none
 len:mg "len"=none
 range:mg "range"=none
 tuple:mg "tuple"=none
 list:mg "list"=none
 any:mg "any"=none
 all:mg "all"=none
 max:mg "max"=none
 sorted:mg "sorted"=none
structure TxK(K:Frag)(C:Kd->Addr):Prop where
 cl:∀k,Cls K (C k)
 nF:∀k,NoAttr K (C k) "first"
 nL:∀k,NoAttr K (C k) "last"
def lj:List (Str×PyProof.Rows.KTD.Dat):=[("read",.flat (.int 0)),("mean",.flat (.int 1)),("change",.flat (.int 2))]
theorem rZ(k:Kd):PyProof.Rows.KTD.datumAt (kdS k) lj=some (.flat (.int (iT k))):=by
 cases k<;>kernel_rfl
structure TxR(K:Frag)(mg:Str->Option Value):Prop where
 rk:∃aR,mg "RANKS"=some (.ref aR)/\TabK K aR lj
structure TxL(K:Frag)(C:Kd->Addr)(CL:Addr):Prop where
 cl:Cls K CL
 nP:NoAttr K CL "pairs"
 ne:∀k,C k≠CL
theorem uH{K:Frag}{a:Addr}{es:Array DictEntry}{n:Nat}{D:List (Str×PyProof.Rows.KTD.Dat)}(h:K.lookup a=some ⟨.type "dict",none,.dict es n,#[]⟩)(z:(a==sysModules)=false)(r:PyProof.Rows.KTD.rowsLook w5 es.toList D=true):TabK K a D:=by
 unfold TabK PyProof.Rows.KTD.tabLook
 rw [z]
 show (true&&(match K.lookup a with | some o=>_ | none=>false))=true
 rw [h]
 simp [r]
def kdN:Kd->Str
 | .read=>"Read"
 | .mean=>"Mean"
 | .change=>"Change"
inductive iw (k:Kd) (vs:List V) (H:Hp) (Q:VK) (E:XK):Prop|mk v:vs=[v]->Q (.str (kdS k)) H->iw k vs H Q E
inductive eG (C:Kd->Addr) (vs:List V) (H:Hp) (Q:VK) (E:XK):Prop|mk a dx k f l:vs=[.ref a,.int f,.int l]->H a=some (.ins (C k) dx [])->Q .non (upd (upd H a (.ins (C k) dx (ay "first" (.int f) []))) a (.ins (C k) dx (lf f l)))->eG C vs H Q E
inductive fF (C:Kd->Addr) (vs:List V) (H:Hp) (Q:VK) (E:XK):Prop|mk v k:vs=[v]->LkO C H k v->(∀a,H a=none->Q (.ref a) (upd H a (.tup [.str (kdS k.1),.int k.2.1,.int k.2.2])))->fF C vs H Q E
inductive iK (C:Kd->Addr) (vs:List V) (H:Hp) (Q:VK) (E:XK):Prop|mk v u k j:vs=[v,u]->LkO C H k v->LkO C H j u->(∀H',Same H H'->Q (.bl (aM k j)) H')->iK C vs H Q E
inductive iI (C:Kd->Addr) (K:Frag) (vs:List V) (H:Hp) (Q:VK) (E:XK):Prop|mk v k:vs=[v]->cLk.rp K H k v->(∀u H',Same H H'->LkO C H' k u->Q u H')->iI C K vs H Q E
theorem eK{H:Hp}{x dx:Addr}{o1 o2 o3 o4:HO}(nx:H x=none)(nd:H dx=none):Same H (upd (upd (upd (upd H dx o1) x o2) x o3) x o4):=λb o e=>by
 have n1:b≠x:=ap e nx
 have n2:b≠dx:=ap e nd
 rw [am n1,am n1,am n1,am n2]
 exact e
theorem cb{v:V}:([("pairs",v)]:List (Str×V)).lookup ("pairs":Str)=some v:=by
 show (ay "pairs" v []).lookup ("pairs":Str)=some v
 rw [al,if_pos rfl]
theorem eN{v:V}{m:Str}(h:¬m="pairs"):([("pairs",v)]:List (Str×V)).lookup m=none:=by
 show (ay "pairs" v []).lookup m=none
 rw [al,if_neg h]
 rfl
theorem AG{v u:V}:ay "pairs" u ([("pairs",v)]:List (Str×V))=([("pairs",u)]:List (Str×V)):=by
 show (if ("pairs":Str)="pairs" then [(("pairs":Str),u)] else (("pairs":Str),v)::ay "pairs" u [])=([("pairs",u)]:List (Str×V))
 rw [if_pos rfl]
section
variable (C:Kd->Addr)(CL:Addr)(K:Frag)
inductive kR (vs:List V) (H:Hp) (Q:VK) (E:XK):Prop|mk l dx:vs=[.ref l]->H l=some (.ins CL dx [])->(∀p H',H p=none->H' p=some (.lst [])->H' l=some (.ins CL dx [("pairs",.ref p)])->Kp l H H'->Q .non H')->kR vs H Q E
end
theorem bnd{n:Nat}(h:n<=1000):-(2 ^ 62)<=(n:Int)/\(n:Int)<2 ^ 62:=by
 constructor<;>omega
theorem small{n:Nat}(h:n<=1000):n<=sizeLine:=Nat.le_of_lt (dR h)
def eE(ns:List Int)(k:Nat):Int:=(ns[k]?).getD 0
inductive qG (K:Frag) (vs:List V) (H:Hp) (Q:VK) (E:XK):Prop|mk a ns k:vs=[.ref a,.int (k:Nat)]->SqL K H a ((ns:List Int).map V.int)->Q (.int (eE ns k)) H->qG K vs H Q E
inductive jj (K:Frag) (vs:List V) (H:Hp) (Q:VK) (E:XK):Prop|mk v u k j:vs=[v,u]->cLk.rp K H k v->cLk.rp K H j u->(∀H',Same H H'->Q (.bl (aM k j)) H')->jj K vs H Q E
def rkN:Kd->Nat
 | .read=>0
 | .mean=>1
 | .change=>2
theorem vd(k:Kd):((rkN k:Nat):Int)=iT k:=by cases k<;>rfl
theorem vC(k:Kd):([("read":Str),"mean","change"]:List Str)[rkN k]?=some (kdS k):=by cases k<;>rfl
theorem vz(k:Kd):∀m,m<rkN k->([("read":Str),"mean","change"]:List Str)[m]?≠some (kdS k):=by
 intro m b e
 cases k with
 | read=>exact absurd b (Nat.not_lt_zero _)
 | mean =>
  have:m=0:=by have:m<1:=b;omega
  subst this
  exact xV (Δ e)
 | change =>
  have:m<2:=b
  rcases (by omega:m=0\/m=1) with e' | e'<;>subst e'
  ·exact xW (Δ e)
  ·exact xX (Δ e)
theorem lA{X:Cx}{st:List Stmt}{t:TS}(u:TS)(h:PSs X st t)(hw:∀D σ H,u D σ H->t D σ H):PSs X st u:=λpins s σ H D I q=>h pins s σ H D I (hw D σ H q)
theorem w9(b:List Int)(lo d:Option Int):∃cs:List Int,qf (b.map V.int) lo d=cs.map V.int/\cs.length<=b.length:=by
 refine ⟨(b.drop (HT.sIx (b.map V.int).length 0 lo)).take (HT.sIx (b.map V.int).length (b.map V.int).length d-HT.sIx (b.map V.int).length 0 lo),?_,?_⟩
 ·unfold qf
  rw [List.map_take,List.map_drop]
 ·rw [List.length_take,List.length_drop]
  omega
theorem tT{CL l dl:Addr}{H H1:Hp}(nl:H l=none)(nd:H dl=none)(k:Kp l (upd (upd H dl (.own l)) l (.ins CL dl [])) H1):Same H H1:=λb o e=>by
 have n1:b≠l:=ap e nl
 have n2:b≠dl:=ap e nd
 refine k b o n1 ?_
 rw [am n1,am n2]
 exact e
end Lo
namespace L2
open PySem PySem.Spec PyProof.Rows
section
variable {κ:Type} [DecidableEq κ]
def bu(kvs:List (κ×V))(k:κ):Option V:=(kvs.find? λkv=>decide (kv.1=k)).map (·.2)
def ce(kvs:List (κ×V))(k:κ)(v:V):List (κ×V) :=
 if (kvs.any λkv=>decide (kv.1=k))=true then kvs.map (λkv=>if kv.1=k then (kv.1,v) else kv) else kvs++[(k,v)]
theorem br{p:κ×V}{r:List (κ×V)}{k:κ}(e:p.1=k):bu (p::r) k=some p.2:=by simp [bu,List.find?_cons,e]
theorem bQ{p:κ×V}{r:List (κ×V)}{k:κ}(e:¬p.1=k):bu (p::r) k=bu r k:=by simp [bu,List.find?_cons,e]
theorem fm(k:κ):∀kvs:List (κ×V),(kvs.any λkv=>decide (kv.1=k))=(bu kvs k).isSome
 | []=>rfl
 | p::r=>by
  rw [List.any_cons]
  by_cases e:p.1=k
  ·simp only [br e,decide_eq_true e,Bool.true_or,Option.isSome_some]
  ·rw [bQ e,Γ e,Bool.false_or];exact fm k r
theorem pB(k j:κ)(y:V):∀kvs:List (κ×V),bu (kvs.map λkv=>if kv.1=k then (kv.1,y) else kv) j=(bu kvs j).map λx=>if j=k then y else x
 | []=>rfl
 | p::r=>by
  have ih:=pB k j y r
  rw [List.map_cons]
  by_cases h:p.1=k
  ·rw [if_pos h]
   by_cases e:p.1=j
   ·rw [br (p:=(p.1,y)) e,br e,Option.map_some,if_pos (e.symm.trans h)]
   ·rw [bQ (p:=(p.1,y)) e,bQ e,ih]
  ·rw [if_neg h]
   by_cases e:p.1=j
   ·rw [br (p:=p) e,br e,Option.map_some,if_neg (λz=>h (e.trans z))]
   ·rw [bQ (p:=p) e,bQ e,ih]
theorem mF(k j:κ)(y:V):∀kvs:List (κ×V),bu kvs k=none->bu (kvs++[(k,y)]) j=if j=k then some y else bu kvs j
 | [],_=>by
  by_cases e:k=j
  ·rw [if_pos e.symm];exact br (p:=(k,y)) e
  ·rw [if_neg (λz=>e z.symm)];exact bQ (p:=(k,y)) e
 | p::r,hn=>by
  rw [List.cons_append]
  have hk:¬p.1=k:=λz=>by rw [br z] at hn;cases hn
  rw [bQ hk] at hn
  have ih:=mF k j y r hn
  by_cases e:p.1=j
  ·rw [br e,br e,if_neg (λz=>hk (e.trans z))]
  ·rw [bQ e,bQ e,ih]
theorem pA(b:List (κ×V))(k j:κ)(y:V):bu (ce b k y) j=if j=k then some y else bu b j:=by
 unfold ce
 by_cases a:(b.any λf=>decide (f.1=k))=true
 ·rw [if_pos a,pB]
  rw [fm] at a
  by_cases e:j=k
  ·obtain ⟨x,d⟩:=Option.isSome_iff_exists.mp a
   rw [if_pos e,e,d,Option.map_some,if_pos rfl]
  ·rw [if_neg e]
   cases bu b j with
   | none=>rfl
   | some x=>rw [Option.map_some,if_neg e]
 ·rw [if_neg a]
  refine mF k j y b ?_
  rw [fm] at a
  cases q:bu b k with
  | none=>rfl
  | some x=>rw [q] at a;exact (a rfl).elim
theorem eO(b:List (κ×V))(k:κ)(v:V):(ce b k v).length<=b.length+1:=by
 unfold ce
 split
 ·rw [ν];omega
 ·rw [List.length_append,List.length_cons,List.length_nil];omega
theorem pJ{b:List (κ×V)}{k:κ}(v:V)(h:bu b k=none):ce b k v=b++[(k,v)]:=by
 unfold ce
 rw [fm,h]
 exact if_neg ζ
theorem RelO.isSome_eq{o:Option V}{u:Option Value}(r:RelO o u):o.isSome=u.isSome:=by
 cases o with
 | none=>cases u with
  | none=>rfl
  | some _=>exact (show False from r).elim
 | some _=>cases u with
  | none=>exact (show False from r).elim
  | some _=>rfl
theorem RelO.getD{o:Option V}{u:Option Value}{d:V}{d':Value}(r:RelO o u)(b:RelV d d'):RelV (o.getD d) (u.getD d'):=by
 cases o with
 | none=>cases u with
  | none=>exact b
  | some _=>exact (show False from r).elim
 | some _=>cases u with
  | none=>exact (show False from r).elim
  | some _=>exact r
theorem KV.val{d:List (κ×V)}{vs:List (κ×Value)}(r:KV d vs)(k:κ):RelO (bu d k) (valueAt vs k):=by
 unfold KV at r
 induction r with
 | nil=>exact ϰ
 | @cons p q ps qs h t ih =>
  obtain ⟨h1,g⟩:=h
  by_cases e:p.1=k
  ·have f:q.1=k:=h1.symm.trans e
   have b:valueAt (q::qs) k=some q.2:=by simp [valueAt,List.find?_cons,f]
   rw [br e,b];exact g
  ·have f:¬q.1=k:=λz=>e (h1.trans z)
   have b:valueAt (q::qs) k=valueAt qs k:=by simp [valueAt,List.find?_cons,f]
   rw [bQ e,b];exact ih
theorem KV.any{b:List (κ×V)}{vs:List (κ×Value)}(r:KV b vs)(k:κ):(b.any λkv=>decide (kv.1=k))=vs.any λkv=>decide (kv.1=k):=by
 unfold KV at r
 induction r with
 | nil=>rfl
 | cons h t ih=>rw [List.any_cons,List.any_cons,ih,h.1]
theorem KV.repl{b:List (κ×V)}{vs:List (κ×Value)}(r:KV b vs)(k:κ){y:V}{u:Value}(f:RelV y u) :
  KV (b.map λkv=>if kv.1=k then (kv.1,y) else kv) (vs.map λkv=>if kv.1=k then (kv.1,u) else kv):=by
 unfold KV at r ⊢
 induction r with
 | nil=>exact .nil
 | @cons p q ps qs h t ih =>
  rw [List.map_cons,List.map_cons]
  refine .cons ?_ ih
  obtain ⟨h1,d⟩:=h
  by_cases e:p.1=k
  ·rw [if_pos e,if_pos (h1.symm.trans e)];exact ⟨h1,f⟩
  ·rw [if_neg e,if_neg (λz=>e (h1.trans z))];exact ⟨h1,d⟩
theorem KV.put{b:List (κ×V)}{vs:List (κ×Value)}(r:KV b vs)(k:κ){y:V}{u:Value}(d:RelV y u):KV (ce b k y) (stored vs k u):=by
 unfold ce stored
 rw [r.any k]
 by_cases e:(vs.any λf=>decide (f.1=k))=true
 ·rw [if_pos e,if_pos e];exact r.repl k d
 ·rw [if_neg e,if_neg e];exact Paired.snoc r ⟨ϱ,d⟩
theorem KV.length{kvs:List (κ×V)}{vs:List (κ×Value)}(r:KV kvs vs):kvs.length=vs.length:=Paired.length r
end
theorem lP{P:Program}{w:World}{k:Key}{u:Value}(r:RelV (kV k) u):(aJ P w).is k u=true:=by
 cases k with
 | inl i=>obtain ⟨t,e⟩:=(show ∃t,u=Value.int i t from r);subst e;exact pU P w i t
 | inr x=>obtain ⟨t,e⟩:=(show ∃t,u=Value.str x t from r);subst e;exact pT P w x t
theorem mW{P:Program}{w:World}:∀{ks:List Key} {us:List Value},Vals (ks.map kV) us->ItemsAre (aJ P w) ks us
 | [],_,r=>by rw [List.map_nil] at r;cases r;exact .nil
 | k::ks,_,r=>by
  rw [List.map_cons] at r
  cases r with
  | cons h t=>exact .cons (lP h) (mW t)
abbrev KT(H:Hp):List (List Key×V)->List (List Key×Addr×Value)->Prop:=Paired λp q=>p.1=q.1/\H q.2.1=some (.tup (p.1.map kV))/\RelV p.2 q.2.2
theorem KT.val{H:Hp}{d:List (List Key×V)}{xs:List (List Key×Addr×Value)}(r:KT H d xs)(k:List Key):RelO (bu d k) ((atKey xs k).map (·.2)):=by
 induction r with
 | nil=>exact ϰ
 | @cons p q ps qs h t ih =>
  obtain ⟨h1,_,g⟩:=h
  by_cases e:p.1=k
  ·have f:q.1=k:=h1.symm.trans e
   have b:atKey (q::qs) k=some q.2:=by simp [atKey,List.find?_cons,f]
   rw [br e,b];exact g
  ·have f:¬q.1=k:=λz=>e (h1.trans z)
   have b:atKey (q::qs) k=atKey qs k:=by simp [atKey,List.find?_cons,f]
   rw [bQ e,b];exact ih
theorem KT.repl{H:Hp}{b:List (List Key×V)}{xs:List (List Key×Addr×Value)}(r:KT H b xs)(k:List Key){y:V}{u:Value}(g:RelV y u) :
  KT H (b.map λkv=>if kv.1=k then (kv.1,y) else kv) (xs.map (putAt k u)):=by
 induction r with
 | nil=>exact .nil
 | @cons p q ps qs h t ih =>
  rw [List.map_cons,List.map_cons]
  refine .cons ?_ ih
  obtain ⟨h1,d,f⟩:=h
  unfold putAt
  by_cases e:p.1=k
  ·rw [if_pos e,if_pos (h1.symm.trans e)];exact ⟨h1,d,g⟩
  ·rw [if_neg e,if_neg (λz=>e (h1.trans z))];exact ⟨h1,d,f⟩
theorem KT.put{H:Hp}{d:List (List Key×V)}{xs:List (List Key×Addr×Value)}(r:KT H d xs)(k:List Key){b:Addr}{y:V}{u:Value}(h:H b=some (.tup (k.map kV)))(f:RelV y u) :
  KT H (ce d k y) (storedH xs k b u):=by
 have e:(d.any λg=>decide (g.1=k))=(atKey xs k).isSome:=by
  rw [fm,(r.val k).isSome_eq,Option.isSome_map]
 unfold ce storedH
 rw [e]
 by_cases q:(atKey xs k).isSome=true
 ·rw [if_pos q,if_pos q];exact r.repl k f
 ·rw [if_neg q,if_neg q];exact Paired.snoc r ⟨ϱ,h,f⟩
theorem KT.keeps{H H':Hp}{kvs:List (List Key×V)}{xs:List (List Key×Addr×Value)}(r:KT H kvs xs)(ht:∀b ys,H b=some (.tup ys)->H' b=some (.tup ys)):KT H' kvs xs :=
 Paired.mapP r λ_ _ z=>⟨z.1,ht _ _ z.2.1,z.2.2⟩
section
variable {P:Program}{w:World}{H:Hp}{h:Heap}{a:Addr}
theorem zr{u:HO}(ok:HOk P w H h)(e:Rd H a u):ObjOk P w H h a u:=e.ok ok
theorem lX{kvs:List (Key×V)}(ok:HOk P w H h)(e:Rd H a (.dK kvs)):kvs.length<=sizeLine/\(a==sysModules)=false/\∃vs,KV kvs vs/\h.DictOf (aJ P w) a vs :=
 show ObjOk P w H h a (.dK kvs) from zr ok e
theorem sK{kvs:List (Key×V)}(ok:HOk P w H h)(e:H a=some (.dK kvs)):kvs.length<=sizeLine/\(a==sysModules)=false/\∃vs,KV kvs vs/\h.DictOf (aJ P w) a vs:=lX ok (.inl e)
theorem gh{d:List Key}(ok:HOk P w H h)(e:H a=some (.tup (d.map kV))):(tupleKind (aJ P w)).is h d a:=by
 obtain ⟨_,b,r,o,h1,f,n,g⟩:=(show ObjOk P w H h a (.tup (d.map kV)) from ok a _ e)
 exact ⟨o,b.toArray,n,h1,f,g,by simpa using mW r⟩
theorem lW{b:List (List Key×V)}(ok:HOk P w H h)(e:Rd H a (.dT b)):b.length<=sizeLine/\(a==sysModules)=false /\
  ∃xs,KT H b xs/\h.DictOfH (tupleKind (aJ P w)) a xs:=by
 obtain ⟨z,y,xs,r,o,d,f,h1,g,i,j,u⟩:=(show ObjOk P w H h a (.dT b) from zr ok e)
 refine ⟨z,y,xs,r,o,d,f,h1,g,i,j,λx hx=>?_,u⟩
 have all:∀{l:List (List Key×V)} {m:List (List Key×Addr×Value)},KT H l m->∀x∈m,(tupleKind (aJ P w)).is h x.1 x.2.1:=by
  intro l m q
  induction q with
  | nil=>intro x hx;exact nomatch hx
  | @cons p q ps qs hq t ih =>
   intro x hx
   rcases ϕ.mp hx with e | hx
   ·subst e
    exact gh ok (by rw [← hq.1];exact hq.2.1)
   ·exact ih x hx
 exact all r x hx
theorem qc{kvs:List (List Key×V)}(ok:HOk P w H h)(e:H a=some (.dT kvs)):kvs.length<=sizeLine/\(a==sysModules)=false /\
  ∃xs,KT H kvs xs/\h.DictOfH (tupleKind (aJ P w)) a xs:=lW ok (.inl e)
end
def DGet(H:Hp)(a:Addr)(y:V)(r:Option V):Prop :=
 (∃kvs k,Rd H a (.dK kvs)/\y=kV k/\r=bu kvs k)\/∃kvs k b,Rd H a (.dT kvs)/\y=.ref b/\H b=some (.tup (k.map kV))/\r=bu kvs k
def DPut(H:Hp)(a:Addr)(y v:V)(H':Hp):Prop :=
 (∃kvs k,H a=some (.dK kvs)/\y=kV k/\kvs.length<sizeLine/\H'=upd H a (.dK (ce kvs k v))) \/
 ∃kvs k b,H a=some (.dT kvs)/\y=.ref b/\H b=some (.tup (k.map kV))/\kvs.length<sizeLine/\H'=upd H a (.dT (ce kvs k v))
theorem DGet.k{H:Hp}{a:Addr}{kvs:List (Key×V)}{k:Key}(e:H a=some (.dK kvs)):DGet H a (kV k) (bu kvs k):=.inl ⟨kvs,k,.inl e,ϱ,ϱ⟩
theorem DGet.t{H:Hp}{a b:Addr}{kvs:List (List Key×V)}{k:List Key}(e:H a=some (.dT kvs))(eb:H b=some (.tup (k.map kV))):DGet H a (.ref b) (bu kvs k):=.inr ⟨kvs,k,b,.inl e,ϱ,eb,ϱ⟩
theorem DPut.k{H:Hp}{a:Addr}{kvs:List (Key×V)}{k:Key}{v:V}(e:H a=some (.dK kvs))(hl:kvs.length<sizeLine):DPut H a (kV k) v (upd H a (.dK (ce kvs k v))):=.inl ⟨kvs,k,e,ϱ,hl,ϱ⟩
theorem DPut.t{H:Hp}{a b:Addr}{kvs:List (List Key×V)}{k:List Key}{v:V}(e:H a=some (.dT kvs))(eb:H b=some (.tup (k.map kV)))(hl:kvs.length<sizeLine) :
  DPut H a (.ref b) v (upd H a (.dT (ce kvs k v))):=.inr ⟨kvs,k,b,e,ϱ,eb,hl,ϱ⟩
section
variable {X:Cx}{pins:List (Addr×Obj)}{σ:St}{H:Hp}{s:Shared}{a:Addr}{y v:V}{u r:Value}{o:Option V}{A:Around}{E:Value->Shared->Prop}
theorem Inv.big(I:Inv X pins σ H s):sysModules<s.heap.objs.size:=by
 have h:mainGlobals<s.heap.objs.size:=(I.mod.glob.keeps I.bk).lt
 exact Nat.lt_trans ζ h
theorem ug{Q:Value->Shared->Prop}(C:A.units+1<cLine)(I:Inv X pins σ H s)(g:DGet H a y (some v))(m:RelV y u)(h:∀w' s',Inv X pins σ H s'->RelV v w'->Q w' s') :
  wpAny (model X.prog X.w) A (getItem (.ref a) u) Q E s:=by
 rcases g with ⟨kvs,k,e,ey,l⟩ | ⟨kvs,k,b,e,ey,eb,l⟩
 ·subst ey
  obtain ⟨z,q,vs,d,dd⟩:=lX I.hok e
  obtain ⟨w',i,f⟩:=RelO.some_of (v:=v) (o:=valueAt vs k) (by rw [l];exact d.val k)
  exact wpAny_getItem_of (lP m) dd.mapOf i (h w' _ (I.tok _) f)
 ·subst ey
  cases (show u=Value.ref b from m)
  obtain ⟨z,q,r,d,dd⟩:=lW I.hok e
  obtain ⟨w',i,f⟩:=RelO.some_of (v:=v) (o:=(atKey r k).map (·.2)) (by rw [l];exact d.val k)
  obtain ⟨p,x,j⟩:=Option.map_eq_some_iff.mp i
  refine wpAny_getItem_heap (tupleKind_room_in1 C) (gh I.hok eb) dd x ?_
  rw [j]
  exact h w' _ (I.tok _) f
theorem Cn{Q:Value->Shared->Prop}(j:A.units+1<cLine)(I:Inv X pins σ H s)(g:DGet H a y o)(i:RelV y u)(h:∀s',Inv X pins σ H s'->Q (.bool o.isSome) s') :
  wpAny (model X.prog X.w) A (compareOp .In u (.ref a)) Q E s:=by
 rcases g with ⟨kvs,k,e,ey,l⟩ | ⟨kvs,k,b,e,ey,eb,l⟩
 ·subst ey
  obtain ⟨z,f,vs,d,dd⟩:=lX I.hok e
  refine wpAny_in_of (lP i) f dd.mapOf ?_
  rw [← (d.val k).isSome_eq,← l]
  exact h _ (I.tok _)
 ·subst ey
  cases (show u=Value.ref b from i)
  obtain ⟨z,f,m,d,dd⟩:=lW I.hok e
  refine wpAny_in_heap (tupleKind_room_in1 j) (gh I.hok eb) f dd ?_
  have q:=(d.val k).isSome_eq
  rw [Option.isSome_map] at q
  rw [← q,← l]
  exact h _ (I.tok _)
theorem za{Q:Value->Shared->Prop}(j:A.units+1<cLine)(I:Inv X pins σ H s)(g:DGet H a y o)(i:RelV y u)(h:∀s',Inv X pins σ H s'->Q (.bool (!o.isSome)) s') :
  wpAny (model X.prog X.w) A (compareOp .NotIn u (.ref a)) Q E s:=by
 rcases g with ⟨kvs,k,e,ey,l⟩ | ⟨kvs,k,b,e,ey,eb,l⟩
 ·subst ey
  obtain ⟨z,f,vs,d,dd⟩:=lX I.hok e
  refine wpAny_notIn_of (lP i) f dd.mapOf ?_
  rw [← (d.val k).isSome_eq,← l]
  exact h _ (I.tok _)
 ·subst ey
  cases (show u=Value.ref b from i)
  obtain ⟨z,f,m,d,dd⟩:=lW I.hok e
  refine wpAny_notIn_heap (tupleKind_room_in1 j) (gh I.hok eb) f dd ?_
  have q:=(d.val k).isSome_eq
  rw [Option.isSome_map] at q
  rw [← q,← l]
  exact h _ (I.tok _)
theorem jb{h':Heap}{t':Nat}{ob:HO}(I:Inv X pins σ H s)(mu:Mut (H a))(hs:Heap.SameBut a s.heap h')(he:∃q,h'.get? a=some q)(new:ObjOk X.prog X.w (upd H a ob) h' a ob) :
  Inv X pins σ (upd H a ob) {s with heap:=h',toks:=t'} :=
 I.write (x:=a) (e:=a) mu (.inl rfl) (λb q hb z=>(hs.2 b hb).trans z) he new
theorem rh{P:Program}{w:World}{H':Hp}{h':Heap}{kvs:List (Key×V)}{vs:List (Key×Value)}(z:kvs.length<=sizeLine)(hd:(a==sysModules)=false)(rel:KV kvs vs)(dd:h'.DictOf (aJ P w) a vs) :
  ObjOk P w H' h' a (.dK kvs):=⟨z,hd,vs,rel,dd⟩
theorem uf{H':Hp}{Q:Unit->Shared->Prop}(Z:A.units+1<cLine)(I:Inv X pins σ H s)(g:DPut H a y v H')(F:RelV y u)(G:RelV v r)(h:∀s',Inv X pins σ H' s'->Q () s') :
  wpAny (model X.prog X.w) A (setItem (.ref a) u r) Q E s:=by
 rcases g with ⟨kvs,k,e,ey,l,eH⟩ | ⟨kvs,k,b,e,ey,eb,l,eH⟩
 ·subst ey eH
  obtain ⟨z,j,vs,d,dd⟩:=sK I.hok e
  have m:vs.length<=sizeLine:=by rw [← d.length];exact z
  have o:(ce kvs k v).length<=sizeLine:=by have:=eO kvs k v;omega
  refine wpAny_setItem_pairs (hsz:=m) (lP F) dd λC f x=>h _ ?_
  have Y:∃q,C.get? a=some q:=let ⟨q,_,_,i,_⟩:=f;⟨q,i⟩
  exact jb I (by rw [e];exact ϰ) x Y (rh o j (d.put k G) f)
 ·subst ey eH
  cases (show u=Value.ref b from F)
  obtain ⟨z,j,J,d,dd⟩:=qc I.hok e
  have m:J.length<=sizeLine:=by rw [← Paired.length d];exact z
  have o:(ce kvs k v).length<=sizeLine:=by have:=eO kvs k v;omega
  refine wpAny_setItem_heap (hsz:=m) (tupleKind_room_in1 Z) (gh I.hok eb) dd λC f x=>h _ ?_
  obtain ⟨q,K,L,i,O,P,U,_,W⟩:=f
  refine jb I (by rw [e];exact ϰ) x ⟨q,i⟩ ⟨o,j,_,(d.put k eb G).keeps λc ys D=>?_,q,K,L,i,O,P,U,W⟩
  rw [am (gs D e (λz=>nomatch z))]
  exact D
end
def zf(i:Expr):Prop:=∀ov iv,subscripted i false ov iv=operate [ov,iv] (getItem ov iv)
theorem rO{prog:Program}{w:World}{A:Around}{E:Value->Shared->Prop}{s:Shared}{env:Env}{d b:Expr}{pos:Pos}{T id:String}{Q:Value->Shared->Prop}
  (q:typeLookup (.type T) "__getitem__"=pure (some (.builtin id)))(u:zf b)
  (h:wpAny (model prog w) A (eval d env) (λo s₁=>wpAny (model prog w) A (eval b env) (λi s₂=>s₂.TypeIs o T/\wpAny (model prog w) A (getItem o i) Q E s₂) E s₁) E s) :
  wpAny (model prog w) A (eval (.Subscript d b pos) env) Q E s:=by
 refine Subscript_ (wpAny_mono h (λo s₁ l=>wpAny_mono l (λi s₂ f=>?_) λ_ _ x=>x) λ_ _ x=>x)
 obtain ⟨g,f⟩:=f
 unfold subscriptTail
 refine ε ?_
 rw [getitemInPython_of_ne g.not_modules]
 refine ε (wpAny_specialOf g q ?_)
 have e:wpAny (model prog w) A (subscripted b false o i) (λr j=>wpAny (model prog w) A (letTemporaryGo d o r >>= λ_=>pure r) Q E j) E s₂:=by
  rw [u o i]
  exact wpAny_operating (wpAny_mono f (λr j m=>ε (wpAny_letTemporaryGo (π m))) λ_ _ x=>x)
 first
  | exact π (ε e)
  | exact ε (π (ε e))
  | exact ε e
theorem qd{X:Cx}{d:List (Addr×Obj)}{σ:St}{H:Hp}{s:Shared}{a:Addr}{y:V}{o:Option V}(I:Inv X d σ H s)(g:DGet H a y o):s.TypeIs (.ref a) "dict":=by
 rcases g with ⟨kvs,k,e,_,_⟩ | ⟨kvs,k,b,e,_,_,_⟩
 ·obtain ⟨_,_,vs,_,dd⟩:=lX I.hok e
  exact dd.typeIs
 ·obtain ⟨_,_,f,_,dd⟩:=lW I.hok e
  exact dd.typeIs
inductive XDG (Q:VK) (x y:V) (H:Hp):Prop|mk a v:x=.ref a->DGet H a y (some v)->Q v H->XDG Q x y H
def Bt(td ty:TE):TE:=fun σ H Q=>td σ H λx H1=>ty σ H1 λy H2=>XDG Q x y H2
def Ca(ty td:TE):TE:=fun σ H Q=>ty σ H λy H1=>td σ H1 λx H2=>∃a o,x=.ref a/\DGet H2 a y o/\Q (.bl o.isSome) H2
def xI(ty td:TE):TE:=fun σ H Q=>ty σ H λy H1=>td σ H1 λx H2=>∃a o,x=.ref a/\DGet H2 a y o/\Q (.bl (!o.isSome)) H2
def BF(td ty tv:TE):TS:=λD σ H=>tv σ H λv H1=>td σ H1 λx H2=>ty σ H2 λy H3=>∃a H4,x=.ref a/\DPut H3 a y v H4/\D.nx σ H4
section
variable {X:Cx}{o i e value:Expr}{pos pos' tpos:Pos}{td ty tv:TE}
theorem fV(w:X.A.units+1<cLine)(z:PE X o td)(C:PE X i ty)(D:zf i):PE X (.Subscript o i pos) (Bt td ty):=by
 intro b s σ H Q I h
 refine rO PySem.F.slot_dict_getitem.lookup D (thn (z b s σ H _ I h) λu f ⟨x,H1,j,l,q1⟩=>thn (C b f σ H1 _ j q1) λG J ⟨y,m,e,q,a,v,ex,g,q2⟩=>?_)
 subst ex
 obtain rfl:u=Value.ref a:=l
 exact ⟨qd e g,ug w e g q λK L r d=>⟨v,m,r,d,q2⟩⟩
theorem oK(w:X.A.units+1<cLine)(z:PE X i ty)(C:PE X o td):PC X .In i o (Ca ty td):=by
 intro b s σ H Q I h
 refine thn (z b s σ H _ I h) λD d ⟨y,H1,e,f,q1⟩=>thn (C b d σ H1 _ e q1) λu F ⟨x,j,l,m,a,q,ex,g,q2⟩=>?_
 subst ex
 obtain rfl:u=Value.ref a:=m
 exact Cn w l g f λG r=>⟨.bl q.isSome,j,r,ϱ,q2⟩
theorem hX(w:X.A.units+1<cLine)(z:PE X i ty)(C:PE X o td):PC X .NotIn i o (xI ty td):=by
 intro b s σ H Q I h
 refine thn (z b s σ H _ I h) λD d ⟨y,H1,e,f,q1⟩=>thn (C b d σ H1 _ e q1) λu F ⟨x,j,l,m,a,q,ex,g,q2⟩=>?_
 subst ex
 obtain rfl:u=Value.ref a:=m
 exact za w l g f λG r=>⟨.bl (!q.isSome),j,r,ϱ,q2⟩
theorem fU(G:X.A.units+1<cLine)(J:PE X o td)(K:PE X i ty)(L:PE X value tv)(O:swapsWith value (some (.Subscript o i pos')) pos.line X.env=pure false) :
  PS X (.Assign [.Subscript o i pos'] value pos) (BF td ty tv):=by
 intro b s σ H D I h
 refine wpAny_Assign_Subscript (thn (L b s σ H _ I h) λr d ⟨v,H1,e,f,q1⟩=>thn (J b d σ H1 _ e q1) λu j ⟨x,l,m,q,q2⟩=>thn (K b j σ l _ m q2) λP Q ⟨y,U,w,z,a,C,ex,g,q3⟩=>?_) O
 subst ex
 obtain rfl:u=Value.ref a:=q
 exact uf G w g z f λW F=>⟨σ,C,F,q3⟩
end
theorem wY{P:Program}{w:World}{H:Hp}(h:Heap)(hb:sysModules<h.objs.size):ObjOk P w H (h.push {cls:=.type "dict",data:=.dict #[]}) h.objs.size (.dK []) :=
 ⟨ϖ _,beq_eq_false_iff_ne.mpr (Ne.symm (Φ hb)),[],.nil,Heap.DictOf.new h⟩
theorem wV{P:Program}{w:World}{H:Hp}(h:Heap)(hb:sysModules<h.objs.size):ObjOk P w H (h.push {cls:=.type "dict",data:=.dict #[]}) h.objs.size (.dT []) :=
 ⟨ϖ _,beq_eq_false_iff_ne.mpr (Ne.symm (Φ hb)),[],.nil,_,#[],0,ψ _ rfl,⟨ϱ,ϱ,ϱ⟩,ϱ,ϱ,List.nodup_nil⟩
def zS:TE:=λ_ H Q=>∀p,H p=none->Q (.ref p) (upd H p (.dK []))
def zR:TE:=λ_ H Q=>∀p,H p=none->Q (.ref p) (upd H p (.dT []))
section
variable {X:Cx}{pos:Pos}
theorem gR:PE X (.Dict [] [] pos) zS:=λpins s σ H Q I h =>
 wpAny_Dict_empty ⟨.ref s.heap.objs.size,_,I.laid (a:=s.heap.objs.size) (o:=.dK []) (t':=s.toks) (λ_ _ q=>ρ _ q) (ι _) (wY s.heap I.big),ϱ,h _ (I.hok.fresh (ι _))⟩
theorem cZ:PE X (.Dict [] [] pos) zR:=λpins s σ H Q I h =>
 wpAny_Dict_empty ⟨.ref s.heap.objs.size,_,I.laid (a:=s.heap.objs.size) (o:=.dT []) (t':=s.toks) (λ_ _ q=>ρ _ q) (ι _) (wV s.heap I.big),ϱ,h _ (I.hok.fresh (ι _))⟩
end
def aF(kvs more:List (Key×V)):List (Key×V):=more.foldl (λacc kv=>ce acc kv.1 kv.2) kvs
theorem KV.merge:∀{b:List (Key×V)} {f:List (Key×Value)} {d:List (Key×V)} {vs:List (Key×Value)},KV b f->KV d vs->KV (aF d b) (merged vs f):=by
 intro b f d vs r
 unfold KV at r
 induction r generalizing d vs with
 | nil=>intro q;exact q
 | @cons p q ps qs h t ih =>
  intro g
  have e:KV (ce d p.1 p.2) (stored vs q.1 q.2):=by
   have:=g.put p.1 h.2
   rw [← h.1];exact this
  exact ih e
theorem cW:∀(more kvs:List (Key×V)),(aF kvs more).length<=kvs.length+more.length
 | [],kvs=>by show kvs.length<=kvs.length+0;omega
 | p::r,kvs=>by
  have h1:=cW r (ce kvs p.1 p.2)
  have h2:=eO kvs p.1 p.2
  show (aF (ce kvs p.1 p.2) r).length<=_
  rw [List.length_cons];omega
structure M1(X:Cx)(o:Expr)(m:Str)(apos:Pos)(e:Expr)(cpos:Pos):Prop where
 base:attributeBase o m X.env (eval o X.env)=eval o X.env
 few:((backTo cpos (starEach [e] X.env)).all (λx=>!x.1)&&(backToKw cpos (keywordEach [] X.env)).all (λx=>x.1.isSome)
  && decide (([e]:List Expr).length+([]:List Keyword).length+(if ([]:List Keyword).isEmpty then 0 else 1)<30))=true
 line:(apos.endLine==cpos.line)=true
 trees:backTo cpos (starEach [e] X.env)=[(false,eval e X.env)]
structure M2(X:Cx)(o:Expr)(m:Str)(apos:Pos)(e f:Expr)(cpos:Pos):Prop where
 base:attributeBase o m X.env (eval o X.env)=eval o X.env
 few:((backTo cpos (starEach [e,f] X.env)).all (λx=>!x.1)&&(backToKw cpos (keywordEach [] X.env)).all (λx=>x.1.isSome)
  && decide (([e,f]:List Expr).length+([]:List Keyword).length+(if ([]:List Keyword).isEmpty then 0 else 1)<30))=true
 line:(apos.endLine==cpos.line)=true
 trees:backTo cpos (starEach [e,f] X.env)=[(false,eval e X.env),(false,eval f X.env)]
def IsD(H:Hp)(a:Addr):Prop:=(∃kvs,Rd H a (.dK kvs))\/∃kvs,Rd H a (.dT kvs)
theorem iD{X:Cx}{f:List (Addr×Obj)}{σ:St}{H:Hp}{s:Shared}{a:Addr}(I:Inv X f σ H s)(d:IsD H a) :
  s.TypeIs (.ref a) "dict"/\(∀b,Value.ref a=.ref b->∃ob,s.heap.get? b=some ob/\ob.dict=none)/\(a==sysModules)=false:=by
 rcases d with ⟨kvs,e⟩ | ⟨kvs,e⟩
 ·obtain ⟨_,g,vs,_,dd⟩:=lX I.hok e
  refine ⟨dd.typeIs,λb q=>?_,g⟩
  cases q
  obtain ⟨ob,_,_,h1,h,_⟩:=dd
  exact ⟨ob,h1,h.2.1⟩
 ·obtain ⟨_,g,i,_,dd⟩:=lW I.hok e
  refine ⟨dd.typeIs,λb q=>?_,g⟩
  cases q
  obtain ⟨ob,_,_,h1,h,_⟩:=dd
  exact ⟨ob,h1,h.2.1⟩
section
variable {X:Cx}{pins:List (Addr×Obj)}{σ:St}{H:Hp}{s:Shared}{a:Addr}{y d:V}{u r:Value}{o:Option V}{A:Around}{E:Value->Shared->Prop}
theorem A1{Q:Value->Shared->Prop}(x:A.units+1<cLine)(I:Inv X pins σ H s)(g:DGet H a y o)(j:RelV y u)(m:RelV d r)(h:∀w' s',Inv X pins σ H s'->RelV (o.getD d) w'->Q w' s') :
  wpAny (model X.prog X.w) A (call (.builtin "dict.get") [.ref a,u,r]) Q E s:=by
 rcases g with ⟨kvs,k,e,ey,l⟩ | ⟨kvs,k,b,e,ey,eb,l⟩
 ·subst ey
  obtain ⟨z,i,vs,f,dd⟩:=lX I.hok e
  refine call_meetsIn PySem.F.slot_dict_get dd.typeIs PySem.F.entry_dict_get (PySem.F.args_dict_get_3 _ _ _) (meets_dict_get_default (aJ X.prog X.w) a (lP j) i r) ⟨_,dd.mapOf,h _ _ (I.tok _) ?_⟩
  rw [l]
  exact (f.val k).getD m
 ·subst ey
  cases (show u=Value.ref b from j)
  obtain ⟨z,i,q,f,dd⟩:=lW I.hok e
  refine call_meetsIn PySem.F.slot_dict_get dd.typeIs PySem.F.entry_dict_get (PySem.F.args_dict_get_3 _ _ _) (meetsH_dict_get_default (tupleKind (aJ X.prog X.w)) a b i r) ⟨tupleKind_room_in1 x,k,q,gh I.hok eb,dd,h _ _ (I.tok _) ?_⟩
  rw [l]
  exact (f.val k).getD m
end
def zT(td ty tx:TE):TE:=fun σ H Q=>td σ H λx H1=>∃a,x=.ref a/\IsD H1 a/\ty σ H1 λy H2=>tx σ H2 λz H3=>∃o,DGet H3 a y o/\Q (o.getD z) H3
section
variable {X:Cx}{o e f:Expr}{apos cpos:Pos}{td ty tx:TE}
theorem lE(U:X.A.units+1<cLine)(W:PE X o td)(Y:PE X e ty)(hf:PE X f tx)(m:M2 X o "get" apos e f cpos):PE X (.Call (.Attribute o "get" apos) [e,f] [] cpos) (zT td ty tx):=by
 intro b s σ H Q I h
 refine wpAny_Call_method m.base m.few m.line PySem.F.plainAttrs_dict PySem.F.slot_dict_get PySem.F.type_dict_get (thn (W b s σ H _ I h) λu r ⟨x,H1,j,w,a,ex,d,q1⟩=>?_)
 subst ex
 obtain rfl:u=Value.ref a:=w
 obtain ⟨l,q,_⟩:=iD j d
 refine ⟨l,q,?_⟩
 rw [m.trees]
 refine Calls.callWith_builtin rfl (Calls.evalArgs_plain (Calls.spliced_cons (thn (Y b r σ H1 _ j q1) λZ C ⟨y,D,G,J,q2⟩ =>
  Calls.spliced_cons (thn (hf b C σ D _ G q2) λfv s3 ⟨z,K,L,O,ov,g,q3⟩=>Calls.spliced_nil ?_))))
 exact A1 U L g J O λw' s4 P i=>⟨_,K,P,i,q3⟩
end
end L2
namespace Lo
open PySem L2
def sPa(_:Frag)(H:Hp)(x:Pa)(v:V):Prop:=∃a,v=.ref a/\H a=some (.tup [.int x.1,.int x.2])
theorem sPa.c{K:Frag}{H:Hp}{x:Pa}{v:V}(h:sPa K H x v):cPa.rp K H x v:=by
 obtain ⟨a,rfl,e⟩:=h
 exact ⟨a,_,_,ϱ,.inl e,ϱ,ϱ⟩
theorem sPa.keep{K:Frag}{H H':Hp}{x:Pa}{v:V}(e:TSame H H')(h:sPa K H x v):sPa K H' x v:=by
 obtain ⟨a,rfl,q⟩:=h
 exact ⟨a,ϱ,e _ _ q⟩
def pk(x:Pa):List Key:=[.inl x.1,.inl x.2]
theorem Ag{x y:Pa}(h:pk x=pk y):x=y:=by
 unfold pk at h
 simp only [List.cons.injEq,Sum.inl.injEq,and_true] at h
 exact Prod.ext h.1 h.2
end Lo
namespace L2
open PySem
variable {prog:Program}{w:World}{A:Around}{E:Value->Shared->Prop}{s:Shared}
section
variable {κ:Type} [DecidableEq κ] {knd:HeapKind prog w κ}{d a:Addr}
theorem ij{xs:List (κ×Addr×Value)}{k:κ}{v:Value}{Q:Value->Shared->Prop}(z:knd.room A)(b:knd.is s.heap k a)(H:s.heap.DictOfH knd d xs)
  (h1:∀p,atKey xs k=some p->Q p.2 {s with toks:=s.toks+knd.draws k})
  (I:atKey xs k=none->∀h',h'.DictOfH knd d (xs++[(k,a,v)])->Heap.SameBut d s.heap h'->Q v {s with heap:=h',toks:=s.toks+knd.draws k})(hsz:xs.length<=sizeLine) :
  wpAny (model prog w) A (dictSetDefault d (.ref a) v) Q E s:=by
 obtain ⟨o,J,C,g,D,f,l,h,m⟩:=H
 unfold dictSetDefault
 try with_reducible refine wpAny_holding ?_
 refine ε (knd.pyHash z b ?_)
 refine ε (wpAny_dictFind_heap (s:={s with toks:=s.toks+knd.draws k}) z b g f l h m (λi=>?_) (λj p u=>?_))
 ·have e0:=atKey_none_of_get i
  have F:k∉xs.map (·.1):=not_mem_keys_of_get i
  refine ε (wpAny_rule (ε (wpAny_updateDictKeys (hz:=by have e:=size_of_entries l;omega) (s:={s with toks:=s.toks+knd.draws k}) g f (π (I e0 _ ⟨_,_,C+1,Heap.get?_update_self _ g (Obj.isFreed_of_dict (Obj.data_mapDictKeys f _)),
   D.mapDictKeys _,Obj.data_mapDictKeys f _,?_,λx hx=>?_,?_⟩ (Heap.SameBut.update ..))))))
  ·simp [l,entryOfKey]
  ·rcases List.mem_append.mp hx with hx | hx
   ·exact knd.keeps (h x hx) g f (Heap.SameBut.update ..)
   ·have q:=ϵ.mp hx
    subst q
    exact knd.keeps b g f (Heap.SameBut.update ..)
  ·rw [List.map_append,List.nodup_append]
   refine ⟨m,by simp,λx hx y G q=>?_⟩
   have r:y=k:=by simpa using G
   exact F (r▸q▸hx)
 ·refine ε (wpAny_dictEntries (s:={s with toks:=s.toks+knd.draws k}) g f ?_)
  rw [entry_at l j,u]
  exact ε (wpAny_rule (π (h1 p (atKey_of_get m u))))
theorem iY(knd:HeapKind prog w κ)(d a:Addr)(hd:(d==sysModules)=false)(v:Value) :
  MeetsIn prog w (Builtin.«dict.setdefault» ⟨[.ref d, .ref a, v], []⟩) (fun A R s => knd.room A.in1 ∧ ∃ k xs, knd.is s.heap k a ∧ s.heap.DictOfH knd d xs ∧ xs.length ≤ sizeLine ∧
   (∀p,atKey xs k=some p->R (.ok (.ret p.2)) {s with toks:=s.toks+knd.draws k}) /\
   (atKey xs k=none->∀h',h'.DictOfH knd d (xs++[(k,a,v)])->Heap.SameBut d s.heap h'->R (.ok (.ret v)) {s with heap:=h',toks:=s.toks+knd.draws k})) :=
 .of_wp λA R s ⟨hu,k,xs,hkey,hm,hz,h1,h2⟩=>by
  unfold Builtin.«dict.setdefault»
  refine ε ?_
  unfold Builtin.Dict.keyAndDefault
  refine ε (wpAny_notOrdered_dict hm.typeIs ?_)
  show wpAny _ _ (pure (d,Value.ref a,some v)) _ _ s
  refine π ?_
  show wpAny _ _ (if (d==sysModules)=true then _ else (dictSetDefault d (.ref a) v >>= λ_=>_)) _ _ s
  have hne:¬((d==sysModules)=true):=by rw [hd];decide
  rw [if_neg hne]
  exact ε (ij hu hkey hm (λp hp=>π ⟨_,ϱ,h1 p hp⟩) (λe0 h' hm' hs'=>π ⟨_,ϱ,h2 e0 h' hm' hs'⟩) hz)
end
end L2
namespace L2
open PySem PySem.Spec PyProof.Rows
def Bu(td ty tx:TE):TE:=fun σ H Q=>td σ H λx H1=>∃a,x=.ref a/\IsD H1 a/\ty σ H1 λy H2=>tx σ H2 λz H3=>∃kvs k b,H3 a=some (.dT kvs)/\y=.ref b/\H3 b=some (.tup (k.map kV))/\kvs.length<sizeLine /\
 (∀v,bu kvs k=some v->Q v H3)/\(bu kvs k=none->Q z (upd H3 a (.dT (kvs++[(k,z)]))))
section
variable {X:Cx}{o e f i value:Expr}{apos cpos pos pos':Pos}{td ty tx tv:TE}
theorem sj(hu:X.A.units+1<cLine)(ho:PE X o td)(he:PE X e ty)(hf:PE X f tx)(m:M2 X o "setdefault" apos e f cpos):PE X (.Call (.Attribute o "setdefault" apos) [e,f] [] cpos) (Bu td ty tx):=by
 intro g s σ H Q I h
 refine wpAny_Call_method m.base m.few m.line PySem.F.plainAttrs_dict PySem.F.slot_dict_setdefault PySem.F.type_dict_setdefault (thn (ho g s σ H _ I h) λu s1 ⟨x,H1,U,rx,a,ex,d,q1⟩=>?_)
 subst ex
 obtain rfl:u=Value.ref a:=rx
 obtain ⟨t1,t2,_⟩:=iD U d
 refine ⟨t1,t2,?_⟩
 rw [m.trees]
 refine Calls.callWith_builtin rfl (Calls.evalArgs_plain (Calls.spliced_cons (thn (he g s1 σ H1 _ U q1) λiv s2 ⟨y,H2,I2,ry,q2⟩ =>
  Calls.spliced_cons (thn (hf g s2 σ H2 _ I2 q2) λW s3 ⟨z,Y,D,Z,r,k,b,K,ey,eb,hl,q3,q4⟩=>Calls.spliced_nil ?_))))
 subst ey
 obtain rfl:iv=Value.ref b:=ry
 obtain ⟨hz,O,G,i,dd⟩:=qc D.hok K
 have J:G.length<=sizeLine:=by rw [← Paired.length i];exact hz
 refine call_meetsIn PySem.F.slot_dict_setdefault dd.typeIs PySem.F.entry_dict_setdefault (PySem.F.args_dict_setdefault_3 _ _ _) (iY (tupleKind (aJ X.prog X.w)) a b O W) ⟨tupleKind_room_in1 hu,k,G,gh D.hok eb,dd,J,λp hp=>?_,λhn h' L hs=>?_⟩
 ·have j:=i.val k
  rw [hp] at j
  cases l:bu r k with
  | none=>rw [l] at j;exact (show False from j).elim
  | some v =>
   rw [l] at j
   exact ⟨v,Y,D.tok _,j,q3 v l⟩
 ·have j:=i.val k
  rw [hn] at j
  have l:bu r k=none:=by
   cases l:bu r k with
   | none=>rfl
   | some v=>rw [l] at j;exact (show False from j).elim
  refine ⟨z,_,?_,Z,q4 l⟩
  obtain ⟨q,es,ep,P,h2,h3,h4,_,h5⟩:=L
  have C:KT Y (r++[(k,z)]) (G++[(k,b,W)]):=Paired.snoc i ⟨ϱ,eb,Z⟩
  refine jb D (by rw [K];exact ϰ) hs ⟨q,P⟩ ⟨by rw [List.length_append];exact hl,O,_,C.keeps λc ys ec=>?_,q,es,ep,P,h2,h3,h4,h5⟩
  rw [am (gs ec K (λz=>nomatch z))]
  exact ec
end
end L2
namespace Lo
open PySem L2
def dW(ps:List Pa):List (List Key×V):=ps.map λp=>(pk p,V.bl true)
def dE(es:List (Pa×Str)):List (List Key×V):=es.map λx=>(pk x.1,V.str x.2)
theorem xx{α:Type}(xs:List α)(k:α->Pa)(f:α->V)(p:Pa):bu (xs.map λx=>(pk (k x),f x)) (pk p)=(xs.find? λx=>decide (k x=p)).map f:=by
 induction xs with
 | nil=>rfl
 | cons x r ih =>
  rw [List.map_cons]
  by_cases h:k x=p
  ·rw [br (by rw [h]),List.find?_cons,τ h]
   rfl
  ·rw [bQ (λz=>h (Ag z)),ih,List.find?_cons,Γ h]
def A8(ps:List Pa)(p:Pa):List Pa:=if p∈ps then ps else ps++[p]
theorem wO(ps:List Pa)(p:Pa):(ps.find? λx=>decide (x=p))=if p∈ps then some p else none:=by
 by_cases h:p∈ps
 ·rw [if_pos h]
  cases e:ps.find? λx=>decide (x=p) with
  | none=>exact absurd (τ rfl) (List.find?_eq_none.mp e p h)
  | some y =>
   have:y=p:=by simpa using List.find?_some e
   rw [this]
 ·rw [if_neg h,List.find?_eq_none]
  intro x b c
  exact h ((Ξ c)▸b)
theorem uw(ps:List Pa)(p:Pa):bu (dW ps) (pk p)=if p∈ps then some (.bl true) else none:=by
 unfold dW
 rw [xx ps (λp=>p) (λ_=>V.bl true) p,wO]
 split<;>rfl
theorem Ae(ps:List Pa)(p:Pa):ce (dW ps) (pk p) (.bl true)=dW (A8 ps p):=by
 unfold A8
 by_cases h:p∈ps
 ·rw [if_pos h]
  unfold ce
  rw [fm,uw,if_pos h,if_pos (show (some (V.bl true)).isSome=true from rfl)]
  unfold dW
  rw [List.map_map]
  refine List.map_congr_left λx _=>?_
  show (if pk x=pk p then (pk x,V.bl true) else (pk x,V.bl true))=_
  rw [ite_self]
 ·rw [if_neg h,pJ _ (by rw [uw,if_neg h])]
  unfold dW
  rw [List.map_append]
  rfl
def apply(cs:List Int)(ch:List Pa):List Int:=ch.foldl (λcs c=>cs.set c.1.toNat c.2) cs
theorem nD(ch:List Pa):∀cs:List Int,(apply cs ch).length=cs.length:=by
 induction ch with
 | nil=>intro cs;rfl
 | cons c r ih =>
  intro cs
  show (apply (cs.set c.1.toNat c.2) r).length=cs.length
  rw [ih,List.length_set]
theorem mi(cs:List Int)(ch:List Pa)(c:Pa):apply cs (ch++[c])=(apply cs ch).set c.1.toNat c.2:=by
 unfold apply
 rw [List.foldl_append]
 rfl
structure Ad where
 (l dx cl bg wk rd en wa ov:Addr)
def sf(A:Ad):List (Str×V):=ay "overs" (.ref A.ov) (ay "walks" (.ref A.wa) (ay "ends" (.ref A.en) (ay "readies" (.ref A.rd) (ay "worked" (.ref A.wk) (ay "begins" (.ref A.bg) (ay "cells" (.ref A.cl) []))))))
theorem u5(A:Ad):(sf A).lookup ("ends":Str)=some (.ref A.en):=by
 unfold sf
 rw [al,if_neg θ,al,if_neg θ,al,if_pos rfl]
theorem pE(A:Ad):(sf A).lookup ("readies":Str)=some (.ref A.rd):=by
 unfold sf
 rw [al,if_neg θ,al,if_neg θ,al,if_neg θ,al,if_pos rfl]
theorem BC(A:Ad):(sf A).lookup ("worked":Str)=some (.ref A.wk):=by
 unfold sf
 rw [al,if_neg θ,al,if_neg θ,al,if_neg θ,al,if_neg θ,al,if_pos rfl]
theorem rX(A:Ad):(sf A).lookup ("cells":Str)=some (.ref A.cl):=by
 unfold sf
 rw [al,if_neg θ,al,if_neg θ,al,if_neg θ,al,if_neg θ,al,if_neg θ,al,if_neg θ,al,if_pos rfl]
theorem iN{A:Ad}{m:Str}(h:decide (m∈(["overs","walks","ends","readies","worked","begins","cells"]:List Str))=false):(sf A).lookup m=none:=by
 have b:m∉(["overs","walks","ends","readies","worked","begins","cells"]:List Str):=of_decide_eq_false h
 simp only [List.mem_cons,List.not_mem_nil,or_false,not_or] at b
 obtain ⟨h1,d,e,f,g,i,j⟩:=b
 unfold sf
 rw [al,if_neg h1,al,if_neg d,al,if_neg e,al,if_neg f,al,if_neg g,al,if_neg i,al,if_neg j]
 rfl
structure TxD(K:Frag)(CS:Addr):Prop where
 cl:Cls K CS
 nc:NoAttr K CS "cells"
 nb:NoAttr K CS "begins"
 nw:NoAttr K CS "worked"
 nr:NoAttr K CS "readies"
 ne:NoAttr K CS "ends"
 na:NoAttr K CS "walks"
 no:NoAttr K CS "overs"
theorem sF{K:Frag}{H:Hp}:∀xs:List Int,Paired (cInt.rp K H) xs (xs.map V.int)
 | []=>.nil
 | _::xs=>.cons rfl (sF xs)
theorem kI{K:Frag}{H:Hp}{p:Addr}{xs:List Int}(h:H p=some (.lst (xs.map V.int))):xr cInt K H xs (.ref p):=⟨p,_,ϱ,SqL.of h,sF xs⟩
theorem bj{f:Str}{v:V}{fs:List (Str×V)}{n:Nat}(h:fs.length<n):(ay f v fs).length<n+1:=by
 have:=c9 f v fs
 omega
theorem cu{k:Nat}{A:Around}(hr:Room k A):A.units+1<cLine:=hun (c:=0) hr
theorem wG{n:Nat}{i:Int}(h0:0<=i)(h1:i<n):ixN n i=some i.toNat:=by
 unfold ixN
 rw [if_pos h0,if_pos h1]
theorem at0{x:V}{us:List V}:atI (x::us) (0:Int)=some x:=bb (j:=0) rfl
theorem at1{x y:V}{us:List V}:atI (x::y::us) (1:Int)=some y:=bb (j:=1) rfl
theorem at2{x y z:V}{us:List V}:atI (x::y::z::us) (2:Int)=some z:=bb (j:=2) rfl
end Lo
namespace L2
open PySem PySem.Spec PyProof.Rows
set_option maxHeartbeats 1600000 in
theorem pL{X:Cx}{iy:Nat}{y:Str}{py ar:Pos}{Z D:Expr}{x:Str}{px:Pos}{a0:List Expr}{scope:Scope}{pos:Pos}{K:List Str}{fv:List Nat}{wi:TI}{tt:TT}{te:TE}
  (S:aQ X.N X.env.scope scope x K fv)(hc:X.calm=true)(hi:PI X (.Name x px) D wi)
  (ht:∀C fp s H,PTs (X.blk K scope C fp s H) a0 tt)(he:∀C fp s H,PE (X.blk K scope C fp s H) Z te)
  (hN:X.N.Nodup)(dA:X.N[iy]?=some y)(dB:Loc X.env.scope y)(dC:swapsWith (.ListComp Z [⟨.Name x px,D,a0,0⟩] scope pos) (some (.Name y py)) ar.line X.env=pure true:=by rfl)
  (hs:∀x,foldedSetIterable D X.env x=pure x:=by intro _;rfl)(hf:X.fn y=true\/X.env.scope.names.lookup y=some .local:=by first | exact .inl rfl | exact .inr rfl | assumption) :
  PS X (.Assign [.Name y py] (.ListComp Z [⟨.Name x px,D,a0,0⟩] scope pos) ar) (xJ (tLC wi fv tt te) (sG iy)):=by
 intro O s σ H DE I h
 rw [exec_Assign_Name_used _ _ _ _ dC]
 refine ε (wpAny_standAt (ε ?_))
 show wpAny _ X.A (do let _ ← comprehension (.ListComp Z [⟨.Name x px,D,a0,0⟩] scope pos) scope X.env _ (newList []) false (eval D X.env) (some (assign (.Name y py) X.env))) _ _ s
 refine ε (wpAny_mono (wpAny_comprehension_free (use:=some (assign (.Name y py) X.env)) (Q:=λ_ s'=>SP X O DE .next s') rfl hs (gw λy hy hk=>I.ok.has y.1 (S.free y hy hk)) S.kind S.names
  (wpAny_mono (hi O s σ H _ I h) (λxv s1 h1=>wpAny_mono h1 (λeu g h2=>?_) λ_ _ e=>e) λ_ _ e=>e)) (λ_ s' hq=>π (π hq)) λ_ _ e=>e)
 obtain ⟨it,fp,tn,J,F,rfl,U,T,as,f2,W,n,w0,hn,bm⟩:=h2
 refine wpAny_newObj_type (wpAny_newFunctionEnv S.nocell (by intro y hy;simp at hy) (λh1 aZ b0=>?_) S.kind)
 dsimp only at aZ b0 ⊢
 generalize hH:g.heap.push {cls:=.type "list",dict:=none,data:=.seq ([]:List Value).toArray}=G at aZ b0 ⊢
 have hG:G.objs.size=g.heap.objs.size+1:=by rw [← hH,Heap.size_push]
 have cF:∀b o,g.heap.get? b=some o->G.get? b=some o:=λb o e=>hH▸ρ _ e
 have bt:∀b o,b<G.objs.size->G.get? b=some o->h1.get? b=some o:=λb o lt e=>b0.extBut b o (Φ lt) (ρ _ e)
 have kp:∀b o,g.heap.get? b=some o->h1.get? b=some o:=λb o e=>bt b o (by rw [hG];exact Nat.lt_succ_of_lt (η e)) (cF b o e)
 have hD:h1.PlainList g.heap.objs.size #[]:=⟨_,bt _ _ (by rw [hG];exact Nat.lt_succ_self _) (hH▸ψ _ rfl)⟩
 have a1:g.heap.objs.size≠G.objs.size:=by rw [hG];exact Φ (Nat.lt_succ_self _)
 have hC:g.heap.objs.size<=G.objs.size:=by rw [hG];exact Nat.le_succ _
 have av:∀b∈fp,b<g.heap.objs.size:=λb l=>by obtain ⟨o,e,_⟩:=T.obj 0 _ as b l;exact η e
 have Y:∀{H':Hp} {pl:List (Addr×Obj)},(∀b∈fp,H' b=none)->(∀p∈pl,p.1∉fp)->∀b∈fp,pi (X.blk K scope G.objs.size fp g F) pl H' b:=λ{H' pl} hn hpl b l=>by
  obtain ⟨_,g1,g2,g3,g4,g5⟩:=f2 b l
  refine ⟨hn b l,Φ (Nat.lt_of_lt_of_le (av b l) hC),λz=>?_,.inl l,λy c e=>g4 y c (bO e),λp P e=>?_⟩
  ·rcases ϕ.mp (U.stkSub b z) with q | q
   ·exact g1 q
   ·exact g2 q
  ·exact hpl p P (e▸l)
 have bB:g.heap.objs.size∉fp:=λz=>absurd (av _ z) (Nat.lt_irrefl _)
 have bC:(X.blk K scope G.objs.size fp g F).env.scope.names.lookup x=some .local:=lookup_relabel_local S.loc
 have d0:∀y c,(X.blk K scope G.objs.size fp g F).env.cells.lookup y=some c->c≠g.heap.objs.size:=λy c e z=>by
  obtain ⟨v,q⟩:=U.cell y c (bO e)
  exact absurd q.lt (by rw [z];exact Nat.lt_irrefl _)
 have bG:∀{s':Shared} {H':Hp} {ob:Obj} {i:Nat} {ys:List V},Inv (X.blk K scope G.objs.size fp g F) [] (none::be fv σ) H' s'->s'.heap.get? g.heap.objs.size=some ob->(∀v,ob.data≠.cell v)->H' g.heap.objs.size=none ->
   Inv (X.blk K scope G.objs.size fp g F) [(g.heap.objs.size,ob)] (none::be fv σ) H' s':=λ{s' H' ob i ys} J1 e d f=>J1.pins_of λp P=>by
  have z:p=(g.heap.objs.size,ob):=by simpa using P
  subst z
  refine ⟨e,f,a1,λz=>?_,d⟩
  rcases ϕ.mp (U.stkSub _ z) with q | q
  ·exact absurd U.lt (by rw [← q];exact Nat.lt_irrefl _)
  ·exact U.nofs (ι _) q
 have a8:∀s3:Shared,s3={g with heap:=h1,toks:=g.toks+([]:List (Str×Value)).length} ->
   codeAny (model X.prog X.w) X.A (.compLoop (.ListComp Z [⟨.Name x px,D,a0,0⟩] scope pos) 0 (.ref it) (.ref g.heap.objs.size) (X.blk K scope G.objs.size fp g F).env)
    (compPost (model X.prog X.w) X.A X.xe (some (assign (.Name y py) X.env)) (λ_ s'=>SP X O DE .next s') (.ref g.heap.objs.size) G.objs.size) s3:=by
  rintro s3 rfl
  refine codeAny_compLoop_tests (λk s'=>∃i ys H' m,k=n+1-i/\i<=n/\ys.length<=i/\Vals ys m/\s'.heap.PlainList g.heap.objs.size m.toArray /\
   Inv (X.blk K scope G.objs.size fp g F) [] (none::be fv σ) H' s'/\H' g.heap.objs.size=none/\tn i s'.heap/\(∀b∈fp,H' b=none)/\W i ys H') ?_ (n+1)
   ⟨0,[],F,[],ϱ,ϖ _,ι _,.nil,hD,sO S U f2 av hC kp aZ (λp P=>nomatch P),U.hok.fresh (ι _),T.keep _ _ _ as λb _ o e=>kp b o e,λb l=>(f2 b l).1,w0⟩
  rintro k s4 ⟨i,ys,H4,m,rfl,c2,a4,rv,pl4,I4,a5,c3,c4,w4⟩
  obtain ⟨L,eD⟩:=id pl4
  have bI:=bG (i:=i) (ys:=ys) I4 eD (λv z=>by cases z) a5
  have np:∀p∈[(g.heap.objs.size,({cls:=.type "list",data:=.seq m.toArray L}:Obj))],p.1∉fp:=λp P=>by
   have z:p=(g.heap.objs.size,({cls:=.type "list",data:=.seq m.toArray L}:Obj)):=by simpa using P
   subst z;exact bB
  rcases bm i ys H4 w4 with ⟨stop,fin⟩ | ⟨go,hi2,step⟩
  ·refine wpAny_mono (T.done (X.blk K scope G.objs.size fp g F) rfl rfl rfl hc i _ s4 _ H4 _ bI (Y c4 np) c3 stop) (λr s5 ⟨hr,I5⟩=>?_) λ_ _ e=>e
   subst hr
   obtain ⟨m5,ct,_⟩:=I5.loc
   have d2:s5.heap.get? g.heap.objs.size=some {cls:=.type "list",data:=.seq m.toArray L}:=(I5.pin _ (Ψ _ Ω)).1
   have IF:Inv X O σ (upd H4 g.heap.objs.size (.lst ys)) s5:=by
    have sb:Heap.SameBut G.objs.size s5.heap s5.heap:=⟨ϱ,λ_ _=>rfl⟩
    have aR:∀{b:Addr} {o:Obj},g.heap.get? b=some o->b≠G.objs.size:=λ{b o} e=>Φ (Nat.lt_of_lt_of_le (η e) hC)
    have aS:F g.heap.objs.size=none:=U.hok.fresh (ι _)
    have d3:∀{b:Addr} {o:Obj},g.heap.get? b=some o->b≠g.heap.objs.size:=λ{b o} e=>Φ (η e)
    have B:=I5.base
    refine U.call' (s':=s5) (ch:=fp) I5.os ⟨λb o e nb l hx=>?_,λb o e nb l hx=>?_,λb o e nb hx=>?_,λb o e hx=>?_,λb xs e=>?_,λb o u e=>?_,λb ps e=>?_⟩ ?_ I5.bare λb l=>?_
    ·exact sb.extBut b o (aR e) (B.keep b o e nb l hx)
    ·obtain ⟨sl,q⟩:=B.slot b o e nb l hx
     exact ⟨sl,sb.extBut b _ (aR e) q⟩
    ·rw [am (d3 e)];exact B.free b o e nb hx
    ·obtain ⟨o',q⟩:=B.there b o e hx
     exact ⟨o',sb.extBut b o' (aR e) q⟩
    ·have e':F b=some (.tup xs):=e
     rw [am (ap e' aS)];exact B.tups b xs e
    ·have e':F b=some (.frz o u):=e
     rw [am (ap e' aS)];exact B.frzs b o u e
    ·have e':F b=some (.tbl ps):=e
     rw [am (ap e' aS)];exact B.tbls b ps e
    ·intro b u e
     by_cases l:b=g.heap.objs.size
     ·subst l
      rw [ae] at e
      cases e
      exact ⟨Λ a4 (Λ c2 hn),m,L,rv,sb.extBut _ _ a1 d2⟩
     ·rw [am l] at e
      have fC:H4 G.objs.size=none:=I5.free
      refine (I5.hok b u e).stay (λc v di q=>sb.extBut c v ?_ q) (λc q=>by rw [am (ap q a5)];exact q) λc xs q=>by rw [am (ap q a5)];exact q
      rcases di with z | z
      ·subst z;exact ap e fC
      ·exact ap z fC
    ·obtain ⟨_,g1,g2,g3,g4,g5⟩:=f2 b l
     exact ⟨g3,g1,g4,g5⟩
   obtain ⟨f0,f1,ek,f3,f4,f5⟩:=U.fpOk (H':=F) hC (U.hok.fresh hC)
   show wpAny _ _ (assign (.Name y py) X.env (.ref g.heap.objs.size)) _ _ s5
   refine wpAny_assign_Name (mH IF hN dA dB (v:=.ref g.heap.objs.size) rfl (λs6 I6 ⟨a6,dl,dp⟩=>?_) hf)
   have nC:G.objs.size≠a6:=λz=>by
    rcases dp with e | e
    ·exact f1 (z.trans e)
    ·exact f4 _ _ e z.symm
   have fC:(upd H4 g.heap.objs.size (.lst ys)) G.objs.size=none:=by
    rw [am (Ne.symm a1)]
    exact I5.free
   exact ⟨m5,ct.sameBut dl nC,λh' a2=>⟨_,_,I6.turned (t':=s6.toks) (it:=G.objs.size) (λb o l e=>(a2.2 b l).trans e) fC f1 f3 f4 f5,fin _ a5⟩⟩
  ·refine wpAny_mono (T.item (X.blk K scope G.objs.size fp g F) rfl rfl rfl hc i _ s4 _ H4 _ bI (Y c4 np) c3 go) (λr s5 ⟨u,hr,h5⟩=>?_) λ_ _ e=>e
   subst hr
   show wpAny _ _ (letOwnedTupleGo (.Name x px) (.ref it) u >>= λ_=>assign (.Name x px) (X.blk K scope G.objs.size fp g F).env u) _ _ s5
   refine ε (wpAny_mono h5 (λ_ s6 ⟨xv,H6,I6,r6,y6,a3,ds⟩=>?_) λ_ _ e=>e)
   have d4:=I6.pinned (Y ds np) (T.obj _ _ a3)
   have out:∀{σ':St} {H':Hp} {s':Shared},Inv (X.blk K scope G.objs.size fp g F) ([(g.heap.objs.size,({cls:=.type "list",data:=.seq m.toArray L}:Obj))]++jA fp s6.heap) σ' H' s' ->
     s'.heap.PlainList g.heap.objs.size m.toArray/\H' g.heap.objs.size=none/\(∀b∈fp,H' b=none)/\(∀b∈fp,∀o,s6.heap.get? b=some o->s'.heap.get? b=some o):=λ{σ' H' s'} J1=>by
    have q:=J1.pin (g.heap.objs.size,({cls:=.type "list",data:=.seq m.toArray L}:Obj)) (Ψ _ (List.mem_append_left _ Ω))
    refine ⟨⟨L,q.1⟩,q.2.1,λb l=>?_,λb l o e=>(J1.pin (b,o) (Ψ _ (Ψ _ (cQ l e)))).1⟩
    obtain ⟨o,e,d⟩:=T.obj _ _ a3 b l
    exact (J1.pin (b,o) (Ψ _ (Ψ _ (cQ l e)))).2.1
   refine nox ((ci (X:=X.blk K scope G.objs.size fp g F) (i:=0) S.nd S.hd (.inl bC) (.inr bC)) _ s6 _ H6 xv u (fun σ' H'=>σ'=some xv::be fv σ/\H'=H6) d4 r6 ⟨ϱ,ϱ⟩) λ_ s7 ⟨σ7,H7,I7,e7,dt⟩=>?_
   subst e7 dt
   refine nox (ht _ _ _ _ _ s7 _ H7 _ I7 (step xv H7 y6)) λok s8 ⟨H8,I8,q8⟩=>?_
   cases ok with
   | false =>
    obtain ⟨o1,o2,o3,o4⟩:=out I8
    exact ⟨n+1-(i+1),ω,i+1,ys,H8,m,ϱ,hi2,υ a4,rv,o1,(I8.pins_of (pins':=[]) λp P=>nomatch P).weak (σ':=none::be fv σ) rfl (λj v e=>by
     cases j with
     | zero=>cases (show (none:Option V)=some v from Δ e)
     | succ j=>exact e),o2,T.keep _ _ _ a3 o4,o3,q8⟩
   | true =>
    refine nox (he _ _ _ _ _ s8 _ H8 _ I8 q8) λyv s9 ⟨y,H9,I9,r9,q9⟩=>?_
    obtain ⟨o1,o2,o3,o4⟩:=out I9
    have bP:=rv.length
    refine wpAny_list_append_plain (hsz:=by rw [List.size_toArray,← bP];exact Λ a4 (Λ c2 hn)) o1 λh' dy a2=>?_
    have d5:Inv (X.blk K scope G.objs.size fp g F) [] (some xv::be fv σ) H9 {s9 with heap:=h'} :=
     (I9.pins_of (pins':=[]) λp P=>nomatch P).turned (t':=s9.toks) (it:=g.heap.objs.size) (λb o l e=>a2.extBut b o l e) o2 a1 (.inr (ι _)) d0 (λp P=>nomatch P)
    refine ⟨n+1-(i+1),ω,i+1,ys++[y],H9,m++[yv],ϱ,hi2,by rw [List.length_append];exact Nat.succ_le_succ a4,rv.append (.cons r9 .nil),?_,d5.weak (σ':=none::be fv σ) rfl (λj v e=>by
     cases j with
     | zero=>cases (show (none:Option V)=some v from Δ e)
     | succ j=>exact e),o2,T.keep _ _ _ a3 λb l o e=>a2.extBut b o (λz=>bB (z▸l)) (o4 b l o e),o3,q9⟩
    have e9:(m++[yv]).toArray=m.toArray.push yv:=by simp
    rw [e9]
    exact dy
 exact codeAny_compStart_list (a8 _ rfl) (T.self _ 0 _ _ _ (T.keep _ _ _ as λb _ o e=>kp b o e) (a8 _ rfl))
open PySem.W
inductive KAll (n:Nat) {α:Type} (P:α->Prop):KasT α->Prop
 | ret {a:α}:P a->KAll n P (.ret a)
 | ask {i j:Nat} {k:Bool->KasT α}:i<n->j<n->(∀b,KAll n P (k b))->KAll n P (.ask i j k)
def aX{α:Type}(lt:Nat->Nat->Bool):KasT α->α
 | .ret a=>a
 | .ask i j k=>aX lt (k (lt i j))
theorem KAll.bind{n:Nat}{α β:Type}{P:α->Prop}{R:β->Prop}{f:α->KasT β}:∀{t:KasT α},KAll n P t->(∀a,P a->KAll n R (f a))->KAll n R (t.bind f)
 | _,.ret h,g=>g _ h
 | _,.ask h1 h2 h3,g=>.ask h1 h2 λb=>KAll.bind (h3 b) g
theorem KAll.wp{n:Nat}{α:Type}{P:α->Prop}{cmp:Nat->Nat->(Bool->Shared->Prop)->Shared->Prop}{lt:Nat->Nat->Bool}{s:Shared}(hc:∀i j (C:Bool->Shared->Prop),i<n->j<n->C (lt i j) s->cmp i j C s){Q:α->Shared->Prop} :
  ∀{t:KasT α},KAll n P t->(P (aX lt t)->Q (aX lt t) s)->t.kasWp cmp Q s
 | _,.ret h,q=>q h
 | _,.ask (i:=i) (j:=j) h1 h2 h3,q=>hc i j _ h1 h2 (KAll.wp hc (h3 (lt i j)) q)
def InP(n:Nat)(p:Array Nat):Prop:=p.size=n/\∀x∈p,x<n
theorem InP.get{n:Nat}{p:Array Nat}(h:InP n p)(h0:0<n)(i:Nat):p.getD i 0<n:=by
 rw [Array.getD_eq_getD_getElem?]
 cases e:p[i]? with
 | none=>exact h0
 | some x=>exact h.2 x (Array.mem_of_getElem? e)
theorem InP.perm{n:Nat}{p q:Array Nat}(h:InP n p)(e:q.Perm p):InP n q:=⟨e.size_eq.trans h.1,λx hx=>h.2 x (e.mem_iff.mp hx)⟩
theorem InP.rev{n:Nat}{p:Array Nat}(h:InP n p)(i j:Nat):InP n (kas_rev p i j):=h.perm (mirror_perm _ _ _ _)
theorem ph{n:Nat}{p:Array Nat}(h:InP n p)(h0:0<n):∀f m,KAll n (λ_=>True) (kas_asc p f m)
 | 0,_=>.ret trivial
 | f+1,m=>.ask (h.get h0 _) (h.get h0 _) λb=>by
  cases b with
  | true=>exact .ret trivial
  | false=>exact ph h h0 f (m+1)
theorem je{n:Nat}(h0:0<n):∀f (p:Array Nat) m q,InP n p->KAll n (λr=>InP n r.1) (kas_desc f p m q)
 | 0,_,_,_,h=>.ret h
 | f+1,p,m,q,h=>.ask (h.get h0 _) (h.get h0 _) λb=>by
  cases b with
  | true =>
   show KAll n _ (if q>0 then kas_desc f (kas_rev p (m-(q+1)) m) (m+1) 0 else kas_desc f p (m+1) 0)
   split
   ·exact je h0 f _ _ _ (h.rev _ _)
   ·exact je h0 f _ _ _ h
  | false =>
   refine .ask (h.get h0 _) (h.get h0 _) λc=>?_
   cases c with
   | true=>exact .ret h
   | false=>exact je h0 f _ _ _ h
theorem ql{n:Nat}{p:Array Nat}(h:InP n p)(h0:0<n)(m k:Nat):KAll n (λr=>InP n r.2) (kas_tail3 m k p):=(ph (h.rev 0 m) h0 _ _).bind λ_ _=>.ret (h.rev 0 m)
theorem qo{n:Nat}{p:Array Nat}(h:InP n p)(h0:0<n)(m k:Nat):KAll n (λr=>InP n r.2) (kas_descPart m k p):=(je h0 _ _ _ _ h).bind λr hr=>by
 split
 ·exact ql (hr.rev _ _) h0 _ _
 ·exact ql hr h0 _ _
theorem uj{n:Nat}{p:Array Nat}(h:InP n p)(h0:0<n)(k:Nat):KAll n (λr=>InP n r.2) (kas_count k p):=(ph h h0 _ _).bind λm _=>by
 split
 ·exact .ret h
 ·split
  ·refine .ask (h.get h0 _) (h.get h0 _) λc=>?_
   cases c with
   | true=>exact .ret h
   | false=>exact qo (h.rev _ _) h0 _ _
  ·exact qo h h0 _ _
theorem jN{n:Nat}{p:Array Nat}(h:InP n p)(h0:0<n)(k:Nat):∀f l r,KAll n (λ_=>True) (kas_place p k f l r)
 | 0,_,_=>.ret trivial
 | f+1,l,r=>by
  show KAll n _ (if l≥r then .ret l else .ask (p.getD k 0) (p.getD ((l+r)/2) 0) λc=>if c=true then kas_place p k f l ((l+r)/2) else kas_place p k f ((l+r)/2+1) r)
  split
  ·exact .ret trivial
  ·refine .ask (h.get h0 _) (h.get h0 _) λc=>?_
   cases c with
   | true=>exact jN h h0 k f _ _
   | false=>exact jN h h0 k f _ _
theorem sP{n:Nat}(h0:0<n):∀f (p:Array Nat) k,InP n p->KAll n (InP n) (kas_bin f p k)
 | 0,_,_,h=>.ret h
 | f+1,p,k,h=>(jN h h0 k k 0 k).bind λl _=>sP h0 f _ _ (h.perm (bubble_perm _ _ _))
theorem qm{n:Nat}(h0:0<n):KAll n (InP n) (kas_sort n):=by
 have h:InP n (List.toArray (List.range n)):=⟨by simp,λx d=>by simpa using d⟩
 refine (uj h h0 n).bind λr b=>?_
 split
 ·exact sP h0 _ _ _ b
 ·exact .ret b
section
variable {prog:Program}{w:World}{A:Around}{E:Value->Shared->Prop}{s:Shared}
def bU{α:Type} [Inhabited α](lt:α->α->Bool)(xs:List α):List α:=((aX (λi j=>lt (xs.getD i default) (xs.getD j default)) (kas_sort xs.length)).toList).map λi=>xs.getD i default
theorem oI{α β:Type}{R:α->β->Prop}{xs:List α}{ys:List β}(h:Paired R xs ys){i:Nat}(e:i<xs.length)(a:α)(b:β):R (xs.getD i a) (ys.getD i b):=by
 have d:i<ys.length:=by rw [← h.len];exact e
 obtain ⟨u,f,g⟩:=h.get1 (ξ e)
 rw [ξ d] at f
 cases f
 rw [List.getD_eq_getElem?_getD,List.getD_eq_getElem?_getD,ξ e,ξ d]
 exact g
theorem oH{α β:Type}{R:α->β->Prop}{xs:List α}{ys:List β}(h:Paired R xs ys)(a:α)(b:β):∀{p:List Nat},(∀i∈p,i<xs.length)->Paired R (p.map λi=>xs.getD i a) (p.map λi=>ys.getD i b)
 | [],_=>.nil
 | i::p,hp=>.cons (oI h (hp i Ω) a b) (oH h a b λj hj=>hp j (Θ _ hj))
instance:Inhabited ((Int×Int)×Str):=⟨((0,0),Str.empty)⟩
theorem rQ{α:Type} [Inhabited α](lt:α->α->Bool)(xs:List α)(h:0<xs.length):(bU lt xs).length=xs.length/\∀i∈(aX (λi j=>lt (xs.getD i default) (xs.getD j default)) (kas_sort xs.length)).toList,i<xs.length:=by
 have:InP xs.length (aX (λi j=>lt (xs.getD i default) (xs.getD j default)) (kas_sort xs.length)):=by
  have g:∀{t:KasT (Array Nat)},KAll xs.length (InP xs.length) t->InP xs.length (aX (λi j=>lt (xs.getD i default) (xs.getD j default)) t):=by
   intro t k
   induction k with
   | ret h=>exact h
   | ask _ _ _ ih=>exact ih _
  exact g (qm h)
 refine ⟨?_,λi b=>this.2 i (Array.mem_toList_iff.mp b)⟩
 unfold bU
 rw [ν,Array.length_toList]
 exact this.1
end
section
variable {prog:Program}{w:World}{A:Around}{E:Value->Shared->Prop}{s:Shared}{h₀:Heap}{L:Addr}{m:Str->Option Value}{news:List (Addr×Obj)}
theorem wP{vs:List Value}{a n:Nat}{P:PySem.Fin->Shared->Prop}(F:Fr h₀ L s.heap m)(N:News h₀ L s.heap news)(h:s.heap.get? a=some (seqObj "list" vs.toArray n))(d:a≠L)(f:h₀.get? a=none)(g:∀p∈news,p.1≠a)(u:vs.length<2)
  (q:∀h' c,Fr h₀ L h' m->News h₀ L h' ((a,PySem.W.listOf vs.toArray c)::news)->P (.done (.ret .none)) {s with heap:=h'}) :
  wpAny (model prog w) A (Builtin.«list.sort» ⟨[.ref a], []⟩) P E s := by
 have z0:vs.length<=sizeLine:=by rw [sizeLine_eq];omega
 have sb1:=Heap.SameBut.update s.heap a (Obj.mapSeq λ_=>(#[]:Array Value))
 obtain ⟨c1,o1⟩:∃c,(s.heap.update a (Obj.mapSeq λ_=>(#[]:Array Value))).get? a=some (seqObj "list" #[] c):=⟨_,get?_update_seq h λ_=>#[]⟩
 rw [list_sort_plain]
 refine ε (listItems_at h rfl (ε (listUpdate_at h rfl ?_ (by rw [List.size_toArray];exact z0) (ϖ _))))
 refine ε (seqEpoch_at o1 rfl (ε (wpAny_newTuple ?_ (by show vs.length<=_;exact z0))))
 refine ε (wpAny_newList (wpAny_holding ?_) (ϖ _))
 have lt2:vs.toArray.size<2:=by rw [List.size_toArray];exact u
 dsimp only
 rw [if_pos lt2,if_pos lt2]
 refine ε (π (ε (π ?_)))
 have o2:=ρ (seqObj "list" #[] 0) (ρ (seqObj "tuple" vs.toArray 0) o1)
 refine ε (seqEpoch_at o2 rfl ?_)
 have ez:(arrOf (SortSt.mk' general' (vs.toArray.zip vs.toArray) #[] 7 none)).map (·.2)=vs.toArray:=by
  show (vs.toArray.zip vs.toArray).map (·.2)=vs.toArray
  have o:∀l:List Value,(l.zip l).map (·.2)=l:=λl=>by
   induction l with
   | nil=>rfl
   | cons x r ih=>rw [List.zip_cons_cons,List.map_cons,ih]
  apply Array.toList_inj.mp
  simpa using o vs
 rw [ez]
 refine ε (listUpdate_at o2 rfl ?_ (ϖ _) (by rw [List.size_toArray];exact υ z0))
 simp only [bne_self_eq_false,Bool.false_eq_true,if_false]
 obtain ⟨i,j⟩:∃c,((((s.heap.update a (Obj.mapSeq λ_=>(#[]:Array Value))).push (seqObj "tuple" vs.toArray 0)).push (seqObj "list" #[] 0)).update a (Obj.mapSeq λ_=>vs.toArray)).get? a=some (seqObj "list" vs.toArray c):=⟨_,get?_update_seq o2 λ_=>vs.toArray⟩
 refine π (q _ i ?_ ?_)
 ·exact kas_fr (((kas_fr F sb1 d f).push _).push _) (Heap.SameBut.update _ _ _) d f
 ·intro p hp
  rcases ϕ.mp hp with z | hp
  ·subst z
   exact ⟨j,d,f⟩
  ·exact kas_news ((kas_news N sb1 g).grown λb x e=>ρ _ (ρ _ e)) (Heap.SameBut.update _ _ _) g p hp
end
theorem sT{us:List V}{vs:List Value}(h:Vals us vs)(p:List Nat)(hp:∀i∈p,i<us.length):Vals (p.map λi=>us.getD i .non) (p.map λi=>vs.getD i Value.none):=oH h _ _ hp
abbrev gx(own:Value)(f:Bool)(d:Addr)(i n ep:Nat)(ok ov:Value):Obj:={cls:=.type "dict_itemiterator",dict:=none,data:=.fields #[own,.bool f,.ref d,.int i 0,.int n 0,.int ep 0,ok,ov],slots:=#[]}
def xt(h:Heap)(it d:Addr)(i n ep:Nat):Prop:=∃own f ok ov,h.get? it=some (gx own f d i n ep ok ov)/\(own=.none\/∃a oa,own=rawInt (a:Nat)/\a≠it/\h.get? a=some oa)
def RawD(h:Heap)(d:Addr)(es:Array DictEntry)(ep:Nat):Prop:=∃od,h.get? d=some od/\od.ExactDict/\od.data=.dict es ep
section
variable {prog:Program}{w:World}{A:Around}{E:Value->Shared->Prop}{s:Shared}{it d:Addr}{i ep:Nat}{es:Array DictEntry}
theorem RawD.at{h h':Heap}(x:RawD h d es ep)(k:∀o,h.get? d=some o->h'.get? d=some o):RawD h' d es ep:=let ⟨od,e,r⟩:=x;⟨od,k _ e,r⟩
theorem zC{own ok ov:Value}{f:Bool}{n:Nat}(hit:s.heap.get? it=some (gx own f d i n ep ok ov)):s.TypeIs (.ref it) "dict_itemiterator":=⟨_,hit,ϱ⟩
theorem oM:Builtin.Dict_items.ownsTuple "dict_itemiterator"=true:=by decide
theorem yR{n:Nat}{y ok P j val:Value}{f:Bool}{Q:Value->Shared->Prop}(H:s.heap.get? it=some (gx y f d i n ep ok P))(U:y=.none\/∃a oa,y=rawInt (a:Nat)/\a≠it/\s.heap.get? a=some oa)
  (W:∀h',xt h' it d i n ep->h'.get? s.heap.objs.size=some {cls:=.type "tuple",data:=.seq #[j,val]}->h'.objs.size=s.heap.objs.size+1->(∀b o,b≠it->s.heap.get? b=some o->h'.get? b=some o)->Q (.ref s.heap.objs.size) {s with heap:=h'}) :
  wpAny (model prog w) A (Builtin.Dict_items.pairFromOwner (.ref it) 6 j val) Q E s:=by
 obtain ⟨l,g,dr,tk,os⟩:=s
 unfold Builtin.Dict_items.pairFromOwner
 refine ε (wpAny_newTuple ?_)
 have I:it<l.objs.size:=η H
 have h:(l.push {cls:=.type "tuple",data:=.seq #[j,val]}).get? it=some (gx y f d i n ep ok P):=ρ _ H
 have m:(l.push {cls:=.type "tuple",data:=.seq #[j,val]}).get? l.objs.size=some {cls:=.type "tuple",data:=.seq #[j,val]}:=ψ _ rfl
 have r:(l.push {cls:=.type "tuple",data:=.seq #[j,val]}).objs.size=l.objs.size+1:=Heap.size_push ..
 have q:∀b o,l.get? b=some o->(l.push {cls:=.type "tuple",data:=.seq #[j,val]}).get? b=some o:=λb o e=>ρ _ e
 generalize (l.push {cls:=.type "tuple",data:=.seq #[j,val]})=G at h m r q
 have u:l.objs.size≠it:=Nat.ne_of_gt I
 unfold Builtin.Dict_items.ownedTupleIsFree
 rcases U with z | ⟨a,oa,z,na,ha⟩
 ·subst z
  refine ε (ε (wpAny_field h rfl (x:=.none) rfl (π ?_)))
  simp only [if_true]
  refine ε (wpAny_field h rfl (x:=ok) rfl (ε (wpAny_field h rfl (x:=P) rfl ?_)))
  refine wpAny_bind (wpAny_setField_rec h (by simp) λK L F=>wpAny_bind (wpAny_setField_rec L (by simp) λh3 e3 X=>wpAny_bind (wpAny_setField_rec e3 (by simp) λh4 e4 Y=>wpAny_bind (wpAny_setField_rec e4 (by simp) λO e5 Z=>?_))))
  have J:∀b o,b≠it->G.get? b=some o->O.get? b=some o:=λb o C e=>Z.extBut b o C (Y.extBut b o C (X.extBut b o C (F.extBut b o C e)))
  refine ε (wpAny_letGo (π (W O ⟨_,_,_,_,e5,.inr ⟨l.objs.size,_,ϱ,u,J _ _ u m⟩⟩ (J _ _ u m) ?_ λb o C e=>J b o C (q b o e))))
  show O.objs.size=l.objs.size+1
  rw [Z.1,Y.1,X.1,F.1]
  exact r
 ·subst z
  have D:=q _ _ ha
  refine ε (ε (wpAny_field h rfl (x:=rawInt (a:Nat)) rfl ?_))
  show wpAny _ _ (loadIfAlive ((a:Int).toNat) >>= λ_=>_) _ _ _
  rw [Int.toNat_natCast]
  refine ε (kdx_alive D ?_)
  simp only [Option.isNone_some,Bool.false_eq_true,if_false]
  refine ε (wpAny_field h rfl (x:=.bool f) rfl ?_)
  cases f with
  | true =>
   rw [if_neg (show ¬((Value.bool true != Value.bool true)=true) by decide)]
   refine π ?_
   simp only [Bool.false_eq_true,if_false]
   exact π (W G ⟨_,_,_,_,h,.inr ⟨a,oa,ϱ,na,D⟩⟩ m r λb o _ e=>q b o e)
  | false =>
   rw [if_pos (show (Value.bool false != Value.bool true)=true by decide)]
   refine wpAny_bind (wpAny_setField_rec h (by simp) λK L F=>wpAny_pure ?_)
   simp only [Bool.false_eq_true,if_false]
   exact π (W K ⟨_,_,_,_,L,.inr ⟨a,oa,ϱ,na,F.extBut _ _ na D⟩⟩ (F.extBut _ _ u m) (by show K.objs.size=_;rw [F.1];exact r) λb o C e=>F.extBut b o C (q b o e))
theorem yS{e:DictEntry}{Q:Option Value->Shared->Prop}(I:xt s.heap it d i es.size ep)(hd:RawD s.heap d es ep)(L:es[i]?=some e)
  (hQ:∀h',xt h' it d (i+1) es.size ep->h'.get? s.heap.objs.size=some {cls:=.type "tuple",data:=.seq #[e.key,e.val]}->h'.objs.size=s.heap.objs.size+1->(∀b o,b≠it->s.heap.get? b=some o->h'.get? b=some o)->Q (some (.ref s.heap.objs.size)) {s with heap:=h'}) :
  wpAny (model prog w) A (pyNext (.ref it)) Q E s:=by
 obtain ⟨g,f,ok,O,h1,C⟩:=I
 obtain ⟨od,l,_,m⟩:=hd
 have h:=zC h1
 unfold pyNext
 refine ε (wpAny_attempt (wpAny_callSpecial?_slot (name:=Str.ofString "__next__") h PySem.F.slot_dict_itemiterator_next (wpAny_call_entry PySem.F.slot_dict_itemiterator_next h PySem.F.entry_dict_itemiterator_next ?_ (PySem.F.args_dict_itemiterator_next_1 _))))
 refine ε (π (ε (ε ?_)))
 first | refine ε (wpAny_typeNameOfWhole_itemiter h (π ?_)) | refine ε (wpAny_typeNameOf_itemiter h (π ?_))
 refine ε (wpAny_fieldsOf h1 rfl ?_)
 simp only [oM,if_true]
 show wpAny _ _ (if (Value.ref d==Value.none)=true then _ else (_:Sem (Option (Array DictEntry×Int)))) _ _ s
 rw [if_neg (show ¬((Value.ref d==Value.none)=true) by intro z;cases z)]
 refine ε (π (ε (wpAny_dictEntries l m ?_)))
 rw [if_neg (by simp)]
 refine ε (π (ε (wpAny_dictEpoch l m ?_)))
 rw [if_neg (by simp)]
 refine π ?_
 have P:i<es.size:=(Array.getElem?_eq_some_iff.mp L).1
 simp only [show ¬((i:Int)<0) by omega,if_false,Int.toNat_natCast,L]
 refine ε ?_
 first | refine ε (wpAny_typeNameOfWhole_itemiter h (π ?_)) | refine ε (wpAny_typeNameOf_itemiter h (π ?_))
 refine ε (wpAny_isOneOf_itemiter h ?_)
 show wpAny _ _ (setField (.ref it) 3 (rawInt ((i:Int)+1)) >>= λ_=>_) _ _ s
 refine wpAny_bind (wpAny_setField_rec h1 (by simp) λj U G=>?_)
 have q:j.get? it=some (gx g f d (i+1) es.size ep ok O):=by
  have z:((i+1:Nat):Int)=(i:Int)+1:=by omega
  unfold gx
  rw [z]
  simpa [rawInt] using U
 have r:Shared.TypeIs {s with heap:=j} (.ref it) "dict_itemiterator":=⟨_,q,ϱ⟩
 refine ε (wpAny_holding (ε (wpAny_isOneOf_itemiter r (ε (wpAny_isOneOf_itemiter r ?_)))))
 have u:g=.none\/∃a y,g=rawInt (a:Nat)/\a≠it/\j.get? a=some y:=C.imp id λ⟨a,y,W,J,H⟩=>⟨a,y,W,J,G.extBut a y J H⟩
 refine yR (s:={s with heap:=j}) q u λX Y Z H k3=>π ⟨_,ϱ,π ?_⟩
 have D:j.objs.size=s.heap.objs.size:=G.1
 have q3:=hQ X Y (by rw [← D];exact Z) (by rw [← D];exact H) λb o K x=>k3 b o K (G.extBut b o K x)
 show Q (some (.ref j.objs.size)) _
 rw [D]
 exact q3
theorem AU{Q:Option Value->Shared->Prop}(q:A.handled=none)(j:xt s.heap it d i es.size ep)(r:RawD s.heap d es ep)(u:es.size<=i)
  (x:∀h',Heap.ExtBut it s.heap h'->Q none {s with heap:=h'}):wpAny (model prog w) A (pyNext (.ref it)) Q E s:=by
 obtain ⟨l,f,ok,y,h1,o⟩:=j
 obtain ⟨od,g,_,h⟩:=r
 have e:=zC h1
 unfold pyNext
 refine ε (wpAny_attempt (wpAny_callSpecial?_slot (name:=Str.ofString "__next__") e PySem.F.slot_dict_itemiterator_next (wpAny_call_entry PySem.F.slot_dict_itemiterator_next e PySem.F.entry_dict_itemiterator_next ?_ (PySem.F.args_dict_itemiterator_next_1 _))))
 refine ε (π (ε (ε ?_)))
 first | refine ε (wpAny_typeNameOfWhole_itemiter e (π ?_)) | refine ε (wpAny_typeNameOf_itemiter e (π ?_))
 refine ε (wpAny_fieldsOf h1 rfl ?_)
 simp only [oM,if_true]
 show wpAny _ _ (if (Value.ref d==Value.none)=true then _ else (_:Sem (Option (Array DictEntry×Int)))) _ _ s
 rw [if_neg (show ¬((Value.ref d==Value.none)=true) by intro z;cases z)]
 refine ε (π (ε (wpAny_dictEntries g h ?_)))
 rw [if_neg (by simp)]
 refine ε (π (ε (wpAny_dictEpoch g h ?_)))
 rw [if_neg (by simp)]
 refine π ?_
 simp only [show ¬((i:Int)<0) by omega,if_false,Int.toNat_natCast,Array.getElem?_eq_none u]
 refine ε ?_
 first | refine ε (wpAny_typeNameOfWhole_itemiter e (π ?_)) | refine ε (wpAny_typeNameOf_itemiter e (π ?_))
 show wpAny _ _ (setField (.ref it) 2 .none >>= λ_=>_) _ _ s
 refine wpAny_bind (wpAny_setField h1 rfl (by simp) ?_)
 show wpAny _ _ (newExc (.type "StopIteration") [] >>= λ_=>_) _ _ _
 refine ε ?_
 simp only [newExc,newTuple]
 refine wpAny_bind (wpAny_newObj_type (wpAny_bind (m:=firstArgMember _ _) (wpAny_of_eq (a:=Value.none) (by first | rfl | (simp only [firstArgMember];rfl)) (wpAny_newObj_type ?_ (by size_fits)))) (by size_fits))
 simp only [raiseNew]
 refine ε (wpAny_handled ?_)
 rw [show A.in1.handled=none from q]
 refine ε (π (wpAny_throw ?_));refine ε (wpAny_isInstance (T:="StopIteration") (b:=true) ⟨_,ψ _ rfl,ϱ⟩ isSubtype_stop ?_)
 exact π (x _ (((Heap.SameBut.update ..).extBut.push _).push _))
def ul(h:Heap)(es:Array DictEntry)(as:List Addr):Prop:=∀(j:Nat) (a:Addr),as[j]?=some a->∃e,es[j]?=some e/\h.get? a=some {cls:=.type "tuple",data:=.seq #[e.key,e.val]}
theorem sE{S:Addr}{R:Result->Shared->Prop}{h1:Heap}(H:A.handled=none)(m:S≠it)(C:d≠S)(D:d≠it)(P:es.size<=sizeLine)(u:Value)
  (I:∀h' r g c l,(∀b o,b≠S->b≠it->h1.get? b=some o->h'.get? b=some o)->h'.get? S=some {cls:=.type "list",dict:=none,data:=.seq g c,slots:=#[]}->l.length=es.size->ul h' es l->(∀a∈l,h1.objs.size<=a/\a≠S/\a≠it)->l.Nodup ->
   g.toList=l.map Value.ref->R (.ok (.ret u)) {s with heap:=h',toks:=r}) :
  ∀(k i:Nat) (h:Heap) (r c:Nat) (g:Array Value) (l:List Addr),es.size-i=k->i<=es.size->xt h it d i es.size ep->RawD h d es ep->(∀b o,b≠S->b≠it->h1.get? b=some o->h.get? b=some o) ->
   h.get? S=some {cls:=.type "list",dict:=none,data:=.seq g c,slots:=#[]}->g.toList=l.map Value.ref->l.length=i->ul h es l->(∀a∈l,h1.objs.size<=a/\a≠S/\a≠it/\a<h.objs.size)->l.Nodup->h1.objs.size<=h.objs.size ->
   codeAny (model prog w) A (.builtin "list.extend.loop" ⟨[.ref S,.ref it,u],[]⟩) R {s with heap:=h,toks:=r}
 | 0,i,h,r,c,g,l,hk,hi,hit,hd,kp,hS,ha,hl,tu,ab,ndp,hz=>by
  refine codeAny_builtin PySem.F.entry_extend_loop ?_
  rw [Around.under_plainId PySem.F.plain_extend_loop _]
  show wpAny _ A.in1 (pyNext (.ref it) >>= λ_=>_) _ _ _
  refine ε (AU (s:={s with heap:=h,toks:=r}) (A:=A.in1) H hit hd ω λh' xb=>?_)
  exact π (I h' r g c l (λb o n1 n2 e=>xb b o n2 (kp b o n1 n2 e)) (xb S _ m hS) ω (λj a hj=>by
   obtain ⟨e,e1,e2⟩:=tu j a hj
   exact ⟨e,e1,xb a _ (ab a (List.mem_of_getElem? hj)).2.2.1 e2⟩) (λa hm=>⟨(ab a hm).1,(ab a hm).2.1,(ab a hm).2.2.1⟩) ndp ha)
 | k+1,i,h,r,c,g,l,hk,hi,hit,hd,kp,hS,ha,hl,tu,ab,ndp,hz=>by
  have hlt:i<es.size:=by omega
  have hx:es[i]?=some es[i]:=Array.getElem?_eq_getElem hlt
  have hsz:g.size=i:=by rw [← Array.length_toList,ha,ν,hl]
  have lS:S<h.objs.size:=η hS
  have lI:it<h.objs.size:=by obtain ⟨_,_,_,_,e,_⟩:=hit;exact η e
  refine codeAny_builtin PySem.F.entry_extend_loop ?_
  rw [Around.under_plainId PySem.F.plain_extend_loop _]
  show wpAny _ A.in1 (pyNext (.ref it) >>= λ_=>_) _ _ _
  refine ε (yS (s:={s with heap:=h,toks:=r}) hit hd hx λh' hit' ht z' k'=>?_)
  have z'':h'.objs.size=h.objs.size+1:=z'
  have hS':=k' S _ m hS
  have up:∀b o,b≠S->h'.get? b=some o->(h'.update S (Obj.mapSeq (·.push (Value.ref h.objs.size)))).get? b=some o:=λb o nb e=>(Heap.get?_update_other _ _ (Ne.symm nb)).trans e
  have zu:(h'.update S (Obj.mapSeq (·.push (Value.ref h.objs.size)))).objs.size=h.objs.size+1:=by rw [Heap.size_update];exact z''
  show wpAny _ A.in1 (updateSeq S (·.push (Value.ref h.objs.size)) >>= λ_=>_) _ _ _
  refine ε (wpAny_updateSeq hS' rfl (π ⟨plainId_quiet PySem.F.plain_extend_loop _,?_⟩) (by rw [hsz];omega) (by show (g.push (Value.ref h.objs.size)).size<=sizeLine+1;rw [Array.size_push,hsz];omega))
  refine sE H m C D P u I k (i+1) _ r _ (g.push (Value.ref h.objs.size)) (l++[h.objs.size]) ω hlt ?_ (hd.at λo e=>up d o C (k' d o D e)) (λb o n1 n2 e=>up b o n1 (k' b o n2 (kp b o n1 n2 e)))
   (Heap.get?_update_self _ hS' rfl) (by rw [Array.toList_push,ha,List.map_append];rfl) (by rw [List.length_append,hl];rfl) ?_ ?_ ?_ (by rw [zu];omega)
  ·obtain ⟨own,f,ok,ov,e1,how⟩:=hit'
   refine ⟨own,f,ok,ov,up it _ (Ne.symm m) e1,how.imp id λ⟨a,oa,w1,w2,w3⟩=>?_⟩
   by_cases aS:a=S
   ·subst aS
    exact ⟨a,_,w1,w2,Heap.get?_update_self _ hS' rfl⟩
   ·exact ⟨a,oa,w1,w2,up a oa aS w3⟩
  ·intro j a hj
   by_cases hja:j<l.length
   ·rw [List.getElem?_append_left hja] at hj
    obtain ⟨e,e1,e2⟩:=tu j a hj
    obtain ⟨_,n1,n2,_⟩:=ab a (List.mem_of_getElem? hj)
    exact ⟨e,e1,up a _ n1 (k' a _ n2 e2)⟩
   ·rw [List.getElem?_append_right ω] at hj
    have hj0:j-l.length=0:=by
     cases q:j-l.length with
     | zero=>rfl
     | succ n=>rw [q] at hj;simp at hj
    rw [hj0] at hj
    have J:h.objs.size=a:=by simpa using hj
    subst J
    have K:j=i:=by omega
    subst K
    exact ⟨_,hx,up _ _ (Nat.ne_of_gt lS) ht⟩
  ·intro a hm
   rw [zu]
   rcases List.mem_append.mp hm with hm | hm
   ·obtain ⟨m1,m2,m3,m4⟩:=ab a hm
    exact ⟨m1,m2,m3,Nat.lt_succ_of_lt m4⟩
   ·have:=ϵ.mp hm
    subst this
    exact ⟨hz,Nat.ne_of_gt lS,Nat.ne_of_gt lI,Nat.lt_succ_self _⟩
  ·rw [List.nodup_append]
   refine ⟨ndp,by simp,λx G y O z=>?_⟩
   have L:y=h.objs.size:=ϵ.mp O
   exact Φ (ab x G).2.2.2 (z.trans L)
theorem yT{v:Addr}{Q:Value->Shared->Prop}(b:s.heap.IsItemsView v d)(i:RawD s.heap d es ep)(o:es.size<=sizeLine)
  (j:Q (.ref s.heap.objs.size) {s with heap:=s.heap.push (gx .none false d 0 es.size ep .none .none)}):wpAny (model prog w) A (pyIter (.ref v)) Q E s:=by
 obtain ⟨l,g,m,h⟩:=id b
 obtain ⟨od,e,_,f⟩:=i
 refine wpAny_pyIter_slot b.typeIs PySem.F.slot_dict_items_iter (wpAny_call_entry PySem.F.slot_dict_items_iter b.typeIs PySem.F.entry_dict_items_iter ?_ (PySem.F.args_dict_items_iter_1 _))
 unfold Builtin.«dict_items.__iter__»
 refine ε (π (ε ?_))
 unfold Builtin.Dict_items.dictOf
 refine ε (wpAny_field g h (x:=.ref d) rfl (π (ε ?_)))
 unfold Builtin.Dict_items.newIterator
 refine ε (wpAny_dictEntries e f (ε (wpAny_dictEpoch e f ?_)))
 simp only [oM,if_true]
 refine wpAny_newObj_type (wpAny_pure ⟨_,ϱ,"dict_itemiterator",_,⟨_,Heap.get?_push_size _ rfl,ϱ⟩,PySem.F.slot_dict_itemiterator_next.lookup,?_⟩) (by simp only [sizeOk,Builtin.Dict_items.ownedTupleFields,List.size_toArray,List.length_append,List.length_cons,List.length_nil,sizeLine_eq];omega)
 simpa [gx,rawInt,Builtin.Dict_items.ownedTupleFields] using j
theorem tZ{v S:Addr}{J:Nat}{R:Result->Shared->Prop}(hh:A.handled=none)(C:s.heap.IsItemsView v d)(D:RawD s.heap d es ep)(K:es.size<=sizeLine)(G:S≠v)(r:d≠S)(g:Value)(L:s.heap.get? S=some {cls:=.type "list",data:=.seq #[] J})
  (hR:∀h' tk acc c as,(∀b o,b≠S->s.heap.get? b=some o->h'.get? b=some o)->h'.get? S=some {cls:=.type "list",dict:=none,data:=.seq acc c,slots:=#[]}->as.length=es.size->ul h' es as->(∀a∈as,s.heap.objs.size<=a)->as.Nodup->acc.toList=as.map Value.ref->R (.ok (.ret g)) {s with heap:=h',toks:=tk}) :
  wpAny (model prog w) A.in1 (Builtin.List.listExtendWith (.ref S) (.ref v) g) (λfin s'=>match fin with | .done f=>R (.ok f) s' | .again c'=>c'.quiet=true/\codeAny (model prog w) A c' R s') (λe s'=>R (.error e) s') s:=by
 have H:S<s.heap.objs.size:=η L
 have O:d<s.heap.objs.size:=let ⟨_,e,_⟩:=D;η e
 have I:∀(h:Heap) (c tk:Nat),(∀b o,b≠S->(s.heap.push (gx .none false d 0 es.size ep .none .none)).get? b=some o->h.get? b=some o)->h.get? S=some {cls:=.type "list",data:=.seq #[] c}->s.heap.objs.size<=h.objs.size ->
   codeAny (model prog w) A (.builtin "list.extend.loop" ⟨[.ref S,.ref s.heap.objs.size,g],[]⟩) R {s with heap:=h,toks:=tk}:=by
  intro h c tk kp eS zh
  have P:=kp s.heap.objs.size _ (Nat.ne_of_gt H) (ψ _ rfl)
  refine sE (s:=s) (it:=s.heap.objs.size) (d:=d) (ep:=ep) (es:=es) (h1:=s.heap) hh (Φ H) r (Φ O) K g (λh' x acc c' as Q y U W X Y Z=>hR h' x acc c' as (λb o l e=>Q b o l (Φ (η e)) e) y U W (λa z=>(X a z).1) Y Z)
   es.size 0 h tk c #[] [] (Nat.sub_zero _) (Nat.zero_le _) ⟨_,_,_,_,P,.inl rfl⟩ (D.at λo e=>kp d o r (Heap.get?_push_of_some _ e)) (λb o l _ e=>kp b o l (Heap.get?_push_of_some _ e)) eS rfl rfl (λj a hj=>by simp at hj) (λa z=>nomatch z) List.nodup_nil zh
 unfold Builtin.List.listExtendWith
 refine ε (wpAny_typeOf (T:="dict_items") C.typeIs ?_)
 have b1:Builtin.List.listSameRef (.ref S) (.ref v)=false:=by simp [Builtin.List.listSameRef,G]
 have b2:(Value.type "dict_items"==Value.type "list")=false/\(Value.type "dict_items"==Value.type "tuple")=false:=⟨ζ,ζ⟩
 simp only [b1,b2.1,b2.2,Bool.or_false,Bool.false_eq_true,if_false]
 have i:=ρ (gx .none false d 0 es.size ep .none .none) L
 have m:s.heap.objs.size<=(s.heap.push (gx .none false d 0 es.size ep .none .none)).objs.size:=by rw [Heap.size_push];exact Nat.le_succ _
 refine ε (yT C D K (ε (wpAny_holding (kdx_hint (let ⟨o,e,c,_⟩:=C;⟨o,ρ _ e,c⟩) ?_))))
 refine wpAny_ite_split (λ_=>?_) (λ_=>π ⟨plainId_quiet PySem.F.plain_extend_loop _,I _ J _ (λb o _ e=>e) i m⟩)
 refine ε (wpAny_rule (ε ?_))
 show wpAny _ _ (updateSeq S (·.push .none) >>= λ_=>updateSeq S (·.pop)) _ _ {s with heap:=s.heap.push (gx .none false d 0 es.size ep .none .none)}
 have q:=Heap.get?_update_self (Obj.mapSeq (·.push Value.none)) i rfl
 have u:=Heap.get?_update_self (Obj.mapSeq (·.pop)) q rfl
 refine ε (wpAny_updateSeq i rfl (wpAny_updateSeq (hz:=by seq_fits) q rfl (π ⟨plainId_quiet PySem.F.plain_extend_loop _,I _ _ _ (λb o l e=>?_) u ?_⟩)))
 ·exact (Heap.get?_update_other _ _ (Ne.symm l)).trans ((Heap.get?_update_other _ _ (Ne.symm l)).trans e)
 ·rw [Heap.size_update,Heap.size_update]
  exact m
theorem lQ{v:Addr}{R:List Value->Shared->Prop}(Z:A.handled=none)(P:s.heap.IsItemsView v d)(Q:RawD s.heap d es ep)(hn:es.size<=sizeLine)
  (hR:∀(h':Heap) (j:Nat) (h:List Addr),(∀b o,s.heap.get? b=some o->h'.get? b=some o)->h.length=es.size->ul h' es h->(∀a∈h,s.heap.objs.size<=a)->h.Nodup->R (h.map Value.ref) {s with heap:=h',toks:=j}) :
  wpAny (model prog w) A (collect (.ref v)) R E s:=by
 have U:v<s.heap.objs.size:=let ⟨_,e,_⟩:=P;η e
 have W:d<s.heap.objs.size:=let ⟨_,e,_⟩:=Q;η e
 unfold collect
 refine ε (wpAny_runValue (codeAny_builtin entry_proto_collect' ?_))
 rw [Around.under_plainId PySem.F.plain_proto_collect _]
 show wpAny _ A.in1 (newList [] >>= λl=>again (.builtin "list.__iadd__" (Args.mk [l,.ref v] []))) _ _ s
 refine ε (wpAny_newObj_type (π ⟨plainId_quiet PySem.F.plain_list_iadd _,codeAny_builtin entry_list_iadd' ?_⟩))
 rw [Around.under_plainId PySem.F.plain_list_iadd _]
 have X:(s.heap.push {cls:=.type "list",data:=.seq ([]:List Value).toArray}).get? s.heap.objs.size=some {cls:=.type "list",data:=.seq #[] 0}:=ψ _ rfl
 have G:=tZ (prog:=prog) (w:=w) (A:=A) (s:={s with heap:=s.heap.push {cls:=.type "list",data:=.seq ([]:List Value).toArray}}) (v:=v) (S:=s.heap.objs.size) (d:=d) (es:=es) (ep:=ep)
  (R:=λ(q:Result) (z:Shared)=>∃(h':Heap) (j:Nat) (i:Array Value) (c:Nat) (h:List Addr),q=.ok (.ret (.ref s.heap.objs.size))/\z={s with heap:=h',toks:=j}/\(∀b o,s.heap.get? b=some o->h'.get? b=some o) /\
   h'.get? s.heap.objs.size=some {cls:=.type "list",dict:=none,data:=.seq i c,slots:=#[]}/\h.length=es.size/\ul h' es h/\(∀a∈h,s.heap.objs.size<=a)/\h.Nodup/\i.toList=h.map Value.ref)
  Z (let ⟨o,e,r⟩:=P;⟨o,ρ _ e,r⟩) (Q.at λo e=>ρ _ e) hn (Nat.ne_of_gt U) (Φ W) (.ref s.heap.objs.size) X
  (λh' j i c h H u I J K L O=>⟨h',j,i,c,h,ϱ,ϱ,λb o e=>H b o (Φ (η e)) (ρ _ e),u,I,J,λa Y=>Nat.le_of_succ_le (by have:=K a Y;rw [Heap.size_push] at this;exact this),L,O⟩)
 have m:∀(q:Result) (z:Shared),(∃(h':Heap) (j:Nat) (i:Array Value) (c:Nat) (h:List Addr),q=.ok (.ret (.ref s.heap.objs.size))/\z={s with heap:=h',toks:=j}/\(∀b o,s.heap.get? b=some o->h'.get? b=some o) /\
   h'.get? s.heap.objs.size=some {cls:=.type "list",dict:=none,data:=.seq i c,slots:=#[]}/\h.length=es.size/\ul h' es h/\(∀a∈h,s.heap.objs.size<=a)/\h.Nodup/\i.toList=h.map Value.ref) ->
   ∃h' j,q=.ok (.ret (.ref s.heap.objs.size))/\z={s with heap:=h',toks:=j}/\wpAny (model prog w) A (load s.heap.objs.size >>= λo=>match o.data with | .seq xs _=>pure xs.toList | _=>unsupported "internal:collect") R E {s with heap:=h',toks:=j}:=by
  rintro q z ⟨h',j,i,c,h,rfl,rfl,H,u,I,J,K,L,O⟩
  refine ⟨h',j,ϱ,ϱ,ε (wpAny_load u (π ?_))⟩
  show R i.toList _
  rw [O]
  exact hR h' j h H I J K L
 refine wpAny_mono G (λf z x=>?_) λe z x=>?_
 ·cases f with
  | done fl =>
   obtain ⟨h',j,C,D,g⟩:=m _ _ x
   cases C
   subst D
   exact g
  | again c1 =>
   refine ⟨x.1,codeAny_mono x.2 λq s2 y=>?_⟩
   obtain ⟨h',j,C,D,g⟩:=m _ _ y
   subst C D
   exact g
 ·obtain ⟨h',j,C,_⟩:=m _ _ x
  cases C
end
section
variable {prog:Program}{w:World}{A:Around}{E:Value->Shared->Prop}{s:Shared}{it d:Addr}{i ep:Nat}{es:Array DictEntry}
theorem pP:Builtin.Dict_items.ownsTuple "dict_keyiterator"=false:=by decide
theorem ya{Q:Value->Shared->Prop}(f:(d==sysModules)=false)(i:RawD s.heap d es ep)
  (j:Q (.ref s.heap.objs.size) {s with heap:=s.heap.push {cls:=.type "dict_keyiterator",data:=.fields #[.ref d,.int 0 0,.int es.size 0,.int ep 0]}}):wpAny (model prog w) A (pyIter (.ref d)) Q E s:=by
 obtain ⟨od,b,h,g⟩:=i
 have e:s.TypeIs (.ref d) "dict":=⟨od,b,h.1⟩
 refine wpAny_pyIter_slot e PySem.F.slot_dict_iter (wpAny_call_entry PySem.F.slot_dict_iter e PySem.F.entry_dict_iter ?_ (PySem.F.args_dict_iter_1 _))
 unfold Builtin.«dict.__iter__» Builtin.Dict.dictSlotNone
 refine ε (ε (wpAny_notOrdered_dict e ?_))
 refine π ?_
 show wpAny _ _ (Builtin.Dict.showsAll d >>= λ_=>_) _ _ s
 unfold Builtin.Dict.showsAll
 rw [if_neg (by rw [f];exact Bool.false_ne_true)]
 refine ε (π (ε (wpAny_dictEntries b g (ε (wpAny_dictEpoch b g ?_)))))
 refine ε (wpAny_newObj_type (π ⟨_,ϱ,"dict_keyiterator",_,⟨_,ψ _ rfl,ϱ⟩,PySem.F.slot_dict_keyiterator_next.lookup,?_⟩))
 simpa [rawInt] using j
theorem xZ{e:DictEntry}{Q:Option Value->Shared->Prop}(j:s.heap.IsKeyIter it d i es.size ep)(m:RawD s.heap d es ep)(o:es[i]?=some e)
  (q:∀h',h'.IsKeyIter it d (i+1) es.size ep->Heap.SameBut it s.heap h'->Q (some e.key) {s with heap:=h'}):wpAny (model prog w) A (pyNext (.ref it)) Q E s:=by
 obtain ⟨r,h1,l,hf⟩:=id j
 obtain ⟨od,g,_,h⟩:=m
 have f:=j.typeIs
 unfold pyNext
 refine ε (wpAny_attempt (wpAny_callSpecial?_slot (name:=Str.ofString "__next__") f PySem.F.slot_dict_keyiterator_next (wpAny_call_entry PySem.F.slot_dict_keyiterator_next f PySem.F.entry_dict_keyiterator_next ?_ (PySem.F.args_dict_keyiterator_next_1 _))))
 refine ε (π (ε (ε ?_)))
 first | refine ε (wpAny_typeNameOfWhole_keyiter f (π ?_)) | refine ε (wpAny_typeNameOf_keyiter f (π ?_))
 refine ε (wpAny_fieldsOf h1 hf ?_)
 simp only [pP,Bool.false_eq_true,if_false]
 show wpAny _ _ (if (Value.ref d==Value.none)=true then _ else (_:Sem (Option (Array DictEntry×Int)))) _ _ s
 rw [if_neg (show ¬((Value.ref d==Value.none)=true) by intro z;cases z)]
 refine ε (π (ε (wpAny_dictEntries g h ?_)))
 rw [if_neg (by simp)]
 refine ε (π (ε (wpAny_dictEpoch g h ?_)))
 rw [if_neg (by simp)]
 refine π ?_
 simp only [show ¬((i:Int)<0) by omega,if_false,Int.toNat_natCast,o]
 refine ε ?_
 first | refine ε (wpAny_typeNameOfWhole_keyiter f (π ?_)) | refine ε (wpAny_typeNameOf_keyiter f (π ?_))
 refine ε (wpAny_isOneOf_keyiter f ?_)
 show wpAny _ _ (setField (.ref it) 1 (rawInt ((i:Int)+1)) >>= λ_=>_) _ _ s
 refine wpAny_bind (wpAny_setField h1 hf (by simp) ?_)
 have b:(s.heap.update it (Obj.mapFields (·.setIfInBounds 1 (rawInt ((i:Int)+1))))).IsKeyIter it d (i+1) es.size ep :=
  ⟨_,Heap.get?_update_self _ h1 (Obj.isFreed_of_fields (Obj.data_mapFields hf _)),(Obj.cls_mapFields ..).trans l,by rw [Obj.data_mapFields hf];simp [rawInt]⟩
 refine ε (wpAny_holding (ε (wpAny_isOneOf_keyiter (s:={s with heap:=s.heap.update it (Obj.mapFields (·.setIfInBounds 1 (rawInt ((i:Int)+1))))}) b.typeIs ?_)))
 show wpAny _ _ (pure e.key) _ _ _
 exact π (π ⟨_,ϱ,π (q _ b (Heap.SameBut.update ..))⟩)
theorem Ab{Q:Option Value->Shared->Prop}(j:A.handled=none)(h:s.heap.IsKeyIter it d i es.size ep)(l:RawD s.heap d es ep)(o:es.size<=i)
  (q:∀h',Heap.ExtBut it s.heap h'->Q none {s with heap:=h'}):wpAny (model prog w) A (pyNext (.ref it)) Q E s:=by
 obtain ⟨r,h1,u,hf⟩:=id h
 obtain ⟨od,f,_,g⟩:=l
 have e:=h.typeIs
 unfold pyNext
 refine ε (wpAny_attempt (wpAny_callSpecial?_slot (name:=Str.ofString "__next__") e PySem.F.slot_dict_keyiterator_next (wpAny_call_entry PySem.F.slot_dict_keyiterator_next e PySem.F.entry_dict_keyiterator_next ?_ (PySem.F.args_dict_keyiterator_next_1 _))))
 refine ε (π (ε (ε ?_)))
 first | refine ε (wpAny_typeNameOfWhole_keyiter e (π ?_)) | refine ε (wpAny_typeNameOf_keyiter e (π ?_))
 refine ε (wpAny_fieldsOf h1 hf ?_)
 simp only [pP,Bool.false_eq_true,if_false]
 show wpAny _ _ (if (Value.ref d==Value.none)=true then _ else (_:Sem (Option (Array DictEntry×Int)))) _ _ s
 rw [if_neg (show ¬((Value.ref d==Value.none)=true) by intro z;cases z)]
 refine ε (π (ε (wpAny_dictEntries f g ?_)))
 rw [if_neg (by simp)]
 refine ε (π (ε (wpAny_dictEpoch f g ?_)))
 rw [if_neg (by simp)]
 refine π ?_
 simp only [show ¬((i:Int)<0) by omega,if_false,Int.toNat_natCast,Array.getElem?_eq_none o]
 refine ε ?_
 first | refine ε (wpAny_typeNameOfWhole_keyiter e (π ?_)) | refine ε (wpAny_typeNameOf_keyiter e (π ?_))
 show wpAny _ _ (setField (.ref it) 0 .none >>= λ_=>_) _ _ s
 refine wpAny_bind (wpAny_setField h1 hf (by simp) ?_)
 show wpAny _ _ (newExc (.type "StopIteration") [] >>= λ_=>_) _ _ _
 refine ε ?_
 simp only [newExc,newTuple]
 refine wpAny_bind (wpAny_newObj_type (wpAny_bind (m:=firstArgMember _ _) (wpAny_of_eq (a:=Value.none) (by first | rfl | (simp only [firstArgMember];rfl)) (wpAny_newObj_type ?_ (by size_fits)))) (by size_fits))
 simp only [raiseNew]
 refine ε (wpAny_handled ?_)
 rw [show A.in1.handled=none from j]
 refine ε (π (wpAny_throw ?_));refine ε (wpAny_isInstance (T:="StopIteration") (b:=true) ⟨_,ψ _ rfl,ϱ⟩ isSubtype_stop ?_)
 exact π (q _ (((Heap.SameBut.update ..).extBut.push _).push _))
end
def Fz(a:Addr)(o:Obj):HO:=.ext λh=>h.get? a=some o
def FzD(P:Program)(w:World)(H:Hp)(a:Addr)(o:Obj)(kvs:List (List Key×V)):Prop :=
 kvs.length<=sizeLine/\(a==sysModules)=false/\∃xs es ep,KT H kvs xs/\o.ExactDict/\o.data=.dict es ep/\es.toList=xs.map (entryOfKey (tupleKind (aJ P w)))/\(xs.map (·.1)).Nodup
theorem FzD.keep{P:Program}{w:World}{H H':Hp}{a:Addr}{o:Obj}{b:List (List Key×V)}(e:TSame H H')(f:FzD P w H a o b):FzD P w H' a o b:=by
 obtain ⟨z,d,g,h,i,r,q⟩:=f
 exact ⟨z,d,g,h,i,r.keeps e,q⟩
section
variable {X:Cx}{pins:List (Addr×Obj)}{σ:St}{H:Hp}{s:Shared}{a:Addr}{o:Obj}{kvs:List (List Key×V)}
theorem AX(I:Inv X pins σ H s)(e:H a=some (.dT kvs)):∃o,Inv X pins σ (upd H a (Fz a o)) s/\FzD X.prog X.w (upd H a (Fz a o)) a o kvs/\s.heap.get? a=some o:=by
 obtain ⟨z,d,f,r,o,g,h,h1,i,j,l,m⟩:=(show ObjOk X.prog X.w H s.heap a (.dT kvs) from I.hok a _ e)
 refine ⟨o,I.write (x:=a) (e:=a) (h':=s.heap) (t':=s.toks) (by rw [e];exact ϰ) (.inl rfl) (λb u _ q=>q) ⟨_,h1⟩ ⟨h1,⟨_,h1⟩,λg1 y p k=>k _ p⟩,⟨z,d,f,g,h,KT.keeps (H:=H) r λb C q=>?_,i,j,l,m⟩,h1⟩
 rw [am (gs q e (λz=>nomatch z))]
 exact q
theorem uG(I:Inv X pins σ H s)(e:H a=some (Fz a o))(f:FzD X.prog X.w H a o kvs):Inv X pins σ (upd H a (.dT kvs)) s:=by
 obtain ⟨z,d,g,h,i,r,j,l,m,y⟩:=f
 obtain ⟨h1,_⟩:=(show ObjOk X.prog X.w H s.heap a (Fz a o) from I.hok a _ e)
 refine I.write (x:=a) (e:=a) (h':=s.heap) (t':=s.toks) (by rw [e];exact ϰ) (.inl rfl) (λb u _ q=>q) ⟨_,h1⟩ ⟨z,d,g,r.keeps λb C q=>?_,o,h,i,h1,j,l,m,y⟩
 rw [am (gs q e (λz=>nomatch z))]
 exact q
theorem yX(I:Inv X pins σ H s)(e:H a=some (Fz a o))(f:FzD X.prog X.w H a o kvs):(a==sysModules)=false/\∃xs,KT H kvs xs/\s.heap.DictOfH (tupleKind (aJ X.prog X.w)) a xs:=by
 obtain ⟨_,d,xs,r,dd⟩:=qc (uG I e f).hok ae
 refine ⟨d,xs,r.keeps λb g q=>?_,dd⟩
 by_cases hb:b=a
 ·rw [hb,ae] at q
  cases q
 ·rw [am hb] at q
  exact q
end
def Bk(P:Program)(w:World)(t:TE):TE:=fun σ H Q=>t σ H λv H1=>∃a o kvs,H1 a=some (Fz a o)/\FzD P w H1 a o kvs/\Q v (upd H1 a (.dT kvs))
theorem yf{X:Cx}{e:Expr}{t:TE}(l:PE X e t):PE X e (Bk X.prog X.w t):=by
 intro b s σ H Q I h
 refine thn (l b s σ H _ I h) λu m ⟨x,H1,d,g,a,o,i,j,f,q⟩=>?_
 exact ⟨x,_,uG d j f,g,q⟩
def uL(P:Program)(w:World)(td ty:TE):TE:=fun σ H Q=>td σ H λx H1=>ty σ H1 λy H2=>∃a o kvs k b v,x=.ref a/\y=.ref b/\H2 a=some (Fz a o)/\FzD P w H2 a o kvs/\H2 b=some (.tup (List.map kV k))/\bu kvs k=some v/\Q v H2
theorem vx{X:Cx}{o i:Expr}{pos:Pos}{q r:TE}(hu:X.A.units+1<cLine)(ho:PE X o q)(hi:PE X i r)(hs:zf i):PE X (.Subscript o i pos) (uL X.prog X.w q r):=by
 intro d s σ H Q I h
 refine rO PySem.F.slot_dict_getitem.lookup hs (thn (ho d s σ H _ I h) λu G ⟨x,H1,J,K,q1⟩=>thn (hi d G σ H1 _ J q1) λL s2 ⟨y,O,m,P,a,ob,U,k,b,v,ex,W,Y,f,Z,l,q2⟩=>?_)
 subst ex W
 obtain rfl:u=Value.ref a:=K
 obtain rfl:L=Value.ref b:=P
 obtain ⟨_,z,e,dd⟩:=yX m Y f
 obtain ⟨w',C,g⟩:=RelO.some_of (v:=v) (o:=(atKey z k).map (·.2)) (by rw [← l];exact e.val k)
 obtain ⟨p,D,j⟩:=Option.map_eq_some_iff.mp C
 refine ⟨dd.typeIs,wpAny_getItem_heap (tupleKind_room_in1 hu) (gh m.hok Z) dd D ?_⟩
 rw [j]
 exact ⟨v,O,m.tok _,g,q2⟩
def Itk(a:Addr)(o:Obj):It :=
 ⟨λi H=>H a=some (Fz a o)/\∃es ep h b v,o.data=.dict es ep/\es[i]?=some ⟨h,.ref b,v⟩,λi H x H'=>H'=H/\∃es ep h b v,o.data=.dict es ep/\es[i]?=some ⟨h,.ref b,v⟩/\x=.ref b,
  λi H=>H a=some (Fz a o)/\∃es ep,o.data=.dict es ep/\es.size<=i⟩
theorem sW{P:Program}{w:World}{K:Frag}{tg:Expr}(a it:Addr)(o:Obj)(Q:o.ExactDict):rE P w K tg (Itk a o) [it] it (λi h=>∃es ep,o.data=.dict es ep/\h.IsKeyIter it a i es.size ep) where
 mem:=by simp
 obj:=λi h st b hb=>by
  have e:b=it:=by simpa using hb
  subst e
  obtain ⟨_,_,_,o,e,c,d⟩:=st
  exact ⟨o,e,λv z=>by rw [d] at z;cases z⟩
 keep:=λi h h' st k=>by
  obtain ⟨es,ep,d,st⟩:=st
  exact ⟨es,ep,d,st.at λo e=>k it (by simp) o e⟩
 item:=by
  intro X F G J O i j s σ H E I hf st L
  subst F G J
  obtain ⟨es,ep,g,st⟩:=st
  obtain ⟨e0,q,r,U,b,v,f,m⟩:=L
  rw [g] at f
  cases f
  obtain ⟨h1,_⟩:=(show ObjOk X.prog X.w H s.heap a (Fz a o) from I.hok a _ e0)
  obtain ⟨u,x,W,y,C,D⟩:=hf it (by simp)
  refine xZ st ⟨o,h1,Q,g⟩ m λh' l sb=>?_
  have Y:Inv X j σ H {s with heap:=h'}:=I.turned (t':=s.toks) (λb o hb e=>(sb.2 b hb).trans e) u x y C D
  obtain ⟨oi,e,c,d⟩:=id l
  exact ⟨.ref b,ϱ,mY (s:={s with heap:=h'}) e c d ζ ⟨.ref b,H,Y,ϱ,⟨ϱ,es,ep,U,b,v,g,m,ϱ⟩,⟨es,ep,g,l⟩,λb hb=>(hf b hb).1⟩⟩
 done:=by
  intro X F G J O i j s σ H E I hf st L
  subst F G J
  obtain ⟨es,ep,g,st⟩:=st
  obtain ⟨e0,q,r,f,m⟩:=L
  rw [g] at f
  cases f
  obtain ⟨h1,_⟩:=(show ObjOk X.prog X.w H s.heap a (Fz a o) from I.hok a _ e0)
  obtain ⟨u,x,W,y,C,D⟩:=hf it (by simp)
  exact Ab (I.ok.hd O) st ⟨o,h1,Q,g⟩ m λh' Z=>⟨ϱ,I.turned (t':=s.toks) (λb o hb e=>Z b o hb e) u x y C D⟩
 self:=λ_ _ _ _ _ st h=>by
  obtain ⟨es,ep,g,st⟩:=st
  exact wpAny_pyIter_keyiter st h
def B0(P:Program)(w:World)(tl:TE):TI:=fun σ H R=>tl σ H λx H1=>∃a kvs,x=.ref a/\H1 a=some (.dT kvs)/\∀o,FzD P w (upd H1 a (Fz a o)) a o kvs->R (Itk a o) (upd H1 a (Fz a o))
theorem ye{X:Cx}{J l:Expr}{tl:TE}(K:PE X l tl):PI X J l (B0 X.prog X.w tl):=by
 intro d s σ H R I h
 refine thn (K d s σ H _ I h) λv g ⟨x,H1,D,F,q1⟩=>?_
 obtain ⟨a,r,e,u,q⟩:=q1
 subst e
 cases F
 obtain ⟨o,i,f,h1⟩:=AX D u
 obtain ⟨_,y,L,z,C,_,j,m,_,_⟩:=id f
 refine ya y ⟨o,h1,j,m⟩ ?_
 refine ⟨g.heap.objs.size,[g.heap.objs.size],_,_,_,ϱ,i.kept (t':=g.toks) λb o e=>ρ _ e,sW a _ o j,⟨z,C,m,_,ψ _ rfl,ϱ,ϱ⟩,λb G=>?_,q o f⟩
 have e:b=g.heap.objs.size:=by simpa using G
 subst e
 exact i.fpOk (ι _) (i.hok.fresh (ι _))
section
variable {P:Program}{w:World}{a:Addr}{o:Obj}{kvs:List (List Key×V)}{tt:TT}{te:TE}{bl:St}{Fin:List V->Hp->Prop}{H:Hp}
theorem yO(f:FzD P w H a o kvs)(d:Nat->List V->Hp->Prop)(h0:d 0 [] H)(X:∀i ys H',i<=kvs.length->d i ys H'->H' a=some (Fz a o)/\TSame H H')
  (Y:∀i e b ys H',kvs[i]?=some e->H' b=some (.tup (e.1.map kV))->d i ys H'->tt (some (.ref b)::bl) H' λc H2=>if c=true then te (some (.ref b)::bl) H2 λy H3=>d (i+1) (ys++[y]) H3 else d (i+1) ys H2)
  (Z:∀ys H',d kvs.length ys H'->Fin ys H') :
  ∃(W:Nat->List V->Hp->Prop) (n:Nat),W 0 [] H/\n<=sizeLine/\∀i ys H,W i ys H->((Itk a o).stop i H/\Fin ys H) \/
   ((Itk a o).go i H/\i<n/\∀x H',(Itk a o).yld i H x H'->tt (some x::bl) H' λc H2=>if c=true then te (some x::bl) H2 λy H3=>W (i+1) (ys++[y]) H3 else W (i+1) ys H2):=by
 obtain ⟨D,_,xs,l,m,r,hx,g,u,_⟩:=f
 have K:l.size=kvs.length:=by rw [size_of_entries u];exact (Paired.length r).symm
 refine ⟨λi ys H'=>i<=kvs.length/\d i ys H',kvs.length,⟨ϖ _,h0⟩,D,?_⟩
 rintro i ys H' ⟨U,p⟩
 obtain ⟨q,ts⟩:=X i ys H' U p
 by_cases hlt:i<kvs.length
 ·obtain ⟨y,F,G⟩:=r.get1 (ξ hlt)
  have C:l[i]?=some (entryOfKey (tupleKind (aJ P w)) y):=by rw [entry_at u,F];rfl
  refine .inr ⟨⟨q,l,m,_,y.2.1,y.2.2,g,C⟩,hlt,λx H2 z=>?_⟩
  obtain ⟨e,I,J,hh,b,v,h,j,ex⟩:=z
  subst e ex
  rw [g] at h
  cases h
  rw [C] at j
  have L:y.2.1=b:=by
   have:=congrArg DictEntry.key (Δ j)
   exact Value.ref.inj this
  subst L
  have z:=Y i kvs[i] y.2.1 ys H2 (ξ hlt) (ts _ _ G.2.1) p
  have O:(λ(c:Bool) (H2:Hp)=>if c=true then te (some (.ref y.2.1)::bl) H2 λy H3=>i+1<=kvs.length/\d (i+1) (ys++[y]) H3 else i+1<=kvs.length/\d (i+1) ys H2)=λc H2=>if c=true then te (some (.ref y.2.1)::bl) H2 λy H3=>d (i+1) (ys++[y]) H3 else d (i+1) ys H2:=by
   have Q:(i+1<=kvs.length)=True:=eq_true hlt
   funext c H2
   simp only [Q,true_and]
  show tt _ _ _
  rw [O]
  exact z
 ·have e:i=kvs.length:=by omega
  subst e
  exact .inl ⟨⟨q,l,m,g,ω⟩,Z ys H' p⟩
end
def Vw(v d:Addr):HO:=.ext λh=>h.IsItemsView v d
def zQ(td:TE):TE:=fun σ H Q=>td σ H λx H1=>∃a kvs,x=.ref a/\H1 a=some (.dT kvs)/\∀v,H1 v=none->Q (.ref v) (upd H1 v (Vw v a))
theorem vv{X:Cx}{o:Expr}{b d:Pos}{y:TE}(K:PE X o y)(f:attributeBase o "items" X.env (eval o X.env)=eval o X.env:=by rfl)(g:(b.endLine==d.line)=true:=by rfl) :
  PE X (.Call (.Attribute o "items" b) [] [] d) (zQ y):=by
 intro j s σ H Q I h
 refine wpAny_Call_method0_late f g (thn (K j s σ H _ I h) λu i ⟨x,H1,m,G,a,w,ex,e,q⟩=>?_)
 subst ex
 obtain rfl:u=Value.ref a:=G
 obtain ⟨l,C,D⟩:=iD m (.inr ⟨w,.inl e⟩)
 refine ⟨"dict","dict.items",PySem.F.plainAttrs_dict,PySem.F.slot_dict_items,PySem.F.type_dict_items,l,C,Calls.callWith_builtin rfl (PySem.evalArgs_none ?_)⟩
 refine wpAny_call_entry PySem.F.slot_dict_items l PySem.F.entry_dict_items ?_ (PySem.F.args_dict_items_1 _)
 unfold Builtin.«dict.items» Builtin.Dict.noArgs
 refine ε (ε (wpAny_notOrdered_dict l (π ?_)))
 show wpAny _ _ (Builtin.Dict.showsAll a >>= λ_=>_) _ _ i
 unfold Builtin.Dict.showsAll
 rw [if_neg (by rw [D];exact Bool.false_ne_true)]
 refine ε (π (ε (wpAny_newObj_type (π ⟨_,ϱ,?_⟩))))
 refine ⟨.ref i.heap.objs.size,_,m.laid (a:=i.heap.objs.size) (o:=Vw i.heap.objs.size a) (t':=i.toks) (λ_ _ z=>ρ _ z) (ι _) ⟨⟨_,ψ _ rfl,ϱ,ϱ⟩,⟨_,ψ _ rfl⟩,λg1 L ⟨J,p,r⟩ k=>⟨J,k _ p,r⟩⟩,ϱ,q _ (m.hok.fresh (ι _))⟩
theorem hZ{α β:Type}{F:α->β->Prop}:∀{xs:List α} {ys:List β},xs.length=ys.length->(∀(i:Nat) x y,xs[i]?=some x->ys[i]?=some y->F x y)->Paired F xs ys
 | [],[],_,_=>.nil
 | x::xs,y::ys,h,f=>.cons (f 0 x y rfl rfl) (hZ (Nat.succ.inj h) λi a b e1 e2=>f (i+1) a b e1 e2)
def jX(H:Hp)(ts:List (Addr×List V)):Hp:=λb=>match ts.find? (λp=>decide (p.1=b)) with | some p=>some (.tup p.2) | none=>H b
theorem xz{H:Hp}{ts:List (Addr×List V)}(nd:(ts.map (·.1)).Nodup){p:Addr×List V}(b:p∈ts):jX H ts p.1=some (.tup p.2):=by
 unfold jX
 have:ts.find? (λq=>decide (q.1=p.1))=some p:=by
  induction ts with
  | nil=>cases b
  | cons x r ih =>
   rw [List.map_cons,List.nodup_cons] at nd
   rw [List.find?_cons]
   by_cases e:x.1=p.1
   ·rw [τ e]
    rcases ϕ.mp b with z | z
    ·rw [z]
    ·exact absurd (ϑ.mpr ⟨p,z,e.symm⟩) nd.1
   ·rw [Γ e]
    rcases ϕ.mp b with z | z
    ·exact absurd (by rw [z]) e
    ·exact ih nd.2 z
 rw [this]
theorem rM{H:Hp}{ts:List (Addr×List V)}{b:Addr}(h:∀p∈ts,p.1≠b):jX H ts b=H b:=by
 unfold jX
 have:ts.find? (λq=>decide (q.1=b))=none:=List.find?_eq_none.mpr λp d c=>h p d (Ξ c)
 rw [this]
theorem uy{H:Hp}{ts:List (Addr×List V)}{b:Addr}{o:HO}(h:jX H ts b=some o):(∃p∈ts,p.1=b/\o=.tup p.2)\/((∀p∈ts,p.1≠b)/\H b=some o):=by
 unfold jX at h
 cases e:ts.find? (λq=>decide (q.1=b)) with
 | none =>
  rw [e] at h
  exact .inr ⟨λp d z=>List.find?_eq_none.mp e p d (τ z),h⟩
 | some p =>
  rw [e] at h
  exact .inl ⟨p,List.mem_of_find?_eq_some e,by simpa using List.find?_some e,(Option.some.inj h).symm⟩
section
variable {X:Cx}{pins:List (Addr×Obj)}{σ:St}{H:Hp}{s:Shared}
theorem BS{h':Heap}{l:Nat}{ts:List (Addr×List V)}(I:Inv X pins σ H s)(k:∀b o,s.heap.get? b=some o->h'.get? b=some o)(new:∀p∈ts,s.heap.objs.size<=p.1)
  (ok:∀p∈ts,p.2.length<=sizeLine/\∃its,Vals p.2 its/\IsTup h' p.1 (List.toArray its)):Inv X pins σ (jX H ts) {s with heap:=h',toks:=l}:=by
 have old:∀b o,s.heap.get? b=some o->jX H ts b=H b:=λb o e=>rM λp j z=>by
  subst z
  exact Nat.not_le_of_gt (η e) (new p j)
 have f:∀b o,H b=some o->jX H ts b=H b:=λb o e=>by
  obtain ⟨g,h⟩:=(I.hok b o e).there
  exact old b g h
 refine I.step (h':=h') (g':=s.gens) (d':=s.drawn) (t':=l) (ch:=[]) (λ_ z=>nomatch z) (λb o _ _ _ e _=>k b o e) (λb o _ _ _ e _=>⟨o.slots,k b o e⟩) (λb o _ e n=>by rw [old b o e];exact n)
  (λb o _ e=>⟨o,k b o e⟩) (λb y e=>by rw [f b _ e];exact e) (λb o u e=>by rw [f b _ e];exact e) (λb D e=>⟨#[],by rw [f b _ e,e];simp⟩) (λm C=>?_) (λb o e=>?_) I.bare
 ·obtain ⟨g,w,x,i,r⟩:=C
  exact ⟨g,w,x,k _ g i,r⟩
 ·rcases uy e with ⟨p,j,rfl,rfl⟩ | ⟨hn,h⟩
  ·exact ok p j
  ·exact (I.hok b o h).stay (λd v _ q=>k d v q) (λd q=>by rw [f d _ q];exact q) λd y q=>by rw [f d _ q];exact q
end
end L2
namespace Lo
open PySem L2
end Lo
namespace L2
open PySem PySem.Spec PyProof.Rows
theorem oU{K:Frag}{H:Hp}{a:Addr}(n:Nat):EqIs K n H (.ref a) (.ref a) true:=λP w A s u v hA hok kin r1 r2=>by
 cases r1
 cases r2
 exact SeqAt.EqAt.same _
theorem eq_int{K:Frag}{H:Hp}(n:Nat)(i:Int):EqIs K n H (.int i) (.int i) true:=by
 have z:=(cInt.eq (K:=K) (H:=H) (x:=i) (y:=i) rfl rfl).mono (ϖ n)
 rwa [τ rfl] at z
theorem eq_str{K:Frag}{H:Hp}(n:Nat)(i:Str):EqIs K n H (.str i) (.str i) true:=by
 have z:=(cStr.eq (K:=K) (H:=H) (x:=i) (y:=i) rfl rfl).mono (ϖ n)
 rwa [τ rfl] at z
theorem gj{K:Frag}{H:Hp}{a b:Addr}{n:Nat}{us vs:List V}(o:SqT K H a us)(q:SqT K H b vs)(h:Paired (λx y=>EqIs K n H x y true) us vs):EqIs K (n+1) H (.ref a) (.ref b) true/\um K (n+1) H (.ref a) (.ref b) true:=by
 obtain ⟨d,f⟩:=uE (e:=λ_=>true) o q h.len λj x y l m=>by
  obtain ⟨v,g,i⟩:=h.get1 l
  rw [m] at g
  cases g
  exact i
 have e:((List.range us.length).all λ_=>true)=true:=by simp
 rw [e] at d f
 exact ⟨lV d λ_ _ _ _ _ _=>rfl,f⟩
end L2
namespace Lo
open PySem L2
structure TxH(K:Frag)(CH:Addr):Prop where
 cl:Cls K CH
 ht:NoAttr K CH "stand"
 hw:NoAttr K CH "rows"
 hs:NoAttr K CH "sent"
 hl:NoAttr K CH "latest"
structure Ah where
 (l dx rw sn:Addr)
def hf(S:Addr)(h:Ah)(v:V):List (Str×V):=ay "latest" v (ay "sent" (.ref h.sn) (ay "rows" (.ref h.rw) (ay "stand" (.ref S) [])))
theorem lq(f:Str)(v v':V):∀fs:List (Str×V),ay f v' (ay f v fs)=ay f v' fs
 | []=>by
  show (if f=f then _ else _)=_
  rw [if_pos rfl]
  rfl
 | (g,x)::r=>by
  by_cases e:g=f
  ·show ay f v' (if g=f then _ else _)=(if g=f then _ else _)
   rw [if_pos e,if_pos e]
   show (if g=f then _ else _)=_
   rw [if_pos e]
  ·show ay f v' (if g=f then _ else _)=(if g=f then _ else _)
   rw [if_neg e,if_neg e]
   show (if g=f then _ else _)=_
   rw [if_neg e,lq f v v' r]
theorem AV(S:Addr)(h:Ah)(v v':V):ay "latest" v' (hf S h v)=hf S h v':=lq _ _ _ _
theorem zF(S:Addr)(h:Ah)(v:V):(hf S h v).lookup ("latest":Str)=some v:=by
 unfold hf
 rw [al,if_pos rfl]
theorem zD(S:Addr)(h:Ah)(v:V):(hf S h v).lookup ("sent":Str)=some (.ref h.sn):=by
 unfold hf
 rw [al,if_neg θ,al,if_pos rfl]
theorem zE(S:Addr)(h:Ah)(v:V):(hf S h v).lookup ("rows":Str)=some (.ref h.rw):=by
 unfold hf
 rw [al,if_neg θ,al,if_neg θ,al,if_pos rfl]
theorem wJ(S:Addr)(h:Ah)(v:V):(hf S h v).lookup ("stand":Str)=some (.ref S):=by
 unfold hf
 rw [al,if_neg θ,al,if_neg θ,al,if_neg θ,al,if_pos rfl]
theorem fq{S:Addr}{h:Ah}{v:V}{m:Str}(q:decide (m∈(["latest","sent","rows","stand"]:List Str))=false):(hf S h v).lookup m=none:=by
 have b:m∉(["latest","sent","rows","stand"]:List Str):=of_decide_eq_false q
 simp only [List.mem_cons,List.not_mem_nil,or_false,not_or] at b
 obtain ⟨h1,d,e,f⟩:=b
 unfold hf
 rw [al,if_neg h1,al,if_neg d,al,if_neg e,al,if_neg f]
 rfl
theorem AW(S:Addr)(h:Ah)(v:V):(hf S h v).length<1000:=bj (n:=999) (bj (n:=998) (bj (n:=997) (bj (n:=996) (by show 0<996;decide))))
abbrev Ws:=Int×Str×Addr×Addr
def WsAt(H:Hp)(x:Ws)(u:V):Prop:=∃t t2,u=.ref t/\H t=some (.tup [.int x.1,.ref t2])/\H t2=some (.tup [.str x.2.1,.ref x.2.2.1,.ref x.2.2.2])
theorem WsAt.keep{H H':Hp}{x:Ws}{u:V}(e:TSame H H')(h:WsAt H x u):WsAt H' x u:=by
 obtain ⟨t,b,rfl,h1,d⟩:=h
 exact ⟨t,b,ϱ,e _ _ h1,e _ _ d⟩
def Im(CH CL:Addr):HO->Prop
 | .tup _=>True
 | .ins c _ fs=>fs≠[]/\c≠CH/\c≠CL
 | .ext _=>True
 | .frz _ (.tup _)=>True
 | _=>False
abbrev Cs:=List (Addr×HO)
def ad(L:Cs):List Addr:=L.map (·.1)
structure Ow(CH CL:Addr)(N:List Addr)(H0 H:Hp)(L:Cs):Prop where
 co:∀x∈L,H x.1=some x.2
 nd:(ad L).Nodup
 mu:∀x∈L,∀u,H0 x.1=some u->¬Im CH CL u
 nw:∀x∈L,x.1∈N\/H0 x.1=none
 fr:∀b o,b∉N->H0 b=some o->H b=some o
 im:∀b o,H0 b=some o->Im CH CL o->H b=some o
section
variable {CH CL:Addr}{N:List Addr}{H0 H H':Hp}{L L' L2:Cs}{a b:Addr}{o o':HO}
theorem Ow.ts(g:Ow CH CL N H0 H L):TSame H0 H:=λb xs e=>g.im b _ e ϰ
theorem Ow.mk0(co:∀x∈L,H x.1=some x.2)(nd:(ad L).Nodup)(nm:∀x∈L,¬Im CH CL x.2):Ow CH CL (ad L) H H L :=
 ⟨co,nd,λx hx u e=>by rw [co x hx] at e;cases e;exact nm x hx,λx hx=>.inl (ϑ.mpr ⟨x,hx,ϱ⟩),λ_ _ _ e=>e,λ_ _ e _=>e⟩
theorem Ow.self(g:Ow CH CL N H0 H L)(nm:∀x∈L,¬Im CH CL x.2):Ow CH CL (ad L) H H L:=.mk0 g.co g.nd nm
theorem Ow.same(g:Ow CH CL N H0 H L)(e:Same H H'):Ow CH CL N H0 H' L :=
 ⟨λx hx=>e _ _ (g.co x hx),g.nd,g.mu,g.nw,λb o n z=>e _ _ (g.fr b o n z),λb o z i=>e _ _ (g.im b o z i)⟩
theorem Ow.trans(g:Ow CH CL N H0 H L)(d:Ow CH CL (ad L) H H' L'):Ow CH CL N H0 H' L':=by
 refine ⟨d.co,d.nd,λx h u e i=>d.mu x h u (g.im _ _ e i) i,λx h=>?_,λb o n e=>?_,λb o e i=>d.im b o (g.im b o e i) i⟩
 ·rcases d.nw x h with m | m
  ·obtain ⟨y,f,e⟩:=ϑ.mp m
   rw [← e]
   exact g.nw y f
  ·by_cases n:x.1∈N
   ·exact .inl n
   ·cases e:H0 x.1 with
    | none=>exact .inr rfl
    | some u=>rw [g.fr _ _ n e] at m;cases m
 ·refine d.fr b o (λj=>?_) (g.fr b o n e)
  obtain ⟨y,f,z⟩:=ϑ.mp j
  rcases g.nw y f with m | m
  ·exact n (z▸m)
  ·rw [show y.1=b from z,e] at m;cases m
theorem Ow.kp(g:Ow CH CL N H0 H L)(i:Nat)(h:L[i]?=some (a,o))(k:Kp a H H')(e:H' a=some o'):Ow CH CL N H0 H' (L.set i (a,o')):=by
 have r:=List.mem_of_getElem? h
 have C:ad (L.set i (a,o'))=ad L:=by
  unfold ad
  rw [List.map_set]
  refine List.ext_getElem? λj=>?_
  rw [List.getElem?_set]
  by_cases q:i=j
  ·rw [if_pos q,if_pos (by rw [ν];exact (List.getElem?_eq_some_iff.mp h).1),← q,List.getElem?_map,h]
   rfl
  ·rw [if_neg q]
 have D:∀x∈L.set i (a,o'),∃y∈L,y.1=x.1:=λx f=>by
  have:x.1∈ad L:=C▸ϑ.mpr ⟨x,f,ϱ⟩
  exact ϑ.mp this
 refine ⟨λx f=>?_,C▸g.nd,λx f=>?_,λx f=>?_,λb u n z=>?_,λb u z w=>k b u (λy=>g.mu _ r u (by show H0 a=some u;rw [← y];exact z) w) (g.im b u z w)⟩
 ·obtain ⟨j,d⟩:=List.mem_iff_getElem?.mp f
  rw [List.getElem?_set] at d
  by_cases q:i=j
  ·rw [if_pos q] at d
   split at d
   ·cases d
    exact e
   ·cases d
  ·rw [if_neg q] at d
   refine k _ _ (λz=>q ?_) (g.co x (List.mem_of_getElem? d))
   have F:(ad L)[i]?=some a:=by unfold ad;rw [List.getElem?_map,h];rfl
   have G:(ad L)[j]?=some a:=by unfold ad;rw [List.getElem?_map,d];show some x.1=some a;rw [z]
   exact (List.getElem?_inj (List.getElem?_eq_some_iff.mp F).1 g.nd).mp (F.trans G.symm)
 ·obtain ⟨y,l,q⟩:=D x f
  rw [← q]
  exact g.mu y l
 ·obtain ⟨y,l,q⟩:=D x f
  rw [← q]
  exact g.nw y l
 ·refine k b u (λy=>?_) (g.fr b u n z)
  rcases g.nw _ r with m | m
  ·exact n (y▸m)
  ·rw [show (a,o).1=b from y.symm,z] at m;cases m
theorem Ow.up(g:Ow CH CL N H0 H L)(i:Nat)(o':HO)(hi:L[i]?=some (a,o)):Ow CH CL N H0 (upd H a o') (L.set i (a,o')):=g.kp i hi cm ae
theorem Ow.old(g:Ow CH CL N H0 H L)(h:H b=none):b∈N\/H0 b=none:=by
 by_cases n:b∈N
 ·exact .inl n
 ·cases e:H0 b with
  | none=>exact .inr rfl
  | some u=>rw [g.fr _ _ n e] at h;cases h
theorem Ow.free(g:Ow CH CL N H0 H L)(h:H b=none):b∉ad L:=λhm=>by
 obtain ⟨y,hy,z⟩:=ϑ.mp hm
 have:=g.co y hy
 rw [show y.1=b from z,h] at this
 cases this
theorem Ow.add(g:Ow CH CL N H0 H L)(h:H a=none)(e:Same H H')(q:H' a=some o):Ow CH CL N H0 H' (L++[(a,o)]):=by
 have g1:=g.same e
 have d:=g.free h
 refine ⟨λx b=>?_,?_,λx b=>?_,λx b=>?_,g1.fr,g1.im⟩
 ·rcases List.mem_append.mp b with m | m
  ·exact g1.co x m
  ·rw [ϵ.mp m];exact q
 ·unfold ad
  rw [List.map_append,List.nodup_append]
  exact ⟨g.nd,by simp,λx b y f=>by rw [List.mem_singleton.mp f];exact λz=>d (by rw [← show x=a from z];exact b)⟩
 ·rcases List.mem_append.mp b with m | m
  ·exact g.mu x m
  ·rw [ϵ.mp m]
   exact λu z i=>by rw [g.im a u z i] at h;cases h
 ·rcases List.mem_append.mp b with m | m
  ·exact g.nw x m
  ·rw [ϵ.mp m];exact g.old h
theorem Ow.new(g:Ow CH CL N H0 H L)(h:H a=none)(o:HO):Ow CH CL N H0 (upd H a o) (L++[(a,o)]):=g.add h (ag h) ae
theorem Ow.part(g:Ow CH CL N H0 H L)(nd:(ad L').Nodup)(s:∀x∈L',x∈L):Ow CH CL N H0 H L' :=
 ⟨λx hx=>g.co x (s x hx),nd,λx hx=>g.mu x (s x hx),λx hx=>g.nw x (s x hx),g.fr,g.im⟩
theorem Ow.tail(g:Ow CH CL N H0 H (L++L')):Ow CH CL N H0 H L':=g.part (by have:=g.nd;unfold ad at this ⊢;rw [List.map_append] at this;exact (List.nodup_append.mp this).2.1) λx hx=>List.mem_append_right _ hx
theorem Ow.join(g:Ow CH CL N H0 H L)(f:Ow CH CL [] H H' L2):Ow CH CL N H0 H' (L2++L):=by
 have s:Same H H':=λb o e=>f.fr b o (λz=>nomatch z) e
 have g1:=g.same s
 have j:∀x∈L2,H x.1=none:=λx d=>(f.nw x d).resolve_left λz=>nomatch z
 refine ⟨λx d=>(List.mem_append.mp d).elim (f.co x) (g1.co x),?_,λx d=>(List.mem_append.mp d).elim (λm u e i=>?_) (g.mu x),λx d=>(List.mem_append.mp d).elim (λm=>g.old (j x m)) (g.nw x),g1.fr,g1.im⟩
 ·unfold ad
  rw [List.map_append,List.nodup_append]
  refine ⟨f.nd,g.nd,λx d y q z=>?_⟩
  obtain ⟨l,h,rfl⟩:=ϑ.mp d
  exact g.free (j l h) (z▸q)
 ·have:=j x m
  rw [g.im _ _ e i] at this
  cases this
theorem Ow.born(g:Ow CH CL [a] H H' L)(e:Same H0 H)(n:H0 a=none):Ow CH CL [] H0 H' L:=by
 have s:Same H0 H':=λb o z=>g.fr b o (λy=>by rw [ϵ.mp y,n] at z;cases z) (e _ _ z)
 have f:∀x∈L,H0 x.1=none:=λx d=>by
  rcases g.nw x d with m | m
  ·rw [ϵ.mp m];exact n
  ·cases z:H0 x.1 with
   | none=>rfl
   | some u=>rw [e _ _ z] at m;cases m
 exact ⟨g.co,g.nd,(λx d u z=>by rw [f x d] at z;cases z),λx d=>.inr (f x d),λb o _ z=>s b o z,λb o z _=>s b o z⟩
end
section
variable {CH CL:Addr}{N:List Addr}{H0 H H':Hp}{L L' R S X O:Cs}{a b l dx c:Addr}{fs fs':List (Str×V)}{o o':HO}
theorem Ow.fld(g:Ow CH CL N H0 H ((l,.ins c dx fs)::R))(n:H b=none)(o:HO)(fs':List (Str×V)):(upd H b o) l=some (.ins c dx fs)/\Ow CH CL N H0 (upd (upd H b o) l (.ins c dx fs')) ((l,.ins c dx fs')::(R++[(b,o)])) :=
 ⟨(g.new n o).co _ (.head _),(g.new n o).up 0 _ rfl⟩
theorem Ow.sub(g:Ow CH CL N H0 H L)(s:L'.Sublist L):Ow CH CL N H0 H L':=g.part ((s.map _).nodup g.nd) λ_ hx=>s.subset hx
theorem Ow.perm(g:Ow CH CL N H0 H L)(s:L'.Perm L):Ow CH CL N H0 H L':=g.part ((s.map _).nodup_iff.mpr g.nd) λ_ hx=>s.subset hx
theorem Ow.swap(g:Ow CH CL N H0 H (X++(S++O))):Ow CH CL N H0 H (S++X):=(g.sub (List.Sublist.append (.refl _) (List.sublist_append_left _ _))).perm List.perm_append_comm
theorem Ow.repl{A B:Cs}{x y:Addr×HO}(g:Ow CH CL N H0 H (A++(x::(B++[y])))):Ow CH CL N H0 H (A++(y::B)):=(g.sub (List.Sublist.append (.refl _) (.cons _ (.refl _)))).perm (.append_left _ (List.perm_append_singleton _ _).symm)
theorem Ow.two(h1:H a=none)(f:H b=none)(ne:a≠b)(e:Same H H')(q1:H' a=some o)(q2:H' b=some o'):Ow CH CL [] H H' [(a,o),(b,o')]:=by
 have m:∀x∈[(a,o),(b,o')],H x.1=none/\H' x.1=some x.2:=λx d=>by
  rcases ϕ.mp d with z | z
  ·subst z;exact ⟨h1,q1⟩
  ·rw [ϵ.mp z];exact ⟨f,q2⟩
 exact ⟨λx d=>(m x d).2,by simp [ad,ne],(λx d u z=>by rw [(m x d).1] at z;cases z),λx d=>.inr (m x d).1,λb o _=>e b o,λb o z _=>e b o z⟩
end
abbrev ImS(CH CL:Addr)(H H':Hp):Prop:=∀b o,H b=some o->Im CH CL o->H' b=some o
section
variable {CH CL a:Addr}{H H' H2:Hp}{o:HO}
theorem gZ(k:Kp a H H')(e:H a=some o)(n:¬Im CH CL o):ImS CH CL H H':=λb u q i=>k b u (λz=>by rw [z,e] at q;cases q;exact n i) q
theorem cK(e:Same H H'):ImS CH CL H H':=λb u q _=>e b u q
theorem ImS.ts(e:ImS CH CL H H'):TSame H H':=λb xs q=>e b _ q ϰ
theorem ImS.trans(e:ImS CH CL H H')(e2:ImS CH CL H' H2):ImS CH CL H H2:=λb u q i=>e2 b u (e b u q i) i
end
theorem ip{C l dl:Addr}{H:Hp}(nl:H l=none)(nd:H dl=none):Same H (upd (upd H dl (.own l)) l (.ins C dl [])):=λb o e=>by
 rw [am (ap e nl),am (ap e nd)]
 exact e
theorem jg{H:Hp}{a:Addr}{o o':HO}(e:H a=some o)(n:∀xs,o≠.tup xs:=by intro xs z;cases z):TSame H (upd H a o'):=λb xs q=>by
 rw [am (λz=>by rw [z,e] at q;exact n xs (Δ q))]
 exact q
section
variable {α:Type}{a b c d e f g h i j k l m n:α}{r:List α}
theorem j0:a∈a::r:=.head _
theorem j1:b∈a::b::r:=.tail _ j0
theorem j2:c∈a::b::c::r:=.tail _ j1
theorem j3:d∈a::b::c::d::r:=.tail _ j2
theorem j4:e∈a::b::c::d::e::r:=.tail _ j3
theorem j5:f∈a::b::c::d::e::f::r:=.tail _ j4
theorem j6:g∈a::b::c::d::e::f::g::r:=.tail _ j5
end
end Lo
namespace Km
open PySem PySem.NumText PyProof.Rows
def p8(c:Nat):Bool:=decide (48<=c)&&decide (c<=57)
def qR(c:Nat):Bool:=decide (32<=c)&&decide (c<=126)&&decide (c≠37)
def bq(m:Nat):List Nat:=(Nat.toDigits 10 m).map Char.toNat
def bY(n:Int):List Nat:=if n<0 then 45::bq n.natAbs else bq n.natAbs
theorem fz(m:Nat):AllDigits (bq m):=by
 intro c d
 obtain ⟨f,b,e⟩:=ϑ.mp d
 have r:=digit_range (Nat.isDigit_of_mem_toDigits ζ ζ b)
 rw [← e]
 exact r
theorem ja(m:Nat):bq m≠[]:=by
 intro e
 have h:=toDigits_len_ge 10 m
 rw [List.map_eq_nil_iff.mp e] at h
 exact absurd h ζ
theorem fw(m:Nat):digitsVal (bq m)=m:=PySem.W.KIN.val_back m
theorem ud:bq 0=[48]:=rfl
theorem ue(m:Nat)(h:m≠0):∀c r,bq m=c::r->c≠48:=by
 induction m using Nat.strongRecOn with
 | _ m ih =>
  intro c r e
  by_cases hm:m<10
  ·unfold bq at e
   rw [Nat.toDigits_of_lt_base hm] at e
   have f:(Nat.digitChar m).toNat=c:=by simpa using (List.cons.inj e).1
   have b:∀d:Nat,d<10->d≠0->(Nat.digitChar d).toNat≠48:=by decide
   rw [← f]
   exact b m hm h
  ·have t:Nat.toDigits 10 (m/10)++Nat.toDigits 10 (m%10)=Nat.toDigits 10 (10*(m/10)+m%10):=Nat.toDigits_append_toDigits ζ ω (Nat.mod_lt m ζ)
   rw [Nat.div_add_mod] at t
   have g:bq m=bq (m/10)++bq (m%10):=by unfold bq;rw [← t,List.map_append]
   cases q:bq (m/10) with
   | nil=>exact absurd q (ja _)
   | cons c' r' =>
    rw [g,q] at e
    have:c'=c:=(List.cons.inj e).1
    rw [← this]
    exact ih (m/10) ω ω c' r' q
theorem l0{m k:Nat}(g:1<=k)(h:m<10 ^ k):(bq m).length<=k:=by
 induction k generalizing m with
 | zero=>omega
 | succ k ih =>
  by_cases hm:m<10
  ·unfold bq
   rw [Nat.toDigits_of_lt_base hm]
   simp
  ·have b:1<=k:=by
    cases k with
    | zero=>exfalso;simp at h;omega
    | succ k=>omega
   have t:Nat.toDigits 10 (m/10)++Nat.toDigits 10 (m%10)=Nat.toDigits 10 (10*(m/10)+m%10):=Nat.toDigits_append_toDigits ζ ω (Nat.mod_lt m ζ)
   rw [Nat.div_add_mod] at t
   have d:bq m=bq (m/10)++bq (m%10):=by unfold bq;rw [← t,List.map_append]
   have e:bq (m%10)=[(Nat.digitChar (m%10)).toNat]:=by unfold bq;rw [Nat.toDigits_of_lt_base (Nat.mod_lt m ζ)];rfl
   have f:m/10<10 ^ k:=by
    rw [Nat.pow_succ] at h
    exact Nat.div_lt_of_lt_mul (by rw [Nat.mul_comm];exact h)
   have:=ih b f
   rw [d,e,List.length_append]
   simpa using this
theorem nJ(n:Int):(Str.ofString (toString n)).cps.toList=bY n:=by
 cases n with
 | ofNat m =>
  unfold bY
  rw [if_neg (show ¬Int.ofNat m<0 from Int.not_lt.mpr (Int.natCast_nonneg m))]
  exact PySem.W.KIN.signs_num m
 | negSucc m =>
  unfold bY
  rw [if_pos ω]
  have e:toString (Int.negSucc m)="-"++Nat.repr (m+1):=rfl
  rw [e,signs_ofString,String.toList_append,List.map_append,Nat.toList_repr]
  rfl
end Km
namespace Km
open PySem PySem.NumText L2
open PyProof.Rows
def cN(c:Nat):List (List Nat)->List Nat
 | []=>[]
 | [x]=>x
 | x::y::r=>x++c::cN c (y::r)
theorem db(c:Nat):∀ys:List Str,(Str.join ⟨#[c]⟩ ys).cps.toList=cN c (ys.map λy=>y.cps.toList)
 | []=>rfl
 | [y]=>rfl
 | y::u::ys=>by
  have ih:=db c (u::ys)
  rw [join_cons_cons]
  show ((y.cps++#[c])++(Str.join ⟨#[c]⟩ (u::ys)).cps).toList=_
  rw [Array.toList_append,Array.toList_append,ih]
  simp [cN]
theorem uh{c:Nat}{a b d g:List Nat}(i:c∉a)(f:c∉d)(e:a++c::b=d++c::g):a=d/\b=g:=by
 induction a generalizing d with
 | nil =>
  cases d with
  | nil=>exact ⟨rfl,(List.cons.inj e).2⟩
  | cons x d=>exact absurd (ϕ.mpr (.inl (List.cons.inj e).1)) f
 | cons x a ih =>
  cases d with
  | nil=>exact absurd (ϕ.mpr (.inl (List.cons.inj e).1.symm)) i
  | cons y d =>
   obtain ⟨j,l⟩:=List.cons.inj e
   obtain ⟨m,o⟩:=ih (λh=>i (Θ _ h)) (λh=>f (Θ _ h)) l
   exact ⟨by rw [j,m],o⟩
theorem mV{c:Nat}:∀{xs ys:List (List Nat)},xs≠[]->ys≠[]->(∀x∈xs,c∉x)->(∀y∈ys,c∉y)->cN c xs=cN c ys->xs=ys
 | [],_,h,_,_,_,_=>absurd rfl h
 | _::_,[],_,h,_,_,_=>absurd rfl h
 | [x],[y],_,_,_,_,e=>by rw [show x=y from e]
 | [x],y::u::ys,_,_,hx,_,e=>by
  have e':x=y++c::cN c (u::ys):=e
  exact absurd (by rw [e'];simp) (hx x List.mem_cons_self)
 | x::u::xs,[y],_,_,_,hy,e=>by
  have e':x++c::cN c (u::xs)=y:=e
  exact absurd (by rw [← e'];simp) (hy y List.mem_cons_self)
 | x::u::xs,y::v::ys,_,_,hx,hy,e=>by
  have e':x++c::cN c (u::xs)=y++c::cN c (v::ys):=e
  obtain ⟨e1,e2⟩:=uh (hx x Ω) (hy y Ω) e'
  rw [e1,mV (by simp) (by simp) (λz hz=>hx z (List.mem_cons_of_mem _ hz)) (λz hz=>hy z (List.mem_cons_of_mem _ hz)) e2]
theorem uQ{z:Str}{c:Nat}{ps:List (List Nat)}(j:z.cps.toList=cN c ps)(h0:ps≠[])(l:∀p∈ps,c∉p):Txt.split z ⟨#[c]⟩=ps.map λp=>(⟨p.toArray⟩:Str):=by
 have d:=db c (Txt.split z ⟨#[c]⟩)
 rw [StrLaws.join_split,j] at d
 have f:(Txt.split z ⟨#[c]⟩).map (λy=>y.cps.toList)≠[]:=by
  intro e
  have:=split_pos z ⟨#[c]⟩
  rw [List.map_eq_nil_iff.mp e] at this
  exact absurd this ζ
 have g:=mV h0 f l (λy i=>by
  obtain ⟨p,b,rfl⟩:=ϑ.mp i
  exact StrLaws.split_free z c p b) d
 rw [g,List.map_map]
 have h:((λp:List Nat=>(⟨p.toArray⟩:Str))∘λy:Str=>y.cps.toList)=id:=by
  funext y
  obtain ⟨a⟩:=y
  simp
 rw [h,List.map_id]
end Km
namespace St
open PySem L2 Lo Km PySem.NumText
inductive Wd where
 | take | mean | sum | give | add | plus | need
 deriving DecidableEq
def wS:Wd->Str
 | .take=>"take" | .mean=>"mean" | .sum=>"sum" | .give=>"give" | .add=>"add" | .plus=>"plus" | .need=>"need"
def wN:Wd->Str
 | .take=>"TakeStep" | .mean=>"MeanStep" | .sum=>"SumStep" | .give=>"GiveStep" | .add=>"AddStep" | .plus=>"PlusStep" | .need=>"NeedStep"
def inN(i:Int):Prop:=0<=i/\i<10 ^ 40
def inV(i:Int):Prop:=i.natAbs<10 ^ 40
theorem inN.v{i:Int}(h:inN i):inV i:=by
 unfold inN at h
 unfold inV
 omega
def Ar:Wd->List Int->Prop
 | .take,[h,c]=>inN h/\inN c
 | .mean,[h,c]=>inN h/\inN c
 | .give,[h,c]=>inN h/\inN c
 | .sum,[h,a,b]=>inN h/\inN a/\inN b/\a<=b
 | .add,[h,c,v]=>inN h/\inN c/\inV v
 | .plus,[v]=>inV v
 | .need,[v]=>inV v
 | _,_=>False
theorem Ar.all{w:Wd}{d:List Int}(h:Ar w d):∀i∈d,inV i:=by
 unfold Ar at h
 split at h
 ·intro i b;simp only [List.mem_cons,List.mem_nil_iff,or_false] at b;rcases b with rfl | rfl<;>first | exact h.1.v | exact h.2.v
 ·intro i b;simp only [List.mem_cons,List.mem_nil_iff,or_false] at b;rcases b with rfl | rfl<;>first | exact h.1.v | exact h.2.v
 ·intro i b;simp only [List.mem_cons,List.mem_nil_iff,or_false] at b;rcases b with rfl | rfl<;>first | exact h.1.v | exact h.2.v
 ·intro i b;simp only [List.mem_cons,List.mem_nil_iff,or_false] at b;rcases b with rfl | rfl | rfl<;>first | exact h.1.v | exact h.2.1.v | exact h.2.2.1.v
 ·intro i b;simp only [List.mem_cons,List.mem_nil_iff,or_false] at b;rcases b with rfl | rfl | rfl<;>first | exact h.1.v | exact h.2.1.v | exact h.2.2
 ·intro i b;simp only [List.mem_cons,List.mem_nil_iff,or_false] at b;rcases b with rfl;exact h
 ·intro i b;simp only [List.mem_cons,List.mem_nil_iff,or_false] at b;rcases b with rfl;exact h
 ·exact h.elim
def iS(i:Int):Str:=Str.ofString (toString i)
theorem gi{i:Int}(h:inV i):(iS i).length<=41:=by
 have e:(iS i).length=(bY i).length:=by
  unfold iS
  rw [← nJ]
  simp [Str.length]
 rw [e]
 unfold bY
 have:=l0 (k:=40) ζ h
 split
 ·rw [List.length_cons];omega
 ·omega
theorem AD(i:Int):32∉bY i:=by
 have d:∀m,32∉bq m:=λm b=>by
  have:=fz m
  have h:=this 32 b
  omega
 unfold bY
 split
 ·intro b
  rcases ϕ.mp b with e | e
  ·cases e
  ·exact d _ e
 ·exact d _
def txt(w:Wd)(ns:List Int):Str:=Str.join (Str.ofString " ") (wS w::ns.map iS)
theorem Bd(w:Wd):32∉(wS w).cps.toList:=by cases w<;>decide +kernel
theorem ut(w:Wd):(wS w).length<=4:=by cases w<;>decide +kernel
theorem jk:(Str.ofString " ")=⟨#[32]⟩:=by decide +kernel
theorem jh(w:Wd)(b:List Int):Txt.split (txt w b) ⟨#[32]⟩=wS w::b.map iS:=by
 have e:=db 32 (wS w::b.map iS)
 have d:(txt w b).cps.toList=cN 32 ((wS w::b.map iS).map λy=>y.cps.toList):=by
  unfold txt
  rw [jk]
  exact e
 rw [uQ d (by simp) (λp h=>?_)]
 ·rw [List.map_map]
  have f:((λp:List Nat=>(⟨p.toArray⟩:Str))∘λy:Str=>y.cps.toList)=id:=by
   funext y
   obtain ⟨a⟩:=y
   simp
  rw [f,List.map_id]
 ·obtain ⟨y,hy,rfl⟩:=ϑ.mp h
  rcases ϕ.mp hy with e | hy
  ·rw [e];exact Bd w
  ·obtain ⟨i,_,rfl⟩:=ϑ.mp hy
   have g:(iS i).cps.toList=bY i:=nJ i
   rw [g]
   exact AD i
theorem Ar.len{w:Wd}{b:List Int}(h:Ar w b):1<=b.length/\b.length<=3:=by
 unfold Ar at h
 split at h<;>first | exact h.elim | (constructor<;>simp)
theorem zW{ys:List Str}{k:Nat}(h:∀y∈ys,y.length<=k):(ys.map (·.length)).sum<=ys.length*k:=by
 induction ys with
 | nil=>simp
 | cons y ys ih =>
  have h1:=h y Ω
  have d:=ih λy b=>h y (Θ _ b)
  rw [List.map_cons,List.sum_cons,List.length_cons,Nat.succ_mul]
  omega
theorem uo{w:Wd}{ns:List Int}(h:Ar w ns):∀y∈wS w::ns.map iS,y.length<=41:=λy hy=>by
 rcases ϕ.mp hy with e | hy
 ·rw [e];exact Λ (ut w) ζ
 ·obtain ⟨i,hi,rfl⟩:=ϑ.mp hy
  exact gi (h.all i hi)
theorem sS{w:Wd}{b:List Int}(h:Ar w b):((wS w::b.map iS).map (·.length)).sum+(wS w::b.map iS).length*(Str.ofString " ").length<=1000:=by
 have h1:=zW (uo h)
 have f:=h.len
 have d:(Str.ofString " ").length=1:=by decide +kernel
 rw [d]
 have e:(wS w::b.map iS).length<=4:=by rw [List.length_cons,ν];omega
 have g:(wS w::b.map iS).length*41<=4*41:=Nat.mul_le_mul_right _ e
 omega
def mC:Wd->List Int->List (Str×V)
 | .take,[h,c]=>ay "cell" (.int c) (ay "where" (.int h) [])
 | .mean,[h,c]=>ay "cell" (.int c) (ay "where" (.int h) [])
 | .give,[h,c]=>ay "cell" (.int c) (ay "where" (.int h) [])
 | .sum,[h,a,b]=>ay "high" (.int b) (ay "low" (.int a) (ay "where" (.int h) []))
 | .add,[h,c,v]=>ay "amount" (.int v) (ay "cell" (.int c) (ay "where" (.int h) []))
 | .plus,[v]=>ay "amount" (.int v) []
 | .need,[v]=>ay "amount" (.int v) []
 | _,_=>[]
def StO(C:Wd->Addr)(H:Hp)(w:Wd)(ns:List Int)(v:V):Prop:=∃a dx,v=.ref a/\H a=some (.ins (C w) dx (mC w ns))
def lN:Wd->List Int->Option Lk
 | .take,[_,c]=>some (.read,c,c)
 | .mean,[_,c]=>some (.mean,c,c)
 | .give,[_,c]=>some (.change,c,c)
 | .sum,[_,a,b]=>some (.read,a,b)
 | .add,[_,c,_]=>some (.change,c,c)
 | _,_=>none
def orl(K:Frag)(H:Hp):Option Lk->V->Prop
 | none,v=>v=.non
 | some k,v=>∃a,v=.ref a/\H a=some (.tup [.str (kdS k.1),.int k.2.1,.int k.2.2])
end St
namespace L2
open PySem PySem.Spec PyProof.Rows
section
variable {X:Cx}{CX:CXT}{E:XK}{k:Nat}{C f:Addr}{fd:FuncData}{ps:List Str}{sp:Sp}{m:Str}{o e:Expr}{es:List Expr}{t:TA}{ty:TE}{pos apos cpos p:Pos}{mc:Value}
structure zI(K:Frag)(C:Addr)(m:Str)(f:Addr):Prop where
 ga:PySem.W.specialIn K (.ref C) "__getattribute__"=some (some (.builtin "type.__getattribute__"))
 rd:PySem.W.readsIn K C (.type "type")=true
 fc:PySem.W.findCls K (.ref C) (.type "type") m=some (.val (.ref f))
 hi:PySem.W.handedIn (.ref f)=true
 kp:PySem.W.keepIn K (.ref f)=true
theorem yj{pl:Sem Bool}(G:PE X o (tC (.ref C)))(c:zI X.K C m f)(F:FnOk X.prog X.w X.K X.mg X.base CX k f fd ps sp)(J:Room k X.A)(L:Binds X.K fd ps [])(O:cU CX X E)(P:PA X (e::es) t)
  (g:starEach (e::es) X.env=(false,eval e X.env)::starEach es X.env:=by rfl)(i:(backTo pos (starEach es X.env)).any (·.1)=false:=by rfl)
  (U:eval (.Call (.Attribute o m apos) (e::es) [] pos) X.env=(do
   let ov ← eval o X.env
   standAt apos.atName
   let (f,first) ← holding [ov] (getMethod ov m pl)
   callWith pos f first (backTo pos (starEach (e::es) X.env)) (backToKw pos (keywordEach [] X.env))):=by rfl) :
  PE X (.Call (.Attribute o m apos) (e::es) [] pos) (uM sp [] E t):=by
 intro b s σ H Q I h
 refine PySem.W.methodCall_KW (pl:=pl) (thn (G b s σ H (λx H1=>x=.ref C/\t σ H1 λvs j=>sp (vs++[]) j Q E) I ⟨ϱ,h⟩) λu l ⟨x,H1,d,D,ex,q⟩=>?_) U
 subst ex
 obtain rfl:u=Value.ref C:=D
 refine PySem.W.method_cls d.kIn c.ga (PySem.W.cls_value d.kIn c.rd c.fc c.hi ?_)
 have z:Inv X b σ H1 {l with toks:=l.toks+1}:=d.tok _
 refine PySem.W.callWith_K (first:=[]) (h₀:=X.base) I.ok.mod.kin c.kp (thn (P pos b _ σ H1 _ z q) λus Y ⟨vs,j,y,r,q2⟩=>⟨y.kIn,?_⟩) g i
 exact oE (us:=us) (vs:=vs) F J L .nil O y r q2
theorem yg{a:Addr}{D:List (Str×KTD.Dat)}(J:PE X o (tC (.ref a)))(L:PE X e ty)(d:M1 X o "get" apos e cpos)(m:TabK X.K a D) :
  PE X (.Call (.Attribute o "get" apos) [e] [] cpos) (fun σ H Q=>ty σ H λy H1=>∃k z,y=.str k/\KTD.datumAt k D=some (.flat (.str z))/\Q (.str z) H1):=by
 intro b s σ H Q I h
 refine wpAny_Call_method d.base d.few d.line PySem.F.plainAttrs_dict PySem.F.slot_dict_get PySem.F.type_dict_get (thn (J b s σ H (λx H1=>x=.ref a/\ty σ H1 λy H1=>∃k z,y=.str k/\KTD.datumAt k D=some (.flat (.str z))/\Q (.str z) H1) I ⟨ϱ,h⟩) λu f ⟨x,H1,i,q,ex,q1⟩=>?_)
 subst ex
 obtain rfl:u=Value.ref a:=q
 have g:KTD.Here f.heap f.heap a D:=⟨m.at i.kIn,λ_ _ e=>e⟩
 refine ⟨g.typeIs,g.noDict,?_⟩
 rw [d.trees]
 refine Calls.callWith_builtin rfl (Calls.evalArgs_plain (Calls.spliced_cons (thn (L b f σ H1 _ i q1) λP r ⟨y,w,j,C,k,z,G,l,q2⟩=>Calls.spliced_nil ?_)))
 subst G
 obtain ⟨O,rfl⟩:=C
 refine KTD.get1_textL (h₀:=r.heap) ⟨m.at j.kIn,λ_ _ e=>e⟩ ?_ (oV l (KTD.opened_str λU=>⟨.str z,w,j.tok _,⟨_,ϱ⟩,q2⟩))
 rw [← KTD.isSome_datumAt,l]
 rfl
theorem qU:MtR X "str.lstrip" (λx vs H Q=>∃z y,x=.str z/\vs=[.str y]/\z.length<=sizeLine/\Q (.str (Txt.lstripChars z y)) H):=by
 intro b s σ H x i v j Q I e r h
 obtain ⟨z,y,rfl,rfl,d,q⟩:=h
 obtain ⟨t,rfl⟩:=e
 obtain ⟨u,rfl,⟨f,rfl⟩⟩:=cL r
 exact SC.lstripChars (λg k=>⟨.str _,H,I.tok _,⟨_,ϱ⟩,q⟩) d
theorem Aj{d:TE}(h:PE X.nox e d):PEX X e (fun σ H Q _=>d σ H Q):=by
 intro b s σ H Q E I q
 exact nox (h b s σ H _ (I.wish _) q) λv g ⟨x,H1,f,r,q1⟩=>⟨x,H1,f.unwish,r,q1⟩
end
end L2
namespace St
open PySem L2 Lo Km PySem.NumText
structure TxW(K:Frag)(CW:Wd->Addr):Prop where
 cl:∀w,Cls K (CW w)
 nW:∀w,NoAttr K (CW w) "where"
 nC:∀w,NoAttr K (CW w) "cell"
 nL:∀w,NoAttr K (CW w) "low"
 nH:∀w,NoAttr K (CW w) "high"
 nA:∀w,NoAttr K (CW w) "amount"
def isC:Wd->Bool
 | .take=>true | .mean=>true | .give=>true | _=>false
theorem bH{f:Str}{v:V}{fs:List (Str×V)}:(ay f v fs).lookup f=some v:=by rw [al,if_pos rfl]
theorem aO{f g:Str}{v:V}{fs:List (Str×V)}(h:¬g=f):(ay f v fs).lookup g=fs.lookup g:=by rw [al,if_neg h]
section
variable (CW:Wd->Addr)
inductive fE (w:Wd) (vs:List V) (H:Hp) (Q:VK) (E:XK):Prop|mk a dx ns:vs=.ref a::(ns:List Int).map V.int->Ar w ns->H a=some (.ins (CW w) dx [])->(∀H',H' a=some (.ins (CW w) dx (mC w ns))->Kp a H H'->Q .non H')->fE w vs H Q E
inductive kB (vs:List V) (H:Hp) (Q:VK) (E:XK):Prop|mk a dx w h c:vs=[.ref a,.int h,.int c]->H a=some (.ins (CW w) dx [])->(∀H',H' a=some (.ins (CW w) dx (ay "cell" (.int c) (ay "where" (.int h) [])))->Kp a H H'->Q .non H')->kB vs H Q E
inductive dO (K:Frag) (w:Wd) (vs:List V) (H:Hp) (Q:VK) (E:XK):Prop|mk v ns:vs=[v]->Ar w ns->StO CW H w ns v->(∀u H',Same H H'->orl K H' (lN w ns) u->Q u H')->dO K w vs H Q E
end
theorem wC{i:Int}(h:inV i):i.natAbs.log2<1920:=by
 by_cases h0:i.natAbs=0
 ·rw [h0];decide
 ·exact (Nat.log2_lt h0).mpr (Nat.lt_trans h θ)
theorem Ar.c{w:Wd}{d:List Int}(hw:isC w=true)(h:Ar w d):∃a b,d=[a,b]/\inN a/\inN b/\mC w d=ay "cell" (.int b) (ay "where" (.int a) []):=by
 cases w<;>first | cases hw | skip
 all_goals
  match d,h with
  | [a,b],h=>exact ⟨a,b,rfl,h.1,h.2,rfl⟩
theorem Ar.s{d:List Int}(h:Ar .sum d):∃a b c,d=[a,b,c]/\inN a/\inN b/\inN c/\b<=c:=by
 match d,h with
 | [a,b,c],h=>exact ⟨a,b,c,rfl,h⟩
theorem Ar.a{d:List Int}(h:Ar .add d):∃a b c,d=[a,b,c]/\inN a/\inN b/\inV c:=by
 match d,h with
 | [a,b,c],h=>exact ⟨a,b,c,rfl,h⟩
theorem Ar.p{b:List Int}(h:Ar .plus b):∃a,b=[a]/\inV a:=by
 match b,h with
 | [a],h=>exact ⟨a,rfl,h⟩
theorem Ar.n{b:List Int}(h:Ar .need b):∃a,b=[a]/\inV a:=by
 match b,h with
 | [a],h=>exact ⟨a,rfl,h⟩
open PySem.Spec PyProof.Rows
theorem at0{x:V}{xs:List V}:atI (x::xs) 0=some x:=bb (j:=0) rfl
theorem at1{x y:V}{xs:List V}:atI (x::y::xs) 1=some y:=bb (j:=1) rfl
theorem at2{x y z:V}{xs:List V}:atI (x::y::z::xs) 2=some z:=bb (j:=2) rfl
theorem zL{a b:Wd}(h:wS a=wS b):a=b:=by
 cases a<;>cases b<;>first | rfl | exact absurd h θ
theorem fj{a b:Wd}(c:decide (V.str (wS a)=V.str (wS b))=true):a=b:=zL (V.str.inj (Ξ c))
theorem cB{a b:Wd}(c:¬decide (V.str (wS a)=V.str (wS b))=true):a≠b:=λe=>c (by rw [e];exact τ rfl)
theorem zK{a:Wd}(h1:a≠.take)(b:a≠.mean)(d:a≠.sum)(e:a≠.give)(f:a≠.add)(g:a≠.plus):a=.need:=by
 cases a<;>first | rfl | contradiction
def shp:Wd->Str
 | .take=>"HC" | .mean=>"HC" | .sum=>"HAB" | .give=>"HC" | .add=>"HCV" | .plus=>"V" | .need=>"V"
def kD:List (Str×PyProof.Rows.KTD.Dat):=[("take",.flat (.str "HC")),("mean",.flat (.str "HC")),("sum",.flat (.str "HAB")),("give",.flat (.str "HC")),("add",.flat (.str "HCV")),("plus",.flat (.str "V")),("need",.flat (.str "V"))]
theorem uZ(w:Wd):PyProof.Rows.KTD.datumAt (wS w) kD=some (.flat (.str (shp w))):=by
 cases w<;>kernel_rfl
theorem xS{w:Wd}{b:List Int}(h:Ar w b):(shp w).length=b.length:=by
 unfold Ar at h
 split at h<;>first | exact h.elim | kernel_rfl
theorem kW(w:Wd):(shp w).length<=sizeLine:=by cases w<;>decide +kernel
theorem d9{i:Int}{p:Prop}(h:inN i):i<0->p:=λz=>absurd z (by unfold inN at h;omega)
theorem z6{w:Wd}{d:List Int}{k:Nat}{i:Int}(h:Ar w d)(b:d[k]?=some i):∃c,(shp w).cps.toList[k]?=some c/\(i<0->c=86):=by
 unfold Ar at h
 split at h
 ·rcases k with _ | _ | k
  ·cases b;exact ⟨72,θ,d9 h.1⟩
  ·cases b;exact ⟨67,θ,d9 h.2⟩
  ·simp at b
 ·rcases k with _ | _ | k
  ·cases b;exact ⟨72,θ,d9 h.1⟩
  ·cases b;exact ⟨67,θ,d9 h.2⟩
  ·simp at b
 ·rcases k with _ | _ | k
  ·cases b;exact ⟨72,θ,d9 h.1⟩
  ·cases b;exact ⟨67,θ,d9 h.2⟩
  ·simp at b
 ·rcases k with _ | _ | _ | k
  ·cases b;exact ⟨72,θ,d9 h.1⟩
  ·cases b;exact ⟨65,θ,d9 h.2.1⟩
  ·cases b;exact ⟨66,θ,d9 h.2.2.1⟩
  ·simp at b
 ·rcases k with _ | _ | _ | k
  ·cases b;exact ⟨72,θ,d9 h.1⟩
  ·cases b;exact ⟨67,θ,d9 h.2.1⟩
  ·cases b;exact ⟨86,θ,λ_=>rfl⟩
  ·simp at b
 ·rcases k with _ | k
  ·cases b;exact ⟨86,θ,λ_=>rfl⟩
  ·simp at b
 ·rcases k with _ | k
  ·cases b;exact ⟨86,θ,λ_=>rfl⟩
  ·simp at b
 ·exact h.elim
theorem p9(i:Int):(iS i).cps.toList=bY i:=nJ i
theorem AC{i:Int}{c:Nat}(h:c∈bY i):c=45\/(48<=c/\c<=57):=by
 have b:∀m,c∈bq m->48<=c/\c<=57:=λm d=>fz m c d
 unfold bY at h
 split at h
 ·rcases ϕ.mp h with e | e
  ·exact .inl e
  ·exact .inr (b _ e)
 ·exact .inr (b _ h)
theorem qZ{i:Int}(h:inV i):(Txt.lstripChars (iS i) (Str.ofString "-")).length<=40:=by
 have e:(Str.ofString "-")=⟨#[45]⟩:=by decide +kernel
 have b:=l0 (k:=40) ζ h
 have f:(iS i).cps.size=(bY i).length:=by rw [← p9];simp
 rw [e]
 unfold Txt.lstripChars
 rw [stripBy_eq]
 generalize hL:stripLo ((⟨#[45]⟩:Str).cps.contains) true (iS i)=lo
 show ((iS i).cps.extract lo (iS i).length).size<=40
 rw [Array.size_extract]
 by_cases hi:i<0
 ·have h1:1<=lo:=by
   rw [← hL]
   show 1<=((iS i).cps.toList.takeWhile (λc=>(⟨#[45]⟩:Str).cps.contains c)).length
   rw [p9]
   unfold bY
   rw [if_pos hi,List.takeWhile_cons,if_pos θ]
   simp
  have d:(bY i).length<=41:=by
   unfold bY
   rw [if_pos hi,List.length_cons]
   omega
  omega
 ·have d:(bY i).length<=40:=by
   unfold bY
   rw [if_neg hi]
   exact b
  omega
theorem yV{i:Int}(h:inV i):(iS i).length<=100000:=Λ (gi h) ζ
theorem mU(c:Nat):∀ls:List (List Nat),(cN c ls).length<=(ls.map (·.length)).sum+ls.length
 | []=>ϖ _
 | [x]=>by simp [cN]
 | x::y::r=>by
  have h:=mU c (y::r)
  show (x++c::cN c (y::r)).length<=_
  rw [List.length_append,List.length_cons,List.map_cons,List.sum_cons,List.length_cons (a:=x)]
  omega
theorem nE{b:Wd}{d:List Int}(h:Ar b d):(txt b d).length<=1000000:=by
 have e:(txt b d).cps.toList=cN 32 ((wS b::d.map iS).map λy=>y.cps.toList):=by
  unfold txt
  rw [jk]
  exact db 32 _
 have f:(txt b d).length=(txt b d).cps.toList.length:=by simp [Str.length]
 have h1:=mU 32 ((wS b::d.map iS).map λy=>y.cps.toList)
 have g:=sS h
 have i:((wS b::d.map iS).map λy=>y.cps.toList).map (·.length)=(wS b::d.map iS).map (·.length):=by
  rw [List.map_map]
  refine List.map_congr_left λy _=>?_
  simp [Str.length]
 have j:(Str.ofString " ").length=1:=by decide +kernel
 rw [i,ν] at h1
 rw [j,Nat.mul_one] at g
 rw [f,e]
 omega
theorem zG{m:Str}(h1:¬m="where")(b:¬m="cell")(d:¬m="low")(e:¬m="high")(f:¬m="amount")(w:Wd)(g:List Int):(mC w g).lookup m=none:=by
 unfold mC
 split<;>simp only [aO h1,aO b,aO d,aO e,aO f,List.lookup_nil]
theorem lM{H H':Hp}{x dx:Addr}{o1 o2:HO}(nx:H x=none)(nd:H dx=none)(k:Kp x (upd (upd H dx o1) x o2) H'):Same H H':=λb o e=>by
 have hx:b≠x:=λz=>by rw [z,nx] at e;cases e
 have hd:b≠dx:=λz=>by rw [z,nd] at e;cases e
 exact k b o hx (by rw [am hx,am hd];exact e)
structure WI(P:Program)(w:World)(K:Frag)(mg:Str->Option Value)(base:Heap)(CW:Wd->Addr)(wd:Wd) where
 fI:Addr
 dI:FuncData
 ps:List Str
 M:Mk K (CW wd) fI
 ok:FnOk P w K mg base CX0 2 fI dI ps (fE CW wd)
 b:Binds K dI ps []
 m:mg (wN wd)=some (.ref (CW wd))
section
variable (CW:Wd->Addr)
inductive qB (vs:List V) (H:Hp) (Q:VK) (E:XK):Prop|mk wd q ns:vs=[.str (wS wd),.ref q]->H q=some (.lst ((ns:List Int).map V.int))->Ar wd ns->(∀v H',Same H H'->StO CW H' wd ns v->Q v H')->qB vs H Q E
inductive qC (vs:List V) (H:Hp) (Q:VK) (E:XK):Prop|mk x y z:vs=[.int x,.int y,.int z]->Ar .sum [x,y,z]->(∀v H',Same H H'->StO CW H' .sum [x,y,z] v->Q v H')->qC vs H Q E
inductive ky (vs:List V) (H:Hp) (Q:VK) (E:XK):Prop|mk wd ns:vs=[.str (txt wd ns)]->Ar wd ns->(∀v H',Same H H'->StO CW H' wd ns v->Q v H')->ky vs H Q E
end
inductive qz (vs:List V) (H:Hp) (Q:VK) (E:XK):Prop|mk i c:vs=[.str (iS i),.str ⟨#[c]⟩]->inV i->((i<0->c=86))->(∀H',Same H H'->Q (.int i) H')->qz vs H Q E
end St
namespace L2
open PySem PySem.Spec PyProof.Rows PySem.W Lo
def BB(mg:Str->Option Value)(h:Heap):Prop:=∃bm ob,mg "__builtins__"=some (.ref bm)/\bm≠builtinsNs/\h.get? bm=some ob/\ob.cls=.type "module"/\ob.dict=some builtinsNs/\ob.data=.plain
def jf(c:Addr)(q:Str):HO:=.ext λh=>∃o vs t,h.get? c=some o/\o.data=.fields vs/\vs[1]?=some (.str q t)
def kM(p:Pos)(c:Addr):Array Value:=#[]++#[rawInt p.line,rawInt p.col,.ref c]
theorem uI(p:Pos)(c:Addr):(kM p c).toList=[rawInt p.line,rawInt p.col,.ref c]:=by simp [kM]
theorem uJ(p:Pos)(c:Addr):codeAmong p (kM p c).toList=some (.ref c):=by
 rw [uI]
 simp [codeAmong,rawInt]
theorem xC(p:Pos)(c:Addr):TriplesOk (kM p c).toList:=by
 rw [uI]
 exact trivial
def Tb(H:Hp)(P:Addr)(p:Pos)(q:Str):Prop:=H P=some (.tbl #[])\/∃c,H P=some (.tbl (kM p c))/\H c=some (jf c q)
def noT:HO->Prop
 | .tbl _=>False
 | _=>True
theorem xf{Pg:Program}{w:World}{H:Hp}{h:Heap}{c:Addr}{q:Str}{o:Obj}{vs:Array Value}{t:Tok}(e:h.get? c=some o)(d:o.data=.fields vs)(v:vs[1]?=some (.str q t)) :
  ObjOk Pg w H h c (jf c q):=⟨⟨o,vs,t,e,d,v⟩,⟨_,e⟩,λ_ _ ⟨o,vs,t,e,r⟩ k=>⟨o,vs,t,k _ e,r⟩⟩
end L2
namespace HT
open PySem PyProof.Rows
section
open PySem.SeqAt
open PySem.AutoSeq1 (wpAny_loadPart')
open PySem.MeetsSeq PySem.MeetsSeq2 PySem.MeetsSeq3
end
end HT
namespace L2
open PySem PySem.Spec PyProof.Rows PySem.W Lo
theorem tW{P:Program}{w:World}{K:Frag}{mg mb:Str->Option Value}{CX:CXT}{k:Nat}{fa a cc i:Addr}{fd:FuncData}{x:Str}{sp:Sp}{f:Shared}{vs:List Value}{Z:List Int}
  (KX:K.In f.heap)(av:f.heap.Ns mainGlobals mg)(j:f.heap.Ns builtinsNs mb)(aR:∀x:Str,x≠"__name__"->mb x=bootBuiltins x)(a0:f.heap.NoLimit)(hg:f.gens=#[])
  (L:f.heap.get? a=some {cls:=.type "list",data:=.seq vs.toArray})(hi:IntsAre vs Z)(hl:Z.length<=sizeLine)(hr:Room k callerA)
  (hC:codeHdIn K cc i=true)(hT:f.heap.get? i=some (tabObj #[]))(hK:noTabs K=true)(hB:BB mg f.heap)
  (F:∀base:Heap,K.In base->BB mg base->FnOk P w K mg base CX k fa fd [x] sp)(O:∀(s:Shared) (u:Value),BindsTo s fd ⟨[u],[]⟩ [(x,u)])
  (aS:∀H:Hp,SqL K H a (Z.map V.int)->H i=some (.tbl #[])->sp [.ref a] H (λv _=>v=.bl true) λ_ _ _=>False)
  (aZ:∀H e s',CX [] H f (λ_ _ _=>False) e s'->False) :
  codeAny (model P w) callerA (.call (.ref fa) ⟨[.ref a],[]⟩) (λr s'=>r=.ok (.ret (.bool true))/\OldK f.heap s'.heap/\s'.os=f.os/\AllBare s'.gens) f:=by
 have rv:=hE hi
 have U:=hi.length
 have C:a≠i:=λz=>by
  rw [z,hT] at L
  cases L
 have kP:K.lookup i=none:=by
  cases q:K.lookup i with
  | none=>rfl
  | some o =>
   have h2:=List.all_eq_true.mp hK (i,o) (mem_of_lookupK q)
   have e:=KX _ _ q
   rw [hT] at e
   cases e
   exact absurd (show false=true from h2) Bool.false_ne_true
 have W:f.heap.TableAt cc i #[]:=(codeHd_of_K KX hC).tab hT
 have I:∀H:Hp,SqL K H a (Z.map V.int)->H i=some (.tbl #[])->HOk P w H f.heap->(∀b,H b≠none->b=a\/b=i)->(H a≠none->K.lookup a=none)->(∀u,H a=some u->∃o xs,u=.frz o (.lst xs)) ->
   codeAny (model P w) callerA (.call (.ref fa) ⟨[.ref a],[]⟩) (λr s'=>r=.ok (.ret (.bool true))/\OldK f.heap s'.heap/\s'.os=f.os/\AllBare s'.gens) f:=by
  intro H hS hP Y hA ab ak
  have g:∀{b:Addr} {o:Obj},f.heap.get? b=some o->H b=none->(mz f.heap H).get? b=some o:=λe n=>wI e n
  have a6:∀{b:Addr} {o:Obj},f.heap.get? b=some o->(o.cls≠.type "list")->o.cls≠.none->H b=none:=λ{b o} e d1 d2=>by
   cases q:H b with
   | none=>rfl
   | some u =>
    rcases hA b (by rw [q];simp) with e' | e'
    ·subst e'
     rw [L] at e
     cases e
     exact absurd rfl d1
    ·subst e'
     rw [hT] at e
     cases e
     exact absurd rfl d2
  have a7:∀{b:Addr} {o:Obj} {es:Array DictEntry} {ep:Nat},f.heap.get? b=some o->o.data=.dict es ep->H b=none:=λ{b o es ep} e d=>by
   cases q:H b with
   | none=>rfl
   | some u =>
    rcases hA b (by rw [q];simp) with e' | e'
    ·subst e'
     rw [L] at e
     cases e
     cases (show Data.seq vs.toArray _=Data.dict es ep from d)
    ·subst e'
     rw [hT] at e
     cases e
     cases (show Data.fields #[]=Data.dict es ep from d)
  have J:∀{b:Addr} {m:Str->Option Value},f.heap.Ns b m->(mz f.heap H).Ns b m:=λ{b m} ⟨o,es,ep,e,d,r⟩=>⟨o,es,ep,g e (a7 e d),d,r⟩
  have X:K.In (mz f.heap H):=λb o e=>g (KX b o e) (by
   cases q:H b with
   | none=>rfl
   | some u =>
    rcases hA b (by rw [q];simp) with e' | e'
    ·subst e'
     rw [ab (by rw [q];simp)] at e
     cases e
    ·subst e'
     rw [kP] at e
     cases e)
  have hM:Mod K mg (mz f.heap H):=⟨X,J av,⟨mb,J j,aR⟩,let ⟨mc,h1,h2⟩:=a0;⟨mc,J h1,h2⟩⟩
  have a8:BB mg (mz f.heap H):=by
   obtain ⟨bm,ob,b1,b2,b3,b4,b5,b6⟩:=hB
   exact ⟨bm,ob,b1,b2,g b3 (a6 b3 (by rw [b4];decide) (by rw [b4];nofun)),b4,b5,b6⟩
  have e0:Env0 P w K mg (mz f.heap H) callerA [] f H:=⟨ϱ,hM,λb o e=>yL e,Nat.le_of_eq (ub _ _),trivial,λb j=>absurd (show b∈([]:List Addr) from j) (by simp),Y,.of_eq hg⟩
  refine codeAny_mono ((F _ X a8).run callerA [] f H ⟨[.ref a],[]⟩ [.ref a] [.ref a] _ _ hr e0 (O f (.ref a)) (.cons rfl .nil) (aS H hS hP)) λr s' h=>?_
  cases r with
  | error e=>exact (aZ H e s' h).elim
  | ok fl =>
   cases fl with
   | next=>exact False.elim h
   | brk=>exact False.elim h
   | cont=>exact False.elim h
   | ret u =>
    obtain ⟨v,H',os,Q,un,D,r',q⟩:=h
    have q':v=.bl true:=q
    subst q'
    obtain rfl:u=Value.bool true:=r'
    have l:∀b o,f.heap.get? b=some o->b≠i->s'.heap.get? b=some o:=λb o e nP=>by
     cases q:H b with
     | none=>exact un.keep b o e q (by intro z;exact absurd (show b∈([]:List Addr) from z) (by simp)) (by simp)
     | some u =>
      rcases hA b (by rw [q];simp) with e' | e'
      ·subst e'
       obtain ⟨ob,xs,rfl⟩:=ak u q
       have z2:=un.frzs b ob _ q
       obtain ⟨e1,_⟩:=Y b _ q
       obtain ⟨e2,_⟩:=D b _ z2
       rw [e] at e1
       cases e1
       exact e2
      ·exact absurd e' nP
    obtain ⟨G,eP⟩:=un.tbls i #[] hP
    have tP:s'.heap.get? i=some {cls:=.none,data:=.fields (#[]++G)}:=D i _ eP
    refine ⟨ϱ,⟨λb o e=>?_,λb o e=>?_⟩,os,Q⟩
    ·by_cases z:b=i
     ·subst z
      rw [hT] at e
      cases e
      exact .inr (.inl ⟨W.isCodeTable,ϱ,#[],G,ϱ,tP⟩)
     ·exact .inl (l b o e z)
    ·by_cases z:b=i
     ·subst z
      exact ⟨_,tP⟩
     ·exact ⟨o,l b o e z⟩
 cases hk:K.lookup a with
 | some o =>
  have e:=KX a o hk
  rw [L] at e
  cases e
  refine I (λb=>if b=i then some (.tbl #[]) else none) (.inr ⟨_,vs.toArray,_,hk,ϱ,ϱ,ϱ,by rw [List.size_toArray,U];exact hl,by simpa using rv⟩) (if_pos rfl) (λb u z=>?_) (λb z=>?_) (λz=>absurd (if_neg C) z) λu z=>?_
  ·by_cases j:b=i
   ·have y:=(if_pos j).symm.trans z
    cases y
    subst j
    exact hT
   ·have y:=(if_neg j).symm.trans z
    cases y
  ·by_cases j:b=i
   ·exact .inr j
   ·exact absurd (if_neg j) z
  ·have y:=(if_neg C).symm.trans z
   cases y
 | none =>
  refine I (λb=>if b=i then some (.tbl #[]) else if b=a then some (.frz {cls:=.type "list",data:=.seq vs.toArray} (.lst (Z.map V.int))) else none) (.inl (.inr ⟨{cls:=.type "list",data:=.seq vs.toArray},(if_neg C).trans (if_pos rfl)⟩)) (if_pos rfl) (λb u z=>?_) (λb z=>?_) (λ_=>hk) λu z=>?_
  ·by_cases j:b=i
   ·have y:=(if_pos j).symm.trans z
    cases y
    subst j
    exact hT
   ·have z1:=(if_neg j).symm.trans z
    by_cases j:b=a
    ·have y:=(if_pos j).symm.trans z1
     cases y
     subst j
     exact ⟨L,by rw [ν];exact hl,vs,_,rv,L⟩
    ·have y:=(if_neg j).symm.trans z1
     cases y
  ·by_cases j:b=i
   ·exact .inr j
   ·by_cases hb':b=a
    ·exact .inl hb'
    ·exact absurd ((if_neg j).trans (if_neg hb')) z
  ·have z1:=((if_neg C).trans (if_pos rfl)).symm.trans z
   cases z1
   exact ⟨_,_,ϱ⟩
theorem uq{l:OpenLaw}{n k:Nat}{q:Program}{loose:List Str}{XP:(Str->Option Value)->Heap->Prop}{YP:World->Heap->Prop}{d:DefRec}{K:Params->Frag}{sp:World->Addr->Sp}{x:Str}
  (hn:l.most=some n)(J:n<=sizeLine)(L:d.params.defaults=[])(hr:Room k callerA)(hY:∀(w:World) (h:Heap),YP w h->(K w.params).In h)
  (F:∀(w:World) (mg:Str->Option Value) (y:Addr) (h:Heap),YP w h->(K w.params).In h->h.Ns mainGlobals mg->mg d.name=some (.ref y) ->
   ∃(D:FuncData) (cc i:Addr),(∀(s:Shared) (u:Value),BindsTo s D ⟨[u],[]⟩ [(x,u)])/\codeHdIn (K w.params) cc i=true/\h.get? i=some (tabObj #[])/\noTabs (K w.params)=true /\
    ∀base:Heap,(K w.params).In base->BB mg base->FnOk l.prog w (K w.params) mg base CX0 k y D [x] (sp w i))
  (O:∀(w:World) (i:Addr) (H:Hp) (a:Addr) (C:List Int),C.length<=n->SqL (K w.params) H a (C.map V.int)->H i=some (.tbl #[])->sp w i [.ref a] H (λv _=>v=.bl true) λ_ _ _=>False) :
  WalkO q loose XP YP l.row.toRowW d [] (λf vs=>PySem.call f vs):=by
 refine Att.qk hn L λw s₀ s₁ mg mb y o pm cd a0 a vs C G Y ho hd a1 I r m j hg=>?_
 have P:=hY w _ Y
 obtain ⟨D,cc,i,Q,U,W,X,Z⟩:=F w mg y _ Y P G.T.g I
 exact tW P G.T.g G.T.b G.T.builtins G.T.nolimit hg r m (Λ j J) hr U W X G.T.bmain Z Q (λH hS hP=>O w i H a C j hS hP) λH e s' z=>z
theorem Fun.okC{P:Program}{w:World}{K:Frag}{mg:Str->Option Value}{base:Heap}{x d:Str}{st:Stmt}{f:Addr}{g:FuncData}{N ps:List Str}{k:Nat}{sp:Sp}(F:Fun K x d st f g)(S:ao N ps (defScope st))(len:∀vs H Q E,sp vs H Q E->vs.length=ps.length)
  (e:∀(A:Around) (b:List Env) (s:Shared) (H:Hp) (vs:List V) (Q:VK) (E:XK),Room k (A.deeper (envOfC d (defScope st) s.heap.objs.size f g.code))->sp vs H Q E ->
   ∃t,PSs (rm CX0 P w K mg base N d (defScope st) f g.code A b s H E).nox (defBody st) t/\t {nx:=λ_ H'=>Q .non H',rt:=Q} (start N vs) H):FnOk P w K mg base CX0 (k+1) f g ps sp:=by
 obtain ⟨y,od,kV,l,pm,an,m,z,o,rfl,r,i⟩:=F.ex
 refine zH r i S len λA b s H vs Q E u j=>?_
 obtain ⟨t,h,q⟩:=e A b s H vs Q E u j
 exact ⟨t,h.nox,q⟩
theorem sH{h B f:Heap}:∀{l:List Env},h.FunFrames B l->(∀b∈frs l,f.get? b=none)->h.FunFrames f l
 | [],_,_=>trivial
 | env::r,⟨k,⟨L,o,fr,_,e,d⟩,t⟩,n=>by
  have m:frs (env::r)=L::frs r:=by
   show List.filterMap _ (env::r)=_
   rw [List.filterMap_cons,fr]
   rfl
  rw [m] at n
  exact ⟨k,⟨L,o,fr,n L Ω,e,d⟩,sH t λb g=>n b (Θ _ g)⟩
def jd(l:List Env)(H:Hp)(h:Heap):Heap:=hideAll h (trk h H++frs l)
theorem jM{l:List Env}{H:Hp}{h:Heap}{b:Addr}{o:Obj}(e:h.get? b=some o)(n:H b=none)(nf:b∉frs l):(jd l H h).get? b=some o:=hideAll_get _ e λhm=>by
 rcases List.mem_append.mp hm with z | z
 ·have q:(H b).isSome=true:=(List.mem_filter.mp z).2
  rw [n] at q
  simp at q
 ·exact nf z
theorem lK{l:List Env}{H:Hp}{h:Heap}{b:Addr}{o:Obj}(e:(jd l H h).get? b=some o):h.get? b=some o/\H b=none/\b∉frs l:=by
 have d:h.get? b=some o:=of_hideAll _ e
 refine ⟨d,?_,λz=>?_⟩
 ·cases q:H b with
  | none=>rfl
  | some x =>
   have f:b∈trk h H++frs l:=List.mem_append_left _ (List.mem_filter.mpr ⟨List.mem_range.mpr (Heap.lt_size d),by simp [q]⟩)
   have z:(jd l H h).get? b=none:=hideAll_none _ f
   rw [z] at e
   cases e
 ·have z:(jd l H h).get? b=none:=hideAll_none _ (Ψ _ z)
  rw [z] at e
  cases e
def ze(pp:List (Addr×Obj))(cs:List (Addr×V))(h:Heap):Prop:=(∀p∈pp,h.get? p.1=some p.2)/\∀c∈cs,∃u,RelV c.2 u/\h.IsCell c.1 (some u)
def rG(X:Cx)(cs:List (Addr×V))(σ:St):Prop:=∀c∈cs,∃(i:Nat) (x:Str),X.N[i]?=some x/\σ[i]?=some (some c.2)/\X.env.kindOf x=some .cell/\X.env.cells.lookup x=some c.1/\X.fn x=true
section
variable {X:Cx}{pins:List (Addr×Obj)}{σ:St}{H:Hp}{s:Shared}
theorem Inv.nfr2(I:Inv X pins σ H s){b:Addr}{o:Obj}(e:X.base.get? b=some o):b∉frs X.stack:=λz=>by
 rcases ϕ.mp (I.stkSub b z) with z | z
 ·have:=η (I.ok.bs b o e).1
  rw [z] at this
  exact absurd this (Nat.not_lt.mpr I.ok.above)
 ·exact I.ok.nofr e z
theorem Inv.baseK(I:Inv X pins σ H s):∀b o,X.base.get? b=some o->(jd X.stack H s.heap).get? b=some o:=λb o e=>jM (I.bs b o e).1 (I.bs b o e).2 (I.nfr2 e)
theorem Inv.modB(I:Inv X pins σ H s):Mod X.K X.mg (jd X.stack H s.heap):=by
 obtain ⟨d,e,⟨f,g,h⟩,i⟩:=I.ok.mod
 have b:=I.baseK
 exact ⟨d.keeps b,e.keeps b,⟨f,g.keeps b,h⟩,i.keeps b⟩
theorem Inv.env0B(I:Inv X pins σ H s):Env0 X.prog X.w X.K X.mg (jd X.stack H s.heap) X.A X.stack s H:=by
 refine ⟨I.ok.frames,I.modB,λb o e=>⟨(lK e).1,(lK e).2.1⟩,Nat.le_of_eq (hideAll_size _ _),sH I.stack λb d=>?_,I.stkFree,I.hok,I.bare⟩
 cases z:(jd X.stack H s.heap).get? b with
 | none=>rfl
 | some o=>exact absurd d (lK z).2.2
theorem Inv.pinB{pp:List (Addr×Obj)}{cs:List (Addr×V)}(I:Inv X pins σ H s)(C:∀p∈pp,p∈X.pn)(D:rG X cs σ):ze pp cs (jd X.stack H s.heap):=by
 refine ⟨λp f=>?_,λc f=>?_⟩
 ·obtain ⟨e,n,h,j,_⟩:=I.pin p (List.mem_append_left _ (C p f))
  exact jM e n λz=>(ϕ.mp (I.stkSub _ z)).elim h j
 ·obtain ⟨i,x,h1,l,g,b,q⟩:=D c f
  obtain ⟨m,F,w⟩:=I.loc
  obtain ⟨u,r,y⟩:=w i x c.2 h1 l (.inr (.inl g))
  rcases y with ⟨z,_⟩ | ⟨_,c',e,o,ho,hd⟩
  ·rw [g] at z
   cases z
  ·rw [b] at e
   cases e
   refine ⟨u,r,o,jM ho (I.freeC x _ b) λz=>?_,hd⟩
   rcases ϕ.mp (I.stkSub _ z) with z | z
   ·exact I.cne x _ b z
   ·obtain ⟨_,G,d,_⟩:=I.ok.funs.mem z
    exact absurd (η d) (Nat.not_lt.mpr (I.ok.cab x _ q b))
end
structure xu(N:List Str)(x:Str)(sc:Scope)(cl:List (Str×Addr)):Prop where
 kind:sc.kind=.function
 co:sc.isCoroutine=false
 gen:sc.isGenerator=false
 nd:N.Nodup
 pre:N[0]?=some x
 par:sc.names.lookup x=some .local
 nocell:∀y∈sc.names,y.2≠.cell
 free:∀y,sc.names.lookup y=some .free->∃c,cl.lookup y=some c
 inj:∀y z c,cl.lookup y=some c->cl.lookup z=some c->y=z
def w8(CX:CXT)(P:Program)(w:World)(K:Frag)(mg:Str->Option Value)(base:Heap)(N:List Str)(qual:Str)(scope:Scope)(f:Addr)(cd:Value)(cl:List (Str×Addr))(A:Around)(outer:List Env)(s:Shared)(H:Hp)(E:XK):Cx where
 prog:=P
 w:=w
 K:=K
 mg:=mg
 base:=base
 A:=A.deeper (envX qual scope s.heap.objs.size f cd cl)
 N:=N
 s₀:=s
 H₀:=H
 env:=envX qual scope s.heap.objs.size f cd cl
 outer:=outer
 stack:=envX qual scope s.heap.objs.size f cd cl::outer
 ex:=[]
 calm:=true
 fn:=λ_=>false
 pn:=[]
 xe:=λe s'=>wpAny (model P w) (A.deeper (envX qual scope s.heap.objs.size f cd cl)) (leaving (envX qual scope s.heap.objs.size f cd cl) e) (λ_ s''=>CX outer H s E e s'') (λe' s''=>CX outer H s E e' s'') s'
end L2
namespace L2
open PySem PySem.Spec PyProof.Rows Lo
theorem sU{P:Program}{w:World}{K:Frag}{Q:Expr}(it:Addr)(lo:Int)(n:Nat):rE P w K Q (Itr lo n) [it] it (λi h=>IsLongIter h it (lo+(i:Nat)*1) ((n:Int)-(i:Nat)) 1) where
 mem:=by simp
 obj:=λi h st b hb=>by
  have e:b=it:=by simpa using hb
  subst e
  exact ⟨_,st,λv z=>by
   have z':Data.fields _=Data.cell v:=z
   cases z'⟩
 keep:=λi h h' st k=>k it (by simp) _ st
 item:=by
  intro X r u x y i d s σ H E I hf st C
  subst r u x
  obtain ⟨g,j,F,l,m,q⟩:=hf it (by simp)
  have W:=Walks.longrange (prog:=X.prog) (w:=X.w) (I.ok.hd y) it lo 1 n
  refine W.item i s _ _ C st λv h' D J f L=>?_
  obtain ⟨t,rfl⟩:=J
  have G:Inv X d σ H {s with heap:=h',toks:=D}:=I.turned (λb o hb e=>L b o (by simpa using hb) e) g j l m q
  refine ⟨_,ϱ,mY (s:={s with heap:=h',toks:=D}) (n:="longrange_iterator") f rfl rfl ζ ⟨.int (lo+i),H,G,⟨t,?_⟩,⟨ϱ,ϱ⟩,f,λb hb=>(hf b hb).1⟩⟩
  rw [Int.mul_one]
 done:=by
  intro X r u x y i d s σ H E I hf st C
  subst r u x
  obtain ⟨g,j,F,l,m,q⟩:=hf it (by simp)
  exact wpAny_pyNext_long_end (I.ok.hd y) st (by have:n<=i:=C;omega) λh' O=>⟨ϱ,I.turned (t':=s.toks) (λb o hb e=>O b o hb e) g j l m q⟩
 self:=λ_ _ _ _ _ st h=>wpAny_pyIter_longiter st h
section
variable {X:Cx}{tg:Expr}
theorem tw{f:List (Addr×Obj)}{σ:St}{H:Hp}{s:Shared}{R:It->Hp->Prop}{E:Value->Shared->Prop}{lo d:Int}{t u v:Tok}{i:Nat}(I:Inv X f σ H s)
  (q:R (Itr lo (d-lo).toNat) H):wpAny (model X.prog X.w) X.A (pyIter (.ref s.heap.objs.size)) (PIE X f σ tg R) E {s with heap:=s.heap.push {cls:=.type "range",data:=.fields #[.int lo t,.int d u,.int 1 v]},toks:=i}:=by
 have g:Inv X f σ H {s with heap:=s.heap.push {cls:=.type "range",data:=.fields #[.int lo t,.int d u,.int 1 v]},toks:=i}:=I.kept λb o e=>ρ _ e
 have j:lo+((0:Nat):Int)*1=lo:=by simp
 have l:(((d-lo).toNat:Nat):Int)-((0:Nat):Int)=Builtin.Range.rangeSize lo d 1:=by rw [rangeSize_one];split<;>omega
 have m:∀b,b∈[(s.heap.push {cls:=.type "range",data:=.fields #[.int lo t,.int d u,.int 1 v]}).objs.size]->b=(s.heap.push {cls:=.type "range",data:=.fields #[.int lo t,.int d u,.int 1 v]}).objs.size:=λb h=>by simpa using h
 cases hs:Builtin.Range.small lo d 1 with
 | true =>
  refine wpAny_pyIter_range (IsRange.new ..) hs ?_
  refine ⟨(s.heap.push {cls:=.type "range",data:=.fields #[.int lo t,.int d u,.int 1 v]}).objs.size,[(s.heap.push {cls:=.type "range",data:=.fields #[.int lo t,.int d u,.int 1 v]}).objs.size],_,_,H,ϱ,
   g.kept (t':=i) λb o e=>ρ _ e,kL _ lo (d-lo).toNat,?_,λb h=>?_,q⟩
  ·show IsRangeIter _ _ (lo+((0:Nat):Int)*1) ((((d-lo).toNat:Nat):Int)-((0:Nat):Int)) 1
   rw [j,l]
   exact ψ _ rfl
  ·obtain rfl:=m b h
   exact g.fpOk (ι _) (g.hok.fresh (ι _))
 | false =>
  refine wpAny_pyIter_longrange (IsRange.new ..) hs ?_
  refine ⟨(s.heap.push {cls:=.type "range",data:=.fields #[.int lo t,.int d u,.int 1 v]}).objs.size,[(s.heap.push {cls:=.type "range",data:=.fields #[.int lo t,.int d u,.int 1 v]}).objs.size],_,_,H,ϱ,
   g.kept (t':=i) λb o e=>ρ _ e,sU _ lo (d-lo).toNat,?_,λb h=>?_,q⟩
  ·show IsLongIter _ _ (lo+((0:Nat):Int)*1) ((((d-lo).toNat:Nat):Int)-((0:Nat):Int)) 1
   rw [j,l]
   exact ψ _ rfl
  ·obtain rfl:=m b h
   exact g.fpOk (ι _) (g.hok.fresh (ι _))
def BX(ta:TA):TI:=fun σ H R=>ta σ H λvs H1=>∃i j:Int,vs=[.int i,.int j]/\R (Itr i (j-i).toNat) H1
theorem tF{a b:Expr}{ta:TA}{p pos:Pos}(m:Gl X "range")(o:X.mg "range"=none)(u:PA X [a,b] ta)(w:starEach [a,b] X.env=[(false,eval a X.env),(false,eval b X.env)]:=by rfl)(f:starEach [b] X.env=[(false,eval b X.env)]:=by rfl) :
  PI X tg (.Call (.Name "range" p) [a,b] [] pos) (BX ta):=by
 intro d s σ H R I h
 refine Call_ (lO I m o boot_range (PyProof.Rows.callWith_type1 (thn (u pos d s σ H _ I h) λy z ⟨vs,H1,g,l,q1⟩=>?_) (by rw [w,f]) (by rw [f];rfl)))
 obtain ⟨i,j,e,q⟩:=q1
 subst e
 cases l with
 | cons r rr =>
  cases rr with
  | cons r' rr =>
   cases rr
   obtain ⟨t,rfl⟩:=r
   obtain ⟨x,rfl⟩:=r'
   exact call_range_2 (tw g q)
end
section
variable {H:Hp}{bl:St}{tt:TT}{te:TE}{Fin:List V->Hp->Prop}
theorem tV{lo:Int}{n:Nat}(b:Nat->List V->Hp->Prop)(h0:b 0 [] H)(g:n<=sizeLine)
  (h:∀(i:Nat) ys H,i<n->b i ys H->tt (some (.int (lo+i))::bl) H λc H2=>if c=true then te (some (.int (lo+i))::bl) H2 λy H3=>b (i+1) (ys++[y]) H3 else b (i+1) ys H2)
  (j:∀ys H,b n ys H->Fin ys H) :
  ∃(W:Nat->List V->Hp->Prop) (m:Nat),W 0 [] H/\m<=sizeLine/\∀i ys H,W i ys H->((Itr lo n).stop i H/\Fin ys H) \/
   ((Itr lo n).go i H/\i<m/\∀x H',(Itr lo n).yld i H x H'->tt (some x::bl) H' λc H2=>if c=true then te (some x::bl) H2 λy H3=>W (i+1) (ys++[y]) H3 else W (i+1) ys H2):=by
 refine ⟨λi ys H=>i<=n/\b i ys H,n,⟨ϖ _,h0⟩,g,?_⟩
 rintro i ys H ⟨l,p⟩
 by_cases hlt:i<n
 ·refine .inr ⟨hlt,hlt,λx H' y=>?_⟩
  obtain ⟨e,y⟩:=y
  subst e
  subst y
  have z:=h i ys _ hlt p
  have d:(λ(c:Bool) (H2:Hp)=>if c=true then te (some (.int (lo+i))::bl) H2 λy H3=>i+1<=n/\b (i+1) (ys++[y]) H3 else i+1<=n/\b (i+1) ys H2)=λc H2=>if c=true then te (some (.int (lo+i))::bl) H2 λy H3=>b (i+1) (ys++[y]) H3 else b (i+1) ys H2:=by
   have f:(i+1<=n)=True:=eq_true hlt
   funext c H2
   simp only [f,true_and]
  show tt _ _ _
  rw [d]
  exact z
 ·have e:i=n:=by omega
  subst e
  exact .inl ⟨ι _,j ys H p⟩
end
theorem vH{X:Cx}(n:Nat)(f:X.A.units+n<cLine):OpR X (compareOp .Eq) (λx y H Q=>qp X.K n H x y true/\Q (.bl true) H):=by
 intro b s σ H x y v u Q I d e h
 exact h.1 X.prog X.w X.A s v u f I.hok I.kIn d e X.prog X.w X.xe _ ⟨.bl true,H,I,ϱ,h.2⟩
open PySem.W
theorem sA{κ:Type}{f:κ->V}{R:κ->Value->Prop}(hR:∀k u,R k u->RelV (f k) u):∀{kvs:List (κ×V)} {vs:List (κ×Value)} {us:List Value},KV kvs vs->us.length=vs.length->(∀(j:Nat) u,us[j]?=some u->∃k x,vs[j]?=some (k,x)/\R k u)->Vals (kvs.map λkv=>f kv.1) us
 | _,_,[],.nil,_,_=>.nil
 | _,_,u::us,.cons (a:=p) (b:=q) h t,hl,hv=>by
  obtain ⟨k,x,e,r⟩:=hv 0 u rfl
  cases e
  refine .cons ?_ (sA hR t (by simpa using hl) λj v e=>by simpa using hv (j+1) v (by simpa using e))
  show RelV (f p.1) u
  rw [h.1]
  exact hR _ _ r
 | _,_,[],.cons h t,hl,_=>by cases hl
 | _,_,_::_,.nil,hl,_=>by cases hl
theorem sB{k:Key}{u:Value}(h:jS k u=true):RelV (kV k) u:=by
 cases k with
 | inl i=>exact Value.isInt_shape h
 | inr x=>exact Value.isStrOf_shape h
def jO(f:Addr)(q:Str)(pr:Arguments)(b:Expr)(sc:Scope)(cl:List (Str×Addr))(c:Addr):HO:=.ext λh=>∃pm ct,h.get? f=some {cls:=.type "function",data:=.func (kla_fn "<lambda>" q pr b sc cl pm (.ref c) ct)}
theorem pY{Pg:Program}{w:World}{H:Hp}{h:Heap}{f:Addr}{q:Str}{pr:Arguments}{b:Expr}{sc:Scope}{cl:List (Str×Addr)}{c:Addr}{pm ct:Value}(e:h.get? f=some {cls:=.type "function",data:=.func (kla_fn "<lambda>" q pr b sc cl pm (.ref c) ct)}) :
  ObjOk Pg w H h f (jO f q pr b sc cl c):=⟨⟨pm,ct,e⟩,⟨_,e⟩,λ_ _ ⟨pm,ct,e⟩ k=>⟨pm,ct,k _ e⟩⟩
def Bq(P:Addr)(p:Pos)(q:Str)(pr:Arguments)(b:Expr)(sc:Scope)(cl:List (Str×Addr)):TE:=λ_ H Q=>Tb H P p q/\∀f c H',Kp P H H'->H' P=some (.tbl (kM p c))->((H P=some (.tbl #[])/\H c=none)\/H P=some (.tbl (kM p c)))->H f=none->H' f=some (jO f q pr b sc cl c)->H' c=some (jf c q)->Q (.ref f) H'
theorem yh{X:Cx}{cl:List (Str×Addr)}{cc P:Addr}{pos:Pos}{q:Str}{J:Arguments}{b:Expr}{L:Scope}(x:X.env.code=.ref cc)(hC:codeHdIn X.K cc P=true)(hB:BB X.mg X.base)(hq:X.env.qual++"<lambda>"=q)
  (a6:closureFor L X.env=pure cl)(a7:defaultsOf J X.env=([],[])):PE X (.Lambda J b L pos) (Bq P pos q J b L cl):=by
 intro a5 s σ H Q I h
 obtain ⟨D,hQ⟩:=h
 subst hq
 refine kla_eval a7 ?_
 have hg:s.heap.Ns mainGlobals X.mg:=I.ok.mod.glob.keeps I.bk
 have C:CodeHd s.heap cc P:=codeHd_of_K I.kIn hC
 obtain ⟨bm,ob,b1,b2,b3,b4,b5,b6⟩:=hB
 have i:=I.bk _ _ b3
 have a0:bm≠mainGlobals:=λz=>by
  obtain ⟨o,es,ep,e,Y,_⟩:=hg
  rw [z,e] at i
  cases i
  rw [Y] at b6
  cases b6
 have nG:∀ps,s.heap.get? P=some (tabObj ps)->mainGlobals≠P/\bm≠P:=λps e=>by
  refine ⟨λz=>?_,λz=>?_⟩
  ·obtain ⟨o,es,ep,e',Y,_⟩:=hg
   rw [z,e] at e'
   cases e'
   cases Y
  ·rw [z,e] at i
   cases i
   cases b4
 rcases D with e | ⟨c,e,ec⟩
 ·have W:s.heap.get? P=some (tabObj #[]):=I.hok P _ e
  obtain ⟨n1,Z⟩:=nG _ W
  refine kla_makeFunction (mg:=X.mg) (clos:=cl) a6 I.ok.glob hg x C W trivial rfl n1 ⟨bm,ob,b1,b2,a0,Z,i,b4,b5,b6⟩ λc ct g tk hx j G a4 D=>?_
  obtain ⟨c₂,oc,vs,t,e2,aR,Y,hv⟩:=a4
  cases e2
  have ltP:P<s.heap.objs.size:=η W
  have a1:H c=none:=I.hok.fresh j
  have w:H g.objs.size=none:=I.hok.fresh (Nat.le_of_lt (Nat.lt_of_le_of_lt j G))
  have cf:c≠g.objs.size:=Φ G
  have Pc:P≠c:=Φ (Nat.lt_of_lt_of_le ltP j)
  have Pf:P≠g.objs.size:=Φ (Nat.lt_trans (Nat.lt_of_lt_of_le ltP j) G)
  let H3:Hp:=upd (upd (upd H P (.tbl (kM pos c))) c (jf c (X.env.qual++"<lambda>"))) g.objs.size (jO g.objs.size (X.env.qual++"<lambda>") J b L cl c)
  have O:∀d,d≠g.objs.size->d≠c->d≠P->H3 d=H d:=λd n1 Z n3=>(am n1).trans ((am Z).trans (am n3))
  have a2:H3 g.objs.size=some (jO g.objs.size (X.env.qual++"<lambda>") J b L cl c):=ae
  have a3:H3 c=some (jf c (X.env.qual++"<lambda>")):=(am cf).trans ae
  have U:H3 P=some (.tbl (kM pos c)):=(am Pf).trans ((am Pc).trans ae)
  have old:∀d o,d≠P->H d=some o->H3 d=some o:=λd o n z=>(O d (ap z w) (ap z a1) n).trans z
  have kp:∀d o,d≠P->s.heap.get? d=some o->(g.push (kla_obj "<lambda>" (X.env.qual++"<lambda>") J b L cl ((X.mg "__name__").getD .none) c ct)).get? d=some o:=λd o n z=>ρ _ (hx d o n z)
  have F:∀d,H d=none->d≠P:=λd z y=>by
   rw [y,e] at z
   cases z
  have f:∀d o,noT o->H d=some o->d≠P:=λd o n z y=>by
   rw [y,e] at z
   cases z
   exact n
  have I3:Inv X a5 σ H3 {s with heap:=g.push (kla_obj "<lambda>" (X.env.qual++"<lambda>") J b L cl ((X.mg "__name__").getD .none) c ct),toks:=tk}:=by
   refine I.step (g':=s.gens) (d':=s.drawn) (t':=tk) (ch:=[]) (λ_ z=>nomatch z) (λd o _ _ _ z n=>kp d o (F d n) z) (λd o _ _ _ z n=>⟨o.slots,kp d o (F d n) z⟩) (λd o _ z n=>?_) (λd o _ z=>?_)
    (λd xs z=>old d _ (f d (.tup xs) trivial z) z) (λd o u z=>old d _ (f d (.frz o u) trivial z) z) (λd ps z=>?_) (λm hm=>?_) (λd u z=>?_) I.bare
   ·have l:=η z
    exact (O d (Φ (Nat.lt_of_lt_of_le l (Nat.le_of_lt (Nat.lt_of_le_of_lt j G)))) (Φ (Nat.lt_of_lt_of_le l j)) (F d n)).trans n
   ·by_cases y:d=P
    ·rw [y]
     exact ⟨_,ρ _ D⟩
    ·exact ⟨o,kp d o y z⟩
   ·by_cases y:d=P
    ·subst y
     rw [e] at z
     cases z
     exact ⟨#[rawInt pos.line,rawInt pos.col,.ref c],U⟩
    ·exact ⟨#[],by rw [old d _ y z];simp⟩
   ·obtain ⟨o,es,ep,ho,r⟩:=hm
    exact ⟨o,es,ep,kp _ o (F _ I.free) ho,r⟩
   ·by_cases y1:d=g.objs.size
    ·subst y1
     rw [a2] at z
     cases z
     exact pY (ψ _ rfl)
    ·by_cases y2:d=c
     ·subst y2
      rw [a3] at z
      cases z
      exact xf (ρ _ aR) Y hv
     ·by_cases y3:d=P
      ·subst y3
       rw [U] at z
       cases z
       exact ρ _ D
      ·rw [O d y1 y2 y3] at z
       refine (I.hok d u z).stay (λa v ha q=>kp a v ?_ q) (λa q=>old a _ (f a (.own d) trivial q) q) λa xs q=>old a _ (f a (.tup xs) trivial q) q
       rcases ha with ha | ha
       ·rw [ha]
        exact y3
       ·exact f a (.own d) trivial ha
  exact ⟨.ref g.objs.size,H3,I3,ϱ,hQ _ c H3 (λd o n z=>old d o n z) U (.inl ⟨e,a1⟩) w a2 a3⟩
 ·have W:s.heap.get? P=some (tabObj (kM pos c)):=I.hok P _ e
  obtain ⟨n1,Z⟩:=nG _ W
  refine kla_makeFunctionHit (mg:=X.mg) (clos:=cl) (cv:=.ref c) a6 I.ok.glob hg x C W (xC _ _) (uJ _ _) ⟨bm,ob,b1,b2,a0,Z,i,b4,b5,b6⟩ λct g tk hk hz=>?_
  have w:H g.objs.size=none:=I.hok.fresh hz
  have sm:=ag (o:=jO g.objs.size (X.env.qual++"<lambda>") J b L cl c) w
  exact ⟨.ref g.objs.size,_,I.laid (o:=jO g.objs.size (X.env.qual++"<lambda>") J b L cl c) (t':=tk) (λd o z=>ρ _ (hk d o z)) hz (pY (ψ _ rfl)),ϱ,
   hQ _ c _ (Kp.of sm) (sm _ _ e) (.inr e) w ae (sm _ _ ec)⟩
theorem wE{P:Program}{w:World}{K:Frag}{mg:Str->Option Value}{base:Heap}{A:Around}{d:List Env}{s:Shared}{H:Hp}{k:Nat}{f c:Addr}{q:Str}{pr:Arguments}{b:Expr}{g:Scope}{cl:List (Str×Addr)}{N:List Str}{x:Str}{fvs:List V}{cs:List (Addr×V)}{u:Value}{v:V}{Q:VK}
  (hr:Room (k+1) A)(e0:Env0 P w K mg base A d s H)(hB:ze [] cs base)(S:xu N x g cl)(U:N.length=fvs.length+1)(a4:∀y a,cl.lookup y=some a->∃v,(a,v)∈cs)
  (a5:∀(j:Nat) (y:Str) (v:V),N[j+1]?=some y->fvs[j]?=some v->g.names.lookup y=some .free/\∃a,cl.lookup y=some a/\∀v',(a,v')∈cs->v'=v)(hf:H f=some (jO f q pr b g cl c))(hc:H c=some (jf c q))(r:RelV v u)
  (hb:∀pm ct,BindsTo s (kla_fn "<lambda>" q pr b g cl pm (.ref c) ct) ⟨[u],[]⟩ [(x,u)])(G:∃t,PE (w8 CX0 P w K mg base N q g f (.ref c) cl A d s H E0) b t/\t ((v::fvs).map some) H Q) :
  codeAny (model P w) A (.call (.ref f) ⟨[u],[]⟩) (CR CX0 d P w H s Q E0) s:=by
 have a0:s.heap.NoLimit:=e0.mod.nolimit.keeps λb o e=>(e0.bs b o e).1
 obtain ⟨⟨pm,ct,m⟩,_⟩:=(show ObjOk P w H s.heap f (jO f q pr b g cl c) from e0.hok f _ hf)
 obtain ⟨⟨oc,ws,t,W,X,hv⟩,_⟩:=(show ObjOk P w H s.heap c (jf c q) from e0.hok c _ hc)
 obtain ⟨_,Y⟩:=hB
 refine kla_callFunE (by have:=hr.dp;omega) m rfl S.co S.gen rfl ⟨c,oc,ws,t,ϱ,W,X,hv⟩ (hb pm ct _ _ _ _ ?_)
 refine wpAny_newFunctionEnv S.nocell (λy hy=>by obtain rfl:=ϵ.mp hy;exact S.par) (λh₁ a1 O=>⟨a0.fresh _ O,kla_codeExpr ?_⟩) S.kind
 have l:∀b o,s.heap.get? b=some o->h₁.get? b=some o:=λb o e=>O.extBut b o (Φ (η e)) (ρ _ e)
 obtain ⟨t,ht,hq⟩:=G
 have eE:∀y a,cl.lookup y=some a->∃v,(a,v)∈cs/\∃u,RelV v u/\s.heap.IsCell a (some u)/\H a=none:=λy a e=>by
  obtain ⟨v,L⟩:=a4 y a e
  obtain ⟨u,ru,o,m,X⟩:=Y _ L
  exact ⟨v,L,u,ru,⟨o,(e0.bs _ _ m).1,X⟩,(e0.bs _ _ m).2⟩
 have D:∀b:Addr,b∉(w8 CX0 P w K mg base N q g f (.ref c) cl A d s H E0).ex:=λb z=>absurd (show b∈([]:List Addr) from z) (by simp)
 have I:Inv (w8 CX0 P w K mg base N q g f (.ref c) cl A d s H E0) [] ((v::fvs).map some) H {s with heap:=h₁,toks:=s.toks+[(x,u)].length}:=by
  refine ⟨⟨e0.mod,S.kind,ϱ,ϱ,ι _,S.inj,λy hy=>?_,λy c h _=>absurd h (by show ¬(false=true);decide),λ_=>hr.hd,Around.frames_deeper e0.frames,.inr ⟨ϱ,ϱ⟩,λb z=>absurd z (D b),e0.bs,e0.bsz,λb _ _=>D b,λb z=>absurd z (D b),e0.funs,e0.frf⟩,
   rfl,e0.bare,Un.kept l,⟨_,a1,λi y v' h1 h2 h3=>?_⟩,λy a e=>?_,e0.hok.fresh (Nat.le_refl _),λy a e=>?_,λp hp=>absurd (show p∈([]:List (Addr×Obj)) from hp) (by simp),e0.hok.kept l,?_⟩
  ·have hy:g.names.lookup y=some .cell\/g.names.lookup y=some .free:=hy
   rcases hy with hy | hy
   ·exact absurd rfl (S.nocell _ (PySem.mem_of_lookup hy))
   ·exact S.free y hy
  ·cases i with
   | zero =>
    have e1:some x=some y:=S.pre.symm.trans h1
    cases e1
    have F:some (some v)=some (some v'):=h2
    cases F
    exact ⟨u,r,.inl ⟨S.par,by simp⟩⟩
   | succ j =>
    have F:(fvs.map some)[j]?=some (some v'):=h2
    rw [List.getElem?_map] at F
    cases e3:fvs[j]? with
    | none =>
     rw [e3] at F
     cases F
    | some v2 =>
     rw [e3] at F
     cases F
     obtain ⟨hf,a,ea,hu⟩:=a5 j y _ h1 e3
     obtain ⟨v3,L,u3,Z,⟨o,m,C⟩,_⟩:=eE y a ea
     obtain rfl:=hu _ L
     exact ⟨u3,Z,.inr ⟨.inr hf,a,ea,o,l _ _ m,C⟩⟩
  ·obtain ⟨v3,L,u3,Z,⟨o,m,C⟩,_⟩:=eE y a e
   exact ⟨_,o,l _ _ m,C⟩
  ·obtain ⟨v3,L,u3,Z,_,n⟩:=eE y a e
   exact n
  ·show _=N.length
   rw [U]
   simp
 refine wpAny_mono (ht [] _ _ H Q I hq) (λu s' hs=>?_) λe s' hs=>hs
 obtain ⟨v,H',J,rv,q⟩:=hs
 exact ⟨v,H',J.os,J.bare,J.base,J.hok,rv,q⟩
structure CloT(P:Program)(w:World)(K:Frag)(mg:Str->Option Value)(base:Heap)(k:Nat)(f:Addr)(sp:Sp)(H:Hp):Prop where
 fn:∃q pr b sc cl c,H f=some (jO f q pr b sc cl c)
 run:∀(H1:Hp) (A:Around) (outer:List Env) (s:Shared) (v:V) (u:Value) (Q:VK),Same H H1->Room k A->Env0 P w K mg base A outer s H1->RelV v u->sp [v] H1 Q E0->codeAny (model P w) A (.call (.ref f) ⟨[u],[]⟩) (CR CX0 outer P w H1 s Q E0) s
theorem CloT.keep{P:Program}{w:World}{K:Frag}{mg:Str->Option Value}{base:Heap}{k:Nat}{f:Addr}{sp:Sp}{H H':Hp}(h:CloT P w K mg base k f sp H)(e:Same H H'):CloT P w K mg base k f sp H' :=
 ⟨let ⟨q,pr,b,sc,cl,c,z⟩:=h.fn;⟨q,pr,b,sc,cl,c,e _ _ z⟩,λH1 A outer s v u Q e1 hr e0 r hs=>h.run H1 A outer s v u Q (e.trans e1) hr e0 r hs⟩
section
variable {X:Cx}{CX:CXT}{k:Nat}{f C:Addr}{fd:FuncData}{ps:List Str}{E:XK}{x m:Str}{p pos apos:Pos}{e o:Expr}{es:List Expr}{ta:TE}{t:TA}{cs:List (Addr×V)}
def zV(P:Program)(w:World)(K:Frag)(mg:Str->Option Value)(base:Heap)(k i:Nat)(sp:Sp)(t:TA):TE:=fun σ H Q=>∃f,σ[i]?=some (some (.ref f))/\(∃q pr b sc cl c,H f=some (jO f q pr b sc cl c))/\t σ H λvs H1=>∃v,vs=[v]/\CloT P w K mg base k f sp H1/\sp [v] H1 Q E0
theorem lF{i:Nat}{sp:Sp}(P:Program)(w:World)(K:Frag)(mg:Str->Option Value)(base:Heap)(hN:X.N[i]?=some x)(hv:Vis X.env.scope x)(hr:Room k X.A)(ha:PA X [e] t)(hP:X.prog=P:=by rfl)(hw:X.w=w:=by rfl)(hK:X.K=K:=by rfl)(y:X.mg=mg:=by rfl)(C:X.base=base:=by rfl)
  (D:(x==("__debug__":Str))=false:=by decide)(F:(x==("__classdict__":Str))=false:=by decide)(he:starEach [e] X.env=(false,eval e X.env)::starEach [] X.env:=by rfl)(G:(backTo pos (starEach [] X.env)).any (·.1)=false:=by rfl) :
  PE X (.Call (.Name x p) [e] [] pos) (zV P w K mg base k i sp t):=by
 subst hP hw hK y C
 intro d s σ H Q I ⟨f,hσ,hf,h⟩
 have j:∀{σ':St} {g:Hp} {l:Shared},Inv X d σ' g l->(∃q pr b sc cl c,g f=some (jO f q pr b sc cl c))->FnAt f l.heap:=λ{σ' g l} J ⟨q,pr,b,sc,cl,c,z⟩=>by
  obtain ⟨⟨pm,ct,U⟩,_⟩:=(show ObjOk X.prog X.w g l.heap f (jO f q pr b sc cl c) from J.hok f _ z)
  exact ⟨_,_,_,_,U⟩
 refine wpAny_Call_Name_kw (thn ((qO (pos:=p) hN hv D F) d s σ H (λv g=>v=.ref f/\g=H) I ⟨_,hσ,ϱ,ϱ⟩) λu W ⟨v,H1,L,r,Y,Z⟩=>?_)
 subst Y
 subst Z
 cases r
 refine callWith_F (first:=[]) (j L hf) (thn (ha pos d W σ H1 _ L h) λus s2 ⟨vs,H2,o,r,v,ev,O,q⟩=>⟨j o O.fn,?_⟩) he G
 subst ev
 cases r with
 | cons rv rr =>
  cases rr
  refine wpAny_call (codeAny_mono (O.run H2 X.A X.stack s2 v _ Q (Same.refl _) hr o.env0 rv q) λr l m=>?_)
  cases r with
  | error e=>exact False.elim m
  | ok fl =>
   cases fl with
   | ret u=>exact o.after m
   | next=>exact False.elim m
   | brk=>exact False.elim m
   | cont=>exact False.elim m
def zP(X:Cx)(cs:List (Addr×V))(C:Addr)(m:Str)(sp:Heap->Sp)(E:XK)(ta:TE)(t:TA):TE:=fun σ H Q=>rG X cs σ/\ta σ H λx H1=>∃a dx fs,x=.ref a/\H1 a=some (.ins C dx fs)/\fs.lookup m=none /\
 t σ H1 λvs H2=>∀B,X.K.In B->ze [] cs B->sp B (x::vs) H2 Q E
theorem vq{sp:Heap->Sp}{pl:Sem Bool}(he:PE X o ta)(c:Cls X.K C)(U:gH X.K C m f)(F:∀B:Heap,X.K.In B->FnOk X.prog X.w X.K X.mg B CX k f fd ps (sp B))(hr:Room k X.A)(hb:Binds X.K fd ps [])(hx:cU CX X E)(ha:PA X (e::es) t)
  (D:starEach (e::es) X.env=(false,eval e X.env)::starEach es X.env:=by rfl)(G:(backTo pos (starEach es X.env)).any (·.1)=false:=by rfl)
  (ht:eval (.Call (.Attribute o m apos) (e::es) [] pos) X.env=(do
   let ov ← eval o X.env
   standAt apos.atName
   let (f,first) ← holding [ov] (getMethod ov m pl)
   callWith pos f first (backTo pos (starEach (e::es) X.env)) (backToKw pos (keywordEach [] X.env))):=by rfl) :
  PE X (.Call (.Attribute o m apos) (e::es) [] pos) (zP X cs C m sp E ta t):=by
 intro b s σ H Q I ⟨hc,h⟩
 refine PySem.W.methodCall_KW (pl:=pl) (thn (he b s σ H _ I h) λu Z ⟨x,H1,O,rx,a,dx,fs,ex,ea,l,q⟩=>?_) ht
 subst ex
 obtain rfl:u=Value.ref a:=rx
 refine iE O ea c U l ?_
 refine PySem.W.callWith_K (first:=[.ref a]) (h₀:=X.base) I.ok.mod.kin U.kp (thn (ha pos b Z σ H1 _ O q) λj y ⟨vs,P,g,r,q2⟩=>⟨g.kIn,?_⟩) D G
 have d:=q2 _ g.modB.kin (g.pinB (pp:=[]) (λp z=>nomatch z) hc)
 have J:=F _ g.modB.kin
 have L:Vals (.ref a::vs) (.ref a::j):=.cons rfl r
 have Y:((Value.ref a::j)++[]).length=ps.length:=by rw [List.append_nil,← L.length];exact J.len _ _ _ _ d
 have i:=hb y (.ref a::j) g.kIn Y
 rw [List.append_nil] at i
 refine wpAny_call (codeAny_mono (J.run X.A X.stack y P ⟨.ref a::j,[]⟩ (.ref a::j) (.ref a::vs) Q E hr g.env0B i L d) λr s' d=>?_)
 cases r with
 | error e=>exact hx b σ P y e s' g d
 | ok fl =>
  cases fl with
  | ret u=>exact g.after d
  | next=>exact False.elim d
  | brk=>exact False.elim d
  | cont=>exact False.elim d
end
theorem eJ:plainId "dict.update.loop"=true:=by decide +kernel
theorem jU : entryFor table "dict.update.loop" = some Builtin.«dict.update.loop» := entryFor_of_tree (by kernel_rfl)
def rF(P:Program)(w:World)(h:Heap)(u:Value)(kv:Key×Value):Prop:=∃b key,u=.ref b/\h.IsTuple b #[key,kv.2]/\(aJ P w).is kv.1 key=true
theorem rn{P:Program}{w:World}{A:Around}{R:Result->Shared->Prop}{d it t:Addr}(hh:A.in1.handled=none)(C:d≠it)(a7:d≠t)(a8:it≠t)(us:List Value)(g:List (Key×Value))(lk:us.length=g.length) :
  ∀(n i:Nat) (s:Shared) (f:List (Key×Value)) (tk:Tok),us.length-i=n->i<=us.length->s.heap.IsTupleIter it t i->s.heap.IsTuple t us.toArray->s.heap.DictOf (aJ P w) d f->f.length+us.length<=sizeLine+i ->
   (∀(j:Nat) (u:Value) (h:Key×Value),us[j]?=some u->g[j]?=some h->rF P w s.heap u h/\u≠.ref d/\u≠.ref it) ->
   (∀h' tk',h'.DictOf (aJ P w) d (merged f (g.drop i))->(∀b o,b≠d->b≠it->s.heap.get? b=some o->h'.get? b=some o)->R (.ok (.ret .none)) {s with heap:=h',toks:=tk'}) ->
   codeAny (model P w) A (.builtin "dict.update.loop" ⟨[.ref d,.ref it,.int i tk,.none],[]⟩) R s:=by
 intro n
 induction n with
 | zero =>
  intro i s f tk hn hi y K hd hz hp hR
  have e:i=us.length:=by omega
  subst e
  refine codeAny_builtin jU ?_
  rw [Around.under_plainId eJ _]
  show wpAny _ A.in1 (pyNext (.ref it) >>= _) _ _ s
  refine wpAny_bind (wpAny_pyNext_tuple_end hh y K (by simp) λh' eb=>?_)
  have e0:g.drop us.length=[]:=by rw [lk];exact List.drop_length
  show wpAny _ _ (Builtin.Dict.addKeywords d [] >>= λ_=>ret Value.none) _ _ _
  refine ε (π (π ?_))
  refine hR h' s.toks ?_ (λb o _ nb e=>eb b o nb e)
  rw [e0]
  exact hd.extBut eb C
 | succ n ih =>
  intro i s f tk hn hi y K hd hz hp hR
  have G:i<us.length:=by omega
  have W:us[i]?=some us[i]:=ξ G
  have J:g[i]?=some (g[i]'(ω)):=ξ ω
  generalize us[i]=u at W
  generalize (g[i]'(ω))=h at J
  have ek:g.drop i=h::g.drop (i+1):=by
   rw [List.drop_eq_getElem_cons ω]
   rw [ξ ω] at J
   rw [Δ J]
  obtain ⟨⟨b,x,rfl,hb,D⟩,nd,ni⟩:=hp i u h W J
  have bg:b≠d:=λz=>nd (by rw [z])
  have X:b≠it:=λz=>ni (by rw [z])
  refine codeAny_builtin jU ?_
  rw [Around.under_plainId eJ _]
  show wpAny _ A.in1 (pyNext (.ref it) >>= _) _ _ s
  refine wpAny_bind (wpAny_pyNext_tuple_item y K (by simpa using W) λh1 I l=>?_)
  have H:h1.IsTuple b #[x,h.2]:=by
   obtain ⟨o,m,r⟩:=hb
   exact ⟨o,(l.2 b X).trans m,r⟩
  have Y:h1.DictOf (aJ P w) d f:=hd.sameBut l C
  have Z:h1.IsTuple t us.toArray:=by
   obtain ⟨o,m,r⟩:=K
   exact ⟨o,(l.2 t (Ne.symm a8)).trans m,r⟩
  refine ε (wpAny_holding (ε (wpAny_tryCatch ?_)))
  show wpAny _ _ (Builtin.Dict.pairItems (.ref b)) _ _ _
  unfold Builtin.Dict.pairItems
  refine ε (wpAny_typeOf H.typeIs ?_)
  rw [if_pos ζ]
  obtain ⟨ob,L,b0,nb,O⟩:=id H
  refine ε (wpAny_seqItems L O (π ?_))
  show wpAny _ _ (holding [x,h.2] (dictSet d x h.2)) _ _ _
  refine wpAny_holding (wpAny_dictSet_pairs D Y (λh2 a0 q=>?_) ω)
  refine π ⟨plainId_quiet eJ _,ih (i+1) _ (stored f h.1 h.2) _ ω G ?_ ?_ a0 ?_ ?_ λh' tk' a1 kp=>?_⟩
  ·obtain ⟨o,m,r⟩:=I
   exact ⟨o,(q.2 it (Ne.symm C)).trans m,r⟩
  ·obtain ⟨o,m,r⟩:=Z
   exact ⟨o,(q.2 t (Ne.symm a7)).trans m,r⟩
  ·have:(stored f h.1 h.2).length<=f.length+1:=by
    unfold stored
    split
    ·rw [ν];omega
    ·rw [List.length_append];exact ι _
   omega
  ·intro j u2 a6 e1 e2
   obtain ⟨⟨b2,F,rfl,Q,U⟩,n1,n2⟩:=hp j u2 a6 e1 e2
   refine ⟨⟨b2,F,ϱ,?_,U⟩,n1,n2⟩
   obtain ⟨o,m,r⟩:=Q
   exact ⟨o,(q.2 b2 λz=>n1 (by rw [z])).trans ((l.2 b2 λz=>n2 (by rw [z])).trans m),r⟩
  ·refine hR h' tk' ?_ λb3 o3 x1 x2 e3=>kp b3 o3 x1 x2 ((q.2 b3 x1).trans ((l.2 b3 x2).trans e3))
   rw [ek]
   exact a1
theorem yM:typeLookup (.type "tuple") "keys"=pure none:=am_miss_of_fast (by kernel_rfl)
set_option maxRecDepth 100000 in
theorem pZ{prog:Program}{w:World}{A:Around}{E:Value->Shared->Prop}{s:Shared}{a:Addr}{xs:Array Value}{k:Nat}{l:Array (Option Value)}{Q:Option Value->Shared->Prop}
  (m:s.heap.get? a=some {cls:=.type "tuple",dict:=none,data:=.seq xs k,slots:=l})(u:A.handled=none)
  (h:∀h' tk,(∀b o,s.heap.get? b=some o->h'.get? b=some o)->Q none {s with heap:=h',toks:=tk}) :
  wpAny (model prog w) A (getAttr? (.ref a) "keys") Q E s:=by
 obtain ⟨q,g,d,tk,r⟩:=s
 have j:∀f,(⟨q,g,d,f,r⟩:Shared).TypeIs (.ref a) "tuple":=λ_=>⟨_,m,ϱ⟩
 have C:=sub_AttributeError
 have D:=F.slot_tuple_getattribute.lookup
 have G:=F.slot_tuple_getattribute.bind (.ref a)
 have H:=am_tuple_getattr_none
 unfold getAttr? getAttrBy? getAttrBy
 repeat (any_goals (first | assumption | exact j _ | ((with_reducible show wpAny _ _ (call (Value.builtin "tuple.__getattribute__") _ _) _ _ _);refine call_meets F.slot_tuple_getattribute (j _) am_entry_tuple_getattribute (F.args_tuple_getattribute_2 _ _) (meets_getattribute_miss_tuple a xs k l "keys" _ yM θ θ) ⟨m,u,λh' f e i=>?_⟩) | wp_step))
 obtain ⟨x,y,z⟩:=i.there
 show wpAny _ _ (getattributeRaised _ _ _ _ _ _ _) _ _ _
 unfold getattributeRaised
 repeat (any_goals (first | assumption | wp_step))
 exact h _ _ i.keeps
theorem kr{P:Program}{w:World}{A:Around}{E:Value->Shared->Prop}{s:Shared}{t:Addr}{us:List Value}{l:List (Key×Value)}{Q:Value->Shared->Prop}(hh:A.handled=none)(nd:s.heap.NoDictAt (.ref t))(ht:s.heap.IsTuple t us.toArray)(lk:us.length=l.length)(hz:us.length<=sizeLine)
  (hp:∀(j:Nat) (u:Value) (G:Key×Value),us[j]?=some u->l[j]?=some G->rF P w s.heap u G)
  (h:∀h' tk,h'.DictOf (aJ P w) s.heap.objs.size (merged [] l)->(∀b o,s.heap.get? b=some o->h'.get? b=some o)->Q (.ref s.heap.objs.size) {s with heap:=h',toks:=tk}) :
  wpAny (model P w) A (call (.type "dict") [.ref t]) Q E s:=by
 refine callType_codes (Q₁:=λy s₁=>y=.ref s.heap.objs.size/\s₁={s with heap:=s.heap.push {cls:=.type "dict",data:=.dict #[]}}) F.kt_called_dict (F.kt_typeCall_dict_1 _) F.entry_dict_init (kt_code_dict_new _ ⟨ϱ,ϱ⟩) ?_
 rintro y s₁ ⟨rfl,rfl⟩
 have f:(s.heap.push {cls:=.type "dict",data:=.dict #[]}).DictOf (aJ P w) s.heap.objs.size []:=Heap.DictOf.new s.heap
 obtain ⟨o,H,X,n,m⟩:=ht
 have K:=nd.of H
 have q:t<s.heap.objs.size:=η H
 refine ⟨f.typeIs,F.args_dict_init_2 _ _,?_⟩
 unfold Builtin.«dict.__init__»
 refine ε ?_
 unfold Builtin.Dict.selfAndRest
 refine ε (wpAny_notOrdered_dict f.typeIs ?_)
 show wpAny _ _ (pure (s.heap.objs.size,[Value.ref t])) _ _ _
 refine π ?_
 show wpAny _ _ (Builtin.Dict.updateFrom "dict.__init__" s.heap.objs.size (.ref t) [] .none) _ _ _
 unfold Builtin.Dict.updateFrom
 have g:(s.heap.push {cls:=.type "dict",data:=.dict #[]}).get? t=some o:=ρ _ H
 have L:({s with heap:=s.heap.push {cls:=.type "dict",data:=.dict #[]}}:Shared).TypeIs (.ref t) "tuple":=⟨o,g,X⟩
 refine ε (wpAny_typeOf L ?_)
 rw [if_pos ζ]
 obtain ⟨oc,od,I,a6⟩:=o
 cases (show oc=_ from X)
 cases (show od=_ from K)
 cases (show I=_ from m)
 refine ε (pZ g hh λC a8 D=>?_)
 rw [if_pos (show (none:Option Value).isNone=true from rfl)]
 refine ε (wpAny_rule ?_)
 have x:C.DictOf (aJ P w) s.heap.objs.size []:=by
  obtain ⟨o,Y,Z,e,r⟩:=f
  exact ⟨o,Y,Z,D _ _ e,r⟩
 have O:C.IsTuple t us.toArray:=⟨_,D _ _ g,ϱ,_,ϱ⟩
 refine ε (wpAny_pyIter_tuple O ?_)
 have i:s.heap.objs.size<C.objs.size:=by
  obtain ⟨o,Y,Z,e,r⟩:=x
  exact η e
 have kk:∀b o,s.heap.get? b=some o->(C.push {cls:=.type "tuple_iterator",data:=.fields #[.ref t,.int 0 0]}).get? b=some o:=λb o e=>ρ _ (D b o (ρ _ e))
 refine wpAny_pure ⟨plainId_quiet eJ _,rn (A:=A.in1) (d:=s.heap.objs.size) (it:=C.objs.size) (t:=t) hh (Nat.ne_of_lt i) (Nat.ne_of_gt q) (Nat.ne_of_gt (Nat.lt_trans q i)) us l lk us.length 0 _ [] _ ω (Nat.zero_le _) ⟨_,Heap.get?_push_size _ rfl,ϱ,ϱ⟩ ?_ (x.push _) (by simp;exact hz) ?_ λh' U W kp=>?_⟩
 ·exact ⟨_,ρ _ (D _ _ g),ϱ,_,ϱ⟩
 ·intro j u G e1 e2
  obtain ⟨b,J,rfl,⟨o,hb,r⟩,hk⟩:=hp j u G e1 e2
  have lb:=η hb
  exact ⟨⟨b,J,ϱ,⟨o,kk _ _ hb,r⟩,hk⟩,λz=>absurd lb (by cases z;exact Nat.lt_irrefl _),λz=>absurd (Nat.lt_trans lb i) (by cases z;exact Nat.lt_irrefl _)⟩
 ·exact ⟨ϱ,h h' U W λb o e=>kp b o (Φ (η e)) (Φ (Nat.lt_trans (η e) i)) (kk b o e)⟩
def xn(a:Addr)(us:List V):HO:=.ext λh=>us.length<=sizeLine/\∃its:List Value,Vals us its/\∃n sl,h.get? a=some {cls:=.type "tuple",dict:=none,data:=.seq its.toArray n,slots:=sl}
def Bj(t:TA):TE:=fun σ H Q=>t σ H λxs H1=>xs.length<=sizeLine/\∀p,H1 p=none->Q (.ref p) (upd H1 p (xn p xs))
section
variable {X:Cx}{es:List Expr}{t:TA}{pos:Pos}
theorem kH{x1}(h:PA X es t):PE X (.Tuple es x1 pos) (Bj t):=by
 intro f s σ H Q I m
 refine wpAny_Tuple_spliced (thn (h pos f s σ H _ I m) λg d ⟨j,H1,i,r,z,q⟩=>⟨by rw [← r.length];exact z,?_⟩)
 have hf:H1 d.heap.objs.size=none:=i.hok.fresh (ι _)
 refine ⟨.ref d.heap.objs.size,upd H1 d.heap.objs.size (xn d.heap.objs.size j),i.laid (t':=d.toks) (λb u e=>ρ _ e) (ι _) ?_,ϱ,q _ hf⟩
 exact ⟨⟨z,g,r,_,_,ψ _ rfl⟩,⟨_,ψ _ rfl⟩,λh1 o ⟨z,g,r,n,l,e⟩ k=>⟨z,g,r,n,l,k _ e⟩⟩
def prD(H:Hp)(kv:Key×V)(u:V):Prop:=∃b,u=.ref b/\H b=some (.tup [kV kv.1,kv.2])
theorem mh(hc:X.calm=true):cG X (.type "dict") (λxs H Q=>∃t us kvs,xs=[.ref t]/\(∀h,HOk X.prog X.w H h->∃its:List Value,Vals us its/\h.NoDictAt (.ref t)/\h.IsTuple t its.toArray)/\Paired (prD H) kvs us/\kvs.length<=1000/\∀p,H p=none->Q (.ref p) (upd H p (.dK (aF [] kvs)))):=by
 intro D s σ H xs us Q I r h
 obtain ⟨t,vs,kvs,rfl,F,x,hl,q⟩:=h
 obtain ⟨u,rfl,G⟩:=cL r
 cases G
 obtain ⟨its,y,nd,J⟩:=F _ I.hok
 have l1:=x.len
 have l2:=y.length
 have ex:∀{kvs:List (Key×V)} {vs:List V} {its:List Value},Paired (prD H) kvs vs->Vals vs its->∃f:List (Key×Value),KV kvs f/\its.length=f.length/\∀(j:Nat) (u:Value) (d:Key×Value),its[j]?=some u->f[j]?=some d->rF X.prog X.w s.heap u d:=by
  intro kvs vs its h
  induction h generalizing its with
  | nil=>intro r;cases r;exact ⟨[],.nil,rfl,λj u d e=>by cases e⟩
  | cons p _ ih =>
   rename_i d v kvs vs _
   intro r
   cases r with
   | cons r1 r2 =>
    obtain ⟨f,g,i,l⟩:=ih r2
    obtain ⟨b,rfl,K⟩:=p
    obtain ⟨_,L,O,P⟩:=(show ObjOk X.prog X.w H s.heap b (.tup [kV d.1,d.2]) from I.hok b _ K)
    obtain ⟨U,W,rfl,Y,m⟩:=rK O
    cases r1
    refine ⟨(d.1,W)::f,.cons ⟨ϱ,m⟩ g,congrArg (·+1) i,λj u o z C=>?_⟩
    cases j with
    | zero =>
     cases z
     cases C
     exact ⟨b,U,ϱ,P,lP Y⟩
    | succ j=>exact l j u o z C
 obtain ⟨f,g,i,l⟩:=ex x y
 have hs:(1000:Nat)<=sizeLine:=by decide
 have l3:=g.length
 refine kr (I.ok.hd hc) nd J i ω l λh' tk hd kp=>?_
 refine ⟨.ref s.heap.objs.size,_,I.laid (t':=tk) kp (ι _) ?_,ϱ,q _ (I.hok.fresh (ι _))⟩
 have Z:(aF [] kvs).length<=sizeLine:=by
  have h1:=cW kvs []
  rw [List.length_nil] at h1
  omega
 exact rh Z (by have:=I.big;exact beq_false_of_ne (Nat.ne_of_gt this)) (g.merge .nil) hd
theorem rq(i:X.calm=true):cG X (.type "dict") (λxs H Q=>∃t us kvs,xs=[.ref t]/\H t=some (xn t us)/\Paired (prD H) kvs us/\kvs.length<=1000/\∀p,H p=none->Q (.ref p) (upd H p (.dK (aF [] kvs)))):=by
 intro b s σ H xs us Q I r h
 obtain ⟨t,vs,kvs,rfl,f,q⟩:=h
 refine mh i b s σ H _ us Q I r ⟨t,vs,kvs,ϱ,λh ok=>?_,q⟩
 obtain ⟨⟨z,d,g,n,j,e⟩,_⟩:=(show ObjOk X.prog X.w H h t (xn t vs) from ok t _ f)
 exact ⟨d,g,⟨_,e,ϱ⟩,_,e,ϱ,_,ϱ⟩
def TF(H:Hp)(t:Addr)(us:List V):Prop:=∃o,H t=some (.frz o (.tup us))/\o.dict=none
theorem rA(j:X.calm=true):cG X (.type "dict") (λxs H Q=>∃t us kvs,xs=[.ref t]/\TF H t us/\Paired (prD H) kvs us/\kvs.length<=1000/\∀p,H p=none->Q (.ref p) (upd H p (.dK (aF [] kvs)))):=by
 intro b s σ H xs us Q I r h
 obtain ⟨t,vs,kvs,rfl,⟨o,e,od⟩,q⟩:=h
 refine mh j b s σ H _ us Q I r ⟨t,vs,kvs,ϱ,λh ok=>?_,q⟩
 obtain ⟨f,z,d,g,i⟩:=(show ObjOk X.prog X.w H h t (.frz o (.tup vs)) from ok t _ e)
 exact ⟨d,g,⟨_,f,od⟩,i⟩
theorem qh:cG X (.type "tuple") (λxs H Q=>∃p ys,xs=[.ref p]/\SqL X.K H p ys/\∀l H',H l=none->Same H H'->TF H' l ys->Q (.ref l) H'):=by
 intro d s σ H xs F Q I r h
 obtain ⟨p,ys,rfl,x,q⟩:=h
 obtain ⟨u,rfl,y⟩:=cL r
 cases y
 obtain ⟨f,i,z,C⟩:=I.list x
 have j:=i.length
 refine call_tuple_list z.isList (λg kp=>?_) (by simp only [List.size_toArray]<;>omega)
 have m:Inv X d σ H {s with heap:=g}:=I.kept (t':=s.toks) kp
 have hf:=m.hok.fresh (ι _)
 have D:Inv X d σ (upd H g.objs.size (.frz {cls:=.type "tuple",data:=.seq f.toArray} (.tup ys))) {s with heap:=g.push {cls:=.type "tuple",data:=.seq f.toArray}} :=
  m.laid (t':=s.toks) (λb o e=>ρ _ e) (ι _) (show ObjOk X.prog X.w _ _ _ (.frz _ (.tup ys)) from ⟨ψ _ rfl,C,f,i,IsTup.new _ _⟩)
 exact ⟨.ref g.objs.size,_,D,ϱ,q _ _ hf (ag hf) ⟨_,ae,ϱ⟩⟩
end
def Bs(td ty:TE):TE:=fun σ H Q=>td σ H λx H1=>∃a,x=.ref a/\IsD H1 a/\ty σ H1 λy H2=>∃b kvs more,y=.ref b/\a≠b/\H2 a=some (.dK kvs)/\H2 b=some (.dK more)/\kvs.length+more.length<=sizeLine/\Q .non (upd H2 a (.dK (aF kvs more)))
theorem yi{X:Cx}{o e:Expr}{j l:Pos}{td ty:TE}(ho:PE X o td)(L:PE X e ty)(m:M1 X o "update" j e l):PE X (.Call (.Attribute o "update" j) [e] [] l) (Bs td ty):=by
 intro i s σ H Q I h
 refine wpAny_Call_method m.base m.few m.line PySem.F.plainAttrs_dict PySem.F.slot_dict_update PySem.F.type_dict_update (thn (ho i s σ H _ I h) λu s1 ⟨x,H1,W,rx,a,ex,d,q1⟩=>?_)
 subst ex
 obtain rfl:u=Value.ref a:=rx
 obtain ⟨t1,t2,_⟩:=iD W d
 refine ⟨t1,t2,?_⟩
 rw [m.trees]
 refine Calls.callWith_builtin rfl (Calls.evalArgs_plain (Calls.spliced_cons (thn (L i s1 σ H1 _ W q1) λiv s2 ⟨y,H2,O,ry,b,P,z,ey,U,Y,eb,hz,q2⟩=>Calls.spliced_nil ?_)))
 subst ey
 cases ry
 obtain ⟨z1,C,D,f,r⟩:=sK O.hok Y
 obtain ⟨z2,G,J,g,K⟩:=sK O.hok eb
 refine call_meetsIn PySem.F.slot_dict_update r.typeIs PySem.F.entry_dict_update (PySem.F.args_dict_update_2 _ _) (meets_dict_update (aJ X.prog X.w) a b U G) ⟨D,J,r,K,by rw [← f.length,← g.length];exact hz,λh' Z d2 hs=>?_⟩
 have L:∃q,h'.get? a=some q:=let ⟨q,_,_,hq,_⟩:=Z;⟨q,hq⟩
 refine ⟨.non,_,jb (t':=s2.toks) O (by rw [Y];exact ϰ) hs L (rh ?_ C (g.merge f) Z),ϱ,q2⟩
 have:=cW z P
 omega
end L2
namespace L2
open PySem PySem.Spec PyProof.Rows PySem.W
theorem dU{α β:Type}(lt:Nat->Nat->Bool)(f:α->KasT β):∀t:KasT α,aX lt (t.bind f)=aX lt (f (aX lt t))
 | .ret _=>rfl
 | .ask i j k=>dU lt f (k (lt i j))
structure B3(n:Nat)(lt:Nat->Nat->Bool):Prop where
 tri:∀i j,i<n->j<n->i≠j->lt i j=false->lt j i=true
 tr:∀i j k,lt i j=true->lt j k=true->lt i k=true
abbrev gA(p:Array Nat)(k:Nat):Nat:=p.getD k 0
def Pm(n:Nat)(p:Array Nat):Prop:=p.toList.Perm (List.range n)
theorem Pm.size{n:Nat}{p:Array Nat}(h:Pm n p):p.size=n:=by
 have:=List.Perm.length_eq h
 rwa [Array.length_toList,List.length_range] at this
theorem lU{p:Array Nat}{k:Nat}(h:k<p.size):p.toList[k]?=some (gA p k):=by
 unfold gA
 rw [Array.getD_eq_getD_getElem?,Array.getElem?_toList,Array.getElem?_eq_getElem h]
 rfl
theorem Pm.lt{n:Nat}{p:Array Nat}(h:Pm n p){k:Nat}(d:k<n):gA p k<n:=by
 have b:=List.mem_of_getElem? (lU (p:=p) (k:=k) (by rw [h.size];exact d))
 exact List.mem_range.mp ((List.Perm.mem_iff h).mp b)
theorem Pm.ne{n:Nat}{p:Array Nat}(h:Pm n p){i j:Nat}(hi:i<n)(hj:j<n)(hij:i≠j):gA p i≠gA p j:=λe=>by
 have nd:p.toList.Nodup:=(List.Perm.nodup_iff h).mpr List.nodup_range
 have a:=lU (p:=p) (k:=i) (by rw [h.size];exact hi)
 have b:=lU (p:=p) (k:=j) (by rw [h.size];exact hj)
 rw [e,← b] at a
 exact hij ((List.getElem?_inj (by rw [Array.length_toList,h.size];exact hi) nd).mp a)
theorem Pm.perm{n:Nat}{p q:Array Nat}(h:Pm n p)(e:q.Perm p):Pm n q:=(Array.perm_iff_toList_perm.mp e).trans h
def Up(lt:Nat->Nat->Bool)(p:Array Nat)(m:Nat):Prop:=∀i j,i<j->j<m->lt (gA p i) (gA p j)=true
def Dn(lt:Nat->Nat->Bool)(p:Array Nat)(m:Nat):Prop:=∀i j,i<j->j<m->lt (gA p j) (gA p i)=true
section
variable {n:Nat}{lt:Nat->Nat->Bool}(O:B3 n lt)
include O
theorem rD{p:Array Nat}(hp:Pm n p):∀f a,1<=a->a+f<=n->Up lt p a->a<=aX lt (kas_asc p f a)/\aX lt (kas_asc p f a)<=a+f/\Up lt p (aX lt (kas_asc p f a)) /\
  (aX lt (kas_asc p f a)<a+f->lt (gA p (aX lt (kas_asc p f a))) (gA p (aX lt (kas_asc p f a)-1))=true)
 | 0,a,_,_,u=>⟨ι _,ι _,u,λz=>absurd z (Nat.lt_irrefl _)⟩
 | f+1,a,h1,hn,u=>by
  show a<=aX lt (if lt (gA p a) (gA p (a-1))=true then .ret a else kas_asc p f (a+1))/\aX lt (if lt (gA p a) (gA p (a-1))=true then .ret a else kas_asc p f (a+1))<=a+(f+1)/\Up lt p (aX lt (if lt (gA p a) (gA p (a-1))=true then .ret a else kas_asc p f (a+1))) /\
   (aX lt (if lt (gA p a) (gA p (a-1))=true then .ret a else kas_asc p f (a+1))<a+(f+1)->lt (gA p (aX lt (if lt (gA p a) (gA p (a-1))=true then .ret a else kas_asc p f (a+1)))) (gA p (aX lt (if lt (gA p a) (gA p (a-1))=true then .ret a else kas_asc p f (a+1))-1))=true)
  by_cases c:lt (gA p a) (gA p (a-1))=true
  ·rw [if_pos c]
   exact ⟨ι _,by show a<=_;omega,u,λ_=>c⟩
  ·rw [if_neg c]
   have c':lt (gA p (a-1)) (gA p a)=true:=O.tri _ _ (hp.lt ω) (hp.lt ω) (hp.ne ω ω ω) (by simpa using c)
   obtain ⟨r1,r2,r3,r4⟩:=rD hp f (a+1) ω ω λi j hij hj=>by
    by_cases e:j=a
    ·subst e
     by_cases e':i=j-1
     ·rw [e']
      exact c'
     ·exact O.tr _ _ _ (u i (j-1) ω ω) c'
    ·exact u i j hij ω
   exact ⟨ω,ω,r3,λz=>r4 ω⟩
theorem sL{p:Array Nat}(hp:Pm n p):∀f a,1<=a->a+f<=n->Dn lt p a->∃m,aX lt (kas_desc f p a 0)=(p,m,0)/\a<=m/\m<=a+f/\Dn lt p m
 | 0,a,_,_,u=>⟨a,rfl,ι _,ι _,u⟩
 | f+1,a,h1,hn,u=>by
  have e:aX lt (kas_desc (f+1) p a 0)=aX lt (if lt (gA p a) (gA p (a-1))=true then (if 0>0 then kas_desc f (kas_rev p (a-(0+1)) a) (a+1) 0 else kas_desc f p (a+1) 0)
   else .ask (gA p (a-1)) (gA p a) λd=>if d=true then .ret (p,a,0) else kas_desc f p (a+1) (0+1)):=rfl
  rw [e]
  by_cases c:lt (gA p a) (gA p (a-1))=true
  ·rw [if_pos c,if_neg (Nat.lt_irrefl 0)]
   obtain ⟨m,r1,r2,r3,r4⟩:=sL hp f (a+1) ω ω λi j hij hj=>by
    by_cases e:j=a
    ·subst e
     by_cases e':i=j-1
     ·rw [e']
      exact c
     ·exact O.tr _ _ _ c (u i (j-1) ω ω)
    ·exact u i j hij ω
   exact ⟨m,r1,ω,ω,r4⟩
  ·rw [if_neg c]
   have c':lt (gA p (a-1)) (gA p a)=true:=O.tri _ _ (hp.lt ω) (hp.lt ω) (hp.ne ω ω ω) (by simpa using c)
   show ∃m,aX lt (if lt (gA p (a-1)) (gA p a)=true then .ret (p,a,0) else kas_desc f p (a+1) (0+1))=(p,m,0)/\_
   rw [if_pos c']
   exact ⟨a,ϱ,ι _,ω,u⟩
omit O in
theorem vf{p:Array Nat}{m:Nat}(h:m<=p.size)(k:Nat):gA (kas_rev p 0 m) k=if k<m then gA p (m-1-k) else gA p k:=by
 unfold gA kas_rev
 rw [Array.getD_eq_getD_getElem?,Array.getD_eq_getD_getElem?,Array.getD_eq_getD_getElem?,getElem?_mirror_all h]
 by_cases c:k<m
 ·rw [if_pos ⟨ϖ _,c⟩,if_pos c,Nat.zero_add]
 ·rw [if_neg (λz=>c z.2),if_neg c]
theorem xB{p:Array Nat}(e:Pm n p){m:Nat}(h1:1<=m)(r:m<=n)(d:Dn lt p m):1<=(aX lt (kas_tail3 m n p)).1/\(aX lt (kas_tail3 m n p)).1<=n/\Pm n (aX lt (kas_tail3 m n p)).2/\Up lt (aX lt (kas_tail3 m n p)).2 (aX lt (kas_tail3 m n p)).1:=by
 have b:Pm n (kas_rev p 0 m):=e.perm (mirror_perm _ _ _ _)
 have q:=e.size
 have u:Up lt (kas_rev p 0 m) m:=λi j h l=>by
  rw [vf ω,vf ω,if_pos ω,if_pos l]
  exact d _ _ ω ω
 unfold kas_tail3
 rw [dU]
 obtain ⟨f,o,g,_⟩:=rD O b (n-m) m h1 ω u
 exact ⟨Λ h1 f,by show aX lt (kas_asc (kas_rev p 0 m) (n-m) m)<=n;omega,b,g⟩
theorem xc(h0:1<=n){p:Array Nat}(b:Pm n p):1<=(aX lt (kas_count n p)).1/\(aX lt (kas_count n p)).1<=n/\Pm n (aX lt (kas_count n p)).2/\Up lt (aX lt (kas_count n p)).2 (aX lt (kas_count n p)).1:=by
 unfold kas_count
 rw [dU]
 obtain ⟨f,q,d,o⟩:=rD O b (n-1) 1 (ι _) ω λi j l u=>by omega
 generalize aX lt (kas_asc p (n-1) 1)=a at f q d o
 by_cases e:a=n
 ·rw [if_pos (by simp [e])]
  exact ⟨f,by show a<=n;omega,b,d⟩
 ·rw [if_neg (by simp [e])]
  by_cases g:a>1
  ·rw [if_pos g]
   have c:lt (gA p 0) (gA p (a-1))=true:=d 0 (a-1) ω ω
   show 1<=(aX lt (if lt (gA p 0) (gA p (a-1))=true then .ret (a,p) else kas_descPart a n (kas_rev p 0 a))).1/\(aX lt (if lt (gA p 0) (gA p (a-1))=true then .ret (a,p) else kas_descPart a n (kas_rev p 0 a))).1<=n/\Pm n (aX lt (if lt (gA p 0) (gA p (a-1))=true then .ret (a,p) else kas_descPart a n (kas_rev p 0 a))).2/\Up lt (aX lt (if lt (gA p 0) (gA p (a-1))=true then .ret (a,p) else kas_descPart a n (kas_rev p 0 a))).2 (aX lt (if lt (gA p 0) (gA p (a-1))=true then .ret (a,p) else kas_descPart a n (kas_rev p 0 a))).1
   rw [if_pos c]
   exact ⟨f,by show a<=n;omega,b,d⟩
  ·rw [if_neg g]
   have h:a=1:=by omega
   subst h
   have c:=o ω
   obtain ⟨m,q1,q2,q3,q4⟩:=sL O b (n-(1+1)) (1+1) ω ω λi j l u=>by
    have h:i=0:=by omega
    have r:j=1:=by omega
    rw [h,r]
    exact c
   unfold kas_descPart
   rw [dU,q1]
   show 1<=(aX lt (if (0:Nat)>0 then kas_tail3 m n (kas_rev p (m-(0+1)) m) else kas_tail3 m n p)).1/\(aX lt (if (0:Nat)>0 then kas_tail3 m n (kas_rev p (m-(0+1)) m) else kas_tail3 m n p)).1<=n/\Pm n (aX lt (if (0:Nat)>0 then kas_tail3 m n (kas_rev p (m-(0+1)) m) else kas_tail3 m n p)).2/\Up lt (aX lt (if (0:Nat)>0 then kas_tail3 m n (kas_rev p (m-(0+1)) m) else kas_tail3 m n p)).2 (aX lt (if (0:Nat)>0 then kas_tail3 m n (kas_rev p (m-(0+1)) m) else kas_tail3 m n p)).1
   rw [if_neg (Nat.lt_irrefl 0)]
   exact xB O b ω ω q4
theorem lB{p:Array Nat}(hp:Pm n p){k:Nat}(hk:k<n)(u:Up lt p k):∀f l r,l<=r->r<=k->r-l<=f->(∀i,i<l->lt (gA p i) (gA p k)=true)->(∀i,r<=i->i<k->lt (gA p k) (gA p i)=true) ->
  aX lt (kas_place p k f l r)<=k/\(∀i,i<aX lt (kas_place p k f l r)->lt (gA p i) (gA p k)=true)/\(∀i,aX lt (kas_place p k f l r)<=i->i<k->lt (gA p k) (gA p i)=true)
 | 0,l,r,h1,h2,h3,a,b=>⟨by show l<=k;omega,a,λi hi hk'=>b i (by have:l<=i:=hi;omega) hk'⟩
 | f+1,l,r,h1,h2,h3,a,b=>by
  unfold kas_place
  by_cases c:l≥r
  ·rw [if_pos c]
   exact ⟨by show l<=k;omega,a,λi hi hk'=>b i (by have:l<=i:=hi;omega) hk'⟩
  ·rw [if_neg c]
   show aX lt (if lt (gA p k) (gA p ((l+r)/2))=true then kas_place p k f l ((l+r)/2) else kas_place p k f ((l+r)/2+1) r)<=k/\(∀i,i<aX lt (if lt (gA p k) (gA p ((l+r)/2))=true then kas_place p k f l ((l+r)/2) else kas_place p k f ((l+r)/2+1) r)->_)/\(∀i,aX lt (if lt (gA p k) (gA p ((l+r)/2))=true then kas_place p k f l ((l+r)/2) else kas_place p k f ((l+r)/2+1) r)<=i->_)
   by_cases d:lt (gA p k) (gA p ((l+r)/2))=true
   ·rw [if_pos d]
    refine lB hp hk u f l ((l+r)/2) ω ω ω a λi hi hik=>?_
    by_cases e:i=(l+r)/2
    ·rw [e]
     exact d
    ·exact O.tr _ _ _ d (u _ i ω hik)
   ·rw [if_neg d]
    have d':lt (gA p ((l+r)/2)) (gA p k)=true:=O.tri _ _ (hp.lt hk) (hp.lt ω) (hp.ne hk ω ω) (by simpa using d)
    refine lB hp hk u f ((l+r)/2+1) r ω h2 ω (λi hi=>?_) b
    by_cases e:i=(l+r)/2
    ·rw [e]
     exact d'
    ·exact O.tr _ _ _ (u i _ ω ω) d'
theorem xl:∀f (p:Array Nat) k,Pm n p->k+f=n->Up lt p k->Pm n (aX lt (kas_bin f p k))/\Up lt (aX lt (kas_bin f p k)) n
 | 0,p,k,hp,hk,u=>⟨hp,by have e:k=n:=hk;rw [← e];exact u⟩
 | f+1,p,k,hp,hk,u=>by
  unfold kas_bin
  rw [dU]
  obtain ⟨r1,r2,r3⟩:=lB O hp ω u k 0 k (ϖ _) (ι _) ω (λi hi=>absurd hi (Nat.not_lt_zero _)) λi hi hik=>absurd hik ω
  generalize aX lt (kas_place p k k 0 k)=l at r1 r2 r3
  have hs:=hp.size
  have at_:∀j,gA (bubble p k (k-l)) j=if j=l then gA p k else if l<j/\j<=k then gA p (j-1) else gA p j:=λj=>by
   unfold gA
   rw [Array.getD_eq_getD_getElem?,getElem?_bubble ω _ ω]
   have e:k-(k-l)=l:=by omega
   rw [e]
   split
   ·rw [Array.getD_eq_getD_getElem?]
   ·split
    ·rw [Array.getD_eq_getD_getElem?]
    ·rw [Array.getD_eq_getD_getElem?]
  refine xl f _ (k+1) (hp.perm (bubble_perm _ _ _)) ω λi j hij hj=>?_
  rw [at_,at_]
  by_cases e1:i=l
  ·rw [if_pos e1,if_neg ω,if_pos ω]
   exact r3 _ ω ω
  ·rw [if_neg e1]
   by_cases e2:j=l
   ·rw [if_pos e2,if_neg ω]
    exact r2 i ω
   ·rw [if_neg e2]
    by_cases e3:l<i
    ·rw [if_pos ⟨e3,ω⟩,if_pos ω]
     exact u _ _ ω ω
    ·rw [if_neg (λz=>e3 z.1)]
     by_cases e4:l<j
     ·rw [if_pos ⟨e4,ω⟩]
      by_cases e5:i=j-1
      ·omega
      ·exact u _ _ ω ω
     ·rw [if_neg (λz=>e4 z.1)]
      exact u _ _ hij ω
theorem xQ(h0:1<=n):Pm n (aX lt (kas_sort n))/\Up lt (aX lt (kas_sort n)) n:=by
 unfold kas_sort
 rw [dU]
 obtain ⟨f,g,d,b⟩:=xc O h0 (p:=List.toArray (List.range n)) (by show List.Perm _ _;exact List.Perm.refl _)
 generalize aX lt (kas_count n (List.toArray (List.range n)))=c at f g d b
 by_cases e:c.1<n
 ·rw [if_pos e,Nat.max_eq_left f]
  exact xl O _ _ _ d ω b
 ·rw [if_neg e]
  have h:c.1=n:=by omega
  rw [h] at b
  exact ⟨d,b⟩
end
theorem uP{α:Type} [Inhabited α]{lt:α->α->Bool}(r:∀a b,a≠b->lt a b=false->lt b a=true)(C:∀a b c,lt a b=true->lt b c=true->lt a c=true){xs:List α}(nd:xs.Nodup)(h0:1<=xs.length) :
  (bU lt xs).Perm xs/\(bU lt xs).Pairwise (λa b=>lt a b=true):=by
 have d:∀i (h:i<xs.length),xs.getD i default=xs[i]:=λi h=>by
  rw [List.getD_eq_getElem?_getD,ξ h]
  rfl
 have O:B3 xs.length (λi j=>lt (xs.getD i default) (xs.getD j default)):=⟨λi j f l g c=>r _ _ (λe=>by
  rw [d i f,d j l] at e
  exact g ((List.getElem?_inj f nd).mp (by rw [ξ f,ξ l,e]))) c,λi j k a b=>C _ _ _ a b⟩
 obtain ⟨p,u⟩:=xQ O h0
 unfold bU
 generalize aX (λi j=>lt (xs.getD i default) (xs.getD j default)) (kas_sort xs.length)=q at p u
 constructor
 ·have e:=List.Perm.map (λi=>xs.getD i default) p
  refine e.trans ?_
  have y:(List.range xs.length).map (λi=>xs.getD i default)=xs:=by
   apply List.ext_getElem
   ·simp
   ·intro i h1 z
    rw [List.getElem_map,List.getElem_range,d i z]
  rw [y]
 ·rw [List.pairwise_map,List.pairwise_iff_getElem]
  intro i j f l g
  have o:i<xs.length:=by
   rw [Array.length_toList,p.size] at f
   exact f
  have m:j<xs.length:=by
   rw [Array.length_toList,p.size] at l
   exact l
  have w:=lU (p:=q) (k:=i) (by rw [p.size];exact o)
  have x:=lU (p:=q) (k:=j) (by rw [p.size];exact m)
  rw [ξ f] at w
  rw [ξ l] at x
  rw [Δ w,Δ x]
  exact u i j g m
theorem rP{α:Type}{lt:α->α->Bool}(d:∀a b,lt a b=true->lt b a=true->False):∀{xs ys:List α},xs.Perm ys->xs.Pairwise (λa b=>lt a b=true)->ys.Pairwise (λa b=>lt a b=true)->xs=ys
 | [],ys,p,_,_=>(List.Perm.nil_eq p)
 | x::xs,[],p,_,_=>absurd (List.Perm.length_eq p) (by simp)
 | x::xs,y::ys,p,h1,h2=>by
  have e:x=y:=by
   rcases ϕ.mp ((List.Perm.mem_iff p).mp Ω) with e | e
   ·exact e
   ·rcases ϕ.mp ((List.Perm.mem_iff p).mpr (Ω (a:=y) (l:=ys))) with e' | e'
    ·exact e'.symm
    ·exact (d x y ((List.pairwise_cons.mp h1).1 y e') ((List.pairwise_cons.mp h2).1 x e)).elim
  subst e
  rw [rP d ((List.perm_cons x).mp p) (List.pairwise_cons.mp h1).2 (List.pairwise_cons.mp h2).2]
open Lo
def zg(h:Heap)(x:Int×Int)(v:Value):Prop:=∃a t1 t2,v=.ref a/\h.IsTuple a #[.int x.1 t1,.int x.2 t2]
def ltP(x y:Int×Int):Bool:=if x.1=y.1 then (if x.2=y.2 then false else decide (x.2<y.2)) else decide (x.1<y.1)
section
variable {prog:Program}{w:World}{A:Around}{E:Value->Shared->Prop}{s:Shared}
theorem BP{x y:Int×Int}{u v:Value}{Q:Bool->Shared->Prop}(h1:zg s.heap x u)(j:zg s.heap y v)(q:Q (ltP x y) s):wpAny (model prog w) A (keyLt' (tuples' true) u v) Q E s:=by
 obtain ⟨a,b,d,rfl,e⟩:=h1
 obtain ⟨c,u1,u2,rfl,q1⟩:=j
 obtain ⟨l,f,_,m,g⟩:=id e
 obtain ⟨o,h,_,r,i⟩:=id q1
 refine kat_lt f g h i (kat_cons (SeqAt.EqAt.int_int _ b _ u1 _ _ _ _ ?_))
 unfold ltP at q
 by_cases en:x.1=y.1
 ·rw [if_pos en] at q
  rw [show (x.1==y.1)=true from beq_iff_eq.mpr en]
  refine kat_yes (kat_cons (SeqAt.EqAt.int_int _ d _ u2 _ _ _ _ ?_))
  by_cases es:x.2=y.2
  ·rw [if_pos es] at q
   rw [show (x.2==y.2)=true from beq_iff_eq.mpr es]
   exact kat_yes (kat_nil q)
  ·rw [if_neg es] at q
   rw [show (x.2==y.2)=false from beq_eq_false_iff_ne.mpr es]
   exact kat_no (kat_one _ _ (lt_int q))
 ·rw [if_neg en] at q
  rw [show (x.1==y.1)=false from beq_eq_false_iff_ne.mpr en]
  exact kat_no (kat_lt_int q)
abbrev Nms(h:Heap)(es:List (Int×Int))(vs:List Value):Prop:=Paired (zg h) es vs
theorem Nms.tups{h:Heap}:∀{es:List (Int×Int)} {vs:List Value},Nms h es vs->∃fs,KatTups h vs fs/\fs.length=vs.length/\∀v∈fs,∀M:Model,Looks M h (typeOf v) (.type "int")
 | _,_,.nil=>⟨[],KatTups.nil,rfl,λ_ hv=>nomatch hv⟩
 | _,_,.cons r t=>by
  obtain ⟨fs,k,l,ty⟩:=Nms.tups t
  obtain ⟨a,t1,t2,rfl,⟨o,e,c,n,d⟩⟩:=r
  refine ⟨_::fs,KatTups.cons e c d rfl k,by rw [List.length_cons,List.length_cons,l],λv hv M=>?_⟩
  rcases ϕ.mp hv with z | hv
  ·subst z
   exact .now
  ·exact ty v hv M
end
section
variable {prog:Program}{w:World}{A:Around}{E:Value->Shared->Prop}{s:Shared}{h₀:Heap}{L:Addr}{m:Str->Option Value}{news:List (Addr×Obj)}
theorem wy{es:List (Int×Int)}{vs:List Value}{a n:Nat}{P:PySem.Fin->Shared->Prop}(Y:A.units+1<cLine)(F:Fr h₀ L s.heap m)(N:News h₀ L s.heap news)(O:s.heap.get? a=some (seqObj "list" vs.toArray n))(f:a≠L)(g:h₀.get? a=none)(d:∀p∈news,p.1≠a)
  (Q:∀h',(∀b o,(b,o)∈news->h'.get? b=some o)->Nms h' es vs)(e:2<=vs.length)(h:vs.length<64)
  (q:∀h' c,Fr h₀ L h' m->News h₀ L h' ((a,PySem.W.listOf (List.toArray ((aX (λi j=>ltP (es.getD i default) (es.getD j default)) (kas_sort es.length)).toList.map λi=>vs.getD i Value.none)) c)::news)->P (.done (.ret .none)) {s with heap:=h'}) :
  wpAny (model prog w) A (Builtin.«list.sort» ⟨[.ref a], []⟩) P E s := by
 refine kat_list_sort F N O f g d e h λU h' y l=>?_
 have en:Nms h' es vs:=Q h' λb o z=>(l (b,o) (Θ _ z)).1
 have x:=en.len
 obtain ⟨fs,r,lf,u⟩:=en.tups
 refine kat_kind (s:={s with heap:=h'}) r ω (λv D=>u v D _) rfl ?_
 have e0:(Value.type "int" != Value.type "tuple")=true:=by decide
 rw [e0,← x]
 refine KAll.wp (lt:=λi j=>ltP (es.getD i default) (es.getD j default)) (λi j C G H I=>?_) (qm ω) λX=>?_
 ·exact BP (s:={s with heap:=h'}) (oI en G default Value.none) (oI en H default Value.none) I
 ·exact KasFin.intro (s:={s with heap:=h'}) y l (.head d) λe c J K=>q e c J K
end
theorem Aa{P:Program}{w:World}{K:Frag}{H:Hp}{h:Heap}{x:Int×Int}{v:V}{u:Value}(ok:HOk P w H h)(q:sPa K H x v)(r:RelV v u):zg h x u:=by
 obtain ⟨a,rfl,h1⟩:=q
 cases (show u=Value.ref a from r)
 obtain ⟨_,b,d,p⟩:=(show ObjOk P w H h a (.tup [.int x.1,.int x.2]) from ok a _ h1)
 obtain ⟨g,i,rfl,⟨e,rfl⟩,⟨f,rfl⟩⟩:=rK d
 exact ⟨a,e,f,ϱ,p⟩
theorem wz{P:Program}{w:World}{K:Frag}{H:Hp}{h:Heap}(ok:HOk P w H h):∀{es:List (Int×Int)} {us:List V} {vs:List Value},Paired (sPa K H) es us->Vals us vs->Nms h es vs
 | _,_,_,.nil,.nil=>.nil
 | _,_,_,.cons a t,.cons r q=>.cons (Aa ok a r) (wz ok t q)
theorem ltP_iff{x y:Int×Int}:ltP x y=true↔x.1<y.1\/(x.1=y.1/\x.2<y.2):=by
 unfold ltP
 split
 ·rename_i h
  split
  ·rename_i h2
   simp
   omega
  ·simp
   omega
 ·rename_i h
  simp
  omega
theorem sy(a b:Int×Int)(h:a≠b)(d:ltP a b=false):ltP b a=true:=by
 rw [ltP_iff]
 have e:¬(a.1<b.1\/(a.1=b.1/\a.2<b.2)):=λz=>by rw [ltP_iff.mpr z] at d;cases d
 have f:¬(a.1=b.1/\a.2=b.2):=λz=>h (Prod.ext z.1 z.2)
 omega
theorem wB(a b c:Int×Int)(h1:ltP a b=true)(d:ltP b c=true):ltP a c=true:=by
 rw [ltP_iff] at *
 omega
theorem AF(a b:Int×Int)(h1:ltP a b=true)(d:ltP b a=true):False:=by
 rw [ltP_iff] at *
 omega
end L2
namespace Tb
open PySem PySem.SetTable
end Tb
namespace L2
open PySem PySem.Spec PyProof.Rows PySem.W Tb
section
variable {X:Cx}{pins:List (Addr×Obj)}{σ:St}{H:Hp}{s:Shared}
def xp(ns ns':List Int):Prop:=ns'.Perm ns/\ns'.Pairwise (·<=·)
theorem on{vs:List Value}{g:List Int}{Q:VK}{E:Value->Shared->Prop}(I:Inv X pins σ H s)(m:IntsAre vs g)(h:vs.length<64)
  (q:∀l ns',H l=none->xp g ns'->Q (.ref l) (upd H l (.lst (ns'.map V.int)))) :
  wpAny (model X.prog X.w) X.A.in1 (newList vs >>= λl=>holding [l] (call (.builtin "list.sort") [l] []) >>= λ_=>ret l) (λfin s'=>∃v,fin=.done (.ret v)/\EP X pins σ Q v s') E s:=by
 have u:vs.length<=sizeLine:=by rw [sizeLine_eq];omega
 refine ε (wpAny_newList ?_ u)
 have f:(s.heap.push (seqObj "list" vs.toArray 0)).get? s.heap.objs.size=some (seqObj "list" vs.toArray 0):=ψ _ rfl
 have d:H s.heap.objs.size=none:=I.hok.fresh (ι _)
 refine ε (wpAny_holding (wpAny_call_entry slot_list_sort ⟨_,f,ϱ⟩ entry_list_sort (list_sort_tree (s:={s with heap:=s.heap.push (seqObj "list" vs.toArray 0)}) f m h λout ns' x i y=>⟨_,ϱ,?_⟩) (args_list_sort _)))
 refine π ⟨_,ϱ,?_⟩
 obtain ⟨e,r⟩:=sortedHeap_at (out:=out) f
 have z:vs.length=g.length:=by have:=(hE m).length;rw [ν] at this;exact this.symm
 refine ⟨.ref s.heap.objs.size,_,I.laid (a:=s.heap.objs.size) (o:=.lst (ns'.map V.int)) (t':=s.toks) (λb o j=>?_) (ι _) ?_,ϱ,q _ ns' d ⟨i,y⟩⟩
 ·have lt:=η j
  rw [sortedHeap_old (Φ lt) (by rw [Heap.size_push];exact Nat.lt_succ_of_lt lt)]
  exact ρ _ j
 ·exact ⟨by rw [ν,i.length_eq,sizeLine_eq];omega,out.toList,e,hE x,r⟩
end
end L2
namespace L2
open PySem PySem.Spec PyProof.Rows PySem.W Lo
def xF(td:TE):TE:=fun σ H Q=>td σ H λx H1=>∃a kvs,x=.ref a/\H1 a=some (.dK kvs)/\∀v,H1 v=none->Q (.ref v) (upd H1 v (Vw v a))
theorem tG{X:Cx}{o:Expr}{b d:Pos}{y:TE}(K:PE X o y)(f:attributeBase o "items" X.env (eval o X.env)=eval o X.env:=by rfl)(g:(b.endLine==d.line)=true:=by rfl) :
  PE X (.Call (.Attribute o "items" b) [] [] d) (xF y):=by
 intro j s σ H Q I h
 refine wpAny_Call_method0_late f g (thn (K j s σ H _ I h) λu i ⟨x,H1,m,G,a,w,ex,e,q⟩=>?_)
 subst ex
 obtain rfl:u=Value.ref a:=G
 obtain ⟨l,C,D⟩:=iD m (.inl ⟨w,.inl e⟩)
 refine ⟨"dict","dict.items",PySem.F.plainAttrs_dict,PySem.F.slot_dict_items,PySem.F.type_dict_items,l,C,Calls.callWith_builtin rfl (PySem.evalArgs_none ?_)⟩
 refine wpAny_call_entry PySem.F.slot_dict_items l PySem.F.entry_dict_items ?_ (PySem.F.args_dict_items_1 _)
 unfold Builtin.«dict.items» Builtin.Dict.noArgs
 refine ε (ε (wpAny_notOrdered_dict l (π ?_)))
 show wpAny _ _ (Builtin.Dict.showsAll a >>= λ_=>_) _ _ i
 unfold Builtin.Dict.showsAll
 rw [if_neg (by rw [D];exact Bool.false_ne_true)]
 refine ε (π (ε (wpAny_newObj_type (π ⟨_,ϱ,?_⟩))))
 refine ⟨.ref i.heap.objs.size,_,m.laid (a:=i.heap.objs.size) (o:=Vw i.heap.objs.size a) (t':=i.toks) (λ_ _ z=>ρ _ z) (ι _) ⟨⟨_,ψ _ rfl,ϱ,ϱ⟩,⟨_,ψ _ rfl⟩,λg1 L ⟨J,p,r⟩ k=>⟨J,k _ p,r⟩⟩,ϱ,q _ (m.hok.fresh (ι _))⟩
def nK(es:List (Int×Int)):List (Key×V):=es.map λx=>(.inl x.1,.int x.2)
theorem pO{P:Program}{w:World}:∀{es:List DictEntry} {vs:List (Key×Value)} {xs:List (Int×Int)},Pairs (aJ P w) es vs->KV (nK xs) vs->es.length=xs.length/\∀(i:Nat) (x:Int×Int),xs[i]?=some x->∃e,es[i]?=some e/\RelV (.int x.1) e.key/\RelV (.int x.2) e.val
 | _,_,[],p,.nil=>by
  cases p
  exact ⟨ϱ,λi x e=>by cases e⟩
 | _,_,x::xs,p,.cons h t=>by
  cases p with
  | cons p1 p2 p3 =>
   obtain ⟨l,g⟩:=pO p3 t
   refine ⟨congrArg (·+1) l,λi y e=>?_⟩
   cases i with
   | zero =>
    cases e
    refine ⟨_,ϱ,sB (k:=.inl x.1) (by rw [show (Sum.inl x.1:Key)=_ from h.1];exact p1),?_⟩
    rw [p2]
    exact h.2
   | succ i=>exact g i y e
section
variable {X:Cx}{pins:List (Addr×Obj)}{σ:St}{H:Hp}{s:Shared}
theorem iM{vs:List Value}{us:List V}{es:List (Int×Int)}{Q:VK}{E:Value->Shared->Prop}(hu:X.A.units+4<cLine)(I:Inv X pins σ H s)(F:Vals us vs)(Y:2<=us.length->Paired (sPa X.K H) es us)(aZ:us.length<64)
  (q:∀l ys,H l=none->(us.length<2->ys=us)->(2<=us.length->Paired (sPa X.K (upd H l (.lst ys))) (bU ltP es) ys)->Q (.ref l) (upd H l (.lst ys))) :
  wpAny (model X.prog X.w) X.A.in1 (newList vs >>= λl=>holding [l] (call (.builtin "list.sort") [l] []) >>= λ_=>ret l) (λfin s'=>∃v,fin=.done (.ret v)/\EP X pins σ Q v s') E s:=by
 have a7:us.length=vs.length:=F.length
 have zl:vs.length<=sizeLine:=by rw [sizeLine_eq];omega
 refine ε (wpAny_newList ?_ zl)
 obtain ⟨m,Z,_⟩:=id I.loc
 have N:News (Att.gS s.heap) X.env.locals s.heap (Att.iC s.heap X.env.locals X.env.locals):=λ⟨c,o⟩ P=>by
  obtain ⟨g,_,e⟩:=Att.mem_ledger.mp P
  exact ⟨e,g,Att.fW _ _⟩
 have C:∀c o,c≠X.env.locals->s.heap.get? c=some o->(c,o)∈Att.iC s.heap X.env.locals X.env.locals:=λc o g e=>Att.mem_ledger.mpr ⟨g,g,e⟩
 have up:∀b o,s.heap.get? b=some o->(s.heap.push (seqObj "list" vs.toArray 0)).get? b=some o:=λb o e=>ρ _ e
 have F1:Fr (Att.gS s.heap) X.env.locals (s.heap.push (seqObj "list" vs.toArray 0)) m:=(Att.AY Z).kept up
 have N1:News (Att.gS s.heap) X.env.locals (s.heap.push (seqObj "list" vs.toArray 0)) (Att.iC s.heap X.env.locals X.env.locals):=N.grown up
 have G:(s.heap.push (seqObj "list" vs.toArray 0)).get? s.heap.objs.size=some (seqObj "list" vs.toArray 0):=ψ _ rfl
 have nL:s.heap.objs.size≠X.env.locals:=Nat.ne_of_gt I.lt
 have na:∀p∈Att.iC s.heap X.env.locals X.env.locals,p.1≠s.heap.objs.size:=λp P=>Φ (η (N p P).1)
 have f:H s.heap.objs.size=none:=I.hok.fresh (ι _)
 have fin:∀(out:List Value) (ys:List V),Vals ys out->ys.length<=sizeLine->Q (.ref s.heap.objs.size) (upd H s.heap.objs.size (.lst ys))->∀h' c,Fr (Att.gS s.heap) X.env.locals h' m ->
   News (Att.gS s.heap) X.env.locals h' ((s.heap.objs.size,PySem.W.listOf (List.toArray out) c)::Att.iC s.heap X.env.locals X.env.locals)->EP X pins σ Q (.ref s.heap.objs.size) {s with heap:=h'}:=λout ys ro hz hQ h' c r x=>by
  have keep:∀b o,b≠X.env.locals->s.heap.get? b=some o->h'.get? b=some o:=λb o g e=>(x (b,o) (Θ _ (C b o g e))).1
  have eD:h'.get? s.heap.objs.size=some (PySem.W.listOf (List.toArray out) c):=(x _ Ω).1
  refine ⟨.ref s.heap.objs.size,upd H s.heap.objs.size (.lst ys),?_,ϱ,hQ⟩
  have fresh:∀b o,s.heap.get? b=some o->b≠s.heap.objs.size:=λb o e=>Φ (η e)
  show Inv X pins σ (upd H s.heap.objs.size (.lst ys)) {s with heap:=h'}
  refine I.step (h':=h') (g':=s.gens) (d':=s.drawn) (t':=s.toks) (ch:=[]) (λ_ z=>nomatch z) (λb o g _ _ e _=>keep b o g e) (λb o g _ _ e _=>⟨o.slots,keep b o g e⟩) (λb o _ e n=>by rw [am (fresh b o e)];exact n)
   (λb o _ e=>?_) (λb xs e=>by rw [am (ap e f)];exact e) (λb o u e=>by rw [am (ap e f)];exact e) (λb ps e=>⟨#[],by rw [am (ap e f),e];simp⟩) (λm' U=>?_) (λb o e=>?_) I.bare
  ·by_cases hb:b=X.env.locals
   ·obtain ⟨o',_,_,e',_⟩:=r.ns
    exact ⟨o',hb▸e'⟩
   ·exact ⟨o,keep b o hb e⟩
  ·have e:m'=m:=funext λD=>U.agree Z D
   rw [e]
   exact r.ns
  ·by_cases hb:b=s.heap.objs.size
   ·subst hb
    rw [ae] at e
    cases e
    exact ⟨hz,out,c,ro,eD⟩
   ·rw [am hb] at e
    have j:b≠X.env.locals:=λz=>by rw [z,I.free] at e;cases e
    refine (I.hok b o e).stay (λd v hd q=>keep d v (λz=>?_) q) (λd q=>by rw [am (ap q f)];exact q) λd xs q=>by rw [am (ap q f)];exact q
    rcases hd with hd | hd
    ·exact j (hd.symm.trans z)
    ·rw [z,I.free] at hd;cases hd
 have J:∀ys,TSame H (upd H s.heap.objs.size (.lst ys)):=λys b xs e=>by rw [am (ap e f)];exact e
 refine ε (wpAny_holding (wpAny_call_entry slot_list_sort ⟨_,G,ϱ⟩ entry_list_sort ?body (args_list_sort _)))
 case body =>
  by_cases h2:vs.length<2
  ·refine wP (s:={s with heap:=s.heap.push (seqObj "list" vs.toArray 0)}) F1 N1 G nL (Att.fW _ _) na h2 λh' c r x=>⟨_,ϱ,π ⟨_,ϱ,fin vs us F ω (q _ us f (λ_=>rfl) (λz=>by omega)) h' c r x⟩⟩
  ·have pe:=Y ω
   have L:es.length=us.length:=pe.len
   have h0:0<es.length:=by omega
   obtain ⟨h,y⟩:=rQ ltP es h0
   refine wy (s:={s with heap:=s.heap.push (seqObj "list" vs.toArray 0)}) (es:=es) (by show X.A.units+1+1+1<cLine;omega) F1 N1 G nL (Att.fW _ _) na (λh' hk=>?_) ω ω λh' c r x=>⟨_,ϱ,π ⟨_,ϱ,fin _ _ (sT F _ (λi hi=>by rw [← L];exact y i hi)) ?_ (q _ _ f (λz=>by omega) (λ_=>?_)) h' c r x⟩⟩
   ·have O:HOk X.prog X.w H h':=λb o e=>by
     have j:b≠X.env.locals:=λz=>by rw [z,I.free] at e;cases e
     refine (I.hok b o e).stay (λd v hd q=>hk d v (C d v (λz=>?_) q)) (λ_ q=>q) λ_ _ q=>q
     rcases hd with hd | hd
     ·exact j (hd.symm.trans z)
     ·rw [z,I.free] at hd;cases hd
    exact wz O pe F
   ·rw [ν]
    unfold bU at h
    rw [ν] at h
    rw [h]
    omega
   ·exact oH (Paired.mapP pe λ_ _ z=>z.keep (J _)) _ _ y
end
theorem o8{X:Cx}(hc:X.calm=true)(hu:X.A.units+4<cLine):cG X (.builtin "sorted") (λxs H Q=>∃v d kvs,xs=[.ref v]/\H v=some (Vw v d)/\H d=some (.dT kvs)/\kvs.length<=1/\∀l ys,H l=none->(kvs=[]->ys=[])->Q (.ref l) (upd H l (.lst ys))):=by
 intro C s σ H xs us Q I r h
 obtain ⟨v,d,kvs,rfl,D,F,h1,q⟩:=h
 obtain ⟨u,rfl,G⟩:=cL r
 cases (show u=Value.ref v from G)
 obtain ⟨J,_⟩:=(show ObjOk X.prog X.w H s.heap v (Vw v d) from I.hok v _ D)
 obtain ⟨z,_,xs,f,o,en,ep,g1,K,L,O,g5⟩:=(show ObjOk X.prog X.w H s.heap d (.dT _) from I.hok d _ F)
 have g:kvs.length=xs.length:=Paired.length f
 have U:en.size=xs.length:=size_of_entries O
 refine Calls.call_function_entry kind_sorted plain_sorted entry_sorted (args_sorted1 _) ?_
 unfold Builtin.«sorted»
 refine ε (m:=checkCount "sorted" 1 1 _) (π (ε (lQ (A:=X.A.in1) (I.ok.hd hc) J ⟨o,g1,K,L⟩ (by rw [U,← g,sizeLine_eq];omega) λh' Y b Z la tu ab nd=>?_)))
 have W:Vals (b.map V.ref) (b.map Value.ref):=hZ (by rw [ν,ν]) λi x y ex j=>by
  rw [List.getElem?_map] at ex j
  obtain ⟨a,P,rfl⟩:=Option.map_eq_some_iff.mp ex
  rw [P] at j
  cases j
  rfl
 have lu:(b.map V.ref).length<=1:=by rw [ν];omega
 refine iM (es:=[]) hu (I.kept (t':=Y) Z) W (λz=>by omega) ω λl ys hl e1 _=>q l ys hl λe=>?_
 rw [e1 ω]
 have:b.length=0:=by rw [e] at g;simp at g;omega
 rw [List.length_eq_zero_iff.mp this]
 rfl
theorem o6{X:Cx}(hc:X.calm=true)(hu:X.A.units+4<cLine):cG X (.builtin "sorted") (λxs H Q=>∃v d es,xs=[.ref v]/\H v=some (Vw v d)/\H d=some (.dK (nK es))/\es.length<64 /\
  ∀H' l ys,Same H H'->H' l=none->Paired (sPa X.K (upd H' l (.lst ys))) (bU ltP es) ys->Q (.ref l) (upd H' l (.lst ys))):=by
 intro F s σ H xs us Q I r h
 obtain ⟨v,d,es,rfl,Y,Z,a0,q⟩:=h
 obtain ⟨u,rfl,rx⟩:=cL r
 cases (show u=Value.ref v from rx)
 obtain ⟨hw,_⟩:=(show ObjOk X.prog X.w H s.heap v (Vw v d) from I.hok v _ Y)
 obtain ⟨z,_,vs,G,o,en,ep,h1,J,h3,_,h4,_⟩:=(show ObjOk X.prog X.w H s.heap d (.dK _) from I.hok d _ Z)
 obtain ⟨L,ge⟩:=pO h4 G
 rw [Array.length_toList] at L
 refine Calls.call_function_entry kind_sorted plain_sorted entry_sorted (args_sorted1 _) ?_
 unfold Builtin.«sorted»
 refine ε (m:=checkCount "sorted" 1 1 _) (π (ε (lQ (A:=X.A.in1) (I.ok.hd hc) hw ⟨o,h1,J,h3⟩ (by rw [L,sizeLine_eq];omega) λh' tk f k' la tu ab nd=>?_)))
 let ts:List (Addr×List V):=(f.zip es).map λt=>(t.1,[.int t.2.1,.int t.2.2])
 have lt:(f.zip es).length=f.length:=by rw [List.length_zip];omega
 have C:ts.map (·.1)=f:=by
  show ((f.zip es).map λt=>(t.1,([.int t.2.1,.int t.2.2]:List V))).map (·.1)=f
  rw [List.map_map]
  show (f.zip es).map Prod.fst=f
  rw [List.map_fst_zip]
  omega
 have new:∀p∈ts,s.heap.objs.size<=p.1:=λp D=>ab p.1 (by rw [← C];exact ϑ.mpr ⟨p,D,ϱ⟩)
 have I1:Inv X F σ (jX H ts) {s with heap:=h',toks:=tk}:=BS I k' new λp D=>by
  obtain ⟨t,ht,rfl⟩:=ϑ.mp D
  obtain ⟨i,O⟩:=List.getElem?_of_mem ht
  rw [List.getElem?_zip_eq_some] at O
  obtain ⟨j,ex⟩:=O
  obtain ⟨e,ee,eh⟩:=tu i t.1 j
  obtain ⟨P,U,r1,r2⟩:=ge i t.2 ex
  rw [Array.getElem?_toList,ee] at U
  cases U
  exact ⟨by show 2<=sizeLine;decide,[e.key,e.val],.cons r1 (.cons r2 .nil),_,eh,ϱ,_,ϱ⟩
 have same:Same H (jX H ts):=λb ob e=>by
  obtain ⟨av,e'⟩:=(I.hok b ob e).there
  rw [rM λp D z=>by subst z;exact Nat.not_le_of_gt (η e') (new p D)]
  exact e
 have pe:Paired (sPa X.K (jX H ts)) es (f.map V.ref):=hZ (by rw [ν];omega) λi x y ex g=>by
  rw [List.getElem?_map] at g
  obtain ⟨a,j,rfl⟩:=Option.map_eq_some_iff.mp g
  exact ⟨a,ϱ,xz (by rw [C];exact nd) (ϑ.mpr ⟨(a,x),List.mem_of_getElem? (i:=i) (by rw [List.getElem?_zip_eq_some];exact ⟨j,ex⟩),ϱ⟩)⟩
 have rv:Vals (f.map V.ref) (f.map Value.ref):=hZ (by rw [ν,ν]) λi x y ex g=>by
  rw [List.getElem?_map] at ex g
  obtain ⟨a,j,rfl⟩:=Option.map_eq_some_iff.mp ex
  rw [j] at g
  cases g
  rfl
 have l1:=pe.len
 refine iM hu I1 rv (λ_=>pe) ω λl ys W e1 P=>q _ l ys same W ?_
 by_cases J:(f.map V.ref).length<2
 ·rw [e1 J,show bU ltP es=es by
   match es,(by omega:es.length<2) with
   | [],_=>rfl
   | [x],_=>rfl]
  exact Paired.mapP pe λ_ _ z=>z.keep (ag W).ts
 ·exact P ω
theorem rj{prog:Program}{w:World}{A:Around}{E:Value->Shared->Prop}{s:Shared}{T:String}{r d:Addr}{n:Nat}{P:Nat->Value->Prop}{I:Heap->Prop}{R:List Value->Shared->Prop}(J:KdlSrc prog w T r d n P I)(Q:A.handled=none)(ok:I s.heap)(K:I (s.heap.push {cls:=.type "list",data:=.seq ([]:List Value).toArray}))(U:r<s.heap.objs.size)(W:d<s.heap.objs.size)(X:n<=sizeLine)
  (Y:∀(h':Heap) (i:Nat) (h:Array Value),(∀b o,s.heap.get? b=some o->h'.get? b=some o)->ItemsOf P h n->R h.toList {s with heap:=h',toks:=i}) :
  wpAny (model prog w) A (collect (.ref r)) R E s:=by
 unfold collect
 refine ε (wpAny_runValue (codeAny_builtin entry_proto_collect' ?_))
 rw [Around.under_plainId PySem.F.plain_proto_collect _]
 show wpAny _ A.in1 (newList [] >>= λl=>again (.builtin "list.__iadd__" (Args.mk [l,.ref r] []))) _ _ s
 refine ε (wpAny_newObj_type (π ⟨plainId_quiet PySem.F.plain_list_iadd _,codeAny_builtin entry_list_iadd' ?_⟩))
 rw [Around.under_plainId PySem.F.plain_list_iadd _]
 have L:(s.heap.push {cls:=.type "list",data:=.seq ([]:List Value).toArray}).get? s.heap.objs.size=some {cls:=.type "list",data:=.seq #[] 0}:=ψ _ rfl
 have C:=kdl_extend (A:=A) (s:={s with heap:=s.heap.push {cls:=.type "list",data:=.seq ([]:List Value).toArray}})
  (R:=λ(q:Result) (m:Shared)=>∃(h':Heap) (i:Nat) (h:Array Value) (c:Nat),q=.ok (.ret (.ref s.heap.objs.size))/\m={s with heap:=h',toks:=i}/\(∀b o,s.heap.get? b=some o->h'.get? b=some o) /\
   h'.get? s.heap.objs.size=some {cls:=.type "list",data:=.seq h c}/\ItemsOf P h n) J Q K s.heap.objs.size (Nat.ne_of_gt U) (Nat.ne_of_gt W) (.ref s.heap.objs.size) 0 L
  (λh' i h c D O G=>⟨h',i,h,c,ϱ,ϱ,λb o e=>D b o (Φ (η e)) (ρ _ e),O,G⟩) X
 have j:∀(q:Result) (m:Shared),(∃(h':Heap) (i:Nat) (h:Array Value) (c:Nat),q=.ok (.ret (.ref s.heap.objs.size))/\m={s with heap:=h',toks:=i}/\(∀b o,s.heap.get? b=some o->h'.get? b=some o) /\
   h'.get? s.heap.objs.size=some {cls:=.type "list",data:=.seq h c}/\ItemsOf P h n) ->
   ∃h' i,q=.ok (.ret (.ref s.heap.objs.size))/\m={s with heap:=h',toks:=i}/\wpAny (model prog w) A (load s.heap.objs.size >>= λo=>match o.data with | .seq xs _=>pure xs.toList | _=>unsupported "internal:collect") R E {s with heap:=h',toks:=i}:=by
  rintro q m ⟨h',i,h,c,rfl,rfl,D,H,G⟩
  exact ⟨h',i,ϱ,ϱ,ε (wpAny_load H (π (Y h' i h D G)))⟩
 refine wpAny_mono C (λf m x=>?_) λe m x=>?_
 ·cases f with
  | done fl =>
   obtain ⟨h',i,u,z,g⟩:=j _ _ x
   cases u
   subst z
   exact g
  | again c1 =>
   refine ⟨x.1,codeAny_mono x.2 λq Z y=>?_⟩
   obtain ⟨h',i,u,z,g⟩:=j _ _ y
   subst u z
   exact g
 ·obtain ⟨h',i,u,_⟩:=j _ _ x
  cases u
theorem o7{X:Cx}(Z:X.calm=true):cG X (.builtin "sorted") (λxs H Q=>∃p es,xs=[.ref p]/\H p=some (.dK (nK es))/\es.length<64/\∀l ns',H l=none->xp (es.map (·.1)) ns'->Q (.ref l) (upd H l (.lst (ns'.map V.int)))):=by
 intro F s σ H xs us Q I r h
 obtain ⟨p,es,rfl,G,J,q⟩:=h
 obtain ⟨u,rfl,K⟩:=cL r
 cases (show u=Value.ref p from K)
 obtain ⟨L,lo,vs,b,x⟩:=sK I.hok G
 obtain ⟨O,d⟩:=x.dictAt
 have U:=b.len
 have ll:(nK es).length=es.length:=ν _
 have y:p<s.heap.objs.size:=let ⟨_,_,_,e,_⟩:=x;η e
 have g:(s.heap.push {cls:=.type "list",data:=.seq ([]:List Value).toArray}).DictAt (aJ X.prog X.w) p vs O:=by
  obtain ⟨o,P,r⟩:=d
  exact ⟨o,P,ρ _ r.1,r.2⟩
 refine Calls.call_function_entry kind_sorted plain_sorted entry_sorted (args_sorted1 _) ?_
 unfold Builtin.«sorted»
 refine ε (m:=checkCount "sorted" 1 1 _) (π (ε (rj (A:=X.A.in1) (kdl_dict lo) (I.ok.hd Z) d g y y (by rw [← U];exact L) λh' W i Y D=>?_)))
 have C:Vals ((es.map (·.1)).map V.int) i.toList:=by
  have:=sA (f:=kV) (R:=λk u=>jS k u=true) (λ_ _ z=>sB z) b (us:=i.toList) (by rw [Array.length_toList];exact D.1) λj u e=>D.2 j u (by rw [← Array.getElem?_toList];exact e)
  unfold nK at this
  rw [List.map_map] at this ⊢
  exact this
 have l1:=C.length
 rw [ν,ν] at l1
 exact on (I.kept (t':=W) Y) (lR C) ω q
end L2
namespace K52
open PySem L2 Lo
def top(i:Nat):Stmt:=PySem.Challenge.pw_pactroom_k52_ready_and_up_again.main.body.getD i (.Pass ⟨0,0,0,0⟩)
abbrev gY:Stmt:=inClass (top 4) 0
abbrev fe:Stmt:=inClass (top 4) 3
abbrev gX:Stmt:=inClass (top 4) 4
abbrev gV:Stmt:=inClass (top 5) 0
abbrev gW:Stmt:=inClass (top 6) 0
abbrev fg:Stmt:=inClass (top 7) 0
abbrev jz:Stmt:=top 8
abbrev gf:Stmt:=inClass (top 16) 0
abbrev c8:Stmt:=inClass (top 16) 1
abbrev bp:Stmt:=inClass (top 16) 2
abbrev cJ:Stmt:=inClass (top 16) 5
abbrev bR:Stmt:=inClass (top 16) 6
abbrev cT:Stmt:=inClass (top 16) 7
abbrev bv:Stmt:=inClass (top 16) 8
abbrev bc:Stmt:=inClass (top 16) 9
abbrev bT:Stmt:=inClass (top 16) 10
abbrev lg:Stmt:=top 26
abbrev iQ:Stmt:=top 27
abbrev mJ:Stmt:=top 28
abbrev iq:Stmt:=inClass (top 29) 0
abbrev gu:Stmt:=inClass (top 29) 1
abbrev eM:Stmt:=inClass (top 29) 2
abbrev dM:Stmt:=inClass (top 29) 4
abbrev c6:Stmt:=inClass (top 29) 5
abbrev dL:Stmt:=inClass (top 29) 6
abbrev gT:Stmt:=inClass (top 33) 1
abbrev dJ:Stmt:=inClass (top 34) 0
abbrev dq:Stmt:=inClass (top 35) 0
abbrev bZ:Stmt:=inClass (top 35) 1
abbrev dF:Stmt:=inClass (top 36) 0
abbrev c7:Stmt:=inClass (top 36) 1
abbrev eg:Stmt:=inClass (top 37) 0
abbrev ef:Stmt:=inClass (top 37) 2
abbrev bn:Stmt:=inClass (top 37) 3
abbrev dH:Stmt:=inClass (top 38) 0
abbrev b9:Stmt:=inClass (top 38) 1
abbrev eC:Stmt:=inClass (top 39) 0
abbrev eB:Stmt:=inClass (top 39) 1
abbrev ck:Stmt:=inClass (top 39) 2
abbrev dw:Stmt:=inClass (top 40) 0
abbrev b7:Stmt:=inClass (top 40) 1
abbrev dD:Stmt:=inClass (top 41) 0
abbrev b8:Stmt:=inClass (top 41) 1
abbrev cY:Stmt:=top 42
abbrev eU:Stmt:=top 43
abbrev gK:Stmt:=top 44
abbrev iB:Stmt:=top 45
abbrev fY:Stmt:=inClass (top 47) 0
abbrev dm:Stmt:=inClass (top 47) 1
abbrev fX:Stmt:=inClass (top 47) 2
abbrev aW:Stmt:=inClass (top 47) 3
abbrev cR:Stmt:=inClass (top 47) 4
abbrev cS:Stmt:=inClass (top 47) 5
abbrev cq:Stmt:=inClass (top 47) 6
abbrev fb:Stmt:=inClass (top 47) 7
abbrev f6:Stmt:=inClass (top 47) 13
abbrev dj:Stmt:=inClass (top 47) 14
abbrev bM:Stmt:=inClass (top 47) 15
abbrev gc:Stmt:=inClass (top 49) 0
abbrev gU:Stmt:=inClass (top 49) 1
abbrev gb:Stmt:=inClass (top 49) 2
abbrev cI:Stmt:=inClass (top 49) 3
abbrev bh:Stmt:=inClass (top 49) 4
abbrev f9:Stmt:=inClass (top 51) 0
abbrev f8:Stmt:=inClass (top 51) 1
abbrev cC:Stmt:=inClass (top 51) 2
abbrev du:Stmt:=inClass (top 51) 3
abbrev cD:Stmt:=inClass (top 51) 4
abbrev f7:Stmt:=inClass (top 51) 6
abbrev cr:Stmt:=inClass (top 51) 7
abbrev dX:Stmt:=top 53
abbrev eV:Stmt:=top 54
abbrev gL:Stmt:=top 55
abbrev gM:Stmt:=top 56
abbrev eX:Stmt:=top 57
abbrev bF:Stmt:=top 58
abbrev fM:Stmt:=top 59
abbrev fK:Stmt:=top 60
abbrev fL:Stmt:=top 61
abbrev iR:Stmt:=top 62
theorem oB:ao ["self","first","last"] ["self","first","last"] (defScope gY):=⟨ϱ,ϱ,ϱ,θ,ϱ,θ,θ⟩
theorem sc_Lock_covers:ao ["self","other","within"] ["self","other"] (defScope fe):=⟨ϱ,ϱ,ϱ,θ,ϱ,θ,θ⟩
theorem oz:ao ["self"] ["self"] (defScope gX):=⟨ϱ,ϱ,ϱ,θ,ϱ,θ,θ⟩
theorem ox:ao ["self"] ["self"] (defScope gV):=⟨ϱ,ϱ,ϱ,θ,ϱ,θ,θ⟩
theorem oy:ao ["self"] ["self"] (defScope gW):=⟨ϱ,ϱ,ϱ,θ,ϱ,θ,θ⟩
theorem k7:ao ["self"] ["self"] (defScope fg):=⟨ϱ,ϱ,ϱ,θ,ϱ,θ,θ⟩
theorem qI:ao ["told"] ["told"] (defScope jz):=⟨ϱ,ϱ,ϱ,θ,ϱ,θ,θ⟩
theorem mv:ao ["self"] ["self"] (defScope gf):=⟨ϱ,ϱ,ϱ,θ,ϱ,θ,θ⟩
theorem sc_Locks_ask:ao ["self","p","lock"] ["self","p","lock"] (defScope c8):=⟨ϱ,ϱ,ϱ,θ,ϱ,θ,θ⟩
def mf:Scope:=match defBody c8 with
 | _::.If (.Call _ [.ListComp _ _ sc _] _ _) _ _ _::_=>sc
 | _=>default
theorem k9:aQ ["self","p","lock"] (defScope c8) mf "pair" ["pair","p","lock"] [1,2]:=⟨θ,ϱ,θ,ϱ,θ,θ,ϱ,ϱ,θ⟩
theorem sc_Locks_free:ao ["self","p","waited","still"] ["self","p"] (defScope bp):=⟨ϱ,ϱ,ϱ,θ,ϱ,θ,θ⟩
def kq:Scope:=match defBody bp with
 | _::.Assign _ (.ListComp _ _ sc _) _::_=>sc
 | _=>default
theorem kj:aQ ["self","p","waited","still"] (defScope bp) kq "pair" ["pair","p"] [1]:=⟨θ,ϱ,θ,ϱ,θ,θ,ϱ,ϱ,θ⟩
def ko:Scope:=match defBody bp with
 | _::_::.Assign _ (.ListComp _ _ sc _) _::_=>sc
 | _=>default
theorem ki:aQ ["self","p","waited","still"] (defScope bp) ko "pair" ["pair"] []:=⟨θ,ϱ,θ,ϱ,θ,θ,ϱ,ϱ,λj h=>absurd h (Nat.not_lt_zero j)⟩
def kn:Scope:=match defBody bp with
 | _::_::_::.Return (some (.ListComp _ _ sc _)) _::_=>sc
 | _=>default
theorem kh:aQ ["self","p","waited","still"] (defScope bp) kn "pair" ["pair","p","still"] [1,3]:=⟨θ,ϱ,θ,ϱ,θ,θ,ϱ,ϱ,θ⟩
theorem mw:ao ["self"] ["self"] (defScope cJ):=⟨ϱ,ϱ,ϱ,θ,ϱ,θ,θ⟩
def km:Scope:=match defBody cJ with
 | .Return (some (.ListComp _ _ sc _)) _::_=>sc
 | _=>default
theorem kg:aQ ["self"] (defScope cJ) km "pair" ["pair"] []:=⟨θ,ϱ,θ,ϱ,θ,θ,ϱ,ϱ,λj h=>absurd h (Nat.not_lt_zero j)⟩
theorem jr:ao ["self"] ["self"] (defScope bR):=⟨ϱ,ϱ,ϱ,θ,ϱ,θ,θ⟩
def iF:Scope:=match defBody bR with
 | .Return (some (.ListComp _ _ sc _)) _::_=>sc
 | _=>default
theorem iz:aQ ["self"] (defScope bR) iF "pair" ["pair"] []:=⟨θ,ϱ,θ,ϱ,θ,θ,ϱ,ϱ,λj h=>absurd h (Nat.not_lt_zero j)⟩
theorem sc_Locks_hinderer:ao ["self","place","pair","k","ahead"] ["self","place"] (defScope cT):=⟨ϱ,ϱ,ϱ,θ,ϱ,θ,θ⟩
theorem ig:ao ["self"] ["self"] (defScope bv):=⟨ϱ,ϱ,ϱ,θ,ϱ,θ,θ⟩
def gG:Scope:=match defBody bv with
 | .Return (some (.ListComp _ _ sc _)) _::_=>sc
 | _=>default
theorem gF:aQ ["self"] (defScope bv) gG "k" ["k","self"] [0]:=⟨θ,ϱ,θ,ϱ,θ,θ,ϱ,ϱ,θ⟩
theorem fH:ao ["self"] ["self"] (defScope bc):=⟨ϱ,ϱ,ϱ,θ,ϱ,θ,θ⟩
def fh:Scope:=match defBody bc with
 | .Return (some (.ListComp _ _ sc _)) _::_=>sc
 | _=>default
theorem eT:aQ ["self"] (defScope bc) fh "k" ["k","self"] [0]:=⟨θ,ϱ,θ,ϱ,θ,θ,ϱ,ϱ,θ⟩
theorem sc_Locks_waiting_place:ao ["self","p","k"] ["self","p"] (defScope bT):=⟨ϱ,ϱ,ϱ,θ,ϱ,θ,θ⟩
theorem ot:ao ["self"] ["self"] (defScope gT):=⟨ϱ,ϱ,ϱ,θ,ϱ,θ,θ⟩
theorem ju:ao ["self","where","cell"] ["self","where","cell"] (defScope dJ):=⟨ϱ,ϱ,ϱ,θ,ϱ,θ,θ⟩
theorem jm:ao ["self"] ["self"] (defScope dq):=⟨ϱ,ϱ,ϱ,θ,ϱ,θ,θ⟩
theorem gy:ao ["self","hand","value_of"] ["self","hand","value_of"] (defScope bZ):=⟨ϱ,ϱ,ϱ,θ,ϱ,θ,θ⟩
theorem jq:ao ["self"] ["self"] (defScope dF):=⟨ϱ,ϱ,ϱ,θ,ϱ,θ,θ⟩
theorem gD:ao ["self","hand","value_of"] ["self","hand","value_of"] (defScope c7):=⟨ϱ,ϱ,ϱ,θ,ϱ,θ,θ⟩
theorem j9:ao ["self","where","low","high"] ["self","where","low","high"] (defScope eg):=⟨ϱ,ϱ,ϱ,θ,ϱ,θ,θ⟩
theorem j8:ao ["self"] ["self"] (defScope ef):=⟨ϱ,ϱ,ϱ,θ,ϱ,θ,θ⟩
theorem gI:ao ["self","hand","value_of"] ["self","hand","value_of"] (defScope bn):=⟨ϱ,ϱ,ϱ,θ,ϱ,θ,θ⟩
def gl:Scope:=match defBody bn with
 | .Return (some (.Tuple [(.Call _ [.ListComp _ _ sc _] _ _),_] _ _)) _::_=>sc
 | _=>default
theorem fJ:aQ ["self","hand","value_of"] (defScope bn) gl "cell" ["cell","value_of"] [2]:=⟨θ,ϱ,θ,ϱ,θ,θ,ϱ,ϱ,θ⟩
theorem js:ao ["self"] ["self"] (defScope dH):=⟨ϱ,ϱ,ϱ,θ,ϱ,θ,θ⟩
theorem gE:ao ["self","hand","value_of"] ["self","hand","value_of"] (defScope b9):=⟨ϱ,ϱ,ϱ,θ,ϱ,θ,θ⟩
theorem kf:ao ["self","where","cell","amount"] ["self","where","cell","amount"] (defScope eC):=⟨ϱ,ϱ,ϱ,θ,ϱ,θ,θ⟩
theorem ka:ao ["self"] ["self"] (defScope eB):=⟨ϱ,ϱ,ϱ,θ,ϱ,θ,θ⟩
theorem gJ:ao ["self","hand","value_of"] ["self","hand","value_of"] (defScope ck):=⟨ϱ,ϱ,ϱ,θ,ϱ,θ,θ⟩
theorem jo:ao ["self","amount"] ["self","amount"] (defScope dw):=⟨ϱ,ϱ,ϱ,θ,ϱ,θ,θ⟩
theorem gz:ao ["self","hand","value_of"] ["self","hand","value_of"] (defScope b7):=⟨ϱ,ϱ,ϱ,θ,ϱ,θ,θ⟩
theorem jp:ao ["self","amount"] ["self","amount"] (defScope dD):=⟨ϱ,ϱ,ϱ,θ,ϱ,θ,θ⟩
theorem gC:ao ["self","hand","value_of"] ["self","hand","value_of"] (defScope b8):=⟨ϱ,ϱ,ϱ,θ,ϱ,θ,θ⟩
theorem sc_read_step:ao ["text","words","shape"] ["text"] (defScope cY):=⟨ϱ,ϱ,ϱ,θ,ϱ,θ,θ⟩
def md:Scope:=match defBody cY with
 | _::_::_::.Return (some (.Call _ [_,.ListComp _ _ sc _] _ _)) _::_=>sc
 | _=>default
theorem k8:aQ ["text","words","shape"] (defScope cY) md "k" ["k","words","shape"] [1,2]:=⟨θ,ϱ,θ,ϱ,θ,θ,ϱ,ϱ,θ⟩
theorem sc_read_number:ao ["word","letter","number"] ["word","letter"] (defScope eU):=⟨ϱ,ϱ,ϱ,θ,ϱ,θ,θ⟩
theorem oq:ao ["word","numbers"] ["word","numbers"] (defScope gK):=⟨ϱ,ϱ,ϱ,θ,ϱ,θ,θ⟩
theorem pG:ao ["where","low","high"] ["where","low","high"] (defScope iB):=⟨ϱ,ϱ,ϱ,θ,ϱ,θ,θ⟩
theorem sc_Works_init:ao ["self","stand","home","many","row"] ["self","stand","home","many"] (defScope fY):=⟨ϱ,ϱ,ϱ,θ,ϱ,θ,θ⟩
theorem sc_Works_take_up:ao ["self","row","told"] ["self","row"] (defScope dm):=⟨ϱ,ϱ,ϱ,θ,ϱ,θ,θ⟩
theorem ml:ao ["self","sheet","p","i","hand","text"] ["self","sheet","p","i","hand","text"] (defScope fX):=⟨ϱ,ϱ,ϱ,θ,ϱ,θ,θ⟩
theorem sc_Works_do_step:ao ["self","sheet","p","waited","behind"] ["self","sheet","p","waited"] (defScope aW):=⟨ϱ,ϱ,ϱ,θ,ϱ,θ,θ⟩
theorem sc_Works_value_at:ao ["self","p","cell","draft"] ["self","p","cell"] (defScope cR):=⟨ϱ,ϱ,ϱ,θ,ϱ,θ,θ⟩
theorem iO:ao ["self","sheet","p","i"] ["self","sheet","p","i"] (defScope cS):=⟨ϱ,ϱ,ϱ,θ,ϱ,θ,θ⟩
theorem sc_Works_ready:ao ["self","sheet","p","houses","locks"] ["self","sheet","p","houses"] (defScope cq):=⟨ϱ,ϱ,ϱ,θ,ϱ,θ,θ⟩
def jJ:Scope:=match defBody cq with
 | .If _ (_::.Assign _ (.Call _ [.ListComp _ _ sc _] _ _) _::_) _ _::_=>sc
 | _=>default
theorem jx:aQ ["self","sheet","p","houses","locks"] (defScope cq) jJ "pair" ["pair","p"] [2]:=⟨θ,ϱ,θ,ϱ,θ,θ,ϱ,ϱ,θ⟩
theorem sc_Works_ended:ao ["self","sheet","p","freed"] ["self","sheet","p"] (defScope fb):=⟨ϱ,ϱ,ϱ,θ,ϱ,θ,θ⟩
theorem mo:ao ["self"] ["self"] (defScope f6):=⟨ϱ,ϱ,ϱ,θ,ϱ,θ,θ⟩
theorem jl:ao ["self"] ["self"] (defScope dj):=⟨ϱ,ϱ,ϱ,θ,ϱ,θ,θ⟩
theorem iP:ao ["self","p"] ["self","p"] (defScope bM):=⟨ϱ,ϱ,ϱ,θ,ϱ,θ,θ⟩
def ik:Scope:=match defBody bM with
 | .Return (some (.Compare _ _ [.ListComp _ _ sc _] _)) _::_=>sc
 | _=>default
theorem ii:aQ ["self","p"] (defScope bM) ik "row" ["row"] []:=⟨θ,ϱ,θ,ϱ,θ,θ,ϱ,ϱ,λj h=>absurd h (Nat.not_lt_zero j)⟩
theorem mt:ao ["self","stand"] ["self","stand"] (defScope gc):=⟨ϱ,ϱ,ϱ,θ,ϱ,θ,θ⟩
theorem ou:ao ["self","row"] ["self","row"] (defScope gU):=⟨ϱ,ϱ,ϱ,θ,ϱ,θ,θ⟩
theorem ms:ao ["self","to","word","p","more"] ["self","to","word","p","more"] (defScope gb):=⟨ϱ,ϱ,ϱ,θ,ϱ,θ,θ⟩
theorem ix:ao ["self"] ["self"] (defScope cI):=⟨ϱ,ϱ,ϱ,θ,ϱ,θ,θ⟩
theorem sc_Sheet_letters_told:ao ["self","news"] ["self"] (defScope bh):=⟨ϱ,ϱ,ϱ,θ,ϱ,θ,θ⟩
def fD:Scope:=match defBody bh with
 | _::.Return (some (.ListComp _ _ sc _)) _::_=>sc
 | _=>default
theorem fo:aQ ["self","news"] (defScope bh) fD "pair" ["pair","news"] [1]:=⟨θ,ϱ,θ,ϱ,θ,θ,ϱ,ϱ,θ⟩
theorem mr:ao ["self","cells"] ["self","cells"] (defScope f9):=⟨ϱ,ϱ,ϱ,θ,ϱ,θ,θ⟩
theorem sc_Stand_keep:ao ["self","row","change","p"] ["self","row"] (defScope f8):=⟨ϱ,ϱ,ϱ,θ,ϱ,θ,θ⟩
theorem h9:ao ["self","row"] ["self","row"] (defScope cC):=⟨ϱ,ϱ,ϱ,θ,ϱ,θ,θ⟩
theorem jn:ao ["self","cell"] ["self","cell"] (defScope du):=⟨ϱ,ϱ,ϱ,θ,ϱ,θ,θ⟩
theorem ie:ao ["self"] ["self"] (defScope cD):=⟨ϱ,ϱ,ϱ,θ,ϱ,θ,θ⟩
theorem mq:ao ["self"] ["self"] (defScope f7):=⟨ϱ,ϱ,ϱ,θ,ϱ,θ,θ⟩
theorem kZ:ao ["self"] ["self"] (defScope cr):=⟨ϱ,ϱ,ϱ,θ,ϱ,θ,θ⟩
def jK:Scope:=match defBody cr with
 | .Return (some (.ListComp _ _ sc _)) _::_=>sc
 | _=>default
theorem jy:aQ ["self"] (defScope cr) jK "p" ["p","self"] [0]:=⟨θ,ϱ,θ,ϱ,θ,θ,ϱ,ϱ,θ⟩
theorem j7:ao ["_law_script","_law_k"] ["_law_script","_law_k"] (defScope dX):=⟨ϱ,ϱ,ϱ,θ,ϱ,θ,θ⟩
theorem kY:ao ["_law_cell"] ["_law_cell"] (defScope eV):=⟨ϱ,ϱ,ϱ,θ,ϱ,θ,θ⟩
theorem sc__law_step:ao ["_law_cell","_law_many","_law_at","_law_word","_law_text"] ["_law_cell","_law_many"] (defScope gL):=⟨ϱ,ϱ,ϱ,θ,ϱ,θ,θ⟩
theorem sc__law_lock:ao ["_law_text","_law_words","_law_at"] ["_law_text"] (defScope gM):=⟨ϱ,ϱ,ϱ,θ,ϱ,θ,θ⟩
theorem sc__law_covers:ao ["_law_one","_law_other","_law_order"] ["_law_one","_law_other"] (defScope eX):=⟨ϱ,ϱ,ϱ,θ,ϱ,θ,θ⟩
theorem sc__law_worked:ao ["_law_works","_law_stand","_law_p","_law_texts","_law_hand","_law_first","_law_locks","_law_draft","_law_i","_law_words","_law_at"] ["_law_works","_law_stand","_law_p","_law_texts","_law_hand","_law_first"] (defScope bF):=⟨ϱ,ϱ,ϱ,θ,ϱ,θ,θ⟩
def jI:Scope:=match defBody bF with
 | _::_::.For _ _ (_::_::_::.If (.Compare (.ListComp _ _ sc _) _ _ _) _ _ _::_) _ _::_=>sc
 | _=>default
theorem jw:aQ ["_law_works","_law_stand","_law_p","_law_texts","_law_hand","_law_first","_law_locks","_law_draft","_law_i","_law_words","_law_at"] (defScope bF) jI "_law_lock_here" ["_law_lock_here","_law_texts","_law_i"] [3,8]:=⟨θ,ϱ,θ,ϱ,θ,θ,ϱ,ϱ,θ⟩
def jH:Scope:=match defBody bF with
 | _::_::_::.Return (some (.Tuple [_,(.Call _ [.ListComp _ _ sc _] _ _)] _ _)) _::_=>sc
 | _=>default
theorem jv:aQ ["_law_works","_law_stand","_law_p","_law_texts","_law_hand","_law_first","_law_locks","_law_draft","_law_i","_law_words","_law_at"] (defScope bF) jH "_law_at" ["_law_at","_law_draft"] [7]:=⟨θ,ϱ,θ,ϱ,θ,θ,ϱ,ϱ,θ⟩
theorem sc__law_asked:ao ["_law_works","_law_stand","_law_p","_law_houses","_law_rows","_law_sheet"] ["_law_works","_law_stand","_law_p","_law_houses","_law_rows"] (defScope fM):=⟨ϱ,ϱ,ϱ,θ,ϱ,θ,θ⟩
theorem sc__law_quiet:ao ["_law_works","_law_stand","_law_p","_law_text","_law_sheet"] ["_law_works","_law_stand","_law_p","_law_text"] (defScope fK):=⟨ϱ,ϱ,ϱ,θ,ϱ,θ,θ⟩
theorem sc__law_ended:ao ["_law_works","_law_stand","_law_p","_law_first","_law_draft","_law_outcome","_law_sheet","_law_cells","_law_at","_law_value"] ["_law_works","_law_stand","_law_p","_law_first","_law_draft","_law_outcome"] (defScope fL):=⟨ϱ,ϱ,ϱ,θ,ϱ,θ,θ⟩
theorem sc_law:ao ["_law_script","_law_number_here","_law_p","_law_houses","_law_cell","_law_first","_law_stand","_law_works","_law_texts","_law_hand","_law_locks","_law_draft","_law_held","_law_row","_law_outcome"] ["_law_script"] (defScope iR):=⟨ϱ,ϱ,ϱ,θ,ϱ,θ,θ⟩
def xi:Scope:=match defBody iR with
 | _::_::_::_::.Assign _ (.ListComp _ _ sc _) _::_=>sc
 | _=>default
theorem u8:aQ ["_law_script","_law_number_here","_law_p","_law_houses","_law_cell","_law_first","_law_stand","_law_works","_law_texts","_law_hand","_law_locks","_law_draft","_law_held","_law_row","_law_outcome"] (defScope iR) xi "_law_k" ["_law_k","_law_cell"] [4]:=⟨θ,ϱ,θ,ϱ,θ,θ,ϱ,ϱ,θ⟩
def xh:Scope:=match defBody iR with
 | _::_::_::_::_::_::_::_::.Assign _ (.ListComp _ _ sc _) _::_=>sc
 | _=>default
theorem u7:aQ ["_law_script","_law_number_here","_law_p","_law_houses","_law_cell","_law_first","_law_stand","_law_works","_law_texts","_law_hand","_law_locks","_law_draft","_law_held","_law_row","_law_outcome"] (defScope iR) xh "_law_cell" ["_law_cell","_law_first"] [5]:=⟨θ,ϱ,θ,ϱ,θ,θ,ϱ,ϱ,θ⟩
def xg:Scope:=match defBody iR with
 | _::_::_::_::_::_::_::_::_::_::_::_::.Assign _ (.ListComp _ _ sc _) _::_=>sc
 | _=>default
theorem u6:aQ ["_law_script","_law_number_here","_law_p","_law_houses","_law_cell","_law_first","_law_stand","_law_works","_law_texts","_law_hand","_law_locks","_law_draft","_law_held","_law_row","_law_outcome"] (defScope iR) xg "_law_lock_here" ["_law_lock_here","_law_p"] [2]:=⟨θ,ϱ,θ,ϱ,θ,θ,ϱ,ϱ,θ⟩
open St
section
variable {P:Program}{w:World}{K:Frag}{mg:Str->Option Value}{base:Heap}{f CL CS CH CV:Addr}{fd:FuncData}{C:Kd->Addr}{CW:Wd->Addr}
theorem BM(F:Fun K "kind" "Read.kind" gV f fd):FnOk P w K mg base CX0 1 f fd ["self"] (iw .read):=by
 refine F.ok ox (λvs H Q E h=>?_) (λd A b s H vs Q E e h=>?_)
 ·obtain ⟨v,rfl,_⟩:=h
  rfl
 obtain ⟨v,rfl,q⟩:=h
 exact ⟨_,ai (au aB),q⟩
theorem BN(F:Fun K "kind" "Mean.kind" gW f fd):FnOk P w K mg base CX0 1 f fd ["self"] (iw .mean):=by
 refine F.ok oy (λvs H Q E h=>?_) (λd A b s H vs Q E e h=>?_)
 ·obtain ⟨v,rfl,_⟩:=h
  rfl
 obtain ⟨v,rfl,q⟩:=h
 exact ⟨_,ai (au aB),q⟩
theorem BO(F:Fun K "kind" "Change.kind" fg f fd):FnOk P w K mg base CX0 1 f fd ["self"] (iw .change):=by
 refine F.ok k7 (λvs H Q E h=>?_) (λd A b s H vs Q E e h=>?_)
 ·obtain ⟨v,rfl,_⟩:=h
  rfl
 obtain ⟨v,rfl,q⟩:=h
 exact ⟨_,ai (au aB),q⟩
theorem v5(F:Fun K "__init__" "Lock.__init__" gY f fd)(T:TxK K C):FnOk P w K mg base CX0 1 f fd ["self","first","last"] (eG C):=by
 refine F.ok oB (λvs H Q E h=>?_) (λg A d s H vs Q E i h=>?_)
 ·obtain ⟨a,b,k,x,y,rfl,_⟩:=h
  rfl
 obtain ⟨a,b,k,x,y,rfl,e,q⟩:=h
 refine ⟨_,ah (aT (pv 0) (pv 1) rfl) (ai (aT (pv 0) (pv 2) rfl)),?_⟩
 exact ⟨_,ϱ,_,ϱ,a,C k,b,[],ϱ,e,T.cl k,T.nF k,(by show 0<1000;decide),_,ϱ,_,ϱ,a,C k,b,_,ϱ,ae,T.cl k,T.nL k,(by show 1<1000;decide),q⟩
theorem oO(F:Fun K "told" "Lock.told" gX f fd)(T:TxK K C)(l:∀k,GM P w K mg base CX0 1 (C k) "kind" ["self"] (iw k)):FnOk P w K mg base CX0 2 f fd ["self"] (fF C):=by
 refine F.ok oz (λvs H Q E h=>?_) (λg A e s H vs Q E i h=>?_)
 ·obtain ⟨v,k,rfl,_⟩:=h
  rfl
 obtain ⟨v,k,rfl,⟨a,b,rfl,d⟩,q⟩:=h
 refine ⟨_,ai (au (aI (ac (pm0 (l k.1) (pv 0) (T.cl k.1) i) (ac (aq (pv 0) rfl) (ac (aq (pv 0) rfl) af))))),?_⟩
 refine ⟨_,ϱ,a,b,_,ϱ,d,iu _ _ θ θ,_,ϱ,?_⟩
 exact ⟨_,ϱ,a,_,b,_,_,ϱ,d,T.cl _,T.nF _,i5 _ _,_,ϱ,a,_,b,_,_,ϱ,d,T.cl _,T.nL _,oQ _ _,χ,λt j=>q t j⟩
theorem tM(F:Fun K "lock_of" "lock_of" jz f fd)(T:TxK K C)(i:∀k,mg (kdN k)=some (.ref (C k))){J:Addr}{L:FuncData}(M:∀k,Mk K (C k) J)
  (G:FnOk P w K mg base CX0 1 J L ["self","first","last"] (eG C))(I:Binds K L ["self","first","last"] []):FnOk P w K mg base CX0 3 f fd ["told"] (iI C K):=by
 refine F.ok qI (λvs H Q E h=>?_) (λZ A D s H vs Q E hr h=>?_)
 ·obtain ⟨v,k,rfl,_⟩:=h
  rfl
 obtain ⟨v,k,rfl,O,q⟩:=h
 obtain ⟨a,u1,u2,u3,rfl,d,U,W,X⟩:=O
 have m:u1=.str (kdS k.1):=U
 have o:u2=.int k.2.1:=W
 have u:u3=.int k.2.2:=X
 subst m o u
 have g:Room (1+1) _:=hr
 refine ⟨_,ah (aG (ax bJ (az (r:=ba K) aC (pv 0) aj (λ_ _=>rfl)) aB (aw _))
   (ai (au (aY (M .read) G g rfl (i .read) I .nil a9 (ac (az (r:=ba K) aC (pv 0) aj (λ_ _=>rfl)) (ac (az (r:=ba K) aC (pv 0) aj (λ_ _=>rfl)) af))))) aA)
  (ah (aG (ax bJ (az (r:=ba K) aC (pv 0) aj (λ_ _=>rfl)) aB (aw _))
   (ai (au (aY (M .mean) G g rfl (i .mean) I .nil a9 (ac (az (r:=ba K) aC (pv 0) aj (λ_ _=>rfl)) (ac (az (r:=ba K) aC (pv 0) aj (λ_ _=>rfl)) af))))) aA)
  (ai (au (aY (M .change) G g rfl (i .change) I .nil a9 (ac (az (r:=ba K) aC (pv 0) aj (λ_ _=>rfl)) (ac (az (r:=ba K) aC (pv 0) aj (λ_ _=>rfl)) af)))))),?_⟩
 refine ⟨_,ϱ,a,_,_,_,ϱ,ϱ,d.sq,ϱ,ϱ,_,ϱ,?_⟩
 obtain ⟨Y,x,y⟩:=k
 cases Y with
 | read =>
  refine bx (λ_=>?_) (λc=>absurd (τ rfl) c)
  exact ⟨_,ϱ,a,_,_,_,ϱ,ϱ,d.sq,ϱ,_,ϱ,a,_,_,_,ϱ,ϱ,d.sq,ϱ,λz e j b l=>⟨z,e,.read,x,y,ϱ,ae,ϱ,q _ _ (eK j b) ⟨z,e,ϱ,ae⟩⟩⟩
 | mean =>
  refine bx (λc=>absurd (V.str.inj (Ξ c)).symm xV) (λ_=>?_)
  refine ⟨_,ϱ,a,_,_,_,ϱ,ϱ,d.sq,ϱ,ϱ,_,ϱ,?_⟩
  refine bx (λ_=>?_) (λc=>absurd (τ rfl) c)
  exact ⟨_,ϱ,a,_,_,_,ϱ,ϱ,d.sq,ϱ,_,ϱ,a,_,_,_,ϱ,ϱ,d.sq,ϱ,λz e j b l=>⟨z,e,.mean,x,y,ϱ,ae,ϱ,q _ _ (eK j b) ⟨z,e,ϱ,ae⟩⟩⟩
 | change =>
  refine bx (λc=>absurd (V.str.inj (Ξ c)).symm xW) (λ_=>?_)
  refine ⟨_,ϱ,a,_,_,_,ϱ,ϱ,d.sq,ϱ,ϱ,_,ϱ,?_⟩
  refine bx (λc=>absurd (V.str.inj (Ξ c)).symm xX) (λ_=>?_)
  exact ⟨_,ϱ,a,_,_,_,ϱ,ϱ,d.sq,ϱ,_,ϱ,a,_,_,_,ϱ,ϱ,d.sq,ϱ,λz e j b l=>⟨z,e,.change,x,y,ϱ,ae,ϱ,q _ _ (eK j b) ⟨z,e,ϱ,ae⟩⟩⟩
theorem yK(F:Fun K "_law_cell_at" "_law_cell_at" dX f fd)(B:TxB mg):FnOk P w K mg base CX0 1 f fd ["_law_script","_law_k"] (qG K):=by
 refine F.ok j7 (λvs H Q E h=>?_) (λl A g s H vs Q E m h=>?_)
 ·obtain ⟨a,b,k,rfl,_⟩:=h
  rfl
 obtain ⟨a,b,k,rfl,i,q⟩:=h
 refine ⟨_,ah (aG (ax su (pv 1) (aK bD rfl B.len PySem.boot_len (ac (pv 0) af)) (aw _)) (ai (au (az aE (pv 0) (pv 1) (λ_ _=>rfl)))) aA)
  (ai (au aj)),?_⟩
 refine ⟨_,ϱ,_,ϱ,a,_,ϱ,.inl i,_,_,ϱ,ϱ,_,ϱ,?_⟩
 refine bx (λc=>?_) (λc=>?_)
 ·have d:(k:Int)<(((b.map V.int).length:Nat):Int):=Ξ c
  rw [ν] at d
  have j:k<b.length:=by omega
  have q1:atI (b.map V.int) ((k:Nat):Int)=some (.int b[k]):=bb (by rw [List.getElem?_map,ξ j]<;>rfl)
  have e:eE b k=b[k]:=by unfold eE;rw [List.getElem?_eq_getElem j];rfl
  rw [e] at q
  exact ⟨_,ϱ,_,ϱ,a,_,_,_,ϱ,ϱ,i,q1,q⟩
 ·have d:¬(k:Int)<(((b.map V.int).length:Nat):Int):=λz=>c (τ z)
  rw [ν] at d
  have e:eE b k=0:=by unfold eE;rw [List.getElem?_eq_none ω];rfl
  rw [e] at q
  exact q
theorem kp2{a:Addr}{H:Hp}{o1 o2:HO}:Kp a H (upd (upd H a o1) a o2):=λb o n e=>by rw [am n,am n];exact e
theorem wn(F:Fun K "__init__" "CellStep.__init__" dJ f fd)(T:TxW K CW):FnOk P w K mg base CX0 1 f fd ["self","where","cell"] (kB CW):=by
 refine F.ok ju (λvs H Q E h=>?_) (λi A e s H vs Q E j h=>?_)
 ·obtain ⟨a,d,b,x,y,rfl,_⟩:=h
  rfl
 obtain ⟨a,d,b,x,y,rfl,g,q⟩:=h
 refine ⟨_,ah (aT (pv 0) (pv 1) rfl) (ai (aT (pv 0) (pv 2) rfl)),?_⟩
 exact ⟨_,ϱ,_,ϱ,a,CW b,d,[],ϱ,g,T.cl b,T.nW b,(by show 0<1000;decide),_,ϱ,_,ϱ,a,CW b,d,_,ϱ,ae,T.cl b,T.nC b,(by show 1<1000;decide),q _ ae kp2⟩
theorem oZ{b:Wd}(hw:isC b=true){vs:List V}{H:Hp}{Q:VK}{E:XK}(h:fE CW b vs H Q E):kB CW vs H Q E:=by
 obtain ⟨a,d,l,rfl,f,g,q⟩:=h
 obtain ⟨x,y,rfl,_,_,e⟩:=f.c hw
 exact ⟨a,d,b,x,y,ϱ,g,λi h1 j=>q i (by rw [e];exact h1) j⟩
theorem vP(F:Fun K "__init__" "SumStep.__init__" eg f fd)(T:TxW K CW):FnOk P w K mg base CX0 1 f fd ["self","where","low","high"] (fE CW .sum):=by
 refine F.ok j9 (λvs H Q E h=>?_) (λm A i s H vs Q E r h=>?_)
 ·obtain ⟨a,d,j,rfl,g,_⟩:=h
  obtain ⟨x,y,z,rfl,_⟩:=g.s
  rfl
 obtain ⟨a,d,j,rfl,g,l,q⟩:=h
 obtain ⟨x,y,z,rfl,_⟩:=g.s
 refine ⟨_,ah (aT (pv 0) (pv 1) rfl) (ah (aT (pv 0) (pv 2) rfl) (ai (aT (pv 0) (pv 3) rfl))),?_⟩
 exact ⟨_,ϱ,_,ϱ,a,CW .sum,d,[],ϱ,l,T.cl _,T.nW _,(by show 0<1000;decide),_,ϱ,_,ϱ,a,CW .sum,d,_,ϱ,ae,T.cl _,T.nL _,(by show 1<1000;decide),_,ϱ,_,ϱ,a,CW .sum,d,_,ϱ,ae,T.cl _,T.nH _,Nat.lt_of_le_of_lt (c9 _ _ _) (by show 1+1<1000;decide),q _ ae λb o n e=>by rw [am n,am n,am n];exact e⟩
theorem ww{j m:Addr}{r:FuncData}(F:Fun K "__init__" "AddStep.__init__" eC f fd)(T:TxW K CW)(l:mg "CellStep"=some (.ref j))(J:zI K j "__init__" m)(L:FnOk P w K mg base CX0 1 m r ["self","where","cell"] (kB CW))(O:Binds K r ["self","where","cell"] []) :
  FnOk P w K mg base CX0 2 f fd ["self","where","cell","amount"] (fE CW .add):=by
 refine F.ok kf (λvs H Q E h=>?_) (λD A i s H vs Q E G h=>?_)
 ·obtain ⟨a,d,u,rfl,g,_⟩:=h
  obtain ⟨x,y,z,rfl,_⟩:=g.a
  rfl
 obtain ⟨a,d,u,rfl,g,C,q⟩:=h
 obtain ⟨x,y,z,rfl,_⟩:=g.a
 refine ⟨_,ah (aV (yj (hW (v:=.ref j) rfl l rfl) J L G O a9 (ac (pv 0) (ac (pv 1) (ac (pv 2) af))))) (ai (aT (pv 0) (pv 3) rfl)),?_⟩
 refine ⟨_,ϱ,_,ϱ,_,ϱ,a,d,.add,x,y,ϱ,C,λU h1 I=>?_⟩
 exact ⟨_,ϱ,_,ϱ,a,CW .add,d,_,ϱ,h1,T.cl _,T.nA _,Nat.lt_of_le_of_lt (c9 _ _ _) (by show 1+1<1000;decide),q _ ae λb o n e=>by rw [am n];exact I b o n e⟩
theorem vV(F:Fun K "__init__" "PlusStep.__init__" dw f fd)(T:TxW K CW):FnOk P w K mg base CX0 1 f fd ["self","amount"] (fE CW .plus):=by
 refine F.ok jo (λvs H Q E h=>?_) (λj A d s H vs Q E l h=>?_)
 ·obtain ⟨a,e,g,rfl,b,_⟩:=h
  obtain ⟨x,rfl,_⟩:=b.p
  rfl
 obtain ⟨a,e,g,rfl,b,i,q⟩:=h
 obtain ⟨x,rfl,_⟩:=b.p
 refine ⟨_,ai (aT (pv 0) (pv 1) rfl),?_⟩
 exact ⟨_,ϱ,_,ϱ,a,CW .plus,e,[],ϱ,i,T.cl _,T.nA _,(by show 0<1000;decide),q _ ae cm⟩
theorem vW(F:Fun K "__init__" "NeedStep.__init__" dD f fd)(T:TxW K CW):FnOk P w K mg base CX0 1 f fd ["self","amount"] (fE CW .need):=by
 refine F.ok jp (λvs H Q E h=>?_) (λj A d s H vs Q E l h=>?_)
 ·obtain ⟨a,e,g,rfl,b,_⟩:=h
  obtain ⟨x,rfl,_⟩:=b.n
  rfl
 obtain ⟨a,e,g,rfl,b,i,q⟩:=h
 obtain ⟨x,rfl,_⟩:=b.n
 refine ⟨_,ai (aT (pv 0) (pv 1) rfl),?_⟩
 exact ⟨_,ϱ,_,ϱ,a,CW .need,e,[],ϱ,i,T.cl _,T.nA _,(by show 0<1000;decide),q _ ae cm⟩
inductive kQ (val:Int->Int) (n:Nat) (vs:List V) (H:Hp) (Q:VK) (E:XK):Prop|mk (c:Int):vs=[.int c]->0<=c->c<n->(∀H',Same H H'->Q (.int (val c)) H')->kQ val n vs H Q E
def xL(val:Int->Int)(a:Int):Nat->Int
 | 0=>0
 | n+1=>xL val a n+val (a+n)
def vc(a:Int)(n:Nat):List Int:=(List.range n).map λi=>a+(i:Nat)
theorem pH(a:Int)(n:Nat):vc a (n+1)=vc a n++[a+n]:=by
 unfold vc
 rw [List.range_succ,List.map_append]
 rfl
theorem xK(val:Int->Int)(a:Int)(n:Nat):((vc a n).map val).sum=xL val a n:=by
 induction n with
 | zero=>rfl
 | succ n ih =>
  rw [pH,List.map_append,List.sum_append,ih]
  simp [xL]
def dn(val:Int->Int):Wd->List Int->Int->Int×List (Int×Int)
 | .take,[_,c],_=>(val c,[])
 | .mean,[_,c],_=>(val c,[])
 | .sum,[_,a,b],_=>(xL val a (b+1-a).toNat,[])
 | .give,[_,c],h=>(h,[(c,h)])
 | .add,[_,c,v],h=>(h,[(c,val c+v)])
 | _,_,h=>(h,[])
def inC(n:Nat):Wd->List Int->Prop
 | .sum,[_,a,b]=>a<n/\b<n
 | .add,[_,c,_]=>c<n
 | .plus,_=>False
 | .need,_=>False
 | _,[_,c]=>c<n
 | _,_=>False
def chK(cs:List (Int×Int)):List (Key×V):=cs.map λx=>(Sum.inl x.1,V.int x.2)
def chN(H:Hp)(cs:List (Int×Int))(a:Addr):Prop:=∃us,H a=some (xn a us)/\Paired (prD H) (chK cs) us
inductive eR (P:Program) (w:World) (K:Frag) (mg:Str->Option Value) (CW:Wd->Addr) (val:Int->Int) (n:Nat) (wd:Wd) (B:Heap) (vs:List V) (H:Hp) (Q:VK) (E:XK):Prop|mk v ns hand fv:vs=[v,.int hand,.ref fv]->Ar wd ns->inC n wd ns->StO CW H wd ns v->CloT P w K mg B 4 fv (kQ val n) H->(∀t ch H',Same H H'->H' t=some (.tup [.int (dn val wd ns hand).1,.ref ch])->chN H' (dn val wd ns hand).2 ch->Q (.ref t) H')->eR P w K mg CW val n wd B vs H Q E
section
variable {val:Int->Int}{n:Nat}
theorem wg{g:Wd}{st:Stmt}{q:Str}(hw:g=.take\/g=.mean)(F:Fun K "step_done" q st f fd)(S:ao ["self","hand","value_of"] ["self","hand","value_of"] (defScope st)){p1 p2 p3 p4 p5 p6 p7 x1 x2}(Y:defBody st=[.Return (some (.Tuple [.Call (.Name "value_of" p1) [.Attribute (.Name "self" p2) "cell" p3] [] p4,.Tuple [] x1 p5] x2 p6)) p7])(z:defScope st=defScope bZ)(T:TxW K CW) :
  FnOk P w K mg base CX0 5 f fd ["self","hand","value_of"] (eR P w K mg CW val n g base):=by
 refine F.ok S (λvs H Q E h=>?_) (λO A l s H vs Q E u h=>?_)
 ·obtain ⟨v,C,b,m,rfl,_⟩:=h
  rfl
 obtain ⟨v,C,b,m,rfl,D,G,⟨a,I,rfl,o⟩,r,q⟩:=h
 rw [Y,z]
 rw [z] at u
 obtain ⟨x,y,rfl,h1,J,e⟩:=D.c (by rcases hw with rfl | rfl<;>rfl)
 rw [e] at o
 have j:y<n:=by rcases hw with rfl | rfl<;>exact G
 have L:dn val g [x,y] b=(val y,[]):=by rcases hw with rfl | rfl<;>rfl
 rw [L] at q
 refine ⟨_,ai (au (aI (ac (lF (k:=4) (i:=2) (sp:=kQ val n) P w K mg base rfl (.inl rfl) u (ac (aq (pv 0) rfl) af)) (ac (kH af) af)))),?_⟩
 refine ⟨m,ϱ,r.fn,_,ϱ,a,CW g,I,_,_,ϱ,o,T.cl _,T.nC _,bH,_,ϱ,r,y,ϱ,J.1,j,λH1 U=>⟨χ,λt W=>⟨χ,λX d=>q X t _ (U.trans ((ag W).trans (ag d))) ae ⟨[],ag d _ _ ae,.nil⟩⟩⟩⟩
theorem wm(F:Fun K "step_done" "GiveStep.step_done" b9 f fd)(T:TxW K CW):FnOk P w K mg base CX0 5 f fd ["self","hand","value_of"] (eR P w K mg CW val n .give base):=by
 refine F.ok gE (λvs H Q E h=>?_) (λu A i s H vs Q E L h=>?_)
 ·obtain ⟨v,l,d,m,rfl,_⟩:=h
  rfl
 obtain ⟨v,l,d,m,rfl,o,G,⟨a,r,rfl,j⟩,I,q⟩:=h
 obtain ⟨x,y,rfl,h1,J,e⟩:=o.c rfl
 rw [e] at j
 refine ⟨_,ai (au (aI (ac (pv 1) (ac (kH (ac (aI (ac (aq (pv 0) rfl) (ac (pv 1) af))) af)) af)))),?_⟩
 refine ⟨_,ϱ,_,ϱ,a,CW .give,r,_,_,ϱ,j,T.cl _,T.nC _,bH,_,ϱ,χ,λt z=>⟨χ,λC g=>⟨χ,λD b=>q D C _ ((ag z).trans ((ag g).trans (ag b))) ae ⟨_,ag b _ _ ae,.cons ⟨t,ϱ,?_⟩ .nil⟩⟩⟩⟩
 exact ag b _ _ (ag g _ _ ae)
theorem yJ(F:Fun K "step_done" "AddStep.step_done" ck f fd)(T:TxW K CW):FnOk P w K mg base CX0 5 f fd ["self","hand","value_of"] (eR P w K mg CW val n .add base):=by
 refine F.ok gJ (λvs H Q E h=>?_) (λL A l s H vs Q E O h=>?_)
 ·obtain ⟨v,C,d,m,rfl,_⟩:=h
  rfl
 obtain ⟨v,C,d,m,rfl,D,G,⟨a,g,rfl,j⟩,o,q⟩:=h
 obtain ⟨x,y,z,rfl,h1,I,_⟩:=D.a
 refine ⟨_,ai (au (aI (ac (pv 1) (ac (kH (ac (aI (ac (aq (pv 0) rfl) (ac (aN d7 (lF (k:=4) (i:=2) (sp:=kQ val n) P w K mg base rfl (.inl rfl) O (ac (aq (pv 0) rfl) af)) (aq (pv 0) rfl)) af))) af)) af)))),?_⟩
 have r:(mC .add [x,y,z]).lookup (Str.ofString "cell")=some (V.int y):=by
  show (ay "amount" _ (ay "cell" _ (ay "where" _ []))).lookup _=_
  rw [aO θ,bH]
 have J:(mC .add [x,y,z]).lookup (Str.ofString "amount")=some (V.int z):=by
  show (ay "amount" _ (ay "cell" _ (ay "where" _ []))).lookup _=_
  rw [bH]
 refine ⟨_,ϱ,_,ϱ,a,CW .add,g,_,_,ϱ,j,T.cl _,T.nC _,r,m,ϱ,o.fn,_,ϱ,a,CW .add,g,_,_,ϱ,j,T.cl _,T.nC _,r,_,ϱ,o,y,ϱ,I.1,G,λH1 u=>⟨_,ϱ,a,CW .add,g,_,_,ϱ,u _ _ j,T.cl _,T.nA _,J,_,_,ϱ,ϱ,
  χ,λt U=>⟨χ,λW e=>⟨χ,λX b=>q X W _ (u.trans ((ag U).trans ((ag e).trans (ag b)))) ae ⟨_,ag b _ _ ae,.cons ⟨t,ϱ,?_⟩ .nil⟩⟩⟩⟩⟩
 exact ag b _ _ (ag e _ _ ae)
theorem yI(F:Fun K "step_done" "SumStep.step_done" bn f fd)(T:TxW K CW)(B:TxB mg)(e:mg "sum"=none)(hn:n<=1000):FnOk P w K mg base CX0 5 f fd ["self","hand","value_of"] (eR P w K mg CW val n .sum base):=by
 refine F.ok gI (λvs H Q E h=>?_) (λX A l s H vs Q E Y h=>?_)
 ·obtain ⟨v,D,b,o,rfl,_⟩:=h
  rfl
 obtain ⟨v,D,b,o,rfl,G,I,⟨a,r,rfl,u⟩,J,q⟩:=h
 obtain ⟨x,y,z,rfl,h1,L,h3,h4⟩:=G.s
 refine ⟨_,ai (au (aI (ac (aK (mD rfl) rfl e PyProof.Rows.boot_sum (ac (cM fJ rfl (tF rfl B.range (ac (aq (pv 0) rfl) (ac (aN d7 (aq (pv 0) rfl) aj) af))) (λ_ _ _ _=>cg)
  (λ_ _ _ _=>lF (k:=4) (i:=1) (sp:=kQ val n) P w K mg base rfl (by first | exact Or.inl rfl | exact Or.inr (Or.inl rfl) | exact Or.inr (Or.inr rfl)) Y (ac (pv 0) af))) af)) (ac (kH af) af)))),?_⟩
 have O:(mC .sum [x,y,z]).lookup (Str.ofString "low")=some (V.int y):=by
  show (ay "high" _ (ay "low" _ (ay "where" _ []))).lookup _=_
  rw [aO θ,bH]
 have U:(mC .sum [x,y,z]).lookup (Str.ofString "high")=some (V.int z):=by
  show (ay "high" _ (ay "low" _ (ay "where" _ []))).lookup _=_
  rw [bH]
 refine ⟨_,ϱ,a,CW .sum,r,_,_,ϱ,u,T.cl _,T.nL _,O,_,ϱ,a,CW .sum,r,_,_,ϱ,u,T.cl _,T.nH _,U,_,_,ϱ,ϱ,_,_,ϱ,?_⟩
 have y0:0<=y:=L.1
 have W:z<n:=I.2
 have hz:(z+1-y).toNat<=n:=by omega
 have j:(1000:Nat)<=sizeLine:=by decide
 refine tV (λi m Z=>Same H Z/\m=((vc y i).map val).map V.int) ⟨Same.refl _,ϱ⟩ ω ?_ ?_
 ·rintro i m H2 hi ⟨g,rfl⟩
  have C:=J.keep g
  refine il ⟨o,ϱ,C.fn,_,ϱ,_,ϱ,C,y+i,ϱ,ω,ω,λH3 s3=>⟨g.trans s3,?_⟩⟩
  rw [pH,List.map_append,List.map_append]
  rfl
 ·rintro m H2 ⟨g,rfl⟩ p hp
  refine ⟨p,_,ϱ,SqL.of ae,?_⟩
  rw [xK]
  exact ⟨χ,λt ht=>⟨χ,λt2 d=>q t2 t _ (g.trans ((ag hp).trans ((ag ht).trans (ag d)))) ae ⟨[],ag d _ _ ae,.nil⟩⟩⟩
end
end
end K52
namespace K52
open PySem L2 Lo
section
variable {P:Program}{w:World}{K:Frag}{mg:Str->Option Value}{base:Heap}{f CL CS CH CV:Addr}{fd:FuncData}{C:Kd->Addr}{CW:Wd->Addr}
theorem jC(F:Fun K "covers" "Lock.covers" fe f fd)(T:TxK K C)(R:TxR K mg)(G:∀k,GM P w K mg base CX0 1 (C k) "kind" ["self"] (iw k)):FnOk P w K mg base CX0 2 f fd ["self","other"] (iK C):=by
 refine F.ok sc_Lock_covers (λvs H Q E h=>?_) (λI A r s H vs Q E z h=>?_)
 ·obtain ⟨v,u,k,j,rfl,_⟩:=h
  rfl
 obtain ⟨v,u,k,j,rfl,⟨a,g,rfl,l⟩,⟨b,m,rfl,o⟩,q⟩:=h
 obtain ⟨d,x,y⟩:=R.rk
 refine ⟨_,ah (aH (i:=2) sc_Lock_covers.nd rfl (Or.inl rfl) (d6 (bo mM (aq (pv 0) rfl) (aq (pv 1) rfl) (aw _)) (eY (bo mM (aq (pv 1) rfl) (aq (pv 0) rfl) (aw _)))))
  (ai (au (d6 (pv 2) (eY (bo BK (az (sC (D:=lj)) (hW (v:=.ref d) rfl x rfl) (pm0 (G k.1) (pv 0) (T.cl k.1) z) (λ_ _=>rfl)) (az (sC (D:=lj)) (hW (v:=.ref d) rfl x rfl) (pm0 (G j.1) (pv 1) (T.cl j.1) z) (λ_ _=>rfl)) (aw _)))))),?_⟩
 refine ⟨_,ϱ,a,_,g,_,_,ϱ,l,T.cl _,T.nF _,i5 _ _,_,ϱ,b,_,m,_,_,ϱ,o,T.cl _,T.nF _,i5 _ _,_,_,ϱ,ϱ,_,ϱ,?_⟩
 by_cases h1:k.2.1<=j.2.1
 ·refine bx (λ_=>?_) (λc=>absurd (τ h1) c)
  refine ⟨_,ϱ,b,_,m,_,_,ϱ,o,T.cl _,T.nL _,oQ _ _,_,ϱ,a,_,g,_,_,ϱ,l,T.cl _,T.nL _,oQ _ _,_,_,ϱ,ϱ,?_⟩
  by_cases h2:j.2.2<=k.2.2
  ·have e:aM k j=decide (iT j.1<=iT k.1):=by unfold aM;rw [decide_eq_true h1,decide_eq_true h2];rfl
   rw [e] at q
   refine ⟨_,ϱ,_,ϱ,bx (λ_=>?_) (λc=>absurd (τ h2) c)⟩
   refine ⟨_,ϱ,a,g,_,ϱ,l,iu _ _ θ θ,_,ϱ,d,_,iT k.1,ϱ,ϱ,y,rZ k.1,ϱ,?_⟩
   exact ⟨_,ϱ,b,m,_,ϱ,o,iu _ _ θ θ,_,ϱ,d,_,iT j.1,ϱ,ϱ,y,rZ j.1,ϱ,_,_,ϱ,ϱ,q H (Same.refl H)⟩
  ·have e:aM k j=false:=by unfold aM;rw [decide_eq_false h2,Bool.and_false];rfl
   rw [e] at q
   exact ⟨_,ϱ,_,ϱ,bx (λc=>absurd (Ξ c) h2) (λ_=>q H (Same.refl H))⟩
 ·have e:aM k j=false:=by unfold aM;rw [decide_eq_false h1];rfl
  rw [e] at q
  refine bx (λc=>absurd (Ξ c) h1) (λ_=>?_)
  exact ⟨_,ϱ,_,ϱ,aL (q H (Same.refl H))⟩
theorem tL(F:Fun K "__init__" "Locks.__init__" gf f fd)(L:TxL K C CL):FnOk P w K mg base CX0 1 f fd ["self"] (kR CL):=by
 refine F.ok mv (λvs H Q E h=>?_) (λr A d s H vs Q E u h=>?_)
 ·obtain ⟨l,i,rfl,_⟩:=h
  rfl
 obtain ⟨l,i,rfl,j,q⟩:=h
 refine ⟨_,ai (aT (pv 0) (bf af) rfl),?_⟩
 refine ⟨χ,λp g=>?_⟩
 have m:l≠p:=ap j g
 refine ⟨_,ϱ,l,CL,i,[],ϱ,(by rw [am m];exact j),L.cl,L.nP,(by show 0<1000;decide),?_⟩
 exact q p _ g (by rw [am (Ne.symm m),ae]) ae λb o n e=>by rw [am n,am (ap e g)];exact e
def Un(ps:List Pr):Prop:=∃x,∀y∈ps,y.1=x
theorem eL(p:Pa)(due:List Lk):∀x∈due.map (λk=>((p,k):Pr)),x.1=p:=λx hx=>by
 obtain ⟨k,_,rfl⟩:=ϑ.mp hx
 rfl
def fu(due:List Lk)(k:Lk):List Lk:=if (due.any λj=>aM j k)=true then due else due++[k]
theorem sJ(b:List Lk)(k:Lk):(fu b k).length<=b.length+1:=by
 unfold fu
 split<;>simp
theorem pwn{X:Cx}{e:Expr}:PW X e (λ_ _ _=>False):=λ_ _ _ _ _ _ _ h=>h.elim
def tNo:TE:=λ_ _ _=>False
theorem gQ{X:Cx}{e:Expr}:PE X e tNo:=λ_ _ _ _ _ _ h=>h.elim
section
variable (C:Kd->Addr)(CL:Addr)(K:Frag)
inductive tm (vs:List V) (H:Hp) (Q:VK) (E:XK):Prop|mk l p ps k:vs=[.ref l,.int (k:Nat)]->LS C CL K H l p ps->k<ps.length->ps.length<=1000->Un ps->(∀H',Same H H'->Q .non H')->tm vs H Q E
inductive uT (R:Frag->Hp->Pr->V->Prop) (vs:List V) (H:Hp) (Q:VK) (E:XK):Prop|mk l p ps:vs=[.ref l]->LS C CL K H l p ps->ps.length<=1000->Un ps->(∀q H' us,Same H H'->H' q=some (.lst us)->Paired (R K H') ps us->Q (.ref q) H')->uT R vs H Q E
inductive tj (vs:List V) (H:Hp) (Q:VK) (E:XK):Prop|mk l p ps:vs=[.ref l]->LS C CL K H l p ps->ps.length<=1000->Un ps->(∀q H',Same H H'->H' q=some (.lst [])->Q (.ref q) H')->tj vs H Q E
inductive zZ (vs:List V) (H:Hp) (Q:VK) (E:XK):Prop|mk l p ps v x:vs=[.ref l,v]->LS C CL K H l p ps->ps.length<=1000->Un ps->cPa.rp K H x v->(∀H',Same H H'->Q .non H')->zZ vs H Q E
inductive xP (vs:List V) (H:Hp) (Q:VK) (E:XK):Prop|mk l p due v x u k:vs=[.ref l,v,u]->(LS C CL K H l p ((due:List Lk).map λk=>((x,k):Pr)))->due.length<1000->cPa.rp K H x v->LkO C H k u->(∀H',LS C CL K H' l p ((fu due k).map λk=>((x,k):Pr))->Kp p H H'->Q (.bl true) H')->xP vs H Q E
inductive z5 (vs:List V) (H:Hp) (Q:VK) (E:XK):Prop|mk l p due v x:vs=[.ref l,v]->(LS C CL K H l p ((due:List Lk).map λk=>((x,k):Pr)))->due.length<=1000->cPa.rp K H x v->(∀q p' dl H',H' l=some (.ins CL dl [("pairs",.ref p')])->H' p'=some (.lst [])->H p'=none->Kp l H H'->H' q=some (.lst [])->Q (.ref q) H')->z5 vs H Q E
end
theorem yF(F:Fun K "hinderer" "Locks.hinderer" cT f fd)(B:TxB mg)(L:TxL K C CL):FnOk P w K mg base CX0 3 f fd ["self","place"] (tm C CL K):=by
 refine F.ok sc_Locks_hinderer (λvs H Q E h=>?_) (λar A G s H vs Q E hr h=>?_)
 ·obtain ⟨l,p,e,k,rfl,_⟩:=h
  rfl
 obtain ⟨l,p,e,k,rfl,ls,O,hz,⟨x,U⟩,q⟩:=h
 have nd:=sc_Locks_hinderer.nd
 obtain ⟨Y,vs,Z,hp,W⟩:=id ls
 have X:=W.len
 obtain ⟨uk,g,j⟩:=W.get1 (ξ O)
 refine ⟨_,ah (aH (i:=2) nd rfl (Or.inl rfl) (az (r:=bK K) aE (aq (pv 0) rfl) (pv 1) (λ_ _=>rfl)))
  (ah (gP PassesOwn.never rfl (cO rfl B.range (ac (pv 1) af)) (ci (i:=3) nd rfl (Or.inl rfl))
   (ah (aH (i:=4) nd rfl (Or.inl rfl) (az (r:=bK K) aE (aq (pv 0) rfl) (pv 3) (λ_ _=>rfl)))
   (ai (aG (PW.pt (gN (ax (vE cPa (hun hr)) (az (r:=ba K) aC (pv 4) aj (λ_ _=>rfl)) (az (r:=ba K) aC (pv 2) aj (λ_ _=>rfl)) (aw _)) pwn)) aD aA))))
  (ai (au bX))),?_⟩
 refine ⟨_,ϱ,l,CL,Y,_,_,ϱ,Z,L.cl,L.nP,cb,_,ϱ,p,_,_,_,ϱ,ϱ,SqL.of hp,bb g,?_⟩
 refine ⟨_,ϱ,(k:Int),ϱ,(bnd ω).1,(bnd ω).2,?_⟩
 rw [Int.toNat_natCast]
 refine jG (n:=k) (λi σ H'=>Same H H'/\∃I J,σ=[some (.ref l),some (.int (k:Nat)),some uk,I,J]) ⟨Same.refl H,none,none,ϱ⟩ ?_ ?_
 ·rintro i σ H1 hi ⟨d,I,J,rfl⟩
  rw [Int.zero_add]
  obtain ⟨m,a4,o,u,y⟩:=ls.keep L.ne d
  have b:i<e.length:=by omega
  obtain ⟨ui,z,D⟩:=y.get1 (ξ b)
  obtain ⟨a1,p1,l1,rfl,t1,c1,o1⟩:=D
  obtain ⟨a2,p2,l2,rfl,t2,c2,o2⟩:=j.keep L.ne (eQ d)
  refine ⟨_,ϱ,l,CL,m,_,_,ϱ,o,L.cl,L.nP,cb,_,ϱ,p,_,_,_,ϱ,ϱ,SqL.of u,bb z,?_⟩
  refine ⟨_,ϱ,a1,_,_,_,ϱ,ϱ,t1.sq,ϱ,_,ϱ,a2,_,_,_,ϱ,ϱ,t2.sq,ϱ,e[i].1,e[k].1,c1,c2,_,ϱ,?_⟩
  rw [τ ((U _ (List.getElem_mem b)).trans (U _ (List.getElem_mem O)).symm)]
  exact aL (aL ⟨d,_,_,ϱ⟩)
 ·rintro σ H1 ⟨d,I,J,rfl⟩
  exact q H1 d
theorem wb(F:Fun K "held_pairs" "Locks.held_pairs" bv f fd)(B:TxB mg)(L:TxL K C CL)(Z:GM P w K mg base CX0 3 CL "hinderer" ["self","place"] (tm C CL K)) :
  FnOk P w K mg base CX0 4 f fd ["self"] (uT C CL K (PrO C)):=by
 refine F.ok ig (λvs H Q E h=>?_) (λW A u s H vs Q E X h=>?_)
 ·obtain ⟨l,p,D,rfl,_⟩:=h
  rfl
 obtain ⟨l,p,D,rfl,ls,U,un,q⟩:=h
 obtain ⟨j,vs,m,G,I⟩:=id ls
 have J:=I.len
 refine ⟨_,ai (au (cM gF rfl (cO rfl B.range (ac (aK bD rfl B.len PySem.boot_len (ac (aq (pv 0) rfl) af)) af))
  (λ_ _ _ _=>fR (ax lJ (pm Z (pv 1) L.cl X (ac (pv 0) af)) bX (aw _))) (λ_ _ _ _=>az (r:=bK K) aE (pfK K 1) (pv 0) (λ_ _=>rfl)))),?_⟩
 refine ⟨_,ϱ,l,CL,j,_,_,ϱ,m,L.cl,L.nP,cb,p,_,ϱ,.inl (SqL.of G),(vs.length:Int),ϱ,(bnd ω).1,(bnd ω).2,?_⟩
 rw [Int.toNat_natCast]
 refine i9 (n:=vs.length) (λi x Y=>Same H Y/\x=vs.take i) ⟨Same.refl H,ϱ⟩ (small ω) ?_ ?_
 ·rintro i x H1 O ⟨d,rfl⟩
  refine ⟨_,ϱ,l,j,_,ϱ,d _ _ m,eN θ,_,ϱ,l,p,D,i,ϱ,ls.keep L.ne d,ω,U,un,λH2 e=>⟨ϱ,_,ϱ,cj ?_⟩⟩
  have b:=d.trans e
  refine ⟨_,ϱ,l,CL,j,_,_,ϱ,b _ _ m,L.cl,L.nP,cb,_,ϱ,p,_,_,_,ϱ,ϱ,SqL.of (b _ _ G),bb (ξ O),b,?_⟩
  rw [List.take_succ,ξ O]
  rfl
 ·rintro x H1 ⟨d,rfl⟩ z y
  rw [List.take_length]
  have e:=d.trans (ag (o:=.lst vs) y)
  exact q z _ _ e ae (pp I λ_ _ g=>g.keep L.ne (eQ e))
theorem vM(F:Fun K "waiting_pairs" "Locks.waiting_pairs" bc f fd)(B:TxB mg)(L:TxL K C CL)(O:GM P w K mg base CX0 3 CL "hinderer" ["self","place"] (tm C CL K)):FnOk P w K mg base CX0 4 f fd ["self"] (tj C CL K):=by
 refine F.ok fH (λvs H Q E h=>?_) (λD A d s H vs Q E G h=>?_)
 ·obtain ⟨l,p,j,rfl,_⟩:=h
  rfl
 obtain ⟨l,p,j,rfl,ls,u,un,q⟩:=h
 obtain ⟨m,vs,o,x,y⟩:=id ls
 have r:=y.len
 refine ⟨_,ai (au (cM eT rfl (cO rfl B.range (ac (aK bD rfl B.len PySem.boot_len (ac (aq (pv 0) rfl) af)) af))
  (λ_ _ _ _=>fR (ax oN (pm O (pv 1) L.cl G (ac (pv 0) af)) bX (aw _))) (λ_ _ _ _=>gQ))),?_⟩
 refine ⟨_,ϱ,l,CL,m,_,_,ϱ,o,L.cl,L.nP,cb,p,_,ϱ,.inl (SqL.of x),(vs.length:Int),ϱ,(bnd ω).1,(bnd ω).2,?_⟩
 rw [Int.toNat_natCast]
 refine i9 (n:=vs.length) (λi e I=>Same H I/\e=[]) ⟨Same.refl H,ϱ⟩ (small ω) ?_ ?_
 ·rintro i e H1 W ⟨b,rfl⟩
  exact ⟨_,ϱ,l,m,_,ϱ,b _ _ o,eN θ,_,ϱ,l,p,j,i,ϱ,ls.keep L.ne b,ω,u,un,λU J=>⟨ϱ,_,ϱ,aL ⟨b.trans J,ϱ⟩⟩⟩
 ·rintro e H1 ⟨b,rfl⟩ z g
  exact q z _ (b.trans (ag g)) ae
theorem yG(F:Fun K "held" "Locks.held" cJ f fd)(T:TxK K C)(L:TxL K C CL)(GP:GM P w K mg base CX0 4 CL "held_pairs" ["self"] (uT C CL K (PrO C)))(GT:∀k,GM P w K mg base CX0 2 (C k) "told" ["self"] (fF C)) :
  FnOk P w K mg base CX0 5 f fd ["self"] (uT C CL K cPr.rp):=by
 refine F.ok mw (λvs H Q E h=>?_) (λab A J s H vs Q E U h=>?_)
 ·obtain ⟨l,p,I,rfl,_⟩:=h
  rfl
 obtain ⟨l,p,I,rfl,ls,Z,un,q⟩:=h
 obtain ⟨dx,vs,hl,hp,pr⟩:=id ls
 refine ⟨_,ai (au (cM kg rfl (bV (pm0 GP (pv 0) L.cl U)) (λ_ _ _ _=>cg)
  (λ_ _ _ _=>aI (ac (az (r:=ba K) aC (pv 0) aj (λ_ _=>rfl)) (ac (PE.ex λkd:Kd=>pm0 (GT kd) (az (r:=ba K) aC (pv 0) aj (λ_ _=>rfl)) (T.cl kd) U) af))))),?_⟩
 refine ⟨_,ϱ,l,dx,_,ϱ,hl,eN θ,l,p,I,ϱ,ls,Z,un,λx H1 us s1 W X=>⟨x,ϱ,⟨_,SqL.of W⟩,?_⟩⟩
 have d:=X.len
 refine cA (xs:=us) (λi e Y=>Same H1 Y/\Paired (cPr.rp K Y) (I.take i) e) ⟨Same.refl _,.nil⟩ (small ω) (λi e m _ g=>SqL.of (g.1 _ _ W)) ?_ ?_
 ·rintro i u e m hu ⟨D,G⟩
  obtain ⟨y,ey,ry⟩:=X.get hu
  obtain ⟨a,pu,lu,rfl,ta,cp,lo⟩:=ry.keep L.ne (eQ D)
  obtain ⟨la,da,rfl,ha⟩:=id lo
  refine il ⟨_,ϱ,a,_,_,_,ϱ,ϱ,ta.sq,ϱ,y.2.1,_,ϱ,a,_,_,_,ϱ,ϱ,ta.sq,ϱ,la,da,_,ϱ,ha,iu _ _ θ θ,_,y.2,ϱ,lo,λt ht=>⟨χ,λt2 j=>?_⟩⟩
  have b:Same m (upd (upd m t (.tup [.str (kdS y.2.1),.int y.2.2.1,.int y.2.2.2])) t2 (.tup [pu,.ref t])):=(ag ht).trans (ag j)
  refine ⟨D.trans b,?_⟩
  rw [List.take_succ,ey]
  exact (pp G λ_ _ g=>cPr.keep b.ts g).app (.cons (xk (k:=y) ae (cPa.keep b.ts cp) (rB (ag j _ _ ae))) .nil)
 ·rintro e m ⟨D,G⟩ z O
  rw [← d,List.take_length] at G
  have b:=ag (o:=.lst e) O
  exact q z _ _ (s1.trans (D.trans b)) ae (pp G λ_ _ g=>cPr.keep b.ts g)
theorem qP(F:Fun K "waiting" "Locks.waiting" bR f fd)(L:TxL K C CL)(X:GM P w K mg base CX0 4 CL "waiting_pairs" ["self"] (tj C CL K)):FnOk P w K mg base CX0 5 f fd ["self"] (tj C CL K):=by
 refine F.ok jr (λvs H Q E h=>?_) (λG A d s H vs Q E I h=>?_)
 ·obtain ⟨l,p,j,rfl,_⟩:=h
  rfl
 obtain ⟨l,p,j,rfl,ls,r,un,q⟩:=h
 obtain ⟨y,vs,D,Y,Z⟩:=id ls
 refine ⟨_,ai (au (cM iz rfl (bV (pm0 X (pv 0) L.cl I)) (λ_ _ _ _=>cg) (λ_ _ _ _=>gQ))),?_⟩
 refine ⟨_,ϱ,l,y,_,ϱ,D,eN θ,l,p,j,ϱ,ls,r,un,λx H1 J m=>⟨x,ϱ,⟨_,SqL.of m⟩,?_⟩⟩
 refine cA (xs:=[]) (λi b O=>Same H1 O/\b=[]) ⟨Same.refl _,ϱ⟩ (ϖ _) (λi b o _ g=>SqL.of (g.1 _ _ m)) (λi u b o U=>by cases U) ?_
 rintro b o ⟨W,rfl⟩ z e
 exact q z _ (J.trans (W.trans (ag e))) ae
theorem tJ(F:Fun K "waiting_place" "Locks.waiting_place" bT f fd)(B:TxB mg)(L:TxL K C CL)(GH:GM P w K mg base CX0 3 CL "hinderer" ["self","place"] (tm C CL K)) :
  FnOk P w K mg base CX0 4 f fd ["self","p"] (zZ C CL K):=by
 refine F.ok sc_Locks_waiting_place (λvs H Q E h=>?_) (λa5 A D s H vs Q E J h=>?_)
 ·obtain ⟨l,p,d,v,x,rfl,_⟩:=h
  rfl
 obtain ⟨l,p,d,v,x,rfl,ls,O,un,U,q⟩:=h
 have nd:=sc_Locks_waiting_place.nd
 obtain ⟨W,vs,X,Y,Z⟩:=id ls
 have I:=Z.len
 refine ⟨_,ah (gP PassesOwn.never rfl (cO rfl B.range (ac (aK bD rfl B.len PySem.boot_len (ac (aq (pv 0) rfl) af)) af)) (ci (i:=2) nd rfl (Or.inl rfl))
   (ai (aG (PW.pt (gN (ax (vI cPa (hun J)) (az (r:=ba K) aC (az (r:=bK K) aE (aq (pv 0) rfl) (pv 2) (λ_ _=>rfl)) aj (λ_ _=>rfl)) (pv 1) (aw _))
    (iU (ax oN (pm GH (pv 0) L.cl J (ac (pv 2) af)) bX (aw _))))) aD aA)))
  (ai (au bX)),?_⟩
 refine ⟨_,ϱ,l,CL,W,_,_,ϱ,X,L.cl,L.nP,cb,p,_,ϱ,.inl (SqL.of Y),(vs.length:Int),ϱ,(bnd ω).1,(bnd ω).2,?_⟩
 rw [Int.toNat_natCast]
 refine jG (n:=vs.length) (λi σ H'=>Same H H'/\∃G,σ=[some (.ref l),some v,G]) ⟨Same.refl H,none,ϱ⟩ ?_ ?_
 ·rintro i σ H1 hi ⟨b,G,rfl⟩
  rw [Int.zero_add]
  have j:=ls.keep L.ne b
  obtain ⟨e,a0,g,o,u⟩:=id j
  have m:i<d.length:=by omega
  obtain ⟨ui,y,z⟩:=u.get1 (ξ m)
  obtain ⟨a1,p1,l1,rfl,t1,c1,o1⟩:=z
  refine ⟨_,ϱ,l,CL,e,_,_,ϱ,g,L.cl,L.nP,cb,_,ϱ,p,_,_,_,ϱ,ϱ,SqL.of o,bb y,a1,_,_,_,ϱ,ϱ,t1.sq,ϱ,_,ϱ,d[i].1,x,c1,cPa.keep b.ts U,_,ϱ,?_⟩
  cases decide (d[i].1=x) with
  | true=>exact cj ⟨_,rfl,l,e,_,rfl,g,eN θ,_,rfl,l,p,d,i,rfl,j,m,O,un,λH2 s2=>⟨rfl,_,rfl,aL ⟨b.trans s2,_,rfl⟩⟩⟩
  | false=>exact aL (aL ⟨b,_,rfl⟩)
 ·rintro σ H1 ⟨b,G,rfl⟩
  exact q H1 b
theorem AA(F:Fun K "ask" "Locks.ask" c8 f fd)(B:TxB mg)(T:TxK K C)(L:TxL K C CL)(GC:∀k,GM P w K mg base CX0 2 (C k) "covers" ["self","other"] (iK C))(GH:GM P w K mg base CX0 3 CL "hinderer" ["self","place"] (tm C CL K))(GW:GM P w K mg base CX0 4 CL "waiting_place" ["self","p"] (zZ C CL K)) :
  FnOk P w K mg base CX0 5 f fd ["self","p","lock"] (xP C CL K):=by
 refine F.ok sc_Locks_ask (λvs H Q E h=>?_) (λc1 A aS s H vs Q E hr h=>?_)
 ·obtain ⟨l,p,b,v,x,u,k,rfl,_⟩:=h
  rfl
 obtain ⟨l,p,b,v,x,u,k,rfl,ls,hz,hx,hu,q⟩:=h
 have nd:=sc_Locks_ask.nd
 refine ⟨_,ah (aG (ax oN (pm GW (pv 0) L.cl hr (ac (pv 1) af)) bX (aw _)) aD aA)
  (ah (aG (bL (aK (qi rfl) rfl B.any PyProof.Rows.boot_any (ac (cM k9 rfl (bV (aq (pv 0) rfl)) (λ_ _ _ _=>cg)
   (λ_ _ _ _=>d6 (bo (sw K cPa (hun hr)) (az (r:=ba K) aC (pv 0) aj (λ_ _=>rfl)) (pv 1) (aw _)) (eY (PE.ex λkd:Kd=>pm (GC kd) (az (r:=ba K) aC (pv 0) aj (λ_ _=>rfl)) (T.cl kd) hr (ac (pv 2) af))))) af))) (ai (au pN)) aA)
  (ah (aV (gq PySem.F.plainAttrs_list PySem.F.slot_list_append PySem.F.type_list_append h8 (aq (pv 0) rfl) (ac (aI (ac (pv 1) (ac (pv 2) af))) af)))
  (ai (au (bo lJ (pm GH (pv 0) L.cl hr (ac (aN lG (aK bD rfl B.len PySem.boot_len (ac (aq (pv 0) rfl) af)) aj) af)) bX (aw _)))))),?_⟩
 obtain ⟨dx,vs,hl,hp,pr⟩:=id ls
 have D:=pr.len
 rw [ν] at D
 refine ⟨_,ϱ,l,dx,_,ϱ,hl,eN θ,_,ϱ,l,p,_,v,x,ϱ,ls,by rw [ν];exact Nat.le_of_lt hz,⟨x,eL x b⟩,hx,λH1 s1=>⟨ϱ,_,ϱ,aL ?_⟩⟩
 have as:=s1 _ _ hl
 have Z:=s1 _ _ hp
 refine ⟨_,ϱ,l,CL,dx,_,_,ϱ,as,L.cl,L.nP,cb,p,ϱ,⟨_,SqL.of Z⟩,?_⟩
 refine cA (xs:=vs) (λi ys H'=>Same H1 H'/\ys=((b.take i).map λy=>aM y k).map V.bl) ⟨Same.refl _,ϱ⟩ (small ω) (λi ys H2 _ g=>SqL.of (g.1 _ _ Z)) ?_ ?_
 ·rintro i u0 ys H2 bd ⟨s2,rfl⟩
  obtain ⟨y0,ey,ry⟩:=pr.get bd
  rw [List.getElem?_map] at ey
  obtain ⟨y,ab,rfl⟩:=Option.map_eq_some_iff.mp ey
  have sx:=s1.trans s2
  obtain ⟨a,pu,lu,rfl,ta,cp,lo⟩:=ry.keep L.ne (eQ sx)
  obtain ⟨la,da,rfl,ha⟩:=id lo
  refine il ⟨_,ϱ,a,_,_,_,ϱ,ϱ,ta.sq,ϱ,_,ϱ,x,x,cp,cPa.keep sx.ts hx,_,ϱ,?_⟩
  rw [τ rfl]
  refine cj ⟨y.1,_,ϱ,a,_,_,_,ϱ,ϱ,ta.sq,ϱ,la,da,_,ϱ,ha,iu _ _ θ θ,_,ϱ,_,_,y,k,ϱ,lo,hu.keep L.ne (eQ sx),λU e=>⟨s2.trans e,?_⟩⟩
  rw [List.take_succ,ab,List.map_append,List.map_append]
  rfl
 ·rintro ys H2 ⟨s2,rfl⟩ y hy
  rw [show vs.length=b.length from D.symm,List.take_length]
  refine ⟨y,_,ϱ,SqL.of ae,_,ϱ,?_⟩
  have e:=s1.trans (s2.trans (ag (o:=.lst ((b.map λy=>aM y k).map V.bl)) hy))
  generalize (upd H2 y (HO.lst ((b.map λy=>aM y k).map V.bl)))=U at e ⊢
  rw [show (b.map λy=>aM y k).any id=b.any λy=>aM y k by rw [List.any_map];rfl]
  unfold fu at q
  cases ec:b.any λy=>aM y k with
  | true =>
   rw [ec,if_pos rfl] at q
   exact cj (q U (ls.keep L.ne e) (Kp.of e))
  | false =>
   rw [ec,if_neg Bool.false_ne_true,List.map_append] at q
   have G:=e _ _ hl
   have d:=e _ _ hp
   refine aL ⟨_,ϱ,l,CL,dx,_,_,ϱ,G,L.cl,L.nP,cb,.inl ⟨ϱ,_,SqL.of d⟩,_,ϱ,_,ϱ,χ,λt ht=>?_⟩
   have np:p≠t:=ap d ht
   have aR:(upd U t (.tup [v,u])) p=some (.lst vs):=by rw [am np];exact d
   refine ⟨p,vs,_,ϱ,ϱ,aR,dR ω,?_⟩
   have I:Kp p U (upd (upd U t (.tup [v,u])) p (.lst (vs++[.ref t]))):=(Kp.of (ag ht)).trans cm
   have J:=(eQ e).trans (I.fs (CL:=CL) d)
   have j:LS C CL K (upd (upd U t (.tup [v,u])) p (.lst (vs++[.ref t]))) l p ((b.map λk=>((x,k):Pr))++[(x,k)]) :=
    ⟨dx,_,I l _ (gs G d (by intro z;cases z)) G,ae,(pp pr λ_ _ g=>g.keep L.ne J).app (.cons ⟨t,v,u,ϱ,.inl (by rw [am (Ne.symm np),ae]),cPa.keep J.ts hx,hu.keep L.ne J⟩ .nil)⟩
   have a0:=(Kp.of (p:=p) e).trans I
   generalize (upd (upd U t (.tup [v,u])) p (HO.lst (vs++[.ref t])))=H4 at j a0 ⊢
   obtain ⟨W,ak,X,Y,ar⟩:=id j
   have O:b.length+1=ak.length:=by have:=ar.len;rw [List.length_append,ν] at this;exact this
   refine ⟨_,ϱ,l,W,_,ϱ,X,eN θ,_,ϱ,l,CL,W,_,_,ϱ,X,L.cl,L.nP,cb,p,_,ϱ,.inl (SqL.of Y),_,_,ϱ,ϱ,?_⟩
   rw [← O]
   have ei:((b.length+1:Nat):Int)-1=(b.length:Nat):=by omega
   refine ⟨l,p,_,b.length,congrArg (λi=>[V.ref l,V.int i]) ei,j,by rw [List.length_append,ν];exact Nat.lt_succ_self _,by rw [List.length_append,ν];exact hz,⟨x,λy hy=>?_⟩,λH5 s5=>⟨ϱ,q H5 (j.keep L.ne s5) (a0.trans (Kp.of s5))⟩⟩
   rcases List.mem_append.mp hy with m | m
   ·exact eL x b y m
   ·rw [ϵ.mp m]
theorem yH(F:Fun K "free" "Locks.free" bp f fd)(L:TxL K C CL)(GP:GM P w K mg base CX0 4 CL "waiting_pairs" ["self"] (tj C CL K)) :
  FnOk P w K mg base CX0 5 f fd ["self","p"] (z5 C CL K):=by
 refine F.ok sc_Locks_free (λvs H Q E h=>?_) (λbB A ar s H vs Q E hr h=>?_)
 ·obtain ⟨l,p,X,v,x,rfl,_⟩:=h
  rfl
 obtain ⟨l,p,X,v,x,rfl,ls,hz,hx,q⟩:=h
 have nd:=sc_Locks_free.nd
 refine ⟨_,ah (aH (i:=2) nd rfl (Or.inl rfl) (pm0 GP (pv 0) L.cl hr))
  (ah (aT (pv 0) (cM kj rfl (bV (aq (pv 0) rfl)) (λ_ _ _ _=>fR (ax (ss K cPa (hun hr)) (az (r:=ba K) aC (pv 0) aj (λ_ _=>rfl)) (pv 1) (aw _))) (λ_ _ _ _=>gQ)) rfl)
  (ah (aH (i:=3) nd rfl (Or.inr rfl) (cM ki rfl (bV (pm0 GP (pv 0) L.cl hr)) (λ_ _ _ _=>cg) (λ_ _ _ _=>gQ)))
  (ai (au (cM kh rfl (bV (pv 2)) (λ_ _ _ _=>fR (PW.pt (gN (ax (ss K cPa (hun hr)) (az (r:=ba K) aC (pv 0) aj (λ_ _=>rfl)) (pv 1) (aw _)) pwn))) (λ_ _ _ _=>gQ)))))),?_⟩
 obtain ⟨e,vs,hl,hp,pr⟩:=id ls
 have Y:=pr.len
 rw [ν] at Y
 refine ⟨_,ϱ,l,e,_,ϱ,hl,eN θ,l,p,_,ϱ,ls,by rw [ν];exact hz,⟨x,eL x X⟩,λw0 H1 s1 hw=>?_⟩
 have m:=s1 _ _ hl
 have Z:=s1 _ _ hp
 refine ⟨_,ϱ,l,CL,e,_,_,ϱ,m,L.cl,L.nP,cb,p,ϱ,⟨_,SqL.of Z⟩,?_⟩
 refine cA (xs:=vs) (λi b H'=>Same H1 H'/\b=[]) ⟨Same.refl _,ϱ⟩ (small ω) (λi b j _ g=>SqL.of (g.1 _ _ Z)) ?_ ?_
 ·rintro i u b j hu ⟨I,rfl⟩
  obtain ⟨y0,ey,ry⟩:=pr.get hu
  rw [List.getElem?_map] at ey
  obtain ⟨y,ey,rfl⟩:=Option.map_eq_some_iff.mp ey
  obtain ⟨a,pu,lu,rfl,ta,cp,lo⟩:=ry.keep L.ne (eQ (s1.trans I))
  refine ⟨_,ϱ,a,_,_,_,ϱ,ϱ,ta.sq,ϱ,_,ϱ,x,x,cp,cPa.keep (s1.trans I).ts hx,_,ϱ,?_⟩
  rw [τ rfl]
  exact aL ⟨I,ϱ⟩
 rintro b j ⟨I,rfl⟩ d W
 have a0:=s1.trans I
 have np:l≠d:=ap (I _ _ m) W
 refine ⟨_,ϱ,l,CL,e,_,ϱ,(by rw [am np];exact I _ _ m),L.cl,L.nP,(by show 1<1000;decide),?_⟩
 rw [AG]
 have a1:Kp l j (upd (upd j d (.lst [])) l (.ins CL e [("pairs",.ref d)])):=(Kp.of (ag W)).trans cm
 have D:(upd (upd j d (.lst [])) l (.ins CL e [("pairs",.ref d)])) l=some (.ins CL e [("pairs",.ref d)]):=ae
 have J:(upd (upd j d (.lst [])) l (.ins CL e [("pairs",.ref d)])) d=some (.lst []):=by rw [am (Ne.symm np),ae]
 have ab:w0≠l:=λz=>by rw [z,m] at hw;cases hw
 have O:=a1 w0 _ ab (I _ _ hw)
 have G:=(Kp.of (p:=l) a0).trans a1
 have ak:H d=none:=a0.free W
 generalize (upd (upd j d (.lst [])) l (HO.ins CL e [("pairs",V.ref d)]))=H3 at D J O G ⊢
 refine ⟨_,ϱ,l,e,_,ϱ,D,eN θ,l,d,[],ϱ,⟨e,[],D,J,.nil⟩,(by show 0<=1000;decide),⟨x,λ_ h=>nomatch h⟩,λw1 H4 s4 a5=>⟨w1,ϱ,⟨_,SqL.of a5⟩,?_⟩⟩
 refine cA (xs:=[]) (λi b H'=>Same H4 H'/\b=[]) ⟨Same.refl _,ϱ⟩ (ϖ _) (λi b j _ g=>SqL.of (g.1 _ _ a5)) (λi u b j hu=>by cases hu) ?_
 rintro b H5 ⟨s5,rfl⟩ st aR
 have a2:=s4.trans (s5.trans (ag (o:=.lst []) aR))
 refine ⟨_,ϱ,w0,ϱ,⟨_,SqL.of (a2 _ _ O)⟩,?_⟩
 refine cA (xs:=[]) (λi b H'=>Same H3 H'/\b=[]) ⟨a2,ϱ⟩ (ϖ _) (λi b j _ g=>SqL.of (g.1 _ _ O)) (λi u b j hu=>by cases hu) ?_
 rintro b H7 ⟨s7,rfl⟩ z aS
 have U:=s7.trans (ag (o:=.lst []) aS)
 exact q z d e _ (U _ _ D) (U _ _ J) ak (G.trans (Kp.of U)) ae
structure Rd where
 (r:Addr)(hs:V)(due:List Lk)(ch:List Pa)
structure Sx where
 (cells:List Int)(wk:Bool)(rd:Option Rd)(en:Option Str)
def dOf(p:Pa):Option Addr->List (List Key×V)
 | none=>[]
 | some a=>[(pk p,.ref a)]
theorem cV(p:Pa)(x:Option Addr):bu (dOf p x) (pk p)=x.map V.ref:=by
 cases x with
 | none=>rfl
 | some a=>exact br rfl
def dWk(p:Pa):Bool->List (List Key×V)
 | true=>[(pk p,.bl true)]
 | false=>[]
theorem kE(k:List Key)(v:V):ce [] k v=[(k,v)]:=pJ _ rfl
theorem yd(p:Pa)(b:Bool):ce (dWk p b) (pk p) (.bl true)=dWk p true:=by
 cases b with
 | false=>exact kE _ _
 | true=>exact Ae [p] p |>.trans (by unfold A8;rw [if_pos List.mem_cons_self];rfl)
def dEn(p:Pa)(o:Option Str):List (List Key×V):=dE (o.toList.map λs=>(p,s))
theorem xy(p:Pa)(o:Option Str):bu (dEn p o) (pk p)=o.map V.str:=by
 cases o with
 | none=>rfl
 | some a=>exact br rfl
def stL(p:Pa)(A:Ad)(d:Sx):Cs:=[(A.cl,.lst (d.cells.map V.int)),(A.wk,.dT (dWk p d.wk)),(A.rd,.dT (dOf p (d.rd.map Rd.r))),(A.en,.dT (dEn p d.en))]
def LtT(K:Frag)(H:Hp)(ks:List Lk)(v:V):Prop:=∃t us,v=.ref t/\H t=some (.tup us)/\Paired (cLk.rp K H) ks us
theorem LtT.keep{H H':Hp}{b:List Lk}{v:V}(e:TSame H H')(h:LtT K H b v):LtT K H' b v:=by
 obtain ⟨t,d,rfl,h1,f⟩:=h
 exact ⟨t,d,ϱ,e _ _ h1,pp f λ_ _ z=>cLk.keep e z⟩
def PaA(H:Hp)(p:Pa)(a:Addr):Prop:=H a=some (.tup [.int p.1,.int p.2])
def RdAt(K:Frag)(H:Hp)(p:Pa)(x:Rd):Prop:=∃pa lv dv us,H x.r=some (.tup [.str "ready",.ref pa,x.hs,lv,.ref dv])/\PaA H p pa/\LtT K H x.due lv/\TF H dv us/\Paired (sPa K H) x.ch us
theorem RdAt.keep{H H':Hp}{p:Pa}{x:Rd}(e:ImS CH CL H H')(h:RdAt K H p x):RdAt K H' p x:=by
 obtain ⟨b,d,f,g,h1,i,j,⟨o,l,od⟩,m⟩:=h
 exact ⟨b,d,f,g,e _ _ h1 ϰ,e _ _ i ϰ,j.keep e.ts,⟨o,e _ _ l ϰ,od⟩,Paired.mapP m λ_ _ z=>z.keep e.ts⟩
def ChT(K:Frag)(H:Hp)(ch:List Pa)(v:V):Prop:=∃d us,v=.ref d/\(H d=some (.tup us)\/∃o,H d=some (.frz o (.tup us)))/\Paired (sPa K H) ch us
structure Si(CS:Addr)(K:Frag)(H:Hp)(p:Pa)(A:Ad)(d:Sx):Prop where
 ins:H A.l=some (.ins CS A.dx (sf A))
 rd:∀x,d.rd=some x->RdAt K H p x
structure Sa(CS:Addr)(K:Frag)(H:Hp)(p:Pa)(A:Ad)(d:Sx):Prop extends Si CS K H p A d where
 co:∀x∈stL p A d,H x.1=some x.2
theorem zn(A:Ad):sf A≠[]:=λz=>by
 have:=rX A
 rw [z] at this
 cases this
section
variable {N:List Addr}{H0 H H':Hp}{L R:Cs}{p:Pa}{A:Ad}{d:Sx}{x y z:Addr×HO}
theorem Si.im(h:Si CS K H p A d)(t:∀b o,H b=some o->Im CH CL o->H' b=some o)(c:CS≠CH/\CS≠CL):Si CS K H' p A d :=
 ⟨t _ _ h.ins ⟨zn A,c⟩,λx e=>(h.rd x e).keep t⟩
theorem Si.keep(h:Si CS K H p A d)(e:Same H H'):Si CS K H' p A d:=⟨e _ _ h.ins,λx q=>(h.rd x q).keep (CH:=CS) (CL:=CS) (cK e)⟩
theorem Sa.keep(h:Sa CS K H p A d)(e:Same H H'):Sa CS K H' p A d:=⟨h.toSi.keep e,λx hx=>e _ _ (h.co x hx)⟩
theorem Sa.cl(h:Sa CS K H p A d):H A.cl=some (.lst (d.cells.map V.int)):=h.co _ j0
theorem Sa.rdd(h:Sa CS K H p A d):H A.rd=some (.dT (dOf p (d.rd.map Rd.r))):=h.co _ j2
theorem Sa.en(h:Sa CS K H p A d):H A.en=some (.dT (dEn p d.en)):=h.co _ j3
theorem zw(g:Ow CH CL N H0 H (x::y::z::(stL p A d++R)))(i:Si CS K H p A d):Sa CS K H p A d:=⟨i,λu hu=>g.co u (.tail _ (.tail _ (.tail _ (List.mem_append_left _ hu))))⟩
theorem An(g:Ow CH CL N H0 H (stL p A d++R))(i:Si CS K H p A d):Sa CS K H p A d:=⟨i,λu hu=>g.co u (List.mem_append_left _ hu)⟩
end
inductive Rx where
 | work | ready (x:Rd) | fin (o:Str)
def RxAt(K:Frag)(H:Hp)(p:Pa)(r:Addr):Rx->Prop
 | .work=>∃pa,H r=some (.tup [.str "work",.ref pa])/\PaA H p pa
 | .ready x=>x.r=r/\RdAt K H p x
 | .fin o=>∃pa e,H r=some (.tup [.str "end",.ref pa,.str o,e])/\PaA H p pa
theorem RxAt.keep{H H':Hp}{p:Pa}{r:Addr}{w:Rx}(e:ImS CH CL H H')(h:RxAt K H p r w):RxAt K H' p r w:=by
 cases w with
 | work=>obtain ⟨b,h1,d⟩:=h;exact ⟨b,e _ _ h1 ϰ,e _ _ d ϰ⟩
 | ready x=>exact ⟨h.1,h.2.keep e⟩
 | fin o=>obtain ⟨b,v,h1,d⟩:=h;exact ⟨b,v,e _ _ h1 ϰ,e _ _ d ϰ⟩
def Sx.chs(d:Sx):Rx->List Pa
 | .fin o=>if o="done" then (d.rd.map Rd.ch).getD [] else []
 | _=>[]
def Sx.kp(d:Sx):Rx->Sx
 | .work=>⟨d.cells,true,d.rd,d.en⟩
 | .ready x=>⟨d.cells,d.wk,some x,d.en⟩
 | .fin o=>⟨apply d.cells (d.chs (.fin o)),d.wk,d.rd,some o⟩
def Sx.fits(d:Sx)(w:Rx):Prop:=(∀c∈d.chs w,0<=c.1/\c.1<d.cells.length)/\(∀x,w=.ready x->d.rd=none)/\∀o,w=.fin o->d.en=none
theorem Si.row{H:Hp}{p:Pa}{A:Ad}{d:Sx}{r:Addr}{w:Rx}(h:Si CS K H p A d)(e:RxAt K H p r w):Si CS K H p A (d.kp w):=by
 cases w with
 | ready x=>exact ⟨h.ins,λy z=>by cases z;exact e.2⟩
 | work=>exact ⟨h.ins,h.rd⟩
 | fin o=>exact ⟨h.ins,h.rd⟩
def bnd(d:Sx):List V:=match d.en with | none=>(d.rd.map λx=>V.ref x.r).toList | some _=>[]
def Nw(H:Hp)(d:Sx)(v:V):Prop:=∃t,v=.ref t/\(d.en=none->H t=some (.tup []))
section
variable (CS CH CL:Addr)(K:Frag)
inductive nX (vs:List V) (H:Hp) (Q:VK) (E:XK):Prop|mk l dx c cs:vs=[.ref l,.ref c]->H l=some (.ins CS dx [])->H c=some (.lst ((cs:List Int).map V.int))->(∀A H',A.l=l->H' l=some (.ins CS A.dx (sf A))->(∀p,Ow CH CL [l] H H' (stL p A ⟨cs,false,none,none⟩))->Q .non H')->nX vs H Q E
inductive uW (vs:List V) (H:Hp) (Q:VK) (E:XK):Prop|mk p A d r w:vs=[.ref A.l,.ref r]->Sa CS K H p A d->RxAt K H p r w->(∀v H',Same H H'->ChT K H' (d.chs w) v->Q v H')->uW vs H Q E
inductive qE (vs:List V) (H:Hp) (Q:VK) (E:XK):Prop|mk p A d r w x y z R:vs=[.ref A.l,.ref r]->Ow CH CL (ad (x::y::z::(stL p A d++R))) H H (x::y::z::(stL p A d++R))->Si CS K H p A d->RxAt K H p r w->d.fits w->(∀H',Ow CH CL (ad (x::y::z::(stL p A d++R))) H H' (x::y::z::(stL p A (d.kp w)++R))->Q .non H')->qE vs H Q E
inductive iL (vs:List V) (H:Hp) (Q:VK) (E:XK):Prop|mk A j c:∀(cs:List Int),vs=[.ref A.l,.int (j:Nat)]->H A.l=some (.ins CS A.dx (sf A))->H A.cl=some (.lst (cs.map V.int))->cs[j]?=some c->Q (.int c) H->iL vs H Q E
inductive kA (vs:List V) (H:Hp) (Q:VK) (E:XK):Prop|mk p A d:vs=[.ref A.l]->Sa CS K H p A d->(∀q H',Same H H'->H' q=some (.lst (d.cells.map V.int))->Q (.ref q) H')->kA vs H Q E
inductive n9 (vs:List V) (H:Hp) (Q:VK) (E:XK):Prop|mk p A d:vs=[.ref A.l]->Sa CS K H p A d->(∀v H',Same H H'->Nw H' d v->Q v H')->n9 vs H Q E
inductive kC (vs:List V) (H:Hp) (Q:VK) (E:XK):Prop|mk p A d:vs=[.ref A.l]->Sa CS K H p A d->(∀l H',Same H H'->H l=none->H' l=some (.lst (bnd d))->Q (.ref l) H')->kC vs H Q E
end
theorem fT{X:Cx}{st:List Stmt}{t u:TS}(h:PSs X st t)(hw:∀D σ H,u D σ H->t D σ H):PSs X st u:=lA u h hw
theorem tK(F:Fun K "__init__" "Stand.__init__" f9 f fd)(B:TxB mg)(D:TxD K CS):FnOk P w K mg base CX0 1 f fd ["self","cells"] (nX CS CH CL):=by
 refine F.ok mr (λvs H Q E h=>?_) (λak A i s H vs Q E hr h=>?_)
 ·obtain ⟨l,b,c,o,rfl,_⟩:=h
  rfl
 obtain ⟨l,b,c,o,rfl,y,C,q⟩:=h
 refine ⟨_,ah (aT (pv 0) (aP dQ rfl B.list PyProof.Rows.boot_list (ac (pv 1) af)) rfl)
  (ah (aT (pv 0) (bf af) rfl) (ah (aT (pv 0) cZ rfl) (ah (aT (pv 0) cZ rfl) (ah (aT (pv 0) cZ rfl) (ah (aT (pv 0) cZ rfl) (ai (aT (pv 0) cZ rfl))))))),?_⟩
 have g0:Ow CH CL [l] H H [(l,.ins CS b [])]:=.mk0 (L:=[(l,.ins CS b [])]) (λx j=>by rw [List.mem_singleton.mp j];exact y) (by simp [ad]) (λx j=>by rw [List.mem_singleton.mp j];exact λz=>z.1 rfl)
 refine ⟨_,ϱ,c,_,ϱ,.inl (SqL.of C),λcl n1=>?_⟩
 obtain ⟨G,g1⟩:=g0.fld n1 (.lst (o.map V.int)) (ay "cells" (.ref cl) [])
 refine ⟨_,ϱ,l,CS,b,_,ϱ,G,D.cl,D.nc,(by show 0<1000;decide),χ,λd n2=>?_⟩
 obtain ⟨I,J⟩:=g1.fld n2 (.lst []) (ay "begins" (.ref d) (ay "cells" (.ref cl) []))
 refine ⟨_,ϱ,l,CS,b,_,ϱ,I,D.cl,D.nb,(bj (n:=999) (by show 0<999;decide)),λe n3=>?_⟩
 obtain ⟨O,U⟩:=J.fld n3 (.dT []) (ay "worked" (.ref e) (ay "begins" (.ref d) (ay "cells" (.ref cl) [])))
 refine ⟨_,ϱ,l,CS,b,_,ϱ,O,D.cl,D.nw,(bj (n:=999) (bj (n:=998) (by show 0<998;decide))),λg n4=>?_⟩
 obtain ⟨W,X⟩:=U.fld n4 (.dT []) (ay "readies" (.ref g) (ay "worked" (.ref e) (ay "begins" (.ref d) (ay "cells" (.ref cl) []))))
 refine ⟨_,ϱ,l,CS,b,_,ϱ,W,D.cl,D.nr,(bj (n:=999) (bj (n:=998) (bj (n:=997) (by show 0<997;decide)))),λen n5=>?_⟩
 obtain ⟨Y,Z⟩:=X.fld n5 (.dT []) (ay "ends" (.ref en) (ay "readies" (.ref g) (ay "worked" (.ref e) (ay "begins" (.ref d) (ay "cells" (.ref cl) [])))))
 refine ⟨_,ϱ,l,CS,b,_,ϱ,Y,D.cl,D.ne,(bj (n:=999) (bj (n:=998) (bj (n:=997) (bj (n:=996) (by show 0<996;decide))))),λm n6=>?_⟩
 obtain ⟨a6,g6⟩:=Z.fld n6 (.dT []) (ay "walks" (.ref m) (ay "ends" (.ref en) (ay "readies" (.ref g) (ay "worked" (.ref e) (ay "begins" (.ref d) (ay "cells" (.ref cl) []))))))
 refine ⟨_,ϱ,l,CS,b,_,ϱ,a6,D.cl,D.na,(bj (n:=999) (bj (n:=998) (bj (n:=997) (bj (n:=996) (bj (n:=995) (by show 0<995;decide)))))),λu n7=>?_⟩
 obtain ⟨a7,r⟩:=g6.fld n7 (.dT []) (sf ⟨l,b,cl,d,e,g,en,m,u⟩)
 refine ⟨_,ϱ,l,CS,b,_,ϱ,a7,D.cl,D.no,(bj (n:=999) (bj (n:=998) (bj (n:=997) (bj (n:=996) (bj (n:=995) (bj (n:=994) (by show 0<994;decide))))))),?_⟩
 exact q ⟨l,b,cl,d,e,g,en,m,u⟩ _ rfl (r.co _ (.head _)) λp=>r.sub (.cons _ (.cons₂ _ (.cons _ (.cons₂ _ (.cons₂ _ (.cons₂ _ (.cons _ (.cons _ .slnil))))))))
theorem d8{a b:Str}(h:decide (a=b)=false):decide (V.str a=V.str b)=false:=Γ λz=>of_decide_eq_false h (V.str.inj z)
theorem Az(F:Fun K "changes_of" "Stand.changes_of" cC f fd)(D:TxD K CS):FnOk P w K mg base CX0 1 f fd ["self","row"] (uW CS K):=by
 refine F.ok h9 (λvs H Q E h=>?_) (λa1 A G s H vs Q E O h=>?_)
 ·obtain ⟨p,A,d,r,w,rfl,_⟩:=h
  rfl
 obtain ⟨p,S,d,r,w,rfl,m,C,q⟩:=h
 refine ⟨_,ah (aG (PW.pt (gN (ax bJ (az (r:=ba K) aC (pv 1) aj (λ_ _=>rfl)) aB (aw _)) (gN (ax bJ (az (r:=ba K) aC (pv 1) aj (λ_ _=>rfl)) aB (aw _)) (iU (gO (oK (cu O) (az (r:=ba K) aC (pv 1) aj (λ_ _=>rfl)) (aq (pv 0) rfl)))))))
   (ai (au (az (r:=ba K) aC (fV (cu O) (aq (pv 0) rfl) (az (r:=ba K) aC (pv 1) aj (λ_ _=>rfl)) (λ_ _=>rfl)) aj (λ_ _=>rfl)))) aA)
  (fT (u:=λD σ I=>∃i z,σ=[some (.ref S.l),some (.ref r)]/\I r=some (.tup (.str z::i))/\decide (z=("walked":Str))=false/\decide (z=("undone":Str))=false/\∀v H2,Same I H2->ChT K H2 [] v->D.rt v H2) (ah (aG (PW.pt (io (ax bJ (az (r:=ba K) aC (pv 1) aj (λ_ _=>rfl)) aB (aw _)) (fQ (ax bJ (az (r:=ba K) aC (pv 1) aj (λ_ _=>rfl)) aB (aw _))))) aD aA)
  (ai (au (aI af)))) ?v),?_⟩
 case v =>
  rintro D σ I ⟨i,z,rfl,j,w1,w2,q⟩
  refine ⟨_,ϱ,r,_,_,_,ϱ,ϱ,SqT.of j,at0,ϱ,_,ϱ,?_⟩
  rw [d8 w1]
  refine aL ⟨_,ϱ,r,_,_,_,ϱ,ϱ,SqT.of j,at0,ϱ,_,ϱ,?_⟩
  rw [d8 w2]
  exact aL ⟨χ,λt ht=>q _ _ (ag ht) ⟨t,[],ϱ,.inl ae,.nil⟩⟩
 cases w with
 | work =>
  obtain ⟨J,b,g⟩:=C
  refine ⟨_,ϱ,r,_,_,_,ϱ,ϱ,SqT.of b,at0,ϱ,_,ϱ,?_⟩
  rw [d8 θ]
  exact aL (aL ⟨_,_,ϱ,b,θ,θ,q⟩)
 | ready x =>
  obtain ⟨rfl,J,U,L,i,b,_⟩:=C
  refine ⟨_,ϱ,x.r,_,_,_,ϱ,ϱ,SqT.of b,at0,ϱ,_,ϱ,?_⟩
  rw [d8 θ]
  exact aL (aL ⟨_,_,ϱ,b,θ,θ,q⟩)
 | fin o =>
  obtain ⟨J,e,b,g⟩:=C
  refine ⟨_,ϱ,r,_,_,_,ϱ,ϱ,SqT.of b,at0,ϱ,_,ϱ,bx (λ_=>?_) (λc=>absurd (τ rfl) c)⟩
  refine ⟨_,ϱ,r,_,_,_,ϱ,ϱ,SqT.of b,at2,ϱ,_,ϱ,?_⟩
  by_cases eo:o="done"
  ·have ec:d.chs (.fin o)=(d.rd.map Rd.ch).getD []:=if_pos eo
   rw [ec] at q
   refine bx (λ_=>?_) (λc=>absurd (τ (congrArg V.str eo)) c)
   have y:=DGet.t (k:=pk p) m.rdd g
   refine ⟨_,ϱ,r,_,_,_,ϱ,ϱ,SqT.of b,at1,_,ϱ,S.l,CS,S.dx,_,_,ϱ,m.ins,D.cl,D.nr,pE S,S.rd,_,ϱ,y,_,ϱ,?_⟩
   rw [cV] at y ⊢
   cases er:d.rd with
   | some x =>
    rw [er] at y q
    obtain ⟨W,U,L,i,h1,_,_,⟨X,Y,_⟩,Z⟩:=m.rd x er
    exact cj ⟨_,ϱ,S.l,CS,S.dx,_,_,ϱ,m.ins,D.cl,D.nr,pE S,_,ϱ,r,_,_,_,ϱ,ϱ,SqT.of b,at1,S.rd,.ref x.r,ϱ,y,x.r,_,_,_,ϱ,ϱ,SqT.of h1,ϱ,q _ H (Same.refl H) ⟨L,i,ϱ,.inr ⟨X,Y⟩,Z⟩⟩
   | none =>
    rw [er] at q
    exact aL ⟨_,_,ϱ,b,θ,θ,q⟩
  ·rw [show d.chs (.fin o)=[] from if_neg eo] at q
   exact bx (λc=>absurd (V.str.inj (Ξ c)) eo) (λ_=>aL ⟨_,_,ϱ,b,θ,θ,q⟩)
theorem yB(F:Fun K "keep" "Stand.keep" f8 f fd)(D:TxD K CS)(hc:CS≠CH/\CS≠CL)(GC:GM P w K mg base CX0 1 CS "changes_of" ["self","row"] (uW CS K)):FnOk P w K mg base CX0 2 f fd ["self","row"] (qE CS CH CL K):=by
 refine F.ok sc_Stand_keep (λvs H Q E h=>?_) (λbm A a7 s H vs Q E hr h=>?_)
 ·obtain ⟨p,A,d,r,w,x,y,z,R,rfl,_⟩:=h
  rfl
 obtain ⟨p,S,d,r,w,x,y,z,R,rfl,g,Y,Z,⟨I,J,L⟩,q⟩:=h
 have nd:=sc_Stand_keep.nd
 refine ⟨_,ah (gP PassesOwn.never rfl (oJ (pm GC (pv 0) D.cl hr (ac (pv 1) af))) (ci (i:=2) nd rfl (Or.inl rfl)) (ai (qN (az (r:=ba K) aC (pv 2) aj (λ_ _=>rfl)) (vp (aq (pv 0) rfl) (az (r:=ba K) aC (pv 2) aj (λ_ _=>rfl)) pF))))
  (ah (aH (i:=3) nd rfl (Or.inl rfl) (az (r:=ba K) aC (pv 1) aj (λ_ _=>rfl)))
  (ai (aG (ax bJ (az (r:=ba K) aC (pv 1) aj (λ_ _=>rfl)) aB (aw _)) aD
  (ai (aG (ax bJ (az (r:=ba K) aC (pv 1) aj (λ_ _=>rfl)) aB (aw _)) (ai (fU (cu hr) (aq (pv 0) rfl) (pv 3) pN rfl))
  (ai (aG (ax bJ (az (r:=ba K) aC (pv 1) aj (λ_ _=>rfl)) aB (aw _)) (ai (fU (cu hr) (aq (pv 0) rfl) (pv 3) (pv 1) rfl))
  (ai (aG (ax bJ (az (r:=ba K) aC (pv 1) aj (λ_ _=>rfl)) aB (aw _)) (ai (aV (sj (cu hr) (aq (pv 0) rfl) (pv 3) (az (r:=ba K) aC (pv 1) aj (λ_ _=>rfl)) ⟨ϱ,ϱ,ϱ,ϱ⟩)))
  aD))))))))),?_⟩
 refine ⟨_,ϱ,S.l,S.dx,_,ϱ,Y.ins,iN θ,_,ϱ,p,S,d,r,w,ϱ,zw g Y,Z,λv H1 s1 a8=>?_⟩
 obtain ⟨dc,O,rfl,a3,U⟩:=a8
 have sq:∀{G},ImS CH CL H1 G->SqT K G dc O:=λe=>a3.elim (λz=>SqT.of (e _ _ z ϰ)) λ⟨o,z⟩=>.inl (.inr ⟨o,e _ _ z ϰ⟩)
 refine ⟨dc,ϱ,⟨_,sq (cK (Same.refl _))⟩,?_⟩
 have X:=U.len
 have g1:=g.same s1
 refine oT (xs:=O) (λi σ G=>∃x2 x3,σ=[some (.ref S.l),some (.ref r),x2,x3]/\Ow CH CL (ad (x::y::z::(stL p S d++R))) H G (x::y::z::(stL p S ⟨apply d.cells ((d.chs w).take i),d.wk,d.rd,d.en⟩++R))/\ImS CH CL H1 G) ⟨none,none,ϱ,g1,cK (Same.refl _)⟩
  (λi σ G _ q=>by obtain ⟨_,_,_,_,k⟩:=q;exact sq k) ?_ ?_
 ·rintro i u σ H2 hu ⟨x2,x3,rfl,j,t2⟩
  obtain ⟨c,ec,rc⟩:=U.get hu
  obtain ⟨ca,rfl,W⟩:=rc.keep t2.ts
  obtain ⟨f1,f2⟩:=I c (List.mem_of_getElem? ec)
  have a5:((apply d.cells ((d.chs w).take i)).map V.int).length=d.cells.length:=by rw [ν,nD]
  refine ⟨_,ϱ,ca,_,_,_,ϱ,ϱ,SqT.of W,ϱ,_,ϱ,S.l,CS,S.dx,_,_,ϱ,(Y.im j.im hc).ins,D.cl,D.nc,rX S,_,ϱ,ca,_,_,_,ϱ,ϱ,SqT.of W,ϱ,S.cl,_,c.1,c.1.toNat,ϱ,ϱ,j.co _ j3,?_,?_⟩
  ·rw [a5]
   exact wG f1 f2
  ·have e:(d.chs w).take (i+1)=(d.chs w).take i++[c]:=by rw [List.take_succ,ec];rfl
   have e3:((apply d.cells ((d.chs w).take i)).map V.int).set c.1.toNat (.int c.2)=(apply d.cells ((d.chs w).take (i+1))).map V.int:=by rw [e,mi,List.map_set]
   rw [e3]
   have g3:=j.up 3 (.lst ((apply d.cells ((d.chs w).take (i+1))).map V.int)) rfl
   have e4:H2 S.cl=some (.lst _):=j.co _ j3
   exact ⟨_,_,ϱ,g3,t2.trans (gZ cm e4 id)⟩
 ·rintro σ H2 ⟨x2,x3,rfl,j,t2⟩
  rw [← X,List.take_length] at j
  have C:=Y.im j.im hc
  cases w with
  | work =>
   obtain ⟨pa,b,m⟩:=Z.keep j.im
   refine ⟨_,ϱ,r,_,_,_,ϱ,ϱ,SqT.of b,at1,_,ϱ,r,_,_,_,ϱ,ϱ,SqT.of b,at0,ϱ,_,ϱ,?_⟩
   rw [d8 θ]
   refine aL ⟨_,ϱ,r,_,_,_,ϱ,ϱ,SqT.of b,at0,ϱ,_,ϱ,bx (λ_=>?_) (λc=>absurd (τ rfl) c)⟩
   refine ⟨_,ϱ,S.l,CS,S.dx,_,_,ϱ,C.ins,D.cl,D.nw,BC S,_,ϱ,S.wk,_,ϱ,DPut.t (k:=pk p) (j.co _ j4) m (dR (by cases d.wk<;>exact Nat.le_of_ble_eq_true rfl)),?_⟩
   rw [yd]
   exact q _ (j.up 4 _ rfl)
  | ready x =>
   obtain ⟨rfl,pa,lv,dv,us,b,m,_⟩:=Z.keep j.im
   have er:=J x rfl
   refine ⟨_,ϱ,x.r,_,_,_,ϱ,ϱ,SqT.of b,at1,_,ϱ,x.r,_,_,_,ϱ,ϱ,SqT.of b,at0,ϱ,_,ϱ,?_⟩
   rw [d8 θ]
   refine aL ⟨_,ϱ,x.r,_,_,_,ϱ,ϱ,SqT.of b,at0,ϱ,_,ϱ,?_⟩
   rw [d8 θ]
   refine aL ⟨_,ϱ,x.r,_,_,_,ϱ,ϱ,SqT.of b,at0,ϱ,_,ϱ,bx (λ_=>?_) (λc=>absurd (τ rfl) c)⟩
   have hd:H2 S.rd=some (.dT []):=by have:=j.co _ j5;rw [er] at this;exact this
   refine ⟨_,ϱ,_,ϱ,S.l,CS,S.dx,_,_,ϱ,C.ins,D.cl,D.nr,pE S,_,ϱ,S.rd,_,ϱ,DPut.t (k:=pk p) hd m ζ,?_⟩
   rw [kE]
   exact q _ (j.up 5 _ rfl)
  | fin o =>
   obtain ⟨pa,e,b,m⟩:=Z.keep j.im
   have er:=L o rfl
   refine ⟨_,ϱ,r,_,_,_,ϱ,ϱ,SqT.of b,at1,_,ϱ,r,_,_,_,ϱ,ϱ,SqT.of b,at0,ϱ,_,ϱ,?_⟩
   rw [d8 θ]
   refine aL ⟨_,ϱ,r,_,_,_,ϱ,ϱ,SqT.of b,at0,ϱ,_,ϱ,?_⟩
   rw [d8 θ]
   refine aL ⟨_,ϱ,r,_,_,_,ϱ,ϱ,SqT.of b,at0,ϱ,_,ϱ,?_⟩
   rw [d8 θ]
   refine aL ⟨_,ϱ,r,_,_,_,ϱ,ϱ,SqT.of b,at0,ϱ,_,ϱ,bx (λ_=>?_) (λc=>absurd (τ rfl) c)⟩
   have hd:H2 S.en=some (.dT []):=by have:=j.co _ j6;rw [er] at this;exact this
   exact ⟨_,ϱ,S.l,CS,S.dx,_,_,ϱ,C.ins,D.cl,D.ne,u5 S,S.en,ϱ,.inr ⟨_,.inl hd⟩,_,ϱ,_,ϱ,r,_,_,_,ϱ,ϱ,SqT.of b,at2,_,pk p,pa,hd,ϱ,m,ζ,(λv hv=>by cases hv),λ_=>q _ (j.up 6 _ rfl)⟩
theorem tO(F:Fun K "cell_at" "Stand.cell_at" du f fd)(D:TxD K CS):FnOk P w K mg base CX0 1 f fd ["self","cell"] (iL CS):=by
 refine F.ok jn (λvs H Q E h=>?_) (λm A b s H vs Q E o h=>?_)
 ·obtain ⟨A,j,c,d,rfl,_⟩:=h
  rfl
 obtain ⟨S,j,c,d,rfl,e,g,i,q⟩:=h
 refine ⟨_,ai (au (az (r:=bK K) aE (aq (pv 0) rfl) (pv 1) (λ_ _=>rfl))),?_⟩
 exact ⟨_,ϱ,S.l,CS,S.dx,_,_,ϱ,e,D.cl,D.nc,rX S,_,ϱ,S.cl,_,_,.int c,ϱ,ϱ,SqL.of g,bb (by rw [List.getElem?_map,i];rfl),q⟩
theorem wq(F:Fun K "cells_told" "Stand.cells_told" cD f fd)(B:TxB mg)(D:TxD K CS):FnOk P w K mg base CX0 1 f fd ["self"] (kA CS K):=by
 refine F.ok ie (λvs H Q E h=>?_) (λg A b s H vs Q E j h=>?_)
 ·obtain ⟨p,A,d,rfl,_⟩:=h
  rfl
 obtain ⟨p,S,d,rfl,e,q⟩:=h
 refine ⟨_,ai (au (aP dQ rfl B.list PyProof.Rows.boot_list (ac (aq (pv 0) rfl) af))),?_⟩
 exact ⟨_,ϱ,S.l,CS,S.dx,_,_,ϱ,e.ins,D.cl,D.nc,rX S,S.cl,_,ϱ,.inl (SqL.of e.cl),λp i=>q p _ (ag i) ae⟩
theorem yu(F:Fun K "news" "Stand.news" f7 f fd)(B:TxB mg)(D:TxD K CS):FnOk P w K mg base CX0 1 f fd ["self"] (n9 CS K):=by
 refine F.ok mq (λvs H Q E h=>?_) (λr A g s H vs Q E u h=>?_)
 ·obtain ⟨p,A,d,rfl,_⟩:=h
  rfl
 obtain ⟨p,S,d,rfl,b,q⟩:=h
 refine ⟨_,ai (au (aP cw rfl B.tuple PyProof.Rows.boot_tuple (ac (aK (o8 rfl (hun (c:=3) u)) rfl B.sorted PyProof.Rows.boot_sorted (ac (vv (aq (pv 0) rfl)) af)) af))),?_⟩
 refine ⟨_,ϱ,S.l,CS,S.dx,_,_,ϱ,b.ins,D.cl,D.ne,u5 S,S.en,_,ϱ,b.en,λv x=>?_⟩
 have i:=ag (o:=Vw v S.en) x
 refine ⟨v,S.en,_,ϱ,ae,i _ _ b.en,by cases d.en<;>exact Nat.le_of_ble_eq_true rfl,λl j y z=>?_⟩
 have m:=ag (o:=.lst j) y
 refine ⟨l,j,ϱ,.inl ⟨SqL.of ae,λt C=>q _ _ (i.trans (m.trans (ag C))) ⟨t,ϱ,λe=>?_⟩⟩⟩
 rw [z (by rw [e];rfl)]
 exact ae
theorem sY{H H1:Hp}{D:Addr}{o:Obj}{f:List (List Key×V)}{p:Addr}{o2:HO}(l:H D=some (.dT f))(s1:Same (upd H D (Fz D o)) H1)(g:H1 p=none) :
  Same H (upd (upd H1 p o2) D (.dT f))/\(upd (upd H1 p o2) D (.dT f)) p=some o2/\(upd H1 p o2) D=some (Fz D o)/\H p=none:=by
 have h:H1 D=some (Fz D o):=s1 _ _ ae
 have d:p≠D:=Ne.symm (ap h g)
 refine ⟨λb j e=>?_,by rw [am d];exact ae,by rw [am (Ne.symm d)];exact h,?_⟩
 ·by_cases hb:b=D
  ·subst hb
   rw [ae,← e,l]
  ·rw [am hb]
   have i:H1 b=some j:=s1 _ _ (by rw [am hb];exact e)
   rw [am (ap i g)]
   exact i
 ·cases e:H p with
  | none=>rfl
  | some u =>
   have:=s1 p u (by rw [am d];exact e)
   rw [g] at this
   cases this
theorem tI{X:Cx}{o i:Expr}{pos:Pos}{b d:TE}(P:Program)(w:World)(e:X.A.units+1<cLine)(f:PE X o b)(g:PE X i d)(h:zf i)(j:X.prog=P:=by rfl)(hw:X.w=w:=by rfl):PE X (.Subscript o i pos) (uL P w b d):=by
 subst j hw
 exact vx e f g h
theorem wr(F:Fun K "bound" "Stand.bound" cr f fd)(D:TxD K CS):FnOk P w K mg base CX0 1 f fd ["self"] (kC CS K):=by
 refine F.ok kZ (λvs H Q E h=>?_) (λZ A L s H vs Q E y h=>?_)
 ·obtain ⟨p,S,d,rfl,_⟩:=h
  rfl
 obtain ⟨p,S,d,rfl,u,q⟩:=h
 refine ⟨_,ai (au (yf (cM jy rfl (ye (aq (pv 0) rfl)) (λ_ _ _ _=>fR (gO (hX (cu y) (pv 0) (pfK K 1)))) (λ_ _ _ _=>tI P w (cu y) (pfK K 1) (pv 0) (λ_ _=>rfl))))),?_⟩
 have g:=u.rdd
 refine ⟨_,ϱ,S.l,CS,S.dx,_,_,ϱ,u.ins,D.cl,D.nr,pE S,S.rd,_,ϱ,g,λo f=>?_⟩
 have m:(upd H S.rd (Fz S.rd o)) S.l=some (.ins CS S.dx (sf S)):=by rw [am (gs u.ins g (by intro z;cases z))];exact u.ins
 refine yO f (λi C H1=>Same (upd H S.rd (Fz S.rd o)) H1/\C=if i=0 then [] else bnd d) ⟨Same.refl _,ϱ⟩ (λi C H' _ z=>⟨z.1 _ _ ae,z.1.ts⟩) (λi e b C H' G O z=>?_) ?_
 ·obtain ⟨j,I⟩:=z
  cases er:d.rd with
  | none=>rw [er] at G;cases G
  | some x =>
   rw [er] at G f g
   have J:(upd H S.rd (Fz S.rd o)) S.en=some (.dT (dEn p d.en)):=by rw [am (gs u.en g (by intro z;cases eo:d.en<;>rw [eo] at z<;>cases z))];exact u.en
   cases i with
   | succ i=>cases G
   | zero =>
    cases G
    rw [if_pos rfl] at I
    subst I
    refine ⟨_,ϱ,_,ϱ,S.l,CS,S.dx,_,_,ϱ,j _ _ m,D.cl,D.ne,u5 S,S.en,_,ϱ,DGet.t (k:=pk p) (j _ _ J) O,_,ϱ,?_⟩
    rw [xy]
    cases eo:d.en with
    | none=>exact cj ⟨_,rfl,S.l,CS,S.dx,_,_,rfl,j _ _ m,D.cl,D.nr,pE S,_,rfl,S.rd,o,_,pk p,b,.ref x.r,rfl,rfl,j _ _ ae,f.keep j.ts,O,br rfl,j,by unfold bnd;rw [eo,er];rfl⟩
    | some e=>exact aL ⟨j,by unfold bnd;rw [eo];rfl⟩
 ·rintro C H1 ⟨j,I⟩ r y
  obtain ⟨U,W,X,Y⟩:=sY (o2:=.lst C) g j y
  refine ⟨S.rd,o,_,X,(f.keep j.ts).keep (ag y).ts,q r _ U Y ?_⟩
  rw [W,I]
  unfold bnd
  cases er:d.rd with
  | none=>cases d.en<;>rfl
  | some x=>rfl
def shL(CH S:Addr)(h:Ah)(rs:List Addr)(us:List V)(v:V):Cs:=[(h.l,.ins CH h.dx (hf S h v)),(h.rw,.lst (rs.map V.ref)),(h.sn,.lst us)]
def LtE(H:Hp)(x:Ws)(u:V):Prop:=∃t t2 e,u=.ref t/\H t=some (.tup [.int x.1,.ref t2])/\H t2=some (.tup [.str x.2.1,.ref x.2.2.1,.ref x.2.2.2,.ref e])/\H e=some (.tup [])
theorem LtE.keep{H H':Hp}{x:Ws}{u:V}(e:TSame H H')(h:LtE H x u):LtE H' x u:=by
 obtain ⟨t,b,v,rfl,h1,d,f⟩:=h
 exact ⟨t,b,v,ϱ,e _ _ h1,e _ _ d,e _ _ f⟩
theorem Nw.keep{H H':Hp}{d:Sx}{v:V}(e:TSame H H')(h:Nw H d v):Nw H' d v:=by
 obtain ⟨t,rfl,q⟩:=h
 exact ⟨t,ϱ,λz=>e _ _ (q z)⟩
section
variable (CS CH CL:Addr)(K:Frag)
inductive hJ (vs:List V) (H:Hp) (Q:VK) (E:XK):Prop|mk l dx S:vs=[.ref l,.ref S]->H l=some (.ins CH dx [])->(∀h H',h.l=l->Ow CH CL [l] H H' (shL CH S h [] [] .non)->Q .non H')->hJ vs H Q E
inductive kT (vs:List V) (H:Hp) (Q:VK) (E:XK):Prop|mk p A h d rs us v r w R:vs=[.ref h.l,.ref r]->Ow CH CL (ad (shL CH A.l h rs us v++(stL p A d++R))) H H (shL CH A.l h rs us v++(stL p A d++R))->Si CS K H p A d->RxAt K H p r w->d.fits w->rs.length<=900->(∀v' H',Ow CH CL (ad (shL CH A.l h rs us v++(stL p A d++R))) H H' (shL CH A.l h (rs++[r]) us v'++(stL p A (d.kp w)++R))->Nw H' (d.kp w) v'->Q .non H')->kT vs H Q E
inductive kz (vs:List V) (H:Hp) (Q:VK) (E:XK):Prop|mk S h rs us v x R:vs=[.ref h.l,.int x.1,.str x.2.1,.ref x.2.2.1,.ref x.2.2.2]->Ow CH CL (ad (shL CH S h rs us v++R)) H H (shL CH S h rs us v++R)->us.length<=900->(∀u H',Ow CH CL (ad (shL CH S h rs us v++R)) H H' (shL CH S h rs (us++[u]) v++R)->WsAt H' x u->Q .non H')->kz vs H Q E
inductive iJ (vs:List V) (H:Hp) (Q:VK) (E:XK):Prop|mk S h rs v:vs=[.ref h.l]->H h.l=some (.ins CH h.dx (hf S h v))->H h.rw=some (.lst ((rs:List Addr).map V.ref))->(∀q H',Same H H'->H' q=some (.lst (rs.map V.ref))->Q (.ref q) H')->iJ vs H Q E
inductive kU (vs:List V) (H:Hp) (Q:VK) (E:XK):Prop|mk p A h d us ws v:vs=[.ref h.l]->H h.l=some (.ins CH h.dx (hf A.l h v))->H h.sn=some (.lst us)->Sa CS K H p A d->Paired (WsAt H) ws us->ws.length<=900->((v=.non\/Nw H d v))->((ws≠[]->d.en=none))->(∀q us' H',Same H H'->H' q=some (.lst us')->Paired (LtE H') ws us'->Q (.ref q) H')->kU vs H Q E
end
theorem v9(F:Fun K "__init__" "Sheet.__init__" gc f fd)(d:TxH K CH):FnOk P w K mg base CX0 1 f fd ["self","stand"] (hJ CH CL):=by
 refine F.ok mt (λvs H Q E h=>?_) (λC A g s H vs Q E I h=>?_)
 ·obtain ⟨l,b,S,rfl,_⟩:=h
  rfl
 obtain ⟨l,b,S,rfl,j,q⟩:=h
 refine ⟨_,ah (aT (pv 0) (pv 1) rfl) (ah (aT (pv 0) (bf af) rfl) (ah (aT (pv 0) (bf af) rfl) (ai (aT (pv 0) bX rfl)))),?_⟩
 have g0:Ow CH CL [l] H H [(l,.ins CH b [])]:=.mk0 (L:=[(l,.ins CH b [])]) (λx i=>by rw [List.mem_singleton.mp i];exact j) (by simp [ad]) (λx i=>by rw [List.mem_singleton.mp i];exact λz=>z.1 rfl)
 have g1:Ow CH CL [l] H _ [(l,.ins CH b (ay "stand" (.ref S) []))]:=g0.up 0 _ rfl
 refine ⟨_,ϱ,_,ϱ,l,CH,b,_,ϱ,j,d.cl,d.ht,(by show 0<1000;decide),χ,λe D=>?_⟩
 obtain ⟨r,u⟩:=g1.fld D (.lst []) (ay "rows" (.ref e) (ay "stand" (.ref S) []))
 refine ⟨_,ϱ,l,CH,b,_,ϱ,r,d.cl,d.hw,(bj (n:=999) (by show 0<999;decide)),χ,λo G=>?_⟩
 obtain ⟨y,m⟩:=u.fld G (.lst []) (ay "sent" (.ref o) (ay "rows" (.ref e) (ay "stand" (.ref S) [])))
 exact ⟨_,ϱ,l,CH,b,_,ϱ,y,d.cl,d.hs,(bj (n:=999) (bj (n:=998) (by show 0<998;decide))),_,ϱ,l,CH,b,_,ϱ,m.co _ (.head _),d.cl,d.hl,(bj (n:=999) (bj (n:=998) (bj (n:=997) (by show 0<997;decide)))),q ⟨l,b,e,o⟩ _ rfl (m.up 0 _ rfl)⟩
theorem yD(F:Fun K "row" "Sheet.row" gU f fd)(D:TxD K CS)(b:TxH K CH)(J:CS≠CH/\CS≠CL)(GK:GM P w K mg base CX0 2 CS "keep" ["self","row"] (qE CS CH CL K))(GW:GM P w K mg base CX0 1 CS "news" ["self"] (n9 CS K)) :
  FnOk P w K mg base CX0 3 f fd ["self","row"] (kT CS CH CL K):=by
 refine F.ok ou (λvs H Q E h=>?_) (λU A y s H vs Q E I h=>?_)
 ·obtain ⟨p,A,h,d,e,o,v,r,w,R,rfl,_⟩:=h
  rfl
 obtain ⟨p,S,h,d,e,o,v,r,z,R,rfl,g,j,u,x,L,q⟩:=h
 refine ⟨_,ah (aV (pm GK (aq (pv 0) rfl) D.cl I (ac (pv 1) af)))
  (ah (aV (gq PySem.F.plainAttrs_list PySem.F.slot_list_append PySem.F.type_list_append h8 (aq (pv 0) rfl) (ac (pv 1) af)))
  (ai (aT (pv 0) (pm0 GW (aq (pv 0) rfl) D.cl I) rfl))),?_⟩
 refine ⟨_,ϱ,h.l,CH,h.dx,_,_,ϱ,g.co _ j0,b.cl,b.ht,wJ _ _ _,S.l,S.dx,_,ϱ,j.ins,iN θ,_,ϱ,p,S,d,r,z,_,_,_,R,ϱ,g,j,u,x,λH1 g1=>?_⟩
 have O:=(j.row u).im g1.im J
 refine ⟨_,ϱ,h.l,CH,h.dx,_,_,ϱ,g1.co _ j0,b.cl,b.hw,zE _ _ _,.inl ⟨ϱ,_,SqL.of (g1.co _ j1)⟩,_,ϱ,h.rw,_,_,ϱ,ϱ,g1.co _ j1,dR (by rw [ν];omega),?_⟩
 have m:Ow CH CL (ad (shL CH S.l h e o v++(stL p S d++R))) H (upd H1 h.rw (.lst ((e++[r]).map V.ref))) (shL CH S.l h (e++[r]) o v++(stL p S (d.kp z)++R)):=g1.up 1 _ rfl
 rw [show e.map V.ref++[.ref r]=(e++[r]).map V.ref by rw [List.map_append];rfl]
 have i:=(j.row u).im m.im J
 refine ⟨_,ϱ,h.l,CH,h.dx,_,_,ϱ,m.co _ j0,b.cl,b.ht,wJ _ _ _,S.l,S.dx,_,ϱ,i.ins,iN θ,p,S,_,ϱ,zw m i,λW X Y Z=>?_⟩
 have C:=m.same Y
 have G:X h.l=some (.ins CH h.dx (hf S.l h v)):=C.co _ j0
 refine ⟨_,ϱ,h.l,CH,h.dx,_,ϱ,G,b.cl,b.hl,AW _ _ _,?_⟩
 rw [AV]
 exact q W _ (C.up 0 _ rfl) (Z.keep (jg G))
theorem v7(F:Fun K "send" "Sheet.send" gb f fd)(u:TxH K CH):FnOk P w K mg base CX0 1 f fd ["self","to","word","p","more"] (kz CH CL):=by
 refine F.ok ms (λvs H Q E h=>?_) (λC A b s H vs Q E I h=>?_)
 ·obtain ⟨S,h,y,e,v,x,R,rfl,_⟩:=h
  rfl
 obtain ⟨S,h,y,e,v,x,R,rfl,g,G,q⟩:=h
 refine ⟨_,ai (aV (gq PySem.F.plainAttrs_list PySem.F.slot_list_append PySem.F.type_list_append h8 (aq (pv 0) rfl) (ac (aI (ac (pv 1) (ac (aI (ac (pv 2) (ac (pv 3) (ac (pv 4) af)))) af))) af))),?_⟩
 refine ⟨_,ϱ,h.l,CH,h.dx,_,_,ϱ,g.co _ j0,u.cl,u.hs,zD _ _ _,.inl ⟨ϱ,_,SqL.of (g.co _ j2)⟩,_,ϱ,_,ϱ,_,ϱ,_,ϱ,χ,λr d=>⟨χ,λt D=>?_⟩⟩
 have i:=ag (o:=.tup [.int x.1,.ref r]) D
 have j:=(g.same (ag d)).same i
 have m:=j.co _ j2
 have z:WsAt _ x (.ref t):=⟨t,r,ϱ,ae,i _ _ ae⟩
 exact ⟨h.sn,e,_,ϱ,ϱ,m,dR ω,q (.ref t) _ (j.up 2 _ rfl) (z.keep (jg m))⟩
theorem v8(F:Fun K "rows_told" "Sheet.rows_told" cI f fd)(B:TxB mg)(d:TxH K CH):FnOk P w K mg base CX0 1 f fd ["self"] (iJ CH):=by
 refine F.ok ix (λvs H Q E h=>?_) (λi A b s H vs Q E m h=>?_)
 ·obtain ⟨S,h,e,v,rfl,_⟩:=h
  rfl
 obtain ⟨S,h,e,v,rfl,h1,g,q⟩:=h
 refine ⟨_,ai (au (aP dQ rfl B.list PyProof.Rows.boot_list (ac (aq (pv 0) rfl) af))),?_⟩
 exact ⟨_,ϱ,h.l,CH,h.dx,_,_,ϱ,h1,d.cl,d.hw,zE _ _ _,h.rw,_,ϱ,.inl (SqL.of g),λp j=>q p _ (ag j) ae⟩
inductive Bf (CH:Addr) (D:Ends) (σ:L2.St) (H:Hp):Prop|mk S h us ws v nv:σ=[some (.ref (h:Ah).l),some nv]->H h.l=some (.ins CH h.dx (hf S h v))->H h.sn=some (.lst us)->Paired (WsAt H) ws us->ws.length<=900->((ws≠[]->∃e,nv=.ref e/\H e=some (.tup [])))->(∀p us' H',Same H H'->H' p=some (.lst us')->Paired (LtE H') ws us'->D.rt (.ref p) H')->Bf CH D σ H
theorem yE(F:Fun K "letters_told" "Sheet.letters_told" bh f fd)(D:TxD K CS)(j:TxH K CH)(GW:GM P w K mg base CX0 1 CS "news" ["self"] (n9 CS K)) :
  FnOk P w K mg base CX0 2 f fd ["self"] (kU CS CH K):=by
 refine F.ok sc_Sheet_letters_told (λvs H Q E h=>?_) (λaS A a2 s H vs Q E hr h=>?_)
 ·obtain ⟨p,A,h,d,m,y,v,rfl,_⟩:=h
  rfl
 obtain ⟨p,S,h,d,m,y,v,rfl,h1,h2,sa,b,U,W,we,q⟩:=h
 have nd:=sc_Sheet_letters_told.nd
 refine ⟨_,ah (aH (i:=1) nd rfl (Or.inr rfl) (pM (ax lJ (aq (pv 0) rfl) bX (aw _)) (pm0 GW (aq (pv 0) rfl) D.cl hr) (aq (pv 0) rfl)))
  (lA (Bf CH) (ai (au (cM fo rfl (bV (aq (pv 0) rfl)) (λ_ _ _ _=>cg) (λ_ _ _ _=>aI (ac (az (r:=ba K) aC (pv 0) aj (λ_ _=>rfl)) (ac (aN (r:=zt K) yl (az (r:=ba K) aC (pv 0) aj (λ_ _=>rfl)) (aI (ac (pv 1) af))) af)))))) ?v1),?_⟩
 case v1 =>
  rintro D0 σ H ⟨S,h,m,y,v,nv,rfl,h1,L,b,U,a6,q⟩
  refine ⟨_,ϱ,h.l,CH,h.dx,_,_,ϱ,h1,j.cl,j.hs,zD _ _ _,h.sn,ϱ,⟨_,SqL.of L⟩,?_⟩
  refine cA (xs:=m) (λi C J=>Same H J/\Paired (LtE J) (y.take i) C) ⟨Same.refl _,.nil⟩ (small (by rw [← b.len];omega)) (λi C J _ z=>SqL.of (z.1 _ _ L)) ?_ ?_
  ·rintro i u C H1 hu ⟨g,O⟩
   obtain ⟨x,ex,t,t2,rfl,ht,X⟩:=b.get hu
   obtain ⟨ne,rfl,Y⟩:=a6 (λz=>by rw [z] at ex;cases ex)
   have G:y.take (i+1)=y.take i++[x]:=by rw [List.take_succ,ex];rfl
   refine il ⟨_,ϱ,t,_,_,_,ϱ,ϱ,SqT.of (g _ _ ht),at0,_,ϱ,t,_,_,_,ϱ,ϱ,SqT.of (g _ _ ht),at1,_,ϱ,χ,λt3 a3=>?_⟩
   have s3:=ag (o:=.tup [.ref ne]) a3
   refine ⟨t2,t3,_,_,ϱ,ϱ,SqT.of (s3 _ _ (g _ _ X)),SqT.of ae,(λz=>by cases z),χ,(λz=>by cases z),λ_ t4 a4=>⟨χ,λt5 a5=>?_⟩⟩
   have s4:=ag (o:=.tup ([.str x.2.1,.ref x.2.2.1,.ref x.2.2.2]++[.ref ne])) a4
   have s5:=ag (o:=.tup [.int x.1,.ref t4]) a5
   have I:=g.trans (s3.trans (s4.trans s5))
   rw [G]
   exact ⟨I,(Paired.mapP O λ_ _ z=>z.keep (s3.trans (s4.trans s5)).ts).app (.cons ⟨t5,t4,ne,ϱ,ae,s5 _ _ ae,I _ _ Y⟩ .nil)⟩
  ·rintro C H1 ⟨g,O⟩ p hp
   rw [← b.len,List.take_length] at O
   have s2:=ag (o:=.lst C) hp
   exact q p C _ (g.trans s2) ae (Paired.mapP O λ_ _ z=>z.keep s2.ts)
 refine ⟨_,ϱ,h.l,CH,h.dx,_,_,ϱ,h1,j.cl,j.hl,zF _ _ _,ϱ,_,ϱ,?_⟩
 by_cases e:v=.non
 ·refine bx (λ_=>?_) (λc=>absurd (τ e) c)
  refine ⟨_,ϱ,h.l,CH,h.dx,_,_,ϱ,h1,j.cl,j.ht,wJ _ _ _,S.l,S.dx,_,ϱ,sa.ins,iN θ,p,S,d,ϱ,sa,λnv H1 g ⟨t,G,Z⟩=>?_⟩
  exact ⟨S.l,h,m,y,v,nv,ϱ,g _ _ h1,g _ _ h2,Paired.mapP b λ_ _ z=>z.keep g.ts,U,λn=>⟨t,G,Z (we n)⟩,λp m J s'=>q p m J (g.trans s')⟩
 ·refine bx (λc=>absurd (Ξ c) e) (λ_=>?_)
  obtain ⟨t,G,Z⟩:=W.resolve_left e
  exact ⟨_,ϱ,h.l,CH,h.dx,_,_,ϱ,h1,j.cl,j.hl,zF _ _ _,S.l,h,m,y,v,v,ϱ,h1,h2,b,U,λn=>⟨t,G,Z (we n)⟩,q⟩
end
open St
section
variable {P:Program}{w:World}{K:Frag}{mg:Str->Option Value}{base:Heap}{f CL CS CH CV:Addr}{fd:FuncData}{C:Kd->Addr}{CW:Wd->Addr}
theorem vY(F:Fun K "lock" "TakeStep.lock" dq f fd)(W:TxW K CW)(T:TxK K C)(l:∀k,mg (kdN k)=some (.ref (C k))){r:Addr}{u:FuncData}(M:∀k,Mk K (C k) r)
  (U:FnOk P w K mg base CX0 1 r u ["self","first","last"] (eG C))(X:Binds K u ["self","first","last"] [])(Y:∀k,GM P w K mg base CX0 2 (C k) "told" ["self"] (fF C)):FnOk P w K mg base CX0 3 f fd ["self"] (dO CW K .take):=by
 refine F.ok jm (λvs H Q E h=>?_) (λI A g s H vs Q E o h=>?_)
 ·obtain ⟨v,D,rfl,_⟩:=h
  rfl
 obtain ⟨v,D,rfl,G,⟨a,m,rfl,b⟩,q⟩:=h
 obtain ⟨x,y,rfl,_,_,e⟩:=G.c rfl
 rw [e] at b
 have d:Room (1+1) _:=o
 refine ⟨_,ai (au (pm0 (Y .read) (aY (M .read) U d rfl (l .read) X .nil a9 (ac (aq (pv 0) rfl) (ac (aq (pv 0) rfl) af))) (T.cl .read) o)),?_⟩
 refine ⟨_,ϱ,a,_,m,_,_,ϱ,b,W.cl _,W.nC _,bH,_,ϱ,a,_,m,_,_,ϱ,b,W.cl _,W.nC _,bH,λz i J j L=>⟨z,i,.read,y,y,ϱ,ae,ϱ,z,i,_,ϱ,ae,iu _ _ θ θ,_,(.read,y,y),ϱ,⟨z,i,ϱ,ae⟩,λt O=>?_⟩⟩
 exact q _ _ ((eK J j).trans (ag O)) ⟨t,ϱ,ae⟩
theorem v0(F:Fun K "lock" "MeanStep.lock" dF f fd)(W:TxW K CW)(T:TxK K C)(l:∀k,mg (kdN k)=some (.ref (C k))){r:Addr}{u:FuncData}(M:∀k,Mk K (C k) r)
  (U:FnOk P w K mg base CX0 1 r u ["self","first","last"] (eG C))(X:Binds K u ["self","first","last"] [])(Y:∀k,GM P w K mg base CX0 2 (C k) "told" ["self"] (fF C)):FnOk P w K mg base CX0 3 f fd ["self"] (dO CW K .mean):=by
 refine F.ok jq (λvs H Q E h=>?_) (λI A g s H vs Q E o h=>?_)
 ·obtain ⟨v,D,rfl,_⟩:=h
  rfl
 obtain ⟨v,D,rfl,G,⟨a,m,rfl,b⟩,q⟩:=h
 obtain ⟨x,y,rfl,_,_,e⟩:=G.c rfl
 rw [e] at b
 have d:Room (1+1) _:=o
 refine ⟨_,ai (au (pm0 (Y .mean) (aY (M .mean) U d rfl (l .mean) X .nil a9 (ac (aq (pv 0) rfl) (ac (aq (pv 0) rfl) af))) (T.cl .mean) o)),?_⟩
 refine ⟨_,ϱ,a,_,m,_,_,ϱ,b,W.cl _,W.nC _,bH,_,ϱ,a,_,m,_,_,ϱ,b,W.cl _,W.nC _,bH,λz i J j L=>⟨z,i,.mean,y,y,ϱ,ae,ϱ,z,i,_,ϱ,ae,iu _ _ θ θ,_,(.mean,y,y),ϱ,⟨z,i,ϱ,ae⟩,λt O=>?_⟩⟩
 exact q _ _ ((eK J j).trans (ag O)) ⟨t,ϱ,ae⟩
theorem v6(F:Fun K "lock" "GiveStep.lock" dH f fd)(W:TxW K CW)(T:TxK K C)(l:∀k,mg (kdN k)=some (.ref (C k))){r:Addr}{u:FuncData}(M:∀k,Mk K (C k) r)
  (U:FnOk P w K mg base CX0 1 r u ["self","first","last"] (eG C))(X:Binds K u ["self","first","last"] [])(Y:∀k,GM P w K mg base CX0 2 (C k) "told" ["self"] (fF C)):FnOk P w K mg base CX0 3 f fd ["self"] (dO CW K .give):=by
 refine F.ok js (λvs H Q E h=>?_) (λI A g s H vs Q E o h=>?_)
 ·obtain ⟨v,D,rfl,_⟩:=h
  rfl
 obtain ⟨v,D,rfl,G,⟨a,m,rfl,b⟩,q⟩:=h
 obtain ⟨x,y,rfl,_,_,e⟩:=G.c rfl
 rw [e] at b
 have d:Room (1+1) _:=o
 refine ⟨_,ai (au (pm0 (Y .change) (aY (M .change) U d rfl (l .change) X .nil a9 (ac (aq (pv 0) rfl) (ac (aq (pv 0) rfl) af))) (T.cl .change) o)),?_⟩
 refine ⟨_,ϱ,a,_,m,_,_,ϱ,b,W.cl _,W.nC _,bH,_,ϱ,a,_,m,_,_,ϱ,b,W.cl _,W.nC _,bH,λz i J j L=>⟨z,i,.change,y,y,ϱ,ae,ϱ,z,i,_,ϱ,ae,iu _ _ θ θ,_,(.change,y,y),ϱ,⟨z,i,ϱ,ae⟩,λt O=>?_⟩⟩
 exact q _ _ ((eK J j).trans (ag O)) ⟨t,ϱ,ae⟩
theorem yA(F:Fun K "lock" "AddStep.lock" eB f fd)(W:TxW K CW)(T:TxK K C)(i:∀k,mg (kdN k)=some (.ref (C k))){o:Addr}{r:FuncData}(M:∀k,Mk K (C k) o)
  (O:FnOk P w K mg base CX0 1 o r ["self","first","last"] (eG C))(U:Binds K r ["self","first","last"] [])(X:∀k,GM P w K mg base CX0 2 (C k) "told" ["self"] (fF C)):FnOk P w K mg base CX0 3 f fd ["self"] (dO CW K .add):=by
 refine F.ok ka (λvs H Q E h=>?_) (λG A d s H vs Q E m h=>?_)
 ·obtain ⟨v,u,rfl,_⟩:=h
  rfl
 obtain ⟨v,u,rfl,D,⟨a,j,rfl,l⟩,q⟩:=h
 obtain ⟨x,y,Y,rfl,_⟩:=D.a
 have b:Room (1+1) _:=m
 refine ⟨_,ai (au (pm0 (X .change) (aY (M .change) O b rfl (i .change) U .nil a9 (ac (aq (pv 0) rfl) (ac (aq (pv 0) rfl) af))) (T.cl .change) m)),?_⟩
 refine ⟨_,ϱ,a,_,j,_,_,ϱ,l,W.cl _,W.nC _,(by show (ay "amount" _ (ay "cell" _ (ay "where" _ []))).lookup _=_;rw [aO θ,bH]),_,ϱ,a,_,j,_,_,ϱ,l,W.cl _,W.nC _,(by show (ay "amount" _ (ay "cell" _ (ay "where" _ []))).lookup _=_;rw [aO θ,bH]),λz e I g J=>⟨z,e,.change,y,y,ϱ,ae,ϱ,z,e,_,ϱ,ae,iu _ _ θ θ,_,(.change,y,y),ϱ,⟨z,e,ϱ,ae⟩,λt L=>?_⟩⟩
 exact q _ _ ((eK I g).trans (ag L)) ⟨t,ϱ,ae⟩
theorem yx(F:Fun K "lock" "SumStep.lock" ef f fd)(W:TxW K CW)(T:TxK K C)(i:∀k,mg (kdN k)=some (.ref (C k))){o:Addr}{r:FuncData}(M:∀k,Mk K (C k) o)
  (O:FnOk P w K mg base CX0 1 o r ["self","first","last"] (eG C))(U:Binds K r ["self","first","last"] [])(X:∀k,GM P w K mg base CX0 2 (C k) "told" ["self"] (fF C)):FnOk P w K mg base CX0 3 f fd ["self"] (dO CW K .sum):=by
 refine F.ok j8 (λvs H Q E h=>?_) (λG A d s H vs Q E m h=>?_)
 ·obtain ⟨v,u,rfl,_⟩:=h
  rfl
 obtain ⟨v,u,rfl,D,⟨a,j,rfl,l⟩,q⟩:=h
 obtain ⟨x,y,y2,rfl,_⟩:=D.s
 have b:Room (1+1) _:=m
 refine ⟨_,ai (au (pm0 (X .read) (aY (M .read) O b rfl (i .read) U .nil a9 (ac (aq (pv 0) rfl) (ac (aq (pv 0) rfl) af))) (T.cl .read) m)),?_⟩
 refine ⟨_,ϱ,a,_,j,_,_,ϱ,l,W.cl _,W.nL _,(by show (ay "high" _ (ay "low" _ (ay "where" _ []))).lookup _=_;rw [aO θ,bH]),_,ϱ,a,_,j,_,_,ϱ,l,W.cl _,W.nH _,bH,λz e I g J=>⟨z,e,.read,y,y2,ϱ,ae,ϱ,z,e,_,ϱ,ae,iu _ _ θ θ,_,(.read,y,y2),ϱ,⟨z,e,ϱ,ae⟩,λt L=>?_⟩⟩
 exact q _ _ ((eK I g).trans (ag L)) ⟨t,ϱ,ae⟩
theorem pR{b:Wd}(hw:b=.plus\/b=.need)(F:Fun K "lock" "Step.lock" gT f fd):FnOk P w K mg base CX0 1 f fd ["self"] (dO CW K b):=by
 refine F.ok ot (λvs H Q E h=>?_) (λi A d s H vs Q E m h=>?_)
 ·obtain ⟨v,g,rfl,_⟩:=h
  rfl
 obtain ⟨v,g,rfl,j,l,q⟩:=h
 refine ⟨_,ai (au bX),?_⟩
 have e:lN b g=none:=by rcases hw with rfl | rfl<;>rfl
 rw [e] at q
 exact q .non H (Same.refl H) rfl
end
end K52
namespace K52T
open PySem L2 Km PySem.NumText
abbrev u9:Stmt:=K52.lg
abbrev rY:Stmt:=K52.iQ
abbrev zo:Stmt:=K52.mJ
abbrev zq:Stmt:=K52.iq
abbrev zp:Stmt:=K52.gu
abbrev BG:Stmt:=K52.eM
abbrev vb:Stmt:=K52.dM
abbrev BE:Stmt:=K52.c6
abbrev va:Stmt:=K52.dL
theorem tp:¬(("text":Str)="place"):=by decide +kernel
def rf(z:Str)(k:Int):List (Str×V):=ay "place" (.int k) (ay "text" (.str z) [])
theorem ve(z:Str)(k:Int):rf z k=([("text",V.str z),("place",V.int k)]:List (Str×V)):=by
 show (if ("text":Str)="place" then [(("text":Str),V.int k)] else (("text":Str),V.str z)::ay "place" (V.int k) [])=([("text",V.str z),("place",V.int k)]:List (Str×V))
 rw [if_neg tp]
 all_goals rfl
theorem hO(z:Str)(k:Int):(rf z k).lookup ("text":Str)=some (.str z):=by
 unfold rf
 rw [al,if_neg tp,al,if_pos rfl]
theorem cn(z:Str)(k:Int):(rf z k).lookup ("place":Str)=some (.int k):=by
 unfold rf
 rw [al,if_pos rfl]
theorem mK(z:Str)(k:Int){m:Str}(h1:¬m="place")(b:¬m="text"):(rf z k).lookup m=none:=by
 unfold rf
 rw [al,if_neg h1,al,if_neg b]
 all_goals rfl
theorem qJ(z:Str)(k j:Int):ay "place" (.int j) (rf z k)=rf z j:=by
 rw [ve,ve]
 show (if ("text":Str)="place" then _ else (("text":Str),V.str z)::(if ("place":Str)="place" then [(("place":Str),V.int j)] else _))=([("text",V.str z),("place",V.int j)]:List (Str×V))
 rw [if_neg tp,if_pos rfl]
theorem qK(z:Str)(k:Int):(rf z k).length=2:=by rw [ve];rfl
structure Tx(K:Frag)(mg:Str->Option Value)(C:Addr):Prop where
 cl:Cls K C
 nT:NoAttr K C "text"
 nP:NoAttr K C "place"
 mgC:mg "Reader"=some (.ref C)
 isi:mg "isinstance"=none
 int:mg "int"=none
 bool:mg "bool"=none
 str:mg "str"=none
 len:mg "len"=none
 ord:mg "ord"=none
 all:mg "all"=none
 range:mg "range"=none
 cFig:∃t,mg "MOST_FIGURES_things"=some (.int 400 t)
 cSig:∃t,mg "MOST_SIGNS"=some (.int 2000 t)
 cDeep:∃t,mg "MOST_DEEP"=some (.int 8 t)
 cLong:∃t,mg "LONGEST"=some (.int 100000 t)
 cBl:∃t,mg "BLANK"=some (.int 32 t)
 cPc:∃t,mg "PERCENT"=some (.int 37 t)
 cTi:∃t,mg "TILDE"=some (.int 126 t)
theorem oS{X:Cx}{x:Str}{i:Int}{pos:Pos}(b:∃t,X.mg x=some (.int i t))(d:Gl X x)(f:(x==("__debug__":Str))=false:=by decide):PE X (.Name x pos) (tC (.int i)):=by
 obtain ⟨t,e⟩:=b
 exact hW d e ⟨t,ϱ⟩ f
section
variable {K:Frag}
theorem AL:PySem.W.kitOne K (.type "int") (.type "int")=some true:=rfl
theorem AO:PySem.W.kitOne K (.type "bool") (.type "bool")=some true:=rfl
theorem AM:PySem.W.kitOne K (.type "int") (.type "bool")=some false:=by kernel_rfl
theorem AJ:PySem.W.kitOne K (.type "str") (.type "int")=some false:=by kernel_rfl
theorem AN:PySem.W.kitOne K (.type "bool") (.type "int")=some true:=by kernel_rfl
theorem AK:PySem.W.kitOne K (.type "NoneType") (.type "int")=some false:=by kernel_rfl
theorem AI:PySem.W.kitOne K (.type "tuple") (.type "int")=some false:=by kernel_rfl
end
section
variable {P:Program}{w:World}{K:Frag}{mg:Str->Option Value}{base:Heap}{f C:Addr}{fd:FuncData}
def zJ(H:Hp):V->Option Bool
 | .int _=>some true
 | .str _=>some false
 | .bl _=>some false
 | .non=>some false
 | .ref a=>match H a with
  | some (.tup _)=>some false
  | _=>none
 | _=>none
inductive nO (vs:List V) (H:Hp) (Q:VK) (E:XK):Prop|mk x b:vs=[x]->zJ H x=some b->Q (.bl b) H->nO vs H Q E
theorem xU:ao ["thing"] ["thing"] (defScope u9):=⟨ϱ,ϱ,ϱ,θ,ϱ,θ,θ⟩
theorem vK(F:Fun K "is_whole" "is_whole" u9 f fd)(T:Tx K mg C):FnOk P w K mg base CX0 1 f fd ["thing"] nO:=by
 refine F.ok xU (λvs H Q E h=>?_) (λl A j s H vs Q E m h=>?_)
 ·obtain ⟨x,b,rfl,_⟩:=h
  rfl
 obtain ⟨x,b,rfl,g,q⟩:=h
 refine ⟨_,ai (au (d6 (aK jW rfl T.isi PyProof.Rows.boot_isinstance (ac (pv 0) (ac (so (v:=.ty "int") rfl T.int PyProof.Rows.boot_int rfl) af)))
  (eY (Ak (aK jW rfl T.isi PyProof.Rows.boot_isinstance (ac (pv 0) (ac (so (v:=.ty "bool") rfl T.bool PyProof.Rows.boot_bool rfl) af))))))),?_⟩
 cases x with
 | int i =>
  cases (Δ g)
  refine ⟨_,ϱ,_,_,_,_,ϱ,TyOf.int i,AL,_,ϱ,cj ?_⟩
  exact ⟨_,ϱ,_,_,_,_,ϱ,TyOf.int i,AM,_,ϱ,q⟩
 | str z =>
  cases (Δ g)
  exact ⟨_,ϱ,_,_,_,_,ϱ,TyOf.str z,AJ,_,ϱ,aL q⟩
 | bl c =>
  cases (Δ g)
  refine ⟨_,ϱ,_,_,_,_,ϱ,TyOf.bl c,AN,_,ϱ,cj ?_⟩
  exact ⟨_,ϱ,_,_,_,_,ϱ,TyOf.bl c,AO,_,ϱ,q⟩
 | non =>
  cases (Δ g)
  exact ⟨_,ϱ,_,_,_,_,ϱ,TyOf.non,AK,_,ϱ,aL q⟩
 | ref a =>
  have d:(match H a with | some (.tup _)=>some false | _=>none)=some b:=g
  cases e:H a with
  | none=>rw [e] at d;cases d
  | some o =>
   rw [e] at d
   cases o with
   | tup xs =>
    cases (Δ d)
    exact ⟨_,ϱ,_,_,_,_,ϱ,TyOf.tup e,AI,_,ϱ,aL q⟩
   | _=>cases d
 | _=>cases g
theorem iZ:1000000<=sizeLine:=by decide
inductive qw (vs:List V) (H:Hp) (Q:VK) (E:XK):Prop|mk (c:Nat):vs=[.str ⟨#[c]⟩]->Q (.bl (qR c)) H->qw vs H Q E
theorem scSign:ao ["sign","number"] ["sign"] (defScope zo):=⟨ϱ,ϱ,ϱ,θ,ϱ,θ,θ⟩
theorem yp(F:Fun K "is_sign" "is_sign" zo f fd)(T:Tx K mg C):FnOk P w K mg base CX0 1 f fd ["sign"] qw:=by
 refine F.ok scSign (λvs H Q E h=>?_) (λj A e s H vs Q E l h=>?_)
 ·obtain ⟨c,rfl,_⟩:=h
  rfl
 obtain ⟨c,rfl,q⟩:=h
 refine ⟨_,ah (aH (i:=1) scSign.nd rfl (Or.inl rfl) (aK xj rfl T.ord PyProof.Rows.boot_ord (ac (pv 0) af)))
  (ai (au (d6 (vy mM mM (oS T.cBl rfl) (pv 1) (oS T.cTi rfl)) (eY (bo pQ (pv 1) (oS T.cPc rfl) (aw _)))))),?_⟩
 refine ⟨_,ϱ,_,ϱ,ϱ,?_⟩
 refine ⟨_,ϱ,_,_,ϱ,ϱ,_,ϱ,?_⟩
 have e0:((({cps:=#[c]}:Str).cps.getD 0 0:Nat):Int)=(c:Int):=rfl
 unfold qR at q
 by_cases h1:32<=c
 ·have b:decide ((32:Int)<=(({cps:=#[c]}:Str).cps.getD 0 0:Nat))=true:=τ (by rw [e0];omega)
  rw [b]
  refine cj ⟨_,_,ϱ,ϱ,_,ϱ,?_⟩
  by_cases h2:c<=126
  ·have d:decide (((({cps:=#[c]}:Str).cps.getD 0 0:Nat):Int)<=126)=true:=τ (by rw [e0];omega)
   rw [d]
   refine cj ⟨_,ϱ,ϱ,?_⟩
   have g:(!decide (V.int (({cps:=#[c]}:Str).cps.getD 0 0:Nat)=V.int 37))=(decide (32<=c)&&decide (c<=126)&&decide (c≠37)):=by
    rw [τ h1,τ h2,oY,e0]
    by_cases h3:c=37
    ·subst h3;rfl
    ·have:((c:Int)==37)=false:=beq_eq_false_iff_ne.mpr ω
     rw [this,τ h3];rfl
   rw [g]
   exact q
  ·have d:decide (((({cps:=#[c]}:Str).cps.getD 0 0:Nat):Int)<=126)=false:=Γ (by rw [e0];omega)
   rw [d]
   refine aL ?_
   rw [Γ h2,Bool.and_false,Bool.false_and] at q
   exact q
 ·have b:decide ((32:Int)<=(({cps:=#[c]}:Str).cps.getD 0 0:Nat))=false:=Γ (by rw [e0];omega)
  rw [b]
  refine aL ⟨_,ϱ,aL ?_⟩
  rw [Γ h1,Bool.false_and,Bool.false_and] at q
  exact q
inductive qF (C:Addr) (vs:List V) (H:Hp) (Q:VK) (E:XK):Prop|mk p dx z:vs=[.ref p,.str z]->H p=some (.ins C dx [])->Q .non (upd (upd H p (.ins C dx (ay "text" (.str z) []))) p (.ins C dx (rf z 0)))->qF C vs H Q E
theorem z8:ao ["self","text"] ["self","text"] (defScope zq):=⟨ϱ,ϱ,ϱ,θ,ϱ,θ,θ⟩
theorem yC(F:Fun K "__init__" "Reader.__init__" zq f fd)(T:Tx K mg C):FnOk P w K mg base CX0 1 f fd ["self","text"] (qF C):=by
 refine F.ok z8 (λvs H Q E h=>?_) (λg A d s H vs Q E i h=>?_)
 ·obtain ⟨p,b,z,rfl,_⟩:=h
  rfl
 obtain ⟨p,b,z,rfl,e,q⟩:=h
 refine ⟨_,ah (aT (pv 0) (pv 1) rfl) (ai (aT (pv 0) aj rfl)),?_⟩
 exact ⟨_,ϱ,_,ϱ,p,C,b,[],ϱ,e,T.cl,T.nT,(by show 0<1000;decide),_,ϱ,p,C,b,_,ϱ,ae,T.cl,T.nP,(by show 1<1000;decide),q⟩
theorem kO(z:Str)(c k:Nat):Txt.startswith3 z ⟨#[c]⟩ (k:Int)=decide (z.cps.toList[k]?=some c):=by
 have f:fromIndex z.length (k:Int)=k:=by
  unfold fromIndex
  rw [if_neg ω]
  omega
 unfold Txt.startswith3
 rw [f]
 have e:(({cps:=#[c]}:Str)).length=1:=rfl
 rw [e]
 by_cases h:k<z.length
 ·have g:k<z.cps.size:=h
  have j:Builtin.Str.subAt z ⟨#[c]⟩ k=(z.cps[k]==c):=by
   unfold Builtin.Str.subAt
   rw [e]
   have l:z.cps.extract k (k+1)=#[z.cps[k]]:=by
    apply Array.ext
    ·simp;omega
    ·intro i h1 m
     have:i=0:=by simp at m;omega
     subst this
     simp
   rw [l]
   simp
  rw [j]
  have b:decide (k+1<=z.length)=true:=τ h
  rw [b,Bool.true_and]
  have d:z.cps.toList[k]?=some z.cps[k]:=by rw [Array.getElem?_toList];exact Array.getElem?_eq_getElem g
  rw [d]
  simp [Bool.beq_eq_decide_eq]
 ·have b:decide (k+1<=z.length)=false:=Γ ω
  rw [b,Bool.false_and]
  have d:z.cps.toList[k]?=none:=by rw [Array.getElem?_toList];exact Array.getElem?_eq_none (by show z.length<=k;omega)
  rw [d]
  simp
inductive qA (C:Addr) (vs:List V) (H:Hp) (Q:VK) (E:XK):Prop|mk p dx z c:∀(k:Nat),vs=[.ref p,.str ⟨#[c]⟩]->H p=some (.ins C dx (rf z k))->((if z.cps.toList[k]?=some c then Q (.bl true) (upd H p (.ins C dx (rf z ((k+1:Nat):Int)))) else Q (.bl false) H))->qA C vs H Q E
theorem z7:ao ["self","sign"] ["self","sign"] (defScope zp):=⟨ϱ,ϱ,ϱ,θ,ϱ,θ,θ⟩
theorem yt(F:Fun K "passes" "Reader.passes" zp f fd)(T:Tx K mg C):FnOk P w K mg base CX0 1 f fd ["self","sign"] (qA C):=by
 refine F.ok z7 (λvs H Q E h=>?_) (λi A g s H vs Q E j h=>?_)
 ·obtain ⟨p,b,z,c,k,rfl,_⟩:=h
  rfl
 obtain ⟨p,b,z,c,k,rfl,d,q⟩:=h
 refine ⟨_,ah (aG (dY (bL (gq PySem.F.plainAttrs_str PySem.F.slot_str_startswith PySem.F.type_str_startswith lL (aq (pv 0) rfl) (ac (pv 1) (ac (aq (pv 0) rfl) af))))) (ai (au pN)) aA)
  (ah (mL (pv 0) aj wH) (ai (au pN))),?_⟩
 refine ⟨_,ϱ,p,C,b,_,_,ϱ,d,T.cl,T.nT,hO _ _,ϱ,_,ϱ,_,ϱ,p,C,b,_,_,ϱ,d,T.cl,T.nP,cn _ _,_,_,_,ϱ,ϱ,_,ϱ,?_⟩
 rw [kO]
 by_cases hk:z.cps.toList[k]?=some c
 ·rw [if_pos hk] at q
  rw [τ hk]
  refine aL ?_
  refine ⟨_,ϱ,p,C,b,_,_,ϱ,d,T.cl,T.nP,cn _ _,_,_,ϱ,ϱ,b,_,d,(by rw [qK];decide),?_⟩
  rw [qJ]
  have e:((k:Int)+1)=((k+1:Nat):Int):=by omega
  rw [e]
  exact q
 ·rw [if_neg hk] at q
  rw [Γ hk]
  exact cj q
end
theorem ku{x y:Str}(h:x.cps.toList=y.cps.toList):x=y:=by
 obtain ⟨a⟩:=x
 obtain ⟨b⟩:=y
 have:a=b:=Array.toList_inj.mp h
 rw [this]
theorem i6(z:Str):z.length=z.cps.toList.length:=by simp [Str.length]
theorem mI{z:Str}{pre d b:List Nat}(e:z.cps.toList=pre++d++b):Txt.slice z (some ((pre.length:Nat):Int)) (some (((pre.length+d.length:Nat)):Int))=⟨d.toArray⟩:=by
 have h:z.cps.toList.length=pre.length+d.length+b.length:=by rw [e];simp;omega
 have q:=PyProof.Rows.slice_closes (x:=z) (i:=((pre.length:Nat):Int)) (j:=((pre.length+d.length:Nat):Int)) ⟨ω,ω,ω⟩
 rw [eq_of_beq q]
 refine ku ?_
 have f:(((pre.length+d.length:Nat):Int)-((pre.length:Nat):Int)).toNat=d.length:=by omega
 have g:(((pre.length:Nat):Int)).toNat=pre.length:=by omega
 rw [f,g,e,List.append_assoc,List.drop_left,List.take_left]
theorem qH{z:Str}{pre d b:List Nat}{i j:Int}(e:z.cps.toList=pre++d++b)(f:i=((pre.length:Nat):Int))(g:j=((pre.length+d.length:Nat):Int)):Txt.slice z (some i) (some j)=⟨d.toArray⟩:=by
 subst f g
 exact mI e
theorem xA:∀c:Nat,c<128->Unicode.isDigit c=p8 c:=by decide +kernel
theorem jT{c:Nat}(h:c<128):Txt.isdigit ⟨#[c]⟩=p8 c:=by
 rw [← xA c h]
 unfold Txt.isdigit
 simp [Str.length]
def xq(ds:List Nat):Prop:=AllDigits ds/\ds≠[]/\ds.length<=400/\(ds=[48]\/∀c r,ds=c::r->c≠48)
def sQ(post:List Nat):Prop:=∀c r,post=c::r->c<128/\p8 c=false
def But(p:Addr)(H H':Hp):Prop:=∀b o,H b=some o->b≠p->H' b=some o
theorem But.refl(p:Addr)(H:Hp):But p H H:=λ_ _ e _=>e
theorem But.upd{p:Addr}{H H':Hp}(h:But p H H')(o:HO):But p H (L2.upd H' p o):=λb u e n=>by rw [am n];exact h b u e n
theorem But.trans{p:Addr}{H H1 H2:Hp}(a:But p H H1)(b:But p H1 H2):But p H H2:=λc o e n=>b c o (a c o e n) n
theorem xM(x y:Str):Txt.startswith x y=Txt.startswith3 x y ((0:Nat):Int):=by
 unfold Txt.startswith Txt.startswith3
 have e:fromIndex x.length ((0:Nat):Int)=0:=by unfold fromIndex;simp
 rw [e]
section
variable {P:Program}{w:World}{K:Frag}{mg:Str->Option Value}{base:Heap}{f C:Addr}{fd:FuncData}
inductive rV (C:Addr) (vs:List V) (H:Hp) (Q:VK) (E:XK):Prop|mk p dx z pre ds post:vs=[.ref p]->z.cps.toList=pre++ds++post->H p=some (.ins C dx (rf z (pre.length:Nat)))->z.length<=100000->xq ds->sQ post->(∀H',H' p=some (.ins C dx (rf z ((pre.length+ds.length:Nat):Int)))->But p H H'->Q (.int (digitsVal ds:Nat)) H')->rV C vs H Q E
theorem scNum:ao ["self","start","figures"] ["self"] (defScope BE):=⟨ϱ,ϱ,ϱ,θ,ϱ,θ,θ⟩
theorem yY:(Str.ofString "")=⟨#[]⟩:=by decide +kernel
theorem wT:(Str.ofString "0")=⟨#[48]⟩:=by decide +kernel
def pC(K:Frag):TT:=By (zk (tOp (rI0 λi j=>.bl (decide (i<j))) (sZ K (qt 0) "place") (tCB (λxs H Q=>∃z,xs=[.str z]/\z.length<=sizeLine/\Q (.int z.length) H) (cE (sZ K (qt 0) "text") jY))))
 (tB (Bv K "str" (λx vs H Q=>∃z,x=.str z/\vs=[]/\Q (.bl (Txt.isdigit z)) H) (tOp BI (sZ K (qt 0) "text") (sZ K (qt 0) "place"))))
theorem wx{p l:Addr}{z:Str}{pre d b:List Nat}{j:Nat}{σ:St}{H1:Hp}{R:Bool->Hp->Prop}(T:Tx K mg C)(q:z.cps.toList=pre++d++b)(hz:z.length<=100000)(y:AllDigits d)(u:sQ b)(G:j<=d.length)
  (e0:σ[0]?=some (some (.ref p)))(e:H1 p=some (.ins C l (rf z ((pre.length+j:Nat):Int))))(h:R (decide (j<d.length)) H1):pC K σ H1 R:=by
 have D:=iZ
 have F:z.length=pre.length+d.length+b.length:=by rw [i6,q];simp;omega
 refine ⟨_,e0,p,C,l,_,_,ϱ,e,T.cl,T.nP,cn _ _,_,e0,p,C,l,_,_,ϱ,e,T.cl,T.nT,hO _ _,_,ϱ,ω,_,_,ϱ,ϱ,_,ϱ,?_⟩
 by_cases hlt:(pre.length+j:Nat)<z.length
 ·rw [τ (show (((pre.length+j:Nat)):Int)<((z.length:Nat):Int) by omega)]
  have g:pre.length+j<z.cps.toList.length:=by rw [← i6];exact hlt
  obtain ⟨c,f⟩:∃c,z.cps.toList[pre.length+j]?=some c:=⟨_,ξ g⟩
  refine cj ⟨_,e0,p,C,l,_,_,ϱ,e,T.cl,T.nT,hO _ _,_,e0,p,C,l,_,_,ϱ,e,T.cl,T.nP,cn _ _,z,_,c,ϱ,ϱ,ω,bb f,ϱ,_,ϱ,ϱ,_,ϱ,?_⟩
  by_cases hjd:j<d.length
  ·have m:d[j]?=some c:=by
    rw [q,List.append_assoc,List.getElem?_append_right ω,List.getElem?_append_left ω] at f
    rw [← f];congr 1;omega
   have w:48<=c/\c<=57:=y c (List.mem_of_getElem? m)
   have o:Txt.isdigit ⟨#[c]⟩=true:=by rw [jT ω];unfold p8;rw [decide_eq_true w.1,decide_eq_true w.2];rfl
   rw [τ hjd] at h
   rw [o]
   exact h
  ·have x:j=d.length:=by omega
   have m:b[0]?=some c:=by
    rw [q,List.getElem?_append_right (by rw [List.length_append];omega)] at f
    rw [← f];congr 1;rw [List.length_append];omega
   have i:c<128/\p8 c=false:=by
    cases b with
    | nil=>cases m
    | cons a r=>exact u c r (by rw [show a=c by simpa using m])
   have o:Txt.isdigit ⟨#[c]⟩=false:=by rw [jT i.1];exact i.2
   rw [Γ hjd] at h
   rw [o]
   exact h
 ·rw [Γ (show ¬(((pre.length+j:Nat)):Int)<((z.length:Nat):Int) by omega)]
  rw [Γ (show ¬j<d.length by omega)] at h
  exact aL h
theorem Aq(F:Fun K "read_number" "Reader.read_number" BE f fd)(T:Tx K mg C):FnOk P w K mg base CX0 1 f fd ["self"] (rV C):=by
 refine F.ok scNum (λvs H Q E h=>?_) (λa5 A J s H vs Q E hr h=>?_)
 ·obtain ⟨p,o,z,g,b,l,rfl,_⟩:=h
  rfl
 obtain ⟨p,o,z,g,b,l,rfl,y,O,Y,D,G,q⟩:=h
 obtain ⟨U,I,d3,Z⟩:=D
 have hu:=iZ
 have lz:z.length=g.length+b.length+l.length:=by rw [i6,y];simp;omega
 refine ⟨_,ah (aH (i:=1) scNum.nd rfl (Or.inl rfl) (aq (pv 0) rfl))
  (ah (vm (tc:=pC K) PassesOwn.never (PW.pt (gN (ax su (aq (pv 0) rfl) (aK bz rfl T.len PySem.boot_len (ac (aq (pv 0) rfl) af)) (aw _))
    (iU (bL (Al PySem.F.plainAttrs_str PySem.F.slot_str_isdigit PySem.F.type_str_isdigit qV (az wF (aq (pv 0) rfl) (aq (pv 0) rfl) (λ_ _=>rfl)))))))
   (ai (mL (pv 0) aj wH)))
  (ah (aH (i:=2) scNum.nd rfl (Or.inl rfl) (lD uY (aq (pv 0) rfl) (hU (pv 1)) (hU (aq (pv 0) rfl))))
  (ah (aG (ax bJ (pv 2) aB (aw _)) aD aA)
  (ah (aG (ax mO (aK bz rfl T.len PySem.boot_len (ac (pv 2) af)) (oS T.cFig rfl) (aw _)) aD aA)
  (ah (aG (PW.pt (gN (bL (gq PySem.F.plainAttrs_str PySem.F.slot_str_startswith PySem.F.type_str_startswith my (pv 2) (ac aB af))) (iU (ax pQ (pv 2) aB (aw _))))) aD aA)
  (ai (au (aP cy rfl T.int PyProof.Rows.boot_int (ac (pv 2) af))))))))),?_⟩
 refine ⟨_,ϱ,p,C,o,_,_,ϱ,O,T.cl,T.nP,cn _ _,?_⟩
 refine ⟨λm σ H1=>∃j,m=b.length-j/\j<=b.length/\σ=[some (.ref p),some (.int (g.length:Nat)),none]/\H1 p=some (.ins C o (rf z ((g.length+j:Nat):Int)))/\But p H H1,
  ⟨b.length,0,ϱ,ϖ _,ϱ,O,But.refl p H⟩,?_⟩
 rintro m σ H1 ⟨j,rfl,hj,rfl,d,L⟩
 refine wx T y Y U G hj rfl d ?_
 by_cases hjd:j<b.length
 ·rw [τ hjd]
  refine cj ⟨_,fun σ' H' h=>h,?_⟩
  refine ⟨_,ϱ,p,C,o,_,_,ϱ,d,T.cl,T.nP,cn _ _,_,_,ϱ,ϱ,o,_,d,(by rw [qK];decide),?_⟩
  refine ⟨b.length-(j+1),ω,j+1,ϱ,hjd,ϱ,?_,L.upd _⟩
  rw [ae,qJ]
  have e:(((g.length+j:Nat)):Int)+1=((g.length+(j+1):Nat):Int):=by omega
  rw [e]
 ·rw [Γ hjd]
  obtain rfl:j=b.length:=by omega
  refine aL ?_
  refine ⟨_,ϱ,p,C,o,_,_,ϱ,d,T.cl,T.nT,hO _ _,_,ϱ,_,ϱ,_,ϱ,p,C,o,_,_,ϱ,d,T.cl,T.nP,cn _ _,_,ϱ,z,ϱ,ω,?_⟩
  rw [mI y]
  have u:(({cps:=b.toArray}:Str)).length=b.length:=by simp [Str.length]
  refine ⟨_,ϱ,ϱ,_,ϱ,?_⟩
  have n1:¬(V.str ({cps:=b.toArray}:Str)=V.str (Str.ofString "")):=by
   intro e
   have W:(({cps:=b.toArray}:Str))=Str.ofString "":=by injection e
   rw [yY] at W
   have e2:=congrArg (λs:Str=>s.cps.toList) W
   exact I (by simpa using e2)
  rw [Γ n1]
  refine aL ?_
  refine ⟨_,ϱ,_,ϱ,ω,_,_,ϱ,ϱ,_,ϱ,?_⟩
  rw [Γ (show ¬((400:Int)<((({cps:=b.toArray}:Str)).length:Nat)) by rw [u];omega)]
  refine aL ?_
  have X:PySem.intText? ({cps:=b.toArray}:Str)=some ((digitsVal b:Nat):Int):=by
   have:=intText_digits (x:=({cps:=b.toArray}:Str)) (by simpa using U) (by simpa using I) (by rw [u];omega)
   simpa using this
  refine ⟨_,ϱ,ϱ,_,_,ϱ,ϱ,_,ϱ,?_⟩
  have hs:Txt.startswith ({cps:=b.toArray}:Str) (Str.ofString "0")=decide (b[0]?=some 48):=by
   rw [wT,xM,kO]
  rw [hs]
  rcases Z with e4 | h4
  ·subst e4
   refine cj ⟨_,ϱ,ϱ,_,ϱ,?_⟩
   have n3:V.str ({cps:=([48]:List Nat).toArray}:Str)=V.str (Str.ofString "0"):=by rw [wT]
   rw [τ n3]
   exact aL ⟨_,ϱ,_,_,ϱ,X,by rw [u];omega,q H1 d L⟩
  ·have n4:¬b[0]?=some 48:=by
    cases b with
    | nil=>exact absurd rfl I
    | cons c r=>intro e;exact h4 c r rfl (by simpa using e)
   rw [Γ n4]
   exact aL (aL ⟨_,ϱ,_,_,ϱ,X,by rw [u];omega,q H1 d L⟩)
inductive nU (C:Addr) (vs:List V) (H:Hp) (Q:VK) (E:XK):Prop|mk p dx z pre ws post:vs=[.ref p,.int ((ws:List Nat).length:Nat)]->z.cps.toList=pre++ws++post->H p=some (.ins C dx (rf z (pre.length:Nat)))->z.length<=100000->ws.length<=2000->(∀H',H' p=some (.ins C dx (rf z ((pre.length+ws.length:Nat):Int)))->But p H H'->Q (.str ⟨ws.toArray⟩) H')->nU C vs H Q E
theorem scSigns:ao ["self","many","behind","signs"] ["self","many"] (defScope va):=⟨ϱ,ϱ,ϱ,θ,ϱ,θ,θ⟩
theorem vQ(F:Fun K "read_signs" "Reader.read_signs" va f fd)(T:Tx K mg C):FnOk P w K mg base CX0 1 f fd ["self","many"] (nU C):=by
 refine F.ok scSigns (λvs H Q E h=>?_) (λx A o s H vs Q E J h=>?_)
 ·obtain ⟨p,e,z,b,g,d,rfl,_⟩:=h
  rfl
 obtain ⟨p,e,z,b,g,d,rfl,r,j,y,D,q⟩:=h
 have G:=iZ
 have I:z.length=b.length+g.length+d.length:=by rw [i6,r];simp;omega
 refine ⟨_,ah (aH (i:=2) scSigns.nd rfl (Or.inl rfl) (aN d7 (aq (pv 0) rfl) (pv 1)))
  (ah (aG (ax mO (pv 1) (oS T.cSig rfl) (aw _)) aD aA)
  (ah (aG (ax mO (pv 2) (aK bz rfl T.len PySem.boot_len (ac (aq (pv 0) rfl) af)) (aw _)) aD aA)
  (ah (aH (i:=3) scSigns.nd rfl (Or.inl rfl) (lD uY (aq (pv 0) rfl) (hU (aq (pv 0) rfl)) (hU (pv 2))))
  (ah (aT (pv 0) (pv 2) rfl)
  (ai (au (pv 3))))))),?_⟩
 refine ⟨_,ϱ,p,C,e,_,_,ϱ,j,T.cl,T.nP,cn _ _,_,ϱ,_,_,ϱ,ϱ,?_⟩
 refine ⟨_,ϱ,_,_,ϱ,ϱ,_,ϱ,?_⟩
 rw [Γ (show ¬((2000:Int)<((g.length:Nat):Int)) by omega)]
 refine aL ⟨_,ϱ,_,ϱ,p,C,e,_,_,ϱ,j,T.cl,T.nT,hO _ _,z,ϱ,ω,_,_,ϱ,ϱ,_,ϱ,?_⟩
 have m:((b.length:Nat):Int)+((g.length:Nat):Int)=((b.length+g.length:Nat):Int):=by omega
 rw [m]
 rw [Γ (show ¬(((z.length:Nat):Int)<((b.length+g.length:Nat):Int)) by omega)]
 refine aL ⟨_,ϱ,p,C,e,_,_,ϱ,j,T.cl,T.nT,hO _ _,_,ϱ,p,C,e,_,_,ϱ,j,T.cl,T.nP,cn _ _,_,ϱ,_,ϱ,_,ϱ,z,ϱ,ω,?_⟩
 have u:=qH r rfl m
 rw [m] at u
 rw [u]
 refine ⟨_,ϱ,_,ϱ,p,C,e,_,ϱ,j,T.cl,T.nP,(by rw [qK];decide),_,ϱ,?_⟩
 refine q _ ?_ ((But.refl p H).upd _)
 rw [ae,← m]
 exact congrArg (λl=>some (HO.ins C e l)) (qJ z _ _)
inductive ol (C:Addr) (vs:List V) (H:Hp) (Q:VK) (E:XK):Prop|mk p dx z pre ds post:vs=[.ref p]->z.cps.toList=pre++ds++post->H p=some (.ins C dx (rf z (pre.length:Nat)))->z.length<=100000->xq ds->sQ post->digitsVal ds≠0->(∀H',H' p=some (.ins C dx (rf z ((pre.length+ds.length:Nat):Int)))->But p H H'->Q (.int (-((digitsVal ds:Nat):Int))) H')->ol C vs H Q E
theorem scBelow:ao ["self","number"] ["self"] (defScope vb):=⟨ϱ,ϱ,ϱ,θ,ϱ,θ,θ⟩
theorem wu{x:Addr}{y:FuncData}(F:Fun K "read_below" "Reader.read_below" vb f fd)(T:Tx K mg C)(W:FnOk P w K mg base CX0 1 x y ["self"] (rV C))(X:Binds K y ["self"] [])(Y:gH K C "read_number" x) :
  FnOk P w K mg base CX0 2 f fd ["self"] (ol C):=by
 refine F.ok scBelow (λvs H Q E h=>?_) (λL A o s H vs Q E O h=>?_)
 ·obtain ⟨p,g,z,d,j,b,rfl,_⟩:=h
  rfl
 obtain ⟨p,g,z,d,j,b,rfl,D,u,G,l,m,I,q⟩:=h
 refine ⟨_,ah (aH (i:=1) scBelow.nd rfl (Or.inl rfl) (iX (pv 0) T.cl Y W O X .nil a9))
  (ah (aG (ax bJ (pv 1) aj (aw _)) aD aA)
  (ai (au (zv uz (pv 1))))),?_⟩
 refine ⟨_,ϱ,p,g,_,ϱ,u,mK _ _ θ θ,p,g,z,d,j,b,ϱ,D,u,G,l,m,λH1 r U=>?_⟩
 refine ⟨_,ϱ,ϱ,_,ϱ,?_⟩
 have J:¬(V.int ((digitsVal j:Nat):Int)=V.int 0):=by intro e;injection e with e;omega
 rw [Γ J]
 exact aL ⟨_,ϱ,_,ϱ,q H1 r U⟩
end
inductive zi:List Nat->V->Prop where
 | num (n:Int) (h:n.natAbs<10 ^ 400):zi (bY n) (.int n)
 | txt (ws:List Nat) (h:ws.length<=2000):zi (bq ws.length++58::ws) (.str ⟨ws.toArray⟩)
def Ends(post:List Nat):Prop:=∀c r,post=c::r->c=32\/c=41
theorem lY(m:Nat)(h:m<10 ^ 400):xq (bq m):=by
 refine ⟨fz m,ja m,l0 ζ h,?_⟩
 by_cases h0:m=0
 ·subst h0;exact .inl ud
 ·exact .inr (ue m h0)
theorem Ends.stops{post:List Nat}(h:Ends post):sQ post:=λc r e=>by
 rcases h c r e with rfl | rfl<;>exact ⟨ζ,ζ⟩
theorem rg:(Str.ofString "(")=⟨#[40]⟩:=by decide +kernel
theorem oX:(Str.ofString "-")=⟨#[45]⟩:=by decide +kernel
theorem sI:(Str.ofString ":")=⟨#[58]⟩:=by decide +kernel
theorem rC{z:Str}{pre rest:List Nat}(e:z.cps.toList=pre++rest):z.cps.toList[pre.length]?=rest[0]?:=by
 rw [e,List.getElem?_append_right (ι _),Nat.sub_self]
theorem ng(m:Nat):∃c r,bq m=c::r/\48<=c/\c<=57:=by
 cases e:bq m with
 | nil=>exact absurd e (ja m)
 | cons c r =>
  have h:=fz m
  rw [e] at h
  exact ⟨c,r,ϱ,h.head⟩
section
variable {P:Program}{w:World}{K:Frag}{mg:Str->Option Value}{base:Heap}{f C:Addr}{fd:FuncData}
inductive uX (C:Addr) (vs:List V) (H:Hp) (Q:VK) (E:XK):Prop|mk p dx z pre it post v d:vs=[.ref p,d]->z.cps.toList=pre++it++post->H p=some (.ins C dx (rf z ((pre:List Nat).length:Nat)))->z.length<=100000->zi it v->Ends post->(∀H',H' p=some (.ins C dx (rf z ((pre.length+it.length:Nat):Int)))->But p H H'->Q v H')->uX C vs H Q E
theorem scAny:ao ["self","deep","number"] ["self","deep"] (defScope BG):=⟨ϱ,ϱ,ϱ,θ,ϱ,θ,θ⟩
theorem AB{fP fB fN fS:Addr}{dP dB dN dS:FuncData}(F:Fun K "read_any" "Reader.read_any" BG f fd)(T:Tx K mg C)
  (GP:FnOk P w K mg base CX0 1 fP dP ["self","sign"] (qA C))(bP:Binds K dP ["self","sign"] [])(mP:gH K C "passes" fP)
  (GB:FnOk P w K mg base CX0 2 fB dB ["self"] (ol C))(bB:Binds K dB ["self"] [])(mB:gH K C "read_below" fB)
  (GN:FnOk P w K mg base CX0 1 fN dN ["self"] (rV C))(bN:Binds K dN ["self"] [])(mN:gH K C "read_number" fN)
  (GS:FnOk P w K mg base CX0 1 fS dS ["self","many"] (nU C))(bS:Binds K dS ["self","many"] [])(mS:gH K C "read_signs" fS) :
  FnOk P w K mg base CX0 3 f fd ["self","deep"] (uX C):=by
 refine F.ok scAny (λvs H Q E h=>?_) (λbl A X s H vs Q E hr h=>?_)
 ·obtain ⟨p,g,z,pre,it,b,v,d,rfl,_⟩:=h
  rfl
 obtain ⟨p,g,z,pre,it,b,v,d,rfl,x,l,J,L,y,q⟩:=h
 have o:=hr.mono (show 1<=2 by decide)
 have u:∀(k:Int),(rf z k).lookup ("passes":Str)=none:=λk=>mK _ _ θ θ
 have nn:∀(k:Int),(rf z k).lookup ("read_number":Str)=none:=λk=>mK _ _ θ θ
 have nb:∀(k:Int),(rf z k).lookup ("read_below":Str)=none:=λk=>mK _ _ θ θ
 have ns:∀(k:Int),(rf z k).lookup ("read_signs":Str)=none:=λk=>mK _ _ θ θ
 refine ⟨_,ah (aG (bL (hV (pv 0) T.cl mP GP o bP .nil a9 (ac aB af))) aD aA)
  (ah (aG (bL (hV (pv 0) T.cl mP GP o bP .nil a9 (ac aB af))) (ai (au (iX (pv 0) T.cl mB GB hr bB .nil a9))) aA)
  (ah (aH (i:=2) scAny.nd rfl (Or.inl rfl) (iX (pv 0) T.cl mN GN o bN .nil a9))
  (ah (aG (bL (hV (pv 0) T.cl mP GP o bP .nil a9 (ac aB af))) (ai (au (hV (pv 0) T.cl mS GS o bS .nil a9 (ac (pv 2) af)))) aA)
  (ai (au (pv 2)))))),?_⟩
 have D:z.cps.toList=pre++(it++b):=by rw [x,List.append_assoc]
 have h0:=rC D
 cases L with
 | num n hn =>
  by_cases hneg:n<0
  ·have en:bY n=45::bq n.natAbs:=by unfold bY;rw [if_pos hneg]
   rw [en] at x D q h0
   have j:z.cps.toList[pre.length]?=some 45:=h0
   refine ⟨_,ϱ,p,g,_,ϱ,l,u _,p,g,z,40,pre.length,(by rw [rg];rfl),l,?_⟩
   rw [if_neg (by rw [j];decide)]
   refine ⟨_,ϱ,aL ?_⟩
   refine ⟨_,ϱ,p,g,_,ϱ,l,u _,p,g,z,45,pre.length,(by rw [oX];rfl),l,?_⟩
   rw [if_pos j]
   refine ⟨_,ϱ,cj ?_⟩
   refine ⟨_,ϱ,p,g,_,ϱ,ae,nb _,p,g,z,pre++[45],bq n.natAbs,b,ϱ,(by rw [x];simp),(by rw [ae];simp),J,lY _ hn,y.stops,(by rw [fw];omega),λH' Y I=>?_⟩
   have U:(-((digitsVal (bq n.natAbs):Nat):Int))=n:=by rw [fw];omega
   rw [U]
   refine q H' ?_ (((But.refl p H).upd _).trans I)
   rw [Y]
   have W:(pre++[45]).length+(bq n.natAbs).length=pre.length+(45::bq n.natAbs).length:=by simp;omega
   rw [W]
  ·have en:bY n=bq n.natAbs:=by unfold bY;rw [if_neg hneg]
   rw [en] at x D q h0
   obtain ⟨c,r,O,hc⟩:=ng n.natAbs
   have j:z.cps.toList[pre.length]?=some c:=by rw [h0,O];rfl
   refine ⟨_,ϱ,p,g,_,ϱ,l,u _,p,g,z,40,pre.length,(by rw [rg];rfl),l,?_⟩
   rw [if_neg (by rw [j];intro e;injection e with e;omega)]
   refine ⟨_,ϱ,aL ?_⟩
   refine ⟨_,ϱ,p,g,_,ϱ,l,u _,p,g,z,45,pre.length,(by rw [oX];rfl),l,?_⟩
   rw [if_neg (by rw [j];intro e;injection e with e;omega)]
   refine ⟨_,ϱ,aL ?_⟩
   refine ⟨_,ϱ,p,g,_,ϱ,l,nn _,p,g,z,pre,bq n.natAbs,b,ϱ,x,l,J,lY _ hn,y.stops,λH1 m I=>?_⟩
   have h1:z.cps.toList[pre.length+(bq n.natAbs).length]?=b[0]?:=by
    have:=rC (z:=z) (pre:=pre++bq n.natAbs) (rest:=b) x
    rw [List.length_append] at this
    exact this
   refine ⟨_,ϱ,p,g,_,ϱ,m,u _,p,g,z,58,pre.length+(bq n.natAbs).length,(by rw [sI];rfl),m,?_⟩
   rw [if_neg (by
    rw [h1]
    intro e
    cases b with
    | nil=>cases e
    | cons a r' =>
     have:=y a r' rfl
     have ea:a=58:=by simpa using e
     omega)]
   refine ⟨_,ϱ,aL ⟨_,ϱ,?_⟩⟩
   have U:((digitsVal (bq n.natAbs):Nat):Int)=n:=by rw [fw];omega
   rw [U]
   exact q H1 m I
 | txt ws hw =>
  obtain ⟨c,r,O,hc⟩:=ng ws.length
  have j:z.cps.toList[pre.length]?=some c:=by rw [h0,O];rfl
  refine ⟨_,ϱ,p,g,_,ϱ,l,u _,p,g,z,40,pre.length,(by rw [rg];rfl),l,?_⟩
  rw [if_neg (by rw [j];intro e;injection e with e;omega)]
  refine ⟨_,ϱ,aL ?_⟩
  refine ⟨_,ϱ,p,g,_,ϱ,l,u _,p,g,z,45,pre.length,(by rw [oX];rfl),l,?_⟩
  rw [if_neg (by rw [j];intro e;injection e with e;omega)]
  refine ⟨_,ϱ,aL ?_⟩
  have hl:ws.length<10 ^ 400:=Nat.lt_of_le_of_lt hw θ
  have G:z.cps.toList=pre++bq ws.length++(58::(ws++b)):=by rw [x];simp
  refine ⟨_,ϱ,p,g,_,ϱ,l,nn _,p,g,z,pre,bq ws.length,58::(ws++b),ϱ,G,l,J,lY _ hl,λc' r' e=>(by cases e;exact ⟨ζ,ζ⟩),λH1 m I=>?_⟩
  have h1:z.cps.toList[pre.length+(bq ws.length).length]?=some 58:=by
   have:=rC (z:=z) (pre:=pre++bq ws.length) (rest:=58::(ws++b)) G
   rw [List.length_append] at this
   exact this
  refine ⟨_,ϱ,p,g,_,ϱ,m,u _,p,g,z,58,pre.length+(bq ws.length).length,(by rw [sI];rfl),m,?_⟩
  rw [if_pos h1]
  refine ⟨_,ϱ,cj ?_⟩
  have el:(pre++bq ws.length++[58]).length=pre.length+(bq ws.length).length+1:=by simp;omega
  refine ⟨_,ϱ,p,g,_,ϱ,ae,ns _,_,ϱ,p,g,z,pre++bq ws.length++[58],ws,b,(by rw [fw];rfl),(by rw [G];simp),(by rw [ae,el]),J,hw,λH2 Z a0=>?_⟩
  refine q H2 ?_ ((I.upd _).trans a0)
  rw [Z]
  have W:(pre++bq ws.length++[58]).length+ws.length=pre.length+(bq ws.length++58::ws).length:=by simp;omega
  rw [W]
inductive qy (vs:List V) (H:Hp) (Q:VK) (E:XK):Prop|mk z v:vs=[.str z]->zi z.cps.toList v->((∀c∈z.cps.toList,qR c=true))->z.length<=100000->(∀H',Same H H'->Q v H')->qy vs H Q E
theorem scRead:ao ["text","reader","thing"] ["text"] (defScope rY):=⟨ϱ,ϱ,ϱ,θ,ϱ,θ,θ⟩
def vg:Scope:=match defBody rY with
 | _::.If (.UnaryOp _ (.Call _ [.ListComp _ _ sc _] _ _) _) _ _ _::_=>sc
 | _=>default
theorem z9:aQ ["text","reader","thing"] (defScope rY) vg "sign" ["sign"] []:=⟨θ,ϱ,θ,ϱ,θ,θ,ϱ,ϱ,λj h=>absurd h (Nat.not_lt_zero j)⟩
theorem yr{X Z fA:Addr}{dG dI dA:FuncData}(F:Fun K "read_thing" "read_thing" rY f fd)(T:Tx K mg C)(M:Mk K C Z)
  (GG:FnOk P w K mg base CX0 1 X dG ["sign"] qw)(bG:Binds K dG ["sign"] [])(kG:PySem.W.keepIn K (.ref X)=true)(mG:mg "is_sign"=some (.ref X))
  (GI:FnOk P w K mg base CX0 1 Z dI ["self","text"] (qF C))(bI:Binds K dI ["self","text"] [])
  (GA:FnOk P w K mg base CX0 3 fA dA ["self","deep"] (uX C))(bA:Binds K dA ["self","deep"] [])(mA:gH K C "read_any" fA) :
  FnOk P w K mg base CX0 4 f fd ["text"] qy:=by
 refine F.ok scRead (λvs H Q E h=>?_) (λa8 A I s H vs Q E J h=>?_)
 ·obtain ⟨z,v,rfl,_⟩:=h
  rfl
 obtain ⟨z,v,rfl,j,m,hz,q⟩:=h
 have u:=J.mono (show 1<=3 by decide)
 have y:=J.mono (show 2<=3 by decide)
 have hu:=iZ
 refine ⟨_,ah (aG (ax mO (aK bz rfl T.len PySem.boot_len (ac (pv 0) af)) (oS T.cLong rfl) (aw _)) aD aA)
  (ah (aG (dY (bL (aK (qj rfl) rfl T.all PyProof.Rows.boot_all (ac (cM z9 rfl (Ai (pv 0)) (λ_ _ _ _=>cg) (λ_ _ _ _=>sk GG u rfl mG kG bG .nil a9 (ac (pv 0) af))) af)))) aD aA)
  (ah (aH (i:=1) scRead.nd rfl (Or.inl rfl) (aY M GI y rfl T.mgC bI .nil a9 (ac (pv 0) af)))
  (ah (aH (i:=2) scRead.nd rfl (Or.inl rfl) (hV (pv 1) T.cl mA GA J bA .nil a9 (ac (oS T.cDeep rfl) af)))
  (ah (aG (ax pQ (aq (pv 1) rfl) (aK bz rfl T.len PySem.boot_len (ac (pv 0) af)) (aw _)) aD aA)
  (ai (au (pv 2))))))),?_⟩
 refine ⟨_,ϱ,z,ϱ,ω,_,_,ϱ,ϱ,_,ϱ,?_⟩
 rw [Γ (show ¬((100000:Int)<((z.length:Nat):Int)) by omega)]
 refine aL ?_
 refine ⟨_,ϱ,z,ϱ,λi Y H1=>i<=z.length/\Y=List.replicate i (V.bl true)/\H1=H,z.length,⟨ϖ _,ϱ,ϱ⟩,ω,?_⟩
 rintro i Y H1 ⟨hi,rfl,rfl⟩
 by_cases hlt:i<z.length
 ·refine .inr ⟨hlt,hlt,?_⟩
  rintro x H2 ⟨rfl,c,hc,rfl⟩
  refine ⟨_,ϱ,c,ϱ,hlt,?_,ϱ⟩
  rw [m c (List.mem_of_getElem? hc),List.replicate_succ']
 refine .inl ⟨by show z.length<=i;omega,λl hl=>?_⟩
 have e0:List.replicate i (V.bl true)=(List.replicate i true).map V.bl:=by simp
 refine ⟨l,List.replicate i true,ϱ,SqL.of (by rw [ae,e0]),_,ϱ,?_⟩
 have e1:(List.replicate i true).all id=true:=by simp
 rw [e1]
 refine aL ?_
 have sl:Same H1 (upd H1 l (.lst (List.replicate i (V.bl true)))):=λb o e=>by rw [am (ap e hl)];exact e
 refine ⟨_,ϱ,λx g nx L ar=>⟨x,g,z,ϱ,ae,ϱ,?_⟩⟩
 refine ⟨_,ϱ,x,g,_,ϱ,ae,mK _ _ θ θ,x,g,z,[],z.cps.toList,[],v,_,ϱ,(by simp),ae,hz,j,(λc r e=>nomatch e),λH3 O U=>?_⟩
 refine ⟨_,ϱ,x,C,g,_,_,ϱ,O,T.cl,T.nP,cn _ _,_,ϱ,z,ϱ,ω,ϱ,_,ϱ,?_⟩
 have e2:V.int ((([]:List Nat).length+z.cps.toList.length:Nat):Int)=V.int ((z.length:Nat):Int):=by rw [i6];simp
 rw [τ e2]
 refine aL ⟨_,ϱ,q H3 λb o e=>?_⟩
 have D:=sl b o e
 have d:b≠x:=ap D nx
 have G:b≠g:=ap D L
 refine U b o ?_ d
 rw [am d,am d,am d,am G]
 exact D
end
end K52T
namespace K52
open PySem L2 Lo St
section
variable {P:Program}{w:World}{K:Frag}{mg:Str->Option Value}{base:Heap}{f CL CS CH CV:Addr}{fd:FuncData}{C:Kd->Addr}{CW:Wd->Addr}
theorem yw(F:Fun K "made_sum" "made_sum" iB f fd)(I:WI P w K mg base CW .sum):FnOk P w K mg base CX0 4 f fd ["where","low","high"] (qC CW):=by
 refine F.ok pG (λvs H Q E h=>?_) (λo A e s H vs Q E r h=>?_)
 ·obtain ⟨x,y,z,rfl,_⟩:=h
  rfl
 obtain ⟨x,y,z,rfl,i,q⟩:=h
 have d:Room (2+1) _:=r
 refine ⟨_,ah (aG (ax mO (pv 1) (pv 2) (aw _)) aD aA) (ai (au (aY I.M I.ok d rfl I.m I.b .nil a9 (ac (pv 0) (ac (pv 1) (ac (pv 2) af)))))),?_⟩
 have l:y<=z:=i.2.2.2
 refine ⟨_,ϱ,_,ϱ,_,_,ϱ,ϱ,_,ϱ,bx (λc=>absurd (Ξ c) (show ¬z<y by omega)) (λ_=>?_)⟩
 exact ⟨_,ϱ,_,ϱ,_,ϱ,λp j u g C=>⟨p,j,[x,y,z],ϱ,i,ae,λD h1 G=>⟨ϱ,q _ D (lM u g G) ⟨p,j,ϱ,h1⟩⟩⟩⟩
theorem vX(F:Fun K "made_step" "made_step" gK f fd)(I:∀wd,WI P w K mg base CW wd)(GS:GF P w K mg base CX0 4 "made_sum" ["where","low","high"] (qC CW)):FnOk P w K mg base CX0 5 f fd ["word","numbers"] (qB CW):=by
 refine F.ok oq (λvs H Q E h=>?_) (λL A D s H vs Q E G h=>?_)
 ·obtain ⟨wd,b,J,rfl,_⟩:=h
  rfl
 obtain ⟨wd,b,J,rfl,g,i,q⟩:=h
 have j:Room (2+1) _:=G.mono ζ
 refine ⟨_,(ah (aG (ax bJ (pv 0) aB (aw _)) (ai (au (aY (I .take).M (I .take).ok j rfl (I .take).m (I .take).b .nil a9 (ac (az (r:=bK K) aE (pv 1) aj (λ_ _=>rfl)) (ac (az (r:=bK K) aE (pv 1) aj (λ_ _=>rfl)) af))))) aA)
  (ah (aG (ax bJ (pv 0) aB (aw _)) (ai (au (aY (I .mean).M (I .mean).ok j rfl (I .mean).m (I .mean).b .nil a9 (ac (az (r:=bK K) aE (pv 1) aj (λ_ _=>rfl)) (ac (az (r:=bK K) aE (pv 1) aj (λ_ _=>rfl)) af))))) aA)
  (ah (aG (ax bJ (pv 0) aB (aw _)) (ai (au (pc GS G (ac (az (r:=bK K) aE (pv 1) aj (λ_ _=>rfl)) (ac (az (r:=bK K) aE (pv 1) aj (λ_ _=>rfl)) (ac (az (r:=bK K) aE (pv 1) aj (λ_ _=>rfl)) af)))))) aA)
  (ah (aG (ax bJ (pv 0) aB (aw _)) (ai (au (aY (I .give).M (I .give).ok j rfl (I .give).m (I .give).b .nil a9 (ac (az (r:=bK K) aE (pv 1) aj (λ_ _=>rfl)) (ac (az (r:=bK K) aE (pv 1) aj (λ_ _=>rfl)) af))))) aA)
  (ah (aG (ax bJ (pv 0) aB (aw _)) (ai (au (aY (I .add).M (I .add).ok j rfl (I .add).m (I .add).b .nil a9 (ac (az (r:=bK K) aE (pv 1) aj (λ_ _=>rfl)) (ac (az (r:=bK K) aE (pv 1) aj (λ_ _=>rfl)) (ac (az (r:=bK K) aE (pv 1) aj (λ_ _=>rfl)) af)))))) aA)
  (ah (aG (ax bJ (pv 0) aB (aw _)) (ai (au (aY (I .plus).M (I .plus).ok j rfl (I .plus).m (I .plus).b .nil a9 (ac (az (r:=bK K) aE (pv 1) aj (λ_ _=>rfl)) af)))) aA)
  (ai (au (aY (I .need).M (I .need).ok j rfl (I .need).m (I .need).b .nil a9 (ac (az (r:=bK K) aE (pv 1) aj (λ_ _=>rfl)) af)))))))))),?_⟩
 refine ⟨_,ϱ,ϱ,_,ϱ,bx (λc=>?_) (λO=>?_)⟩
 ·obtain rfl:wd=.take:=fj c
  obtain ⟨x,y,rfl,_⟩:=i.c rfl
  exact ⟨_,ϱ,b,_,_,_,ϱ,ϱ,SqL.of g,ϱ,_,ϱ,b,_,_,_,ϱ,ϱ,SqL.of g,ϱ,λp e l d o=>⟨p,e,[x,y],ϱ,i,ae,λu h1 C=>⟨ϱ,q _ u (lM l d C) ⟨p,e,ϱ,h1⟩⟩⟩⟩
 refine ⟨_,ϱ,ϱ,_,ϱ,bx (λc=>?_) (λU=>?_)⟩
 ·obtain rfl:wd=.mean:=fj c
  obtain ⟨x,y,rfl,_⟩:=i.c rfl
  exact ⟨_,ϱ,b,_,_,_,ϱ,ϱ,SqL.of g,ϱ,_,ϱ,b,_,_,_,ϱ,ϱ,SqL.of g,ϱ,λp e l d o=>⟨p,e,[x,y],ϱ,i,ae,λu h1 C=>⟨ϱ,q _ u (lM l d C) ⟨p,e,ϱ,h1⟩⟩⟩⟩
 refine ⟨_,ϱ,ϱ,_,ϱ,bx (λc=>?_) (λW=>?_)⟩
 ·obtain rfl:wd=.sum:=fj c
  obtain ⟨x,y,z,rfl,_⟩:=i.s
  exact ⟨_,ϱ,b,_,_,_,ϱ,ϱ,SqL.of g,ϱ,_,ϱ,b,_,_,_,ϱ,ϱ,SqL.of g,ϱ,_,ϱ,b,_,_,_,ϱ,ϱ,SqL.of g,ϱ,x,y,z,ϱ,i,q⟩
 refine ⟨_,ϱ,ϱ,_,ϱ,bx (λc=>?_) (λX=>?_)⟩
 ·obtain rfl:wd=.give:=fj c
  obtain ⟨x,y,rfl,_⟩:=i.c rfl
  exact ⟨_,ϱ,b,_,_,_,ϱ,ϱ,SqL.of g,ϱ,_,ϱ,b,_,_,_,ϱ,ϱ,SqL.of g,ϱ,λp e l d o=>⟨p,e,[x,y],ϱ,i,ae,λu h1 C=>⟨ϱ,q _ u (lM l d C) ⟨p,e,ϱ,h1⟩⟩⟩⟩
 refine ⟨_,ϱ,ϱ,_,ϱ,bx (λc=>?_) (λY=>?_)⟩
 ·obtain rfl:wd=.add:=fj c
  obtain ⟨x,y,z,rfl,_⟩:=i.a
  exact ⟨_,ϱ,b,_,_,_,ϱ,ϱ,SqL.of g,ϱ,_,ϱ,b,_,_,_,ϱ,ϱ,SqL.of g,ϱ,_,ϱ,b,_,_,_,ϱ,ϱ,SqL.of g,ϱ,λp e l d o=>⟨p,e,[x,y,z],ϱ,i,ae,λu h1 C=>⟨ϱ,q _ u (lM l d C) ⟨p,e,ϱ,h1⟩⟩⟩⟩
 refine ⟨_,ϱ,ϱ,_,ϱ,bx (λc=>?_) (λZ=>?_)⟩
 ·obtain rfl:wd=.plus:=fj c
  obtain ⟨x,rfl,_⟩:=i.p
  exact ⟨_,ϱ,b,_,_,_,ϱ,ϱ,SqL.of g,ϱ,λp e l d o=>⟨p,e,[x],ϱ,i,ae,λu h1 C=>⟨ϱ,q _ u (lM l d C) ⟨p,e,ϱ,h1⟩⟩⟩⟩
 obtain rfl:wd=.need:=zK (cB (b:=.take) O) (cB (b:=.mean) U) (cB (b:=.sum) W) (cB (b:=.give) X) (cB (b:=.add) Y) (cB (b:=.plus) Z)
 obtain ⟨x,rfl,_⟩:=i.n
 exact ⟨_,ϱ,b,_,_,_,ϱ,ϱ,SqL.of g,ϱ,λp e l d o=>⟨p,e,[x],ϱ,i,ae,λu h1 C=>⟨ϱ,q _ u (lM l d C) ⟨p,e,ϱ,h1⟩⟩⟩⟩
theorem yq{l:Addr}{u:List Value}{new:String}(F:Fun K "read_number" "read_number" eU f fd)(B:TxB mg)(x:mg "NoThing"=some (.ref l))(L:PySem.W.excIn K l u new=true)(O:u.contains (.type "BaseException")=true)
  (U:∃t,mg "MOST_FIGURES_steps"=some (.int 40 t))(X:GF P w K mg base CX0 4 "read_thing" ["text"] K52T.qy)(Y:GF P w K mg base CX0 1 "is_whole" ["thing"] K52T.nO):FnOk P w K mg base CX0 5 f fd ["word","letter"] qz:=by
 refine F.ok sc_read_number (λvs H Q E h=>?_) (λI A g s H vs Q E m h=>?_)
 ·obtain ⟨i,c,rfl,_⟩:=h
  rfl
 obtain ⟨i,c,rfl,e,b,q⟩:=h
 have nd:=sc_read_number.nd
 refine ⟨_,ah (tD (j:=2) (C:=l) rfl rfl rfl nd rfl (Or.inl rfl) (Aj (pc X m (ac (pv 0) af))) rfl x (qr x L O) (λ_=>aD))
  (ah (aG (PW.pt (io (dY (bL (pc Y m (ac (pv 2) af)))) (fQ (ax mO (aK bz rfl B.len PySem.boot_len (ac (gq PySem.F.plainAttrs_str PySem.F.slot_str_lstrip PySem.F.type_str_lstrip qU (pv 0) (ac aB af)) af)) (oS U rfl) (aw _))))) aD aA)
  (ah (aG (PW.pt (gN (ax su (pv 2) aj (aw _)) (iU (ax pQ (pv 1) aB (aw _))))) aD aA)
  (ai (au (pv 2))))),?_⟩
 have y:=yV e
 have h1:(100000:Nat)<=sizeLine:=by decide
 have D:=qZ e
 refine ⟨_,ϱ,iS i,.int i,ϱ,(by rw [p9];exact .num i (Nat.lt_trans e θ)),(λd o=>?_),y,λH1 r=>?_⟩
 ·rw [p9] at o
  rcases AC o with rfl | ⟨a1,a2⟩
  ·decide
  ·show (decide _&&decide _&&_)=true
   simp
   omega
 refine ⟨_,ϱ,_,_,ϱ,ϱ,_,ϱ,aL ?_⟩
 refine ⟨_,ϱ,ϱ,iS i,_,ϱ,ϱ,ω,_,ϱ,Λ D ζ,_,_,ϱ,ϱ,_,ϱ,bx (λc=>absurd (Ξ c) (λz=>?_)) (λ_=>?_)⟩
 ·have Z:(40:Int)<(((Txt.lstripChars (iS i) (Str.ofString "-")).length:Nat):Int):=z
  omega
 refine ⟨_,ϱ,_,_,ϱ,ϱ,_,ϱ,bx (λJ=>?_) (λ_=>⟨_,ϱ,q H1 r⟩)⟩
 have G:c=86:=b (Ξ J)
 subst G
 exact ⟨_,ϱ,ϱ,_,ϱ,zB (congrArg V.str θ) ⟨_,ϱ,q H1 r⟩⟩
theorem vR(F:Fun K "read_step" "read_step" cY f fd)(B:TxB mg){J:Addr}(mS:mg "SHAPES"=some (.ref J))(tS:TabK K J kD)(GN:GF P w K mg base CX0 5 "read_number" ["word","letter"] qz)
  (GS:GF P w K mg base CX0 5 "made_step" ["word","numbers"] (qB CW)):FnOk P w K mg base CX0 6 f fd ["text"] (ky CW):=by
 refine F.ok sc_read_step (λvs H Q E h=>?_) (λa0 A y s H vs Q E O h=>?_)
 ·obtain ⟨d,b,rfl,_⟩:=h
  rfl
 obtain ⟨d,b,rfl,g,q⟩:=h
 have nd:=sc_read_step.nd
 have m:=g.len
 have u:=xS g
 refine ⟨_,ah (aH (i:=1) nd rfl (Or.inr rfl) (gq PySem.F.plainAttrs_str PySem.F.slot_str_split PySem.F.type_str_split jD (pv 0) (ac aB af)))
  (ah (aH (i:=2) nd rfl (Or.inr rfl) (yg (D:=kD) (hW (v:=.ref J) rfl mS rfl) (az (r:=bK K) aE (pv 1) aj (λ_ _=>rfl)) ⟨ϱ,ϱ,ϱ,ϱ⟩ tS))
  (ah (aG (PW.pt (io (ax lJ (pv 2) bX (aw _)) (fQ (ax pQ (aK bD rfl B.len PySem.boot_len (ac (pv 1) af)) (aN d7 (aK bz rfl B.len PySem.boot_len (ac (pv 2) af)) aj) (aw _))))) aD aA)
  (ai (au (pc GS O (ac (az (r:=bK K) aE (pv 1) aj (λ_ _=>rfl)) (ac (cM k8 rfl (cO rfl B.range (ac (aK bz rfl B.len PySem.boot_len (ac (pv 2) af)) af)) (λ_ _ _ _=>cg)
   (λ_ _ _ _=>pc GN O (ac (az (r:=bK K) aE (pv 1) (aN d7 (pv 0) aj) (λ_ _=>rfl)) (ac (az wF (pv 2) (pv 0) (λ_ _=>rfl)) af)))) af))))))),?_⟩
 refine ⟨_,ϱ,ϱ,txt d b,32,ϱ,congrArg (λz=>[V.str z]) jk,nE g,λp hp=>?_⟩
 rw [jh]
 have L:Same H _:=ag (o:=.lst ((wS d::b.map iS).map V.str)) hp
 have e:(upd H p (.lst ((wS d::b.map iS).map V.str))) p=some (.lst ((wS d::b.map iS).map V.str)):=ae
 generalize (upd H p _)=H1 at L e ⊢
 refine ⟨_,ϱ,p,_,_,_,ϱ,ϱ,SqL.of e,St.at0,wS d,shp d,ϱ,uZ d,?_⟩
 refine ⟨_,ϱ,ϱ,_,ϱ,bx (λc=>absurd (Ξ c) (by intro z;cases z)) (λ_=>?_)⟩
 refine ⟨_,ϱ,p,_,ϱ,.inl (SqL.of e),_,ϱ,_,ϱ,kW d,_,_,ϱ,ϱ,ϱ,_,ϱ,zB ?_ ?_⟩
 ·rw [u]
  simp
 refine ⟨_,ϱ,p,_,_,_,ϱ,ϱ,SqL.of e,St.at0,?_⟩
 refine ⟨_,ϱ,_,ϱ,kW d,_,ϱ,ω,by rw [u];omega,?_⟩
 have e0:(((shp d).length:Nat):Int).toNat=b.length:=by rw [u];rfl
 rw [e0]
 refine i9 (n:=b.length) (λi C H'=>Same H1 H'/\C=(b.take i).map V.int) ⟨Same.refl _,ϱ⟩ (Λ m.2 ζ) ?_ ?_
 ·rintro i C H2 W ⟨l,rfl⟩
  have x:b[i]?=some b[i]:=ξ W
  obtain ⟨c,X,j⟩:=z6 g x
  refine il ⟨_,ϱ,_,ϱ,_,_,ϱ,ϱ,p,_,_,_,ϱ,ϱ,SqL.of (l _ _ e),?_,_,ϱ,_,ϱ,_,_,_,ϱ,ϱ,kW d,bb X,b[i],c,ϱ,g.all _ (List.getElem_mem W),j,λU G=>⟨l.trans G,?_⟩⟩
  ·have Y:((i:Nat):Int)+1=((i+1:Nat):Int):=rfl
   rw [Y]
   refine bb ?_
   rw [List.map_cons,List.getElem?_cons_succ,List.map_map,List.getElem?_map,x]
   rfl
  ·have Z:b.take (i+1)=b.take i++[b[i]]:=by
    rw [List.take_add_one,x]
    rfl
   rw [Z,List.map_append]
   rfl
 ·rintro C H2 ⟨l,rfl⟩ p2 I
  rw [List.take_length]
  exact ⟨d,p2,b,ϱ,ae,g,λv U G st=>q v U (L.trans (l.trans ((ag I).trans G))) st⟩
structure Aw where
 (l dx lk pl dr an pe:Addr)
def wf(S:Addr)(home many:Int)(W:Aw):List (Str×V):=ay "pending" (.ref W.pe) (ay "answers" (.ref W.an) (ay "drafts" (.ref W.dr) (ay "locks" (.ref W.lk) (ay "many" (.int many) (ay "home" (.int home) (ay "stand" (.ref S) []))))))
section
variable {S:Addr}{home many:Int}{W:Aw}
theorem rH:(wf S home many W).lookup ("pending":Str)=some (.ref W.pe):=bH
theorem jP:(wf S home many W).lookup ("answers":Str)=some (.ref W.an):=by unfold wf;rw [aO θ,bH]
theorem pz:(wf S home many W).lookup ("drafts":Str)=some (.ref W.dr):=by unfold wf;rw [aO θ,aO θ,bH]
theorem pj:(wf S home many W).lookup ("locks":Str)=some (.ref W.lk):=by unfold wf;rw [aO θ,aO θ,aO θ,bH]
theorem zj:(wf S home many W).lookup ("stand":Str)=some (.ref S):=by unfold wf;rw [aO θ,aO θ,aO θ,aO θ,aO θ,aO θ,bH]
theorem cX{m:Str}(h:decide (m∈(["pending","answers","drafts","locks","many","home","stand"]:List Str))=false):(wf S home many W).lookup m=none:=by
 have b:m∉(["pending","answers","drafts","locks","many","home","stand"]:List Str):=of_decide_eq_false h
 simp only [List.mem_cons,List.not_mem_nil,or_false,not_or] at b
 obtain ⟨h1,d,e,f,g,i,j⟩:=b
 unfold wf
 rw [aO h1,aO d,aO e,aO f,aO g,aO i,aO j]
 rfl
end
structure TxV(K:Frag)(CV:Addr):Prop where
 cl:Cls K CV
 st:NoAttr K CV "stand"
 ho:NoAttr K CV "home"
 mn:NoAttr K CV "many"
 lk:NoAttr K CV "locks"
 dr:NoAttr K CV "drafts"
 an:NoAttr K CV "answers"
 pe:NoAttr K CV "pending"
def bW(dk:List (Key×V))(cells:List Int)(c:Int):Int:=match bu dk (.inl c) with | some (.int v)=>v | _=>cells.getD c.toNat 0
def DrI(dk:List (Key×V)):Prop:=∀(c:Int) (v:V),bu dk (.inl c)=some v->∃i,v=.int i
inductive iH (CS CV:Addr) (vs:List V) (H:Hp) (Q:VK) (E:XK):Prop|mk W home many A cs p pa o dk c:vs=[.ref (W:Aw).l,.ref pa,.int c]->H W.l=some (.ins CV W.dx (wf (A:Ad).l home many W))->H W.dr=some (.dT (dOf p o))->((∀x,o=some x->H x=some (.dK dk)))->((o=none->dk=[]))->DrI dk->H A.l=some (.ins CS A.dx (sf A))->H A.cl=some (.lst ((cs:List Int).map V.int))->PaA H p pa->0<=c->c<cs.length->(∀H',Same H H'->Q (.int (bW dk cs c)) H')->iH CS CV vs H Q E
theorem vO(F:Fun K "value_at" "Works.value_at" cR f fd)(D:TxD K CS)(T:TxV K CV)(GC:GM P w K mg base CX0 1 CS "cell_at" ["self","cell"] (iL CS)):FnOk P w K mg base CX0 2 f fd ["self","p","cell"] (iH CS CV):=by
 refine F.ok sc_Works_value_at (λvs H Q E h=>?_) (λa3 A J s H vs Q E C h=>?_)
 ·obtain ⟨W,r,u,A,d,p,X,o,g,c,rfl,_⟩:=h
  rfl
 obtain ⟨W,r,u,A,d,p,X,o,g,c,rfl,L,O,Y,Z,di,U,G,hp,c0,c1,q⟩:=h
 have nd:=sc_Works_value_at.nd
 refine ⟨_,ah (aH (i:=3) nd rfl (Or.inl rfl) (lE (cu C) (aq (pv 0) rfl) (pv 1) gR ⟨ϱ,ϱ,ϱ,ϱ⟩))
  (ai (au (pM (gO (oK (cu C) (pv 2) (pv 3))) (fV (cu C) (pv 3) (pv 2) (λ_ _=>rfl)) (pm GC (aq (pv 0) rfl) D.cl C (ac (pv 2) af))))),?_⟩
 refine ⟨_,ϱ,W.l,CV,W.dx,_,_,ϱ,L,T.cl,T.dr,pz,W.dr,ϱ,.inr ⟨_,.inl O⟩,_,ϱ,λq0 m=>⟨_,DGet.t (k:=pk p) (ag m _ _ O) (ag m _ _ hp),?_⟩⟩
 have j:=ag (o:=.dK []) m
 rw [cV]
 obtain ⟨x,hx,y⟩:∃x,(Option.map V.ref o).getD (.ref q0)=.ref x/\(upd H q0 (.dK [])) x=some (.dK g):=by
  cases o with
  | none=>exact ⟨q0,rfl,by rw [Z rfl];exact ae⟩
  | some x=>exact ⟨x,rfl,j _ _ (Y x rfl)⟩
 rw [hx]
 refine ⟨_,ϱ,_,ϱ,x,_,ϱ,DGet.k (k:=.inl c) y,_,ϱ,bx (λe=>?_) (λe=>?_)⟩
 ·cases b:bu g (.inl c) with
  | none=>rw [b] at e;cases e
  | some v =>
   obtain ⟨i,rfl⟩:=di c v b
   have I:bW g d c=i:=by unfold bW;rw [b]
   rw [I] at q
   refine ⟨_,ϱ,_,ϱ,x,.int i,ϱ,?_,q _ j⟩
   have:=DGet.k (k:=.inl c) y
   rw [b] at this
   exact this
 ·have b:bu g (.inl c)=none:=by
   cases b:bu g (.inl c) with
   | none=>rfl
   | some v=>exact absurd (by rw [b];rfl) e
  obtain ⟨n,rfl⟩:∃n:Nat,c=(n:Int):=⟨c.toNat,ω⟩
  have z:n<d.length:=by omega
  have I:bW g d (n:Int)=d[n]:=by
   unfold bW
   rw [b]
   show d.getD n 0=_
   rw [List.getD_eq_getElem?_getD,ξ z]
   rfl
  rw [I] at q
  exact ⟨_,ϱ,W.l,CV,W.dx,_,_,ϱ,j _ _ L,T.cl,T.st,zj,A.l,A.dx,_,ϱ,j _ _ U,iN θ,_,ϱ,A,n,_,d,ϱ,j _ _ U,j _ _ G,ξ z,q _ j⟩
abbrev oC:Expr:=match (defBody aW).getD 0 (.Pass default) with | .Assign _ (.Call _ [_,l] _ _) _=>l | _=>.Name "" default
abbrev yc:Str:="Works.do_step.<locals>.<lambda>"
def BU:Pos:=match oC with | .Lambda _ _ _ p=>p | _=>default
def xa:Option Addr->Array Value
 | none=>#[]
 | some c=>kM BU c
abbrev Odb:=Option Addr×Option Addr
structure Bx where
 (home many:Int)(p:Pa)(pa:Addr)(A:Ad)(Pt:Addr)
structure Wx where
 (W:Aw)(dl:Addr)(vs:List V)(o:Odb)(dk ak:List (Key×V))(due:List Lk)(cz:Option Addr)
def odc(x:Wx):Cs:=(x.o.1.toList.map λd=>(d,HO.dK x.dk))++x.o.2.toList.map λa=>(a,HO.dK x.ak)
def wkL(CL:Addr)(b:Bx)(x:Wx):Cs:=(x.W.lk,.ins CL x.dl [("pairs",.ref x.W.pl)])::(x.W.pl,.lst x.vs)::(x.W.dr,.dT (dOf b.p x.o.1))::(x.W.an,.dT (dOf b.p x.o.2))::(x.W.pe,.dT [])::odc x
def wtL(CL:Addr)(b:Bx)(x:Wx):Cs:=(b.Pt,.tbl (xa x.cz))::wkL CL b x
structure Nq(C:Kd->Addr)(CS CH CL CV:Addr):Prop where
 s:CS≠CH/\CS≠CL
 v:CV≠CH/\CV≠CL
 k:∀k,C k≠CH/\C k≠CL
structure Wo(C:Kd->Addr)(CS CV:Addr)(K:Frag)(H:Hp)(b:Bx)(d:Sx)(x:Wx):Prop where
 si:Si CS K H b.p b.A d
 wi:H x.W.l=some (.ins CV x.W.dx (wf b.A.l b.home b.many x.W))
 ps:Paired (PrO C K H) (x.due.map λk=>((b.p,k):Pr)) x.vs
 cz:∀c,x.cz=some c->H c=some (jf c yc)
 pa:PaA H b.p b.pa
 n1:x.o.1=none->x.dk=[]/\x.o.2=none
 n2:x.o.2=none->x.ak=[]
theorem rJ(S:Addr)(home many:Int)(W:Aw):wf S home many W≠[]:=λz=>by
 have:=rH (S:=S) (home:=home) (many:=many) (W:=W)
 rw [z] at this
 cases this
theorem BQ(f l:Int):lf f l≠[]:=λz=>by
 have:=i5 f l
 rw [z] at this
 cases this
theorem PrO.im{H H':Hp}{y:Pr}{v:V}(n:∀k,C k≠CH/\C k≠CL)(e:ImS CH CL H H')(h:PrO C K H y v):PrO C K H' y v:=by
 have t:TSame H H':=λb r q=>e b _ q ϰ
 obtain ⟨a,u,l,f,g,i,d,j,m,o⟩:=h
 exact ⟨a,u,l,f,g.keep t,cPa.keep t i,d,j,m,e d _ o ⟨BQ _ _,n _⟩⟩
section
variable {N N':List Addr}{H0 H H':Hp}{b:Bx}{S S':Cs}{d d':Sx}{x x':Wx}
theorem Wo.im(g:Wo C CS CV K H b d x)(n:Nq C CS CH CL CV)(t:ImS CH CL H H'):Wo C CS CV K H' b d x :=
 ⟨g.si.im t n.s,t _ _ g.wi ⟨rJ _ _ _ _,n.v⟩,pp g.ps λ_ _ z=>PrO.im n.k t z,λc e=>t _ _ (g.cz c e) ϰ,t _ _ g.pa ϰ,g.n1,g.n2⟩
structure Gd(C:Kd->Addr)(CS CH CL CV:Addr)(K:Frag)(N:List Addr)(H0 H:Hp)(b:Bx)(S:Cs)(d:Sx)(x:Wx):Prop where
 ow:Ow CH CL N H0 H (S++(stL b.p b.A d++wtL CL b x))
 wo:Wo C CS CV K H b d x
theorem Gd.same(g:Gd C CS CH CL CV K N H0 H b S d x)(n:Nq C CS CH CL CV)(e:Same H H'):Gd C CS CH CL CV K N H0 H' b S d x:=⟨g.ow.same e,g.wo.im n (cK e)⟩
theorem Gd.trans(g:Gd C CS CH CL CV K N H0 H b S d x)(g2:Gd C CS CH CL CV K (ad (S++(stL b.p b.A d++wtL CL b x))) H H' b S' d' x'):Gd C CS CH CL CV K N H0 H' b S' d' x':=⟨g.ow.trans g2.ow,g2.wo⟩
theorem zA{p:Pa}{A:Ad}:∀u∈stL p A d,¬Im CH CL u.2:=by
 intro u b
 simp only [stL,List.mem_cons,List.not_mem_nil,or_false] at b
 rcases b with e | e | e | e<;>subst e<;>exact id
theorem zy:∀u∈wtL CL b x,¬Im CH CL u.2:=by
 intro u d
 simp only [wtL,wkL,odc,List.mem_cons,List.mem_append,List.mem_map] at d
 rcases d with e | e | e | e | e | e | ⟨y,_,e⟩ | ⟨y,_,e⟩<;>subst e<;>first | exact id | exact λz=>z.2.2 rfl
theorem gr{A:Addr}{h:Ah}{d:List Addr}{us:List V}{v:V}:∀u∈shL CH A h d us v,¬Im CH CL u.2:=by
 intro u b
 simp only [shL,List.mem_cons,List.not_mem_nil,or_false] at b
 rcases b with e | e | e<;>subst e<;>first | exact id | exact λz=>z.2.1 rfl
theorem AE(hS:∀u∈S,¬Im CH CL u.2):∀u∈S++(stL b.p b.A d++wtL CL b x),¬Im CH CL u.2:=λu hu =>
 (List.mem_append.mp hu).elim (hS u) λh=>(List.mem_append.mp h).elim (zA u) (zy u)
theorem Gd.self(g:Gd C CS CH CL CV K N H0 H b S d x)(hS:∀u∈S,¬Im CH CL u.2):Gd C CS CH CL CV K (ad (S++(stL b.p b.A d++wtL CL b x))) H H b S d x:=⟨g.ow.self (AE hS),g.wo⟩
theorem Gd.co(g:Gd C CS CH CL CV K N H0 H b S d x){u:Addr×HO}(hu:u∈wtL CL b x):H u.1=some u.2:=g.ow.co u (Ψ _ (Ψ _ hu))
theorem Gd.sa(g:Gd C CS CH CL CV K N H0 H b S d x):Sa CS K H b.p b.A d:=⟨g.wo.si,λu hu=>g.ow.co u (Ψ _ (List.mem_append_left _ hu))⟩
theorem Gd.ls(g:Gd C CS CH CL CV K N H0 H b S d x):LS C CL K H x.W.lk x.W.pl (x.due.map λk=>((b.p,k):Pr)):=⟨x.dl,x.vs,g.co j1,g.co j2,g.wo.ps⟩
theorem Gd.dr(g:Gd C CS CH CL CV K N H0 H b S d x):H x.W.dr=some (.dT (dOf b.p x.o.1)):=g.co j3
theorem Gd.an(g:Gd C CS CH CL CV K N H0 H b S d x):H x.W.an=some (.dT (dOf b.p x.o.2)):=g.co j4
theorem Gd.pe(g:Gd C CS CH CL CV K N H0 H b S d x):H x.W.pe=some (.dT []):=g.co j5
theorem Gd.dd{a:Addr}(g:Gd C CS CH CL CV K N H0 H b S d x)(e:x.o.1=some a):H a=some (.dK x.dk):=g.co (u:=(a,.dK x.dk)) (by simp [wtL,wkL,odc,e])
theorem Gd.aa{a:Addr}(g:Gd C CS CH CL CV K N H0 H b S d x)(e:x.o.2=some a):H a=some (.dK x.ak):=g.co (u:=(a,.dK x.ak)) (by simp [wtL,wkL,odc,e])
theorem Gd.tb(g:Gd C CS CH CL CV K N H0 H b S d x):Tb H b.Pt BU yc:=by
 have e:=g.co (u:=(b.Pt,_)) j0
 cases ec:x.cz with
 | none=>exact .inl (by rw [ec] at e;exact e)
 | some c=>exact .inr ⟨c,by rw [ec] at e;exact e,g.wo.cz c ec⟩
theorem Gd.kp{a:Addr}{o o':HO}(g:Gd C CS CH CL CV K N H0 H b S d x)(n:Nq C CS CH CL CV)(i:Nat)(hi:(S++(stL b.p b.A d++wtL CL b x))[i]?=some (a,o))(k:Kp a H H')(e:H' a=some o')(hn:¬Im CH CL o)(wo:Wo C CS CV K H b d' x')(el:(S++(stL b.p b.A d++wtL CL b x)).set i (a,o')=S'++(stL b.p b.A d'++wtL CL b x'):=by rfl):Gd C CS CH CL CV K N H0 H' b S' d' x' :=
 ⟨el▸g.ow.kp i hi k e,wo.im n (gZ k (g.ow.co _ (List.mem_of_getElem? hi)) hn)⟩
theorem Gd.sh{h:Ah}{rs:List Addr}{us:List V}{v:V}{S:Addr}(g:Gd C CS CH CL CV K N H0 H b (shL CH S h rs us v) d x):H h.l=some (.ins CH h.dx (hf S h v)):=g.ow.co _ (List.mem_append_left _ j0)
end
def isB(d:Sx):Bool:=match d.en with | none=>d.rd.isSome | some _=>false
inductive rW (CS CV:Addr) (K:Frag) (vs:List V) (H:Hp) (Q:VK) (E:XK):Prop|mk W home many A d pa p:vs=[.ref (W:Aw).l,.ref pa]->H W.l=some (.ins CV W.dx (wf (A:Ad).l home many W))->Sa CS K H p A d->PaA H p pa->(∀H',Same H H'->Q (.bl (isB d)) H')->rW CS CV K vs H Q E
theorem A5{H:Hp}{p:Pa}{A:Ad}{d:Sx}(st:Sa CS K H p A d):∃rs:List Rd,bnd d=rs.map (λx=>V.ref x.r)/\(∀x∈rs,d.rd=some x/\RdAt K H p x)/\rs.length<=1/\decide (p∈rs.map λ_=>p)=isB d:=by
 unfold bnd isB
 cases d.en with
 | some e=>exact ⟨[],rfl,(λ_ h=>nomatch h),ϖ _,rfl⟩
 | none =>
  cases er:d.rd with
  | none=>exact ⟨[],rfl,(λ_ h=>nomatch h),ϖ _,rfl⟩
  | some y=>exact ⟨[y],rfl,λx h=>by rw [ϵ.mp h];exact ⟨rfl,st.rd y er⟩,ι _,τ Ω⟩
theorem Ax(F:Fun K "is_bound" "Works.is_bound" bM f fd)(D:TxD K CS)(T:TxV K CV)(GB:GM P w K mg base CX0 1 CS "bound" ["self"] (kC CS K)):FnOk P w K mg base CX0 2 f fd ["self","p"] (rW CS CV K):=by
 refine F.ok iP (λvs H Q E h=>?_) (λa8 A L s H vs Q E Y h=>?_)
 ·obtain ⟨W,e,g,A,d,pa,p,rfl,_⟩:=h
  rfl
 obtain ⟨W,e,g,A,d,pa,p,rfl,hi,C,sp,q⟩:=h
 refine ⟨_,ai (au (bo (Ap cPa (hun Y)) (pv 1) (cM ii rfl (bV (pm0 GB (aq (pv 0) rfl) D.cl Y)) (λ_ _ _ _=>cg) (λ_ _ _ _=>az (r:=ba K) aC (pv 0) aj (λ_ _=>rfl))) rfl)),?_⟩
 obtain ⟨G,eb,I,J,ed⟩:=A5 C
 refine ⟨_,ϱ,_,ϱ,W.l,CV,W.dx,_,_,ϱ,hi,T.cl,T.st,zj,A.l,A.dx,_,ϱ,C.ins,iN θ,p,A,d,ϱ,C,λl H1 Z n1 O=>⟨l,ϱ,⟨_,SqL.of O⟩,?_⟩⟩
 rw [eb] at O
 refine cA (xs:=G.map λx=>V.ref x.r) (λi b U=>Same H1 U/\Paired (cPa.rp K U) ((G.take i).map λ_=>p) b) ⟨Same.refl _,.nil⟩ (Λ (by rw [ν];exact J) ζ) (λi b U _ z=>SqL.of (z.1 _ _ O)) ?_ ?_
 ·rintro i u b H2 hu ⟨m,y⟩
  rw [List.getElem?_map] at hu
  obtain ⟨x,ex,rfl⟩:=Option.map_eq_some_iff.mp hu
  obtain ⟨a6,lv,dv,us,h1,h2,_⟩:=((I x (List.mem_of_getElem? ex)).2).keep (CH:=CS) (CL:=CS) (cK (Z.trans m))
  refine il ⟨_,ϱ,x.r,_,_,_,ϱ,ϱ,SqT.of h1,St.at1,m,?_⟩
  rw [List.take_succ,ex,List.map_append]
  exact y.app (.cons (gn (k:=p) h2) .nil)
 ·rintro b H2 ⟨m,y⟩ p2 j
  rw [ν,List.take_length] at y
  have X:=Z.trans (m.trans (ag (o:=.lst b) j))
  refine ⟨p,p2,b,_,gn (k:=p) (X _ _ sp),ϱ,.inl (SqL.of ae),Paired.mapP y λ_ _ z=>cPa.keep (ag j).ts z,?_⟩
  rw [show ∀i:Decidable (p∈G.map λ_=>p),@decide _ i=isB d from λi=>by rw [← ed];congr]
  exact q _ X
inductive rT (C:Kd->Addr) (CL CV:Addr) (K:Frag) (vs:List V) (H:Hp) (Q:VK) (E:XK):Prop|mk W home many S ps:vs=[.ref (W:Aw).l]->H W.l=some (.ins CV W.dx (wf S home many W))->LS C CL K H W.lk W.pl ps->ps.length<=1000->Un ps->(∀q H',Same H H'->H' q=some (.lst [])->Q (.ref q) H')->rT C CL CV K vs H Q E
inductive pD (C:Kd->Addr) (CL CV:Addr) (K:Frag) (vs:List V) (H:Hp) (Q:VK) (E:XK):Prop|mk W home many S ps:vs=[.ref (W:Aw).l]->H W.l=some (.ins CV W.dx (wf S home many W))->LS C CL K H W.lk W.pl ps->ps.length<=1000->Un ps->(∀q H' us,Same H H'->H' q=some (.lst us)->Paired (cPr.rp K H') ps us->Q (.ref q) H')->pD C CL CV K vs H Q E
theorem vJ(F:Fun K "waiting" "Works.waiting" dj f fd)(T:TxV K CV)(L:TxL K C CL)(x:GM P w K mg base CX0 5 CL "waiting" ["self"] (tj C CL K)):FnOk P w K mg base CX0 6 f fd ["self"] (rT C CL CV K):=by
 refine F.ok jl (λvs H Q E h=>?_) (λr A g s H vs Q E u h=>?_)
 ·obtain ⟨W,b,d,S,i,rfl,_⟩:=h
  rfl
 obtain ⟨W,b,d,S,i,rfl,j,ls,q1,q2,q⟩:=h
 refine ⟨_,ai (au (pm0 x (aq (pv 0) rfl) L.cl u)),?_⟩
 obtain ⟨m,o,e,_⟩:=id ls
 exact ⟨_,ϱ,W.l,CV,W.dx,_,_,ϱ,j,T.cl,T.lk,pj,W.lk,m,_,ϱ,e,eN θ,W.lk,W.pl,i,ϱ,ls,q1,q2,q⟩
theorem vL(F:Fun K "held" "Works.held" f6 f fd)(T:TxV K CV)(L:TxL K C CL)(x:GM P w K mg base CX0 5 CL "held" ["self"] (uT C CL K cPr.rp)):FnOk P w K mg base CX0 6 f fd ["self"] (pD C CL CV K):=by
 refine F.ok mo (λvs H Q E h=>?_) (λr A g s H vs Q E u h=>?_)
 ·obtain ⟨W,b,d,S,i,rfl,_⟩:=h
  rfl
 obtain ⟨W,b,d,S,i,rfl,j,ls,q1,q2,q⟩:=h
 refine ⟨_,ai (au (pm0 x (aq (pv 0) rfl) L.cl u)),?_⟩
 obtain ⟨m,o,e,_⟩:=id ls
 exact ⟨_,ϱ,W.l,CV,W.dx,_,_,ϱ,j,T.cl,T.lk,pj,W.lk,m,_,ϱ,e,eN θ,W.lk,W.pl,i,ϱ,ls,q1,q2,q⟩
theorem wM(b:List Lk):∀d:List Lk,(b.foldl fu d).length<=d.length+b.length:=by
 induction b with
 | nil=>intro d;exact ι _
 | cons k r ih =>
  intro d
  have h1:=ih (fu d k)
  have e:=sJ d k
  show (r.foldl fu (fu d k)).length<=d.length+(r.length+1)
  omega
def Red(due:List Lk):Prop:=due.foldl fu []=due
theorem Red.ask{b:List Lk}(h:Red b)(k:Lk):Red (fu b k):=by
 unfold fu
 split
 ·exact h
 ·next e =>
  unfold Red at h ⊢
  rw [List.foldl_append,h]
  show fu b k=_
  unfold fu
  rw [if_neg e]
theorem Af{H:Hp}{ch:List Pa}{us:List V}(h:Paired (sPa K H) ch us):Paired (prD H) (chK ch) us:=by
 induction h with
 | nil=>exact .nil
 | cons r _ ih=>exact .cons r ih
def upX(d:Sx):Option Rd:=match d.en with | none=>d.rd | some _=>none
theorem A3(d:Sx):bnd d=(upX d).toList.map λx=>V.ref x.r:=by
 unfold bnd upX
 cases d.en with
 | some e=>rfl
 | none=>cases d.rd<;>rfl
theorem Be{d:Sx}{y:Rd}(h:upX d=some y):d.rd=some y:=by
 unfold upX at h
 cases e:d.en with
 | some z=>rw [e] at h;cases h
 | none=>rw [e] at h;exact h
def Upd(u:Option Rd)(o:Odb)(dk:List (Key×V))(due:List Lk):Prop:=o.2=none/\o.1.isSome=u.isSome/\dk=aF [] (chK ((u.map Rd.ch).getD []))/\due=(u.map Rd.due).getD []
section
variable (C:Kd->Addr)(CS CH CL CV:Addr)(K:Frag)
inductive qu (vs:List V) (H:Hp) (Q:VK) (E:XK):Prop|mk b W dl y:vs=[.ref (W:Aw).l,.ref (y:Rd).r]->Ow CH CL (ad (wkL CL b ⟨W,dl,[],(none,none),[],[],[],none⟩)) H H (wkL CL b ⟨W,dl,[],(none,none),[],[],[],none⟩)->H W.l=some (.ins CV W.dx (wf b.A.l b.home b.many W))->RdAt K H b.p y->Red y.due->y.due.length<=900->y.ch.length<=900->(∀dd vs H',Ow CH CL (ad (wkL CL b ⟨W,dl,[],(none,none),[],[],[],none⟩)) H H' (wkL CL b ⟨W,dl,vs,(some dd,none),aF [] (chK y.ch),[],y.due,none⟩)->Paired (PrO C K H') (y.due.map λk=>((b.p,k):Pr)) vs->Q .non H')->qu vs H Q E
inductive nQ (vs:List V) (H:Hp) (Q:VK) (E:XK):Prop|mk l dx b d:vs=[.ref l,.ref (b:Bx).A.l,.int b.home,.int b.many]->H l=some (.ins CV dx [])->Sa CS K H b.p b.A d->((∀y,upX d=some y->Red y.due/\y.due.length<=900/\y.ch.length<=900))->(∀W dl vs o dk due H',(W:Aw).l=l->Ow CH CL [l] H H' (wkL CL b ⟨W,dl,vs,o,dk,[],due,none⟩)->H' l=some (.ins CV W.dx (wf b.A.l b.home b.many W))->Paired (PrO C K H') (due.map λk=>((b.p,k):Pr)) vs->Upd (upX d) o dk due->Q .non H')->nQ vs H Q E
end
theorem yo(F:Fun K "take_up" "Works.take_up" dm f fd)(m:mg "dict"=none)(T:TxV K CV)(L:TxL K C CL)(n:Nq C CS CH CL CV)(GA:GM P w K mg base CX0 5 CL "ask" ["self","p","lock"] (xP C CL K))(GO:GF P w K mg base CX0 3 "lock_of" ["told"] (iI C K)) :
  FnOk P w K mg base CX0 6 f fd ["self","row"] (qu C CH CL CV K):=by
 refine F.ok sc_Works_take_up (λvs H Q E h=>?_) (λbC A a4 s H vs Q E hr h=>?_)
 ·obtain ⟨b,W,D,y,rfl,_⟩:=h
  rfl
 obtain ⟨b,W,D,y,rfl,g,hi,U,X,ld,lc,q⟩:=h
 have nd:=sc_Works_take_up.nd
 refine ⟨_,ah (gP PassesOwn.never rfl (oJ (az (r:=ba K) aC (pv 1) aj (λ_ _=>rfl))) (ci (i:=2) nd rfl (Or.inl rfl)) (ai (aV (pm GA (aq (pv 0) rfl) L.cl hr (ac (az (r:=ba K) aC (pv 1) aj (λ_ _=>rfl)) (ac (pc GO hr (ac (pv 2) af)) af))))))
  (ai (fU (cu hr) (aq (pv 0) rfl) (az (r:=ba K) aC (pv 1) aj (λ_ _=>rfl)) (aP (rA rfl) rfl m PyProof.Rows.boot_dict (ac (az (r:=ba K) aC (pv 1) aj (λ_ _=>rfl)) af)) rfl)),?_⟩
 obtain ⟨pa,lv,dv,us,h1,h2,⟨t,ls,rfl,h3,G⟩,tf,ps⟩:=id U
 refine ⟨_,ϱ,y.r,_,_,_,ϱ,ϱ,SqT.of h1,ϱ,t,ϱ,⟨_,SqT.of h3⟩,?_⟩
 refine oT (xs:=ls) (λi σ H'=>∃x2 vs,σ=[some (.ref W.l),some (.ref y.r),x2]/\Ow CH CL (ad (wkL CL b ⟨W,D,[],(none,none),[],[],[],none⟩)) H H' (wkL CL b ⟨W,D,vs,(none,none),[],[],(y.due.take i).foldl fu [],none⟩)/\Paired (PrO C K H') (((y.due.take i).foldl fu []).map λk=>((b.p,k):Pr)) vs) ⟨none,[],ϱ,g,.nil⟩
  (λi σ H' _ z=>by obtain ⟨_,_,_,g',_⟩:=z;exact SqT.of (g'.ts _ _ h3)) ?_ ?_
 ·rintro i u σ H2 hu ⟨x2,vs,rfl,d,O⟩
  obtain ⟨k,ek,rk⟩:=G.get hu
  have J:=d.ts _ _ h1
  have j:=d.im _ _ hi ⟨rJ _ _ _ _,n.v⟩
  refine ⟨_,ϱ,W.l,CV,W.dx,_,_,ϱ,j,T.cl,T.lk,pj,W.lk,D,_,ϱ,d.co _ j0,eN θ,_,ϱ,y.r,_,_,_,ϱ,ϱ,SqT.of J,St.at1,_,ϱ,_,k,ϱ,cLk.keep d.ts rk,λlv H3 x lo=>?_⟩
  have e:=d.same x
  have a2:PaA H3 b.p pa:=e.ts _ _ h2
  have l1:=wM (y.due.take i) []
  have l2:(y.due.take i).length<=y.due.length:=by rw [List.length_take];omega
  have a3:=pp O λ_ _ z=>PrO.im n.k (cK x) z
  refine ⟨W.lk,W.pl,_,_,b.p,lv,k,ϱ,⟨D,vs,e.co _ j0,e.co _ j1,a3⟩,(by simp at l1;omega),gn (k:=b.p) a2,lo,λH4 a7 k4=>?_⟩
  obtain ⟨bm,Y,_,e4,Z⟩:=a7
  have et:y.due.take (i+1)=y.due.take i++[k]:=by rw [List.take_succ,ek];rfl
  refine ⟨some u,Y,ϱ,?_,?_⟩
  ·exact e.kp 1 rfl k4 e4
  ·rw [et,List.foldl_append]
   exact Z
 ·rintro σ H2 ⟨x2,vs,rfl,d,O⟩
  rw [← G.len,List.take_length,X] at O
  have J:=d.ts _ _ h1
  have j:=d.im _ _ hi ⟨rJ _ _ _ _,n.v⟩
  obtain ⟨o,a0,a1⟩:=tf
  refine ⟨_,ϱ,y.r,_,_,_,ϱ,ϱ,SqT.of J,ϱ,dv,us,chK y.ch,ϱ,⟨o,d.im _ _ a0 True.intro,a1⟩,Af (Paired.mapP ps λ_ _ z=>z.keep d.ts),(by unfold chK;rw [List.length_map];omega),λdd I=>?_⟩
  have x:=ag (o:=.dK (aF [] (chK y.ch))) I
  have e:=d.new I (.dK (aF [] (chK y.ch)))
  refine ⟨_,ϱ,W.l,CV,W.dx,_,_,ϱ,x _ _ j,T.cl,T.dr,pz,_,ϱ,y.r,_,_,_,ϱ,ϱ,SqT.of (x _ _ J),St.at1,W.dr,_,ϱ,DPut.t (k:=pk b.p) (e.co (W.dr,.dT []) (.tail _ (.tail _ (.head _)))) (e.ts _ _ h2) ζ,?_⟩
  rw [kE]
  have k3:ImS CH CL H2 _:=(cK x).trans (gZ (cm (o:=.dT [(pk b.p,.ref dd)])) (e.co (W.dr,.dT []) (.tail _ (.tail _ (.head _)))) id)
  exact q dd vs _ (e.up 2 _ rfl) (pp O λ_ _ z=>PrO.im n.k k3 z)
theorem vN{fI:Addr}{dI:FuncData}(F:Fun K "__init__" "Works.__init__" fY f fd)(D:TxD K CS)(T:TxV K CV)(n:Nq C CS CH CL CV)(ML:L2.Mk K CL fI)(c0:mg "Locks"=some (.ref CL))(c1:FnOk P w K mg base CX0 1 fI dI ["self"] (kR CL))(c2:Binds K dI ["self"] [])(GB:GM P w K mg base CX0 1 CS "bound" ["self"] (kC CS K))(GT:GM P w K mg base CX0 6 CV "take_up" ["self","row"] (qu C CH CL CV K)) :
  FnOk P w K mg base CX0 7 f fd ["self","stand","home","many"] (nQ C CS CH CL CV K):=by
 refine F.ok sc_Works_init (λvs H Q E h=>?_) (λdg A bt s H vs Q E hr h=>?_)
 ·obtain ⟨l,g,b,d,rfl,_⟩:=h
  rfl
 obtain ⟨l,g,b,d,rfl,hl,sa,bg,q⟩:=h
 have nd:=sc_Works_init.nd
 have bl:Room (1+1) _:=hr.mono ζ
 refine ⟨_,ah (aT (pv 0) (pv 1) rfl) (ah (aT (pv 0) (pv 2) rfl) (ah (aT (pv 0) (pv 3) rfl)
  (ah (aT (pv 0) (vt ML c1 bl rfl c0 c2 .nil a9) rfl)
  (ah (aT (pv 0) cZ rfl) (ah (aT (pv 0) cZ rfl) (ah (aT (pv 0) cZ rfl)
  (ai (gP PassesOwn.never rfl (bV (pm0 GB (pv 1) D.cl hr)) (ci (i:=4) nd rfl (Or.inl rfl)) (ai (aV (pm GT (pv 0) T.cl hr (ac (pv 4) af)))))))))))),?_⟩
 have g0:Ow CH CL [l] H H [(l,.ins CV g [])]:=.mk0 (L:=[(l,.ins CV g [])]) (λx hx=>by rw [List.mem_singleton.mp hx];exact hl) (by simp [ad]) (λx hx=>by rw [List.mem_singleton.mp hx];exact λz=>z.1 rfl)
 have g1:Ow CH CL [l] H _ [(l,.ins CV g (ay "stand" (.ref b.A.l) []))]:=g0.up 0 _ rfl
 have g2:Ow CH CL [l] H _ [(l,.ins CV g (ay "home" (.int b.home) (ay "stand" (.ref b.A.l) [])))]:=g1.up 0 _ rfl
 have W:Ow CH CL [l] H _ [(l,.ins CV g (ay "many" (.int b.many) (ay "home" (.int b.home) (ay "stand" (.ref b.A.l) []))))]:=g2.up 0 _ rfl
 refine ⟨_,ϱ,_,ϱ,l,CV,g,_,ϱ,hl,T.cl,T.st,(by show 0<1000;decide),_,ϱ,_,ϱ,l,CV,g,_,ϱ,ae,T.cl,T.ho,(bj (n:=999) (by show 0<999;decide)),_,ϱ,_,ϱ,l,CV,g,_,ϱ,ae,T.cl,T.mn,(bj (n:=999) (bj (n:=998) (by show 0<998;decide))),?_⟩
 generalize (upd (upd (upd H l _) l _) l _)=H3 at W ⊢
 intro I j ak ar bN
 refine ⟨I,j,ϱ,ae,λJ H4 O Z a0 bC=>⟨ϱ,?_⟩⟩
 have s4:Same H3 H4:=tT ak ar bC
 have ab:H3 J=none:=by
  cases e:H3 J with
  | none=>rfl
  | some o =>
   have n1:J≠I:=gs Z a0 (by intro z;cases z)
   have n2:J≠j:=λz=>by rw [z] at O;rw [am bN,ae] at O;cases O
   rw [am n1,am n2,e] at O
   cases O
 have g4:=(W.join (Ow.two ak ab (gs a0 Z (by intro z;cases z)) s4 a0 Z)).perm List.perm_append_comm
 have bm:H4 l=some (.ins CV g (ay "many" (.int b.many) (ay "home" (.int b.home) (ay "stand" (.ref b.A.l) [])))):=g4.co _ (.head _)
 have g5:Ow CH CL [l] H _ ((l,.ins CV g (ay "locks" (.ref I) (ay "many" (.int b.many) (ay "home" (.int b.home) (ay "stand" (.ref b.A.l) [])))))::[(I,.ins CL j [("pairs",.ref J)]),(J,.lst [])]):=g4.up 0 _ rfl
 refine ⟨_,ϱ,l,CV,g,_,ϱ,bm,T.cl,T.lk,(bj (n:=999) (bj (n:=998) (bj (n:=997) (by show 0<997;decide)))),λdr n6=>?_⟩
 obtain ⟨a6,g6⟩:=g5.fld n6 (.dT []) (ay "drafts" (.ref dr) (ay "locks" (.ref I) (ay "many" (.int b.many) (ay "home" (.int b.home) (ay "stand" (.ref b.A.l) [])))))
 refine ⟨_,ϱ,l,CV,g,_,ϱ,a6,T.cl,T.dr,(bj (n:=999) (bj (n:=998) (bj (n:=997) (bj (n:=996) (by show 0<996;decide))))),λan n7=>?_⟩
 obtain ⟨a7,g7⟩:=g6.fld n7 (.dT []) (ay "answers" (.ref an) (ay "drafts" (.ref dr) (ay "locks" (.ref I) (ay "many" (.int b.many) (ay "home" (.int b.home) (ay "stand" (.ref b.A.l) []))))))
 refine ⟨_,ϱ,l,CV,g,_,ϱ,a7,T.cl,T.an,(bj (n:=999) (bj (n:=998) (bj (n:=997) (bj (n:=996) (bj (n:=995) (by show 0<995;decide)))))),λpe n8=>?_⟩
 obtain ⟨a8,g8⟩:=g7.fld n8 (.dT []) (ay "pending" (.ref pe) (ay "answers" (.ref an) (ay "drafts" (.ref dr) (ay "locks" (.ref I) (ay "many" (.int b.many) (ay "home" (.int b.home) (ay "stand" (.ref b.A.l) [])))))))
 refine ⟨_,ϱ,l,CV,g,_,ϱ,a8,T.cl,T.pe,(bj (n:=999) (bj (n:=998) (bj (n:=997) (bj (n:=996) (bj (n:=995) (bj (n:=994) (by show 0<994;decide))))))),?_⟩
 have i8:=g8.co _ (.head _)
 have g9:Ow CH CL [l] H _ (wkL CL b ⟨⟨l,g,I,J,dr,an,pe⟩,j,[],(none,none),[],[],[],none⟩):=g8.sub (.cons _ (.refl _))
 generalize (upd (upd _ pe _) l _)=H9 at i8 g9 ⊢
 have X:Sa CS K H9 b.p b.A d:=by
  have nl:∀{c o},H c=some o->(∀g,o≠.ins CV g [])->H9 c=some o:=λ{c o} e ne=>g9.fr c o (λz=>by rw [ϵ.mp z,hl] at e;exact ne _ (Δ e).symm) e
  refine ⟨⟨nl sa.ins (λ_ z=>by injection z with _ _ z;exact zn _ z),λy Y=>(sa.rd y Y).keep g9.im⟩,λu m=>nl (sa.co u m) λg z=>?_⟩
  have:=zA (CH:=CV) (CL:=CV) u m
  simp only [stL,List.mem_cons,List.not_mem_nil,or_false] at m
  rcases m with e | e | e | e<;>subst e<;>cases z
 refine ⟨_,ϱ,b.A.l,b.A.dx,_,ϱ,X.ins,iN θ,b.p,b.A,d,ϱ,X,λlb ds a1 nb hb=>⟨lb,ϱ,⟨_,SqL.of hb⟩,?_⟩⟩
 rw [A3] at hb
 refine qb (xs:=(upX d).toList.map λx=>V.ref x.r) (λi σ H'=>∃x4 vs o dk G,σ=[some (.ref l),some (.ref b.A.l),some (.int b.home),some (.int b.many),x4]/\Ow CH CL [l] H H' (wkL CL b ⟨⟨l,g,I,J,dr,an,pe⟩,j,vs,o,dk,[],G,none⟩)/\H' l=some (.ins CV g (wf b.A.l b.home b.many ⟨l,g,I,J,dr,an,pe⟩))/\Paired (PrO C K H') (G.map λk=>((b.p,k):Pr)) vs/\Upd (if i=0 then none else upX d) o dk G/\H' lb=some (.lst ((upX d).toList.map λx=>V.ref x.r))/\ImS CH CL H9 H')
  ⟨none,[],(none,none),[],[],rfl,g9.same a1,a1 _ _ i8,.nil,⟨rfl,rfl,rfl,rfl⟩,hb,cK a1⟩ (λi σ H' _ z=>by obtain ⟨_,_,_,_,_,_,_,_,_,_,e,_⟩:=z;exact SqL.of e) ?_ ?_
 ·rintro i u σ H2 m ⟨x4,vs,o,dk,G,rfl,g',i',pr,⟨u1,u2,u3,u4⟩,a3,a4⟩
  rw [List.getElem?_map] at m
  obtain ⟨y,U,rfl⟩:=Option.map_eq_some_iff.mp m
  have Y:upX d=some y:=by
   cases eu:upX d with
   | none=>rw [eu] at U;cases U
   | some z =>
    rw [eu] at U
    cases i with
    | zero=>cases U;rfl
    | succ i=>cases U
  have e0:i=0:=by
   rw [Y] at U
   cases i with
   | zero=>rfl
   | succ i=>cases U
  subst e0
  obtain ⟨o1,o2⟩:=o
  cases (show o2=none from u1)
  cases o1 with
  | some z=>cases u2
  | none =>
   cases u3
   cases u4
   cases pr
   obtain ⟨bi,ld,lc⟩:=bg y Y
   refine ⟨_,ϱ,l,g,_,ϱ,i',cX θ,_,ϱ,b,⟨l,g,I,J,dr,an,pe⟩,j,y,ϱ,g'.self (λu m=>zy (b:=b) u (.tail _ m)),i',((X.rd y (Be Y)).keep a4),bi,ld,lc,λdd vs H3 W bI=>?_⟩
   refine ⟨_,vs,(some dd,none),_,_,ϱ,g'.trans W,W.im _ _ i' ⟨rJ _ _ _ _,n.v⟩,bI,?_,?_,a4.trans W.im⟩
   ·rw [if_neg ζ,Y]
    exact ⟨ϱ,ϱ,ϱ,ϱ⟩
   ·refine W.fr lb _ (λz=>?_) a3
    obtain ⟨u,m,e⟩:=ϑ.mp z
    have e2:=g'.co u m
    rw [show u.1=lb from e,a3,Y] at e2
    simp only [wkL,odc,List.mem_cons,List.mem_append,Option.toList,List.map_nil,List.not_mem_nil,or_false] at m
    rcases m with e | e | e | e | e<;>subst e<;>cases e2
 ·rintro σ H2 ⟨x4,vs,o,dk,G,rfl,g',i',pr,u',a3,a4⟩
  refine q ⟨l,g,I,J,dr,an,pe⟩ j vs o dk G H2 rfl g' i' pr ?_
  rw [ν] at u'
  cases eu:upX d with
  | none=>rw [eu] at u';rw [ite_self] at u';exact u'
  | some z=>rw [eu] at u';rw [if_neg (by show ¬1=0;decide)] at u';exact u'
abbrev BW:Arguments:=match oC with | .Lambda a _ _ _=>a | _=>defArgs aW
abbrev BV:Expr:=match oC with | .Lambda _ b _ _=>b | _=>.Name "" default
abbrev lScope:Scope:=match oC with | .Lambda _ _ s _=>s | _=>defScope aW
theorem yN{b d y:Str}{f g a:Addr}(h:[(b,f),(d,g)].lookup y=some a):(y=b/\a=f)\/(y=d/\a=g):=by
 rw [List.lookup_cons] at h
 cases e:y==b with
 | true =>
  rw [e] at h
  exact .inl ⟨by simpa using e,(Option.some.inj h).symm⟩
 | false =>
  rw [e,List.lookup_cons] at h
  cases e2:y==d with
  | true =>
   rw [e2] at h
   exact .inr ⟨by simpa using e2,(Option.some.inj h).symm⟩
  | false =>
   rw [e2] at h
   cases h
theorem yP{F c f g:Addr}{W:Aw}{home many:Int}{S:Ad}{cs:List Int}{p:Pa}{m:Addr}{o:Option Addr}{dk:List (Key×V)}{H:Hp}(ne:g≠f)(hB:ze [] [(g,.ref m),(f,.ref W.l)] base)(hf:H F=some (jO F yc BW BV lScope [("self",f),("p",g)] c))(hc:H c=some (jf c yc))
  (T:TxV K CV)(GV:GM P w K mg base CX0 2 CV "value_at" ["self","p","cell"] (iH CS CV))(J:H W.l=some (.ins CV W.dx (wf S.l home many W)))(hd:H W.dr=some (.dT (dOf p o)))(hs:∀x,o=some x->H x=some (.dK dk))(hn:o=none->dk=[])(di:DrI dk)(st:H S.l=some (.ins CS S.dx (sf S)))(G:H S.cl=some (.lst (cs.map V.int)))(sp:PaA H p m) :
  CloT P w K mg base 4 F (kQ (bW dk cs) cs.length) H:=by
 refine ⟨⟨_,_,_,_,_,_,hf⟩,λH1 A C s v u Q b I e0 r h=>?_⟩
 obtain ⟨i,L,O,U,q⟩:=h
 cases L
 refine wE (k:=3) (N:=["cell","p","self"]) (x:="cell") (fvs:=[.ref m,.ref W.l]) I e0 hB ⟨ϱ,ϱ,ϱ,θ,ϱ,ϱ,θ,λy X=>?_,λy z a h1 d=>?_⟩ rfl (λy a h=>?_) (λj y v h1 d=>?_) (b _ _ hf) (b _ _ hc) r (λpm ct=>.of_eq rfl) ⟨_,pm GV (pv 2) T.cl (I.deeper _) (ac (pv 1) (ac (pv 0) af)),?_⟩
 ·have e:y="p"\/y="self":=(by decide +kernel:∀p∈lScope.names,p.2=NameKind.free->p.1=("p":Str)\/p.1=("self":Str)) _ (PySem.mem_of_lookup X) rfl
  rcases e with e | e
  ·subst e
   exact ⟨g,ϱ⟩
  ·subst e
   exact ⟨f,ϱ⟩
 ·rcases yN h1 with ⟨rfl,rfl⟩ | ⟨rfl,rfl⟩
  ·rcases yN d with ⟨rfl,e⟩ | ⟨_,e⟩
   ·rfl
   ·exact absurd e.symm ne
  ·rcases yN d with ⟨_,e⟩ | ⟨rfl,e⟩
   ·exact absurd e ne
   ·rfl
 ·rcases yN h with ⟨_,rfl⟩ | ⟨_,rfl⟩
  ·exact ⟨_,Θ _ Ω⟩
  ·exact ⟨_,Ω⟩
 ·cases j with
  | zero =>
   cases h1
   cases d
   refine ⟨ϱ,g,ϱ,λY D=>?_⟩
   rcases ϕ.mp D with e | e
   ·cases e
    rfl
   ·cases ϵ.mp e
    exact absurd rfl ne
  | succ j =>
   cases j with
   | zero =>
    cases h1
    cases d
    refine ⟨ϱ,f,ϱ,λY D=>?_⟩
    rcases ϕ.mp D with e | e
    ·cases e
     exact absurd rfl ne
    ·cases ϵ.mp e
     rfl
   | succ j=>cases d
 ·exact ⟨_,ϱ,W.l,W.dx,_,ϱ,b _ _ J,cX θ,_,ϱ,_,ϱ,W,home,many,S,cs,p,m,o,dk,i,ϱ,b _ _ J,b _ _ hd,λx Z=>b _ _ (hs x Z),hn,di,b _ _ st,b _ _ G,b _ _ sp,O,U,q⟩
abbrev Gs(C:Kd->Addr)(CS CH CL CV:Addr)(K:Frag)(H:Hp)(b:Bx)(S:Cs)(d:Sx)(x:Wx)(H':Hp)(S':Cs)(d':Sx)(x':Wx):Prop:=Gd C CS CH CL CV K (ad (S++(stL b.p b.A d++wtL CL b x))) H H' b S' d' x'
inductive uV (C:Kd->Addr) (CS CH CL CV:Addr) (K:Frag) (vs:List V) (H:Hp) (Q:VK) (E:XK):Prop|mk b h rs us v d x i aa hv:vs=[.ref (x:Wx).W.l,.ref (h:Ah).l,.ref (b:Bx).pa,.int i]->Gs C CS CH CL CV K H b (shL CH b.A.l h rs us v) d x H (shL CH b.A.l h rs us v) d x->x.o.2=some aa->bu x.ak (.inl i)=some (.int hv)->us.length<=900->(∀u H',Gs C CS CH CL CV K H b (shL CH b.A.l h rs us v) d x H' (shL CH b.A.l h rs (us++[u]) v) d x->Q .non H')->uV C CS CH CL CV K vs H Q E
theorem Ay(F:Fun K "send_did" "Works.send_did" cS f fd)(DH:TxH K CH)(T:TxV K CV)(n:Nq C CS CH CL CV)(GS:GM P w K mg base CX0 1 CH "send" ["self","to","word","p","more"] (kz CH CL)):FnOk P w K mg base CX0 2 f fd ["self","sheet","p","i"] (uV C CS CH CL CV K):=by
 refine F.ok iO (λvs H Q E h=>?_) (λX A y s H vs Q E z h=>?_)
 ·obtain ⟨b,h,D,G,v,d,x,i,aa,e,rfl,_⟩:=h
  rfl
 obtain ⟨b,h,D,G,v,d,x,i,aa,e,rfl,g,I,j,L,q⟩:=h
 refine ⟨_,ai (aV (pm GS (pv 1) DH.cl z (ac (az (r:=ba K) aC (pv 2) aj (λ_ _=>rfl)) (ac aB (ac (pv 2) (ac (aI (ac (pv 3) (ac (fV (cu z) (fV (cu z) (aq (pv 0) rfl) (pv 2) (λ_ _=>rfl)) (pv 3) (λ_ _=>rfl)) af))) af)))))),?_⟩
 have g1:DGet H x.W.an (.ref b.pa) (some (.ref aa)):=by
  have:=DGet.t (k:=pk b.p) g.an g.wo.pa
  rw [cV,I] at this
  exact this
 have O:DGet H aa (.int i) (some (.int e)):=by
  have:=DGet.k (k:=.inl i) (g.aa I)
  rw [j] at this
  exact this
 refine ⟨_,ϱ,h.l,h.dx,_,ϱ,g.sh,fq θ,_,ϱ,b.pa,_,_,_,ϱ,ϱ,SqT.of g.wo.pa,St.at0,_,ϱ,_,ϱ,_,ϱ,x.W.l,CV,x.W.dx,_,_,ϱ,g.wo.wi,T.cl,T.an,jP,_,ϱ,x.W.an,_,ϱ,g1,_,ϱ,aa,_,ϱ,O,χ,λt Y=>?_⟩
 have U:=ag (o:=.tup [.int i,.int e]) Y
 have m:=g.same n U
 exact ⟨b.A.l,h,D,G,v,(b.p.1,"did",b.pa,t),stL b.p b.A d++wtL CL b x,ϱ,(m.self gr).ow,L,λu Z J _=>q u Z (m.trans ⟨J,m.wo.im n J.im⟩)⟩
theorem A2{X:Cx}{b c:Addr}{u v:V}{σ:L2.St}(i j:Nat)(x y:Str)(h1:X.N[i]?=some x/\σ[i]?=some (some u)/\X.env.kindOf x=some .cell/\X.env.cells.lookup x=some b/\X.fn x=true)(h2:X.N[j]?=some y/\σ[j]?=some (some v)/\X.env.kindOf y=some .cell/\X.env.cells.lookup y=some c/\X.fn y=true):rG X [(b,u),(c,v)] σ:=λp hm=>by
 rcases ϕ.mp hm with e | e
 ·cases e
  exact ⟨i,x,h1⟩
 ·cases ϵ.mp e
  exact ⟨j,y,h2⟩
section
variable {H:Hp}{b:Bx}{d:Sx}{x:Wx}
theorem Wo.row{r:Addr}{w:Rx}(g:Wo C CS CV K H b d x)(e:RxAt K H b.p r w):Wo C CS CV K H b (d.kp w) x:=⟨g.si.row e,g.wi,g.ps,g.cz,g.pa,g.n1,g.n2⟩
theorem Wo.od{o:Odb}{dk ak:List (Key×V)}(g:Wo C CS CV K H b d x)(n1:o.1=none->dk=[]/\o.2=none)(n2:o.2=none->ak=[]):Wo C CS CV K H b d ⟨x.W,x.dl,x.vs,o,dk,ak,x.due,x.cz⟩:=⟨g.si,g.wi,g.ps,g.cz,g.pa,n1,n2⟩
end
inductive uU (C:Kd->Addr) (CS CH CL CV:Addr) (K:Frag) (Pt:Addr) (vs:List V) (H:Hp) (Q:VK) (E:XK):Prop|mk b h d rs us v wt i hand wd ns x:vs=[.ref (x:Wx).W.l,.ref (h:Ah).l,.ref (b:Bx).pa,.ref wt]->b.Pt=Pt->Gs C CS CH CL CV K H b (shL CH b.A.l h rs us v) d x H (shL CH b.A.l h rs us v) d x->H wt=some (.tup [.int i,.int hand,.str (txt wd ns)])->Ar wd ns->inC d.cells.length wd ns->d.cells.length<=900->DrI x.dk->x.dk.length<=100->x.ak.length<=100->rs.length<=100->us.length<=100->(∀dd aa c us' d' rs' v' H',Gs C CS CH CL CV K H b (shL CH b.A.l h rs us v) d x H' (shL CH b.A.l h rs' us' v') d' ⟨x.W,x.dl,x.vs,(some dd,some aa),aF x.dk (aF [] (chK (dn (bW x.dk d.cells) wd ns hand).2)),ce x.ak (.inl i) (.int (dn (bW x.dk d.cells) wd ns hand).1),x.due,some c⟩->d'=d\/d'=d.kp .work->Q .non H')->uU C CS CH CL CV K Pt vs H Q E
theorem wX(val:Int->Int)(b:Wd)(d:List Int)(h:Int):(dn val b d h).2.length<=1:=by
 unfold dn
 split<;>simp
theorem tN{cc Pt:Addr}{fS:Wd->Addr}{dS:Wd->FuncData}(F:Fun K "do_step" "Works.do_step" aW f fd)(bI:mg "dict"=none)(TW:TxW K CW)(T:TxV K CV)(DH:TxH K CH)(n:Nq C CS CH CL CV)(dA:BB mg base)(hcc:fd.code=.ref cc)(dB:PySem.W.codeHdIn K cc Pt=true)
  (GR:GF P w K mg base CX0 6 "read_step" ["text"] (ky CW))(HV:∀Bh:Heap,K.In Bh->GM P w K mg Bh CX0 2 CV "value_at" ["self","p","cell"] (iH CS CV))
  (HS:∀(m:Wd) (val:Int->Int) (n:Nat) (Bh:Heap),n<=1000->K.In Bh->FnOk P w K mg Bh CX0 5 (fS m) (dS m) ["self","hand","value_of"] (eR P w K mg CW val n m Bh))(mS:∀m,gH K (CW m) "step_done" (fS m))(bS:∀m,Binds K (dS m) ["self","hand","value_of"] [])
  (cv:GM P w K mg base CX0 3 CH "row" ["self","row"] (kT CS CH CL K))(GD:GM P w K mg base CX0 2 CV "send_did" ["self","sheet","p","i"] (uV C CS CH CL CV K)):FnOk P w K mg base CX0 7 f fd ["self","sheet","p","waited"] (uU C CS CH CL CV K Pt):=by
 refine F.okC sc_Works_do_step (λvs H Q E h=>?_) (λA0 d5 s H vs Q E hr h=>?_)
 ·obtain ⟨b,h,d,J,y,v,wt,i,G,m,ns,x,rfl,_⟩:=h
  rfl
 obtain ⟨b,h,d,J,y,v,wt,i,G,m,ns,⟨W,I,vs,o,dk,ak,j,cz⟩,rfl,rfl,g0,bm,ar,ic,hn,di,d1,d2,e4,e5,q⟩:=h
 have nd:=sc_Works_do_step.nd
 have d4:Room 5 _:=hr.mono ζ
 have ne:s.heap.objs.size+2≠s.heap.objs.size+1:=by omega
 have hz:(1000:Nat)<=sizeLine:=by decide
 simp only [] at di d1 d2
 generalize er:dn (bW dk d.cells) m ns G=r at q
 refine ⟨_,ah (aH (i:=4) nd rfl (Or.inl rfl) (vq (cs:=[(s.heap.objs.size+2,.ref b.pa),(s.heap.objs.size+1,.ref W.l)]) (sp:=λBh=>eR P w K mg CW (bW dk d.cells) d.cells.length m Bh) (pc GR hr (ac (az (r:=ba K) aC (pv 3) aj (λ_ _=>rfl)) af)) (TW.cl m) (mS m)
   (λBh bB=>HS m (bW dk d.cells) d.cells.length Bh ω bB) d4 (bS m) a9 (ac (az (r:=ba K) aC (pv 3) aj (λ_ _=>rfl)) (ac (yh (P:=b.Pt) (cl:=[("self",s.heap.objs.size+1),("p",s.heap.objs.size+2)]) hcc dB dA rfl rfl rfl) af))))
  (fT (u:=λD σ H1=>∃t O c,σ=[some (.ref W.l),some (.ref h.l),some (.ref b.pa),some (.ref wt),some (.ref t)]/\Gs C CS CH CL CV K H b (shL CH b.A.l h J y v) d ⟨W,I,vs,o,dk,ak,j,cz⟩ H1 (shL CH b.A.l h J y v) d ⟨W,I,vs,o,dk,ak,j,some c⟩/\H1 t=some (.tup [.int r.1,.ref O])/\chN H1 r.2 O/\H1 wt=some (.tup [.int i,.int G,.str (txt m ns)])/\∀σ' H',Q .non H'->D.nx σ' H')
   (ah (aV (yi (sj (cu hr) (aq (pv 0) rfl) (pv 2) gR ⟨ϱ,ϱ,ϱ,ϱ⟩) (aP (rq rfl) rfl bI PyProof.Rows.boot_dict (ac (az (r:=ba K) aC (pv 4) aj (λ_ _=>rfl)) af)) ⟨ϱ,ϱ,ϱ,ϱ⟩))
  (fT (u:=λD σ H1=>∃t O c dd,σ=[some (.ref W.l),some (.ref h.l),some (.ref b.pa),some (.ref wt),some (.ref t)]/\Gs C CS CH CL CV K H b (shL CH b.A.l h J y v) d ⟨W,I,vs,o,dk,ak,j,cz⟩ H1 (shL CH b.A.l h J y v) d ⟨W,I,vs,(some dd,o.2),aF dk (aF [] (chK r.2)),ak,j,some c⟩/\H1 t=some (.tup [.int r.1,.ref O])/\H1 wt=some (.tup [.int i,.int G,.str (txt m ns)])/\∀σ' H',Q .non H'->D.nx σ' H')
   (ah (aG (gO (hX (cu hr) (pv 2) (aq (pv 0) rfl))) (ah (fU (cu hr) (aq (pv 0) rfl) (pv 2) gR rfl) (ai (aV (pm cv (pv 1) DH.cl hr (ac (aI (ac aB (ac (pv 2) af))) af))))) aA)
  (fT (u:=λD σ H1=>∃t O c dd aa d' a8 v',σ=[some (.ref W.l),some (.ref h.l),some (.ref b.pa),some (.ref wt),some (.ref t)]/\Gs C CS CH CL CV K H b (shL CH b.A.l h J y v) d ⟨W,I,vs,o,dk,ak,j,cz⟩ H1 (shL CH b.A.l h a8 y v') d' ⟨W,I,vs,(some dd,some aa),aF dk (aF [] (chK r.2)),ak,j,some c⟩/\H1 t=some (.tup [.int r.1,.ref O])/\H1 wt=some (.tup [.int i,.int G,.str (txt m ns)])/\(d'=d\/d'=d.kp .work)/\∀σ' H',Q .non H'->D.nx σ' H')
   (ah (fU (cu hr) (fV (cu hr) (aq (pv 0) rfl) (pv 2) (λ_ _=>rfl)) (az (r:=ba K) aC (pv 3) aj (λ_ _=>rfl)) (az (r:=ba K) aC (pv 4) aj (λ_ _=>rfl)) rfl)
   (ai (aV (pm GD (pv 0) T.cl hr (ac (pv 1) (ac (pv 2) (ac (az (r:=ba K) aC (pv 3) aj (λ_ _=>rfl)) af))))))) ?s4)) ?s3)) ?s2),?_⟩
 case s4 =>
  rintro D σ H1 ⟨t,O,c,dd,aa,d',a8,v',rfl,g,ht,U,e1,nx⟩
  have g1:DGet H1 W.an (.ref b.pa) (some (.ref aa)):=by
   have:=DGet.t (k:=pk b.p) g.an g.wo.pa
   rw [cV] at this
   exact this
  have ha:=g.aa rfl
  refine ⟨_,ϱ,t,_,_,_,ϱ,ϱ,SqT.of ht,St.at0,_,ϱ,W.l,CV,W.dx,_,_,ϱ,g.wo.wi,T.cl,T.an,jP,_,ϱ,W.an,_,ϱ,g1,_,ϱ,wt,_,_,_,ϱ,ϱ,SqT.of U,St.at0,aa,_,ϱ,DPut.k (k:=.inl i) ha (by show ak.length<_;omega),?_⟩
  have X:=g.kp n 14 (a:=aa) (o':=.dK (ce ak (.inl i) (.int r.1))) (S':=shL CH b.A.l h a8 y v') (x':=⟨W,I,vs,(some dd,some aa),aF dk (aF [] (chK r.2)),ce ak (.inl i) (.int r.1),j,some c⟩) rfl cm ae id (g.wo.od (λz=>by cases z) (λz=>by cases z))
  have av:bu (ce ak (.inl i) (.int r.1)) (.inl i)=some (.int r.1):=by rw [pA,if_pos rfl]
  exact ⟨_,ϱ,W.l,W.dx,_,ϱ,X.wo.wi,cX θ,_,ϱ,_,ϱ,_,ϱ,wt,_,_,_,ϱ,ϱ,SqT.of ((jg ha) _ _ U),St.at0,b,h,a8,y,v',d',⟨W,I,vs,(some dd,some aa),aF dk (aF [] (chK r.2)),ce ak (.inl i) (.int r.1),j,some c⟩,i,aa,r.1,ϱ,X.self gr,ϱ,av,ω,λu H2 g3=>nx _ H2 (q dd aa c _ d' a8 v' H2 (X.trans g3) e1)⟩
 case s3 =>
  rintro D σ H1 ⟨t,O,c,dd,rfl,g,ht,U,nx⟩
  have g1:=DGet.t (k:=pk b.p) g.an g.wo.pa
  rw [cV] at g1
  refine ⟨_,ϱ,_,ϱ,W.l,CV,W.dx,_,_,ϱ,g.wo.wi,T.cl,T.an,jP,W.an,_,ϱ,g1,_,ϱ,?_⟩
  obtain ⟨od,oa⟩:=o
  cases oa with
  | some aa=>exact aL ⟨t,O,c,dd,aa,d,J,v,rfl,g,ht,U,.inl rfl,nx⟩
  | none =>
   refine cj λaa a3=>⟨_,ϱ,W.l,CV,W.dx,_,_,ϱ,ag a3 _ _ g.wo.wi,T.cl,T.an,jP,_,ϱ,W.an,_,ϱ,DPut.t (k:=pk b.p) (ag a3 _ _ g.an) (ag a3 _ _ g.wo.pa) (by show 0<sizeLine;decide),?_⟩
   rw [show dOf b.p none=[] from rfl,kE]
   have ea:ak=[]:=g.wo.n2 rfl
   subst ea
   have Z:ImS CH CL H1 (upd (upd H1 aa (.dK [])) W.an (.dT [(pk b.p,.ref aa)])):=(cK (ag a3)).trans (gZ cm (ag a3 _ _ g.an) id)
   have X:Gs C CS CH CL CV K H b (shL CH b.A.l h J y v) d ⟨W,I,vs,(od,none),dk,[],j,cz⟩ (upd (upd H1 aa (.dK [])) W.an (.dT [(pk b.p,.ref aa)])) (shL CH b.A.l h J y v) d ⟨W,I,vs,(some dd,some aa),aF dk (aF [] (chK r.2)),[],j,some c⟩:=⟨(g.ow.new a3 (.dK [])).up 11 _ rfl,(g.wo.od (λz=>by cases z) (λz=>by cases z)).im n Z⟩
   generalize (upd (upd H1 aa (.dK [])) W.an (.dT [(pk b.p,.ref aa)]))=H2 at X Z ⊢
   refine ⟨_,ϱ,h.l,h.dx,_,ϱ,X.sh,fq θ,_,ϱ,χ,λrr dc=>?_⟩
   have s3:=ag (o:=.tup [.str "work",.ref b.pa]) dc
   have g3:=X.same n s3
   have c3:RxAt K (upd H2 rr (.tup [.str "work",.ref b.pa])) b.p rr .work:=⟨b.pa,ae,g3.wo.pa⟩
   refine ⟨b.p,b.A,h,d,J,y,v,rr,.work,wtL CL b ⟨W,I,vs,(some dd,some aa),aF dk (aF [] (chK r.2)),[],j,some c⟩,ϱ,(g3.self gr).ow,g3.wo.si,c3,⟨(λc hc=>by cases hc),(λ_ z=>by cases z),λ_ z=>by cases z⟩,ω,λv' H4 o4 _=>?_⟩
   have c4:=(Z.ts).trans (s3.ts.trans (ImS.ts o4.im))
   exact ⟨t,O,c,dd,aa,_,_,v',ϱ,g3.trans ⟨o4,(g3.wo.row c3).im n o4.im⟩,c4 _ _ ht,c4 _ _ U,.inr rfl,nx⟩
 case s2 =>
  rintro D σ H1 ⟨t,O,c,rfl,g,ht,⟨bG,a7,dz⟩,U,nx⟩
  refine ⟨_,ϱ,W.l,CV,W.dx,_,_,ϱ,g.wo.wi,T.cl,T.dr,pz,W.dr,ϱ,.inr ⟨_,.inl g.dr⟩,_,ϱ,λq0 cp=>?_⟩
  have s1:=ag (o:=.dK []) cp
  have l1:r.2.length<=1:=by rw [← er];exact wX _ _ _ _
  have lc:(chK r.2).length<=1:=by unfold chK;rw [List.length_map];exact l1
  have lm:(aF [] (chK r.2)).length<=1:=by have:=cW (chK r.2) [];simp at this;omega
  have c5:∀(dd p2:Addr) (H4:Hp),Gs C CS CH CL CV K H b (shL CH b.A.l h J y v) d ⟨W,I,vs,o,dk,ak,j,cz⟩ H4 (shL CH b.A.l h J y v) d ⟨W,I,vs,(some dd,o.2),dk,ak,j,some c⟩->TSame H1 H4->H4 p2=none ->
    Gs C CS CH CL CV K H b (shL CH b.A.l h J y v) d ⟨W,I,vs,o,dk,ak,j,cz⟩ (upd (upd H4 p2 (.dK (aF [] (chK r.2)))) dd (.dK (aF dk (aF [] (chK r.2))))) (shL CH b.A.l h J y v) d ⟨W,I,vs,(some dd,o.2),aF dk (aF [] (chK r.2)),ak,j,some c⟩/\TSame H1 (upd (upd H4 p2 (.dK (aF [] (chK r.2)))) dd (.dK (aF dk (aF [] (chK r.2))))):=λdd p2 H4 g4 t4 L=>by
   have s5:=ag (o:=.dK (aF [] (chK r.2))) L
   have g5:=g4.same n s5
   exact ⟨g5.kp n 13 (a:=dd) (o':=.dK (aF dk (aF [] (chK r.2)))) (S':=shL CH b.A.l h J y v) (x':=⟨W,I,vs,(some dd,o.2),aF dk (aF [] (chK r.2)),ak,j,some c⟩) rfl cm ae id (g5.wo.od (λz=>by cases z) g5.wo.n2),t4.trans (s5.ts.trans (jg (g5.dd rfl)))⟩
  have ca:∀{H4:Hp},TSame H1 H4->Paired (prD H4) (chK r.2) bG:=λt4=>Paired.mapP dz λ_ _ ⟨b,e,hb⟩=>⟨b,e,t4 _ _ hb⟩
  refine ⟨_,pk b.p,b.pa,s1 _ _ g.dr,ϱ,s1 _ _ g.wo.pa,?_,λv' ev=>?_,λev=>?_⟩
  ·have:(dOf b.p o.1).length<=1:=by cases o.1<;>simp [dOf]
   show (dOf b.p o.1).length<_
   omega
  ·rw [cV] at ev
   obtain ⟨od,oa⟩:=o
   cases od with
   | none=>cases ev
   | some dd =>
    cases ev
    have g4:=g.same n s1
    have Y:=g4.dd (a:=dd) rfl
    refine ⟨dd,ϱ,.inl ⟨_,.inl Y⟩,_,ϱ,t,_,_,_,ϱ,ϱ,SqT.of (s1 _ _ ht),St.at1,O,bG,chK r.2,ϱ,s1 _ _ a7,ca s1.ts,ω,λp2 L=>⟨p2,dk,aF [] (chK r.2),ϱ,ap Y L,ag L _ _ Y,ae,ω,?_⟩⟩
    obtain ⟨g6,t6⟩:=c5 dd p2 _ g4 s1.ts L
    exact ⟨t,O,c,dd,ϱ,g6,t6 _ _ ht,t6 _ _ U,nx⟩
  ·rw [cV] at ev
   obtain ⟨od,oa⟩:=o
   cases od with
   | some dd=>cases ev
   | none =>
    obtain ⟨ed,eo⟩:=g.wo.n1 rfl
    cases (show dk=[] from ed)
    cases (show oa=none from eo)
    have a6:ImS CH CL H1 (upd (upd H1 q0 (.dK [])) W.dr (.dT [(pk b.p,.ref q0)])):=(cK s1).trans (gZ cm (s1 _ _ g.dr) id)
    have g4:Gs C CS CH CL CV K H b (shL CH b.A.l h J y v) d ⟨W,I,vs,(none,none),[],ak,j,cz⟩ (upd (upd H1 q0 (.dK [])) W.dr (.dT [(pk b.p,.ref q0)])) (shL CH b.A.l h J y v) d ⟨W,I,vs,(some q0,none),[],ak,j,some c⟩:=⟨(g.ow.new cp (.dK [])).up 10 _ rfl,(g.wo.od (o:=(some q0,none)) (dk:=[]) (ak:=ak) (λz=>by cases z) (λ_=>g.wo.n2 rfl)).im n a6⟩
    have Y:=g4.dd (a:=q0) rfl
    show (_:Prop)
    refine ⟨q0,ϱ,.inl ⟨_,.inl Y⟩,_,ϱ,t,_,_,_,ϱ,ϱ,SqT.of (a6.ts _ _ ht),St.at1,O,bG,chK r.2,ϱ,a6 _ _ a7 True.intro,ca a6.ts,ω,λp2 L=>⟨p2,[],aF [] (chK r.2),ϱ,ap Y L,ag L _ _ Y,ae,by simp;omega,?_⟩⟩
    obtain ⟨g6,t6⟩:=c5 q0 p2 _ g4 a6.ts L
    exact ⟨t,O,c,q0,ϱ,g6,t6 _ _ ht,t6 _ _ U,nx⟩
 have hf:(mC m ns).lookup ("step_done":Str)=none:=zG θ θ θ θ θ m ns
 refine ⟨A2 2 0 "p" "self" ⟨ϱ,ϱ,ϱ,ϱ,ϱ⟩ ⟨ϱ,ϱ,ϱ,ϱ,ϱ⟩,_,ϱ,wt,_,_,_,ϱ,ϱ,SqT.of bm,St.at2,m,ns,ϱ,ar,λv1 H1 s1 ds=>?_⟩
 obtain ⟨a1,c2,rfl,aZ⟩:=id ds
 have g1:=g0.same n s1
 refine ⟨a1,c2,_,ϱ,aZ,hf,_,ϱ,wt,_,_,_,ϱ,ϱ,SqT.of (s1 _ _ bm),St.at1,g1.tb,λfv c H2 k2 dv eh ei dy bl Bh bB pb=>?_⟩
 have cd:H1 b.Pt=some (.tbl (xa cz)):=g1.co j0
 have Z:ImS CH CL H1 H2:=gZ k2 cd id
 have w2:=g1.wo.im n Z
 have X:Gs C CS CH CL CV K H b (shL CH b.A.l h J y v) d ⟨W,I,vs,o,dk,ak,j,cz⟩ H2 (shL CH b.A.l h J y v) d ⟨W,I,vs,o,dk,ak,j,some c⟩:=⟨g1.ow.kp 7 rfl k2 dv,w2.si,w2.wi,w2.ps,(λz e=>by cases e;exact bl),w2.pa,w2.n1,w2.n2⟩
 have cf:StO CW H2 m ns (.ref a1):=⟨a1,c2,ϱ,k2 _ _ (λz=>by rw [z,cd] at aZ;cases aZ) aZ⟩
 have ct:CloT P w K mg Bh 4 fv (kQ (bW dk d.cells) d.cells.length) H2:=yP ne pb dy bl T (HV Bh bB) X.wo.wi X.dr (λx hx=>X.dd hx) (λz=>(X.wo.n1 z).1) di X.wo.si.ins X.sa.cl X.wo.pa
 refine ⟨.ref a1,ns,G,fv,ϱ,ar,ic,cf,ct,λt O H3 s3 ht a7=>?_⟩
 rw [er] at ht a7
 exact ⟨t,O,c,ϱ,X.same n s3,ht,a7,s3 _ _ (Z.ts _ _ (s1 _ _ bm)),λ_ H' z=>z⟩
end
end K52
namespace L2
open PySem PySem.Spec PyProof.Rows PySem.W
section
variable {prog:Program}{w:World}{A:Around}{E:Value->Shared->Prop}{s:Shared}{κ:Type} [DecidableEq κ] {knd:HeapKind prog w κ}{d a:Addr}
theorem jQ{k:κ}{b:Addr}{v:Value}{Q:Option DictEntry->Shared->Prop}(u:knd.room A)(e:knd.is s.heap k a)(H:s.heap.DictOfH knd d [(k,b,v)])
  (h:∀h',h'.DictOfH knd d []->Heap.SameBut d s.heap h'->Q (some (entryOfKey knd (k,b,v))) {s with heap:=h',toks:=s.toks+knd.draws k}):wpAny (model prog w) A (Builtin.Dict.takeOut d (.ref a)) Q E s:=by
 obtain ⟨o,r,y,g,z,f,i,l,C⟩:=H
 unfold Builtin.Dict.takeOut
 refine wpAny_holding (ε (knd.pyHash u e ?_))
 have m:r.size=1:=size_of_entries i
 refine ε (wpAny_dictFind_heap (s:={s with toks:=s.toks+knd.draws k}) u e g f i l C (λq=>absurd rfl (q 0 (b,v))) (λj p F=>?_))
 cases j with
 | succ j=>cases F
 | zero =>
  refine ε (wpAny_dictEntries (s:={s with toks:=s.toks+knd.draws k}) g f ?_)
  rw [entry_at i 0]
  refine wpAny_bind (wpAny_updateDictKeys (hz:=by rw [m];decide) (hf:=by simp [Array.eraseIdxIfInBounds];split<;>simp<;>omega) (s:={s with toks:=s.toks+knd.draws k}) g f (wpAny_pure (h _ ⟨_,_,y+1,Heap.get?_update_self _ g (Obj.isFreed_of_dict (Obj.data_mapDictKeys f _)),z.mapDictKeys _,Obj.data_mapDictKeys f _,?_,(λx G=>nomatch G),List.nodup_nil⟩ (Heap.SameBut.update ..))))
  have D:r=#[entryOfKey knd (k,b,v)]:=Array.toList_inj.mp i
  rw [D]
  simp [Array.eraseIdxIfInBounds]
theorem pW(knd:HeapKind prog w κ)(d a:Addr)(more:List Value)(hm:more=[]\/∃x,more=[x]) :
  MeetsIn prog w (Builtin.«dict.pop» ⟨.ref d :: .ref a :: more, []⟩) (fun A R s => knd.room A.in1 ∧ ∃ k b v, knd.is s.heap k a ∧ s.heap.DictOfH knd d [(k, b, v)] ∧ ∀ h', h'.DictOfH knd d [] → Heap.SameBut d s.heap h' → R (.ok (.ret v)) { s with heap := h', toks := s.toks + knd.draws k }) :=
 .of_wp λA R s ⟨hu,k,b,v,hkey,hd,h⟩=>by
  have hd2:=hd
  obtain ⟨o,es,ep,ho,hc,hdd,he,his,hn⟩:=hd2
  have e1:es=#[entryOfKey knd (k,b,v)]:=Array.toList_inj.mp he
  unfold Builtin.«dict.pop»
  refine ε ?_
  unfold Builtin.Dict.keyAndDefault
  refine ε (wpAny_notOrdered_dict hd.typeIs ?_)
  rcases hm with rfl | ⟨x,rfl⟩
  ·show wpAny _ _ (pure (d,Value.ref a,none)) _ _ s
   refine π ?_
   show wpAny _ _ (dictEntries d >>= λes=>(pure es.isEmpty >>= λ_=>_)) _ _ s
   refine ε (wpAny_dictEntries ho hdd (ε (π ?_)))
   subst e1
   show wpAny _ _ (Builtin.Dict.takeOut d (.ref a) >>= λ_=>_) _ _ s
   exact ε (jQ hu hkey hd λh' d' sb=>ε (wpAny_letGo (π ⟨_,ϱ,h h' d' sb⟩)))
  ·show wpAny _ _ (pure (d,Value.ref a,some x)) _ _ s
   refine π ?_
   show wpAny _ _ (dictEntries d >>= λes=>(pure es.isEmpty >>= λ_=>_)) _ _ s
   refine ε (wpAny_dictEntries ho hdd (ε (π ?_)))
   subst e1
   show wpAny _ _ (Builtin.Dict.takeOut d (.ref a) >>= λ_=>_) _ _ s
   exact ε (jQ hu hkey hd λh' d' sb=>ε (wpAny_letGo (π ⟨_,ϱ,h h' d' sb⟩)))
theorem pX(knd:HeapKind prog w κ)(d a:Addr)(hs:(d==sysModules)=false)(x:Value) :
  MeetsIn prog w (Builtin.«dict.pop» ⟨[.ref d, .ref a, x], []⟩) (fun A R s => s.heap.DictOfH knd d [] ∧ R (.ok (.ret x)) s) :=
 .of_wp λA R s ⟨hd,h⟩=>by
  have hd2:=hd
  obtain ⟨o,es,ep,ho,hc,hdd,he,his,hn⟩:=hd2
  have e1:es=#[]:=Array.toList_inj.mp he
  unfold Builtin.«dict.pop»
  refine ε ?_
  unfold Builtin.Dict.keyAndDefault
  refine ε (wpAny_notOrdered_dict hd.typeIs ?_)
  show wpAny _ _ (pure (d,Value.ref a,some x)) _ _ s
  refine π ?_
  show wpAny _ _ (dictEntries d >>= λes=>(pure es.isEmpty >>= λ_=>_)) _ _ s
  refine ε (wpAny_dictEntries ho hdd (ε (π ?_)))
  subst e1
  show wpAny _ _ (rule "dict.pop.empty" >>= λ_=>(pure none >>= λ_=>_)) _ _ s
  refine ε (wpAny_rule (ε (π ?_)))
  show wpAny _ _ (Builtin.Dict.missedRemoval d (.ref a) >>= λ_=>_) _ _ s
  refine ε ?_
  unfold Builtin.Dict.missedRemoval
  have hne:¬((d==sysModules)=true):=by rw [hs];decide
  rw [if_neg hne]
  exact π (ε (wpAny_rule (π ⟨_,ϱ,h⟩)))
end
def xH(td ty:TE):TE:=fun σ H Q=>td σ H λx H1=>∃a,x=.ref a/\IsD H1 a/\ty σ H1 λy H2=>∃k b v,y=.ref b/\H2 b=some (.tup (List.map kV k))/\H2 a=some (.dT [(k,v)])/\Q v (upd H2 a (.dT []))
def xG(td ty tx:TE):TE:=fun σ H Q=>td σ H λx H1=>∃a,x=.ref a/\IsD H1 a/\ty σ H1 λy H2=>tx σ H2 λz H3=>∃k b,y=.ref b/\H3 b=some (.tup (List.map kV k))/\((∃v,H3 a=some (.dT [(k,v)])/\Q v (upd H3 a (.dT [])))\/(H3 a=some (.dT [])/\Q z H3))
section
variable {X:Cx}{pins:List (Addr×Obj)}{σ:St}{H:Hp}{s:Shared}{a b:Addr}{k:List Key}{v:V}{o e f:Expr}{apos cpos:Pos}{td ty tx:TE}{Q:Value->Shared->Prop}
theorem wU(Y:X.A.units+1<cLine)(I:Inv X pins σ H s)(l:H a=some (.dT [(k,v)]))(Z:H b=some (.tup (List.map kV k)))(d:List Value)(m:d=[]\/∃x,d=[x])(h:∀w' s',Inv X pins σ (upd H a (.dT [])) s'->RelV v w'->Q w' s') :
  wpAny (model X.prog X.w) X.A (call (.builtin "dict.pop") (.ref a::.ref b::d)) Q X.xe s:=by
 obtain ⟨hz,o,f,e,dd⟩:=qc I.hok l
 obtain ⟨x,rfl⟩:∃x,f=[x]:=by
  have:=Paired.length e
  match f,this with
  | [x],_=>exact ⟨x,rfl⟩
 obtain ⟨r,b2,g⟩:=x
 have P:=Paired.get1 e (j:=0) rfl
 obtain ⟨y,u,z,e2,C⟩:=P
 cases u
 cases (show k=r from z)
 have U:argsOk "dict.pop" ⟨.ref a::.ref b::d,[]⟩:=by
  rcases m with q | ⟨x,q⟩
  ·subst q;exact PySem.F.args_dict_pop_2 _ _
  ·subst q;exact PySem.F.args_dict_pop_3 _ _ _
 refine call_meetsIn PySem.F.slot_dict_pop dd.typeIs PySem.F.entry_dict_pop U (pW (tupleKind (aJ X.prog X.w)) a b d m) ⟨tupleKind_room_in1 Y,k,b2,g,gh I.hok Z,dd,λh' W sb=>h g _ ?_ C⟩
 obtain ⟨q,D,G,i,J,K,L,_,O⟩:=W
 exact jb I (by rw [l];exact ϰ) sb ⟨q,i⟩ ⟨ϖ _,o,[],.nil,q,D,G,i,J,K,L,O⟩
theorem tH(K:X.A.units+1<cLine)(L:PE X o td)(O:PE X e ty)(m:M1 X o "pop" apos e cpos):PE X (.Call (.Attribute o "pop" apos) [e] [] cpos) (xH td ty):=by
 intro pins s σ H Q I h
 refine wpAny_Call_method m.base m.few m.line PySem.F.plainAttrs_dict PySem.F.slot_dict_pop PySem.F.type_dict_pop (thn (L pins s σ H _ I h) λu l ⟨x,H1,g,q,a,ex,d,q1⟩=>?_)
 subst ex
 obtain rfl:u=Value.ref a:=q
 obtain ⟨i,j,_⟩:=iD g d
 refine ⟨i,j,?_⟩
 rw [m.trees]
 refine Calls.callWith_builtin rfl (Calls.evalArgs_plain (Calls.spliced_cons (thn (O pins l σ H1 _ g q1) λr P ⟨y,U,w,z,k,b,v,C,D,G,q2⟩=>Calls.spliced_nil ?_)))
 subst C
 obtain rfl:r=Value.ref b:=z
 exact wU K w G D [] (.inl rfl) λW Y J f=>⟨v,_,J,f,q2⟩
theorem jB(hu:X.A.units+1<cLine)(ho:PE X o td)(he:PE X e ty)(hf:PE X f tx)(m:M2 X o "pop" apos e f cpos):PE X (.Call (.Attribute o "pop" apos) [e,f] [] cpos) (xG td ty tx):=by
 intro pins s σ H Q I h
 refine wpAny_Call_method m.base m.few m.line PySem.F.plainAttrs_dict PySem.F.slot_dict_pop PySem.F.type_dict_pop (thn (ho pins s σ H _ I h) λu G ⟨x,H1,q,J,a,ex,d,q1⟩=>?_)
 subst ex
 obtain rfl:u=Value.ref a:=J
 obtain ⟨r,C,_⟩:=iD q d
 refine ⟨r,C,?_⟩
 rw [m.trees]
 refine Calls.callWith_builtin rfl (Calls.evalArgs_plain (Calls.spliced_cons (thn (he pins G σ H1 _ q q1) λK L ⟨y,O,P,U,q2⟩ =>
  Calls.spliced_cons (thn (hf pins L σ O _ P q2) λj W ⟨z,Y,g,Z,k,b,ey,eb,q3⟩=>Calls.spliced_nil ?_))))
 subst ey
 obtain rfl:K=Value.ref b:=U
 rcases q3 with ⟨v,ea,q3⟩ | ⟨ea,q3⟩
 ·exact wU hu g ea eb [j] (.inr ⟨j,ϱ⟩) λw' W g l=>⟨v,_,g,l,q3⟩
 ·obtain ⟨hz,D,xs,i,dd⟩:=qc g.hok ea
  cases i
  exact call_meetsIn PySem.F.slot_dict_pop dd.typeIs PySem.F.entry_dict_pop (PySem.F.args_dict_pop_3 _ _ _) (pX (tupleKind (aJ X.prog X.w)) a b D j) ⟨dd,z,Y,g,Z,q3⟩
end
end L2
namespace K52
open PySem L2 Lo St
section
variable {P:Program}{w:World}{K:Frag}{mg:Str->Option Value}{base:Heap}{f CL CS CH CV:Addr}{fd:FuncData}{C:Kd->Addr}{CW:Wd->Addr}
theorem yU{n:Nat}{e:Wd}{f:List Int}(d:Ar e f)(g:inC n e f):∃k,lN e f=some k:=by
 cases e with
 | take=>obtain ⟨a,b,rfl,_⟩:=d.c rfl;exact ⟨_,rfl⟩
 | mean=>obtain ⟨a,b,rfl,_⟩:=d.c rfl;exact ⟨_,rfl⟩
 | give=>obtain ⟨a,b,rfl,_⟩:=d.c rfl;exact ⟨_,rfl⟩
 | sum=>obtain ⟨a,b,c,rfl,_⟩:=d.s;exact ⟨_,rfl⟩
 | add=>obtain ⟨a,b,c,rfl,_⟩:=d.a;exact ⟨_,rfl⟩
 | plus=>exact g.elim
 | need=>exact g.elim
inductive nN (C:Kd->Addr) (CS CH CL CV:Addr) (K:Frag) (Pt:Addr) (vs:List V) (H:Hp) (Q:VK) (E:XK):Prop|mk b h d rs us v i hand wd ns x:vs=[.ref (x:Wx).W.l,.ref (h:Ah).l,.ref (b:Bx).pa,.int i,.int hand,.str (txt wd ns)]->b.Pt=Pt->Gs C CS CH CL CV K H b (shL CH b.A.l h rs us v) d x H (shL CH b.A.l h rs us v) d x->((isB d=true->∀H',Same H H'->Q .non H'))->((isB d=false->Ar wd ns/\inC d.cells.length wd ns/\d.cells.length<=900/\DrI x.dk/\x.dk.length<=100/\x.ak.length<=100/\rs.length<=100/\us.length<=100/\x.due.length<=900/\bu x.ak (.inl i)=none/\∀lk dd aa c vs' us' d' rs' v' H',lN wd ns=some lk->Gs C CS CH CL CV K H b (shL CH b.A.l h rs us v) d x H' (shL CH b.A.l h rs' us' v') d' ⟨x.W,x.dl,vs',(some dd,some aa),aF x.dk (aF [] (chK (dn (bW x.dk d.cells) wd ns hand).2)),ce x.ak (.inl i) (.int (dn (bW x.dk d.cells) wd ns hand).1),fu x.due lk,some c⟩->d'=d\/d'=d.kp .work->Q .non H'))->nN C CS CH CL CV K Pt vs H Q E
theorem yn{Pt:Addr}(F:Fun K "work" "Works.work" fX f fd)(TW:TxW K CW)(T:TxV K CV)(L:TxL K C CL)(n:Nq C CS CH CL CV)
  (GB:GM P w K mg base CX0 2 CV "is_bound" ["self","p"] (rW CS CV K))(GK:GM P w K mg base CX0 5 CL "ask" ["self","p","lock"] (xP C CL K))(GO:GF P w K mg base CX0 3 "lock_of" ["told"] (iI C K))
  (GR:GF P w K mg base CX0 6 "read_step" ["text"] (ky CW))(GL:∀wd,GM P w K mg base CX0 3 (CW wd) "lock" ["self"] (dO CW K wd))(GS:GM P w K mg base CX0 7 CV "do_step" ["self","sheet","p","waited"] (uU C CS CH CL CV K Pt)):FnOk P w K mg base CX0 8 f fd ["self","sheet","p","i","hand","text"] (nN C CS CH CL CV K Pt):=by
 refine F.ok ml (λvs H Q E h=>?_) (λc5 A0 b0 s H vs Q E g h=>?_)
 ·obtain ⟨b,h,d,Y,Z,v,i,e,wd,D,x,rfl,_⟩:=h
  rfl
 obtain ⟨b,h,d,Y,Z,v,i,e,wd,D,⟨W,dl,vs,o,dk,G,j,cz⟩,rfl,a4,g0,q1,q2⟩:=h
 simp only [] at q2
 refine ⟨_,ah (aG (bL (pm GB (pv 0) T.cl g (ac (pv 2) af))) (ai se) aA)
  (ai (aG (gO (oK (cu g) (pv 3) (lE (cu g) (aq (pv 0) rfl) (pv 2) gR ⟨ϱ,ϱ,ϱ,ϱ⟩))) aD
   (ai (aG (gO (hX (cu g) (pv 2) (aq (pv 0) rfl))) (ai (aG (bL (pm GK (aq (pv 0) rfl) L.cl g (ac (pv 2) (ac (pc GO g (ac (pm0 (GL wd) (pc GR g (ac (pv 5) af)) (TW.cl wd) g) af)) af))))
    (ai (aV (pm GS (pv 0) T.cl g (ac (pv 1) (ac (pv 2) (ac (aI (ac (pv 3) (ac (pv 4) (ac (pv 5) af)))) af)))))) aD)) aA)))),?_⟩
 refine ⟨_,ϱ,W.l,W.dx,_,ϱ,g0.wo.wi,cX θ,_,ϱ,W,b.home,b.many,b.A,d,_,b.p,ϱ,g0.wo.wi,g0.sa,g0.wo.pa,λH1 s1=>⟨_,ϱ,?_⟩⟩
 cases eb:isB d with
 | true=>exact cj (q1 eb H1 s1)
 | false =>
 obtain ⟨ar,ic,hn,di,a5,a6,a7,a8,ab,ev,q2⟩:=q2 eb
 obtain ⟨J,O⟩:=yU ar ic
 refine aL ?_
 have g1:=g0.same n s1
 refine ⟨_,ϱ,_,ϱ,W.l,CV,W.dx,_,_,ϱ,g1.wo.wi,T.cl,T.an,jP,W.an,ϱ,.inr ⟨_,.inl g1.an⟩,_,ϱ,λq0 z=>⟨_,DGet.t (k:=pk b.p) (ag z _ _ g1.an) (ag z _ _ g1.wo.pa),?_⟩⟩
 have s2:=ag (o:=.dK []) z
 have r:=g1.same n s2
 rw [cV]
 obtain ⟨y,hy,as⟩:∃y,(Option.map V.ref o.2).getD (.ref q0)=.ref y/\(upd H1 q0 (.dK [])) y=some (.dK G):=by
  obtain ⟨od,oa⟩:=o
  cases oa with
  | none=>exact ⟨q0,rfl,by rw [show G=[] from g0.wo.n2 rfl];exact ae⟩
  | some x=>exact ⟨x,rfl,r.aa rfl⟩
 rw [hy]
 refine ⟨y,_,ϱ,DGet.k (k:=.inl i) as,_,ϱ,?_⟩
 rw [show bu G (.inl i)=none from ev]
 refine aL ⟨_,ϱ,_,ϱ,W.l,CV,W.dx,_,_,ϱ,r.wo.wi,T.cl,T.pe,rH,W.pe,_,ϱ,DGet.t (k:=pk b.p) r.pe r.wo.pa,_,ϱ,cj ?_⟩
 refine ⟨_,ϱ,W.l,CV,W.dx,_,_,ϱ,r.wo.wi,T.cl,T.lk,pj,W.lk,dl,_,ϱ,r.co j1,eN θ,_,ϱ,_,ϱ,wd,D,ϱ,ar,λsv H3 s3 X=>?_⟩
 obtain ⟨sa,av,rfl,aR⟩:=id X
 have fl:=zG (m:="lock") θ θ θ θ θ wd D
 refine ⟨sa,av,_,ϱ,aR,fl,_,D,ϱ,ar,X,λu H4 s4 lo=>?_⟩
 rw [O] at lo
 obtain ⟨la,rfl,aS⟩:=lo
 refine ⟨_,J,ϱ,rB aS,λu2 H5 s5 bd=>?_⟩
 have U:=r.same n (s3.trans (s4.trans s5))
 refine ⟨W.lk,W.pl,_,_,b.p,u2,J,ϱ,U.ls,Nat.lt_of_le_of_lt ab ζ,gn (k:=b.p) U.wo.pa,bd,λH6 bg k6=>?_⟩
 obtain ⟨c2,q,_,e6,aZ⟩:=bg
 have I:=U.wo.im n (gZ k6 (U.co j2) id)
 have g6:Gs C CS CH CL CV K H b (shL CH b.A.l h Y Z v) d ⟨W,dl,vs,o,dk,G,j,cz⟩ H6 (shL CH b.A.l h Y Z v) d ⟨W,dl,q,o,dk,G,fu j J,cz⟩:=⟨U.ow.kp 9 rfl k6 e6,I.si,I.wi,aZ,I.cz,I.pa,I.n1,I.n2⟩
 refine ⟨_,ϱ,cj ⟨_,ϱ,W.l,W.dx,_,ϱ,g6.wo.wi,cX θ,_,ϱ,_,ϱ,_,ϱ,_,ϱ,_,ϱ,χ,λwt bi=>?_⟩⟩
 have g7:=g6.same n (ag (o:=.tup [.int i,.int e,.str (txt wd D)]) bi)
 exact ⟨b,h,d,Y,Z,v,wt,i,e,wd,D,⟨W,dl,q,o,dk,G,fu j J,cz⟩,ϱ,a4,g7.self gr,ae,ar,ic,hn,di,a5,a6,a7,a8,λdd aa c bl d' bm v' H8 g8 ed=>q2 J dd aa c q bl d' bm v' H8 O (g7.trans g8) ed⟩
def Yes(H:Hp)(b:Bx)(u:V):Prop:=∃t,WsAt H (b.p.1,"yes",b.pa,t) u/\H t=some (.tup [])
inductive nY (C:Kd->Addr) (CS CH CL CV:Addr) (K:Frag) (vs:List V) (H:Hp) (Q:VK) (E:XK):Prop|mk b h d rs us v ht xs x:vs=[.ref (x:Wx).W.l,.ref (h:Ah).l,.ref (b:Bx).pa,.ref ht]->Gs C CS CH CL CV K H b (shL CH b.A.l h rs us v) d x H (shL CH b.A.l h rs us v) d x->SqU K H ht xs->rs.length<=900->us.length<=900->x.due.length<=900->((isB d=true->∀u H',Gs C CS CH CL CV K H b (shL CH b.A.l h rs us v) d x H' (shL CH b.A.l h rs (us++[u]) v) d x->Yes H' b u->Q .non H'))->((isB d=false->(x.o.2=none->∀H',Same H H'->Q .non H')/\∀aa,x.o.2=some aa->d.rd=none/\∃es,x.dk=nK es/\es.length<64/\∀dd r u v' H',Gs C CS CH CL CV K H b (shL CH b.A.l h rs us v) d x H' (shL CH b.A.l h (rs++[r]) (us++[u]) v') (d.kp (.ready ⟨r,.ref ht,x.due,bU ltP es⟩)) ⟨x.W,x.dl,x.vs,(some dd,none),x.dk,[],x.due,x.cz⟩->Nw H' (d.kp (.ready ⟨r,.ref ht,x.due,bU ltP es⟩)) v'->Yes H' b u->Q .non H'))->nY C CS CH CL CV K vs H Q E
theorem vS(F:Fun K "ready" "Works.ready" cq f fd)(B:TxB mg)(T:TxV K CV)(DH:TxH K CH)(n:Nq C CS CH CL CV)(GB:GM P w K mg base CX0 2 CV "is_bound" ["self","p"] (rW CS CV K))(GH:GM P w K mg base CX0 6 CV "held" ["self"] (pD C CL CV K))(aR:GM P w K mg base CX0 3 CH "row" ["self","row"] (kT CS CH CL K))(GS:GM P w K mg base CX0 1 CH "send" ["self","to","word","p","more"] (kz CH CL)) :
  FnOk P w K mg base CX0 7 f fd ["self","sheet","p","houses"] (nY C CS CH CL CV K):=by
 refine F.ok sc_Works_ready (λvs H Q E h=>?_) (λdy A0 c0 s H vs Q E L h=>?_)
 ·obtain ⟨b,h,d,Z,J,v,U,xs,x,rfl,_⟩:=h
  rfl
 obtain ⟨b,h,d,Z,J,v,U,xs,⟨W,dl,vs,o,dk,ak,e,cz⟩,rfl,g0,bi,bl,bm,a0,q1,q2⟩:=h
 have nd:=sc_Works_ready.nd
 simp only [] at a0 q2
 refine ⟨_,ah (aG (dY (bL (pm GB (pv 0) T.cl L (ac (pv 2) af))))
   (ah (aG (PW.pt (io (gO (hX (cu L) (pv 2) (aq (pv 0) rfl))) (fQ (gO (oK (cu L) (pv 2) (aq (pv 0) rfl)))))) (ai se) aA)
   (ah (aH (i:=4) nd rfl (Or.inl rfl) (aP cw rfl B.tuple PyProof.Rows.boot_tuple (ac (cM jx rfl (bV (pm0 GH (pv 0) T.cl L)) (λ_ _ _ _=>fR (ax (sw K cPa (hun L)) (az (r:=ba K) aC (pv 0) aj (λ_ _=>rfl)) (pv 1) (aw _))) (λ_ _ _ _=>az (r:=ba K) aC (pv 0) aj (λ_ _=>rfl))) af)))
   (ah (aV (pm aR (pv 1) DH.cl L (ac (aI (ac aB (ac (pv 2) (ac (aP cw rfl B.tuple PyProof.Rows.boot_tuple (ac (pv 3) af)) (ac (pv 4)
    (ac (aP qh rfl B.tuple PyProof.Rows.boot_tuple (ac (aK (o6 rfl (hun (c:=3) L)) rfl B.sorted PyProof.Rows.boot_sorted (ac (tG (fV (cu L) (aq (pv 0) rfl) (pv 2) (λ_ _=>rfl))) af)) af)) af)))))) af)))
   (ai (aV (tH (cu L) (aq (pv 0) rfl) (pv 2) ⟨ϱ,ϱ,ϱ,ϱ⟩)))))) aA)
  (fT (u:=λD σ H1=>∃x4 I O d' x',σ=[some (.ref W.l),some (.ref h.l),some (.ref b.pa),some (.ref U),x4]/\Gd C CS CH CL CV K (ad (shL CH b.A.l h Z J v++(stL b.p b.A d++wtL CL b ⟨W,dl,vs,o,dk,ak,e,cz⟩))) H H1 b (shL CH b.A.l h I J O) d' x'/\∀u m,Gs C CS CH CL CV K H1 b (shL CH b.A.l h I J O) d' x' m (shL CH b.A.l h I (J++[u]) O) d' x'->Yes m b u->∀σ',D.nx σ' m)
   (ai (aV (pm GS (pv 1) DH.cl L (ac (az (r:=ba K) aC (pv 2) aj (λ_ _=>rfl)) (ac aB (ac (pv 2) (ac (aI af) af))))))) ?s1),?_⟩
 case s1 =>
  rintro D σ H1 ⟨x4,I,O,d',x',rfl,g,nx⟩
  refine ⟨_,ϱ,h.l,h.dx,_,ϱ,g.sh,fq θ,_,ϱ,b.pa,_,_,_,ϱ,ϱ,SqT.of g.wo.pa,St.at0,_,ϱ,χ,λt c1=>?_⟩
  have s2:=ag (o:=.tup []) c1
  have g2:=(g.self gr).same n s2
  exact ⟨b.A.l,h,I,J,O,(b.p.1,"yes",b.pa,t),stL b.p b.A d'++wtL CL b x',ϱ,(g2.self gr).ow,bm,λu m o' hw=>nx u m (g2.trans ⟨o',g2.wo.im n o'.im⟩) ⟨t,hw,ImS.ts o'.im _ _ ae⟩ _⟩
 refine ⟨_,ϱ,W.l,W.dx,_,ϱ,g0.wo.wi,cX θ,_,ϱ,W,b.home,b.many,b.A,d,_,b.p,ϱ,g0.wo.wi,g0.sa,g0.wo.pa,λH1 s1=>⟨_,ϱ,?_⟩⟩
 have g1:=g0.same n s1
 cases eb:isB d with
 | true=>exact aL ⟨none,Z,v,d,_,rfl,g1,λu m g' y _=>q1 eb u m (g1.trans g') y⟩
 | false =>
 obtain ⟨q2,q3⟩:=q2 eb
 refine cj ?_
 have dg:=DGet.t (k:=pk b.p) g1.an g1.wo.pa
 rw [cV] at dg
 refine ⟨_,ϱ,_,ϱ,W.l,CV,W.dx,_,_,ϱ,g1.wo.wi,T.cl,T.an,jP,W.an,_,ϱ,dg,_,ϱ,?_⟩
 obtain ⟨od,oa⟩:=o
 cases oa with
 | none=>exact cj (cj (q2 rfl H1 s1))
 | some aa =>
 obtain ⟨er,X,bt,bA,q4⟩:=q3 aa rfl
 cases od with
 | none=>exact absurd (g0.wo.n1 rfl).2 (by intro z;cases z)
 | some dd =>
 subst bt
 refine aL ⟨_,ϱ,_,ϱ,W.l,CV,W.dx,_,_,ϱ,g1.wo.wi,T.cl,T.pe,rH,W.pe,_,ϱ,DGet.t (k:=pk b.p) g1.pe g1.wo.pa,_,ϱ,aL ?_⟩
 refine ⟨_,ϱ,W.l,W.dx,_,ϱ,g1.wo.wi,cX θ,W,b.home,b.many,b.A.l,_,ϱ,g1.wo.wi,g1.ls,(by rw [ν];exact Λ a0 ζ),⟨_,eL b.p _⟩,λq0 H2 c3 s2 a8 pu=>⟨q0,ϱ,⟨_,SqL.of a8⟩,?_⟩⟩
 have lu:=pu.len
 rw [ν] at lu
 refine cA (xs:=c3) (λi q m=>Same H2 m/\Paired (cLk.rp K m) (e.take i) q) ⟨Same.refl _,.nil⟩ (Λ (by rw [← lu];exact a0) ζ) (λi q m _ z=>SqL.of (z.1 _ _ a8)) ?_ ?_
 ·rintro i u q H3 hu ⟨s3,py⟩
  obtain ⟨k,ek,rk⟩:=pu.get hu
  rw [List.getElem?_map] at ek
  obtain ⟨k',bB,rfl⟩:=Option.map_eq_some_iff.mp ek
  obtain ⟨a,u1,u2,rfl,ha,r1,r2⟩:=cPr.keep s3.ts rk
  refine ⟨_,ϱ,a,_,_,_,ϱ,ϱ,ha.sq,St.at0,_,ϱ,b.p,b.p,r1,gn (k:=b.p) (s3 _ _ (s2 _ _ g1.wo.pa)),_,ϱ,?_⟩
  rw [τ rfl]
  refine cj ⟨_,ϱ,a,_,_,_,ϱ,ϱ,ha.sq,St.at1,s3,?_⟩
  rw [List.take_succ,bB]
  exact py.app (.cons r2 .nil)
 ·rintro q H3 ⟨s3,py⟩ p3 cp
  rw [← lu,List.take_length] at py
  have s4:=ag (o:=.lst q) cp
  refine ⟨p3,q,ϱ,.inl ⟨SqL.of ae,λt c4=>?_⟩⟩
  have s5:=ag (o:=.tup q) c4
  have a4:=s2.trans (s3.trans (s4.trans s5))
  have g5:=g1.same n a4
  have bP:DGet (upd (upd H3 p3 (.lst q)) t (.tup q)) W.dr (.ref b.pa) (some (.ref dd)):=by
   have:=DGet.t (k:=pk b.p) g5.dr g5.wo.pa
   rw [cV] at this
   exact this
  have bS:LtT K (upd (upd H3 p3 (.lst q)) t (.tup q)) e (.ref t):=⟨t,q,ϱ,ae,pp py λ_ _ z=>cLk.keep (s4.trans s5).ts z⟩
  refine ⟨_,ϱ,h.l,h.dx,_,ϱ,g5.sh,fq θ,_,ϱ,_,ϱ,U,xs,ϱ,.inr ⟨(bi.keep (s1.trans a4).ts).sq,?_⟩⟩
  refine ⟨_,ϱ,_,ϱ,W.l,CV,W.dx,_,_,ϱ,g5.wo.wi,T.cl,T.dr,pz,_,ϱ,W.dr,_,ϱ,bP,dd,_,ϱ,g5.dd rfl,λvw c5=>?_⟩
  have s6:=ag (o:=Vw vw dd) c5
  refine ⟨vw,dd,X,ϱ,ae,s6 _ _ (g5.dd rfl),bA,λH7 l7 y7 s7 ca p7=>?_⟩
  have s8:=ag (o:=.lst y7) ca
  refine ⟨l7,y7,ϱ,SqL.of ae,λl9 H9 dN s9 tf=>⟨χ,λr cd=>?_⟩⟩
  have a2:=ag (o:=.tup [.str "ready",.ref b.pa,.ref U,.ref t,.ref l9]) cd
  have a5:=s6.trans (s7.trans (s8.trans (s9.trans a2)))
  have G:=g5.same n a5
  obtain ⟨o9,bC,bG⟩:=tf
  have a6:RxAt K (upd H9 r (.tup [.str "ready",.ref b.pa,.ref U,.ref t,.ref l9])) b.p r (.ready ⟨r,.ref U,e,bU ltP X⟩):=⟨ϱ,b.pa,.ref t,l9,y7,ae,G.wo.pa,bS.keep a5.ts,⟨o9,a2 _ _ bC,bG⟩,Paired.mapP p7 λ_ _ z=>z.keep (s9.trans a2).ts⟩
  refine ⟨b.p,b.A,h,d,Z,J,v,r,.ready ⟨r,.ref U,e,bU ltP X⟩,wtL CL b ⟨W,dl,vs,(some dd,some aa),nK X,ak,e,cz⟩,ϱ,(G.self gr).ow,G.wo.si,a6,⟨(λc hc=>by cases hc),(λ_ _=>er),λ_ z=>by cases z⟩,bl,λO a3 ab nw=>?_⟩
  have j:=G.trans (S':=shL CH b.A.l h (Z++[r]) J O) ⟨ab,(G.wo.row a6).im n ab.im⟩
  refine ⟨_,ϱ,W.l,CV,W.dx,_,_,ϱ,j.wo.wi,T.cl,T.an,jP,W.an,ϱ,.inr ⟨_,.inl j.an⟩,_,ϱ,pk b.p,b.pa,.ref aa,ϱ,j.wo.pa,j.an,?_⟩
  have Y:ImS CH CL a3 (upd a3 W.an (.dT [])):=gZ cm j.an id
  have a7:Gs C CS CH CL CV K H b (shL CH b.A.l h Z J v) d ⟨W,dl,vs,(some dd,some aa),nK X,ak,e,cz⟩ (upd a3 W.an (.dT [])) (shL CH b.A.l h (Z++[r]) J O) (d.kp (.ready ⟨r,.ref U,e,bU ltP X⟩)) ⟨W,dl,vs,(some dd,none),nK X,[],e,cz⟩ :=
   ⟨(j.ow.up 11 (.dT []) rfl).sub (List.sublist_append_left _ [(aa,HO.dK ak)]),(j.wo.od (o:=(some dd,none)) (dk:=nK X) (ak:=[]) (λz=>by cases z) (λ_=>rfl)).im n Y⟩
  exact ⟨_,_,O,_,_,ϱ,a7,λu m g' y _=>q4 dd r u O m (a7.trans g') ((nw.keep Y.ts).keep (ImS.ts g'.ow.im)) y⟩
inductive oj (C:Kd->Addr) (CS CH CL CV:Addr) (K:Frag) (vs:List V) (H:Hp) (Q:VK) (E:XK):Prop|mk b h d rs us v x dd:vs=[.ref (x:Wx).W.l,.ref (h:Ah).l,.ref (b:Bx).pa]->Gs C CS CH CL CV K H b (shL CH b.A.l h rs us v) d x H (shL CH b.A.l h rs us v) d x->x.o=(some dd,none)->x.due.length<=900->(∀W' dl H',(W':Aw).l=x.W.l->Gs C CS CH CL CV K H b (shL CH b.A.l h rs us v) d x H' (shL CH b.A.l h rs us v) d ⟨W',dl,[],(none,none),[],[],[],x.cz⟩->Q .non H')->oj C CS CH CL CV K vs H Q E
theorem wc(F:Fun K "ended" "Works.ended" fb f fd)(T:TxV K CV)(L:TxL K C CL)(n:Nq C CS CH CL CV)(a0:GM P w K mg base CX0 5 CL "free" ["self","p"] (z5 C CL K)):FnOk P w K mg base CX0 6 f fd ["self","sheet","p"] (oj C CS CH CL CV K):=by
 refine F.ok sc_Works_ended (λvs H Q E h=>?_) (λa8 A0 Z s H vs Q E J h=>?_)
 ·obtain ⟨b,h,d,m,r,v,x,dd,rfl,_⟩:=h
  rfl
 obtain ⟨b,h,d,m,r,v,⟨W,G,vs,o,dk,ak,g,I⟩,dd,rfl,g0,eo,X,q⟩:=h
 have nd:=sc_Works_ended.nd
 cases (show o=(some dd,none) from eo)
 have ea:ak=[]:=g0.wo.n2 rfl
 subst ea
 refine ⟨_,ah (aV (jB (cu J) (aq (pv 0) rfl) (pv 2) bX ⟨ϱ,ϱ,ϱ,ϱ⟩)) (ah (aV (jB (cu J) (aq (pv 0) rfl) (pv 2) bX ⟨ϱ,ϱ,ϱ,ϱ⟩)) (ah (aV (jB (cu J) (aq (pv 0) rfl) (pv 2) bX ⟨ϱ,ϱ,ϱ,ϱ⟩))
  (ai (gP PassesOwn.never rfl (bV (pm a0 (aq (pv 0) rfl) L.cl J (ac (pv 2) af))) (ci (i:=3) nd rfl (Or.inl rfl)) aD)))),?_⟩
 refine ⟨_,ϱ,W.l,CV,W.dx,_,_,ϱ,g0.wo.wi,T.cl,T.dr,pz,W.dr,ϱ,.inr ⟨_,.inl g0.dr⟩,_,ϱ,pk b.p,b.pa,ϱ,g0.wo.pa,.inl ⟨.ref dd,g0.dr,?_⟩⟩
 have g1:Gs C CS CH CL CV K H b (shL CH b.A.l h m r v) d ⟨W,G,vs,(some dd,none),dk,[],g,I⟩ (upd H W.dr (.dT [])) (shL CH b.A.l h m r v) d ⟨W,G,vs,(none,none),[],[],g,I⟩ :=
  ⟨(g0.ow.up 10 (.dT []) rfl).sub (List.sublist_append_left _ [(dd,HO.dK dk)]),(g0.wo.od (o:=(none,none)) (dk:=[]) (ak:=[]) (λ_=>⟨ϱ,ϱ⟩) (λ_=>rfl)).im n (gZ cm g0.dr id)⟩
 generalize (upd H W.dr (HO.dT []))=H1 at g1 ⊢
 refine ⟨_,ϱ,W.l,CV,W.dx,_,_,ϱ,g1.wo.wi,T.cl,T.an,jP,W.an,ϱ,.inr ⟨_,.inl g1.an⟩,_,ϱ,pk b.p,b.pa,ϱ,g1.wo.pa,.inr ⟨g1.an,?_⟩⟩
 refine ⟨_,ϱ,W.l,CV,W.dx,_,_,ϱ,g1.wo.wi,T.cl,T.pe,rH,W.pe,ϱ,.inr ⟨_,.inl g1.pe⟩,_,ϱ,pk b.p,b.pa,ϱ,g1.wo.pa,.inr ⟨g1.pe,?_⟩⟩
 refine ⟨_,ϱ,W.l,CV,W.dx,_,_,ϱ,g1.wo.wi,T.cl,T.lk,pj,W.lk,G,_,ϱ,g1.co j1,eN θ,_,ϱ,W.lk,W.pl,_,_,b.p,ϱ,g1.ls,Λ X ζ,gn (k:=b.p) g1.wo.pa,λq2 D j O e1 e2 np k2 hq=>⟨q2,ϱ,⟨_,SqL.of hq⟩,?_⟩⟩
 have k3:Kp W.lk (upd H1 D (.lst [])) O:=λc o nc e=>by
  by_cases z:c=D
  ·subst z
   rw [ae] at e
   cases e
   exact e2
  ·rw [am z] at e
   exact k2 c o nc e
 have Y:H1 W.lk=some (.ins CL G [("pairs",.ref W.pl)]):=g1.co j1
 have o3:=((g1.ow.new np (.lst [])).kp 8 rfl k3 e1).repl (A:=shL CH b.A.l h m r v++(stL b.p b.A d++[(b.Pt,.tbl (xa I)),(W.lk,.ins CL j [("pairs",.ref D)])])) (B:=[(W.dr,.dT []),(W.an,.dT []),(W.pe,.dT [])]) (x:=(W.pl,.lst vs)) (y:=(D,.lst []))
 have u:=g1.wo.im n (gZ k2 Y (λz=>z.2.2 rfl))
 have g3:Gs C CS CH CL CV K H b (shL CH b.A.l h m r v) d ⟨W,G,vs,(some dd,none),dk,[],g,I⟩ O (shL CH b.A.l h m r v) d ⟨⟨W.l,W.dx,W.lk,D,W.dr,W.an,W.pe⟩,j,[],(none,none),[],[],[],I⟩:=⟨o3,u.si,u.wi,.nil,u.cz,u.pa,u.n1,u.n2⟩
 exact qb (xs:=[]) (λi σ U=>U=O) rfl (λi σ U _ z=>by rw [z];exact SqL.of hq) (λi x σ U e=>by cases e) fun σ U z=>by rw [z];exact q ⟨W.l,W.dx,W.lk,D,W.dr,W.an,W.pe⟩ j O rfl g3
theorem yk{X:Cx}(n:Nat)(hu:X.A.units+n+1<cLine):OpR X (compareOp .NotEq) (λx y H Q=>∃a b us vs,x=.ref a/\y=.ref b/\SqL X.K H a us/\SqL X.K H b vs/\Paired (λx y=>EqIs X.K n H x y true) us vs/\Q (.bl false) H):=by
 intro F s σ H x y v u Q I rx ry h
 obtain ⟨a,b,us,vs,rfl,rfl,G,J,i,q⟩:=h
 cases rx
 cases ry
 obtain ⟨d,l,L,_⟩:=I.list G
 obtain ⟨m,o,O,_⟩:=I.list J
 have l1:=l.length
 have l2:=o.length
 have l3:=i.len
 have z:=PySem.SeqAt.RcNeAt.lists (A:=X.A) (s:=s) (e:=λ_=>true) L.isList O.isList (by simp;omega) ω (λj h1 h2=>by
  have f:j<d.length:=by simpa using h1
  have g:j<m.length:=by simpa using h2
  have D:us[j]?=some us[j]:=ξ ω
  obtain ⟨y,P,U⟩:=i.get1 D
  obtain ⟨u,r,W⟩:=l.get D
  obtain ⟨v,C,Y⟩:=o.get P
  have q:=U X.prog X.w X.A.in1 s u v (by show X.A.units+1+n<cLine;omega) I.hok I.kIn W Y
  have Z:d.toArray[j]=u:=by
   rw [ξ f] at r
   simpa using Option.some.inj r
  have z2:m.toArray[j]=v:=by
   rw [ξ g] at C
   simpa using Option.some.inj C
  rw [Z,z2]
  exact q)
 have ez:(!(List.range d.toArray.size).all λ_=>true)=false:=by simp
 rw [ez] at z
 exact z X.prog X.w X.xe _ ⟨.bl false,H,I,ϱ,q⟩
theorem vh{H:Hp}{a b:Addr}{n:Nat}{us vs:List V}(ha:H a=some (.lst us))(hb:H b=some (.lst vs))(h:Paired (λx y=>EqIs K n H x y true) us vs):qp K (n+1) H (.ref a) (.ref b) true:=by
 intro P w A s u v hA d m Z r2
 cases Z
 cases r2
 obtain ⟨_,f,n1,o,G⟩:=(show ObjOk P w H s.heap a (.lst us) from d a _ ha)
 obtain ⟨_,g,n2,r,I⟩:=(show ObjOk P w H s.heap b (.lst vs) from d b _ hb)
 have l1:=o.length
 have l2:=r.length
 have l3:=h.len
 have q1:s.heap.IsList a f.toArray:=⟨_,G,ϱ,_,ϱ⟩
 have q2:s.heap.IsList b g.toArray:=⟨_,I,ϱ,_,ϱ⟩
 have z:=PySem.SeqAt.RcAt.lists (A:=A) (s:=s) (e:=λ_=>true) q1 q2 (by simp;omega) ω (λj h1 Y=>by
  have i:j<f.length:=by simpa using h1
  have l:j<g.length:=by simpa using Y
  have F:us[j]?=some us[j]:=ξ ω
  obtain ⟨y,J,L⟩:=h.get1 F
  obtain ⟨u,C,O⟩:=o.get F
  obtain ⟨v,D,Q⟩:=r.get J
  have q:=L P w A.in1 s u v (by show A.units+1+n<cLine;omega) d m O Q
  have U:f.toArray[j]=u:=by
   rw [ξ i] at C
   simpa using Option.some.inj C
  have W:g.toArray[j]=v:=by
   rw [ξ l] at D
   simpa using Option.some.inj D
  rw [U,W]
  exact q)
 have X:((List.range f.toArray.size).all λ_=>true)=true:=by simp
 rw [X] at z
 exact z
inductive oh (vs:List V) (H:Hp) (Q:VK) (E:XK):Prop|mk c:vs=[.int c]->(∀r,inV r->Q (.int r) H)->oh vs H Q E
theorem yy(F:Fun K "_law_number" "_law_number" eV f fd):FnOk P w K mg base CX0 1 f fd ["_law_cell"] oh:=by
 refine F.ok kY (λvs H Q E h=>?_) (λd A b s H vs Q E e h=>?_)
 ·obtain ⟨c,rfl,_⟩:=h
  rfl
 obtain ⟨c,rfl,q⟩:=h
 refine ⟨_,ah (aG (ax bJ (aN dh (pv 0) aj) aj (aw _)) (ai (au (aN d7 (aN lG (aN dh (aN cH (pv 0) aj) (aN lG (aN vG aj (aN vD aj aj)) aj)) (aN vD aj aj)) aj))) aA)
  (ai (au (aN lG (aN dh (aN cH (pv 0) aj) aj) aj))),?_⟩
 refine ⟨_,ϱ,_,_,ϱ,ϱ,(by show (0:Int)<3;decide),ϱ,_,ϱ,bx (λ_=>?_) (λ_=>?_)⟩
 ·refine ⟨_,ϱ,_,_,ϱ,ϱ,⟨ζ,ζ⟩,_,_,ϱ,ϱ,⟨ζ,ζ,ζ⟩,_,_,ϱ,ϱ,.inl ⟨ζ,ζ⟩,_,_,ϱ,ϱ,_,_,ϱ,ϱ,(by show (0:Int)<2*10 ^ 40-1;decide +kernel),_,_,ϱ,ϱ,⟨ζ,ζ,ζ⟩,_,_,ϱ,ϱ,_,_,ϱ,ϱ,q _ ?_⟩
  show (c/3%(2*10 ^ 40-1)-10 ^ 40+1:Int).natAbs<10 ^ 40
  have h0:0<=c/3%(2*10 ^ 40-1:Int):=Int.emod_nonneg _ θ
  have h1:c/3%(2*10 ^ 40-1:Int)<2*10 ^ 40-1:=Int.emod_lt_of_pos _ θ
  generalize c/3%(2*10 ^ 40-1:Int)=m at h0 h1 ⊢
  omega
 ·refine ⟨_,ϱ,_,_,ϱ,ϱ,⟨ζ,ζ⟩,_,_,ϱ,ϱ,(by show (0:Int)<25;decide),_,_,ϱ,ϱ,q _ ?_⟩
  show (c/3%25-9:Int).natAbs<10 ^ 40
  omega
theorem A7(a b:Str):(a++b).length=a.length+b.length:=by
 show (a.cps++b.cps).size=_
 rw [Array.size_append]
 rfl
theorem acs(a b:Str):(a++b).cps.toList=a.cps.toList++b.cps.toList:=by
 show (a.cps++b.cps).toList=_
 rw [Array.toList_append]
theorem ku{a b:Str}(h:a.cps.toList=b.cps.toList):a=b:=by
 obtain ⟨a⟩:=a
 obtain ⟨b⟩:=b
 have:a=b:=Array.toList_inj.mp h
 rw [this]
theorem BA:(Str.ofString " ").cps.toList=[32]:=by decide +kernel
theorem uC(b:Wd)(d:List Int):(txt b d).cps.toList=Km.cN 32 ((wS b::d.map iS).map λy=>y.cps.toList):=by
 unfold txt
 rw [jk]
 exact Km.db 32 _
theorem Bi(d:Wd)(b:Int):wS d++Str.ofString " 2 "++iS b=txt d [2,b]:=by
 refine ku ?_
 rw [uC]
 have e:(Str.ofString " 2 ").cps.toList=[32]++(iS 2).cps.toList++[32]:=by decide +kernel
 simp only [acs,e,List.map_cons,List.map_nil,Km.cN]
 simp
theorem Bg(d:Wd)(a b c:Int):txt d [a,b]++Str.ofString " "++iS c=txt d [a,b,c]:=by
 refine ku ?_
 simp only [acs,uC,BA,List.map_cons,List.map_nil,Km.cN]
 simp
theorem Bc(i:Int)(h0:0<=i)(b:i<5):∃w,w≠.plus/\w≠.need/\atI ([.str "take",.str "mean",.str "sum",.str "give",.str "add"]:List V) i=some (.str (wS w)):=by
 have:i=0\/i=1\/i=2\/i=3\/i=4:=by omega
 rcases this with rfl | rfl | rfl | rfl | rfl
 ·exact ⟨.take,ζ,ζ,ϱ⟩
 ·exact ⟨.mean,ζ,ζ,ϱ⟩
 ·exact ⟨.sum,ζ,ζ,ϱ⟩
 ·exact ⟨.give,ζ,ζ,ϱ⟩
 ·exact ⟨.add,ζ,ζ,ϱ⟩
inductive og (vs:List V) (H:Hp) (Q:VK) (E:XK):Prop|mk c m:vs=[.int c,.int (m:Nat)]->1<=m->m<=8->(∀wd ns H',Same H H'->Ar wd ns->inC m wd ns->Q (.str (txt wd ns)) H')->og vs H Q E
theorem vZ(F:Fun K "_law_step" "_law_step" gL f fd)(B:TxB mg)(GN:GF P w K mg base CX0 1 "_law_number" ["_law_cell"] oh):FnOk P w K mg base CX0 2 f fd ["_law_cell","_law_many"] og:=by
 refine F.ok sc__law_step (λvs H Q E h=>?_) (λa6 A J s H vs Q E j h=>?_)
 ·obtain ⟨c,m,rfl,_⟩:=h
  rfl
 obtain ⟨c,m,rfl,m1,m8,q⟩:=h
 have nd:=sc__law_step.nd
 obtain ⟨d,w1,w2,Z⟩:=Bc (c%5) (Int.emod_nonneg _ ζ) (Int.emod_lt_of_pos _ ζ)
 have O:(0:Int)<(m:Int):=by omega
 refine ⟨_,ah (aH (i:=2) nd rfl (Or.inl rfl) (aN dh (aN cH (pv 0) aj) (pv 1)))
  (ah (aH (i:=3) nd rfl (Or.inl rfl) (az (r:=bK K) aE (bf (ac aB (ac aB (ac aB (ac aB (ac aB af)))))) (aN dh (pv 0) aj) (λ_ _=>rfl)))
  (ah (aH (i:=4) nd rfl (Or.inl rfl) (aN cP (aN cP (pv 3) aB) (aP gm rfl B.str PyProof.Rows.boot_str (ac (pv 2) af))))
  (ah (aG (ax bJ (pv 3) aB (aw _)) (ai (au (aN cP (aN cP (pv 4) aB) (aP gm rfl B.str PyProof.Rows.boot_str (ac (aN d7 (pv 2) (aN dh (aN cH (pv 0) aj) (aN lG (pv 1) (pv 2)))) af))))) aA)
  (ah (aG (ax bJ (pv 3) aB (aw _)) (ai (au (aN cP (aN cP (pv 4) aB) (aP gm rfl B.str PyProof.Rows.boot_str (ac (pc GN j (ac (aN cH (pv 0) aj) af)) af))))) aA)
  (ai (au (pv 4))))))),?_⟩
 refine ⟨_,ϱ,_,_,ϱ,ϱ,⟨ζ,ζ⟩,_,ϱ,_,_,ϱ,ϱ,O,?_⟩
 have U:0<=c/5%(m:Int):=Int.emod_nonneg _ ω
 have C:c/5%(m:Int)<m:=Int.emod_lt_of_pos _ O
 obtain ⟨a,u⟩:∃a,c/5%(m:Int)=a:=⟨_,ϱ⟩
 rw [u] at U C
 have D:inN 2:=⟨ζ,ζ⟩
 have e:inN a:=⟨U,ω⟩
 refine ⟨χ,λl hl=>?_⟩
 have y:Same H _:=ag (o:=.lst [.str "take",.str "mean",.str "sum",.str "give",.str "add"]) hl
 refine ⟨_,ϱ,_,_,ϱ,ϱ,(by show (0:Int)<5;decide),l,_,_,_,ϱ,ϱ,SqL.of ae,Z,?_⟩
 generalize (upd H l _)=H1 at y ⊢
 have hz:(1000:Nat)<=sizeLine:=by decide
 have l1:=ut d
 have l3:=gi e.v
 have ls:(Str.ofString " ").length=1:=by decide +kernel
 have l2:(Str.ofString " 2 ").length=3:=by decide +kernel
 have lt:(txt d [2,a]).length<=100:=by rw [← Bi];simp only [A7];omega
 refine ⟨_,ϱ,_,_,ϱ,ϱ,?_,_,ϱ,a,congrArg (λz=>[V.int z]) u,wC e.v,_,_,ϱ,ϱ,?_,?_⟩
 ·show (wS d).length+(Str.ofString " 2 ").length<=sizeLine
  omega
 ·show (wS d++Str.ofString " 2 ").length+(iS a).length<=sizeLine
  simp only [A7];omega
 have et:=Bi d a
 have g:∀(x:Int),inV x->(txt d [2,a]++Str.ofString " ").length+(iS x).length<=sizeLine:=λx hx=>by
  have:=gi hx
  simp only [A7]
  omega
 erw [et]
 refine ⟨_,ϱ,ϱ,_,ϱ,bx (λk=>?_) (λX=>⟨_,ϱ,ϱ,_,ϱ,bx (λk=>?_) (λY=>?_)⟩)⟩
 ·obtain rfl:d=.sum:=fj k
  have W:(0:Int)<(m:Int)-a:=by omega
  refine ⟨_,ϱ,_,_,ϱ,ϱ,(by show (txt .sum [2,a]).length+(Str.ofString " ").length<=sizeLine;omega),_,ϱ,_,ϱ,_,_,ϱ,ϱ,⟨ζ,ζ⟩,_,ϱ,_,ϱ,_,a,ϱ,congrArg V.int u,_,_,ϱ,ϱ,W,a,_,congrArg V.int u,ϱ,?_⟩
  have b0:0<=c/40%((m:Int)-a):=Int.emod_nonneg _ ω
  have b1:c/40%((m:Int)-a)<m-a:=Int.emod_lt_of_pos _ W
  obtain ⟨b,L⟩:∃b,c/40%((m:Int)-a)=b:=⟨_,ϱ⟩
  rw [L] at b0 b1
  have G:inN (a+b):=⟨ω,ω⟩
  refine ⟨a+b,congrArg (λz=>[V.int (a+z)]) L,wC G.v,_,_,ϱ,ϱ,g _ G.v,?_⟩
  have I:=Bg .sum 2 a (a+b)
  erw [I]
  exact q .sum [2,a,a+b] H1 y ⟨D,e,G,ω⟩ ⟨ω,ω⟩
 ·obtain rfl:d=.add:=fj k
  refine ⟨_,ϱ,_,_,ϱ,ϱ,(by show (txt .add [2,a]).length+(Str.ofString " ").length<=sizeLine;omega),_,ϱ,_,_,ϱ,ϱ,⟨ζ,ζ⟩,_,ϱ,λr j=>⟨_,ϱ,wC j,_,_,ϱ,ϱ,g _ j,?_⟩⟩
  have I:=Bg .add 2 a r
  erw [I]
  exact q .add [2,a,r] H1 y ⟨D,e,j⟩ C
 ·refine ⟨_,ϱ,q d [2,a] H1 y ?_ ?_⟩
  ·have n3:=cB (b:=.sum) X
   have n4:=cB (b:=.add) Y
   cases d<;>first | contradiction | exact ⟨D,e⟩
  ·have n3:=cB (b:=.sum) X
   have n4:=cB (b:=.add) Y
   cases d<;>first | contradiction | exact C
theorem oR{i:Int}(h:inV i):PySem.intText? (iS i)=some i:=by
 have b:(iS i).length<=4300:=Λ (gi h) ζ
 have e:=p9 i
 unfold Km.bY at e
 split at e
 ·rename_i hn
  have:=PySem.intText_neg e (Km.fz _) (Km.ja _) b
  rw [Km.fw] at this
  rw [this]
  congr 1
  omega
 ·have:=PySem.intText_digits (x:=iS i) (by rw [e];exact Km.fz _) (by rw [e];exact Km.ja _) b
  rw [e,Km.fw] at this
  rw [this]
  congr 1
  omega
theorem zx{n:Nat}{f:Wd}{g:List Int}(e:Ar f g)(d:inC n f g):∃x a r,g=x::a::r/\inN a/\a<n:=by
 cases f with
 | take=>obtain ⟨a,b,rfl,_,h,_⟩:=e.c rfl;exact ⟨_,_,_,rfl,h,d⟩
 | mean=>obtain ⟨a,b,rfl,_,h,_⟩:=e.c rfl;exact ⟨_,_,_,rfl,h,d⟩
 | give=>obtain ⟨a,b,rfl,_,h,_⟩:=e.c rfl;exact ⟨_,_,_,rfl,h,d⟩
 | sum=>obtain ⟨a,b,c,rfl,_,h,_⟩:=e.s;exact ⟨_,_,_,rfl,h,d.1⟩
 | add=>obtain ⟨a,b,c,rfl,_,h,_⟩:=e.a;exact ⟨_,_,_,rfl,h,d⟩
 | plus=>exact d.elim
 | need=>exact d.elim
inductive uS (K:Frag) (vs:List V) (H:Hp) (Q:VK) (E:XK):Prop|mk n wd ns:vs=[.str (txt wd ns)]->Ar wd ns->inC n wd ns->(∀lk v H',lN wd ns=some lk->Same H H'->cLk.rp K H' lk v->Q v H')->uS K vs H Q E
theorem Au(F:Fun K "_law_lock" "_law_lock" gM f fd)(B:TxB mg):FnOk P w K mg base CX0 1 f fd ["_law_text"] (uS K):=by
 refine F.ok sc__law_lock (λvs H Q E h=>?_) (λX A G s H vs Q E hr h=>?_)
 ·obtain ⟨n,g,C,rfl,_⟩:=h
  rfl
 obtain ⟨n,g,C,rfl,u,D,q⟩:=h
 have nd:=sc__law_lock.nd
 refine ⟨_,ah (aH (i:=1) nd rfl (Or.inl rfl) (gq PySem.F.plainAttrs_str PySem.F.slot_str_split PySem.F.type_str_split jD (pv 0) (ac aB af)))
  (ah (aH (i:=2) nd rfl (Or.inl rfl) (aP cy rfl B.int PyProof.Rows.boot_int (ac (az (r:=bK K) aE (pv 1) aj (λ_ _=>rfl)) af)))
  (ah (aG (ax bJ (az (r:=bK K) aE (pv 1) aj (λ_ _=>rfl)) aB (aw _)) (ai (au (aI (ac aB (ac (pv 2) (ac (aP cy rfl B.int PyProof.Rows.boot_int (ac (az (r:=bK K) aE (pv 1) aj (λ_ _=>rfl)) af)) af)))))) aA)
  (ah (aG (ax bJ (az (r:=bK K) aE (pv 1) aj (λ_ _=>rfl)) aB (aw _)) (ai (au (aI (ac aB (ac (pv 2) (ac (pv 2) af)))))) aA)
  (ah (aG (ax bJ (az (r:=bK K) aE (pv 1) aj (λ_ _=>rfl)) aB (aw _)) (ai (au (aI (ac aB (ac (pv 2) (ac (pv 2) af)))))) aA)
  (ai (au (aI (ac aB (ac (pv 2) (ac (pv 2) af)))))))))),?_⟩
 refine ⟨_,ϱ,ϱ,txt g C,32,ϱ,congrArg (λz=>[V.str z]) jk,nE u,λt Y=>?_⟩
 rw [jh]
 have L:Same H _:=ag (o:=.lst ((wS g::C.map iS).map V.str)) Y
 have d:(upd H t (.lst ((wS g::C.map iS).map V.str))) t=some (.lst ((wS g::C.map iS).map V.str)):=ae
 generalize (upd H t _)=H1 at L d ⊢
 obtain ⟨x,a,r,rfl,I,_⟩:=zx u D
 have l:∀(y:Lk) (c:Addr),lN g (x::a::r)=some y->H1 c=none->Q (.ref c) (upd H1 c (.tup [.str (kdS y.1),.int y.2.1,.int y.2.2])):=λy c e m=>q y _ _ e (L.trans (ag m)) (rB ae)
 refine ⟨_,ϱ,t,_,_,_,ϱ,ϱ,SqL.of d,St.at2,iS a,a,ϱ,oR I.v,Λ (gi I.v) ζ,?_⟩
 refine ⟨_,ϱ,t,_,_,_,ϱ,ϱ,SqL.of d,St.at0,ϱ,_,ϱ,bx (λk=>?_) (λZ=>⟨_,ϱ,t,_,_,_,ϱ,ϱ,SqL.of d,St.at0,ϱ,_,ϱ,bx (λk=>?_) (λk2=>⟨_,ϱ,t,_,_,_,ϱ,ϱ,SqL.of d,St.at0,ϱ,_,ϱ,bx (λk=>?_) (λk3=>?_)⟩)⟩)⟩
 ·obtain rfl:g=.sum:=fj k
  obtain ⟨_,_,v,e,_,_,J,av⟩:=u.s
  cases e
  exact ⟨_,ϱ,_,ϱ,t,_,_,_,ϱ,ϱ,SqL.of d,bb (j:=3) rfl,iS v,v,ϱ,oR J.v,Λ (gi J.v) ζ,χ,λc m=>l (.read,a,v) c rfl m⟩
 ·obtain rfl:g=.take:=fj k
  obtain ⟨_,_,e,_⟩:=u.c rfl
  cases e
  exact ⟨_,ϱ,_,ϱ,χ,λc m=>l (.read,a,a) c rfl m⟩
 ·obtain rfl:g=.mean:=fj k
  obtain ⟨_,_,e,_⟩:=u.c rfl
  cases e
  exact ⟨_,ϱ,_,ϱ,χ,λc m=>l (.mean,a,a) c rfl m⟩
 ·have O:=cB (b:=.sum) Z
  have U:=cB (b:=.take) k2
  have W:=cB (b:=.mean) k3
  refine ⟨_,ϱ,_,ϱ,χ,λc m=>l (.change,a,a) c ?_ m⟩
  cases g with
  | take=>exact absurd rfl U
  | mean=>exact absurd rfl W
  | sum=>exact absurd rfl O
  | give=>obtain ⟨_,_,e,_⟩:=u.c rfl;cases e;rfl
  | add=>obtain ⟨_,_,_,e,_⟩:=u.a;cases e;rfl
  | plus=>exact D.elim
  | need=>exact D.elim
theorem qQ(F:Fun K "_law_covers" "_law_covers" eX f fd)(B:TxB mg):FnOk P w K mg base CX0 1 f fd ["_law_one","_law_other"] (jj K):=by
 refine F.ok sc__law_covers (λvs H Q E h=>?_) (λa4 A I s H vs Q E hr h=>?_)
 ·obtain ⟨v,u,k,j,rfl,_⟩:=h
  rfl
 obtain ⟨v,u,k,j,rfl,⟨a,u1,u2,u3,rfl,J,L,O,U⟩,⟨b,W,X,Y,rfl,Z,f1,f2,f3⟩,q⟩:=h
 have m:u1=.str (kdS k.1):=L
 have o:u2=.int k.2.1:=O
 have x:u3=.int k.2.2:=U
 have y:W=.str (kdS j.1):=f1
 have C:X=.int j.2.1:=f2
 have D:Y=.int j.2.2:=f3
 subst m o x y C D
 refine ⟨_,ah (aH (i:=2) sc__law_covers.nd rfl (Or.inl rfl) (bf (ac aB (ac aB (ac aB af)))))
  (ah (aG (ax su (gq PySem.F.plainAttrs_list PySem.F.slot_list_index PySem.F.type_list_index mQ (pv 2) (ac (az (r:=ba K) aC (pv 0) aj (λ_ _=>rfl)) af)) (gq PySem.F.plainAttrs_list PySem.F.slot_list_index PySem.F.type_list_index mQ (pv 2) (ac (az (r:=ba K) aC (pv 1) aj (λ_ _=>rfl)) af)) (aw _)) (ai (au pN)) aA)
  (ai (au (d6 (bo mM (az (r:=ba K) aC (pv 0) aj (λ_ _=>rfl)) (az (r:=ba K) aC (pv 1) aj (λ_ _=>rfl)) (aw _)) (eY (bo mM (az (r:=ba K) aC (pv 1) aj (λ_ _=>rfl)) (az (r:=ba K) aC (pv 0) aj (λ_ _=>rfl)) (aw _))))))),?_⟩
 refine ⟨χ,λl hl=>?_⟩
 have G:Same H (upd H l (.lst [.str "read",.str "mean",.str "change"])):=ag hl
 have d:=J.keep G.ts
 have g:=Z.keep G.ts
 have z:=q _ G
 refine ⟨_,ϱ,.inl ⟨ϱ,_,SqL.of ae⟩,_,ϱ,a,_,_,_,ϱ,ϱ,d.sq,ϱ,l,[("read":Str),"mean","change"],kdS k.1,rkN k.1,ϱ,ϱ,SqL.of ae,vC _,vz _,?_⟩
 refine ⟨_,ϱ,.inl ⟨ϱ,_,SqL.of ae⟩,_,ϱ,b,_,_,_,ϱ,ϱ,g.sq,ϱ,l,[("read":Str),"mean","change"],kdS j.1,rkN j.1,ϱ,ϱ,SqL.of ae,vC _,vz _,_,_,ϱ,ϱ,_,ϱ,?_⟩
 rw [vd,vd]
 by_cases h0:iT k.1<iT j.1
 ·have e:aM k j=false:=by
   unfold aM
   rw [Γ (show ¬iT j.1<=iT k.1 by omega),Bool.and_false]
  rw [e] at z
  exact bx (λ_=>z) (λc=>absurd (τ h0) c)
 refine bx (λc=>absurd (Ξ c) h0) (λ_=>?_)
 refine ⟨_,ϱ,a,_,_,_,ϱ,ϱ,d.sq,ϱ,_,ϱ,b,_,_,_,ϱ,ϱ,g.sq,ϱ,_,_,ϱ,ϱ,_,ϱ,?_⟩
 have er:decide (iT j.1<=iT k.1)=true:=τ ω
 by_cases h1:k.2.1<=j.2.1
 ·have e:aM k j=decide (j.2.2<=k.2.2):=by unfold aM;rw [decide_eq_true h1,er,Bool.and_true,Bool.true_and]
  rw [e] at z
  refine bx (λ_=>?_) (λc=>absurd (τ h1) c)
  exact ⟨_,ϱ,b,_,_,_,ϱ,ϱ,g.sq,ϱ,_,ϱ,a,_,_,_,ϱ,ϱ,d.sq,ϱ,_,_,ϱ,ϱ,z⟩
 ·have e:aM k j=false:=by unfold aM;rw [decide_eq_false h1];rfl
  rw [e] at z
  exact bx (λc=>absurd (Ξ c) h1) (λ_=>z)
section
variable {N:List Addr}{H0 H H':Hp}{b:Bx}{d:Sx}{x:Wx}{h:Ah}{rs:List Addr}{us:List V}{v:V}
theorem qS:∀u∈([]:Cs),¬Im CH CL u.2:=λ_ h=>nomatch h
theorem Gd.sheet(g:Gd C CS CH CL CV K N H0 H b [] d x)(n:Nq C CS CH CL CV)(o:Ow CH CL [] H H' (shL CH b.A.l h [] [] .non)):Gd C CS CH CL CV K N H0 H' b (shL CH b.A.l h [] [] .non) d x:=⟨g.ow.join o,g.wo.im n o.im⟩
theorem Gd.drop{S:Cs}(g:Gd C CS CH CL CV K N H0 H b S d x):Gd C CS CH CL CV K N H0 H b [] d x:=⟨g.ow.tail,g.wo⟩
end
inductive om (C:Kd->Addr) (CS CH CL CV:Addr) (K:Frag) (vs:List V) (H:Hp) (Q:VK) (E:XK):Prop|mk b d x ht xs rv:vs=[.ref (x:Wx).W.l,.ref (b:Bx).A.l,.ref b.pa,.ref ht,rv]->Gs C CS CH CL CV K H b [] d x H [] d x->SqU K H ht xs->x.due.length<=900->(((isB d=false/\x.o.2=none/\rv=.non/\∀H',Gs C CS CH CL CV K H b [] d x H' [] d x->Q (.bl true) H')\/(isB d=true/\d.en=none/\∃rl,rv=.ref rl/\H rl=some (.lst [])/\rl∉ad (stL b.p b.A d++wtL CL b x)/\∀H',Gs C CS CH CL CV K H b [] d x H' [] d x->Q (.bl true) H')\/(isB d=false/\d.rd=none/\d.en=none/\∃aa es rl r2 lv t2 us2,x.o.2=some aa/\x.dk=nK es/\es.length<64/\rv=.ref rl/\H rl=some (.lst [.ref r2])/\rl∉ad (stL b.p b.A d++wtL CL b x)/\H r2=some (.tup [.str "ready",.ref b.pa,.ref ht,lv,.ref t2])/\LtT K H x.due lv/\H t2=some (.tup us2)/\Paired (sPa K H) (bU ltP es) us2/\∀dd r H',Gs C CS CH CL CV K H b [] d x H' [] (d.kp (.ready ⟨r,.ref ht,x.due,bU ltP es⟩)) ⟨x.W,x.dl,x.vs,(some dd,none),x.dk,[],x.due,x.cz⟩->Q (.bl true) H')))->om C CS CH CL CV K vs H Q E
theorem ra{α:Type} [DecidableEq α]{c:Cod α}{H:Hp}:∀{xs:List α} {us vs:List V},Paired (c.rp K H) xs us->Paired (c.rp K H) xs vs->Paired (λx y=>EqIs K c.n H x y true) us vs
 | [],_,_,.nil,.nil=>.nil
 | x::_,_,_,.cons h t,.cons h2 t2=>.cons (by have:=c.eq h h2;rw [τ rfl] at this;exact this) (ra t t2)
def RwE(K:Frag)(H:Hp)(b:Bx)(ht:Addr)(due:List Lk)(ch:List Pa)(rs:List Addr)(ys:List V):Prop:=(rs=[]/\ys=[])\/∃r r2 lv t2 us2,rs=[r]/\ys=[.ref r2]/\RdAt K H b.p ⟨r,.ref ht,due,ch⟩/\H r2=some (.tup [.str "ready",.ref b.pa,.ref ht,lv,.ref t2])/\LtT K H due lv/\H t2=some (.tup us2)/\Paired (sPa K H) ch us2
theorem RwE.keep{H H':Hp}{b:Bx}{f:Addr}{d:List Lk}{ch:List Pa}{g:List Addr}{ys:List V}(e:Same H H')(h:RwE K H b f d ch g ys):RwE K H' b f d ch g ys:=by
 rcases h with h | ⟨r,r2,lv,t2,us2,h1,h2,h3,h4,h5,h6,h7⟩
 ·exact .inl h
 ·exact .inr ⟨r,r2,lv,t2,us2,h1,h2,h3.keep (CH:=0) (CL:=0) (cK e),e _ _ h4,h5.keep e.ts,e _ _ h6,Paired.mapP h7 λ_ _ z=>z.keep e.ts⟩
theorem RwE.eq{H:Hp}{b:Bx}{j:Addr}{d:List Lk}{ch:List Pa}{e:List Addr}{ys:List V}(h:RwE K H b j d ch e ys)(l:PaA H b.p b.pa):Paired (λx y=>EqIs K 3 H x y true) (e.map V.ref) ys:=by
 rcases h with ⟨rfl,rfl⟩ | ⟨r,r2,lv,t2,us2,rfl,rfl,⟨pa,lv1,dv,us1,h1,h2,⟨l1,lu1,e1,f1,g1⟩,⟨o,h4,_⟩,h5⟩,k1,⟨l2,lu2,e2,f2,g2⟩,k3,k4⟩
 ·exact .nil
 ·cases e1
  cases e2
  have f:EqIs K 1 H (.ref pa) (.ref b.pa) true:=by have:=cPa.eq (gn (K:=K) (k:=b.p) h2) (gn (K:=K) (k:=b.p) l);rw [τ rfl] at this;exact this
  have g:=(gj (K:=K) (n:=1) (SqT.of f1) (SqT.of f2) (ra (c:=cLk) g1 g2)).1
  have i:=(gj (K:=K) (n:=1) (.inl (.inr ⟨o,h4⟩)) (SqT.of k3) (ra (c:=cPa) (Paired.mapP h5 λ_ _ z=>z.c) (Paired.mapP k4 λ_ _ z=>z.c))).1
  exact .cons (gj (K:=K) (n:=2) (SqT.of h1) (SqT.of k1) (.cons (eq_str 2 _) (.cons (f.mono ζ) (.cons (oU 2) (.cons g (.cons i .nil)))))).1 .nil
theorem wv{fI:Addr}{dI:FuncData}(F:Fun K "_law_asked" "_law_asked" fM f fd)(D:TxD K CS)(T:TxV K CV)(DH:TxH K CH)(n:Nq C CS CH CL CV)(MH:L2.Mk K CH fI)(cs:mg "Sheet"=some (.ref CH))(ct:FnOk P w K mg base CX0 1 fI dI ["self","stand"] (hJ CH CL))(cv:Binds K dI ["self","stand"] [])
  (cx:GM P w K mg base CX0 7 CV "ready" ["self","sheet","p","houses"] (nY C CS CH CL CV K))(bd:GM P w K mg base CX0 1 CH "rows_told" ["self"] (iJ CH))(bg:GM P w K mg base CX0 2 CH "letters_told" ["self"] (kU CS CH K)) :
  FnOk P w K mg base CX0 8 f fd ["_law_works","_law_stand","_law_p","_law_houses","_law_rows"] (om C CS CH CL CV K):=by
 refine F.ok sc__law_asked (λvs H Q E h=>?_) (λdA A0 bN s H vs Q E J h=>?_)
 ·obtain ⟨b,d,x,ht,xs,rv,rfl,_⟩:=h
  rfl
 obtain ⟨b,d,x,ht,xs,rv,rfl,g0,bC,bG,q⟩:=h
 have nd:=sc__law_asked.nd
 have L:Room (1+1) _:=J.mono ζ
 refine ⟨_,ah (aH (i:=5) nd rfl (Or.inl rfl) (aY MH ct L rfl cs cv .nil a9 (ac (pv 1) af)))
  (ah (aV (pm cx (pv 0) T.cl J (ac (pv 5) (ac (pv 2) (ac (pv 3) af)))))
  (fT (u:=λD σ H1=>∃h rs us ws v d' x' aS ch,σ=[some (.ref x.W.l),some (.ref b.A.l),some (.ref b.pa),some (.ref ht),some rv,some (.ref (h:Ah).l)]/\Gd C CS CH CL CV K (ad (stL b.p b.A d++wtL CL b x)) H H1 b (shL CH b.A.l h rs us v) d' x'/\Paired (WsAt H1) ws us/\(v=.non\/Nw H1 d' v)/\(ws≠[]->d'.en=none) /\
    ((rv=.non/\rs=[]/\ws=[])\/∃rl ys t,rv=.ref rl/\H1 rl=some (.lst ys)/\RwE K H1 b ht aS ch rs ys/\ws=[((b.p.1,("yes":Str),b.pa,t):Ws)]/\H1 t=some (.tup []))/\∀O,Same H1 O->D.rt (.bl true) O)
   (ah (aG (ax lJ (pv 4) bX (aw _)) (ai (au (d6 (bo (eZ cInt (hun J)) (pm0 bd (pv 5) DH.cl J) (bf af) (aw _)) (eY (bo (eZ cInt (hun J)) (pm0 bg (pv 5) DH.cl J) (bf af) (aw _)))))) aA)
   (ai (au (d6 (bo (vH 4 (hun (c:=3) J)) (pm0 bd (pv 5) DH.cl J) (pv 4) (aw _)) (eY (bo (vH 4 (hun (c:=3) J)) (pm0 bg (pv 5) DH.cl J)
    (bf (ac (aI (ac (az (r:=ba K) aC (pv 2) aj (λ_ _=>rfl)) (ac (aI (ac aB (ac (pv 2) (ac (aI af) (ac (aI af) af))))) af))) af)) (aw _))))))) ?v)),?_⟩
 case v =>
  rintro D σ H1 ⟨h,rs,us,ws,v,d',x',aS,ch,rfl,g,aZ,b0,we,two,nx⟩
  have a8:H1 h.sn=some (.lst us):=g.ow.co _ (List.mem_append_left _ j2)
  have L:H1 h.rw=some (.lst (rs.map V.ref)):=g.ow.co _ (List.mem_append_left _ j1)
  rcases two with ⟨rfl,rfl,rfl⟩ | ⟨rl,ys,t,rfl,hrl,re,rfl,hte⟩
  ·refine ⟨_,ϱ,ϱ,_,ϱ,cj ?_⟩
   refine ⟨_,ϱ,h.l,h.dx,_,ϱ,g.sh,fq θ,b.A.l,h,[],v,ϱ,g.sh,L,λq1 X G Y=>⟨χ,λl2 bP=>?_⟩⟩
   have s3:=ag (o:=.lst []) bP
   refine ⟨[],[],⟨q1,[],ϱ,SqL.of (s3 _ _ Y),.nil⟩,⟨l2,[],ϱ,SqL.of ae,.nil⟩,_,ϱ,cj ?_⟩
   have I:=G.trans s3
   have j:=g.same n I
   refine ⟨_,ϱ,h.l,h.dx,_,ϱ,j.sh,fq θ,b.p,b.A,h,d',us,[],v,ϱ,j.sh,I _ _ a8,j.sa,Paired.mapP aZ λ_ _ z=>z.keep I.ts,(by show 0<=900;decide),b0.imp id λz=>z.keep I.ts,we,λq4 ak H4 s4 Z p4=>⟨χ,λl5 c1=>?_⟩⟩
   cases p4
   have s5:=ag (o:=.lst []) c1
   exact ⟨[],[],⟨q4,[],ϱ,SqL.of (s5 _ _ Z),.nil⟩,⟨l5,[],ϱ,SqL.of ae,.nil⟩,nx _ (I.trans (s4.trans s5))⟩
  ·refine ⟨_,ϱ,ϱ,_,ϱ,aL ?_⟩
   refine ⟨_,ϱ,h.l,h.dx,_,ϱ,g.sh,fq θ,b.A.l,h,rs,v,ϱ,g.sh,L,λq1 X G Y=>⟨_,ϱ,vh Y (G _ _ hrl) ((re.keep G).eq (G _ _ g.wo.pa)),_,ϱ,cj ?_⟩⟩
   have j:=g.same n G
   refine ⟨_,ϱ,h.l,h.dx,_,ϱ,j.sh,fq θ,b.p,b.A,h,d',us,_,v,ϱ,j.sh,G _ _ a8,j.sa,Paired.mapP aZ λ_ _ z=>z.keep G.ts,(by show 1<=900;decide),b0.imp id λz=>z.keep G.ts,we,λq4 ak H4 s4 Z p4=>?_⟩
   have U:=G.trans s4
   refine ⟨_,ϱ,b.pa,_,_,_,ϱ,ϱ,SqT.of (U _ _ g.wo.pa),St.at0,_,ϱ,χ,λa1 c3=>⟨χ,λa2 c5=>⟨χ,λa3 cc=>⟨χ,λa4 cd=>⟨χ,λa5 cf=>?_⟩⟩⟩⟩⟩
   have s5:=ag (o:=.tup []) c3
   have s6:=ag (o:=.tup []) c5
   have s7:=ag (o:=.tup [.str "yes",.ref b.pa,.ref a1,.ref a2]) cc
   have s8:=ag (o:=.tup [.int b.p.1,.ref a3]) cd
   have s9:=ag (o:=.lst [.ref a4]) cf
   have m:=s5.trans (s6.trans (s7.trans (s8.trans s9)))
   obtain ⟨u,rfl,t1,t2,e,rfl,h1,h2,h3⟩:∃u,ak=[u]/\LtE H4 (b.p.1,"yes",b.pa,t) u:=by
    cases p4 with
    | cons a c=>cases c;exact ⟨_,rfl,a⟩
   have z1:=(gj (K:=K) (n:=0) (SqT.of (m _ _ (U _ _ hte))) (SqT.of (s9 _ _ (s8 _ _ (s7 _ _ (s6 _ _ (ae (o:=.tup []) (a:=a1))))))) .nil).1
   have z2:=(gj (K:=K) (n:=0) (SqT.of (m _ _ h3)) (SqT.of (s9 _ _ (s8 _ _ (s7 _ _ (ae (o:=.tup []) (a:=a2)))))) .nil).1
   have z3:=(gj (K:=K) (n:=1) (SqT.of (m _ _ h2)) (SqT.of (s9 _ _ (s8 _ _ (ae (o:=.tup [.str "yes",.ref b.pa,.ref a1,.ref a2]) (a:=a3))))) (.cons (eq_str 1 _) (.cons (oU 1) (.cons z1 (.cons z2 .nil))))).1
   have z4:=(gj (K:=K) (n:=2) (SqT.of (m _ _ h1)) (SqT.of (s9 _ _ (ae (o:=.tup [.int b.p.1,.ref a3]) (a:=a4)))) (.cons (eq_int 2 _) (.cons z3 .nil))).1
   exact ⟨vh (m _ _ Z) ae (.cons z4 .nil),nx _ (U.trans m)⟩
 refine ⟨_,ϱ,λl dx nl cp dK=>⟨l,dx,b.A.l,ϱ,ae,λh H1 eh o1=>⟨ϱ,?_⟩⟩⟩
 subst eh
 have g1:=g0.sheet n (o1.born (ip nl cp) nl)
 have keep:∀{X:Hp} {S:Cs} {d2:Sx} {x2:Wx},Gd C CS CH CL CV K (ad (stL b.p b.A d++wtL CL b x)) H X b S d2 x2->∀{rl:Addr} {ys:List V},H rl=some (.lst ys)->rl∉ad (stL b.p b.A d++wtL CL b x)->X rl=some (.lst ys):=λ{_ _ _ _} g2 {rl ys} e ne=>g2.ow.fr rl _ ne e
 refine ⟨_,ϱ,x.W.l,x.W.dx,_,ϱ,g1.wo.wi,cX θ,_,ϱ,_,ϱ,_,ϱ,b,h,d,[],[],.non,ht,xs,x,ϱ,g1.self gr,bC.keep g1.ow.ts,(by show 0<=900;decide),(by show 0<=900;decide),bG,λeb u X g2 y=>?_,λeb=>⟨λeo X G=>?_,λaa ea=>?_⟩⟩
 ·rcases q with ⟨z,_⟩ | ⟨_,en,rl,rfl,hrl,nrl,q⟩ | ⟨z,_⟩
  ·rw [eb] at z;cases z
  ·obtain ⟨t,y1,y2⟩:=y
   have j:=g1.trans g2
   exact ⟨h,[],[u],_,.non,d,x,[],[],ϱ,j,.cons y1 .nil,.inl rfl,λ_=>en,.inr ⟨rl,[],t,ϱ,keep j hrl nrl,.inl ⟨ϱ,ϱ⟩,ϱ,y2⟩,λO s'=>q O (j.same n s').drop⟩
  ·rw [eb] at z;cases z
 ·rcases q with ⟨_,_,rfl,q⟩ | ⟨z,_⟩ | ⟨_,_,_,aa,_,_,_,_,_,_,z,_⟩
  ·have j:=g1.same n G
   exact ⟨h,[],[],[],.non,d,x,[],[],ϱ,j,.nil,.inl rfl,λz=>absurd rfl z,.inl ⟨ϱ,ϱ,ϱ⟩,λO s'=>q O (j.same n s').drop⟩
  ·rw [eb] at z;cases z
  ·rw [eo] at z;cases z
 ·rcases q with ⟨_,z,_⟩ | ⟨z,_⟩ | ⟨_,er,en,aa',es,rl,r2,lv,t2,us2,z,ek,les,rfl,hrl,nrl,k1,k2,k3,k4,q⟩
  ·rw [ea] at z;cases z
  ·rw [eb] at z;cases z
  ·refine ⟨er,es,ek,les,λdd r u v' X g2 nw y=>?_⟩
   obtain ⟨t,y1,y2⟩:=y
   have j:=g1.trans g2
   exact ⟨h,[r],[u],_,v',_,_,x.due,bU ltP es,ϱ,j,.cons y1 .nil,.inr nw,λ_=>en,.inr ⟨rl,[.ref r2],t,ϱ,keep j hrl nrl,.inr ⟨r,r2,lv,t2,us2,ϱ,ϱ,j.wo.si.rd _ rfl,j.ow.ts _ _ k1,k2.keep j.ow.ts,j.ow.ts _ _ k3,Paired.mapP k4 λ_ _ z=>z.keep j.ow.ts⟩,ϱ,y2⟩,λO s'=>q dd r O (j.same n s').drop⟩
inductive nZ (C:Kd->Addr) (CS CH CL CV:Addr) (K:Frag) (Pt:Addr) (vs:List V) (H:Hp) (Q:VK) (E:XK):Prop|mk b d x wd ns:vs=[.ref (x:Wx).W.l,.ref (b:Bx).A.l,.ref b.pa,.str (txt wd ns)]->b.Pt=Pt->Gs C CS CH CL CV K H b [] d x H [] d x->isB d=true->(∀H',Gs C CS CH CL CV K H b [] d x H' [] d x->Q (.bl true) H')->nZ C CS CH CL CV K Pt vs H Q E
theorem vU{fI Pt:Addr}{dI:FuncData}(F:Fun K "_law_quiet" "_law_quiet" fK f fd)(T:TxV K CV)(DH:TxH K CH)(n:Nq C CS CH CL CV)(MH:L2.Mk K CH fI)(X:mg "Sheet"=some (.ref CH))(Y:FnOk P w K mg base CX0 1 fI dI ["self","stand"] (hJ CH CL))(Z:Binds K dI ["self","stand"] [])
  (a0:GM P w K mg base CX0 8 CV "work" ["self","sheet","p","i","hand","text"] (nN C CS CH CL CV K Pt))(a1:GM P w K mg base CX0 1 CH "rows_told" ["self"] (iJ CH))(a2:GM P w K mg base CX0 2 CH "letters_told" ["self"] (kU CS CH K)) :
  FnOk P w K mg base CX0 9 f fd ["_law_works","_law_stand","_law_p","_law_text"] (nZ C CS CH CL CV K Pt):=by
 refine F.ok sc__law_quiet (λvs H Q E h=>?_) (λaR A0 G s H vs Q E e h=>?_)
 ·obtain ⟨b,d,x,wd,ns,rfl,_⟩:=h
  rfl
 obtain ⟨b,d,x,wd,ns,rfl,r,g0,eb,q⟩:=h
 have nd:=sc__law_quiet.nd
 have u:Room (1+1) _:=e.mono ζ
 refine ⟨_,ah (aH (i:=4) nd rfl (Or.inl rfl) (aY MH Y u rfl X Z .nil a9 (ac (pv 1) af)))
  (ah (aV (pm a0 (pv 0) T.cl e (ac (pv 4) (ac (pv 2) (ac aj (ac aj (ac (pv 3) af)))))))
  (ai (au (d6 (bo (eZ cInt (hun e)) (pm0 a1 (pv 4) DH.cl e) (bf af) (aw _)) (eY (bo (eZ cInt (hun e)) (pm0 a2 (pv 4) DH.cl e) (bf af) (aw _))))))),?_⟩
 refine ⟨_,ϱ,λl dx nl I aZ=>⟨l,dx,b.A.l,ϱ,ae,λh H1 eh o1=>⟨ϱ,?_⟩⟩⟩
 subst eh
 have g1:=g0.sheet n (o1.born (ip nl I) nl)
 refine ⟨_,ϱ,x.W.l,x.W.dx,_,ϱ,g1.wo.wi,cX θ,_,ϱ,_,ϱ,_,ϱ,b,h,d,[],[],.non,0,7,wd,ns,x,ϱ,r,g1.self gr,λ_ H2 s2=>?_,λz=>by rw [eb] at z;cases z⟩
 have g:=g1.same n s2
 have y:H2 h.sn=some (.lst []):=g.ow.co _ (List.mem_append_left _ j2)
 have D:H2 h.rw=some (.lst []):=g.ow.co _ (List.mem_append_left _ j1)
 refine ⟨_,ϱ,h.l,h.dx,_,ϱ,g.sh,fq θ,b.A.l,h,[],.non,ϱ,g.sh,D,λq1 H3 s3 J=>⟨χ,λl2 L=>?_⟩⟩
 have s4:=ag (o:=.lst []) L
 refine ⟨[],[],⟨q1,[],ϱ,SqL.of (s4 _ _ J),.nil⟩,⟨l2,[],ϱ,SqL.of ae,.nil⟩,_,ϱ,cj ?_⟩
 have j:=s3.trans s4
 have m:=g.same n j
 refine ⟨_,ϱ,h.l,h.dx,_,ϱ,m.sh,fq θ,b.p,b.A,h,d,[],[],.non,ϱ,m.sh,j _ _ y,m.sa,.nil,(by show 0<=900;decide),.inl rfl,(λz=>absurd rfl z),λq4 bm H5 s5 O p4=>⟨χ,λl6 U=>?_⟩⟩
 cases p4
 have s6:=ag (o:=.lst []) U
 exact ⟨[],[],⟨q4,[],ϱ,SqL.of (s6 _ _ O),.nil⟩,⟨l6,[],ϱ,SqL.of ae,.nil⟩,q _ (m.same n (s5.trans s6)).drop⟩
theorem Ao{N:List Addr}{H0 H H':Hp}{L:Cs}{a:Addr}{o:HO}(g:Ow CH CL N H0 H L)(k:Kp a H H')(e:H a=some o)(i:¬Im CH CL o)(n:a∉ad L)(h:a∈N\/H0 a=none):Ow CH CL N H0 H' L :=
 ⟨λx hx=>k _ _ (λz=>n (z▸ϑ.mpr ⟨x,hx,ϱ⟩)) (g.co x hx),g.nd,g.mu,g.nw,λb u nb z=>k b u (λy=>by
  rcases h with m | m
  ·exact nb (y▸m)
  ·rw [y,m] at z;cases z) (g.fr b u nb z),λb u z w=>k b u (λy=>by
  have:=g.im b u z w
  rw [y,e] at this
  cases this
  exact i w) (g.im b u z w)⟩
theorem Gd.ext{N:List Addr}{H0 H H':Hp}{b:Bx}{S:Cs}{d:Sx}{x:Wx}{a:Addr}{o:HO}(g:Gd C CS CH CL CV K N H0 H b S d x)(n:Nq C CS CH CL CV)(k:Kp a H H')(e:H a=some o)(i:¬Im CH CL o)(na:a∉ad (S++(stL b.p b.A d++wtL CL b x)))(h:a∈N\/H0 a=none):Gd C CS CH CL CV K N H0 H' b S d x:=⟨Ao g.ow k e i na h,g.wo.im n (gZ k e i)⟩
inductive qD (C:Kd->Addr) (CS CH CL CV:Addr) (K:Frag) (vs:List V) (H:Hp) (Q:VK) (E:XK):Prop|mk b d x y dd fa dt us o:vs=[.ref (x:Wx).W.l,.ref (b:Bx).A.l,.ref b.pa,.ref fa,.ref dt,.str o]->Gs C CS CH CL CV K H b [] d x H [] d x->x.o=(some dd,none)->x.due.length<=900->d.en=none->d.rd=some y->d.cells.length<=900->((∀c∈y.ch,0<=c.1/\c.1<d.cells.length))->H fa=some (.lst (d.cells.map V.int))->fa∉ad (stL b.p b.A d++wtL CL b x)->H dt=some (.tup us)->Paired (sPa K H) y.ch us->(∀W' dl H',(W':Aw).l=x.W.l->Gs C CS CH CL CV K H b [] d x H' [] (d.kp (.fin o)) ⟨W',dl,[],(none,none),[],[],[],x.cz⟩->Q (.bl true) H')->qD C CS CH CL CV K vs H Q E
theorem yz{fI:Addr}{dI:FuncData}(F:Fun K "_law_ended" "_law_ended" fL f fd)(B:TxB mg)(D:TxD K CS)(T:TxV K CV)(DH:TxH K CH)(n:Nq C CS CH CL CV)(MH:L2.Mk K CH fI)(dG:mg "Sheet"=some (.ref CH))(dK:FnOk P w K mg base CX0 1 fI dI ["self","stand"] (hJ CH CL))(dN:Binds K dI ["self","stand"] [])
  (bB:GM P w K mg base CX0 3 CH "row" ["self","row"] (kT CS CH CL K))(dP:GM P w K mg base CX0 6 CV "ended" ["self","sheet","p"] (oj C CS CH CL CV K))(dS:GM P w K mg base CX0 1 CH "rows_told" ["self"] (iJ CH))(dT:GM P w K mg base CX0 2 CH "letters_told" ["self"] (kU CS CH K))
  (GC:GM P w K mg base CX0 1 CS "cells_told" ["self"] (kA CS K))(dV:GM P w K mg base CX0 6 CV "held" ["self"] (pD C CL CV K))(dZ:GM P w K mg base CX0 6 CV "waiting" ["self"] (rT C CL CV K)) :
  FnOk P w K mg base CX0 7 f fd ["_law_works","_law_stand","_law_p","_law_first","_law_draft","_law_outcome"] (qD C CS CH CL CV K):=by
 refine F.ok sc__law_ended (λvs H Q E h=>?_) (λeD A0 d0 s H vs Q E J h=>?_)
 ·obtain ⟨b,d,x,y,dd,fa,dt,us,o,rfl,_⟩:=h
  rfl
 obtain ⟨b,d,x,y,dd,fa,dt,us,o,rfl,g0,eo,c1,en,er,em,as,c2,c3,av,aR,q⟩:=h
 have nd:=sc__law_ended.nd
 have c5:Room (1+1) _:=J.mono ζ
 refine ⟨_,ah (aH (i:=6) nd rfl (Or.inl rfl) (aY MH dK c5 rfl dG dN .nil a9 (ac (pv 1) af)))
  (ah (aV (pm bB (pv 6) DH.cl J (ac (aI (ac aB (ac (pv 2) (ac (pv 5) (ac (aI af) af))))) af)))
  (ah (aV (pm dP (pv 0) T.cl J (ac (pv 6) (ac (pv 2) af))))
  (ah (aG (PW.pt (io (ax (yk 2 (hun (c:=2) J)) (pm0 dS (pv 6) DH.cl J) (bf (ac (aI (ac aB (ac (pv 2) (ac (pv 5) (ac (aI af) af))))) af)) (aw _)) (fQ (ax (lH cInt (hun J)) (pm0 dT (pv 6) DH.cl J) (bf af) (aw _))))) aD aA)
  (ah (aH (i:=7) nd rfl (Or.inl rfl) (aP dQ rfl B.list PyProof.Rows.boot_list (ac (pv 3) af)))
  (ah (aG (ax bJ (pv 5) aB (aw _)) (ai (gP PassesOwn.never rfl (oJ (pv 4)) (vo (n:=2) rfl (iV (ci (i:=8) nd rfl (Or.inl rfl)) (iV (ci (i:=9) nd rfl (Or.inl rfl)) sg))) (ai (qN (pv 9) (vp (pv 7) (pv 8) pF))))) aA)
  (fT (u:=λD σ H1=>∃l cl I dl y8 y9,σ=[some (.ref x.W.l),some (.ref b.A.l),some (.ref b.pa),some (.ref fa),some (.ref dt),some (.str o),some l,some (.ref cl),y8,y9]/\(I:Aw).l=x.W.l/\Gd C CS CH CL CV K (ad (stL b.p b.A d++wtL CL b x)) H H1 b [] (d.kp (.fin o)) ⟨I,dl,[],(none,none),[],[],[],x.cz⟩/\H1 cl=some (.lst ((d.kp (.fin o)).cells.map V.int))/\∀v H',Q v H'->D.rt v H')
   (ai (au (d6 (bo (eZ cInt (hun J)) (pm0 GC (pv 1) D.cl J) (pv 7) (aw _)) (d6 (bo (eZ cPr (hun (c:=2) J)) (pm0 dV (pv 0) T.cl J) (bf af) (aw _)) (eY (bo (eZ cPr (hun (c:=2) J)) (pm0 dZ (pv 0) T.cl J) (bf af) (aw _))))))) ?v)))))),?_⟩
 case v =>
  rintro D0 σ H1 ⟨l,cl,I,dl,y8,y9,rfl,eW,g,O,nx⟩
  have ev:=g.wo.wi
  refine ⟨_,ϱ,b.A.l,b.A.dx,_,ϱ,g.wo.si.ins,iN θ,b.p,b.A,d.kp (.fin o),ϱ,g.sa,λq1 H2 s2 d1=>⟨_,ϱ,_,_,kI d1,kI (s2 _ _ O),_,ϱ,?_⟩⟩
  rw [τ rfl]
  refine cj ?_
  have g2:=g.same n s2
  rw [← eW]
  refine ⟨_,ϱ,I.l,I.dx,_,ϱ,g2.wo.wi,cX θ,I,b.home,b.many,b.A.l,[],ϱ,g2.wo.wi,g2.ls,(by show 0<=1000;decide),⟨b.p,λ_ h=>nomatch h⟩,λq3 H3 eH s3 d2 p3=>⟨χ,λl4 d3=>?_⟩⟩
  cases p3
  have s4:=ag (o:=.lst []) d3
  refine ⟨[],[],⟨q3,[],ϱ,SqL.of (s4 _ _ d2),.nil⟩,⟨l4,[],ϱ,SqL.of ae,.nil⟩,_,ϱ,cj ?_⟩
  have Y:=g2.same n (s3.trans s4)
  refine ⟨_,ϱ,I.l,I.dx,_,ϱ,Y.wo.wi,cX θ,I,b.home,b.many,b.A.l,[],ϱ,Y.wo.wi,Y.ls,(by show 0<=1000;decide),⟨b.p,λ_ h=>nomatch h⟩,λq5 H5 s5 d4=>⟨χ,λl6 d5=>?_⟩⟩
  have s6:=ag (o:=.lst []) d5
  exact ⟨[],[],⟨q5,[],ϱ,SqL.of (s6 _ _ d4),.nil⟩,⟨l6,[],ϱ,SqL.of ae,.nil⟩,nx _ _ (q I dl _ eW (Y.same n (s5.trans s6)))⟩
 refine ⟨_,ϱ,λl dx nl da f4=>⟨l,dx,b.A.l,ϱ,ae,λh H1 eh o1=>⟨ϱ,?_⟩⟩⟩
 subst eh
 have g1:=g0.sheet n (o1.born (ip nl da) nl)
 refine ⟨_,ϱ,h.l,h.dx,_,ϱ,g1.sh,fq θ,_,ϱ,_,ϱ,χ,λte dc=>⟨χ,λr dg=>?_⟩⟩
 have s2:=ag (o:=.tup []) dc
 have s3:=ag (o:=.tup [.str "end",.ref b.pa,.str o,.ref te]) dg
 have g3:=g1.same n (s2.trans s3)
 have aZ:RxAt K (upd (upd H1 te (.tup [])) r (.tup [.str "end",.ref b.pa,.str o,.ref te])) b.p r (.fin o):=⟨b.pa,.ref te,ae,g3.wo.pa⟩
 have cc:∀c∈d.chs (.fin o),c∈y.ch:=λc hc=>by
  have j:c∈(if o="done" then (d.rd.map Rd.ch).getD [] else []):=hc
  split at j
  ·rw [er] at j;exact j
  ·cases j
 refine ⟨b.p,b.A,h,d,[],[],.non,r,.fin o,wtL CL b x,ϱ,(g3.self gr).ow,g3.wo.si,aZ,⟨λc hc=>as c (cc c hc),(λ_ z=>by cases z),λ_ _=>en⟩,(by show 0<=900;decide),λv' H4 o4 nw=>?_⟩
 have Y:=g3.trans (S':=shL CH b.A.l h [r] [] v') ⟨o4,(g3.wo.row aZ).im n o4.im⟩
 have cd:=ImS.ts o4.im _ _ (ae (H:=upd H1 te (.tup [])) (a:=r) (o:=.tup [.str "end",.ref b.pa,.str o,.ref te]))
 have b0:=ImS.ts o4.im _ _ (s3 _ _ (ae (H:=H1) (a:=te) (o:=.tup [])))
 refine ⟨_,ϱ,x.W.l,x.W.dx,_,ϱ,Y.wo.wi,cX θ,_,ϱ,_,ϱ,b,h,_,[r],[],v',x,dd,ϱ,Y.self gr,eo,c1,λI dl H5 eW g5=>?_⟩
 have g6:=Y.trans g5
 have a4:TSame H4 H5:=ImS.ts g5.ow.im
 have cf:=nw.keep a4
 have cp:H5 h.sn=some (.lst []):=g6.ow.co _ (List.mem_append_left _ j2)
 have cs:H5 h.rw=some (.lst [.ref r]):=g6.ow.co _ (List.mem_append_left _ j1)
 refine ⟨_,ϱ,h.l,h.dx,_,ϱ,g6.sh,fq θ,b.A.l,h,[r],v',ϱ,g6.sh,cs,λq7 H7 s7 dk=>⟨_,ϱ,_,ϱ,χ,λa1 ds=>⟨χ,λa2 dv=>⟨χ,λa3 dy=>?_⟩⟩⟩⟩
 have s8:=ag (o:=.tup []) ds
 have s9:=ag (o:=.tup [.str "end",.ref b.pa,.str o,.ref a1]) dv
 have a5:=ag (o:=.lst [.ref a2]) dy
 have Z:=s8.trans (s9.trans a5)
 have m:=s7.trans Z
 have z1:=(gj (K:=K) (n:=0) (SqT.of (m _ _ (a4 _ _ b0))) (SqT.of (a5 _ _ (s9 _ _ (ae (o:=.tup []) (a:=a1))))) .nil).1
 have z2:=(gj (K:=K) (n:=1) (SqT.of (m _ _ (a4 _ _ cd))) (SqT.of (a5 _ _ (ae (o:=.tup [.str "end",.ref b.pa,.str o,.ref a1]) (a:=a2)))) (.cons (eq_str 1 _) (.cons (oU 1) (.cons (eq_str 1 _) (.cons z1 .nil))))).1
 refine ⟨q7,a3,_,_,ϱ,ϱ,SqL.of (Z _ _ dk),SqL.of ae,.cons z2 .nil,_,ϱ,aL ?_⟩
 have U:=g6.same n m
 refine ⟨_,ϱ,h.l,h.dx,_,ϱ,U.sh,fq θ,b.p,b.A,h,d.kp (.fin o),[],[],v',ϱ,U.sh,m _ _ cp,U.sa,.nil,(by show 0<=900;decide),.inr (cf.keep m.ts),(λz=>absurd rfl z),λq11 ee dz dA bm dB=>⟨χ,λbt bA=>?_⟩⟩
 cases dB
 have bg:=ag (o:=.lst []) bA
 refine ⟨[],[],⟨q11,[],ϱ,SqL.of (bg _ _ bm),.nil⟩,⟨bt,[],ϱ,SqL.of ae,.nil⟩,_,ϱ,aL ?_⟩
 have L:=(U.same n (dA.trans bg)).drop
 have a0:=L.ow.fr fa _ c3 c2
 generalize (upd dz bt (HO.lst []))=H12 at L a0 ⊢
 refine ⟨_,ϱ,fa,_,ϱ,.inl (SqL.of a0),λcl O=>?_⟩
 have ct:=ag (o:=.lst (d.cells.map V.int)) O
 have X:=L.same n ct
 have cv:=L.ow.free O
 have cx:=L.ow.old O
 have G:(upd H12 cl (.lst (d.cells.map V.int))) cl=some (.lst (d.cells.map V.int)):=ae
 generalize (upd H12 cl (HO.lst (d.cells.map V.int)))=H13 at X G ⊢
 refine ⟨_,ϱ,ϱ,_,ϱ,?_⟩
 by_cases ed:o="done"
 ·have ek:d.chs (.fin o)=y.ch:=by show (if o="done" then (d.rd.map Rd.ch).getD [] else [])=_;rw [if_pos ed,er];rfl
  refine bx (λ_=>?_) (λc=>absurd (τ (congrArg V.str ed)) c)
  have a6:=X.ow.ts _ _ av
  refine ⟨_,ϱ,dt,ϱ,⟨_,SqT.of a6⟩,?_⟩
  refine oT (xs:=us) (λi σ H'=>∃y8 y9,σ=[some (.ref x.W.l),some (.ref b.A.l),some (.ref b.pa),some (.ref fa),some (.ref dt),some (.str o),some (.ref h.l),some (.ref cl),y8,y9]/\Gd C CS CH CL CV K (ad (stL b.p b.A d++wtL CL b x)) H H' b [] (d.kp (.fin o)) ⟨I,dl,[],(none,none),[],[],[],x.cz⟩/\H' cl=some (.lst ((apply d.cells (y.ch.take i)).map V.int))) ⟨_,_,ϱ,X,G⟩
   (λi σ H' _ z=>by obtain ⟨_,_,_,g',_⟩:=z;exact SqT.of (g'.ow.ts _ _ av)) ?_ ?_
  ·rintro i u σ H2 hu ⟨y8,y9,rfl,g',j⟩
   obtain ⟨c,ec,rc⟩:=aR.get hu
   obtain ⟨ca,rfl,c4⟩:=rc.keep g'.ow.ts
   obtain ⟨f1,f2⟩:=as c (List.mem_of_getElem? ec)
   refine ⟨ca,_,ϱ,SqT.of c4,ϱ,_,_,ϱ,_,_,ϱ,ϱ,?_⟩
   have bi:((apply d.cells (y.ch.take i)).map V.int).length=d.cells.length:=by rw [ν,nD]
   refine ⟨_,ϱ,_,ϱ,_,ϱ,cl,_,c.1,c.1.toNat,ϱ,ϱ,j,(by rw [bi];exact wG f1 f2),?_⟩
   have e:y.ch.take (i+1)=y.ch.take i++[c]:=by rw [List.take_succ,ec];rfl
   have e3:((apply d.cells (y.ch.take i)).map V.int).set c.1.toNat (.int c.2)=(apply d.cells (y.ch.take (i+1))).map V.int:=by rw [e,mi,List.map_set]
   rw [e3]
   exact ⟨_,_,ϱ,g'.ext n cm j id cv cx,ae⟩
  ·rintro σ H2 ⟨y8,y9,rfl,g',j⟩
   rw [← aR.len,List.take_length] at j
   refine ⟨_,cl,I,dl,y8,y9,ϱ,eW,g',?_,λ_ _ z=>z⟩
   rw [j]
   show _=some (HO.lst ((apply d.cells (d.chs (.fin o))).map V.int))
   rw [ek]
 ·have ek:d.chs (.fin o)=[]:=if_neg ed
  refine bx (λc=>absurd (V.str.inj (Ξ c)) ed) (λ_=>⟨_,cl,I,dl,none,none,ϱ,eW,X,?_,λ_ _ z=>z⟩)
  rw [G]
  show _=some (HO.lst ((apply d.cells (d.chs (.fin o))).map V.int))
  rw [ek]
  rfl
def oG(es:List (Int×Int))(c v:Int):List (Int×Int):=if (es.any λe=>decide (e.1=c))=true then es.map (λe=>if e.1=c then (e.1,v) else e) else es++[(c,v)]
theorem qT(es:List (Int×Int))(c v:Int):ce (nK es) (.inl c) (.int v)=nK (oG es c v):=by
 unfold ce nK oG
 rw [List.any_map]
 have e:((λkv:Key×V=>decide (kv.1=(Sum.inl c:Key)))∘λx:Int×Int=>((Sum.inl x.1:Key),V.int x.2))=λe=>decide (e.1=c):=by
  funext e
  simp
 rw [e]
 split
 ·rw [List.map_map,List.map_map]
  refine List.map_congr_left λx _=>?_
  by_cases h:x.1=c
  ·simp [h]
  ·simp [h]
 ·rw [List.map_append]
  rfl
theorem pK(es:List (Int×Int))(c v:Int):(oG es c v).length<=es.length+1:=by
 unfold oG
 split
 ·rw [ν];omega
 ·rw [List.length_append];exact ι _
def EsOk(es:List (Int×Int))(n:Nat):Prop:=(es.map (·.1)).Nodup/\∀e∈es,0<=e.1/\e.1<n
theorem EsOk.put{es:List (Int×Int)}{n:Nat}{c v:Int}(h:EsOk es n)(h0:0<=c)(h1:c<n):EsOk (oG es c v) n:=by
 unfold oG
 split
 ·have e:((es.map λe=>if e.1=c then (e.1,v) else e).map (·.1))=es.map (·.1):=by
   rw [List.map_map]
   refine List.map_congr_left λx _=>?_
   show (if x.1=c then (x.1,v) else x).1=x.1
   split<;>rfl
  refine ⟨by rw [e];exact h.1,λy d=>?_⟩
  obtain ⟨z,f,rfl⟩:=ϑ.mp d
  have:=h.2 z f
  split
  ·exact this
  ·exact this
 ·next hn =>
  refine ⟨?_,λy d=>?_⟩
  ·rw [List.map_append,List.nodup_append]
   refine ⟨h.1,by simp,λa g b i z=>hn ?_⟩
   obtain ⟨y,d,rfl⟩:=ϑ.mp g
   rw [ϵ.mp i] at z
   exact List.any_eq_true.mpr ⟨y,d,τ z⟩
  ·rcases List.mem_append.mp d with m | m
   ·exact h.2 y m
   ·rw [ϵ.mp m];exact ⟨h0,h1⟩
def iG(es:List (Int×Int))(a:Int):Int:=((es.find? λe=>decide (e.1=a)).map (·.2)).getD 0
theorem uu(es:List (Int×Int))(a:Int):bu (nK es) (.inl a)=(es.find? λe=>decide (e.1=a)).map λe=>V.int e.2:=by
 unfold bu nK
 rw [List.find?_map,Option.map_map]
 have e:((λkv:Key×V=>decide (kv.1=(Sum.inl a:Key)))∘λx:Int×Int=>((Sum.inl x.1:Key),V.int x.2))=λe=>decide (e.1=a):=by
  funext e
  simp
 rw [e]
 rfl
theorem zM{es:List (Int×Int)}{a:Int}(h:a∈es.map (·.1)):bu (nK es) (.inl a)=some (.int (iG es a)):=by
 rw [uu]
 unfold iG
 cases e:es.find? λe=>decide (e.1=a) with
 | none =>
  obtain ⟨y,b,z⟩:=ϑ.mp h
  exact absurd (τ z) (List.find?_eq_none.mp e y b)
 | some y=>rfl
theorem wW(es:List (Int×Int)):DrI (nK es):=λc v h=>by
 rw [uu] at h
 obtain ⟨y,_,e⟩:=Option.map_eq_some_iff.mp h
 exact ⟨_,e.symm⟩
theorem rL:∀{es:List (Int×Int)} {e:Int×Int},(es.map (·.1)).Nodup->e∈es->iG es e.1=e.2
 | x::r,e,nd,h=>by
  obtain ⟨n1,n2⟩:=List.nodup_cons.mp nd
  unfold iG
  rw [List.find?_cons]
  rcases ϕ.mp h with z | z
  ·rw [z,τ rfl]
   rfl
  ·rw [Γ (λy=>n1 (by show x.1∈_;rw [y];exact ϑ.mpr ⟨e,z,ϱ⟩))]
   exact rL n2 z
theorem zY{es:List (Int×Int)}{d:List Int}(nd:(es.map (·.1)).Nodup)(h:xp (es.map (·.1)) d):bU ltP es=d.map λa=>(a,iG es a):=by
 have f:es.map (λe=>(e.1,iG es e.1))=es:=by
  conv=>rhs;rw [← List.map_id es]
  exact List.map_congr_left λe o=>by rw [rL nd o];rfl
 have pm:(d.map λa=>(a,iG es a)).Perm es:=by
  have:=h.1.map λa=>(a,iG es a)
  rw [List.map_map] at this
  rw [show ((λa=>(a,iG es a))∘λx:Int×Int=>x.1)=λe=>(e.1,iG es e.1) from rfl,f] at this
  exact this
 have l:(d.map λa=>(a,iG es a)).Pairwise λa b=>ltP a b=true:=by
  rw [List.pairwise_map]
  have m:d.Nodup:=h.1.nodup_iff.mpr nd
  exact (h.2.and m).imp λ{a b} z=>ltP_iff.mpr (.inl (by have:=z.1;have:=z.2;show a<b;omega))
 cases es with
 | nil =>
  have:d=[]:=List.Perm.eq_nil h.1
  rw [this]
  rfl
 | cons x r =>
  have g:(x::r).Nodup:=List.Pairwise.of_map (S:=(·≠·)) (λe:Int×Int=>e.1) (λa b z y=>z (by rw [y])) nd
  obtain ⟨i,j⟩:=uP sy wB g (by simp)
  exact rP AF (i.trans pm.symm) j l
theorem xO{es:List (Int×Int)}{n:Nat}(h:EsOk es n):∀c∈bU ltP es,0<=c.1/\c.1<n:=λc hc=>by
 cases es with
 | nil=>cases hc
 | cons x r =>
  have ndE:(x::r).Nodup:=List.Pairwise.of_map (S:=(·≠·)) (λe:Int×Int=>e.1) (λa b z y=>z (by rw [y])) h.1
  exact h.2 c ((uP sy wB ndE (by simp)).1.mem_iff.mp hc)
theorem zX(es:List (Int×Int)):(bU ltP es).length=es.length:=by
 cases es with
 | nil=>rfl
 | cons x r=>exact (rQ ltP _ (by simp)).1
theorem Gd.out{N:List Addr}{H0 H:Hp}{b:Bx}{S:Cs}{d:Sx}{x:Wx}{a:Addr}{o:HO}(g:Gd C CS CH CL CV K N H0 H b S d x)(e:H0 a=some o)(n:a∉N):H a=some o/\a∉ad (S++(stL b.p b.A d++wtL CL b x)) :=
 ⟨g.ow.fr a o n e,λhm=>by
  obtain ⟨y,hy,z⟩:=ϑ.mp hm
  rcases g.ow.nw y hy with m | m
  ·exact n (z▸m)
  ·rw [show y.1=a from z,e] at m;cases m⟩
structure Wl(C:Kd->Addr)(CS CH CL CV:Addr)(K:Frag)(H0:Hp)(b:Bx)(d0:Sx)(x0:Wx)(la da:Addr)(i:Nat)(H:Hp)(d:Sx)(x:Wx)(es ep:List (Int×Int))(due:List Lk)(ls:List V):Prop where
 g:Gd C CS CH CL CV K (ad (stL b.p b.A d0++wtL CL b x0)) H0 H b [] d x
 ed:d.cells=d0.cells/\d.rd=none/\d.en=none
 eW:x.W.l=x0.W.l
 hl:H la=some (.lst ls)
 pl:Paired (cLk.rp K H) due ls
 hd:H da=some (.dK (nK es))
 ek:x.dk=nK ep
 oe:EsOk ep d0.cells.length
 le:ep.length<=i
 ld:x.due.length<=i
 rd:Red x.due
 lk:x.ak.length<=i
 fr:∀j:Int,i<=j->bu x.ak (.inl j)=none
 o2:0<i->∃aa,x.o.2=some aa
 nl:la∉ad (stL b.p b.A d++wtL CL b x)
 nd:da∉ad (stL b.p b.A d++wtL CL b x)
 n0:H0 la=none/\H0 da=none
section
variable {H0 H H':Hp}{b:Bx}{d0 d:Sx}{x0 x:Wx}{la da:Addr}{i:Nat}{es ep:List (Int×Int)}{due:List Lk}{ls:List V}
theorem Wl.same(g:Wl C CS CH CL CV K H0 b d0 x0 la da i H d x es ep due ls)(n:Nq C CS CH CL CV)(e:Same H H'):Wl C CS CH CL CV K H0 b d0 x0 la da i H' d x es ep due ls :=
 ⟨g.g.same n e,g.ed,g.eW,e _ _ g.hl,pp g.pl λ_ _ z=>cLk.keep e.ts z,e _ _ g.hd,g.ek,g.oe,g.le,g.ld,g.rd,g.lk,g.fr,g.o2,g.nl,g.nd,g.n0⟩
theorem Wl.lock(g:Wl C CS CH CL CV K H0 b d0 x0 la da i H d x es ep due ls)(n:Nq C CS CH CL CV){due2:List Lk}{ls2:List V}(h:Paired (cLk.rp K H) due2 ls2):Wl C CS CH CL CV K H0 b d0 x0 la da i (upd H la (.lst ls2)) d x es ep due2 ls2 :=
 ⟨g.g.ext n cm g.hl id g.nl (.inr g.n0.1),g.ed,g.eW,ae,pp h λ_ _ z=>cLk.keep (jg g.hl) z,(by rw [am (gs g.hd g.hl (by intro z;cases z))];exact g.hd),g.ek,g.oe,g.le,g.ld,g.rd,g.lk,g.fr,g.o2,g.nl,g.nd,g.n0⟩
theorem Wl.draft(g:Wl C CS CH CL CV K H0 b d0 x0 la da i H d x es ep due ls)(n:Nq C CS CH CL CV)(e2:List (Int×Int)):Wl C CS CH CL CV K H0 b d0 x0 la da i (upd H da (.dK (nK e2))) d x e2 ep due ls :=
 ⟨g.g.ext n cm g.hd id g.nd (.inr g.n0.2),g.ed,g.eW,(by rw [am (gs g.hl g.hd (by intro z;cases z))];exact g.hl),pp g.pl λ_ _ z=>cLk.keep (jg g.hd) z,ae,g.ek,g.oe,g.le,g.ld,g.rd,g.lk,g.fr,g.o2,g.nl,g.nd,g.n0⟩
end
def jR(cs:List Int)(es:List (Int×Int))(wd:Wd)(ns:List Int)(hand:Int):List (Int×Int):=match (dn (bW (nK es) cs) wd ns hand).2 with | [(c,v)]=>oG es c v | _=>es
theorem uO(cs:List Int)(es:List (Int×Int))(b:Wd)(d:List Int)(hand:Int):aF (nK es) (aF [] (chK (dn (bW (nK es) cs) b d hand).2))=nK (jR cs es b d hand):=by
 have h:=wX (bW (nK es) cs) b d hand
 unfold jR
 match (dn (bW (nK es) cs) b d hand).2,h with
 | [],_=>rfl
 | [(c,v)],_ =>
  show ce (nK es) (.inl c) (.int v)=_
  exact qT es c v
theorem uN{cs:List Int}{es:List (Int×Int)}{b:Wd}{e:List Int}{hand:Int}{n:Nat}(h:EsOk es n)(d:Ar b e)(f:inC n b e):EsOk (jR cs es b e hand) n/\(jR cs es b e hand).length<=es.length+1:=by
 cases b with
 | give=>obtain ⟨a,c,rfl,_,g,_⟩:=d.c rfl;exact ⟨h.put g.1 f,pK _ _ _⟩
 | add=>obtain ⟨a,c,v,rfl,_,g,_⟩:=d.a;exact ⟨h.put g.1 f,pK _ _ _⟩
 | take=>obtain ⟨a,c,rfl,_⟩:=d.c rfl;exact ⟨h,Nat.le_succ _⟩
 | mean=>obtain ⟨a,c,rfl,_⟩:=d.c rfl;exact ⟨h,Nat.le_succ _⟩
 | sum=>obtain ⟨a,c,v,rfl,_⟩:=d.s;exact ⟨h,Nat.le_succ _⟩
 | plus=>exact f.elim
 | need=>exact f.elim
def zd(n:Nat)(u:V):Prop:=∃wd ns,u=.str (txt wd ns)/\Ar wd ns/\inC n wd ns
inductive uR (C:Kd->Addr) (CS CH CL CV:Addr) (K:Frag) (Pt:Addr) (vs:List V) (H:Hp) (Q:VK) (E:XK):Prop|mk b d x ta tx hand fa:vs=[.ref (x:Wx).W.l,.ref (b:Bx).A.l,.ref b.pa,.ref ta,.int hand,.ref fa]->b.Pt=Pt->Gs C CS CH CL CV K H b [] d x H [] d x->d.rd=none->d.en=none->x.o=(none,none)->x.due=[]->d.cells.length<=8->H ta=some (.lst tx)->ta∉ad (stL b.p b.A d++wtL CL b x)->((∀u∈tx,zd d.cells.length u))->1<=tx.length->tx.length<=10->H fa=some (.lst (d.cells.map V.int))->fa∉ad (stL b.p b.A d++wtL CL b x)->(∀d' x' es aa rt lv t2 us2 H',Gs C CS CH CL CV K H b [] d x H' [] d' x'->d'.cells=d.cells->d'.rd=none->d'.en=none->x'.W.l=x.W.l->x'.o.2=some aa->x'.dk=nK es->EsOk es d.cells.length->es.length<=10->x'.due.length<=10->Red x'.due->H' rt=some (.tup [lv,.ref t2])->LtT K H' x'.due lv->H' t2=some (.tup us2)->Paired (sPa K H') (bU ltP es) us2->Q (.ref rt) H')->uR C CS CH CL CV K Pt vs H Q E
def PvW(C:Kd->Addr)(CS CH CL CV:Addr)(K:Frag)(H0:Hp)(b:Bx)(d0:Sx)(x0:Wx)(ta:Addr)(hand:Int)(fa la da:Addr)(i:Nat):L2.St->Hp->Prop:=fun σ H=>∃y8 y9 y10 d x es ls,σ=[some (.ref x0.W.l),some (.ref b.A.l),some (.ref b.pa),some (.ref ta),some (.int hand),some (.ref fa),some (.ref la),some (.ref da),y8,y9,y10]/\Wl C CS CH CL CV K H0 b d0 x0 la da i H d x es es x.due ls
inductive uA (C:Kd->Addr) (CS CH CL CV:Addr) (K:Frag) (H0:Hp) (b:Bx) (d0:Sx) (x0:Wx) (ta:Addr) (tx:List V) (hand:Int) (fa:Addr) (lo:Bool) (D:Ends) (σ:L2.St) (H:Hp):Prop|mk la da i wd ns y a r t lk d x es due ls:σ=[some (.ref x0.W.l),some (.ref b.A.l),some (.ref b.pa),some (.ref ta),some (.int hand),some (.ref fa),some (.ref la),some (.ref da),some (.int ((i:Nat):Int)),some (.ref t),some (.int a)]->tx[i]?=some (.str (txt wd ns))->Ar wd ns->inC d0.cells.length wd ns->ns=y::a::r->0<=a->a<d0.cells.length->H t=some (.lst ((wS wd::ns.map iS).map V.str))->t≠la->i<10->Wl C CS CH CL CV K H0 b d0 x0 la da (i+1) H d x es (jR d0.cells es wd ns hand) due ls->lN wd ns=some lk->((lo=false->x.due=fu due lk))->((lo=true->x.due=due))->due.length<=10->es.length<=10->(∀σ' H',PvW C CS CH CL CV K H0 b d0 x0 ta hand fa la da (i+1) σ' H'->D.nx σ' H')->uA C CS CH CL CV K H0 b d0 x0 ta tx hand fa lo D σ H
theorem As{fI Pt:Addr}{dI:FuncData}(F:Fun K "_law_worked" "_law_worked" bF f fd)(B:TxB mg)(T:TxV K CV)(n:Nq C CS CH CL CV)(MH:L2.Mk K CH fI)(fc:mg "Sheet"=some (.ref CH))(ff:FnOk P w K mg base CX0 1 fI dI ["self","stand"] (hJ CH CL))(fi:Binds K dI ["self","stand"] [])
  (fn:GM P w K mg base CX0 8 CV "work" ["self","sheet","p","i","hand","text"] (nN C CS CH CL CV K Pt))(dC:GF P w K mg base CX0 1 "_law_lock" ["_law_text"] (uS K))(fp:GF P w K mg base CX0 1 "_law_covers" ["_law_one","_law_other"] (jj K)) :
  FnOk P w K mg base CX0 9 f fd ["_law_works","_law_stand","_law_p","_law_texts","_law_hand","_law_first"] (uR C CS CH CL CV K Pt):=by
 refine F.ok sc__law_worked (λvs H Q E h=>?_) (λho A0 eD s H vs Q E hr h=>?_)
 ·obtain ⟨b,d,x,ta,tx,hand,fa,rfl,_⟩:=h
  rfl
 obtain ⟨b,X,x0,ta,tx,hand,fa,rfl,dS,g0,er,en,eo,bC,dT,b0,bG,dV,l1,cf,dZ,e2,q⟩:=h
 have nd:=sc__law_worked.nd
 have ec:Room (1+1) _:=hr.mono ζ
 refine ⟨_,ah (aH (i:=6) nd rfl (Or.inl rfl) (bf af)) (ah (aH (i:=7) nd rfl (Or.inr rfl) gR)
  (ah (gP PassesOwn.never rfl (cO rfl B.range (ac (aK bD rfl B.len PySem.boot_len (ac (pv 3) af)) af)) (ci (i:=8) nd rfl (Or.inr rfl))
   (ah (aH (i:=9) nd rfl (Or.inl rfl) (gq PySem.F.plainAttrs_str PySem.F.slot_str_split PySem.F.type_str_split jD (az (r:=bK K) aE (pv 3) (pv 8) (λ_ _=>rfl)) (ac aB af)))
   (ah (aH (i:=10) nd rfl (Or.inl rfl) (aP cy rfl B.int PyProof.Rows.boot_int (ac (az (r:=bK K) aE (pv 9) aj (λ_ _=>rfl)) af)))
   (ah (aV (pm fn (pv 0) T.cl hr (ac (aY MH ff ec rfl fc fi .nil a9 (ac (pv 1) af)) (ac (pv 2) (ac (pv 8) (ac (pv 4) (ac (az (r:=bK K) aE (pv 3) (pv 8) (λ_ _=>rfl)) af)))))))
   (fT (u:=uA C CS CH CL CV K H b X x0 ta tx hand fa false)
    (ah (aG (ax (eZ cLk (hun (c:=1) hr)) (cM jw rfl (bV (pv 6)) (λ_ _ _ _=>fR (bL (pc fp hr (ac (pv 0) (ac (pc dC hr (ac (az (r:=bK K) aE (pv 1) (pv 2) (λ_ _=>rfl)) af)) af))))) (λ_ _ _ _=>pv 0)) (bf af) (aw _))
     (ai (aV (gq PySem.F.plainAttrs_list PySem.F.slot_list_append PySem.F.type_list_append h8 (pv 6) (ac (pc dC hr (ac (az (r:=bK K) aE (pv 3) (pv 8) (λ_ _=>rfl)) af)) af)))) aA)
   (fT (u:=uA C CS CH CL CV K H b X x0 ta tx hand fa true)
    (ah (aG (ax bJ (az (r:=bK K) aE (pv 9) aj (λ_ _=>rfl)) aB (aw _)) (ai (fU (cu hr) (pv 7) (pv 10) (pv 4) rfl)) aA)
    (ai (aG (ax bJ (az (r:=bK K) aE (pv 9) aj (λ_ _=>rfl)) aB (aw _)) (ai (fU (cu hr) (pv 7) (pv 10) (aN d7 (lE (cu hr) (pv 7) (pv 10) (az (r:=bK K) aE (pv 5) (pv 10) (λ_ _=>rfl)) ⟨ϱ,ϱ,ϱ,ϱ⟩) (aP cy rfl B.int PyProof.Rows.boot_int (ac (az (r:=bK K) aE (pv 9) aj (λ_ _=>rfl)) af))) rfl)) aA))) ?vB)) ?vA)))))
  (ai (au (aI (ac (aP cw rfl B.tuple PyProof.Rows.boot_tuple (ac (pv 6) af)) (ac (aP cw rfl B.tuple PyProof.Rows.boot_tuple (ac (cM jv rfl (bV (aK (o7 rfl) rfl B.sorted PyProof.Rows.boot_sorted (ac (pv 7) af))) (λ_ _ _ _=>cg) (λ_ _ _ _=>aI (ac (pv 0) (ac (fV (cu hr) (pv 1) (pv 0) (λ_ _=>rfl)) af)))) af)) af))))))),?_⟩
 case vA =>
  rintro D σ H1 ⟨la,O,i,L,I,y,a,r,t,U,d,x,G,J,ls,rfl,hu,Z,ic,as,a0,a1,ht,tl,hi,l,a6,e1,_,ca,a3,nx⟩
  have Y:=(l.g.out b0 bG).1
  have lp:=l.pl.len
  refine ⟨_,ϱ,la,ϱ,⟨_,SqL.of l.hl⟩,?_⟩
  refine cA (xs:=ls) (λj ys H'=>Same H1 H'/\Paired (cLk.rp K H') ((J.take j).filter λk=>aM k U) ys) ⟨Same.refl _,.nil⟩ (Λ (by rw [← lp];exact ca) ζ) (λj ys H' _ z=>SqL.of (z.1 _ _ l.hl)) ?_ ?_
  ·rintro j u ys H2 hj ⟨s2,py⟩
   obtain ⟨k,ek,rk⟩:=l.pl.get hj
   refine ⟨_,ϱ,_,ϱ,_,ϱ,ta,_,_,_,ϱ,ϱ,SqL.of (s2 _ _ Y),bb hu,_,L,I,ϱ,Z,ic,λeH v2 H3 e3 s3 r3=>?_⟩
   rw [a6] at e3
   cases e3
   have ct:=cLk.keep (s2.trans s3).ts rk
   refine ⟨u,v2,k,U,ϱ,ct,r3,λH4 s4=>⟨_,ϱ,?_⟩⟩
   have bI:=s3.trans s4
   have et:(J.take (j+1)).filter (λk=>aM k U)=(J.take j).filter (λk=>aM k U)++if aM k U=true then [k] else []:=by
    rw [List.take_succ,ek,List.filter_append]
    congr 1
    cases e:aM k U<;>simp [List.filter_cons,e]
   rw [et]
   have cv:=pp py λ_ _ z=>cLk.keep bI.ts z
   cases e:aM k U with
   | true=>exact cj ⟨_,rfl,s2.trans bI,by rw [if_pos rfl];exact cv.app (.cons (cLk.keep s4.ts ct) .nil)⟩
   | false=>exact aL ⟨s2.trans bI,by rw [if_neg ζ,List.append_nil];exact cv⟩
  ·rintro ys H2 ⟨s2,py⟩ p2 cc
   rw [← lp,List.take_length] at py
   have s3:=ag (o:=.lst ys) cc
   refine ⟨χ,λp3 eP=>?_⟩
   have s4:=ag (o:=.lst []) eP
   have bd:=s2.trans (s3.trans s4)
   refine ⟨_,[],⟨p2,ys,ϱ,SqL.of (s4 _ _ ae),pp py λ_ _ z=>cLk.keep (s3.trans s4).ts z⟩,⟨p3,[],ϱ,SqL.of ae,.nil⟩,_,ϱ,?_⟩
   have l4:=l.same n bd
   by_cases hc:(J.any λj=>aM j U)=true
   ·have ej:¬J.filter (λk=>aM k U)=[]:=λz=>by
     obtain ⟨k,hk,c⟩:=List.any_eq_true.mp hc
     exact absurd c (by rw [List.filter_eq_nil_iff] at z;exact z k hk)
    rw [Γ ej]
    exact aL ⟨la,O,i,L,I,y,a,r,t,U,d,x,G,J,ls,ϱ,hu,Z,ic,as,a0,a1,bd _ _ ht,tl,hi,l4,a6,(λz=>by cases z),(λ_=>by rw [e1 rfl];exact if_pos hc),ca,a3,nx⟩
   ·have el:J.filter (λk=>aM k U)=[]:=List.filter_eq_nil_iff.mpr λk hk c=>hc (List.any_eq_true.mpr ⟨k,hk,c⟩)
    rw [τ el]
    refine cj ⟨_,ϱ,.inl ⟨ϱ,_,SqL.of l4.hl⟩,_,ϱ,_,ϱ,ta,_,_,_,ϱ,ϱ,SqL.of (bd _ _ Y),bb hu,_,L,I,ϱ,Z,ic,λeH v2 H5 e5 s5 r5=>?_⟩
    rw [a6] at e5
    cases e5
    have l5:=l4.same n s5
    have l6:=l5.lock n (l5.pl.app (.cons r5 .nil))
    refine ⟨la,ls,_,ϱ,ϱ,l5.hl,dR (by rw [← lp];omega),la,O,i,L,I,y,a,r,t,U,d,x,G,J++[U],ls++[v2],ϱ,hu,Z,ic,as,a0,a1,?_,tl,hi,l6,a6,(λz=>by cases z),(λ_=>by rw [e1 rfl];exact if_neg hc),?_,a3,nx⟩
    ·rw [am tl]
     exact s5 _ _ (bd _ _ ht)
    ·have:=l6.ld
     rw [show x.due=J++[U] by rw [e1 rfl];exact if_neg hc] at this
     omega
 case vB =>
  rintro D σ H1 ⟨la,O,i,L,I,y,a,r,t,U,d,x,G,J,ls,rfl,hu,Z,ic,rfl,a0,a1,ht,tl,hi,l,a6,_,e1,ca,a3,nx⟩
  have e1:=e1 rfl
  have lz:(nK G).length<sizeLine:=by unfold nK;rw [List.length_map];exact Nat.lt_of_le_of_lt a3 ζ
  have bP:∀(H2:Hp) (bg:List (Int×Int)),Wl C CS CH CL CV K H b X x0 la O (i+1) H2 d x bg bg J ls->D.nx [some (.ref x0.W.l),some (.ref b.A.l),some (.ref b.pa),some (.ref ta),some (.int hand),some (.ref fa),some (.ref la),some (.ref O),some (.int ((i:Nat):Int)),some (.ref t),some (.int a)] H2:=λH2 bg l2=>nx _ _ ⟨_,_,_,d,x,bg,ls,ϱ,by rw [e1];exact l2⟩
  refine ⟨_,ϱ,t,_,_,_,ϱ,ϱ,SqL.of ht,St.at0,ϱ,_,ϱ,bx (λk=>?_) (λk1=>?_)⟩
  ·obtain rfl:L=.give:=fj k
   obtain ⟨_,_,e,_⟩:=Z.c rfl
   cases e
   refine ⟨_,ϱ,_,ϱ,_,ϱ,O,_,ϱ,DPut.k (k:=.inl a) l.hd lz,?_⟩
   rw [qT]
   have bS:(upd H1 O (.dK (nK (oG G a hand)))) t=some (.lst ((wS .give::[y,a].map iS).map V.str)):=by rw [am (gs ht l.hd (by intro z;cases z))];exact ht
   refine ⟨_,ϱ,t,_,_,_,ϱ,ϱ,SqL.of bS,St.at0,ϱ,_,ϱ,?_⟩
   rw [d8 θ]
   exact aL (bP _ _ (l.draft n (oG G a hand)))
  ·refine ⟨_,ϱ,t,_,_,_,ϱ,ϱ,SqL.of ht,St.at0,ϱ,_,ϱ,bx (λk=>?_) (λk2=>?_)⟩
   ·obtain rfl:L=.add:=fj k
    obtain ⟨_,_,v,e,_,_,hv⟩:=Z.a
    cases e
    have cx:=(l.g.out dZ e2).1
    obtain ⟨m,rfl⟩:∃m:Nat,a=(m:Int):=⟨a.toNat,ω⟩
    have hm:m<X.cells.length:=by omega
    have gv:(bu (nK G) (.inl (m:Int))).getD (.int (X.cells[m]))=.int (bW (nK G) X.cells m):=by
     unfold bW
     cases ev:bu (nK G) (.inl (m:Int)) with
     | none =>
      show V.int X.cells[m]=V.int (X.cells.getD m 0)
      rw [List.getD_eq_getElem?_getD,ξ hm]
      rfl
     | some u =>
      obtain ⟨z,rfl⟩:=wW G _ u ev
      rfl
    refine ⟨_,ϱ,O,ϱ,.inl ⟨_,.inl l.hd⟩,_,ϱ,_,ϱ,_,ϱ,fa,_,_,_,ϱ,ϱ,SqL.of cx,bb (by rw [List.getElem?_map,ξ hm];rfl),_,DGet.k (k:=.inl (m:Int)) l.hd,_,ϱ,t,_,_,_,ϱ,ϱ,SqL.of ht,bb (j:=3) rfl,iS v,v,ϱ,oR hv,Λ (gi hv) ζ,_,_,gv,ϱ,_,ϱ,_,ϱ,O,_,ϱ,DPut.k (k:=.inl (m:Int)) l.hd lz,?_⟩
    rw [qT]
    exact bP _ _ (l.draft n _)
   ·have n1:=cB (b:=.give) k1
    have n2:=cB (b:=.add) k2
    refine bP _ G ?_
    have ee:jR X.cells G L (y::a::r) hand=G:=by
     cases L with
     | give=>exact absurd rfl n1
     | add=>exact absurd rfl n2
     | take=>obtain ⟨_,_,e,_⟩:=Z.c rfl;cases e;rfl
     | mean=>obtain ⟨_,_,e,_⟩:=Z.c rfl;cases e;rfl
     | sum=>obtain ⟨_,_,_,e,_⟩:=Z.s;cases e;rfl
     | plus=>exact ic.elim
     | need=>exact ic.elim
    rw [ee] at l
    exact l
 have d1:x0.dk=[]/\x0.o.2=none:=g0.wo.n1 (by rw [eo])
 have d2:x0.ak=[]:=g0.wo.n2 d1.2
 refine ⟨χ,λla n1=>λO n2=>?_⟩
 have s1:=ag (o:=.lst []) n1
 have s2:=ag (o:=.dK []) n2
 have d3:=s1.trans s2
 have d4:H O=none:=by
  cases e:H O with
  | none=>rfl
  | some u=>rw [s1 _ _ e] at n2;cases n2
 have d5:=d3 _ _ b0
 have hz:(tx.length:Nat)<=1000:=by omega
 refine ⟨_,ϱ,ta,_,ϱ,.inl (SqL.of d5),(tx.length:Int),ϱ,(Lo.bnd hz).1,(Lo.bnd hz).2,?_⟩
 rw [Int.toNat_natCast]
 have w0:Wl C CS CH CL CV K H b X x0 la O 0 (upd (upd H la (.lst [])) O (.dK [])) X x0 [] [] x0.due [] :=
  ⟨g0.same n d3,⟨ϱ,er,en⟩,ϱ,s2 _ _ ae,by rw [bC];exact .nil,ae,d1.1,⟨List.nodup_nil,λ_ h=>nomatch h⟩,ι _,by rw [bC];exact ι _,by rw [bC];rfl,by rw [d2];exact ι _,λj _=>by rw [d2];rfl,λz=>absurd z (Nat.lt_irrefl _),g0.ow.free n1,g0.ow.free d4,⟨n1,d4⟩⟩
 refine jG (n:=tx.length) (PvW C CS CH CL CV K H b X x0 ta hand fa la O) ⟨_,_,_,X,x0,[],[],ϱ,w0⟩ ?_ ?_
 ·rintro i σ H1 hi ⟨y8,y9,y10,d,x,G,ls,rfl,l⟩
  rw [Int.zero_add]
  have hu:tx[i]?=some tx[i]:=ξ hi
  obtain ⟨L,I,eu,Z,ic⟩:=dV _ (List.mem_of_getElem? hu)
  rw [eu] at hu
  obtain ⟨y,a,r,as,na,a1⟩:=zx Z ic
  have Y:=(l.g.out b0 bG).1
  refine ⟨_,ϱ,_,ϱ,ta,_,_,_,ϱ,ϱ,SqL.of Y,bb hu,ϱ,txt L I,32,ϱ,congrArg (λz=>[V.str z]) jk,nE Z,λt nt=>?_⟩
  rw [jh]
  have s3:=ag (o:=.lst ((wS L::I.map iS).map V.str)) nt
  have l3:=l.same n s3
  have c0:=l.g.ow.free nt
  have tl:t≠la:=Ne.symm (ap l.hl nt)
  have c1:(upd H1 t (.lst ((wS L::I.map iS).map V.str))) t=some (.lst ((wS L::I.map iS).map V.str)):=ae
  have bm:=s3 _ _ Y
  generalize (upd H1 t (HO.lst ((wS L::I.map iS).map V.str)))=H3 at l3 c1 bm ⊢
  have eW:=l.eW
  refine ⟨_,ϱ,t,_,_,_,ϱ,ϱ,SqL.of c1,(by rw [as];exact St.at2),iS a,a,ϱ,oR na.v,Λ (gi na.v) ζ,?_⟩
  refine ⟨_,ϱ,x.W.l,x.W.dx,_,(by rw [eW]),l3.g.wo.wi,cX θ,_,ϱ,λsl f0 dt dv hA=>⟨sl,f0,b.A.l,ϱ,ae,λh H4 eh o4=>⟨ϱ,?_⟩⟩⟩
  have ob:=o4.born (ip dt dv) dt
  subst eh
  have g4:=l3.g.sheet n ob
  have dc:=(l3.g.self qS).sheet n ob
  have nb:isB d=false:=by unfold isB;rw [l.ed.2.2,l.ed.2.1];rfl
  have c2:=l.ek
  have lm:x.dk.length<=100:=by rw [c2];unfold nK;rw [List.length_map];exact Nat.le_trans l.le ω
  refine ⟨_,ϱ,_,ϱ,_,ϱ,_,ϱ,_,ϱ,ta,_,_,_,ϱ,ϱ,SqL.of (dc.out bm (l3.g.out b0 bG).2).1,bb hu,b,h,d,[],[],.non,(i:Int),hand,L,I,x,(by rw [eW];rfl),dS,g4.self gr,(λz=>by rw [nb] at z;cases z),λ_=>⟨Z,by rw [l.ed.1];exact ic,by rw [l.ed.1];exact Λ dT ζ,by rw [c2];exact wW G,lm,Λ l.lk ω,(by show 0<=100;decide),(by show 0<=100;decide),Λ l.ld ω,l.fr i (Int.le_refl _),λU dd aa c f1 hD d' hF v' H5 a6 g5 ed=>?_⟩⟩
  have gA:=(g4.trans g5).drop
  have gB:=(dc.trans g5).drop
  obtain ⟨p1,p2⟩:=gB.out l3.hl l3.nl
  obtain ⟨p3,p4⟩:=gB.out l3.hd l3.nd
  have p5:=(gB.out c1 c0).1
  have ew:d'.cells=X.cells/\d'.rd=none/\d'.en=none:=by
   rcases ed with rfl | rfl
   ·exact l.ed
   ·exact l.ed
  obtain ⟨k1,k2⟩:=uN (cs:=X.cells) (hand:=hand) l.oe Z ic
  have kk:aF x.dk (aF [] (chK (dn (bW x.dk d.cells) L I hand).2))=nK (jR X.cells G L I hand):=by rw [c2,l.ed.1];exact uO _ _ _ _ _
  have lw:Wl C CS CH CL CV K H b X x0 la O (i+1) H5 d' ⟨x.W,x.dl,f1,(some dd,some aa),aF x.dk (aF [] (chK (dn (bW x.dk d.cells) L I hand).2)),ce x.ak (.inl (i:Int)) (.int (dn (bW x.dk d.cells) L I hand).1),fu x.due U,some c⟩ G (jR X.cells G L I hand) x.due ls :=
   ⟨gA,ew,eW,p1,pp l3.pl λ_ _ z=>cLk.keep gB.ow.ts z,p3,kk,k1,Λ k2 (Nat.succ_le_succ l.le),Λ (sJ _ _) (Nat.succ_le_succ l.ld),l.rd.ask U,Λ (eO _ _ _) (Nat.succ_le_succ l.lk),λj hj=>by rw [pA,if_neg (λz=>by cases z;omega)];exact l.fr j ω,λ_=>⟨aa,ϱ⟩,p2,p4,l.n0⟩
  exact ⟨la,O,i,L,I,y,a,r,t,U,d',_,G,x.due,ls,ϱ,hu,Z,ic,as,na.1,a1,p5,tl,ω,lw,a6,(λ_=>rfl),(λz=>by cases z),Λ l.ld ω,Λ l.le ω,λ_ _ z=>z⟩
 ·rintro σ H1 ⟨y8,y9,y10,d,x,G,ls,rfl,l⟩
  have lp:=l.pl.len
  refine ⟨_,ϱ,la,ls,ϱ,.inl ⟨SqL.of l.hl,λt1 f2=>?_⟩⟩
  have s3:=ag (o:=.tup ls) f2
  have di:=s3 _ _ l.hd
  have a3:G.length<=10:=Λ l.le cf
  refine ⟨_,ϱ,O,G,ϱ,di,ω,λl3 I f3 c4=>⟨l3,ϱ,⟨_,SqL.of ae⟩,?_⟩⟩
  have s4:=ag (o:=.lst (I.map V.int)) f3
  have ey:(upd (upd H1 t1 (.tup ls)) l3 (.lst (I.map V.int))) l3=some (.lst (I.map V.int)):=ae
  have ez:=s4 _ _ di
  have ln:I.length=G.length:=by rw [c4.1.length_eq,ν]
  refine cA (xs:=I.map V.int) (λj ys H'=>Same (upd (upd H1 t1 (.tup ls)) l3 (.lst (I.map V.int))) H'/\Paired (sPa K H') ((I.take j).map λa=>(a,iG G a)) ys) ⟨Same.refl _,.nil⟩ (Λ (by rw [ν,ln];exact a3) ζ) (λj ys H' _ z=>SqL.of (z.1 _ _ ey)) ?_ ?_
  ·rintro j u ys H2 hj ⟨s2,py⟩
   rw [List.getElem?_map] at hj
   obtain ⟨a,ea,rfl⟩:=Option.map_eq_some_iff.mp hj
   have ma:a∈G.map (·.1):=c4.1.mem_iff.mp (List.mem_of_getElem? ea)
   have dg:DGet H2 O (.int a) (some (.int (iG G a))):=by
    have:=DGet.k (k:=.inl a) (s2 _ _ ez)
    rw [zM ma] at this
    exact this
   refine il ⟨_,ϱ,_,ϱ,_,ϱ,O,_,ϱ,dg,χ,λc hc=>?_⟩
   have s5:=ag (o:=.tup [.int a,.int (iG G a)]) hc
   refine ⟨s2.trans s5,?_⟩
   rw [List.take_succ,ea,List.map_append]
   exact (Paired.mapP py λ_ _ z=>z.keep s5.ts).app (.cons ⟨c,ϱ,ae⟩ .nil)
  ·rintro ys H2 ⟨s2,py⟩ p2 cc
   rw [ν,List.take_length,← zY l.oe.1 c4] at py
   have s5:=ag (o:=.lst ys) cc
   refine ⟨p2,ys,ϱ,.inl ⟨SqL.of ae,λt2 bS=>⟨χ,λrt f4=>?_⟩⟩⟩
   have s6:=ag (o:=.tup ys) bS
   have s7:=ag (o:=.tup [.ref t1,.ref t2]) f4
   have dp:=s2.trans (s5.trans (s6.trans s7))
   have ds:=s3.trans (s4.trans dp)
   obtain ⟨aa,eb⟩:=l.o2 l1
   exact q d x G aa rt (.ref t1) t2 ys _ (l.g.same n ds) l.ed.1 l.ed.2.1 l.ed.2.2 l.eW eb l.ek l.oe a3 (Λ l.ld cf) l.rd ae ⟨t1,ls,ϱ,dp _ _ (s4 _ _ ae),pp l.pl λ_ _ z=>cLk.keep ds.ts z⟩ (s7 _ _ ae) (Paired.mapP py λ_ _ z=>z.keep (s5.trans (s6.trans s7)).ts)
structure Lv(C:Kd->Addr)(CS CH CL CV:Addr)(K:Frag)(Pt:Addr)(H:Hp)(b:Bx)(d:Sx)(x:Wx)(E:Cs):Prop where
 g:Gs C CS CH CL CV K H b [] d x H [] d x
 e:∀u∈E,H u.1=some u.2/\u.1∉ad (stL b.p b.A d++wtL CL b x)
 pt:b.Pt=Pt/\b.home=2/\b.many=5
section
variable {Pt:Addr}{H H':Hp}{b:Bx}{d d':Sx}{x x':Wx}{E:Cs}
theorem Lv.step(l:Lv C CS CH CL CV K Pt H b d x E)(g:Gs C CS CH CL CV K H b [] d x H' [] d' x'):Lv C CS CH CL CV K Pt H' b d' x' E:=⟨g.self qS,λu hu=>g.out (l.e u hu).1 (l.e u hu).2,l.pt⟩
theorem Lv.same(l:Lv C CS CH CL CV K Pt H b d x E)(n:Nq C CS CH CL CV)(e:Same H H'):Lv C CS CH CL CV K Pt H' b d x E:=l.step (l.g.same n e)
theorem Lv.tl{u:Addr×HO}(l:Lv C CS CH CL CV K Pt H b d x (u::E)):Lv C CS CH CL CV K Pt H b d x E:=⟨l.g,λv hv=>l.e v (.tail _ hv),l.pt⟩
theorem Lv.add{a:Addr}(l:Lv C CS CH CL CV K Pt H b d x E)(n:Nq C CS CH CL CV)(h:H a=none)(o:HO):Lv C CS CH CL CV K Pt (upd H a o) b d x ((a,o)::E):=by
 have f:=l.same n (ag (o:=o) h)
 refine ⟨f.g,λu i=>?_,l.pt⟩
 rcases ϕ.mp i with z | z
 ·rw [z];exact ⟨ae,l.g.ow.free h⟩
 ·exact f.e u z
end
theorem kK{N:List Addr}{l:Addr}{H0 H H1 H2:Hp}{b:Bx}{d:Sx}{R:Cs}{W:Aw}{dl:Addr}{vs:List V}{o:Odb}{dk:List (Key×V)}{due:List Lk}{cz:Option Addr}(g:Ow CH CL N H0 H (stL b.p b.A d++((b.Pt,.tbl (xa cz))::R)))(s:Same H H1)(nl:H l=none)(ow:Ow CH CL [l] H1 H2 (wkL CL b ⟨W,dl,vs,o,dk,[],due,none⟩)) :
  Ow CH CL N H0 H2 (stL b.p b.A d++wtL CL b ⟨W,dl,vs,o,dk,[],due,cz⟩)/\Same H H2 :=
 have ob:=ow.born s nl
 ⟨(g.join ob).swap (S:=stL b.p b.A d++[(b.Pt,.tbl (xa cz))]) (X:=wkL CL b ⟨W,dl,vs,o,dk,[],due,none⟩) (O:=R),λc u e=>ob.fr c u (λz=>nomatch z) e⟩
def s52(a:Addr)(k:Int)(pa ht:Addr)(c:Int)(fa A W:Addr)(y8 y9 y10 y11 y12 y13 y14:Option V):L2.St:=[some (.ref a),some (.int k),some (.ref pa),some (.ref ht),some (.int c),some (.ref fa),some (.ref A),some (.ref W),y8,y9,y10,y11,y12,y13,y14]
inductive kS (K:Frag) (Pt:Addr) (vs:List V) (H:Hp) (Q:VK) (E:XK):Prop|mk a ns:vs=[.ref a]->SqL K H a ((ns:List Int).map V.int)->ns.length<=63->H Pt=some (.tbl #[])->(∀H',Q (.bl true) H')->kS K Pt vs H Q E
inductive u1 (C:Kd->Addr) (CS CH CL CV:Addr) (K:Frag) (Pt:Addr) (D:Ends) (σ:L2.St) (H:Hp):Prop|mk a ns k b ht xs c fa d x E:σ=s52 a k (b:Bx).pa ht c fa b.A.l (x:Wx).W.l none none none none none none none->Lv C CS CH CL CV K Pt H b d x ((fa,.lst (d.cells.map V.int))::E)->((∀H',(∀u∈E,H' u.1=some u.2)->SqL K H' a ((ns:List Int).map V.int)))->SqU K H ht xs->d.rd=none->d.en=none->x.o=(none,none)->x.due=[]->1<=d.cells.length->d.cells.length<=8->(∀H',D.rt (.bl true) H')->u1 C CS CH CL CV K Pt D σ H
inductive u2 (C:Kd->Addr) (CS CH CL CV:Addr) (K:Frag) (Pt:Addr) (D:Ends) (σ:L2.St) (H:Hp):Prop|mk a k b ht xs c fa ta tx hand lv t2 us2 d x es aa E:σ=s52 a k (b:Bx).pa ht c fa b.A.l (x:Wx).W.l (some (.ref ta)) (some (.int hand)) (some lv) (some (.ref t2)) none none none->Lv C CS CH CL CV K Pt H b d x ((ta,.lst tx)::(fa,.lst (d.cells.map V.int))::E)->SqU K H ht xs->((∀u∈tx,zd d.cells.length u))->tx≠[]->d.rd=none->d.en=none->x.o.2=some aa->x.dk=nK es->EsOk es d.cells.length->es.length<=10->x.due.length<=10->Red x.due->LtT K H x.due lv->H t2=some (.tup us2)->Paired (sPa K H) (bU ltP es) us2->d.cells.length<=8->(∀H',D.rt (.bl true) H')->u2 C CS CH CL CV K Pt D σ H
inductive u3 (C:Kd->Addr) (CS CH CL CV:Addr) (K:Frag) (Pt:Addr) (D:Ends) (σ:L2.St) (H:Hp):Prop|mk a k b ht xs c fa ta tx hand lv t2 us2 d x y dd ha hs y13 E:σ=s52 a k (b:Bx).pa ht c fa b.A.l (x:Wx).W.l (some (.ref ta)) (some (.int hand)) (some lv) (some (.ref t2)) (some (.ref ha)) y13 none->Lv C CS CH CL CV K Pt H b d x ((ha,.lst hs)::(ta,.lst tx)::(fa,.lst (d.cells.map V.int))::E)->SqU K H ht xs->((∀u∈tx,zd d.cells.length u))->tx≠[]->d.rd=some y->d.en=none->x.o=(some dd,none)->x.due=y.due->y.due.length<=10->Red y.due->((∀c∈y.ch,0<=c.1/\c.1<d.cells.length))->y.ch.length<=10->(Paired (cPr.rp K H) (y.due.map λk=>((b.p,k):Pr)) hs)->H t2=some (.tup us2)->Paired (sPa K H) y.ch us2->d.cells.length<=8->(∀H',D.rt (.bl true) H')->u3 C CS CH CL CV K Pt D σ H
structure PSw(X:Cx)(st:List Stmt)(t:TS):Prop where
 ps:PSs X st t
structure PSq(X:Cx)(st:Stmt)(t:TS):Prop where
 ps:PS X st t
section
variable {X:Cx}{st:Stmt}{rest:List Stmt}{t u:TS}
theorem bE(h1:PSq X st t)(h2:PSw X rest u):PSw X (st::rest) (Bl t u):=⟨ah h1.ps h2.ps⟩
theorem Bb(h:PSs X rest t):PSw X rest t:=⟨h⟩
theorem xw{u:TS}(h:PSw X rest t)(hw:∀D σ H,u D σ H->t D σ H):PSw X rest u:=⟨lA u h.ps hw⟩
end
structure PEq(X:Cx)(e:Expr)(t:TE):Prop where
 ps:PE X e t
section
variable {X:Cx}{pos q0 q1 q2 q3:Pos}
theorem pl4{a0 a1 a2 a3:Int}{i0 p0 i1 p1 i2 p2 i3 p3}:PEq X (.List [.Constant (.int a0) i0 p0,.Constant (.int a1) i1 p1,.Constant (.int a2) i2 p2,.Constant (.int a3) i3 p3] pos) (xE (cE (tC (.int a0)) (cE (tC (.int a1)) (cE (tC (.int a2)) (cE (tC (.int a3)) jY))))):=⟨bf (ac aj (ac aj (ac aj (ac aj af))))⟩
theorem pt1{a0:Int}{i0 p0 k0}:PEq X (.Tuple [.Constant (.int a0) i0 p0] k0 pos) (uK (cE (tC (.int a0)) jY)):=⟨aI (ac aj af)⟩
theorem pt2{a0 a1:Int}{i0 p0 i1 p1 k0}:PEq X (.Tuple [.Constant (.int a0) i0 p0,.Constant (.int a1) i1 p1] k0 pos) (uK (cE (tC (.int a0)) (cE (tC (.int a1)) jY))):=⟨aI (ac aj (ac aj af))⟩
theorem pt3{a0 a1 a2:Int}{i0 p0 i1 p1 i2 p2 k0}:PEq X (.Tuple [.Constant (.int a0) i0 p0,.Constant (.int a1) i1 p1,.Constant (.int a2) i2 p2] k0 pos) (uK (cE (tC (.int a0)) (cE (tC (.int a1)) (cE (tC (.int a2)) jY)))):=⟨aI (ac aj (ac aj (ac aj af)))⟩
theorem phs{x0 x1 x2 x3:List Expr}{k0 k1 k2 k3}{t0 t1 t2 t3:TE}(h0:PEq X (.Tuple x0 k0 q0) t0)(h1:PEq X (.Tuple x1 k1 q1) t1)(h2:PEq X (.Tuple x2 k2 q2) t2)(h3:PEq X (.Tuple x3 k3 q3) t3):PEq X (.List [.Tuple x0 k0 q0,.Tuple x1 k1 q1,.Tuple x2 k2 q2,.Tuple x3 k3 q3] pos) (xE (cE t0 (cE t1 (cE t2 (cE t3 jY))))):=⟨bf (ac h0.ps (ac h1.ps (ac h2.ps (ac h3.ps af))))⟩
theorem BJ{o i a b:Expr}{p1 p2 k pos}{op}{t0 t1:TE}(h0:PEq X (.Subscript o i p1) t0)(h1:PEq X (.BinOp a op b p2) t1):PEq X (.Tuple [.Subscript o i p1,.BinOp a op b p2] k pos) (uK (cE t0 (cE t1 jY))):=⟨aI (ac h0.ps (ac h1.ps af))⟩
theorem pl2{a0 a1:Str}{i0 p0 i1 p1}:PEq X (.List [.Constant (.str a0) i0 p0,.Constant (.str a1) i1 p1] pos) (xE (cE (tC (.str a0)) (cE (tC (.str a1)) jY))):=⟨bf (ac aB (ac aB af))⟩
theorem Ac{a b:Expr}{ta tb:TE}(ha:PEq X a ta)(hb:PEq X b tb)(hs:sR b):PEq X (.Subscript a b pos) (tOp (bK X.K) ta tb):=⟨az aE ha.ps hb.ps hs⟩
theorem vk{i:Nat}{x:Str}{e:Expr}{te:TE}{px:Pos}(hN:X.N.Nodup)(hi:X.N[i]?=some x)(hx:Loc X.env.scope x)(h:PEq X e te)(hs:swapsWith e (some (.Name x px)) pos.line X.env=pure false:=by rfl)(hf:X.fn x=true\/X.env.scope.names.lookup x=some .local:=by first | exact .inl rfl | exact .inr rfl | assumption):PSq X (.Assign [.Name x px] e pos) (xJ te (sG i)):=⟨aH hN hi hx h.ps hs hf⟩
end
def Cd(K:Frag):List V->Hp->VK->Prop:=λxs H Q=>∃p ys,xs=[.ref p]/\(SqL K H p ys\/SqT K H p ys)/\Q (.int ((ys.length:Nat):Int)) H
theorem B2(b:List Int):(qf (b.map V.int) (some 3) (some 13)).length<=10:=by
 unfold qf
 rw [List.length_take]
 show min (min 13 _-min 3 _) _<=10
 omega
theorem Av{U gg gk:Addr}{go gt:FuncData}(F:Fun K "law" "law" iR f fd)(B:TxB mg)(D:TxD K CS)(T:TxV K CV)(n:Nq C CS CH CL CV)(MS:Mk K CS gg)(kG:mg "Stand"=some (.ref CS))(kP:FnOk P w K mg base CX0 1 gg go ["self","cells"] (nX CS CH CL))(lc:Binds K go ["self","cells"] [])
  (MV:Mk K CV gk)(gv:mg "Works"=some (.ref CV))(gB:FnOk P w K mg base CX0 7 gk gt ["self","stand","home","many"] (nQ C CS CH CL CV K))(h2:Binds K gt ["self","stand","home","many"] [])
  (GA:GF P w K mg base CX0 1 "_law_cell_at" ["_law_script","_law_k"] (qG K))(GN:GF P w K mg base CX0 1 "_law_number" ["_law_cell"] oh)(le:GF P w K mg base CX0 2 "_law_step" ["_law_cell","_law_many"] og)(GW:GF P w K mg base CX0 9 "_law_worked" ["_law_works","_law_stand","_law_p","_law_texts","_law_hand","_law_first"] (uR C CS CH CL CV K U))
  (c4:GF P w K mg base CX0 8 "_law_asked" ["_law_works","_law_stand","_law_p","_law_houses","_law_rows"] (om C CS CH CL CV K))(h5:GF P w K mg base CX0 9 "_law_quiet" ["_law_works","_law_stand","_law_p","_law_text"] (nZ C CS CH CL CV K U))(lh:GF P w K mg base CX0 7 "_law_ended" ["_law_works","_law_stand","_law_p","_law_first","_law_draft","_law_outcome"] (qD C CS CH CL CV K))
  (ei:GM P w K mg base CX0 6 CV "held" ["self"] (pD C CL CV K))(li:GM P w K mg base CX0 6 CV "waiting" ["self"] (rT C CL CV K))(GC:GM P w K mg base CX0 1 CS "cells_told" ["self"] (kA CS K)):FnOk P w K mg base CX0 10 f fd ["_law_script"] (kS K U):=by
 refine F.ok sc_law (λvs H Q E h=>?_) (λmm A hN s H vs Q E I h=>?_)
 ·obtain ⟨a,ns,rfl,_⟩:=h
  rfl
 obtain ⟨a,ns,rfl,hS,hl,ch,q⟩:=h
 have nd:=sc_law.nd
 have hB:Room (1+1) _:=I.mono ζ
 have f3:Room (7+1) _:=I.mono ζ
 refine ⟨_,(PSw.ps (bE ⟨(aH (i:=1) nd rfl (Or.inl rfl) (pc GA I (ac (pv 0) (ac aj af))))⟩
  (bE (vk (i:=2) nd rfl (Or.inr rfl) (BJ (Ac pl4 ⟨(aN dh (aN cH (pv 1) aj) aj)⟩ (λ_ _=>rfl)) ⟨(aN dh (aN cH (pv 1) aj) aj)⟩))
  (bE (vk (i:=3) nd rfl (Or.inl rfl) (Ac (phs pt1 pt2 pt3 pt2) ⟨(aN dh (aN cH (pv 1) aj) aj)⟩ (λ_ _=>rfl)))
  (bE ⟨(aH (i:=4) nd rfl (Or.inr rfl) (pc GA I (ac (pv 0) (ac aj af))))⟩
  (bE ⟨(aH (i:=5) nd rfl (Or.inr rfl) (cM u8 rfl (cO rfl B.range (ac (aN d7 aj (aN dh (pv 1) aj)) af)) (λ_ _ _ _=>cg) (λ_ _ _ _=>pc GN I (ac (aN d7 (aN cH (pv 1) (aN d7 (pv 0) aj)) (aN vG aj (pv 0))) af))))⟩
  (bE ⟨(aH (i:=6) nd rfl (Or.inl rfl) (aY MS kP hB rfl kG lc .nil a9 (ac (pv 5) af)))⟩
  (bE ⟨(aH (i:=7) nd rfl (Or.inl rfl) (aY MV gB f3 rfl gv h2 .nil a9 (ac (pv 6) (ac aj (ac aj af)))))⟩
  (bE ⟨(aG (dY (bL (pc c4 I (ac (pv 7) (ac (pv 6) (ac (pv 2) (ac (pv 3) (ac bX af)))))))) aD aA)⟩
  (xw (u:=u1 C CS CH CL CV K U)
   (bE ⟨(pL (iy:=8) u7 rfl (bV (lD xR (pv 0) (hU aj) (hU aj))) (λ_ _ _ _=>cg) (λ_ _ _ _=>pc le I (ac (pv 0) (ac (aK (r:=Cd K) bD rfl B.len PySem.boot_len (ac (pv 1) af)) af))) nd rfl (Or.inl rfl))⟩
  (bE ⟨(aG (ax (eZ cStr (hun I)) (pv 8) (bf af) (aw _)) (ai (au (bo (eZ cPr (hun (c:=2) I)) (pm0 ei (pv 7) T.cl I) (bf af) (aw _)))) aA)⟩
  (bE ⟨(aH (i:=9) nd rfl (Or.inl rfl) (pc GN I (ac (pc GA I (ac (pv 0) (ac aj af))) af)))⟩
  (bE ⟨(qN (pc GW I (ac (pv 7) (ac (pv 6) (ac (pv 2) (ac (pv 8) (ac (pv 9) (ac (pv 5) af))))))) (vo (n:=2) rfl (iV (ci (i:=10) nd rfl (Or.inl rfl)) (iV (ci (i:=11) nd rfl (Or.inl rfl)) sg))))⟩
  (xw (u:=u2 C CS CH CL CV K U)
   (bE ⟨(pL (iy:=12) u6 rfl (oJ (pv 10)) (λ_ _ _ _=>cg) (λ_ _ _ _=>(aI (ac (pv 1) (ac (pv 0) af)))) nd rfl (Or.inl rfl))⟩
  (bE ⟨(aH (i:=13) nd rfl (Or.inl rfl) (aI (ac aB (ac (pv 2) (ac (pv 3) (ac (pv 10) (ac (pv 11) af)))))))⟩
  (bE ⟨(aG (PW.pt (io (ax (lH cPr (hun (c:=2) I)) (pm0 ei (pv 7) T.cl I) (pv 12) (aw _)) (fQ (dY (bL (pc c4 I (ac (pv 7) (ac (pv 6) (ac (pv 2) (ac (pv 3) (ac (bf (ac (pv 13) af)) af))))))))))) aD aA)⟩
  (bE ⟨(aG (PW.pt (io (dY (bL (pc c4 I (ac (pv 7) (ac (pv 6) (ac (pv 2) (ac (pv 3) (ac (bf af) af)))))))) (fQ (dY (bL (pc h5 I (ac (pv 7) (ac (pv 6) (ac (pv 2) (ac (az (r:=bK K) aE (pv 8) aj (λ_ _=>rfl)) af)))))))))) aD aA)⟩
  (xw (u:=u3 C CS CH CL CV K U)
   (bE ⟨(aG (ax bJ (aN dh (aN cH (pv 1) aj) aj) aj (aw _)) (ai (aH (i:=7) nd rfl (Or.inl rfl) (aY MV gB f3 rfl gv h2 .nil a9 (ac (pv 6) (ac aj (ac aj af)))))) aA)⟩
  (xw (u:=u3 C CS CH CL CV K U)
   (bE ⟨(aG (PW.pt (io (ax (lH cPr (hun (c:=2) I)) (pm0 ei (pv 7) T.cl I) (pv 12) (aw _)) (io (ax (lH cPr (hun (c:=2) I)) (pm0 li (pv 7) T.cl I) (bf af) (aw _)) (fQ (ax (lH cInt (hun I)) (pm0 GC (pv 6) D.cl I) (pv 5) (aw _)))))) aD aA)⟩
  (bE ⟨(aG (PW.pt (io (dY (bL (pc c4 I (ac (pv 7) (ac (pv 6) (ac (pv 2) (ac (pv 3) (ac (bf af) af)))))))) (fQ (dY (bL (pc h5 I (ac (pv 7) (ac (pv 6) (ac (pv 2) (ac (az (r:=bK K) aE (pv 8) (zv uz aj) (λ_ _=>rfl)) af)))))))))) aD aA)⟩
  (bE (vk (i:=14) nd rfl (Or.inl rfl) (Ac pl2 ⟨(aN dh (aN cH (pv 1) aj) aj)⟩ (λ_ _=>rfl)))
  (bE ⟨(aG (dY (bL (pc lh I (ac (pv 7) (ac (pv 6) (ac (pv 2) (ac (pv 5) (ac (pv 11) (ac (pv 14) af))))))))) aD aA)⟩
  (Bb (ai (au (pc c4 I (ac (pv 7) (ac (pv 6) (ac (pv 2) (ac (pv 3) (ac bX af))))))))))))) ?v4)) ?v3))))) ?v2))))) ?v1)))))))))),?_⟩
 case v1 =>
  rintro D0 σ H ⟨a,ns,k,b,Y,xs,c,fa,d,x,E,rfl,l,dA,j,er,en,eo,av,l1,l8,q⟩
  have f4:∀{J:Hp} {d':Sx} {x':Wx} {E1:Cs},Lv C CS CH CL CV K U J b d' x' (E1++((fa,.lst (d.cells.map V.int))::E))->SqL K J a (ns.map V.int):=λ{_ _ _ _} l'=>dA _ λu hu=>(l'.e u (Ψ _ (.tail _ hu))).1
  refine ⟨_,ϱ,_,ϱ,_,ϱ,a,_,ϱ,f4 (E1:=[]) l,λsl hP=>⟨sl,ϱ,⟨_,SqL.of ae⟩,?_⟩⟩
  have dB:=B2 ns
  obtain ⟨zs,hj,_⟩:=w9 ns (some 3) (some 13)
  rw [hj] at dB ⊢
  rw [ν] at dB
  have s1:=ag (o:=.lst (zs.map V.int)) hP
  have f5:(upd H sl (.lst (zs.map V.int))) sl=some (.lst (zs.map V.int)):=ae
  have dC:=l.same n s1
  have fc:=(dC.e _ j0).1
  have da:=j.keep s1.ts
  generalize (upd H sl (HO.lst (zs.map V.int)))=H1 at s1 f5 dC fc da ⊢
  refine cA (xs:=zs.map V.int) (λi G J=>Same H1 J/\G.length=i/\∀u∈G,zd d.cells.length u) ⟨Same.refl _,ϱ,λ_ h=>nomatch h⟩ (Λ (by rw [ν];exact dB) ζ) (λi G J _ z=>SqL.of (z.1 _ _ f5)) ?_ ?_
  ·rintro i u G H2 hu ⟨s2,ly,hy⟩
   rw [List.getElem?_map] at hu
   obtain ⟨z,ez,rfl⟩:=Option.map_eq_some_iff.mp hu
   refine il ⟨_,ϱ,_,ϱ,fa,_,ϱ,.inl (SqL.of (s2 _ _ fc)),_,_,ϱ,(by rw [ν];exact l1),(by rw [ν];exact l8),λwd aS H3 Z ar ic=>⟨s2.trans Z,by rw [List.length_append,ly];rfl,λu hu=>?_⟩⟩
   rcases List.mem_append.mp hu with m | m
   ·exact hy u m
   ·rw [ν] at ic
    rw [ϵ.mp m]
    exact ⟨wd,aS,ϱ,ar,ic⟩
  ·rintro G H2 ⟨s2,ly,hy⟩ ta ga
   rw [ν] at ly
   have l2:=(dC.same n s2).add n ga (.lst G)
   have bN:=(da.keep s2.ts).keep (ag (o:=.lst G) ga).ts
   generalize (upd H2 ta (HO.lst G))=H3 at l2 bN ⊢
   obtain ⟨ts,eS⟩:∃ts:List Str,G=ts.map V.str:=by
    clear l2 bN ly
    induction G with
    | nil=>exact ⟨[],rfl⟩
    | cons u r ih =>
     obtain ⟨ts,e⟩:=ih λv hv=>hy v (.tail _ hv)
     obtain ⟨wd,aS,e2,_⟩:=hy u (.head _)
     exact ⟨txt wd aS::ts,by rw [e,e2];rfl⟩
   have hC:∀{J:Hp} (ts:List Str),Paired (cStr.rp K J) ts (ts.map V.str):=λ{J} ts=>by
    induction ts with
    | nil=>exact .nil
    | cons a r ih=>exact .cons rfl ih
   refine ⟨_,ϱ,χ,λe0 cp=>?_⟩
   have Z:=ag (o:=.lst []) cp
   have l3:=l2.same n Z
   have bS:=(l3.e _ j0)
   have dc:=(l3.e _ j1)
   refine ⟨ts,[],⟨ta,G,ϱ,SqL.of bS.1,by rw [eS];exact hC ts⟩,⟨e0,[],ϱ,SqL.of ae,.nil⟩,_,ϱ,?_⟩
   by_cases hne:ts=[]
   ·rw [τ hne]
    refine cj ⟨_,ϱ,x.W.l,x.W.dx,_,ϱ,l3.g.wo.wi,cX θ,x.W,b.home,b.many,b.A.l,_,ϱ,l3.g.wo.wi,l3.g.ls,(by rw [av];show 0<=1000;decide),⟨_,eL b.p _⟩,λq4 H4 mA s4 dT p4=>⟨χ,λl5 hQ=>?_⟩⟩
    rw [av] at p4
    cases p4
    have s5:=ag (o:=.lst []) hQ
    exact ⟨[],[],⟨q4,[],ϱ,SqL.of (s5 _ _ dT),.nil⟩,⟨l5,[],ϱ,SqL.of ae,.nil⟩,q _⟩
   ·rw [Γ hne]
    have dG:1<=G.length:=by
     rw [eS,ν]
     exact List.length_pos_iff.mpr hne
    refine aL ⟨_,ϱ,a,ns,2,ϱ,f4 (E1:=[_]) l3,_,ϱ,λO _=>?_⟩
    refine ⟨_,ϱ,_,ϱ,_,ϱ,_,ϱ,_,ϱ,_,ϱ,b,d,x,ta,G,O,fa,ϱ,l3.pt.1,l3.g,er,en,eo,av,l8,bS.1,bS.2,hy,dG,ω,dc.1,dc.2,λd' x' es aa rt lv t2 a8 H4 g4 e1 e2 e3 eW e4 e5 e6 e7 e8 e9 hY i0 i1 i2=>?_⟩
    have l4:=l3.step g4
    refine ⟨rt,_,ϱ,SqT.of hY,ϱ,_,_,ϱ,_,_,ϱ,ϱ,a,k,b,Y,xs,c,fa,ta,G,O,lv,t2,a8,d',x',es,aa,E,(by rw [eW];rfl),by rw [e1];exact l4,(bN.keep Z.ts).keep g4.ow.ts,by rw [e1];exact hy,(λz=>by rw [z] at dG;cases dG),e2,e3,e4,e5,by rw [e1];exact e6,e7,e8,e9,i0,i1,i2,by rw [e1];exact l8,q⟩
 case v2 =>
  rintro D0 σ H ⟨a,k,b,Y,xs,c,fa,ta,tx,O,lv,t2,a8,d,x,es,aa,E,rfl,l,j,bd,aR,er,en,kv,ek,oe,kw,X,bC,⟨t1,ls,rfl,ed,ee⟩,bg,pt2,l8,q⟩
  have fi:=ee.len
  refine ⟨_,ϱ,t1,ϱ,⟨_,SqT.of ed⟩,?_⟩
  refine AH (xs:=ls) (λi G J=>Same H J/\Paired (cPr.rp K J) ((x.due.take i).map λk=>((b.p,k):Pr)) G) ⟨Same.refl _,.nil⟩ (Λ (by rw [← fi];exact X) ζ) (λi G J _ z=>SqT.of (z.1 _ _ ed)) ?_ ?_
  ·rintro i u G H2 hu ⟨s2,py⟩
   obtain ⟨k',hm,rk⟩:=ee.get hu
   refine il ⟨_,ϱ,_,ϱ,χ,λc' i3=>?_⟩
   have Z:=ag (o:=.tup [.ref b.pa,u]) i3
   refine ⟨s2.trans Z,?_⟩
   rw [List.take_succ,hm,List.map_append]
   exact (pp py λ_ _ z=>cPr.keep Z.ts z).app (.cons (xk (k:=(b.p,k')) ae (gn (k:=b.p) ((s2.trans Z) _ _ l.g.wo.pa)) (cLk.keep (s2.trans Z).ts rk)) .nil)
  ·rintro G H2 ⟨s2,py⟩ ha ge
   rw [← fi,List.take_length] at py
   have Z:=ag (o:=.lst G) ge
   have l2:=(l.same n s2).add n ge (.lst G)
   refine ⟨_,ϱ,_,ϱ,_,ϱ,_,ϱ,χ,λrr i8=>?_⟩
   have s4:=ag (o:=.tup [.str "ready",.ref b.pa,.ref Y,.ref t1,.ref t2]) i8
   have fn:=s2.trans (Z.trans s4)
   have l4:=l2.same n s4
   have dI:=pp py λ_ _ z=>cPr.keep (Z.trans s4).ts z
   have dg:=ae (H:=upd H2 ha (.lst G)) (a:=rr) (o:=.tup [.str "ready",.ref b.pa,.ref Y,.ref t1,.ref t2])
   generalize (upd (upd H2 ha (HO.lst G)) rr (HO.tup [.str "ready",.ref b.pa,.ref Y,.ref t1,.ref t2]))=H4 at fn l4 dI dg ⊢
   refine ⟨_,ϱ,x.W.l,x.W.dx,_,ϱ,l4.g.wo.wi,cX θ,x.W,b.home,b.many,b.A.l,_,ϱ,l4.g.wo.wi,l4.g.ls,(by rw [ν];exact Λ X ζ),⟨_,eL b.p _⟩,λq5 H5 ia s5 is p5=>?_⟩
   have l5:=l4.same n s5
   refine ⟨_,ϱ,_,_,⟨q5,ia,ϱ,SqL.of is,p5⟩,⟨ha,G,ϱ,SqL.of (l5.e _ j0).1,pp dI λ_ _ z=>cPr.keep s5.ts z⟩,_,ϱ,?_⟩
   rw [τ rfl]
   refine aL ⟨_,ϱ,_,ϱ,_,ϱ,_,ϱ,_,ϱ,χ,λrl g2=>?_⟩
   have s6:=ag (o:=.lst [.ref rr]) g2
   have dK:=s5.trans s6
   have l6:=l5.add n g2 (.lst [.ref rr])
   have bB:=fn.trans dK
   have nb:isB d=false:=by unfold isB;rw [en,er];rfl
   refine ⟨b,d,x,Y,xs,.ref rl,ϱ,l6.g,j.keep bB.ts,Λ X ζ,.inr (.inr ⟨nb,er,en,aa,es,rl,rr,.ref t1,t2,a8,kv,ek,ω,ϱ,(l6.e _ j0).1,(l6.e _ j0).2,dK _ _ dg,⟨t1,ls,ϱ,bB _ _ ed,pp ee λ_ _ z=>cLk.keep bB.ts z⟩,bB _ _ bg,Paired.mapP pt2 λ_ _ z=>z.keep bB.ts,λdd r H7 g7=>⟨_,ϱ,aL ?_⟩⟩)⟩
   have l7:=(l6.step g7).tl
   have ib:isB (d.kp (.ready ⟨r,.ref Y,x.due,bU ltP es⟩))=true:=by show (match d.en with | none=>true | some _=>false)=true;rw [en]
   have t7:=bB.ts.trans g7.ow.ts
   have hF:=pp dI λ_ _ z=>cPr.keep (dK.ts.trans g7.ow.ts) z
   refine ⟨_,ϱ,_,ϱ,_,ϱ,_,ϱ,χ,λc1 as=>?_⟩
   have s8:=ag (o:=.lst []) as
   have a6:=l7.add n as (.lst [])
   refine ⟨b,_,⟨x.W,x.dl,x.vs,(some dd,none),x.dk,[],x.due,x.cz⟩,Y,xs,.ref c1,ϱ,a6.g,(j.keep t7).keep s8.ts,Λ X ζ,.inr (.inl ⟨ib,en,c1,ϱ,(a6.e _ j0).1,(a6.e _ j0).2,λH9 g9=>⟨_,ϱ,aL ?_⟩⟩)⟩
   have l9:=(a6.step g9).tl
   obtain ⟨u0,ur,bI⟩:∃u0 ur,tx=u0::ur:=by
    cases tx with
    | nil=>exact absurd rfl aR
    | cons u r=>exact ⟨u,r,rfl⟩
   obtain ⟨wd,aS,eu,_⟩:=bd u0 (by rw [bI];exact .head _)
   refine ⟨_,ϱ,_,ϱ,_,ϱ,_,ϱ,ta,_,_,_,ϱ,ϱ,SqL.of (l9.e _ j1).1,(by rw [bI,eu];exact St.at0),b,_,⟨x.W,x.dl,x.vs,(some dd,none),x.dk,[],x.due,x.cz⟩,wd,aS,ϱ,l9.pt.1,l9.g,ib,λn8 dZ=>⟨_,ϱ,aL ?_⟩⟩
   have hG:=l9.step dZ
   have dN:=t7.trans (s8.ts.trans (g9.ow.ts.trans dZ.ow.ts))
   exact ⟨a,k,b,Y,xs,c,fa,ta,tx,O,.ref t1,t2,a8,_,⟨x.W,x.dl,x.vs,(some dd,none),x.dk,[],x.due,x.cz⟩,⟨r,.ref Y,x.due,bU ltP es⟩,dd,ha,G,_,E,ϱ,hG,j.keep dN,bd,aR,ϱ,en,ϱ,ϱ,X,bC,xO oe,by rw [zX];exact kw,pp hF λ_ _ z=>cPr.keep (s8.ts.trans (g9.ow.ts.trans dZ.ow.ts)) z,dN _ _ bg,Paired.mapP pt2 λ_ _ z=>z.keep dN,l8,q⟩
 case v3 =>
  rintro D0 σ H ⟨a,k,b,Y,xs,c,fa,ta,tx,O,lv,t2,a8,d,x,y,dd,ha,hs,y13,E,rfl,l,j,bd,aR,er,en,eo,av,X,bC,d1,d3,bt,bg,pt2,l8,q⟩
  refine ⟨_,ϱ,_,_,ϱ,ϱ,⟨ζ,ζ⟩,_,_,ϱ,ϱ,(by show (0:Int)<2;decide),ϱ,_,ϱ,bx (λ_=>?_) (λ_=>?_)⟩
  ·have eu:upX d=some y:=by unfold upX;rw [en];exact er
   refine ⟨_,ϱ,λl5 d5 b0 c2 iv=>⟨l5,d5,b,d,(by rw [l.pt.2.1,l.pt.2.2];rfl),ae,l.g.sa.keep (ip b0 c2),(λy' z=>by rw [eu] at z;cases z;exact ⟨bC,Λ X ζ,Λ d3 ζ⟩),λW dl vs o dk ea H5 eW oW iW pr up=>⟨ϱ,?_⟩⟩⟩
   subst eW
   rw [eu] at up
   obtain ⟨dv,dy,f1,dz⟩:=up
   obtain ⟨o1,o2⟩:=o
   cases (show o2=none from dv)
   cases o1 with
   | none=>cases dy
   | some d2 =>
   obtain ⟨o5,s5⟩:=kK (b:=b) (d:=d) (cz:=x.cz) (R:=wkL CL b x) l.g.ow (ip b0 c2) b0 oW
   have gd:Gs C CS CH CL CV K H b [] d x H5 [] d ⟨W,dl,vs,(some d2,none),dk,[],ea,x.cz⟩:=⟨o5,l.g.wo.si.keep s5,iW,pr,(λc e=>s5 _ _ (l.g.wo.cz c e)),s5 _ _ l.g.wo.pa,(λz=>by cases z),λ_=>rfl⟩
   exact ⟨a,k,b,Y,xs,c,fa,ta,tx,O,lv,t2,a8,d,_,y,d2,ha,hs,y13,E,ϱ,l.step gd,j.keep s5.ts,bd,aR,er,en,ϱ,dz,X,bC,d1,d3,pp bt λ_ _ z=>cPr.keep s5.ts z,s5 _ _ bg,Paired.mapP pt2 λ_ _ z=>z.keep s5.ts,l8,q⟩
  ·exact ⟨a,k,b,Y,xs,c,fa,ta,tx,O,lv,t2,a8,d,x,y,dd,ha,hs,y13,E,ϱ,l,j,bd,aR,er,en,eo,av,X,bC,d1,d3,bt,bg,pt2,l8,q⟩
 case v4 =>
  rintro D0 σ H ⟨a,k,b,Y,xs,c,fa,ta,tx,O,lv,t2,a8,d,x,y,dd,ha,hs,y13,E,rfl,l,j,bd,aR,er,en,eo,av,X,bC,d1,d3,bt,bg,pt2,l8,q⟩
  have cv:x.due.length<=10:=by rw [av];exact X
  refine ⟨_,ϱ,x.W.l,x.W.dx,_,ϱ,l.g.wo.wi,cX θ,x.W,b.home,b.many,b.A.l,_,ϱ,l.g.wo.wi,l.g.ls,(by rw [ν];exact Λ cv ζ),⟨_,eL b.p _⟩,λq1 H1 k1 s1 k2 p1=>?_⟩
  rw [av] at p1
  have l1:=l.same n s1
  refine ⟨_,ϱ,_,_,⟨q1,k1,ϱ,SqL.of k2,p1⟩,⟨ha,hs,ϱ,SqL.of (l1.e _ j0).1,pp bt λ_ _ z=>cPr.keep s1.ts z⟩,_,ϱ,?_⟩
  rw [τ rfl]
  refine aL ⟨_,ϱ,x.W.l,x.W.dx,_,ϱ,l1.g.wo.wi,cX θ,x.W,b.home,b.many,b.A.l,_,ϱ,l1.g.wo.wi,l1.g.ls,(by rw [ν];exact Λ cv ζ),⟨_,eL b.p _⟩,λq2 H2 s2 k3=>⟨χ,λl3 k4=>?_⟩⟩
  have Z:=ag (o:=.lst []) k4
  refine ⟨[],[],⟨q2,[],ϱ,SqL.of (Z _ _ k3),.nil⟩,⟨l3,[],ϱ,SqL.of ae,.nil⟩,_,ϱ,aL ?_⟩
  have fv:=s1.trans (s2.trans Z)
  have dP:=l.same n fv
  refine ⟨_,ϱ,b.A.l,b.A.dx,_,ϱ,dP.g.wo.si.ins,iN θ,b.p,b.A,d,ϱ,dP.g.sa,λq4 H4 s4 dT=>?_⟩
  have l4:=dP.same n s4
  refine ⟨_,ϱ,_,_,kI dT,kI (l4.e _ j2).1,_,ϱ,?_⟩
  rw [τ rfl]
  have ib:isB d=true:=by unfold isB;rw [en,er];rfl
  have fx:=fv.trans s4
  refine aL ⟨_,ϱ,_,ϱ,_,ϱ,_,ϱ,χ,λc1 as=>?_⟩
  have s5:=ag (o:=.lst []) as
  have l5:=l4.add n as (.lst [])
  refine ⟨b,d,x,Y,xs,.ref c1,ϱ,l5.g,(j.keep fx.ts).keep s5.ts,Λ cv ζ,.inr (.inl ⟨ib,en,c1,ϱ,(l5.e _ j0).1,(l5.e _ j0).2,λH6 g6=>⟨_,ϱ,aL ?_⟩⟩)⟩
  have l6:=(l5.step g6).tl
  obtain ⟨u0,ur,bI⟩:∃u0 ur,tx=ur++[u0]:=⟨tx.getLast aR,tx.dropLast,(List.dropLast_concat_getLast aR).symm⟩
  obtain ⟨wd,aS,eu,_⟩:=bd u0 (by rw [bI];exact Ψ _ (.head _))
  refine ⟨_,ϱ,_,ϱ,_,ϱ,_,ϱ,_,ϱ,ta,_,_,_,ϱ,ϱ,SqL.of (l6.e _ j1).1,(by rw [bI,eu];exact xm _ _),b,d,x,wd,aS,ϱ,l6.pt.1,l6.g,ib,λH7 g7=>⟨_,ϱ,aL ?_⟩⟩
  have l7:=l6.step g7
  have t7:=fx.ts.trans (s5.ts.trans (g6.ow.ts.trans g7.ow.ts))
  obtain ⟨o,ho⟩:∃o:Str,atI ([.str "done",.str "broken"]:List V) (k/128%2)=some (.str o):=by
   have h0:0<=k/128%2:=Int.emod_nonneg _ ζ
   have h4:k/128%2<2:=Int.emod_lt_of_pos _ ζ
   generalize k/128%2=m at h0 h4 ⊢
   have:m=0\/m=1:=by omega
   rcases this with rfl | rfl<;>exact ⟨_,rfl⟩
  refine ⟨χ,λlo k5=>⟨_,ϱ,_,_,ϱ,ϱ,⟨ζ,ζ⟩,_,_,ϱ,ϱ,(by show (0:Int)<2;decide),lo,_,_,_,ϱ,ϱ,SqL.of ae,ho,?_⟩⟩
  have s8:=ag (o:=.lst [.str "done",.str "broken"]) k5
  have a6:=l7.same n s8
  have t8:=t7.trans s8.ts
  refine ⟨_,ϱ,_,ϱ,_,ϱ,_,ϱ,_,ϱ,_,ϱ,b,d,x,y,dd,fa,t2,a8,o,ϱ,a6.g,eo,Λ cv ζ,en,er,Λ l8 ζ,d1,(a6.e _ j2).1,(a6.e _ j2).2,t8 _ _ bg,Paired.mapP pt2 λ_ _ z=>z.keep t8,λW' dl H9 eW g9=>⟨_,ϱ,aL ?_⟩⟩
  have l9:=a6.step g9
  exact ⟨_,ϱ,_,ϱ,_,ϱ,_,ϱ,b,d.kp (.fin o),⟨W',dl,[],(none,none),[],[],[],x.cz⟩,Y,xs,.non,(by rw [show W'.l=x.W.l from eW];rfl),l9.g,j.keep (t8.trans g9.ow.ts),(by show 0<=900;decide),.inl ⟨ϱ,ϱ,ϱ,λJ _=>q J⟩⟩
 obtain ⟨E0,cp,dA⟩:∃E0:Cs,(∀u∈E0,H u.1=some u.2/\u.1≠U)/\∀J,(∀u∈E0,J u.1=some u.2)->SqL K J a (ns.map V.int):=by
  rcases id hS with (h | ⟨o,h⟩) | h
  ·exact ⟨[(a,.lst (ns.map V.int))],λu hu=>by rw [ϵ.mp hu];exact ⟨h,λz=>by rw [show a=U from z,ch] at h;cases h⟩,λJ e=>.inl (.inl (e _ (.head _)))⟩
  ·exact ⟨[(a,.frz o (.lst (ns.map V.int)))],λu hu=>by rw [ϵ.mp hu];exact ⟨h,λz=>by rw [show a=U from z,ch] at h;cases h⟩,λJ e=>.inl (.inr ⟨o,e _ (.head _)⟩)⟩
  ·exact ⟨[],(λ_ h=>nomatch h),λJ _=>.inr h⟩
 refine ⟨_,ϱ,a,ns,0,ϱ,hS,?_⟩
 generalize eE ns 0=k
 have i4:∀m:Int,0<=m%4/\m%4<4:=λm=>⟨Int.emod_nonneg _ ζ,Int.emod_lt_of_pos _ ζ⟩
 obtain ⟨p0,hw⟩:∃p0:Int,atI ([.int 0,.int 1,.int 3,.int 4]:List V) (k/8%4)=some (.int p0):=by
  obtain ⟨h0,h4⟩:=i4 (k/8)
  generalize k/8%4=m at h0 h4 ⊢
  have:m=0\/m=1\/m=2\/m=3:=by omega
  rcases this with rfl | rfl | rfl | rfl<;>exact ⟨_,rfl⟩
 refine ⟨χ,λla kb=>⟨_,ϱ,_,_,ϱ,ϱ,⟨ζ,ζ⟩,_,_,ϱ,ϱ,(by show (0:Int)<4;decide),la,_,_,_,ϱ,ϱ,SqL.of ae,hw,_,ϱ,_,_,ϱ,ϱ,⟨ζ,ζ⟩,_,_,ϱ,ϱ,(by show (0:Int)<19;decide),χ,λpa kc=>?_⟩⟩
 have s1:=(ag (o:=.lst [.int 0,.int 1,.int 3,.int 4]) kb).trans (ag (o:=.tup [.int p0,.int (k/32%19)]) kc)
 have fy:PaA (upd (upd H la (.lst [.int 0,.int 1,.int 3,.int 4])) pa (.tup [.int p0,.int (k/32%19)])) (p0,k/32%19) pa:=ae
 generalize (upd (upd H la _) pa _)=H1 at s1 fy ⊢
 refine ⟨χ,λt0 n0=>⟨χ,λt1 n1=>⟨χ,λt2 n2=>⟨χ,λt3 n3=>⟨χ,λlb kk=>?_⟩⟩⟩⟩⟩
 have a0:=ag (o:=.tup [.int 2]) n0
 have a1:=ag (o:=.tup [.int 0,.int 2]) n1
 have a2:=ag (o:=.tup [.int 1,.int 2,.int 4]) n2
 have a3:=ag (o:=.tup [.int 2,.int 3]) n3
 have a4:=ag (o:=.lst [.ref t0,.ref t1,.ref t2,.ref t3]) kk
 have s2:=a0.trans (a1.trans (a2.trans (a3.trans a4)))
 obtain ⟨Y,xs,hz,j⟩:∃Y xs,atI ([.ref t0,.ref t1,.ref t2,.ref t3]:List V) (k/16%4)=some (.ref Y)/\(upd (upd (upd (upd (upd H1 t0 (.tup [.int 2])) t1 (.tup [.int 0,.int 2])) t2 (.tup [.int 1,.int 2,.int 4])) t3 (.tup [.int 2,.int 3])) lb (.lst [.ref t0,.ref t1,.ref t2,.ref t3])) Y=some (.tup xs):=by
  obtain ⟨h0,h4⟩:=i4 (k/16)
  generalize k/16%4=m at h0 h4 ⊢
  have:m=0\/m=1\/m=2\/m=3:=by omega
  rcases this with rfl | rfl | rfl | rfl
  ·exact ⟨t0,_,ϱ,a4 _ _ (a3 _ _ (a2 _ _ (a1 _ _ ae)))⟩
  ·exact ⟨t1,_,ϱ,a4 _ _ (a3 _ _ (a2 _ _ ae))⟩
  ·exact ⟨t2,_,ϱ,a4 _ _ (a3 _ _ ae)⟩
  ·exact ⟨t3,_,ϱ,a4 _ _ ae⟩
 refine ⟨_,ϱ,_,_,ϱ,ϱ,⟨ζ,ζ⟩,_,_,ϱ,ϱ,(by show (0:Int)<4;decide),lb,_,_,_,ϱ,ϱ,SqL.of ae,hz,?_⟩
 have c0:=s1.trans s2
 have fB:=s2 _ _ fy
 generalize (upd (upd (upd (upd (upd H1 t0 _) t1 _) t2 _) t3 _) lb _)=H2 at c0 fB j ⊢
 refine ⟨_,ϱ,a,ns,1,ϱ,c0.seq hS,?_⟩
 generalize eE ns 1=c
 obtain ⟨M,hM,ma,mb⟩:∃M:Nat,1+k%8=(M:Int)/\1<=M/\M<=8:=by
  have h0:0<=k%8:=Int.emod_nonneg _ ζ
  have h3:k%8<8:=Int.emod_lt_of_pos _ ζ
  exact ⟨(1+k%8).toNat,ω,ω,ω⟩
 refine ⟨_,ϱ,_,_,ϱ,ϱ,(by show (0:Int)<8;decide),_,_,ϱ,ϱ,(M:Int),congrArg (λz=>[V.int z]) hM,ω,ω,?_⟩
 rw [Int.toNat_natCast]
 refine i9 (n:=M) (λi G J=>J=H2/\∃vs:List Int,G=vs.map V.int/\vs.length=i) ⟨ϱ,[],ϱ,ϱ⟩ (small ω) (λi G J hi z=>il ?_) (λG J z=>?_)
 ·obtain ⟨rfl,vs,rfl,hA⟩:=z
  exact ⟨_,ϱ,_,ϱ,_,_,ϱ,ϱ,_,_,ϱ,ϱ,⟨ω,ω⟩,_,ϱ,_,_,ϱ,ϱ,.inl ⟨ζ,ζ⟩,_,_,ϱ,ϱ,_,ϱ,λr _=>⟨ϱ,vs++[r],by rw [List.map_append];rfl,by rw [List.length_append];show vs.length+1=i+1;omega⟩⟩
 obtain ⟨rfl,cs,rfl,hA⟩:=z
 intro fa eh
 have Z:=ag (o:=.lst (cs.map V.int)) eh
 have fC:=Z _ _ (c0 _ _ ch)
 have dS:(upd J fa (.lst (cs.map V.int))) fa=some (.lst (cs.map V.int)):=ae
 have hK:fa∉[U]:=λz=>by rw [ϵ.mp z,c0 _ _ ch] at eh;cases eh
 have fG:=c0.trans Z
 have fI:=Z _ _ fB
 have di:=Z _ _ j
 generalize (upd J fa (HO.lst (cs.map V.int)))=H3 at Z fC dS fG fI di ⊢
 have g0:Ow CH CL [U] H3 H3 [(U,.tbl #[])]:=.mk0 (L:=[(U,.tbl #[])]) (λx hx=>by rw [List.mem_singleton.mp hx];exact fC) (by simp [ad]) (λx hx=>by rw [List.mem_singleton.mp hx];exact id)
 refine ⟨_,ϱ,λl4 d4 eb g5 nl=>⟨l4,d4,fa,cs,ϱ,ae,ip eb g5 _ _ dS,λA4 H4 eA iA oA=>⟨ϱ,?_⟩⟩⟩
 subst eA
 have ob:=(oA (p0,k/32%19)).born (ip eb g5) eb
 have g4:=g0.join ob
 have s4:Same H3 H4:=λb u e=>ob.fr b u (λz=>nomatch z) e
 have fP:Si CS K H4 (p0,k/32%19) A4 ⟨cs,false,none,none⟩:=⟨iA,λ_ z=>by cases z⟩
 refine ⟨_,ϱ,λl5 d5 b0 c2 iv=>⟨l5,d5,⟨2,5,(p0,k/32%19),pa,A4,U⟩,⟨cs,false,none,none⟩,ϱ,ae,(An (R:=[(U,.tbl #[])]) g4 fP).keep (ip b0 c2),(λ_ z=>by cases z),λW dl vs o dk ea H5 eW oW iW pr up=>⟨ϱ,?_⟩⟩⟩
 subst eW
 obtain ⟨dv,dy,f1,dz⟩:=up
 obtain ⟨o1,o2⟩:=o
 cases (show o2=none from dv)
 cases o1 with
 | some z=>cases dy
 | none =>
 cases (show dk=[] from f1)
 cases (show ea=[] from dz)
 obtain ⟨o5,s5⟩:=kK (b:=⟨2,5,(p0,k/32%19),pa,A4,U⟩) (d:=⟨cs,false,none,none⟩) (cz:=none) (R:=[]) g4 (ip b0 c2) b0 oW
 have hL:PaA H5 (p0,k/32%19) pa:=s5 _ _ (s4 _ _ fI)
 have gd:Gd C CS CH CL CV K [U] H3 H5 ⟨2,5,(p0,k/32%19),pa,A4,U⟩ [] ⟨cs,false,none,none⟩ ⟨W,dl,vs,(none,none),[],[],[],none⟩:=⟨o5,fP.keep s5,iW,pr,(λ_ z=>by cases z),hL,(λ_=>⟨ϱ,ϱ⟩),λ_=>rfl⟩
 have lv:Lv C CS CH CL CV K U H5 ⟨2,5,(p0,k/32%19),pa,A4,U⟩ ⟨cs,false,none,none⟩ ⟨W,dl,vs,(none,none),[],[],[],none⟩ ((fa,.lst (cs.map V.int))::E0):=⟨gd.self qS,λu hu=>by
  rcases ϕ.mp hu with z | z
  ·rw [z];exact gd.out dS hK
  ·exact gd.out (fG _ _ (cp u z).1) (λm=>(cp u z).2 (ϵ.mp m)),⟨ϱ,ϱ,ϱ⟩⟩
 have dp:=s5 _ _ (s4 _ _ di)
 refine ⟨_,ϱ,_,ϱ,_,ϱ,_,ϱ,⟨2,5,(p0,k/32%19),pa,A4,U⟩,⟨cs,false,none,none⟩,⟨W,dl,vs,(none,none),[],[],[],none⟩,Y,xs,.non,ϱ,lv.g,.inl dp,(by show 0<=900;decide),.inl ⟨ϱ,ϱ,ϱ,λH6 g6=>⟨_,ϱ,aL ?_⟩⟩⟩
 exact ⟨a,ns,k,⟨2,5,(p0,k/32%19),pa,A4,U⟩,Y,xs,c,fa,⟨cs,false,none,none⟩,⟨W,dl,vs,(none,none),[],[],[],none⟩,E0,ϱ,lv.step g6,dA,.inl (g6.ow.ts _ _ dp),ϱ,ϱ,ϱ,ϱ,(by show 1<=cs.length;omega),(by show cs.length<=8;omega),q⟩
theorem wj{val:Int->Int}{n:Nat}(F:Fun K "step_done" "PlusStep.step_done" b7 f fd):FnOk P w K mg base CX0 5 f fd ["self","hand","value_of"] (eR P w K mg CW val n .plus base):=by
 refine F.ok gz (λvs H Q E h=>?_) (λl A e s H vs Q E m h=>?_)
 ·obtain ⟨v,g,b,i,_,j,d,_⟩:=h
  exact d.elim
 ·obtain ⟨v,g,b,i,_,j,d,_⟩:=h
  exact d.elim
theorem wl{val:Int->Int}{n:Nat}(F:Fun K "step_done" "NeedStep.step_done" b8 f fd):FnOk P w K mg base CX0 5 f fd ["self","hand","value_of"] (eR P w K mg CW val n .need base):=by
 refine F.ok gC (λvs H Q E h=>?_) (λl A e s H vs Q E m h=>?_)
 ·obtain ⟨v,g,b,i,_,j,d,_⟩:=h
  exact d.elim
 ·obtain ⟨v,g,b,i,_,j,d,_⟩:=h
  exact d.elim
end
def kmk(a b c:Addr):Kd->Addr
 | .read=>a
 | .mean=>b
 | .change=>c
def wmk(a b c d e f g:Addr):Wd->Addr
 | .take=>a
 | .mean=>b
 | .sum=>c
 | .give=>d
 | .add=>e
 | .plus=>f
 | .need=>g
abbrev bmV:List Value:=[.type "ValueError",.type "Exception",.type "BaseException",.type "object"]
def FnX(K:Frag)(f:Addr)(x q:Str)(st:Stmt):Prop:=PySem.W.isFn K (.ref f)=true/\∃fd,Fun K x q st f fd
theorem fnx{K:Frag}{f:Addr}{x q:Str}{st:Stmt}{oc kV dc pm cd ct:Value}{od an:Option Addr}{sl:Array (Option Value)}(l:K.lookup f=some ⟨oc,od,.func (PySem.W.fnOf x q (defArgs st) (defBody st) (defScope st) .none kV dc pm an cd ct),sl⟩)(c:PySem.W.codeIn K cd q=true)(k:PySem.W.keepIn K (.ref f)=true)(j:PySem.W.isFn K (.ref f)=true):FnX K f x q st:=⟨j,_,wL l c k⟩
section
variable {K:Frag}{f:Addr}{x q:Str}{st:Stmt}{fd:FuncData}
abbrev BdF(x q:Str)(st:Stmt)(us:List Value)(ps:List Str):Prop:=∀(kV doc pm:Value) (an:Option Addr) (cdv ct:Value),bindArgs (PySem.W.fnOf x q (defArgs st) (defBody st) (defScope st) .none kV doc pm an cdv ct) ⟨us,[]⟩=pure (ps.zip us)
theorem _root_.L2.Fun.b1(F:Fun K x q st f fd)(p:Str)(h:∀u,BdF x q st [u] [p]):Binds K fd [p] []:=F.binds λa b c d e g us hl=>match us,hl with | [u],_=>h u a b c d e g
theorem _root_.L2.Fun.b2(F:Fun K x q st f fd)(p r:Str)(h:∀u v,BdF x q st [u,v] [p,r]):Binds K fd [p,r] []:=F.binds λa b c d e g us hl=>match us,hl with | [u,v],_=>h u v a b c d e g
theorem _root_.L2.Fun.b3(F:Fun K x q st f fd)(p r s:Str)(h:∀u v w,BdF x q st [u,v,w] [p,r,s]):Binds K fd [p,r,s] []:=F.binds λa b c d e g us hl=>match us,hl with | [u,v,w],_=>h u v w a b c d e g
theorem _root_.L2.Fun.b4(F:Fun K x q st f fd)(p r s t:Str)(h:∀u v w y,BdF x q st [u,v,w,y] [p,r,s,t]):Binds K fd [p,r,s,t] []:=F.binds λa b c d e g us hl=>match us,hl with | [u,v,w,y],_=>h u v w y a b c d e g
theorem _root_.L2.Fun.b5(F:Fun K x q st f fd)(p r s t m:Str)(h:∀u v w y z,BdF x q st [u,v,w,y,z] [p,r,s,t,m]):Binds K fd [p,r,s,t,m] []:=F.binds λa b c d e g us hl=>match us,hl with | [u,v,w,y,z],_=>h u v w y z a b c d e g
theorem _root_.L2.Fun.b6(F:Fun K x q st f fd)(p r s t m n:Str)(h:∀u v w y z j,BdF x q st [u,v,w,y,z,j] [p,r,s,t,m,n]):Binds K fd [p,r,s,t,m,n] []:=F.binds λa b c d e g us hl=>match us,hl with | [u,v,w,y,z,j],_=>h u v w y z j a b c d e g
end
open PySem.W (readsIn findCls fnOf codeIn handedIn findIn nsIn keepIn isFn plainGet hasDictIn plainOver makesIn mroIn kitOne specialIn takesIn excIn mg_of mg_none_of codeHdIn tabObj noTabs)
abbrev XF(K:Frag)(C:Addr)(m:Str)(f:Addr):Prop:=PySem.W.findIn K (.ref C) m=some (some (.ref f))
abbrev X0(K:Frag)(C:Addr)(m:Str):Prop:=PySem.W.findIn K (.ref C) m=some none
abbrev XN(K:Frag)(m:Str)(f:Addr):Prop:=PySem.W.nsIn K mainGlobals m=some (some (.ref f))
abbrev Xn(K:Frag)(m:Str):Prop:=PySem.W.nsIn K mainGlobals m=some none
theorem mx{K:Frag}{C D f:Addr}{m:Str}(a:XF K C m f)(b:X0 K D m):C≠D:=λe=>by
 subst e
 have:=(show _=_ from a).symm.trans (show _=_ from b)
 cases this
structure Ck(K:Frag)(C:Addr):Prop where
 c:Cls K C
 m:PySem.W.makesIn K C=true
 k:PySem.W.keepIn K (.ref C)=true
section
variable {P:Program}{w:World}{K:Frag}{mg:Str->Option Value}{base:Heap}{k:Nat}{C f:Addr}{x:Str}{ps:List Str}{sp:Sp}{fd:FuncData}
def gmk(a:XF K C x f)(j:PySem.W.isFn K (.ref f)=true)(e:PySem.W.keepIn K (.ref f)=true)(b:Binds K fd ps [])(o:FnOk P w K mg base CX0 k f fd ps sp):GM P w K mg base CX0 k C x ps sp:=⟨f,fd,o,b,⟨a,j,e⟩⟩
def gfk(e:PySem.W.keepIn K (.ref f)=true)(m:mg x=some (.ref f))(b:Binds K fd ps [])(o:FnOk P w K mg base CX0 k f fd ps sp):GF P w K mg base CX0 k x ps sp:=⟨f,fd,o,b,e,m⟩
end
theorem all_mk {l : PySem.W.OpenLaw} {w : World} {K : Frag} {h : Heap} {mg : Str → Option Value} {fa CR it I iv J iy fi ft y i t8 iW k0 k1 k2 k3 WA o ea bl WB eb bm WD ec ed bA WE ee bB WF eh ei bC WG ej Z bG WN ek bI CY CL go gt gv gB h2 h3 h4 h5 h6 C h7 ha hb el hc hd he CH hg hh hi hj hk u hm ho hp bN em hq hr hs ht hu hv k4 k5 k6 kb kc kd kk ks kt kv kw kG kP l2 l3 l4 l5 fZ l6 f4 tc cc Pt : Addr} (X : K.In h) (G : h.Ns mainGlobals mg) (Eu : mg "law" = some (.ref fa))
     {l7 l8:Option Addr} {l9:Array (Option Value)} {la lb lc ld ak le:Value} {b F O ar eo as ep f:Tok} {td:Array DictEntry} {Ev:Nat} {te:Array DictEntry} {Ew:Nat} {Ex:Option Addr} {Ey:Array (Option Value)} {tf:Array Value}
  (nR:XN K "Read" CR)
 (lh:Ck K CR)
  (Ez:X0 K CR "first")
  (EA:X0 K CR "last")
  (ll:XF K CR "kind" it)
  (EB:FnX K it "kind" "Read.kind" gV)
  (nM:XN K "Mean" I)
 (lm:Ck K I)
  (EC:X0 K I "first")
  (ED:X0 K I "last")
  (ln:XF K I "kind" iv)
  (EE:FnX K iv "kind" "Mean.kind" gW)
  (nC:XN K "Change" J)
 (lp:Ck K J)
  (EF:X0 K J "first")
  (EG:X0 K J "last")
  (lr:XF K J "kind" iy)
  (EH:FnX K iy "kind" "Change.kind" fg)
  (EI:XF K CR "__init__" fi)
  (EJ:XF K I "__init__" fi)
  (EK:XF K J "__init__" fi)
  (li:FnX K fi "__init__" "Lock.__init__" gY)
  (EL:XF K CR "told" ft)
  (EM:XF K I "told" ft)
  (EN:XF K J "told" ft)
  (lt:FnX K ft "told" "Lock.told" gX)
  (lu:XF K CR "covers" y)
  (lv:XF K I "covers" y)
  (lw:XF K J "covers" y)
  (tg:FnX K y "covers" "Lock.covers" fe)
  (EO:XN K "Reader" i)
 (er:Ck K i)
  (EQ:X0 K i "text")
  (ER:X0 K i "place")
  (ES:XF K i "__init__" t8)
  (ET:FnX K t8 "__init__" "Reader.__init__" iq)
  (EU:XF K i "passes" iW)
  (EV:FnX K iW "passes" "Reader.passes" gu)
  (EW:XF K i "read_any" k0)
  (EX:FnX K k0 "read_any" "Reader.read_any" eM)
  (EY:XF K i "read_below" k1)
  (EZ:FnX K k1 "read_below" "Reader.read_below" dM)
  (F0:XF K i "read_number" k2)
  (F1:FnX K k2 "read_number" "Reader.read_number" c6)
  (F2:XF K i "read_signs" k3)
  (F3:FnX K k3 "read_signs" "Reader.read_signs" dL)
  (F4:XN K "TakeStep" WA)
 (es:Ck K WA)
  (th:X0 K WA "where")
  (ti:X0 K WA "cell")
  (tk:X0 K WA "low")
  (tn:X0 K WA "high")
  (to:X0 K WA "amount")
  (lx:XF K WA "__init__" o)
  (tr:FnX K o "__init__" "CellStep.__init__" dJ)
  (ly:XF K WA "lock" ea)
  (tt:FnX K ea "lock" "TakeStep.lock" dq)
  (lz:XF K WA "step_done" bl)
  (tu:FnX K bl "step_done" "TakeStep.step_done" bZ)
  (F5:XN K "MeanStep" WB)
 (et:Ck K WB)
  (tv:X0 K WB "where")
  (tx:X0 K WB "cell")
  (ty:X0 K WB "low")
  (tA:X0 K WB "high")
  (tP:X0 K WB "amount")
  (lI:XF K WB "__init__" o)
  (lS:XF K WB "lock" eb)
  (tR:FnX K eb "lock" "MeanStep.lock" dF)
  (ma:XF K WB "step_done" bm)
  (tS:FnX K bm "step_done" "MeanStep.step_done" c7)
  (F6:XN K "SumStep" WD)
 (eu:Ck K WD)
  (u4:X0 K WD "where")
  (ui:X0 K WD "cell")
  (uk:X0 K WD "low")
  (ur:X0 K WD "high")
  (uv:X0 K WD "amount")
  (mb:XF K WD "__init__" ec)
  (ux:FnX K ec "__init__" "SumStep.__init__" eg)
  (mc:XF K WD "lock" ed)
  (v1:FnX K ed "lock" "SumStep.lock" ef)
  (me:XF K WD "step_done" bA)
  (v2:FnX K bA "step_done" "SumStep.step_done" bn)
  (F7:XN K "GiveStep" WE)
 (ev:Ck K WE)
  (v3:X0 K WE "where")
  (v4:X0 K WE "cell")
  (vl:X0 K WE "low")
  (vu:X0 K WE "high")
  (vw:X0 K WE "amount")
  (mk:XF K WE "__init__" o)
  (mm:XF K WE "lock" ee)
  (vA:FnX K ee "lock" "GiveStep.lock" dH)
  (mn:XF K WE "step_done" bB)
  (vB:FnX K bB "step_done" "GiveStep.step_done" b9)
  (F8:XN K "AddStep" WF)
 (ew:Ck K WF)
  (w0:X0 K WF "where")
  (w1:X0 K WF "cell")
  (w2:X0 K WF "low")
  (w3:X0 K WF "high")
  (w4:X0 K WF "amount")
  (mp:XF K WF "__init__" eh)
  (w6:FnX K eh "__init__" "AddStep.__init__" eC)
  (mu:XF K WF "lock" ei)
  (w7:FnX K ei "lock" "AddStep.lock" eB)
  (mA:XF K WF "step_done" bC)
  (wa:FnX K bC "step_done" "AddStep.step_done" ck)
  (F9:XN K "PlusStep" WG)
 (ey:Ck K WG)
  (we:X0 K WG "where")
  (wh:X0 K WG "cell")
  (wi:X0 K WG "low")
  (wk:X0 K WG "high")
  (wo:X0 K WG "amount")
  (mB:XF K WG "__init__" ej)
  (ws:FnX K ej "__init__" "PlusStep.__init__" dw)
  (mG:XF K WG "lock" Z)
  (wt:FnX K Z "lock" "Step.lock" gT)
  (mN:XF K WG "step_done" bG)
  (x0:FnX K bG "step_done" "PlusStep.step_done" b7)
  (Fa:XN K "NeedStep" WN)
 (ez:Ck K WN)
  (x1:X0 K WN "where")
  (x2:X0 K WN "cell")
  (x3:X0 K WN "low")
  (x4:X0 K WN "high")
  (x5:X0 K WN "amount")
  (mP:XF K WN "__init__" ek)
  (x6:FnX K ek "__init__" "NeedStep.__init__" dD)
  (mR:XF K WN "lock" Z)
  (mX:XF K WN "step_done" bI)
  (x7:FnX K bI "step_done" "NeedStep.step_done" b8)
  (Fb:XN K "CellStep" CY)
  (Fc:specialIn K (.ref CY) "__getattribute__"=some (some (.builtin "type.__getattribute__")))
  (Fd:readsIn K CY (.type "type")=true)
  (Fe:findCls K (.ref CY) (.type "type") "__init__"=some (.val (.ref o)))
  (Ff:handedIn (.ref o)=true)
  (nL:XN K "Locks" CL)
 (n0:Ck K CL)
  (nP:X0 K CL "pairs")
  (n1:X0 K CL "kind")
  (x8:X0 K CL "keep")
  (x9:X0 K CL "value_at")
  (xb:XF K CL "__init__" go)
  (xd:FnX K go "__init__" "Locks.__init__" gf)
  (xe:XF K CL "ask" gt)
  (xs:FnX K gt "ask" "Locks.ask" c8)
  (xv:XF K CL "hinderer" gv)
  (xN:FnX K gv "hinderer" "Locks.hinderer" cT)
  (ys:XF K CL "waiting" gB)
  (yv:FnX K gB "waiting" "Locks.waiting" bR)
  (z0:XF K CL "waiting_pairs" h2)
  (z1:FnX K h2 "waiting_pairs" "Locks.waiting_pairs" bc)
  (z2:XF K CL "waiting_place" h3)
  (z3:FnX K h3 "waiting_place" "Locks.waiting_place" bT)
  (z4:XF K CL "free" h4)
  (zh:FnX K h4 "free" "Locks.free" bp)
  (zl:XF K CL "held" h5)
  (zs:FnX K h5 "held" "Locks.held" cJ)
  (zu:XF K CL "held_pairs" h6)
  (zz:FnX K h6 "held_pairs" "Locks.held_pairs" bv)
  (nS:XN K "Stand" C)
 (n2:Ck K C)
  (Fg:X0 K C "cells")
  (Fh:X0 K C "begins")
  (Fj:X0 K C "worked")
  (Fk:X0 K C "readies")
  (Fl:X0 K C "ends")
  (Fm:X0 K C "walks")
  (Fn:X0 K C "overs")
  (A0:XF K C "__init__" h7)
  (A4:FnX K h7 "__init__" "Stand.__init__" f9)
  (eA:XF K C "keep" ha)
  (At:FnX K ha "keep" "Stand.keep" f8)
  (BT:XF K C "changes_of" hb)
  (C0:FnX K hb "changes_of" "Stand.changes_of" cC)
  (C1:XF K C "cell_at" el)
  (C2:FnX K el "cell_at" "Stand.cell_at" du)
  (C3:XF K C "cells_told" hc)
  (C4:FnX K hc "cells_told" "Stand.cells_told" cD)
  (C5:XF K C "news" hd)
  (C6:FnX K hd "news" "Stand.news" f7)
  (C7:XF K C "bound" he)
  (C8:FnX K he "bound" "Stand.bound" cr)
  (nH:XN K "Sheet" CH)
 (Q:Ck K CH)
  (Fo:X0 K CH "stand")
  (Fp:X0 K CH "rows")
  (Fq:X0 K CH "sent")
  (Fr:X0 K CH "latest")
  (n3:X0 K CH "kind")
  (C9:X0 K CH "keep")
  (Cu:X0 K CH "value_at")
  (bP:XF K CH "__init__" hg)
  (Cv:FnX K hg "__init__" "Sheet.__init__" gc)
  (Cw:XF K CH "row" hh)
  (Cy:FnX K hh "row" "Sheet.row" gU)
  (Cz:XF K CH "send" hi)
  (CA:FnX K hi "send" "Sheet.send" gb)
  (CB:XF K CH "rows_told" hj)
  (CD:FnX K hj "rows_told" "Sheet.rows_told" cI)
  (CF:XF K CH "letters_told" hk)
  (CG:FnX K hk "letters_told" "Sheet.letters_told" bh)
  (nV:XN K "Works" u)
 (n4:Ck K u)
  (Fs:X0 K u "stand")
  (Fu:X0 K u "home")
  (Fv:X0 K u "many")
  (Fw:X0 K u "locks")
  (Fx:X0 K u "drafts")
  (Fy:X0 K u "answers")
  (FA:X0 K u "pending")
  (CI:XF K u "__init__" hm)
  (CJ:FnX K hm "__init__" "Works.__init__" fY)
  (CK:XF K u "take_up" ho)
  (CN:FnX K ho "take_up" "Works.take_up" dm)
  (CO:XF K u "work" hp)
  (CP:FnX K hp "work" "Works.work" fX)
  (CQ:XF K u "do_step" bN)
  (CT:isFn K (.ref bN)=true)
  (CU:K.lookup bN=some ⟨la,l7,.func (fnOf "do_step" "Works.do_step" (defArgs aW) (defBody aW) (defScope aW) .none lb lc ld l8 ak le),l9⟩)
  (CW:codeIn K ak "Works.do_step"=true)
  (hx:keepIn K (.ref bN)=true)
  (eD:XF K u "value_at" em)
  (CX:FnX K em "value_at" "Works.value_at" cR)
  (CZ:XF K u "send_did" hq)
  (D0:FnX K hq "send_did" "Works.send_did" cS)
  (D1:XF K u "waiting" hr)
  (D2:FnX K hr "waiting" "Works.waiting" dj)
  (D3:XF K u "is_bound" hs)
  (D4:FnX K hs "is_bound" "Works.is_bound" bM)
  (D5:XF K u "ready" ht)
  (D6:FnX K ht "ready" "Works.ready" cq)
  (D7:XF K u "ended" hu)
  (D8:FnX K hu "ended" "Works.ended" fb)
  (D9:XF K u "held" hv)
  (Da:FnX K hv "held" "Works.held" f6)
  (FB:XN K "lock_of" k4)
  (FC:FnX K k4 "lock_of" "lock_of" jz)
  (FD:XN K "is_whole" k5)
  (FE:FnX K k5 "is_whole" "is_whole" lg)
  (FF:XN K "read_thing" k6)
  (FG:FnX K k6 "read_thing" "read_thing" iQ)
  (FH:XN K "is_sign" kb)
  (FI:FnX K kb "is_sign" "is_sign" mJ)
  (FJ:XN K "read_step" kc)
  (FK:FnX K kc "read_step" "read_step" cY)
  (FL:XN K "read_number" kd)
  (FM:FnX K kd "read_number" "read_number" eU)
  (FN:XN K "made_step" kk)
  (FO:FnX K kk "made_step" "made_step" gK)
  (FP:XN K "made_sum" ks)
  (FQ:FnX K ks "made_sum" "made_sum" iB)
  (FR:XN K "_law_cell_at" kt)
  (FS:FnX K kt "_law_cell_at" "_law_cell_at" dX)
  (FT:XN K "_law_number" kv)
  (FU:FnX K kv "_law_number" "_law_number" eV)
  (FV:XN K "_law_step" kw)
  (FW:FnX K kw "_law_step" "_law_step" gL)
  (FX:XN K "_law_lock" kG)
  (FY:FnX K kG "_law_lock" "_law_lock" gM)
  (G0:XN K "_law_covers" kP)
  (G1:FnX K kP "_law_covers" "_law_covers" eX)
  (G2:XN K "_law_worked" l2)
  (G3:FnX K l2 "_law_worked" "_law_worked" bF)
  (G4:XN K "_law_asked" l3)
  (G5:FnX K l3 "_law_asked" "_law_asked" fM)
  (G6:XN K "_law_quiet" l4)
  (G7:FnX K l4 "_law_quiet" "_law_quiet" fK)
  (G8:XN K "_law_ended" l5)
  (G9:FnX K l5 "_law_ended" "_law_ended" fL)
  (aZ:XN K "law" fZ)
  (lZ:FnX K fZ "law" "law" iR)
  (j:Xn K "isinstance")
  (eH:Xn K "int")
  (c0:Xn K "bool")
  (eI:Xn K "str")
  (eP:Xn K "len")
  (a0:Xn K "range")
  (eS:Xn K "tuple")
  (f5:Xn K "list")
  (n5:Xn K "any")
  (eW:Xn K "all")
  (n6:Xn K "max")
  (c3:Xn K "sorted")
  (n7:Xn K "sum")
  (c1:Xn K "dict")
  (n8:Xn K "ord")
  (d:nsIn K mainGlobals "MOST_FIGURES_things"=some (some (.int 400 b)))
  (H:nsIn K mainGlobals "MOST_SIGNS"=some (some (.int 2000 F)))
  (U:nsIn K mainGlobals "MOST_DEEP"=some (some (.int 8 O)))
  (av:nsIn K mainGlobals "LONGEST"=some (some (.int 100000 ar)))
  (f0:nsIn K mainGlobals "BLANK"=some (some (.int 32 eo)))
  (aR:nsIn K mainGlobals "PERCENT"=some (some (.int 37 as)))
  (f1:nsIn K mainGlobals "TILDE"=some (some (.int 126 ep)))
  (g:nsIn K mainGlobals "MOST_FIGURES_steps"=some (some (.int 40 f)))
  (Ga:XN K "SHAPES" l6)
  (Gb:K.lookup l6=some ⟨.type "dict",none,.dict td Ev,#[]⟩)
  (Gc:(l6==sysModules)=false)
  (Ge:PyProof.Rows.KTD.rowsLook w5 td.toList kD=true)
  (Gf:XN K "RANKS" f4)
  (Gg:K.lookup f4=some ⟨.type "dict",none,.dict te Ew,#[]⟩)
  (Gh:(f4==sysModules)=false)
  (Gi:PyProof.Rows.KTD.rowsLook w5 te.toList lj=true)
  (Gj:XN K "NoThing" tc)
  (Gk:excIn K tc bmV "ValueError.__new__"=true)
  (hcc:ak=.ref cc)
  (lC:K.lookup cc=some ⟨.type "code",Ex,.fields tf,Ey⟩)
  (hPt:tf[11]?=some (.ref Pt))
  (hC:codeHdIn K cc Pt=true)
  (hT:h.get? Pt=some (tabObj #[]))
  (hN:noTabs K=true) :
  ∃(fd:FuncData) (cc Pt:Addr),(∀(s:Shared) (v:Value),BindsTo s fd ⟨[v],[]⟩ [("_law_script",v)])/\PySem.W.codeHdIn K cc Pt=true/\h.get? Pt=some (PySem.W.tabObj #[])/\PySem.W.noTabs K=true/\∀base:Heap,K.In base->BB mg base->FnOk l.prog w K mg base CX0 10 fa fd ["_law_script"] (kS K Pt):=by
 have e:=Eu.symm.trans (PySem.W.mg_of X G aZ)
 cases e
 obtain ⟨Dd,Hk,hy⟩:=EB
 have Dp:=hy.b1 "self" λ_ _ _ _ _ _ _=>rfl
 obtain ⟨De,Hl,hz⟩:=EE
 have Dq:=hz.b1 "self" λ_ _ _ _ _ _ _=>rfl
 obtain ⟨Df,Hm,hA⟩:=EH
 have Dr:=hA.b1 "self" λ_ _ _ _ _ _ _=>rfl
 obtain ⟨ji,di,Fi⟩:=li
 have bi:=Fi.b3 "self" "first" "last" λ_ _ _ _ _ _ _ _ _=>rfl
 obtain ⟨jt,dt,Ft⟩:=lt
 have bt:=Ft.b1 "self" λ_ _ _ _ _ _ _=>rfl
 have T:TxK K (kmk CR I J):=⟨λk=>match k with | .read=>lh.c | .mean=>lm.c | .change=>lp.c,λk=>match k with | .read=>Ez | .mean=>EC | .change=>EF,λk=>match k with | .read=>EA | .mean=>ED | .change=>EG⟩
 have c2:∀k,mg (kdN k)=some (.ref (kmk CR I J k)):=λk=>match k with | .read=>mg_of X G nR | .mean=>mg_of X G nM | .change=>mg_of X G nC
 obtain ⟨c5,Gn,x⟩:=tg
 have e4:=x.b2 "self" "other" λ_ _ _ _ _ _ _ _=>rfl
 obtain ⟨Di,Ho,nh⟩:=ET
 have Dt:=nh.b2 "self" "text" λ_ _ _ _ _ _ _ _=>rfl
 obtain ⟨Dj,Hq,hF⟩:=EV
 have Du:=hF.b2 "self" "sign" λ_ _ _ _ _ _ _ _=>rfl
 obtain ⟨Dk,Hr,hG⟩:=EX
 have Dv:=hG.b2 "self" "deep" λ_ _ _ _ _ _ _ _=>rfl
 obtain ⟨Dl,Hs,hI⟩:=EZ
 have Dw:=hI.b1 "self" λ_ _ _ _ _ _ _=>rfl
 obtain ⟨Dm,Ht,hK⟩:=F1
 have pa:=hK.b1 "self" λ_ _ _ _ _ _ _=>rfl
 obtain ⟨Do,Hu,hL⟩:=F3
 have Dx:=hL.b2 "self" "many" λ_ _ _ _ _ _ _ _=>rfl
 obtain ⟨ca,Go,cd⟩:=tr
 have b0:=cd.b3 "self" "where" "cell" λ_ _ _ _ _ _ _ _ _=>rfl
 obtain ⟨ni,Gp,cf⟩:=tt
 have pb:=cf.b1 "self" λ_ _ _ _ _ _ _=>rfl
 obtain ⟨nk,fc,ch⟩:=tu
 have pg:=ch.b3 "self" "hand" "value_of" λ_ _ _ _ _ _ _ _ _=>rfl
 obtain ⟨nl,Gq,cp⟩:=tR
 have pl:=cp.b1 "self" λ_ _ _ _ _ _ _=>rfl
 obtain ⟨nm,ff,cs⟩:=tS
 have pn:=cs.b3 "self" "hand" "value_of" λ_ _ _ _ _ _ _ _ _=>rfl
 obtain ⟨nn,Gr,fn⟩:=ux
 have po:=fn.b4 "self" "where" "low" "high" λ_ _ _ _ _ _ _ _ _ _=>rfl
 obtain ⟨no,Gu,cv⟩:=v1
 have pr:=cv.b1 "self" λ_ _ _ _ _ _ _=>rfl
 obtain ⟨np,fp,cx⟩:=v2
 have pu:=cx.b3 "self" "hand" "value_of" λ_ _ _ _ _ _ _ _ _=>rfl
 obtain ⟨nr,Gv,cz⟩:=vA
 have pw:=cz.b1 "self" λ_ _ _ _ _ _ _=>rfl
 obtain ⟨ns,fr,cF⟩:=vB
 have px:=cF.b3 "self" "hand" "value_of" λ_ _ _ _ _ _ _ _ _=>rfl
 obtain ⟨nt,Gw,fv⟩:=w6
 have py:=fv.b4 "self" "where" "cell" "amount" λ_ _ _ _ _ _ _ _ _ _=>rfl
 obtain ⟨nv,Gx,d0⟩:=w7
 have qn:=d0.b1 "self" λ_ _ _ _ _ _ _=>rfl
 obtain ⟨nw,fx,d1⟩:=wa
 have qs:=d1.b3 "self" "hand" "value_of" λ_ _ _ _ _ _ _ _ _=>rfl
 obtain ⟨nx,Gy,fy⟩:=ws
 have qx:=fy.b2 "self" "amount" λ_ _ _ _ _ _ _ _=>rfl
 obtain ⟨fA,Gz,Y⟩:=wt
 have g2:=Y.b1 "self" λ_ _ _ _ _ _ _=>rfl
 obtain ⟨nz,fB,d2⟩:=x0
 have r0:=d2.b3 "self" "hand" "value_of" λ_ _ _ _ _ _ _ _ _=>rfl
 obtain ⟨nA,GA,fC⟩:=x6
 have r1:=fC.b2 "self" "amount" λ_ _ _ _ _ _ _ _=>rfl
 obtain ⟨nF,fG,d3⟩:=x7
 have r2:=d3.b3 "self" "hand" "value_of" λ_ _ _ _ _ _ _ _ _=>rfl
 have W:TxW K (wmk WA WB WD WE WF WG WN):=⟨λk=>match k with | .take=>es.c | .mean=>et.c | .sum=>eu.c | .give=>ev.c | .add=>ew.c | .plus=>ey.c | .need=>ez.c,λk=>match k with | .take=>th | .mean=>tv | .sum=>u4 | .give=>v3 | .add=>w0 | .plus=>we | .need=>x1,λk=>match k with | .take=>ti | .mean=>tx | .sum=>ui | .give=>v4 | .add=>w1 | .plus=>wh | .need=>x2,λk=>match k with | .take=>tk | .mean=>ty | .sum=>uk | .give=>vl | .add=>w2 | .plus=>wi | .need=>x3,λk=>match k with | .take=>tn | .mean=>tA | .sum=>ur | .give=>vu | .add=>w3 | .plus=>wk | .need=>x4,λk=>match k with | .take=>to | .mean=>tP | .sum=>uv | .give=>vw | .add=>w4 | .plus=>wo | .need=>x5⟩
 obtain ⟨nG,GB,fI⟩:=xd
 have r3:=fI.b1 "self" λ_ _ _ _ _ _ _=>rfl
 obtain ⟨nT,GC,d4⟩:=xs
 have r4:=d4.b3 "self" "p" "lock" λ_ _ _ _ _ _ _ _ _=>rfl
 obtain ⟨nW,GD,d5⟩:=xN
 have r5:=d5.b2 "self" "place" λ_ _ _ _ _ _ _ _=>rfl
 obtain ⟨o0,GE,da⟩:=yv
 have r6:=da.b1 "self" λ_ _ _ _ _ _ _=>rfl
 obtain ⟨o1,GG,dc⟩:=z1
 have r7:=dc.b1 "self" λ_ _ _ _ _ _ _=>rfl
 obtain ⟨o2,GH,dg⟩:=z3
 have r9:=dg.b2 "self" "p" λ_ _ _ _ _ _ _ _=>rfl
 obtain ⟨o3,GJ,dk⟩:=zh
 have rb:=dk.b2 "self" "p" λ_ _ _ _ _ _ _ _=>rfl
 obtain ⟨o4,GL,dl⟩:=zs
 have rc:=dl.b1 "self" λ_ _ _ _ _ _ _=>rfl
 obtain ⟨o5,GN,dp⟩:=zz
 have rd:=dp.b1 "self" λ_ _ _ _ _ _ _=>rfl
 obtain ⟨o9,GO,fN⟩:=A4
 have re:=fN.b2 "self" "cells" λ_ _ _ _ _ _ _ _=>rfl
 obtain ⟨oa,GP,ds⟩:=At
 have ri:=ds.b2 "self" "row" λ_ _ _ _ _ _ _ _=>rfl
 obtain ⟨ob,GQ,dv⟩:=C0
 have rk:=dv.b2 "self" "row" λ_ _ _ _ _ _ _ _=>rfl
 obtain ⟨oe,GR,dx⟩:=C2
 have rl:=dx.b2 "self" "cell" λ_ _ _ _ _ _ _ _=>rfl
 obtain ⟨oi,GS,dy⟩:=C4
 have ro:=dy.b1 "self" λ_ _ _ _ _ _ _=>rfl
 obtain ⟨op,GT,dz⟩:=C6
 have rp:=dz.b1 "self" λ_ _ _ _ _ _ _=>rfl
 obtain ⟨or,GU,dA⟩:=C8
 have rr:=dA.b1 "self" λ_ _ _ _ _ _ _=>rfl
 obtain ⟨aS,GV,fP⟩:=Cv
 have bd:=fP.b2 "self" "stand" λ_ _ _ _ _ _ _ _=>rfl
 obtain ⟨os,GW,dB⟩:=Cy
 have rs:=dB.b2 "self" "row" λ_ _ _ _ _ _ _ _=>rfl
 obtain ⟨ov,GX,dC⟩:=CA
 have rt:=dC.b5 "self" "to" "word" "p" "more" λ_ _ _ _ _ _ _ _ _ _ _=>rfl
 obtain ⟨ow,GY,dG⟩:=CD
 have ru:=dG.b1 "self" λ_ _ _ _ _ _ _=>rfl
 obtain ⟨oA,GZ,dI⟩:=CG
 have rv:=dI.b1 "self" λ_ _ _ _ _ _ _=>rfl
 obtain ⟨oD,H0,fS⟩:=CJ
 have rx:=fS.b4 "self" "stand" "home" "many" λ_ _ _ _ _ _ _ _ _ _=>rfl
 obtain ⟨oL,H2,dK⟩:=CN
 have ry:=dK.b2 "self" "row" λ_ _ _ _ _ _ _ _=>rfl
 obtain ⟨oW,H3,dN⟩:=CP
 have rz:=dN.b6 "self" "sheet" "p" "i" "hand" "text" λ_ _ _ _ _ _ _ _ _ _ _ _=>rfl
 have g3:=wL (st:=aW) CU CW hx
 have s0:=g3.binds (ps:=["self","sheet","p","waited"]) λ_ _ _ _ _ _ us hl=>match us,hl with | [_,_,_,_],_=>rfl
 obtain ⟨p1,H4,dP⟩:=CX
 have s1:=dP.b3 "self" "p" "cell" λ_ _ _ _ _ _ _ _ _=>rfl
 obtain ⟨p2,H5,dS⟩:=D0
 have s2:=dS.b4 "self" "sheet" "p" "i" λ_ _ _ _ _ _ _ _ _ _=>rfl
 obtain ⟨p3,H6,dT⟩:=D2
 have s3:=dT.b1 "self" λ_ _ _ _ _ _ _=>rfl
 obtain ⟨p4,H7,dV⟩:=D4
 have s4:=dV.b2 "self" "p" λ_ _ _ _ _ _ _ _=>rfl
 obtain ⟨p5,H8,e1⟩:=D6
 have s5:=e1.b4 "self" "sheet" "p" "houses" λ_ _ _ _ _ _ _ _ _ _=>rfl
 obtain ⟨p6,H9,e2⟩:=D8
 have s6:=e2.b3 "self" "sheet" "p" λ_ _ _ _ _ _ _ _ _=>rfl
 obtain ⟨p7,Hc,e3⟩:=Da
 have s7:=e3.b1 "self" λ_ _ _ _ _ _ _=>rfl
 have L:TxL K (kmk CR I J) CL:=⟨n0.c,nP,λk=>match k with | .read=>mx ll n1 | .mean=>mx ln n1 | .change=>mx lr n1⟩
 have hH:∀k,kmk CR I J k≠CH:=λk=>match k with | .read=>mx ll n3 | .mean=>mx ln n3 | .change=>mx lr n3
 have n:Nq (kmk CR I J) C CH CL u:=⟨⟨mx eA C9,mx eA x8⟩,⟨mx eD Cu,mx eD x9⟩,λk=>⟨hH k,L.ne k⟩⟩
 have D:TxD K C:=⟨n2.c,Fg,Fh,Fj,Fk,Fl,Fm,Fn⟩
 have DH:TxH K CH:=⟨Q.c,Fo,Fp,Fq,Fr⟩
 have TV:TxV K u:=⟨n4.c,Fs,Fu,Fv,Fw,Fx,Fy,FA⟩
 obtain ⟨Hv,Hw,hM⟩:=FC
 have Dy:=hM.b1 "told" λ_ _ _ _ _ _ _=>rfl
 have Dz:mg "lock_of"=some (.ref k4):=mg_of X G FB
 obtain ⟨Hy,Hz,hP⟩:=FE
 have DA:=hP.b1 "thing" λ_ _ _ _ _ _ _=>rfl
 have DB:mg "is_whole"=some (.ref k5):=mg_of X G FD
 obtain ⟨HA,HB,hQ⟩:=FG
 have DC:=hQ.b1 "text" λ_ _ _ _ _ _ _=>rfl
 have DD:mg "read_thing"=some (.ref k6):=mg_of X G FF
 obtain ⟨HC,HD,hR⟩:=FI
 have DE:=hR.b1 "sign" λ_ _ _ _ _ _ _=>rfl
 have DF:mg "is_sign"=some (.ref kb):=mg_of X G FH
 obtain ⟨HE,HF,hS⟩:=FK
 have DG:=hS.b1 "text" λ_ _ _ _ _ _ _=>rfl
 have DI:mg "read_step"=some (.ref kc):=mg_of X G FJ
 obtain ⟨HH,HI,hY⟩:=FM
 have DJ:=hY.b2 "word" "letter" λ_ _ _ _ _ _ _ _=>rfl
 have DK:mg "read_number"=some (.ref kd):=mg_of X G FL
 obtain ⟨HJ,HL,i0⟩:=FO
 have DL:=i0.b2 "word" "numbers" λ_ _ _ _ _ _ _ _=>rfl
 have DM:mg "made_step"=some (.ref kk):=mg_of X G FN
 obtain ⟨HM,HN,i1⟩:=FQ
 have DN:=i1.b3 "where" "low" "high" λ_ _ _ _ _ _ _ _ _=>rfl
 have DO:mg "made_sum"=some (.ref ks):=mg_of X G FP
 obtain ⟨HP,HQ,i2⟩:=FS
 have DP:=i2.b2 "_law_script" "_law_k" λ_ _ _ _ _ _ _ _=>rfl
 have DQ:mg "_law_cell_at"=some (.ref kt):=mg_of X G FR
 obtain ⟨HR,HT,i3⟩:=FU
 have DR:=i3.b1 "_law_cell" λ_ _ _ _ _ _ _=>rfl
 have DS:mg "_law_number"=some (.ref kv):=mg_of X G FT
 obtain ⟨HU,HX,i4⟩:=FW
 have DT:=i4.b2 "_law_cell" "_law_many" λ_ _ _ _ _ _ _ _=>rfl
 have DU:mg "_law_step"=some (.ref kw):=mg_of X G FV
 obtain ⟨HY,HZ,i8⟩:=FY
 have DV:=i8.b1 "_law_text" λ_ _ _ _ _ _ _=>rfl
 have DW:mg "_law_lock"=some (.ref kG):=mg_of X G FX
 obtain ⟨I0,I1,ia⟩:=G1
 have DX:=ia.b2 "_law_one" "_law_other" λ_ _ _ _ _ _ _ _=>rfl
 have DY:mg "_law_covers"=some (.ref kP):=mg_of X G G0
 obtain ⟨I2,I3,ib⟩:=G3
 have DZ:=ib.b6 "_law_works" "_law_stand" "_law_p" "_law_texts" "_law_hand" "_law_first" λ_ _ _ _ _ _ _ _ _ _ _ _=>rfl
 have E1:mg "_law_worked"=some (.ref l2):=mg_of X G G2
 obtain ⟨I4,I5,ic⟩:=G5
 have E2:=ic.b5 "_law_works" "_law_stand" "_law_p" "_law_houses" "_law_rows" λ_ _ _ _ _ _ _ _ _ _ _=>rfl
 have E3:mg "_law_asked"=some (.ref l3):=mg_of X G G4
 obtain ⟨I6,I7,ih⟩:=G7
 have E4:=ih.b4 "_law_works" "_law_stand" "_law_p" "_law_text" λ_ _ _ _ _ _ _ _ _ _=>rfl
 have E5:mg "_law_quiet"=some (.ref l4):=mg_of X G G6
 obtain ⟨I8,I9,is⟩:=G9
 have E6:=is.b6 "_law_works" "_law_stand" "_law_p" "_law_first" "_law_draft" "_law_outcome" λ_ _ _ _ _ _ _ _ _ _ _ _=>rfl
 have E7:mg "_law_ended"=some (.ref l5):=mg_of X G G8
 obtain ⟨jZ,dZ,FZ⟩:=lZ
 have B:TxB mg:=⟨mg_none_of X G j,mg_none_of X G eH,mg_none_of X G c0,mg_none_of X G eI,mg_none_of X G eP,mg_none_of X G a0,mg_none_of X G eS,mg_none_of X G f5,mg_none_of X G n5,mg_none_of X G eW,mg_none_of X G n6,mg_none_of X G c3⟩
 have RR:TxR K mg:=⟨⟨f4,mg_of X G Gf,uH Gg Gh Gi⟩⟩
 have TT:K52T.Tx K mg i:=⟨er.c,EQ,ER,mg_of X G EO,mg_none_of X G j,mg_none_of X G eH,mg_none_of X G c0,mg_none_of X G eI,mg_none_of X G eP,mg_none_of X G n8,mg_none_of X G eW,mg_none_of X G a0,⟨_,mg_of X G d⟩,⟨_,mg_of X G H⟩,⟨_,mg_of X G U⟩,⟨_,mg_of X G av⟩,⟨_,mg_of X G f0⟩,⟨_,mg_of X G aR⟩,⟨_,mg_of X G f1⟩⟩
 refine ⟨dZ,cc,Pt,(by obtain ⟨oc,od,kV,Ib,pm,an,Ic,ct,Id,rfl,lk,Ie⟩:=FZ.ex;exact λs v=>.of_eq rfl),hC,hT,hN,λbase _ hB=>?_⟩
 have GK:∀k,GM l.prog w K mg base CX0 1 (kmk CR I J k) "kind" ["self"] (iw k):=λk=>match k with | .read=>⟨it,_,BM hy,Dp,⟨ll,Dd,hy.kp⟩⟩ | .mean=>⟨iv,_,BN hz,Dq,⟨ln,De,hz.kp⟩⟩ | .change=>⟨iy,_,BO hA,Dr,⟨lr,Df,hA.kp⟩⟩
 have Mk:∀k,Mk K (kmk CR I J k) fi:=λk=>match k with | .read=>⟨lh.m,EI,ji,lh.k⟩ | .mean=>⟨lm.m,EJ,ji,lm.k⟩ | .change=>⟨lp.m,EK,ji,lp.k⟩
 have Gt:∀k,GM l.prog w K mg base CX0 2 (kmk CR I J k) "told" ["self"] (fF (kmk CR I J)):=λk=>match k with | .read=>⟨ft,_,oO Ft T GK,bt,⟨EL,jt,Ft.kp⟩⟩ | .mean=>⟨ft,_,oO Ft T GK,bt,⟨EM,jt,Ft.kp⟩⟩ | .change=>⟨ft,_,oO Ft T GK,bt,⟨EN,jt,Ft.kp⟩⟩
 have GI:=v5 (P:=l.prog) (w:=w) (mg:=mg) (base:=base) Fi T
 have f2:=wn (P:=l.prog) (w:=w) (mg:=mg) (base:=base) cd W
 have WI:∀q,WI l.prog w K mg base (wmk WA WB WD WE WF WG WN) q:=λq=>match q with | .take=>⟨o,_,_,⟨es.m,lx,ca,es.k⟩,(f2.imp λ_ _ _ _ z=>oZ rfl z).mono ζ,b0,mg_of X G F4⟩ | .mean=>⟨o,_,_,⟨et.m,lI,ca,et.k⟩,(f2.imp λ_ _ _ _ z=>oZ rfl z).mono ζ,b0,mg_of X G F5⟩ | .sum=>⟨ec,_,_,⟨eu.m,mb,nn,eu.k⟩,(vP fn W).mono ζ,po,mg_of X G F6⟩ | .give=>⟨o,_,_,⟨ev.m,mk,ca,ev.k⟩,(f2.imp λ_ _ _ _ z=>oZ rfl z).mono ζ,b0,mg_of X G F7⟩ | .add=>⟨eh,_,_,⟨ew.m,mp,nt,ew.k⟩,ww fv W (mg_of X G Fb) ⟨Fc,Fd,Fe,Ff,cd.kp⟩ f2 b0,py,mg_of X G F8⟩ | .plus=>⟨ej,_,_,⟨ey.m,mB,nx,ey.k⟩,(vV fy W).mono ζ,qx,mg_of X G F9⟩ | .need=>⟨ek,_,_,⟨ez.m,mP,nA,ez.k⟩,(vW fC W).mono ζ,r1,mg_of X G Fa⟩
 have s8:∀k,GM l.prog w K mg base CX0 2 ((kmk CR I J) k) "covers" ["self","other"] (iK (kmk CR I J)):=λk=>match k with | .read=>⟨y,_,jC x T RR GK,e4,⟨lu,c5,x.kp⟩⟩ | .mean=>⟨y,_,jC x T RR GK,e4,⟨lv,c5,x.kp⟩⟩ | .change=>⟨y,_,jC x T RR GK,e4,⟨lw,c5,x.kp⟩⟩
 have Hi:=K52T.yC (P:=l.prog) (w:=w) (mg:=mg) (base:=base) nh TT
 have Hp:=K52T.yt (P:=l.prog) (w:=w) (mg:=mg) (base:=base) hF TT
 have Hn:=K52T.Aq (P:=l.prog) (w:=w) (mg:=mg) (base:=base) hK TT
 have Hx:=K52T.vQ (P:=l.prog) (w:=w) (mg:=mg) (base:=base) hL TT
 have s9:gH K i "read_number" k2:=⟨F0,Dm,hK.kp⟩
 have E9:gH K i "passes" iW:=⟨EU,Dj,hF.kp⟩
 have Ea:gH K i "read_below" k1:=⟨EY,Dl,hI.kp⟩
 have Eb:gH K i "read_signs" k3:=⟨F2,Do,hL.kp⟩
 have Ec:gH K i "read_any" k0:=⟨EW,Dk,hG.kp⟩
 have Hb:=K52T.wu hI TT Hn pa s9
 have Ha:=K52T.AB hG TT Hp Du E9 Hb Dw Ea Hn pa s9 Hx Dx Eb
 have HG:=K52T.yp (P:=l.prog) (w:=w) (mg:=mg) (base:=base) hR TT
 have HW:=K52T.vK (P:=l.prog) (w:=w) (mg:=mg) (base:=base) hP TT
 have r:=@gmk l.prog w K mg base
 have gg:=@gfk l.prog w K mg base
 have Ed:=gg hP.kp DB DA (HW)
 have Ee:=gg hQ.kp DD DC (K52T.yr hQ TT ⟨er.m,ES,Di,er.k⟩ HG DE hR.kp DF Hi Dt Ha Dv Ec)
 have Ef:=gg i1.kp DO DN (yw i1 (WI .sum))
 have Eg:=gg i0.kp DM DL (vX i0 WI Ef)
 have Eh:=gg hY.kp DK DJ (yq hY B (mg_of X G Gj) Gk θ ⟨_,mg_of X G g⟩ Ee Ed)
 have sc:=gg hS.kp DI DG (vR hS B (mg_of X G Ga) (uH Gb Gc Ge) Eh Eg)
 have si:=gg hM.kp Dz Dy (tM hM T c2 Mk GI bi)
 have Gl:∀q,GM l.prog w K mg base CX0 3 ((wmk WA WB WD WE WF WG WN) q) "lock" ["self"] (dO (wmk WA WB WD WE WF WG WN) K q):=λq=>match q with | .take=>⟨ea,_,vY cf W T c2 Mk GI bi Gt,pb,⟨ly,ni,cf.kp⟩⟩ | .mean=>⟨eb,_,v0 cp W T c2 Mk GI bi Gt,pl,⟨lS,nl,cp.kp⟩⟩ | .sum=>⟨ed,_,yx cv W T c2 Mk GI bi Gt,pr,⟨mc,no,cv.kp⟩⟩ | .give=>⟨ee,_,v6 cz W T c2 Mk GI bi Gt,pw,⟨mm,nr,cz.kp⟩⟩ | .add=>⟨ei,_,yA d0 W T c2 Mk GI bi Gt,qn,⟨mu,nv,d0.kp⟩⟩ | .plus=>⟨Z,_,(pR (.inl rfl) Y).mono ζ,g2,⟨mG,fA,Y.kp⟩⟩ | .need=>⟨Z,_,(pR (.inr rfl) Y).mono ζ,g2,⟨mR,fA,Y.kp⟩⟩
 have Ei:=tL (P:=l.prog) (w:=w) (mg:=mg) (base:=base) fI L
 have bg:=r xv nW d5.kp r5 (yF d5 B L)
 have g4:=r z0 o1 dc.kp r7 (vM dc B L bg)
 have sl:=r ys o0 da.kp r6 (qP da L g4)
 have sm:=r z2 o2 dg.kp r9 (tJ dg B L bg)
 have g5:=r xe nT d4.kp r4 (AA d4 B T L s8 bg sm)
 have sn:=r z4 o3 dk.kp rb (yH dk L g4)
 have sp:=r zu o5 dp.kp rd (wb dp B L bg)
 have sv:=r zl o4 dl.kp rc (yG dl T L sp Gt)
 have Ej:=tK (P:=l.prog) (w:=w) (mg:=mg) (base:=base) (CH:=CH) (CL:=CL) fN B D
 have f3:=v9 (P:=l.prog) (w:=w) (mg:=mg) (base:=base) (CL:=CL) fP DH
 have sx:=r BT ob dv.kp rk (Az dv D)
 have t0:=r eA oa ds.kp ri (yB ds D n.s sx)
 have g6:=r C3 oi dy.kp ro (wq dy B D)
 have g7:=r C5 op dz.kp rp (yu dz B D)
 have g8:=r C7 or dA.kp rr (wr dA D)
 have e6:=r Cw os dB.kp rs (yD dB D DH n.s t0 g7)
 have g9:=r Cz ov dC.kp rt (v7 (CL:=CL) dC DH)
 have e7:=r CB ow dG.kp ru (v8 dG B DH)
 have e8:=r CF oA dI.kp rv (yE dI D DH g7)
 have Ek:∀Bh:Heap,GM l.prog w K mg Bh CX0 1 C "cell_at" ["self","cell"] (iL C):=λBh=>⟨el,_,tO dx D,rl,⟨C1,oe,dx.kp⟩⟩
 have HV:∀Bh:Heap,K.In Bh->GM l.prog w K mg Bh CX0 2 u "value_at" ["self","p","cell"] (iH C u):=λBh _=>⟨em,_,vO dP D TV (Ek Bh),s1,⟨eD,p1,dP.kp⟩⟩
 have HS:∀(q:Wd) (val:Int->Int) (n:Nat) (Bh:Heap),n<=1000->K.In Bh->FnOk l.prog w K mg Bh CX0 5 ((wmk bl bm bA bB bC bG bI) q) ((λq:Wd=>match q with | .take=>fc | .mean=>ff | .sum=>fp | .give=>fr | .add=>fx | .plus=>fB | .need=>fG) q) ["self","hand","value_of"] (eR l.prog w K mg (wmk WA WB WD WE WF WG WN) val n q Bh):=λq val n Bh hn _=>match q with | .take=>wg (.inl rfl) ch gy rfl rfl W | .mean=>wg (.inr rfl) cs gD rfl rfl W | .sum=>yI cx W B (mg_none_of X G n7) hn | .give=>wm cF W | .add=>yJ d1 W | .plus=>wj d2 | .need=>wl d3
 have mS:∀q,gH K ((wmk WA WB WD WE WF WG WN) q) "step_done" ((wmk bl bm bA bB bC bG bI) q):=λq=>match q with | .take=>⟨lz,nk,ch.kp⟩ | .mean=>⟨ma,nm,cs.kp⟩ | .sum=>⟨me,np,cx.kp⟩ | .give=>⟨mn,ns,cF.kp⟩ | .add=>⟨mA,nw,d1.kp⟩ | .plus=>⟨mN,nz,d2.kp⟩ | .need=>⟨mX,nF,d3.kp⟩
 have bS:∀q,Binds K ((λq:Wd=>match q with | .take=>fc | .mean=>ff | .sum=>fp | .give=>fr | .add=>fx | .plus=>fB | .need=>fG) q) ["self","hand","value_of"] []:=λq=>match q with | .take=>pg | .mean=>pn | .sum=>pu | .give=>px | .add=>qs | .plus=>r0 | .need=>r2
 have t1:=r CK oL dK.kp ry (yo dK (mg_none_of X G c1) TV L n g5 si)
 have El:=vN fS D TV n ⟨n0.m,xb,nG,n0.k⟩ (mg_of X G nL) Ei r3 g8 t1
 have ga:=r D3 p4 dV.kp s4 (Ax dV D TV g8)
 have t2:=r CZ p2 dS.kp s2 (Ay dS DH TV n g9)
 have gd:=r D1 p3 dT.kp s3 (vJ dT TV L sl)
 have e9:=r D9 p7 e3.kp s7 (vL e3 TV L sv)
 have t3:=r CQ CT hx s0 (tN (cc:=cc) g3 (mg_none_of X G c1) W TV DH n hB hcc hC sc HV HS mS bS e6 t2)
 have ge:=r CO oW dN.kp rz (yn dN W TV L n ga g5 si sc Gl t3)
 have t4:=r D5 p5 e1.kp s5 (vS e1 B TV DH n ga e9 e6 g9)
 have t5:=r D7 p6 e2.kp s6 (wc e2 TV L n sn)
 have Em:=gg i2.kp DQ DP (yK i2 B)
 have t6:=gg i3.kp DS DR (yy i3)
 have En:=gg i4.kp DU DT (vZ i4 B t6)
 have Eo:=gg i8.kp DW DV (Au i8 B)
 have Ep:=gg ia.kp DY DX (qQ ia B)
 have Eq:=gg ib.kp E1 DZ (As ib B TV n ⟨Q.m,bP,aS,Q.k⟩ (mg_of X G nH) f3 bd ge Eo Ep)
 have Er:=gg ic.kp E3 E2 (wv ic D TV DH n ⟨Q.m,bP,aS,Q.k⟩ (mg_of X G nH) f3 bd t4 e7 e8)
 have Es:=gg ih.kp E5 E4 (vU ih TV DH n ⟨Q.m,bP,aS,Q.k⟩ (mg_of X G nH) f3 bd ge e7 e8)
 have Et:=gg is.kp E7 E6 (yz is B D TV DH n ⟨Q.m,bP,aS,Q.k⟩ (mg_of X G nH) f3 bd e6 t5 e7 e8 g6 e9 gd)
 exact Av FZ B D TV n ⟨n2.m,A0,o9,n2.k⟩ (mg_of X G nS) Ej re ⟨n4.m,CI,oD,n4.k⟩ (mg_of X G nV) El rx Em t6 En Eq Er Es Et e9 gd g6
theorem walk{l:PySem.W.OpenLaw}{q:Program}{loose:List Str}{XP:(Str->Option Value)->Heap->Prop}{YP:World->Heap->Prop}{d:DefRec}{K:Params->Frag}(hn:l.most=some 63)(hdf:d.params.defaults=[])
  (hY:∀(w:World) (h:Heap),YP w h->(K w.params).In h)
  (F:∀(w:World) (mg:Str->Option Value) (fa:Addr) (h:Heap),YP w h->(K w.params).In h->h.Ns mainGlobals mg->mg d.name=some (.ref fa) ->
   ∃(fd:FuncData) (cc Pt:Addr),(∀(s:Shared) (u:Value),BindsTo s fd ⟨[u],[]⟩ [("_law_script",u)])/\PySem.W.codeHdIn (K w.params) cc Pt=true/\h.get? Pt=some (PySem.W.tabObj #[])/\PySem.W.noTabs (K w.params)=true /\
    ∀base:Heap,(K w.params).In base->BB mg base->FnOk l.prog w (K w.params) mg base CX0 10 fa fd ["_law_script"] (kS (K w.params) Pt)) :
  PySem.W.WalkO q loose XP YP l.row.toRowW d [] (λf vs=>PySem.call f vs) :=
 L2.uq (n:=63) (k:=10) (x:="_law_script") (sp:=λw Pt=>kS (K w.params) Pt) hn ζ hdf ⟨ϱ,ζ,ζ⟩ hY F λw Pt H a ns hl hS hP=>⟨a,ns,ϱ,hS,hl,hP,λ_=>rfl⟩
end K52
open PySem PySem.W PyProof.Rows
set_option maxRecDepth 100000 in
set_option maxHeartbeats 0 in
theorem PySem.Challenge.cw_pactroom_k52_ready_and_up_again_holds : PySem.Challenge.rw_pactroom_k52_ready_and_up_again.Holds := by
 w_on;o_law
 refine holds_open (q:=Q.qv) (loose:=Q.lo) (Xt:=Q.Xt) (XP:=XL Q.qv Q.lvv) (Yf:=Hook.obs (kmHook Q.Kf Q.Ka Q.ke [771])) (Ya:=Hook.val (kmHook Q.Kf Q.Ka Q.ke [771])) (YP:=Hook.says (kmHook Q.Kf Q.Ka Q.ke [771])) (N:=17524) Q.left (Hook.of (kmHook Q.Kf Q.Ka Q.ke [771])) (Hook.keeps (kmHook Q.Kf Q.Ka Q.ke [771])) (λs e=>xl_of s (Bool.and_eq_true_iff.mp e).1) XL.keeps (by rfl) (by rfl) (by rfl) (λs e=>recFacts_of (Bool.and_eq_true_iff.mp e).2) (by rfl) (by first | assumption | decide +kernel) (by decide +kernel) ⟨rfl,rfl,rfl,rfl,rfl,by decide +kernel⟩ ?hw ?hc
 (case hw=>w_witness2)
 k_fill
 refine K52.walk (l:=PySem.Challenge.rw_pactroom_k52_ready_and_up_again) rfl rfl (λw h Y=>PySem.W.km_in_of Y) ?F
 case F =>
  intro w f g h Y d G b
  apply K52.all_mk d G b
  all_goals first | (delta K52.XF;k_is) | (delta K52.X0;k_is) | (delta K52.XN;k_is) | (delta K52.Xn;k_is) | exact ⟨⟨by k_is,by k_is,by k_is,by k_is⟩,by k_is,by k_is⟩ | (case hcc=>exact rfl) | (case hPt=>exact rfl) | (case hT=>exact PySem.W.km_tabs_of Y _ (by k_mem)) | k_is | exact K52.fnx (by k_is) (by k_is) (by k_is) (by k_is) | kit_is | k_exc | kernel_rfl | skip
