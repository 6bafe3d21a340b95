import PyProof.Rows.All
import Wide.All
import OpenK.AllK
import Wide.FinOn
import Lean
import PyProof.EqAt
import PyProof.EqKinds
import PyProof.TupleCall
import KE.KNestM
import KE.KLam
import KE.KMinKey
import KE.KRevSl
import KE.KRevIter
import KE.KDictList
import KE.KDictOf
import PyProof.DictUpdate
import PyProof.AttrMissHeap
import PyProof.DictRoadsH
import PyProof.MeetsDict
import PySem.Challenge.RW_pactroom_k53_walked_once
set_option Elab.async false
set_option linter.all false
set_option genSizeOf false
set_option maxHeartbeats 4000000
set_option maxRecDepth 100000
abbrev ν:=@List.length_map
abbrev ϕ:=@List.mem_cons
abbrev ϵ:=@List.mem_singleton
abbrev ϑ:=@List.mem_map
abbrev ϖ:=@Nat.zero_le
abbrev ϰ:=@True.intro
theorem ϱ.{u}{α:Sort u}{a:α}:a=a:=rfl
theorem θ{p:Prop}(h:p:=by decide +kernel):p:=h
theorem ζ{p:Prop}(h:p:=by decide):p:=h
theorem ω{p:Prop}(h:p:=by omega):p:=h
theorem χ{a b:Nat}(h:a.ble b=true:=by rfl):a<=b:=Nat.le_of_ble_eq_true h
abbrev ε:=@PySem.wpAny_bind
abbrev π:=@PySem.wpAny_pure
abbrev ρ:=@PySem.Heap.get?_push_of_some
abbrev ξ:=@List.getElem?_eq_getElem
abbrev τ:=@decide_eq_true
abbrev υ:=@Nat.le_succ_of_le
abbrev ι:=@Nat.le_refl
abbrev η:=@PySem.Heap.lt_size
abbrev ψ:=@PySem.Heap.get?_push_size
abbrev Γ:=@decide_eq_false
abbrev Δ:=@Option.some.inj
abbrev Θ:=@List.mem_cons_of_mem
abbrev Λ:=@Nat.le_trans
abbrev Ξ:=@of_decide_eq_true
abbrev Φ:=@Nat.ne_of_lt
abbrev Ψ:=@List.mem_append_right
abbrev Ω:=@List.mem_cons_self
open PySem.W (Frag)
namespace L2
open PySem PySem.Spec PyProof.Rows
abbrev Key:=Sum Int Str
def mQ:Key->Value->Bool
 | .inl k,v=>Value.isInt k v
 | .inr x,v=>Value.isStrOf x v
def DL(w:World):Key->Int
 | .inl k=>hashInt k
 | .inr x=>hashStr w x
theorem bD:∀{k:Key} {v:Value},mQ k v=true->(∃i t,k=Sum.inl i/\v=Value.int i t)\/(∃x t,k=Sum.inr x/\v=Value.str x t)
 | .inl i,v,h=>by
  obtain ⟨t,e⟩:=Value.isInt_shape (k:=i) (v:=v) h
  exact .inl ⟨i,t,ϱ,e⟩
 | .inr x,v,h=>by
  obtain ⟨t,e⟩:=Value.isStrOf_shape (x:=x) (v:=v) h
  exact .inr ⟨x,t,ϱ,e⟩
theorem va(i:Int)(t:Tok):mQ (.inl i) (.int i t)=true:=by simp [mQ,Value.isInt]
theorem u9(x:Str)(t:Tok):mQ (.inr x) (.str x t)=true:=by simp [mQ,Value.isStrOf]
theorem BR(a b:Int):decide ((Sum.inl a:Key)=Sum.inl b)=(a==b):=by
 by_cases e:a=b
 ·subst e;simp
 ·have h:¬(Sum.inl a:Key)=Sum.inl b:=λq=>e (Sum.inl.inj q)
  rw [Γ h]
  exact (beq_eq_false_iff_ne.mpr e).symm
theorem BO(a b:Str):decide ((Sum.inr a:Key)=Sum.inr b)=decide (a=b):=by
 by_cases e:a=b
 ·subst e;simp
 ·have h:¬(Sum.inr a:Key)=Sum.inr b:=λq=>e (Sum.inr.inj q)
  rw [Γ h,Γ e]
theorem BQ(a:Int)(b:Str):decide ((Sum.inl a:Key)=Sum.inr b)=false:=Γ (λq=>nomatch q)
theorem BP(a:Str)(b:Int):decide ((Sum.inr a:Key)=Sum.inl b)=false:=Γ (λq=>nomatch q)
def aM(prog:Program)(w:World):PySem.KeyKind prog w Key where
 is:=mQ
 hash:=DL w
 inj:=λv a b ha hb=>by
  rcases bD ha with ⟨i,t,rfl,rfl⟩ | ⟨x,t,rfl,rfl⟩
  ·rcases bD hb with ⟨j,u,rfl,e⟩ | ⟨y,u,rfl,e⟩
   ·injection e with e1 _;rw [e1]
   ·exact nomatch e
  ·rcases bD hb with ⟨j,u,rfl,e⟩ | ⟨y,u,rfl,e⟩
   ·exact nomatch e
   ·injection e with e1 _;rw [e1]
 byValue:=λk v h=>by
  rcases bD h with ⟨i,t,rfl,rfl⟩ | ⟨x,t,rfl,rfl⟩<;>rfl
 pyHash:=λhv h=>by
  rcases bD hv with ⟨i,t,rfl,rfl⟩ | ⟨x,t,rfl,rfl⟩
  ·exact wpAny_pyHash_int h
  ·exact wpAny_pyHash_str h
 eqBool:=λhu hv h=>by
  rcases bD hu with ⟨i,t,rfl,rfl⟩ | ⟨x,t,rfl,rfl⟩
  ·rcases bD hv with ⟨j,u,rfl,rfl⟩ | ⟨y,u,rfl,rfl⟩
   ·rw [BR] at h;exact wpAny_eqBool_int h
   ·rw [BQ] at h;exact SeqAt.EqAt.int_str i t y u _ _ _ _ h
  ·rcases bD hv with ⟨j,u,rfl,rfl⟩ | ⟨y,u,rfl,rfl⟩
   ·rw [BP] at h;exact SeqAt.EqAt.str_int x t j u _ _ _ _ h
   ·rw [BO] at h;exact wpAny_eqBool_str h
 «strs» := fun k x t v h => by
  rcases bD h with ⟨i,u,rfl,e⟩ | ⟨y,u,rfl,e⟩
  ·exact nomatch e
  ·injection e with e1 _
   subst e1
   cases v<;>rfl
theorem qH(prog:Program)(w:World)(i:Int)(t:Tok):(aM prog w).is (.inl i) (.int i t)=true:=va i t
theorem qG(prog:Program)(w:World)(x:Str)(t:Tok):(aM prog w).is (.inr x) (.str x t)=true:=u9 x t
inductive V where
 | non | bl (b:Bool) | int (i:Int) | str (x:Str) | byt (b:Array UInt8) | flt (b:UInt64) | ref (a:Addr) | ty (n:String)
 deriving DecidableEq
def RelV:V->Value->Prop
 | .non,u=>u=Value.none
 | .bl b,u=>u=Value.bool b
 | .int i,u=>∃t,u=Value.int i t
 | .str x,u=>∃t,u=Value.str x t
 | .byt b,u=>∃t,u=Value.bytes b t
 | .flt b,u=>∃t,u=Value.float b t
 | .ref a,u=>u=Value.ref a
 | .ty n,u=>u=Value.type n
abbrev Vals:List V->List Value->Prop:=Paired RelV
theorem Vals.length{xs:List V}{us:List Value}(r:Vals xs us):xs.length=us.length:=Paired.length r
theorem Vals.get:∀{xs:List V} {us:List Value} {i:Nat} {x:V},Vals xs us->xs[i]?=some x->∃u,us[i]?=some u/\RelV x u
 | _,_,_,_,.nil,e=>by simp at e
 | _,_,0,_,.cons r _,e=>by simp at e;subst e;exact ⟨_,rfl,r⟩
 | _,_,i+1,x,.cons _ t,e=>by
  obtain ⟨u,h1,h2⟩:=Vals.get (i:=i) (x:=x) t (by simpa using e)
  exact ⟨u,by simpa using h1,h2⟩
theorem Vals.set{x:V}{u:Value}(r:RelV x u):∀{xs:List V} {us:List Value} (i:Nat),Vals xs us->Vals (xs.set i x) (us.set i u)
 | _,_,_,.nil=>.nil
 | _,_,0,.cons _ t=>.cons r t
 | _,_,i+1,.cons q t=>.cons q (Vals.set r i t)
theorem Vals.append:∀{xs ys:List V} {us ws:List Value},Vals xs us->Vals ys ws->Vals (xs++ys) (us++ws)
 | _,_,_,_,.nil,s=>s
 | _,_,_,_,.cons r t,s=>.cons r (Vals.append t s)
theorem Vals.take:∀{xs:List V} {us:List Value} (n:Nat),Vals xs us->Vals (xs.take n) (us.take n)
 | _,_,0,_=>.nil
 | _,_,_+1,.nil=>.nil
 | _,_,n+1,.cons r t=>.cons r (Vals.take n t)
theorem Vals.drop:∀{xs:List V} {us:List Value} (n:Nat),Vals xs us->Vals (xs.drop n) (us.drop n)
 | _,_,0,r=>r
 | _,_,_+1,.nil=>.nil
 | _,_,n+1,.cons _ t=>Vals.drop n t
def RelO:Option V->Option Value->Prop
 | some v,some u=>RelV v u
 | none,none=>True
 | _,_=>False
def KV{κ:Type}:List (κ×V)->List (κ×Value)->Prop:=Paired λ(p:κ×V) (q:κ×Value)=>p.1=q.1/\RelV p.2 q.2
def kV:Key->V
 | .inl i=>.int i
 | .inr x=>.str x
inductive HO where
 | lst (xs:List V)
 | tup (xs:List V)
 | dK (kvs:List (Key×V)) | dT (kvs:List (List Key×V))
 | set (S:Int->Bool) (n:Nat)
 | ins (C dx:Addr) (fs:List (Str×V))
 | own (x:Addr)
 | xd (fs:List (Str×V))
 | met (f x:Addr)
 | rng (lo hi:Int)
 | frz (o:Obj) (u:HO)
 | tbl (ps:Array Value)
 | ext (φ:Heap->Prop)
abbrev Hp:=Addr->Option HO
def upd(H:Hp)(a:Addr)(o:HO):Hp:=λb=>if b=a then some o else H b
theorem ae{H:Hp}{a:Addr}{o:HO}:upd H a o a=some o:=by unfold upd;rw [if_pos rfl]
theorem ao{H:Hp}{a b:Addr}{o:HO}(h:b≠a):upd H a o b=H b:=by unfold upd;rw [if_neg h]
theorem iG{H:Hp}{a b:Addr}{o u:HO}(h:H a=some o)(h':H b=some u)(d:o≠u):a≠b:=by
 intro e;subst e;rw [h] at h';exact d (Δ h')
theorem ap{H:Hp}{a b:Addr}{o:HO}(h:H a=some o)(h':H b=none):a≠b:=by
 intro e;subst e;rw [h] at h';cases h'
section
variable (P:Program)(w:World)
def ObjOk(H:Hp)(h:Heap)(a:Addr):HO->Prop
 | .lst xs=>xs.length<=sizeLine/\∃(its:List Value) (n:Nat),Vals xs its/\h.get? a=some {cls:=.type "list",data:=.seq its.toArray n}
 | .tup xs=>xs.length<=sizeLine/\∃its:List Value,Vals xs its/\IsTup h a its.toArray
 | .dK kvs=>kvs.length<=sizeLine/\(a==sysModules)=false/\∃vs,KV kvs vs/\h.DictOf (aM P w) a vs
 | .dT kvs=>kvs.length<=sizeLine/\(a==sysModules)=false/\∃xs:List (List Key×Addr×Value),
   Paired (λ(p:List Key×V) (q:List Key×Addr×Value)=>p.1=q.1/\H q.2.1=some (.tup (p.1.map kV))/\RelV p.2 q.2.2) kvs xs /\
   ∃o es ep,h.get? a=some o/\o.ExactDict/\o.data=.dict es ep/\es.toList=xs.map (entryOfKey (tupleKind (aM P w)))/\(xs.map (·.1)).Nodup
 | .set S n=>h.SetOf (intKind P w) a S n
 | .ins C dx fs=>H dx=some (.own a)/\fs.length<=1000/\dx≠a/\h.get? a=some (PySem.W.instObj C dx) /\
   ∃mA,h.Ns1 dx mA/\(∀f,RelO (fs.lookup f) (mA f))/\PySem.Within mA (fs.map (·.1))
 | .own _=>∃o,h.get? a=some o
 | .xd fs=>∃mA,h.Ns1 a mA/\∀f,RelO (fs.lookup f) (mA f)
 | .rng lo hi=>∃t u v,h.get? a=some {cls:=.type "range",data:=.fields #[.int lo t,.int hi u,.int 1 v]}
 | .frz o u=>h.get? a=some o/\ObjOk H h a u
 | .tbl ps=>h.get? a=some {cls:=.none,data:=.fields ps}
 | .met f x=>h.get? a=some (PySem.W.methodObj (.ref f) (.ref x))
 | .ext φ=>φ h/\(∃o,h.get? a=some o)/\∀h1 h2:Heap,φ h1->(∀o,h1.get? a=some o->h2.get? a=some o)->φ h2
def HOk(H:Hp)(h:Heap):Prop:=∀a o,H a=some o->ObjOk P w H h a o
end
section
variable {P:Program}{w:World}{H H':Hp}{h h':Heap}{a:Addr}{o:HO}
theorem ObjOk.lt(x:ObjOk P w H h a o):a<h.objs.size:=by
 cases o with
 | lst xs=>obtain ⟨_,_,_,_,e⟩:=x;exact η e
 | tup xs=>obtain ⟨_,_,_,p⟩:=x;exact p.lt
 | dK kvs=>obtain ⟨_,_,_,_,o,_,_,e,_⟩:=x;exact η e
 | dT kvs=>obtain ⟨_,_,_,_,o,_,_,e,_⟩:=x;exact η e
 | set S n=>obtain ⟨o,_,_,_,e,_⟩:=x;exact η e
 | ins C dx fs=>obtain ⟨_,_,_,e,_⟩:=x;exact η e
 | own y=>obtain ⟨_,e⟩:=x;exact η e
 | xd fs=>obtain ⟨_,⟨_,_,_,e,_⟩,_⟩:=x;exact η e
 | rng lo hi=>obtain ⟨_,_,_,e⟩:=x;exact η e
 | frz ob u=>obtain ⟨e,_⟩:=x;exact η e
 | tbl ps=>exact η (show h.get? a=some _ from x)
 | met f y=>exact η (show h.get? a=some _ from x)
 | ext φ=>obtain ⟨_,⟨_,e⟩,_⟩:=x;exact η e
theorem Paired.mapP{α β:Type}{F G:α->β->Prop}:∀{l₁:List α} {l₂:List β},Paired F l₁ l₂->(∀a b,F a b->G a b)->Paired G l₁ l₂
 | _,_,.nil,_=>.nil
 | _,_,.cons r t,f=>.cons (f _ _ r) (Paired.mapP t f)
theorem ObjOk.stay(x:ObjOk P w H h a o)(k:∀b u,(b=a\/H b=some (.own a))->h.get? b=some u->h'.get? b=some u)
  (G:∀b,H b=some (.own a)->H' b=some (.own a))(I:∀b xs,H b=some (.tup xs)->H' b=some (.tup xs)):ObjOk P w H' h' a o:=by
 induction o with
 | lst xs=>obtain ⟨z,j,n,r,e⟩:=x;exact ⟨z,j,n,r,k _ _ (.inl rfl) e⟩
 | tup xs=>obtain ⟨z,j,r,g,e,c⟩:=x;exact ⟨z,j,r,g,k _ _ (.inl rfl) e,c⟩
 | dK kvs=>obtain ⟨z,y,vs,r,g,es,i,e,c⟩:=x;exact ⟨z,y,vs,r,g,es,i,k _ _ (.inl rfl) e,c⟩
 | dT kvs =>
  obtain ⟨z,y,xs,r,g,es,i,e,c⟩:=x
  exact ⟨z,y,xs,Paired.mapP r λp q z=>⟨z.1,I _ _ z.2.1,z.2.2⟩,g,es,i,k _ _ (.inl rfl) e,c⟩
 | set S n=>obtain ⟨g,es,i,t,e,c⟩:=x;exact ⟨g,es,i,t,k _ _ (.inl rfl) e,c⟩
 | ins C dx fs =>
  obtain ⟨d,z,D,e,l,⟨od,es,i,F,c⟩,r⟩:=x
  exact ⟨G _ d,z,D,k _ _ (.inl rfl) e,l,⟨od,es,i,k _ _ (.inr d) F,c⟩,r⟩
 | own y=>obtain ⟨g,e⟩:=x;exact ⟨g,k _ _ (.inl rfl) e⟩
 | xd fs=>obtain ⟨l,⟨od,es,i,e,c⟩,r⟩:=x;exact ⟨l,⟨od,es,i,k _ _ (.inl rfl) e,c⟩,r⟩
 | rng lo hi=>obtain ⟨t,u,v,e⟩:=x;exact ⟨t,u,v,k _ _ (.inl rfl) e⟩
 | frz g u ih=>obtain ⟨e,q⟩:=x;exact ⟨k _ _ (.inl rfl) e,ih q⟩
 | tbl ps =>
  have e:h.get? a=some {cls:=.none,data:=.fields ps}:=x
  show h'.get? a=some {cls:=.none,data:=.fields ps}
  exact k a _ (.inl rfl) e
 | met f y =>
  have e:h.get? a=some (PySem.W.methodObj (.ref f) (.ref y)):=x
  show h'.get? a=some (PySem.W.methodObj (.ref f) (.ref y))
  exact k a _ (.inl rfl) e
 | ext φ=>obtain ⟨p,⟨o,e⟩,m⟩:=x;exact ⟨m _ _ p λo q=>k _ _ (.inl rfl) q,⟨o,k _ _ (.inl rfl) e⟩,m⟩
theorem HOk.lt(x:HOk P w H h)(e:H a=some o):a<h.objs.size:=(x a o e).lt
theorem HOk.fresh(x:HOk P w H h)(e:h.objs.size<=a):H a=none:=by
 cases q:H a with
 | none=>rfl
 | some u=>exact absurd (Nat.lt_of_lt_of_le (x.lt q) e) (Nat.lt_irrefl _)
theorem HOk.kept(x:HOk P w H h)(k:∀b u,h.get? b=some u->h'.get? b=some u):HOk P w H h':=λa o e =>
 (x a o e).stay (λb u _ q=>k b u q) (λ_ q=>q) λ_ _ q=>q
theorem HOk.laid(x:HOk P w H h)(k:∀b u,h.get? b=some u->h'.get? b=some u)(hp:h.objs.size<=a)(new:ObjOk P w (upd H a o) h' a o):HOk P w (upd H a o) h':=λb u e=>by
 have hn:=x.fresh hp
 by_cases hb:b=a
 ·subst hb;rw [ae] at e;cases e;exact new
 ·rw [ao hb] at e
  exact (x b u e).stay (λc v _ q=>k c v q) (λc q=>by rw [ao (ap q hn)];exact q) λc xs q=>by rw [ao (ap q hn)];exact q
end
def Rd(H:Hp)(a:Addr)(u:HO):Prop:=H a=some u\/∃o,H a=some (.frz o u)
theorem Rd.ok{P:Program}{w:World}{H:Hp}{h:Heap}{a:Addr}{u:HO}(r:Rd H a u)(x:HOk P w H h):ObjOk P w H h a u:=by
 rcases r with r | ⟨o,r⟩
 ·exact x a u r
 ·obtain ⟨_,q⟩:=x a _ r
  exact q
def Mut:Option HO->Prop
 | some (.lst _)=>True
 | some (.dK _)=>True
 | some (.dT _)=>True
 | some (.set _ _)=>True
 | some (.ins _ _ _)=>True
 | some (.ext _)=>True
 | _=>False
section
variable {P:Program}{w:World}{H:Hp}{h h':Heap}{x e:Addr}{o':HO}
theorem HOk.write(ok:HOk P w H h)(d:Mut (H x))(g:e=x\/H e=some (.own x))(k:∀b u,b≠e->h.get? b=some u->h'.get? b=some u)(f:∃u,h'.get? e=some u)
  (new:ObjOk P w (upd H x o') h' x o'):HOk P w (upd H x o') h':=λb u q=>by
 have nown:∀c y,H c=some (.own y)->c≠x:=λc y r z=>by subst z;rw [r] at d;exact d
 have ntup:∀c xs,H c=some (.tup xs)->c≠x:=λc xs r z=>by subst z;rw [r] at d;exact d
 by_cases hb:b=x
 ·subst hb;rw [ae] at q;cases q;exact new
 ·rw [ao hb] at q
  by_cases hbe:b=e
  ·have q':H b=some (.own x):=by
    rcases g with z | z
    ·exact absurd (hbe.trans z) hb
    ·rw [hbe];exact z
   rw [q] at q';cases q'
   obtain ⟨v,i⟩:=f
   exact ⟨v,by rw [hbe];exact i⟩
  ·refine (ok b u q).stay (λc v hc r=>k c v ?_ r) (λc r=>by rw [ao (nown c b r)];exact r) λc xs r=>by rw [ao (ntup c xs r)];exact r
   rcases hc with rfl | hc
   ·exact hbe
   ·rintro rfl
    rcases g with z | z
    ·exact nown c b hc z
    ·rw [hc] at z;cases z;exact hb rfl
end
structure Un(fs ex:List Addr)(H H':Hp)(h h':Heap):Prop where
 keep:∀b o,h.get? b=some o->H b=none->b∉fs->b∉ex->h'.get? b=some o
 slot:∀b o,h.get? b=some o->H b=none->b∈fs->b∉ex->∃sl,h'.get? b=some {o with slots:=sl}
 free:∀b o,h.get? b=some o->H b=none->b∉ex->H' b=none
 there:∀b o,h.get? b=some o->b∉ex->∃o',h'.get? b=some o'
 tups:∀b xs,H b=some (.tup xs)->H' b=some (.tup xs)
 frzs:∀b o u,H b=some (.frz o u)->H' b=some (.frz o u)
 tbls:∀b ps,H b=some (.tbl ps)->∃more,H' b=some (.tbl (ps++more))
section
variable {fs fs' ex ex':List Addr}{H H1 H2:Hp}{h h1 h2 h':Heap}{a x e:Addr}{o:HO}
theorem Un.any(u:Un fs ex H H1 h h1){b:Addr}{d:Obj}(q:h.get? b=some d)(n:H b=none)(e:b∉ex):∃sl,h1.get? b=some {d with slots:=sl}:=by
 by_cases hb:b∈fs
 ·exact u.slot b d q n hb e
 ·exact ⟨d.slots,u.keep b d q n hb e⟩
theorem Un.kept(k:∀b u,h.get? b=some u->h'.get? b=some u):Un fs ex H H h h' :=
 ⟨λb ob q _ _ _=>k b ob q,λb ob q _ _ _=>⟨ob.slots,k b ob q⟩,λ_ _ _ n _=>n,λb ob q _=>⟨ob,k b ob q⟩,λ_ _ q=>q,λ_ _ _ q=>q,λ_ ps q=>⟨#[],by rw [q];simp⟩⟩
theorem Un.refl:Un fs ex H H h h:=Un.kept λ_ _ q=>q
theorem Un.laid(k:∀b u,h.get? b=some u->h'.get? b=some u)(hp:h.objs.size<=a)(hn:H a=none):Un fs ex H (upd H a o) h h' where
 keep:=λb u q _ _ _=>k b u q
 slot:=λb u q _ _ _=>⟨u.slots,k b u q⟩
 free:=λb u q n _=>by rw [ao (Φ (Nat.lt_of_lt_of_le (η q) hp))];exact n
 there:=λb u q _=>⟨u,k b u q⟩
 tups:=λb xs q=>by rw [ao (ap q hn)];exact q
 frzs:=λb u xs q=>by rw [ao (ap q hn)];exact q
 tbls:=λb ps q=>⟨#[],by rw [ao (ap q hn),q];simp⟩
theorem Un.write(d:Mut (H x))(w:e=x\/H e=some (.own x))(k:∀b u,b≠e->h.get? b=some u->h'.get? b=some u)(g:∃u,h'.get? e=some u):Un fs ex H (upd H x o) h h':=by
 have i:∀b,H b=none->b≠x:=λb n z=>by subst z;rw [n] at d;exact d
 have j:∀b,H b=none->b≠e:=λb n z=>by
  subst z
  rcases w with r | r
  ·exact i b n r
  ·rw [n] at r;cases r
 have f:∀b u,H b=some u->¬Mut (some u)->b≠x:=λb u q l z=>by subst z;rw [q] at d;exact l d
 refine ⟨λb u q n _ _=>k b u (j b n) q,λb u q n _ _=>⟨u.slots,k b u (j b n) q⟩,λb u q n _=>by rw [ao (i b n)];exact n,λb u q _=>?_,
  λb m q=>by rw [ao (f b _ q λz=>z)];exact q,λb u m q=>by rw [ao (f b _ q λz=>z)];exact q,λb y q=>⟨#[],by rw [ao (f b _ q λz=>z),q];simp⟩⟩
 by_cases hbe:b=e
 ·subst hbe;exact g
 ·exact ⟨u,k b u hbe q⟩
end
def trk(h:Heap)(H:Hp):List Addr:=(List.range h.objs.size).filter λa=>(H a).isSome
def ol(h:Heap)(H:Hp):Heap:=PySem.W.hideAll h (trk h H)
theorem ve(h:Heap)(H:Hp):(ol h H).objs.size=h.objs.size:=PySem.W.hideAll_size _ _
theorem xK{h:Heap}{H:Hp}{b:Addr}{o:Obj}(e:h.get? b=some o)(n:H b=none):(ol h H).get? b=some o :=
 PySem.W.hideAll_get _ e λhm=>by
  have q:(H b).isSome=true:=(List.mem_filter.mp hm).2
  rw [n] at q;simp at q
theorem zG{h:Heap}{H:Hp}{b:Addr}{o:Obj}(e:(ol h H).get? b=some o):h.get? b=some o/\H b=none:=by
 have d:h.get? b=some o:=PySem.W.of_hideAll (trk h H) e
 refine ⟨d,?_⟩
 cases q:H b with
 | none=>rfl
 | some x =>
  have f:b∈trk h H:=List.mem_filter.mpr ⟨List.mem_range.mpr (Heap.lt_size d),by simp [q]⟩
  have z:(ol h H).get? b=none:=PySem.W.hideAll_none (trk h H) f
  rw [z] at e;cases e
structure Mod(K:Frag)(mg:Str->Option Value)(base:Heap):Prop where
 kin:K.In base
 glob:base.Ns mainGlobals mg
 blt:∃mb,base.Ns builtinsNs mb/\∀x:Str,x≠"__name__"->mb x=bootBuiltins x
 nolimit:base.NoLimit
structure Cx where
 prog:Program
 w:World
 K:Frag
 mg:Str->Option Value
 base:Heap
 A:Around
 N:List Str
 s₀:Shared
 H₀:Hp
 env:Env
 outer:List Env
 stack:List Env
 ex:List Addr
 fn:Str->Bool
 calm:Bool
 pn:List (Addr×Obj)
 xe:Value->Shared->Prop
def frs(l:List Env):List Addr:=l.filterMap (·.frame)
abbrev Cx.fs(X:Cx):List Addr:=frs X.outer
def Vis(sc:Scope)(x:Str):Prop:=sc.names.lookup x=some .local\/sc.names.lookup x=some .cell\/sc.names.lookup x=some .free
def Loc(sc:Scope)(x:Str):Prop:=sc.names.lookup x=some .local\/sc.names.lookup x=some .cell
def DV(env:Env)(h:Heap)(m:Str->Option Value)(x:Str)(u:Value):Prop :=
 (env.kindOf x=some .local/\m x=some u)\/((env.kindOf x=some .cell\/env.kindOf x=some .free)/\∃c,env.cells.lookup x=some c/\h.IsCell c (some u))
structure Cx.Ok(X:Cx):Prop where
 mod:Mod X.K X.mg X.base
 kind:X.env.scope.kind=.function
 glob:X.env.globals=mainGlobals
 blt:X.env.builtins=builtinsNs
 above:X.s₀.heap.objs.size<=X.env.locals
 inj:∀x y c,X.env.cells.lookup x=some c->X.env.cells.lookup y=some c->x=y
 has:∀x,(X.env.kindOf x=some .cell\/X.env.kindOf x=some .free)->∃c,X.env.cells.lookup x=some c
 cab:∀x c,X.fn x=true->X.env.cells.lookup x=some c->X.s₀.heap.objs.size<=c
 hd:X.calm=true->X.A.handled=none
 frames:X.A.frames=some X.stack
 stk:X.stack=X.outer\/(X.stack=X.env::X.outer/\X.env.frame=some X.env.locals)
 exf:∀b∈X.ex,b≠X.env.locals/\∀x c,X.env.cells.lookup x=some c->c≠b
 bs:∀b o,X.base.get? b=some o->X.s₀.heap.get? b=some o/\X.H₀ b=none
 bsz:X.base.objs.size<=X.s₀.heap.objs.size
 noex:∀b o,X.base.get? b=some o->b∉X.ex
 exfs:∀b∈X.ex,b∉X.fs
 funs:X.s₀.heap.FunFrames X.base X.outer
 frf:∀b∈X.fs,X.H₀ b=none
structure Inv(X:Cx)(pins:List (Addr×Obj))(σ:List (Option V))(H:Hp)(s:Shared):Prop where
 ok:X.Ok
 os:s.os=X.s₀.os
 bare:AllBare s.gens
 base:Un X.fs X.ex X.H₀ H X.s₀.heap s.heap
 loc:∃m,s.heap.Ns X.env.locals m/\∀(i:Nat) (x:Str) (v:V),X.N[i]?=some x->σ[i]?=some (some v)->Vis X.env.scope x->∃u,RelV v u/\DV X.env s.heap m x u
 cell:∀x c,X.env.cells.lookup x=some c->∃v,s.heap.IsCell c v
 free:H X.env.locals=none
 freeC:∀x c,X.env.cells.lookup x=some c->H c=none
 pin:∀p∈X.pn++pins,s.heap.get? p.1=some p.2/\H p.1=none/\p.1≠X.env.locals/\p.1∉X.fs/\∀v,p.2.data≠.cell v
 hok:HOk X.prog X.w H s.heap
 len:σ.length=X.N.length
section
variable {X:Cx}{pins:List (Addr×Obj)}{σ:List (Option V)}{H H':Hp}{s:Shared}{h':Heap}
theorem Cx.Ok.nofr(ok:X.Ok){b:Addr}{o:Obj}(e:X.base.get? b=some o):b∉X.fs:=λhb=>by
 have:=(ok.funs.mem hb).1
 rw [e] at this;cases this
theorem Inv.bs(I:Inv X pins σ H s):∀b o,X.base.get? b=some o->s.heap.get? b=some o/\H b=none:=λb o e =>
 ⟨I.base.keep b o (I.ok.bs b o e).1 (I.ok.bs b o e).2 (I.ok.nofr e) (I.ok.noex b o e),I.base.free b o (I.ok.bs b o e).1 (I.ok.bs b o e).2 (I.ok.noex b o e)⟩
theorem Inv.bk(I:Inv X pins σ H s):∀b o,X.base.get? b=some o->s.heap.get? b=some o:=λb o e=>(I.bs b o e).1
theorem Inv.mod(I:Inv X pins σ H s):Mod X.K X.mg X.base:=I.ok.mod
theorem Inv.kIn(I:Inv X pins σ H s):X.K.In s.heap:=I.ok.mod.kin.keeps I.bk
theorem Inv.lt(I:Inv X pins σ H s):X.env.locals<s.heap.objs.size:=let ⟨_,hn,_⟩:=I.loc;hn.lt
theorem Inv.sz(I:Inv X pins σ H s):X.s₀.heap.objs.size<=s.heap.objs.size:=Λ I.ok.above (Nat.le_of_lt I.lt)
theorem Inv.nofs(I:Inv X pins σ H s){a:Addr}(h:s.heap.objs.size<=a):a∉X.fs:=λhb=>by
 obtain ⟨_,o,ho,_⟩:=I.ok.funs.mem hb
 exact absurd (Nat.lt_of_lt_of_le (η ho) (Λ I.sz h)) (Nat.lt_irrefl _)
theorem Inv.cne(I:Inv X pins σ H s):∀x c,X.env.cells.lookup x=some c->c≠X.env.locals:=λx c e z=>by
 obtain ⟨v,o,ho,hd⟩:=I.cell x c e
 obtain ⟨m,⟨o',es,ep,ho',hd',_⟩,_⟩:=I.loc
 rw [z,ho'] at ho;cases ho;rw [hd'] at hd;cases hd
theorem Inv.funs(I:Inv X pins σ H s):s.heap.FunFrames X.base X.outer:=by
 have all:∀(l:List Env),(∀b∈frs l,b∈X.fs)->X.s₀.heap.FunFrames X.base l->s.heap.FunFrames X.base l:=by
  intro l
  induction l with
  | nil=>intro _ _;trivial
  | cons env r ih =>
   intro g u
   obtain ⟨h,⟨L,o,hf,i,j,m⟩,q⟩:=u
   have d:L∈X.fs:=g L (by unfold frs;rw [List.filterMap_cons,hf];exact List.mem_cons_self)
   obtain ⟨w,e⟩:=I.base.slot L o j (I.ok.frf L d) d λz=>I.ok.exfs L z d
   exact ⟨h,⟨L,_,hf,i,e,m⟩,ih (λb f=>g b (by unfold frs;rw [List.filterMap_cons,hf];exact List.mem_cons_of_mem _ f)) q⟩
 exact all X.outer (λ_ f=>f) I.ok.funs
theorem Inv.stack(I:Inv X pins σ H s):s.heap.FunFrames X.base X.stack:=by
 rcases I.ok.stk with e | ⟨e,hf⟩
 ·rw [e];exact I.funs
 ·rw [e]
  obtain ⟨m,b,_⟩:=I.loc
  refine .cons (by rw [I.ok.kind];decide) hf b ?_ I.funs
  exact Heap.get?_none_of_le (Λ I.ok.bsz I.ok.above)
theorem Inv.stkSub(I:Inv X pins σ H s):∀b∈frs X.stack,b∈X.env.locals::X.fs:=λb hb=>by
 rcases I.ok.stk with e | ⟨e,hf⟩
 ·rw [e] at hb;exact Θ _ hb
 ·rw [e] at hb
  unfold frs at hb
  rw [List.filterMap_cons,hf] at hb
  exact hb
theorem Inv.stkFree(I:Inv X pins σ H s):∀b∈frs X.stack,H b=none:=λb hb=>by
 rcases ϕ.mp (I.stkSub b hb) with e | hb
 ·rw [e];exact I.free
 ·obtain ⟨_,o,ho,_⟩:=I.ok.funs.mem hb
  exact I.base.free b o ho (I.ok.frf b hb) λz=>I.ok.exfs b z hb
theorem Inv.step{g':Array GenState}{t':Nat}{d':Drawn}{ch:List Addr}(I:Inv X pins σ H s)
  (j:∀b∈ch,(b∈X.ex\/X.s₀.heap.objs.size<=b)/\b≠X.env.locals/\(∀x c,X.env.cells.lookup x=some c->c≠b)/\∀p∈X.pn++pins,p.1≠b)
  (keep:∀b o,b≠X.env.locals->b∉X.fs->b∉ch->s.heap.get? b=some o->H b=none->h'.get? b=some o)
  (D:∀b o,b≠X.env.locals->b∈X.fs->b∉ch->s.heap.get? b=some o->H b=none->∃sl,h'.get? b=some {o with slots:=sl})(free:∀b o,b∉ch->s.heap.get? b=some o->H b=none->H' b=none)
  (there:∀b o,b∉ch->s.heap.get? b=some o->∃o',h'.get? b=some o')
  (L:∀b xs,H b=some (.tup xs)->H' b=some (.tup xs))(O:∀b o u,H b=some (.frz o u)->H' b=some (.frz o u))(P:∀b ps,H b=some (.tbl ps)->∃more,H' b=some (.tbl (ps++more)))
  (ns:∀m,s.heap.Ns X.env.locals m->h'.Ns X.env.locals m)(W:HOk X.prog X.w H' h')(hg:AllBare g') :
  Inv X pins σ H' {s with heap:=h',gens:=g',drawn:=d',toks:=t'}:=by
 have K:∀b o,X.s₀.heap.get? b=some o->b≠X.env.locals:=λb o e=>Φ (Nat.lt_of_lt_of_le (η e) I.ok.above)
 have C:∀b o,X.s₀.heap.get? b=some o->b∉X.ex->b∉ch:=λb o e f F=>by
  rcases (j b F).1 with z | z
  ·exact f z
  ·exact absurd (Nat.lt_of_lt_of_le (η e) z) (Nat.lt_irrefl _)
 have g:∀x c,X.env.cells.lookup x=some c->∀v,s.heap.IsCell c v->h'.IsCell c v:=λx c e v ⟨o,G,U⟩=>by
  have h:c∉ch:=λz=>(j c z).2.2.1 x c e rfl
  by_cases hc:c∈X.fs
  ·obtain ⟨sl,q⟩:=D c o (I.cne x c e) hc h G (I.freeC x c e)
   exact ⟨_,q,U⟩
  ·exact ⟨o,keep c o (I.cne x c e) hc h G (I.freeC x c e),U⟩
 refine ⟨I.ok,I.os,hg,⟨λb o e n F f=>?_,λb o e n F f=>?_,λb o e n f=>?_,λb o e f=>?_,λb xs e=>L b xs (I.base.tups b xs e),λb o xs e=>O b o xs (I.base.frzs b o xs e),λb ps e=>?_⟩,?_,λx c e=>?_,?_,λx c e=>?_,λp hp=>?_,W,I.len⟩
 ·exact keep b o (K b o e) F (C b o e f) (I.base.keep b o e n F f) (I.base.free b o e n f)
 ·obtain ⟨sl,y⟩:=I.base.slot b o e n F f
  obtain ⟨Q,J⟩:=D b _ (K b o e) F (C b o e f) y (I.base.free b o e n f)
  exact ⟨Q,J⟩
 ·obtain ⟨o',y⟩:=I.base.there b o e f
  exact free b o' (C b o e f) y (I.base.free b o e n f)
 ·obtain ⟨o',y⟩:=I.base.there b o e f
  exact there b o' (C b o e f) y
 ·obtain ⟨m1,y⟩:=I.base.tbls b ps e
  obtain ⟨m2,J⟩:=P b _ y
  exact ⟨m1++m2,by rw [J,Array.append_assoc]⟩
 ·obtain ⟨m,hn,hl⟩:=I.loc
  refine ⟨m,ns m hn,λi x v y J e3=>?_⟩
  obtain ⟨u,r,l⟩:=hl i x v y J e3
  refine ⟨u,r,?_⟩
  rcases l with l | ⟨k,c,e,z⟩
  ·exact .inl l
  ·exact .inr ⟨k,c,e,g x c e _ z⟩
 ·obtain ⟨v,z⟩:=I.cell x c e
  exact ⟨v,g x c e v z⟩
 ·obtain ⟨m,⟨o,_,_,G,_⟩,_⟩:=I.loc
  exact free _ o (λz=>(j _ z).2.1 rfl) G I.free
 ·obtain ⟨v,o,G,U⟩:=I.cell x c e
  exact free c o (λz=>(j c z).2.2.1 x c e rfl) G (I.freeC x c e)
 ·obtain ⟨e,n,Y,Z,d⟩:=I.pin p hp
  have h:p.1∉ch:=λz=>(j p.1 z).2.2.2 p hp rfl
  exact ⟨keep p.1 p.2 Y Z h e n,free p.1 p.2 h e n,Y,Z,d⟩
theorem Inv.un{t':Nat}(I:Inv X pins σ H s)(u:Un X.fs [] H H' s.heap h')(i:HOk X.prog X.w H' h'):Inv X pins σ H' {s with heap:=h',toks:=t'}:=by
 obtain ⟨m,⟨o,es,y,j,r⟩,_⟩:=id I.loc
 obtain ⟨C,l⟩:=u.any j I.free (by simp)
 exact I.step (g':=s.gens) (d':=s.drawn) (ch:=[]) (λ_ z=>nomatch z) (λb o _ h _ e n=>u.keep b o e n h (by simp)) (λb o _ h _ e n=>u.slot b o e n h (by simp)) (λb o _ e n=>u.free b o e n (by simp)) (λb o _ e=>u.there b o e (by simp)) u.tups u.frzs u.tbls (λF x=>by
  obtain ⟨D,f,g,d,q⟩:=x
  rw [j] at d;cases d
  exact ⟨_,f,g,l,q⟩) i I.bare
theorem Inv.call{g':Array GenState}{t':Nat}{d':Drawn}{ch:List Addr}(I:Inv X pins σ H s)(u:Un (frs X.stack) ch H H' s.heap h')(l:HOk X.prog X.w H' h')(F:AllBare g')
  (g:∀b∈ch,(b∈X.ex\/X.s₀.heap.objs.size<=b)/\b≠X.env.locals/\(∀x c,X.env.cells.lookup x=some c->c≠b)/\∀p∈X.pn++pins,p.1≠b) :
  Inv X pins σ H' {s with heap:=h',gens:=g',drawn:=d',toks:=t'}:=by
 obtain ⟨m,⟨o,es,G,q,r⟩,_⟩:=id I.loc
 obtain ⟨J,h⟩:=u.any q I.free λz=>(g _ z).2.1 rfl
 exact I.step (ch:=ch) g (λb o h C d e n=>u.keep b o e n (λz=>(ϕ.mp (I.stkSub b z)).elim h C) d) (λb o _ _ d e n=>u.any e n d) (λb o d e n=>u.free b o e n d) (λb o d e=>u.there b o e d) u.tups u.frzs u.tbls (λL D=>by
  obtain ⟨K,i,j,f,y⟩:=D
  rw [q] at f;cases f
  exact ⟨_,i,j,h,y⟩) l F
theorem Inv.turned{t':Nat}{it:Addr}(I:Inv X pins σ H s)(k:∀b o,b≠it->s.heap.get? b=some o->h'.get? b=some o)(w:H it=none)(g:it≠X.env.locals)
  (h1:it∈X.ex\/X.s₀.heap.objs.size<=it)(y:∀x c,X.env.cells.lookup x=some c->c≠it)(C:∀p∈X.pn++pins,p.1≠it):Inv X pins σ H {s with heap:=h',toks:=t'}:=by
 have f:∀b u,H b=some u->b≠it:=λb u e z=>by rw [z,w] at e;cases e
 refine I.step (g':=s.gens) (d':=s.drawn) (ch:=[it]) (λb j=>?_) (λb o _ _ d e _=>k b o (λz=>d (by simp [z])) e) (λb o _ _ d e _=>⟨o.slots,k b o (λz=>d (by simp [z])) e⟩) (λ_ _ _ _ n=>n)
  (λb o d e=>⟨o,k b o (λz=>d (by simp [z])) e⟩) (λ_ _ e=>e) (λ_ _ _ e=>e) (λb D e=>⟨#[],by rw [e];simp⟩) (λm l=>?_) (λb u e=>?_) I.bare
 ·have e:b=it:=by simpa using j
  subst e
  exact ⟨h1,g,y,C⟩
 ·obtain ⟨o,es,h,i,r⟩:=l
  exact ⟨o,es,h,k _ o (Ne.symm g) i,r⟩
 ·refine (I.hok b u e).stay (λc v d q=>k c v ?_ q) (λ_ q=>q) λ_ _ q=>q
  rcases d with z | z
  ·rw [z];exact f b u e
  ·exact f c _ z
theorem Inv.tok(I:Inv X pins σ H s)(t:Nat):Inv X pins σ H {s with toks:=t}:=I.un (h':=s.heap) (t':=t) Un.refl I.hok
theorem Inv.kept{t':Nat}(I:Inv X pins σ H s)(k:∀b u,s.heap.get? b=some u->h'.get? b=some u):Inv X pins σ H {s with heap:=h',toks:=t'}:=I.un (Un.kept k) (I.hok.kept k)
theorem Inv.laid{a:Addr}{o:HO}{t':Nat}(I:Inv X pins σ H s)(k:∀b u,s.heap.get? b=some u->h'.get? b=some u)(hp:s.heap.objs.size<=a)(new:ObjOk X.prog X.w (upd H a o) h' a o) :
  Inv X pins σ (upd H a o) {s with heap:=h',toks:=t'}:=I.un (Un.laid k hp (I.hok.fresh hp)) (I.hok.laid k hp new)
theorem Inv.write{x e:Addr}{o:HO}{t':Nat}(I:Inv X pins σ H s)(mu:Mut (H x))(he:e=x\/H e=some (.own x))(k:∀b u,b≠e->s.heap.get? b=some u->h'.get? b=some u)(heo:∃u,h'.get? e=some u)
  (new:ObjOk X.prog X.w (upd H x o) h' x o):Inv X pins σ (upd H x o) {s with heap:=h',toks:=t'}:=I.un (Un.write mu he k heo) (I.hok.write mu he k heo new)
theorem Inv.weak{σ':List (Option V)}(I:Inv X pins σ H s)(hl:σ'.length=σ.length)(w:∀(i:Nat) v,σ'[i]?=some (some v)->σ[i]?=some (some v)):Inv X pins σ' H s :=
 ⟨I.ok,I.os,I.bare,I.base,let ⟨m,hn,hl'⟩:=I.loc;⟨m,hn,λi x v e1 e2 e3=>hl' i x v e1 (w i v e2) e3⟩,I.cell,I.free,I.freeC,I.pin,I.hok,hl.trans I.len⟩
theorem Inv.pins_of{pins':List (Addr×Obj)}(I:Inv X pins σ H s)(h:∀p∈pins',s.heap.get? p.1=some p.2/\H p.1=none/\p.1≠X.env.locals/\p.1∉X.fs/\∀v,p.2.data≠.cell v):Inv X pins' σ H s :=
 ⟨I.ok,I.os,I.bare,I.base,I.loc,I.cell,I.free,I.freeC,λp hp=>(List.mem_append.mp hp).elim (λz=>I.pin p (List.mem_append_left _ z)) (h p),I.hok,I.len⟩
theorem qD{N:List Str}(f:N.Nodup){i j:Nat}{x:Str}(a:N[i]?=some x)(b:N[j]?=some x):i=j:=by
 obtain ⟨h1,d⟩:=List.getElem?_eq_some_iff.mp a
 obtain ⟨g,e⟩:=List.getElem?_eq_some_iff.mp b
 exact (List.getElem_inj f).mp (d.trans e.symm)
theorem oq{M:Model}{A:Around}{E:Value->Shared->Prop}{i:Nat}{x:Str}{v:V}{u:Value}{Q:Unit->Shared->Prop}(I:Inv X pins σ H s)(hN:X.N.Nodup)(W:X.N[i]?=some x)(C:Loc X.env.scope x)(r:RelV v u)
  (h:∀s',Inv X pins (σ.set i (some v)) H s'->(∃a,Heap.SameBut a s.heap s'.heap/\(a=X.env.locals\/X.env.cells.lookup x=some a))->Q () s')(hf:X.fn x=true\/X.env.scope.names.lookup x=some .local:=by first | exact .inl rfl | exact .inr rfl | assumption):wpAny M A (storeName X.env x u) Q E s:=by
 obtain ⟨m,hn,hl⟩:=id I.loc
 have O:(X.env.scope.kind==.class||(X.env.scope.kind==.module&&X.env.locals != X.env.globals))=false:=by rw [I.ok.kind];rfl
 have P:i<σ.length:=by rw [I.len];exact (List.getElem?_eq_some_iff.mp W).1
 have cne:=I.cne
 have l:∀{a:Addr} {h':Heap},(∃o,s.heap.get? a=some o/\H a=none)->Heap.SameBut a s.heap h'->HOk X.prog X.w H h':=λ{a h'} ha f b ob e=>by
  obtain ⟨_,_,D⟩:=ha
  refine (I.hok b ob e).stay (λc Y hc q=>(f.2 c ?_).trans q) (λ_ q=>q) λ_ _ q=>q
  rintro rfl
  rcases hc with rfl | hc
  ·rw [D] at e;cases e
  ·rw [D] at hc;cases hc
 rcases C with hk | hk
 ·refine wpAny_storeName_local hk hn (λh' a8 f=>?_) O
  obtain ⟨oL,_,_,a2,_⟩:=id hn
  refine h _ ⟨I.ok,I.os,I.bare,⟨λb o e n J C=>?_,λb o e n J C=>?_,I.base.free,λb o e C=>?_,I.base.tups,I.base.frzs,I.base.tbls⟩,⟨_,a8,λj y v' g F e3=>?_⟩,λy c e=>?_,I.free,I.freeC,λp hp=>?_,l ⟨oL,a2,I.free⟩ f,by simpa using I.len⟩ ⟨_,f,.inl rfl⟩
  ·exact (f.2 b (Φ (Nat.lt_of_lt_of_le (η e) I.ok.above))).trans (I.base.keep b o e n J C)
  ·obtain ⟨sl,g⟩:=I.base.slot b o e n J C
   exact ⟨sl,(f.2 b (Φ (Nat.lt_of_lt_of_le (η e) I.ok.above))).trans g⟩
  ·obtain ⟨o',g⟩:=I.base.there b o e C
   exact ⟨o',(f.2 b (Φ (Nat.lt_of_lt_of_le (η e) I.ok.above))).trans g⟩
  ·by_cases hj:j=i
   ·subst hj
    rw [W] at g;cases g
    rw [List.getElem?_set_self P] at F
    cases F
    exact ⟨u,r,.inl ⟨hk,by simp⟩⟩
   ·rw [List.getElem?_set_ne (Ne.symm hj)] at F
    obtain ⟨u',r',q⟩:=hl j y v' g F e3
    refine ⟨u',r',?_⟩
    rcases q with ⟨k,e⟩ | ⟨k,c,e,z⟩
    ·refine .inl ⟨k,?_⟩
     have:y≠x:=λe=>hj (qD hN g (e▸W))
     simp [this,e]
    ·exact .inr ⟨k,c,e,z.sameBut f (cne y c e)⟩
  ·obtain ⟨Y,z⟩:=I.cell y c e
   exact ⟨Y,z.sameBut f (cne y c e)⟩
  ·obtain ⟨e,n,Z,nf,d⟩:=I.pin p hp
   exact ⟨(f.2 p.1 Z).trans e,n,Z,nf,d⟩
 ·have G:X.fn x=true:=by
   rcases hf with z | z
   ·exact z
   ·rw [z] at hk;cases hk
  obtain ⟨c,hc⟩:=I.ok.has x (.inl hk)
  obtain ⟨Y,z⟩:=I.cell x c hc
  refine wpAny_storeName_cell I.ok.kind hk hc z (λh' U f=>?_)
  obtain ⟨oc,K,L⟩:=id z
  refine h {s with heap:=h'} ⟨I.ok,I.os,I.bare,⟨λb o e n J C=>?_,λb o e n J C=>?_,I.base.free,λb o e C=>?_,I.base.tups,I.base.frzs,I.base.tbls⟩,⟨m,hn.sameBut f (Ne.symm (cne x c hc)),λj y v' g F e3=>?_⟩,λy c' e=>?_,I.free,I.freeC,λp hp=>?_,l ⟨oc,K,I.freeC x c hc⟩ f,by simpa using I.len⟩ ⟨c,f,.inr hc⟩
  ·exact (f.2 b (Φ (Nat.lt_of_lt_of_le (η e) (I.ok.cab x c G hc)))).trans (I.base.keep b o e n J C)
  ·obtain ⟨sl,g⟩:=I.base.slot b o e n J C
   exact ⟨sl,(f.2 b (Φ (Nat.lt_of_lt_of_le (η e) (I.ok.cab x c G hc)))).trans g⟩
  ·obtain ⟨o',g⟩:=I.base.there b o e C
   exact ⟨o',(f.2 b (Φ (Nat.lt_of_lt_of_le (η e) (I.ok.cab x c G hc)))).trans g⟩
  ·by_cases hj:j=i
   ·subst hj
    rw [W] at g;cases g
    rw [List.getElem?_set_self P] at F
    cases F
    exact ⟨u,r,.inr ⟨.inl hk,c,hc,U⟩⟩
   ·rw [List.getElem?_set_ne (Ne.symm hj)] at F
    obtain ⟨u',r',q⟩:=hl j y v' g F e3
    refine ⟨u',r',?_⟩
    rcases q with q | ⟨k,c',e,z'⟩
    ·exact .inl q
    ·refine .inr ⟨k,c',e,z'.sameBut f ?_⟩
     rintro rfl
     exact hj (qD hN g (I.ok.inj _ _ _ e hc▸W))
  ·by_cases hcc:c'=c
   ·subst hcc;exact ⟨_,U⟩
   ·obtain ⟨w2,z2⟩:=I.cell y c' e
    exact ⟨w2,z2.sameBut f hcc⟩
  ·obtain ⟨e,n,Z,nf,d⟩:=I.pin p hp
   refine ⟨(f.2 p.1 ?_).trans e,n,Z,nf,d⟩
   intro q
   rw [q,K] at e
   have q':oc=p.2:=Δ e
   exact d Y (by rw [← q'];exact L)
theorem lV{M:Model}{A:Around}{E:Value->Shared->Prop}{i:Nat}{x:Str}{v:V}{u:Value}{Q:Unit->Shared->Prop}(I:Inv X pins σ H s)(hN:X.N.Nodup)(hi:X.N[i]?=some x)(hx:Loc X.env.scope x)(r:RelV v u)
  (h:∀s',Inv X pins (σ.set i (some v)) H s'->Q () s')(hf:X.fn x=true\/X.env.scope.names.lookup x=some .local:=by first | exact .inl rfl | exact .inr rfl | assumption):wpAny M A (storeName X.env x u) Q E s :=
 oq I hN hi hx r (λs' I' _=>h s' I') hf
theorem Inv.call'{s':Shared}{ch:List Addr}(I:Inv X pins σ H s)(h:s'.os=s.os)(u:Un (frs X.stack) ch H H' s.heap s'.heap)(d:HOk X.prog X.w H' s'.heap)(i:AllBare s'.gens)
  (f:∀b∈ch,(b∈X.ex\/X.s₀.heap.objs.size<=b)/\b≠X.env.locals/\(∀x c,X.env.cells.lookup x=some c->c≠b)/\∀p∈X.pn++pins,p.1≠b):Inv X pins σ H' s':=by
 obtain ⟨h',g',d',t',g⟩:=s'
 have e:g=s.os:=h
 subst e
 exact I.call (g':=g') (t':=t') (d':=d') u d i f
end
abbrev XK:=Value->Option Addr->Hp->Prop
abbrev St:=List (Option V)
abbrev VK:=V->Hp->Prop
abbrev TE:=St->Hp->VK->Prop
abbrev TT:=St->Hp->(Bool->Hp->Prop)->Prop
abbrev TA:=St->Hp->(List V->Hp->Prop)->Prop
structure Ends where
 nx:St->Hp->Prop
 rt:VK
 bk:St->Hp->Prop:=λ_ _=>False
 ct:St->Hp->Prop:=λ_ _=>False
abbrev TS:=Ends->St->Hp->Prop
def EP(X:Cx)(pins:List (Addr×Obj))(σ:St)(Q:VK)(u:Value)(s':Shared):Prop:=∃v H',Inv X pins σ H' s'/\RelV v u/\Q v H'
def TP(X:Cx)(pins:List (Addr×Obj))(σ:St)(Q:Bool->Hp->Prop)(b:Bool)(s':Shared):Prop:=∃H',Inv X pins σ H' s'/\Q b H'
def AP(X:Cx)(pins:List (Addr×Obj))(σ:St)(Q:List V->Hp->Prop)(us:List Value)(s':Shared):Prop:=∃vs H',Inv X pins σ H' s'/\Vals vs us/\Q vs H'
def SP(X:Cx)(pins:List (Addr×Obj))(D:Ends)(f:Flow)(s':Shared):Prop :=
 match f with
 | .next=>∃σ' H',Inv X pins σ' H' s'/\D.nx σ' H'
 | .brk=>∃σ' H',Inv X pins σ' H' s'/\D.bk σ' H'
 | .cont=>∃σ' H',Inv X pins σ' H' s'/\D.ct σ' H'
 | .ret u=>∃v σ' H',Inv X pins σ' H' s'/\RelV v u/\D.rt v H'
def PE(X:Cx)(e:Expr)(t:TE):Prop :=
 ∀(pins:List (Addr×Obj)) (s:Shared) (σ:St) (H:Hp) (Q:VK),Inv X pins σ H s->t σ H Q->wpAny (model X.prog X.w) X.A (eval e X.env) (EP X pins σ Q) X.xe s
def PT(X:Cx)(e:Expr)(t:TT):Prop :=
 ∀(pins:List (Addr×Obj)) (s:Shared) (σ:St) (H:Hp) (Q:Bool->Hp->Prop),Inv X pins σ H s->t σ H Q->wpAny (model X.prog X.w) X.A (isTrue e X.env (eval e X.env)) (TP X pins σ Q) X.xe s
def PW(X:Cx)(e:Expr)(t:TT):Prop :=
 ∀(whole:Sem Value) (pins:List (Addr×Obj)) (s:Shared) (σ:St) (H:Hp) (Q:Bool->Hp->Prop),Inv X pins σ H s->t σ H Q->wpAny (model X.prog X.w) X.A (isTrue e X.env whole) (TP X pins σ Q) X.xe s
theorem PW.pt{X:Cx}{e:Expr}{t:TT}(h:PW X e t):PT X e t:=h _
def PA(X:Cx)(es:List Expr)(t:TA):Prop :=
 ∀(pos:Pos) (pins:List (Addr×Obj)) (s:Shared) (σ:St) (H:Hp) (Q:List V->Hp->Prop),Inv X pins σ H s->t σ H Q->wpAny (model X.prog X.w) X.A (spliced (backTo pos (starEach es X.env))) (AP X pins σ Q) X.xe s
def PS(X:Cx)(st:Stmt)(t:TS):Prop :=
 ∀(pins:List (Addr×Obj)) (s:Shared) (σ:St) (H:Hp) (D:Ends),Inv X pins σ H s->t D σ H->wpAny (model X.prog X.w) X.A (exec st X.env) (SP X pins D) X.xe s
def PSs(X:Cx)(st:List Stmt)(t:TS):Prop :=
 ∀(pins:List (Addr×Obj)) (s:Shared) (σ:St) (H:Hp) (D:Ends),Inv X pins σ H s->t D σ H->wpAny (model X.prog X.w) X.A (execs st X.env) (SP X pins D) X.xe s
theorem thn{α:Type}{t:Sem α}{Q Q':α->Shared->Prop}{M:Model}{A:Around}{E:Value->Shared->Prop}{s:Shared}(h:wpAny M A t Q E s)(hQ:∀a s,Q a s->Q' a s):wpAny M A t Q' E s:=wpAny_mono h hQ λ_ _ x=>x
section
variable {X:Cx}
inductive XV (i:Nat) (σ:St) (H:Hp) (Q:VK):Prop|mk v:σ[i]?=some (some v)->Q v H->XV i σ H Q
def rE(i:Nat):TE:=fun σ H Q=>XV i σ H Q
def tC(v:V):TE:=λ_ H Q=>Q v H
theorem r8{i:Nat}{x:Str}{pos:Pos}(o:X.N[i]?=some x)(q:Vis X.env.scope x)(d:(x==("__debug__":Str))=false:=by decide)(f:(x==("__classdict__":Str))=false:=by decide):PE X (.Name x pos) (rE i):=by
 intro b s σ H Q I h
 obtain ⟨v,e,h⟩:=h
 obtain ⟨m,g,j⟩:=I.loc
 obtain ⟨u,r,l⟩:=j i x v o e q
 have fin:EP X b σ Q u s:=⟨v,H,I,r,h⟩
 rcases l with ⟨hk,hm⟩ | ⟨hk,c,hc,hcell⟩
 ·exact wpAny_Name (wpAny_loadName_local I.ok.kind hk g hm fin) d
 ·rcases hk with hk | hk
  ·exact wpAny_Name (wpAny_loadName_cell I.ok.kind hk hc hcell fin) d
  ·exact wpAny_Name (wpAny_loadName_free I.ok.kind hk hc hcell fin f) d
theorem ai{i j pos}:PE X (.Constant (.int i) j pos) (tC (.int i)):=λ_ _ _ H _ I h=>wpAny_Constant_int ⟨.int i,H,I.tok _,⟨_,ϱ⟩,h⟩
theorem oB{b j pos}:PE X (.Constant (.bool b) j pos) (tC (.bl b)):=λ_ _ _ H _ I h=>Constant_bool ⟨.bl b,H,I,ϱ,h⟩
theorem cK{j pos}:PE X (.Constant .none j pos) (tC .non):=λ_ _ _ H _ I h=>Constant_none ⟨.non,H,I,ϱ,h⟩
theorem aA{x j pos}:PE X (.Constant (.str x) j pos) (tC (.str x)):=λ_ _ _ H _ I h=>Calls.Constant_str ⟨.str x,H,I.tok _,⟨_,ϱ⟩,h⟩
def Gl(X:Cx)(x:Str):Prop:=X.env.kindOf x=some .globalImplicit
theorem jp{E:Value->Shared->Prop}{pins:List (Addr×Obj)}{s:Shared}{σ:St}{H:Hp}{x:Str}{u:Value}{pos:Pos}{Q:Value->Shared->Prop}(I:Inv X pins σ H s)(hg:Gl X x)(hm:X.mg x=some u)(h:Q u s)
  (hd:(x==("__debug__":Str))=false:=by decide):wpAny (model X.prog X.w) X.A (eval (.Name x pos) X.env) Q E s :=
 Calls.Name_function_global I.ok.kind hg (Calls.loadGlobal_global (by rw [I.ok.glob];exact I.mod.glob.keeps I.bk) hm h) hd
theorem mO{E:Value->Shared->Prop}{b:List (Addr×Obj)}{s:Shared}{σ:St}{H:Hp}{x:Str}{u:Value}{pos:Pos}{Q:Value->Shared->Prop}(I:Inv X b σ H s)(e:Gl X x)(f:X.mg x=none)(g:bootBuiltins x=some u)(h:Q u s)
  (i:x≠"__name__":=by decide)(j:(x==("__debug__":Str))=false:=by decide):wpAny (model X.prog X.w) X.A (eval (.Name x pos) X.env) Q E s:=by
 obtain ⟨l,h1,d⟩:=I.mod.blt
 exact Calls.Name_function_global I.ok.kind e (Calls.loadGlobal_builtin (by rw [I.ok.glob];exact I.mod.glob.keeps I.bk) f (by rw [I.ok.blt];exact h1.keeps I.bk) ((d x i).trans g) h) j
theorem gp{x:Str}{v:V}{u:Value}{pos:Pos}(hg:Gl X x)(hm:X.mg x=some u)(r:RelV v u)(hd:(x==("__debug__":Str))=false:=by decide):PE X (.Name x pos) (tC v) :=
 λ_ _ _ H _ I h=>jp I hg hm ⟨v,H,I,r,h⟩ hd
theorem tV{x:Str}{v:V}{u:Value}{pos:Pos}(hg:Gl X x)(hm:X.mg x=none)(hv:bootBuiltins x=some u)(r:RelV v u)(hn:x≠"__name__":=by decide)(hd:(x==("__debug__":Str))=false:=by decide):PE X (.Name x pos) (tC v) :=
 λ_ _ _ H _ I h=>mO I hg hm hv ⟨v,H,I,r,h⟩ hn hd
variable {a b:Expr}{ta tb:TE}{pos:Pos}
def PC(X:Cx)(op:CmpOp)(a b:Expr)(t:TE):Prop :=
 ∀(pins:List (Addr×Obj)) (s:Shared) (σ:St) (H:Hp) (Q:VK),Inv X pins σ H s->t σ H Q ->
  wpAny (model X.prog X.w) X.A (eval a X.env) (λv s₁=>wpAny (model X.prog X.w) X.A (eval b X.env) (λu s₂=>wpAny (model X.prog X.w) X.A (compareOp op v u) (EP X pins σ Q) X.xe s₂) X.xe s₁) X.xe s
inductive XB (Q:Bool->Hp->Prop) (x:V) (H:Hp):Prop|mk c:x=.bl c->Q c H->XB Q x H
def tB(t:TE):TT:=fun σ H Q=>t σ H λx H1=>XB Q x H1
theorem hV{op:CmpOp}{t:TE}(h:PC X op a b t)(h1:behindInMarks op b=false:=by first | exact nobehind _ ζ ζ | rfl):PT X (.Compare a [op] [b] pos) (tB t):=by
 intro e s σ H Q I j
 refine wpAny_isTrue_Compare1 (thn (h e s σ H _ I j) λv l h1=>thn h1 λu m f=>thn f λc o ⟨x,H1,g,i,q1⟩=>?_) h1
 obtain ⟨d,rfl,q⟩:=q1
 cases i
 exact wpAny_truthy_bool ⟨H1,g,q⟩
theorem cB{e:Expr}{t:TE}(h:PE X e t)(j:∀whole,isTrue e X.env whole=(do let v ← whole;standAt e.pos;holding [v] (truthy v)):=by intro _;rfl):PT X e (tB t):=by
 intro b s σ H Q I i
 refine isTrue_plain (thn (h b s σ H _ I i) λv l ⟨x,H1,f,g,q1⟩=>?_) (j _)
 obtain ⟨d,rfl,q⟩:=q1
 cases g
 exact wpAny_truthy_bool ⟨H1,f,q⟩
variable {tA tB':TT}{rest:List Expr}
def CD(t u:TT):TT:=fun σ H Q=>t σ H λc H1=>if c=true then u σ H1 Q else Q false H1
def tOr(t u:TT):TT:=fun σ H Q=>t σ H λc H1=>if c=true then Q true H1 else u σ H1 Q
def DB(t:TT):TT:=fun σ H Q=>t σ H λc H1=>Q (!c) H1
theorem gm(d:PT X a tA):PW X (.BoolOp .And [a] pos) tA:=by
 intro g b s σ H Q I h
 refine isTrue_and (thn (d b s σ H Q I h) λc f e=>?_)
 cases c with
 | true=>exact isTrue_and_nil e
 | false=>exact e
theorem iQ(d:PT X a tA):PW X (.BoolOp .Or [a] pos) tA:=by
 intro g b s σ H Q I h
 refine isTrue_or (thn (d b s σ H Q I h) λc f e=>?_)
 cases c with
 | false=>exact isTrue_or_nil e
 | true=>exact e
theorem fz(i:PT X a tA)(j:PW X (.BoolOp .And (b::rest) pos) tB'):PW X (.BoolOp .And (a::b::rest) pos) (CD tA tB'):=by
 intro g d s σ H Q I h
 refine isTrue_and (thn (i d s σ H _ I h) λc f ⟨H1,e,q1⟩=>?_)
 cases c with
 | true=>exact j g d f σ H1 Q e q1
 | false=>exact ⟨H1,e,q1⟩
theorem mt(i:PT X a tA)(j:PW X (.BoolOp .Or (b::rest) pos) tB'):PW X (.BoolOp .Or (a::b::rest) pos) (tOr tA tB'):=by
 intro g d s σ H Q I h
 refine isTrue_or (thn (i d s σ H _ I h) λc f ⟨H1,e,q1⟩=>?_)
 cases c with
 | true=>exact ⟨H1,e,q1⟩
 | false=>exact j g d f σ H1 Q e q1
theorem iR(d:PT X a tA):PT X (.UnaryOp .Not a pos) (DB tA):=by
 intro b s σ H Q I h
 exact isTrue_not (d b s σ H (λc H1=>Q (!c) H1) I h)
inductive XIf (x:V) (P R:Prop):Prop|mk c:x=.bl c->(if c=true then P else R)->XIf x P R
def CA(ta tb:TE):TE:=fun σ H Q=>ta σ H λx H1=>XIf x (tb σ H1 Q) (Q (.bl false) H1)
def DA(ta tb:TE):TE:=fun σ H Q=>ta σ H λx H1=>XIf x (Q (.bl true) H1) (tb σ H1 Q)
def Cn(ta:TE):TE:=fun σ H Q=>ta σ H λx H1=>∃c,x=.bl c/\Q (.bl (!c)) H1
theorem eO{op}{t:TE}(h:PE X a t):PE X (.BoolOp op [a] pos) t:=λpins s σ H Q I hw=>BoolOp_one (h pins s σ H Q I hw)
theorem hZ(i:PE X a ta)(j:PE X (.BoolOp .And (b::rest) pos) tb):PE X (.BoolOp .And (a::b::rest) pos) (CA ta tb):=by
 intro d s σ H Q I h
 refine BoolOp_and (thn (i d s σ H _ I h) λv f ⟨x,H1,e,g,q1⟩=>?_)
 obtain ⟨c,rfl,q1⟩:=q1
 cases g
 refine wpAny_truthy_bool ?_
 cases c with
 | true=>exact j d f σ H1 Q e q1
 | false=>exact ⟨.bl false,H1,e,rfl,q1⟩
theorem tO(i:PE X a ta)(j:PE X (.BoolOp .Or (b::rest) pos) tb):PE X (.BoolOp .Or (a::b::rest) pos) (DA ta tb):=by
 intro d s σ H Q I h
 refine BoolOp_or (thn (i d s σ H _ I h) λv f ⟨x,H1,e,g,q1⟩=>?_)
 obtain ⟨c,rfl,q1⟩:=q1
 cases g
 refine wpAny_truthy_bool ?_
 cases c with
 | false=>exact j d f σ H1 Q e q1
 | true=>exact ⟨.bl true,H1,e,rfl,q1⟩
theorem Bi(f:PE X a ta):PE X (.UnaryOp .Not a pos) (Cn ta):=by
 intro b s σ H Q I h
 refine UnaryOp_ (thn (f b s σ H _ I h) λv g ⟨x,H1,d,e,q1⟩=>?_)
 obtain ⟨c,rfl,q1⟩:=q1
 cases e
 exact not_of (wpAny_truthy_bool ⟨.bl (!c),H1,d,ϱ,q1⟩)
def tIf(t:TT)(ta tb:TE):TE:=fun σ H Q=>t σ H λc H1=>if c=true then ta σ H1 Q else tb σ H1 Q
theorem qu{c:Expr}(i:PT X c tA)(j:PE X a ta)(l:PE X b tb):PE X (.IfExp c a b pos) (tIf tA ta tb):=by
 intro e s σ H Q I h
 refine wpAny_IfExp (thn (i e s σ H _ I h) λd f ⟨H1,g,q1⟩=>?_)
 cases d with
 | true=>exact j e f σ H1 Q g q1
 | false=>exact l e f σ H1 Q g q1
end
def SqL(K:Frag)(H:Hp)(a:Addr)(xs:List V):Prop :=
 Rd H a (.lst xs) \/
  ∃(o:Obj) (its:Array Value) (n:Nat),K.lookup a=some o/\o.cls=.type "list"/\o.dict=none/\o.data=.seq its n/\its.size<=sizeLine/\Vals xs its.toList
def SqT(K:Frag)(H:Hp)(a:Addr)(xs:List V):Prop :=
 Rd H a (.tup xs) \/
  ∃(o:Obj) (its:Array Value) (n:Nat),K.lookup a=some o/\o.cls=.type "tuple"/\o.data=.seq its n/\its.size<=sizeLine/\Vals xs its.toList
def DT:Value->Option V
 | .none=>some .non
 | .bool b=>some (.bl b)
 | .int i _=>some (.int i)
 | .str x _=>some (.str x)
 | .bytes b _=>some (.byt b)
 | .float b _=>some (.flt b)
 | .ref a=>some (.ref a)
 | .type n=>some (.ty n)
 | _=>none
theorem RelV.abs{x:V}{u:Value}(r:RelV x u):DT u=some x:=by
 cases x with
 | non=>cases r;rfl
 | bl _=>cases r;rfl
 | int _=>obtain ⟨t,rfl⟩:=r;rfl
 | str _=>obtain ⟨t,rfl⟩:=r;rfl
 | byt _=>obtain ⟨t,rfl⟩:=r;rfl
 | flt _=>obtain ⟨t,rfl⟩:=r;rfl
 | ref _=>cases r;rfl
 | ty _=>cases r;rfl
theorem RelV.inj{x y:V}{u:Value}(r:RelV x u)(q:RelV y u):x=y:=Δ (r.abs.symm.trans q.abs)
theorem Vals.inj:∀{xs ys:List V} {us:List Value},Vals xs us->Vals ys us->xs=ys
 | _,_,_,.nil,.nil=>rfl
 | _,_,_,.cons r t,.cons r' t'=>by rw [r.inj r',Vals.inj t t']
section
variable {X:Cx}{pins:List (Addr×Obj)}{σ:St}{H:Hp}{s:Shared}{a:Addr}{xs ys:List V}
theorem SqL.of{K:Frag}(h:H a=some (.lst xs)):SqL K H a xs:=.inl (.inl h)
theorem SqT.of{K:Frag}(h:H a=some (.tup xs)):SqT K H a xs:=.inl (.inl h)
theorem Inv.list(I:Inv X pins σ H s)(h:SqL X.K H a xs):∃its:List Value,Vals xs its/\PlainL s.heap a its.toArray/\xs.length<=sizeLine:=by
 rcases h with h | ⟨o,its,n,hk,hc,hd,hs,hz,r⟩
 ·obtain ⟨z,its,n,r,e⟩:=h.ok I.hok
  exact ⟨its,r,⟨_,n,e,ϱ,ϱ,ϱ⟩,z⟩
 ·refine ⟨its.toList,r,⟨o,n,I.kIn a o hk,hc,hd,by simpa using hs⟩,?_⟩
  have e:=r.length
  simp only [Array.length_toList] at e
  omega
theorem Inv.tuple(I:Inv X pins σ H s)(h:SqT X.K H a xs):∃its:List Value,Vals xs its/\IsTup s.heap a its.toArray/\xs.length<=sizeLine:=by
 rcases h with h | ⟨o,its,n,hk,hc,hs,hz,r⟩
 ·obtain ⟨z,its,r,p⟩:=h.ok I.hok
  exact ⟨its,r,p,z⟩
 ·refine ⟨its.toList,r,⟨o,I.kIn a o hk,hc,n,by simpa using hs⟩,?_⟩
  have e:=r.length
  simp only [Array.length_toList] at e
  omega
theorem Inv.list_inj(I:Inv X pins σ H s)(h:SqL X.K H a xs)(h':SqL X.K H a ys):xs=ys:=by
 obtain ⟨f,r,⟨o,n,e,_,_,d⟩,_⟩:=I.list h
 obtain ⟨b,j,⟨l,m,g,_,_,i⟩,_⟩:=I.list h'
 rw [e] at g;cases g
 rw [d] at i
 injection i with d1 _
 have:f=b:=by simpa using congrArg Array.toList d1
 subst this
 exact r.inj j
theorem Inv.tuple_inj(I:Inv X pins σ H s)(h:SqT X.K H a xs)(h':SqT X.K H a ys):xs=ys:=by
 obtain ⟨f,r,⟨o,e,_,n,d⟩,_⟩:=I.tuple h
 obtain ⟨b,j,⟨l,g,_,m,i⟩,_⟩:=I.tuple h'
 rw [e] at g;cases g
 rw [d] at i
 injection i with d1 _
 have:f=b:=by simpa using congrArg Array.toList d1
 subst this
 exact r.inj j
end
abbrev Cx.wish(X:Cx)(E:Value->Shared->Prop):Cx:={X with xe:=E}
abbrev Cx.nox(X:Cx):Cx:=X.wish λ_ _=>False
theorem Cx.Ok.wish{X:Cx}(ok:X.Ok)(E:Value->Shared->Prop):(X.wish E).Ok :=
 ⟨ok.mod,ok.kind,ok.glob,ok.blt,ok.above,ok.inj,ok.has,ok.cab,ok.hd,ok.frames,ok.stk,ok.exf,ok.bs,ok.bsz,ok.noex,ok.exfs,ok.funs,ok.frf⟩
theorem Cx.Ok.unwish{X:Cx}{E:Value->Shared->Prop}(ok:(X.wish E).Ok):X.Ok :=
 ⟨ok.mod,ok.kind,ok.glob,ok.blt,ok.above,ok.inj,ok.has,ok.cab,ok.hd,ok.frames,ok.stk,ok.exf,ok.bs,ok.bsz,ok.noex,ok.exfs,ok.funs,ok.frf⟩
section
variable {X:Cx}{pins:List (Addr×Obj)}{σ:St}{H:Hp}{s:Shared}{E:Value->Shared->Prop}
theorem Inv.wish(I:Inv X pins σ H s)(E:Value->Shared->Prop):Inv (X.wish E) pins σ H s:=⟨I.ok.wish E,I.os,I.bare,I.base,I.loc,I.cell,I.free,I.freeC,I.pin,I.hok,I.len⟩
theorem Inv.unwish(I:Inv (X.wish E) pins σ H s):Inv X pins σ H s:=⟨I.ok.unwish,I.os,I.bare,I.base,I.loc,I.cell,I.free,I.freeC,I.pin,I.hok,I.len⟩
theorem SP.unwish{D:Ends}{f:Flow}{s':Shared}(h:SP (X.wish E) pins D f s'):SP X pins D f s':=by
 cases f with
 | next=>obtain ⟨b,d,I,q⟩:=h;exact ⟨b,d,I.unwish,q⟩
 | brk=>obtain ⟨b,d,I,q⟩:=h;exact ⟨b,d,I.unwish,q⟩
 | cont=>obtain ⟨b,d,I,q⟩:=h;exact ⟨b,d,I.unwish,q⟩
 | ret u=>obtain ⟨v,b,d,I,r,q⟩:=h;exact ⟨v,b,d,I.unwish,r,q⟩
theorem PSs.nox{st:List Stmt}{t:TS}(h:PSs X.nox st t):PSs X st t:=λpins s σ H D I hw =>
 wpAny_mono (h pins s σ H D (I.wish _) hw) (λ_ _ q=>q.unwish) λ_ _ z=>False.elim z
end
section
variable {X:Cx}{st:Stmt}{rest:List Stmt}{t u:TS}{e:Expr}{te:TE}{pos:Pos}
def Co:TS:=λD σ H=>D.nx σ H
def Cj(t u:TS):TS:=λD σ H=>t {D with nx:=u D} σ H
theorem aC:PSs X [] Co:=λ_ _ σ H _ I h=>wpAny_execs_nil ⟨σ,H,I,h⟩
theorem ag(h1:PS X st t)(j:PSs X rest u):PSs X (st::rest) (Cj t u):=by
 intro b s σ H D I h
 refine wpAny_execs_cons (thn (h1 b s σ H {D with nx:=u D} I h) λf i q=>?_)
 cases f with
 | next =>
  obtain ⟨d,e,g,q⟩:=q
  exact j b i d e D g q
 | ret v=>exact q
 | brk=>exact q
 | cont=>exact q
theorem aj(h1:PS X st t):PSs X [st] t:=by
 intro b s σ H D I h
 refine wpAny_execs_cons (thn (h1 b s σ H D I h) λf d q=>?_)
 cases f with
 | next=>exact wpAny_execs_nil q
 | ret v=>exact q
 | brk=>exact q
 | cont=>exact q
theorem Inv.quiet{pins:List (Addr×Obj)}{σ:St}{H:Hp}{s:Shared}(I:Inv X pins σ H s):interactive X.env=false:=by simp [interactive,I.ok.kind]
def Ct(te:TE):TS:=λD σ H=>te σ H λ_ H1=>D.nx σ H1
theorem aO(f:PE X e te)(g:swapsWith e none pos.line X.env=pure false:=by rfl):PS X (.Expr e pos) (Ct te):=by
 intro b s σ H D I h
 exact wpAny_Expr_any (thn (f b s σ H _ I h) λv i ⟨x,H1,d,j,q1⟩=>⟨σ,H1,d,q1⟩) I.quiet g
def Dz(te:TE):TS:=λD σ H=>te σ H D.rt
theorem aw(g:PE X e te):PS X (.Return (some e) pos) (Dz te):=by
 intro b s σ H D I h
 exact wpAny_Return_some (thn (g b s σ H _ I h) λv i ⟨x,H1,d,f,q1⟩=>⟨x,σ,H1,d,f,q1⟩)
def Cl:TS:=λD _ H=>D.rt .non H
theorem lJ:PS X (.Return none pos) Cl:=λ_ _ σ H _ I h=>wpAny_Return_none ⟨.non,σ,H,I,ϱ,h⟩
def Cr(c:TT)(t u:TS):TS:=λD σ H=>c σ H λb H1=>if b=true then t D σ H1 else u D σ H1
theorem aI{c:Expr}{a b:List Stmt}{tc:TT}(i:PT X c tc)(j:PSs X a t)(l:PSs X b u):PS X (.If c a b pos) (Cr tc t u):=by
 intro e s σ H D I h
 refine wpAny_If (thn (i e s σ H _ I h) λd f ⟨H1,g,q1⟩=>?_)
 cases d with
 | true=>exact j e f σ H1 D g q1
 | false=>exact l e f σ H1 D g q1
def AI:TS:=λ_ _ _=>False
theorem aJ{sts:List Stmt}:PSs X sts AI:=λ_ _ _ _ _ _ h=>h.elim
end
abbrev TG:=V->St->Hp->(St->Hp->Prop)->Prop
abbrev TGs:=List V->St->Hp->(St->Hp->Prop)->Prop
def PG(X:Cx)(target:Expr)(t:TG):Prop :=
 ∀(pins:List (Addr×Obj)) (s:Shared) (σ:St) (H:Hp) (v:V) (u:Value) (Q:St->Hp->Prop),Inv X pins σ H s->RelV v u->t v σ H Q ->
  wpAny (model X.prog X.w) X.A (assign target X.env u) (λ_ s'=>∃σ' H',Inv X pins σ' H' s'/\Q σ' H') X.xe s
def PGs(X:Cx)(ts:List Expr)(t:TGs):Prop :=
 ∀(pins:List (Addr×Obj)) (s:Shared) (σ:St) (H:Hp) (vs:List V) (us:List Value) (Q:St->Hp->Prop),Inv X pins σ H s->Vals vs us->t vs σ H Q ->
  wpAny (model X.prog X.w) X.A (assignInOrder ((assignEach ts X.env).map (·.2)) us) (λ_ s'=>∃σ' H',Inv X pins σ' H' s'/\Q σ' H') X.xe s
abbrev B8:=V->V->V->Hp->(Hp->Prop)->Prop
def Du(X:Cx)(t:B8):Prop :=
 ∀(pins:List (Addr×Obj)) (s:Shared) (σ:St) (H:Hp) (o i v:V) (ov iv u:Value) (Q:Hp->Prop),Inv X pins σ H s->RelV o ov->RelV i iv->RelV v u->t o i v H Q ->
  wpAny (model X.prog X.w) X.A (setItem ov iv u) (λ_ s'=>∃H',Inv X pins σ H' s'/\Q H') X.xe s
section
variable {X:Cx}{pos:Pos}
def uf(i:Nat):TG:=λv σ H Q=>Q (σ.set i (some v)) H
theorem b7{i:Nat}{x:Str}(e:X.N.Nodup)(f:X.N[i]?=some x)(g:Loc X.env.scope x)(hf:X.fn x=true\/X.env.scope.names.lookup x=some .local:=by first | exact .inl rfl | exact .inr rfl | assumption):PG X (.Name x pos) (uf i):=by
 intro b s σ H v u Q I r h
 exact wpAny_assign_Name (lV I e f g r (λj d=>⟨_,H,d,h⟩) hf)
def DQ:TGs:=λvs σ H Q=>vs=[]/\Q σ H
inductive XGC (t:TG) (u:TGs) (vs:List V) (σ:St) (H:Hp) (Q:St->Hp->Prop):Prop|mk v r:vs=v::r->(t v σ H fun σ' H'=>u r σ' H' Q)->XGC t u vs σ H Q
def Do(t:TG)(u:TGs):TGs:=λvs σ H Q=>XGC t u vs σ H Q
theorem tN:PGs X [] DQ:=by
 intro b s σ H vs d Q I r h
 obtain ⟨e,h⟩:=h
 subst e
 cases r
 exact assignInOrder_nil ⟨σ,H,I,h⟩
theorem fU{e:Expr}{es:List Expr}{t:TG}{u:TGs}(h1:PG X e t)(j:PGs X es u)
  (l:(assignEach (e::es) X.env).map (·.2)=assign e X.env::(assignEach es X.env).map (·.2):=by rfl):PGs X (e::es) (Do t u):=by
 intro b s σ H vs m Q I r h
 obtain ⟨v,vr,d,h⟩:=h
 subst d
 cases r with
 | cons r rr =>
  rw [l]
  refine assignInOrder_cons (thn (h1 b s σ H _ _ _ I r h) λ_ f ⟨g,H1,i,q1⟩=>?_)
  exact j b f g H1 _ _ Q i rr q1
inductive XGT (K:Frag) (n:Nat) (t:TGs) (v:V) (σ:St) (H:Hp) (Q:St->Hp->Prop):Prop|mk a xs:v=.ref a->SqT K H a xs->xs.length=n->t xs σ H Q->XGT K n t v σ H Q
def DO(K:Frag)(n:Nat)(t:TGs):TG:=λv σ H Q=>XGT K n t v σ H Q
theorem wD{es:List Expr}{k:Nat}{t:TGs}{n:Nat}(D:X.calm=true)(h:PGs X es t)
  (F:(assignEach es X.env).length=n:=by rfl)(g:(assignEach es X.env).findIdx? (·.1)=none:=by rfl):PG X (.Tuple es k pos) (DO X.K n t):=by
 intro d s σ H v u Q I r f
 obtain ⟨a,j,l,m,q,f⟩:=f
 subst l
 cases r
 obtain ⟨w,i,x,G⟩:=I.tuple m
 refine assign_Tuple_tuple (I.ok.hd D) x (by simp [F,← q,i.length]) g λz C=>?_
 have y:Inv X d σ H {s with heap:=z}:=I.kept (t':=s.toks) λb o e=>C b o (Φ (η e)) e
 exact h d _ σ H j _ Q y (by simpa using i) f
def DP(to ti:TE)(t:B8):TG:=λv σ H Q=>to σ H λo H1=>ti σ H1 λi H2=>t o i v H2 λH3=>Q σ H3
theorem wE{o i:Expr}{d e:TE}{t:B8}(D:PE X o d)(F:PE X i e)(G:Du X t)
  (J:∀v,assign (.Subscript o i pos) X.env v=(do
   let ov ← holding [v] (eval o X.env)
   let iv ← holding [v,ov] (eval i X.env)
   standAt pos
   holding [v,ov,iv] (setItem ov iv v)
   release [v,ov,iv] []):=by intro _;rfl):PG X (.Subscript o i pos) (DP d e t):=by
 intro b s σ H v u Q I r h
 rw [J]
 refine ε (wpAny_holding (thn (D b s σ H _ I h) λov f ⟨x,H1,g,j,q1⟩=>?_))
 refine ε (wpAny_holding (thn (F b f σ H1 _ g q1) λiv l ⟨y,m,q,w,q2⟩=>?_))
 refine ε (wpAny_standAt (ε (wpAny_holding (thn (G b l σ m x y v ov iv u _ q j w r q2) λ_ K ⟨z,C,q3⟩=>?_))))
 exact wpAny_release ⟨σ,z,C,q3⟩
def AT(te:TE)(g:TG):TS:=λD σ H=>te σ H λx H1=>g x σ H1 D.nx
theorem rZ{d e:Expr}{f:TE}{g:TG}(m:PE X e f)(o:PG X d g)(r:swapsWithSole [d] e pos.line X.env=pure false:=by rfl)(hw:swappedStores [d] e X.env=pure none:=by rfl)
  (h1:(assignEach [d] X.env).map (·.2)=[assign d X.env]:=by rfl):PS X (.Assign [d] e pos) (AT f g):=by
 intro b s σ H D I h
 refine wpAny_Assign_stores (thn (m b s σ H _ I h) λv i ⟨x,H1,j,l,q1⟩=>?_) r hw
 rw [h1]
 exact thn (o b i σ H1 x v _ j l q1) λ_ u q=>q
theorem aD{i:Nat}{x:Str}{e:Expr}{f:TE}{b:Pos}(m:X.N.Nodup)(o:X.N[i]?=some x)(q:Loc X.env.scope x)(r:PE X e f)(u:swapsWith e (some (.Name x b)) pos.line X.env=pure false:=by rfl)(hf:X.fn x=true\/X.env.scope.names.lookup x=some .local:=by first | exact .inl rfl | exact .inr rfl | assumption) :
  PS X (.Assign [.Name x b] e pos) (AT f (uf i)):=by
 intro d s σ H D I h
 refine wpAny_Assign_Name (thn (r d s σ H _ I h) λv w ⟨y,H1,g,j,q1⟩=>?_) u
 exact lV g m o q j (λz l=>⟨_,H1,l,q1⟩) hf
end
section
variable {X:Cx}{pos:Pos}
def AH(c:TT)(tb:TS):TS:=λD σ H=>∃W:Nat->St->Hp->Prop,(∃m,W m σ H)/\∀m σ H,W m σ H ->
 c σ H λb H1=>if b=true then ∃N:St->Hp->Prop,(∀σ' H',N σ' H'->∃m',m'<m/\W m' σ' H')/\tb {D with nx:=N,ct:=N,bk:=D.nx} σ H1 else D.nx σ H1
theorem wB{c:Expr}{body:List Stmt}{tc:TT}{tb:TS}(z:PassesOwn (model X.prog X.w) X.A X.env X.xe)(O:PT X c tc)(P:PSs X body tb):PS X (.While c body [] pos) (AH tc tb):=by
 intro d s σ H D I h
 obtain ⟨W,⟨m0,C⟩,e⟩:=h
 refine wpAny_While (codeAny_whileLoop (λn F=>∃σ' H',Inv X d σ' H' F/\W n σ' H') ?_ m0 ⟨σ,H,I,C⟩)
 rintro n J ⟨j,H1,K,L⟩
 refine wpAny_passesOwn z (thn (O d J j H1 _ K (e n j H1 L)) λb G ⟨x,y,q2⟩=>?_)
 cases b with
 | true =>
  obtain ⟨N,u,q2⟩:=q2
  rw [if_pos rfl]
  refine wpAny_passesOwn z (thn (P d G j x _ y q2) λf Q q3=>?_)
  cases f with
  | next =>
   obtain ⟨g,i,l,m⟩:=q3
   obtain ⟨o,q,r⟩:=u g i m
   exact ⟨o,q,g,i,l,r⟩
  | cont =>
   obtain ⟨g,i,l,m⟩:=q3
   obtain ⟨o,q,r⟩:=u g i m
   exact ⟨o,q,g,i,l,r⟩
  | brk=>exact q3
  | ret v=>exact q3
 | false =>
  rw [if_neg Bool.false_ne_true]
  exact wpAny_execs_nil ⟨j,x,y,q2⟩
end
structure It where
 go:Nat->Hp->Prop
 yld:Nat->Hp->V->Hp->Prop
 stop:Nat->Hp->Prop
def rq(X:Cx)(pins:List (Addr×Obj))(H:Hp)(b:Addr):Prop :=
 H b=none/\b≠X.env.locals/\b∉X.fs/\(b∈X.ex\/X.s₀.heap.objs.size<=b)/\(∀x c,X.env.cells.lookup x=some c->c≠b)/\∀p∈X.pn++pins,p.1≠b
theorem Inv.fpOk{X:Cx}{d:List (Addr×Obj)}{σ:St}{H H':Hp}{s:Shared}{b:Addr}(I:Inv X d σ H s)(f:s.heap.objs.size<=b)(h:H' b=none):rq X d H' b:=by
 refine ⟨h,Nat.ne_of_gt (Nat.lt_of_lt_of_le I.lt f),I.nofs f,.inr (Λ I.sz f),λx c e z=>?_,λp g z=>?_⟩
 ·obtain ⟨v,q⟩:=I.cell x c e
  exact absurd (Nat.lt_of_lt_of_le q.lt (by rw [z];exact f)) (Nat.lt_irrefl _)
 ·exact absurd (Nat.lt_of_lt_of_le (η (I.pin p g).1) (by rw [z];exact f)) (Nat.lt_irrefl _)
structure vq(P:Program)(w:World)(K:Frag)(tg:Expr)(J:It)(fp:List Addr)(it:Addr)(tn:Nat->Heap->Prop):Prop where
 mem:it∈fp
 obj:∀i h,tn i h->∀b∈fp,∃o,h.get? b=some o/\∀v,o.data≠.cell v
 keep:∀i h h',tn i h->(∀b∈fp,∀o,h.get? b=some o->h'.get? b=some o)->tn i h'
 item:∀(X:Cx),X.prog=P->X.w=w->X.K=K->X.calm=true->∀(i:Nat) (pins:List (Addr×Obj)) (s:Shared) (σ:St) (H:Hp) (E:Value->Shared->Prop),Inv X pins σ H s->(∀b∈fp,rq X pins H b)->tn i s.heap->J.go i H ->
  wpAny (model P w) X.A (pyNext (.ref it)) (λr s1=>∃u,r=some u /\
   wpAny (model P w) X.A (letOwnedTupleGo tg (.ref it) u) (λ_ s2=>∃x H',Inv X pins σ H' s2/\RelV x u/\J.yld i H x H'/\tn (i+1) s2.heap/\∀b∈fp,H' b=none) E s1) E s
 done:∀(X:Cx),X.prog=P->X.w=w->X.K=K->X.calm=true->∀(i:Nat) (pins:List (Addr×Obj)) (s:Shared) (σ:St) (H:Hp) (E:Value->Shared->Prop),Inv X pins σ H s->(∀b∈fp,rq X pins H b)->tn i s.heap->J.stop i H ->
  wpAny (model P w) X.A (pyNext (.ref it)) (λr s1=>r=none/\Inv X pins σ H s1) E s
 self:∀(A:Around) (i:Nat) (s:Shared) (Q:Value->Shared->Prop) (E:Value->Shared->Prop),tn i s.heap->Q (.ref it) s->wpAny (model P w) A (pyIter (.ref it)) Q E s
abbrev TI:=St->Hp->(It->Hp->Prop)->Prop
def PIE(X:Cx)(pins:List (Addr×Obj))(σ:St)(tg:Expr)(R:It->Hp->Prop)(itv:Value)(s2:Shared):Prop :=
 ∃(it:Addr) (fp:List Addr) (tn:Nat->Heap->Prop) (J:It) (H':Hp),itv=.ref it/\Inv X pins σ H' s2/\vq X.prog X.w X.K tg J fp it tn/\tn 0 s2.heap/\(∀b∈fp,rq X pins H' b)/\R J H'
def PI(X:Cx)(tg iter:Expr)(wi:TI):Prop :=
 ∀(pins:List (Addr×Obj)) (s:Shared) (σ:St) (H:Hp) (R:It->Hp->Prop),Inv X pins σ H s->wi σ H R ->
  wpAny (model X.prog X.w) X.A (eval iter X.env) (λv s1=>wpAny (model X.prog X.w) X.A (pyIter v) (PIE X pins σ tg R) X.xe s1) X.xe s
theorem qQ{M:Model}{A:Around}{E:Value->Shared->Prop}{s:Shared}{d:Expr}{it:Addr}{u:Value}{o:Obj}{n:String}{vs:Array Value}{Q:Unit->Shared->Prop}(e:s.heap.get? it=some o)(f:o.cls=.type n)(g:o.data=.fields vs)
  (i:["enumerate","zip","dict_itemiterator","dict_reverseitemiterator","odict_iterator","itertools.zip_longest","itertools.pairwise"].contains n=false)(b:Q () s):wpAny M A (letOwnedTupleGo d (.ref it) u) Q E s:=by
 unfold letOwnedTupleGo
 cases d<;>first
  | exact π b
  | (cases u<;>first
    | exact π b
    | (refine ε (wpAny_load e ?_)
       rw [f,g]
       show wpAny M A (if (["enumerate","zip","dict_itemiterator","dict_reverseitemiterator","odict_iterator","itertools.zip_longest","itertools.pairwise"].contains n&&vs[0]?==some (rawInt _))=true then _ else _) Q E s
       rw [if_neg (by intro h;rw [i,Bool.false_and] at h;cases h)]
       exact π b))
def Itl(K:Frag)(a:Addr):It :=
 ⟨λi H=>∃xs x,SqL K H a xs/\xs[i]?=some x,λi H x H'=>H'=H/\∀xs,SqL K H a xs->xs[i]?=some x,λi H=>∃xs,SqL K H a xs/\xs.length<=i⟩
def Itt(K:Frag)(a:Addr):It :=
 ⟨λi H=>∃xs x,SqT K H a xs/\xs[i]?=some x,λi H x H'=>H'=H/\∀xs,SqT K H a xs->xs[i]?=some x,λi H=>∃xs,SqT K H a xs/\xs.length<=i⟩
def Itr(lo:Int)(n:Nat):It:=⟨λi _=>i<n,λi H x H'=>H'=H/\x=.int (lo+i),λi _=>n<=i⟩
theorem uA{P:Program}{w:World}{K:Frag}{tg:Expr}(a it:Addr):vq P w K tg (Itl K a) [it] it (λi h=>h.IsListIter it a i) where
 mem:=by simp
 obj:=λi h st b hb=>by
  have e:b=it:=by simpa using hb
  subst e
  obtain ⟨o,e,c,d⟩:=st
  exact ⟨o,e,λv z=>by rw [d] at z;cases z⟩
 keep:=λi h h' st k=>st.at λo e=>k it (by simp) o e
 item:=by
  intro X G J L Q i f s σ H E I hf st O
  subst G J L
  obtain ⟨U,x,j,l⟩:=O
  obtain ⟨m,q,p,W⟩:=I.list j
  obtain ⟨u,Y,Z⟩:=q.get l
  obtain ⟨r,y,f2,C,D,F⟩:=hf it (by simp)
  refine wpAny_pyNext_list_item st p.isList (x:=u) (by simpa using Y) λh' g sb=>?_
  have I1:Inv X f σ H {s with heap:=h'}:=I.turned (t':=s.toks) (λb o hb e=>(sb.2 b hb).trans e) r y C D F
  obtain ⟨o,e,c,d⟩:=id g
  exact ⟨u,ϱ,qQ (s:={s with heap:=h'}) e c d ζ ⟨x,H,I1,Z,⟨ϱ,λys hy=>by rw [I.list_inj hy j];exact l⟩,g,λb hb=>(hf b hb).1⟩⟩
 done:=by
  intro X G J L Q i f s σ H E I hf st O
  subst G J L
  obtain ⟨U,j,l⟩:=O
  obtain ⟨m,q,p,W⟩:=I.list j
  obtain ⟨r,y,f2,C,D,F⟩:=hf it (by simp)
  have hl:=q.length
  exact wpAny_pyNext_list_end (I.ok.hd Q) st p.isList (by simp;omega) λh' eb=>⟨ϱ,I.turned (t':=s.toks) (λb o hb e=>eb b o hb e) r y C D F⟩
 self:=λ_ _ _ _ _ st h=>wpAny_pyIter_listiter st h
theorem rB{P:Program}{w:World}{K:Frag}{tg:Expr}(a it:Addr):vq P w K tg (Itt K a) [it] it (λi h=>h.IsTupleIter it a i) where
 mem:=by simp
 obj:=λi h st b hb=>by
  have e:b=it:=by simpa using hb
  subst e
  obtain ⟨o,e,c,d⟩:=st
  exact ⟨o,e,λv z=>by rw [d] at z;cases z⟩
 keep:=λi h h' st k=>st.at λo e=>k it (by simp) o e
 item:=by
  intro X G J L Q i f s σ H E I hf st O
  subst G J L
  obtain ⟨U,x,l,m⟩:=O
  obtain ⟨g,q,p,W⟩:=I.tuple l
  obtain ⟨u,Y,Z⟩:=q.get m
  obtain ⟨r,y,f2,C,D,F⟩:=hf it (by simp)
  refine wpAny_pyNext_tuple_item st (show s.heap.IsTuple a g.toArray from p) (x:=u) (by simpa using Y) λh' j sb=>?_
  have I1:Inv X f σ H {s with heap:=h'}:=I.turned (t':=s.toks) (λb o hb e=>(sb.2 b hb).trans e) r y C D F
  obtain ⟨o,e,c,d⟩:=id j
  exact ⟨u,ϱ,qQ (s:={s with heap:=h'}) e c d ζ ⟨x,H,I1,Z,⟨ϱ,λys hy=>by rw [I.tuple_inj hy l];exact m⟩,j,λb hb=>(hf b hb).1⟩⟩
 done:=by
  intro X G J L Q i f s σ H E I hf st O
  subst G J L
  obtain ⟨U,l,m⟩:=O
  obtain ⟨g,q,p,W⟩:=I.tuple l
  obtain ⟨r,y,f2,C,D,F⟩:=hf it (by simp)
  have hl:=q.length
  exact wpAny_pyNext_tuple_end (I.ok.hd Q) st (show s.heap.IsTuple a g.toArray from p) (by simp;omega) λh' eb=>⟨ϱ,I.turned (t':=s.toks) (λb o hb e=>eb b o hb e) r y C D F⟩
 self:=λ_ _ _ _ _ st h=>wpAny_pyIter_tupleiter st h
theorem rC{P:Program}{w:World}{K:Frag}{Q:Expr}(it:Addr)(lo:Int)(n:Nat):vq P w K Q (Itr lo n) [it] it (λi h=>IsRangeIter h it (lo+(i:Nat)*1) ((n:Int)-(i:Nat)) 1) where
 mem:=by simp
 obj:=λi h st b hb=>by
  have e:b=it:=by simpa using hb
  subst e
  exact ⟨_,st,λv z=>by
   have z':Data.fields _=Data.cell v:=z
   cases z'⟩
 keep:=λi h h' st k=>k it (by simp) _ st
 item:=by
  intro X r u x y i d s σ H E I hf st C
  subst r u x
  obtain ⟨g,j,F,l,m,q⟩:=hf it (by simp)
  have W:=Walks.range (prog:=X.prog) (w:=X.w) (I.ok.hd y) it lo 1 n
  refine W.item i s _ _ C st λv h' D J f L=>?_
  obtain ⟨t,rfl⟩:=J
  have G:Inv X d σ H {s with heap:=h',toks:=D}:=I.turned (λb o hb e=>L b o (by simpa using hb) e) g j l m q
  refine ⟨_,ϱ,qQ (s:={s with heap:=h',toks:=D}) (n:="range_iterator") f rfl rfl ζ ⟨.int (lo+i),H,G,⟨t,?_⟩,⟨ϱ,ϱ⟩,f,λb hb=>(hf b hb).1⟩⟩
  rw [Int.mul_one]
 done:=by
  intro X r u x y i d s σ H E I hf st C
  subst r u x
  obtain ⟨g,j,F,l,m,q⟩:=hf it (by simp)
  exact wpAny_pyNext_range_end (I.ok.hd y) st (by have:n<=i:=C;omega) λh' O=>⟨ϱ,I.turned (t':=s.toks) (λb o hb e=>O b o hb e) g j l m q⟩
 self:=λ_ _ _ _ _ st h=>wpAny_pyIter_rangeiter st h
section
variable {X:Cx}{tg:Expr}
inductive XIL (K:Frag) (R:It->Hp->Prop) (x:V) (H:Hp):Prop|mk a:x=.ref a->(∃xs,SqL K H a xs)->R (Itl K a) H->XIL K R x H
def Dm(K:Frag)(tl:TE):TI:=fun σ H R=>tl σ H λx H1=>XIL K R x H1
inductive XIT (K:Frag) (R:It->Hp->Prop) (x:V) (H:Hp):Prop|mk a:x=.ref a->(∃xs,SqT K H a xs)->R (Itt K a) H->XIT K R x H
def DM(K:Frag)(tl:TE):TI:=fun σ H R=>tl σ H λx H1=>XIT K R x H1
theorem bZ{l:Expr}{i:TE}(w:PE X l i):PI X tg l (Dm X.K i):=by
 intro d s σ H R I h
 refine thn (w d s σ H _ I h) λv f ⟨x,H1,g,r,q1⟩=>?_
 obtain ⟨a,e,⟨y,j⟩,q⟩:=q1
 subst e
 cases r
 obtain ⟨m,z,p,C⟩:=g.list j
 refine wpAny_pyIter_list p.isList ?_
 refine ⟨f.heap.objs.size,[f.heap.objs.size],_,_,H1,ϱ,g.kept (t':=f.toks) λb o e=>ρ _ e,uA a _,⟨_,ψ _ rfl,ϱ,ϱ⟩,λb u=>?_,q⟩
 have e:b=f.heap.objs.size:=by simpa using u
 subst e
 exact g.fpOk (ι _) (g.hok.fresh (ι _))
theorem wC{l:Expr}{j:TE}(w:PE X l j):PI X tg l (DM X.K j):=by
 intro f s σ H R I h
 refine thn (w f s σ H _ I h) λv d ⟨x,H1,g,r,q1⟩=>?_
 obtain ⟨a,e,⟨y,m⟩,q⟩:=q1
 subst e
 cases r
 obtain ⟨i,z,p,C⟩:=g.tuple m
 refine wpAny_pyIter_tuple (show d.heap.IsTuple a i.toArray from p) ?_
 refine ⟨d.heap.objs.size,[d.heap.objs.size],_,_,H1,ϱ,g.kept (t':=d.toks) λb o e=>ρ _ e,rB a _,⟨_,ψ _ rfl,ϱ,ϱ⟩,λb u=>?_,q⟩
 have e:b=d.heap.objs.size:=by simpa using u
 subst e
 exact g.fpOk (ι _) (g.hok.fresh (ι _))
theorem qm{f:List (Addr×Obj)}{σ:St}{H:Hp}{s:Shared}{R:It->Hp->Prop}{E:Value->Shared->Prop}{lo d:Int}{t u v:Tok}{h:Nat}(I:Inv X f σ H s)(h1:-(2 ^ 62)<=lo)(m:lo<2 ^ 62)(r:-(2 ^ 62)<=d)(x:d<2 ^ 62)
  (q:R (Itr lo (d-lo).toNat) H):wpAny (model X.prog X.w) X.A (pyIter (.ref s.heap.objs.size)) (PIE X f σ tg R) E {s with heap:=s.heap.push {cls:=.type "range",data:=.fields #[.int lo t,.int d u,.int 1 v]},toks:=h}:=by
 refine wpAny_pyIter_range (IsRange.new ..) (small_one h1 m r x) ?_
 have g:Inv X f σ H {s with heap:=s.heap.push {cls:=.type "range",data:=.fields #[.int lo t,.int d u,.int 1 v]},toks:=h}:=I.kept λb o e=>ρ _ e
 refine ⟨(s.heap.push {cls:=.type "range",data:=.fields #[.int lo t,.int d u,.int 1 v]}).objs.size,[(s.heap.push {cls:=.type "range",data:=.fields #[.int lo t,.int d u,.int 1 v]}).objs.size],_,_,H,ϱ,
  g.kept (t':=h) λb o e=>ρ _ e,rC _ lo (d-lo).toNat,?_,λb l=>?_,q⟩
 ·have i:lo+((0:Nat):Int)*1=lo:=by simp
  have j:(((d-lo).toNat:Nat):Int)-((0:Nat):Int)=Builtin.Range.rangeSize lo d 1:=by rw [rangeSize_one];split<;>omega
  show IsRangeIter _ _ (lo+((0:Nat):Int)*1) ((((d-lo).toNat:Nat):Int)-((0:Nat):Int)) 1
  rw [i,j]
  exact ψ _ rfl
 ·have e:b=(s.heap.push {cls:=.type "range",data:=.fields #[.int lo t,.int d u,.int 1 v]}).objs.size:=by simpa using l
  subst e
  exact g.fpOk (ι _) (g.hok.fresh (ι _))
def Dl(ta:TA):TI:=fun σ H R=>ta σ H λvs H1=>∃j:Int,vs=[.int j]/\-(2 ^ 62)<=j/\j<2 ^ 62/\R (Itr 0 j.toNat) H1
def Dk(ta:TA):TI:=fun σ H R=>ta σ H λvs H1=>∃i j:Int,vs=[.int i,.int j]/\(-(2 ^ 62)<=i/\i<2 ^ 62/\-(2 ^ 62)<=j/\j<2 ^ 62)/\R (Itr i (j-i).toNat) H1
theorem cN{a:Expr}{ta:TA}{p pos:Pos}(g:Gl X "range")(i:X.mg "range"=none)(l:PA X [a] ta)(m:starEach [a] X.env=[(false,eval a X.env)]:=by rfl):PI X tg (.Call (.Name "range" p) [a] [] pos) (Dl ta):=by
 intro b s σ H R I h
 refine Call_ (mO I g i boot_range (PyProof.Rows.callWith_type1 (thn (l pos b s σ H _ I h) λo u ⟨vs,H1,d,f,q1⟩=>?_) m rfl))
 obtain ⟨j,e,q1,q2,q⟩:=q1
 subst e
 cases f with
 | cons r rr =>
  cases rr
  obtain ⟨t,rfl⟩:=r
  exact call_range_1 (qm d ω ω q1 q2 (by simpa using q))
theorem uO{a b:Expr}{ta:TA}{p pos:Pos}(m:Gl X "range")(o:X.mg "range"=none)(u:PA X [a,b] ta)(w:starEach [a,b] X.env=[(false,eval a X.env),(false,eval b X.env)]:=by rfl)(f:starEach [b] X.env=[(false,eval b X.env)]:=by rfl) :
  PI X tg (.Call (.Name "range" p) [a,b] [] pos) (Dk ta):=by
 intro d s σ H R I h
 refine Call_ (mO I m o boot_range (PyProof.Rows.callWith_type1 (thn (u pos d s σ H _ I h) λy z ⟨vs,H1,g,l,q1⟩=>?_) (by rw [w,f]) (by rw [f];rfl)))
 obtain ⟨i,j,e,⟨q1,q2,q3,q4⟩,q⟩:=q1
 subst e
 cases l with
 | cons r rr =>
  cases rr with
  | cons r' rr =>
   cases rr
   obtain ⟨t,rfl⟩:=r
   obtain ⟨x,rfl⟩:=r'
   exact call_range_2 (qm g q1 q2 q3 q4 q)
def DD(wi:TI)(g:TG)(tb:TS):TS:=λD σ H=>wi σ H λJ H1=>∃W:Nat->Nat->St->Hp->Prop,(∃m,W 0 m σ H1)/\∀i m σ H,W i m σ H ->
 (J.stop i H/\D.nx σ H)\/(J.go i H/\∃N:St->Hp->Prop,(∀σ' H',N σ' H'->∃m',m'<m/\W (i+1) m' σ' H')/\∀x H',J.yld i H x H'->g x σ H' fun σ2 H2=>tb {D with nx:=N,ct:=N,bk:=D.nx} σ2 H2)
def mw(fp:List Addr)(h:Heap):List (Addr×Obj):=fp.filterMap λb=>(h.get? b).map λo=>(b,o)
theorem gr{fp:List Addr}{h:Heap}{b:Addr}{o:Obj}(hb:b∈fp)(e:h.get? b=some o):(b,o)∈mw fp h:=List.mem_filterMap.mpr ⟨b,hb,by rw [e];rfl⟩
theorem uZ{d:List Addr}{h:Heap}{p:Addr×Obj}(i:p∈mw d h):p.1∈d/\h.get? p.1=some p.2:=by
 obtain ⟨b,f,e⟩:=List.mem_filterMap.mp i
 cases q:h.get? b with
 | none=>rw [q] at e;cases e
 | some o =>
  rw [q] at e
  have g:(b,o)=p:=Δ e
  subst g
  exact ⟨f,q⟩
theorem Inv.pinned{pins:List (Addr×Obj)}{σ:St}{H:Hp}{s:Shared}{fp:List Addr}(I:Inv X pins σ H s)(hf:∀b∈fp,rq X pins H b)(ho:∀b∈fp,∃o,s.heap.get? b=some o/\∀v,o.data≠.cell v):Inv X (pins++mw fp s.heap) σ H s :=
 I.pins_of λp hp=>(List.mem_append.mp hp).elim (λz=>I.pin p (Ψ _ z)) λz=>by
  obtain ⟨hb,e⟩:=uZ z
  obtain ⟨f0,f1,f2,_⟩:=hf p.1 hb
  obtain ⟨o,e',d⟩:=ho p.1 hb
  rw [e] at e';cases e'
  exact ⟨e,f0,f1,f2,d⟩
theorem Inv.unpinned{pins pl:List (Addr×Obj)}{σ:St}{H:Hp}{s:Shared}(I:Inv X (pins++pl) σ H s):Inv X pins σ H s:=I.pins_of λp hp=>I.pin p (Ψ _ (List.mem_append_left _ hp))
theorem hW{G:Expr}{body:List Stmt}{wi:TI}{g:TG}{tb:TS}{pos:Pos}(Z:PassesOwn (model X.prog X.w) X.A X.env X.xe)(hc:X.calm=true)(hi:PI X tg G wi)(hg:PG X tg g)(F:PSs X body tb)
  (hs:∀x,foldedSetIterable G X.env x=pure x:=by intro _;rfl):PS X (.For tg G body [] pos) (DD wi g tb):=by
 intro j s σ H D I h
 refine wpAny_For (thn (hi j s σ H _ I h) λv s1 h1=>thn h1 λbr s2 h2=>?_) hs
 obtain ⟨it,L,tn,J,H2,e,I2,T,a1,f2,W,⟨m0,w0⟩,O⟩:=h2
 subst e
 have z:∀{H':Hp},(∀b∈L,H' b=none)->∀b∈L,rq X j H' b:=λhn b F=>⟨hn b F,(f2 b F).2⟩
 refine codeAny_forLoop_any (λn s'=>∃i σ' H',Inv X j σ' H' s'/\tn i s'.heap/\(∀b∈L,H' b=none)/\W i n σ' H') ?_ m0 ⟨0,σ,H2,I2,a1,λb F=>(f2 b F).1,w0⟩
 rintro n s3 ⟨i,Q,H3,I3,U,Y,w3⟩
 rcases O i n Q H3 w3 with ⟨stop,qn⟩ | ⟨go,N,hN,step⟩
 ·refine wpAny_passesOwn Z (thn (T.done X rfl rfl rfl hc i j s3 Q H3 X.xe I3 (z Y) U stop) λr s4 ⟨hr,I4⟩=>?_)
  subst hr
  exact wpAny_execs_nil ⟨Q,H3,I4,qn⟩
 ·refine wpAny_passesOwn Z (thn (T.item X rfl rfl rfl hc i j s3 Q H3 X.xe I3 (z Y) U go) λr s4 ⟨u,hr,h4⟩=>?_)
  subst hr
  refine wpAny_passesOwn Z (thn h4 λ_ s5 ⟨x,H5,I5,r5,y5,K,a4⟩=>?_)
  have a2:=I5.pinned (z a4) (T.obj _ _ K)
  refine wpAny_passesOwn Z (thn (hg _ s5 Q H5 x u _ a2 r5 (step x H5 y5)) λ_ s6 ⟨σ6,H6,I6,q6⟩=>?_)
  refine wpAny_passesOwn Z (thn (F _ s6 σ6 H6 _ I6 q6) λf s7 q7=>?_)
  have C:∀{l:St} {q:Hp},Inv X (j++mw L s5.heap) l q s7->N l q->∃m,m<n/\∃i σ' H',Inv X j σ' H' s7/\tn i s7.heap/\(∀b∈L,H' b=none)/\W i m σ' H':=λ{l q} y P=>by
   obtain ⟨m',hm,w7⟩:=hN l q P
   refine ⟨m',hm,i+1,l,q,y.unpinned,T.keep _ _ _ K λb F o e=>(y.pin (b,o) (Ψ _ (Ψ _ (gr F e)))).1,λb F=>?_,w7⟩
   obtain ⟨o,e,d⟩:=T.obj _ _ K b F
   exact (y.pin (b,o) (Ψ _ (Ψ _ (gr F e)))).2.1
  cases f with
  | next=>obtain ⟨l,q,y,P⟩:=q7;exact C y P
  | cont=>obtain ⟨l,q,y,P⟩:=q7;exact C y P
  | brk=>obtain ⟨l,q,y,q7⟩:=q7;exact ⟨l,q,y.unpinned,q7⟩
  | ret v=>obtain ⟨x7,l,q,y,r7,q7⟩:=q7;exact ⟨x7,l,q,y.unpinned,r7,q7⟩
end
theorem qT{K:Frag}{a:Addr}{xs:List V}{g:TG}{tb:TS}{D:Ends}{σ:St}{H:Hp}(b:Nat->St->Hp->Prop)(h0:b 0 σ H)(h:∀i σ H,i<=xs.length->b i σ H->SqL K H a xs)
  (j:∀i x σ H,xs[i]?=some x->b i σ H->g x σ H fun σ2 H2=>tb {D with nx:=b (i+1),ct:=b (i+1),bk:=D.nx} σ2 H2)(l:∀σ H,b xs.length σ H->D.nx σ H) :
  ∃W:Nat->Nat->St->Hp->Prop,(∃m,W 0 m σ H)/\∀i m σ H,W i m σ H ->
   ((Itl K a).stop i H/\D.nx σ H)\/((Itl K a).go i H/\∃N:St->Hp->Prop,(∀σ' H',N σ' H'->∃m',m'<m/\W (i+1) m' σ' H')/\∀x H',(Itl K a).yld i H x H'->g x σ H' fun σ2 H2=>tb {D with nx:=N,ct:=N,bk:=D.nx} σ2 H2):=by
 refine ⟨λi m σ H=>m=xs.length-i/\i<=xs.length/\b i σ H,⟨xs.length,by simp,Nat.zero_le _,h0⟩,?_⟩
 rintro i m σ H ⟨rfl,f,p⟩
 have q:=h i σ H f p
 by_cases hlt:i<xs.length
 ·refine .inr ⟨⟨xs,xs[i],q,by simp [hlt]⟩,b (i+1),fun σ' H' d=>⟨xs.length-(i+1),ω,ϱ,hlt,d⟩,λx H' y=>?_⟩
  obtain ⟨e,y⟩:=y
  subst e
  exact j i x σ _ (y xs q) p
 ·have e:i=xs.length:=by omega
  subst e
  exact .inl ⟨⟨xs,q,ι _⟩,l σ H p⟩
theorem uh{K:Frag}{a:Addr}{xs:List V}{g:TG}{tb:TS}{D:Ends}{σ:St}{H:Hp}(b:Nat->St->Hp->Prop)(h0:b 0 σ H)(h:∀i σ H,i<=xs.length->b i σ H->SqT K H a xs)
  (j:∀i x σ H,xs[i]?=some x->b i σ H->g x σ H fun σ2 H2=>tb {D with nx:=b (i+1),ct:=b (i+1),bk:=D.nx} σ2 H2)(l:∀σ H,b xs.length σ H->D.nx σ H) :
  ∃W:Nat->Nat->St->Hp->Prop,(∃m,W 0 m σ H)/\∀i m σ H,W i m σ H ->
   ((Itt K a).stop i H/\D.nx σ H)\/((Itt K a).go i H/\∃N:St->Hp->Prop,(∀σ' H',N σ' H'->∃m',m'<m/\W (i+1) m' σ' H')/\∀x H',(Itt K a).yld i H x H'->g x σ H' fun σ2 H2=>tb {D with nx:=N,ct:=N,bk:=D.nx} σ2 H2):=by
 refine ⟨λi m σ H=>m=xs.length-i/\i<=xs.length/\b i σ H,⟨xs.length,by simp,Nat.zero_le _,h0⟩,?_⟩
 rintro i m σ H ⟨rfl,f,p⟩
 have q:=h i σ H f p
 by_cases hlt:i<xs.length
 ·refine .inr ⟨⟨xs,xs[i],q,by simp [hlt]⟩,b (i+1),fun σ' H' d=>⟨xs.length-(i+1),ω,ϱ,hlt,d⟩,λx H' y=>?_⟩
  obtain ⟨e,y⟩:=y
  subst e
  exact j i x σ _ (y xs q) p
 ·have e:i=xs.length:=by omega
  subst e
  exact .inl ⟨⟨xs,q,ι _⟩,l σ H p⟩
theorem iw{lo:Int}{n:Nat}{g:TG}{tb:TS}{D:Ends}{σ:St}{H:Hp}(b:Nat->St->Hp->Prop)(h0:b 0 σ H)
  (f:∀i σ H,i<n->b i σ H->g (.int (lo+i)) σ H fun σ2 H2=>tb {D with nx:=b (i+1),ct:=b (i+1),bk:=D.nx} σ2 H2)(h:∀σ H,b n σ H->D.nx σ H) :
  ∃W:Nat->Nat->St->Hp->Prop,(∃m,W 0 m σ H)/\∀i m σ H,W i m σ H ->
   ((Itr lo n).stop i H/\D.nx σ H)\/((Itr lo n).go i H/\∃N:St->Hp->Prop,(∀σ' H',N σ' H'->∃m',m'<m/\W (i+1) m' σ' H')/\∀x H',(Itr lo n).yld i H x H'->g x σ H' fun σ2 H2=>tb {D with nx:=N,ct:=N,bk:=D.nx} σ2 H2):=by
 refine ⟨λi m σ H=>m=n-i/\i<=n/\b i σ H,⟨n,by simp,Nat.zero_le _,h0⟩,?_⟩
 rintro i m σ H ⟨rfl,j,p⟩
 by_cases hlt:i<n
 ·refine .inr ⟨hlt,b (i+1),fun σ' H' d=>⟨n-(i+1),ω,ϱ,hlt,d⟩,λx H' y=>?_⟩
  obtain ⟨e,y⟩:=y
  subst e y
  exact f i σ _ hlt p
 ·have e:i=n:=by omega
  subst e
  exact .inl ⟨ι _,h σ H p⟩
abbrev R2:=V->V->Hp->VK->Prop
def OpR(X:Cx)(f:Value->Value->Sem Value)(r:R2):Prop :=
 ∀(pins:List (Addr×Obj)) (s:Shared) (σ:St) (H:Hp) (x y:V) (v u:Value) (Q:VK),Inv X pins σ H s->RelV x v->RelV y u->r x y H Q ->
  wpAny (model X.prog X.w) X.A (f v u) (EP X pins σ Q) X.xe s
def UnR(X:Cx)(f:Value->Sem Value)(r:V->Hp->VK->Prop):Prop :=
 ∀(pins:List (Addr×Obj)) (s:Shared) (σ:St) (H:Hp) (x:V) (v:Value) (Q:VK),Inv X pins σ H s->RelV x v->r x H Q ->
  wpAny (model X.prog X.w) X.A (f v) (EP X pins σ Q) X.xe s
def cV(X:Cx)(f:Value)(r:List V->Hp->VK->Prop):Prop :=
 ∀(pins:List (Addr×Obj)) (s:Shared) (σ:St) (H:Hp) (xs:List V) (us:List Value) (Q:VK),Inv X pins σ H s->Vals xs us->r xs H Q ->
  wpAny (model X.prog X.w) X.A (call f us) (EP X pins σ Q) X.xe s
def tOp(r:R2)(ta tb:TE):TE:=fun σ H Q=>ta σ H λx H1=>tb σ H1 λy H2=>r x y H2 Q
def tUn(r:V->Hp->VK->Prop)(ta:TE):TE:=fun σ H Q=>ta σ H λx H1=>r x H1 Q
inductive XI (C:Int->Int->Prop) (g:Int->Int->V) (x y:V) (H:Hp) (Q:VK):Prop|mk i j:x=.int i->y=.int j->C i j->Q (g i j) H->XI C g x y H Q
def rI(C:Int->Int->Prop)(g:Int->Int->V):R2:=λx y H Q=>XI C g x y H Q
inductive XI0 (g:Int->Int->V) (x y:V) (H:Hp) (Q:VK):Prop|mk i j:x=.int i->y=.int j->Q (g i j) H->XI0 g x y H Q
def rI0(g:Int->Int->V):R2:=λx y H Q=>XI0 g x y H Q
def rU(g:Int->V):V->Hp->VK->Prop:=λx H Q=>∃i,x=.int i/\Q (g i) H
section
variable {X:Cx}{a b c:Expr}{ta tb tc:TE}{pos:Pos}
theorem B5(m:PE X a ta)(o:PE X b tb){d:List (Addr×Obj)}{s:Shared}{σ:St}{H:Hp}{R:V->V->Hp->Prop}(I:Inv X d σ H s)
  (h:ta σ H λx H1=>tb σ H1 λy H2=>R x y H2){Q:Value->Shared->Prop}{f:Value->Value->Sem Value}
  (hf:∀v u s2 x y H2,Inv X d σ H2 s2->RelV x v->RelV y u->R x y H2->wpAny (model X.prog X.w) X.A (f v u) Q X.xe s2) :
  wpAny (model X.prog X.w) X.A (eval a X.env) (λv s₁=>wpAny (model X.prog X.w) X.A (eval b X.env) (λu s₂=>wpAny (model X.prog X.w) X.A (f v u) Q X.xe s₂) X.xe s₁) X.xe s:=by
 refine thn (m d s σ H _ I h) λv e ⟨x,H1,g,i,q1⟩=>?_
 refine thn (o d e σ H1 _ g q1) λu s2 ⟨y,H2,j,l,q2⟩=>?_
 exact hf v u s2 x y H2 j i l q2
theorem aH{op:Operator}{r:R2}(l:OpR X (binaryOp op) r)(m:PE X a ta)(o:PE X b tb):PE X (.BinOp a op b pos) (tOp r ta tb):=by
 intro d s σ H Q I h
 exact wpAny_BinOp (B5 m o I h λv u e x y f g i j q=>l d e σ f x y v u Q g i j q)
theorem Ap{op:UnaryOp}{r:V->Hp->VK->Prop}(g:UnR X (unaryOp op) r)(i:PE X a ta):PE X (.UnaryOp op a pos) (tUn r ta):=by
 intro b s σ H Q I h
 exact UnaryOp_ (thn (i b s σ H _ I h) λv d ⟨x,H1,e,f,q1⟩=>g b d σ H1 x v Q e f q1)
theorem opI{f:Value->Value->Sem Value}{C:Int->Int->Prop}{g:Int->Int->Int}
  (b:∀(i j:Int) (t u:Tok) (s:Shared) (Q:Value->Shared->Prop) (E:Value->Shared->Prop),C i j->Q (.int (g i j) s.toks) {s with toks:=s.toks+1}->wpAny (model X.prog X.w) X.A (f (.int i t) (.int j u)) Q E s) :
  OpR X f (rI C λi j=>.int (g i j)):=by
 intro d s σ H x y v u Q I m o h
 obtain ⟨i,j,rfl,rfl,e,q⟩:=h
 obtain ⟨t,rfl⟩:=m
 obtain ⟨l,rfl⟩:=o
 exact b i j t l s _ _ e ⟨.int (g i j),H,I.tok _,⟨_,ϱ⟩,q⟩
theorem C4{f:Value->Value->Sem Value}{g:Int->Int->Int}
  (b:∀(i j:Int) (t u:Tok) (s:Shared) (Q:Value->Shared->Prop) (E:Value->Shared->Prop),Q (.int (g i j) s.toks) {s with toks:=s.toks+1}->wpAny (model X.prog X.w) X.A (f (.int i t) (.int j u)) Q E s) :
  OpR X f (rI0 λi j=>.int (g i j)):=by
 intro d s σ H x y v u Q I l m h
 obtain ⟨i,j,rfl,rfl,q⟩:=h
 obtain ⟨t,rfl⟩:=l
 obtain ⟨e,rfl⟩:=m
 exact b i j t e s _ _ ⟨.int (g i j),H,I.tok _,⟨_,ϱ⟩,q⟩
theorem zd{f:Value->Value->Sem Value}{g:Int->Int->Bool}
  (b:∀(i j:Int) (t u:Tok) (s:Shared) (Q:Value->Shared->Prop) (E:Value->Shared->Prop),Q (.bool (g i j)) s->wpAny (model X.prog X.w) X.A (f (.int i t) (.int j u)) Q E s) :
  OpR X f (rI0 λi j=>.bl (g i j)):=by
 intro d s σ H x y v u Q I l m h
 obtain ⟨i,j,rfl,rfl,q⟩:=h
 obtain ⟨t,rfl⟩:=l
 obtain ⟨e,rfl⟩:=m
 exact b i j t e s _ _ ⟨.bl (g i j),H,I,ϱ,q⟩
def DX(i j:Int):Prop:=0<j/\j<1073741824
def DW(i j:Int):Prop:=0<=j/\j<=1000000/\i.natAbs<2 ^ 64
def CMul(i j:Int):Prop:=(-(2 ^ 64)<i/\i<2 ^ 64)\/(-(2 ^ 64)<j/\j<2 ^ 64)
theorem CMul.ok{i j:Int}(h:CMul i j):IntMulOk i j:=by
 rcases h with ⟨h1,h2⟩ | ⟨h1,h2⟩
 ·exact .of_left (intBits_le_64 h1 h2)
 ·exact .of_right (intBits_le_64 h1 h2)
theorem dX:OpR X (binaryOp .Add) (rI0 λi j=>.int (i+j)):=C4 λ_ _ _ _ _ _ _ q=>add_int q
theorem mC:OpR X (binaryOp .Sub) (rI0 λi j=>.int (i-j)):=C4 λ_ _ _ _ _ _ _ q=>sub_int q
theorem wM:OpR X (binaryOp .Mult) (rI CMul λi j=>.int (i*j)):=opI λ_ _ _ _ _ _ _ hc q=>mul_int q hc.ok
theorem bw:OpR X (binaryOp .FloorDiv) (rI DX λi j=>.int (i/j)):=opI λi j _ _ _ _ _ hc q=>by
 have h1:(0:Int)<j:=hc.1
 have h2:j<1073741824:=hc.2
 exact floordiv_int ω (by rw [Int.fdiv_eq_ediv_of_nonneg i ω];exact q) (.inl (PyProof.noPylong_small ω))
theorem bQ:OpR X (binaryOp .Mod) (rI (λ_ j=>0<j) λi j=>.int (i%j)):=opI λi j _ _ _ _ _ hc q=>by
 have h1:(0:Int)<j:=hc
 exact mod_int' ω (by rw [Int.fmod_eq_emod_of_nonneg i ω];exact q)
theorem sd:OpR X (binaryOp .Pow) (rI DW λi j=>.int (i ^ j.toNat)):=opI λ_ _ _ _ _ _ _ hc q=>pow_int_small hc.1 hc.2.1 hc.2.2 q
theorem unI{f:Value->Sem Value}{g:Int->Int}
  (b:∀(i:Int) (t:Tok) (s:Shared) (Q:Value->Shared->Prop) (E:Value->Shared->Prop),Q (.int (g i) s.toks) {s with toks:=s.toks+1}->wpAny (model X.prog X.w) X.A (f (.int i t)) Q E s) :
  UnR X f (rU λi=>.int (g i)):=by
 intro d s σ H x v Q I e h
 obtain ⟨i,rfl,q⟩:=h
 obtain ⟨t,rfl⟩:=e
 exact b i t s _ _ ⟨.int (g i),H,I.tok _,⟨_,ϱ⟩,q⟩
theorem vH:UnR X (unaryOp .USub) (rU λi=>.int (-i)):=unI λ_ _ _ _ _ q=>neg_int q
end
def A3:V->V->Bool
 | .non,.non=>true | .non,.int _=>true | .int _,.non=>true | .non,.bl _=>true | .bl _,.non=>true | .non,.str _=>true | .str _,.non=>true
 | .int _,.int _=>true | .bl _,.bl _=>true | .str _,.str _=>true | .byt _,.byt _=>true
 | .int _,.str _=>true | .str _,.int _=>true | .bl _,.str _=>true | .str _,.bl _=>true
 | _,_=>false
def rEq:R2:=λx y H Q=>A3 x y=true/\Q (.bl (decide (x=y))) H
def rNe:R2:=λx y H Q=>A3 x y=true/\Q (.bl (!decide (x=y))) H
theorem pW{i j:Int}:decide (V.int i=V.int j)=(i==j):=by
 rw [Bool.eq_iff_iff]
 simp
theorem ye{i j:Bool}:decide (V.bl i=V.bl j)=(i==j):=by
 rw [Bool.eq_iff_iff]
 simp
theorem um{i j:Str}:decide (V.str i=V.str j)=(i==j):=by
 rw [Bool.eq_iff_iff]
 simp
theorem uo{i j:Array UInt8}:decide (V.byt i=V.byt j)=(i.toList==j.toList):=by
 rw [Bool.eq_iff_iff]
 cases i
 cases j
 simp
section
variable {X:Cx}{a b c:Expr}{ta tb tc:TE}{pos:Pos}
theorem aY{b:List (Addr×Obj)}{σ:St}{H:Hp}{s:Shared}{Q:VK}{k d:Bool}(I:Inv X b σ H s)(q:Q (.bl k) H)(e:k=d):EP X b σ Q (.bool d) s:=by
 subst e
 exact ⟨.bl k,H,I,ϱ,q⟩
theorem bf:OpR X (compareOp .Eq) rEq:=by
 intro g s σ H x y v u Q I f b h
 obtain ⟨e,q⟩:=h
 cases x with
 | non =>
  cases f
  cases y with
  | non=>cases b;exact PySem.EqNone.eq_none_none (aY I q (by simp))
  | bl j=>cases b;exact PySem.EqNone.eq_none_bool (aY I q (by simp))
  | int j=>obtain ⟨d,rfl⟩:=b;exact PySem.EqNone.eq_none_int (aY I q (by simp))
  | str j=>obtain ⟨d,rfl⟩:=b;exact PySem.EqNone.eq_none_str (aY I q (by simp))
  | _=>exact absurd (show false=true from e) Bool.false_ne_true
 | bl i =>
  cases f
  cases y with
  | non=>cases b;exact PySem.EqNone.eq_bool_none (aY I q (by simp))
  | bl j=>cases b;exact eq_bool (aY I q ye)
  | str j=>obtain ⟨d,rfl⟩:=b;exact PySem.EqMixed.eq_bool_str (aY I q (by simp))
  | _=>exact absurd (show false=true from e) Bool.false_ne_true
 | int i =>
  obtain ⟨t,rfl⟩:=f
  cases y with
  | non=>cases b;exact PySem.EqNone.eq_int_none (aY I q (by simp))
  | int j=>obtain ⟨d,rfl⟩:=b;exact eq_int (aY I q pW)
  | str j=>obtain ⟨d,rfl⟩:=b;exact PySem.EqMixed.eq_int_str (aY I q (by simp))
  | _=>exact absurd (show false=true from e) Bool.false_ne_true
 | str i =>
  obtain ⟨t,rfl⟩:=f
  cases y with
  | non=>cases b;exact PySem.EqNone.eq_str_none (aY I q (by simp))
  | bl j=>cases b;exact PySem.EqMixed.eq_str_bool (aY I q (by simp))
  | int j=>obtain ⟨d,rfl⟩:=b;exact PySem.EqMixed.eq_str_int (aY I q (by simp))
  | str j=>obtain ⟨d,rfl⟩:=b;exact eq_str (aY I q um)
  | _=>exact absurd (show false=true from e) Bool.false_ne_true
 | byt i =>
  obtain ⟨t,rfl⟩:=f
  cases y with
  | byt j=>obtain ⟨d,rfl⟩:=b;exact PySem.W.eq_bytes (aY I q uo)
  | _=>exact absurd (show false=true from e) Bool.false_ne_true
 | _=>cases y<;>exact absurd (show false=true from e) Bool.false_ne_true
theorem oC:OpR X (compareOp .NotEq) rNe:=by
 intro g s σ H x y v u Q I f b h
 obtain ⟨e,q⟩:=h
 cases x with
 | non =>
  cases f
  cases y with
  | non=>cases b;exact PySem.EqNone.ne_none_none (aY I q (by simp))
  | bl j=>cases b;exact PySem.EqNone.ne_none_bool (aY I q (by simp))
  | int j=>obtain ⟨d,rfl⟩:=b;exact PySem.EqNone.ne_none_int (aY I q (by simp))
  | str j=>obtain ⟨d,rfl⟩:=b;exact PySem.EqNone.ne_none_str (aY I q (by simp))
  | _=>exact absurd (show false=true from e) Bool.false_ne_true
 | bl i =>
  cases f
  cases y with
  | non=>cases b;exact PySem.EqNone.ne_bool_none (aY I q (by simp))
  | bl j=>cases b;exact ne_bool (aY I q (congrArg not ye))
  | str j=>obtain ⟨d,rfl⟩:=b;exact PySem.EqMixed.ne_bool_str (aY I q (by simp))
  | _=>exact absurd (show false=true from e) Bool.false_ne_true
 | int i =>
  obtain ⟨t,rfl⟩:=f
  cases y with
  | non=>cases b;exact PySem.EqNone.ne_int_none (aY I q (by simp))
  | int j=>obtain ⟨d,rfl⟩:=b;exact ne_int (aY I q (congrArg not pW))
  | str j=>obtain ⟨d,rfl⟩:=b;exact PySem.EqMixed.ne_int_str (aY I q (by simp))
  | _=>exact absurd (show false=true from e) Bool.false_ne_true
 | str i =>
  obtain ⟨t,rfl⟩:=f
  cases y with
  | non=>cases b;exact PySem.EqNone.ne_str_none (aY I q (by simp))
  | bl j=>cases b;exact PySem.EqMixed.ne_str_bool (aY I q (by simp))
  | int j=>obtain ⟨d,rfl⟩:=b;exact PySem.EqMixed.ne_str_int (aY I q (by simp))
  | str j=>obtain ⟨d,rfl⟩:=b;exact ne_str (aY I q (congrArg not um))
  | _=>exact absurd (show false=true from e) Bool.false_ne_true
 | byt i =>
  obtain ⟨t,rfl⟩:=f
  cases y with
  | byt j=>obtain ⟨d,rfl⟩:=b;exact PySem.W.ne_bytes (aY I q (congrArg not uo))
  | _=>exact absurd (show false=true from e) Bool.false_ne_true
 | _=>cases y<;>exact absurd (show false=true from e) Bool.false_ne_true
theorem mD:OpR X (compareOp .Lt) (rI0 λi j=>.bl (decide (i<j))):=zd λ_ _ _ _ _ _ _ q=>lt_int q
theorem tX:OpR X (compareOp .LtE) (rI0 λi j=>.bl (decide (i<=j))):=zd λ_ _ _ _ _ _ _ q=>le_int q
theorem qA:OpR X (compareOp .Gt) (rI0 λi j=>.bl (decide (j<i))):=zd λ_ _ _ _ _ _ _ q=>gt_int q
theorem C3:OpR X (compareOp .GtE) (rI0 λi j=>.bl (decide (j<=i))):=zd λ_ _ _ _ _ _ _ q=>ge_int q
theorem pR:OpR X (compareOp .Is) (λx y H Q=>y=.non/\Q (.bl (decide (x=.non))) H):=by
 intro b s σ H x y v u Q I d e h
 obtain ⟨rfl,q⟩:=h
 cases e
 refine is_none_gen (aY I q ?_)
 cases x<;>first
  | (cases d;rfl)
  | (obtain ⟨t,rfl⟩:=d;rfl)
theorem lL:OpR X (compareOp .IsNot) (λx y H Q=>y=.non/\Q (.bl (!decide (x=.non))) H):=by
 intro b s σ H x y v u Q I d e h
 obtain ⟨rfl,q⟩:=h
 cases e
 refine isnot_none_gen (aY I q ?_)
 cases x<;>first
  | (cases d;rfl)
  | (obtain ⟨t,rfl⟩:=d;rfl)
theorem ay(b:Expr){op:CmpOp}(h:op≠.In:=by decide)(f:op≠.NotIn:=by decide):behindInMarks op b=false:=by
 have d:(op==CmpOp.In)=false:=by cases op<;>first | rfl | exact absurd rfl h
 have e:(op==CmpOp.NotIn)=false:=by cases op<;>first | rfl | exact absurd rfl f
 cases b<;>simp [behindInMarks,d,e]
theorem bv{op:CmpOp}{r:R2}(l:OpR X (compareOp op) r)(m:PE X a ta)(o:PE X b tb)(w:behindInMarks op b=false):PE X (.Compare a [op] [b] pos) (tOp r ta tb):=by
 intro d s σ H Q I h
 exact wpAny_Compare1 (B5 m o I h λv u e x y f g i j q=>l d e σ f x y v u Q g i j q) w
def Ae(t:TE):TT:=fun σ H Q=>t σ H λx H'=>XB Q x H'
theorem ax{op:CmpOp}{r:R2}(D:OpR X (compareOp op) r)(F:PE X a ta)(G:PE X b tb)(J:behindInMarks op b=false):PT X (.Compare a [op] [b] pos) (Ae (tOp r ta tb)):=by
 intro d s σ H Q I h
 refine wpAny_isTrue_Compare1 (thn (F d s σ H _ I h) λv f ⟨x,H1,g,i,q1⟩=>thn (G d f σ H1 _ g q1) λu j ⟨y,l,m,o,q2⟩ =>
  thn (D d j σ l x y v u _ m i o q2) λc K ⟨z,q,w,C,k,e,q3⟩=>?_) J
 subst e
 cases C
 exact wpAny_truthy_bool ⟨q,w,q3⟩
def AR(r r':R2)(ta tb tc:TE):TE:=fun σ H Q=>ta σ H λx H1=>tb σ H1 λy H2=>r x y H2 λz H3=>∃k,z=.bl k /\
 (if k=true then tc σ H3 λw' H4=>r' y w' H4 Q else Q (.bl false) H3)
theorem wJ{op g:CmpOp}{r o:R2}(Z:OpR X (compareOp op) r)(i:OpR X (compareOp g) o)(ha:PE X a ta)(hb:PE X b tb)(hc:PE X c tc)
  (hm:lastMarks [op,g] [b,c]=false:=by with_unfolding_all rfl):PE X (.Compare a [op,g] [b,c] pos) (AR r o ta tb tc):=by
 intro f s σ H Q I h
 refine Compare_chain (thn (ha f s σ H _ I h) λv q ⟨x,H1,w,C,q1⟩=>chain_link (thn (hb f q σ H1 _ w q1) λu D ⟨y,F,G,j,q2⟩ =>
  thn (Z f D σ F x y v u _ G C j q2) λd J ⟨z,l,m,K,k,e,q3⟩=>?_)) hm
 subst e
 cases K
 refine wpAny_truthy_bool ?_
 cases k with
 | false=>exact ite_ff ⟨.bl false,l,m,rfl,q3⟩
 | true=>exact ite_tt (chain_last (thn (hc f J σ l _ m q3) λL O ⟨P,U,W,Y,q4⟩=>i f O σ U y P u L Q W j Y q4))
theorem jY:(sizeLine:Nat)<2 ^ 63:=by rw [sizeLine_eq];decide
theorem cY:OpR X (binaryOp .Add) (λx y H Q=>∃i j,x=.str i/\y=.str j/\i.length+j.length<=sizeLine/\Q (.str (i++j)) H):=by
 intro b s σ H x y v u Q I f g h
 obtain ⟨i,j,rfl,rfl,d,q⟩:=h
 obtain ⟨t,rfl⟩:=f
 obtain ⟨e,rfl⟩:=g
 exact add_str (λe l=>⟨.str (i++j),H,I.tok _,⟨_,ϱ⟩,q⟩) d
theorem dm{x:V}{us:List Value}(r:Vals [x] us):∃u,us=[u]/\RelV x u:=by
 cases r with
 | cons r1 r2=>cases r2;exact ⟨_,rfl,r1⟩
theorem sT{x y:V}{us:List Value}(r:Vals [x,y] us):∃u w',us=[u,w']/\RelV x u/\RelV y w':=by
 cases r with
 | cons r1 r2 =>
  cases r2 with
  | cons r3 r4=>cases r4;exact ⟨_,_,rfl,r1,r3⟩
theorem gG:cV X (.type "str") (λxs H Q=>∃i,xs=[.int i]/\i.natAbs.log2<1920/\Q (.str (toString i)) H):=by
 intro b s σ H xs e Q I r h
 obtain ⟨i,rfl,d,q⟩:=h
 obtain ⟨u,rfl,t,rfl⟩:=dm r
 exact PySem.P.str_of_int d ⟨.str _,H,I.tok _,⟨_,ϱ⟩,q⟩
theorem ym:cV X (.builtin "ord") (λxs H Q=>∃x,xs=[.str x]/\x.length=1/\Q (.int (x.cps.getD 0 0:Nat)) H):=by
 intro b s σ H xs e Q I r h
 obtain ⟨x,rfl,d,q⟩:=h
 obtain ⟨u,rfl,t,rfl⟩:=dm r
 exact ord_of_one d ⟨.int _,H,I.tok _,⟨_,ϱ⟩,q⟩
end
structure ObjM(h:Heap)(x dx C:Addr)(mA:Str->Option Value):Prop where
 obj:h.get? x=some (PySem.W.instObj C dx)
 ns:h.Ns1 dx mA
 ne:dx≠x
theorem u8{h:Heap}{d:Addr}{f:Str->Option Value}(n:h.Ns1 d f):∃od,h.get? d=some od/\∀name,PySem.W.lookIn name od=some (f name):=by
 obtain ⟨o,es,u,g,i,j,_,l⟩:=n
 refine ⟨o,g,λname=>?_⟩
 have e:=l name
 unfold nsFind findBy at e
 rw [← Array.find?_toList] at e
 unfold PySem.W.lookIn
 rw [i]
 dsimp only
 split
 ·rename_i y q
  rw [q] at e
  exact congrArg some e
 ·rename_i q
  rw [q] at e
  have a:es.toList.any (·.refKey)=false:=by
   rw [List.any_eq_false]
   intro y r
   obtain ⟨z,t,b⟩:=j y (Array.mem_toList_iff.mp r)
   simp [DictEntry.refKey,b]
  have m:¬es.toList.any (·.refKey)=true:=by rw [a];exact Bool.false_ne_true
  rw [if_neg m]
  exact congrArg some e
theorem ObjM.look{h:Heap}{x dx C:Addr}{mA:Str->Option Value}(I:ObjM h x dx C mA):∃od,PySem.W.InstAt h x (PySem.W.instObj C dx) C (some od)/\∀name,PySem.W.lookIn name od=some (mA name) :=
 let ⟨od,ho,hl⟩:=u8 I.ns
 ⟨od,⟨I.obj,ϱ,ϱ,ho⟩,hl⟩
section
variable {prog:Program}{w:World}{A:Around}{E:Value->Shared->Prop}{s:Shared}{K:Frag}{x dx C f:Addr}{mA:Str->Option Value}{name:Str}{v:Value}
theorem zV{b:Bool}{Q:Value->Shared->Prop}(X:K.In s.heap)(I:ObjM s.heap x dx C mA)(f:PySem.W.plainGet K C name=true)(g:PySem.W.hasDictIn K C=true)
  (i:PySem.W.findIn K (.ref C) name=some none)(j:mA name=some v)(d:PySem.W.handedIn v=true)(h:Q v {s with toks:=s.toks+1}) :
  wpAny (model prog w) A (getAttr (.ref x) name b) Q E s:=by
 obtain ⟨od,J,e⟩:=I.look
 exact PySem.W.get_value X J (PySem.W.plainGet_of f).1 (PySem.W.findObj_own g i rfl (by rw [e,j])) d h
theorem xM{pl:Sem Bool}{Q:Value×List Value->Shared->Prop}(X:K.In s.heap)(I:ObjM s.heap x dx C mA)(b:PySem.W.plainGet K C name=true)
  (hf:PySem.W.findIn K (.ref C) name=some (some (.ref f)))(e:PySem.W.isFn K (.ref f)=true)(g:mA name=none)(h:Q (.ref f,[.ref x]) s) :
  wpAny (model prog w) A (getMethod (.ref x) name pl) Q E s:=by
 obtain ⟨od,J,d⟩:=I.look
 exact PySem.W.method_fn X J (PySem.W.plainGet_of b).1 (PySem.W.plainGet_of b).2 hf (beq_iff_eq.mp e) (by show (PySem.W.lookIn name od).map (·.isSome)=some false;rw [d,g];rfl) h
theorem yL{l:List Str}{Q:Unit->Shared->Prop}(X:K.In s.heap)(I:ObjM s.heap x dx C mA)
  (z:PySem.W.findIn K (.ref C) "__setattr__"=some (some (.builtin "object.__setattr__")))(D:PySem.W.plainOver K C=true)(F:PySem.W.takerIn K C name=some none)(G:PySem.W.hasDictIn K C=true)
  (hw:PySem.Within mA l)(hsz:l.length<=sizeLine)
  (h:∀h',ObjM h' x dx C (λy=>if y=name then some v else mA y)->Heap.SameBut dx s.heap h'->Q () {s with heap:=h',toks:=s.toks+2}) :
  wpAny (model prog w) A (setAttr (.ref x) name v) Q E s:=by
 obtain ⟨od,J,H⟩:=I.look
 refine PySem.W.set_plain X J z (PySem.W.osa_open (s:={s with toks:=s.toks+1}) (r:=none) X J D F λb=>?_)
 obtain ⟨L,m,f⟩:=PySem.W.any_some G
 have u:s.heap.get? x=some ⟨.ref C,some dx,.plain,#[]⟩:=I.obj
 refine ε (π (ε (ε (wpAny_loadPart u (ε (PySem.W.Looks.here (s:={s with toks:=s.toks+1}) (PySem.W.looks_clsIn X m) ?_))))))
 rw [f]
 refine π (a:=some dx) (ε (π (ε ?_)))
 refine wpAny_nsSet1 (s:={s with toks:=s.toks+1}) I.ns λh' d e=>?_
 obtain ⟨O,o,q,g,i,j⟩:=d.count (PySem.Within.cons name v hw)
 refine ε (wpAny_lookBehind g (by rw [i];exact pastItsLine_dict (Λ j (by rw [List.length_cons];omega))) ?_)
 exact π (h _ ⟨(e.2 _ (Ne.symm I.ne)).trans I.obj,d,I.ne⟩ e)
theorem xD{R:Result->Shared->Prop}{vs:List Value}{b:List (Str×Value)}(X:K.In s.heap)(e:PySem.W.makesIn K C=true)
  (i:PySem.W.findIn K (.ref C) "__init__"=some (some (.ref f)))(hf:PySem.W.typeIn K (.ref f)=some (.type "function"))
  (h:codeAny (model prog w) (A.under (.builtin "type.__call__" ⟨.ref C::vs,b⟩)) (.call (.ref f) ⟨.ref (s.heap.objs.size+1)::vs,b⟩) (PySem.W.InitBack (s.heap.objs.size+1) R)
   {s with heap:=(s.heap.push PySem.W.emptyDict).push (PySem.W.instObj C s.heap.objs.size)}) :
  codeAny (model prog w) A (.call (.ref C) ⟨vs,b⟩) R s:=by
 obtain ⟨j,g,d,t,l⟩:=s
 exact PySem.W.make_core (PySem.W.makes_of X e) (PySem.W.looks_findIn X i) (λself=>PySem.W.bind_fn X self hf) (.inl rfl) h
end
def az(f:Str)(v:V):List (Str×V)->List (Str×V)
 | []=>[(f,v)]
 | (g,x)::r=>if g=f then (g,v)::r else (g,x)::az f v r
theorem al(f g:Str)(v:V):∀fs:List (Str×V),(az f v fs).lookup g=if g=f then some v else fs.lookup g
 | []=>by
  show List.lookup g [(f,v)]=_
  by_cases h:g=f
  ·have hb:(g==f)=true:=beq_iff_eq.mpr h
   simp only [List.lookup,hb,if_pos h]
  ·have hb:(g==f)=false:=beq_eq_false_iff_ne.mpr h
   simp only [List.lookup,hb,if_neg h]
 | (k,x)::r=>by
  have ih:=al f g v r
  rw [show az f v ((k,x)::r)=(if k=f then (k,v)::r else (k,x)::az f v r) from rfl]
  by_cases hk:k=f
  ·rw [if_pos hk]
   by_cases h:g=k
   ·have hb:(g==k)=true:=beq_iff_eq.mpr h
    simp only [List.lookup,hb,if_pos (h.trans hk)]
   ·have hb:(g==k)=false:=beq_eq_false_iff_ne.mpr h
    simp only [List.lookup,hb,if_neg (λe:g=f=>h (e.trans hk.symm))]
  ·rw [if_neg hk]
   by_cases h:g=k
   ·have hb:(g==k)=true:=beq_iff_eq.mpr h
    simp only [List.lookup,hb,if_neg (λe:g=f=>hk (h.symm.trans e))]
   ·have hb:(g==k)=false:=beq_eq_false_iff_ne.mpr h
    simp only [List.lookup,hb]
    exact ih
theorem j8(f:Str)(v:V):∀fs:List (Str×V),f∈(az f v fs).map (·.1)/\∀g,g∈fs.map (·.1)->g∈(az f v fs).map (·.1)
 | []=>⟨by simp [az],λg h=>by simp at h⟩
 | (k,x)::r=>by
  obtain ⟨i1,i2⟩:=j8 f v r
  rw [show az f v ((k,x)::r)=(if k=f then (k,v)::r else (k,x)::az f v r) from rfl]
  by_cases hk:k=f
  ·rw [if_pos hk]
   subst hk
   exact ⟨by simp,λg h=>by simpa using h⟩
  ·rw [if_neg hk]
   refine ⟨?_,λg h=>?_⟩
   ·rw [List.map_cons]
    exact Θ _ i1
   ·rw [List.map_cons] at h ⊢
    rcases ϕ.mp h with e | e
    ·exact ϕ.mpr (.inl e)
    ·exact Θ _ (i2 g e)
theorem dO(f:Str)(v:V):∀fs:List (Str×V),(az f v fs).length<=fs.length+1
 | []=>by simp [az]
 | (k,x)::r=>by
  have ih:=dO f v r
  rw [show az f v ((k,x)::r)=(if k=f then (k,v)::r else (k,x)::az f v r) from rfl]
  by_cases hk:k=f
  ·rw [if_pos hk,List.length_cons,List.length_cons];omega
  ·rw [if_neg hk,List.length_cons,List.length_cons];omega
theorem RelO.some_of{v:V}{o:Option Value}(r:RelO (some v) o):∃u,o=some u/\RelV v u:=by
 cases o with
 | none=>exact (show False from r).elim
 | some u=>exact ⟨u,rfl,r⟩
theorem RelO.none_of{o:Option Value}(r:RelO none o):o=none:=by
 cases o with
 | none=>rfl
 | some u=>exact (show False from r).elim
theorem vf{v:V}{u:Value}(r:RelV v u):PySem.W.handedIn u=true:=by
 cases v with
 | non=>cases (show u=Value.none from r);rfl
 | bl b=>cases (show u=Value.bool b from r);rfl
 | int i=>obtain ⟨t,e⟩:=(show ∃t,u=Value.int i t from r);cases e;rfl
 | str x=>obtain ⟨t,e⟩:=(show ∃t,u=Value.str x t from r);cases e;rfl
 | byt b=>obtain ⟨t,e⟩:=(show ∃t,u=Value.bytes b t from r);cases e;rfl
 | flt b=>obtain ⟨t,e⟩:=(show ∃t,u=Value.float b t from r);cases e;rfl
 | ref a=>cases (show u=Value.ref a from r);rfl
 | ty n=>cases (show u=Value.type n from r);rfl
section
variable {P:Program}{w:World}{H H':Hp}{h h':Heap}{a C dx:Addr}{fs fs':List (Str×V)}
theorem lN(b:HOk P w H h)(e:H a=some (.ins C dx fs)):∃mA,ObjM h a dx C mA/\(∀f,RelO (fs.lookup f) (mA f))/\PySem.Within mA (fs.map (·.1))/\fs.length<=1000/\H dx=some (.own a):=by
 obtain ⟨d,z,g,i,mA,n,r,q⟩:=(show ObjOk P w H h a (.ins C dx fs) from b a _ e)
 exact ⟨mA,⟨i,n,g⟩,r,q,z,d⟩
end
structure Cls(K:Frag)(C:Addr):Prop where
 pg:PySem.W.plainGet K C Str.empty=true
 hd:PySem.W.hasDictIn K C=true
 po:PySem.W.plainOver K C=true
 sa:PySem.W.findIn K (.ref C) "__setattr__"=some (some (.builtin "object.__setattr__"))
theorem Cls.get{K:Frag}{C:Addr}(c:Cls K C)(f:Str):PySem.W.plainGet K C f=true:=c.pg
def NoAttr(K:Frag)(C:Addr)(f:Str):Prop:=PySem.W.findIn K (.ref C) f=some none
theorem NoAttr.taker{K:Frag}{C:Addr}{f:Str}(n:NoAttr K C f):PySem.W.takerIn K C f=some none:=by
 unfold PySem.W.takerIn
 rw [show PySem.W.findIn K (.ref C) f=some none from n]
 rfl
structure ir(K:Frag)(C:Addr)(m:Str)(f:Addr):Prop where
 at_:PySem.W.findIn K (.ref C) m=some (some (.ref f))
 fn:PySem.W.isFn K (.ref f)=true
 kp:PySem.W.keepIn K (.ref f)=true
section
variable {X:Cx}{pins:List (Addr×Obj)}{σ:St}{H:Hp}{s:Shared}{a C dx:Addr}{fs:List (Str×V)}{f:Str}{v:V}{A:Around}{E:Value->Shared->Prop}
theorem mU{b:Bool}{Q:Value->Shared->Prop}(I:Inv X pins σ H s)(e:H a=some (.ins C dx fs))(c:Cls X.K C)(n:NoAttr X.K C f)(l:fs.lookup f=some v)
  (h:∀u s',Inv X pins σ H s'->RelV v u->Q u s'):wpAny (model X.prog X.w) A (getAttr (.ref a) f b) Q E s:=by
 obtain ⟨g,O,r,_,_,_⟩:=lN I.hok e
 obtain ⟨u,i,d⟩:=RelO.some_of (v:=v) (o:=g f) (by rw [← l];exact r f)
 exact zV I.kIn O (c.get f) c.hd n i (vf d) (h u _ (I.tok _) d)
theorem iT{m:Str}{g:Addr}{pl:Sem Bool}{Q:Value×List Value->Shared->Prop}(I:Inv X pins σ H s)(e:H a=some (.ins C dx fs))(c:Cls X.K C)(k:ir X.K C m g)(l:fs.lookup m=none)
  (h:Q (.ref g,[.ref a]) s):wpAny (model X.prog X.w) A (getMethod (.ref a) m pl) Q E s:=by
 obtain ⟨b,O,r,_,_,_⟩:=lN I.hok e
 have d:b m=none:=RelO.none_of (by rw [← l];exact r m)
 exact xM I.kIn O (c.get m) k.at_ k.fn d h
theorem mf{y:V}{u:Value}{Q:Unit->Shared->Prop}(I:Inv X pins σ H s)(e:H a=some (.ins C dx fs))(c:Cls X.K C)(n:NoAttr X.K C f)(P:fs.length<1000)(L:RelV y u)
  (h:∀s',Inv X pins σ (upd H a (.ins C dx (az f y fs))) s'->Q () s'):wpAny (model X.prog X.w) A (setAttr (.ref a) f u) Q E s:=by
 obtain ⟨i,O,r,j,_,l⟩:=lN I.hok e
 have m:(fs.map (·.1)).length<=sizeLine:=by rw [ν,sizeLine_eq];omega
 refine yL I.kIn O c.sa c.po n.taker c.hd j m λF d sb=>h _ ?_
 have D:∃o,F.get? dx=some o:=let ⟨o,_,_,e',_⟩:=d.ns;⟨o,e'⟩
 refine I.write (x:=a) (e:=dx) (by rw [e];exact ϰ) (.inr l) (λb q G z=>(sb.2 b G).trans z) D ?_
 refine ⟨by rw [ao O.ne];exact l,?_,O.ne,d.obj,_,d.ns,λg=>?_,λg J=>?_⟩
 ·have:=dO f y fs;omega
 ·show RelO ((az f y fs).lookup g) (if g=f then some u else i g)
  rw [al]
  by_cases q:g=f
  ·rw [if_pos q,if_pos q];exact L
  ·rw [if_neg q,if_neg q];exact r g
 ·by_cases q:g=f
  ·rw [q];exact (j8 f y fs).1
  ·refine (j8 f y fs).2 g (j g λz=>J ?_)
   show (if g=f then some u else i g)=none
   rw [if_neg q];exact z
theorem Inv.made(I:Inv X pins σ H s):Inv X pins σ (upd (upd H s.heap.objs.size (.own (s.heap.objs.size+1))) (s.heap.objs.size+1) (.ins C s.heap.objs.size []))
  {s with heap:=(s.heap.push PySem.W.emptyDict).push (PySem.W.instObj C s.heap.objs.size)}:=by
 have d:(s.heap.push PySem.W.emptyDict).get? s.heap.objs.size=some PySem.W.emptyDict:=ψ s.heap rfl
 have g:((s.heap.push PySem.W.emptyDict).push (PySem.W.instObj C s.heap.objs.size)).get? (s.heap.objs.size+1)=some (PySem.W.instObj C s.heap.objs.size):=by
  have:=ψ (s.heap.push PySem.W.emptyDict) (o:=PySem.W.instObj C s.heap.objs.size) rfl
  rwa [Heap.size_push] at this
 have h:(s.heap.push PySem.W.emptyDict).Ns s.heap.objs.size (λ_=>none):=⟨PySem.W.emptyDict,#[],_,d,ϱ,(λe j=>absurd j (by simp)),λ_=>rfl⟩
 have i:=I.laid (a:=s.heap.objs.size) (o:=.own (s.heap.objs.size+1)) (h':=s.heap.push PySem.W.emptyDict) (t':=s.toks) (λb u q=>ρ _ q) (ι _) ⟨_,d⟩
 refine i.laid (a:=s.heap.objs.size+1) (o:=.ins C s.heap.objs.size []) (t':=s.toks) (λb u q=>ρ _ q) (Nat.le_of_eq (Heap.size_push _ _)) ?_
 have f:s.heap.objs.size≠s.heap.objs.size+1:=Φ (Nat.lt_succ_self _)
 refine ⟨by rw [ao f,ae],ϖ _,f,g,λ_=>none,(Heap.Ns1.of_empty h).at λo q=>ρ _ q,λ_=>ϰ,λy l=>absurd rfl l⟩
theorem z8{prog:Program}{w:World}{env:Env}{e:Expr}{f:Str}{pos:Pos}{s:Shared}{Q:Value->Shared->Prop}(hb:attributeBase e f env (eval e env)=eval e env)
  (h:wpAny (model prog w) A (eval e env) (λo s₁=>wpAny (model prog w) A (getAttr o f true) Q E s₁) E s):wpAny (model prog w) A (eval (.Attribute e f pos) env) Q E s :=
 Attribute_any_ h (by rw [arm_eval_Attribute,hb])
end
inductive XF (K:Frag) (f:Str) (Q:VK) (x:V) (H:Hp):Prop|mk a C dx fs v:x=.ref a->H a=some (.ins C dx fs)->Cls K C->NoAttr K C f->fs.lookup f=some v->Q v H->XF K f Q x H
def uE(K:Frag)(ta:TE)(f:Str):TE:=fun σ H Q=>ta σ H λx H1=>XF K f Q x H1
def DG(K:Frag)(ta tv:TE)(f:Str):TS:=λD σ H=>tv σ H λy H1=>ta σ H1 λx H2=>∃a C dx fs,x=.ref a/\H2 a=some (.ins C dx fs)/\Cls K C/\NoAttr K C f/\fs.length<1000 /\
 D.nx σ (upd H2 a (.ins C dx (az f y fs)))
def Dw(X:Cx)(op:Operator)(rd:V->V->Hp->VK->Prop):Prop :=
 ∀(pins:List (Addr×Obj)) (s:Shared) (σ:St) (H:Hp) (x y:V) (u v:Value) (Q:VK),Inv X pins σ H s->RelV x u->RelV y v->rd x y H Q->wpAny (model X.prog X.w) X.A (inplaceOp op u v) (EP X pins σ Q) X.xe s
def yN(K:Frag)(ta tv:TE)(rd:V->V->Hp->VK->Prop)(f:Str):TS:=λD σ H=>ta σ H λx H1=>∃a C dx fs v,x=.ref a/\H1 a=some (.ins C dx fs)/\Cls K C/\NoAttr K C f/\fs.lookup f=some v /\
 tv σ H1 λy H2=>rd v y H2 λz H3=>∃dx' fs',H3 a=some (.ins C dx' fs')/\fs'.length<1000/\D.nx σ (upd H3 a (.ins C dx' (az f z fs')))
section
variable {X:Cx}{o e value:Expr}{f:Str}{pos pos' tpos:Pos}{ta tv:TE}
theorem aq(o:PE X e ta)(r:attributeBase e f X.env (eval e X.env)=eval e X.env):PE X (.Attribute e f pos) (uE X.K ta f):=by
 intro b s σ H Q I h
 refine z8 r (thn (o b s σ H _ I h) λu w ⟨x,H1,d,g,a,C,y,fs,v,ex,i,c,n,l,q⟩=>?_)
 subst ex
 obtain rfl:u=Value.ref a:=g
 exact mU d i c n l λz D j m=>⟨v,H1,j,m,q⟩
theorem aV(w:PE X o ta)(z:PE X value tv)(F:swapsWith value (some (.Attribute o f pos')) pos.line X.env=pure false):PS X (.Assign [.Attribute o f pos'] value pos) (DG X.K ta tv f):=by
 intro b s σ H D I h
 refine plainObj_wpAny_Assign_Attribute (thn (z b s σ H _ I h) λu d ⟨y,H1,e,g,q⟩=>thn (w b d σ H1 _ e q) λov G ⟨x,J,i,j,a,C,L,fs,ex,m,c,n,l,q2⟩=>?_) F
 subst ex
 obtain rfl:ov=Value.ref a:=j
 exact mf i m c n l g λO r=>⟨σ,_,r,q2⟩
theorem oz{op:Operator}{g:V->V->Hp->VK->Prop}(ha:PE X o ta)(hv:PE X value tv)(e:Dw X op g):PS X (.AugAssign (.Attribute o f tpos) op value pos) (yN X.K ta tv g f):=by
 intro b s σ H D I h
 refine wpAny_AugAssign_AttributeAny (thn (ha b s σ H _ I h) λov s1 ⟨x,H1,i,j,a,C,dx,fs,v,ex,m,c,n,l,q⟩=>?_)
 subst ex
 obtain rfl:ov=Value.ref a:=j
 refine mU i m c n l λu r w F=>thn (hv b r σ H1 _ w q) λG J ⟨y,L,O,P,q3⟩=>thn (e b J σ L v y u G _ O F P q3) λw4 s4 ⟨z,H3,Q,U,W,Y,d,Z,q4⟩=>?_
 exact mf Q d c n Z U λs5 I5=>⟨σ,_,I5,q4⟩
def DK:V->V->Hp->VK->Prop:=λx y H Q=>∃i j,x=.int i/\y=.int j/\Q (.int (i+j)) H
theorem xJ:Dw X .Add DK:=by
 rintro d s σ H x y u v Q I e f ⟨i,j,rfl,rfl,q⟩
 obtain ⟨t,rfl⟩:=(show ∃t,u=Value.int i t from e)
 obtain ⟨b,rfl⟩:=(show ∃b,v=Value.int j b from f)
 exact PyProof.Rows.iadd_int ⟨.int (i+j),H,I.tok _,⟨_,ϱ⟩,q⟩
end
section
variable {X:Cx}{pins:List (Addr×Obj)}{σ:St}{H:Hp}{s:Shared}{A:Around}{E:Value->Shared->Prop}{Q:Value->Shared->Prop}{c:Value}{b:Bool}
inductive TyOf (K:Frag) (H:Hp):V->Value->Prop where
 | non:TyOf K H .non (.type "NoneType")
 | bl (x:Bool):TyOf K H (.bl x) (.type "bool")
 | int (i:Int):TyOf K H (.int i) (.type "int")
 | str (x:Str):TyOf K H (.str x) (.type "str")
 | flt (x:UInt64):TyOf K H (.flt x) (.type "float")
 | lst {a:Addr} {xs:List V} (e:H a=some (.lst xs)):TyOf K H (.ref a) (.type "list")
 | frz {a:Addr} {o:Obj} {xs:List V} (e:H a=some (.frz o (.lst xs))):TyOf K H (.ref a) (.type "list")
 | tup {a:Addr} {xs:List V} (e:H a=some (.tup xs)):TyOf K H (.ref a) (.type "tuple")
 | dK {a:Addr} {kvs:List (Key×V)} (e:H a=some (.dK kvs)):TyOf K H (.ref a) (.type "dict")
 | dT {a:Addr} {kvs:List (List Key×V)} (e:H a=some (.dT kvs)):TyOf K H (.ref a) (.type "dict")
 | ins {a C dx:Addr} {fs:List (Str×V)} (e:H a=some (.ins C dx fs)) (cl:Cls K C) (ha:PySem.W.findIn K (.ref C) "__class__"=some (some (.builtin "object.__class__")))
   (hn:PySem.W.specialIn K (.builtin "object.__class__") "__get__"=some (some (.builtin "getset_descriptor.__get__"))) (htk:PySem.W.takesIn K (.builtin "object.__class__")=some true)
   (hm:PySem.W.mroIn K C (.type "object")=some true):TyOf K H (.ref a) (.ref C)
theorem vc{x:V}{u t:Value}(I:Inv X pins σ H s)(d:RelV x u)(l:TyOf X.K H x t)(e:PySem.W.kitOne X.K t c=some b)(h:∀tk,Q (.bool b) {s with toks:=tk}) :
  wpAny (model X.prog X.w) A (call (.builtin "isinstance") [u,c]) Q E s:=by
 cases l with
 | non=>cases (show u=Value.none from d);exact PySem.W.kia_one PySem.W.kitx_none I.kIn ϰ e (λz=>nomatch z) h
 | bl y=>cases (show u=Value.bool y from d);exact PySem.W.kia_one PySem.W.kitx_bool I.kIn ϰ e (λz=>nomatch z) h
 | int i=>obtain ⟨t,q⟩:=(show ∃t,u=Value.int i t from d);cases q;exact PySem.W.kia_one PySem.W.kitx_int I.kIn ϰ e (λz=>nomatch z) h
 | str y=>obtain ⟨t,q⟩:=(show ∃t,u=Value.str y t from d);cases q;exact PySem.W.kia_one PySem.W.kitx_str I.kIn ϰ e (λz=>nomatch z) h
 | flt y=>obtain ⟨t,q⟩:=(show ∃t,u=Value.float y t from d);cases q;exact PySem.W.kia_one PySem.W.kitx_float I.kIn ϰ e (λz=>nomatch z) h
 | @lst a f ea =>
  cases (show u=Value.ref a from d)
  obtain ⟨_,_,n,_,h1⟩:=(show ObjOk X.prog X.w H s.heap a (.lst f) from I.hok a _ ea)
  exact PySem.W.kia_one PySem.W.kitx_list I.kIn ⟨_,h1,ϱ⟩ e (λz=>nomatch z) h
 | @frz a ob f ea =>
  cases (show u=Value.ref a from d)
  obtain ⟨_,_,_,n,_,h1⟩:=(show ObjOk X.prog X.w H s.heap a (.frz ob (.lst f)) from I.hok a _ ea)
  exact PySem.W.kia_one PySem.W.kitx_list I.kIn ⟨_,h1,ϱ⟩ e (λz=>nomatch z) h
 | @tup a f ea =>
  cases (show u=Value.ref a from d)
  obtain ⟨_,_,_,p⟩:=(show ObjOk X.prog X.w H s.heap a (.tup f) from I.hok a _ ea)
  obtain ⟨o,h1,g,_⟩:=p
  exact PySem.W.kia_one PySem.W.kitx_tuple I.kIn ⟨o,h1,g⟩ e (λz=>nomatch z) h
 | @dK a kvs ea =>
  cases (show u=Value.ref a from d)
  obtain ⟨_,_,vs,_,p⟩:=(show ObjOk X.prog X.w H s.heap a (.dK kvs) from I.hok a _ ea)
  obtain ⟨o,es,j,h1,g,_⟩:=p
  exact PySem.W.kia_one PySem.W.kitx_dict I.kIn ⟨o,h1,g.1⟩ e (λz=>nomatch z) h
 | @dT a kvs ea =>
  cases (show u=Value.ref a from d)
  obtain ⟨_,_,f,_,o,es,j,h1,g,_⟩:=(show ObjOk X.prog X.w H s.heap a (.dT kvs) from I.hok a _ ea)
  exact PySem.W.kia_one PySem.W.kitx_dict I.kIn ⟨o,h1,g.1⟩ e (λz=>nomatch z) h
 | @ins a C dx fs ea cl ha hn htk hm =>
  cases (show u=Value.ref a from d)
  obtain ⟨m,O,_⟩:=lN I.hok ea
  obtain ⟨od,J,_⟩:=O.look
  exact PySem.W.kia_one (PySem.W.kitx_own (cl.get _) cl.hd ha hn htk hm) I.kIn J e (λz=>nomatch z) h
end
structure Room(k:Nat)(A:Around):Prop where
 hd:A.handled=none
 dp:A.depth+3*k+5<recursionLimit
 un:A.units+16*k+200<cLine
theorem Room.mono{j k:Nat}{A:Around}(r:Room k A)(h:j<=k):Room j A:=⟨r.hd,by have:=r.dp;omega,by have:=r.un;omega⟩
theorem Room.deeper{k:Nat}{A:Around}(r:Room (k+1) A)(env:Env):Room k (A.deeper env) :=
 ⟨r.hd,by have:=r.dp;show A.depth+1+3*k+5<_;omega,by have:=r.un;show A.units+3+16*k+200<_;omega⟩
theorem sA{A:Around}{C:Addr}{us:List Value}{b:List (Str×Value)}:(A.under (.builtin "type.__call__" ⟨.ref C::us,b⟩)).depth=A.depth+1:=by
 first | rfl | simp [Around.under,Code.weight,Code.isCreation,Code.isGuard,Code.isCaller,Code.frames,Code.isFrame,guardIds]
theorem sy{A:Around}{C:Addr}{us:List Value}{b:List (Str×Value)}:(A.under (.builtin "type.__call__" ⟨.ref C::us,b⟩)).units=A.units+1:=by
 first | rfl | simp [Around.under,Code.cUnits,Code.frames,Code.isFrame]
theorem Room.make{k:Nat}{A:Around}(r:Room (k+1) A)(C:Addr)(us:List Value)(kw:List (Str×Value)):Room k (A.under (.builtin "type.__call__" ⟨.ref C::us,kw⟩)) :=
 ⟨r.hd,by have:=r.dp;rw [sA];omega,by have:=r.un;rw [sy];omega⟩
theorem Room.depth{k:Nat}{A:Around}(r:Room k A):A.depth<recursionLimit:=by have:=r.dp;omega
theorem Room.units{k:Nat}{A:Around}(r:Room k A):A.units+64<cLine:=by have:=r.un;omega
def vU:TA:=λ_ H Q=>Q [] H
def Ag(ta:TE)(tr:TA):TA:=fun σ H Q=>ta σ H λx H1=>tr σ H1 λxs H2=>Q (x::xs) H2
section
variable {X:Cx}{e:Expr}{es:List Expr}{te:TE}{t:TA}{pos:Pos}
theorem af:PA X [] vU:=λ_ _ _ _ H Q I h=>Calls.spliced_nil ⟨[],H,I,.nil,h⟩
theorem ac(o:PE X e te)(q:PA X es t)(r:starEach (e::es) X.env=(false,eval e X.env)::starEach es X.env:=by rfl):PA X (e::es) (Ag te t):=by
 intro pos b s σ H Q I h
 rw [r]
 show wpAny _ _ (spliced ((false,eval e X.env)::backTo pos (starEach es X.env))) _ _ s
 refine Calls.spliced_cons (thn (o b s σ H _ I h) λu d ⟨x,H1,f,g,q1⟩=>?_)
 exact thn (q pos b d σ H1 _ f q1) λw y ⟨i,j,l,m,q2⟩=>⟨x::i,j,l,.cons g m,q2⟩
def Dx(t:TA):TE:=fun σ H Q=>t σ H λxs H1=>xs.length<=sizeLine/\∀p,H1 p=none->Q (.ref p) (upd H1 p (.tup xs))
def DC(t:TA):TE:=fun σ H Q=>t σ H λxs H1=>xs.length<=sizeLine/\∀p,H1 p=none->Q (.ref p) (upd H1 p (.lst xs))
theorem aF{x1}(h:PA X es t):PE X (.Tuple es x1 pos) (Dx t):=by
 intro d s σ H Q I l
 refine wpAny_Tuple_spliced (thn (h pos d s σ H _ I l) λi f ⟨j,H1,g,r,z,q⟩=>⟨by rw [← r.length];exact z,?_⟩)
 have hf:H1 f.heap.objs.size=none:=g.hok.fresh (ι _)
 refine ⟨.ref f.heap.objs.size,upd H1 f.heap.objs.size (.tup j),g.laid (t':=f.toks) (λb u e=>ρ _ e) (ι _) ?_,ϱ,q _ hf⟩
 exact ⟨z,i,r,⟨_,ψ _ rfl,ϱ,_,ϱ⟩⟩
theorem bE(h:PA X es t):PE X (.List es pos) (DC t):=by
 intro d s σ H Q I l
 refine wpAny_List_spliced (thn (h pos d s σ H _ I l) λi f ⟨j,H1,g,r,z,q⟩=>⟨by rw [← r.length];exact z,?_⟩)
 have hf:H1 f.heap.objs.size=none:=g.hok.fresh (ι _)
 refine ⟨.ref f.heap.objs.size,upd H1 f.heap.objs.size (.lst j),g.laid (t':=f.toks) (λb u e=>ρ _ e) (ι _) ?_,ϱ,q _ hf⟩
 exact ⟨z,i,0,r,ψ _ rfl⟩
end
abbrev Sp:=List V->Hp->VK->XK->Prop
abbrev CXT:=List Env->Hp->Shared->XK->Value->Shared->Prop
structure Env0(P:Program)(w:World)(K:Frag)(mg:Str->Option Value)(base:Heap)(A:Around)(outer:List Env)(s:Shared)(H:Hp):Prop where
 frames:A.frames=some outer
 mod:Mod K mg base
 bs:∀b o,base.get? b=some o->s.heap.get? b=some o/\H b=none
 bsz:base.objs.size<=s.heap.objs.size
 funs:s.heap.FunFrames base outer
 frf:∀b∈frs outer,H b=none
 hok:HOk P w H s.heap
 bare:AllBare s.gens
def CE(outer:List Env)(P:Program)(w:World)(H:Hp)(s:Shared)(Q:VK)(u:Value)(s':Shared):Prop :=
 ∃v H',s'.os=s.os/\AllBare s'.gens/\Un (frs outer) [] H H' s.heap s'.heap/\HOk P w H' s'.heap/\RelV v u/\Q v H'
def CR(CX:CXT)(outer:List Env)(P:Program)(w:World)(H:Hp)(s:Shared)(Q:VK)(E:XK)(r:Result)(s':Shared):Prop :=
 match r with
 | .ok (.ret u)=>CE outer P w H s Q u s'
 | .ok _=>False
 | .error e=>CX outer H s E e s'
structure FnOk(P:Program)(w:World)(K:Frag)(mg:Str->Option Value)(base:Heap)(CX:CXT)(k:Nat)(f:Addr)(fd:FuncData)(ps:List Str)(sp:Sp):Prop where
 len:∀vs H Q E,sp vs H Q E->vs.length=ps.length
 run:∀(A:Around) (outer:List Env) (s:Shared) (H:Hp) (args:Args) (us:List Value) (vs:List V) (Q:VK) (E:XK),Room k A->Env0 P w K mg base A outer s H->BindsTo s fd args (ps.zip us)->Vals vs us->sp vs H Q E ->
  codeAny (model P w) A (.call (.ref f) args) (CR CX outer P w H s Q E) s
theorem FnOk.mono{P:Program}{w:World}{K:Frag}{mg:Str->Option Value}{base:Heap}{CX:CXT}{j k:Nat}{f:Addr}{fd:FuncData}{ps:List Str}{sp:Sp}(F:FnOk P w K mg base CX j f fd ps sp)(h:j<=k) :
  FnOk P w K mg base CX k f fd ps sp:=⟨F.len,λA outer s H args us vs Q E hr=>F.run A outer s H args us vs Q E (hr.mono h)⟩
theorem FnOk.imp{P:Program}{w:World}{K:Frag}{mg:Str->Option Value}{base:Heap}{CX:CXT}{k:Nat}{f:Addr}{fd:FuncData}{ps:List Str}{sp sp':Sp}(F:FnOk P w K mg base CX k f fd ps sp)
  (h:∀vs H Q E,sp' vs H Q E->sp vs H Q E):FnOk P w K mg base CX k f fd ps sp' :=
 ⟨λvs H Q E q=>F.len vs H Q E (h _ _ _ _ q),λA outer s H args us vs Q E hr he hb hv hs=>F.run A outer s H args us vs Q E hr he hb hv (h _ _ _ _ hs)⟩
theorem Env0.make{P:Program}{w:World}{K:Frag}{mg:Str->Option Value}{base:Heap}{A:Around}{outer:List Env}{s:Shared}{H:Hp}(e:Env0 P w K mg base A outer s H)(C:Addr)(us:List Value)(kw:List (Str×Value)) :
  Env0 P w K mg base (A.under (.builtin "type.__call__" ⟨.ref C::us,kw⟩)) outer s H:=⟨by first | exact e.frames | (simpa [Around.under,Code.envs,Code.isFrame,pushEnvs] using e.frames),e.mod,e.bs,e.bsz,e.funs,e.frf,e.hok,e.bare⟩
section
variable {X:Cx}{pins:List (Addr×Obj)}{σ:St}{H:Hp}{s s':Shared}
theorem Inv.env0(I:Inv X pins σ H s):Env0 X.prog X.w X.K X.mg X.base X.A X.stack s H :=
 ⟨I.ok.frames,I.ok.mod,I.bs,Λ I.ok.bsz I.sz,I.stack,I.stkFree,I.hok,I.bare⟩
theorem Inv.after{Q:VK}{u:Value}(I:Inv X pins σ H s)(h:CE X.stack X.prog X.w H s Q u s'):EP X pins σ Q u s':=by
 obtain ⟨v,j,l,e,un,f,r,q⟩:=h
 obtain ⟨m,g,d,t,i⟩:=s'
 obtain rfl:i=s.os:=l
 exact ⟨v,j,I.call (h':=m) (g':=g) (d':=d) (t':=t) (ch:=[]) un f e (λb z=>absurd z (by simp)),r,q⟩
end
def vV(sp:Sp)(dvs:List V)(E:XK)(t:TA):TE:=fun σ H Q=>t σ H λvs H1=>sp (vs++dvs) H1 Q E
inductive XM (C:Addr) (m:Str) (x:V) (H:Hp) (P:Prop):Prop|mk a dx fs:x=.ref a->H a=some (.ins C dx fs)->fs.lookup m=none->P->XM C m x H P
def sW(C:Addr)(m:Str)(sp:Sp)(dvs:List V)(E:XK)(ta:TE)(t:TA):TE:=fun σ H Q=>ta σ H λx H1=>XM C m x H1 (t σ H1 λvs H2=>sp (x::(vs++dvs)) H2 Q E)
def Af(C:Addr)(sp:Sp)(dvs:List V)(E:XK)(t:TA):TE:=fun σ H Q=>t σ H λvs H1=>∀x dx,H1 x=none->H1 dx=none->dx≠x ->
 sp (.ref x::(vs++dvs)) (upd (upd H1 dx (.own x)) x (.ins C dx [])) (λv H2=>v=.non/\Q (.ref x) H2) E
def Binds(K:Frag)(fd:FuncData)(ps:List Str)(ds:List Value):Prop :=
 ∀(s:Shared) (us:List Value),K.In s.heap->(us++ds).length=ps.length->BindsTo s fd ⟨us,[]⟩ (ps.zip (us++ds))
theorem Binds.all{K:Frag}{fd:FuncData}{ps:List Str}(h:∀us:List Value,us.length=ps.length->bindArgs fd ⟨us,[]⟩=pure (ps.zip us)):Binds K fd ps []:=λs us _ hl=>by
 rw [List.append_nil] at hl ⊢
 exact .of_eq (h us hl)
def c9(CX:CXT)(X:Cx)(E:XK):Prop:=∀(pins:List (Addr×Obj)) (σ:St) (H:Hp) (s:Shared) (e:Value) (s':Shared),Inv X pins σ H s->CX X.stack H s E e s'->X.xe e s'
section
variable {X:Cx}{CX:CXT}{k:Nat}{f C:Addr}{fd:FuncData}{ps:List Str}{sp:Sp}{dvs:List V}{ds:List Value}{E:XK}{x m:Str}{p pos apos:Pos}{e o:Expr}{es:List Expr}{ta:TE}{t:TA}
theorem pL{b:List (Addr×Obj)}{σ:St}{H:Hp}{s:Shared}{Q:VK}{us:List Value}{vs:List V}(F:FnOk X.prog X.w X.K X.mg X.base CX k f fd ps sp)(l:Room k X.A)(m:Binds X.K fd ps ds)(o:Vals dvs ds)(q:c9 CX X E)
  (I:Inv X b σ H s)(r:Vals vs us)(h:sp (vs++dvs) H Q E):wpAny (model X.prog X.w) X.A (call (.ref f) us) (EP X b σ Q) X.xe s:=by
 have g:Vals (vs++dvs) (us++ds):=r.append o
 have i:(us++ds).length=ps.length:=by rw [← g.length];exact F.len _ _ _ _ h
 refine wpAny_call (codeAny_mono (F.run X.A X.stack s H ⟨us,[]⟩ (us++ds) (vs++dvs) Q E l I.env0 (m s us I.kIn i) g h) λr j d=>?_)
 cases r with
 | error e=>exact q b σ H s e j I d
 | ok fl =>
  cases fl with
  | ret u=>exact I.after d
  | next=>exact False.elim d
  | brk=>exact False.elim d
  | cont=>exact False.elim d
theorem tU(F:FnOk X.prog X.w X.K X.mg X.base CX k f fd ps sp)(j:Room k X.A)(l:Gl X x)(m:X.mg x=some (.ref f))(o:PySem.W.keepIn X.K (.ref f)=true)(u:Binds X.K fd ps ds)(y:Vals dvs ds)(z:c9 CX X E)
  (C:PA X (e::es) t)(d:(x==("__debug__":Str))=false:=by decide)(D:starEach (e::es) X.env=(false,eval e X.env)::starEach es X.env:=by rfl)(g:(backTo pos (starEach es X.env)).any (·.1)=false:=by rfl) :
  PE X (.Call (.Name x p) (e::es) [] pos) (vV sp dvs E t):=by
 intro b s σ H Q I h
 refine wpAny_Call_Name_kw (jp I l m ?_ d)
 refine PySem.W.callWith_K (h₀:=X.base) I.ok.mod.kin o (thn (C pos b s σ H _ I h) λG J ⟨vs,H1,i,r,q⟩=>⟨i.kIn,?_⟩) D g
 exact pL F j u y z i r q
theorem jj{pl:Sem Bool}(J:PE X o ta)(c:Cls X.K C)(y:ir X.K C m f)(F:FnOk X.prog X.w X.K X.mg X.base CX k f fd ps sp)(L:Room k X.A)(O:Binds X.K fd ps ds)(P:Vals dvs ds)(U:c9 CX X E)(Y:PA X (e::es) t)
  (d:starEach (e::es) X.env=(false,eval e X.env)::starEach es X.env:=by rfl)(g:(backTo pos (starEach es X.env)).any (·.1)=false:=by rfl)
  (Z:eval (.Call (.Attribute o m apos) (e::es) [] pos) X.env=(do
   let ov ← eval o X.env
   standAt apos.atName
   let (f,first) ← holding [ov] (getMethod ov m pl)
   callWith pos f first (backTo pos (starEach (e::es) X.env)) (backToKw pos (keywordEach [] X.env))):=by rfl) :
  PE X (.Call (.Attribute o m apos) (e::es) [] pos) (sW C m sp dvs E ta t):=by
 intro b s σ H Q I h
 refine PySem.W.methodCall_KW (pl:=pl) (thn (J b s σ H _ I h) λu z ⟨x,H1,i,D,a,dx,fs,ex,G,l,q⟩=>?_) Z
 subst ex
 obtain rfl:u=Value.ref a:=D
 refine iT i G c y l ?_
 refine PySem.W.callWith_K (first:=[.ref a]) (h₀:=X.base) I.ok.mod.kin y.kp (thn (Y pos b z σ H1 _ i q) λus s2 ⟨vs,H2,j,r,q2⟩=>⟨j.kIn,?_⟩) d g
 exact pL (us:=.ref a::us) (vs:=.ref a::vs) F L O P U j (.cons rfl r) q2
theorem jh{pl:Sem Bool}(j:PE X o ta)(c:Cls X.K C)(e:ir X.K C m f)(F:FnOk X.prog X.w X.K X.mg X.base CX k f fd ps sp)(r:Room k X.A)(y:Binds X.K fd ps ds)(z:Vals dvs ds)(D:c9 CX X E)
  (G:eval (.Call (.Attribute o m apos) [] [] pos) X.env=(do
   let ov ← eval o X.env
   standAt apos.atName
   let (f,first) ← holding [ov] (getMethod ov m pl)
   callWith pos f first (backTo pos (starEach [] X.env)) (backToKw pos (keywordEach [] X.env))):=by rfl) :
  PE X (.Call (.Attribute o m apos) [] [] pos) (sW C m sp dvs E ta vU):=by
 intro b s σ H Q I h
 refine PySem.W.methodCall_KW (pl:=pl) (thn (j b s σ H _ I h) λu J ⟨x,H1,d,g,a,L,fs,ex,i,l,q⟩=>?_) G
 subst ex
 obtain rfl:u=Value.ref a:=g
 refine iT d i c e l ?_
 exact PySem.W.callWith_K0 (first:=[.ref a]) d.kIn e.kp (pL (us:=[.ref a]) (vs:=[.ref a]) F r y z D d (.cons rfl .nil) q)
structure Mk(K:Frag)(C f:Addr):Prop where
 makes:PySem.W.makesIn K C=true
 init:PySem.W.findIn K (.ref C) "__init__"=some (some (.ref f))
 fn:PySem.W.isFn K (.ref f)=true
 kp:PySem.W.keepIn K (.ref C)=true
theorem qk{d:List (Addr×Obj)}{σ:St}{H:Hp}{s:Shared}{Q:VK}{us:List Value}{vs:List V}(M:Mk X.K C f)(F:FnOk X.prog X.w X.K X.mg X.base CX k f fd ps sp)(D:Room (k+1) X.A)(G:Binds X.K fd ps ds)(J:Vals dvs ds)
  (L:c9 CX X E)(I:Inv X d σ H s)(r:Vals vs us)
  (h:∀x dx,H x=none->H dx=none->dx≠x->sp (.ref x::(vs++dvs)) (upd (upd H dx (.own x)) x (.ins C dx [])) (λv H2=>v=.non/\Q (.ref x) H2) E) :
  wpAny (model X.prog X.w) X.A (call (.ref C) us) (EP X d σ Q) X.xe s:=by
 have i:=h (s.heap.objs.size+1) s.heap.objs.size (I.hok.fresh (Nat.le_succ _)) (I.hok.fresh (ι _)) (Φ (Nat.lt_succ_self _))
 have g:=Inv.made (C:=C) I
 have j:Vals (V.ref (s.heap.objs.size+1)::(vs++dvs)) (Value.ref (s.heap.objs.size+1)::(us++ds)):=.cons rfl (r.append J)
 have y:(Value.ref (s.heap.objs.size+1)::us++ds).length=ps.length:=by
  have e:=j.length
  rw [F.len _ _ _ _ i] at e
  exact e.symm
 refine wpAny_call (xD (f:=f) I.kIn M.makes M.init (beq_iff_eq.mp M.fn) (codeAny_mono (F.run _ X.stack _ _ ⟨Value.ref (s.heap.objs.size+1)::us,[]⟩ (Value.ref (s.heap.objs.size+1)::(us++ds)) _ _ E (D.make C us [])
  (g.env0.make C us []) (G _ (Value.ref (s.heap.objs.size+1)::us) g.kIn y) j i) λr z b=>?_))
 cases r with
 | error e=>exact L d σ _ _ e z g b
 | ok fl =>
  cases fl with
  | ret u =>
   obtain ⟨v,l,m,o,q,q3⟩:=g.after b
   subst q
   exact ⟨o,⟨V.ref (s.heap.objs.size+1),l,m,ϱ,q3⟩⟩
  | next=>exact False.elim b
  | brk=>exact False.elim b
  | cont=>exact False.elim b
theorem ba(M:Mk X.K C f)(F:FnOk X.prog X.w X.K X.mg X.base CX k f fd ps sp)(j:Room (k+1) X.A)(l:Gl X x)(m:X.mg x=some (.ref C))(o:Binds X.K fd ps ds)(u:Vals dvs ds)(y:c9 CX X E)
  (z:PA X (e::es) t)(d:(x==("__debug__":Str))=false:=by decide)(D:starEach (e::es) X.env=(false,eval e X.env)::starEach es X.env:=by rfl)(g:(backTo pos (starEach es X.env)).any (·.1)=false:=by rfl) :
  PE X (.Call (.Name x p) (e::es) [] pos) (Af C sp dvs E t):=by
 intro b s σ H Q I h
 refine wpAny_Call_Name_kw (jp I l m ?_ d)
 refine PySem.W.callWith_K (h₀:=X.base) I.ok.mod.kin M.kp (thn (z pos b s σ H _ I h) λG J ⟨vs,H1,i,r,q⟩=>⟨i.kIn,?_⟩) D g
 exact qk M F j o u y i r q
theorem wF(M:Mk X.K C f)(F:FnOk X.prog X.w X.K X.mg X.base CX k f fd ps sp)(e:Room (k+1) X.A)(g:Gl X x)(i:X.mg x=some (.ref C))(j:Binds X.K fd ps ds)(l:Vals dvs ds)(m:c9 CX X E)
  (b:(x==("__debug__":Str))=false:=by decide):PE X (.Call (.Name x p) [] [] pos) (Af C sp dvs E vU):=by
 intro d s σ H Q I h
 refine wpAny_Call_Name_kw (jp I g i ?_ b)
 exact PySem.W.callWith_K0 I.kIn M.kp (qk (us:=[]) M F e j l m I .nil h)
end
structure am(N P:List Str)(sc:Scope):Prop where
 kind:sc.kind=.function
 co:sc.isCoroutine=false
 gen:sc.isGenerator=false
 nd:N.Nodup
 pre:N.take P.length=P
 par:∀x∈P,sc.names.lookup x=some .local\/sc.names.lookup x=some .cell
 nofree:∀y∈sc.names,y.2≠.free
theorem oM{kindOf:Str->Option NameKind}{x:Str}:∀{binds:List (Str×Value)} {m:Str->Option Value},(∀v,(x,v)∉binds)->bindL kindOf binds m x=m x
 | [],_,_=>rfl
 | (n,v)::r,m,h=>by
  unfold bindL
  rw [oM λw hw=>h w (Θ _ hw)]
  split
  ·have:x≠n:=by rintro rfl;exact h v Ω
   simp [this]
  ·rfl
theorem oO{kindOf:Str->Option NameKind}{x:Str}:∀{binds:List (Str×Value)} {m:Str->Option Value},(∀v,(x,v)∉binds)->bindC kindOf binds m x=m x
 | [],_,_=>rfl
 | (n,v)::r,m,h=>by
  unfold bindC
  rw [oO λw hw=>h w (Θ _ hw)]
  split
  ·rfl
  ·have:x≠n:=by rintro rfl;exact h v Ω
   simp [this]
theorem oN{kindOf:Str->Option NameKind}{x:Str}{v:Value}:∀{P:List Str} {vs:List Value} {i:Nat} {m:Str->Option Value},P.Nodup->P[i]?=some x->vs[i]?=some v->kindOf x=some .local ->
  bindL kindOf (P.zip vs) m x=some v
 | [],_,_,_,_,h,_,_=>by simp at h
 | _::_,[],_,_,_,_,h,_=>by simp at h
 | p::P,w::vs,0,m,nd,h1,h2,hk=>by
  simp at h1 h2;subst h1;subst h2
  show bindL kindOf ((p,w)::P.zip vs) m p=_
  unfold bindL
  rw [oM λv hv=>(List.nodup_cons.mp nd).1 (List.of_mem_zip hv).1,if_pos hk]
  simp
 | p::P,w::vs,i+1,m,nd,h1,h2,hk=>by
  show bindL kindOf ((p,w)::P.zip vs) m x=_
  unfold bindL
  exact oN (i:=i) (List.nodup_cons.mp nd).2 (by simpa using h1) (by simpa using h2) hk
theorem oP{kindOf:Str->Option NameKind}{x:Str}{v:Value}:∀{P:List Str} {vs:List Value} {i:Nat} {m:Str->Option Value},P.Nodup->P[i]?=some x->vs[i]?=some v->kindOf x≠some .local ->
  bindC kindOf (P.zip vs) m x=some v
 | [],_,_,_,_,h,_,_=>by simp at h
 | _::_,[],_,_,_,_,h,_=>by simp at h
 | p::P,w::vs,0,m,nd,h1,h2,hk=>by
  simp at h1 h2;subst h1;subst h2
  show bindC kindOf ((p,w)::P.zip vs) m p=_
  unfold bindC
  rw [oO λv hv=>(List.nodup_cons.mp nd).1 (List.of_mem_zip hv).1,if_neg hk]
  simp
 | p::P,w::vs,i+1,m,nd,h1,h2,hk=>by
  show bindC kindOf ((p,w)::P.zip vs) m x=_
  unfold bindC
  exact oP (i:=i) (List.nodup_cons.mp nd).2 (by simpa using h1) (by simpa using h2) hk
def start(N:List Str)(vs:List V):St:=vs.map some++List.replicate (N.length-vs.length) none
def qX(CX:CXT)(P:Program)(w:World)(K:Frag)(mg:Str->Option Value)(base:Heap)(N:List Str)(qual:Str)(scope:Scope)(f:Addr)(cd:Value)(A:Around)(outer:List Env)(s:Shared)(H:Hp)(E:XK):Cx where
 prog:=P
 w:=w
 K:=K
 mg:=mg
 base:=base
 A:=A.deeper (envOfC qual scope s.heap.objs.size f cd)
 N:=N
 s₀:=s
 H₀:=H
 env:=envOfC qual scope s.heap.objs.size f cd
 outer:=outer
 stack:=envOfC qual scope s.heap.objs.size f cd::outer
 ex:=[]
 calm:=true
 fn:=λ_=>true
 pn:=[]
 xe:=λe s'=>wpAny (model P w) (A.deeper (envOfC qual scope s.heap.objs.size f cd)) (leaving (envOfC qual scope s.heap.objs.size f cd) e) (λ_ s''=>CX outer H s E e s'') (λe' s''=>CX outer H s E e' s'') s'
theorem qZ{b:Scope}{n:Nat}{x:Str}(h:b.names.lookup x=some .cell):∃c,(cellsFrom n b.names []).lookup x=some c:=by
 have q:=PySem.W.cellsFrom_some b.names n [] (.inl h)
 exact Option.isSome_iff_exists.mp q
theorem vd{I:CXT}{P:Program}{w:World}{K:Frag}{mg:Str->Option Value}{base:Heap}{N ps:List Str}{g:Str}{scope:Scope}{f:Addr}{D:Value}{A:Around}{d:List Env}{s s1:Shared}{H:Hp}{E:XK}{us:List Value}{vs:List V}
  (S:am N ps scope)(Q:A.handled=none)(e0:Env0 P w K mg base A d s H)(X:vs.length=ps.length)(r:Vals vs us)
  (x:InCallC s s.heap.objs.size (bindL (envOfC g scope s.heap.objs.size f D).kindOf (ps.zip us) λ_=>none) (cellsFrom (s.heap.objs.size+1) scope.names []) (bindC (envOfC g scope s.heap.objs.size f D).kindOf (ps.zip us) λ_=>none) s1) :
  Inv (qX I P w K mg base N g scope f D A d s H E) [] (start N vs) H s1:=by
 have L:ps.length<=N.length:=by have:=congrArg List.length S.pre;rw [List.length_take] at this;omega
 obtain ⟨h1,U,rfl,F⟩:=x.done
 have l:∀b:Addr,b∉(qX I P w K mg base N g scope f D A d s H E).ex:=λb z=>absurd (show b∈([]:List Addr) from z) (by simp)
 refine ⟨⟨e0.mod,S.kind,ϱ,ϱ,ι _,λy z c h1 j=>?_,λy hy=>?_,λy c _ h=>?_,λ_=>Q,Around.frames_deeper e0.frames,.inr ⟨ϱ,ϱ⟩,λb z=>absurd z (l b),e0.bs,e0.bsz,λb _ _=>l b,λb z=>absurd z (l b),e0.funs,e0.frf⟩,
  rfl,e0.bare,Un.kept F,⟨_,x.toInCall.ns,λi y v h1 j W=>?_⟩,λy c h=>⟨_,x.cell y c h⟩,e0.hok.fresh (Nat.le_refl _),λy c h=>?_,λp m=>absurd (show p∈([]:List (Addr×Obj)) from m) (by simp),e0.hok.kept F,?_⟩
 ·exact name_of_addr x.apart (PySem.mem_of_lookup h1) (PySem.mem_of_lookup j)
 ·have hy:scope.names.lookup y=some .cell\/scope.names.lookup y=some .free:=hy
  rcases hy with hy | hy
  ·exact qZ hy
  ·exact absurd rfl (S.nofree _ (PySem.mem_of_lookup hy))
 ·exact Nat.le_of_lt (x.above y c (PySem.mem_of_lookup h))
 ·have C:i<vs.length:=by
   unfold start at j
   by_cases C:i<vs.length
   ·exact C
   ·rw [List.getElem?_append_right (by simpa using C)] at j
    rw [List.getElem?_replicate] at j
    split at j<;>cases j
  have O:vs[i]?=some v:=by
   unfold start at j
   rw [List.getElem?_append_left (by simpa using C),List.getElem?_map] at j
   cases e:vs[i]? with
   | none=>rw [e] at j;cases j
   | some a=>rw [e] at j;cases j;rfl
  obtain ⟨u,G,J⟩:=r.get O
  have m:ps[i]?=some y:=by
   rw [← S.pre,List.getElem?_take_of_lt ω];exact h1
  have o:ps.Nodup:=by rw [← S.pre];exact S.nd.sublist (List.take_sublist _ _)
  refine ⟨u,J,?_⟩
  rcases S.par y (List.mem_of_getElem? m) with k | k
  ·exact .inl ⟨k,oN o m G k⟩
  ·obtain ⟨c,e⟩:=qZ (n:=s.heap.objs.size+1) k
   refine .inr ⟨.inl k,c,e,?_⟩
   have q:=x.cell y c e
   rw [oP o m G (by show scope.names.lookup y≠_;rw [k];decide)] at q
   exact q
 ·exact e0.hok.fresh (Nat.le_of_lt (x.above y c (PySem.mem_of_lookup h)))
 ·unfold start
  show _=N.length
  rw [List.length_append,ν,List.length_replicate]
  omega
theorem AB{F:CXT}{P:Program}{w:World}{K:Frag}{mg:Str->Option Value}{base:Heap}{k:Nat}{f:Addr}{name g:Str}{i:Arguments}{body:List Stmt}{scope:Scope}{dV kV C pm h ct oc:Value}{an od:Option Addr}
  {X:Array (Option Value)}{N ps:List Str}{sp:Sp}(lk:K.lookup f=some ⟨oc,od,.func (PySem.W.fnOf name g i body scope dV kV C pm an h ct),X⟩)(Y:PySem.W.codeIn K h g=true)(S:am N ps scope)
  (len:∀vs H Q E,sp vs H Q E->vs.length=ps.length)
  (l:∀(A:Around) (d:List Env) (s:Shared) (H:Hp) (vs:List V) (Q:VK) (E:XK),Room k (A.deeper (envOfC g scope s.heap.objs.size f h))->sp vs H Q E ->
   ∃t,PSs (qX F P w K mg base N g scope f h A d s H E) body t/\t {nx:=λ_ H'=>Q .non H',rt:=Q} (start N vs) H) :
  FnOk P w K mg base F (k+1) f (PySem.W.fnOf name g i body scope dV kV C pm an h ct) ps sp:=by
 refine ⟨len,λA d s H a0 us vs Q E O e0 hb r z=>?_⟩
 have hl:=len _ _ _ _ z
 have Z:K.In s.heap:=e0.mod.kin.keeps λb o e=>(e0.bs b o e).1
 have L:s.heap.NoLimit:=e0.mod.nolimit.keeps λb o e=>(e0.bs b o e).1
 have j:∀y∈ps.zip us,scope.names.lookup y.1=some .local\/(scope.names.lookup y.1=some .cell/\((cellsFrom (s.heap.objs.size+1) scope.names []).lookup y.1).isSome=true):=λ⟨n,v⟩ hy=>by
  rcases S.par n (List.of_mem_zip hy).1 with q | q
  ·exact .inl q
  ·exact .inr ⟨q,PySem.W.cellsFrom_some _ _ _ (.inl q)⟩
 refine codeAny_call_function O.depth (Z _ _ lk) rfl S.co S.gen rfl (PySem.W.codeRec_of Z Y) (hb _ _ _ _ ?_)
 refine wpAny_newFunctionEnv_cells S.kind j λak he s1 x=>?_
 subst he
 refine ⟨L.keeps x.toInCall.keep,codeAny_func ?_⟩
 obtain ⟨t,ht,hq⟩:=l A d s H vs Q E (O.deeper _) z
 have I:Inv (qX F P w K mg base N g scope f h A d s H E) [] (start N vs) H s1:=vd S O.hd e0 hl r x
 refine wpAny_mono (ht [] s1 (start N vs) H _ I hq) (λfl U m=>?_) λe U m=>m
 have fin:∀{D:St} {H':Hp} {v:V} {u:Value},Inv (qX F P w K mg base N g scope f h A d s H E) [] D H' U->RelV v u->Q v H'->CE d P w H s Q u U :=
  λ{D H' v u} J G q=>⟨v,H',J.os,J.bare,J.base,J.hok,G,q⟩
 cases fl with
 | ret u =>
  obtain ⟨v,D,H',J,G,q⟩:=m
  exact fin J G q
 | next =>
  obtain ⟨D,H',J,q⟩:=m
  exact fin (v:=V.non) (u:=Value.none) J rfl q
 | brk =>
  obtain ⟨_,_,_,q⟩:=m
  exact False.elim q
 | cont =>
  obtain ⟨_,_,_,q⟩:=m
  exact False.elim q
section
variable {X:Cx}{x:Str}{p pos:Pos}{e:Expr}{es:List Expr}{t:TA}{id T:String}{r:List V->Hp->VK->Prop}
def tCB(r:List V->Hp->VK->Prop)(t:TA):TE:=fun σ H Q=>t σ H λvs H1=>r vs H1 Q
theorem aK(m:cV X (.builtin id) r)(o:Gl X x)(q:X.mg x=none)(u:bootBuiltins x=some (.builtin id))(w:PA X (e::es) t)(y:x≠"__name__":=by decide)(d:(x==("__debug__":Str))=false:=by decide)
  (z:starEach (e::es) X.env=(false,eval e X.env)::starEach es X.env:=by rfl)(f:(backTo pos (starEach es X.env)).any (·.1)=false:=by rfl):PE X (.Call (.Name x p) (e::es) [] pos) (tCB r t):=by
 intro b s σ H Q I h
 refine wpAny_Call_Name_kw (mO I o q u ?_ y d)
 exact PyProof.Rows.callWith_builtin1 (thn (w pos b s σ H _ I h) λg i ⟨vs,H1,j,l,q1⟩=>m b i σ H1 vs g Q j l q1) z f
theorem aX(m:cV X (.type T) r)(o:Gl X x)(q:X.mg x=none)(u:bootBuiltins x=some (.type T))(w:PA X (e::es) t)(y:x≠"__name__":=by decide)(d:(x==("__debug__":Str))=false:=by decide)
  (z:starEach (e::es) X.env=(false,eval e X.env)::starEach es X.env:=by rfl)(f:(backTo pos (starEach es X.env)).any (·.1)=false:=by rfl):PE X (.Call (.Name x p) (e::es) [] pos) (tCB r t):=by
 intro b s σ H Q I h
 refine wpAny_Call_Name_kw (mO I o q u ?_ y d)
 exact PyProof.Rows.callWith_type1 (thn (w pos b s σ H _ I h) λg i ⟨vs,H1,j,l,q1⟩=>m b i σ H1 vs g Q j l q1) z f
end
end L2
namespace HT
open PySem PyProof.Rows
def fY:List Int->List Int->Bool
 | [],[]=>false
 | [],_::_=>true
 | _::_,[]=>false
 | x::xs,y::ys=>if x=y then fY xs ys else decide (x<y)
theorem sD(x y:Int)(xs ys:List Int):fY (x::xs) (y::ys)=if x=y then fY xs ys else decide (x<y):=rfl
theorem oh:fY [] []=false:=rfl
theorem mL(y:Int)(ys:List Int):fY [] (y::ys)=true:=rfl
theorem mM(x:Int)(xs:List Int):fY (x::xs) []=false:=rfl
theorem xU(A:Around)(s:Shared)(a:Int)(t:Tok)(c:Int)(u:Tok):∃e,SeqAt.EqAt A s (.int a t) (.int c u) e/\(e=true↔a=c) :=
 ⟨(a==c),SeqAt.EqAt.int_int a t c u,by simp⟩
theorem wA(A:Around)(s:Shared)(a:Int)(t:Tok)(c:Int)(u:Tok)(prog:Program)(w:World)(E:Value->Shared->Prop)(Q:Value->Shared->Prop)(h:Q (.bool (decide (a<c))) s) :
  wpAny (model prog w) A (richCompare .Lt (.int a t) (.int c u)) Q E s :=
 (PyProof.Rows.lt_int h:wpAny (model prog w) A (compareOp .Lt (.int a t) (.int c u)) Q E s)
section
open PySem.SeqAt
open PySem.AutoSeq1 (wpAny_loadPart')
open PySem.MeetsSeq PySem.MeetsSeq2 PySem.MeetsSeq3
theorem nu(l b:Addr)(i f:Array Value)(n H:Nat)(dd C:Option Addr)(I D:Array (Option Value))(o r:List Int)(F:IntsAre i.toList o)(G:IntsAre f.toList r) :
  Meets (Builtin.«tuple.__lt__» ⟨[.ref l, .ref b], []⟩)
   (λ_ R s=>s.heap.get? l=some {cls:=.type "tuple",dict:=dd,data:=.seq i n,slots:=I}/\s.heap.get? b=some {cls:=.type "tuple",dict:=C,data:=.seq f H,slots:=D} /\
    R (.ok (.ret (.bool (fY o r)))) s) :=
 .of_wp λprog w A R s h=>by
  obtain ⟨hp,g,d,tk,os⟩:=s;obtain ⟨hl,hb,h⟩:=h
  have f2:=AutoSeq1.sub_tuple_tuple
  have z1:i.size=o.length:=by rw [← F.length];simp
  have z2:f.size=r.length:=by rw [← G.length];simp
  wp_walk using wpAny_loadPart' hl,wpAny_loadPart' hb,wpAny_forIn_list _ (λrest b s'=>b.1=none/\s'=⟨hp,g,d,tk,os⟩/\∃(vs z:List Value) (j m:List Int),rest=vs.zip z /\
   IntsAre vs j/\IntsAre z m/\j.length+f.size=m.length+i.size/\R (.ok (.ret (.bool (fY j m)))) ⟨hp,g,d,tk,os⟩) _
  case turn =>
   rintro ⟨y,x⟩ rest b s' ⟨hb',rfl,vs,z,j,m,hz,hvi,hwi,hlen,hR⟩
   cases hvi with
   | nil=>rw [List.zip_nil_left] at hz;cases hz
   | cons a t hvi' =>
    cases hwi with
    | nil=>rw [List.zip_nil_right] at hz;cases hz
    | cons c u hwi' =>
     rw [List.zip_cons_cons] at hz
     injection hz with hyx hrest
     injection hyx with hy hx
     subst hy hx
     rw [sD] at hR
     simp only [List.length_cons] at hlen
     obtain ⟨e,he,hiff⟩:=xU A.in1 ⟨hp,g,d,tk,os⟩ a t c u
     refine ε (he prog w _ _ ?_)
     cases e with
     | true =>
      rw [if_pos (hiff.mp rfl)] at hR
      wp_walk
      exact ⟨ϱ,ϱ,_,_,_,_,hrest,hvi',hwi',ω,hR⟩
     | false =>
      rw [if_neg (λq=>absurd (hiff.mpr q) Bool.false_ne_true)] at hR
      have hri:=wA A.in1 ⟨hp,g,d,tk,os⟩ a t c u prog w
      wp_walk using hri
      exact ⟨_,ϱ,by simpa using hR⟩
  case fin =>
   rintro ⟨b1,b2⟩ s' ⟨hb',rfl,vs,z,j,m,hz,hvi,hwi,hlen,hR⟩
   simp only at hb'
   subst hb'
   have hv:fY j m=decide (i.size<f.size):=by
    cases hvi with
    | nil =>
     cases hwi with
     | nil =>
      simp only [List.length_nil] at hlen
      rw [oh]
      exact (Γ ω).symm
     | cons c u hw =>
      simp only [List.length_nil,List.length_cons] at hlen
      rw [mL]
      exact (τ ω).symm
    | cons a t hv =>
     cases hwi with
     | nil =>
      simp only [List.length_nil,List.length_cons] at hlen
      rw [mM]
      exact (Γ ω).symm
     | cons c u hw =>
      rw [List.zip_cons_cons] at hz
      cases hz
   rw [hv] at hR
   wp_walk
   exact ⟨_,ϱ,by simpa [Builtin.Tuple.tupleCompareSizes] using hR⟩
  case h =>
   exact ⟨ϱ,ϱ,i.toList,f.toList,o,r,ϱ,F,G,ω,h⟩
end
section
variable {prog:Program}{w:World}{A:Around}{E:Value->Shared->Prop}{s:Shared}
theorem sB{l b:Addr}{e d:Array Value}{j m:List Int}{Q:Value->Shared->Prop}(J:IsTup s.heap l e)(K:IsTup s.heap b d)(L:IntsAre e.toList j)(O:IntsAre d.toList m)
  (P:A.units<cLine)(h:Q (.bool (fY j m)) s):wpAny (model prog w) A (compareOp .Lt (.ref l) (.ref b)) Q E s:=by
 obtain ⟨⟨G,dd,u,H⟩,y,z,n,C⟩:=id J
 obtain ⟨⟨D,o,q,r⟩,f,g,I,i⟩:=id K
 simp only at z C g i
 subst z C g i
 exact richCompare_meets_room (op:=.Lt) ⟨_,y,ϱ⟩ ⟨_,f,ϱ⟩ PySem.F.slot_tuple_lt PySem.F.entry_tuple_lt (PySem.F.args_tuple_lt_2 _ _) (nu l b e d n I dd o H r j m L O)
  ⟨y,f,show Value.bool (fY j m)≠Value.notImplemented/\Q (.bool (fY j m)) s from ⟨(λx=>nomatch x),h⟩⟩ P
theorem z6{t b:Addr}{vs d:List Value}{Q:Value->Shared->Prop}(z:IsTup s.heap t vs.toArray)(C:IsTup s.heap b d.toArray)(y:vs≠[])
  (h1:d=[]->Q (.ref t) s)(D:d≠[]->Q (.ref s.heap.objs.size) {s with heap:=s.heap.push {cls:=.type "tuple",data:=.seq (vs++d).toArray}})
  (hsz:vs.length+d.length<=sizeLine):wpAny (model prog w) A (binaryOp .Add (.ref t) (.ref b)) Q E s:=by
 obtain ⟨⟨cls,dd,data,o⟩,l,q,n,r⟩:=id z
 obtain ⟨⟨u,g,m,h⟩,f,i,x,j⟩:=id C
 simp only at q r i j
 subst q r i j
 have e:vs.toArray++d.toArray=(vs++d).toArray:=by simp
 by_cases hw:d=[]
 ·exact concat_meets ⟨_,l,ϱ⟩ ⟨_,f,ϱ⟩ noFill_tuple_add seq_tuple_add PySem.F.slot_tuple_add PySem.F.entry_tuple_add (PySem.F.args_tuple_add_2 _ _)
   (tuple_addW1 t b vs.toArray d.toArray n x dd g o h (by simpa using y) (by simp [hw])) ⟨l,f,h1 hw⟩
 ·refine concat_meets ⟨_,l,ϱ⟩ ⟨_,f,ϱ⟩ noFill_tuple_add seq_tuple_add PySem.F.slot_tuple_add PySem.F.entry_tuple_add (PySem.F.args_tuple_add_2 _ _)
   (tuple_addW2 t b vs.toArray d.toArray n x dd g o h (by simpa using y) (by simpa using hw) (by rw [List.size_toArray,List.size_toArray];exact hsz)) ⟨l,f,?_⟩
  rw [e]
  exact D hw
def sIx(n d:Nat):Option Int->Nat
 | none=>d
 | some v=>if v<0 then (v+(n:Int)).toNat else min v.toNat n
theorem tJ(n d k:Nat):sIx n d (some (k:Int))=min k n:=by
 show (if (k:Int)<0 then ((k:Int)+(n:Int)).toNat else min (k:Int).toNat n)=min k n
 rw [if_neg ω,Int.toNat_natCast]
end
end HT
namespace L2
open PySem PySem.Spec PyProof.Rows
abbrev TO:=St->Hp->(Option Int->Hp->Prop)->Prop
def PO(X:Cx)(e:Option Expr)(t:TO):Prop :=
 ∀(pins:List (Addr×Obj)) (s:Shared) (σ:St) (H:Hp) (Q:Option Int->Hp->Prop),Inv X pins σ H s->t σ H Q ->
  wpAny (model X.prog X.w) X.A (evalPart e X.env) (λu s'=>∃o H',Inv X pins σ H' s'/\IsPart u o/\Q o H') X.xe s
def Cm(t:TE):TO:=fun σ H Q=>t σ H λx H1=>∃i,x=.int i/\Q (some i) H1
theorem sH{b:List Int}:∀{us:List Value},Vals (b.map V.int) us->IntsAre us b:=by
 induction b with
 | nil=>intro us r;rw [List.map_nil] at r;cases r;exact .nil
 | cons n b ih =>
  intro us r
  rw [List.map_cons] at r
  cases r with
  | cons r1 r2 =>
   obtain ⟨t,e⟩:=r1
   subst e
   exact .cons n t (ih r2)
section
variable {X:Cx}{e:Expr}{te:TE}{lo hi:Option Expr}{tl th:TO}{pos p2:Pos}
theorem iu(h:PE X e te):PO X (some e) (Cm te):=by
 intro b s σ H Q I g
 rw [evalPart_some]
 refine thn (h b s σ H _ I g) λu j ⟨x,H1,d,f,q1⟩=>?_
 obtain ⟨i,rfl,q⟩:=q1
 obtain ⟨t,rfl⟩:=f
 exact ⟨some i,H1,d,.int i t,q⟩
def SlR(X:Cx)(r:V->Option Int->Option Int->Hp->VK->Prop):Prop :=
 ∀(pins:List (Addr×Obj)) (s:Shared) (σ:St) (H:Hp) (x:V) (v vl vu:Value) (lo hi:Option Int) (sl:Addr) (Q:VK),Inv X pins σ H s->RelV x v->s.heap.IsSliceOf sl vl vu .none->IsPart vl lo->IsPart vu hi->r x lo hi H Q ->
  ∃T id,typeLookup (.type T) "__getitem__"=pure (some (.builtin id))/\s.TypeIs v T/\wpAny (model X.prog X.w) X.A (getItem v (.ref sl)) (EP X pins σ Q) X.xe s
def tSl(r:V->Option Int->Option Int->Hp->VK->Prop)(te:TE)(tl th:TO):TE:=fun σ H Q=>te σ H λx H1=>tl σ H1 λl H2=>th σ H2 λu H3=>r x l u H3 Q
theorem mx{r:V->Option Int->Option Int->Hp->VK->Prop}(U:SlR X r)(W:PE X e te)(Y:PO X lo tl)(Z:PO X hi th):PE X (.Subscript e (.Slice lo hi none p2) pos) (tSl r te tl th):=by
 intro d s σ H Q I h
 refine Subscript_ (thn (W d s σ H _ I h) λv C ⟨x,H1,D,F,q1⟩=>?_)
 refine wpAny_Slice (thn (Y d C σ H1 _ D q1) λg G ⟨l,J,K,L,q2⟩=>thn (Z d G σ J _ K q2) λi f ⟨u,j,O,P,q3⟩=>?_)
 rw [evalPart_none]
 refine π ?_
 have z:Inv X d σ j {f with heap:=f.heap.push {cls:=.type "slice",data:=.fields #[g,i,.none]}}:=O.kept (t':=f.toks) λb ob q=>ρ _ q
 obtain ⟨T,id,m,o,y⟩:=U d {f with heap:=f.heap.push {cls:=.type "slice",data:=.fields #[g,i,.none]}} σ j x v g i l u f.heap.objs.size Q z F (Heap.IsSliceOf.new ..) L P q3
 show wpAny (model X.prog X.w) X.A (subscriptTail e (.Slice lo hi none p2) v (.ref f.heap.objs.size)) (EP X d σ Q) X.xe {f with heap:=f.heap.push {cls:=.type "slice",data:=.fields #[g,i,.none]}}
 exact tail_any (ops:=[.ref f.heap.objs.size,v]) o m y (by with_unfolding_all rfl)
def ng(xs:List V)(lo hi:Option Int):List V:=(xs.drop (HT.sIx xs.length 0 lo)).take (HT.sIx xs.length xs.length hi-HT.sIx xs.length 0 lo)
theorem qY(xs:List V)(lo hi:Option Int):(ng xs lo hi).length<=xs.length:=by
 unfold ng
 rw [List.length_take,List.length_drop]
 omega
def Ao(K:Frag):R2:=λx y H Q=>∃a b xs ys,x=.ref a/\y=.ref b/\SqT K H a xs/\SqT K H b ys/\xs≠[]/\xs.length+ys.length<=sizeLine /\
 (ys=[]->Q (.ref a) H)/\(ys≠[]->∀p,H p=none->Q (.ref p) (upd H p (.tup (xs++ys))))
theorem Vals.nil_iff{xs:List V}{us:List Value}(r:Vals xs us):us=[]↔xs=[]:=by
 cases r with
 | nil=>simp
 | cons _ _=>simp
theorem zc:OpR X (binaryOp .Add) (Ao X.K):=by
 intro i s σ H x y v u Q I G J h
 obtain ⟨a,b,j,l,rfl,rfl,m,r,C,f,q1,q2⟩:=h
 cases G
 cases J
 obtain ⟨D,e,F,_⟩:=I.tuple m
 obtain ⟨g,d,p2,_⟩:=I.tuple r
 refine HT.z6 F p2 (λz=>C (e.nil_iff.mp z)) (λz=>⟨.ref a,H,I,ϱ,q1 (d.nil_iff.mp z)⟩) (λz=>?_) (by rw [← e.length,← d.length];exact f)
 refine ⟨.ref s.heap.objs.size,_,I.laid (t':=s.toks) (o:=.tup (j++l)) (λb L q=>ρ _ q) (ι _) ?_,ϱ,q2 (λw=>z (d.nil_iff.mpr w)) _ (I.hok.fresh (ι _))⟩
 exact ⟨by rw [List.length_append];exact f,_,e.append d,IsTup.new _ _⟩
end
def ixN(n:Nat)(i:Int):Option Nat:=if 0<=i then (if i<n then some i.toNat else none) else if -(n:Int)<=i then some (i+n).toNat else none
def atI{α:Type}(xs:List α)(i:Int):Option α:=(ixN xs.length i).bind λj=>xs[j]?
theorem ua{n:Nat}{i:Int}{j:Nat}(h:ixN n i=some j):seqIndex? i n=some j/\j<n/\-(n:Int)<=i/\i<n:=by
 unfold ixN at h
 by_cases h0:0<=i
 ·rw [if_pos h0] at h
  by_cases h1:i<n
  ·rw [if_pos h1] at h
   have e:i.toNat=j:=Δ h
   exact ⟨by rw [seqIndex_of h0 h1,e],ω,ω,h1⟩
  ·rw [if_neg h1] at h;cases h
 ·rw [if_neg h0] at h
  by_cases h1:-(n:Int)<=i
  ·rw [if_pos h1] at h
   have e:(i+n).toNat=j:=Δ h
   exact ⟨by rw [seqIndex_neg ω h1,e],ω,h1,ω⟩
  ·rw [if_neg h1] at h;cases h
theorem qa{α:Type}{xs:List α}{i:Int}{v:α}(h:atI xs i=some v):∃j,seqIndex? i xs.length=some j/\xs[j]?=some v/\j<xs.length/\-(xs.length:Int)<=i/\i<xs.length:=by
 unfold atI at h
 cases e:ixN xs.length i with
 | none=>rw [e] at h;cases h
 | some j =>
  rw [e] at h
  obtain ⟨h1,b,d,f⟩:=ua e
  exact ⟨j,h1,h,b,d,f⟩
theorem aW{α:Type}{xs:List α}{j:Nat}{v:α}(h:xs[j]?=some v):atI xs (j:Int)=some v:=by
 have b:j<xs.length:=(List.getElem?_eq_some_iff.mp h).1
 have e:ixN xs.length (j:Int)=some j:=by
  unfold ixN
  rw [if_pos ω,if_pos ω];simp
 unfold atI;rw [e];exact h
theorem yo{α:Type}(xs:List α)(v:α):atI (xs++[v]) (-1)=some v:=by
 have b:(xs++[v]).length=xs.length+1:=by simp
 have e:ixN (xs++[v]).length (-1)=some xs.length:=by
  unfold ixN
  rw [b,if_neg ζ,if_pos ω]
  congr 1
  omega
 unfold atI
 rw [e]
 show (xs++[v])[xs.length]?=some v
 simp
def Aa(b:Expr):Prop:=∀o i,subscripted b false o i=operate [o,i] (getItem o i)
def IxR(X:Cx)(r:R2):Prop :=
 ∀(value slice:Expr) (pins:List (Addr×Obj)) (s:Shared) (σ:St) (H:Hp) (x y:V) (v u:Value) (Q:VK),Inv X pins σ H s->RelV x v->RelV y u->r x y H Q ->
  subscripted slice false v u=operate [v,u] (getItem v u)->wpAny (model X.prog X.w) X.A (subscriptTail value slice v u) (EP X pins σ Q) X.xe s
def MtR(X:Cx)(id:String)(r:V->List V->Hp->VK->Prop):Prop :=
 ∀(pins:List (Addr×Obj)) (s:Shared) (σ:St) (H:Hp) (x:V) (xs:List V) (v:Value) (us:List Value) (Q:VK),Inv X pins σ H s->RelV x v->Vals xs us->r x xs H Q ->
  wpAny (model X.prog X.w) X.A (call (.builtin id) (v::us)) (EP X pins σ Q) X.xe s
section
variable {X:Cx}{a b:Expr}{ta tb:TE}{pos:Pos}
theorem au{r:R2}(l:IxR X r)(m:PE X a ta)(o:PE X b tb)(w:Aa b):PE X (.Subscript a b pos) (tOp r ta tb):=by
 intro d s σ H Q I h
 exact Subscript_ (B5 m o I h λv u e x y f g i j q=>l a b d e σ f x y v u Q g i j q (w _ _))
inductive XXL (K:Frag) (x y:V) (H:Hp) (Q:VK):Prop|mk p xs i v:x=.ref p->y=.int i->SqL K H p xs->atI xs i=some v->Q v H->XXL K x y H Q
def bz(K:Frag):R2:=λx y H Q=>XXL K x y H Q
inductive XXT (K:Frag) (x y:V) (H:Hp) (Q:VK):Prop|mk p xs i v:x=.ref p->y=.int i->SqT K H p xs->atI xs i=some v->Q v H->XXT K x y H Q
def aQ(K:Frag):R2:=λx y H Q=>XXT K x y H Q
def CZ:R2:=λx y H Q=>∃z i c,x=.str z/\y=.int i/\z.length<=sizeLine/\atI z.cps.toList i=some c/\Q (.str ⟨#[c]⟩) H
theorem aE:IxR X (bz X.K):=by
 intro l m b s σ H x y v u Q I U W h C
 obtain ⟨p,Y,i,z,rfl,rfl,D,F,q⟩:=h
 cases U
 obtain ⟨t,rfl⟩:=W
 obtain ⟨d,r,e,Z⟩:=I.list D
 obtain ⟨j,h1,G,h3,J,L⟩:=qa F
 obtain ⟨w,o,f⟩:=r.get G
 have O:=r.length
 have hn:=jY
 have fin:EP X b σ Q w s:=⟨z,H,I,f,q⟩
 by_cases h0:0<=i
 ·have g:i.toNat=j:=by
   rw [seqIndex_of h0 L] at h1
   exact Δ h1
  exact item_listR e.isList h0 ω (by rw [g];simpa using o) fin C
 ·have g:(i+(d.toArray.size:Int)).toNat=j:=by
   rw [seqIndex_neg ω J] at h1
   rw [List.size_toArray,← O]
   exact Δ h1
  exact subscriptTail_builtinR (x:=w) e.isList.typeIs slot_list_getitem.lookup
   (wpAny_getItem_list_neg (Q:=λr P=>r=w/\EP X b σ Q r P) e.isList ω (by rw [List.size_toArray]<;>omega) ω (by rw [g];simpa using o) ⟨ϱ,fin⟩) C
theorem aB:IxR X (aQ X.K):=by
 intro e f b s σ H x y v u Q I J L h O
 obtain ⟨p,P,i,z,rfl,rfl,l,m,q⟩:=h
 cases J
 obtain ⟨t,rfl⟩:=L
 obtain ⟨o,r,g,U⟩:=I.tuple l
 obtain ⟨j,h1,C,W,Y,Z⟩:=qa m
 obtain ⟨w,D,d⟩:=r.get C
 have F:=r.length
 have hn:=jY
 have fin:EP X b σ Q w s:=⟨z,H,I,d,q⟩
 exact subscriptTail_builtinR (x:=w) g.typeIs slot_tuple_getitem.lookup
  (getItem_tuple (j:=j) (Q:=λr G=>r=w/\EP X b σ Q r G) g ω ω (by rw [List.size_toArray,← F];exact h1) (by simpa using D) ⟨ϱ,fin⟩) O
theorem xH:IxR X CZ:=by
 intro b d e s σ H x y v u Q I C D h F
 obtain ⟨z,i,c,rfl,rfl,G,f,q⟩:=h
 obtain ⟨t,rfl⟩:=C
 obtain ⟨J,rfl⟩:=D
 obtain ⟨j,h1,g,K,l,m⟩:=qa f
 have o:z.cps.toList.length=z.length:=by simp [Str.length]
 rw [o] at h1 l m
 have L:=jY
 exact tail_any (typeIs_str s z t) slot_str_getitem.lookup (getItem_str (c:=c) (by
  have r:decide (i < -(2 ^ 63:Int))=false:=Γ ω
  have w:decide (i≥2 ^ 63)=false:=Γ ω
  rw [r,w,Bool.or_false]) (by rw [h1];simpa using g) ⟨.str ⟨#[c]⟩,H,I.tok _,⟨_,ϱ⟩,q⟩) F
theorem su(b:List Value)(n j:Nat)(u:Value):Obj.mapSeq (·.setIfInBounds j u) {cls:=.type "list",data:=.seq b.toArray n}={cls:=.type "list",data:=.seq (b.set j u).toArray n}:=by
 simp [Obj.mapSeq]
theorem Inv.lst{d:List (Addr×Obj)}{σ:St}{H:Hp}{s:Shared}{p:Addr}{xs:List V}(I:Inv X d σ H s)(h:H p=some (.lst xs)) :
  ∃(b:List Value) (n:Nat),Vals xs b/\s.heap.get? p=some {cls:=.type "list",data:=.seq b.toArray n}/\xs.length<=sizeLine:=by
 obtain ⟨z,b,n,r,e⟩:=I.hok p _ h
 exact ⟨b,n,r,e,z⟩
theorem Inv.lstUpd{d:List (Addr×Obj)}{σ:St}{H:Hp}{s:Shared}{p:Addr}{xs ys:List V}{g its':List Value}{n i:Nat}{f:Obj->Obj}(I:Inv X d σ H s)(h:H p=some (.lst xs))
  (l:s.heap.get? p=some {cls:=.type "list",data:=.seq g.toArray n})(hf:f {cls:=.type "list",data:=.seq g.toArray n}={cls:=.type "list",data:=.seq its'.toArray i})(r:Vals ys its')(hz:ys.length<=sizeLine)(t:Nat) :
  Inv X d σ (upd H p (.lst ys)) {s with heap:=s.heap.update p f,toks:=t}:=by
 have e:(s.heap.update p f).get? p=some {cls:=.type "list",data:=.seq its'.toArray i}:=by
  rw [Heap.get?_update_self f l (by rw [hf]<;>rfl),hf]
 refine I.write (x:=p) (e:=p) (by rw [h];trivial) (.inl rfl) (λb u j q=>(Heap.get?_update_other _ _ (Ne.symm j)).trans q) ⟨_,e⟩ ?_
 exact ⟨hz,its',i,r,e⟩
def CT:V->V->V->Hp->(Hp->Prop)->Prop:=λo i v H Q=>∃p xs k j,o=.ref p/\i=.int k/\H p=some (.lst xs)/\ixN xs.length k=some j/\Q (upd H p (.lst (xs.set j v)))
theorem qh:Du X CT:=by
 intro d s σ H o i v ov L u Q I D F G h
 obtain ⟨p,y,k,j,rfl,rfl,l,z,q⟩:=h
 cases D
 obtain ⟨t,rfl⟩:=F
 obtain ⟨b,n,r,e,C⟩:=I.lst l
 obtain ⟨h1,J,m,w⟩:=ua z
 have f:=r.length
 have K:=jY
 have x:Inv X d σ (upd H p (.lst (y.set j v))) {s with heap:=s.heap.update p (Obj.mapSeq (·.setIfInBounds j u))} :=
  I.lstUpd l e (su b n j u) (r.set G j) (by rw [List.length_set];exact C) s.toks
 by_cases h0:0<=k
 ·have g:k.toNat=j:=by
   rw [seqIndex_of h0 w] at h1
   exact Δ h1
  exact PySem.W.ki_setAt e h0 ω (by rw [List.size_toArray,← f];exact w) (by rw [g];exact ⟨_,x,q⟩)
 ·have g:(k+(b.toArray.size:Int)).toNat=j:=by
   rw [seqIndex_neg ω m] at h1
   rw [List.size_toArray,← f]
   exact Δ h1
  exact PySem.W.ki_setBack e ω (by rw [List.size_toArray,← f];exact m) ω (by rw [g];exact ⟨_,x,q⟩)
theorem pB(lo b:Option Int)(n:Nat):(sliceBounds lo b none n).1=((HT.sIx n 0 lo:Nat):Int)/\(sliceBounds lo b none n).2.1=((HT.sIx n n b:Nat):Int)/\(sliceBounds lo b none n).2.2=1:=by
 refine ⟨?_,?_,ϱ⟩
 ·cases lo with
  | none=>simp [sliceBounds,HT.sIx]
  | some i =>
   simp only [sliceBounds,HT.sIx,Option.getD_none,show (1:Int)>0 by decide,if_true]
   by_cases h:i<0
   ·simp only [h,if_true]<;>omega
   ·simp only [h,if_false]<;>omega
 ·cases b with
  | none=>simp [sliceBounds,HT.sIx]
  | some i =>
   simp only [sliceBounds,HT.sIx,Option.getD_none,show (1:Int)>0 by decide,if_true]
   by_cases h:i<0
   ·simp only [h,if_true]<;>omega
   ·simp only [h,if_false]<;>omega
theorem ny(b:List Value)(lo d:Option Int):slicePick b.toArray lo d none=((b.drop (HT.sIx b.length 0 lo)).take (HT.sIx b.length b.length d-HT.sIx b.length 0 lo)).toArray:=by
 obtain ⟨h1,e,f⟩:=pB lo d b.toArray.size
 unfold slicePick
 rw [h1,e,f]
 simp only [sliceRange_one,pick_run,List.size_toArray]<;>rfl
def DI(K:Frag):V->Option Int->Option Int->Hp->VK->Prop:=λx lo hi H Q=>∃a xs,x=.ref a/\SqL K H a xs/\∀p,H p=none->Q (.ref p) (upd H p (.lst (ng xs lo hi)))
theorem tF:SlR X (DI X.K):=by
 intro i s σ H x v D F lo f G Q I u w y z h
 obtain ⟨a,d,rfl,j,q⟩:=h
 cases u
 obtain ⟨l,r,g,m⟩:=I.list j
 have e:=r.length
 refine ⟨"list",_,slot_list_getitem.lookup,g.isList.typeIs,?_⟩
 refine wpAny_getItem_list_slice g.isList w y z .none (by simp) ?_ (by rw [List.size_toArray]<;>omega)
 rw [ny,← e]
 refine ⟨.ref s.heap.objs.size,_,I.laid (t':=s.toks) (o:=.lst (ng d lo f)) (λb C q=>ρ _ q) (ι _) ?_,ϱ,q _ (I.hok.fresh (ι _))⟩
 exact ⟨Λ (qY d lo f) m,_,0,(r.drop (HT.sIx d.length 0 lo)).take (HT.sIx d.length d.length f-HT.sIx d.length 0 lo),ψ _ rfl⟩
theorem be:cV X (.builtin "len") (λxs H Q=>∃p ys,xs=[.ref p]/\(SqL X.K H p ys\/SqT X.K H p ys)/\Q (.int ys.length) H):=by
 intro g s σ H xs m Q I r h
 obtain ⟨p,ys,rfl,hq,q⟩:=h
 obtain ⟨u,rfl,i⟩:=dm r
 cases i
 have l:=jY
 rcases hq with hq | hq
 ·obtain ⟨d,e,f,j⟩:=I.list hq
  have b:=e.length
  exact Calls.call_len_list f.isList (by simp only [List.size_toArray]<;>omega) ⟨.int ys.length,H,I.tok _,⟨s.toks+1,by rw [List.size_toArray,b]⟩,q⟩
 ·obtain ⟨d,e,f,j⟩:=I.tuple hq
  have b:=e.length
  exact len_tuple f (by simp only [List.size_toArray]<;>omega) ⟨.int ys.length,H,I.tok _,⟨s.toks+1,by rw [List.size_toArray,b]⟩,q⟩
theorem bT:cV X (.builtin "len") (λxs H Q=>∃z,xs=[.str z]/\z.length<=sizeLine/\Q (.int z.length) H):=by
 intro b s σ H xs f Q I r h
 obtain ⟨z,rfl,d,q⟩:=h
 obtain ⟨u,rfl,t,rfl⟩:=dm r
 have e:=jY
 exact len_str ω ⟨.int z.length,H,I.tok _,⟨_,ϱ⟩,q⟩
theorem gH:cV X (.type "list") (λxs H Q=>∃p ys,xs=[.ref p]/\(SqL X.K H p ys\/SqT X.K H p ys)/\∀l,H l=none->Q (.ref l) (upd H l (.lst ys))):=by
 intro x s σ H xs G Q I r h
 obtain ⟨p,ys,rfl,hq,q⟩:=h
 obtain ⟨u,rfl,F⟩:=dm r
 cases F
 have fin:∀(d:List Value),Vals ys d->ys.length<=sizeLine->∀(f:Heap) (i:Nat),(∀b o',s.heap.get? b=some o'->f.get? b=some o') ->
   f.get? s.heap.objs.size=some {cls:=.type "list",dict:=none,data:=.seq d.toArray i,slots:=#[]}->EP X x σ Q (.ref s.heap.objs.size) {s with heap:=f}:=λd g j f i kp e =>
  ⟨.ref s.heap.objs.size,_,I.laid (t':=s.toks) kp (ι _) (show ObjOk X.prog X.w _ f _ (.lst ys) from ⟨j,d,i,g,e⟩),ϱ,q _ (I.hok.fresh (ι _))⟩
 rcases hq with hq | hq
 ·obtain ⟨d,g,y,j⟩:=I.list hq
  have m:=g.length
  obtain ⟨o,z,C,n,D⟩:=y.isList
  exact call_list_seq p (.inl rfl) z C D (λf i kp e=>fin d g j f i kp e) (by simp only [List.size_toArray]<;>omega)
 ·obtain ⟨d,g,y,j⟩:=I.tuple hq
  have m:=g.length
  obtain ⟨o,z,C,n,D⟩:=y
  exact call_list_seq p (.inr rfl) z C D (λf i kp e=>fin d g j f i kp e) (by simp only [List.size_toArray]<;>omega)
theorem cI:cV X (.type "tuple") (λxs H Q=>∃p ys,xs=[.ref p]/\((SqL X.K H p ys/\∀l,H l=none->Q (.ref l) (upd H l (.tup ys)))\/(SqT X.K H p ys/\Q (.ref p) H))):=by
 intro d s σ H xs D Q I r h
 obtain ⟨p,ys,rfl,h⟩:=h
 obtain ⟨u,rfl,z⟩:=dm r
 cases z
 rcases h with ⟨hq,q⟩ | ⟨hq,q⟩
 ·obtain ⟨f,i,j,m⟩:=I.list hq
  have x:=i.length
  refine call_tuple_list j.isList (λg kp=>?_) (by simp only [List.size_toArray]<;>omega)
  have y:Inv X d σ H {s with heap:=g}:=I.kept (t':=s.toks) kp
  have C:Inv X d σ (upd H g.objs.size (.tup ys)) {s with heap:=g.push {cls:=.type "tuple",data:=.seq f.toArray}} :=
   y.laid (t':=s.toks) (λb o e=>ρ _ e) (ι _) (show ObjOk X.prog X.w _ _ _ (.tup ys) from ⟨m,f,i,IsTup.new _ _⟩)
  exact ⟨.ref g.objs.size,_,C,ϱ,q _ (y.hok.fresh (ι _))⟩
 ·obtain ⟨f,i,j,m⟩:=I.tuple hq
  exact call_tuple_same j ⟨.ref p,H,I,ϱ,q⟩
def tyV(K:Frag)(T:String)(x:V)(H:Hp):Prop:=match x with
 | .str _=>T="str"
 | .int _=>T="int"
 | .ref p=>(T="list"/\∃xs,SqL K H p xs)\/(T="tuple"/\∃o,K.lookup p=some o/\o.cls=.type "tuple"/\o.dict=none) \/
   (T="dict"/\((∃kvs,H p=some (.dK kvs))\/∃kvs,H p=some (.dT kvs)))\/(T="set"/\∃S n,H p=some (.set S n))
 | _=>False
theorem vI{b:List (Addr×Obj)}{σ:St}{H:Hp}{s:Shared}{T:String}{x:V}{v:Value}(I:Inv X b σ H s)(r:RelV x v)(d:tyV X.K T x H) :
  s.TypeIs v T/\∀a,v=.ref a->∃ob,s.heap.get? a=some ob/\ob.dict=none:=by
 cases x with
 | str z =>
  obtain ⟨t,rfl⟩:=r
  cases (show T="str" from d)
  exact ⟨typeIs_str s z t,λ_ e=>nomatch e⟩
 | int i =>
  obtain ⟨t,rfl⟩:=r
  cases (show T="int" from d)
  exact ⟨typeIs_int s i t,λ_ e=>nomatch e⟩
 | ref p =>
  cases r
  rcases d with ⟨rfl,xs,hq⟩ | ⟨rfl,o,hk,hc,f⟩ | ⟨rfl,hk⟩ | ⟨rfl,S,n,hk⟩
  ·obtain ⟨j,_,h,_⟩:=I.list hq
   refine ⟨h.isList.typeIs,λa e=>?_⟩
   cases e
   obtain ⟨o,n,e,c,f,_⟩:=h
   exact ⟨o,e,f⟩
  ·refine ⟨⟨o,I.kIn p o hk,hc⟩,λa e=>?_⟩
   cases e
   exact ⟨o,I.kIn _ o hk,f⟩
  ·have z:∃o,s.heap.get? p=some o/\o.ExactDict:=by
    rcases hk with ⟨kvs,hk⟩ | ⟨kvs,hk⟩
    ·obtain ⟨_,_,_,_,o,_,_,e,ex,_⟩:=I.hok p _ hk
     exact ⟨o,e,ex⟩
    ·obtain ⟨_,_,_,_,o,_,_,e,ex,_⟩:=I.hok p _ hk
     exact ⟨o,e,ex⟩
   obtain ⟨o,e,ex⟩:=z
   refine ⟨⟨o,e,ex.1⟩,λa g=>?_⟩
   cases g
   exact ⟨o,e,ex.2.1⟩
  ·obtain ⟨o,_,_,_,e,ex,_⟩:=I.hok p _ hk
   refine ⟨⟨o,e,ex.1⟩,λa g=>?_⟩
   cases g
   exact ⟨o,e,ex.2.1⟩
 | _=>exact False.elim d
def Cy(K:Frag)(T:String)(r:V->List V->Hp->VK->Prop)(to:TE):TE:=fun σ H Q=>to σ H λx H1=>tyV K T x H1/\r x [] H1 Q
def tBM(K:Frag)(T:String)(r:V->List V->Hp->VK->Prop)(to:TE)(t:TA):TE:=fun σ H Q=>to σ H λx H1=>tyV K T x H1/\t σ H1 λxs H2=>r x xs H2 Q
variable {o e:Expr}{es:List Expr}{to:TE}{t:TA}{name:Str}{apos cpos:Pos}{T id:String}{r:V->List V->Hp->VK->Prop}
theorem Bj(u:PlainAttrs T)(f:Slot T name id)(g:typeOf (.builtin id)=pure (.type "method_descriptor"))(w:MtR X id r)(y:PE X o to)
  (d:attributeBase o name X.env (eval o X.env)=eval o X.env:=by rfl)(e:(apos.endLine==cpos.line)=true:=by rfl):PE X (.Call (.Attribute o name apos) [] [] cpos) (Cy X.K T r to):=by
 intro b s σ H Q I h
 refine wpAny_Call_method0_late d e (thn (y b s σ H _ I h) λv m ⟨x,H1,i,j,q,q1⟩=>?_)
 obtain ⟨h1,l⟩:=vI i j q
 exact ⟨T,id,u,f,g,h1,l,Calls.callWith_builtin rfl (PySem.evalArgs_none (w b m σ H1 x [] v [] Q i j .nil q1))⟩
theorem gK(L:PlainAttrs T)(i:Slot T name id)(l:typeOf (.builtin id)=pure (.type "method_descriptor"))(O:MtR X id r)(P:PE X o to)(U:PA X (e::es) t)
  (f:attributeBase o name X.env (eval o X.env)=eval o X.env:=by rfl)
  (j:((backTo cpos (starEach (e::es) X.env)).all (λx=>!x.1)&&(backToKw cpos (keywordEach [] X.env)).all (λx=>x.1.isSome)
   && decide ((e::es).length+([]:List Keyword).length+(if ([]:List Keyword).isEmpty then 0 else 1)<30))=true:=by rfl)
  (g:(apos.endLine==cpos.line)=true:=by rfl) (W:starEach (e::es) X.env=(false,eval e X.env)::starEach es X.env:=by rfl) (d:(backTo cpos (starEach es X.env)).any (·.1)=false:=by rfl) :
  PE X (.Call (.Attribute o name apos) (e::es) [] cpos) (tBM X.K T r to t):=by
 intro b s σ H Q I h
 refine wpAny_Call_method_late f j g rfl (thn (P b s σ H _ I h) λv y ⟨x,H1,q,u,z,q1⟩=>?_)
 obtain ⟨h1,w⟩:=vI q u z
 refine ⟨T,id,L,i,l,h1,w,?_⟩
 have m:=U cpos b y σ H1 _ q q1
 rw [W] at m ⊢
 refine Calls.callWith_builtin (by show (false||(backTo cpos (starEach es X.env)).any (·.1))=false;rw [d]<;>rfl) (Calls.evalArgs_plain ?_)
 exact thn m λC D ⟨vs,F,G,J,q2⟩=>O b D σ F x vs v C Q G u J q2
end
def MtM(X:Cx)(id:String)(r:V->List V->Hp->VK->Prop):Prop :=
 ∀(pins:List (Addr×Obj)) (s:Shared) (σ:St) (H:Hp) (x:V) (xs:List V) (v:Value) (us:List Value) (Q:VK),Inv X pins σ H s->RelV x v->Vals xs us->r x xs H Q ->
  wpAny (model X.prog X.w) X.A (call (.builtin id) (v::us)) (EP X pins σ Q) X.xe s
theorem Vals.one:∀{x:V} {us:List Value},Vals [x] us->∃u,us=[u]/\RelV x u
 | _,_,.cons r .nil=>⟨_,rfl,r⟩
theorem Vals.two:∀{x y:V} {us:List Value},Vals [x,y] us->∃u v,us=[u,v]/\RelV x u/\RelV y v
 | _,_,_,.cons r (.cons q .nil)=>⟨_,_,rfl,r,q⟩
section
variable {X:Cx}{pins:List (Addr×Obj)}{σ:St}{H:Hp}{s:Shared}{l b:Addr}{xs ys zs:List V}
theorem Inv.lset{b its':List Value}{n:Nat}{f:Array Value->Array Value}{t':Nat}(I:Inv X pins σ H s)(h:H l=some (.lst xs))
  (e:s.heap.get? l=some {cls:=.type "list",data:=.seq b.toArray n})(hf:f b.toArray=its'.toArray)(i:Vals ys its')(hz:ys.length<=sizeLine) :
  Inv X pins σ (upd H l (.lst ys)) {s with heap:=s.heap.update l (Obj.mapSeq f),toks:=t'}:=by
 have q:=PySem.IsL.update e f
 rw [hf] at q
 refine I.write (x:=l) (e:=l) (by rw [h];exact trivial) (.inl rfl) (λj u d g=>(Heap.get?_update_other s.heap (Obj.mapSeq f) (Ne.symm d)).trans g) ⟨_,q⟩ ?_
 exact ⟨hz,its',_,i,q⟩
theorem Inv.lstM(I:Inv X pins σ H s)(d:H l=some (.lst xs)):xs.length<=sizeLine/\∃(b:List Value) (n:Nat),Vals xs b/\xs.length=b.length/\s.heap.get? l=some {cls:=.type "list",data:=.seq b.toArray n}:=by
 obtain ⟨z,b,n,r,e⟩:=I.hok l _ d
 exact ⟨z,b,n,r,r.length,e⟩
end
section
variable {X:Cx}
def yQ:V->List V->Hp->VK->Prop:=λx vs H Q=>∃l xs y,x=.ref l/\vs=[y]/\H l=some (.lst xs)/\xs.length<sizeLine/\Q .non (upd H l (.lst (xs++[y])))
theorem eL:MtM X "list.append" yQ:=by
 intro f s σ H x vs v C Q I i j h
 obtain ⟨l,m,y,rfl,rfl,d,o,q⟩:=h
 cases i
 obtain ⟨u,rfl,g⟩:=j.one
 obtain ⟨z,b,n,r,w,e⟩:=I.lstM d
 refine call_meets F.slot_list_append ⟨_,e,ϱ⟩ F.entry_list_append (F.args_list_append_2 _ _) (PySem.list_append l b.toArray n u (by rw [List.size_toArray];omega)) ⟨e,?_⟩
 refine ⟨.non,_,I.lset (its':=b++[u]) d e (by simp) (r.append (.cons g .nil)) ?_,ϱ,q⟩
 rw [List.length_append,List.length_singleton]
 omega
end
end L2
namespace Att
open PySem PySem.W PySem.Calls PyProof.Rows
theorem lg{P:Params}{h:Heap}:∀(d:List Int) (vs:List Value),WellAll P h vs (d.map WData.int)->IntsAre vs d:=by
 intro d
 induction d with
 | nil =>
  intro vs w
  rw [List.map_nil] at w
  cases w
  exact .nil
 | cons n d ih =>
  intro vs w
  rw [List.map_cons] at w
  cases w with
  | cons a b =>
   cases a
   exact .cons _ _ (ih _ b)
theorem uL{l:OpenLaw}{n:Nat}(y:l.most=some n){P:Params}{h:Heap}{args:List WData}{b:List Value}
  (e:l.row.toRowW.claim.pre args=true)(m:WellAll P h b args) :
  ∃a vs ns,b=[Value.ref a]/\args=[WData.list (ns.map WData.int)]/\h.get? a=some {cls:=.type "list",data:=.seq vs.toArray}/\IntsAre vs ns/\ns.length<=n:=by
 have j:WShape.hasAll [] args [.list .int]=true:=(pre_splitW e).1
 have o:l.pre.holds [] {args:=args}=true:=(pre_splitW e).2
 obtain ⟨d,r,rfl,h1,u⟩:=hasAllW_cons j
 obtain rfl:=hasAllW_nil u
 obtain ⟨z,rfl,w⟩:=hasW_list h1
 obtain ⟨ns,rfl⟩:=items_int w
 have f:ns.length<=n:=by
  unfold OpenLaw.pre at o
  have g:(WTm.not (.lt (.lit (.int (n:Int))) (.len (.arg 0)))).holds [] {args:=[.list (ns.map .int)]}=true:=by
   have g:=(holds_andW o).1
   rw [y] at g
   exact g
  have i:=condW_of g (w_not (w_lt w_lit (w_len_list (w_arg rfl))))
  rw [ν] at i
  refine Nat.le_of_not_lt λq=>?_
  have x:(n:Int)<((ns.length:Nat):Int):=by omega
  first
   | (rw [τ x] at i;exact absurd i ζ)
   | (simp at i;omega)
 cases m with
 | cons w1 w2 =>
  cases w2
  cases w1 with
  | list ho hall=>exact ⟨_,_,ns,rfl,rfl,ho,lg ns _ hall,f⟩
theorem uN(l:OpenLaw)(args:List WData):l.row.toRowW.claim.post args (.bool true) args=true :=
 postW_of (r:=l.row.toRowW) (X:=(true==true))
  (show WShape.has [] (.bool true) .bool=true by first | rfl | decide | simp [WShape.has,WShape.arms,WShape.armsAll])
  (show (WTm.eq .res (.lit (.bool true))).value [] {args:=args,res:=some (.bool true),after:=args}=some (.bool (true==true)) from w_eq_bool (w_res rfl) w_lit) rfl
theorem rg{l:OpenLaw}{n:Nat}{q:Program}{loose:List Str}{XP:(Str->Option Value)->Heap->Prop}{YP:World->Heap->Prop}{d:DefRec}
  (hn:l.most=some n)(H:d.params.defaults=[])
  (call:∀(w:World) (y b:Shared) (mg z:Str->Option Value) (j:Addr) (o:Obj) (pm x g:Value) (a:Addr) (vs:List Value) (u:List Int),
   Ground q loose [] XP w y mg z b.heap->YP w b.heap ->
   b.heap.get? j=some o->o.data=.func (docDef d.name d.params d.body d.scope pm x g)->b.heap.CodeRec x d.name->mg d.name=some (.ref j) ->
   b.heap.get? a=some {cls:=.type "list",data:=.seq vs.toArray}->IntsAre vs u->u.length<=n->b.gens=#[] ->
   codeAny (model l.prog w) callerA (.call (.ref j) ⟨[.ref a],[]⟩) (λr s'=>r=.ok (.ret (.bool true))/\OldK b.heap s'.heap/\s'.os=b.os/\AllBare s'.gens) b) :
  WalkO q loose XP YP l.row.toRowW d [] (λf vs=>PySem.call f vs):=by
 intro w y b mg z G Y j o pm x g X kV Z hd C I D hg J K as m L a2 F a3
 obtain rfl:X=.none:=Dflts.none I H
 obtain rfl:kV=.none:=Dflts.noKw I
 obtain ⟨a,vs,u,rfl,rfl,h,e,i⟩:=uL hn m F
 refine enter_call (codeAny_mono (call w y b mg z j o pm x g a vs u G Y Z (fd_plain hd) C D h e i hg) λr s' U=>?_)
 obtain ⟨rfl,O,P,Q⟩:=U
 exact ⟨.inl ⟨.bool true,.bool true,[],ϱ,λ_=>rfl,.bool true,uN l _,λ_=>⟨List.Pairwise.nil,λ_ W=>(nomatch W)⟩⟩,O,P,Q⟩
section
variable {prog:Program}{w:World}{A:Around}{E:Value->Shared->Prop}{s:Shared}{K:Frag}
def fD(h:Heap):Heap:={h with objs:=#[]}
theorem eR(h:Heap)(b:Addr):(fD h).get? b=none:=by
 cases e:(fD h).get? b with
 | none=>rfl
 | some o=>exact absurd (η e) (Nat.not_lt_zero _)
def gE(h:Heap)(L d:Addr):List (Addr×Obj):=(List.range h.objs.size).filterMap λa=>if a=L\/a=d then none else (h.get? a).map λo=>(a,o)
theorem mem_ledger{h:Heap}{L d a:Addr}{o:Obj}:(a,o)∈gE h L d↔a≠L/\a≠d/\h.get? a=some o:=by
 unfold gE
 rw [List.mem_filterMap]
 constructor
 ·rintro ⟨b,_,e⟩
  split at e
  ·cases e
  ·rename_i hb
   obtain ⟨l,f,g⟩:=Option.map_eq_some_iff.mp e
   cases g
   exact ⟨λq=>hb (.inl q),λq=>hb (.inr q),f⟩
 ·rintro ⟨i,j,f⟩
  refine ⟨a,List.mem_range.mpr (η f),?_⟩
  rw [if_neg (show ¬(a=L\/a=d) from λq=>q.elim i j),f]<;>rfl
theorem xP{h:Heap}{L:Addr}{m:Str->Option Value}(n:h.Ns L m):Fr (fD h) L h m :=
 ⟨n,λb o e=>(by rw [eR] at e;cases e),ϖ _⟩
end
end Att
namespace L2
open PySem PySem.Spec PyProof.Rows
theorem on:∀{vs:List Value} {ns:List Int},IntsAre vs ns->Vals (ns.map V.int) vs
 | _,_,.nil=>.nil
 | _,_,.cons n t h=>.cons ⟨t,rfl⟩ (on h)
def inClass(s:Stmt)(j:Nat):Stmt:=match s with
 | .ClassDef _ _ _ body _ _ _ _ _ _ _=>body.getD j (.Pass ⟨0,0,0,0⟩)
 | _=>.Pass ⟨0,0,0,0⟩
def defArgs(s:Stmt):Arguments:=match s with
 | .FunctionDef _ a _ _ _ _ _ _ _ _=>a
 | _=>{posonlyargs:=[],args:=[],vararg:=none,kwonlyargs:=[],kw_defaults:=[],kwarg:=none,defaults:=[]}
def defBody(s:Stmt):List Stmt:=match s with
 | .FunctionDef _ _ b _ _ _ _ _ _ _=>b
 | _=>[]
def defScope(s:Stmt):Scope:=match s with
 | .FunctionDef _ _ _ _ _ _ sc _ _ _=>sc
 | _=>{kind:=.function,names:=[],isGenerator:=false,isCoroutine:=false}
abbrev CX0:CXT:=λ_ _ _ _ _ _=>False
abbrev E0:XK:=λ_ _ _=>False
theorem bb{X:Cx}:c9 CX0 X E0:=λ_ _ _ _ _ _ _ h=>h.elim
structure Fun(K:Frag)(x qual:Str)(st:Stmt)(f:Addr)(fd:FuncData):Prop where
 ex:∃(oc:Value) (od:Option Addr) (kV doc pm:Value) (an:Option Addr) (cdv ct:Value) (osl:Array (Option Value)),
  fd=PySem.W.fnOf x qual (defArgs st) (defBody st) (defScope st) .none kV doc pm an cdv ct/\K.lookup f=some ⟨oc,od,.func fd,osl⟩/\PySem.W.codeIn K cdv qual=true
 kp:PySem.W.keepIn K (.ref f)=true
section
variable {P:Program}{w:World}{K:Frag}{mg:Str->Option Value}{base:Heap}
theorem Fun.ok{x d:Str}{st:Stmt}{f:Addr}{l:FuncData}{N ps:List Str}{k:Nat}{sp:Sp}(F:Fun K x d st f l)(S:am N ps (defScope st))(len:∀vs H Q E,sp vs H Q E->vs.length=ps.length)
  (g:∀(e:Value) (A:Around) (b:List Env) (s:Shared) (H:Hp) (vs:List V) (Q:VK) (E:XK),Room k (A.deeper (envOfC d (defScope st) s.heap.objs.size f e))->sp vs H Q E ->
   ∃t,PSs (qX CX0 P w K mg base N d (defScope st) f e A b s H E).nox (defBody st) t/\t {nx:=λ_ H'=>Q .non H',rt:=Q} (start N vs) H):FnOk P w K mg base CX0 (k+1) f l ps sp:=by
 obtain ⟨y,od,kV,m,pm,an,e,z,o,rfl,r,i⟩:=F.ex
 refine AB r i S len λA b s H vs Q E u j=>?_
 obtain ⟨t,h,q⟩:=g e A b s H vs Q E u j
 exact ⟨t,h.nox,q⟩
theorem Fun.oj{x qual:Str}{st:Stmt}{f:Addr}{fd:FuncData}{N ps:List Str}{k:Nat}{sp:Sp}(F:Fun K x qual st f fd)(S:am N ps (defScope st))
  (hbody:∀(cdv:Value) (A:Around) (outer:List Env) (s:Shared) (H:Hp) (vs:List V) (Q:VK) (E:XK),Room k (A.deeper (envOfC qual (defScope st) s.heap.objs.size f cdv))->sp vs H Q E ->
   ∃t,PSs (qX CX0 P w K mg base N qual (defScope st) f cdv A outer s H E).nox (defBody st) t/\t {nx:=λ_ H'=>Q .non H',rt:=Q} (start N vs) H) (len:∀vs H Q E,sp vs H Q E->vs.length=ps.length:=by intros;rename_i h;cases h;subst_vars;rfl):FnOk P w K mg base CX0 (k+1) f fd ps sp:=F.ok S len hbody
theorem Fun.binds{x b:Str}{st:Stmt}{f:Addr}{i:FuncData}{ps:List Str}(F:Fun K x b st f i)
  (h:∀(kV d pm:Value) (an:Option Addr) (e g:Value) (us:List Value),us.length=ps.length->bindArgs (PySem.W.fnOf x b (defArgs st) (defBody st) (defScope st) .none kV d pm an e g) ⟨us,[]⟩=pure (ps.zip us)):Binds K i ps []:=by
 obtain ⟨m,od,kV,d,pm,an,e,g,j,rfl,o,l⟩:=F.ex
 exact .all (h kV d pm an e g)
theorem sI{x qual:Str}{st:Stmt}{f:Addr}{oc:Value}{od an:Option Addr}{osl:Array (Option Value)}{kV doc pm cdv ct:Value}(l:K.lookup f=some ⟨oc,od,.func (PySem.W.fnOf x qual (defArgs st) (defBody st) (defScope st) .none kV doc pm an cdv ct),osl⟩)
  (c:PySem.W.codeIn K cdv qual=true)(k:PySem.W.keepIn K (.ref f)=true):Fun K x qual st f (PySem.W.fnOf x qual (defArgs st) (defBody st) (defScope st) .none kV doc pm an cdv ct):=⟨⟨oc,od,kV,doc,pm,an,cdv,ct,osl,ϱ,l,c⟩,k⟩
end
theorem cW{n:Nat}(h:n<=1000):n<sizeLine:=Nat.lt_of_le_of_lt h ζ
section
variable {X:Cx}
theorem pv(i:Nat){x:Str}{pos:Pos}(hN:X.N[i]?=some x:=by rfl)(hv:Vis X.env.scope x:=by first | exact Or.inl rfl | exact Or.inr (Or.inl rfl) | exact Or.inr (Or.inr rfl))(hd:(x==("__debug__":Str))=false:=by decide)
  (hcd:(x==("__classdict__":Str))=false:=by decide):PE X (.Name x pos) (rE i):=r8 hN hv hd hcd
end
theorem aT{A B:Prop}(h:B):if false=true then A else B:=by
 rw [if_neg Bool.false_ne_true]
 exact h
theorem cu{A B:Prop}(h:A):if true=true then A else B:=by
 rw [if_pos rfl]
 exact h
theorem a9{c A B:Prop} [Decidable c](h1:c->A)(b:¬c->B):if c then A else B:=by
 by_cases h:c
 ·rw [if_pos h]
  exact h1 h
 ·rw [if_neg h]
  exact b h
theorem Av{c A B:Prop} [Decidable c](b:c)(h:B):if (!decide c)=true then A else B:=by
 rw [τ b]
 exact aT h
def Same(H H':Hp):Prop:=∀b o,H b=some o->H' b=some o
theorem Same.refl(H:Hp):Same H H:=λ_ _ h=>h
theorem Same.trans{H H1 H2:Hp}(a:Same H H1)(b:Same H1 H2):Same H H2:=λc o h=>b c o (a c o h)
theorem Same.free{H H':Hp}(e:Same H H'){l:Addr}(h:H' l=Option.none):H l=Option.none:=by
 cases q:H l with
 | none=>rfl
 | some o =>
  rw [e l o q] at h
  cases h
end L2
section
set_option maxHeartbeats 0
open PySem PySem.W PyProof.Rows
lay_quick PySem.Challenge.pw_pactroom_k53_walked_once
namespace Q
noncomputable section
noncomputable abbrev ad:Value:=Value.bool true
noncomputable abbrev n0:Value:=Value.bool false
noncomputable abbrev G{α:Type}(l:List α):Array α:=Array.mk l
noncomputable abbrev I{α:Type}:Array α:=Array.mk []
noncomputable abbrev K:Value:=Value.none
noncomputable abbrev r(n:Nat):Value:=Value.ref n
noncomputable abbrev X(n:Nat):Option Value:=some (Value.ref n)
noncomputable abbrev u(a:Int)(n:Nat):Value:=Value.int a n
noncomputable abbrev A(q:Str)(n:Nat):Value:=Value.str q n
noncomputable abbrev t(P:Params)(q:Str)(n:Nat)(v:Value):DictEntry:=DictEntry.mk (PyData.keyHash P q) (Value.str q n) v
noncomputable abbrev e(o:Obj)(a b:BT):BT:=.node o a b
noncomputable abbrev g(o:Obj):BT:=.node o .nil .nil
noncomputable abbrev tx(l:List Nat):Str:=@Str.mk (Array.mk l)
noncomputable def ob:Nat->Nat->List Nat:=fun k=>Nat.rec (fun _=>[]) (fun _ f n=>bif n.beq 0 then [] else n%128::f (n/128)) k
noncomputable abbrev x(n:Nat):Str:=@Str.mk (Array.mk (ob 999 n))
abbrev n6:=x 35350842279982780
abbrev aX:=x 2357460733860917196365705647
abbrev hD:=x 53901867955744735
abbrev hx:=x 53901559791857631
abbrev L:=x 286908004805551803757820965104
abbrev ar:=x 421105403244511
abbrev hB:=x 113039760542812094607327
abbrev ht:=x 883130438894441148383
abbrev hz:=x 53901488956436447
abbrev hu:=x 30344151541145318921183520387039
abbrev hK:=x 14469218985635115783729119
abbrev hL:=x 53901559540068319
abbrev hP:=x 883122557733039566815
abbrev a3:=x 29219126239
abbrev hW:=x 22438715602
abbrev hT:=x 314961130710099
abbrev bn:=x 226031564
abbrev bf:=x 211317458
abbrev a5:=x 232288973
abbrev aY:=x 3498214716483
abbrev bl:=x 452440402491372
abbrev bc:=x 8277558478232940752
abbrev bk:=x 456806767081422
abbrev bd:=x 3463298922446
abbrev bj:=x 456806792589527
abbrev be:=x 4018155108302
abbrev bm:=x 31096109004
abbrev hH:=x 9852148735968327477039162336552523458509
abbrev hF:=x 771200664775530178509
abbrev hO:=x 771639167501794076621
abbrev hQ:=x 5803756897170679757
abbrev hS:=x 372306437449676
abbrev hY:=x 20297311810
abbrev hI:=x 372134630433488
abbrev hX:=x 18665907412
abbrev ba:=x 57336776418130409
abbrev a6:=x 957993226293602710258
abbrev a7:=x 487352597740009
abbrev a9:=x 3944333472466
abbrev hR:=x 77016281100972308752576328605828966349
abbrev hU:=x 2870549177427
abbrev aC:=x 236550739
abbrev bg:=x 63498605718876867
abbrev bb:=x 63498605704179924
abbrev a8:=x 63498605722890957
abbrev a0:=x 496082857196243
abbrev a4:=x 63498605704361159
abbrev bh:=x 496082857046593
abbrev cV:=x 107
abbrev bV:=x 211317490
abbrev cI:=x 232289005
abbrev hE:=x 3498214716515
abbrev ae:=x 883123151916293124063
abbrev an:=x 286677238029438057227736379632
abbrev aH:=x 14469089781839015725264863
abbrev ag:=x 30344074158132277796980072755167
abbrev M:=x 53902074141372383
abbrev ao:=x 211530987
abbrev bX:=x 3497399218914
abbrev bZ:=x 3982185314275
abbrev bs:=x 211498996
abbrev af:=x 133454983862861831018029446609853876543483871
abbrev H:=x 215692019
abbrev hV:=x 31381566694
abbrev hM:=x 245166316
abbrev cW:=x 1852061164990093336914753484
abbrev db:=x 7268149382618871756
abbrev hG:=x 30815173231
abbrev om:=x 31379191905
abbrev cX:=x 120169722130345171154892
abbrev oj:=x 3807976961271
abbrev c3:=x 136826845531393429665740
abbrev da:=x 7267050180228741068
abbrev bi:=x 53902072520191967
abbrev aR:=x 113039831549272488013791
abbrev c7:=x 7268149382604157650
abbrev c6:=x 7268149382625129165
abbrev dc:=x 119081359484622508422211
abbrev aG:=x 36729369500489608925993064001776
abbrev hJ:=x 14945
abbrev c5:=x 30344170127197689232326175045582
abbrev az:=x 286810982541006021921510846704
abbrev bP:=x 1767905
abbrev bR:=x 213481830
abbrev b1:=x 3978445748851
abbrev a2:=x 3465723654882
abbrev aK:=x 211497704
abbrev aL:=x 456806792589559
abbrev b0:=x 64624441721337064
abbrev bQ:=x 1068961890188247380712
abbrev bY:=x 2241775565932076634914582775
abbrev bT:=x 1968700103150748936189931767
abbrev de:=x 237063829118731947127252514764
abbrev c1:=x 7775330028857391052
abbrev cY:=x 938903019227241314252
abbrev c8:=x 17497389445352292810815436
abbrev au:=x 112
abbrev c9:=x 27321202288
abbrev c0:=x 15242413828805995120883660
abbrev dd:=x 930176740795350579148
abbrev dJ:=x 2009057520397120133052037068
abbrev qO:=x 240808176
abbrev oU:=x 27048637537
abbrev dv:=x 284221300444570252130846832588
abbrev d1:=x 4701344111645558562526489667499980
abbrev dY:=x 9859433206425764766027637528252208707532
abbrev eu:=x 8658434620072236276574768932157811914700
abbrev qM:=x 31110885616
abbrev oV:=x 27881272436
abbrev aA:=x 36702114105103104032799375028464
abbrev h4:=x 232387827
abbrev cR:=x 3944329476846
abbrev cq:=x 3978724962544
abbrev cb:=x 68604088087507698
abbrev b5:=x 1069111071925903848178
abbrev cm:=x 1105640911514562491122
abbrev aD:=x 135526128861644586513138
abbrev cw:=x 1068672569199639950066
abbrev cf:=x 245248756
abbrev d4:=x 30344170127197689232252353409746
abbrev dn:=x 2239823032340562386324320978
abbrev h2:=x 236548836
abbrev dx:=x 38620668193374044242816710243026
abbrev pA:=x 31115227376
abbrev dB:=x 601856028142896514749776892190552786
abbrev eC:=x 622420499637819896904922423998575314
abbrev qi:=x 31379192435
abbrev o5:=x 509276531061990
abbrev ei:=x 76294427930033547883232881270010180306
abbrev dK:=x 255570157
abbrev pE:=x 31102465267
abbrev dO:=x 601609173053571134981422008013189842
abbrev pm:=x 213577972
abbrev ek:=x 8648
abbrev pM:=x 1800947
abbrev qB:=x 1089736
abbrev qs:=x 213759207
abbrev p1:=x 1651297
abbrev oX:=x 1417672
abbrev o1:=x 243103344
abbrev h5:=x 86
abbrev o9:=x 211383022
abbrev ay:=x 27355084776
abbrev Z:=x 226031596
abbrev T:=x 7340233137581554291
abbrev aN:=x 226029794
abbrev aM:=x 213695219
abbrev U:=x 443304203876467
abbrev ea:=x 939913555950404467283
abbrev df:=x 7766386514046057043
abbrev aT:=x 211529960
abbrev aS:=x 57912369945981174
abbrev d5:=x 252208490167425953714132318803
abbrev dy:=x 7766324597797517907
abbrev dZ:=x 7342511827917044307
abbrev dC:=x 15231816462629950096767571
abbrev bN:=x 27352724599
abbrev b4:=x 228274915
abbrev d2:=x 497158883364006940380097204371272387
abbrev eB:=x 252306123992128336559777460931
abbrev eo:=x 2084773505370203727553294548
abbrev dg:=x 67701701065164502231488002642434257108
abbrev eh:=x 4088759597854377613483047260975316
abbrev es:=x 2084773505370203727572005581
abbrev dV:=x 67701701065164502231488002642452968141
abbrev eA:=x 4088759597854377613483047279686349
abbrev ev:=x 1964012
abbrev eG:=x 219804904
abbrev dD:=x 3884053776281304221719509409168083
abbrev d7:=x 1971141593688502629373278931
abbrev di:=x 16287293010704716621642451
abbrev ez:=x 528919539571597673683500020644149971
abbrev dk:=x 31943434358237325105336306858707
abbrev du:=x 2084773505370203727553475783
abbrev et:=x 67701701065164502231488002642434438343
abbrev dP:=x 1970990510712305318935508167
abbrev dH:=x 4088759597854377613483047261156551
abbrev bM:=x 4015504750305
abbrev dQ:=x 3884053776281304221719509409018433
abbrev dT:=x 16287293010704716621492801
abbrev dh:=x 528919539571597673683500020644000321
abbrev d9:=x 16287163162920260275352129
abbrev er:=x 31943434358237325105336306709057
abbrev aJ:=x 79860587406879066243126987466412116377726757913313685663980
abbrev bH:=x 63498605733705296
abbrev bE:=x 63498605701984974
abbrev bD:=x 8127822628021367538
abbrev bx:=x 8127822628023513325
abbrev bv:=x 61880093449466093
abbrev bK:=x 31096354775
abbrev bz:=x 31351993427
abbrev bA:=x 27075836499
abbrev bG:=x 17644825835431594263344735
abbrev bI:=x 135526128861644626359903
abbrev bw:=x 8127822628061214303
abbrev bJ:=x 7766386527214007903
abbrev bF:=x 120169722130358349624927
abbrev bB:=x 7340233137596167775
abbrev bC:=x 929671802959852762719
abbrev bt:=x 7267005800625239647
abbrev bu:=x 118998494039345563465311
abbrev bL:=x 1962220
abbrev ee:=x 497158883364006940380097204386100816
abbrev dl:=x 67701701065164502231488002642463782480
abbrev dA:=x 4088759597854377613483047290500688
abbrev dj:=x 497158883364006940380097204354380494
abbrev ef:=x 67701701065164502231488002642432062158
abbrev d8:=x 4088759597854377613483047258780366
abbrev ex:=x 211597303
abbrev qJ:=x 3944367338220
abbrev oy:=x 509719678253806
abbrev aq:=x 286813249378374891756615954672
abbrev cB:=x 496627013578996
abbrev cd:=x 226277367
abbrev cy:=x 496082924074980
abbrev ck:=x 65732096642724086
abbrev b2:=x 56760251912532723
abbrev co:=x 32692007666
abbrev ca:=x 27057010533
abbrev b6:=x 226177271
abbrev b7:=x 234436469
abbrev b8:=x 136698355041827924015084
abbrev b3:=x 232569588
abbrev cC:=x 27354756195
abbrev ce:=x 56782830551169513
abbrev cQ:=x 27075836531
abbrev h3:=x 213612520
abbrev aI:=x 1964018
abbrev dq:=x 237063829118731947127252760535
abbrev dR:=x 2184188704391103801739491287
abbrev bp:=x 31351993459
abbrev cc:=x 105
abbrev dI:=x 995178386087793702871
abbrev pf:=x 3463330820343
abbrev dw:=x 2181795773446237927142897623
abbrev qm:=x 31354026340
abbrev eF:=x 289092818307083619630451570647
abbrev dE:=x 249634227893298687374027175895
abbrev dL:=x 143780970258048166442967
abbrev pG:=x 27057027430
abbrev dG:=x 118997990777176473778135
abbrev ib:=x 236550771
abbrev dX:=x 994738159224218236887
abbrev dF:=x 1031062496172635371479
abbrev ey:=x 601205723465367189201265013313812439
abbrev eD:=x 1022851866703939024855
abbrev pi:=x 220016880
abbrev dz:=x 120307490047131924608983
abbrev dW:=x 930176740795350824919
abbrev d6:=x 2009057520397120133052282839
abbrev dr:=x 249733529796180699608185092055
abbrev p4:=x 509719722391393
abbrev qa:=x 3982723938660
abbrev pS:=x 31096109036
abbrev pb:=x 456806759117552
abbrev bo:=x 36734125856334366233994152440048
abbrev cp:=x 211530483
abbrev ch:=x 7267050193399183346
abbrev ci:=x 15240108847187309675492076
abbrev eE:=x 237063829118731947127508399187
abbrev ej:=x 8637844124545414227
abbrev pg:=x 14324
abbrev pZ:=x 213694445
abbrev dU:=x 930320904362193941587
abbrev d0:=x 31960824749096926766850020832339
abbrev dS:=x 67026707544217350801881948878097970259
abbrev qG:=x 4016813453548
abbrev qn:=x 243136498
abbrev qx:=x 245084915
abbrev ax:=x 36694685270099448213092886442224
abbrev cr:=x 236548843
abbrev cs:=x 948836330216535651427
abbrev cx:=x 513532019552995
abbrev cu:=x 930182424755072348899
abbrev cg:=x 447977914972911
abbrev cv:=x 243135214
abbrev cz:=x 27076163554
abbrev cA:=x 245168108
abbrev cl:=x 29774967522
abbrev cj:=x 8413708331612057847
abbrev cn:=x 504879545580009
abbrev ic:=x 31098352355
abbrev dp:=x 237063829118731947123232242259
abbrev ew:=x 1040352815269461654099
abbrev d3:=x 4173026311717557474609756852746835
abbrev el:=x 2258537706935242377007757907
abbrev ep:=x 4090985567884304945803956789475923
abbrev eb:=x 1970227705998257193844505171
abbrev em:=x 1069319981266848217683
abbrev eg:=x 119082226654358604905043
abbrev dt:=x 1078260743630992472659
abbrev ed:=x 130951692029974636165715
abbrev en:=x 37003880573293067687623799634515
abbrev ds:=x 2220483723965933134162721363
abbrev qg:=x 3981119714018
abbrev qI:=x 242825061
abbrev qe:=x 31110822767
abbrev qW:=x 509274079392498
abbrev qd:=x 31096254711
abbrev pI:=x 3463312095223
abbrev h9:=x 137989276334399845594719
abbrev id:=x 3702244537951
abbrev h8:=x 7843466381129971295
abbrev h0:=x 8781323754941216351
abbrev cS:=x 513532042442335
abbrev pX:=x 7270427996206954079
abbrev ct:=x 8426683116990002783
abbrev ia:=x 1067958212234506171999
abbrev pL:=x 57345570095265375
abbrev qC:=x 1058801290007509759583
abbrev pV:=x 1067955933634096559711
abbrev hZ:=x 1068531250619429189215
abbrev h1:=x 7268114108346037855
abbrev dm:=x 1068462615392771667551
abbrev dN:=x 930318659325649253983
abbrev ec:=x 3874043229791
abbrev oC:=x 15392403953111397519881823
abbrev h7:=x 1077246292592239867487
abbrev pC:=x 1068454170765513225823
abbrev ph:=x 7267050193407211103
abbrev pt:=x 1023208752676729288287
abbrev qX:=x 7335179850874386015
abbrev oM:=x 8354062366840223327
abbrev pw:=x 3633525061215
abbrev pK:=x 8354106484744287839
abbrev oG:=x 17513836086728843905758815
abbrev qU:=x 252284354984185665087193249375
abbrev qS:=x 940052543510452663903
noncomputable abbrev av:Value:=(@Value.type SL.s2766695959194262286x5)
noncomputable abbrev cT:Value:=(@Value.type SL.s5856160107412720595x4)
noncomputable abbrev n9:Value:=(@Value.type SL.s658472552662922059x5)
noncomputable abbrev Y:Value:=(@Value.type SL.s14018661285674007319x4)
noncomputable abbrev hv:Value:=(@Value.builtin SL.s7097527257260152453x26)
noncomputable abbrev od:Value:=(@Value.type SL.s7174869446012820540x8)
noncomputable abbrev hA:Value:=(@Value.type SL.s11030030927630378310x26)
noncomputable abbrev n5:Value:=(@Value.builtin SL.s10062305145149207511x16)
noncomputable abbrev ah:Value:=(@Value.type SL.s17162191345867700912x4)
noncomputable abbrev V:Value:=(@Value.type SL.s2742458400755230247x6)
noncomputable abbrev ap:Value:=(@Value.builtin SL.s11443829558043349243x14)
noncomputable abbrev hN:Value:=(@Value.type SL.s14755015743595814543x17)
noncomputable abbrev ov:Value:=(@Value.builtin SL.s6511155373996960695x17)
noncomputable abbrev oh:Value:=(@Value.builtin SL.s12411053484034534018x21)
noncomputable abbrev op:Value:=(@Value.builtin SL.s10220274742760427390x26)
noncomputable abbrev og:Value:=(@Value.type SL.s4290257624100764138x5)
noncomputable abbrev oi:Value:=(@Value.builtin SL.s4860613602091757760x24)
noncomputable abbrev br:Value:=(@Value.type SL.s6070975301684473832x10)
noncomputable abbrev bS:Value:=(@Value.type SL.s5946037652744460706x9)
noncomputable abbrev bW:Value:=(@Value.type SL.s4278001404047624695x13)
noncomputable abbrev bU:Value:=(@Value.builtin SL.s4209523147560561109x18)
noncomputable abbrev aa:Program:=PySem.Challenge.pw_pactroom_k53_walked_once
noncomputable abbrev aV:Program:=PySem.W.Fast.tw11575204493300361800
theorem bO:aa=aV:=PySem.W.Fast.te11575204493300361800
noncomputable def R(i:Nat):Stmt:=aV.main.body.getD i (.Pass ⟨0,0,0,0⟩)
noncomputable def J(i:Nat):Stmt:=aa.main.body.getD i (.Pass ⟨0,0,0,0⟩)
noncomputable def y(k j:Nat):Stmt:=L2.inClass (R k) j
noncomputable def F(k j:Nat):Stmt:=L2.inClass (J k) j
noncomputable abbrev cU(a b:Str)(s:Stmt):=FuncData.mk a b (L2.defArgs s) (.stmts (L2.defBody s)) (L2.defScope s)
section
variable (P:Params)
def h:=Obj.mk av none (Data.seq I 0) I
def z:=Obj.mk K none (Data.fields I) I
def aj(x0:Str)(x1:Nat)(x2:Nat)(x3:Nat)(x4:Int)(x5:Nat)(x6:Nat)(x7:Int)(x8:Nat):=Obj.mk cT none (Data.fields (G [A x0 x1,A x0 x2,A aX x3,u x4 0,u 0 0,u 0 0,u 0 0,u 0 0,r x5,n0,u 181 0,r x6,K,K,K,K,u x7 0,u x4 0,A aX x8])) I
def c2:=aj n6 182 183 184 1 11 12 185 186
def ai(x0:Nat)(x1:Nat)(x2:Str)(x3:Nat):=Obj.mk n9 none Data.plain (G [X x0,X 3,X x1,none,some (A x2 x3),none,X 0])
def cZ:=ai 13 3 hD 164
def hy:=e (boot_o_0 P) (e (boot_o_1 P) (e (boot_o_3 P) (g (boot_o_7 P)) (g h)) (e (boot_o_5 P) (g (boot_o_9 P)) (g c2))) (e (boot_o_2 P) (e (boot_o_4 P) (g (boot_o_8 P)) (g z)) (e (boot_o_6 P) (g (boot_o_10 P)) (g cZ)))
def n7:=hy P
def n3:=hy P
def qL:=Obj.mk Y none (Data.dict (G [t P hx 165 (A L 668),t P ar 166 K,t P hB 167 K,t P ht 168 hv,t P hz 169 K,t P hu 170 (r 6),t P hK 171 (r 4),t P hL 173 (A aX 172),t P hP 174 K,t P a3 193 (r 21),t P hW 205 (r 22),t P hT 212 (r 26),t P bn 275 (r 71),t P bf 298 (r 92),t P a5 321 (r 111),t P aY 344 (r 130),t P bl 351 (r 139),t P bc 371 (r 149),t P bk 387 (r 162),t P bd 403 (r 174),t P bj 419 (r 186),t P be 444 (r 205),t P bm 545 (r 280),t P hH 549 (u 400 548),t P hF 551 (u 2000 550),t P hO 553 (u 2000 552),t P hQ 555 (u 8 554),t P hS 557 (u 100000 556),t P hY 559 (u 32 558),t P hI 561 (u 37 560),t P hX 563 (u 126 562),t P ba 570 (r 291),t P a6 576 (r 296),t P a7 584 (r 303),t P a9 667 (r 362),t P hR 671 (u 40 670),t P hU 693 (r 367),t P aC 758 (r 419),t P bg 792 (r 447),t P bb 831 (r 480),t P a8 870 (r 513),t P a0 926 (r 558),t P a4 972 (r 598),t P bh 1030 (r 645)]) 44) I
def q9:=Obj.mk K none (Data.fields (G [u 1 0,u 0 0,r 20,u 7 0,u 0 0,r 32,u 26 0,u 0 0,r 81,u 30 0,u 0 0,r 100,u 34 0,u 0 0,r 119,u 38 0,u 0 0,r 138,u 45 0,u 0 0,r 145,u 47 0,u 0 0,r 158,u 49 0,u 0 0,r 170,u 51 0,u 0 0,r 182,u 53 0,u 0 0,r 194,u 58 0,u 0 0,r 213,u 120 0,u 0 0,r 290,u 122 0,u 0 0,r 295,u 132 0,u 0 0,r 302,u 135 0,u 0 0,r 309,u 202 0,u 0 0,r 373,u 221 0,u 0 0,r 429,u 229 0,u 0 0,r 455,u 239 0,u 0 0,r 488,u 249 0,u 0 0,r 521,u 267 0,u 0 0,r 566,u 280 0,u 0 0,r 606])) I
def N(x0:Str)(x1:Nat):=Obj.mk av none (Data.seq (G [A x0 x1]) 0) I
def eJ:=N cV 190
def D(x0:Str)(x1:Str)(x2:Stmt):=Obj.mk K none (Data.func (cU x0 x1 x2 0 [] K K K K none K K 0)) I
def ij:=D a3 a3 (R 0)
def E(x0:Str)(x1:Nat)(x2:Str)(x3:Nat)(x4:Nat)(x5:Int)(x6:Int)(x7:Nat)(x8:Nat)(x9:Nat)(x10:Nat)(x11:Nat)(x12:Int)(x13:Nat):=Obj.mk cT none (Data.fields (G [A x0 x1,A x2 x3,A aX x4,u x5 0,u x6 0,u 0 0,u 0 0,u 3 0,r x7,ad,u 181 0,r x8,K,r x9,r x10,r x11,u x12 0,u x5 0,A aX x13])) I
def eW:=E a3 187 a3 188 189 1 1 15 16 17 18 19 191 192
def C(x0:Str)(x1:Str)(x2:Stmt)(x3:Str)(x4:Nat)(x5:Nat):=Obj.mk od none (Data.func (cU x0 x1 x2 3 [] K K K (A x3 x4) none (r x5) K 0)) I
def iu:=C a3 a3 (R 0) hD 164 20
def eR:=Obj.mk Y none (Data.dict (G [t P bV 196 (u 0 197),t P cI 198 (u 1 199),t P hE 200 (u 2 201)]) 3) I
def ab(x0:Str)(x1:Nat)(x2:Str)(x3:Nat):=Obj.mk av none (Data.seq (G [A x0 x1,A x2 x3]) 0) I
def e0:=ab bV 206 bV 207
def eS:=ab bV 208 cI 209
def eH:=ab cI 210 bV 211
def eT:=Obj.mk av none (Data.seq (G [r 23,r 24,r 25]) 0) I
def O:=Obj.mk hA none (Data.fields (G [n5,ah])) I
def cF(x0:Nat)(x1:Str)(x2:Nat)(x3:Nat)(x4:Str)(x5:Nat)(x6:Nat)(x7:Int)(x8:Nat)(x9:Nat)(x10:Nat)(x11:Str)(x12:Nat)(x13:Nat)(x14:Str)(x15:Nat)(x16:Nat)(x17:Str)(x18:Nat)(x19:Nat)(x20:Str)(x21:Nat)(x22:Nat)(x23:Nat)(x24:Nat):=Obj.mk Y none (Data.dict (G [t P ae x0 (A x1 x2),t P aH x3 (A x4 x5),t P ag x6 (u x7 x8),t P M x9 (r x10),t P x11 x12 (r x13),t P x14 x15 (r x16),t P x17 x18 (r x19),t P x20 x21 (r x22),t P af x23 (r x24)]) 9) I
def iw:=cF P 220 an 194 222 bn 221 224 7 223 233 40 ao 240 47 bX 249 54 bZ 258 61 bs 265 68 268 69
def cE(x0:Int)(x1:Nat)(x2:Int)(x3:Nat)(x4:Int)(x5:Nat)(x6:Int)(x7:Nat)(x8:Int)(x9:Nat):=Obj.mk K none (Data.fields (G [u x0 0,u 4 0,r x1,u x2 0,u 4 0,r x3,u x4 0,u 4 0,r x5,u x6 0,u 4 0,r x7,u x8 0,u 4 0,r x9])) I
def iE:=cE 9 39 13 46 16 53 20 60 24 67
def iC:=aj bn 215 216 217 7 30 31 218 219
def iH:=ai 32 29 an 194
def ak(x0:Str)(x1:Nat)(x2:Str)(x3:Nat)(x4:Str)(x5:Nat):=Obj.mk av none (Data.seq (G [A x0 x1,A x2 x3,A x4 x5]) 0) I
def e6:=ak H 228 hV 229 hM 230
def io:=D M cW (y 4 0)
def eZ:=E M 225 cW 226 227 9 3 34 35 36 37 38 231 232
def iF:=C M cW (y 4 0) an 194 39
def eO:=N H 237
def il:=D ao db (y 4 1)
def e4:=E ao 234 db 235 236 13 1 41 42 43 44 45 238 239
def iB:=C ao db (y 4 1) an 194 46
def e5:=ak H 244 hG 245 om 246
def ig:=D bX cX (y 4 2)
def e3:=E bX 241 cX 242 243 16 2 48 49 50 51 52 247 248
def iI:=C bX cX (y 4 2) an 194 53
def eU:=ak H 253 hG 254 oj 255
def ii:=D bZ c3 (y 4 3)
def eI:=E bZ 250 c3 251 252 20 2 55 56 57 58 59 256 257
def ix:=C bZ c3 (y 4 3) an 194 60
def eN:=N H 262
def iG:=D bs da (y 4 4)
def eM:=E bs 259 da 260 261 24 1 62 63 64 65 66 263 264
def ir:=C bs da (y 4 4) an 194 67
def e2:=ab hV 266 hM 267
def eK:=Obj.mk Y none (Data.dict (G [t P ae 220 (A an 194),t P ag 224 (u 7 223),t P M 233 (r 40),t P ao 240 (r 47),t P bX 249 (r 54),t P bZ 258 (r 61),t P bs 265 (r 68),t P af 268 (r 69),t P bi 270 (r 72),t P aR 272 (r 73),t P ar 273 K]) 4) I
def eV:=Obj.mk ah none (Data.cls (ClassData.mk bn [V] [r 71,V] 70 bn true [] [r 92,r 111,r 130] false none false)) (G [none,none,some (A bn 213),some (A bn 221),some ap,some ad])
def bq(x0:Nat)(x1:Nat):=Obj.mk hN none (Data.fields (G [A bi x0,r x1,ov,oh])) I
def eL:=bq 269 71
def aZ(x0:Nat)(x1:Nat):=Obj.mk hN none (Data.fields (G [A aR x0,r x1,op,K])) I
def eQ:=aZ 271 71
def am(x0:Nat):=Obj.mk og none (Data.fields (G [r x0,r x0,r x0])) I
def iA:=am 71
def al(x0:Nat):=Obj.mk hA none (Data.fields (G [oi,r x0])) I
def ik:=al 71
def cJ(x0:Nat):=Obj.mk av none (Data.seq (G [r x0]) 0) I
def aU:=cJ 71
def cP(x0:Nat)(x1:Str)(x2:Nat)(x3:Nat)(x4:Str)(x5:Nat)(x6:Nat)(x7:Int)(x8:Nat)(x9:Str)(x10:Nat)(x11:Nat)(x12:Nat)(x13:Nat):=Obj.mk Y none (Data.dict (G [t P ae x0 (A x1 x2),t P aH x3 (A x4 x5),t P ag x6 (u x7 x8),t P x9 x10 (r x11),t P af x12 (r x13)]) 5) I
def ie:=cP P 283 an 194 285 bf 284 287 26 286 ao 294 89 295 90
def cM(x0:Int)(x1:Nat):=Obj.mk K none (Data.fields (G [u x0 0,u 4 0,r x1])) I
def iv:=cM 28 88
def iz:=aj bf 278 279 280 26 79 80 281 282
def ip:=ai 81 78 an 194
def eX:=N H 291
def iy:=D ao c7 (y 5 0)
def e1:=E ao 288 c7 289 290 28 1 83 84 85 86 87 292 293
def im:=C ao c7 (y 5 0) an 194 88
def cN(x0:Nat)(x1:Str)(x2:Nat)(x3:Nat)(x4:Int)(x5:Nat)(x6:Str)(x7:Nat)(x8:Nat)(x9:Nat)(x10:Nat)(x11:Nat):=Obj.mk Y none (Data.dict (G [t P ae x0 (A x1 x2),t P ag x3 (u x4 x5),t P x6 x7 (r x8),t P af x9 (r x10),t P ar x11 K]) 2) I
def eP:=cN P 283 an 194 287 26 286 ao 294 89 295 90 296
def eY:=Obj.mk ah none (Data.cls (ClassData.mk bf [r 71] [r 92,r 71,V] 91 bf true [] [] false none false)) (G [X 76,none,some (A bf 276),some (A bf 284),some ap,some ad])
def ih:=am 92
def it:=al 92
def iq:=cP P 306 an 194 308 a5 307 310 30 309 ao 317 108 318 109
def iD:=cM 32 107
def jM:=aj a5 301 302 303 30 98 99 304 305
def lP:=ai 100 97 an 194
def hj:=N H 314
def ju:=D ao c6 (y 6 0)
def gO:=E ao 311 c6 312 313 32 1 102 103 104 105 106 315 316
def md:=C ao c6 (y 6 0) an 194 107
def gl:=cN P 306 an 194 310 30 309 ao 317 108 318 109 319
def g3:=Obj.mk ah none (Data.cls (ClassData.mk a5 [r 71] [r 111,r 71,V] 110 a5 true [] [] false none false)) (G [X 95,none,some (A a5 299),some (A a5 307),some ap,some ad])
def i6:=am 111
def m4:=al 111
def jn:=cP P 329 an 194 331 aY 330 333 34 332 ao 340 127 341 128
def nn:=cM 36 126
def kx:=aj aY 324 325 326 34 117 118 327 328
def mK:=ai 119 116 an 194
def fp:=N H 337
def jA:=D ao dc (y 7 0)
def fR:=E ao 334 dc 335 336 36 1 121 122 123 124 125 338 339
def l8:=C ao dc (y 7 0) an 194 126
def g9:=cN P 329 an 194 333 34 332 ao 340 127 341 128 342
def fg:=Obj.mk ah none (Data.cls (ClassData.mk aY [r 71] [r 130,r 71,V] 129 aY true [] [] false none false)) (G [X 114,none,some (A aY 322),some (A aY 330),some ap,some ad])
def jT:=am 130
def mc:=al 130
def ha:=N bs 348
def k4:=D bl bl (R 8)
def hi:=E bl 345 bl 346 347 38 1 133 134 135 136 137 349 350
def i0:=C bl bl (R 8) an 194 138
def gm:=Obj.mk av none (Data.seq (G [br]) 0) I
def cK(x0:Nat)(x1:Nat)(x2:Str)(x3:Nat)(x4:Nat)(x5:Int)(x6:Nat)(x7:Nat)(x8:Nat):=Obj.mk Y none (Data.dict (G [t P ae x0 (A aG 352),t P aH x1 (A x2 x3),t P ag x4 (u x5 x6),t P af x7 (r x8)]) 4) I
def jL:=cK P 361 363 bc 362 365 45 364 366 147
def lE:=aj bc 356 357 358 45 143 144 359 360
def nr:=ai 145 142 aG 352
def gC:=Obj.mk Y none (Data.dict (G [t P ae 361 (A aG 352),t P ag 365 (u 45 364),t P af 366 (r 147),t P aR 368 (r 150),t P ar 369 K]) 3) I
def f3:=Obj.mk ah none (Data.cls (ClassData.mk bc [br] [r 149,br,bS,bW,V] 148 bc true [] [r 162,r 174,r 186,r 205] false none false)) (G [X 140,none,some (A bc 354),some (A bc 362),some bU,some ad])
def gy:=aZ 367 149
def iK:=am 149
def m1:=al 149
def aE:=cJ 149
def lF:=cK P 379 381 bk 380 383 47 382 384 160
def m5:=aj bk 374 375 376 47 156 157 377 378
def mx:=ai 158 155 aG 352
def c4(x0:Nat)(x1:Nat)(x2:Int)(x3:Nat)(x4:Nat)(x5:Nat)(x6:Nat):=Obj.mk Y none (Data.dict (G [t P ae x0 (A aG 352),t P ag x1 (u x2 x3),t P af x4 (r x5),t P ar x6 K]) 2) I
def f9:=c4 P 379 383 47 382 384 160 385
def gI:=Obj.mk ah none (Data.cls (ClassData.mk bk [r 149] [r 162,r 149,br,bS,bW,V] 161 bk true [] [] false none false)) (G [X 153,none,some (A bk 372),some (A bk 380),some bU,some ad])
def lB:=am 162
def nt:=al 162
def kh:=cK P 395 397 bd 396 399 49 398 400 172
def k2:=aj bd 390 391 392 49 168 169 393 394
def lO:=ai 170 167 aG 352
def gD:=c4 P 395 399 49 398 400 172 401
def e8:=Obj.mk ah none (Data.cls (ClassData.mk bd [r 149] [r 174,r 149,br,bS,bW,V] 173 bd true [] [] false none false)) (G [X 165,none,some (A bd 388),some (A bd 396),some bU,some ad])
def mT:=am 174
def kZ:=al 174
def nk:=cK P 411 413 bj 412 415 51 414 416 184
def ng:=aj bj 406 407 408 51 180 181 409 410
def jt:=ai 182 179 aG 352
def fx:=c4 P 411 415 51 414 416 184 417
def hg:=Obj.mk ah none (Data.cls (ClassData.mk bj [r 149] [r 186,r 149,br,bS,bW,V] 185 bj true [] [] false none false)) (G [X 177,none,some (A bj 404),some (A bj 412),some bU,some ad])
def l9:=am 186
def mt:=al 186
def jN:=cP P 427 aG 352 429 be 428 431 53 430 M 439 202 441 203
def jD:=cM 55 201
def lG:=aj be 422 423 424 53 192 193 425 426
def iU:=ai 194 191 aG 352
def fT:=ab H 435 hJ 436
def i7:=D M c5 (y 14 0)
def g0:=E M 432 c5 433 434 55 2 196 197 198 199 200 437 438
def iO:=C M c5 (y 14 0) aG 352 201
def he:=N hJ 440
def fN:=cN P 427 aG 352 431 53 430 M 439 202 441 203 442
def gg:=Obj.mk ah none (Data.cls (ClassData.mk be [r 149] [r 205,r 149,br,bS,bW,V] 204 be true [] [] false none false)) (G [X 189,none,some (A be 420),some (A be 428),some bU,some ad])
def kA:=am 205
def mJ:=al 205
def i2:=Obj.mk Y none (Data.dict (G [t P ae 454 (A az 445),t P aH 456 (A bm 455),t P ag 458 (u 58 457),t P M 465 (r 221),t P bP 471 (r 226),t P bR 477 (r 231),t P b1 483 (r 236),t P a2 492 (r 243),t P aK 498 (r 248),t P aL 504 (r 253),t P b0 515 (r 260),t P bQ 521 (r 265),t P bY 527 (r 270),t P bT 536 (r 277),t P af 538 (r 278)]) 15) I
def jO:=Obj.mk K none (Data.fields (G [u 60 0,u 4 0,r 220,u 63 0,u 4 0,r 225,u 71 0,u 4 0,r 230,u 77 0,u 4 0,r 235,u 80 0,u 4 0,r 242,u 86 0,u 4 0,r 247,u 89 0,u 4 0,r 252,u 92 0,u 4 0,r 259,u 100 0,u 4 0,r 264,u 103 0,u 4 0,r 269,u 106 0,u 4 0,r 276])) I
def lw:=aj bm 449 450 451 58 211 212 452 453
def nq:=ai 213 210 az 445
def gM:=N H 462
def kS:=D M de (y 16 0)
def g8:=E M 459 de 460 461 60 1 215 216 217 218 219 463 464
def jC:=C M de (y 16 0) az 445 220
def iM:=D bP c1 (y 16 1)
def aw(x0:Str)(x1:Nat)(x2:Str)(x3:Nat)(x4:Nat)(x5:Int)(x6:Int)(x7:Nat)(x8:Nat)(x9:Nat)(x10:Int)(x11:Nat):=Obj.mk cT none (Data.fields (G [A x0 x1,A x2 x3,A aX x4,u x5 0,u x6 0,u 0 0,u 0 0,u 3 0,r x7,ad,u 181 0,r x8,K,K,K,r x9,u x10 0,u x5 0,A aX x11])) I
def fe:=aw bP 466 c1 467 468 63 3 222 223 224 469 470
def kG:=C bP c1 (y 16 1) az 445 225
def kv:=D bR cY (y 16 2)
def fa:=aw bR 472 cY 473 474 71 2 227 228 229 475 476
def j9:=C bR cY (y 16 2) az 445 230
def lX:=D b1 c8 (y 16 3)
def fb:=aw b1 478 c8 479 480 77 3 232 233 234 481 482
def m3:=C b1 c8 (y 16 3) az 445 235
def gn:=ak H 487 au 488 c9 489
def kX:=D a2 c0 (y 16 4)
def gB:=E a2 484 c0 485 486 80 2 237 238 239 240 241 490 491
def lx:=C a2 c0 (y 16 4) az 445 242
def nu:=D aK dd (y 16 5)
def fZ:=aw aK 493 dd 494 495 86 1 244 245 246 496 497
def lz:=C aK dd (y 16 5) az 445 247
def js:=D aL dJ (y 16 6)
def hp:=aw aL 499 dJ 500 501 89 1 249 250 251 502 503
def mG:=C aL dJ (y 16 6) az 445 252
def a1(x0:Str)(x1:Nat)(x2:Str)(x3:Nat)(x4:Str)(x5:Nat)(x6:Str)(x7:Nat)(x8:Str)(x9:Nat):=Obj.mk av none (Data.seq (G [A x0 x1,A x2 x3,A x4 x5,A x6 x7,A x8 x9]) 0) I
def hk:=a1 H 508 c9 509 qO 510 cV 511 oU 512
def nA:=D b0 dv (y 16 7)
def fJ:=E b0 505 dv 506 507 92 2 254 255 256 257 258 513 514
def kk:=C b0 dv (y 16 7) az 445 259
def lA:=D bQ d1 (y 16 8)
def e9:=aw bQ 516 d1 517 518 100 1 261 262 263 519 520
def ml:=C bQ d1 (y 16 8) az 445 264
def mA:=D bY dY (y 16 9)
def ga:=aw bY 522 dY 523 524 103 1 266 267 268 525 526
def mv:=C bY dY (y 16 9) az 445 269
def gz:=ak H 531 au 532 cV 533
def kb:=D bT eu (y 16 10)
def fF:=E bT 528 eu 529 530 106 2 271 272 273 274 275 534 535
def ny:=C bT eu (y 16 10) az 445 276
def fY:=N qM 537
def ff:=Obj.mk Y none (Data.dict (G [t P ae 454 (A az 445),t P ag 458 (u 58 457),t P M 465 (r 221),t P bP 471 (r 226),t P bR 477 (r 231),t P b1 483 (r 236),t P a2 492 (r 243),t P aK 498 (r 248),t P aL 504 (r 253),t P b0 515 (r 260),t P bQ 521 (r 265),t P bY 527 (r 270),t P bT 536 (r 277),t P af 538 (r 278),t P bi 540 (r 281),t P aR 542 (r 282),t P ar 543 K]) 4) I
def gk:=Obj.mk ah none (Data.cls (ClassData.mk bm [V] [r 280,V] 279 bm true [] [] false none false)) (G [none,none,some (A bm 447),some (A bm 455),some ap,some ad])
def gc:=bq 539 280
def gR:=aZ 541 280
def mn:=am 280
def jV:=al 280
def f0:=N oV 567
def nd:=D ba ba (R 26)
def gv:=E ba 564 ba 565 566 120 1 285 286 287 288 289 568 569
def jx:=C ba ba (R 26) aA 546 290
def jZ:=D a6 a6 (R 27)
def hf:=aw a6 571 a6 572 573 122 1 292 293 294 574 575
def mX:=C a6 a6 (R 27) aA 546 295
def gp:=ab h4 580 cR 581
def mU:=D a7 a7 (R 28)
def f4:=E a7 577 a7 578 579 132 1 297 298 299 300 301 582 583
def mQ:=C a7 a7 (R 28) aA 546 302
def nm:=Obj.mk Y none (Data.dict (G [t P ae 592 (A aA 546),t P aH 594 (A a9 593),t P ag 596 (u 135 595),t P M 604 (r 317),t P cq 612 (r 324),t P cb 621 (r 331),t P b5 630 (r 338),t P cm 638 (r 345),t P aD 647 (r 352),t P cw 657 (r 359),t P af 660 (r 360)]) 11) I
def jo:=Obj.mk K none (Data.fields (G [u 137 0,u 4 0,r 316,u 141 0,u 4 0,r 323,u 147 0,u 4 0,r 330,u 157 0,u 4 0,r 337,u 171 0,u 4 0,r 344,u 177 0,u 4 0,r 351,u 190 0,u 4 0,r 358])) I
def lb:=aj a9 587 588 589 135 307 308 590 591
def jU:=ai 309 306 aA 546
def hd:=ab H 600 cf 601
def iZ:=D M d4 (y 29 0)
def fU:=E M 597 d4 598 599 137 2 311 312 313 314 315 602 603
def iW:=C M d4 (y 29 0) aA 546 316
def fL:=ab H 608 h4 609
def kU:=D cq dn (y 29 1)
def fw:=E cq 605 dn 606 607 141 2 318 319 320 321 322 610 611
def mu:=C cq dn (y 29 1) aA 546 323
def gq:=ak H 616 h2 617 cR 618
def mp:=D cb dx (y 29 2)
def gW:=E cb 613 dx 614 615 147 2 325 326 327 328 329 619 620
def lj:=C cb dx (y 29 2) aA 546 330
def gf:=ak H 625 h2 626 pA 627
def jH:=D b5 dB (y 29 3)
def go:=E b5 622 dB 623 624 157 2 332 333 334 335 336 628 629
def jJ:=C b5 dB (y 29 3) aA 546 337
def gu:=ab H 634 cR 635
def i1:=D cm eC (y 29 4)
def fC:=E cm 631 eC 632 633 171 1 339 340 341 342 343 636 637
def lr:=C cm eC (y 29 4) aA 546 344
def fO:=ak H 642 qi 643 o5 644
def nb:=D aD ei (y 29 5)
def gx:=E aD 639 ei 640 641 177 1 346 347 348 349 350 645 646
def i3:=C aD ei (y 29 5) aA 546 351
def aQ(x0:Str)(x1:Nat)(x2:Str)(x3:Nat)(x4:Str)(x5:Nat)(x6:Str)(x7:Nat):=Obj.mk av none (Data.seq (G [A x0 x1,A x2 x3,A x4 x5,A x6 x7]) 0) I
def g2:=aQ H 651 dK 652 a2 653 pE 654
def mR:=D cw dO (y 29 6)
def hl:=E cw 648 dO 649 650 190 2 353 354 355 356 357 655 656
def jl:=C cw dO (y 29 6) aA 546 358
def gV:=ab c9 658 cf 659
def fS:=Obj.mk Y none (Data.dict (G [t P ae 592 (A aA 546),t P ag 596 (u 135 595),t P M 604 (r 317),t P cq 612 (r 324),t P cb 621 (r 331),t P b5 630 (r 338),t P cm 638 (r 345),t P aD 647 (r 352),t P cw 657 (r 359),t P af 660 (r 360),t P bi 662 (r 363),t P aR 664 (r 364),t P ar 665 K]) 4) I
def gX:=Obj.mk ah none (Data.cls (ClassData.mk a9 [V] [r 362,V] 361 a9 true [] [] false none false)) (G [none,none,some (A a9 585),some (A a9 593),some ap,some ad])
def fd:=bq 661 362
def gd:=aZ 663 362
def mD:=am 362
def lY:=al 362
def gJ:=Obj.mk Y none (Data.dict (G [t P pm 672 (A ek 673),t P cI 674 (A ek 675),t P pM 676 (A qB 677),t P qs 678 (A ek 679),t P p1 680 (A oX 681),t P o1 682 (A h5 683),t P o9 684 (A h5 685)]) 7) I
def ll:=Obj.mk Y none (Data.dict (G [t P ae 701 (A L 668),t P aH 703 (A aC 702),t P ag 705 (u 202 704),t P ay 712 (r 381),t P Z 719 (r 388),t P T 728 (r 395),t P aN 736 (r 402),t P aM 743 (r 409),t P U 750 (r 416),t P af 751 (r 417)]) 10) I
def ji:=Obj.mk K none (Data.fields (G [u 204 0,u 4 0,r 380,u 207 0,u 4 0,r 387,u 210 0,u 4 0,r 394,u 213 0,u 4 0,r 401,u 216 0,u 4 0,r 408,u 219 0,u 4 0,r 415])) I
def j0:=aj aC 696 697 698 202 371 372 699 700
def nv:=ai 373 370 L 668
def ho:=N H 709
def lp:=D ay ea (y 33 0)
def fz:=E ay 706 ea 707 708 204 1 375 376 377 378 379 710 711
def ka:=C ay ea (y 33 0) L 668 380
def gE:=N H 716
def jk:=D Z df (y 33 1)
def hn:=E Z 713 df 714 715 207 1 382 383 384 385 386 717 718
def kK:=C Z df (y 33 1) L 668 387
def gr:=ak H 723 aT 724 aS 725
def mL:=D T d5 (y 33 2)
def gb:=E T 720 d5 721 722 210 3 389 390 391 392 393 726 727
def j7:=C T d5 (y 33 2) L 668 394
def g6:=ab H 732 aS 733
def jw:=D aN dy (y 33 3)
def fv:=E aN 729 dy 730 731 213 2 396 397 398 399 400 734 735
def iV:=C aN dy (y 33 3) L 668 401
def g4:=N H 740
def m0:=D aM dZ (y 33 4)
def fE:=E aM 737 dZ 738 739 216 1 403 404 405 406 407 741 742
def jf:=C aM dZ (y 33 4) L 668 408
def fo:=N H 747
def jQ:=D U dC (y 33 5)
def fB:=E U 744 dC 745 746 219 1 410 411 412 413 414 748 749
def jI:=C U dC (y 33 5) L 668 415
def e7:=Obj.mk Y none (Data.dict (G [t P ae 701 (A L 668),t P ag 705 (u 202 704),t P ay 712 (r 381),t P Z 719 (r 388),t P T 728 (r 395),t P aN 736 (r 402),t P aM 743 (r 409),t P U 750 (r 416),t P af 751 (r 417),t P bi 753 (r 420),t P aR 755 (r 421),t P ar 756 K]) 4) I
def s0:=Obj.mk ah none (Data.cls (ClassData.mk aC [V] [r 419,V] 418 aC true [] [r 447,r 558] false none false)) (G [none,none,some (A aC 694),some (A aC 702),some ap,some ad])
def fq:=bq 752 419
def gj:=aZ 754 419
def i9:=am 419
def jb:=al 419
def aO:=cJ 419
def nz:=Obj.mk Y none (Data.dict (G [t P ae 766 (A L 668),t P aH 768 (A bg 767),t P ag 770 (u 221 769),t P M 779 (r 437),t P ay 786 (r 444),t P af 789 (r 445)]) 6) I
def lJ:=Obj.mk K none (Data.fields (G [u 223 0,u 4 0,r 436,u 227 0,u 4 0,r 443])) I
def k5:=aj bg 761 762 763 221 427 428 764 765
def m8:=ai 429 426 L 668
def fK:=ak H 774 bN 775 b4 776
def lK:=D M d2 (y 34 0)
def fG:=E M 771 d2 772 773 223 3 431 432 433 434 435 777 778
def k9:=C M d2 (y 34 0) L 668 436
def gN:=N H 783
def lM:=D ay eB (y 34 1)
def gi:=E ay 780 eB 781 782 227 1 438 439 440 441 442 784 785
def la:=C ay eB (y 34 1) L 668 443
def fs:=ab b4 787 bN 788
def f7:=Obj.mk Y none (Data.dict (G [t P ae 766 (A L 668),t P ag 770 (u 221 769),t P M 779 (r 437),t P ay 786 (r 444),t P af 789 (r 445),t P ar 790 K]) 2) I
def f5:=Obj.mk ah none (Data.cls (ClassData.mk bg [r 419] [r 447,r 419,V] 446 bg true [] [r 480,r 513,r 598,r 645] false none false)) (G [X 424,none,some (A bg 759),some (A bg 767),some ap,some ad])
def ja:=am 447
def lk:=al 447
def aF:=cJ 447
def cO(x0:Nat)(x1:Nat)(x2:Str)(x3:Nat)(x4:Nat)(x5:Int)(x6:Nat)(x7:Str)(x8:Nat)(x9:Nat)(x10:Nat)(x11:Nat)(x12:Nat)(x13:Nat)(x14:Nat)(x15:Nat):=Obj.mk Y none (Data.dict (G [t P ae x0 (A L 668),t P aH x1 (A x2 x3),t P ag x4 (u x5 x6),t P x7 x8 (r x9),t P T x10 (r x11),t P U x12 (r x13),t P af x14 (r x15)]) 7) I
def jp:=cO P 800 802 bb 801 804 229 803 Z 811 463 820 470 827 477 828 478
def cL(x0:Int)(x1:Nat)(x2:Int)(x3:Nat)(x4:Int)(x5:Nat):=Obj.mk K none (Data.fields (G [u x0 0,u 4 0,r x1,u x2 0,u 4 0,r x3,u x4 0,u 4 0,r x5])) I
def kC:=cL 231 462 234 469 237 476
def ns:=aj bb 795 796 797 229 453 454 798 799
def kc:=ai 455 452 L 668
def fj:=N H 808
def mB:=D Z eo (y 35 0)
def fc:=E Z 805 eo 806 807 231 1 457 458 459 460 461 809 810
def kM:=C Z eo (y 35 0) L 668 462
def gs:=ak H 815 aT 816 aS 817
def iX:=D T dg (y 35 1)
def hr:=E T 812 dg 813 814 234 3 464 465 466 467 468 818 819
def j3:=C T dg (y 35 1) L 668 469
def fV:=N H 824
def lR:=D U eh (y 35 2)
def fn:=E U 821 eh 822 823 237 1 471 472 473 474 475 825 826
def kB:=C U eh (y 35 2) L 668 476
def cH(x0:Nat)(x1:Nat)(x2:Int)(x3:Nat)(x4:Str)(x5:Nat)(x6:Nat)(x7:Nat)(x8:Nat)(x9:Nat)(x10:Nat)(x11:Nat)(x12:Nat)(x13:Nat):=Obj.mk Y none (Data.dict (G [t P ae x0 (A L 668),t P ag x1 (u x2 x3),t P x4 x5 (r x6),t P T x7 (r x8),t P U x9 (r x10),t P af x11 (r x12),t P ar x13 K]) 2) I
def gh:=cH P 800 804 229 803 Z 811 463 820 470 827 477 828 478 829
def f6:=Obj.mk ah none (Data.cls (ClassData.mk bb [r 447] [r 480,r 447,r 419,V] 479 bb true [] [] false none false)) (G [X 450,none,some (A bb 793),some (A bb 801),some ap,some ad])
def kt:=am 480
def jy:=al 480
def lZ:=cO P 839 841 a8 840 843 239 842 Z 850 496 859 503 866 510 867 511
def mS:=cL 241 495 244 502 247 509
def nc:=aj a8 834 835 836 239 486 487 837 838
def mO:=ai 488 485 L 668
def gF:=N H 847
def mH:=D Z es (y 36 0)
def hm:=E Z 844 es 845 846 241 1 490 491 492 493 494 848 849
def lT:=C Z es (y 36 0) L 668 495
def ft:=ak H 854 aT 855 aS 856
def mM:=D T dV (y 36 1)
def f1:=E T 851 dV 852 853 244 3 497 498 499 500 501 857 858
def lq:=C T dV (y 36 1) L 668 502
def fD:=N H 863
def ks:=D U eA (y 36 2)
def fA:=E U 860 eA 861 862 247 1 504 505 506 507 508 864 865
def lH:=C U eA (y 36 2) L 668 509
def fP:=cH P 839 843 239 842 Z 850 496 859 503 866 510 867 511 868
def f8:=Obj.mk ah none (Data.cls (ClassData.mk a8 [r 447] [r 513,r 447,r 419,V] 512 a8 true [] [] false none false)) (G [X 483,none,some (A a8 832),some (A a8 840),some ap,some ad])
def lc:=am 513
def jP:=al 513
def lv:=cF P 878 L 668 880 a0 879 882 249 881 892 529 ay 899 536 Z 906 543 T 912 548 U 919 555 923 556
def mh:=cE 251 528 256 535 259 542 262 547 265 554
def l5:=aj a0 873 874 875 249 519 520 876 877
def lu:=ai 521 518 L 668
def fi:=aQ H 886 bN 887 ev 888 eG 889
def nx:=D M dD (y 37 0)
def hb:=E M 883 dD 884 885 251 4 523 524 525 526 527 890 891
def mC:=C M dD (y 37 0) L 668 528
def g7:=N H 896
def jG:=D ay d7 (y 37 1)
def gA:=E ay 893 d7 894 895 256 1 530 531 532 533 534 897 898
def na:=C ay d7 (y 37 1) L 668 535
def fu:=N H 903
def ky:=D Z di (y 37 2)
def hh:=E Z 900 di 901 902 259 1 537 538 539 540 541 904 905
def jz:=C Z di (y 37 2) L 668 542
def iY:=D T ez (y 37 3)
def fH:=aw T 907 ez 908 909 262 3 544 545 546 910 911
def lm:=C T ez (y 37 3) L 668 547
def fM:=N H 916
def kw:=D U dk (y 37 4)
def hq:=E U 913 dk 914 915 265 1 549 550 551 552 553 917 918
def kl:=C U dk (y 37 4) L 668 554
def gP:=ak eG 920 ev 921 bN 922
def fh:=Obj.mk Y none (Data.dict (G [t P ae 878 (A L 668),t P ag 882 (u 249 881),t P M 892 (r 529),t P ay 899 (r 536),t P Z 906 (r 543),t P T 912 (r 548),t P U 919 (r 555),t P af 923 (r 556),t P ar 924 K]) 2) I
def gG:=Obj.mk ah none (Data.cls (ClassData.mk a0 [r 419] [r 558,r 419,V] 557 a0 true [] [] false none false)) (G [X 516,none,some (A a0 871),some (A a0 879),some ap,some ad])
def mm:=am 558
def kY:=al 558
def km:=Obj.mk Y none (Data.dict (G [t P ae 934 (A L 668),t P aH 936 (A a4 935),t P ag 938 (u 267 937),t P Z 945 (r 574),t P T 954 (r 581),t P aM 961 (r 588),t P U 968 (r 595),t P af 969 (r 596)]) 8) I
def jd:=Obj.mk K none (Data.fields (G [u 269 0,u 4 0,r 573,u 272 0,u 4 0,r 580,u 275 0,u 4 0,r 587,u 278 0,u 4 0,r 594])) I
def jS:=aj a4 929 930 931 267 564 565 932 933
def j4:=ai 566 563 L 668
def gQ:=N H 942
def ms:=D Z du (y 38 0)
def g1:=E Z 939 du 940 941 269 1 568 569 570 571 572 943 944
def kV:=C Z du (y 38 0) L 668 573
def fQ:=ak H 949 aT 950 aS 951
def kq:=D T et (y 38 1)
def gH:=E T 946 et 947 948 272 3 575 576 577 578 579 952 953
def iN:=C T et (y 38 1) L 668 580
def gT:=N H 958
def lf:=D aM dP (y 38 2)
def fW:=E aM 955 dP 956 957 275 1 582 583 584 585 586 959 960
def lL:=C aM dP (y 38 2) L 668 587
def fl:=N H 965
def ly:=D U dH (y 38 3)
def fI:=E U 962 dH 963 964 278 1 589 590 591 592 593 966 967
def jj:=C U dH (y 38 3) L 668 594
def fm:=Obj.mk Y none (Data.dict (G [t P ae 934 (A L 668),t P ag 938 (u 267 937),t P Z 945 (r 574),t P T 954 (r 581),t P aM 961 (r 588),t P U 968 (r 595),t P af 969 (r 596),t P ar 970 K]) 2) I
def gL:=Obj.mk ah none (Data.cls (ClassData.mk a4 [r 447] [r 598,r 447,r 419,V] 597 a4 true [] [] false none false)) (G [X 561,none,some (A a4 927),some (A a4 935),some ap,some ad])
def np:=am 598
def ni:=al 598
def k1:=cF P 980 L 668 982 bh 981 984 280 983 994 614 Z 1001 621 T 1010 628 aN 1018 635 U 1025 642 1027 643
def mY:=cE 282 613 286 620 289 627 292 634 295 641
def i5:=aj bh 975 976 977 280 604 605 978 979
def j5:=ai 606 603 L 668
def f2:=aQ H 988 bN 989 b4 990 bM 991
def ln:=D M dQ (y 39 0)
def gK:=E M 985 dQ 986 987 282 4 608 609 610 611 612 992 993
def iR:=C M dQ (y 39 0) L 668 613
def hc:=N H 998
def lS:=D Z dT (y 39 1)
def fk:=E Z 995 dT 996 997 286 1 615 616 617 618 619 999 1000
def nB:=C Z dT (y 39 1) L 668 620
def gw:=ak H 1005 aT 1006 aS 1007
def mz:=D T dh (y 39 2)
def fy:=E T 1002 dh 1003 1004 289 3 622 623 624 625 626 1008 1009
def iP:=C T dh (y 39 2) L 668 627
def g5:=ab H 1014 aS 1015
def iQ:=D aN d9 (y 39 3)
def fr:=E aN 1011 d9 1012 1013 292 2 629 630 631 632 633 1016 1017
def iJ:=C aN d9 (y 39 3) L 668 634
def fX:=N H 1022
def mq:=D U er (y 39 4)
def gZ:=E U 1019 er 1020 1021 295 1 636 637 638 639 640 1023 1024
def no:=C U er (y 39 4) L 668 641
def gS:=N bM 1026
def gY:=Obj.mk Y none (Data.dict (G [t P ae 980 (A L 668),t P ag 984 (u 280 983),t P M 994 (r 614),t P Z 1001 (r 621),t P T 1010 (r 628),t P aN 1018 (r 635),t P U 1025 (r 642),t P af 1027 (r 643),t P ar 1028 K]) 2) I
def gU:=Obj.mk ah none (Data.cls (ClassData.mk bh [r 447] [r 645,r 447,r 419,V] 644 bh true [] [] false none false)) (G [X 601,none,some (A bh 973),some (A bh 981),some ap,some ad])
def jq:=am 645
def jW:=al 645
def oW:=e (boot_o_0 P) (e (boot_o_1 P) (e (qL P) (e (boot_o_7 P) (e h (e iE (e z (e l8 (e z (g h) .nil) (e z (g h) .nil)) (e (jN P) (e z (g h) .nil) (g f5))) (e aU (e mx (e f0 (g jz) .nil) (g fB)) (e z (e gx (g j5) .nil) (g (gh P))))) (e iB (e h (e h (e h (g nx) .nil) (g h)) (e mJ (e h (g fl) .nil) (g kM))) (e g3 (e mT (e mQ (g mm) .nil) (g h)) (e gn (e (gJ P) (g z) .nil) (g hm))))) (e e0 (e eZ (e eV (e ha (e lA (g h) .nil) (e gr (g jW) .nil)) (e h (e gq (g z) .nil) (g ns))) (e z (e (kh P) (e hf (g fM) .nil) (g jb)) (e j9 (e jl (g h) .nil) (g mS)))) (e h (e iy (e iK (e (ff P) (g gA) .nil) (g m0)) (e h (e i1 (g np) .nil) (g h))) (e kx (e jt (e h (g j4) .nil) (g z)) (e fZ (e h (g g5) .nil) (g lq)))))) (e h (e ij (e z (e eM (e jT (e fJ (g jP) .nil) (e hn (g gS) .nil)) (e iU (e fw (g kq) .nil) (g O))) (e iD (e lB (e jx (g fH) .nil) (g s0)) (e h (e g2 (g h) .nil) (g aF)))) (e h (e h (e h (e kb (g z) .nil) (g h)) (e h (e h (g jj) .nil) (g h))) (e O (e (nk P) (e h (g (km P)) .nil) (g lK)) (e lx (e h (g fy) .nil) (g ft))))) (e h (e eO (e ik (e i0 (e z (g h) .nil) (g j7)) (e he (e lj (g fW) .nil) (g fj))) (e gO (e lO (e gp (g kl) .nil) (g h)) (e fb (e fd (g lS) .nil) (g z)))) (e ii (e (eP P) (e (lF P) (e mn (g fu) .nil) (g z)) (e kS (e z (g (k1 P)) .nil) (g lR))) (e fp (e l9 (e iZ (g h) .nil) (g gi)) (e js (e lp (g iJ) .nil) (g h))))))) (e (boot_o_5 P) (e (boot_o_9 P) (e eJ (e iH (e h (e (g9 P) (e h (g f8) .nil) (e h (g gZ) .nil)) (e jD (e h (g fQ) .nil) (g lk))) (e (iq P) (e (f9 P) (e nd (g z) .nil) (g h)) (e fe (e h (g z) .nil) (g kt)))) (e z (e iz (e lE (e gz (g mC) .nil) (g fv)) (e O (e go (g ly) .nil) (g z))) (e m4 (e aE (e O (g aF) .nil) (g fK)) (e kX (e O (g h) .nil) (g h))))) (e eH (e h (e eQ (e k4 (e ml (g l5) .nil) (g mL)) (e g0 (e mp (g h) .nil) (g h))) (e h (e z (e h (g kw) .nil) (g O)) (e z (e (fS P) (g hc) .nil) (g mO)))) (e eU (e im (e aE (e gc (g h) .nil) (g jf)) (e gM (e lr (g aF) .nil) (g fV))) (e h (e (fx P) (e hd (g z) .nil) (g h)) (e h (e ho (g iQ) .nil) (g z)))))) (e c2 (e iu (e h (e e2 (e h (e h (g O) .nil) (e h (g gU) .nil)) (e z (e h (g iN) .nil) (g h))) (e lP (e aE (e z (g h) .nil) (g gj)) (e kv (e mR (g gK) .nil) (g (lZ P))))) (e e3 (e eX (e f3 (e ny (g h) .nil) (g g4)) (e lw (e gu (g (fm P)) .nil) (g hr))) (e h (e z (e lb (g jd) .nil) (g k9)) (e z (e j0 (g h) .nil) (g mM))))) (e (iw P) (e il (e O (e O (e ga (g fi) .nil) (g z)) (e gg (e z (g h) .nil) (g mB))) (e h (e (gD P) (e mU (g (fh P)) .nil) (g k5)) (e h (e mD (g nB) .nil) (g h)))) (e ix (e ih (e z (e h (g ky) .nil) (g h)) (e jC (e h (g mY) .nil) (g kB))) (e jA (e aE (e iW (g g1) .nil) (g fs)) (e mG (e ka (g z) .nil) (g fA)))))))) (e (boot_o_2 P) (e (boot_o_4 P) (e (boot_o_8 P) (e z (e iC (e eN (e h (e hk (g (fP P)) .nil) (e gE (g mq) .nil)) (e h (e fL (g z) .nil) (g ja))) (e O (e h (e h (g h) .nil) (g jI)) (e iM (e i3 (g h) .nil) (g f6)))) (e h (e iv (e z (e z (g hb) .nil) (g jw)) (e h (e jH (g h) .nil) (g h))) (e i6 (e kZ (e h (g kY) .nil) (g z)) (e h (e h (g gw) .nil) (g lT))))) (e eS (e iF (e eL (e h (e e9 (g mh) .nil) (g h)) (e i7 (e h (g gT) .nil) (g kc))) (e hj (e h (e mX (g h) .nil) (g aO)) (e h (e gV (g z) .nil) (g nc)))) (e z (e e1 (e m1 (e gk (g na) .nil) (g fE)) (e z (e fC (g ni) .nil) (g z))) (e mK (e h (e z (g h) .nil) (g gN)) (e lz (e z (g h) .nil) (g h)))))) (e q9 (e eW (e e6 (e ir (e mc (e kk (g aO) .nil) (e kK (g (gY P)) .nil)) (e h (e mu (g gH) .nil) (g (jp P)))) (e jM (e nt (e h (g lm) .nil) (g fq)) (e z (e h (g ln) .nil) (g O)))) (e ig (e z (e (gC P) (e fF (g g7) .nil) (g z)) (e jO (e z (g h) .nil) (g iX))) (e (jn P) (e h (e jo (g h) .nil) (g fG)) (e h (e ji (g iP) .nil) (g h))))) (e O (e h (e aU (e gm (e mA (g z) .nil) (g h)) (e (fN P) (e h (g lL) .nil) (g h))) (e md (e h (e h (g gP) .nil) (g lJ)) (e m3 (e gd (g fk) .nil) (g gF)))) (e eI (e eY (e h (e jV (g h) .nil) (g fo)) (e g8 (e fO (g h) .nil) (g fn))) (e h (e mt (e fU (g ms) .nil) (g la)) (e hp (e fz (g h) .nil) (g ks))))))) (e (boot_o_6 P) (e (boot_o_10 P) (e h (e h (e iG (e fg (e nA (g lc) .nil) (e jk (g no) .nil)) (e lG (e kU (g h) .nil) (g aF))) (e h (e gI (e gv (g iY) .nil) (g (e7 P))) (e kG (e z (g f2) .nil) (g jy)))) (e e5 (e ip (e nr (e h (g h) .nil) (g iV)) (e (i2 P) (e jJ (g fI) .nil) (g gs))) (e aU (e O (e (nm P) (g O) .nil) (g h)) (e gB (e (ll P) (g mz) .nil) (g z))))) (e eT (e z (e iA (e hi (e h (g lu) .nil) (g gb)) (e iO (e gW (g lf) .nil) (g z))) (e ju (e k2 (e z (g hq) .nil) (g (nz P))) (e lX (e gX (g h) .nil) (g h)))) (e h (e h (e O (e gR (g z) .nil) (g h)) (e h (e h (g O) .nil) (g h))) (e z (e hg (e h (g gQ) .nil) (g lM)) (e z (e h (g fr) .nil) (g fD)))))) (e cZ (e (eR P) (e io (e (eK P) (e z (e z (g (lv P)) .nil) (e z (g jq) .nil)) (e fT (e z (g h) .nil) (g kC))) (e h (e O (e jZ (g z) .nil) (g i9)) (e fa (e hl (g iR) .nil) (g h)))) (e iI (e h (e gy (e fY (g jG) .nil) (g h)) (e nq (e h (g gL) .nil) (g j3))) (e nn (e ng (e jU (g jS) .nil) (g h)) (e nu (e nv (g z) .nil) (g f1))))) (e h (e e4 (e (ie P) (e (jL P) (e mv (g h) .nil) (g g6)) (e kA (e gf (g z) .nil) (g fc))) (e (gl P) (e e8 (e f4 (g gG) .nil) (g m8)) (e z (e lY (g h) .nil) (g mH)))) (e h (e it (e m5 (e z (g hh) .nil) (g jQ)) (e h (e nb (g i5) .nil) (g h))) (e fR (e O (e h (g kV) .nil) (g (f7 P))) (e h (e h (g fX) .nil) (g lH))))))))
def h6:=Obj.mk Y none (Data.dict (G [t P hx 165 (A aJ 1517),t P ar 166 K,t P hB 167 K,t P ht 168 hv,t P hz 169 K,t P hu 170 (r 6),t P hK 171 (r 4),t P hL 173 (A aX 172),t P hP 174 K,t P a3 193 (r 21),t P hW 205 (r 22),t P hT 212 (r 26),t P bn 275 (r 71),t P bf 298 (r 92),t P a5 321 (r 111),t P aY 344 (r 130),t P bl 351 (r 139),t P bc 371 (r 149),t P bk 387 (r 162),t P bd 403 (r 174),t P bj 419 (r 186),t P be 444 (r 205),t P bm 545 (r 280),t P hH 549 (u 400 548),t P hF 551 (u 2000 550),t P hO 553 (u 2000 552),t P hQ 555 (u 8 554),t P hS 557 (u 100000 556),t P hY 559 (u 32 558),t P hI 561 (u 37 560),t P hX 563 (u 126 562),t P ba 570 (r 291),t P a6 576 (r 296),t P a7 584 (r 303),t P a9 667 (r 362),t P hR 671 (u 40 670),t P hU 693 (r 367),t P aC 758 (r 419),t P bg 792 (r 447),t P bb 831 (r 480),t P a8 870 (r 513),t P a0 926 (r 558),t P a4 972 (r 598),t P bh 1030 (r 645),t P bH 1071 (r 678),t P bE 1112 (r 711),t P bD 1118 (r 718),t P aD 1127 (r 725),t P bx 1135 (r 732),t P bv 1144 (r 739),t P bK 1328 (r 857),t P bz 1394 (r 904),t P bA 1516 (r 1000),t P bG 1526 (r 1011),t P bI 1533 (r 1018),t P bw 1544 (r 1025),t P bJ 1553 (r 1032),t P bF 1562 (r 1039),t P bB 1573 (r 1046),t P bC 1584 (r 1053),t P bt 1598 (r 1060),t P bu 1621 (r 1067),t P bL 1627 (r 1072)]) 63) I
def rf:=Obj.mk K none (Data.fields (G [u 1 0,u 0 0,r 20,u 7 0,u 0 0,r 32,u 26 0,u 0 0,r 81,u 30 0,u 0 0,r 100,u 34 0,u 0 0,r 119,u 38 0,u 0 0,r 138,u 45 0,u 0 0,r 145,u 47 0,u 0 0,r 158,u 49 0,u 0 0,r 170,u 51 0,u 0 0,r 182,u 53 0,u 0 0,r 194,u 58 0,u 0 0,r 213,u 120 0,u 0 0,r 290,u 122 0,u 0 0,r 295,u 132 0,u 0 0,r 302,u 135 0,u 0 0,r 309,u 202 0,u 0 0,r 373,u 221 0,u 0 0,r 429,u 229 0,u 0 0,r 455,u 239 0,u 0 0,r 488,u 249 0,u 0 0,r 521,u 267 0,u 0 0,r 566,u 280 0,u 0 0,r 606,u 297 0,u 0 0,r 653,u 307 0,u 0 0,r 686,u 319 0,u 0 0,r 717,u 325 0,u 0 0,r 724,u 335 0,u 0 0,r 731,u 349 0,u 0 0,r 738,u 354 0,u 0 0,r 745,u 449 0,u 0 0,r 867,u 472 0,u 0 0,r 914,u 534 0,u 0 0,r 1010,u 538 0,u 0 0,r 1017,u 542 0,u 0 0,r 1024,u 551 0,u 0 0,r 1031,u 561 0,u 0 0,r 1038,u 566 0,u 0 0,r 1045,u 576 0,u 0 0,r 1052,u 580 0,u 0 0,r 1059,u 589 0,u 0 0,r 1066,u 606 0,u 0 0,r 1071])) I
def mi:=Obj.mk ah none (Data.cls (ClassData.mk aC [V] [r 419,V] 418 aC true [] [r 447,r 558,r 678,r 711] false none false)) (G [none,none,some (A aC 694),some (A aC 702),some ap,some ad])
def rI:=cO P 1038 1040 bH 1039 1042 297 1041 M 1050 661 1059 668 1066 675 1068 676
def rA:=cL 299 660 302 667 305 674
def sl:=aj bH 1033 1034 1035 297 651 652 1036 1037
def sN:=ai 653 650 L 668
def k0:=ab H 1046 bM 1047
def s6:=D M ee (y 40 0)
def jR:=E M 1043 ee 1044 1045 299 2 655 656 657 658 659 1048 1049
def sH:=C M ee (y 40 0) L 668 660
def jE:=ak H 1054 aT 1055 aS 1056
def rE:=D T dl (y 40 1)
def l6:=E T 1051 dl 1052 1053 302 3 662 663 664 665 666 1057 1058
def sT:=C T dl (y 40 1) L 668 667
def jB:=N H 1063
def s1:=D U dA (y 40 2)
def m2:=E U 1060 dA 1061 1062 305 1 669 670 671 672 673 1064 1065
def rN:=C U dA (y 40 2) L 668 674
def kn:=N bM 1067
def ku:=cH P 1038 1042 297 1041 M 1050 661 1059 668 1066 675 1068 676 1069
def j1:=Obj.mk ah none (Data.cls (ClassData.mk bH [r 419] [r 678,r 419,V] 677 bH true [] [] false none false)) (G [X 648,none,some (A bH 1031),some (A bH 1039),some ap,some ad])
def sb:=am 678
def s2:=al 678
def rS:=cO P 1079 1081 bE 1080 1083 307 1082 M 1091 694 1100 701 1107 708 1109 709
def sE:=cL 309 693 312 700 317 707
def sn:=aj bE 1074 1075 1076 307 684 685 1077 1078
def sD:=ai 686 683 L 668
def l1:=ab H 1087 bM 1088
def sh:=D M dj (y 41 0)
def kd:=E M 1084 dj 1085 1086 309 2 688 689 690 691 692 1089 1090
def sF:=C M dj (y 41 0) L 668 693
def lV:=ak H 1095 aT 1096 aS 1097
def sd:=D T ef (y 41 1)
def nf:=E T 1092 ef 1093 1094 312 3 695 696 697 698 699 1098 1099
def sx:=C T ef (y 41 1) L 668 700
def mf:=N H 1104
def ru:=D U d8 (y 41 2)
def kH:=E U 1101 d8 1102 1103 317 1 702 703 704 705 706 1105 1106
def rQ:=C U d8 (y 41 2) L 668 707
def jX:=N bM 1108
def lC:=cH P 1079 1083 307 1082 M 1091 694 1100 701 1107 708 1109 709 1110
def kf:=Obj.mk ah none (Data.cls (ClassData.mk bE [r 419] [r 711,r 419,V] 710 bE true [] [] false none false)) (G [X 681,none,some (A bE 1072),some (A bE 1080),some ap,some ad])
def sI:=am 711
def sC:=al 711
def rP:=D bD bD (R 42)
def mZ:=aw bD 1113 bD 1114 1115 319 1 714 715 716 1116 1117
def se:=C bD bD (R 42) L 668 717
def i4:=ak ex 1122 qJ 1123 cR 1124
def r9:=D aD aD (R 43)
def ko:=E aD 1119 aD 1120 1121 325 2 719 720 721 722 723 1125 1126
def rl:=C aD aD (R 43) L 668 724
def kF:=ab ex 1131 oy 1132
def s8:=D bx bx (R 44)
def kN:=E bx 1128 bx 1129 1130 335 2 726 727 728 729 730 1133 1134
def sg:=C bx bx (R 44) L 668 731
def mE:=ak bN 1139 ev 1140 eG 1141
def sA:=D bv bv (R 45)
def ld:=E bv 1136 bv 1137 1138 349 3 733 734 735 736 737 1142 1143
def sj:=C bv bv (R 45) L 668 738
def r6:=Obj.mk Y none (Data.dict (G [t P ae 1154 (A aq 1145),t P aH 1156 (A bK 1155),t P ag 1158 (u 354 1157),t P M 1169 (r 753),t P cB 1178 (r 760),t P cd 1190 (r 767),t P cy 1203 (r 774),t P ck 1213 (r 781),t P b2 1223 (r 788),t P co 1229 (r 793),t P ca 1239 (r 800),t P b6 1255 (r 807),t P b7 1266 (r 814),t P b8 1275 (r 821),t P b3 1283 (r 828),t P cC 1293 (r 835),t P aK 1300 (r 842),t P aL 1307 (r 849),t P ce 1313 (r 854),t P af 1321 (r 855)]) 20) I
def sJ:=Obj.mk K none (Data.fields (G [u 356 0,u 4 0,r 752,u 367 0,u 4 0,r 759,u 372 0,u 4 0,r 766,u 383 0,u 4 0,r 773,u 392 0,u 4 0,r 780,u 396 0,u 4 0,r 787,u 399 0,u 4 0,r 792,u 408 0,u 4 0,r 799,u 415 0,u 4 0,r 806,u 428 0,u 4 0,r 813,u 431 0,u 4 0,r 820,u 434 0,u 4 0,r 827,u 437 0,u 4 0,r 834,u 440 0,u 4 0,r 841,u 443 0,u 4 0,r 848,u 446 0,u 4 0,r 853])) I
def rR:=aj bK 1149 1150 1151 354 743 744 1152 1153
def sw:=ai 745 742 aq 1145
def i8:=a1 H 1162 cQ 1163 h3 1164 dK 1165 aI 1166
def rZ:=D M dq (y 47 0)
def ki:=E M 1159 dq 1160 1161 356 4 747 748 749 750 751 1167 1168
def r3:=C M dq (y 47 0) aq 1145 752
def jm:=ak H 1173 aI 1174 bs 1175
def sq:=D cB dR (y 47 1)
def k7:=E cB 1170 dR 1171 1172 367 2 754 755 756 757 758 1176 1177
def sk:=C cB dR (y 47 1) aq 1145 759
def mb:=Obj.mk av none (Data.seq (G [A H 1182,A bp 1183,A au 1184,A cc 1185,A aT 1186,A cf 1187]) 0) I
def sa:=D cd dI (y 47 2)
def my:=E cd 1179 dI 1180 1181 372 6 761 762 763 764 765 1188 1189
def ry:=C cd dI (y 47 2) aq 1145 766
def iT:=a1 H 1194 bp 1195 au 1196 pf 1197 a2 1198
def j8:=ab H 1199 au 1200
def sS:=D cy dw (y 47 3)
def nh:=E cy 1191 dw 1192 1193 383 4 768 769 770 771 772 1201 1202
def sY:=C cy dw (y 47 3) aq 1145 773
def nj:=aQ H 1207 au 1208 b4 1209 qm 1210
def sP:=D ck eF (y 47 4)
def iS:=E ck 1204 eF 1205 1206 392 3 775 776 777 778 779 1211 1212
def sr:=C ck eF (y 47 4) aq 1145 780
def l4:=aQ H 1217 bp 1218 au 1219 cc 1220
def sL:=D b2 dE (y 47 5)
def lQ:=E b2 1214 dE 1215 1216 396 4 782 783 784 785 786 1221 1222
def rM:=C b2 dE (y 47 5) aq 1145 787
def rH:=D co dL (y 47 6)
def m9:=aw co 1224 dL 1225 1226 399 4 789 790 791 1227 1228
def sy:=C co dL (y 47 6) aq 1145 792
def nw:=aQ H 1233 bp 1234 au 1235 pG 1236
def rn:=D ca dG (y 47 7)
def lh:=E ca 1230 dG 1231 1232 408 3 794 795 796 797 798 1237 1238
def rK:=C ca dG (y 47 7) aq 1145 799
def mj:=Obj.mk av none (Data.seq (G [A H 1243,A bp 1244,A au 1245,A cc 1246,A aT 1247,A cf 1248,A aI 1249,A ib 1250,A a2 1251]) 0) I
def mo:=N H 1252
def ro:=D b6 dX (y 47 8)
def kI:=E b6 1240 dX 1241 1242 415 6 801 802 803 804 805 1253 1254
def su:=C b6 dX (y 47 8) aq 1145 806
def mr:=a1 H 1259 bp 1260 au 1261 cc 1262 cf 1263
def rY:=D b7 dF (y 47 9)
def lD:=E b7 1256 dF 1257 1258 428 5 808 809 810 811 812 1264 1265
def sB:=C b7 dF (y 47 9) aq 1145 813
def m6:=ak H 1270 au 1271 ib 1272
def sf:=D b8 ey (y 47 10)
def jr:=E b8 1267 ey 1268 1269 431 3 815 816 817 818 819 1273 1274
def r2:=C b8 ey (y 47 10) aq 1145 820
def l2:=ab H 1279 bp 1280
def rx:=D b3 eD (y 47 11)
def kR:=E b3 1276 eD 1277 1278 434 2 822 823 824 825 826 1281 1282
def rV:=C b3 eD (y 47 11) aq 1145 827
def lI:=aQ H 1287 bp 1288 au 1289 pi 1290
def rz:=D cC dz (y 47 12)
def jF:=E cC 1284 dz 1285 1286 437 4 829 830 831 832 833 1291 1292
def rj:=C cC dz (y 47 12) aq 1145 834
def kP:=N H 1297
def s4:=D aK dW (y 47 13)
def ma:=E aK 1294 dW 1295 1296 440 1 836 837 838 839 840 1298 1299
def r0:=C aK dW (y 47 13) aq 1145 841
def jh:=N H 1304
def sc:=D aL d6 (y 47 14)
def j6:=E aL 1301 d6 1302 1303 443 1 843 844 845 846 847 1305 1306
def r8:=C aL d6 (y 47 14) aq 1145 848
def sX:=D ce dr (y 47 15)
def kJ:=aw ce 1308 dr 1309 1310 446 2 850 851 852 1311 1312
def rp:=C ce dr (y 47 15) aq 1145 853
def lW:=Obj.mk av none (Data.seq (G [A p4 1314,A qa 1315,A h3 1316,A pS 1317,A dK 1318,A pb 1319,A cQ 1320]) 0) I
def mP:=Obj.mk Y none (Data.dict (G [t P ae 1154 (A aq 1145),t P ag 1158 (u 354 1157),t P M 1169 (r 753),t P cB 1178 (r 760),t P cd 1190 (r 767),t P cy 1203 (r 774),t P ck 1213 (r 781),t P b2 1223 (r 788),t P co 1229 (r 793),t P ca 1239 (r 800),t P b6 1255 (r 807),t P b7 1266 (r 814),t P b8 1275 (r 821),t P b3 1283 (r 828),t P cC 1293 (r 835),t P aK 1300 (r 842),t P aL 1307 (r 849),t P ce 1313 (r 854),t P af 1321 (r 855),t P bi 1323 (r 858),t P aR 1325 (r 859),t P ar 1326 K]) 4) I
def kT:=Obj.mk ah none (Data.cls (ClassData.mk bK [V] [r 857,V] 856 bK true [] [] false none false)) (G [none,none,some (A bK 1147),some (A bK 1155),some ap,some ad])
def k8:=bq 1322 857
def j2:=aZ 1324 857
def rh:=am 857
def sG:=al 857
def rO:=cF P 1338 bo 1329 1340 bz 1339 1342 449 1341 1350 875 aI 1358 882 cp 1369 889 ch 1376 896 ci 1382 901 1387 902
def sv:=cE 451 874 457 881 462 888 465 895 468 900
def rm:=aj bz 1333 1334 1335 449 865 866 1336 1337
def s9:=ai 867 864 bo 1329
def lU:=ab H 1346 cQ 1347
def rB:=D M eE (y 49 0)
def li:=E M 1343 eE 1344 1345 451 2 869 870 871 872 873 1348 1349
def rW:=C M eE (y 49 0) bo 1329 874
def mV:=ab H 1354 aI 1355
def sz:=D aI ej (y 49 1)
def nl:=E aI 1351 ej 1352 1353 457 2 876 877 878 879 880 1356 1357
def sU:=C aI ej (y 49 1) bo 1329 881
def l3:=a1 H 1362 pg 1363 ex 1364 au 1365 pZ 1366
def rk:=D cp dU (y 49 2)
def lN:=E cp 1359 dU 1360 1361 462 5 883 884 885 886 887 1367 1368
def r4:=C cp dU (y 49 2) bo 1329 888
def kQ:=N H 1373
def rs:=D ch d0 (y 49 3)
def l0:=E ch 1370 d0 1371 1372 465 1 890 891 892 893 894 1374 1375
def st:=C ch d0 (y 49 3) bo 1329 895
def sV:=D ci dS (y 49 4)
def mw:=aw ci 1377 dS 1378 1379 468 1 897 898 899 1380 1381
def si:=C ci dS (y 49 4) bo 1329 900
def lg:=aQ qG 1383 qn 1384 qx 1385 cQ 1386
def kO:=Obj.mk Y none (Data.dict (G [t P ae 1338 (A bo 1329),t P ag 1342 (u 449 1341),t P M 1350 (r 875),t P aI 1358 (r 882),t P cp 1369 (r 889),t P ch 1376 (r 896),t P ci 1382 (r 901),t P af 1387 (r 902),t P bi 1389 (r 905),t P aR 1391 (r 906),t P ar 1392 K]) 4) I
def me:=Obj.mk ah none (Data.cls (ClassData.mk bz [V] [r 904,V] 903 bz true [] [] false none false)) (G [none,none,some (A bz 1331),some (A bz 1339),some ap,some ad])
def nC:=bq 1388 904
def k6:=aZ 1390 904
def r7:=am 904
def s5:=al 904
def sM:=Obj.mk Y none (Data.dict (G [t P ae 1404 (A ax 1395),t P aH 1406 (A bA 1405),t P ag 1408 (u 472 1407),t P M 1416 (r 922),t P cr 1426 (r 929),t P cs 1434 (r 936),t P cx 1442 (r 943),t P cu 1449 (r 950),t P cg 1457 (r 957),t P cv 1464 (r 964),t P cz 1470 (r 969),t P cA 1477 (r 976),t P cl 1484 (r 983),t P cj 1493 (r 990),t P cn 1501 (r 997),t P af 1509 (r 998)]) 16) I
def ss:=Obj.mk K none (Data.fields (G [u 474 0,u 4 0,r 921,u 483 0,u 4 0,r 928,u 500 0,u 4 0,r 935,u 507 0,u 4 0,r 942,u 510 0,u 4 0,r 949,u 513 0,u 4 0,r 956,u 516 0,u 4 0,r 963,u 519 0,u 4 0,r 968,u 522 0,u 4 0,r 975,u 525 0,u 4 0,r 982,u 528 0,u 4 0,r 989,u 531 0,u 4 0,r 996])) I
def rJ:=aj bA 1399 1400 1401 472 912 913 1402 1403
def sK:=ai 914 911 ax 1395
def kg:=ab H 1412 ic 1413
def rU:=D M dp (y 51 0)
def jK:=E M 1409 dp 1410 1411 474 2 916 917 918 919 920 1414 1415
def r5:=C M dp (y 51 0) ax 1395 921
def kz:=aQ H 1420 aI 1421 hE 1422 au 1423
def rv:=D cr ew (y 51 1)
def kp:=E cr 1417 ew 1418 1419 483 2 923 924 925 926 927 1424 1425
def rG:=C cr ew (y 51 1) ax 1395 928
def kj:=ab H 1430 aI 1431
def rT:=D cs d3 (y 51 2)
def kr:=E cs 1427 d3 1428 1429 500 2 930 931 932 933 934 1432 1433
def sm:=C cs d3 (y 51 2) ax 1395 935
def mF:=ab H 1438 b4 1439
def sZ:=D cx el (y 51 3)
def jv:=E cx 1435 el 1436 1437 507 2 937 938 939 940 941 1440 1441
def rL:=C cx el (y 51 3) ax 1395 942
def jY:=N H 1446
def so:=D cu ep (y 51 4)
def jc:=E cu 1443 ep 1444 1445 510 1 944 945 946 947 948 1447 1448
def sW:=C cu ep (y 51 4) ax 1395 949
def mN:=ab H 1453 au 1454
def rF:=D cg eb (y 51 5)
def mg:=E cg 1450 eb 1451 1452 513 2 951 952 953 954 955 1455 1456
def rt:=C cg eb (y 51 5) ax 1395 956
def kL:=N H 1461
def s3:=D cv em (y 51 6)
def iL:=E cv 1458 em 1459 1460 516 1 958 959 960 961 962 1462 1463
def ri:=C cv em (y 51 6) ax 1395 963
def rr:=D cz eg (y 51 7)
def m7:=aw cz 1465 eg 1466 1467 519 1 965 966 967 1468 1469
def rD:=C cz eg (y 51 7) ax 1395 968
def k3:=N H 1474
def r1:=D cA dt (y 51 8)
def kD:=E cA 1471 dt 1472 1473 522 1 970 971 972 973 974 1475 1476
def s7:=C cA dt (y 51 8) ax 1395 975
def kW:=N H 1481
def sR:=D cl ed (y 51 9)
def mI:=E cl 1478 ed 1479 1480 525 1 977 978 979 980 981 1482 1483
def sp:=C cl ed (y 51 9) ax 1395 982
def mW:=ak H 1488 au 1489 cc 1490
def sO:=D cj en (y 51 10)
def je:=E cj 1485 en 1486 1487 528 3 984 985 986 987 988 1491 1492
def rX:=C cj en (y 51 10) ax 1395 989
def jg:=ab H 1497 au 1498
def rq:=D cn ds (y 51 11)
def ls:=E cn 1494 ds 1495 1496 531 2 991 992 993 994 995 1499 1500
def sQ:=C cn ds (y 51 11) ax 1395 996
def kE:=Obj.mk av none (Data.seq (G [A qg 1502,A ic 1503,A qI 1504,A qe 1505,A qW 1506,A qd 1507,A pI 1508]) 0) I
def l7:=Obj.mk Y none (Data.dict (G [t P ae 1404 (A ax 1395),t P ag 1408 (u 472 1407),t P M 1416 (r 922),t P cr 1426 (r 929),t P cs 1434 (r 936),t P cx 1442 (r 943),t P cu 1449 (r 950),t P cg 1457 (r 957),t P cv 1464 (r 964),t P cz 1470 (r 969),t P cA 1477 (r 976),t P cl 1484 (r 983),t P cj 1493 (r 990),t P cn 1501 (r 997),t P af 1509 (r 998),t P bi 1511 (r 1001),t P aR 1513 (r 1002),t P ar 1514 K]) 4) I
def nN:=Obj.mk ah none (Data.cls (ClassData.mk bA [V] [r 1000,V] 999 bA true [] [] false none false)) (G [none,none,some (A bA 1397),some (A bA 1405),some ap,some ad])
def nO:=bq 1510 1000
def nD:=aZ 1512 1000
def tu:=am 1000
def tj:=al 1000
def nR:=ab h9 1522 id 1523
def tq:=D bG bG (R 53)
def nH:=E bG 1519 bG 1520 1521 534 2 1005 1006 1007 1008 1009 1524 1525
def tp:=C bG bG (R 53) aJ 1517 1010
def nG:=N h8 1530
def tv:=D bI bI (R 54)
def nT:=E bI 1527 bI 1528 1529 538 1 1012 1013 1014 1015 1016 1531 1532
def ti:=C bI bI (R 54) aJ 1517 1017
def nI:=a1 h8 1537 h0 1538 cS 1539 pX 1540 ct 1541
def tw:=D bw bw (R 55)
def nX:=E bw 1534 bw 1535 1536 542 2 1019 1020 1021 1022 1023 1542 1543
def tr:=C bw bw (R 55) aJ 1517 1024
def nE:=ak ct 1548 ia 1549 cS 1550
def tn:=D bJ bJ (R 56)
def nP:=E bJ 1545 bJ 1546 1547 551 1 1026 1027 1028 1029 1030 1551 1552
def tl:=C bJ bJ (R 56) aJ 1517 1031
def nW:=ak pL 1557 qC 1558 pV 1559
def ts:=D bF bF (R 57)
def nK:=E bF 1554 bF 1555 1556 561 2 1033 1034 1035 1036 1037 1560 1561
def te:=C bF bF (R 57) aJ 1517 1038
def nY:=a1 hZ 1566 h1 1567 ct 1568 ia 1569 cS 1570
def tf:=D bB bB (R 58)
def nU:=E bB 1563 bB 1564 1565 566 3 1040 1041 1042 1043 1044 1571 1572
def tb:=C bB bB (R 58) aJ 1517 1045
def nF:=a1 dm 1577 dN 1578 ec 1579 oC 1580 h7 1581
def tg:=D bC bC (R 59)
def nS:=E bC 1574 bC 1575 1576 576 4 1047 1048 1049 1050 1051 1582 1583
def th:=C bC bC (R 59) aJ 1517 1052
def nM:=Obj.mk av none (Data.seq (G [A dm 1588,A dN 1589,A ec 1590,A h9 1591,A h0 1592,A pC 1593,A id 1594,A ct 1595]) 0) I
def ta:=D bt bt (R 60)
def nQ:=E bt 1585 bt 1586 1587 580 5 1054 1055 1056 1057 1058 1596 1597
def td:=C bt bt (R 60) aJ 1517 1059
def nL:=Obj.mk av none (Data.seq (G [A dm 1602,A dN 1603,A ph 1604,A pt 1605,A qX 1606,A oM 1607,A ec 1608,A pw 1609,A h1 1610,A ct 1611,A hZ 1612,A h7 1613,A pK 1614,A oG 1615,A qU 1616,A cS 1617,A qS 1618]) 0) I
def tm:=D bu bu (R 61)
def nJ:=E bu 1599 bu 1600 1601 589 6 1061 1062 1063 1064 1065 1619 1620
def tt:=C bu bu (R 61) aJ 1517 1066
def tc:=D bL bL (R 62)
def nV:=aw bL 1622 bL 1623 1624 606 1 1068 1069 1070 1625 1626
def tk:=C bL bL (R 62) aJ 1517 1071
def hC:=e (boot_o_0 P) (e (boot_o_1 P) (e (h6 P) (e (boot_o_7 P) (e h (e iE (e z (e l8 (e z (e h (g tw) .nil) (g ry)) (e z (g h) (g l0))) (e (jN P) (e z (g h) (g lI)) (e f5 (g z) (g z)))) (e aU (e mx (e f0 (e jz (g z) .nil) (g lh)) (e fB (g jB) (g rv))) (e z (e gx (g j5) (g O)) (e (gh P) (g mE) (g h))))) (e iB (e h (e h (e h (e nx (g te) .nil) (g z)) (e h (g h) (g (sM P)))) (e mJ (e h (g fl) (g sc)) (e kM (g h) (g kD)))) (e g3 (e mT (e mQ (e mm (g nV) .nil) (g h)) (e h (g sD) (g rL))) (e gn (e (gJ P) (g z) (g h)) (e hm (g rZ) (g nR)))))) (e e0 (e eZ (e eV (e ha (e lA (e h (g nP) .nil) (g h)) (e gr (g jW) (g (kO P)))) (e h (e gq (g z) (g h)) (e ns (g kf) (g rr)))) (e z (e (kh P) (e hf (e fM (g nL) .nil) (g su)) (e jb (g sb) (g kr))) (e j9 (e jl (g h) (g lU)) (e mS (g h) (g (l7 P)))))) (e h (e iy (e iK (e (ff P) (e gA (g h) .nil) (g rH)) (e m0 (g z) (g h))) (e h (e i1 (g np) (g lW)) (e h (g z) (g sp)))) (e kx (e jt (e h (g j4) (g z)) (e z (g h) (g h))) (e fZ (e h (g g5) (g rk)) (e lq (g k7) (g h))))))) (e h (e ij (e z (e eM (e jT (e fJ (e jP (g z) .nil) (g j8)) (e hn (g gS) (g sV))) (e iU (e fw (g kq) (g rj)) (e O (g kH) (g iL)))) (e iD (e lB (e jx (e fH (g nQ) .nil) (g mj)) (e mi (g rN) (g z))) (e h (e g2 (g h) (g rm)) (e aF (g sj) (g rq))))) (e h (e h (e h (e kb (e z (g h) .nil) (g lQ)) (e h (g s6) (g sK))) (e h (e h (g jj) (g z)) (e h (g r9) (g kW)))) (e O (e (nk P) (e h (g (km P)) (g sf)) (e lK (g h) (g h))) (e lx (e h (g fy) (g h)) (e ft (g z) (g tp)))))) (e h (e eO (e ik (e i0 (e z (e h (g nW) .nil) (g sP)) (e j7 (g h) (g r7))) (e he (e lj (g fW) (g h)) (e fj (g z) (g z)))) (e gO (e lO (e gp (e kl (g tt) .nil) (g h)) (e h (g (rS P)) (g mF))) (e fb (e fd (g lS) (g rW)) (e z (g h) (g tu))))) (e ii (e (eP P) (e (lF P) (e mn (e fu (g tg) .nil) (g z)) (e z (g l6) (g h))) (e kS (e z (g (k1 P)) (g j2)) (e lR (g kN) (g h)))) (e fp (e l9 (e iZ (g h) (g kR)) (e gi (g sd) (g rF))) (e js (e lp (g iJ) (g z)) (e h (g mb) (g h)))))))) (e (boot_o_5 P) (e (boot_o_9 P) (e eJ (e iH (e h (e (g9 P) (e h (e f8 (g tr) .nil) (g z)) (e h (g gZ) (g h))) (e jD (e h (g fQ) (g rz)) (e lk (g h) (g h)))) (e (iq P) (e (f9 P) (e nd (e z (g h) .nil) (g h)) (e h (g s1) (g rG))) (e fe (e h (g z) (g h)) (e kt (g sA) (g jg))))) (e z (e iz (e lE (e gz (e mC (g z) .nil) (g h)) (e fv (g k0) (g ss))) (e O (e go (g ly) (g r8)) (e z (g i4) (g h)))) (e m4 (e aE (e O (g aF) (g m6)) (e fK (g z) (g z))) (e kX (e O (g h) (g nl)) (e h (g r3) (g tq)))))) (e eH (e h (e eQ (e k4 (e ml (e l5 (g h) .nil) (g nj)) (e mL (g O) (g nC))) (e g0 (e mp (g h) (g ma)) (e h (g sC) (g rD)))) (e h (e z (e h (e kw (g tm) .nil) (g z)) (e O (g aO) (g h))) (e z (e (fS P) (g hc) (g rB)) (e mO (g rR) (g nO))))) (e eU (e im (e aE (e gc (e h (g nF) .nil) (g sy)) (e jf (g h) (g jK))) (e gM (e lr (g aF) (g kT)) (e fV (g h) (g z)))) (e h (e (fx P) (e hd (g z) (g h)) (e h (g lV) (g mN))) (e h (e ho (g iQ) (g r4)) (e z (g h) (g nT))))))) (e c2 (e iu (e h (e e2 (e h (e h (e O (g h) .nil) (g nh)) (e h (g gU) (g si))) (e z (e h (g iN) (g z)) (e h (g jX) (g h)))) (e lP (e aE (e z (e h (g h) .nil) (g ro)) (e gj (g (ku P)) (g h))) (e kv (e mR (g gK) (g h)) (e (lZ P) (g O) (g sQ))))) (e e3 (e eX (e f3 (e ny (e h (g nU) .nil) (g h)) (e g4 (g sH) (g z))) (e lw (e gu (g (fm P)) (g kJ)) (e hr (g rl) (g sR)))) (e h (e z (e lb (g jd) (g r2)) (e k9 (g kd) (g jc))) (e z (e j0 (g h) (g l3)) (e mM (g h) (g z)))))) (e (iw P) (e il (e O (e O (e ga (e fi (g ts) .nil) (g sr)) (e z (g sl) (g h))) (e gg (e z (g h) (g jh)) (e mB (g mZ) (g h)))) (e h (e (gD P) (e mU (e (fh P) (g z) .nil) (g lD)) (e k5 (g sE) (g sZ))) (e h (e mD (g nB) (g z)) (e h (g i8) (g h))))) (e ix (e ih (e z (e h (e ky (g th) .nil) (g h)) (e h (g h) (g kz))) (e jC (e h (g mY) (g sG)) (e kB (g h) (g je)))) (e jA (e aE (e iW (g g1) (g h)) (e fs (g sx) (g rt))) (e mG (e ka (g z) (g h)) (e fA (g sa) (g nI))))))))) (e (boot_o_2 P) (e (boot_o_4 P) (e (boot_o_8 P) (e z (e iC (e eN (e h (e hk (e (fP P) (g nX) .nil) (g h)) (e gE (g mq) (g st))) (e h (e fL (g z) (g h)) (e ja (g mf) (g kL)))) (e O (e h (e h (e h (g nM) .nil) (g rK)) (e jI (g h) (g kp))) (e iM (e i3 (g h) (g (rO P))) (e f6 (g h) (g z))))) (e h (e iv (e z (e z (e hb (g h) .nil) (g l4)) (e jw (g z) (g h))) (e h (e jH (g h) (g j6)) (e h (g z) (g s7)))) (e i6 (e kZ (e h (e kY (g tk) .nil) (g z)) (e z (g h) (g h))) (e h (e h (g gw) (g sz)) (e lT (g ki) (g h)))))) (e eS (e iF (e eL (e h (e e9 (e mh (g tl) .nil) (g z)) (e h (g aO) (g me))) (e i7 (e h (g gT) (g s4)) (e kc (g sI) (g m7)))) (e hj (e h (e mX (e h (g h) .nil) (g h)) (e aO (g s2) (g sm))) (e h (e gV (g z) (g h)) (e nc (g sJ) (g nN))))) (e z (e e1 (e m1 (e gk (e na (g z) .nil) (g m9)) (e fE (g jE) (g rU))) (e z (e fC (g ni) (g (mP P))) (e z (g kF) (g h)))) (e mK (e h (e z (g h) (g l2)) (e gN (g z) (g z))) (e lz (e z (g h) (g lN)) (e h (g sk) (g tv))))))) (e rf (e eW (e e6 (e ir (e mc (e kk (e aO (g nE) .nil) (g sS)) (e kK (g (gY P)) (g mw))) (e h (e mu (g gH) (g h)) (e (jp P) (g rQ) (g ri)))) (e jM (e nt (e h (e lm (g td) .nil) (g mo)) (e fq (g kn) (g kj))) (e z (e h (g ln) (g s9)) (e O (g h) (g ls))))) (e ig (e z (e (gC P) (e fF (e g7 (g tf) .nil) (g rM)) (e z (g jR) (g h))) (e jO (e z (g h) (g sX)) (e iX (g ko) (g h)))) (e (jn P) (e h (e jo (g h) (g jr)) (e fG (g sh) (g so))) (e h (e ji (g iP) (g z)) (e h (g jm) (g h)))))) (e O (e h (e aU (e gm (e mA (e z (g h) .nil) (g iS)) (e h (g rA) (g s5))) (e (fN P) (e h (g lL) (g z)) (e h (g rP) (g k3)))) (e md (e h (e h (e gP (g h) .nil) (g rY)) (e lJ (g h) (g h))) (e m3 (e gd (g fk) (g h)) (e gF (g z) (g tj))))) (e eI (e eY (e h (e jV (e h (g nS) .nil) (g nw)) (e fo (g sT) (g z))) (e g8 (e fO (g h) (g rh)) (e fn (g sg) (g sO)))) (e h (e mt (e fU (g ms) (g rV)) (e la (g nf) (g mg))) (e hp (e fz (g h) (g kQ)) (e ks (g h) (g z)))))))) (e (boot_o_6 P) (e (boot_o_10 P) (e h (e h (e iG (e fg (e nA (e lc (g h) .nil) (g iT)) (e jk (g no) (g z))) (e lG (e kU (g h) (g jF)) (e aF (g ru) (g s3)))) (e h (e gI (e gv (e iY (g ta) .nil) (g z)) (e (e7 P) (g m2) (g h))) (e kG (e z (g f2) (g sv)) (e jy (g ld) (g h))))) (e e5 (e ip (e nr (e h (e h (g nY) .nil) (g sL)) (e iV (g h) (g rJ))) (e (i2 P) (e jJ (g fI) (g h)) (e gs (g h) (g z)))) (e aU (e O (e (nm P) (g O) (g h)) (e h (g l1) (g jY))) (e gB (e (ll P) (g mz) (g sU)) (e z (g h) (g nH)))))) (e eT (e z (e iA (e hi (e h (e lu (g z) .nil) (g h)) (e gb (g (rI P)) (g k6))) (e iO (e gW (g lf) (g r0)) (e z (g h) (g h)))) (e ju (e k2 (e z (e hq (g nJ) .nil) (g mr)) (e (nz P) (g O) (g z))) (e lX (e gX (g h) (g li)) (e h (g sw) (g nD))))) (e h (e h (e O (e gR (e z (g h) .nil) (g h)) (e h (g rE) (g r5))) (e h (e h (g O) (g k8)) (e h (g s8) (g mW)))) (e z (e hg (e h (g gQ) (g rx)) (e lM (g h) (g h))) (e z (e h (g fr) (g h)) (e fD (g z) (g ti))))))) (e cZ (e (eR P) (e io (e (eK P) (e z (e z (e (lv P) (g tn) .nil) (g sY)) (e z (g jq) (g lg))) (e fT (e z (g h) (g kP)) (e kC (g (lC P)) (g z)))) (e h (e O (e jZ (e z (g z) .nil) (g kI)) (e i9 (g j1) (g rT))) (e fa (e hl (g iR) (g z)) (e h (g (r6 P)) (g kE))))) (e iI (e h (e gy (e fY (e jG (g tb) .nil) (g z)) (e h (g h) (g kg))) (e nq (e h (g gL) (g rp)) (e j3 (g h) (g mI)))) (e nn (e ng (e jU (g jS) (g h)) (e h (g sF) (g sW))) (e nu (e nv (g z) (g h)) (e f1 (g sq) (g nG)))))) (e h (e e4 (e (ie P) (e (jL P) (e mv (e h (g nK) .nil) (g h)) (e g6 (g sN) (g O))) (e kA (e gf (g z) (g h)) (e fc (g se) (g r1)))) (e (gl P) (e e8 (e f4 (e gG (g tc) .nil) (g sB)) (e m8 (g sn) (g jv))) (e z (e lY (g h) (g mV)) (e mH (g h) (g z))))) (e h (e it (e m5 (e z (e hh (g h) .nil) (g rn)) (e jQ (g z) (g h))) (e h (e nb (g i5) (g h)) (e h (g z) (g rX)))) (e fR (e O (e h (g kV) (g z)) (e (f7 P) (g h) (g h))) (e h (e h (g fX) (g rs)) (e lH (g my) (g h)))))))))
def pF:=hC P
def hs:=hC P
end
noncomputable def hw(w:World)(os:OsState):SharedT:=SharedT.mk (n7 w.params) 15 (@Life.mk [] [] [] 0 [] [] false I [] 0 false false false 0 [2000,10,10] false 0 true [] [] 0 false) I (@Drawn.mk 0 0 0 0) 187 os
noncomputable def cD(w:World)(os:OsState):SharedT:=SharedT.mk (n3 w.params) 15 (@Life.mk [] [] [] 0 [] [] false I [] 0 false false false 0 [2000,10,10] false 0 true [] [] 0 false) I (@Drawn.mk 0 0 0 0) 187 os
noncomputable def b9(w:World)(os:OsState):SharedT:=SharedT.mk (oW w.params) 648 (@Life.mk [] [] [] 0 [] [] false I [] 0 false false false 0 [2000,10,10] false 0 true [] [] 0 false) I (@Drawn.mk 0 0 0 0) 1031 os
noncomputable def dM(w:World)(os:OsState):SharedT:=SharedT.mk (pF w.params) 1073 (@Life.mk [] [] [] 0 [] [] false I [] 0 false false false 0 [2000,10,10] false 0 true [] [] 0 false) I (@Drawn.mk 0 0 0 0) 1628 os
noncomputable def ty(w:World)(os:OsState):SharedT:=SharedT.mk (hs w.params) 1073 (@Life.mk [] [] [] 0 [] [] false I [] 0 false false false 0 [2000,10,10] false 0 true [] [] 0 false) I (@Drawn.mk 0 0 0 0) 1628 os
noncomputable abbrev aB:Env:={scope:=aa.main.scope,locals:=mainNs,globals:=mainNs,cells:=[],code:=(r 13),frame:=some 14}
noncomputable abbrev aP:Env:={scope:=aV.main.scope,locals:=mainNs,globals:=mainNs,cells:=[],code:=(r 13),frame:=some 14}
theorem n4:behindTheImports aa=((aa.main.body.drop 0).take 40++((aa.main.body.drop 40).take 23++[])):=by kernel_rfl
theorem q1(w:World)(b:OsState):topGo treeTable aa w 11 (X 6) 12 ⟨boot_heap w.params,Array.mk [],boot_drawn,boot_toks,b⟩ (topStub aa)=some ((hw w b).abs,⟨denote treeTable (Code.body (behindTheImports aa) aB),Code.body (behindTheImports aa) aB,(@Pos.mk 0 0 0 0),[topFrame (@Pos.mk 0 0 0 0)]⟩):=by
 rw [PySem.W.Fast.te15667345088766844465,PySem.W.Fast.te14364793385576792824,PySem.W.Fast.te11892475500146522536,bO]
 kernel_rfl
theorem re(w:World)(b:OsState):segRun treeTable aa w 11 (X 6) 1 1 (hw w b).abs (blockOf (behindTheImports aa) aB (Code.body (behindTheImports aa) aB) (@Pos.mk 0 0 0 0) [topFrame (@Pos.mk 0 0 0 0)])=some (Flow.next,(cD w b).abs,Code.body (behindTheImports aa) aB,(@Pos.mk 0 0 0 0)):=by
 refine segRun_of ?_
 rw [PySem.W.Fast.te10110043849684766642,PySem.W.Fast.te14364793385576792824,bO]
 kernel_rfl
theorem n8(p:Program)(b:List Stmt):∀w:World,(λos=>PySem.W.Fast.tw10110043849684766642 PySem.W.Fast.tw14364793385576792824 p w 11 (X 6) 1 5959 (cD w os) (piecesOf ((aV.main.body.drop 0).take 40) aP (Code.body b aP) (@Pos.mk 0 0 0 0) [topFrame (@Pos.mk 0 0 0 0)]))=(λos=>some (Flow.next,b9 w os,Code.body b aP,(@Pos.mk 280 0 296 17))):=byRow2 "special-get-raises" (P:=λw=>(λos=>PySem.W.Fast.tw10110043849684766642 PySem.W.Fast.tw14364793385576792824 p w 11 (X 6) 1 5959 (cD w os) (piecesOf ((aV.main.body.drop 0).take 40) aP (Code.body b aP) (@Pos.mk 0 0 0 0) [topFrame (@Pos.mk 0 0 0 0)]))=(λos=>some (Flow.next,b9 w os,Code.body b aP,(@Pos.mk 280 0 296 17)))) (λw=>by kernel_rfl) (λw=>by kernel_rfl)
theorem oc(b:List Stmt)(w:World)(d:OsState):segRun treeTable aa w 11 (X 6) 1 5959 (cD w d).abs (piecesOf ((aa.main.body.drop 0).take 40) aB (Code.body b aB) (@Pos.mk 0 0 0 0) [topFrame (@Pos.mk 0 0 0 0)])=some (Flow.next,(b9 w d).abs,Code.body b aB,(@Pos.mk 280 0 296 17)):=by
 refine segRun_of ?_
 rw [PySem.W.Fast.te10110043849684766642,PySem.W.Fast.te14364793385576792824,bO]
 exact congrFun (n8 aV b w) d
theorem oa(p:Program)(b:List Stmt):∀w:World,(λos=>PySem.W.Fast.tw10110043849684766642 PySem.W.Fast.tw14364793385576792824 p w 11 (X 6) 1 2757 (b9 w os) (piecesOf ((aV.main.body.drop 40).take 23) aP (Code.body b aP) (@Pos.mk 280 0 296 17) [topFrame (@Pos.mk 0 0 0 0)]))=(λos=>some (Flow.next,dM w os,Code.body b aP,(@Pos.mk 606 0 639 15))):=λw=>by kernel_rfl
theorem n1(b:List Stmt)(w:World)(d:OsState):segRun treeTable aa w 11 (X 6) 1 2757 (b9 w d).abs (piecesOf ((aa.main.body.drop 40).take 23) aB (Code.body b aB) (@Pos.mk 280 0 296 17) [topFrame (@Pos.mk 0 0 0 0)])=some (Flow.next,(dM w d).abs,Code.body b aB,(@Pos.mk 606 0 639 15)):=by
 refine segRun_of ?_
 rw [PySem.W.Fast.te10110043849684766642,PySem.W.Fast.te14364793385576792824,bO]
 exact congrFun (oa aV b w) d
noncomputable abbrev aW:Params->Heap:=λP=>absHeap (hs P) 1073 (@Life.mk [] [] [] 0 [] [] false I [] 0 false false false 0 [2000,10,10] false 0 true [] [] 0 false)
theorem ra(b:List Stmt)(w:World)(d:OsState):topRun treeTable aa w 11 (X 6) 2 (dM w d).abs ⟨doneF .next,Code.body b aB,(@Pos.mk 606 0 639 15),[topFrame (@Pos.mk 0 0 0 0)]⟩=some ⟨aW w.params,Array.mk [],(@Drawn.mk 0 0 0 0),1628,d⟩:=by
 rw [PySem.W.Fast.te14082659384304107361,PySem.W.Fast.te14364793385576792824,bO]
 kernel_rfl
theorem q8(w:World)(b:OsState):topRun treeTable aa w 11 (X 6) (12+(1+(5959+(2757+2)))) ⟨boot_heap w.params,Array.mk [],boot_drawn,boot_toks,b⟩ (topStub aa)=some ⟨aW w.params,Array.mk [],(@Drawn.mk 0 0 0 0),1628,b⟩:=by
 refine go_top (q1 w b) (piece_block (re w b) ?k)
 rw [n4]
 exact piece_app (oc _ w b) (piece_app (n1 _ w b) (piece_nil (ra _ w b)))
abbrev B(a b:String)(s:Stmt)(m:String)(n v:Nat):Params->Obj:=λP=>(Obj.mk (@Value.type "function") none (Data.func (cU (@Str.ofString a) (@Str.ofString b) s 3 [] K K K (@Value.str (@Str.ofString m) n) none (r v) K 0)) I)
abbrev oq:=B "_wall" "_wall" (J 0) "__main__" 164 20
abbrev ou:=B "__init__" "Lock.__init__" (F 4 0) "pactroom.kinds" 194 39
abbrev ot:=B "kind" "Lock.kind" (F 4 1) "pactroom.kinds" 194 46
abbrev ol:=B "beside" "Lock.beside" (F 4 2) "pactroom.kinds" 194 53
abbrev ok:=B "covers" "Lock.covers" (F 4 3) "pactroom.kinds" 194 60
abbrev oe:=B "told" "Lock.told" (F 4 4) "pactroom.kinds" 194 67
abbrev oo:=B "kind" "Read.kind" (F 5 0) "pactroom.kinds" 194 88
abbrev oF:=B "kind" "Mean.kind" (F 6 0) "pactroom.kinds" 194 107
abbrev oE:=B "kind" "Change.kind" (F 7 0) "pactroom.kinds" 194 126
abbrev qz:=B "lock_of" "lock_of" (J 8) "pactroom.kinds" 194 138
abbrev o7:=B "__init__" "NoText.__init__" (F 14 0) "pactroom.errors" 352 201
abbrev oz:=B "__init__" "Locks.__init__" (F 16 0) "pactroom.locks" 445 220
abbrev pu:=B "ask" "Locks.ask" (F 16 1) "pactroom.locks" 445 225
abbrev qN:=B "free" "Locks.free" (F 16 2) "pactroom.locks" 445 230
abbrev pB:=B "stands" "Locks.stands" (F 16 3) "pactroom.locks" 445 235
abbrev qF:=B "behind" "Locks.behind" (F 16 4) "pactroom.locks" 445 242
abbrev pe:=B "held" "Locks.held" (F 16 5) "pactroom.locks" 445 247
abbrev qT:=B "waiting" "Locks.waiting" (F 16 6) "pactroom.locks" 445 252
abbrev p2:=B "hinderer" "Locks.hinderer" (F 16 7) "pactroom.locks" 445 259
abbrev p9:=B "held_pairs" "Locks.held_pairs" (F 16 8) "pactroom.locks" 445 264
abbrev pJ:=B "waiting_pairs" "Locks.waiting_pairs" (F 16 9) "pactroom.locks" 445 269
abbrev qV:=B "waiting_place" "Locks.waiting_place" (F 16 10) "pactroom.locks" 445 276
abbrev o8:=B "is_whole" "is_whole" (J 26) "pactroom.things" 546 290
abbrev pH:=B "read_thing" "read_thing" (J 27) "pactroom.things" 546 295
abbrev oR:=B "is_sign" "is_sign" (J 28) "pactroom.things" 546 302
abbrev pk:=B "__init__" "Reader.__init__" (F 29 0) "pactroom.things" 546 316
abbrev pQ:=B "passes" "Reader.passes" (F 29 1) "pactroom.things" 546 323
abbrev qA:=B "read_any" "Reader.read_any" (F 29 2) "pactroom.things" 546 330
abbrev o0:=B "read_parts" "Reader.read_parts" (F 29 3) "pactroom.things" 546 337
abbrev qr:=B "read_below" "Reader.read_below" (F 29 4) "pactroom.things" 546 344
abbrev oO:=B "read_number" "Reader.read_number" (F 29 5) "pactroom.things" 546 351
abbrev qR:=B "read_signs" "Reader.read_signs" (F 29 6) "pactroom.things" 546 358
abbrev oN:=B "house" "Step.house" (F 33 0) "pactroom.steps" 668 380
abbrev p3:=B "lock" "Step.lock" (F 33 1) "pactroom.steps" 668 387
abbrev pz:=B "step_done" "Step.step_done" (F 33 2) "pactroom.steps" 668 394
abbrev qD:=B "back" "Step.back" (F 33 3) "pactroom.steps" 668 401
abbrev qb:=B "sure" "Step.sure" (F 33 4) "pactroom.steps" 668 408
abbrev qH:=B "spelled" "Step.spelled" (F 33 5) "pactroom.steps" 668 415
abbrev pO:=B "__init__" "CellStep.__init__" (F 34 0) "pactroom.steps" 668 436
abbrev pn:=B "house" "CellStep.house" (F 34 1) "pactroom.steps" 668 443
abbrev qE:=B "lock" "TakeStep.lock" (F 35 0) "pactroom.steps" 668 462
abbrev pc:=B "step_done" "TakeStep.step_done" (F 35 1) "pactroom.steps" 668 469
abbrev oH:=B "spelled" "TakeStep.spelled" (F 35 2) "pactroom.steps" 668 476
abbrev pP:=B "lock" "MeanStep.lock" (F 36 0) "pactroom.steps" 668 495
abbrev po:=B "step_done" "MeanStep.step_done" (F 36 1) "pactroom.steps" 668 502
abbrev pD:=B "spelled" "MeanStep.spelled" (F 36 2) "pactroom.steps" 668 509
abbrev qq:=B "__init__" "SumStep.__init__" (F 37 0) "pactroom.steps" 668 528
abbrev qt:=B "house" "SumStep.house" (F 37 1) "pactroom.steps" 668 535
abbrev px:=B "lock" "SumStep.lock" (F 37 2) "pactroom.steps" 668 542
abbrev pN:=B "step_done" "SumStep.step_done" (F 37 3) "pactroom.steps" 668 547
abbrev qj:=B "spelled" "SumStep.spelled" (F 37 4) "pactroom.steps" 668 554
abbrev o4:=B "lock" "GiveStep.lock" (F 38 0) "pactroom.steps" 668 573
abbrev pR:=B "step_done" "GiveStep.step_done" (F 38 1) "pactroom.steps" 668 580
abbrev oB:=B "sure" "GiveStep.sure" (F 38 2) "pactroom.steps" 668 587
abbrev oA:=B "spelled" "GiveStep.spelled" (F 38 3) "pactroom.steps" 668 594
abbrev o3:=B "__init__" "AddStep.__init__" (F 39 0) "pactroom.steps" 668 613
abbrev qk:=B "lock" "AddStep.lock" (F 39 1) "pactroom.steps" 668 620
abbrev oY:=B "step_done" "AddStep.step_done" (F 39 2) "pactroom.steps" 668 627
abbrev qo:=B "back" "AddStep.back" (F 39 3) "pactroom.steps" 668 634
abbrev oK:=B "spelled" "AddStep.spelled" (F 39 4) "pactroom.steps" 668 641
abbrev o2:=B "__init__" "PlusStep.__init__" (F 40 0) "pactroom.steps" 668 660
abbrev pU:=B "step_done" "PlusStep.step_done" (F 40 1) "pactroom.steps" 668 667
abbrev qP:=B "spelled" "PlusStep.spelled" (F 40 2) "pactroom.steps" 668 674
abbrev p8:=B "__init__" "NeedStep.__init__" (F 41 0) "pactroom.steps" 668 693
abbrev ps:=B "step_done" "NeedStep.step_done" (F 41 1) "pactroom.steps" 668 700
abbrev ow:=B "spelled" "NeedStep.spelled" (F 41 2) "pactroom.steps" 668 707
abbrev oT:=B "read_step" "read_step" (J 42) "pactroom.steps" 668 717
abbrev qu:=B "read_number" "read_number" (J 43) "pactroom.steps" 668 724
abbrev oJ:=B "made_step" "made_step" (J 44) "pactroom.steps" 668 731
abbrev pl:=B "made_sum" "made_sum" (J 45) "pactroom.steps" 668 738
abbrev py:=B "__init__" "Works.__init__" (F 47 0) "pactroom.works" 1145 752
abbrev pr:=B "take_up" "Works.take_up" (F 47 1) "pactroom.works" 1145 759
abbrev oP:=B "work" "Works.work" (F 47 2) "pactroom.works" 1145 766
abbrev qf:=B "do_step" "Works.do_step" (F 47 3) "pactroom.works" 1145 773
abbrev ox:=B "value_at" "Works.value_at" (F 47 4) "pactroom.works" 1145 780
abbrev oL:=B "send_did" "Works.send_did" (F 47 5) "pactroom.works" 1145 787
abbrev qw:=B "ready" "Works.ready" (F 47 6) "pactroom.works" 1145 792
abbrev p5:=B "ended" "Works.ended" (F 47 7) "pactroom.works" 1145 799
abbrev qc:=B "walk" "Works.walk" (F 47 8) "pactroom.works" 1145 806
abbrev p6:=B "undo" "Works.undo" (F 47 9) "pactroom.works" 1145 813
abbrev pd:=B "lock_stands" "Works.lock_stands" (F 47 10) "pactroom.works" 1145 820
abbrev ql:=B "turn" "Works.turn" (F 47 11) "pactroom.works" 1145 827
abbrev pa:=B "chase" "Works.chase" (F 47 12) "pactroom.works" 1145 834
abbrev pY:=B "held" "Works.held" (F 47 13) "pactroom.works" 1145 841
abbrev pp:=B "waiting" "Works.waiting" (F 47 14) "pactroom.works" 1145 848
abbrev oZ:=B "is_bound" "Works.is_bound" (F 47 15) "pactroom.works" 1145 853
abbrev pT:=B "__init__" "Sheet.__init__" (F 49 0) "pactroom.sheets" 1329 874
abbrev oI:=B "row" "Sheet.row" (F 49 1) "pactroom.sheets" 1329 881
abbrev o6:=B "send" "Sheet.send" (F 49 2) "pactroom.sheets" 1329 888
abbrev pq:=B "rows_told" "Sheet.rows_told" (F 49 3) "pactroom.sheets" 1329 895
abbrev qh:=B "letters_told" "Sheet.letters_told" (F 49 4) "pactroom.sheets" 1329 900
abbrev oQ:=B "__init__" "Stand.__init__" (F 51 0) "pactroom.stands" 1395 921
abbrev qQ:=B "keep" "Stand.keep" (F 51 1) "pactroom.stands" 1395 928
abbrev pj:=B "changes_of" "Stand.changes_of" (F 51 2) "pactroom.stands" 1395 935
abbrev oD:=B "cell_at" "Stand.cell_at" (F 51 3) "pactroom.stands" 1395 942
abbrev qy:=B "cells_told" "Stand.cells_told" (F 51 4) "pactroom.stands" 1395 949
abbrev p0:=B "outcome" "Stand.outcome" (F 51 5) "pactroom.stands" 1395 956
abbrev pW:=B "news" "Stand.news" (F 51 6) "pactroom.stands" 1395 963
abbrev pv:=B "bound" "Stand.bound" (F 51 7) "pactroom.stands" 1395 968
abbrev oS:=B "lost" "Stand.lost" (F 51 8) "pactroom.stands" 1395 975
abbrev p7:=B "begun" "Stand.begun" (F 51 9) "pactroom.stands" 1395 982
abbrev qK:=B "walked_at" "Stand.walked_at" (F 51 10) "pactroom.stands" 1395 989
abbrev qp:=B "is_over" "Stand.is_over" (F 51 11) "pactroom.stands" 1395 996
abbrev qY:=B "_law_cell_at" "_law_cell_at" (J 53) "law_pactroom_k53_walked_once" 1517 1010
abbrev q5:=B "_law_number" "_law_number" (J 54) "law_pactroom_k53_walked_once" 1517 1017
abbrev q2:=B "_law_step" "_law_step" (J 55) "law_pactroom_k53_walked_once" 1517 1024
abbrev q4:=B "_law_lock" "_law_lock" (J 56) "law_pactroom_k53_walked_once" 1517 1031
abbrev rd:=B "_law_beside" "_law_beside" (J 57) "law_pactroom_k53_walked_once" 1517 1038
abbrev rg:=B "_law_done" "_law_done" (J 58) "law_pactroom_k53_walked_once" 1517 1045
abbrev rc:=B "_law_ended" "_law_ended" (J 59) "law_pactroom_k53_walked_once" 1517 1052
abbrev q0:=B "_law_held" "_law_held" (J 60) "law_pactroom_k53_walked_once" 1517 1059
abbrev q7:=B "_law_walked" "_law_walked" (J 61) "law_pactroom_k53_walked_once" 1517 1066
abbrev q6:=B "law" "law" (J 62) "law_pactroom_k53_walked_once" 1517 1071
noncomputable def Kf:Params->Frag:=λP=>(nat_lit 2,boot_o_2 P)::(nat_lit 3,h6 P)::(nat_lit 15,h)::(nat_lit 17,eJ)::(nat_lit 18,h)::(nat_lit 20,eW)::(nat_lit 21,oq P)::(nat_lit 22,eR P)::(nat_lit 23,e0)::(nat_lit 24,eS)::(nat_lit 25,eH)::(nat_lit 26,eT)::(nat_lit 34,h)::(nat_lit 36,e6)::(nat_lit 37,h)::(nat_lit 39,eZ)::(nat_lit 40,ou P)::(nat_lit 41,h)::(nat_lit 43,eO)::(nat_lit 44,h)::(nat_lit 46,e4)::(nat_lit 47,ot P)::(nat_lit 48,h)::(nat_lit 50,e5)::(nat_lit 51,h)::(nat_lit 53,e3)::(nat_lit 54,ol P)::(nat_lit 55,h)::(nat_lit 57,eU)::(nat_lit 58,h)::(nat_lit 60,eI)::(nat_lit 61,ok P)::(nat_lit 62,h)::(nat_lit 64,eN)::(nat_lit 65,h)::(nat_lit 67,eM)::(nat_lit 68,oe P)::(nat_lit 69,e2)::(nat_lit 70,eK P)::(nat_lit 71,eV)::(nat_lit 72,eL)::(nat_lit 73,eQ)::(nat_lit 76,aU)::(nat_lit 83,h)::(nat_lit 85,eX)::(nat_lit 86,h)::(nat_lit 88,e1)::(nat_lit 89,oo P)::(nat_lit 90,h)::(nat_lit 91,eP P)::(nat_lit 92,eY)::(nat_lit 95,aU)::(nat_lit 102,h)::(nat_lit 104,hj)::(nat_lit 105,h)::(nat_lit 107,gO)::(nat_lit 108,oF P)::(nat_lit 109,h)::(nat_lit 110,gl P)::(nat_lit 111,g3)::(nat_lit 114,aU)::(nat_lit 121,h)::(nat_lit 123,fp)::(nat_lit 124,h)::(nat_lit 126,fR)::(nat_lit 127,oE P)::(nat_lit 128,h)::(nat_lit 129,g9 P)::(nat_lit 130,fg)::(nat_lit 133,h)::(nat_lit 135,ha)::(nat_lit 136,h)::(nat_lit 138,hi)::(nat_lit 139,qz P)::(nat_lit 140,gm)::(nat_lit 147,h)::(nat_lit 148,gC P)::(nat_lit 149,f3)::(nat_lit 150,gy)::(nat_lit 153,aE)::(nat_lit 160,h)::(nat_lit 161,f9 P)::(nat_lit 162,gI)::(nat_lit 165,aE)::(nat_lit 172,h)::(nat_lit 173,gD P)::(nat_lit 174,e8)::(nat_lit 177,aE)::(nat_lit 184,h)::(nat_lit 185,fx P)::(nat_lit 186,hg)::(nat_lit 189,aE)::(nat_lit 196,h)::(nat_lit 198,fT)::(nat_lit 199,h)::(nat_lit 201,g0)::(nat_lit 202,o7 P)::(nat_lit 203,he)::(nat_lit 204,fN P)::(nat_lit 205,gg)::(nat_lit 215,h)::(nat_lit 217,gM)::(nat_lit 218,h)::(nat_lit 220,g8)::(nat_lit 221,oz P)::(nat_lit 222,h)::(nat_lit 225,fe)::(nat_lit 226,pu P)::(nat_lit 227,h)::(nat_lit 230,fa)::(nat_lit 231,qN P)::(nat_lit 232,h)::(nat_lit 235,fb)::(nat_lit 236,pB P)::(nat_lit 237,h)::(nat_lit 239,gn)::(nat_lit 240,h)::(nat_lit 242,gB)::(nat_lit 243,qF P)::(nat_lit 244,h)::(nat_lit 247,fZ)::(nat_lit 248,pe P)::(nat_lit 249,h)::(nat_lit 252,hp)::(nat_lit 253,qT P)::(nat_lit 254,h)::(nat_lit 256,hk)::(nat_lit 257,h)::(nat_lit 259,fJ)::(nat_lit 260,p2 P)::(nat_lit 261,h)::(nat_lit 264,e9)::(nat_lit 265,p9 P)::(nat_lit 266,h)::(nat_lit 269,ga)::(nat_lit 270,pJ P)::(nat_lit 271,h)::(nat_lit 273,gz)::(nat_lit 274,h)::(nat_lit 276,fF)::(nat_lit 277,qV P)::(nat_lit 278,fY)::(nat_lit 279,ff P)::(nat_lit 280,gk)::(nat_lit 281,gc)::(nat_lit 282,gR)::(nat_lit 285,h)::(nat_lit 287,f0)::(nat_lit 288,h)::(nat_lit 290,gv)::(nat_lit 291,o8 P)::(nat_lit 292,h)::(nat_lit 295,hf)::(nat_lit 296,pH P)::(nat_lit 297,h)::(nat_lit 299,gp)::(nat_lit 300,h)::(nat_lit 302,f4)::(nat_lit 303,oR P)::(nat_lit 311,h)::(nat_lit 313,hd)::(nat_lit 314,h)::(nat_lit 316,fU)::(nat_lit 317,pk P)::(nat_lit 318,h)::(nat_lit 320,fL)::(nat_lit 321,h)::(nat_lit 323,fw)::(nat_lit 324,pQ P)::(nat_lit 325,h)::(nat_lit 327,gq)::(nat_lit 328,h)::(nat_lit 330,gW)::(nat_lit 331,qA P)::(nat_lit 332,h)::(nat_lit 334,gf)::(nat_lit 335,h)::(nat_lit 337,go)::(nat_lit 338,o0 P)::(nat_lit 339,h)::(nat_lit 341,gu)::(nat_lit 342,h)::(nat_lit 344,fC)::(nat_lit 345,qr P)::(nat_lit 346,h)::(nat_lit 348,fO)::(nat_lit 349,h)::(nat_lit 351,gx)::(nat_lit 352,oO P)::(nat_lit 353,h)::(nat_lit 355,g2)::(nat_lit 356,h)::(nat_lit 358,hl)::(nat_lit 359,qR P)::(nat_lit 360,gV)::(nat_lit 361,fS P)::(nat_lit 362,gX)::(nat_lit 363,fd)::(nat_lit 364,gd)::(nat_lit 367,gJ P)::(nat_lit 375,h)::(nat_lit 377,ho)::(nat_lit 378,h)::(nat_lit 380,fz)::(nat_lit 381,oN P)::(nat_lit 382,h)::(nat_lit 384,gE)::(nat_lit 385,h)::(nat_lit 387,hn)::(nat_lit 388,p3 P)::(nat_lit 389,h)::(nat_lit 391,gr)::(nat_lit 392,h)::(nat_lit 394,gb)::(nat_lit 395,pz P)::(nat_lit 396,h)::(nat_lit 398,g6)::(nat_lit 399,h)::(nat_lit 401,fv)::(nat_lit 402,qD P)::(nat_lit 403,h)::(nat_lit 405,g4)::(nat_lit 406,h)::(nat_lit 408,fE)::(nat_lit 409,qb P)::(nat_lit 410,h)::(nat_lit 412,fo)::(nat_lit 413,h)::(nat_lit 415,fB)::(nat_lit 416,qH P)::(nat_lit 417,h)::(nat_lit 418,e7 P)::(nat_lit 419,mi)::(nat_lit 420,fq)::(nat_lit 421,gj)::(nat_lit 424,aO)::(nat_lit 431,h)::(nat_lit 433,fK)::(nat_lit 434,h)::(nat_lit 436,fG)::(nat_lit 437,pO P)::(nat_lit 438,h)::(nat_lit 440,gN)::(nat_lit 441,h)::(nat_lit 443,gi)::(nat_lit 444,pn P)::(nat_lit 445,fs)::(nat_lit 446,f7 P)::(nat_lit 447,f5)::(nat_lit 450,aF)::(nat_lit 457,h)::(nat_lit 459,fj)::(nat_lit 460,h)::(nat_lit 462,fc)::(nat_lit 463,qE P)::(nat_lit 464,h)::(nat_lit 466,gs)::(nat_lit 467,h)::(nat_lit 469,hr)::(nat_lit 470,pc P)::(nat_lit 471,h)::(nat_lit 473,fV)::(nat_lit 474,h)::(nat_lit 476,fn)::(nat_lit 477,oH P)::(nat_lit 478,h)::(nat_lit 479,gh P)::(nat_lit 480,f6)::(nat_lit 483,aF)::(nat_lit 490,h)::(nat_lit 492,gF)::(nat_lit 493,h)::(nat_lit 495,hm)::(nat_lit 496,pP P)::(nat_lit 497,h)::(nat_lit 499,ft)::(nat_lit 500,h)::(nat_lit 502,f1)::(nat_lit 503,po P)::(nat_lit 504,h)::(nat_lit 506,fD)::(nat_lit 507,h)::(nat_lit 509,fA)::(nat_lit 510,pD P)::(nat_lit 511,h)::(nat_lit 512,fP P)::(nat_lit 513,f8)::(nat_lit 516,aO)::(nat_lit 523,h)::(nat_lit 525,fi)::(nat_lit 526,h)::(nat_lit 528,hb)::(nat_lit 529,qq P)::(nat_lit 530,h)::(nat_lit 532,g7)::(nat_lit 533,h)::(nat_lit 535,gA)::(nat_lit 536,qt P)::(nat_lit 537,h)::(nat_lit 539,fu)::(nat_lit 540,h)::(nat_lit 542,hh)::(nat_lit 543,px P)::(nat_lit 544,h)::(nat_lit 547,fH)::(nat_lit 548,pN P)::(nat_lit 549,h)::(nat_lit 551,fM)::(nat_lit 552,h)::(nat_lit 554,hq)::(nat_lit 555,qj P)::(nat_lit 556,gP)::(nat_lit 557,fh P)::(nat_lit 558,gG)::(nat_lit 561,aF)::(nat_lit 568,h)::(nat_lit 570,gQ)::(nat_lit 571,h)::(nat_lit 573,g1)::(nat_lit 574,o4 P)::(nat_lit 575,h)::(nat_lit 577,fQ)::(nat_lit 578,h)::(nat_lit 580,gH)::(nat_lit 581,pR P)::(nat_lit 582,h)::(nat_lit 584,gT)::(nat_lit 585,h)::(nat_lit 587,fW)::(nat_lit 588,oB P)::(nat_lit 589,h)::(nat_lit 591,fl)::(nat_lit 592,h)::(nat_lit 594,fI)::(nat_lit 595,oA P)::(nat_lit 596,h)::(nat_lit 597,fm P)::(nat_lit 598,gL)::(nat_lit 601,aF)::(nat_lit 608,h)::(nat_lit 610,f2)::(nat_lit 611,h)::(nat_lit 613,gK)::(nat_lit 614,o3 P)::(nat_lit 615,h)::(nat_lit 617,hc)::(nat_lit 618,h)::(nat_lit 620,fk)::(nat_lit 621,qk P)::(nat_lit 622,h)::(nat_lit 624,gw)::(nat_lit 625,h)::(nat_lit 627,fy)::(nat_lit 628,oY P)::(nat_lit 629,h)::(nat_lit 631,g5)::(nat_lit 632,h)::(nat_lit 634,fr)::(nat_lit 635,qo P)::(nat_lit 636,h)::(nat_lit 638,fX)::(nat_lit 639,h)::(nat_lit 641,gZ)::(nat_lit 642,oK P)::(nat_lit 643,gS)::(nat_lit 644,gY P)::(nat_lit 645,gU)::(nat_lit 648,aO)::(nat_lit 655,h)::(nat_lit 657,k0)::(nat_lit 658,h)::(nat_lit 660,jR)::(nat_lit 661,o2 P)::(nat_lit 662,h)::(nat_lit 664,jE)::(nat_lit 665,h)::(nat_lit 667,l6)::(nat_lit 668,pU P)::(nat_lit 669,h)::(nat_lit 671,jB)::(nat_lit 672,h)::(nat_lit 674,m2)::(nat_lit 675,qP P)::(nat_lit 676,kn)::(nat_lit 677,ku P)::(nat_lit 678,j1)::(nat_lit 681,aO)::(nat_lit 688,h)::(nat_lit 690,l1)::(nat_lit 691,h)::(nat_lit 693,kd)::(nat_lit 694,p8 P)::(nat_lit 695,h)::(nat_lit 697,lV)::(nat_lit 698,h)::(nat_lit 700,nf)::(nat_lit 701,ps P)::(nat_lit 702,h)::(nat_lit 704,mf)::(nat_lit 705,h)::(nat_lit 707,kH)::(nat_lit 708,ow P)::(nat_lit 709,jX)::(nat_lit 710,lC P)::(nat_lit 711,kf)::(nat_lit 714,h)::(nat_lit 717,mZ)::(nat_lit 718,oT P)::(nat_lit 719,h)::(nat_lit 721,i4)::(nat_lit 722,h)::(nat_lit 724,ko)::(nat_lit 725,qu P)::(nat_lit 726,h)::(nat_lit 728,kF)::(nat_lit 729,h)::(nat_lit 731,kN)::(nat_lit 732,oJ P)::(nat_lit 733,h)::(nat_lit 735,mE)::(nat_lit 736,h)::(nat_lit 738,ld)::(nat_lit 739,pl P)::(nat_lit 747,h)::(nat_lit 749,i8)::(nat_lit 750,h)::(nat_lit 752,ki)::(nat_lit 753,py P)::(nat_lit 754,h)::(nat_lit 756,jm)::(nat_lit 757,h)::(nat_lit 759,k7)::(nat_lit 760,pr P)::(nat_lit 761,h)::(nat_lit 763,mb)::(nat_lit 764,h)::(nat_lit 766,my)::(nat_lit 767,oP P)::(nat_lit 768,h)::(nat_lit 770,iT)::(nat_lit 771,j8)::(nat_lit 773,nh)::(nat_lit 774,qf P)::(nat_lit 775,h)::(nat_lit 777,nj)::(nat_lit 778,h)::(nat_lit 780,iS)::(nat_lit 781,ox P)::(nat_lit 782,h)::(nat_lit 784,l4)::(nat_lit 785,h)::(nat_lit 787,lQ)::(nat_lit 788,oL P)::(nat_lit 789,h)::(nat_lit 792,m9)::(nat_lit 793,qw P)::(nat_lit 794,h)::(nat_lit 796,nw)::(nat_lit 797,h)::(nat_lit 799,lh)::(nat_lit 800,p5 P)::(nat_lit 801,h)::(nat_lit 803,mj)::(nat_lit 804,mo)::(nat_lit 806,kI)::(nat_lit 807,qc P)::(nat_lit 808,h)::(nat_lit 810,mr)::(nat_lit 811,h)::(nat_lit 813,lD)::(nat_lit 814,p6 P)::(nat_lit 815,h)::(nat_lit 817,m6)::(nat_lit 818,h)::(nat_lit 820,jr)::(nat_lit 821,pd P)::(nat_lit 822,h)::(nat_lit 824,l2)::(nat_lit 825,h)::(nat_lit 827,kR)::(nat_lit 828,ql P)::(nat_lit 829,h)::(nat_lit 831,lI)::(nat_lit 832,h)::(nat_lit 834,jF)::(nat_lit 835,pa P)::(nat_lit 836,h)::(nat_lit 838,kP)::(nat_lit 839,h)::(nat_lit 841,ma)::(nat_lit 842,pY P)::(nat_lit 843,h)::(nat_lit 845,jh)::(nat_lit 846,h)::(nat_lit 848,j6)::(nat_lit 849,pp P)::(nat_lit 850,h)::(nat_lit 853,kJ)::(nat_lit 854,oZ P)::(nat_lit 855,lW)::(nat_lit 856,mP P)::(nat_lit 857,kT)::(nat_lit 858,k8)::(nat_lit 859,j2)::(nat_lit 869,h)::(nat_lit 871,lU)::(nat_lit 872,h)::(nat_lit 874,li)::(nat_lit 875,pT P)::(nat_lit 876,h)::(nat_lit 878,mV)::(nat_lit 879,h)::(nat_lit 881,nl)::(nat_lit 882,oI P)::(nat_lit 883,h)::(nat_lit 885,l3)::(nat_lit 886,h)::(nat_lit 888,lN)::(nat_lit 889,o6 P)::(nat_lit 890,h)::(nat_lit 892,kQ)::(nat_lit 893,h)::(nat_lit 895,l0)::(nat_lit 896,pq P)::(nat_lit 897,h)::(nat_lit 900,mw)::(nat_lit 901,qh P)::(nat_lit 902,lg)::(nat_lit 903,kO P)::(nat_lit 904,me)::(nat_lit 905,nC)::(nat_lit 906,k6)::(nat_lit 916,h)::(nat_lit 918,kg)::(nat_lit 919,h)::(nat_lit 921,jK)::(nat_lit 922,oQ P)::(nat_lit 923,h)::(nat_lit 925,kz)::(nat_lit 926,h)::(nat_lit 928,kp)::(nat_lit 929,qQ P)::(nat_lit 930,h)::(nat_lit 932,kj)::(nat_lit 933,h)::(nat_lit 935,kr)::(nat_lit 936,pj P)::(nat_lit 937,h)::(nat_lit 939,mF)::(nat_lit 940,h)::(nat_lit 942,jv)::(nat_lit 943,oD P)::(nat_lit 944,h)::(nat_lit 946,jY)::(nat_lit 947,h)::(nat_lit 949,jc)::(nat_lit 950,qy P)::(nat_lit 951,h)::(nat_lit 953,mN)::(nat_lit 954,h)::(nat_lit 956,mg)::(nat_lit 957,p0 P)::(nat_lit 958,h)::(nat_lit 960,kL)::(nat_lit 961,h)::(nat_lit 963,iL)::(nat_lit 964,pW P)::(nat_lit 965,h)::(nat_lit 968,m7)::(nat_lit 969,pv P)::(nat_lit 970,h)::(nat_lit 972,k3)::(nat_lit 973,h)::(nat_lit 975,kD)::(nat_lit 976,oS P)::(nat_lit 977,h)::(nat_lit 979,kW)::(nat_lit 980,h)::(nat_lit 982,mI)::(nat_lit 983,p7 P)::(nat_lit 984,h)::(nat_lit 986,mW)::(nat_lit 987,h)::(nat_lit 989,je)::(nat_lit 990,qK P)::(nat_lit 991,h)::(nat_lit 993,jg)::(nat_lit 994,h)::(nat_lit 996,ls)::(nat_lit 997,qp P)::(nat_lit 998,kE)::(nat_lit 999,l7 P)::(nat_lit 1000,nN)::(nat_lit 1001,nO)::(nat_lit 1002,nD)::(nat_lit 1005,h)::(nat_lit 1007,nR)::(nat_lit 1008,h)::(nat_lit 1010,nH)::(nat_lit 1011,qY P)::(nat_lit 1012,h)::(nat_lit 1014,nG)::(nat_lit 1015,h)::(nat_lit 1017,nT)::(nat_lit 1018,q5 P)::(nat_lit 1019,h)::(nat_lit 1021,nI)::(nat_lit 1022,h)::(nat_lit 1024,nX)::(nat_lit 1025,q2 P)::(nat_lit 1026,h)::(nat_lit 1028,nE)::(nat_lit 1029,h)::(nat_lit 1031,nP)::(nat_lit 1032,q4 P)::(nat_lit 1033,h)::(nat_lit 1035,nW)::(nat_lit 1036,h)::(nat_lit 1038,nK)::(nat_lit 1039,rd P)::(nat_lit 1040,h)::(nat_lit 1042,nY)::(nat_lit 1043,h)::(nat_lit 1045,nU)::(nat_lit 1046,rg P)::(nat_lit 1047,h)::(nat_lit 1049,nF)::(nat_lit 1050,h)::(nat_lit 1052,nS)::(nat_lit 1053,rc P)::(nat_lit 1054,h)::(nat_lit 1056,nM)::(nat_lit 1057,h)::(nat_lit 1059,nQ)::(nat_lit 1060,q0 P)::(nat_lit 1061,h)::(nat_lit 1063,nL)::(nat_lit 1064,h)::(nat_lit 1066,nJ)::(nat_lit 1067,q7 P)::(nat_lit 1068,h)::(nat_lit 1071,nV)::(nat_lit 1072,q6 P)::[]
noncomputable def n2:Nat->Nat->Nat->List Addr:=fun k=>Nat.rec (fun _ _=>[]) (fun _ f n a=>bif n.beq 0 then [] else (a+n%16)::f (n/16) (a+n%16)) k
noncomputable def Ka:List Addr:=n2 9999 0x13112121121211212112121121211212112121121211212311111121211212112121121211311212112121121211212112121121211212a111111311212112121121211212a1111113112121121211212112121121211212112121121211311212112121121211212112121121281212112121121211331111212112121121273111121211212112127311112121121211212112121121273111121211212112121121273111121211311212112121121273111121211212112127311112121121211212731111212112127311111121211212112121121211212112128311111121211212112121121211212112121121281212113112123111111212113113112121131131121211311311311212a1111212731173117311731117112123111121273111121273111121273111111212112121121211212112128111111212c12 0
theorem ke(P:Params):Ka=(Kf P).map (·.1):=by kernel_rfl
noncomputable abbrev cG:Hook:=kmHook Kf Ka ke [802,769]
noncomputable abbrev nZ:RowW:=PySem.Challenge.rw_pactroom_k53_walked_once.row.toRowW
noncomputable abbrev lo:List Str:=[Str.ofString "RANKS",Str.ofString "SHAPES"]
noncomputable abbrev lvv:List (Str×WData):=[]
noncomputable def qv:Program:={aa with main:={aa.main with body:=[J 0,J 2,J 3,J 4,J 5,J 6,J 7,J 8,J 10,J 11,J 12,J 13,J 14,J 16,J 18,J 19,J 20,J 21,J 22,J 23,J 24,J 25,J 26,J 27,J 28,J 29,J 31,J 32,J 33,J 34,J 35,J 36,J 37,J 38,J 39,J 40,J 41,J 42,J 43,J 44,J 45,J 47,J 49,J 51,J 53,J 54,J 55,J 56,J 57,J 58,J 59,J 60,J 61,J 62]}}
noncomputable abbrev Xt:Shared->Bool:=λs=>xlAt qv lvv s&&recOk (RowW.records nZ) s
theorem rC(w:World):((boot_heap w.params).isNs mainGlobals&&(G []:Array GenState).size==0,(boot_heap w.params).objs.size,(boot_heap w.params).nsMap mainGlobals "__annotations__")=(true,11,(X 6)):=by kernel_rfl
theorem qZ(w:World)(os:OsState):(staticsOk (importedModules aa.main.body) (boot_heap w.params) (aW w.params)&&namesBound aa (aW w.params)&&gensDone ⟨aW w.params,Array.mk [],(@Drawn.mk 0 0 0 0),1628,os⟩&&laidKept (boot_heap w.params) (aW w.params))=true:=by kernel_rfl
theorem q3(w:World)(os:OsState):openSeen qv lo (importedModules aa.main.body) Xt true ⟨aW w.params,Array.mk [],(@Drawn.mk 0 0 0 0),1628,os⟩=openGood qv lo:=by kernel_rfl
theorem rb(w:World)(os:OsState):Hook.obs cG ⟨aW w.params,Array.mk [],(@Drawn.mk 0 0 0 0),1628,os⟩=Hook.val cG w:=by kernel_rfl
theorem left:LeftO aa qv lo Xt (Hook.obs cG) (Hook.val cG) 17554:=LeftO.of_pieces (boot_open (by kernel_rfl) (by kernel_rfl) (λs=>by kernel_rfl)) rC q8 (by decide) λw=>funext λos=>looks_pair (qZ w os) (looks_pair (q3 w os) (rb w os))
end
end Q
end
namespace L2
open PySem PySem.Spec PyProof.Rows
section
variable {X:Cx}
theorem kK:cV X (.builtin "isinstance") (λxs H Q=>∃x t n b,xs=[x,.ty n]/\TyOf X.K H x t/\PySem.W.kitOne X.K t (.type n)=some b/\Q (.bl b) H):=by
 intro d s σ H xs l Q I r h
 obtain ⟨x,t,n,b,rfl,ty,e,q⟩:=h
 obtain ⟨u,f,rfl,g,i⟩:=sT r
 cases (show f=Value.type n from i)
 exact vc I g ty e λj=>⟨.bl b,H,I.tok _,ϱ,q⟩
theorem mI:MtR X "str.startswith" (λx vs H Q=>∃z y i,x=.str z/\vs=[.str y,.int i]/\Q (.bl (Txt.startswith3 z y i)) H):=by
 intro b s σ H x j v l Q I d r h
 obtain ⟨z,y,i,rfl,rfl,q⟩:=h
 obtain ⟨t,rfl⟩:=d
 obtain ⟨u,e,rfl,⟨f,rfl⟩,⟨g,rfl⟩⟩:=sT r
 exact SC.startswith3 ⟨.bl _,H,I,ϱ,q⟩
theorem og:MtR X "str.startswith" (λx vs H Q=>∃z y,x=.str z/\vs=[.str y]/\Q (.bl (Txt.startswith z y)) H):=by
 intro b s σ H x f v g Q I d r h
 obtain ⟨z,y,rfl,rfl,q⟩:=h
 obtain ⟨t,rfl⟩:=d
 obtain ⟨u,rfl,⟨e,rfl⟩⟩:=dm r
 exact SC.startswith ⟨.bl _,H,I,ϱ,q⟩
theorem ss:MtR X "str.isdigit" (λx vs H Q=>∃z,x=.str z/\vs=[]/\Q (.bl (Txt.isdigit z)) H):=by
 intro b s σ H x e v f Q I d r h
 obtain ⟨z,rfl,rfl,q⟩:=h
 obtain ⟨t,rfl⟩:=d
 cases r
 exact SC.isdigit ⟨.bl _,H,I,ϱ,q⟩
theorem bW:cV X (.type "int") (λxs H Q=>∃z n,xs=[.str z]/\PySem.intText? z=some n/\z.length<=640/\Q (.int n) H):=by
 intro b s σ H xs f Q I r h
 obtain ⟨z,n,rfl,e,d,q⟩:=h
 obtain ⟨u,rfl,⟨t,rfl⟩⟩:=dm r
 exact PySem.W.KIN.call_text e d ⟨.int n,H,I.tok _,⟨_,ϱ⟩,q⟩
theorem A1:SlR X (λx lo hi H Q=>∃z,x=.str z/\z.length<=sizeLine/\Q (.str (Txt.slice z lo hi)) H):=by
 intro f s σ H x v m o lo hi r Q I g d i j h
 obtain ⟨z,rfl,b,q⟩:=h
 obtain ⟨t,rfl⟩:=g
 refine ⟨"str",_,F.slot_str_getitem.lookup,typeIs_str _ _ _,?_⟩
 cases i<;>cases j
 ·exact wpAny_getItem_str_slice (l:=none) (u:=none) (st:=none) d rfl (post_val_or_str ⟨Λ (Txt.slice_le z _ _) b,λe k=>⟨.str _,H,I.tok _,⟨_,ϱ⟩,q⟩⟩)
 ·exact wpAny_getItem_str_slice (l:=none) (u:=some (_,_)) (st:=none) d rfl (post_val_or_str ⟨Λ (Txt.slice_le z _ _) b,λe k=>⟨.str _,H,I.tok _,⟨_,ϱ⟩,q⟩⟩)
 ·exact wpAny_getItem_str_slice (l:=some (_,_)) (u:=none) (st:=none) d rfl (post_val_or_str ⟨Λ (Txt.slice_le z _ _) b,λe k=>⟨.str _,H,I.tok _,⟨_,ϱ⟩,q⟩⟩)
 ·exact wpAny_getItem_str_slice (l:=some (_,_)) (u:=some (_,_)) (st:=none) d rfl (post_val_or_str ⟨Λ (Txt.slice_le z _ _) b,λe k=>⟨.str _,H,I.tok _,⟨_,ϱ⟩,q⟩⟩)
theorem kL(U:X.calm=true):cV X (.builtin "all") (λxs H Q=>∃(p:Addr) (bs:List Bool),xs=[.ref p]/\SqL X.K H p (bs.map V.bl)/\Q (.bl (bs.all id)) H):=by
 intro w s σ H xs us Q I r h
 obtain ⟨p,bs,rfl,x,q⟩:=h
 obtain ⟨u,rfl,y⟩:=dm r
 cases (show u=Value.ref p from y)
 obtain ⟨b,m,z,W⟩:=I.list x
 have j:=z.isList
 have l:p<s.heap.objs.size:=by obtain ⟨_,e,_⟩:=j;exact η e
 have D:X.A.handled=none:=I.ok.hd U
 have d:bs.length=b.length:=by have:=m.length;rw [ν] at this;exact this
 refine call_all_walk (wpAny_pyIter_list j ?_)
 refine ⟨s.heap.objs.size,[s.heap.objs.size,p],[s.heap.objs.size],b.toArray.size,_,_,λi=>(bs[i]?).getD true,ϱ,Walks.list (A:=X.A.in1) D _ p (Φ l) b.toArray,
  ⟨⟨_,ψ _ rfl,ϱ,ϱ⟩,j.push _⟩,λi v G J E' L O=>?_,λh' tk P=>?_⟩
 ·have f:b[i]?=some v:=by simpa using L
  have Z:i<b.length:=(List.getElem?_eq_some_iff.mp f).1
  have F:(bs.map V.bl)[i]?=some (V.bl (bs[i]'(ω))):=by rw [List.getElem?_map,ξ ω];rfl
  obtain ⟨Y,o,C⟩:=m.get F
  rw [f] at o
  cases o
  cases (show v=Value.bool _ from C)
  have g:J ((bs[i]?).getD true) G:=O
  rw [ξ ω] at g
  exact wpAny_truthy_bool g
 ·have e:((List.range b.toArray.size).all λi=>(bs[i]?).getD true)=bs.all id:=by
   rw [List.size_toArray,← d];exact LSm.range_all bs
  rw [e]
  exact ⟨.bl _,H,I.kept (LSm.kept_iter P),ϱ,q⟩
end
def dR(env:Env):List (Str×NameKind)->List (Str×Addr)->List (Str×Addr)
 | [],cs=>cs
 | (n,k)::r,cs=>dR env r (if k==.free then match env.cells.lookup n with | some a=>(n,a)::cs | none=>cs else cs)
theorem ly{scope:Scope}{env:Env}(h:∀y∈scope.names,y.2=.free->∃c,env.cells.lookup y.1=some c):closureFor scope env=pure (dR env scope.names []):=by
 have d:∀(l:List (Str×NameKind)) (b:List (Str×Addr)),(∀y∈l,y.2=.free->∃c,env.cells.lookup y.1=some c) ->
   (forIn l b (λ(x:Str×NameKind) (r:List (Str×Addr))=>(if (x.2==NameKind.free)=true then (do let a ← cellOf env x.1;pure (ForInStep.yield ((x.1,a)::r))) else pure (ForInStep.yield r):Sem (ForInStep (List (Str×Addr))))))=(pure (dR env l b):Sem _):=by
  intro l
  induction l with
  | nil=>intro b _;rfl
  | cons y r ih =>
   intro b j
   obtain ⟨n,k⟩:=y
   have i:∀z∈r,z.2=.free->∃c,env.cells.lookup z.1=some c:=λz m=>j z (Θ _ m)
   rw [List.forIn_cons]
   by_cases hk:(k==NameKind.free)=true
   ·obtain ⟨c,g⟩:=j (n,k) List.mem_cons_self (by simpa using hk)
    have e:cellOf env n=pure c:=by unfold cellOf;rw [g]
    simp only [hk,if_true,e,pure_bind,dR,g]
    exact ih _ i
   ·have f:(k==NameKind.free)=false:=by simpa using hk
    simp only [f,Bool.false_eq_true,if_false,pure_bind,dR]
    exact ih _ i
 have e:closureFor scope env=(forIn scope.names ([]:List (Str×Addr)) (λ(x:Str×NameKind) (r:List (Str×Addr))=>(if (x.2==NameKind.free)=true then (do let a ← cellOf env x.1;pure (ForInStep.yield ((x.1,a)::r))) else pure (ForInStep.yield r):Sem (ForInStep (List (Str×Addr))))) >>= λb=>pure b):=by
  unfold closureFor
  rfl
 rw [e,d scope.names [] h]
 all_goals rfl
theorem kh{env:Env}:∀(l:List (Str×NameKind)) (cs:List (Str×Addr)),(∀p∈cs,env.cells.lookup p.1=some p.2)->∀p∈dR env l cs,env.cells.lookup p.1=some p.2
 | [],cs,h,p,hp=>h p hp
 | (n,k)::r,cs,h,p,hp=>by
  unfold dR at hp
  refine kh r _ ?_ p hp
  split
  ·split
   ·rename_i a ea
    intro q hq
    rcases ϕ.mp hq with e | hq
    ·rw [e];exact ea
    ·exact h q hq
   ·exact h
  ·exact h
theorem kJ{env:Env}:∀(l:List (Str×NameKind)) (cs:List (Str×Addr)) {y:Str},(∃p∈cs,p.1=y)->∃p∈dR env l cs,p.1=y
 | [],cs,y,h=>h
 | (n,k)::r,cs,y,⟨p,hp,e⟩=>by
  unfold dR
  refine kJ r _ ?_
  split
  ·split
   ·exact ⟨p,Θ _ hp,e⟩
   ·exact ⟨p,hp,e⟩
  ·exact ⟨p,hp,e⟩
theorem oK{env:Env}:∀(l:List (Str×NameKind)) (cs:List (Str×Addr)) {y:Str} {c:Addr},(y,NameKind.free)∈l->env.cells.lookup y=some c->∃p∈dR env l cs,p.1=y
 | (n,k)::r,cs,y,c,hm,hc=>by
  unfold dR
  rcases ϕ.mp hm with e | hm
  ·cases e
   refine kJ r _ ?_
   rw [if_pos (by rfl),hc]
   exact ⟨_,Ω,ϱ⟩
  ·exact oK r _ hm hc
theorem iI{α:Type}:∀{l:List (Str×α)} {p:Str×α},p∈l->∃c,l.lookup p.1=some c
 | q::l,p,h=>by
  obtain ⟨n,a⟩:=q
  rw [List.lookup_cons]
  split
  ·exact ⟨_,ϱ⟩
  ·rename_i hne
   rcases ϕ.mp h with e | h
   ·subst e;simp at hne
   ·exact iI h
theorem ju{env:Env}{l:List (Str×NameKind)}{y:Str}{c:Addr}(g:(y,NameKind.free)∈l)(d:env.cells.lookup y=some c):(dR env l []).lookup y=some c:=by
 obtain ⟨p,f,e⟩:=oK l [] g d
 obtain ⟨h,b⟩:=iI f
 rw [e] at b
 have q:=kh l [] (λ_ z=>nomatch z) _ (PySem.mem_of_lookup b)
 rw [d] at q
 rw [b]
 exact q.symm
theorem c8{env:Env}{l:List (Str×NameKind)}{y:Str}{c:Addr}(h:(dR env l []).lookup y=some c):env.cells.lookup y=some c :=
 kh l [] (λ_ z=>nomatch z) _ (PySem.mem_of_lookup h)
theorem gl{env:Env}:∀{names:List (Str×NameKind)} {x:Str} {k:NameKind},(names.map λ(n,k)=>if (k==NameKind.free&&env.scope.kind==.function&&env.kindOf n==some .cell) then (n,NameKind.cell) else (n,k)).lookup x=some k ->
  ∃k',names.lookup x=some k'/\(k'=k\/k'=.free)
 | [],_,_,h=>by simp at h
 | (n,k0)::r,x,k,h=>by
  have ih:=@gl env r x k
  have h:List.lookup x ((if (k0==NameKind.free&&env.scope.kind==.function&&env.kindOf n==some .cell)=true then (n,NameKind.cell) else (n,k0))::_)=some k:=h
  cases hx:x==n with
  | true =>
   refine ⟨k0,by simp only [List.lookup_cons,hx],?_⟩
   by_cases hc:(k0==NameKind.free&&env.scope.kind==.function&&env.kindOf n==some .cell)=true
   ·refine .inr ?_
    simp only [Bool.and_eq_true] at hc
    exact beq_iff_eq.mp hc.1.1
   ·rw [if_neg hc] at h
    simp only [List.lookup_cons,hx] at h
    exact .inl (Δ h)
  | false =>
   have h2:List.lookup x (r.map λ(n,k)=>if (k==NameKind.free&&env.scope.kind==.function&&env.kindOf n==some .cell) then (n,NameKind.cell) else (n,k))=some k:=by
    by_cases hc:(k0==NameKind.free&&env.scope.kind==.function&&env.kindOf n==some .cell)=true
    ·rw [if_pos hc] at h;simp only [List.lookup_cons,hx] at h;exact h
    ·rw [if_neg hc] at h;simp only [List.lookup_cons,hx] at h;exact h
   obtain ⟨k',b,d⟩:=ih h2
   exact ⟨k',by simp only [List.lookup_cons,hx];exact b,d⟩
theorem gJ{env:Env}:∀{names:List (Str×NameKind)} {x:Str},names.lookup x=some .free ->
  (names.map λ(n,k)=>if (k==NameKind.free&&env.scope.kind==.function&&env.kindOf n==some .cell) then (n,NameKind.cell) else (n,k)).lookup x=some .cell \/
  (names.map λ(n,k)=>if (k==NameKind.free&&env.scope.kind==.function&&env.kindOf n==some .cell) then (n,NameKind.cell) else (n,k)).lookup x=some .free
 | [],_,h=>by simp at h
 | (n,k0)::r,x,h=>by
  have ih:=@gJ env r x
  show List.lookup x ((if (k0==NameKind.free&&env.scope.kind==.function&&env.kindOf n==some .cell)=true then (n,NameKind.cell) else (n,k0))::_)=some .cell\/List.lookup x ((if (k0==NameKind.free&&env.scope.kind==.function&&env.kindOf n==some .cell)=true then (n,NameKind.cell) else (n,k0))::_)=some .free
  cases hx:x==n with
  | true =>
   simp only [List.lookup_cons,hx] at h
   by_cases hc:(k0==NameKind.free&&env.scope.kind==.function&&env.kindOf n==some .cell)=true
   ·rw [if_pos hc];simp only [List.lookup_cons,hx];simp
   ·rw [if_neg hc];simp only [List.lookup_cons,hx];exact .inr (by rw [Option.some.inj h])
  | false =>
   simp only [List.lookup_cons,hx] at h
   by_cases hc:(k0==NameKind.free&&env.scope.kind==.function&&env.kindOf n==some .cell)=true
   ·rw [if_pos hc];simp only [List.lookup_cons,hx];exact ih h
   ·rw [if_neg hc];simp only [List.lookup_cons,hx];exact ih h
def Its(z:Str):It:=⟨λi _=>i<z.length,λi H x H'=>H'=H/\∃c,z.cps.toList[i]?=some c/\x=.str ⟨#[c]⟩,λi _=>z.length<=i⟩
structure StrIt(P:Program)(w:World)(it:Addr)(ty:String)(z:Str)(t:Tok):Prop where
 W:∀A':Around,A'.handled=none->Walks P w A' it [it] [it] z.cps.size (SignAt z) (λi h=>h.IsStrIter it ty z t i)
 en:∀(A:Around) (i:Nat) (s:Shared) (Q:Option Value->Shared->Prop) (E:Value->Shared->Prop),A.handled=none->s.heap.IsStrIter it ty z t i->z.cps[i]?=none ->
  (∀h',Heap.ExtBut it s.heap h'->Q none {s with heap:=h'})->wpAny (model P w) A (pyNext (.ref it)) Q E s
 me:∀(A:Around) (i:Nat) (s:Shared) (Q:Value->Shared->Prop) (E:Value->Shared->Prop),s.heap.IsStrIter it ty z t i->Q (.ref it) s->wpAny (model P w) A (pyIter (.ref it)) Q E s
 ne:["enumerate","zip","dict_itemiterator","dict_reverseitemiterator","odict_iterator","itertools.zip_longest","itertools.pairwise"].contains ty=false
theorem StrIt.ascii{P:Program}{w:World}(it:Addr)(z:Str)(t:Tok):StrIt P w it "str_ascii_iterator" z t :=
 ⟨λ_ hA=>Walks.strAscii hA it z t,λ_ _ _ _ _ hA st hx hQ=>wpAny_pyNext_ascii_end hA st hx hQ,λ_ _ _ _ _ st h=>wpAny_pyIter_striter_ascii st h,ζ⟩
theorem StrIt.wide{P:Program}{w:World}(it:Addr)(z:Str)(t:Tok):StrIt P w it "str_iterator" z t :=
 ⟨λ_ hA=>Walks.strWide hA it z t,λ_ _ _ _ _ hA st hx hQ=>wpAny_pyNext_wide_end hA st hx hQ,λ_ _ _ _ _ st h=>wpAny_pyIter_striter_wide st h,ζ⟩
theorem vK{P:Program}{w:World}{K:Frag}{tg:Expr}{z:Str}{t:Tok}{it:Addr}{U:String}(S:StrIt P w it U z t) :
  vq P w K tg (Its z) [it] it (λi h=>h.IsStrIter it U z t i) where
 mem:=by simp
 obj:=λi h st b hb=>by
  have e:b=it:=by simpa using hb
  subst e
  obtain ⟨o,e,c,d⟩:=st
  exact ⟨o,e,λv q=>by rw [d] at q;cases q⟩
 keep:=λi h h' st k=>by
  obtain ⟨o,e,r⟩:=st
  exact ⟨o,k it (by simp) o e,r⟩
 item:=by
  intro X D F G J i f s σ H E I hf st L
  subst D F G
  obtain ⟨j,l,Y,m,x,y⟩:=hf it (by simp)
  refine (S.W X.A (I.ok.hd J)).item i s _ _ L st λv h' O hv g kk=>?_
  obtain ⟨c,u,C,rfl⟩:=hv
  have I1:Inv X f σ H {s with heap:=h',toks:=O}:=I.turned (λb o hb e=>kk b o (by simpa using hb) e) j l m x y
  obtain ⟨o,e,Z,d1⟩:=id g
  exact ⟨_,ϱ,qQ (s:={s with heap:=h',toks:=O}) e Z d1 S.ne ⟨.str ⟨#[c]⟩,H,I1,⟨u,ϱ⟩,⟨ϱ,c,by rw [Array.getElem?_toList];exact C,ϱ⟩,g,λb hb=>(hf b hb).1⟩⟩
 done:=by
  intro X D F G J i f s σ H E I hf st L
  subst D F G
  obtain ⟨j,l,Y,m,x,y⟩:=hf it (by simp)
  refine S.en X.A i s _ _ (I.ok.hd J) st ?_ λh' eb=>⟨ϱ,I.turned (t':=s.toks) (λb o hb e=>eb b o hb e) j l m x y⟩
  exact Array.getElem?_eq_none L
 self:=λA i s Q E st h=>S.me A i s Q E st h
def DN(tl:TE):TI:=fun σ H R=>tl σ H λx H1=>∃z,x=.str z/\R (Its z) H1
theorem Bf{X:Cx}{j l:Expr}{m:TE}(C:PE X l m):PI X j l (DN m):=by
 intro f s σ H R I h
 refine thn (C f s σ H _ I h) λv d ⟨x,H1,g,r,q1⟩=>?_
 obtain ⟨z,rfl,q⟩:=q1
 obtain ⟨t,rfl⟩:=r
 have fin:∀(o:Obj) (i:String),StrIt X.prog X.w d.heap.objs.size i z t->(d.heap.push o).IsStrIter d.heap.objs.size i z t 0->PIE X f σ j R (.ref d.heap.objs.size) {d with heap:=d.heap.push o}:=λo i S u=>by
  refine ⟨d.heap.objs.size,[d.heap.objs.size],_,Its z,H1,ϱ,g.kept (t':=d.toks) λb o e=>ρ _ e,vK S,u,λb y=>?_,q⟩
  have e:b=d.heap.objs.size:=by simpa using y
  subst e
  exact g.fpOk (ι _) (g.hok.fresh (ι _))
 cases ha:z.cps.all (·<128)
 ·exact wpAny_pyIter_wide ha (fin _ _ (.wide _ z t) ⟨_,ψ _ rfl,ϱ,ϱ⟩)
 ·exact wpAny_pyIter_ascii ha (fin _ _ (.ascii _ z t) ⟨_,ψ _ rfl,ϱ,ϱ⟩)
def Cx.blk(X:Cx)(N':List Str)(scope:Scope)(C:Addr)(fp:List Addr)(s:Shared)(H:Hp):Cx :=
 {X with N:=N',s₀:=s,H₀:=H,env:=compEnvC scope (dR X.env scope.names []) C X.env,outer:=X.stack,ex:=fp,fn:=λ_=>false,pn:=[],xe:=λ_ _=>False}
structure aU(N:List Str)(sc scope:Scope)(x:Str)(N':List Str)(fv:List Nat):Prop where
 nocell:∀y∈scope.names,y.2≠.cell
 kind:scope.kind=.function
 names:∀y∈scope.names,y.2=.local->scope.names.lookup y.1=some .local
 loc:scope.names.lookup x=some .local
 free:∀y∈scope.names,y.2=.free->sc.names.lookup y.1=some .cell\/sc.names.lookup y.1=some .free
 nd:N'.Nodup
 hd:N'[0]?=some x
 len:N'.length=fv.length+1
 at_:∀j,j<fv.length->(N'[j+1]?).isSome=true/\N'[j+1]?=(fv[j]?).bind (λi=>N[i]?)/\(N'[j+1]?).bind (λy=>scope.names.lookup y)=some .free
def b8(fv:List Nat)(σ:St):St:=fv.map λk=>(σ[k]?).join
abbrev oT(ifs:List Expr)(env:Env):Sem Bool:=forIn ifs true λc r=>if r=true then do let ok ← isTrue c env (eval c env);pure (ForInStep.yield ok) else pure (ForInStep.yield r)
def PTs(X:Cx)(ifs:List Expr)(t:TT):Prop :=
 ∀(pins:List (Addr×Obj)) (s:Shared) (σ:St) (H:Hp) (Q:Bool->Hp->Prop),Inv X pins σ H s->t σ H Q->wpAny (model X.prog X.w) X.A (oT ifs X.env) (TP X pins σ Q) X.xe s
def CF:TT:=λ_ H Q=>Q true H
theorem cP{X:Cx}:PTs X [] CF:=λpins s σ H Q I h=>π ⟨H,I,h⟩
theorem fh{X:Cx}{c:Expr}{t:TT}(f:PT X c t):PTs X [c] t:=by
 intro d s σ H Q I h
 have e:oT [c] X.env=(isTrue c X.env (eval c X.env) >>= λok=>pure ok):=by
  unfold oT
  rw [List.forIn_cons]
  simp
 rw [e]
 exact ε (thn (f d s σ H Q I h) λb g q=>π q)
def tLC(wi:TI)(fv:List Nat)(tt:TT)(te:TE):TE:=fun σ H Q=>wi σ H λJ H1=>∃(W:Nat->List V->Hp->Prop) (n:Nat),W 0 [] H1/\n<=sizeLine/\∀i ys H,W i ys H ->
 (J.stop i H/\∀p,H p=none->Q (.ref p) (upd H p (.lst ys))) \/
 (J.go i H/\i<n/\∀x H',J.yld i H x H'->tt (some x::b8 fv σ) H' λc H2=>if c=true then te (some x::b8 fv σ) H2 λy H3=>W (i+1) (ys++[y]) H3 else W (i+1) ys H2)
section
variable {X:Cx}{N':List Str}{scope:Scope}{x:Str}{fv:List Nat}
theorem z7{h:List (Addr×Obj)}{σ:St}{H:Hp}{s:Shared}{W:List Addr}{C:Addr}{h1:Heap}{m:Str->Option Value}{tk:Nat}{pl:List (Addr×Obj)}(S:aU X.N X.env.scope scope x N' fv)(I:Inv X h σ H s)
  (hf:∀b∈W,rq X h H b)(Y:∀b∈W,b<s.heap.objs.size)(Z:s.heap.objs.size<=C)(kp:∀b o,s.heap.get? b=some o->h1.get? b=some o)(hn:h1.Ns C m)
  (a0:∀p∈pl,h1.get? p.1=some p.2/\s.heap.objs.size<=p.1/\p.1≠C/\∀v,p.2.data≠.cell v) :
  Inv (X.blk N' scope C W s H) pl (none::b8 fv σ) H {s with heap:=h1,toks:=tk}:=by
 have g:∀y c,(dR X.env scope.names []).lookup y=some c->X.env.cells.lookup y=some c:=λy c e=>c8 e
 have cell:∀y c,(dR X.env scope.names []).lookup y=some c->∃v,s.heap.IsCell c v:=λy c e=>I.cell y c (g y c e)
 have lt:∀y c,(dR X.env scope.names []).lookup y=some c->c<s.heap.objs.size:=λy c e=>by obtain ⟨v,q⟩:=cell y c e;exact q.lt
 have kc:∀c v,s.heap.IsCell c v->h1.IsCell c v:=λc v q=>by obtain ⟨o,e,d⟩:=q;exact ⟨o,kp _ _ e,d⟩
 refine ⟨⟨I.ok.mod,S.kind,I.ok.glob,I.ok.blt,Z,λy z c l e2=>I.ok.inj y z c (g y c l) (g z c e2),λy hy=>?_,λy c e=>?_,I.ok.hd,I.ok.frames,.inl rfl,λb r=>⟨?_,λy c e z=>(hf b r).2.2.2.2.1 y c (g y c e) z⟩,λb o e=>I.bs b o e,Λ I.ok.bsz I.sz,λb o e r=>?_,λb r Q=>?_,I.stack,I.stkFree⟩,
  rfl,I.bare,Un.kept kp,⟨m,hn,λi y v U h2 h3=>?_⟩,λy c e=>?_,I.hok.fresh Z,λy c e=>I.freeC y c (g y c e),λp hp=>?_,I.hok.kept kp,?_⟩
 ·have O:∃k,scope.names.lookup y=some k/\k=.free:=by
   rcases hy with hy | hy
   ·obtain ⟨F,l,e2⟩:=gl (env:=X.env) (names:=scope.names) (x:=y) (k:=.cell) hy
    rcases e2 with e2 | e2
    ·exact absurd e2 (S.nocell _ (PySem.mem_of_lookup l))
    ·exact ⟨F,l,e2⟩
   ·obtain ⟨F,l,e2⟩:=gl (env:=X.env) (names:=scope.names) (x:=y) (k:=.free) hy
    rcases e2 with e2 | e2
    ·exact ⟨F,l,e2⟩
    ·exact ⟨F,l,e2⟩
  obtain ⟨k,e,rfl⟩:=O
  have w:=PySem.mem_of_lookup e
  obtain ⟨c,J⟩:=I.ok.has y (S.free _ w rfl)
  exact ⟨c,ju w J⟩
 ·exact (Bool.false_ne_true (show false=true from e)).elim
 ·exact Φ (Nat.lt_of_lt_of_le (Y b r) Z)
 ·have e':=e
  rcases (hf b r).2.2.2.1 with z | z
  ·exact I.ok.noex b o e z
  ·exact absurd (Nat.lt_of_lt_of_le (η e) (Λ I.ok.bsz z)) (Nat.lt_irrefl _)
 ·have q:=I.stkSub b Q
  rcases ϕ.mp q with z | z
  ·exact (hf b r).2.1 z
  ·exact (hf b r).2.2.1 z
 ·cases i with
  | zero =>
   have z:(none:Option V)=some v:=Δ h2
   cases z
  | succ j =>
   have f:(b8 fv σ)[j]?=some (some v):=h2
   unfold b8 at f
   rw [List.getElem?_map] at f
   cases ej:fv[j]? with
   | none=>rw [ej] at f;cases f
   | some k =>
    rw [ej] at f
    have G:(σ[k]?).join=some v:=Δ f
    have h5:σ[k]?=some (some v):=by
     cases es:σ[k]? with
     | none=>rw [es] at G;cases G
     | some w'=>rw [es] at G;rw [show w'=some v from G]
    have hj:j<fv.length:=(List.getElem?_eq_some_iff.mp ej).1
    obtain ⟨_,K,a2⟩:=S.at_ j hj
    have D:N'[j+1]?=some y:=U
    rw [D] at K a2
    rw [ej] at K
    have a3:X.N[k]?=some y:=K.symm
    have a4:scope.names.lookup y=some .free:=a2
    have w:=PySem.mem_of_lookup a4
    have kd:X.env.kindOf y=some .cell\/X.env.kindOf y=some .free:=S.free _ w rfl
    obtain ⟨mX,_,L⟩:=I.loc
    obtain ⟨u,ru,lk⟩:=L k y v a3 h5 (kd.elim (λz=>.inr (.inl z)) λz=>.inr (.inr z))
    refine ⟨u,ru,.inr ?_⟩
    rcases lk with ⟨z,_⟩ | ⟨_,c,J,hcell⟩
    ·rcases kd with z' | z'<;>rw [z'] at z<;>cases z
    ·exact ⟨gJ (env:=X.env) a4,c,ju w J,kc _ _ hcell⟩
 ·obtain ⟨v,q⟩:=cell y c e
  exact ⟨v,kc _ _ q⟩
 ·have P:p∈pl:=hp
  obtain ⟨e,l1,l2,d⟩:=a0 p P
  exact ⟨e,I.hok.fresh l1,l2,λz=>absurd (I.stkSub _ z) (λq=>by
   rcases ϕ.mp q with q | q
   ·exact absurd I.lt (by rw [← q];exact Nat.not_lt.mpr l1)
   ·exact I.nofs l1 q),d⟩
 ·show (none::b8 fv σ).length=N'.length
  rw [S.len]
  unfold b8
  simp
end
theorem nox{α:Type}{t:Sem α}{Q Q':α->Shared->Prop}{M:Model}{A:Around}{E:Value->Shared->Prop}{s:Shared}(h:wpAny M A t Q (λ_ _=>False) s)(hQ:∀a s,Q a s->Q' a s):wpAny M A t Q' E s:=wpAny_mono h hQ λ_ _ f=>f.elim
set_option maxHeartbeats 1600000 in
theorem xG{X:Cx}{aR K:Expr}{x:Str}{px:Pos}{aS:List Expr}{scope:Scope}{pos:Pos}{L:List Str}{fv:List Nat}{wi:TI}{tt:TT}{te:TE}
  (S:aU X.N X.env.scope scope x L fv)(hc:X.calm=true)(hi:PI X (.Name x px) K wi)
  (ht:∀C fp s H,PTs (X.blk L scope C fp s H) aS tt)(he:∀C fp s H,PE (X.blk L scope C fp s H) aR te)
  (hs:∀x,foldedSetIterable K X.env x=pure x){P:List (Addr×Obj)}{s:Shared}{σ:St}{H:Hp}{Q:VK}{aZ:Option (Value->Sem Unit)}{Qo:Value->Shared->Prop}{cp:Pos}(I:Inv X P σ H s)(h:tLC wi fv tt te σ H Q)
  (fn:∀(D C:Addr) (s5:Shared) (H5:Hp) (m5:Str->Option Value),Inv X P σ H5 s5->s5.heap.Ns C m5->H5 C=none->C≠X.env.locals->(C∈X.ex\/X.s₀.heap.objs.size<=C)->(∀x c,X.env.cells.lookup x=some c->c≠C)->(∀p∈X.pn++P,p.1≠C)->Q (.ref D) H5->compPost (model X.prog X.w) X.A X.xe aZ Qo (.ref D) C (.ok .next) s5) :
  wpAny (model X.prog X.w) X.A (comprehension (.ListComp aR [⟨.Name x px,K,aS,0⟩] scope pos) scope X.env cp (newList []) false (eval K X.env) aZ) Qo X.xe s:=by
 refine wpAny_comprehension_free rfl hs (ly λy hy hk=>I.ok.has y.1 (S.free y hy hk)) S.kind S.names
  (wpAny_mono (hi P s σ H _ I h) (λxv s1 h1=>wpAny_mono h1 (λe5 g h2=>?_) λ_ _ e=>e) λ_ _ e=>e)
 obtain ⟨it,fp,tn,J,F,rfl,Y,T,a6,f2,W,n,w0,hn,b0⟩:=h2
 refine wpAny_newObj_type (wpAny_newFunctionEnv S.nocell (by intro y hy;simp at hy) (λh1 ak ar=>?_) S.kind)
 dsimp only at ak ar ⊢
 generalize hH:g.heap.push {cls:=.type "list",dict:=none,data:=.seq ([]:List Value).toArray}=G at ak ar ⊢
 have hG:G.objs.size=g.heap.objs.size+1:=by rw [← hH,Heap.size_push]
 have cm:∀b o,g.heap.get? b=some o->G.get? b=some o:=λb o e=>hH▸ρ _ e
 have bd:∀b o,b<G.objs.size->G.get? b=some o->h1.get? b=some o:=λb o lt e=>ar.extBut b o (Φ lt) (ρ _ e)
 have kp:∀b o,g.heap.get? b=some o->h1.get? b=some o:=λb o e=>bd b o (by rw [hG];exact Nat.lt_succ_of_lt (η e)) (cm b o e)
 have hD:h1.PlainList g.heap.objs.size #[]:=⟨_,bd _ _ (by rw [hG];exact Nat.lt_succ_self _) (hH▸ψ _ rfl)⟩
 have a7:g.heap.objs.size≠G.objs.size:=by rw [hG];exact Φ (Nat.lt_succ_self _)
 have hC:g.heap.objs.size<=G.objs.size:=by rw [hG];exact Nat.le_succ _
 have a8:∀b∈fp,b<g.heap.objs.size:=λb m=>by obtain ⟨o,e,_⟩:=T.obj 0 _ a6 b m;exact η e
 have Z:∀{H':Hp} {pl:List (Addr×Obj)},(∀b∈fp,H' b=none)->(∀p∈pl,p.1∉fp)->∀b∈fp,rq (X.blk L scope G.objs.size fp g F) pl H' b:=λ{H' pl} hn hpl b m=>by
  obtain ⟨_,g1,g2,g3,g4,g5⟩:=f2 b m
  refine ⟨hn b m,Φ (Nat.lt_of_lt_of_le (a8 b m) hC),λz=>?_,.inl m,λy c e=>g4 y c (c8 e),λp U e=>?_⟩
  ·rcases ϕ.mp (Y.stkSub b z) with q | q
   ·exact g1 q
   ·exact g2 q
  ·exact hpl p U (e▸m)
 have bg:g.heap.objs.size∉fp:=λz=>absurd (a8 _ z) (Nat.lt_irrefl _)
 have bi:(X.blk L scope G.objs.size fp g F).env.scope.names.lookup x=some .local:=lookup_relabel_local S.loc
 have cs:∀y c,(X.blk L scope G.objs.size fp g F).env.cells.lookup y=some c->c≠g.heap.objs.size:=λy c e z=>by
  obtain ⟨v,q⟩:=Y.cell y c (c8 e)
  exact absurd q.lt (by rw [z];exact Nat.lt_irrefl _)
 have bl:∀{s':Shared} {H':Hp} {ob:Obj} {i:Nat} {ys:List V},Inv (X.blk L scope G.objs.size fp g F) [] (none::b8 fv σ) H' s'->s'.heap.get? g.heap.objs.size=some ob->(∀v,ob.data≠.cell v)->H' g.heap.objs.size=none ->
   Inv (X.blk L scope G.objs.size fp g F) [(g.heap.objs.size,ob)] (none::b8 fv σ) H' s':=λ{s' H' ob i ys} J1 e d f=>J1.pins_of λp U=>by
  have z:p=(g.heap.objs.size,ob):=by simpa using U
  subst z
  refine ⟨e,f,a7,λz=>?_,d⟩
  rcases ϕ.mp (Y.stkSub _ z) with q | q
  ·exact absurd Y.lt (by rw [← q];exact Nat.lt_irrefl _)
  ·exact Y.nofs (ι _) q
 have a5:∀s3:Shared,s3={g with heap:=h1,toks:=g.toks+([]:List (Str×Value)).length} ->
   codeAny (model X.prog X.w) X.A (.compLoop (.ListComp aR [⟨.Name x px,K,aS,0⟩] scope pos) 0 (.ref it) (.ref g.heap.objs.size) (X.blk L scope G.objs.size fp g F).env)
    (compPost (model X.prog X.w) X.A X.xe aZ Qo (.ref g.heap.objs.size) G.objs.size) s3:=by
  rintro s3 rfl
  refine codeAny_compLoop_tests (λk s'=>∃i ys H' l,k=n+1-i/\i<=n/\ys.length<=i/\Vals ys l/\s'.heap.PlainList g.heap.objs.size l.toArray /\
   Inv (X.blk L scope G.objs.size fp g F) [] (none::b8 fv σ) H' s'/\H' g.heap.objs.size=none/\tn i s'.heap/\(∀b∈fp,H' b=none)/\W i ys H') ?_ (n+1)
   ⟨0,[],F,[],ϱ,ϖ _,ι _,.nil,hD,z7 S Y f2 a8 hC kp ak (λp U=>nomatch U),Y.hok.fresh (ι _),T.keep _ _ _ a6 λb _ o e=>kp b o e,λb m=>(f2 b m).1,w0⟩
  rintro k s4 ⟨i,ys,H4,l,rfl,bG,a2,rv,dg,I4,a3,bI,bN,w4⟩
  obtain ⟨O,eD⟩:=id dg
  have bm:=bl (i:=i) (ys:=ys) I4 eD (λv z=>by cases z) a3
  have np:∀p∈[(g.heap.objs.size,({cls:=.type "list",data:=.seq l.toArray O}:Obj))],p.1∉fp:=λp U=>by
   have z:p=(g.heap.objs.size,({cls:=.type "list",data:=.seq l.toArray O}:Obj)):=by simpa using U
   subst z;exact bg
  rcases b0 i ys H4 w4 with ⟨stop,fin⟩ | ⟨go,hi2,step⟩
  ·refine wpAny_mono (T.done (X.blk L scope G.objs.size fp g F) rfl rfl rfl hc i _ s4 _ H4 _ bm (Z bN np) bI stop) (λr s5 ⟨hr,I5⟩=>?_) λ_ _ e=>e
   subst hr
   obtain ⟨m5,cc,_⟩:=I5.loc
   have cv:s5.heap.get? g.heap.objs.size=some {cls:=.type "list",data:=.seq l.toArray O}:=(I5.pin _ (Ψ _ Ω)).1
   have ab:F g.heap.objs.size=none:=Y.hok.fresh (ι _)
   have B:=I5.base
   obtain ⟨f0,f1,dT,f3,f4,f5⟩:=Y.fpOk (H':=F) hC (Y.hok.fresh hC)
   refine fn g.heap.objs.size G.objs.size s5 (upd H4 g.heap.objs.size (.lst ys)) m5 (Y.call' (s':=s5) (ch:=fp) I5.os ⟨λb o e nb m hx=>B.keep b o e nb m hx,λb o e nb m hx=>B.slot b o e nb m hx,λb o e nb hx=>?_,λb o e hx=>B.there b o e hx,λb xs e=>?_,λb o u e=>?_,λb ps e=>?_⟩ ?_ I5.bare λb m=>?_) cc ?_ f1 f3 f4 f5 (fin _ a3)
   ·rw [ao (Φ (η e))];exact B.free b o e nb hx
   ·have e':F b=some (.tup xs):=e
    rw [ao (ap e' ab)];exact B.tups b xs e
   ·have e':F b=some (.frz o u):=e
    rw [ao (ap e' ab)];exact B.frzs b o u e
   ·have e':F b=some (.tbl ps):=e
    rw [ao (ap e' ab)];exact B.tbls b ps e
   ·intro b u e
    by_cases m:b=g.heap.objs.size
    ·subst m
     rw [ae] at e
     cases e
     exact ⟨Λ a2 (Λ bG hn),l,O,rv,cv⟩
    ·rw [ao m] at e
     exact (I5.hok b u e).stay (λc v ea q=>q) (λc q=>by rw [ao (ap q a3)];exact q) λc xs q=>by rw [ao (ap q a3)];exact q
   ·obtain ⟨_,g1,g2,g3,g4,g5⟩:=f2 b m
    exact ⟨g3,g1,g4,g5⟩
   ·rw [ao (Ne.symm a7)]
    exact I5.free
  ·refine wpAny_mono (T.item (X.blk L scope G.objs.size fp g F) rfl rfl rfl hc i _ s4 _ H4 _ bm (Z bN np) bI go) (λr s5 ⟨u,hr,h5⟩=>?_) λ_ _ e=>e
   subst hr
   show wpAny _ _ (letOwnedTupleGo (.Name x px) (.ref it) u >>= λ_=>assign (.Name x px) (X.blk L scope G.objs.size fp g F).env u) _ _ s5
   refine ε (wpAny_mono h5 (λ_ s6 ⟨xv,H6,I6,r6,y6,a1,d3⟩=>?_) λ_ _ e=>e)
   have cw:=I6.pinned (Z d3 np) (T.obj _ _ a1)
   have out:∀{σ':St} {H':Hp} {s':Shared},Inv (X.blk L scope G.objs.size fp g F) ([(g.heap.objs.size,({cls:=.type "list",data:=.seq l.toArray O}:Obj))]++mw fp s6.heap) σ' H' s' ->
     s'.heap.PlainList g.heap.objs.size l.toArray/\H' g.heap.objs.size=none/\(∀b∈fp,H' b=none)/\(∀b∈fp,∀o,s6.heap.get? b=some o->s'.heap.get? b=some o):=λ{σ' H' s'} J1=>by
    have q:=J1.pin (g.heap.objs.size,({cls:=.type "list",data:=.seq l.toArray O}:Obj)) (Ψ _ (List.mem_append_left _ Ω))
    refine ⟨⟨O,q.1⟩,q.2.1,λb m=>?_,λb m o e=>(J1.pin (b,o) (Ψ _ (Ψ _ (gr m e)))).1⟩
    obtain ⟨o,e,d⟩:=T.obj _ _ a1 b m
    exact (J1.pin (b,o) (Ψ _ (Ψ _ (gr m e)))).2.1
   refine nox ((b7 (X:=X.blk L scope G.objs.size fp g F) (i:=0) S.nd S.hd (.inl bi) (.inr bi)) _ s6 _ H6 xv u (fun σ' H'=>σ'=some xv::b8 fv σ/\H'=H6) cw r6 ⟨ϱ,ϱ⟩) λ_ s7 ⟨σ7,H7,I7,e7,d4⟩=>?_
   subst e7 d4
   refine nox (ht _ _ _ _ _ s7 _ H7 _ I7 (step xv H7 y6)) λok s8 ⟨H8,I8,q8⟩=>?_
   cases ok with
   | false =>
    obtain ⟨o1,o2,o3,o4⟩:=out I8
    exact ⟨n+1-(i+1),ω,i+1,ys,H8,l,ϱ,hi2,υ a2,rv,o1,(I8.pins_of (pins':=[]) λp U=>nomatch U).weak (σ':=none::b8 fv σ) rfl (λj v e=>by
     cases j with
     | zero=>cases (show (none:Option V)=some v from Δ e)
     | succ j=>exact e),o2,T.keep _ _ _ a1 o4,o3,q8⟩
   | true =>
    refine nox (he _ _ _ _ _ s8 _ H8 _ I8 q8) λyv s9 ⟨y,H9,I9,r9,q9⟩=>?_
    obtain ⟨o1,o2,o3,o4⟩:=out I9
    have bt:=rv.length
    refine wpAny_list_append_plain (hsz:=by rw [List.size_toArray,← bt];exact Λ a2 (Λ bG hn)) o1 λh' da bC=>?_
    have cx:Inv (X.blk L scope G.objs.size fp g F) [] (some xv::b8 fv σ) H9 {s9 with heap:=h'} :=
     (I9.pins_of (pins':=[]) λp U=>nomatch U).turned (t':=s9.toks) (it:=g.heap.objs.size) (λb o m e=>bC.extBut b o m e) o2 a7 (.inr (ι _)) cs (λp U=>nomatch U)
    refine ⟨n+1-(i+1),ω,i+1,ys++[y],H9,l++[yv],ϱ,hi2,by rw [List.length_append];exact Nat.succ_le_succ a2,rv.append (.cons r9 .nil),?_,cx.weak (σ':=none::b8 fv σ) rfl (λj v e=>by
     cases j with
     | zero=>cases (show (none:Option V)=some v from Δ e)
     | succ j=>exact e),o2,T.keep _ _ _ a1 λb m o e=>bC.extBut b o (λz=>bg (z▸m)) (o4 b m o e),o3,q9⟩
    have e9:(l++[yv]).toArray=l.toArray.push yv:=by simp
    rw [e9]
    exact da
 exact codeAny_compStart_list (a5 _ rfl) (T.self _ 0 _ _ _ (T.keep _ _ _ a6 λb _ o e=>kp b o e) (a5 _ rfl))
theorem dF{X:Cx}{f d:Expr}{x:Str}{m:Pos}{g:List Expr}{scope:Scope}{pos:Pos}{j:List Str}{r:List Nat}{u:TI}{w:TT}{y:TE}
  (S:aU X.N X.env.scope scope x j r)(W:X.calm=true)(Y:PI X (.Name x m) d u)
  (Z:∀C fp s H,PTs (X.blk j scope C fp s H) g w)(he:∀C fp s H,PE (X.blk j scope C fp s H) f y)
  (hs:∀x,foldedSetIterable d X.env x=pure x:=by intro _;rfl) :
  PE X (.ListComp f [⟨.Name x m,d,g,0⟩] scope pos) (tLC u r w y):=by
 intro l s σ H Q I h
 rw [eval_ListComp]
 exact xG S W Y Z he hs I h λD C z F m5 G i J K L O P q=>⟨m5,i,λh' sb=>⟨.ref D,F,G.turned (t':=z.toks) (λb o U e=>(sb.2 b U).trans e) J K L O P,ϱ,q⟩⟩
open Builtin Builtin.Str
theorem oG(c:Nat):∀ys:List Str,ys.length<=(Str.join ⟨#[c]⟩ ys).length+1
 | []=>ϖ _
 | [y]=>by simp
 | y::u::ys=>by
  have ih:=oG c (u::ys)
  rw [join_cons_cons]
  have e:(y++(⟨#[c]⟩:Str)++Str.join ⟨#[c]⟩ (u::ys)).length=y.length+1+(Str.join ⟨#[c]⟩ (u::ys)).length:=by
   show ((y.cps++#[c])++(Str.join ⟨#[c]⟩ (u::ys)).cps).size=_
   rw [Array.size_append,Array.size_append]
   rfl
  rw [e,List.length_cons]
  omega
theorem om:∀(l:List (Str×Tok)),Vals ((l.map (·.1)).map V.str) (strValues l)
 | []=>.nil
 | p::l=>.cons ⟨p.2,rfl⟩ (om l)
section
variable {X:Cx}
theorem iK(z:X.calm=true):cV X (.builtin "sum") (λxs H Q=>∃(p:Addr) (b:List Int),xs=[.ref p]/\SqL X.K H p (b.map V.int)/\Q (.int b.sum) H):=by
 intro i s σ H xs G Q I r h
 obtain ⟨p,b,rfl,j,q⟩:=h
 obtain ⟨u,rfl,l⟩:=dm r
 cases (show u=Value.ref p from l)
 obtain ⟨d,m,o,C⟩:=I.list j
 have g:IntsAre d b:=sH m
 obtain ⟨e,f⟩:=g.allInts.items
 have w:s.heap.IsList p (intItems e):=f▸o.isList
 refine sum_intListG (I.ok.hd z) w λD F x y=>⟨.int b.sum,H,I.kept y,⟨x,?_⟩,q⟩
 have en:b=e.toList.map (·.1):=(show numsOf d.toArray.toList=b from g.numsOf).symm.trans (by rw [f,nums_intItems])
 rw [preSum_eq,List.take_of_length_le (by simp),en]
theorem jX:MtR X "str.split" (λx vs H Q=>∃(z:Str) (c:Nat),x=.str z/\vs=[.str ⟨#[c]⟩]/\z.length<=1000000/\∀p,H p=none->Q (.ref p) (upd H p (.lst ((Txt.split z ⟨#[c]⟩).map V.str)))):=by
 intro f s σ H x D v G Q I m r h
 obtain ⟨z,c,rfl,rfl,y,q⟩:=h
 obtain ⟨t,rfl⟩:=m
 obtain ⟨u,rfl,⟨g,rfl⟩⟩:=dm r
 have C:(1000002:Nat)<=sizeLine:=by decide
 have d:(Txt.split z ⟨#[c]⟩).length<=sizeLine:=by
  have:=oG c (Txt.split z ⟨#[c]⟩)
  rw [StrLaws.join_split] at this
  omega
 have fin:∀(l:List (Str×Tok)) (k:Nat),l.map (·.1)=Txt.split z ⟨#[c]⟩->EP X f σ Q (.ref s.heap.objs.size) {s with toks:=k,heap:=s.heap.push {cls:=.type "list",data:=.seq (strValues l).toArray}}:=λl k j =>
  ⟨.ref s.heap.objs.size,_,I.laid (t':=k) (o:=.lst ((Txt.split z ⟨#[c]⟩).map V.str)) (λb o e=>ρ _ e) (ι _)
   (show ObjOk X.prog X.w _ _ _ (.lst ((Txt.split z ⟨#[c]⟩).map V.str)) from ⟨by rw [ν];exact d,strValues l,0,j▸om l,ψ _ rfl⟩),ϱ,q _ (I.hok.fresh (ι _))⟩
 have i:((⟨#[c]⟩:Str).length==0)=false:=rfl
 cases h1:(decide (z.length<(⟨#[c]⟩:Str).length)||decide (strKind z<strKind ⟨#[c]⟩)) with
 | true =>
  have es:Txt.split z ⟨#[c]⟩=[z]:=by unfold Txt.split;rw [if_pos h1]
  exact call_meets F.slot_str_split (typeIs_str _ _ _) F.entry_str_split (F.args_str_split_2 _ _) (meets_str_split_cannot_occur z ⟨#[c]⟩ t g h1) (fin [(z,t)] s.toks es.symm)
 | false =>
  cases hf:(occurrences z ⟨#[c]⟩ 0 z.length (z.length+1)).isEmpty with
  | true =>
   have es:Txt.split z ⟨#[c]⟩=[z]:=by unfold Txt.split;rw [if_neg (by rw [h1];decide),if_pos hf]
   exact call_meets F.slot_str_split (typeIs_str _ _ _) F.entry_str_split (F.args_str_split_2 _ _) (meets_str_split_not_found z ⟨#[c]⟩ t g h1 i hf) (fin [(z,t)] s.toks es.symm)
  | false =>
   have es:Txt.split z ⟨#[c]⟩=partsBetween z (occurrences z ⟨#[c]⟩ 0 z.length (z.length+1)) (⟨#[c]⟩:Str).length:=by unfold Txt.split;rw [if_neg (by rw [h1];decide),if_neg (by rw [hf];decide)]
   refine call_meets F.slot_str_split (typeIs_str _ _ _) F.entry_str_split (F.args_str_split_2 _ _) (meets_str_split_sep z ⟨#[c]⟩ t g h1 i hf ω (by rw [← es];exact d)) ?_
   rw [strsFrom_eq]
   exact fin _ _ ((numbered_texts _ _).trans es.symm)
end
end L2
namespace L2
open PySem PySem.Spec PyProof.Rows
def Cov(l:List Env)(h0:Heap)(H:Hp)(B h:Heap):Prop:=∀b o,h.get? b=some o->b∉frs l->(H b≠none\/∃o0,h0.get? b=some o0)->B.get? b=some o
def Fly(l:List Env)(h0:Heap)(H:Hp)(ea C:Addr)(h:Heap):Prop:=∃B a0,Heap.FlyingW B l ea (.ref C) a0 h/\Cov l h0 H B h
theorem ObjOk.there{P:Program}{w:World}{H:Hp}{h:Heap}{a:Addr}{o:HO}(x:ObjOk P w H h a o):∃ob,h.get? a=some ob:=by
 cases o with
 | lst xs=>obtain ⟨_,_,_,_,e⟩:=x;exact ⟨_,e⟩
 | tup xs=>obtain ⟨_,_,_,o,e,_⟩:=x;exact ⟨_,e⟩
 | dK kvs=>obtain ⟨_,_,_,_,o,_,_,e,_⟩:=x;exact ⟨_,e⟩
 | dT kvs=>obtain ⟨_,_,_,_,o,_,_,e,_⟩:=x;exact ⟨_,e⟩
 | set S n=>obtain ⟨o,_,_,_,e,_⟩:=x;exact ⟨_,e⟩
 | ins C dx fs=>obtain ⟨_,_,_,e,_⟩:=x;exact ⟨_,e⟩
 | own y=>obtain ⟨_,e⟩:=x;exact ⟨_,e⟩
 | xd fs=>obtain ⟨_,⟨_,_,_,e,_⟩,_⟩:=x;exact ⟨_,e⟩
 | rng lo hi=>obtain ⟨_,_,_,e⟩:=x;exact ⟨_,e⟩
 | frz ob u=>obtain ⟨e,_⟩:=x;exact ⟨_,e⟩
 | tbl ps=>exact ⟨_,(show h.get? a=some _ from x)⟩
 | met f y=>exact ⟨_,(show h.get? a=some _ from x)⟩
 | ext φ=>obtain ⟨_,⟨_,e⟩,_⟩:=x;exact ⟨_,e⟩
section
variable {l:List Env}{H:Hp}{B h h' hc:Heap}{P:Program}{w:World}
theorem Cov.stay(c:Cov l hc H B h)(st:B.StaysIn h'):∀b o,h.get? b=some o->b∉frs l->(H b≠none\/∃o0,hc.get? b=some o0)->h'.get? b=some o:=λb o e nb hb=>st b o (c b o e nb hb)
theorem HOk.moved(x:HOk P w H h)(c:Cov l hc H B h)(st:B.StaysIn h')(d:∀b∈frs l,H b=none):HOk P w H h':=λa o e=>by
 refine (x a o e).stay (λb u hb q=>?_) (λb q=>q) λb xs q=>q
 have tr:H b≠none:=by
  rcases hb with rfl | hb
  ·rw [e];intro z;cases z
  ·rw [hb];intro z;cases z
 exact c.stay st b u q (λz=>tr (d b z)) (.inl tr)
theorem Un.moved{fs:List Addr}{y:Hp}{h0:Heap}(u:Un fs [] y H h0 h)(c:Cov l hc H B h)(st:B.StaysIn h')(C:h.UpToSlots h')(D:h.FunFrames B l)(F:∀b o,h0.get? b=some o->∃o',hc.get? b=some o')
  (hf:∀b∈fs,b∈frs l)(G:∀b o,h0.get? b=some o->b∈frs l->b∈fs):Un fs [] y H h0 h':=by
 have kp:∀b j o,h0.get? b=some j->b∉fs->h.get? b=some o->h'.get? b=some o:=λb j o e0 m e=>c.stay st b o e (λz=>m (G b j e0 z)) (.inr (F b j e0))
 have i:∀b o,b∈fs->h.get? b=some o->∃i,h'.get? b=some {o with slots:=i}:=λb o f e=>by
  obtain ⟨_,o',r,d⟩:=D.mem (show b∈l.filterMap (·.frame) from hf b f)
  rw [e] at r
  cases r
  exact C b o e d
 refine ⟨λb o e z m g=>kp b o o e m (u.keep b o e z m g),λb o e z f g=>?_,u.free,λb o e g=>?_,u.tups,u.frzs,u.tbls⟩
 ·obtain ⟨I,q⟩:=u.slot b o e z f g
  obtain ⟨w,q2⟩:=i b _ f q
  exact ⟨w,q2⟩
 ·obtain ⟨x,q⟩:=u.there b o e g
  by_cases f:b∈fs
  ·obtain ⟨w,q2⟩:=i b _ f q
   exact ⟨_,q2⟩
  ·exact ⟨x,kp b o x e f q⟩
end
section
variable {X:Cx}{E:XK}{pins:List (Addr×Obj)}{σ:St}{H H':Hp}{s s':Shared}
theorem qS(D:X.stack=X.env::X.outer)(b:X.env.frame=some X.env.locals):frs X.stack=X.env.locals::frs X.outer:=by
 rw [D]
 show List.filterMap _ (X.env::X.outer)=_
 rw [List.filterMap_cons,b]
 rfl
end
theorem Bk{K:Frag}{h:Heap}{mg:Str->Option Value}{x:Str}{C:Addr}{u:List Value}{new:String}(b:K.In h)(G:mg x=some (.ref C))(q:PySem.W.excIn K C u new=true):OwnCls x C u new mg h:=by
 have m:∀o,K.lookup C=some o->∃tl N g i bs hdct j sub l d dd k0 k1 k2 k3 k5 mN,h.get? C=some (excClassObj g i C N bs tl hdct j sub l d dd k0 k1 k2 k3 k5 new)/\h.Ns N mN/\mN "__init__"=none/\OwnTail h u tl:=λo e=>by
  unfold PySem.W.excIn at q
  rw [e] at q
  obtain ⟨H,od,w,f⟩:=o
  split at q
  ·rename_i dd cd sl e0
   cases (Δ e0)
   obtain ⟨g,bs,y,z,i,D,j,sub,l,d,F⟩:=cd
   split at q
   ·rename_i C2 tl k0 k1 k2 k3 n2 k5 em es
    dsimp only at em q
    simp only [Bool.and_eq_true,beq_iff_eq,Bool.not_eq_true'] at q
    obtain ⟨⟨⟨⟨⟨q1,q2⟩,q3⟩,q4⟩,q5⟩,q6⟩:=q
    subst q1 q2 q3 em
    have r:f=#[k0,k1,k2,k3,some (.builtin n2),k5]:=Array.toList_inj.mp es
    subst r
    exact ⟨tl,z,g,i,bs,D,j,sub,l,d,od,k0,k1,k2,k3,k5,_,b _ _ e,.of_isNs (PySem.W.isNs_of_in b q5),PySem.W.nsMap_none_of_in b q5 q6,PySem.W.tail_of_in b q4⟩
   ·cases q
  ·cases q
 refine ⟨G,?_⟩
 cases e:K.lookup C with
 | none=>unfold PySem.W.excIn at q;rw [e] at q;cases q
 | some o=>exact m o e
def Ca(ea C:Addr):HO:=.ext λh=>∃o,h.get? ea=some o/\o.cls=.ref C
abbrev Cx.hnd(X:Cx)(ev:Value):Cx:={X with A:=X.A.mark (some ev),calm:=false,xe:=λ_ _=>False}
section
variable {X:Cx}{pins:List (Addr×Obj)}{σ:St}{H H1:Hp}{s s1:Shared}{ev:Value}
theorem Cx.Ok.hnd(ok:X.Ok)(ev:Value):(X.hnd ev).Ok :=
 ⟨ok.mod,ok.kind,ok.glob,ok.blt,ok.above,ok.inj,ok.has,ok.cab,λh=>(by cases h),ok.frames,ok.stk,ok.exf,ok.bs,ok.bsz,ok.noex,ok.exfs,ok.funs,ok.frf⟩
theorem Inv.hnd(I:Inv X pins σ H s)(ev:Value):Inv (X.hnd ev) pins σ H s:=⟨I.ok.hnd ev,I.os,I.bare,I.base,I.loc,I.cell,I.free,I.freeC,I.pin,I.hok,I.len⟩
theorem Inv.unhnd(ok:X.Ok)(I:Inv (X.hnd ev) pins σ H s):Inv X pins σ H s:=⟨ok,I.os,I.bare,I.base,I.loc,I.cell,I.free,I.freeC,I.pin,I.hok,I.len⟩
theorem SP.unhnd{D:Ends}{f:Flow}{s':Shared}(ok:X.Ok)(h:SP (X.hnd ev) pins D f s'):SP X pins D f s':=by
 cases f with
 | next=>obtain ⟨b,d,e,q⟩:=h;exact ⟨b,d,e.unhnd ok,q⟩
 | brk=>obtain ⟨b,d,e,q⟩:=h;exact ⟨b,d,e.unhnd ok,q⟩
 | cont=>obtain ⟨b,d,e,q⟩:=h;exact ⟨b,d,e.unhnd ok,q⟩
 | ret v=>obtain ⟨x,b,d,e,r,q⟩:=h;exact ⟨x,b,d,e.unhnd ok,r,q⟩
theorem UpToSlots.isCell{h h':Heap}{c:Addr}{v:Option Value}(f:h.UpToSlots h')(x:h.IsCell c v):h'.IsCell c v:=by
 obtain ⟨o,e,d⟩:=x
 obtain ⟨g,b⟩:=f c o e λvs q=>by rw [d] at q;cases q
 exact ⟨_,b,d⟩
theorem Inv.moved{B y:Heap}(J:Inv X pins σ H1 s1)(I:Inv X pins σ H s)(C:X.stack=X.env::X.outer)(U:X.env.frame=some X.env.locals)(g:X.ex=[])(c:Cov X.stack s1.heap H B s.heap)(st:B.StaysIn y)(j:s.heap.UpToSlots y)
  (W:s.heap.FunFrames B X.stack):Inv X pins σ H {s with heap:=y}:=by
 have l:=qS C U
 have P:Un X.fs [] X.H₀ H X.s₀.heap s.heap:=by have:=I.base;rw [g] at this;exact this
 have sub:∀b o,X.s₀.heap.get? b=some o->∃o',s1.heap.get? b=some o':=λb o e=>J.base.there b o e (by rw [g];simp)
 have Q:∀b o,X.s₀.heap.get? b=some o->b≠X.env.locals:=λb o e z=>absurd (η e) (by rw [z];exact Nat.not_lt.mpr I.ok.above)
 refine ⟨I.ok,I.os,I.bare,?_,?_,λx w e=>?_,I.free,I.freeC,λp G=>?_,I.hok.moved c st I.stkFree,I.len⟩
 ·rw [g]
  refine P.moved c st j W sub (λb h=>by rw [l];exact Θ _ h) λb o e h=>?_
  rw [l] at h
  rcases ϕ.mp h with z | z
  ·exact absurd z (Q b o e)
  ·exact z
 ·obtain ⟨m,K,L⟩:=I.loc
  refine ⟨m,j.ns K,λi x v a b w=>?_⟩
  obtain ⟨u,r,O⟩:=L i x v a b w
  refine ⟨u,r,?_⟩
  rcases O with z | ⟨z,cl,e,ic⟩
  ·exact .inl z
  ·exact .inr ⟨z,cl,e,UpToSlots.isCell j ic⟩
 ·obtain ⟨v,q⟩:=I.cell x w e
  exact ⟨v,UpToSlots.isCell j q⟩
 ·obtain ⟨e,f,D,F,d⟩:=I.pin p G
  refine ⟨c.stay st p.1 p.2 e (λz=>?_) (.inr ⟨_,(J.pin p G).1⟩),f,D,F,d⟩
  rw [l] at z
  rcases ϕ.mp z with z | z
  ·exact D z
  ·exact F z
theorem Inv.exc{d C:Addr}{i:Obj}(I:Inv X pins σ H s)(h:H d=none)(m:s.heap.get? d=some i)(F:i.cls=.ref C)(h0:X.s₀.heap.get? d=none)(G:d≠X.env.locals)(j:∀y c,X.env.cells.lookup y=some c->c≠d)
  (J:∀p∈X.pn++pins,p.1≠d):Inv X pins σ (upd H d (Ca d C)) s:=by
 refine ⟨I.ok,I.os,I.bare,⟨I.base.keep,I.base.slot,λb o e z w=>?_,I.base.there,λb l e=>?_,λb o u e=>?_,λb x e=>?_⟩,I.loc,I.cell,?_,λy c e=>?_,λp g=>?_,λb u e=>?_,I.len⟩
 ·rw [ao (λD=>by rw [D,h0] at e;cases e)];exact I.base.free b o e z w
 ·have q:=I.base.tups b l e
  rw [ao (ap q h)];exact q
 ·have q:=I.base.frzs b o u e
  rw [ao (ap q h)];exact q
 ·obtain ⟨more,q⟩:=I.base.tbls b x e
  exact ⟨more,by rw [ao (ap q h)];exact q⟩
 ·rw [ao G.symm];exact I.free
 ·rw [ao (j y c e)];exact I.freeC y c e
 ·obtain ⟨e,f,r⟩:=I.pin p g
  exact ⟨e,by rw [ao (J p g)];exact f,r⟩
 ·by_cases hb:b=d
  ·subst hb
   rw [ae] at e
   cases e
   exact ⟨⟨i,m,F⟩,⟨i,m⟩,λh1 K ⟨o,e,c⟩ k=>⟨o,k o e,c⟩⟩
  ·rw [ao hb] at e
   exact (I.hok b u e).stay (λc v _ q=>q) (λc q=>by rw [ao (ap q h)];exact q) λc l q=>by rw [ao (ap q h)];exact q
def yp(X:Cx)(C CB:Addr):Prop:=∀(A:Around) (s:Shared) (ea:Addr) (ob:Obj) (Q:Bool->Shared->Prop) (E:Value->Shared->Prop),X.K.In s.heap->s.heap.get? ea=some ob->ob.cls=.ref C->Q true s->wpAny (model X.prog X.w) A (excMatches (.ref ea) (.ref CB)) Q E s
theorem rD{x:Str}{C:Addr}{e:List Value}{new:String}(o:X.mg x=some (.ref C))(r:PySem.W.excIn X.K C e new=true)(u:e.contains (.type "BaseException")=true):yp X C C:=by
 intro A s Y Z Q E k l m q
 obtain ⟨w,N,y,z,bs,b,D,sub,F,f,dd,G,H,I,J,L,O,i,P,j,T⟩:=(Bk k o r).obj
 obtain ⟨h,g,d,t,U⟩:=s
 exact wpAny_excMatches_sub_self i l m (T.hasType u) q
theorem Dd{b C CB:Addr}{Y:Str}{np U:Pos}{b₀:Stmt}{g:List Stmt}{rest:List ExceptHandler}{D:Ends}{th:TS}{E:Value->Shared->Prop}(W:Inv X pins σ H1 s1)(I:Inv X pins σ H s)(d:X.stack=X.env::X.outer)(Z:X.env.frame=some X.env.locals)(x:X.ex=[])
  (a7:Fly X.stack s1.heap H b C s.heap)(hg:Gl X Y)(hm:X.mg Y=some (.ref CB))(tk:yp X C CB)(hs:∀ev,PSs (X.hnd ev) (b₀::g) th)(q:H b=none->th D σ (upd H b (Ca b C)))(hd:(Y==("__debug__":Str))=false) :
  wpAny (model X.prog X.w) X.A (noteFrame (.ref b) X.env) (λ_ s₂=>wpAny (model X.prog X.w) X.A (setFlight (.ref b) none) (λ_ s₃ =>
   wpAny (model X.prog X.w) X.A (handleBy (.ref b) X.env (.ExceptHandler (some (.Name Y np)) none (b₀::g) U::rest)) (SP X pins D) E s₃) E s₂) E s:=by
 obtain ⟨B,a0,fl,c⟩:=a7
 have a2:X.A.frames=some (X.env::X.outer):=by rw [I.ok.frames,d]
 have ff:=fl.2.2.1
 have a3:Heap.FlyingW B (X.env::X.outer) b (.ref C) a0 s.heap:=by rw [← d];exact fl
 refine wpAny_looks_onW a2 Z a3 λh₄ l P=>?_
 refine wpAny_landsW l λh₅ m Q=>?_
 have I5:=Inv.moved W I d Z x c m.1 (P.trans Q) ff
 obtain ⟨ob,a1,F⟩:=m.there
 refine wpAny_handleBy_cons (codeAny_handlers_test (jp (X:=X.hnd (.ref b)) (I5.hnd (.ref b)) hg hm ?_ hd)) (by intro z;cases z)
 refine tk _ _ b ob _ _ I5.kIn a1 F (codeAny_handlers_suite ?_)
 refine lands_againW (s:={s with heap:=h₅}) m λh₆ r a6=>?_
 have I6:=Inv.moved W I d Z x c r.1 ((P.trans Q).trans a6) ff
 obtain ⟨oe,ws,G,J,K,a8⟩:=r.first
 have i:b∉frs X.stack:=λz=>by
  have L:=r.2.2.1
  rw [← d] at L
  obtain ⟨_,o',h,d'⟩:=L.mem (show b∈X.stack.filterMap (·.frame) from z)
  rw [G] at h
  cases h
  exact d' ws K
 obtain ⟨o1,e1,_⟩:=fl.there
 have hB:=fl.2.1
 have O:H b=none:=by
  cases z:H b with
  | none=>rfl
  | some u =>
   have:=c b o1 e1 i (.inl (by rw [z];intro y;cases y))
   rw [hB] at this;cases this
 have j:s1.heap.get? b=none:=by
  cases z:s1.heap.get? b with
  | none=>rfl
  | some u =>
   have:=c b o1 e1 i (.inr ⟨u,z⟩)
   rw [hB] at this;cases this
 have a4:X.s₀.heap.get? b=none:=by
  cases z:X.s₀.heap.get? b with
  | none=>rfl
  | some u =>
   obtain ⟨o',h⟩:=W.base.there b u z (by rw [x];simp)
   rw [j] at h;cases h
 have a5:=I6.exc O G J a4 (λz=>i (by rw [qS d Z,z];exact Ω)) (λy cc e z=>by
  obtain ⟨v,o,h,_⟩:=W.cell y cc e
  rw [z,j] at h;cases h) λp hp z=>by
   have:=(W.pin p hp).1
   rw [z,j] at this;cases this
 exact wpAny_mono (hs (.ref b) pins _ σ _ D (a5.hnd _) (q O)) (λf s7 h7=>SP.unhnd I.ok h7) λ_ _ z=>z.elim
abbrev TX:=St->Hp->VK->XK->Prop
def XP(X:Cx)(pins:List (Addr×Obj))(σ:St)(E:XK)(ev:Value)(s':Shared):Prop:=∃s1 H1 ea C H',Inv X pins σ H1 s1/\ev=.ref ea/\Inv X pins σ H' s'/\Fly X.stack s1.heap H' ea C s'.heap/\E ev (some C) H'
def PEX(X:Cx)(e:Expr)(t:TX):Prop :=
 ∀(pins:List (Addr×Obj)) (s:Shared) (σ:St) (H:Hp) (Q:VK) (E:XK),Inv X pins σ H s->t σ H Q E->wpAny (model X.prog X.w) X.A (eval e X.env) (EP X pins σ Q) (XP X pins σ E) s
end
section
variable {X:Cx}{e:Expr}{t:TX}{C CB:Addr}{cx y:Str}{np hpos pos py apos:Pos}{b₀:Stmt}{suite:List Stmt}{th:TS}{j:Nat}
def yC(j:Nat)(C:Addr)(t:TX)(th:TS):TS:=λD σ H=>t σ H (λv H1=>D.nx (σ.set j (some v)) H1) λev c H1=>∃ea,ev=.ref ea/\c=some C/\(H1 ea=none->th D σ (upd H1 ea (Ca ea C)))
theorem uM(l:X.stack=X.env::X.outer)(O:X.env.frame=some X.env.locals)(m:X.ex=[])(P:X.N.Nodup)(U:X.N[j]?=some y)(W:Loc X.env.scope y)(Y:PEX X e t)(Z:Gl X cx)(hm:X.mg cx=some (.ref CB))(tk:yp X C CB)
  (hs:∀ev,PSs (X.hnd ev) (b₀::suite) th)(hd:(cx==("__debug__":Str))=false:=by decide)(o:swapsWith e (some (.Name y py)) apos.line X.env=pure false:=by rfl)
  (hf:X.fn y=true\/X.env.scope.names.lookup y=some .local:=by first | exact .inl rfl | exact .inr rfl | assumption) :
  PS X (.Try [.Assign [.Name y py] e apos] [.ExceptHandler (some (.Name cx np)) none (b₀::suite) hpos] [] [] pos) (yC j C t th):=by
 intro b s σ H D I h
 refine wpAny_Try_except (wpAny_execs_cons (wpAny_mono (wpAny_Assign_Name (Q:=λf g=>f=.next/\SP X b D .next g) (wpAny_mono (Y b s σ H _ _ I h) (λv g ⟨y1,H1,G,J,q1⟩=>?_) λev g K=>?_) o) (λf g i=>?_) λ_ _ z=>z))
 ·exact lV G P U W J (λs2 L=>⟨ϱ,_,H1,L,q1⟩) hf
 ·obtain ⟨s0,H0,ea,r,H',u,rfl,w,fl,x,F,d,q⟩:=K
  cases F
  obtain rfl:r=C:=Δ d
  exact Dd u w l O m fl Z hm tk hs q hd
 ·obtain ⟨rfl,i⟩:=i
  exact wpAny_execs_nil (wpAny_execs_nil i)
end
open PySem.Builtin PySem.Builtin.ObjectAttr PySem.Builtin.Getset_descriptor
end L2
namespace L2
open PySem PySem.Spec PyProof.Rows
theorem PE.ex{X:Cx}{α:Type}{e:Expr}{t:α->TE}(h:∀a,PE X e (t a)):PE X e (fun σ H Q=>∃a,t a σ H Q):=by
 intro b s σ H Q I q
 obtain ⟨a,q⟩:=q
 exact h a b s σ H Q I q
section
variable {P:Program}{w:World}{K:Frag}{H:Hp}{h:Heap}{a b:Addr}{xs ys:List V}
theorem tj(b:HOk P w H h)(d:K.In h)(q:SqL K H a xs):∃its:List Value,Vals xs its/\PlainL h a its.toArray/\xs.length<=sizeLine:=by
 rcases q with q | ⟨o,its,n,hk,hc,hd,hs,hz,r⟩
 ·obtain ⟨z,its,n,r,e⟩:=q.ok b
  exact ⟨its,r,⟨_,n,e,ϱ,ϱ,ϱ⟩,z⟩
 ·refine ⟨its.toList,r,⟨o,n,d a o hk,hc,hd,by simpa using hs⟩,?_⟩
  have e:=r.length
  simp only [Array.length_toList] at e
  omega
theorem lC(b:HOk P w H h)(d:K.In h)(q:SqT K H a xs):∃its:List Value,Vals xs its/\IsTup h a its.toArray/\xs.length<=sizeLine:=by
 rcases q with q | ⟨o,its,n,hk,hc,hs,hz,r⟩
 ·obtain ⟨z,its,r,p⟩:=q.ok b
  exact ⟨its,r,p,z⟩
 ·refine ⟨its.toList,r,⟨o,d a o hk,hc,n,by simpa using hs⟩,?_⟩
  have e:=r.length
  simp only [Array.length_toList] at e
  omega
theorem tf(f:HOk P w H h)(g:K.In h)(q:SqT K H a xs)(u:SqT K H a ys):xs=ys:=by
 obtain ⟨i,r,⟨o,e,_,n,d⟩,_⟩:=lC f g q
 obtain ⟨b,m,⟨x,j,_,y,l⟩,_⟩:=lC f g u
 rw [e] at j;cases j
 rw [d] at l
 injection l with d1 _
 have:i=b:=by simpa using congrArg Array.toList d1
 subst this
 exact r.inj m
def SqU(K:Frag)(H:Hp)(a:Addr)(xs:List V):Prop :=
 H a=some (.tup xs)\/∃(o:Obj) (its:Array Value) (n:Nat),K.lookup a=some o/\o.cls=.type "tuple"/\o.data=.seq its n/\its.size<=sizeLine/\Vals xs its.toList
theorem SqU.sq(q:SqU K H a xs):SqT K H a xs:=q.elim (λz=>.inl (.inl z)) .inr
def TSame(H H':Hp):Prop:=∀b xs,H b=some (.tup xs)->H' b=some (.tup xs)
theorem Same.ts{H H':Hp}(e:Same H H'):TSame H H':=λb xs h=>e b _ h
theorem TSame.trans{H H1 H2:Hp}(a:TSame H H1)(b:TSame H1 H2):TSame H H2:=λc xs h=>b c xs (a c xs h)
theorem SqU.keep{H':Hp}(e:TSame H H')(q:SqU K H a xs):SqU K H' a xs:=q.elim (λz=>.inl (e _ _ z)) .inr
end
def EqIs(K:Frag)(n:Nat)(H:Hp)(x y:V)(b:Bool):Prop :=
 ∀(P:Program) (w:World) (A:Around) (s:Shared) (u v:Value),A.units+n<cLine->HOk P w H s.heap->K.In s.heap->RelV x u->RelV y v->SeqAt.EqAt A s u v b
def rn(K:Frag)(n:Nat)(H:Hp)(x y:V)(b:Bool):Prop :=
 ∀(P:Program) (w:World) (A:Around) (s:Shared) (u v:Value),A.units+n<cLine->HOk P w H s.heap->K.In s.heap->RelV x u->RelV y v->SeqAt.RcAt A s u v b
def vv(K:Frag)(n:Nat)(H:Hp)(x y:V)(b:Bool):Prop :=
 ∀(P:Program) (w:World) (A:Around) (s:Shared) (u v:Value),A.units+n<cLine->HOk P w H s.heap->K.In s.heap->RelV x u->RelV y v->SeqAt.RcNeAt A s u v (!b)
section
variable {K:Frag}{H:Hp}{a b:Addr}{n m:Nat}{x y:V}{r:Bool}
theorem EqIs.mono(h:EqIs K n H x y r)(le:n<=m):EqIs K m H x y r:=λP w A s u v hA=>h P w A s u v ω
theorem vL{us vs:List V}{e:Nat->Bool}(ha:SqT K H a us)(hb:SqT K H b vs)(hl:us.length=vs.length)(he:∀(j:Nat) x y,us[j]?=some x->vs[j]?=some y->EqIs K n H x y (e j)) :
  rn K (n+1) H (.ref a) (.ref b) ((List.range us.length).all e)/\vv K (n+1) H (.ref a) (.ref b) ((List.range us.length).all e):=by
 have f:∀(P:Program) (w:World) (A:Around) (s:Shared) (u v:Value),A.units+(n+1)<cLine->HOk P w H s.heap->K.In s.heap->RelV (.ref a) u->RelV (.ref b) v ->
   SeqAt.RcAt A s u v ((List.range us.length).all e)/\SeqAt.RcNeAt A s u v (!(List.range us.length).all e):=by
  intro P w A s u v hA i l r1 r2
  cases r1
  cases r2
  obtain ⟨g,F,G,_⟩:=lC i l ha
  obtain ⟨h,I,J,_⟩:=lC i l hb
  have l1:=F.length
  have Z:=I.length
  have d:∀j (h1:j<g.toArray.size) (m:j<h.toArray.size),SeqAt.EqAt A.in1 s g.toArray[j] h.toArray[j] (e j):=λj h1 m=>by
   have o:j<g.length:=by simpa using h1
   have r:j<h.length:=by simpa using m
   have Q:us[j]?=some us[j]:=ξ ω
   have U:vs[j]?=some vs[j]:=ξ ω
   obtain ⟨u,L,X⟩:=F.get Q
   obtain ⟨v,O,Y⟩:=I.get U
   have q:=he j _ _ Q U P w A.in1 s u v (by show A.units+1+n<cLine;omega) i l X Y
   have z1:g.toArray[j]=u:=by
    rw [ξ o] at L
    simpa using Option.some.inj L
   have z2:h.toArray[j]=v:=by
    rw [ξ r] at O
    simpa using Option.some.inj O
   rw [z1,z2]
   exact q
  have W:((List.range (min g.toArray.size h.toArray.size)).all e&&g.toArray.size==h.toArray.size)=(List.range us.length).all e:=by
   have s1:g.toArray.size=us.length:=by simp [l1]
   have s2:h.toArray.size=us.length:=by simp [← Z,hl]
   rw [s1,s2,Nat.min_self]
   simp
  constructor
  ·have q:=SeqAt.RcAt.tuples (A:=A) (s:=s) (e:=e) G J ω d
   rw [W] at q
   exact q
  ·have q:=SeqAt.RcNeAt.tuples (A:=A) (s:=s) (e:=e) G J ω d
   rw [W] at q
   exact q
 exact ⟨λP w A s u v h1 m z C D=>(f P w A s u v h1 m z C D).1,λP w A s u v h1 m z C D=>(f P w A s u v h1 m z C D).2⟩
theorem mW(h:rn K n H (.ref a) (.ref b) r)(l:∀(P:Program) (w:World) (h:Heap),HOk P w H h->K.In h->a=b->r=true):EqIs K n H (.ref a) (.ref b) r:=by
 intro P w A s u v j d f g i
 have q:=h P w A s u v j d f g i
 cases g
 cases i
 by_cases e:a=b
 ·rw [l P w s.heap d f e,e]
  exact SeqAt.EqAt.same _
 ·exact SeqAt.EqAt.of_refs e q
end
structure Cod(α:Type) [DecidableEq α] where
 n:Nat
 rp:Frag->Hp->α->V->Prop
 inj:∀{P:Program} {w:World} {K:Frag} {H:Hp} {h:Heap} {x y:α} {v:V},HOk P w H h->K.In h->rp K H x v->rp K H y v->x=y
 eq:∀{K:Frag} {H:Hp} {x y:α} {u v:V},rp K H x u->rp K H y v->EqIs K n H u v (decide (x=y))
 rc:∀{K:Frag} {H:Hp} {x y:α} {u v:V},rp K H x u->rp K H y v->rn K n H u v (decide (x=y))
 ne:∀{K:Frag} {H:Hp} {x y:α} {u v:V},rp K H x u->rp K H y v->vv K n H u v (decide (x=y))
 keep:∀{K:Frag} {H H':Hp} {x:α} {v:V},TSame H H'->rp K H x v->rp K H' x v
def cInt:Cod Int where
 n:=0
 rp _ _ i v:=v=.int i
 inj _ _ h1 h2:=by
  rw [h1] at h2
  exact V.int.inj h2
 eq h1 h2:=by
  intro P w A s u v _ _ _ r1 r2
  subst h1 h2
  obtain ⟨t,rfl⟩:=r1
  obtain ⟨t',rfl⟩:=r2
  rw [← Bool.beq_eq_decide_eq]
  exact SeqAt.EqAt.int_int _ t _ t'
 rc h1 h2:=by
  intro P w A s u v _ _ _ r1 r2
  subst h1 h2
  obtain ⟨t,rfl⟩:=r1
  obtain ⟨t',rfl⟩:=r2
  rw [← Bool.beq_eq_decide_eq]
  exact SeqAt.RcAt.int_int _ t _ t'
 ne h1 h2:=by
  intro P w A s u v _ _ _ r1 r2
  subst h1 h2
  obtain ⟨t,rfl⟩:=r1
  obtain ⟨t',rfl⟩:=r2
  rw [← Bool.beq_eq_decide_eq]
  exact SeqAt.RcNeAt.int_int _ t _ t'
 keep _ h:=h
theorem dq(x y:Str):decide (x=y)=(x==y):=by
 rw [Bool.eq_iff_iff]
 simp
def cStr:Cod Str where
 n:=0
 rp _ _ i v:=v=.str i
 inj _ _ h1 h2:=by
  rw [h1] at h2
  exact V.str.inj h2
 eq h1 h2:=by
  intro P w A s u v _ _ _ r1 r2
  subst h1 h2
  obtain ⟨t,rfl⟩:=r1
  obtain ⟨t',rfl⟩:=r2
  rw [dq]
  exact SeqAt.EqAt.str_str _ t _ t'
 rc h1 h2:=by
  intro P w A s u v _ _ _ r1 r2
  subst h1 h2
  obtain ⟨t,rfl⟩:=r1
  obtain ⟨t',rfl⟩:=r2
  rw [dq]
  exact SeqAt.RcAt.str_str _ t _ t'
 ne h1 h2:=by
  intro P w A s u v _ _ _ r1 r2
  subst h1 h2
  obtain ⟨t,rfl⟩:=r1
  obtain ⟨t',rfl⟩:=r2
  rw [dq]
  exact SeqAt.RcNeAt.str_str _ t _ t'
 keep _ h:=h
section
variable {α β γ:Type} [DecidableEq α] [DecidableEq β] [DecidableEq γ]
def DS(f:β->α)(hf:∀x y,f x=f y->x=y)(c:Cod α):Cod β where
 n:=c.n
 rp K H x v:=c.rp K H (f x) v
 inj h1 h2 h3 h4:=hf _ _ (c.inj h1 h2 h3 h4)
 eq {K H x y u v} h1 h2:=by
  have e:decide (x=y)=decide (f x=f y):=decide_eq_decide.mpr ⟨λz=>by rw [z],λz=>hf _ _ z⟩
  rw [e]
  exact c.eq h1 h2
 rc {K H x y u v} h1 h2:=by
  have e:decide (x=y)=decide (f x=f y):=decide_eq_decide.mpr ⟨λz=>by rw [z],λz=>hf _ _ z⟩
  rw [e]
  exact c.rc h1 h2
 ne {K H x y u v} h1 h2:=by
  have e:decide (x=y)=decide (f x=f y):=decide_eq_decide.mpr ⟨λz=>by rw [z],λz=>hf _ _ z⟩
  rw [e]
  exact c.ne h1 h2
 keep h1 h2:=c.keep h1 h2
def rT2(c:Cod α)(d:Cod β)(K:Frag)(H:Hp)(x:α×β)(v:V):Prop:=∃a u w,v=.ref a/\SqU K H a [u,w]/\c.rp K H x.1 u/\d.rp K H x.2 w
theorem tM{c:Cod α}{d:Cod β}{P:Program}{w:World}{K:Frag}{H:Hp}{h:Heap}{x y:α×β}{v:V}(f:HOk P w H h)(g:K.In h)(h1:rT2 c d K H x v)(r:rT2 c d K H y v):x=y:=by
 obtain ⟨a,u,t,rfl,l,m,o⟩:=h1
 obtain ⟨b,C,D,e,q,i,j⟩:=r
 cases e
 have z:=tf f g l.sq q.sq
 cases z
 exact Prod.ext (c.inj f g m i) (d.inj f g o j)
theorem rY{c:Cod α}{d:Cod β}{K:Frag}{H:Hp}{x y:α×β}{u v:V}(h1:rT2 c d K H x u)(w:rT2 c d K H y v) :
  rn K (max c.n d.n+1) H u v (decide (x=y))/\vv K (max c.n d.n+1) H u v (decide (x=y)):=by
 obtain ⟨a,u,t,rfl,l,m,o⟩:=h1
 obtain ⟨b,z,C,rfl,r,h,i⟩:=w
 have T:=vL (n:=max c.n d.n) (e:=λj=>if j=0 then decide (x.1=y.1) else decide (x.2=y.2)) l.sq r.sq rfl (λj p q f g=>by
  match j,f,g with
  | 0,f,g=>cases f;cases g;exact (c.eq m h).mono (Nat.le_max_left _ _)
  | 1,f,g=>cases f;cases g;exact (d.eq o i).mono (Nat.le_max_right _ _))
 have e:((List.range ([u,t]:List V).length).all λj=>if j=0 then decide (x.1=y.1) else decide (x.2=y.2))=decide (x=y):=by
  show (decide (x.1=y.1)&&(decide (x.2=y.2)&&true))=decide (x=y)
  rw [Bool.and_true,← Bool.decide_and]
  exact decide_eq_decide.mpr (Prod.ext_iff (x:=x) (y:=y)).symm
 rw [e] at T
 exact T
def cT2(c:Cod α)(d:Cod β):Cod (α×β) where
 n:=max c.n d.n+1
 rp:=rT2 c d
 inj:=tM
 rc h1 h2:=(rY h1 h2).1
 ne h1 h2:=(rY h1 h2).2
 eq {K H x y u v} h1 h2:=by
  have r:=(rY h1 h2).1
  have i:=λP w h hok kin=>tM (c:=c) (d:=d) (P:=P) (w:=w) (K:=K) (H:=H) (h:=h) (x:=x) (y:=y) (v:=v) hok kin
  obtain ⟨a,_,_,rfl,_⟩:=id h1
  obtain ⟨b,_,_,rfl,_⟩:=id h2
  refine mW r λP w h hok kin e=>?_
  subst e
  exact τ (i P w h hok kin h1 h2)
 keep e h:=let ⟨a,u,w,h1,h2,h3,h4⟩:=h;⟨a,u,w,h1,h2.keep e,c.keep e h3,d.keep e h4⟩
def rT3(c:Cod α)(d:Cod β)(f:Cod γ)(K:Frag)(H:Hp)(x:α×β×γ)(v:V):Prop:=∃a u w z,v=.ref a/\SqU K H a [u,w,z]/\c.rp K H x.1 u/\d.rp K H x.2.1 w/\f.rp K H x.2.2 z
theorem tL{c:Cod α}{d:Cod β}{f:Cod γ}{P:Program}{w:World}{K:Frag}{H:Hp}{h:Heap}{x y:α×β×γ}{v:V}(g:HOk P w H h)(i:K.In h)(h1:rT3 c d f K H x v)(G:rT3 c d f K H y v):x=y:=by
 obtain ⟨a,u,t,z,rfl,o,r,C,D⟩:=h1
 obtain ⟨b,I,J,L,e,F,j,l,m⟩:=G
 cases e
 have q:=tf g i o.sq F.sq
 cases q
 exact Prod.ext (c.inj g i r j) (Prod.ext (d.inj g i C l) (f.inj g i D m))
theorem rX{c:Cod α}{d:Cod β}{f:Cod γ}{K:Frag}{H:Hp}{x y:α×β×γ}{u v:V}(h1:rT3 c d f K H x u)(F:rT3 c d f K H y v) :
  rn K (max c.n (max d.n f.n)+1) H u v (decide (x=y))/\vv K (max c.n (max d.n f.n)+1) H u v (decide (x=y)):=by
 obtain ⟨a,u,t,z,rfl,o,r,w,C⟩:=h1
 obtain ⟨b,G,I,J,rfl,D,i,l,m⟩:=F
 have T:=vL (n:=max c.n (max d.n f.n)) (e:=λj=>if j=0 then decide (x.1=y.1) else if j=1 then decide (x.2.1=y.2.1) else decide (x.2.2=y.2.2)) o.sq D.sq rfl (λj p q g h=>by
  match j,g,h with
  | 0,g,h=>cases g;cases h;exact (c.eq r i).mono (Nat.le_max_left _ _)
  | 1,g,h=>cases g;cases h;exact (d.eq w l).mono (Λ (Nat.le_max_left _ _) (Nat.le_max_right _ _))
  | 2,g,h=>cases g;cases h;exact (f.eq C m).mono (Λ (Nat.le_max_right _ _) (Nat.le_max_right _ _)))
 have e:((List.range ([u,t,z]:List V).length).all λj=>if j=0 then decide (x.1=y.1) else if j=1 then decide (x.2.1=y.2.1) else decide (x.2.2=y.2.2))=decide (x=y):=by
  show (decide (x.1=y.1)&&(decide (x.2.1=y.2.1)&&(decide (x.2.2=y.2.2)&&true)))=decide (x=y)
  rw [Bool.and_true,← Bool.decide_and,← Bool.decide_and]
  refine decide_eq_decide.mpr ⟨λz=>Prod.ext z.1 (Prod.ext z.2.1 z.2.2),λz=>?_⟩
  rw [z]
  exact ⟨ϱ,ϱ,ϱ⟩
 rw [e] at T
 exact T
def cT3(c:Cod α)(d:Cod β)(f:Cod γ):Cod (α×β×γ) where
 n:=max c.n (max d.n f.n)+1
 rp:=rT3 c d f
 inj:=tL
 rc h1 h2:=(rX h1 h2).1
 ne h1 h2:=(rX h1 h2).2
 eq {K H x y u v} h1 h2:=by
  have r:=(rX h1 h2).1
  have i:=λP w h hok kin=>tL (c:=c) (d:=d) (f:=f) (P:=P) (w:=w) (K:=K) (H:=H) (h:=h) (x:=x) (y:=y) (v:=v) hok kin
  obtain ⟨a,_,_,_,rfl,_⟩:=id h1
  obtain ⟨b,_,_,_,rfl,_⟩:=id h2
  refine mW r λP w h hok kin e=>?_
  subst e
  exact τ (i P w h hok kin h1 h2)
 keep e h:=let ⟨a,u,w,z,h1,h2,h3,h4,h5⟩:=h;⟨a,u,w,z,h1,h2.keep e,c.keep e h3,d.keep e h4,f.keep e h5⟩
end
section
variable {α:Type} [DecidableEq α] {K:Frag}{H:Hp}
theorem _root_.PySem.Paired.get{β γ:Type}{R:β->γ->Prop}:∀{xs:List β} {us:List γ},Paired R xs us->∀{j:Nat} {u:γ},us[j]?=some u->∃x,xs[j]?=some x/\R x u
 | _,_,.nil,j,u,e=>by simp at e
 | _,_,.cons r t,0,u,e=>by simp at e;subst e;exact ⟨_,rfl,r⟩
 | _,_,.cons r t,j+1,u,e=>PySem.Paired.get t (j:=j) (by simpa using e)
theorem _root_.PySem.Paired.get1{β γ:Type}{R:β->γ->Prop}:∀{xs:List β} {us:List γ},Paired R xs us->∀{j:Nat} {x:β},xs[j]?=some x->∃u,us[j]?=some u/\R x u
 | _,_,.nil,j,u,e=>by simp at e
 | _,_,.cons r t,0,u,e=>by simp at e;subst e;exact ⟨_,rfl,r⟩
 | _,_,.cons r t,j+1,u,e=>PySem.Paired.get1 t (j:=j) (by simpa using e)
theorem _root_.PySem.Paired.len{β γ:Type}{R:β->γ->Prop}:∀{xs:List β} {us:List γ},Paired R xs us->xs.length=us.length
 | _,_,.nil=>rfl
 | _,_,.cons r t=>by simp [PySem.Paired.len t]
theorem _root_.PySem.Paired.app{β γ:Type}{R:β->γ->Prop}:∀{xs ys:List β} {us vs:List γ},Paired R xs us->Paired R ys vs->Paired R (xs++ys) (us++vs)
 | _,_,_,_,.nil,s=>s
 | _,_,_,_,.cons r t,s=>.cons r (PySem.Paired.app t s)
theorem pM{xs ys:List α}{n:Nat}(h1:xs.length=n)(b:ys.length=n):((List.range n).all λj=>decide (xs[j]?=ys[j]?))=decide (xs=ys):=by
 rw [Bool.eq_iff_iff,List.all_eq_true,decide_eq_true_eq]
 constructor
 ·intro h
  apply List.ext_getElem?
  intro i
  by_cases hi:i<n
  ·exact Ξ (h i (List.mem_range.mpr hi))
  ·rw [List.getElem?_eq_none ω,List.getElem?_eq_none ω]
 ·intro h i _
  rw [h]
  exact τ rfl
theorem xF{c:Cod α}{a b:Addr}{us vs:List V}{xs ys:List α}(ha:SqL K H a us)(hb:SqL K H b vs)(Z:Paired (c.rp K H) xs us)(py:Paired (c.rp K H) ys vs) :
  rn K (c.n+1) H (.ref a) (.ref b) (decide (xs=ys))/\vv K (c.n+1) H (.ref a) (.ref b) (decide (xs=ys)):=by
 have f:∀(P:Program) (w:World) (A:Around) (s:Shared) (u v:Value),A.units+(c.n+1)<cLine->HOk P w H s.heap->K.In s.heap->RelV (.ref a) u->RelV (.ref b) v ->
   SeqAt.RcAt A s u v (decide (xs=ys))/\SeqAt.RcNeAt A s u v (!decide (xs=ys)):=by
  intro P w A s u v hA h i r1 r2
  cases r1
  cases r2
  obtain ⟨g,L,r,_⟩:=tj h i ha
  obtain ⟨l,O,C,_⟩:=tj h i hb
  have l1:=L.length
  have l2:=O.length
  have m1:=Z.len
  have m2:=py.len
  by_cases hl:g.length=l.length
  ·have d:∀j (h1:j<g.toArray.size) (m:j<l.toArray.size),SeqAt.EqAt A.in1 s g.toArray[j] l.toArray[j] (decide (xs[j]?=ys[j]?)):=λj h1 m=>by
    have D:j<g.length:=by simpa using h1
    have F:j<l.length:=by simpa using m
    have W:us[j]?=some us[j]:=ξ ω
    have X:vs[j]?=some vs[j]:=ξ ω
    obtain ⟨u,Q,ru⟩:=L.get W
    obtain ⟨v,U,rv⟩:=O.get X
    obtain ⟨x,ex,rx⟩:=Z.get W
    obtain ⟨y,ey,ry⟩:=py.get X
    have q:=c.eq rx ry P w A.in1 s u v (by show A.units+1+c.n<cLine;omega) h i ru rv
    have z1:g.toArray[j]=u:=by
     rw [ξ D] at Q
     simpa using Option.some.inj Q
    have z2:l.toArray[j]=v:=by
     rw [ξ F] at U
     simpa using Option.some.inj U
    rw [z1,z2,ex,ey]
    have e:decide ((some x:Option α)=some y)=decide (x=y):=decide_eq_decide.mpr ⟨λz=>Δ z,λz=>by rw [z]⟩
    rw [e]
    exact q
   have Y:(List.range g.toArray.size).all (λj=>decide (xs[j]?=ys[j]?))=decide (xs=ys):=pM (by rw [List.size_toArray];omega) (by rw [List.size_toArray];omega)
   constructor
   ·have q:=SeqAt.RcAt.lists (A:=A) (s:=s) r.isList C.isList (by simpa using hl) ω d
    rw [Y] at q
    exact q
   ·have q:=SeqAt.RcNeAt.lists (A:=A) (s:=s) r.isList C.isList (by simpa using hl) ω d
    rw [Y] at q
    exact q
  ·have o:(g.toArray.size != l.toArray.size)=true:=by simpa using hl
   have e:decide (xs=ys)=false:=Γ λz=>hl (by rw [← l1,← l2,← m1,← m2,z])
   rw [e]
   exact ⟨SeqAt.RcAt.lists_lengths r.isList C.isList o ω,SeqAt.RcNeAt.lists_lengths r.isList C.isList o ω⟩
 exact ⟨λP w A s u v h1 m G I J=>(f P w A s u v h1 m G I J).1,λP w A s u v h1 m G I J=>(f P w A s u v h1 m G I J).2⟩
end
section
variable {X:Cx}{α:Type} [DecidableEq α]
theorem hun{c:Nat}{k:Nat}{A:Around}(b:Room k A)(h:c<=60:=by decide):A.units+c+1<cLine:=by
 have:=b.units
 omega
theorem wQ(c:Cod α)(j:X.A.units+c.n+1<cLine):OpR X (compareOp .Eq) (λx y H Q=>∃a b,c.rp X.K H a x/\c.rp X.K H b y/\Q (.bl (decide (a=b))) H):=by
 intro d s σ H x y v u Q I g i h
 obtain ⟨a,b,e,f,q⟩:=h
 exact c.rc e f X.prog X.w X.A s v u ω I.hok I.kIn g i X.prog X.w X.xe _ ⟨.bl _,H,I,ϱ,q⟩
theorem wL(c:Cod α)(j:X.A.units+c.n+1<cLine):OpR X (compareOp .NotEq) (λx y H Q=>∃a b,c.rp X.K H a x/\c.rp X.K H b y/\Q (.bl (!decide (a=b))) H):=by
 intro d s σ H x y v u Q I g i h
 obtain ⟨a,b,e,f,q⟩:=h
 exact c.ne e f X.prog X.w X.A s v u ω I.hok I.kIn g i X.prog X.w X.xe _ ⟨.bl _,H,I,ϱ,q⟩
def yu(c:Cod α)(K:Frag)(H:Hp)(xs:List α)(v:V):Prop:=∃a us,v=.ref a/\SqL K H a us/\Paired (c.rp K H) xs us
theorem pS(c:Cod α)(o:X.A.units+c.n+1<cLine):OpR X (compareOp .Eq) (λx y H Q=>∃xs ys,yu c X.K H xs x/\yu c X.K H ys y/\Q (.bl (decide (xs=ys))) H):=by
 intro d s σ H x y v u Q I j l h
 obtain ⟨xs,ys,⟨a,m,rfl,e,f⟩,⟨b,vs,rfl,g,i⟩,q⟩:=h
 exact (xF e g f i).1 X.prog X.w X.A s v u ω I.hok I.kIn j l X.prog X.w X.xe _ ⟨.bl _,H,I,ϱ,q⟩
theorem wK(c:Cod α)(o:X.A.units+c.n+1<cLine):OpR X (compareOp .NotEq) (λx y H Q=>∃xs ys,yu c X.K H xs x/\yu c X.K H ys y/\Q (.bl (!decide (xs=ys))) H):=by
 intro d s σ H x y v u Q I j l h
 obtain ⟨xs,ys,⟨a,m,rfl,e,f⟩,⟨b,vs,rfl,g,i⟩,q⟩:=h
 exact (xF e g f i).2 X.prog X.w X.A s v u ω I.hok I.kIn j l X.prog X.w X.xe _ ⟨.bl _,H,I,ϱ,q⟩
noncomputable def eqR(c:Cod α)(K:Frag)(H:Hp)(a:α)(u:Value):Bool:=@decide (∃v,RelV v u/\c.rp K H a v) (Classical.propDecidable _)
theorem xT{c:Cod α}{P:Program}{w:World}{K:Frag}{H:Hp}{h:Heap}{a z:α}{v:V}{u:Value}(b:HOk P w H h)(d:K.In h)(r:RelV v u)(q:c.rp K H z v):eqR c K H a u=decide (z=a):=by
 unfold eqR
 by_cases e:z=a
 ·subst e
  rw [τ (show z=z from rfl)]
  exact @decide_eq_true _ (Classical.propDecidable _) ⟨v,r,q⟩
 ·rw [Γ e]
  refine @decide_eq_false _ (Classical.propDecidable _) λ⟨i,f,g⟩=>e ?_
  have:=r.inj f
  subst this
  exact c.inj b d q g
theorem jx{c:Cod α}{P:Program}{w:World}{K:Frag}{H:Hp}{h:Heap}{a:α}(hok:HOk P w H h)(kin:K.In h):∀{xs:List α} {us:List V} {its:List Value},Paired (c.rp K H) xs us->Vals us its->its.any (eqR c K H a)=decide (a∈xs)
 | _,_,_,.nil,.nil=>by simp
 | x::xs,_,_,.cons p t,.cons r s=>by
  rw [List.any_cons,xT hok kin r p,jx hok kin t s,Bool.eq_iff_iff]
  simp only [Bool.or_eq_true,decide_eq_true_eq,List.mem_cons]
  exact ⟨λz=>z.elim (λe=>.inl e.symm) .inr,λz=>z.elim (λe=>.inl e.symm) .inr⟩
theorem jk{c:Cod α}{P:Program}{w:World}{A:Around}{s:Shared}{K:Frag}{H:Hp}{a:α}{x:V}{v:Value}(hok:HOk P w H s.heap)(kin:K.In s.heap)(hA:A.units+c.n<cLine)(rx:RelV x v)(qx:c.rp K H a x) :
  ∀{xs:List α} {us:List V} {its:List Value},Paired (c.rp K H) xs us->Vals us its->∀u∈its,SeqAt.EqAt A s u v (eqR c K H a u)
 | _,_,_,.nil,.nil=>λu hu=>by cases hu
 | _,_,_,.cons p t,.cons r q=>λu' hu=>by
  rcases ϕ.mp hu with rfl | hu
  ·rw [xT hok kin r p]
   exact c.eq p qx P w A s _ v hA hok kin r rx
  ·exact jk hok kin hA rx qx t q u' hu
def DJ(c:Cod α)(K:Frag):R2:=λx y H Q=>∃a p us xs,c.rp K H a x/\y=.ref p/\(SqL K H p us\/SqT K H p us)/\Paired (c.rp K H) xs us/\Q (.bl (decide (a∈xs))) H
def CU(c:Cod α)(K:Frag):R2:=λx y H Q=>∃a p us xs,c.rp K H a x/\y=.ref p/\(SqL K H p us\/SqT K H p us)/\Paired (c.rp K H) xs us/\Q (.bl (!decide (a∈xs))) H
theorem wO(c:Cod α)(C:X.A.units+c.n+1<cLine):OpR X (compareOp .In) (DJ c X.K):=by
 intro i s σ H x y v u Q I j m h
 obtain ⟨a,p,o,z,g,rfl,hq,d,q⟩:=h
 cases m
 rcases hq with hq | hq
 ·obtain ⟨b,r,e,l⟩:=I.list hq
  refine SeqAt.in_listAt (eqR c X.K H a) e.isList (λw f=>jk I.hok I.kIn (by show X.A.units+1+c.n<cLine;omega) j g d r w (by simpa using f)) ⟨.bl _,H,I,ϱ,?_⟩
  rw [show b.toArray.any (eqR c X.K H a)=b.any (eqR c X.K H a) by simp,jx I.hok I.kIn d r]
  exact q
 ·obtain ⟨b,r,e,l⟩:=I.tuple hq
  refine SeqAt.in_tupleAt (eqR c X.K H a) e (λw f=>jk I.hok I.kIn (by show X.A.units+1+c.n<cLine;omega) j g d r w (by simpa using f)) ⟨.bl _,H,I,ϱ,?_⟩
  rw [show b.toArray.any (eqR c X.K H a)=b.any (eqR c X.K H a) by simp,jx I.hok I.kIn d r]
  exact q
theorem uR(c:Cod α)(C:X.A.units+c.n+1<cLine):OpR X (compareOp .NotIn) (CU c X.K):=by
 intro i s σ H x y v u Q I j m h
 obtain ⟨a,p,o,z,g,rfl,hq,d,q⟩:=h
 cases m
 rcases hq with hq | hq
 ·obtain ⟨b,r,e,l⟩:=I.list hq
  refine SeqAt.notIn_listAt (eqR c X.K H a) e.isList (λw f=>jk I.hok I.kIn (by show X.A.units+1+c.n<cLine;omega) j g d r w (by simpa using f)) ⟨.bl _,H,I,ϱ,?_⟩
  rw [show b.toArray.any (eqR c X.K H a)=b.any (eqR c X.K H a) by simp,jx I.hok I.kIn d r]
  exact q
 ·obtain ⟨b,r,e,l⟩:=I.tuple hq
  refine SeqAt.notIn_tupleAt (eqR c X.K H a) e (λw f=>jk I.hok I.kIn (by show X.A.units+1+c.n<cLine;omega) j g d r w (by simpa using f)) ⟨.bl _,H,I,ϱ,?_⟩
  rw [show b.toArray.any (eqR c X.K H a)=b.any (eqR c X.K H a) by simp,jx I.hok I.kIn d r]
  exact q
end
section
variable {X:Cx}
theorem re(hc:X.calm=true):cV X (.builtin "any") (λxs H Q=>∃(p:Addr) (bs:List Bool),xs=[.ref p]/\SqL X.K H p (bs.map V.bl)/\Q (.bl (bs.any id)) H):=by
 intro D s σ H xs us Q I r h
 obtain ⟨p,bs,rfl,F,q⟩:=h
 obtain ⟨u,rfl,G⟩:=dm r
 cases (show u=Value.ref p from G)
 obtain ⟨d,z,J,hz⟩:=I.list F
 have w:=J.isList
 have x:p<s.heap.objs.size:=by obtain ⟨_,e,_⟩:=w;exact η e
 have O:X.A.handled=none:=I.ok.hd hc
 have j:bs.length=d.length:=by have:=z.length;rw [ν] at this;exact this
 refine call_any_walk (wpAny_pyIter_list w ?_)
 refine ⟨s.heap.objs.size,[s.heap.objs.size,p],[s.heap.objs.size],d.toArray.size,_,_,λi=>(bs[i]?).getD false,ϱ,Walks.list (A:=X.A.in1) O _ p (Φ x) d.toArray,
  ⟨⟨_,ψ _ rfl,ϱ,ϱ⟩,w.push _⟩,λi v P U E' W Y=>?_,λh' tk Z=>?_⟩
 ·have l:d[i]?=some v:=by simpa using W
  have g:i<d.length:=(List.getElem?_eq_some_iff.mp l).1
  have f:(bs.map V.bl)[i]?=some (V.bl (bs[i]'(ω))):=by rw [List.getElem?_map,ξ ω];rfl
  obtain ⟨u',C,L⟩:=z.get f
  rw [l] at C
  cases C
  cases (show v=Value.bool _ from L)
  have m:U ((bs[i]?).getD false) P:=Y
  rw [ξ ω] at m
  exact wpAny_truthy_bool m
 ·have e:((List.range d.toArray.size).any λi=>(bs[i]?).getD false)=bs.any id:=by
   rw [List.size_toArray,← j,Bool.eq_iff_iff,List.any_eq_true,List.any_eq_true]
   constructor
   ·rintro ⟨i,g,f⟩
    have o:=List.mem_range.mp g
    rw [ξ o] at f
    exact ⟨bs[i],List.getElem_mem o,f⟩
   ·rintro ⟨b,f,y⟩
    obtain ⟨i,g,e⟩:=List.getElem_of_mem f
    refine ⟨i,List.mem_range.mpr g,?_⟩
    rw [ξ g,e]
    exact y
  rw [e]
  exact ⟨.bl _,H,I.kept (LSm.kept_iter Z),ϱ,q⟩
theorem CI:PySem.W.kas_sort 2=PySem.W.KasT.ask 1 0 λc=>if c=true then PySem.W.KasT.ret #[1,0] else PySem.W.KasT.ret #[0,1]:=by
 show PySem.W.KasT.ask _ _ _=_
 congr 1
 funext c
 cases c<;>rfl
theorem pZ:cV X (.builtin "sorted") (λxs H Q=>∃p a b,xs=[.ref p]/\SqL X.K H p [.str a,.str b]/\∀l,H l=none->Q (.ref l) (upd H l (.lst (if b.cps.toList<a.cps.toList then [.str b,.str a] else [.str a,.str b])))):=by
 intro j s σ H xs us Q I r h
 obtain ⟨p,a,b,rfl,hq,q⟩:=h
 obtain ⟨u,rfl,rx⟩:=dm r
 cases (show u=Value.ref p from rx)
 obtain ⟨a8,rv,pl,hz⟩:=I.list hq
 obtain ⟨u1,u2,rfl,r1,r2⟩:=rv.two
 obtain ⟨L,rfl⟩:=r1
 obtain ⟨O,rfl⟩:=r2
 obtain ⟨m,hn,_⟩:=id I.loc
 have i:∀c o,c≠X.env.locals->s.heap.get? c=some o->(c,o)∈Att.gE s.heap X.env.locals X.env.locals:=λc o g e=>Att.mem_ledger.mpr ⟨g,g,e⟩
 have N:News (Att.fD s.heap) X.env.locals s.heap (Att.gE s.heap X.env.locals X.env.locals):=λ⟨c,o⟩ U=>by
  obtain ⟨g,_,e⟩:=Att.mem_ledger.mp U
  exact ⟨e,g,Att.eR _ _⟩
 refine PySem.W.kas_sorted (T:=.type "str") (Att.xP hn) N (vs:=[.str a L,.str b O]) pl.isList (by show 2<=2;decide) (by show 2<64;decide) (λh' _ _ v hv=>?_) rfl (λD e1 h' F' N' J=>?_)
 ·rcases ϕ.mp hv with e | hv
  ·subst e;exact PySem.W.Looks.of_pure rfl
  ·rcases ϕ.mp hv with e | hv
   ·subst e;exact PySem.W.Looks.of_pure rfl
   ·cases hv
 ·show (PySem.W.kas_sort 2).kasWp _ _ _
  rw [CI]
  show PySem.wpAny _ _ _ _ _ _
  refine PySem.W.kas_lt_str ?_
  have fin:∀(out:List Value) (x:List V),Vals x out->x.length=2->Q (.ref D) (upd H D (.lst x)) ->
    PySem.W.KasFin (Att.fD s.heap) X.env.locals m D e1 out (λY=>EP X j σ Q (.ref D) Y) {s with heap:=h'}:=λout x hv Z hQ=>by
   refine PySem.W.KasFin.intro F' N' (.head λp U=>Φ (J p U)) λF c2 F2 N2=>?_
   have keep:∀c o,c≠X.env.locals->s.heap.get? c=some o->F.get? c=some o:=λc o g e=>(N2 (c,o) (Θ _ (i c o g e))).1
   have eD:F.get? D=some (PySem.W.listOf (List.toArray out) c2):=(N2 (D,_) Ω).1
   have nD:D≠X.env.locals:=(N2 (D,_) Ω).2.1
   have fresh:∀c o,s.heap.get? c=some o->c≠D:=λc o e z=>by
    subst z
    exact absurd (J _ (i c o nD e)) (Nat.lt_irrefl _)
   have f:H D=none:=by
    cases z:H D with
    | none=>rfl
    | some o =>
     obtain ⟨y,e⟩:=(I.hok D o z).there
     exact absurd rfl (fresh D y e)
   have P:HOk X.prog X.w (upd H D (.lst x)) F:=λc o e=>by
    by_cases hc:c=D
    ·subst hc
     rw [ae] at e
     cases e
     exact ⟨by rw [Z];decide,out,c2,hv,eD⟩
    ·rw [ao hc] at e
     have C:c≠X.env.locals:=λz=>by rw [z,I.free] at e;cases e
     refine (I.hok c o e).stay (λd v hd q=>keep d v (λz=>?_) q) (λd q=>by rw [ao (λz=>by rw [z,f] at q;cases q)];exact q) λd xs q=>by rw [ao (λz=>by rw [z,f] at q;cases q)];exact q
     rcases hd with hd | hd
     ·exact C (hd.symm.trans z)
     ·rw [z,I.free] at hd;cases hd
   refine ⟨.ref D,upd H D (.lst x),?_,ϱ,hQ⟩
   show Inv X j σ (upd H D (.lst x)) {s with heap:=F}
   refine I.step (h':=F) (g':=s.gens) (d':=s.drawn) (t':=s.toks) (ch:=[]) (λ_ z=>nomatch z) (λc o g _ _ e _=>keep c o g e) (λc o g _ _ e _=>⟨o.slots,keep c o g e⟩) (λc o _ e n=>by rw [ao (fresh c o e)];exact n)
    (λc o _ e=>?_) (λc xs e=>by rw [ao (ap e f)];exact e) (λc o u e=>by rw [ao (ap e f)];exact e) (λc ps e=>⟨#[],by rw [ao (ap e f),e];simp⟩) (λm' a1=>?_) P I.bare
   ·by_cases hc:c=X.env.locals
    ·obtain ⟨o',_,_,e',_⟩:=F2.ns
     exact ⟨o',hc▸e'⟩
    ·exact ⟨o,keep c o hc e⟩
   ·have e:m'=m:=funext λG=>a1.agree hn G
    rw [e]
    exact F2.ns
  by_cases hlt:b.cps.toList<a.cps.toList
  ·rw [τ hlt]
   rw [if_pos hlt] at q
   refine fin [.str b O,.str a L] [.str b,.str a] (.cons ⟨_,ϱ⟩ (.cons ⟨_,ϱ⟩ .nil)) rfl (q D ?_)
   cases z:H D with
   | none=>rfl
   | some o =>
    obtain ⟨y,e⟩:=(I.hok D o z).there
    have C:D≠X.env.locals:=λz'=>by rw [z',I.free] at z;cases z
    exact absurd (J _ (i D y C e)) (Nat.lt_irrefl _)
  ·rw [Γ hlt]
   rw [if_neg hlt] at q
   refine fin [.str a L,.str b O] [.str a,.str b] (.cons ⟨_,ϱ⟩ (.cons ⟨_,ϱ⟩ .nil)) rfl (q D ?_)
   cases z:H D with
   | none=>rfl
   | some o =>
    obtain ⟨y,e⟩:=(I.hok D o z).there
    have C:D≠X.env.locals:=λz'=>by rw [z',I.free] at z;cases z
    exact absurd (J _ (i D y C e)) (Nat.lt_irrefl _)
def yf:KTD.Dat->Value->Bool
 | .flat d,v=>KTD.flatLooks d v
 | _,_=>false
theorem z4{h:Heap}:∀(d:KTD.Dat) (v:Value),yf d v=true->d.At h v
 | .flat d,v,e=>KTD.flat_of_looks (d:=d) e
 | .float _,_,e=>by cases e
 | .nums _,_,e=>by cases e
 | .words _,_,e=>by cases e
 | .tup _,_,e=>by cases e
 | .tab _,_,e=>by cases e
def TabK(K:Frag)(a:Addr)(D:List (Str×KTD.Dat)):Prop:=KTD.tabLook yf (λb=>K.lookup b) a D=true
theorem TabK.at{K:Frag}{a:Addr}{D:List (Str×KTD.Dat)}{h:Heap}(t:TabK K a D)(kin:K.In h):KTD.TextTab h a D:=KTD.tab_of_look z4 (λa o e=>kin a o e) t
theorem pV{h₀:Heap}{k:Str}{Pr:Value->Prop}:∀{D:List (Str×KTD.Dat)} {d:KTD.Dat},KTD.datumAt k D=some d->KTD.Opened h₀ Pr d->KTD.EachL h₀ k Pr D
 | [],_,e,_=>by cases e
 | (x,d')::D,d,e,o=>by
  have e':(if decide (k=x)=true then some d' else KTD.datumAt k D)=some d:=e
  by_cases hx:k=x
  ·rw [if_pos (τ hx)] at e'
   cases e'
   exact KTD.eachL_hit hx o
  ·rw [if_neg (by simp [hx])] at e'
   exact KTD.eachL_miss hx (pV e' o)
theorem t8{D:List (Str×KTD.Dat)}:IxR X (λx y H Q=>∃a k i,x=.ref a/\y=.str k/\TabK X.K a D/\KTD.datumAt k D=some (.flat (.int i))/\(D.all λp=>KTD.plain p.2)=true/\Q (.int i) H):=by
 intro b d g s σ H x y v u Q I m o h r
 obtain ⟨a,k,i,rfl,rfl,j,f,l,q⟩:=h
 cases m
 obtain ⟨t,rfl⟩:=o
 refine KTD.item_textA (h₀:=s.heap) ⟨j.at I.kIn,λ_ _ e=>e⟩ l ?_ ?_ r
 ·rw [← KTD.isSome_datumAt,f];rfl
 ·exact pV f (KTD.opened_int λw=>⟨.int i,H,I.tok _,⟨_,ϱ⟩,q⟩)
end
section
variable {X:Cx}{α:Type} [DecidableEq α]
theorem pfK(K:Frag)(i:Nat){x f:Str}{b pos:Pos}(e:X.K=K:=by rfl)(g:X.N[i]?=some x:=by rfl)(h:Vis X.env.scope x:=by first | exact Or.inl rfl | exact Or.inr (Or.inl rfl) | exact Or.inr (Or.inr rfl))(j:(x==("__debug__":Str))=false:=by decide)
  (d:(x==("__classdict__":Str))=false:=by decide)(l:attributeBase (.Name x b) f X.env (eval (.Name x b) X.env)=eval (.Name x b) X.env:=by rfl):PE X (.Attribute (.Name x b) f pos) (uE K (rE i) f):=by
 subst e
 exact aq (r8 g h j d) l
theorem pT(K:Frag)(c:Cod α)(d:X.A.units+c.n+1<cLine)(e:X.K=K:=by rfl):OpR X (compareOp .Eq) (λx y H Q=>∃a b,c.rp K H a x/\c.rp K H b y/\Q (.bl (decide (a=b))) H):=by
 subst e
 exact wQ c d
theorem tW(K:Frag)(c:Cod α)(d:X.A.units+c.n+1<cLine)(e:X.K=K:=by rfl):OpR X (compareOp .NotEq) (λx y H Q=>∃a b,c.rp K H a x/\c.rp K H b y/\Q (.bl (!decide (a=b))) H):=by
 subst e
 exact wL c d
end
structure GF(P:Program)(w:World)(K:Frag)(mg:Str->Option Value)(base:Heap)(CX:CXT)(k:Nat)(x:Str)(ps:List Str)(sp:Sp) where
 f:Addr
 fd:FuncData
 ok:FnOk P w K mg base CX k f fd ps sp
 bd:Binds K fd ps []
 kp:PySem.W.keepIn K (.ref f)=true
 mgx:mg x=some (.ref f)
structure GM(P:Program)(w:World)(K:Frag)(mg:Str->Option Value)(base:Heap)(CX:CXT)(k:Nat)(C:Addr)(m:Str)(ps:List Str)(sp:Sp) where
 f:Addr
 fd:FuncData
 ok:FnOk P w K mg base CX k f fd ps sp
 bd:Binds K fd ps []
 me:ir K C m f
section
variable {X:Cx}{CX:CXT}{j k:Nat}{x m:Str}{ps:List Str}{sp:Sp}{E:XK}{p pos apos:Pos}{e o:Expr}{es:List Expr}{t:TA}{ta:TE}{C:Addr}
theorem pc(G:GF X.prog X.w X.K X.mg X.base CX j x ps sp)(hr:Room k X.A)(ha:PA X (e::es) t)(hx:c9 CX X E:=by exact bb)(hk:j<=k:=by decide)(hg:Gl X x:=by rfl)
  (hdb:(x==("__debug__":Str))=false:=by decide)(he:starEach (e::es) X.env=(false,eval e X.env)::starEach es X.env:=by rfl)(hpl:(backTo pos (starEach es X.env)).any (·.1)=false:=by rfl) :
  PE X (.Call (.Name x p) (e::es) [] pos) (vV sp [] E t):=tU G.ok (hr.mono hk) hg G.mgx G.kp G.bd .nil hx ha hdb he hpl
theorem pm{pl:Sem Bool}(G:GM X.prog X.w X.K X.mg X.base CX j C m ps sp)(ho:PE X o ta)(cl:Cls X.K C)(hr:Room k X.A)(ha:PA X (e::es) t)(hx:c9 CX X E:=by exact bb)(hk:j<=k:=by decide)
  (hst:starEach (e::es) X.env=(false,eval e X.env)::starEach es X.env:=by rfl)(hpl:(backTo pos (starEach es X.env)).any (·.1)=false:=by rfl)
  (ht:eval (.Call (.Attribute o m apos) (e::es) [] pos) X.env=(do
   let ov ← eval o X.env
   standAt apos.atName
   let (f,first) ← holding [ov] (getMethod ov m pl)
   callWith pos f first (backTo pos (starEach (e::es) X.env)) (backToKw pos (keywordEach [] X.env))):=by rfl) :
  PE X (.Call (.Attribute o m apos) (e::es) [] pos) (sW C m sp [] E ta t):=jj ho cl G.me G.ok (hr.mono hk) G.bd .nil hx ha hst hpl ht
theorem pm0{pl:Sem Bool}(G:GM X.prog X.w X.K X.mg X.base CX j C m ps sp)(ho:PE X o ta)(cl:Cls X.K C)(hr:Room k X.A)(hx:c9 CX X E:=by exact bb)(hk:j<=k:=by decide)
  (ht:eval (.Call (.Attribute o m apos) [] [] pos) X.env=(do
   let ov ← eval o X.env
   standAt apos.atName
   let (f,first) ← holding [ov] (getMethod ov m pl)
   callWith pos f first (backTo pos (starEach [] X.env)) (backToKw pos (keywordEach [] X.env))):=by rfl) :
  PE X (.Call (.Attribute o m apos) [] [] pos) (sW C m sp [] E ta vU):=jh ho cl G.me G.ok (hr.mono hk) G.bd .nil hx ht
end
section
variable {K:Frag}{a:Addr}{xs:List V}{tt:TT}{te:TE}{bl:St}{Fin:List V->Hp->Prop}{H:Hp}
theorem cJ(b:Nat->List V->Hp->Prop)(h0:b 0 [] H)(h:xs.length<=sizeLine)(j:∀i ys H,i<=xs.length->b i ys H->SqL K H a xs)
  (l:∀i x ys H,xs[i]?=some x->b i ys H->tt (some x::bl) H λc H2=>if c=true then te (some x::bl) H2 λy H3=>b (i+1) (ys++[y]) H3 else b (i+1) ys H2)
  (m:∀ys H,b xs.length ys H->Fin ys H) :
  ∃(W:Nat->List V->Hp->Prop) (n:Nat),W 0 [] H/\n<=sizeLine/\∀i ys H,W i ys H->((Itl K a).stop i H/\Fin ys H) \/
   ((Itl K a).go i H/\i<n/\∀x H',(Itl K a).yld i H x H'->tt (some x::bl) H' λc H2=>if c=true then te (some x::bl) H2 λy H3=>W (i+1) (ys++[y]) H3 else W (i+1) ys H2):=by
 refine ⟨λi ys H=>i<=xs.length/\b i ys H,xs.length,⟨ϖ _,h0⟩,h,?_⟩
 rintro i ys H ⟨g,p⟩
 have q:=j i ys H g p
 by_cases hlt:i<xs.length
 ·refine .inr ⟨⟨xs,xs[i],q,by simp [hlt]⟩,hlt,λx H' y=>?_⟩
  obtain ⟨e,y⟩:=y
  subst e
  have z:=l i x ys _ (y xs q) p
  have d:(λ(c:Bool) (H2:Hp)=>if c=true then te (some x::bl) H2 λy H3=>i+1<=xs.length/\b (i+1) (ys++[y]) H3 else i+1<=xs.length/\b (i+1) ys H2)=λc H2=>if c=true then te (some x::bl) H2 λy H3=>b (i+1) (ys++[y]) H3 else b (i+1) ys H2:=by
   have f:(i+1<=xs.length)=True:=eq_true hlt
   funext c H2
   simp only [f,true_and]
  show tt _ _ _
  rw [d]
  exact z
 ·have e:i=xs.length:=by omega
  subst e
  exact .inl ⟨⟨xs,q,ι _⟩,m ys H p⟩
theorem lU{σ:St}{A B:Hp->Prop}(h:A H):CF σ H (λc H2=>if c=true then A H2 else B H2):=by
 show if true=true then A H else B H
 exact @cu (A H) (B H) h
theorem oF{lo:Int}{n:Nat}(b:Nat->List V->Hp->Prop)(h0:b 0 [] H)(g:n<=sizeLine)
  (h:∀(i:Nat) ys H,i<n->b i ys H->tt (some (.int (lo+i))::bl) H λc H2=>if c=true then te (some (.int (lo+i))::bl) H2 λy H3=>b (i+1) (ys++[y]) H3 else b (i+1) ys H2)
  (j:∀ys H,b n ys H->Fin ys H) :
  ∃(W:Nat->List V->Hp->Prop) (m:Nat),W 0 [] H/\m<=sizeLine/\∀i ys H,W i ys H->((Itr lo n).stop i H/\Fin ys H) \/
   ((Itr lo n).go i H/\i<m/\∀x H',(Itr lo n).yld i H x H'->tt (some x::bl) H' λc H2=>if c=true then te (some x::bl) H2 λy H3=>W (i+1) (ys++[y]) H3 else W (i+1) ys H2):=by
 refine ⟨λi ys H=>i<=n/\b i ys H,n,⟨ϖ _,h0⟩,g,?_⟩
 rintro i ys H ⟨l,p⟩
 by_cases hlt:i<n
 ·refine .inr ⟨hlt,hlt,λx H' y=>?_⟩
  obtain ⟨e,y⟩:=y
  subst e
  subst y
  have z:=h i ys _ hlt p
  have d:(λ(c:Bool) (H2:Hp)=>if c=true then te (some (.int (lo+i))::bl) H2 λy H3=>i+1<=n/\b (i+1) (ys++[y]) H3 else i+1<=n/\b (i+1) ys H2)=λc H2=>if c=true then te (some (.int (lo+i))::bl) H2 λy H3=>b (i+1) (ys++[y]) H3 else b (i+1) ys H2:=by
   have f:(i+1<=n)=True:=eq_true hlt
   funext c H2
   simp only [f,true_and]
  show tt _ _ _
  rw [d]
  exact z
 ·have e:i=n:=by omega
  subst e
  exact .inl ⟨ι _,j ys H p⟩
theorem jq{n:Nat}(Pv:Nat->List V->Hp->Prop)(h0:Pv 0 [] H)(hn:n<=sizeLine)
  (hs:∀(i:Nat) ys H,i<n->Pv i ys H->tt (some (.int i)::bl) H λc H2=>if c=true then te (some (.int i)::bl) H2 λy H3=>Pv (i+1) (ys++[y]) H3 else Pv (i+1) ys H2)
  (hd:∀ys H,Pv n ys H->Fin ys H) :
  ∃(W:Nat->List V->Hp->Prop) (m:Nat),W 0 [] H/\m<=sizeLine/\∀i ys H,W i ys H->((Itr 0 n).stop i H/\Fin ys H) \/
   ((Itr 0 n).go i H/\i<m/\∀x H',(Itr 0 n).yld i H x H'->tt (some x::bl) H' λc H2=>if c=true then te (some x::bl) H2 λy H3=>W (i+1) (ys++[y]) H3 else W (i+1) ys H2) :=
 oF (lo:=0) Pv h0 hn (λi ys H hi p=>by rw [Int.zero_add];exact hs i ys H hi p) hd
end
end L2
namespace Lo
open PySem L2
inductive Kd where
 | read | mean | change
 deriving DecidableEq
def kdS:Kd->Str
 | .read=>"read"
 | .mean=>"mean"
 | .change=>"change"
theorem A8:¬(("read":Str)="mean"):=by decide +kernel
theorem A9:¬(("read":Str)="change"):=by decide +kernel
theorem Ba:¬(("mean":Str)="change"):=by decide +kernel
theorem zQ:∀x y,kdS x=kdS y->x=y
 | .read,.read,_=>rfl
 | .mean,.mean,_=>rfl
 | .change,.change,_=>rfl
 | .read,.mean,h=>absurd h A8
 | .read,.change,h=>absurd h A9
 | .mean,.change,h=>absurd h Ba
 | .mean,.read,h=>absurd h.symm A8
 | .change,.read,h=>absurd h.symm A9
 | .change,.mean,h=>absurd h.symm Ba
def rW:Kd->Int
 | .read=>0
 | .mean=>1
 | .change=>2
abbrev Lk:=Kd×Int×Int
abbrev Pa:=Int×Int
abbrev Pr:=Pa×Lk
def ot:Kd->Kd->Bool
 | .read,.read=>true
 | .read,.mean=>true
 | .mean,.read=>true
 | _,_=>false
def aG(a b:Lk):Bool:=(decide (a.2.2<b.2.1)||decide (b.2.2<a.2.1))||ot a.1 b.1
def bH(a b:Lk):Bool:=(decide (a.2.1<=b.2.1)&&decide (b.2.2<=a.2.2))&&decide (rW b.1<=rW a.1)
theorem uK(a b:Kd):decide ((kdS a,kdS b)∈([("read","read"),("read","mean"),("mean","read")]:List (Str×Str)))=ot a b:=by
 cases a<;>cases b<;>decide +kernel
theorem rT(a b:Kd)(i:Decidable ((kdS a,kdS b)∈([("read","read"),("read","mean"),("mean","read")]:List (Str×Str)))):@decide _ i=ot a b:=(decide_eq_decide.mpr Iff.rfl).trans (uK a b)
def vO(k:Lk):Str×Int×Int:=(kdS k.1,k.2)
theorem uC:∀x y,vO x=vO y->x=y:=λx y h=>by
 obtain ⟨a,b⟩:=x
 obtain ⟨c,d⟩:=y
 have h1:=congrArg Prod.fst h
 have h2:=congrArg Prod.snd h
 exact Prod.ext (zQ _ _ h1) h2
def cLk:Cod Lk:=DS vO uC (cT3 cStr cInt cInt)
def cPa:Cod Pa:=cT2 cInt cInt
def cPr:Cod Pr:=cT2 cPa cLk
theorem p8{K:Frag}{H:Hp}{a:Addr}{k:Lk}(h:H a=some (.tup [.str (kdS k.1),.int k.2.1,.int k.2.2])):cLk.rp K H k (.ref a):=⟨a,_,_,_,ϱ,.inl h,ϱ,ϱ,ϱ⟩
theorem iV{K:Frag}{H:Hp}{a:Addr}{k:Pa}(h:H a=some (.tup [.int k.1,.int k.2])):cPa.rp K H k (.ref a):=⟨a,_,_,ϱ,.inl h,ϱ,ϱ⟩
theorem B4{K:Frag}{H:Hp}{a:Addr}{u v:V}{k:Pr}(h:H a=some (.tup [u,v]))(h1:cPa.rp K H k.1 u)(h2:cLk.rp K H k.2 v):cPr.rp K H k (.ref a):=⟨a,u,v,ϱ,.inl h,h1,h2⟩
def Fix(CL:Addr):HO->Prop
 | .tup _=>True
 | .ins C _ _=>C≠CL
 | _=>False
def FSame(CL:Addr)(H H':Hp):Prop:=∀b o,H b=some o->Fix CL o->H' b=some o
theorem FSame.ts{CL:Addr}{H H':Hp}(h:FSame CL H H'):TSame H H':=λb xs e=>h b _ e ϰ
theorem dj{CL:Addr}{H H':Hp}(h:Same H H'):FSame CL H H':=λb o e _=>h b o e
theorem FSame.trans{CL:Addr}{H H1 H2:Hp}(a:FSame CL H H1)(b:FSame CL H1 H2):FSame CL H H2:=λc o e f=>b c o (a c o e f) f
theorem BX{CL:Addr}{H:Hp}{p dx:Addr}{fs:List (Str×V)}{o:HO}(h:H p=some (.ins CL dx fs)):FSame CL H (upd H p o):=λb u e f=>by
 rw [ao (λz=>by rw [z,h] at e;cases e;exact f rfl)]
 exact e
theorem ah{H:Hp}{p:Addr}{o:HO}(h:H p=none):Same H (upd H p o):=λb u e=>by
 rw [ao (ap e h)]
 exact e
def Kp(p:Addr)(H H':Hp):Prop:=∀b o,b≠p->H b=some o->H' b=some o
theorem Kp.of{p:Addr}{H H':Hp}(h:Same H H'):Kp p H H':=λb o _ e=>h b o e
theorem Kp.trans{p:Addr}{H H1 H2:Hp}(a:Kp p H H1)(b:Kp p H1 H2):Kp p H H2:=λc o n e=>b c o n (a c o n e)
theorem bn{p:Addr}{H:Hp}{o:HO}:Kp p H (upd H p o):=λb u n e=>by
 rw [ao n]
 exact e
theorem Kp.fs{CL p:Addr}{H H':Hp}{xs:List V}(h:Kp p H H')(e:H p=some (.lst xs)):FSame CL H H':=λb o q f=>h b o (λz=>by rw [z,e] at q;cases q;exact f) q
theorem fl:¬(("first":Str)="last"):=by decide +kernel
def lf(f l:Int):List (Str×V):=az "last" (.int l) (az "first" (.int f) [])
theorem fX(f l:Int):(lf f l).lookup ("first":Str)=some (.int f):=by
 unfold lf
 rw [al,if_neg fl,al,if_pos rfl]
theorem jo(f l:Int):(lf f l).lookup ("last":Str)=some (.int l):=by
 unfold lf
 rw [al,if_pos rfl]
theorem fW(f l:Int){m:Str}(h1:¬m="last")(b:¬m="first"):(lf f l).lookup m=none:=by
 unfold lf
 rw [al,if_neg h1,al,if_neg b]
 rfl
def LkO(C:Kd->Addr)(H:Hp)(k:Lk)(v:V):Prop:=∃a dx,v=.ref a/\H a=some (.ins (C k.1) dx (lf k.2.1 k.2.2))
theorem LkO.keep{C:Kd->Addr}{CL:Addr}{H H':Hp}{k:Lk}{v:V}(g:∀k,C k≠CL)(e:FSame CL H H')(h:LkO C H k v):LkO C H' k v:=by
 obtain ⟨a,b,d,f⟩:=h
 exact ⟨a,b,d,e a _ f (g _)⟩
def PrO(C:Kd->Addr)(K:Frag)(H:Hp)(x:Pr)(v:V):Prop:=∃a u l,v=.ref a/\SqU K H a [u,l]/\cPa.rp K H x.1 u/\LkO C H x.2 l
theorem PrO.keep{C:Kd->Addr}{CL:Addr}{K:Frag}{H H':Hp}{x:Pr}{v:V}(i:∀k,C k≠CL)(e:FSame CL H H')(h:PrO C K H x v):PrO C K H' x v:=by
 obtain ⟨a,u,l,b,d,f,g⟩:=h
 exact ⟨a,u,l,b,d.keep e.ts,cPa.keep e.ts f,g.keep i e⟩
def LS(C:Kd->Addr)(CL:Addr)(K:Frag)(H:Hp)(l p:Addr)(ps:List Pr):Prop :=
 ∃dx vs,H l=some (.ins CL dx [("pairs",.ref p)])/\H p=some (.lst vs)/\Paired (PrO C K H) ps vs
theorem pp{F:α->β->Prop}{G:α->β->Prop}{xs:List α}{ys:List β}(h:Paired F xs ys)(f:∀a b,F a b->G a b):Paired G xs ys:=Paired.mapP h f
theorem LS.keep{C:Kd->Addr}{CL:Addr}{K:Frag}{H H':Hp}{l p:Addr}{ps:List Pr}(i:∀k,C k≠CL)(e:Same H H')(h:LS C CL K H l p ps):LS C CL K H' l p ps:=by
 obtain ⟨b,vs,d,f,g⟩:=h
 exact ⟨b,vs,e l _ d,e p _ f,pp g λ_ _ q=>q.keep i (dj e)⟩
theorem qR{X:Cx}{x:Str}{i:Int}{pos:Pos}(b:∃t,X.mg x=some (.int i t))(d:Gl X x)(f:(x==("__debug__":Str))=false:=by decide):PE X (.Name x pos) (tC (.int i)):=by
 obtain ⟨t,e⟩:=b
 exact gp d e ⟨t,ϱ⟩ f
def ModT(K:Frag)(a:Addr)(xs:List V):Prop:=∃(o:Obj) (its:Array Value) (n:Nat),K.lookup a=some o/\o.cls=.type "tuple"/\o.data=.seq its n/\its.size<=sizeLine/\Vals xs its.toList
theorem ModT.sq{K:Frag}{a:Addr}{xs:List V}{H:Hp}(h:ModT K a xs):SqU K H a xs:=.inr h
theorem xC{K:Frag}{a:Addr}{x y:Str}{t t':Tok}{od:Option Addr}{n:Nat}{sl:Array (Option Value)}(h:K.lookup a=some ⟨.type "tuple",od,.seq #[.str x t,.str y t'] n,sl⟩):ModT K a [.str x,.str y] :=
 ⟨_,_,n,h,ϱ,ϱ,by show 2<=sizeLine;decide,.cons ⟨_,ϱ⟩ (.cons ⟨_,ϱ⟩ .nil)⟩
theorem Db{K:Frag}{a b c d:Addr}{od:Option Addr}{n:Nat}{sl:Array (Option Value)}(h:K.lookup a=some ⟨.type "tuple",od,.seq #[.ref b,.ref c,.ref d] n,sl⟩):ModT K a [.ref b,.ref c,.ref d] :=
 ⟨_,_,n,h,ϱ,ϱ,by show 3<=sizeLine;decide,.cons rfl (.cons rfl (.cons rfl .nil))⟩
structure TxB(mg:Str->Option Value):Prop where
 isi:mg "isinstance"=none
 int:mg "int"=none
 bool:mg "bool"=none
 str:mg "str"=none
 len:mg "len"=none
 range:mg "range"=none
 tuple:mg "tuple"=none
 list:mg "list"=none
 any:mg "any"=none
 all:mg "all"=none
 max:mg "max"=none
 sorted:mg "sorted"=none
structure TxK(K:Frag)(C:Kd->Addr):Prop where
 cl:∀k,Cls K (C k)
 nF:∀k,NoAttr K (C k) "first"
 nL:∀k,NoAttr K (C k) "last"
def mr:List (Str×PyProof.Rows.KTD.Dat):=[("read",.flat (.int 0)),("mean",.flat (.int 1)),("change",.flat (.int 2))]
theorem tK(k:Kd):PyProof.Rows.KTD.datumAt (kdS k) mr=some (.flat (.int (rW k))):=by
 cases k<;>kernel_rfl
structure TxS(K:Frag)(mg:Str->Option Value):Prop where
 sh:∃aS a0 a1 a2,mg "SHARING"=some (.ref aS)/\ModT K aS [.ref a0,.ref a1,.ref a2]/\ModT K a0 [.str "read",.str "read"]/\ModT K a1 [.str "read",.str "mean"]/\ModT K a2 [.str "mean",.str "read"]
structure TxR(K:Frag)(mg:Str->Option Value):Prop where
 rk:∃aR,mg "RANKS"=some (.ref aR)/\TabK K aR mr
structure TxL(K:Frag)(C:Kd->Addr)(CL:Addr):Prop where
 cl:Cls K CL
 nP:NoAttr K CL "pairs"
 ne:∀k,C k≠CL
theorem vP{K:Frag}{a:Addr}{es:Array DictEntry}{n:Nat}{D:List (Str×PyProof.Rows.KTD.Dat)}(h:K.lookup a=some ⟨.type "dict",none,.dict es n,#[]⟩)(z:(a==sysModules)=false)(r:PyProof.Rows.KTD.rowsLook yf es.toList D=true):TabK K a D:=by
 unfold TabK PyProof.Rows.KTD.tabLook
 rw [z]
 show (true&&(match K.lookup a with | some o=>_ | none=>false))=true
 rw [h]
 simp [r]
def kdN:Kd->Str
 | .read=>"Read"
 | .mean=>"Mean"
 | .change=>"Change"
inductive gV (k:Kd) (vs:List V) (H:Hp) (Q:VK) (E:XK):Prop|mk v:vs=[v]->Q (.str (kdS k)) H->gV k vs H Q E
inductive fg (C:Kd->Addr) (vs:List V) (H:Hp) (Q:VK) (E:XK):Prop|mk a dx k f l:vs=[.ref a,.int f,.int l]->H a=some (.ins (C k) dx [])->Q .non (upd (upd H a (.ins (C k) dx (az "first" (.int f) []))) a (.ins (C k) dx (lf f l)))->fg C vs H Q E
inductive gf (C:Kd->Addr) (vs:List V) (H:Hp) (Q:VK) (E:XK):Prop|mk v k:vs=[v]->LkO C H k v->(∀a,H a=none->Q (.ref a) (upd H a (.tup [.str (kdS k.1),.int k.2.1,.int k.2.2])))->gf C vs H Q E
inductive ja (C:Kd->Addr) (vs:List V) (H:Hp) (Q:VK) (E:XK):Prop|mk v u k j:vs=[v,u]->LkO C H k v->LkO C H j u->(∀H',Same H H'->Q (.bl (aG k j)) H')->ja C vs H Q E
inductive i9 (C:Kd->Addr) (vs:List V) (H:Hp) (Q:VK) (E:XK):Prop|mk v u k j:vs=[v,u]->LkO C H k v->LkO C H j u->(∀H',Same H H'->Q (.bl (bH k j)) H')->i9 C vs H Q E
inductive i5 (C:Kd->Addr) (K:Frag) (vs:List V) (H:Hp) (Q:VK) (E:XK):Prop|mk v k:vs=[v]->cLk.rp K H k v->(∀u H',Same H H'->LkO C H' k u->Q u H')->i5 C K vs H Q E
theorem fm{H:Hp}{x dx:Addr}{o1 o2 o3 o4:HO}(nx:H x=none)(nd:H dx=none):Same H (upd (upd (upd (upd H dx o1) x o2) x o3) x o4):=λb o e=>by
 have n1:b≠x:=ap e nx
 have n2:b≠dx:=ap e nd
 rw [ao n1,ao n1,ao n1,ao n2]
 exact e
theorem cq{v:V}:([("pairs",v)]:List (Str×V)).lookup ("pairs":Str)=some v:=by
 show (az "pairs" v []).lookup ("pairs":Str)=some v
 rw [al,if_pos rfl]
theorem eZ{v:V}{m:Str}(h:¬m="pairs"):([("pairs",v)]:List (Str×V)).lookup m=none:=by
 show (az "pairs" v []).lookup m=none
 rw [al,if_neg h]
 rfl
theorem BH{v u:V}:az "pairs" u ([("pairs",v)]:List (Str×V))=([("pairs",u)]:List (Str×V)):=by
 show (if ("pairs":Str)="pairs" then [(("pairs":Str),u)] else (("pairs":Str),v)::az "pairs" u [])=([("pairs",u)]:List (Str×V))
 rw [if_pos rfl]
section
variable (C:Kd->Addr)(CL:Addr)(K:Frag)
inductive lX (vs:List V) (H:Hp) (Q:VK) (E:XK):Prop|mk l dx:vs=[.ref l]->H l=some (.ins CL dx [])->(∀p H',H p=none->H' p=some (.lst [])->H' l=some (.ins CL dx [("pairs",.ref p)])->Kp l H H'->Q .non H')->lX vs H Q E
end
theorem bnd{n:Nat}(h:n<=1000):-(2 ^ 62)<=(n:Int)/\(n:Int)<2 ^ 62:=by
 constructor<;>omega
theorem ko{n:Nat}(h:n<=1000):n<=sizeLine:=Nat.le_of_lt (cW h)
def bL(ns:List Int)(k:Nat):Int:=(ns[k]?).getD 0
inductive pz (K:Frag) (vs:List V) (H:Hp) (Q:VK) (E:XK):Prop|mk a ns k:vs=[.ref a,.int (k:Nat)]->SqL K H a ((ns:List Int).map V.int)->Q (.int (bL ns k)) H->pz K vs H Q E
inductive jC (K:Frag) (vs:List V) (H:Hp) (Q:VK) (E:XK):Prop|mk v u k j:vs=[v,u]->cLk.rp K H k v->cLk.rp K H j u->(∀H',Same H H'->Q (.bl (aG k j)) H')->jC K vs H Q E
def srt(a b:Str):List Str:=if b.cps.toList<a.cps.toList then [b,a] else [a,b]
theorem uF(a b:Kd):(decide (srt (kdS a) (kdS b)=(["read","read"]:List Str))||decide (srt (kdS a) (kdS b)=(["mean","read"]:List Str)))=ot a b:=by
 cases a<;>cases b<;>decide +kernel
theorem qp{X:Cx}{st:List Stmt}{t:TS}(u:TS)(h:PSs X st t)(hw:∀D σ H,u D σ H->t D σ H):PSs X st u:=λpins s σ H D I q=>h pins s σ H D I (hw D σ H q)
theorem yh(b:List Int)(lo d:Option Int):∃cs:List Int,ng (b.map V.int) lo d=cs.map V.int/\cs.length<=b.length:=by
 refine ⟨(b.drop (HT.sIx (b.map V.int).length 0 lo)).take (HT.sIx (b.map V.int).length (b.map V.int).length d-HT.sIx (b.map V.int).length 0 lo),?_,?_⟩
 ·unfold ng
  rw [List.map_take,List.map_drop]
 ·rw [List.length_take,List.length_drop]
  omega
theorem u4{CL l dl:Addr}{H H1:Hp}(nl:H l=none)(nd:H dl=none)(k:Kp l (upd (upd H dl (.own l)) l (.ins CL dl [])) H1):Same H H1:=λb o e=>by
 have n1:b≠l:=ap e nl
 have n2:b≠dl:=ap e nd
 refine k b o n1 ?_
 rw [ao n1,ao n2]
 exact e
end Lo
namespace L2
open PySem PySem.Spec PyProof.Rows
section
variable {κ:Type} [DecidableEq κ]
def bx(kvs:List (κ×V))(k:κ):Option V:=(kvs.find? λkv=>decide (kv.1=k)).map (·.2)
def bM(kvs:List (κ×V))(k:κ)(v:V):List (κ×V) :=
 if (kvs.any λkv=>decide (kv.1=k))=true then kvs.map (λkv=>if kv.1=k then (kv.1,v) else kv) else kvs++[(k,v)]
theorem bJ{p:κ×V}{r:List (κ×V)}{k:κ}(e:p.1=k):bx (p::r) k=some p.2:=by simp [bx,List.find?_cons,e]
theorem bU{p:κ×V}{r:List (κ×V)}{k:κ}(e:¬p.1=k):bx (p::r) k=bx r k:=by simp [bx,List.find?_cons,e]
theorem fQ(k:κ):∀kvs:List (κ×V),(kvs.any λkv=>decide (kv.1=k))=(bx kvs k).isSome
 | []=>rfl
 | p::r=>by
  rw [List.any_cons]
  by_cases e:p.1=k
  ·simp only [bJ e,decide_eq_true e,Bool.true_or,Option.isSome_some]
  ·rw [bU e,Γ e,Bool.false_or];exact fQ k r
theorem qf(k j:κ)(y:V):∀kvs:List (κ×V),bx (kvs.map λkv=>if kv.1=k then (kv.1,y) else kv) j=(bx kvs j).map λx=>if j=k then y else x
 | []=>rfl
 | p::r=>by
  have ih:=qf k j y r
  rw [List.map_cons]
  by_cases h:p.1=k
  ·rw [if_pos h]
   by_cases e:p.1=j
   ·rw [bJ (p:=(p.1,y)) e,bJ e,Option.map_some,if_pos (e.symm.trans h)]
   ·rw [bU (p:=(p.1,y)) e,bU e,ih]
  ·rw [if_neg h]
   by_cases e:p.1=j
   ·rw [bJ (p:=p) e,bJ e,Option.map_some,if_neg (λz=>h (e.trans z))]
   ·rw [bU (p:=p) e,bU e,ih]
theorem oo(k j:κ)(y:V):∀kvs:List (κ×V),bx kvs k=none->bx (kvs++[(k,y)]) j=if j=k then some y else bx kvs j
 | [],_=>by
  by_cases e:k=j
  ·rw [if_pos e.symm];exact bJ (p:=(k,y)) e
  ·rw [if_neg (λz=>e z.symm)];exact bU (p:=(k,y)) e
 | p::r,hn=>by
  rw [List.cons_append]
  have hk:¬p.1=k:=λz=>by rw [bJ z] at hn;cases hn
  rw [bU hk] at hn
  have ih:=oo k j y r hn
  by_cases e:p.1=j
  ·rw [bJ e,bJ e,if_neg (λz=>hk (e.trans z))]
  ·rw [bU e,bU e,ih]
theorem lR(b:List (κ×V))(k j:κ)(y:V):bx (bM b k y) j=if j=k then some y else bx b j:=by
 unfold bM
 by_cases a:(b.any λf=>decide (f.1=k))=true
 ·rw [if_pos a,qf]
  rw [fQ] at a
  by_cases e:j=k
  ·obtain ⟨x,d⟩:=Option.isSome_iff_exists.mp a
   rw [if_pos e,e,d,Option.map_some,if_pos rfl]
  ·rw [if_neg e]
   cases bx b j with
   | none=>rfl
   | some x=>rw [Option.map_some,if_neg e]
 ·rw [if_neg a]
  refine oo k j y b ?_
  rw [fQ] at a
  cases q:bx b k with
  | none=>rfl
  | some x=>rw [q] at a;exact (a rfl).elim
theorem cO(b:List (κ×V))(k:κ)(v:V):(bM b k v).length<=b.length+1:=by
 unfold bM
 split
 ·rw [ν];omega
 ·rw [List.length_append,List.length_cons,List.length_nil];omega
theorem qo{b:List (κ×V)}{k:κ}(v:V)(h:bx b k=none):bM b k v=b++[(k,v)]:=by
 unfold bM
 rw [fQ,h]
 exact if_neg ζ
theorem RelO.isSome_eq{o:Option V}{u:Option Value}(r:RelO o u):o.isSome=u.isSome:=by
 cases o with
 | none=>cases u with
  | none=>rfl
  | some _=>exact (show False from r).elim
 | some _=>cases u with
  | none=>exact (show False from r).elim
  | some _=>rfl
theorem RelO.getD{o:Option V}{u:Option Value}{d:V}{d':Value}(r:RelO o u)(b:RelV d d'):RelV (o.getD d) (u.getD d'):=by
 cases o with
 | none=>cases u with
  | none=>exact b
  | some _=>exact (show False from r).elim
 | some _=>cases u with
  | none=>exact (show False from r).elim
  | some _=>exact r
theorem KV.val{d:List (κ×V)}{vs:List (κ×Value)}(r:KV d vs)(k:κ):RelO (bx d k) (valueAt vs k):=by
 unfold KV at r
 induction r with
 | nil=>exact ϰ
 | @cons p q ps qs h t ih =>
  obtain ⟨h1,g⟩:=h
  by_cases e:p.1=k
  ·have f:q.1=k:=h1.symm.trans e
   have b:valueAt (q::qs) k=some q.2:=by simp [valueAt,List.find?_cons,f]
   rw [bJ e,b];exact g
  ·have f:¬q.1=k:=λz=>e (h1.trans z)
   have b:valueAt (q::qs) k=valueAt qs k:=by simp [valueAt,List.find?_cons,f]
   rw [bU e,b];exact ih
theorem KV.any{b:List (κ×V)}{vs:List (κ×Value)}(r:KV b vs)(k:κ):(b.any λkv=>decide (kv.1=k))=vs.any λkv=>decide (kv.1=k):=by
 unfold KV at r
 induction r with
 | nil=>rfl
 | cons h t ih=>rw [List.any_cons,List.any_cons,ih,h.1]
theorem KV.repl{b:List (κ×V)}{vs:List (κ×Value)}(r:KV b vs)(k:κ){y:V}{u:Value}(f:RelV y u) :
  KV (b.map λkv=>if kv.1=k then (kv.1,y) else kv) (vs.map λkv=>if kv.1=k then (kv.1,u) else kv):=by
 unfold KV at r ⊢
 induction r with
 | nil=>exact .nil
 | @cons p q ps qs h t ih =>
  rw [List.map_cons,List.map_cons]
  refine .cons ?_ ih
  obtain ⟨h1,d⟩:=h
  by_cases e:p.1=k
  ·rw [if_pos e,if_pos (h1.symm.trans e)];exact ⟨h1,f⟩
  ·rw [if_neg e,if_neg (λz=>e (h1.trans z))];exact ⟨h1,d⟩
theorem KV.put{b:List (κ×V)}{vs:List (κ×Value)}(r:KV b vs)(k:κ){y:V}{u:Value}(d:RelV y u):KV (bM b k y) (stored vs k u):=by
 unfold bM stored
 rw [r.any k]
 by_cases e:(vs.any λf=>decide (f.1=k))=true
 ·rw [if_pos e,if_pos e];exact r.repl k d
 ·rw [if_neg e,if_neg e];exact Paired.snoc r ⟨ϱ,d⟩
theorem KV.length{kvs:List (κ×V)}{vs:List (κ×Value)}(r:KV kvs vs):kvs.length=vs.length:=Paired.length r
end
theorem ku{P:Program}{w:World}{k:Key}{u:Value}(r:RelV (kV k) u):(aM P w).is k u=true:=by
 cases k with
 | inl i=>obtain ⟨t,e⟩:=(show ∃t,u=Value.int i t from r);subst e;exact qH P w i t
 | inr x=>obtain ⟨t,e⟩:=(show ∃t,u=Value.str x t from r);subst e;exact qG P w x t
theorem oJ{P:Program}{w:World}:∀{ks:List Key} {us:List Value},Vals (ks.map kV) us->ItemsAre (aM P w) ks us
 | [],_,r=>by rw [List.map_nil] at r;cases r;exact .nil
 | k::ks,_,r=>by
  rw [List.map_cons] at r
  cases r with
  | cons h t=>exact .cons (ku h) (oJ t)
abbrev KT(H:Hp):List (List Key×V)->List (List Key×Addr×Value)->Prop:=Paired λp q=>p.1=q.1/\H q.2.1=some (.tup (p.1.map kV))/\RelV p.2 q.2.2
theorem KT.val{H:Hp}{d:List (List Key×V)}{xs:List (List Key×Addr×Value)}(r:KT H d xs)(k:List Key):RelO (bx d k) ((atKey xs k).map (·.2)):=by
 induction r with
 | nil=>exact ϰ
 | @cons p q ps qs h t ih =>
  obtain ⟨h1,_,g⟩:=h
  by_cases e:p.1=k
  ·have f:q.1=k:=h1.symm.trans e
   have b:atKey (q::qs) k=some q.2:=by simp [atKey,List.find?_cons,f]
   rw [bJ e,b];exact g
  ·have f:¬q.1=k:=λz=>e (h1.trans z)
   have b:atKey (q::qs) k=atKey qs k:=by simp [atKey,List.find?_cons,f]
   rw [bU e,b];exact ih
theorem KT.repl{H:Hp}{b:List (List Key×V)}{xs:List (List Key×Addr×Value)}(r:KT H b xs)(k:List Key){y:V}{u:Value}(g:RelV y u) :
  KT H (b.map λkv=>if kv.1=k then (kv.1,y) else kv) (xs.map (putAt k u)):=by
 induction r with
 | nil=>exact .nil
 | @cons p q ps qs h t ih =>
  rw [List.map_cons,List.map_cons]
  refine .cons ?_ ih
  obtain ⟨h1,d,f⟩:=h
  unfold putAt
  by_cases e:p.1=k
  ·rw [if_pos e,if_pos (h1.symm.trans e)];exact ⟨h1,d,g⟩
  ·rw [if_neg e,if_neg (λz=>e (h1.trans z))];exact ⟨h1,d,f⟩
theorem KT.put{H:Hp}{d:List (List Key×V)}{xs:List (List Key×Addr×Value)}(r:KT H d xs)(k:List Key){b:Addr}{y:V}{u:Value}(h:H b=some (.tup (k.map kV)))(f:RelV y u) :
  KT H (bM d k y) (storedH xs k b u):=by
 have e:(d.any λg=>decide (g.1=k))=(atKey xs k).isSome:=by
  rw [fQ,(r.val k).isSome_eq,Option.isSome_map]
 unfold bM storedH
 rw [e]
 by_cases q:(atKey xs k).isSome=true
 ·rw [if_pos q,if_pos q];exact r.repl k f
 ·rw [if_neg q,if_neg q];exact Paired.snoc r ⟨ϱ,h,f⟩
theorem KT.keeps{H H':Hp}{kvs:List (List Key×V)}{xs:List (List Key×Addr×Value)}(r:KT H kvs xs)(ht:∀b ys,H b=some (.tup ys)->H' b=some (.tup ys)):KT H' kvs xs :=
 Paired.mapP r λ_ _ z=>⟨z.1,ht _ _ z.2.1,z.2.2⟩
section
variable {P:Program}{w:World}{H:Hp}{h:Heap}{a:Addr}
theorem An{u:HO}(ok:HOk P w H h)(e:Rd H a u):ObjOk P w H h a u:=e.ok ok
theorem kI{kvs:List (Key×V)}(ok:HOk P w H h)(e:Rd H a (.dK kvs)):kvs.length<=sizeLine/\(a==sysModules)=false/\∃vs,KV kvs vs/\h.DictOf (aM P w) a vs :=
 show ObjOk P w H h a (.dK kvs) from An ok e
theorem yc{kvs:List (Key×V)}(ok:HOk P w H h)(e:H a=some (.dK kvs)):kvs.length<=sizeLine/\(a==sysModules)=false/\∃vs,KV kvs vs/\h.DictOf (aM P w) a vs:=kI ok (.inl e)
theorem fL{ks:List Key}(ok:HOk P w H h)(e:H a=some (.tup (ks.map kV))):(tupleKind (aM P w)).is h ks a:=by
 obtain ⟨_,b,r,o,h1,d,n,f⟩:=(show ObjOk P w H h a (.tup (ks.map kV)) from ok a _ e)
 exact ⟨o,b.toArray,n,h1,d,f,by simpa using oJ r⟩
theorem kH{b:List (List Key×V)}(ok:HOk P w H h)(e:Rd H a (.dT b)):b.length<=sizeLine/\(a==sysModules)=false /\
  ∃xs,KT H b xs/\h.DictOfH (tupleKind (aM P w)) a xs:=by
 obtain ⟨z,y,xs,r,o,es,d,h1,f,g,i,j⟩:=(show ObjOk P w H h a (.dT b) from An ok e)
 refine ⟨z,y,xs,r,o,es,d,h1,f,g,i,λx hx=>?_,j⟩
 have all:∀{l:List (List Key×V)} {m:List (List Key×Addr×Value)},KT H l m->∀x∈m,(tupleKind (aM P w)).is h x.1 x.2.1:=by
  intro l m q
  induction q with
  | nil=>intro x hx;exact nomatch hx
  | @cons p q ps qs hq t ih =>
   intro x hx
   rcases ϕ.mp hx with e | hx
   ·subst e
    exact fL ok (by rw [← hq.1];exact hq.2.1)
   ·exact ih x hx
 exact all r x hx
theorem qU{kvs:List (List Key×V)}(ok:HOk P w H h)(e:H a=some (.dT kvs)):kvs.length<=sizeLine/\(a==sysModules)=false /\
  ∃xs,KT H kvs xs/\h.DictOfH (tupleKind (aM P w)) a xs:=kH ok (.inl e)
end
def DGet(H:Hp)(a:Addr)(y:V)(r:Option V):Prop :=
 (∃kvs k,Rd H a (.dK kvs)/\y=kV k/\r=bx kvs k)\/∃kvs k b,Rd H a (.dT kvs)/\y=.ref b/\H b=some (.tup (k.map kV))/\r=bx kvs k
def DPut(H:Hp)(a:Addr)(y v:V)(H':Hp):Prop :=
 (∃kvs k,H a=some (.dK kvs)/\y=kV k/\kvs.length<sizeLine/\H'=upd H a (.dK (bM kvs k v))) \/
 ∃kvs k b,H a=some (.dT kvs)/\y=.ref b/\H b=some (.tup (k.map kV))/\kvs.length<sizeLine/\H'=upd H a (.dT (bM kvs k v))
theorem DGet.k{H:Hp}{a:Addr}{kvs:List (Key×V)}{k:Key}(e:H a=some (.dK kvs)):DGet H a (kV k) (bx kvs k):=.inl ⟨kvs,k,.inl e,ϱ,ϱ⟩
theorem DGet.t{H:Hp}{a b:Addr}{kvs:List (List Key×V)}{k:List Key}(e:H a=some (.dT kvs))(eb:H b=some (.tup (k.map kV))):DGet H a (.ref b) (bx kvs k):=.inr ⟨kvs,k,b,.inl e,ϱ,eb,ϱ⟩
theorem DPut.k{H:Hp}{a:Addr}{kvs:List (Key×V)}{k:Key}{v:V}(e:H a=some (.dK kvs))(hl:kvs.length<sizeLine):DPut H a (kV k) v (upd H a (.dK (bM kvs k v))):=.inl ⟨kvs,k,e,ϱ,hl,ϱ⟩
theorem DPut.t{H:Hp}{a b:Addr}{kvs:List (List Key×V)}{k:List Key}{v:V}(e:H a=some (.dT kvs))(eb:H b=some (.tup (k.map kV)))(hl:kvs.length<sizeLine) :
  DPut H a (.ref b) v (upd H a (.dT (bM kvs k v))):=.inr ⟨kvs,k,b,e,ϱ,eb,hl,ϱ⟩
section
variable {X:Cx}{pins:List (Addr×Obj)}{σ:St}{H:Hp}{s:Shared}{a:Addr}{y v:V}{u r:Value}{o:Option V}{A:Around}{E:Value->Shared->Prop}
theorem Inv.big(I:Inv X pins σ H s):sysModules<s.heap.objs.size:=by
 have h:mainGlobals<s.heap.objs.size:=(I.mod.glob.keeps I.bk).lt
 exact Nat.lt_trans ζ h
theorem vm{Q:Value->Shared->Prop}(C:A.units+1<cLine)(I:Inv X pins σ H s)(g:DGet H a y (some v))(m:RelV y u)(h:∀w' s',Inv X pins σ H s'->RelV v w'->Q w' s') :
  wpAny (model X.prog X.w) A (getItem (.ref a) u) Q E s:=by
 rcases g with ⟨kvs,k,e,ey,l⟩ | ⟨kvs,k,b,e,ey,eb,l⟩
 ·subst ey
  obtain ⟨z,q,vs,d,dd⟩:=kI I.hok e
  obtain ⟨w',i,f⟩:=RelO.some_of (v:=v) (o:=valueAt vs k) (by rw [l];exact d.val k)
  exact wpAny_getItem_of (ku m) dd.mapOf i (h w' _ (I.tok _) f)
 ·subst ey
  cases (show u=Value.ref b from m)
  obtain ⟨z,q,r,d,dd⟩:=kH I.hok e
  obtain ⟨w',i,f⟩:=RelO.some_of (v:=v) (o:=(atKey r k).map (·.2)) (by rw [l];exact d.val k)
  obtain ⟨p,x,j⟩:=Option.map_eq_some_iff.mp i
  refine wpAny_getItem_heap (tupleKind_room_in1 C) (fL I.hok eb) dd x ?_
  rw [j]
  exact h w' _ (I.tok _) f
theorem DR{Q:Value->Shared->Prop}(j:A.units+1<cLine)(I:Inv X pins σ H s)(g:DGet H a y o)(i:RelV y u)(h:∀s',Inv X pins σ H s'->Q (.bool o.isSome) s') :
  wpAny (model X.prog X.w) A (compareOp .In u (.ref a)) Q E s:=by
 rcases g with ⟨kvs,k,e,ey,l⟩ | ⟨kvs,k,b,e,ey,eb,l⟩
 ·subst ey
  obtain ⟨z,f,vs,d,dd⟩:=kI I.hok e
  refine wpAny_in_of (ku i) f dd.mapOf ?_
  rw [← (d.val k).isSome_eq,← l]
  exact h _ (I.tok _)
 ·subst ey
  cases (show u=Value.ref b from i)
  obtain ⟨z,f,m,d,dd⟩:=kH I.hok e
  refine wpAny_in_heap (tupleKind_room_in1 j) (fL I.hok eb) f dd ?_
  have q:=(d.val k).isSome_eq
  rw [Option.isSome_map] at q
  rw [← q,← l]
  exact h _ (I.tok _)
theorem z5{Q:Value->Shared->Prop}(j:A.units+1<cLine)(I:Inv X pins σ H s)(g:DGet H a y o)(i:RelV y u)(h:∀s',Inv X pins σ H s'->Q (.bool (!o.isSome)) s') :
  wpAny (model X.prog X.w) A (compareOp .NotIn u (.ref a)) Q E s:=by
 rcases g with ⟨kvs,k,e,ey,l⟩ | ⟨kvs,k,b,e,ey,eb,l⟩
 ·subst ey
  obtain ⟨z,f,vs,d,dd⟩:=kI I.hok e
  refine wpAny_notIn_of (ku i) f dd.mapOf ?_
  rw [← (d.val k).isSome_eq,← l]
  exact h _ (I.tok _)
 ·subst ey
  cases (show u=Value.ref b from i)
  obtain ⟨z,f,m,d,dd⟩:=kH I.hok e
  refine wpAny_notIn_heap (tupleKind_room_in1 j) (fL I.hok eb) f dd ?_
  have q:=(d.val k).isSome_eq
  rw [Option.isSome_map] at q
  rw [← q,← l]
  exact h _ (I.tok _)
theorem ix{h':Heap}{t':Nat}{ob:HO}(I:Inv X pins σ H s)(mu:Mut (H a))(hs:Heap.SameBut a s.heap h')(he:∃q,h'.get? a=some q)(new:ObjOk X.prog X.w (upd H a ob) h' a ob) :
  Inv X pins σ (upd H a ob) {s with heap:=h',toks:=t'} :=
 I.write (x:=a) (e:=a) mu (.inl rfl) (λb q hb z=>(hs.2 b hb).trans z) he new
theorem sK{P:Program}{w:World}{H':Hp}{h':Heap}{kvs:List (Key×V)}{vs:List (Key×Value)}(z:kvs.length<=sizeLine)(hd:(a==sysModules)=false)(rel:KV kvs vs)(dd:h'.DictOf (aM P w) a vs) :
  ObjOk P w H' h' a (.dK kvs):=⟨z,hd,vs,rel,dd⟩
theorem vk{H':Hp}{Q:Unit->Shared->Prop}(Y:A.units+1<cLine)(I:Inv X pins σ H s)(g:DPut H a y v H')(F:RelV y u)(G:RelV v r)(h:∀s',Inv X pins σ H' s'->Q () s') :
  wpAny (model X.prog X.w) A (setItem (.ref a) u r) Q E s:=by
 rcases g with ⟨kvs,k,e,ey,l,eH⟩ | ⟨kvs,k,b,e,ey,eb,l,eH⟩
 ·subst ey eH
  obtain ⟨z,j,vs,d,dd⟩:=yc I.hok e
  have m:vs.length<=sizeLine:=by rw [← d.length];exact z
  have o:(bM kvs k v).length<=sizeLine:=by have:=cO kvs k v;omega
  refine wpAny_setItem_pairs (hsz:=m) (ku F) dd λC f x=>h _ ?_
  have W:∃q,C.get? a=some q:=let ⟨q,_,_,i,_⟩:=f;⟨q,i⟩
  exact ix I (by rw [e];exact ϰ) x W (sK o j (d.put k G) f)
 ·subst ey eH
  cases (show u=Value.ref b from F)
  obtain ⟨z,j,J,d,dd⟩:=qU I.hok e
  have m:J.length<=sizeLine:=by rw [← Paired.length d];exact z
  have o:(bM kvs k v).length<=sizeLine:=by have:=cO kvs k v;omega
  refine wpAny_setItem_heap (hsz:=m) (tupleKind_room_in1 Y) (fL I.hok eb) dd λC f x=>h _ ?_
  obtain ⟨q,es,K,i,L,O,P,_,U⟩:=f
  refine ix I (by rw [e];exact ϰ) x ⟨q,i⟩ ⟨o,j,_,(d.put k eb G).keeps λc Z D=>?_,q,es,K,i,L,O,P,U⟩
  rw [ao (iG D e (λz=>nomatch z))]
  exact D
end
def Dv(i:Expr):Prop:=∀ov iv,subscripted i false ov iv=operate [ov,iv] (getItem ov iv)
theorem yI{prog:Program}{w:World}{A:Around}{E:Value->Shared->Prop}{s:Shared}{env:Env}{d b:Expr}{pos:Pos}{T id:String}{Q:Value->Shared->Prop}
  (m:typeLookup (.type T) "__getitem__"=pure (some (.builtin id)))(q:Dv b)
  (h:wpAny (model prog w) A (eval d env) (λo s₁=>wpAny (model prog w) A (eval b env) (λi s₂=>s₂.TypeIs o T/\wpAny (model prog w) A (getItem o i) Q E s₂) E s₁) E s) :
  wpAny (model prog w) A (eval (.Subscript d b pos) env) Q E s:=by
 refine Subscript_ (wpAny_mono h (λo s₁ j=>wpAny_mono j (λi s₂ e=>?_) λ_ _ x=>x) λ_ _ x=>x)
 obtain ⟨f,e⟩:=e
 unfold subscriptTail
 refine ε ?_
 rw [getitemInPython_of_ne f.not_modules]
 refine ε (wpAny_specialOf f m ?_)
 have fin:wpAny (model prog w) A (subscripted b false o i) (λr g=>wpAny (model prog w) A (letTemporaryGo d o r >>= λ_=>pure r) Q E g) E s₂:=by
  rw [q o i]
  exact wpAny_operating (wpAny_mono e (λr g l=>ε (wpAny_letTemporaryGo (π l))) λ_ _ x=>x)
 first
  | exact π (ε fin)
  | exact ε (π (ε fin))
  | exact ε fin
theorem qW{X:Cx}{d:List (Addr×Obj)}{σ:St}{H:Hp}{s:Shared}{a:Addr}{y:V}{o:Option V}(I:Inv X d σ H s)(g:DGet H a y o):s.TypeIs (.ref a) "dict":=by
 rcases g with ⟨kvs,k,e,_,_⟩ | ⟨kvs,k,b,e,_,_,_⟩
 ·obtain ⟨_,_,vs,_,dd⟩:=kI I.hok e
  exact dd.typeIs
 ·obtain ⟨_,_,f,_,dd⟩:=kH I.hok e
  exact dd.typeIs
inductive XDG (Q:VK) (x y:V) (H:Hp):Prop|mk a v:x=.ref a->DGet H a y (some v)->Q v H->XDG Q x y H
def Cv(td ty:TE):TE:=fun σ H Q=>td σ H λx H1=>ty σ H1 λy H2=>XDG Q x y H2
def DF(ty td:TE):TE:=fun σ H Q=>ty σ H λy H1=>td σ H1 λx H2=>∃a o,x=.ref a/\DGet H2 a y o/\Q (.bl o.isSome) H2
def yG(ty td:TE):TE:=fun σ H Q=>ty σ H λy H1=>td σ H1 λx H2=>∃a o,x=.ref a/\DGet H2 a y o/\Q (.bl (!o.isSome)) H2
def CP(td ty tv:TE):TS:=λD σ H=>tv σ H λv H1=>td σ H1 λx H2=>ty σ H2 λy H3=>∃a H4,x=.ref a/\DPut H3 a y v H4/\D.nx σ H4
section
variable {X:Cx}{o i e value:Expr}{pos pos' tpos:Pos}{td ty tv:TE}
theorem gq(w:X.A.units+1<cLine)(z:PE X o td)(C:PE X i ty)(D:Dv i):PE X (.Subscript o i pos) (Cv td ty):=by
 intro b s σ H Q I h
 refine yI PySem.F.slot_dict_getitem.lookup D (thn (z b s σ H _ I h) λu f ⟨x,H1,j,l,q1⟩=>thn (C b f σ H1 _ j q1) λG J ⟨y,m,e,q,a,v,ex,g,q2⟩=>?_)
 subst ex
 obtain rfl:u=Value.ref a:=l
 exact ⟨qW e g,vm w e g q λK L r d=>⟨v,m,r,d,q2⟩⟩
theorem mz(r:X.A.units+1<cLine)(w:PE X i ty)(z:PE X o td):PC X .In i o (DF ty td):=by
 intro b s σ H Q I h
 refine thn (w b s σ H _ I h) λC d ⟨y,H1,e,f,q1⟩=>thn (z b d σ H1 _ e q1) λu D ⟨x,j,l,m,a,ov,ex,g,q2⟩=>?_
 subst ex
 obtain rfl:u=Value.ref a:=m
 exact DR r l g f λF q=>⟨.bl ov.isSome,j,q,ϱ,q2⟩
theorem jU(r:X.A.units+1<cLine)(w:PE X i ty)(z:PE X o td):PC X .NotIn i o (yG ty td):=by
 intro b s σ H Q I h
 refine thn (w b s σ H _ I h) λC d ⟨y,H1,e,f,q1⟩=>thn (z b d σ H1 _ e q1) λu D ⟨x,j,l,m,a,ov,ex,g,q2⟩=>?_
 subst ex
 obtain rfl:u=Value.ref a:=m
 exact z5 r l g f λF q=>⟨.bl (!ov.isSome),j,q,ϱ,q2⟩
theorem jg(G:X.A.units+1<cLine)(J:PE X o td)(K:PE X i ty)(L:PE X value tv)(O:swapsWith value (some (.Subscript o i pos')) pos.line X.env=pure false) :
  PS X (.Assign [.Subscript o i pos'] value pos) (CP td ty tv):=by
 intro b s σ H D I h
 refine wpAny_Assign_Subscript (thn (L b s σ H _ I h) λr d ⟨v,H1,e,f,q1⟩=>thn (J b d σ H1 _ e q1) λu j ⟨x,l,m,q,q2⟩=>thn (K b j σ l _ m q2) λP Q ⟨y,U,w,z,a,C,ex,g,q3⟩=>?_) O
 subst ex
 obtain rfl:u=Value.ref a:=q
 exact vk G w g z f λW F=>⟨σ,C,F,q3⟩
end
theorem yd{P:Program}{w:World}{H:Hp}(h:Heap)(hb:sysModules<h.objs.size):ObjOk P w H (h.push {cls:=.type "dict",data:=.dict #[]}) h.objs.size (.dK []) :=
 ⟨ϖ _,beq_eq_false_iff_ne.mpr (Ne.symm (Φ hb)),[],.nil,Heap.DictOf.new h⟩
theorem xZ{P:Program}{w:World}{H:Hp}(h:Heap)(hb:sysModules<h.objs.size):ObjOk P w H (h.push {cls:=.type "dict",data:=.dict #[]}) h.objs.size (.dT []) :=
 ⟨ϖ _,beq_eq_false_iff_ne.mpr (Ne.symm (Φ hb)),[],.nil,_,#[],0,ψ _ rfl,⟨ϱ,ϱ,ϱ⟩,ϱ,ϱ,List.nodup_nil⟩
def AN:TE:=λ_ H Q=>∀p,H p=none->Q (.ref p) (upd H p (.dK []))
def AL:TE:=λ_ H Q=>∀p,H p=none->Q (.ref p) (upd H p (.dT []))
section
variable {X:Cx}{pos:Pos}
theorem hX:PE X (.Dict [] [] pos) AN:=λpins s σ H Q I h =>
 wpAny_Dict_empty ⟨.ref s.heap.objs.size,_,I.laid (a:=s.heap.objs.size) (o:=.dK []) (t':=s.toks) (λ_ _ q=>ρ _ q) (ι _) (yd s.heap I.big),ϱ,h _ (I.hok.fresh (ι _))⟩
theorem eQ:PE X (.Dict [] [] pos) AL:=λpins s σ H Q I h =>
 wpAny_Dict_empty ⟨.ref s.heap.objs.size,_,I.laid (a:=s.heap.objs.size) (o:=.dT []) (t':=s.toks) (λ_ _ q=>ρ _ q) (ι _) (xZ s.heap I.big),ϱ,h _ (I.hok.fresh (ι _))⟩
end
def aL(kvs more:List (Key×V)):List (Key×V):=more.foldl (λacc kv=>bM acc kv.1 kv.2) kvs
theorem KV.merge:∀{more:List (Key×V)} {d:List (Key×Value)} {b:List (Key×V)} {vs:List (Key×Value)},KV more d->KV b vs->KV (aL b more) (merged vs d):=by
 intro more d b vs r
 unfold KV at r
 induction r generalizing b vs with
 | nil=>intro q;exact q
 | @cons p q ps qs h t ih =>
  intro f
  have e:KV (bM b p.1 p.2) (stored vs q.1 q.2):=by
   have:=f.put p.1 h.2
   rw [← h.1];exact this
  exact ih e
theorem dh:∀(more kvs:List (Key×V)),(aL kvs more).length<=kvs.length+more.length
 | [],kvs=>by show kvs.length<=kvs.length+0;omega
 | p::r,kvs=>by
  have h1:=dh r (bM kvs p.1 p.2)
  have h2:=cO kvs p.1 p.2
  show (aL (bM kvs p.1 p.2) r).length<=_
  rw [List.length_cons];omega
structure M1(X:Cx)(o:Expr)(m:Str)(apos:Pos)(e:Expr)(cpos:Pos):Prop where
 base:attributeBase o m X.env (eval o X.env)=eval o X.env
 few:((backTo cpos (starEach [e] X.env)).all (λx=>!x.1)&&(backToKw cpos (keywordEach [] X.env)).all (λx=>x.1.isSome)
  && decide (([e]:List Expr).length+([]:List Keyword).length+(if ([]:List Keyword).isEmpty then 0 else 1)<30))=true
 line:(apos.endLine==cpos.line)=true
 trees:backTo cpos (starEach [e] X.env)=[(false,eval e X.env)]
structure M2(X:Cx)(o:Expr)(m:Str)(apos:Pos)(e f:Expr)(cpos:Pos):Prop where
 base:attributeBase o m X.env (eval o X.env)=eval o X.env
 few:((backTo cpos (starEach [e,f] X.env)).all (λx=>!x.1)&&(backToKw cpos (keywordEach [] X.env)).all (λx=>x.1.isSome)
  && decide (([e,f]:List Expr).length+([]:List Keyword).length+(if ([]:List Keyword).isEmpty then 0 else 1)<30))=true
 line:(apos.endLine==cpos.line)=true
 trees:backTo cpos (starEach [e,f] X.env)=[(false,eval e X.env),(false,eval f X.env)]
def IsD(H:Hp)(a:Addr):Prop:=(∃kvs,Rd H a (.dK kvs))\/∃kvs,Rd H a (.dT kvs)
theorem io{X:Cx}{f:List (Addr×Obj)}{σ:St}{H:Hp}{s:Shared}{a:Addr}(I:Inv X f σ H s)(d:IsD H a) :
  s.TypeIs (.ref a) "dict"/\(∀b,Value.ref a=.ref b->∃ob,s.heap.get? b=some ob/\ob.dict=none)/\(a==sysModules)=false:=by
 rcases d with ⟨kvs,e⟩ | ⟨kvs,e⟩
 ·obtain ⟨_,g,vs,_,dd⟩:=kI I.hok e
  refine ⟨dd.typeIs,λb q=>?_,g⟩
  cases q
  obtain ⟨ob,_,_,h1,h,_⟩:=dd
  exact ⟨ob,h1,h.2.1⟩
 ·obtain ⟨_,g,i,_,dd⟩:=kH I.hok e
  refine ⟨dd.typeIs,λb q=>?_,g⟩
  cases q
  obtain ⟨ob,_,_,h1,h,_⟩:=dd
  exact ⟨ob,h1,h.2.1⟩
section
variable {X:Cx}{pins:List (Addr×Obj)}{σ:St}{H:Hp}{s:Shared}{a:Addr}{y d:V}{u r:Value}{o:Option V}{A:Around}{E:Value->Shared->Prop}
theorem B1{Q:Value->Shared->Prop}(m:A.units+1<cLine)(I:Inv X pins σ H s)(g:DGet H a y o)(i:RelV y u)(h:∀w' s',Inv X pins σ H s'->RelV (o.getD .non) w'->Q w' s') :
  wpAny (model X.prog X.w) A (call (.builtin "dict.get") [.ref a,u]) Q E s:=by
 rcases g with ⟨kvs,k,e,ey,l⟩ | ⟨kvs,k,b,e,ey,eb,l⟩
 ·subst ey
  obtain ⟨z,f,vs,d,dd⟩:=kI I.hok e
  refine call_meetsIn PySem.F.slot_dict_get dd.typeIs PySem.F.entry_dict_get (PySem.F.args_dict_get_2 _ _) (meets_dict_get (aM X.prog X.w) a (ku i) f) ⟨_,dd.mapOf,h _ _ (I.tok _) ?_⟩
  rw [l]
  exact (d.val k).getD rfl
 ·subst ey
  cases (show u=Value.ref b from i)
  obtain ⟨z,f,j,d,dd⟩:=kH I.hok e
  refine call_meetsIn PySem.F.slot_dict_get dd.typeIs PySem.F.entry_dict_get (PySem.F.args_dict_get_2 _ _) (meetsH_dict_get (tupleKind (aM X.prog X.w)) a b f) ⟨tupleKind_room_in1 m,k,j,fL I.hok eb,dd,h _ _ (I.tok _) ?_⟩
  rw [l]
  exact (d.val k).getD rfl
theorem B0{Q:Value->Shared->Prop}(x:A.units+1<cLine)(I:Inv X pins σ H s)(g:DGet H a y o)(j:RelV y u)(m:RelV d r)(h:∀w' s',Inv X pins σ H s'->RelV (o.getD d) w'->Q w' s') :
  wpAny (model X.prog X.w) A (call (.builtin "dict.get") [.ref a,u,r]) Q E s:=by
 rcases g with ⟨kvs,k,e,ey,l⟩ | ⟨kvs,k,b,e,ey,eb,l⟩
 ·subst ey
  obtain ⟨z,i,vs,f,dd⟩:=kI I.hok e
  refine call_meetsIn PySem.F.slot_dict_get dd.typeIs PySem.F.entry_dict_get (PySem.F.args_dict_get_3 _ _ _) (meets_dict_get_default (aM X.prog X.w) a (ku j) i r) ⟨_,dd.mapOf,h _ _ (I.tok _) ?_⟩
  rw [l]
  exact (f.val k).getD m
 ·subst ey
  cases (show u=Value.ref b from j)
  obtain ⟨z,i,q,f,dd⟩:=kH I.hok e
  refine call_meetsIn PySem.F.slot_dict_get dd.typeIs PySem.F.entry_dict_get (PySem.F.args_dict_get_3 _ _ _) (meetsH_dict_get_default (tupleKind (aM X.prog X.w)) a b i r) ⟨tupleKind_room_in1 x,k,q,fL I.hok eb,dd,h _ _ (I.tok _) ?_⟩
  rw [l]
  exact (f.val k).getD m
end
def AQ(td ty:TE):TE:=fun σ H Q=>td σ H λx H1=>∃a,x=.ref a/\IsD H1 a/\ty σ H1 λy H2=>∃o,DGet H2 a y o/\Q (o.getD .non) H2
def AO(td ty tx:TE):TE:=fun σ H Q=>td σ H λx H1=>∃a,x=.ref a/\IsD H1 a/\ty σ H1 λy H2=>tx σ H2 λz H3=>∃o,DGet H3 a y o/\Q (o.getD z) H3
section
variable {X:Cx}{o e f:Expr}{apos cpos:Pos}{td ty tx:TE}
theorem wI(G:X.A.units+1<cLine)(J:PE X o td)(K:PE X e ty)(m:M1 X o "get" apos e cpos):PE X (.Call (.Attribute o "get" apos) [e] [] cpos) (AQ td ty):=by
 intro b s σ H Q I h
 refine wpAny_Call_method m.base m.few m.line PySem.F.plainAttrs_dict PySem.F.slot_dict_get PySem.F.type_dict_get (thn (J b s σ H _ I h) λu q ⟨x,H1,i,r,a,ex,d,q1⟩=>?_)
 subst ex
 obtain rfl:u=Value.ref a:=r
 obtain ⟨j,l,_⟩:=io i d
 refine ⟨j,l,?_⟩
 rw [m.trees]
 refine Calls.callWith_builtin rfl (Calls.evalArgs_plain (Calls.spliced_cons (thn (K b q σ H1 _ i q1) λL O ⟨y,w,z,C,ov,g,q2⟩=>Calls.spliced_nil ?_)))
 exact B1 G z g C λP U D f=>⟨_,w,D,f,q2⟩
theorem qw(U:X.A.units+1<cLine)(W:PE X o td)(Y:PE X e ty)(hf:PE X f tx)(m:M2 X o "get" apos e f cpos):PE X (.Call (.Attribute o "get" apos) [e,f] [] cpos) (AO td ty tx):=by
 intro b s σ H Q I h
 refine wpAny_Call_method m.base m.few m.line PySem.F.plainAttrs_dict PySem.F.slot_dict_get PySem.F.type_dict_get (thn (W b s σ H _ I h) λu r ⟨x,H1,j,w,a,ex,d,q1⟩=>?_)
 subst ex
 obtain rfl:u=Value.ref a:=w
 obtain ⟨l,q,_⟩:=io j d
 refine ⟨l,q,?_⟩
 rw [m.trees]
 refine Calls.callWith_builtin rfl (Calls.evalArgs_plain (Calls.spliced_cons (thn (Y b r σ H1 _ j q1) λZ C ⟨y,D,G,J,q2⟩ =>
  Calls.spliced_cons (thn (hf b C σ D _ G q2) λfv s3 ⟨z,K,L,O,ov,g,q3⟩=>Calls.spliced_nil ?_))))
 exact B0 U L g J O λw' s4 P i=>⟨_,K,P,i,q3⟩
end
end L2
namespace Lo
open PySem L2
def sPa(_:Frag)(H:Hp)(x:Pa)(v:V):Prop:=∃a,v=.ref a/\H a=some (.tup [.int x.1,.int x.2])
theorem sPa.c{K:Frag}{H:Hp}{x:Pa}{v:V}(h:sPa K H x v):cPa.rp K H x v:=by
 obtain ⟨a,rfl,e⟩:=h
 exact ⟨a,_,_,ϱ,.inl e,ϱ,ϱ⟩
theorem sPa.keep{K:Frag}{H H':Hp}{x:Pa}{v:V}(e:TSame H H')(h:sPa K H x v):sPa K H' x v:=by
 obtain ⟨a,rfl,q⟩:=h
 exact ⟨a,ϱ,e _ _ q⟩
def pk(x:Pa):List Key:=[.inl x.1,.inl x.2]
theorem Be{x y:Pa}(h:pk x=pk y):x=y:=by
 unfold pk at h
 simp only [List.cons.injEq,Sum.inl.injEq,and_true] at h
 exact Prod.ext h.1 h.2
end Lo
namespace L2
open PySem PySem.Spec PyProof.Rows PySem.W Lo
def BB(mg:Str->Option Value)(h:Heap):Prop:=∃bm ob,mg "__builtins__"=some (.ref bm)/\bm≠builtinsNs/\h.get? bm=some ob/\ob.cls=.type "module"/\ob.dict=some builtinsNs/\ob.data=.plain
def gb(c:Addr)(q:Str):HO:=.ext λh=>∃o vs t,h.get? c=some o/\o.data=.fields vs/\vs[1]?=some (.str q t)
def lT(p:Pos)(c:Addr):Array Value:=#[]++#[rawInt p.line,rawInt p.col,.ref c]
theorem vQ(p:Pos)(c:Addr):(lT p c).toList=[rawInt p.line,rawInt p.col,.ref c]:=by simp [lT]
theorem vR(p:Pos)(c:Addr):codeAmong p (lT p c).toList=some (.ref c):=by
 rw [vQ]
 simp [codeAmong,rawInt]
theorem yB(p:Pos)(c:Addr):TriplesOk (lT p c).toList:=by
 rw [vQ]
 exact trivial
def Tb(H:Hp)(P:Addr)(p:Pos)(q:Str):Prop:=H P=some (.tbl #[])\/∃c,H P=some (.tbl (lT p c))/\H c=some (gb c q)
def noT:HO->Prop
 | .tbl _=>False
 | _=>True
theorem yi{Pg:Program}{w:World}{H:Hp}{h:Heap}{c:Addr}{q:Str}{o:Obj}{vs:Array Value}{t:Tok}(e:h.get? c=some o)(d:o.data=.fields vs)(v:vs[1]?=some (.str q t)) :
  ObjOk Pg w H h c (gb c q):=⟨⟨o,vs,t,e,d,v⟩,⟨_,e⟩,λ_ _ ⟨o,vs,t,e,r⟩ k=>⟨o,vs,t,k _ e,r⟩⟩
end L2
namespace HT
open PySem PyProof.Rows
section
open PySem.SeqAt
open PySem.AutoSeq1 (wpAny_loadPart')
open PySem.MeetsSeq PySem.MeetsSeq2 PySem.MeetsSeq3
end
end HT
namespace L2
open PySem PySem.Spec PyProof.Rows PySem.W Lo
theorem Fun.okC{P:Program}{w:World}{K:Frag}{mg:Str->Option Value}{base:Heap}{x d:Str}{st:Stmt}{f:Addr}{g:FuncData}{N ps:List Str}{k:Nat}{sp:Sp}(F:Fun K x d st f g)(S:am N ps (defScope st))(len:∀vs H Q E,sp vs H Q E->vs.length=ps.length)
  (e:∀(A:Around) (b:List Env) (s:Shared) (H:Hp) (vs:List V) (Q:VK) (E:XK),Room k (A.deeper (envOfC d (defScope st) s.heap.objs.size f g.code))->sp vs H Q E ->
   ∃t,PSs (qX CX0 P w K mg base N d (defScope st) f g.code A b s H E).nox (defBody st) t/\t {nx:=λ_ H'=>Q .non H',rt:=Q} (start N vs) H):FnOk P w K mg base CX0 (k+1) f g ps sp:=by
 obtain ⟨y,od,kV,l,pm,an,m,z,o,rfl,r,i⟩:=F.ex
 refine AB r i S len λA b s H vs Q E u j=>?_
 obtain ⟨t,h,q⟩:=e A b s H vs Q E u j
 exact ⟨t,h.nox,q⟩
theorem uj{h B f:Heap}:∀{l:List Env},h.FunFrames B l->(∀b∈frs l,f.get? b=none)->h.FunFrames f l
 | [],_,_=>trivial
 | env::r,⟨k,⟨L,o,fr,_,e,d⟩,t⟩,n=>by
  have m:frs (env::r)=L::frs r:=by
   show List.filterMap _ (env::r)=_
   rw [List.filterMap_cons,fr]
   rfl
  rw [m] at n
  exact ⟨k,⟨L,o,fr,n L Ω,e,d⟩,uj t λb g=>n b (Θ _ g)⟩
def jw(l:List Env)(H:Hp)(h:Heap):Heap:=hideAll h (trk h H++frs l)
theorem ki{l:List Env}{H:Hp}{h:Heap}{b:Addr}{o:Obj}(e:h.get? b=some o)(n:H b=none)(nf:b∉frs l):(jw l H h).get? b=some o:=hideAll_get _ e λhm=>by
 rcases List.mem_append.mp hm with z | z
 ·have q:(H b).isSome=true:=(List.mem_filter.mp z).2
  rw [n] at q
  simp at q
 ·exact nf z
theorem mE{l:List Env}{H:Hp}{h:Heap}{b:Addr}{o:Obj}(e:(jw l H h).get? b=some o):h.get? b=some o/\H b=none/\b∉frs l:=by
 have d:h.get? b=some o:=of_hideAll _ e
 refine ⟨d,?_,λz=>?_⟩
 ·cases q:H b with
  | none=>rfl
  | some x =>
   have f:b∈trk h H++frs l:=List.mem_append_left _ (List.mem_filter.mpr ⟨List.mem_range.mpr (Heap.lt_size d),by simp [q]⟩)
   have z:(jw l H h).get? b=none:=hideAll_none _ f
   rw [z] at e
   cases e
 ·have z:(jw l H h).get? b=none:=hideAll_none _ (Ψ _ z)
  rw [z] at e
  cases e
def yr(pp:List (Addr×Obj))(cs:List (Addr×V))(h:Heap):Prop:=(∀p∈pp,h.get? p.1=some p.2)/\∀c∈cs,∃u,RelV c.2 u/\h.IsCell c.1 (some u)
def qc(X:Cx)(cs:List (Addr×V))(σ:St):Prop:=∀c∈cs,∃(i:Nat) (x:Str),X.N[i]?=some x/\σ[i]?=some (some c.2)/\X.env.kindOf x=some .cell/\X.env.cells.lookup x=some c.1/\X.fn x=true
section
variable {X:Cx}{pins:List (Addr×Obj)}{σ:St}{H:Hp}{s:Shared}
theorem Inv.nfr2(I:Inv X pins σ H s){b:Addr}{o:Obj}(e:X.base.get? b=some o):b∉frs X.stack:=λz=>by
 rcases ϕ.mp (I.stkSub b z) with z | z
 ·have:=η (I.ok.bs b o e).1
  rw [z] at this
  exact absurd this (Nat.not_lt.mpr I.ok.above)
 ·exact I.ok.nofr e z
theorem Inv.baseK(I:Inv X pins σ H s):∀b o,X.base.get? b=some o->(jw X.stack H s.heap).get? b=some o:=λb o e=>ki (I.bs b o e).1 (I.bs b o e).2 (I.nfr2 e)
theorem Inv.modB(I:Inv X pins σ H s):Mod X.K X.mg (jw X.stack H s.heap):=by
 obtain ⟨d,e,⟨f,g,h⟩,i⟩:=I.ok.mod
 have b:=I.baseK
 exact ⟨d.keeps b,e.keeps b,⟨f,g.keeps b,h⟩,i.keeps b⟩
theorem Inv.env0B(I:Inv X pins σ H s):Env0 X.prog X.w X.K X.mg (jw X.stack H s.heap) X.A X.stack s H:=by
 refine ⟨I.ok.frames,I.modB,λb o e=>⟨(mE e).1,(mE e).2.1⟩,Nat.le_of_eq (hideAll_size _ _),uj I.stack λb d=>?_,I.stkFree,I.hok,I.bare⟩
 cases z:(jw X.stack H s.heap).get? b with
 | none=>rfl
 | some o=>exact absurd d (mE z).2.2
theorem Inv.pinB{pp:List (Addr×Obj)}{cs:List (Addr×V)}(I:Inv X pins σ H s)(C:∀p∈pp,p∈X.pn)(D:qc X cs σ):yr pp cs (jw X.stack H s.heap):=by
 refine ⟨λp f=>?_,λc f=>?_⟩
 ·obtain ⟨e,n,h,j,_⟩:=I.pin p (List.mem_append_left _ (C p f))
  exact ki e n λz=>(ϕ.mp (I.stkSub _ z)).elim h j
 ·obtain ⟨i,x,h1,l,g,b,q⟩:=D c f
  obtain ⟨m,F,w⟩:=I.loc
  obtain ⟨u,r,y⟩:=w i x c.2 h1 l (.inr (.inl g))
  rcases y with ⟨z,_⟩ | ⟨_,c',e,o,ho,hd⟩
  ·rw [g] at z
   cases z
  ·rw [b] at e
   cases e
   refine ⟨u,r,o,ki ho (I.freeC x _ b) λz=>?_,hd⟩
   rcases ϕ.mp (I.stkSub _ z) with z | z
   ·exact I.cne x _ b z
   ·obtain ⟨_,G,d,_⟩:=I.ok.funs.mem z
    exact absurd (η d) (Nat.not_lt.mpr (I.ok.cab x _ q b))
end
structure yx(N:List Str)(x:Str)(sc:Scope)(cl:List (Str×Addr)):Prop where
 kind:sc.kind=.function
 co:sc.isCoroutine=false
 gen:sc.isGenerator=false
 nd:N.Nodup
 pre:N[0]?=some x
 par:sc.names.lookup x=some .local
 nocell:∀y∈sc.names,y.2≠.cell
 free:∀y,sc.names.lookup y=some .free->∃c,cl.lookup y=some c
 inj:∀y z c,cl.lookup y=some c->cl.lookup z=some c->y=z
def yg(CX:CXT)(P:Program)(w:World)(K:Frag)(mg:Str->Option Value)(base:Heap)(N:List Str)(qual:Str)(scope:Scope)(f:Addr)(cd:Value)(cl:List (Str×Addr))(A:Around)(outer:List Env)(s:Shared)(H:Hp)(E:XK):Cx where
 prog:=P
 w:=w
 K:=K
 mg:=mg
 base:=base
 A:=A.deeper (envX qual scope s.heap.objs.size f cd cl)
 N:=N
 s₀:=s
 H₀:=H
 env:=envX qual scope s.heap.objs.size f cd cl
 outer:=outer
 stack:=envX qual scope s.heap.objs.size f cd cl::outer
 ex:=[]
 calm:=true
 fn:=λ_=>false
 pn:=[]
 xe:=λe s'=>wpAny (model P w) (A.deeper (envX qual scope s.heap.objs.size f cd cl)) (leaving (envX qual scope s.heap.objs.size f cd cl) e) (λ_ s''=>CX outer H s E e s'') (λe' s''=>CX outer H s E e' s'') s'
end L2
namespace L2
open PySem PySem.Spec PyProof.Rows Lo
theorem wP{X:Cx}(n:Nat)(f:X.A.units+n<cLine):OpR X (compareOp .Eq) (λx y H Q=>rn X.K n H x y true/\Q (.bl true) H):=by
 intro b s σ H x y v u Q I d e h
 exact h.1 X.prog X.w X.A s v u f I.hok I.kIn d e X.prog X.w X.xe _ ⟨.bl true,H,I,ϱ,h.2⟩
open PySem.W
theorem zP{k:Key}{u:Value}(h:mQ k u=true):RelV (kV k) u:=by
 cases k with
 | inl i=>exact Value.isInt_shape h
 | inr x=>exact Value.isStrOf_shape h
def jz(f:Addr)(q:Str)(pr:Arguments)(b:Expr)(sc:Scope)(cl:List (Str×Addr))(c:Addr):HO:=.ext λh=>∃pm ct,h.get? f=some {cls:=.type "function",data:=.func (kla_fn "<lambda>" q pr b sc cl pm (.ref c) ct)}
theorem qM{Pg:Program}{w:World}{H:Hp}{h:Heap}{f:Addr}{q:Str}{pr:Arguments}{b:Expr}{sc:Scope}{cl:List (Str×Addr)}{c:Addr}{pm ct:Value}(e:h.get? f=some {cls:=.type "function",data:=.func (kla_fn "<lambda>" q pr b sc cl pm (.ref c) ct)}) :
  ObjOk Pg w H h f (jz f q pr b sc cl c):=⟨⟨pm,ct,e⟩,⟨_,e⟩,λ_ _ ⟨pm,ct,e⟩ k=>⟨pm,ct,k _ e⟩⟩
def Cq(P:Addr)(p:Pos)(q:Str)(pr:Arguments)(b:Expr)(sc:Scope)(cl:List (Str×Addr)):TE:=λ_ H Q=>Tb H P p q/\∀f c H',Kp P H H'->H' P=some (.tbl (lT p c))->((H P=some (.tbl #[])/\H c=none)\/H P=some (.tbl (lT p c)))->H f=none->H' f=some (jz f q pr b sc cl c)->H' c=some (gb c q)->Q (.ref f) H'
theorem tQ{X:Cx}{cl:List (Str×Addr)}{cc P:Addr}{pos:Pos}{q:Str}{J:Arguments}{b:Expr}{L:Scope}(x:X.env.code=.ref cc)(hC:codeHdIn X.K cc P=true)(hB:BB X.mg X.base)(hq:X.env.qual++"<lambda>"=q)
  (a6:closureFor L X.env=pure cl)(a7:defaultsOf J X.env=([],[])):PE X (.Lambda J b L pos) (Cq P pos q J b L cl):=by
 intro a5 s σ H Q I h
 obtain ⟨D,hQ⟩:=h
 subst hq
 refine kla_eval a7 ?_
 have hg:s.heap.Ns mainGlobals X.mg:=I.ok.mod.glob.keeps I.bk
 have C:CodeHd s.heap cc P:=codeHd_of_K I.kIn hC
 obtain ⟨bm,ob,b1,b2,b3,b4,b5,b6⟩:=hB
 have i:=I.bk _ _ b3
 have a0:bm≠mainGlobals:=λz=>by
  obtain ⟨o,es,ep,e,Y,_⟩:=hg
  rw [z,e] at i
  cases i
  rw [Y] at b6
  cases b6
 have nG:∀ps,s.heap.get? P=some (tabObj ps)->mainGlobals≠P/\bm≠P:=λps e=>by
  refine ⟨λz=>?_,λz=>?_⟩
  ·obtain ⟨o,es,ep,e',Y,_⟩:=hg
   rw [z,e] at e'
   cases e'
   cases Y
  ·rw [z,e] at i
   cases i
   cases b4
 rcases D with e | ⟨c,e,ec⟩
 ·have W:s.heap.get? P=some (tabObj #[]):=I.hok P _ e
  obtain ⟨n1,Z⟩:=nG _ W
  refine kla_makeFunction (mg:=X.mg) (clos:=cl) a6 I.ok.glob hg x C W trivial rfl n1 ⟨bm,ob,b1,b2,a0,Z,i,b4,b5,b6⟩ λc ct g tk hx j G a4 D=>?_
  obtain ⟨c₂,oc,vs,t,e2,av,Y,hv⟩:=a4
  cases e2
  have ltP:P<s.heap.objs.size:=η W
  have a1:H c=none:=I.hok.fresh j
  have w:H g.objs.size=none:=I.hok.fresh (Nat.le_of_lt (Nat.lt_of_le_of_lt j G))
  have cf:c≠g.objs.size:=Φ G
  have Pc:P≠c:=Φ (Nat.lt_of_lt_of_le ltP j)
  have Pf:P≠g.objs.size:=Φ (Nat.lt_trans (Nat.lt_of_lt_of_le ltP j) G)
  let H3:Hp:=upd (upd (upd H P (.tbl (lT pos c))) c (gb c (X.env.qual++"<lambda>"))) g.objs.size (jz g.objs.size (X.env.qual++"<lambda>") J b L cl c)
  have O:∀d,d≠g.objs.size->d≠c->d≠P->H3 d=H d:=λd n1 Z n3=>(ao n1).trans ((ao Z).trans (ao n3))
  have a2:H3 g.objs.size=some (jz g.objs.size (X.env.qual++"<lambda>") J b L cl c):=ae
  have a3:H3 c=some (gb c (X.env.qual++"<lambda>")):=(ao cf).trans ae
  have U:H3 P=some (.tbl (lT pos c)):=(ao Pf).trans ((ao Pc).trans ae)
  have old:∀d o,d≠P->H d=some o->H3 d=some o:=λd o n z=>(O d (ap z w) (ap z a1) n).trans z
  have kp:∀d o,d≠P->s.heap.get? d=some o->(g.push (kla_obj "<lambda>" (X.env.qual++"<lambda>") J b L cl ((X.mg "__name__").getD .none) c ct)).get? d=some o:=λd o n z=>ρ _ (hx d o n z)
  have F:∀d,H d=none->d≠P:=λd z y=>by
   rw [y,e] at z
   cases z
  have f:∀d o,noT o->H d=some o->d≠P:=λd o n z y=>by
   rw [y,e] at z
   cases z
   exact n
  have I3:Inv X a5 σ H3 {s with heap:=g.push (kla_obj "<lambda>" (X.env.qual++"<lambda>") J b L cl ((X.mg "__name__").getD .none) c ct),toks:=tk}:=by
   refine I.step (g':=s.gens) (d':=s.drawn) (t':=tk) (ch:=[]) (λ_ z=>nomatch z) (λd o _ _ _ z n=>kp d o (F d n) z) (λd o _ _ _ z n=>⟨o.slots,kp d o (F d n) z⟩) (λd o _ z n=>?_) (λd o _ z=>?_)
    (λd xs z=>old d _ (f d (.tup xs) trivial z) z) (λd o u z=>old d _ (f d (.frz o u) trivial z) z) (λd ps z=>?_) (λm hm=>?_) (λd u z=>?_) I.bare
   ·have l:=η z
    exact (O d (Φ (Nat.lt_of_lt_of_le l (Nat.le_of_lt (Nat.lt_of_le_of_lt j G)))) (Φ (Nat.lt_of_lt_of_le l j)) (F d n)).trans n
   ·by_cases y:d=P
    ·rw [y]
     exact ⟨_,ρ _ D⟩
    ·exact ⟨o,kp d o y z⟩
   ·by_cases y:d=P
    ·subst y
     rw [e] at z
     cases z
     exact ⟨#[rawInt pos.line,rawInt pos.col,.ref c],U⟩
    ·exact ⟨#[],by rw [old d _ y z];simp⟩
   ·obtain ⟨o,es,ep,ho,r⟩:=hm
    exact ⟨o,es,ep,kp _ o (F _ I.free) ho,r⟩
   ·by_cases y1:d=g.objs.size
    ·subst y1
     rw [a2] at z
     cases z
     exact qM (ψ _ rfl)
    ·by_cases y2:d=c
     ·subst y2
      rw [a3] at z
      cases z
      exact yi (ρ _ av) Y hv
     ·by_cases y3:d=P
      ·subst y3
       rw [U] at z
       cases z
       exact ρ _ D
      ·rw [O d y1 y2 y3] at z
       refine (I.hok d u z).stay (λa v ha q=>kp a v ?_ q) (λa q=>old a _ (f a (.own d) trivial q) q) λa xs q=>old a _ (f a (.tup xs) trivial q) q
       rcases ha with ha | ha
       ·rw [ha]
        exact y3
       ·exact f a (.own d) trivial ha
  exact ⟨.ref g.objs.size,H3,I3,ϱ,hQ _ c H3 (λd o n z=>old d o n z) U (.inl ⟨e,a1⟩) w a2 a3⟩
 ·have W:s.heap.get? P=some (tabObj (lT pos c)):=I.hok P _ e
  obtain ⟨n1,Z⟩:=nG _ W
  refine kla_makeFunctionHit (mg:=X.mg) (clos:=cl) (cv:=.ref c) a6 I.ok.glob hg x C W (yB _ _) (vR _ _) ⟨bm,ob,b1,b2,a0,Z,i,b4,b5,b6⟩ λct g tk hk hz=>?_
  have w:H g.objs.size=none:=I.hok.fresh hz
  have sm:=ah (o:=jz g.objs.size (X.env.qual++"<lambda>") J b L cl c) w
  exact ⟨.ref g.objs.size,_,I.laid (o:=jz g.objs.size (X.env.qual++"<lambda>") J b L cl c) (t':=tk) (λd o z=>ρ _ (hk d o z)) hz (qM (ψ _ rfl)),ϱ,
   hQ _ c _ (Kp.of sm) (sm _ _ e) (.inr e) w ae (sm _ _ ec)⟩
theorem qL{P:Program}{w:World}{K:Frag}{mg:Str->Option Value}{base:Heap}{A:Around}{d:List Env}{s:Shared}{H:Hp}{k:Nat}{f c:Addr}{q:Str}{pr:Arguments}{b:Expr}{g:Scope}{cl:List (Str×Addr)}{N:List Str}{x:Str}{fvs:List V}{cs:List (Addr×V)}{u:Value}{v:V}{Q:VK}
  (hr:Room (k+1) A)(e0:Env0 P w K mg base A d s H)(hB:yr [] cs base)(S:yx N x g cl)(U:N.length=fvs.length+1)(a5:∀y a,cl.lookup y=some a->∃v,(a,v)∈cs)
  (a6:∀(j:Nat) (y:Str) (v:V),N[j+1]?=some y->fvs[j]?=some v->g.names.lookup y=some .free/\∃a,cl.lookup y=some a/\∀v',(a,v')∈cs->v'=v)(hf:H f=some (jz f q pr b g cl c))(hc:H c=some (gb c q))(r:RelV v u)
  (hb:∀pm ct,BindsTo s (kla_fn "<lambda>" q pr b g cl pm (.ref c) ct) ⟨[u],[]⟩ [(x,u)])(G:∃t,PE (yg CX0 P w K mg base N q g f (.ref c) cl A d s H E0) b t/\t ((v::fvs).map some) H Q) :
  codeAny (model P w) A (.call (.ref f) ⟨[u],[]⟩) (CR CX0 d P w H s Q E0) s:=by
 have a1:s.heap.NoLimit:=e0.mod.nolimit.keeps λb o e=>(e0.bs b o e).1
 obtain ⟨⟨pm,ct,m⟩,_⟩:=(show ObjOk P w H s.heap f (jz f q pr b g cl c) from e0.hok f _ hf)
 obtain ⟨⟨oc,ws,t,W,X,hv⟩,_⟩:=(show ObjOk P w H s.heap c (gb c q) from e0.hok c _ hc)
 obtain ⟨_,Y⟩:=hB
 refine kla_callFunE (by have:=hr.dp;omega) m rfl S.co S.gen rfl ⟨c,oc,ws,t,ϱ,W,X,hv⟩ (hb pm ct _ _ _ _ ?_)
 refine wpAny_newFunctionEnv S.nocell (λy hy=>by obtain rfl:=ϵ.mp hy;exact S.par) (λh₁ a2 O=>⟨a1.fresh _ O,kla_codeExpr ?_⟩) S.kind
 have l:∀b o,s.heap.get? b=some o->h₁.get? b=some o:=λb o e=>O.extBut b o (Φ (η e)) (ρ _ e)
 obtain ⟨t,ht,hq⟩:=G
 have bL:∀y a,cl.lookup y=some a->∃v,(a,v)∈cs/\∃u,RelV v u/\s.heap.IsCell a (some u)/\H a=none:=λy a e=>by
  obtain ⟨v,L⟩:=a5 y a e
  obtain ⟨u,ru,o,m,X⟩:=Y _ L
  exact ⟨v,L,u,ru,⟨o,(e0.bs _ _ m).1,X⟩,(e0.bs _ _ m).2⟩
 have D:∀b:Addr,b∉(yg CX0 P w K mg base N q g f (.ref c) cl A d s H E0).ex:=λb z=>absurd (show b∈([]:List Addr) from z) (by simp)
 have I:Inv (yg CX0 P w K mg base N q g f (.ref c) cl A d s H E0) [] ((v::fvs).map some) H {s with heap:=h₁,toks:=s.toks+[(x,u)].length}:=by
  refine ⟨⟨e0.mod,S.kind,ϱ,ϱ,ι _,S.inj,λy hy=>?_,λy c h _=>absurd h (by show ¬(false=true);decide),λ_=>hr.hd,Around.frames_deeper e0.frames,.inr ⟨ϱ,ϱ⟩,λb z=>absurd z (D b),e0.bs,e0.bsz,λb _ _=>D b,λb z=>absurd z (D b),e0.funs,e0.frf⟩,
   rfl,e0.bare,Un.kept l,⟨_,a2,λi y v' h1 h2 h3=>?_⟩,λy a e=>?_,e0.hok.fresh (Nat.le_refl _),λy a e=>?_,λp hp=>absurd (show p∈([]:List (Addr×Obj)) from hp) (by simp),e0.hok.kept l,?_⟩
  ·have hy:g.names.lookup y=some .cell\/g.names.lookup y=some .free:=hy
   rcases hy with hy | hy
   ·exact absurd rfl (S.nocell _ (PySem.mem_of_lookup hy))
   ·exact S.free y hy
  ·cases i with
   | zero =>
    have e1:some x=some y:=S.pre.symm.trans h1
    cases e1
    have F:some (some v)=some (some v'):=h2
    cases F
    exact ⟨u,r,.inl ⟨S.par,by simp⟩⟩
   | succ j =>
    have F:(fvs.map some)[j]?=some (some v'):=h2
    rw [List.getElem?_map] at F
    cases e3:fvs[j]? with
    | none =>
     rw [e3] at F
     cases F
    | some v2 =>
     rw [e3] at F
     cases F
     obtain ⟨hf,a,ea,hu⟩:=a6 j y _ h1 e3
     obtain ⟨v3,L,Z,r3,⟨o,m,C⟩,_⟩:=bL y a ea
     obtain rfl:=hu _ L
     exact ⟨Z,r3,.inr ⟨.inr hf,a,ea,o,l _ _ m,C⟩⟩
  ·obtain ⟨v3,L,Z,r3,⟨o,m,C⟩,_⟩:=bL y a e
   exact ⟨_,o,l _ _ m,C⟩
  ·obtain ⟨v3,L,Z,r3,_,n⟩:=bL y a e
   exact n
  ·show _=N.length
   rw [U]
   simp
 refine wpAny_mono (ht [] _ _ H Q I hq) (λu s' hs=>?_) λe s' hs=>hs
 obtain ⟨v,H',J,rv,q⟩:=hs
 exact ⟨v,H',J.os,J.bare,J.base,J.hok,rv,q⟩
structure CloT(P:Program)(w:World)(K:Frag)(mg:Str->Option Value)(base:Heap)(k:Nat)(f:Addr)(sp:Sp)(H:Hp):Prop where
 fn:∃q pr b sc cl c,H f=some (jz f q pr b sc cl c)
 run:∀(H1:Hp) (A:Around) (outer:List Env) (s:Shared) (v:V) (u:Value) (Q:VK),Same H H1->Room k A->Env0 P w K mg base A outer s H1->RelV v u->sp [v] H1 Q E0->codeAny (model P w) A (.call (.ref f) ⟨[u],[]⟩) (CR CX0 outer P w H1 s Q E0) s
theorem CloT.keep{P:Program}{w:World}{K:Frag}{mg:Str->Option Value}{base:Heap}{k:Nat}{f:Addr}{sp:Sp}{H H':Hp}(h:CloT P w K mg base k f sp H)(e:Same H H'):CloT P w K mg base k f sp H' :=
 ⟨let ⟨q,pr,b,sc,cl,c,z⟩:=h.fn;⟨q,pr,b,sc,cl,c,e _ _ z⟩,λH1 A outer s v u Q e1 hr e0 r hs=>h.run H1 A outer s v u Q (e.trans e1) hr e0 r hs⟩
section
variable {X:Cx}{CX:CXT}{k:Nat}{f C:Addr}{fd:FuncData}{ps:List Str}{E:XK}{x m:Str}{p pos apos:Pos}{e o:Expr}{es:List Expr}{ta:TE}{t:TA}{cs:List (Addr×V)}
def AS(P:Program)(w:World)(K:Frag)(mg:Str->Option Value)(base:Heap)(k i:Nat)(sp:Sp)(t:TA):TE:=fun σ H Q=>∃f,σ[i]?=some (some (.ref f))/\(∃q pr b sc cl c,H f=some (jz f q pr b sc cl c))/\t σ H λvs H1=>∃v,vs=[v]/\CloT P w K mg base k f sp H1/\sp [v] H1 Q E0
theorem my{i:Nat}{sp:Sp}(P:Program)(w:World)(K:Frag)(mg:Str->Option Value)(base:Heap)(hN:X.N[i]?=some x)(hv:Vis X.env.scope x)(hr:Room k X.A)(ha:PA X [e] t)(hP:X.prog=P:=by rfl)(hw:X.w=w:=by rfl)(hK:X.K=K:=by rfl)(y:X.mg=mg:=by rfl)(C:X.base=base:=by rfl)
  (D:(x==("__debug__":Str))=false:=by decide)(F:(x==("__classdict__":Str))=false:=by decide)(he:starEach [e] X.env=(false,eval e X.env)::starEach [] X.env:=by rfl)(G:(backTo pos (starEach [] X.env)).any (·.1)=false:=by rfl) :
  PE X (.Call (.Name x p) [e] [] pos) (AS P w K mg base k i sp t):=by
 subst hP hw hK y C
 intro d s σ H Q I ⟨f,hσ,hf,h⟩
 have j:∀{σ':St} {g:Hp} {l:Shared},Inv X d σ' g l->(∃q pr b sc cl c,g f=some (jz f q pr b sc cl c))->FnAt f l.heap:=λ{σ' g l} J ⟨q,pr,b,sc,cl,c,z⟩=>by
  obtain ⟨⟨pm,ct,U⟩,_⟩:=(show ObjOk X.prog X.w g l.heap f (jz f q pr b sc cl c) from J.hok f _ z)
  exact ⟨_,_,_,_,U⟩
 refine wpAny_Call_Name_kw (thn ((r8 (pos:=p) hN hv D F) d s σ H (λv g=>v=.ref f/\g=H) I ⟨_,hσ,ϱ,ϱ⟩) λu W ⟨v,H1,L,r,Y,Z⟩=>?_)
 subst Y
 subst Z
 cases r
 refine callWith_F (first:=[]) (j L hf) (thn (ha pos d W σ H1 _ L h) λus s2 ⟨vs,H2,o,r,v,ev,O,q⟩=>⟨j o O.fn,?_⟩) he G
 subst ev
 cases r with
 | cons rv rr =>
  cases rr
  refine wpAny_call (codeAny_mono (O.run H2 X.A X.stack s2 v _ Q (Same.refl _) hr o.env0 rv q) λr l m=>?_)
  cases r with
  | error e=>exact False.elim m
  | ok fl =>
   cases fl with
   | ret u=>exact o.after m
   | next=>exact False.elim m
   | brk=>exact False.elim m
   | cont=>exact False.elim m
def AJ(X:Cx)(cs:List (Addr×V))(C:Addr)(m:Str)(sp:Heap->Sp)(E:XK)(ta:TE)(t:TA):TE:=fun σ H Q=>qc X cs σ/\ta σ H λx H1=>∃a dx fs,x=.ref a/\H1 a=some (.ins C dx fs)/\fs.lookup m=none /\
 t σ H1 λvs H2=>∀B,X.K.In B->yr [] cs B->sp B (x::vs) H2 Q E
theorem qt{sp:Heap->Sp}{pl:Sem Bool}(he:PE X o ta)(c:Cls X.K C)(U:ir X.K C m f)(F:∀B:Heap,X.K.In B->FnOk X.prog X.w X.K X.mg B CX k f fd ps (sp B))(hr:Room k X.A)(hb:Binds X.K fd ps [])(hx:c9 CX X E)(ha:PA X (e::es) t)
  (D:starEach (e::es) X.env=(false,eval e X.env)::starEach es X.env:=by rfl)(G:(backTo pos (starEach es X.env)).any (·.1)=false:=by rfl)
  (ht:eval (.Call (.Attribute o m apos) (e::es) [] pos) X.env=(do
   let ov ← eval o X.env
   standAt apos.atName
   let (f,first) ← holding [ov] (getMethod ov m pl)
   callWith pos f first (backTo pos (starEach (e::es) X.env)) (backToKw pos (keywordEach [] X.env))):=by rfl) :
  PE X (.Call (.Attribute o m apos) (e::es) [] pos) (AJ X cs C m sp E ta t):=by
 intro b s σ H Q I ⟨hc,h⟩
 refine PySem.W.methodCall_KW (pl:=pl) (thn (he b s σ H _ I h) λu Z ⟨x,H1,O,rx,a,dx,fs,ex,ea,l,q⟩=>?_) ht
 subst ex
 obtain rfl:u=Value.ref a:=rx
 refine iT O ea c U l ?_
 refine PySem.W.callWith_K (first:=[.ref a]) (h₀:=X.base) I.ok.mod.kin U.kp (thn (ha pos b Z σ H1 _ O q) λj y ⟨vs,P,g,r,q2⟩=>⟨g.kIn,?_⟩) D G
 have d:=q2 _ g.modB.kin (g.pinB (pp:=[]) (λp z=>nomatch z) hc)
 have J:=F _ g.modB.kin
 have L:Vals (.ref a::vs) (.ref a::j):=.cons rfl r
 have Y:((Value.ref a::j)++[]).length=ps.length:=by rw [List.append_nil,← L.length];exact J.len _ _ _ _ d
 have i:=hb y (.ref a::j) g.kIn Y
 rw [List.append_nil] at i
 refine wpAny_call (codeAny_mono (J.run X.A X.stack y P ⟨.ref a::j,[]⟩ (.ref a::j) (.ref a::vs) Q E hr g.env0B i L d) λr s' d=>?_)
 cases r with
 | error e=>exact hx b σ P y e s' g d
 | ok fl =>
  cases fl with
  | ret u=>exact g.after d
  | next=>exact False.elim d
  | brk=>exact False.elim d
  | cont=>exact False.elim d
end
theorem fj:plainId "dict.update.loop"=true:=by decide +kernel
theorem ky : entryFor table "dict.update.loop" = some Builtin.«dict.update.loop» := entryFor_of_tree (by kernel_rfl)
def sR(P:Program)(w:World)(h:Heap)(u:Value)(kv:Key×Value):Prop:=∃b key,u=.ref b/\h.IsTuple b #[key,kv.2]/\(aM P w).is kv.1 key=true
theorem sO{P:Program}{w:World}{A:Around}{R:Result->Shared->Prop}{d it t:Addr}(hh:A.in1.handled=none)(C:d≠it)(a7:d≠t)(a8:it≠t)(us:List Value)(g:List (Key×Value))(lk:us.length=g.length) :
  ∀(n i:Nat) (s:Shared) (f:List (Key×Value)) (tk:Tok),us.length-i=n->i<=us.length->s.heap.IsTupleIter it t i->s.heap.IsTuple t us.toArray->s.heap.DictOf (aM P w) d f->f.length+us.length<=sizeLine+i ->
   (∀(j:Nat) (u:Value) (h:Key×Value),us[j]?=some u->g[j]?=some h->sR P w s.heap u h/\u≠.ref d/\u≠.ref it) ->
   (∀h' tk',h'.DictOf (aM P w) d (merged f (g.drop i))->(∀b o,b≠d->b≠it->s.heap.get? b=some o->h'.get? b=some o)->R (.ok (.ret .none)) {s with heap:=h',toks:=tk'}) ->
   codeAny (model P w) A (.builtin "dict.update.loop" ⟨[.ref d,.ref it,.int i tk,.none],[]⟩) R s:=by
 intro n
 induction n with
 | zero =>
  intro i s f tk hn hi y K hd hz hp hR
  have e:i=us.length:=by omega
  subst e
  refine codeAny_builtin ky ?_
  rw [Around.under_plainId fj _]
  show wpAny _ A.in1 (pyNext (.ref it) >>= _) _ _ s
  refine wpAny_bind (wpAny_pyNext_tuple_end hh y K (by simp) λh' eb=>?_)
  have e0:g.drop us.length=[]:=by rw [lk];exact List.drop_length
  show wpAny _ _ (Builtin.Dict.addKeywords d [] >>= λ_=>ret Value.none) _ _ _
  refine ε (π (π ?_))
  refine hR h' s.toks ?_ (λb o _ nb e=>eb b o nb e)
  rw [e0]
  exact hd.extBut eb C
 | succ n ih =>
  intro i s f tk hn hi y K hd hz hp hR
  have G:i<us.length:=by omega
  have W:us[i]?=some us[i]:=ξ G
  have J:g[i]?=some (g[i]'(ω)):=ξ ω
  generalize us[i]=u at W
  generalize (g[i]'(ω))=h at J
  have ek:g.drop i=h::g.drop (i+1):=by
   rw [List.drop_eq_getElem_cons ω]
   rw [ξ ω] at J
   rw [Δ J]
  obtain ⟨⟨b,x,rfl,hb,D⟩,nd,ni⟩:=hp i u h W J
  have bg:b≠d:=λz=>nd (by rw [z])
  have X:b≠it:=λz=>ni (by rw [z])
  refine codeAny_builtin ky ?_
  rw [Around.under_plainId fj _]
  show wpAny _ A.in1 (pyNext (.ref it) >>= _) _ _ s
  refine wpAny_bind (wpAny_pyNext_tuple_item y K (by simpa using W) λh1 I l=>?_)
  have H:h1.IsTuple b #[x,h.2]:=by
   obtain ⟨o,m,r⟩:=hb
   exact ⟨o,(l.2 b X).trans m,r⟩
  have Y:h1.DictOf (aM P w) d f:=hd.sameBut l C
  have Z:h1.IsTuple t us.toArray:=by
   obtain ⟨o,m,r⟩:=K
   exact ⟨o,(l.2 t (Ne.symm a8)).trans m,r⟩
  refine ε (wpAny_holding (ε (wpAny_tryCatch ?_)))
  show wpAny _ _ (Builtin.Dict.pairItems (.ref b)) _ _ _
  unfold Builtin.Dict.pairItems
  refine ε (wpAny_typeOf H.typeIs ?_)
  rw [if_pos ζ]
  obtain ⟨ob,L,b0,nb,O⟩:=id H
  refine ε (wpAny_seqItems L O (π ?_))
  show wpAny _ _ (holding [x,h.2] (dictSet d x h.2)) _ _ _
  refine wpAny_holding (wpAny_dictSet_pairs D Y (λh2 a0 q=>?_) ω)
  refine π ⟨plainId_quiet fj _,ih (i+1) _ (stored f h.1 h.2) _ ω G ?_ ?_ a0 ?_ ?_ λh' tk' a1 kp=>?_⟩
  ·obtain ⟨o,m,r⟩:=I
   exact ⟨o,(q.2 it (Ne.symm C)).trans m,r⟩
  ·obtain ⟨o,m,r⟩:=Z
   exact ⟨o,(q.2 t (Ne.symm a7)).trans m,r⟩
  ·have:(stored f h.1 h.2).length<=f.length+1:=by
    unfold stored
    split
    ·rw [ν];omega
    ·rw [List.length_append];exact ι _
   omega
  ·intro j u2 a6 e1 e2
   obtain ⟨⟨b2,F,rfl,Q,U⟩,n1,n2⟩:=hp j u2 a6 e1 e2
   refine ⟨⟨b2,F,ϱ,?_,U⟩,n1,n2⟩
   obtain ⟨o,m,r⟩:=Q
   exact ⟨o,(q.2 b2 λz=>n1 (by rw [z])).trans ((l.2 b2 λz=>n2 (by rw [z])).trans m),r⟩
  ·refine hR h' tk' ?_ λb3 o3 x1 x2 e3=>kp b3 o3 x1 x2 ((q.2 b3 x1).trans ((l.2 b3 x2).trans e3))
   rw [ek]
   exact a1
theorem zH:typeLookup (.type "tuple") "keys"=pure none:=am_miss_of_fast (by kernel_rfl)
set_option maxRecDepth 100000 in
theorem qN{prog:Program}{w:World}{A:Around}{E:Value->Shared->Prop}{s:Shared}{a:Addr}{xs:Array Value}{k:Nat}{l:Array (Option Value)}{Q:Option Value->Shared->Prop}
  (m:s.heap.get? a=some {cls:=.type "tuple",dict:=none,data:=.seq xs k,slots:=l})(u:A.handled=none)
  (h:∀h' tk,(∀b o,s.heap.get? b=some o->h'.get? b=some o)->Q none {s with heap:=h',toks:=tk}) :
  wpAny (model prog w) A (getAttr? (.ref a) "keys") Q E s:=by
 obtain ⟨q,g,d,tk,r⟩:=s
 have j:∀f,(⟨q,g,d,f,r⟩:Shared).TypeIs (.ref a) "tuple":=λ_=>⟨_,m,ϱ⟩
 have C:=sub_AttributeError
 have D:=F.slot_tuple_getattribute.lookup
 have G:=F.slot_tuple_getattribute.bind (.ref a)
 have H:=am_tuple_getattr_none
 unfold getAttr? getAttrBy? getAttrBy
 repeat (any_goals (first | assumption | exact j _ | ((with_reducible show wpAny _ _ (call (Value.builtin "tuple.__getattribute__") _ _) _ _ _);refine call_meets F.slot_tuple_getattribute (j _) am_entry_tuple_getattribute (F.args_tuple_getattribute_2 _ _) (meets_getattribute_miss_tuple a xs k l "keys" _ zH θ θ) ⟨m,u,λh' f e i=>?_⟩) | wp_step))
 obtain ⟨x,y,z⟩:=i.there
 show wpAny _ _ (getattributeRaised _ _ _ _ _ _ _) _ _ _
 unfold getattributeRaised
 repeat (any_goals (first | assumption | wp_step))
 exact h _ _ i.keeps
theorem lA{P:Program}{w:World}{A:Around}{E:Value->Shared->Prop}{s:Shared}{t:Addr}{us:List Value}{l:List (Key×Value)}{Q:Value->Shared->Prop}(hh:A.handled=none)(nd:s.heap.NoDictAt (.ref t))(ht:s.heap.IsTuple t us.toArray)(lk:us.length=l.length)(hz:us.length<=sizeLine)
  (hp:∀(j:Nat) (u:Value) (G:Key×Value),us[j]?=some u->l[j]?=some G->sR P w s.heap u G)
  (h:∀h' tk,h'.DictOf (aM P w) s.heap.objs.size (merged [] l)->(∀b o,s.heap.get? b=some o->h'.get? b=some o)->Q (.ref s.heap.objs.size) {s with heap:=h',toks:=tk}) :
  wpAny (model P w) A (call (.type "dict") [.ref t]) Q E s:=by
 refine callType_codes (Q₁:=λy s₁=>y=.ref s.heap.objs.size/\s₁={s with heap:=s.heap.push {cls:=.type "dict",data:=.dict #[]}}) F.kt_called_dict (F.kt_typeCall_dict_1 _) F.entry_dict_init (kt_code_dict_new _ ⟨ϱ,ϱ⟩) ?_
 rintro y s₁ ⟨rfl,rfl⟩
 have f:(s.heap.push {cls:=.type "dict",data:=.dict #[]}).DictOf (aM P w) s.heap.objs.size []:=Heap.DictOf.new s.heap
 obtain ⟨o,H,X,n,m⟩:=ht
 have K:=nd.of H
 have q:t<s.heap.objs.size:=η H
 refine ⟨f.typeIs,F.args_dict_init_2 _ _,?_⟩
 unfold Builtin.«dict.__init__»
 refine ε ?_
 unfold Builtin.Dict.selfAndRest
 refine ε (wpAny_notOrdered_dict f.typeIs ?_)
 show wpAny _ _ (pure (s.heap.objs.size,[Value.ref t])) _ _ _
 refine π ?_
 show wpAny _ _ (Builtin.Dict.updateFrom "dict.__init__" s.heap.objs.size (.ref t) [] .none) _ _ _
 unfold Builtin.Dict.updateFrom
 have g:(s.heap.push {cls:=.type "dict",data:=.dict #[]}).get? t=some o:=ρ _ H
 have L:({s with heap:=s.heap.push {cls:=.type "dict",data:=.dict #[]}}:Shared).TypeIs (.ref t) "tuple":=⟨o,g,X⟩
 refine ε (wpAny_typeOf L ?_)
 rw [if_pos ζ]
 obtain ⟨oc,od,I,a5⟩:=o
 cases (show oc=_ from X)
 cases (show od=_ from K)
 cases (show I=_ from m)
 refine ε (qN g hh λC a7 D=>?_)
 rw [if_pos (show (none:Option Value).isNone=true from rfl)]
 refine ε (wpAny_rule ?_)
 have x:C.DictOf (aM P w) s.heap.objs.size []:=by
  obtain ⟨o,es,Y,e,r⟩:=f
  exact ⟨o,es,Y,D _ _ e,r⟩
 have O:C.IsTuple t us.toArray:=⟨_,D _ _ g,ϱ,_,ϱ⟩
 refine ε (wpAny_pyIter_tuple O ?_)
 have i:s.heap.objs.size<C.objs.size:=by
  obtain ⟨o,es,Y,e,r⟩:=x
  exact η e
 have kk:∀b o,s.heap.get? b=some o->(C.push {cls:=.type "tuple_iterator",data:=.fields #[.ref t,.int 0 0]}).get? b=some o:=λb o e=>ρ _ (D b o (ρ _ e))
 refine wpAny_pure ⟨plainId_quiet fj _,sO (A:=A.in1) (d:=s.heap.objs.size) (it:=C.objs.size) (t:=t) hh (Nat.ne_of_lt i) (Nat.ne_of_gt q) (Nat.ne_of_gt (Nat.lt_trans q i)) us l lk us.length 0 _ [] _ ω (Nat.zero_le _) ⟨_,Heap.get?_push_size _ rfl,ϱ,ϱ⟩ ?_ (x.push _) (by simp;exact hz) ?_ λh' U W kp=>?_⟩
 ·exact ⟨_,ρ _ (D _ _ g),ϱ,_,ϱ⟩
 ·intro j u G e1 e2
  obtain ⟨b,J,rfl,⟨o,Z,r⟩,hk⟩:=hp j u G e1 e2
  have lb:=η Z
  exact ⟨⟨b,J,ϱ,⟨o,kk _ _ Z,r⟩,hk⟩,λz=>absurd lb (by cases z;exact Nat.lt_irrefl _),λz=>absurd (Nat.lt_trans lb i) (by cases z;exact Nat.lt_irrefl _)⟩
 ·exact ⟨ϱ,h h' U W λb o e=>kp b o (Φ (η e)) (Φ (Nat.lt_trans (η e) i)) (kk b o e)⟩
section
variable {X:Cx}{es:List Expr}{t:TA}{pos:Pos}
def prD(H:Hp)(kv:Key×V)(u:V):Prop:=∃b,u=.ref b/\H b=some (.tup [kV kv.1,kv.2])
theorem sQ(hc:X.calm=true):cV X (.type "dict") (λxs H Q=>∃t us kvs,xs=[.ref t]/\(∀h,HOk X.prog X.w H h->∃its:List Value,Vals us its/\h.NoDictAt (.ref t)/\h.IsTuple t its.toArray)/\Paired (prD H) kvs us/\kvs.length<=1000/\∀p,H p=none->Q (.ref p) (upd H p (.dK (aL [] kvs)))):=by
 intro D s σ H xs us Q I r h
 obtain ⟨t,vs,kvs,rfl,F,x,hl,q⟩:=h
 obtain ⟨u,rfl,G⟩:=dm r
 cases G
 obtain ⟨its,y,nd,J⟩:=F _ I.hok
 have l1:=x.len
 have l2:=y.length
 have ex:∀{kvs:List (Key×V)} {vs:List V} {its:List Value},Paired (prD H) kvs vs->Vals vs its->∃f:List (Key×Value),KV kvs f/\its.length=f.length/\∀(j:Nat) (u:Value) (d:Key×Value),its[j]?=some u->f[j]?=some d->sR X.prog X.w s.heap u d:=by
  intro kvs vs its h
  induction h generalizing its with
  | nil=>intro r;cases r;exact ⟨[],.nil,rfl,λj u d e=>by cases e⟩
  | cons p _ ih =>
   rename_i d v kvs vs _
   intro r
   cases r with
   | cons r1 r2 =>
    obtain ⟨f,g,i,l⟩:=ih r2
    obtain ⟨b,rfl,K⟩:=p
    obtain ⟨_,L,O,P⟩:=(show ObjOk X.prog X.w H s.heap b (.tup [kV d.1,d.2]) from I.hok b _ K)
    obtain ⟨U,W,rfl,Y,m⟩:=sT O
    cases r1
    refine ⟨(d.1,W)::f,.cons ⟨ϱ,m⟩ g,congrArg (·+1) i,λj u o z C=>?_⟩
    cases j with
    | zero =>
     cases z
     cases C
     exact ⟨b,U,ϱ,P,ku Y⟩
    | succ j=>exact l j u o z C
 obtain ⟨f,g,i,l⟩:=ex x y
 have hs:(1000:Nat)<=sizeLine:=by decide
 have l3:=g.length
 refine lA (I.ok.hd hc) nd J i ω l λh' tk hd kp=>?_
 refine ⟨.ref s.heap.objs.size,_,I.laid (t':=tk) kp (ι _) ?_,ϱ,q _ (I.hok.fresh (ι _))⟩
 have Z:(aL [] kvs).length<=sizeLine:=by
  have h1:=dh kvs []
  rw [List.length_nil] at h1
  omega
 exact sK Z (by have:=I.big;exact beq_false_of_ne (Nat.ne_of_gt this)) (g.merge .nil) hd
def TF(H:Hp)(t:Addr)(us:List V):Prop:=∃o,H t=some (.frz o (.tup us))/\o.dict=none
theorem sP(j:X.calm=true):cV X (.type "dict") (λxs H Q=>∃t us kvs,xs=[.ref t]/\TF H t us/\Paired (prD H) kvs us/\kvs.length<=1000/\∀p,H p=none->Q (.ref p) (upd H p (.dK (aL [] kvs)))):=by
 intro b s σ H xs us Q I r h
 obtain ⟨t,vs,kvs,rfl,⟨o,e,od⟩,q⟩:=h
 refine sQ j b s σ H _ us Q I r ⟨t,vs,kvs,ϱ,λh ok=>?_,q⟩
 obtain ⟨f,z,d,g,i⟩:=(show ObjOk X.prog X.w H h t (.frz o (.tup vs)) from ok t _ e)
 exact ⟨d,g,⟨_,f,od⟩,i⟩
end
def Cu(td ty:TE):TE:=fun σ H Q=>td σ H λx H1=>∃a,x=.ref a/\IsD H1 a/\ty σ H1 λy H2=>∃b kvs more,y=.ref b/\a≠b/\H2 a=some (.dK kvs)/\H2 b=some (.dK more)/\kvs.length+more.length<=sizeLine/\Q .non (upd H2 a (.dK (aL kvs more)))
theorem yZ{X:Cx}{o e:Expr}{j l:Pos}{Z ty:TE}(ho:PE X o Z)(K:PE X e ty)(m:M1 X o "update" j e l):PE X (.Call (.Attribute o "update" j) [e] [] l) (Cu Z ty):=by
 intro i s σ H Q I h
 refine wpAny_Call_method m.base m.few m.line PySem.F.plainAttrs_dict PySem.F.slot_dict_update PySem.F.type_dict_update (thn (ho i s σ H _ I h) λu s1 ⟨x,H1,U,rx,a,ex,d,q1⟩=>?_)
 subst ex
 obtain rfl:u=Value.ref a:=rx
 obtain ⟨t1,t2,_⟩:=io U d
 refine ⟨t1,t2,?_⟩
 rw [m.trees]
 refine Calls.callWith_builtin rfl (Calls.evalArgs_plain (Calls.spliced_cons (thn (K i s1 σ H1 _ U q1) λiv s2 ⟨y,H2,L,ry,b,O,more,ey,P,W,eb,hz,q2⟩=>Calls.spliced_nil ?_)))
 subst ey
 cases ry
 obtain ⟨z1,z,C,f,r⟩:=yc L.hok W
 obtain ⟨z2,D,G,g,J⟩:=yc L.hok eb
 refine call_meetsIn PySem.F.slot_dict_update r.typeIs PySem.F.entry_dict_update (PySem.F.args_dict_update_2 _ _) (meets_dict_update (aM X.prog X.w) a b P D) ⟨C,G,r,J,by rw [← f.length,← g.length];exact hz,λh' Y d2 hs=>?_⟩
 have K:∃q,h'.get? a=some q:=let ⟨q,_,_,hq,_⟩:=Y;⟨q,hq⟩
 refine ⟨.non,_,ix (t':=s2.toks) L (by rw [W];exact ϰ) hs K (sK ?_ z (g.merge f) Y),ϱ,q2⟩
 have:=dh more O
 omega
end L2
namespace L2
open PySem
theorem ik(P:Program)(w:World)(i:Int)(t:Tok):(intKind P w).is i (.int i t)=true:=by simp [intKind,Value.isInt]
abbrev f9:=(Int×Int)×Int
def iq(h:Heap)(k:f9)(a:Addr):Prop:=∃b t1 t2 t3,h.IsTuple a #[.ref b,.int k.2 t3]/\h.IsTuple b #[.int k.1.1 t1,.int k.1.2 t2]
theorem jA{h:Heap}{a:Addr}{xs ys:Array Value}(p:h.IsTuple a xs)(q:h.IsTuple a ys):xs=ys:=by
 obtain ⟨o,e,_,n,d⟩:=p
 obtain ⟨g,f,_,i,b⟩:=q
 cases e.symm.trans f
 rw [d] at b
 injection b
theorem kl{h h':Heap}{a d:Addr}{xs:Array Value}{o:Obj}{es ep}(p:h.IsTuple a xs)(e:h.get? d=some o)(c:o.data=.dict es ep)(j:Heap.SameBut d h h'):h'.IsTuple a xs:=by
 obtain ⟨g,f,i,n,b⟩:=p
 refine ⟨g,(j.2 a ?_).trans f,i,n,b⟩
 intro z
 subst z
 cases f.symm.trans e
 rw [c] at b
 cases b
theorem qF{h:Heap}{a:Addr}{x y:f9}(p:iq h x a)(q:iq h y a):x=y:=by
 obtain ⟨b,i,j,l,f,g⟩:=p
 obtain ⟨c,u1,m,o,q1,q2⟩:=q
 have d:=jA f q1
 simp only [Array.mk.injEq,List.cons.injEq,Value.ref.injEq,Value.int.injEq,and_true] at d
 obtain ⟨e0,d,_⟩:=d
 subst e0
 have e:=jA g q2
 simp only [Array.mk.injEq,List.cons.injEq,Value.int.injEq,and_true] at e
 exact Prod.ext (Prod.ext e.1.1 e.2.1) d
variable {prog:Program}{w:World}{A:Around}{E:Value->Shared->Prop}{s:Shared}
theorem zK{h:Heap}{b:Addr}{i j:Int}{t u:Tok}(p:h.IsTuple b #[.int i t,.int j u]):IsTupleKey (intKind prog w) h [i,j] b:=by
 obtain ⟨o,e,c,n,d⟩:=p
 exact ⟨o,_,n,e,c,d,.cons (ik prog w i t) (.cons (ik prog w j u) .nil)⟩
def mH(k:f9):Int:=reduceHash (Builtin.Tuple.tupleHashOf [reduceHash (Builtin.Tuple.tupleHashOf [hashInt k.1.1,hashInt k.1.2]),hashInt k.2])
theorem u5{k:f9}{a:Addr}{Q:Int->Shared->Prop}(r:A.units+1<cLine)(x:iq s.heap k a)(q:Q (mH k) {s with toks:=s.toks+5}) :
  wpAny (model prog w) A (pyHash (.ref a)) Q E s:=by
 obtain ⟨b,u,z,i,l,m⟩:=x
 have h:s.TypeIs (.ref a) "tuple":=let ⟨o,e,c,_⟩:=l;⟨o,e,c⟩
 obtain ⟨o,e,_,n,d⟩:=l
 unfold pyHash
 first | unfold pyHashByItsType | skip
 first | refine ε (wpAny_cRoomFor_or (.inr ω) ?_) | skip
 refine ε (wpAny_specialOf h F.slot_tuple_hash.lookup ?_)
 have j:¬((some (Value.builtin "tuple.__hash__")==some Value.none)=true):=by rw [beq_builtin_none];decide
 rw [if_neg j]
 refine ε (wpAny_specialOf h F.slot_tuple_hash.lookup ?_)
 refine ε (wpAny_callSpecialIfBoundUnlessNone?_slot h F.slot_tuple_hash (wpAny_call_entry F.slot_tuple_hash h F.entry_tuple_hash ?_ (F.args_tuple_hash_1 _)))
 show wpAny _ _ (Builtin.Tuple.tupleItemsOf (.ref a) >>= λ_=>_) _ _ s
 refine ε (wpAny_tupleItemsOf e d ?_)
 refine ε ?_
 rw [← Array.forIn_toList]
 refine wpAny_forIn_list _
  (λf (c:Array Int) g=>(f=[.ref b,.int k.2 i]/\c=#[]/\g=s)\/(f=[.int k.2 i]/\c=#[tupleKeyHash (intKind prog w) [k.1.1,k.1.2]]/\g={s with toks:=s.toks+3}) \/
   (f=[]/\c=#[tupleKeyHash (intKind prog w) [k.1.1,k.1.2],(intKind prog w).hash k.2]/\g={s with toks:=s.toks+4})) _ ?_ ?_ _ _ (.inl ⟨ϱ,ϱ,ϱ⟩)
 ·rintro y f c g (⟨e1,rfl,rfl⟩ | ⟨e1,rfl,rfl⟩ | ⟨e1,_⟩)
  ·injection e1 with e1 e2
   subst e1 e2
   refine ε (wpAny_pyHash_tuple (knd:=intKind prog w) (ks:=[k.1.1,k.1.2]) (by show A.units+1<cLine;exact r) (zK m) ?_)
   first
    | exact π (.inr (.inl ⟨rfl,rfl,rfl⟩))
    | exact ε (π (π (.inr (.inl ⟨rfl,rfl,rfl⟩))))
  ·injection e1 with e1 e2
   subst e1 e2
   refine ε ((intKind prog w).pyHash (ik prog w k.2 i) ?_)
   first
    | exact π (.inr (.inr ⟨rfl,rfl,rfl⟩))
    | exact ε (π (π (.inr (.inr ⟨rfl,rfl,rfl⟩))))
  ·cases e1
 ·rintro c g (⟨e1,_⟩ | ⟨e1,_⟩ | ⟨_,rfl,rfl⟩)
  ·cases e1
  ·cases e1
  show wpAny _ _ (retInt (Builtin.Tuple.tupleHashOf [tupleKeyHash (intKind prog w) [k.1.1,k.1.2],(intKind prog w).hash k.2])) _ _ _
  refine wpAny_ret_mkInt ?_
  have q:Q (reduceHash (Builtin.Tuple.tupleHashOf [tupleKeyHash (intKind prog w) [k.1.1,k.1.2],(intKind prog w).hash k.2])) {s with toks:=s.toks+5}:=q
  unfold reduceHash at q
  generalize Builtin.Tuple.tupleHashOf [tupleKeyHash (intKind prog w) [k.1.1,k.1.2],(intKind prog w).hash k.2]=H0 at q ⊢
  show wpAny _ _ (if (decide (-(2:Int) ^ 63<=H0)&&decide (H0<2 ^ 63))=true then _ else _) Q E _
  by_cases hr:(decide (-(2:Int) ^ 63<=H0)&&decide (H0<2 ^ 63))=true
  ·rw [if_pos hr] at q ⊢
   exact wpAny_pure (by simpa [Nat.add_assoc] using q)
  ·rw [if_neg hr] at q ⊢
   exact wpAny_bind (wpAny_rule (wpAny_pure (by simpa [Nat.add_assoc] using q)))
theorem oy{n:Nat}{a:Addr}{b:Array Value}{Q:Bool->Shared->Prop}(p:s.heap.IsTuple a b)(y:∀v∈b.toList,∀R:Bool->Shared->Prop,R true s->wpAny (model prog w) A (eqIsQuiet n v) R E s)(q:Q true s) :
  wpAny (model prog w) A (eqIsQuiet (n+1) (.ref a)) Q E s:=by
 have x:s.TypeIs (.ref a) "tuple":=let ⟨o,e,c,_⟩:=p;⟨o,e,c⟩
 obtain ⟨o,e,_,m,d⟩:=p
 unfold eqIsQuiet
 refine ε (wpAny_specialOf x F.slot_tuple_eq.lookup ?_)
 refine ε (wpAny_isInstance x isSubtype_tuple_tuple ?_)
 simp only [Bool.not_true,Bool.false_eq_true,if_false]
 refine ε (wpAny_seqItems e d ?_)
 refine ε ?_
 show wpAny _ _ (forIn b _ _) _ _ s
 rw [← Array.forIn_toList]
 refine wpAny_forIn_list _ (λf r i=>r.1=none/\i=s/\∀v∈f,v∈b.toList) _ ?_ ?_ _ _ ⟨ϱ,ϱ,λ_ h=>h⟩
 ·rintro v f r i ⟨l,rfl,g⟩
  refine ε (y v (g v Ω) _ ?_)
  simp only [Bool.not_true,Bool.false_eq_true,if_false]
  exact π ⟨ϱ,ϱ,λu j=>g u (Θ _ j)⟩
 ·rintro ⟨z,C⟩ i ⟨l,rfl,_⟩
  simp only at l
  subst l
  exact π q
theorem jS{n:Nat}{v:Value}{R:Bool->Shared->Prop}(h:carriedByValue v=true)(q:R true s):wpAny (model prog w) A (eqIsQuiet n v) R E s:=by
 rw [eqIsQuiet_byValue n h]
 exact π q
theorem sk{k:f9}{a:Addr}{Q:Bool->Shared->Prop}(x:iq s.heap k a)(q:Q true s):wpAny (model prog w) A (eqIsQuiet 8 (.ref a)) Q E s:=by
 obtain ⟨b,g,h,i,j,l⟩:=x
 refine oy (n:=7) j (λv f R d=>?_) q
 have hv':v∈[Value.ref b,.int k.2 i]:=f
 rcases ϕ.mp hv' with e | hv'
 ·subst e
  refine oy (n:=6) l (λv f R d=>?_) d
  have hv':v∈[Value.int k.1.1 g,.int k.1.2 h]:=f
  rcases ϕ.mp hv' with e | hv'
  ·subst e;exact jS rfl d
  ·rcases ϕ.mp hv' with e | hv'
   ·subst e;exact jS rfl d
   ·cases hv'
 ·rcases ϕ.mp hv' with e | hv'
  ·subst e;exact jS rfl d
  ·cases hv'
theorem oR{α:Type}{a b:α}{j:Nat}(h:j<(#[a,b]:Array α).size):(j=0/\(#[a,b]:Array α)[j]=a)\/(j=1/\(#[a,b]:Array α)[j]=b):=by
 have d:j<2:=h
 match j,d with
 | 0,_=>exact .inl ⟨rfl,rfl⟩
 | 1,_=>exact .inr ⟨rfl,rfl⟩
theorem oE{b c:Addr}{i j d f:Int}{t u t' h:Tok}(o:A.units<cLine)(p:s.heap.IsTuple b #[.int i t,.int j u])(q:s.heap.IsTuple c #[.int d t',.int f h]) :
  SeqAt.EqAt A s (.ref b) (.ref c) (decide (i=d)&&decide (j=f)):=by
 by_cases e:b=c
 ·subst e
  have g:=jA p q
  simp only [Array.mk.injEq,List.cons.injEq,Value.int.injEq,and_true] at g
  rw [τ g.1.1,τ g.2.1]
  exact SeqAt.EqAt.same _
 ·refine SeqAt.EqAt.of_refs e ?_
  have z:=SeqAt.RcAt.tuples (A:=A) (s:=s) (e:=λn=>if n=0 then decide (i=d) else decide (j=f)) p q o (λn h1 m=>by
   rcases oR h1 with ⟨n0,e1⟩ | ⟨n0,e1⟩<;>rcases oR m with ⟨m0,g⟩ | ⟨m0,g⟩<;>first | (exfalso;omega) | skip
   ·rw [e1,g];subst n0;show SeqAt.EqAt _ _ _ _ (decide (i=d));rw [← Bool.beq_eq_decide_eq];exact SeqAt.EqAt.int_int _ t _ t'
   ·rw [e1,g];subst n0;show SeqAt.EqAt _ _ _ _ (decide (j=f));rw [← Bool.beq_eq_decide_eq];exact SeqAt.EqAt.int_int _ u _ h)
  have l:((List.range (min (#[Value.int i t,.int j u]:Array Value).size (#[Value.int d t',.int f h]:Array Value).size)).all (λn=>if n=0 then decide (i=d) else decide (j=f))&&(#[Value.int i t,.int j u]:Array Value).size==(#[Value.int d t',.int f h]:Array Value).size)=(decide (i=d)&&decide (j=f)):=by
   show ((decide (i=d)&&(decide (j=f)&&true))&&true)=_
   rw [Bool.and_true,Bool.and_true]
  rw [l] at z
  exact z
theorem u6{x y:f9}{a c:Addr}(m:A.units+1<cLine)(p:iq s.heap x a)(q:iq s.heap y c):SeqAt.EqAt A s (.ref a) (.ref c) (decide (x=y)):=by
 by_cases e:a=c
 ·subst e
  rw [τ (qF p q)]
  exact SeqAt.EqAt.same _
 ·refine SeqAt.EqAt.of_refs e ?_
  obtain ⟨b,o,r,f,h,i⟩:=p
  obtain ⟨d,u1,u,g,q1,q2⟩:=q
  have z:=SeqAt.RcAt.tuples (A:=A) (s:=s) (e:=λn=>if n=0 then (decide (x.1.1=y.1.1)&&decide (x.1.2=y.1.2)) else decide (x.2=y.2)) h q1 ω (λn h1 l=>by
   rcases oR h1 with ⟨n0,e1⟩ | ⟨n0,e1⟩<;>rcases oR l with ⟨m0,e2⟩ | ⟨m0,e2⟩<;>first | (exfalso;omega) | skip
   ·rw [e1,e2];subst n0;exact oE (by show A.units+1<cLine;exact m) i q2
   ·rw [e1,e2];subst n0;show SeqAt.EqAt _ _ _ _ (decide (x.2=y.2));rw [← Bool.beq_eq_decide_eq];exact SeqAt.EqAt.int_int _ f _ g)
  have j:((List.range (min (#[Value.ref b,.int x.2 f]:Array Value).size (#[Value.ref d,.int y.2 g]:Array Value).size)).all (λn=>if n=0 then (decide (x.1.1=y.1.1)&&decide (x.1.2=y.1.2)) else decide (x.2=y.2))&&(#[Value.ref b,.int x.2 f]:Array Value).size==(#[Value.ref d,.int y.2 g]:Array Value).size)=decide (x=y):=by
   show (((decide (x.1.1=y.1.1)&&decide (x.1.2=y.1.2))&&(decide (x.2=y.2)&&true))&&true)=_
   rw [Bool.and_true,Bool.and_true,← Bool.decide_and,← Bool.decide_and]
   exact decide_eq_decide.mpr ⟨λz=>Prod.ext (Prod.ext z.1.1 z.1.2) z.2,λz=>by rw [z];exact ⟨⟨ϱ,ϱ⟩,ϱ⟩⟩
  rw [j] at z
  exact z
def mF(prog:Program)(w:World):HeapKind prog w f9 where
 is:=iq
 hash:=mH
 draws:=λ_=>5
 room:=λA=>A.units+1<cLine
 inj:=λhx hy=>qF hx hy
 keeps:=λx e c hs=>let ⟨b,t1,t2,t3,p1,p2⟩:=x;⟨b,t1,t2,t3,kl p1 e c hs,kl p2 e c hs⟩
 pyHash:=λhu hk h=>u5 hu hk h
 eqBool:=λhu hx hy h=>u6 hu hx hy _ _ _ _ h
 quiet:=λhk h=>sk hk h
section
variable {κ:Type} [DecidableEq κ] {knd:HeapKind prog w κ}{d a:Addr}
theorem iE{xs:List (κ×Addr×Value)}{k:κ}{v:Value}{Q:Value->Shared->Prop}(z:knd.room A)(b:knd.is s.heap k a)(H:s.heap.DictOfH knd d xs)
  (h1:∀p,atKey xs k=some p->Q p.2 {s with toks:=s.toks+knd.draws k})
  (I:atKey xs k=none->∀h',h'.DictOfH knd d (xs++[(k,a,v)])->Heap.SameBut d s.heap h'->Q v {s with heap:=h',toks:=s.toks+knd.draws k})(hsz:xs.length<=sizeLine) :
  wpAny (model prog w) A (dictSetDefault d (.ref a) v) Q E s:=by
 obtain ⟨o,es,C,g,D,f,l,h,m⟩:=H
 unfold dictSetDefault
 try with_reducible refine wpAny_holding ?_
 refine ε (knd.pyHash z b ?_)
 refine ε (wpAny_dictFind_heap (s:={s with toks:=s.toks+knd.draws k}) z b g f l h m (λi=>?_) (λj p u=>?_))
 ·have e0:=atKey_none_of_get i
  have F:k∉xs.map (·.1):=not_mem_keys_of_get i
  refine ε (wpAny_rule (ε (wpAny_updateDictKeys (hz:=by have e:=size_of_entries l;omega) (s:={s with toks:=s.toks+knd.draws k}) g f (π (I e0 _ ⟨_,_,C+1,Heap.get?_update_self _ g (Obj.isFreed_of_dict (Obj.data_mapDictKeys f _)),
   D.mapDictKeys _,Obj.data_mapDictKeys f _,?_,λx hx=>?_,?_⟩ (Heap.SameBut.update ..))))))
  ·simp [l,entryOfKey]
  ·rcases List.mem_append.mp hx with hx | hx
   ·exact knd.keeps (h x hx) g f (Heap.SameBut.update ..)
   ·have q:=ϵ.mp hx
    subst q
    exact knd.keeps b g f (Heap.SameBut.update ..)
  ·rw [List.map_append,List.nodup_append]
   refine ⟨m,by simp,λx hx y G q=>?_⟩
   have r:y=k:=by simpa using G
   exact F (r▸q▸hx)
 ·refine ε (wpAny_dictEntries (s:={s with toks:=s.toks+knd.draws k}) g f ?_)
  rw [entry_at l j,u]
  exact ε (wpAny_rule (π (h1 p (atKey_of_get m u))))
theorem jl(knd:HeapKind prog w κ)(d a:Addr)(hd:(d==sysModules)=false)(v:Value) :
  MeetsIn prog w (Builtin.«dict.setdefault» ⟨[.ref d, .ref a, v], []⟩) (fun A R s => knd.room A.in1 ∧ ∃ k xs, knd.is s.heap k a ∧ s.heap.DictOfH knd d xs ∧ xs.length ≤ sizeLine ∧
   (∀p,atKey xs k=some p->R (.ok (.ret p.2)) {s with toks:=s.toks+knd.draws k}) /\
   (atKey xs k=none->∀h',h'.DictOfH knd d (xs++[(k,a,v)])->Heap.SameBut d s.heap h'->R (.ok (.ret v)) {s with heap:=h',toks:=s.toks+knd.draws k})) :=
 .of_wp λA R s ⟨hu,k,xs,hkey,hm,hz,h1,h2⟩=>by
  unfold Builtin.«dict.setdefault»
  refine ε ?_
  unfold Builtin.Dict.keyAndDefault
  refine ε (wpAny_notOrdered_dict hm.typeIs ?_)
  show wpAny _ _ (pure (d,Value.ref a,some v)) _ _ s
  refine π ?_
  show wpAny _ _ (if (d==sysModules)=true then _ else (dictSetDefault d (.ref a) v >>= λ_=>_)) _ _ s
  have hne:¬((d==sysModules)=true):=by rw [hd];decide
  rw [if_neg hne]
  exact ε (iE hu hkey hm (λp hp=>π ⟨_,ϱ,h1 p hp⟩) (λe0 h' hm' hs'=>π ⟨_,ϱ,h2 e0 h' hm' hs'⟩) hz)
end
end L2
namespace L2
open PySem PySem.Spec PyProof.Rows
def NKeyAt(H:Hp)(k:f9)(b:Addr):Prop:=∃c,H b=some (.tup [.ref c,.int k.2])/\H c=some (.tup [.int k.1.1,.int k.1.2])
theorem NKeyAt.keep{H H':Hp}{k:f9}{b:Addr}(e:TSame H H')(h:NKeyAt H k b):NKeyAt H' k b:=by
 obtain ⟨c,h1,d⟩:=h
 exact ⟨c,e _ _ h1,e _ _ d⟩
theorem NKeyAt.at{P:Program}{w:World}{H:Hp}{h:Heap}{k:f9}{b:Addr}(ok:HOk P w H h)(q:NKeyAt H k b):iq h k b:=by
 obtain ⟨c,h1,e⟩:=q
 obtain ⟨_,f,r,p⟩:=(show ObjOk P w H h b (.tup [.ref c,.int k.2]) from ok b _ h1)
 obtain ⟨_,d,g,i⟩:=(show ObjOk P w H h c (.tup [.int k.1.1,.int k.1.2]) from ok c _ e)
 obtain ⟨u1,y,rfl,j,l⟩:=r.two
 obtain ⟨z,C,rfl,m,o⟩:=g.two
 cases (show u1=Value.ref c from j)
 obtain ⟨t,rfl⟩:=l
 obtain ⟨u,rfl⟩:=m
 obtain ⟨x,rfl⟩:=o
 exact ⟨c,u,x,t,p,i⟩
abbrev e8:=f9×Addr×Addr
def k8(xs:List e8):List (f9×Addr×Value):=xs.map λx=>(x.1,x.2.1,Value.ref x.2.2)
def zJ(a:Addr)(xs:List e8)(h:Heap):Prop:=(a==sysModules)=false/\∃o es ep,h.get? a=some o/\o.ExactDict/\o.data=.dict es ep/\es.toList=(k8 xs).map λx=>⟨mH x.1,.ref x.2.1,x.2.2⟩
def NDt(a:Addr)(xs:List e8):HO:=.ext (zJ a xs)
def NOk(H:Hp)(xs:List e8):Prop:=(∀x∈xs,NKeyAt H x.1 x.2.1)/\(xs.map (·.1)).Nodup
theorem NOk.keep{H H':Hp}{xs:List e8}(e:TSame H H')(h:NOk H xs):NOk H' xs:=⟨λx hx=>(h.1 x hx).keep e,h.2⟩
def k9(xs:List e8)(k:f9):Option Addr:=(xs.find? λx=>decide (x.1=k)).map (·.2.2)
def qC(xs:List e8)(k:f9)(b r:Addr):List e8:=if (k9 xs k).isSome=true then xs.map (λx=>if x.1=k then (x.1,x.2.1,r) else x) else xs++[(k,b,r)]
theorem qE(xs:List e8)(k:f9):(atKey (k8 xs) k).map (·.2)=(k9 xs k).map Value.ref:=by
 unfold atKey k8 k9
 rw [List.find?_map]
 cases e:List.find? ((λx:f9×Addr×Value=>decide (x.1=k))∘λx:e8=>(x.1,x.2.1,Value.ref x.2.2)) xs with
 | none =>
  have b:List.find? (λx:e8=>decide (x.1=k)) xs=none:=e
  rw [b];rfl
 | some y =>
  have b:List.find? (λx:e8=>decide (x.1=k)) xs=some y:=e
  rw [b];rfl
theorem xB(xs:List e8)(k:f9)(b r:Addr):k8 (qC xs k b r)=storedH (k8 xs) k b (.ref r):=by
 have e:(atKey (k8 xs) k).isSome=(k9 xs k).isSome:=by
  have:=congrArg Option.isSome (qE xs k)
  rw [Option.isSome_map,Option.isSome_map] at this
  exact this
 unfold qC storedH
 rw [e]
 by_cases h:(k9 xs k).isSome=true
 ·rw [if_pos h,if_pos h]
  unfold k8
  rw [List.map_map,List.map_map]
  refine List.map_congr_left λx _=>?_
  show (λx:e8=>(x.1,x.2.1,Value.ref x.2.2)) (if x.1=k then (x.1,x.2.1,r) else x)=putAt k (.ref r) (x.1,x.2.1,Value.ref x.2.2)
  unfold putAt
  by_cases hx:x.1=k
  ·rw [if_pos hx,if_pos hx]
  ·rw [if_neg hx,if_neg hx]
 ·rw [if_neg h,if_neg h]
  unfold k8
  rw [List.map_append]
  rfl
theorem NOk.put{H:Hp}{xs:List e8}{k:f9}{b:Addr}(r:Addr)(h:NOk H xs)(i:NKeyAt H k b):NOk H (qC xs k b r):=by
 unfold qC
 by_cases c:(k9 xs k).isSome=true
 ·rw [if_pos c]
  refine ⟨λx hx=>?_,?_⟩
  ·obtain ⟨y,d,e⟩:=ϑ.mp hx
   subst e
   by_cases hk:y.1=k
   ·rw [if_pos hk];exact h.1 y d
   ·rw [if_neg hk];exact h.1 y d
  ·rw [List.map_map]
   have:((λx:e8=>x.1)∘λx:e8=>if x.1=k then (x.1,x.2.1,r) else x)=λx=>x.1:=by
    funext x
    show (if x.1=k then (x.1,x.2.1,r) else x).1=x.1
    split<;>rfl
   rw [this]
   exact h.2
 ·rw [if_neg c]
  refine ⟨λx hx=>?_,?_⟩
  ·rcases List.mem_append.mp hx with hx | hx
   ·exact h.1 x hx
   ·have:=ϵ.mp hx
    subst this
    exact i
  ·rw [List.map_append,List.nodup_append]
   refine ⟨h.2,by simp,λx hx y d e=>c ?_⟩
   have f:y=k:=by simpa using d
   subst f
   subst e
   obtain ⟨z,g,e⟩:=ϑ.mp hx
   unfold k9
   rw [Option.isSome_map,List.find?_isSome]
   exact ⟨z,g,τ e⟩
section
variable {X:Cx}{pins:List (Addr×Obj)}{σ:St}{H:Hp}{s:Shared}{a b r:Addr}{xs:List e8}{k:f9}{A:Around}{E:Value->Shared->Prop}
theorem Au(I:Inv X pins σ H s)(e:H a=some (NDt a xs))(ok:NOk H xs):(a==sysModules)=false/\s.heap.DictOfH (mF X.prog X.w) a (k8 xs):=by
 obtain ⟨⟨h0,o,es,d,h1,f,g,h⟩,_⟩:=(show ObjOk X.prog X.w H s.heap a (NDt a xs) from I.hok a _ e)
 refine ⟨h0,o,es,d,h1,f,g,h,λx b=>?_,?_⟩
 ·unfold k8 at b
  obtain ⟨y,i,rfl⟩:=ϑ.mp b
  exact (ok.1 y i).at I.hok
 ·unfold k8
  rw [List.map_map]
  exact ok.2
theorem t7{a:Addr}{xs:List e8}:∀h1 h2:Heap,zJ a xs h1->(∀o,h1.get? a=some o->h2.get? a=some o)->zJ a xs h2:=λh1 h2 q k=>by
 obtain ⟨h0,o,es,ep,e,r⟩:=q
 exact ⟨h0,o,es,ep,k _ e,r⟩
theorem BF{Q:Unit->Shared->Prop}(l:A.units+2<cLine)(I:Inv X pins σ H s)(e:H a=some (NDt a xs))(ok:NOk H xs)(m:NKeyAt H k b)(u:xs.length<=sizeLine)(q:∀s',Inv X pins σ (upd H a (NDt a (qC xs k b r))) s'->Q () s') :
  wpAny (model X.prog X.w) A (setItem (.ref a) (.ref b) (.ref r)) Q E s:=by
 obtain ⟨h0,dd⟩:=Au I e ok
 refine wpAny_setItem_heap (knd:=mF X.prog X.w) (k:=k) (hsz:=by unfold k8;rw [List.length_map];exact u) (by show A.units+1+1<cLine;exact l) (m.at I.hok) dd λx d j=>q _ ?_
 obtain ⟨o,es,f,h1,g,h,i,_,_⟩:=d
 refine ix I (by rw [e];exact ϰ) j ⟨o,h1⟩ ⟨⟨h0,o,es,f,h1,g,h,?_⟩,⟨o,h1⟩,t7⟩
 rw [i,xB]
 rfl
theorem BG{Q:Value->Shared->Prop}(d:A.units+2<cLine)(I:Inv X pins σ H s)(e:H a=some (NDt a xs))(ok:NOk H xs)(f:NKeyAt H k b)(q:∀s',Inv X pins σ H s'->Q (((k9 xs k).map Value.ref).getD .none) s') :
  wpAny (model X.prog X.w) A (call (.builtin "dict.get") [.ref a,.ref b]) Q E s:=by
 obtain ⟨h0,dd⟩:=Au I e ok
 refine call_meetsIn PySem.F.slot_dict_get dd.typeIs PySem.F.entry_dict_get (PySem.F.args_dict_get_2 _ _) (meetsH_dict_get (mF X.prog X.w) a b h0) ⟨by show A.units+1+1<cLine;exact d,k,_,f.at I.hok,dd,?_⟩
 rw [qE]
 exact q _ (I.tok _)
theorem u7(I:Inv X pins σ H s)(e:H a=some (NDt a xs)):s.TypeIs (.ref a) "dict"/\∀b,Value.ref a=.ref b->∃ob,s.heap.get? b=some ob/\ob.dict=none:=by
 obtain ⟨⟨h0,o,es,f,h1,d,_⟩,_⟩:=(show ObjOk X.prog X.w H s.heap a (NDt a xs) from I.hok a _ e)
 refine ⟨⟨o,h1,d.1⟩,λb q=>?_⟩
 cases q
 exact ⟨o,h1,d.2.1⟩
end
def AM:TE:=λ_ H Q=>∀p,H p=none->Q (.ref p) (upd H p (NDt p []))
def ov:Option Addr->V
 | none=>.non
 | some r=>.ref r
def Cp(td ty:TE):TE:=fun σ H Q=>td σ H λx H1=>∃a xs,x=.ref a/\H1 a=some (NDt a xs)/\ty σ H1 λy H2=>∃b k,y=.ref b/\H2 a=some (NDt a xs)/\NOk H2 xs/\NKeyAt H2 k b/\Q (ov (k9 xs k)) H2
def CO(td ty tv:TE):TS:=λD σ H=>tv σ H λv H1=>td σ H1 λx H2=>ty σ H2 λy H3=>∃a b r xs k,v=.ref r/\x=.ref a/\y=.ref b/\H3 a=some (NDt a xs)/\NOk H3 xs/\NKeyAt H3 k b/\xs.length<=sizeLine/\D.nx σ (upd H3 a (NDt a (qC xs k b r)))
def Cw(td ty tx:TE):TE:=fun σ H Q=>td σ H λx H1=>∃a,x=.ref a/\IsD H1 a/\ty σ H1 λy H2=>tx σ H2 λz H3=>∃kvs k b,H3 a=some (.dT kvs)/\y=.ref b/\H3 b=some (.tup (k.map kV))/\kvs.length<sizeLine /\
 (∀v,bx kvs k=some v->Q v H3)/\(bx kvs k=none->Q z (upd H3 a (.dT (kvs++[(k,z)]))))
section
variable {X:Cx}{o e f i value:Expr}{apos cpos pos pos':Pos}{td ty tx tv:TE}
theorem wH:PE X (.Dict [] [] pos) AM:=λpins s σ H Q I h =>
 wpAny_Dict_empty ⟨.ref s.heap.objs.size,_,I.laid (a:=s.heap.objs.size) (o:=NDt s.heap.objs.size []) (t':=s.toks) (λ_ _ q=>ρ _ q) (ι _)
  ⟨⟨beq_eq_false_iff_ne.mpr (Ne.symm (Φ I.big)),_,#[],0,ψ _ rfl,⟨ϱ,ϱ,ϱ⟩,ϱ,ϱ⟩,⟨_,ψ _ rfl⟩,t7⟩,ϱ,h _ (I.hok.fresh (ι _))⟩
theorem yU(Q:X.A.units+2<cLine)(U:PE X o td)(W:PE X i ty)(Y:PE X value tv)(Z:swapsWith value (some (.Subscript o i pos')) pos.line X.env=pure false) :
  PS X (.Assign [.Subscript o i pos'] value pos) (CO td ty tv):=by
 intro d s σ H D I h
 refine wpAny_Assign_Subscript (thn (Y d s σ H _ I h) λr e ⟨v,H1,f,g,q1⟩=>thn (U d e σ H1 _ f q1) λu j ⟨x,l,m,q,q2⟩=>thn (W d j σ l _ m q2) λw s3 ⟨y,H3,z,C,a,b,F,xs,k,G,ex,J,g1,K,L,O,q3⟩=>?_) Z
 subst G ex J
 obtain rfl:u=Value.ref a:=q
 obtain rfl:w=Value.ref b:=C
 obtain rfl:r=Value.ref F:=g
 exact BF Q z g1 K L O λs4 P=>⟨σ,_,P,q3⟩
theorem yY(O:X.A.units+2<cLine)(P:PE X o td)(U:PE X e ty)(m:M1 X o "get" apos e cpos):PE X (.Call (.Attribute o "get" apos) [e] [] cpos) (Cp td ty):=by
 intro f s σ H Q I h
 refine wpAny_Call_method m.base m.few m.line PySem.F.plainAttrs_dict PySem.F.slot_dict_get PySem.F.type_dict_get (thn (P f s σ H _ I h) λu l ⟨x,H1,g,q,a,r,ex,d,q1⟩=>?_)
 subst ex
 obtain rfl:u=Value.ref a:=q
 obtain ⟨i,j⟩:=u7 g d
 refine ⟨i,j,?_⟩
 rw [m.trees]
 refine Calls.callWith_builtin rfl (Calls.evalArgs_plain (Calls.spliced_cons (thn (U f l σ H1 _ g q1) λw W ⟨y,z,C,D,b,k,G,g1,J,K,q2⟩=>Calls.spliced_nil ?_)))
 subst G
 obtain rfl:w=Value.ref b:=D
 refine BG O C g1 J K λY L=>⟨_,z,L,?_,q2⟩
 cases k9 r k<;>rfl
theorem tT(hu:X.A.units+1<cLine)(ho:PE X o td)(he:PE X e ty)(hf:PE X f tx)(m:M2 X o "setdefault" apos e f cpos):PE X (.Call (.Attribute o "setdefault" apos) [e,f] [] cpos) (Cw td ty tx):=by
 intro g s σ H Q I h
 refine wpAny_Call_method m.base m.few m.line PySem.F.plainAttrs_dict PySem.F.slot_dict_setdefault PySem.F.type_dict_setdefault (thn (ho g s σ H _ I h) λu s1 ⟨x,H1,U,rx,a,ex,d,q1⟩=>?_)
 subst ex
 obtain rfl:u=Value.ref a:=rx
 obtain ⟨t1,t2,_⟩:=io U d
 refine ⟨t1,t2,?_⟩
 rw [m.trees]
 refine Calls.callWith_builtin rfl (Calls.evalArgs_plain (Calls.spliced_cons (thn (he g s1 σ H1 _ U q1) λiv s2 ⟨y,H2,I2,ry,q2⟩ =>
  Calls.spliced_cons (thn (hf g s2 σ H2 _ I2 q2) λW s3 ⟨z,Y,D,Z,r,k,b,K,ey,eb,hl,q3,q4⟩=>Calls.spliced_nil ?_))))
 subst ey
 obtain rfl:iv=Value.ref b:=ry
 obtain ⟨hz,O,G,i,dd⟩:=qU D.hok K
 have J:G.length<=sizeLine:=by rw [← Paired.length i];exact hz
 refine call_meetsIn PySem.F.slot_dict_setdefault dd.typeIs PySem.F.entry_dict_setdefault (PySem.F.args_dict_setdefault_3 _ _ _) (jl (tupleKind (aM X.prog X.w)) a b O W) ⟨tupleKind_room_in1 hu,k,G,fL D.hok eb,dd,J,λp hp=>?_,λhn h' L hs=>?_⟩
 ·have j:=i.val k
  rw [hp] at j
  cases l:bx r k with
  | none=>rw [l] at j;exact (show False from j).elim
  | some v =>
   rw [l] at j
   exact ⟨v,Y,D.tok _,j,q3 v l⟩
 ·have j:=i.val k
  rw [hn] at j
  have l:bx r k=none:=by
   cases l:bx r k with
   | none=>rfl
   | some v=>rw [l] at j;exact (show False from j).elim
  refine ⟨z,_,?_,Z,q4 l⟩
  obtain ⟨q,es,ep,P,h2,h3,h4,_,h5⟩:=L
  have C:KT Y (r++[(k,z)]) (G++[(k,b,W)]):=Paired.snoc i ⟨ϱ,eb,Z⟩
  refine ix D (by rw [K];exact ϰ) hs ⟨q,P⟩ ⟨by rw [List.length_append];exact hl,O,_,C.keeps λc ys ec=>?_,q,es,ep,P,h2,h3,h4,h5⟩
  rw [ao (iG ec K (λz=>nomatch z))]
  exact ec
end
end L2
namespace Lo
open PySem L2
def dW(ps:List Pa):List (List Key×V):=ps.map λp=>(pk p,V.bl true)
def dE(es:List (Pa×Str)):List (List Key×V):=es.map λx=>(pk x.1,V.str x.2)
theorem sU{α:Type}(xs:List α)(k:α->Pa)(f:α->V)(p:Pa):bx (xs.map λx=>(pk (k x),f x)) (pk p)=(xs.find? λx=>decide (k x=p)).map f:=by
 induction xs with
 | nil=>rfl
 | cons x r ih =>
  rw [List.map_cons]
  by_cases h:k x=p
  ·rw [bJ (by rw [h]),List.find?_cons,τ h]
   rfl
  ·rw [bU (λz=>h (Be z)),ih,List.find?_cons,Γ h]
def B7(ps:List Pa)(p:Pa):List Pa:=if p∈ps then ps else ps++[p]
theorem xQ(ps:List Pa)(p:Pa):(ps.find? λx=>decide (x=p))=if p∈ps then some p else none:=by
 by_cases h:p∈ps
 ·rw [if_pos h]
  cases e:ps.find? λx=>decide (x=p) with
  | none=>exact absurd (τ rfl) (List.find?_eq_none.mp e p h)
  | some y =>
   have:y=p:=by simpa using List.find?_some e
   rw [this]
 ·rw [if_neg h,List.find?_eq_none]
  intro x b c
  exact h ((Ξ c)▸b)
theorem vz(ps:List Pa)(p:Pa):bx (dW ps) (pk p)=if p∈ps then some (.bl true) else none:=by
 unfold dW
 rw [sU ps (λp=>p) (λ_=>V.bl true) p,xQ]
 split<;>rfl
theorem Bd(ps:List Pa)(p:Pa):bM (dW ps) (pk p) (.bl true)=dW (B7 ps p):=by
 unfold B7
 by_cases h:p∈ps
 ·rw [if_pos h]
  unfold bM
  rw [fQ,vz,if_pos h,if_pos (show (some (V.bl true)).isSome=true from rfl)]
  unfold dW
  rw [List.map_map]
  refine List.map_congr_left λx _=>?_
  show (if pk x=pk p then (pk x,V.bl true) else (pk x,V.bl true))=_
  rw [ite_self]
 ·rw [if_neg h,qo _ (by rw [vz,if_neg h])]
  unfold dW
  rw [List.map_append]
  rfl
def cr(es:List (Pa×Str))(p:Pa):Option Str:=(es.find? λx=>decide (x.1=p)).map (·.2)
theorem vA(es:List (Pa×Str))(p:Pa):bx (dE es) (pk p)=(cr es p).map V.str:=by
 unfold dE cr
 rw [sU es (λx=>x.1) (λx=>V.str x.2) p,Option.map_map]
 rfl
def apply(cs:List Int)(ch:List Pa):List Int:=ch.foldl (λcs c=>cs.set c.1.toNat c.2) cs
theorem f8(ch:List Pa):∀cs:List Int,(apply cs ch).length=cs.length:=by
 induction ch with
 | nil=>intro cs;rfl
 | cons c r ih =>
  intro cs
  show (apply (cs.set c.1.toNat c.2) r).length=cs.length
  rw [ih,List.length_set]
theorem nt(cs:List Int)(ch:List Pa)(c:Pa):apply cs (ch++[c])=(apply cs ch).set c.1.toNat c.2:=by
 unfold apply
 rw [List.foldl_append]
 rfl
structure Ad where
 (l dx cl bg wk rd en wa ov:Addr)
def sf(A:Ad):List (Str×V):=az "overs" (.ref A.ov) (az "walks" (.ref A.wa) (az "ends" (.ref A.en) (az "readies" (.ref A.rd) (az "worked" (.ref A.wk) (az "begins" (.ref A.bg) (az "cells" (.ref A.cl) []))))))
theorem Ai(A:Ad):(sf A).lookup ("walks":Str)=some (.ref A.wa):=by
 unfold sf
 rw [al,if_neg θ,al,if_pos rfl]
theorem wg(A:Ad):(sf A).lookup ("ends":Str)=some (.ref A.en):=by
 unfold sf
 rw [al,if_neg θ,al,if_neg θ,al,if_pos rfl]
theorem tG(A:Ad):(sf A).lookup ("readies":Str)=some (.ref A.rd):=by
 unfold sf
 rw [al,if_neg θ,al,if_neg θ,al,if_neg θ,al,if_pos rfl]
theorem CJ(A:Ad):(sf A).lookup ("worked":Str)=some (.ref A.wk):=by
 unfold sf
 rw [al,if_neg θ,al,if_neg θ,al,if_neg θ,al,if_neg θ,al,if_pos rfl]
theorem tH(A:Ad):(sf A).lookup ("cells":Str)=some (.ref A.cl):=by
 unfold sf
 rw [al,if_neg θ,al,if_neg θ,al,if_neg θ,al,if_neg θ,al,if_neg θ,al,if_neg θ,al,if_pos rfl]
theorem gI{A:Ad}{m:Str}(h:decide (m∈(["overs","walks","ends","readies","worked","begins","cells"]:List Str))=false):(sf A).lookup m=none:=by
 have b:m∉(["overs","walks","ends","readies","worked","begins","cells"]:List Str):=of_decide_eq_false h
 simp only [List.mem_cons,List.not_mem_nil,or_false,not_or] at b
 obtain ⟨h1,d,e,f,g,i,j⟩:=b
 unfold sf
 rw [al,if_neg h1,al,if_neg d,al,if_neg e,al,if_neg f,al,if_neg g,al,if_neg i,al,if_neg j]
 rfl
def cPS:Cod (Pa×Str):=cT2 cPa cStr
structure TxD(K:Frag)(CS:Addr):Prop where
 cl:Cls K CS
 nc:NoAttr K CS "cells"
 nb:NoAttr K CS "begins"
 nw:NoAttr K CS "worked"
 nr:NoAttr K CS "readies"
 ne:NoAttr K CS "ends"
 na:NoAttr K CS "walks"
 no:NoAttr K CS "overs"
theorem ud{K:Frag}{H:Hp}:∀xs:List Int,Paired (cInt.rp K H) xs (xs.map V.int)
 | []=>.nil
 | _::xs=>.cons rfl (ud xs)
theorem ue{K:Frag}{H:Hp}{p:Addr}{xs:List Int}(h:H p=some (.lst (xs.map V.int))):yu cInt K H xs (.ref p):=⟨p,_,ϱ,SqL.of h,ud xs⟩
theorem bj{f:Str}{v:V}{fs:List (Str×V)}{n:Nat}(h:fs.length<n):(az f v fs).length<n+1:=by
 have:=dO f v fs
 omega
theorem cT{k:Nat}{A:Around}(hr:Room k A):A.units+1<cLine:=hun (c:=0) hr
theorem xI{n:Nat}{i:Int}(h0:0<=i)(h1:i<n):ixN n i=some i.toNat:=by
 unfold ixN
 rw [if_pos h0,if_pos h1]
theorem at0{x:V}{us:List V}:atI (x::us) (0:Int)=some x:=aW (j:=0) rfl
theorem at1{x y:V}{us:List V}:atI (x::y::us) (1:Int)=some y:=aW (j:=1) rfl
theorem at2{x y z:V}{us:List V}:atI (x::y::z::us) (2:Int)=some z:=aW (j:=2) rfl
end Lo
namespace L2
open PySem PySem.Spec PyProof.Rows
set_option maxHeartbeats 1600000 in
theorem qr{X:Cx}{iy:Nat}{y:Str}{l i:Pos}{f d:Expr}{x:Str}{m:Pos}{g:List Expr}{scope:Scope}{pos:Pos}{G:List Str}{U:List Nat}{W:TI}{Y:TT}{Z:TE}
  (S:aU X.N X.env.scope scope x G U)(hc:X.calm=true)(hi:PI X (.Name x m) d W)
  (ht:∀C fp s H,PTs (X.blk G scope C fp s H) g Y)(he:∀C fp s H,PE (X.blk G scope C fp s H) f Z)
  (hN:X.N.Nodup)(J:X.N[iy]?=some y)(K:Loc X.env.scope y)(L:swapsWith (.ListComp f [⟨.Name x m,d,g,0⟩] scope pos) (some (.Name y l)) i.line X.env=pure true:=by rfl)
  (hs:∀x,foldedSetIterable d X.env x=pure x:=by intro _;rfl)(hf:X.fn y=true\/X.env.scope.names.lookup y=some .local:=by first | exact .inl rfl | exact .inr rfl | assumption) :
  PS X (.Assign [.Name y l] (.ListComp f [⟨.Name x m,d,g,0⟩] scope pos) i) (AT (tLC W U Y Z) (uf iy)):=by
 intro j s σ H DE I h
 rw [exec_Assign_Name_used _ _ _ _ L]
 refine ε (wpAny_standAt (ε ?_))
 show wpAny _ X.A (do let _ ← comprehension (.ListComp f [⟨.Name x m,d,g,0⟩] scope pos) scope X.env _ (newList []) false (eval d X.env) (some (assign (.Name y l) X.env))) _ _ s
 refine ε (wpAny_mono (xG (Qo:=λ_ O=>SP X j DE .next O) S hc hi ht he hs I h λD C s5 H5 m5 IF r fC P f3 Q f5 q=>?_) (λ_ O hq=>π (π hq)) λ_ _ e=>e)
 show wpAny _ _ (assign (.Name y l) X.env (.ref D)) _ _ s5
 refine wpAny_assign_Name (oq IF hN J K (v:=.ref D) rfl (λs6 I6 ⟨a6,u,w⟩=>?_) hf)
 have nC:C≠a6:=λz=>by
  rcases w with e | e
  ·exact P (z.trans e)
  ·exact Q _ _ e z.symm
 exact ⟨m5,r.sameBut u nC,λh' F=>⟨_,_,I6.turned (t':=s6.toks) (λb o hb e=>(F.2 b hb).trans e) fC P f3 Q f5,q⟩⟩
open PySem.W
inductive KAll (n:Nat) {α:Type} (P:α->Prop):KasT α->Prop
 | ret {a:α}:P a->KAll n P (.ret a)
 | ask {i j:Nat} {k:Bool->KasT α}:i<n->j<n->(∀b,KAll n P (k b))->KAll n P (.ask i j k)
def nY{α:Type}(lt:Nat->Nat->Bool):KasT α->α
 | .ret a=>a
 | .ask i j k=>nY lt (k (lt i j))
theorem KAll.bind{n:Nat}{α β:Type}{P:α->Prop}{R:β->Prop}{f:α->KasT β}:∀{t:KasT α},KAll n P t->(∀a,P a->KAll n R (f a))->KAll n R (t.bind f)
 | _,.ret h,g=>g _ h
 | _,.ask h1 h2 h3,g=>.ask h1 h2 λb=>KAll.bind (h3 b) g
theorem KAll.wp{n:Nat}{α:Type}{P:α->Prop}{cmp:Nat->Nat->(Bool->Shared->Prop)->Shared->Prop}{lt:Nat->Nat->Bool}{s:Shared}(hc:∀i j (C:Bool->Shared->Prop),i<n->j<n->C (lt i j) s->cmp i j C s){Q:α->Shared->Prop} :
  ∀{t:KasT α},KAll n P t->(P (nY lt t)->Q (nY lt t) s)->t.kasWp cmp Q s
 | _,.ret h,q=>q h
 | _,.ask (i:=i) (j:=j) h1 h2 h3,q=>hc i j _ h1 h2 (KAll.wp hc (h3 (lt i j)) q)
def InP(n:Nat)(p:Array Nat):Prop:=p.size=n/\∀x∈p,x<n
theorem InP.get{n:Nat}{p:Array Nat}(h:InP n p)(h0:0<n)(i:Nat):p.getD i 0<n:=by
 rw [Array.getD_eq_getD_getElem?]
 cases e:p[i]? with
 | none=>exact h0
 | some x=>exact h.2 x (Array.mem_of_getElem? e)
theorem InP.perm{n:Nat}{p q:Array Nat}(h:InP n p)(e:q.Perm p):InP n q:=⟨e.size_eq.trans h.1,λx hx=>h.2 x (e.mem_iff.mp hx)⟩
theorem InP.rev{n:Nat}{p:Array Nat}(h:InP n p)(i j:Nat):InP n (kas_rev p i j):=h.perm (mirror_perm _ _ _ _)
theorem qb{n:Nat}{p:Array Nat}(h:InP n p)(h0:0<n):∀f m,KAll n (λ_=>True) (kas_asc p f m)
 | 0,_=>.ret trivial
 | f+1,m=>.ask (h.get h0 _) (h.get h0 _) λb=>by
  cases b with
  | true=>exact .ret trivial
  | false=>exact qb h h0 f (m+1)
theorem jy{n:Nat}(h0:0<n):∀f (p:Array Nat) m q,InP n p->KAll n (λr=>InP n r.1) (kas_desc f p m q)
 | 0,_,_,_,h=>.ret h
 | f+1,p,m,q,h=>.ask (h.get h0 _) (h.get h0 _) λb=>by
  cases b with
  | true =>
   show KAll n _ (if q>0 then kas_desc f (kas_rev p (m-(q+1)) m) (m+1) 0 else kas_desc f p (m+1) 0)
   split
   ·exact jy h0 f _ _ _ (h.rev _ _)
   ·exact jy h0 f _ _ _ h
  | false =>
   refine .ask (h.get h0 _) (h.get h0 _) λc=>?_
   cases c with
   | true=>exact .ret h
   | false=>exact jy h0 f _ _ _ h
theorem rh{n:Nat}{p:Array Nat}(h:InP n p)(h0:0<n)(m k:Nat):KAll n (λr=>InP n r.2) (kas_tail3 m k p):=(qb (h.rev 0 m) h0 _ _).bind λ_ _=>.ret (h.rev 0 m)
theorem rm{n:Nat}{p:Array Nat}(h:InP n p)(h0:0<n)(m k:Nat):KAll n (λr=>InP n r.2) (kas_descPart m k p):=(jy h0 _ _ _ _ h).bind λr hr=>by
 split
 ·exact rh (hr.rev _ _) h0 _ _
 ·exact rh hr h0 _ _
theorem vp{n:Nat}{p:Array Nat}(h:InP n p)(h0:0<n)(k:Nat):KAll n (λr=>InP n r.2) (kas_count k p):=(qb h h0 _ _).bind λm _=>by
 split
 ·exact .ret h
 ·split
  ·refine .ask (h.get h0 _) (h.get h0 _) λc=>?_
   cases c with
   | true=>exact .ret h
   | false=>exact rm (h.rev _ _) h0 _ _
  ·exact rm h h0 _ _
theorem kj{n:Nat}{p:Array Nat}(h:InP n p)(h0:0<n)(k:Nat):∀f l r,KAll n (λ_=>True) (kas_place p k f l r)
 | 0,_,_=>.ret trivial
 | f+1,l,r=>by
  show KAll n _ (if l≥r then .ret l else .ask (p.getD k 0) (p.getD ((l+r)/2) 0) λc=>if c=true then kas_place p k f l ((l+r)/2) else kas_place p k f ((l+r)/2+1) r)
  split
  ·exact .ret trivial
  ·refine .ask (h.get h0 _) (h.get h0 _) λc=>?_
   cases c with
   | true=>exact kj h h0 k f _ _
   | false=>exact kj h h0 k f _ _
theorem ur{n:Nat}(h0:0<n):∀f (p:Array Nat) k,InP n p->KAll n (InP n) (kas_bin f p k)
 | 0,_,_,h=>.ret h
 | f+1,p,k,h=>(kj h h0 k k 0 k).bind λl _=>ur h0 f _ _ (h.perm (bubble_perm _ _ _))
theorem rj{n:Nat}(h0:0<n):KAll n (InP n) (kas_sort n):=by
 have h:InP n (List.toArray (List.range n)):=⟨by simp,λx d=>by simpa using d⟩
 refine (vp h h0 n).bind λr b=>?_
 split
 ·exact ur h0 _ _ _ b
 ·exact .ret b
def uu(h:Heap)(x:(Int×Int)×Str)(v:Value):Prop:=∃a b t1 t2 t3,v=.ref a/\h.IsTuple a #[.ref b,.str x.2 t3]/\h.IsTuple b #[.int x.1.1 t1,.int x.1.2 t2]
def ltE(x y:(Int×Int)×Str):Bool:=if x.1=y.1 then (if x.2=y.2 then false else decide (x.2.cps.toList<y.2.cps.toList)) else HT.fY [x.1.1,x.1.2] [y.1.1,y.1.2]
section
variable {prog:Program}{w:World}{A:Around}{E:Value->Shared->Prop}{s:Shared}
theorem BY{x y:(Int×Int)×Str}{u v:Value}{Q:Bool->Shared->Prop}(J:A.units+1<cLine)(h1:uu s.heap x u)(o:uu s.heap y v)(q:Q (ltE x y) s):wpAny (model prog w) A (keyLt' (tuples' false) u v) Q E s:=by
 obtain ⟨a,b,r,C,f,rfl,g,e⟩:=h1
 obtain ⟨c,d,u1,D,h,rfl,q1,q2⟩:=o
 obtain ⟨F,i,_,G,j⟩:=id g
 obtain ⟨H,l,_,I,m⟩:=id q1
 refine kat_lt i j l m (kat_cons (oE ω e q2 _ _ _ _ ?_))
 have dn:(decide (x.1.1=y.1.1)&&decide (x.1.2=y.1.2))=decide (x.1=y.1):=by
  rw [← Bool.decide_and]
  exact decide_eq_decide.mpr ⟨λz=>Prod.ext z.1 z.2,λz=>by rw [z];exact ⟨ϱ,ϱ⟩⟩
 rw [dn]
 unfold ltE at q
 by_cases en:x.1=y.1
 ·rw [if_pos en] at q
  rw [τ en]
  refine kat_yes (kat_cons (SeqAt.EqAt.str_str _ f _ h _ _ _ _ ?_))
  by_cases es:x.2=y.2
  ·rw [if_pos es] at q
   rw [← dq,τ es]
   exact kat_yes (kat_nil q)
  ·rw [if_neg es] at q
   rw [← dq,Γ es]
   exact kat_no (kat_one _ _ (lt_str q))
 ·rw [if_neg en] at q
  rw [Γ en]
  exact kat_no (kat_one _ _ (HT.sB e q2 (.cons _ _ (.cons _ _ .nil)) (.cons _ _ (.cons _ _ .nil)) ω q))
def bO{α:Type} [Inhabited α](lt:α->α->Bool)(xs:List α):List α:=((nY (λi j=>lt (xs.getD i default) (xs.getD j default)) (kas_sort xs.length)).toList).map λi=>xs.getD i default
theorem pP{α β:Type}{R:α->β->Prop}{xs:List α}{ys:List β}(h:Paired R xs ys){i:Nat}(e:i<xs.length)(a:α)(b:β):R (xs.getD i a) (ys.getD i b):=by
 have d:i<ys.length:=by rw [← h.len];exact e
 obtain ⟨u,f,g⟩:=h.get1 (ξ e)
 rw [ξ d] at f
 cases f
 rw [List.getD_eq_getElem?_getD,List.getD_eq_getElem?_getD,ξ e,ξ d]
 exact g
theorem pO{α β:Type}{R:α->β->Prop}{xs:List α}{ys:List β}(h:Paired R xs ys)(a:α)(b:β):∀{p:List Nat},(∀i∈p,i<xs.length)->Paired R (p.map λi=>xs.getD i a) (p.map λi=>ys.getD i b)
 | [],_=>.nil
 | i::p,hp=>.cons (pP h (hp i Ω) a b) (pO h a b λj hj=>hp j (Θ _ hj))
instance:Inhabited ((Int×Int)×Str):=⟨((0,0),Str.empty)⟩
theorem sY{α:Type} [Inhabited α](lt:α->α->Bool)(xs:List α)(h:0<xs.length):(bO lt xs).length=xs.length/\∀i∈(nY (λi j=>lt (xs.getD i default) (xs.getD j default)) (kas_sort xs.length)).toList,i<xs.length:=by
 have:InP xs.length (nY (λi j=>lt (xs.getD i default) (xs.getD j default)) (kas_sort xs.length)):=by
  have g:∀{t:KasT (Array Nat)},KAll xs.length (InP xs.length) t->InP xs.length (nY (λi j=>lt (xs.getD i default) (xs.getD j default)) t):=by
   intro t k
   induction k with
   | ret h=>exact h
   | ask _ _ _ ih=>exact ih _
  exact g (rj h)
 refine ⟨?_,λi b=>this.2 i (Array.mem_toList_iff.mp b)⟩
 unfold bO
 rw [ν,Array.length_toList]
 exact this.1
end
section
variable {prog:Program}{w:World}{A:Around}{E:Value->Shared->Prop}{s:Shared}{h₀:Heap}{L:Addr}{m:Str->Option Value}{news:List (Addr×Obj)}
theorem xR{vs:List Value}{a n:Nat}{P:PySem.Fin->Shared->Prop}(F:Fr h₀ L s.heap m)(N:News h₀ L s.heap news)(h:s.heap.get? a=some (seqObj "list" vs.toArray n))(d:a≠L)(f:h₀.get? a=none)(g:∀p∈news,p.1≠a)(u:vs.length<2)
  (q:∀h' c,Fr h₀ L h' m->News h₀ L h' ((a,PySem.W.listOf vs.toArray c)::news)->P (.done (.ret .none)) {s with heap:=h'}) :
  wpAny (model prog w) A (Builtin.«list.sort» ⟨[.ref a], []⟩) P E s := by
 have z0:vs.length<=sizeLine:=by rw [sizeLine_eq];omega
 have sb1:=Heap.SameBut.update s.heap a (Obj.mapSeq λ_=>(#[]:Array Value))
 obtain ⟨c1,o1⟩:∃c,(s.heap.update a (Obj.mapSeq λ_=>(#[]:Array Value))).get? a=some (seqObj "list" #[] c):=⟨_,get?_update_seq h λ_=>#[]⟩
 rw [list_sort_plain]
 refine ε (listItems_at h rfl (ε (listUpdate_at h rfl ?_ (by rw [List.size_toArray];exact z0) (ϖ _))))
 refine ε (seqEpoch_at o1 rfl (ε (wpAny_newTuple ?_ (by show vs.length<=_;exact z0))))
 refine ε (wpAny_newList (wpAny_holding ?_) (ϖ _))
 have lt2:vs.toArray.size<2:=by rw [List.size_toArray];exact u
 dsimp only
 rw [if_pos lt2,if_pos lt2]
 refine ε (π (ε (π ?_)))
 have o2:=ρ (seqObj "list" #[] 0) (ρ (seqObj "tuple" vs.toArray 0) o1)
 refine ε (seqEpoch_at o2 rfl ?_)
 have ez:(arrOf (SortSt.mk' general' (vs.toArray.zip vs.toArray) #[] 7 none)).map (·.2)=vs.toArray:=by
  show (vs.toArray.zip vs.toArray).map (·.2)=vs.toArray
  have o:∀l:List Value,(l.zip l).map (·.2)=l:=λl=>by
   induction l with
   | nil=>rfl
   | cons x r ih=>rw [List.zip_cons_cons,List.map_cons,ih]
  apply Array.toList_inj.mp
  simpa using o vs
 rw [ez]
 refine ε (listUpdate_at o2 rfl ?_ (ϖ _) (by rw [List.size_toArray];exact υ z0))
 simp only [bne_self_eq_false,Bool.false_eq_true,if_false]
 obtain ⟨i,j⟩:∃c,((((s.heap.update a (Obj.mapSeq λ_=>(#[]:Array Value))).push (seqObj "tuple" vs.toArray 0)).push (seqObj "list" #[] 0)).update a (Obj.mapSeq λ_=>vs.toArray)).get? a=some (seqObj "list" vs.toArray c):=⟨_,get?_update_seq o2 λ_=>vs.toArray⟩
 refine π (q _ i ?_ ?_)
 ·exact kas_fr (((kas_fr F sb1 d f).push _).push _) (Heap.SameBut.update _ _ _) d f
 ·intro p hp
  rcases ϕ.mp hp with z | hp
  ·subst z
   exact ⟨j,d,f⟩
  ·exact kas_news ((kas_news N sb1 g).grown λb x e=>ρ _ (ρ _ e)) (Heap.SameBut.update _ _ _) g p hp
end
def sPS(K:Frag)(H:Hp)(x:(Int×Int)×Str)(v:V):Prop:=∃a b,v=.ref a/\H a=some (.tup [.ref b,.str x.2])/\H b=some (.tup [.int x.1.1,.int x.1.2])
theorem sPS.keep{K:Frag}{H H':Hp}{x:(Int×Int)×Str}{v:V}(e:TSame H H')(h:sPS K H x v):sPS K H' x v:=by
 obtain ⟨a,b,rfl,h1,d⟩:=h
 exact ⟨a,b,ϱ,e _ _ h1,e _ _ d⟩
theorem sPS.ent{P:Program}{w:World}{K:Frag}{H:Hp}{h:Heap}{x:(Int×Int)×Str}{v:V}{u:Value}(ok:HOk P w H h)(q:sPS K H x v)(r:RelV v u):uu h x u:=by
 obtain ⟨a,b,rfl,h1,e⟩:=q
 cases (show u=Value.ref a from r)
 obtain ⟨_,f,g,p⟩:=(show ObjOk P w H h a (.tup [.ref b,.str x.2]) from ok a _ h1)
 obtain ⟨_,d,i,j⟩:=(show ObjOk P w H h b (.tup [.int x.1.1,.int x.1.2]) from ok b _ e)
 obtain ⟨u1,D,rfl,l,m⟩:=g.two
 obtain ⟨F,G,rfl,o,y⟩:=i.two
 cases (show u1=Value.ref b from l)
 obtain ⟨t,rfl⟩:=m
 obtain ⟨z,rfl⟩:=o
 obtain ⟨C,rfl⟩:=y
 exact ⟨a,b,z,C,t,ϱ,p,j⟩
theorem uz{us:List V}{vs:List Value}(h:Vals us vs)(p:List Nat)(hp:∀i∈p,i<us.length):Vals (p.map λi=>us.getD i .non) (p.map λi=>vs.getD i Value.none):=pO h _ _ hp
abbrev gM(own:Value)(f:Bool)(d:Addr)(i n ep:Nat)(ok ov:Value):Obj:={cls:=.type "dict_itemiterator",dict:=none,data:=.fields #[own,.bool f,.ref d,.int i 0,.int n 0,.int ep 0,ok,ov],slots:=#[]}
def yw(h:Heap)(it d:Addr)(i n ep:Nat):Prop:=∃own f ok ov,h.get? it=some (gM own f d i n ep ok ov)/\(own=.none\/∃a oa,own=rawInt (a:Nat)/\a≠it/\h.get? a=some oa)
def RawD(h:Heap)(d:Addr)(es:Array DictEntry)(ep:Nat):Prop:=∃od,h.get? d=some od/\od.ExactDict/\od.data=.dict es ep
section
variable {prog:Program}{w:World}{A:Around}{E:Value->Shared->Prop}{s:Shared}{it d:Addr}{i ep:Nat}{es:Array DictEntry}
theorem RawD.at{h h':Heap}(x:RawD h d es ep)(k:∀o,h.get? d=some o->h'.get? d=some o):RawD h' d es ep:=let ⟨od,e,r⟩:=x;⟨od,k _ e,r⟩
theorem Ax{own ok ov:Value}{f:Bool}{n:Nat}(hit:s.heap.get? it=some (gM own f d i n ep ok ov)):s.TypeIs (.ref it) "dict_itemiterator":=⟨_,hit,ϱ⟩
theorem pQ:Builtin.Dict_items.ownsTuple "dict_itemiterator"=true:=by decide
theorem zR{n:Nat}{y ok ov j val:Value}{f:Bool}{Q:Value->Shared->Prop}(H:s.heap.get? it=some (gM y f d i n ep ok ov))(P:y=.none\/∃a oa,y=rawInt (a:Nat)/\a≠it/\s.heap.get? a=some oa)
  (U:∀h',yw h' it d i n ep->h'.get? s.heap.objs.size=some {cls:=.type "tuple",data:=.seq #[j,val]}->h'.objs.size=s.heap.objs.size+1->(∀b o,b≠it->s.heap.get? b=some o->h'.get? b=some o)->Q (.ref s.heap.objs.size) {s with heap:=h'}) :
  wpAny (model prog w) A (Builtin.Dict_items.pairFromOwner (.ref it) 6 j val) Q E s:=by
 obtain ⟨l,g,dr,tk,os⟩:=s
 unfold Builtin.Dict_items.pairFromOwner
 refine ε (wpAny_newTuple ?_)
 have I:it<l.objs.size:=η H
 have h:(l.push {cls:=.type "tuple",data:=.seq #[j,val]}).get? it=some (gM y f d i n ep ok ov):=ρ _ H
 have m:(l.push {cls:=.type "tuple",data:=.seq #[j,val]}).get? l.objs.size=some {cls:=.type "tuple",data:=.seq #[j,val]}:=ψ _ rfl
 have r:(l.push {cls:=.type "tuple",data:=.seq #[j,val]}).objs.size=l.objs.size+1:=Heap.size_push ..
 have q:∀b o,l.get? b=some o->(l.push {cls:=.type "tuple",data:=.seq #[j,val]}).get? b=some o:=λb o e=>ρ _ e
 generalize (l.push {cls:=.type "tuple",data:=.seq #[j,val]})=G at h m r q
 have u:l.objs.size≠it:=Nat.ne_of_gt I
 unfold Builtin.Dict_items.ownedTupleIsFree
 rcases P with z | ⟨a,oa,z,na,ha⟩
 ·subst z
  refine ε (ε (wpAny_field h rfl (x:=.none) rfl (π ?_)))
  simp only [if_true]
  refine ε (wpAny_field h rfl (x:=ok) rfl (ε (wpAny_field h rfl (x:=ov) rfl ?_)))
  refine wpAny_bind (wpAny_setField_rec h (by simp) λK L F=>wpAny_bind (wpAny_setField_rec L (by simp) λh3 Z W=>wpAny_bind (wpAny_setField_rec Z (by simp) λh4 e4 X=>wpAny_bind (wpAny_setField_rec e4 (by simp) λO e5 Y=>?_))))
  have J:∀b o,b≠it->G.get? b=some o->O.get? b=some o:=λb o C e=>Y.extBut b o C (X.extBut b o C (W.extBut b o C (F.extBut b o C e)))
  refine ε (wpAny_letGo (π (U O ⟨_,_,_,_,e5,.inr ⟨l.objs.size,_,ϱ,u,J _ _ u m⟩⟩ (J _ _ u m) ?_ λb o C e=>J b o C (q b o e))))
  show O.objs.size=l.objs.size+1
  rw [Y.1,X.1,W.1,F.1]
  exact r
 ·subst z
  have D:=q _ _ ha
  refine ε (ε (wpAny_field h rfl (x:=rawInt (a:Nat)) rfl ?_))
  show wpAny _ _ (loadIfAlive ((a:Int).toNat) >>= λ_=>_) _ _ _
  rw [Int.toNat_natCast]
  refine ε (kdx_alive D ?_)
  simp only [Option.isNone_some,Bool.false_eq_true,if_false]
  refine ε (wpAny_field h rfl (x:=.bool f) rfl ?_)
  cases f with
  | true =>
   rw [if_neg (show ¬((Value.bool true != Value.bool true)=true) by decide)]
   refine π ?_
   simp only [Bool.false_eq_true,if_false]
   exact π (U G ⟨_,_,_,_,h,.inr ⟨a,oa,ϱ,na,D⟩⟩ m r λb o _ e=>q b o e)
  | false =>
   rw [if_pos (show (Value.bool false != Value.bool true)=true by decide)]
   refine wpAny_bind (wpAny_setField_rec h (by simp) λK L F=>wpAny_pure ?_)
   simp only [Bool.false_eq_true,if_false]
   exact π (U K ⟨_,_,_,_,L,.inr ⟨a,oa,ϱ,na,F.extBut _ _ na D⟩⟩ (F.extBut _ _ u m) (by show K.objs.size=_;rw [F.1];exact r) λb o C e=>F.extBut b o C (q b o e))
theorem zS{e:DictEntry}{Q:Option Value->Shared->Prop}(I:yw s.heap it d i es.size ep)(hd:RawD s.heap d es ep)(L:es[i]?=some e)
  (hQ:∀h',yw h' it d (i+1) es.size ep->h'.get? s.heap.objs.size=some {cls:=.type "tuple",data:=.seq #[e.key,e.val]}->h'.objs.size=s.heap.objs.size+1->(∀b o,b≠it->s.heap.get? b=some o->h'.get? b=some o)->Q (some (.ref s.heap.objs.size)) {s with heap:=h'}) :
  wpAny (model prog w) A (pyNext (.ref it)) Q E s:=by
 obtain ⟨g,f,ok,ov,h1,C⟩:=I
 obtain ⟨od,l,_,m⟩:=hd
 have h:=Ax h1
 unfold pyNext
 refine ε (wpAny_attempt (wpAny_callSpecial?_slot (name:=Str.ofString "__next__") h PySem.F.slot_dict_itemiterator_next (wpAny_call_entry PySem.F.slot_dict_itemiterator_next h PySem.F.entry_dict_itemiterator_next ?_ (PySem.F.args_dict_itemiterator_next_1 _))))
 refine ε (π (ε (ε ?_)))
 first | refine ε (wpAny_typeNameOfWhole_itemiter h (π ?_)) | refine ε (wpAny_typeNameOf_itemiter h (π ?_))
 refine ε (wpAny_fieldsOf h1 rfl ?_)
 simp only [pQ,if_true]
 show wpAny _ _ (if (Value.ref d==Value.none)=true then _ else (_:Sem (Option (Array DictEntry×Int)))) _ _ s
 rw [if_neg (show ¬((Value.ref d==Value.none)=true) by intro z;cases z)]
 refine ε (π (ε (wpAny_dictEntries l m ?_)))
 rw [if_neg (by simp)]
 refine ε (π (ε (wpAny_dictEpoch l m ?_)))
 rw [if_neg (by simp)]
 refine π ?_
 have O:i<es.size:=(Array.getElem?_eq_some_iff.mp L).1
 simp only [show ¬((i:Int)<0) by omega,if_false,Int.toNat_natCast,L]
 refine ε ?_
 first | refine ε (wpAny_typeNameOfWhole_itemiter h (π ?_)) | refine ε (wpAny_typeNameOf_itemiter h (π ?_))
 refine ε (wpAny_isOneOf_itemiter h ?_)
 show wpAny _ _ (setField (.ref it) 3 (rawInt ((i:Int)+1)) >>= λ_=>_) _ _ s
 refine wpAny_bind (wpAny_setField_rec h1 (by simp) λj P G=>?_)
 have q:j.get? it=some (gM g f d (i+1) es.size ep ok ov):=by
  have z:((i+1:Nat):Int)=(i:Int)+1:=by omega
  unfold gM
  rw [z]
  simpa [rawInt] using P
 have r:Shared.TypeIs {s with heap:=j} (.ref it) "dict_itemiterator":=⟨_,q,ϱ⟩
 refine ε (wpAny_holding (ε (wpAny_isOneOf_itemiter r (ε (wpAny_isOneOf_itemiter r ?_)))))
 have u:g=.none\/∃a y,g=rawInt (a:Nat)/\a≠it/\j.get? a=some y:=C.imp id λ⟨a,y,U,J,H⟩=>⟨a,y,U,J,G.extBut a y J H⟩
 refine zR (s:={s with heap:=j}) q u λW X Y H Z=>π ⟨_,ϱ,π ?_⟩
 have D:j.objs.size=s.heap.objs.size:=G.1
 have q3:=hQ W X (by rw [← D];exact Y) (by rw [← D];exact H) λb o K x=>Z b o K (G.extBut b o K x)
 show Q (some (.ref j.objs.size)) _
 rw [D]
 exact q3
theorem BS{Q:Option Value->Shared->Prop}(q:A.handled=none)(j:yw s.heap it d i es.size ep)(r:RawD s.heap d es ep)(u:es.size<=i)
  (x:∀h',Heap.ExtBut it s.heap h'->Q none {s with heap:=h'}):wpAny (model prog w) A (pyNext (.ref it)) Q E s:=by
 obtain ⟨l,f,ok,ov,h1,o⟩:=j
 obtain ⟨od,g,_,h⟩:=r
 have e:=Ax h1
 unfold pyNext
 refine ε (wpAny_attempt (wpAny_callSpecial?_slot (name:=Str.ofString "__next__") e PySem.F.slot_dict_itemiterator_next (wpAny_call_entry PySem.F.slot_dict_itemiterator_next e PySem.F.entry_dict_itemiterator_next ?_ (PySem.F.args_dict_itemiterator_next_1 _))))
 refine ε (π (ε (ε ?_)))
 first | refine ε (wpAny_typeNameOfWhole_itemiter e (π ?_)) | refine ε (wpAny_typeNameOf_itemiter e (π ?_))
 refine ε (wpAny_fieldsOf h1 rfl ?_)
 simp only [pQ,if_true]
 show wpAny _ _ (if (Value.ref d==Value.none)=true then _ else (_:Sem (Option (Array DictEntry×Int)))) _ _ s
 rw [if_neg (show ¬((Value.ref d==Value.none)=true) by intro z;cases z)]
 refine ε (π (ε (wpAny_dictEntries g h ?_)))
 rw [if_neg (by simp)]
 refine ε (π (ε (wpAny_dictEpoch g h ?_)))
 rw [if_neg (by simp)]
 refine π ?_
 simp only [show ¬((i:Int)<0) by omega,if_false,Int.toNat_natCast,Array.getElem?_eq_none u]
 refine ε ?_
 first | refine ε (wpAny_typeNameOfWhole_itemiter e (π ?_)) | refine ε (wpAny_typeNameOf_itemiter e (π ?_))
 show wpAny _ _ (setField (.ref it) 2 .none >>= λ_=>_) _ _ s
 refine wpAny_bind (wpAny_setField h1 rfl (by simp) ?_)
 show wpAny _ _ (newExc (.type "StopIteration") [] >>= λ_=>_) _ _ _
 refine ε ?_
 simp only [newExc,newTuple]
 refine wpAny_bind (wpAny_newObj_type (wpAny_bind (m:=firstArgMember _ _) (wpAny_of_eq (a:=Value.none) (by first | rfl | (simp only [firstArgMember];rfl)) (wpAny_newObj_type ?_ (by size_fits)))) (by size_fits))
 simp only [raiseNew]
 refine ε (wpAny_handled ?_)
 rw [show A.in1.handled=none from q]
 refine ε (π (wpAny_throw ?_));refine ε (wpAny_isInstance (T:="StopIteration") (b:=true) ⟨_,ψ _ rfl,ϱ⟩ isSubtype_stop ?_)
 exact π (x _ (((Heap.SameBut.update ..).extBut.push _).push _))
def vt(h:Heap)(es:Array DictEntry)(as:List Addr):Prop:=∀(j:Nat) (a:Addr),as[j]?=some a->∃e,es[j]?=some e/\h.get? a=some {cls:=.type "tuple",data:=.seq #[e.key,e.val]}
theorem uc{S:Addr}{R:Result->Shared->Prop}{h1:Heap}(H:A.handled=none)(m:S≠it)(C:d≠S)(D:d≠it)(P:es.size<=sizeLine)(u:Value)
  (I:∀h' r g c l,(∀b o,b≠S->b≠it->h1.get? b=some o->h'.get? b=some o)->h'.get? S=some {cls:=.type "list",dict:=none,data:=.seq g c,slots:=#[]}->l.length=es.size->vt h' es l->(∀a∈l,h1.objs.size<=a/\a≠S/\a≠it)->l.Nodup ->
   g.toList=l.map Value.ref->R (.ok (.ret u)) {s with heap:=h',toks:=r}) :
  ∀(k i:Nat) (h:Heap) (r c:Nat) (g:Array Value) (l:List Addr),es.size-i=k->i<=es.size->yw h it d i es.size ep->RawD h d es ep->(∀b o,b≠S->b≠it->h1.get? b=some o->h.get? b=some o) ->
   h.get? S=some {cls:=.type "list",dict:=none,data:=.seq g c,slots:=#[]}->g.toList=l.map Value.ref->l.length=i->vt h es l->(∀a∈l,h1.objs.size<=a/\a≠S/\a≠it/\a<h.objs.size)->l.Nodup->h1.objs.size<=h.objs.size ->
   codeAny (model prog w) A (.builtin "list.extend.loop" ⟨[.ref S,.ref it,u],[]⟩) R {s with heap:=h,toks:=r}
 | 0,i,h,r,c,g,l,hk,hi,hit,hd,kp,hS,ha,hl,tu,ab,ndp,hz=>by
  refine codeAny_builtin PySem.F.entry_extend_loop ?_
  rw [Around.under_plainId PySem.F.plain_extend_loop _]
  show wpAny _ A.in1 (pyNext (.ref it) >>= λ_=>_) _ _ _
  refine ε (BS (s:={s with heap:=h,toks:=r}) (A:=A.in1) H hit hd ω λh' xb=>?_)
  exact π (I h' r g c l (λb o n1 n2 e=>xb b o n2 (kp b o n1 n2 e)) (xb S _ m hS) ω (λj a hj=>by
   obtain ⟨e,e1,e2⟩:=tu j a hj
   exact ⟨e,e1,xb a _ (ab a (List.mem_of_getElem? hj)).2.2.1 e2⟩) (λa hm=>⟨(ab a hm).1,(ab a hm).2.1,(ab a hm).2.2.1⟩) ndp ha)
 | k+1,i,h,r,c,g,l,hk,hi,hit,hd,kp,hS,ha,hl,tu,ab,ndp,hz=>by
  have hlt:i<es.size:=by omega
  have hx:es[i]?=some es[i]:=Array.getElem?_eq_getElem hlt
  have hsz:g.size=i:=by rw [← Array.length_toList,ha,ν,hl]
  have lS:S<h.objs.size:=η hS
  have lI:it<h.objs.size:=by obtain ⟨_,_,_,_,e,_⟩:=hit;exact η e
  refine codeAny_builtin PySem.F.entry_extend_loop ?_
  rw [Around.under_plainId PySem.F.plain_extend_loop _]
  show wpAny _ A.in1 (pyNext (.ref it) >>= λ_=>_) _ _ _
  refine ε (zS (s:={s with heap:=h,toks:=r}) hit hd hx λh' hit' ht z' k'=>?_)
  have z'':h'.objs.size=h.objs.size+1:=z'
  have hS':=k' S _ m hS
  have up:∀b o,b≠S->h'.get? b=some o->(h'.update S (Obj.mapSeq (·.push (Value.ref h.objs.size)))).get? b=some o:=λb o nb e=>(Heap.get?_update_other _ _ (Ne.symm nb)).trans e
  have zu:(h'.update S (Obj.mapSeq (·.push (Value.ref h.objs.size)))).objs.size=h.objs.size+1:=by rw [Heap.size_update];exact z''
  show wpAny _ A.in1 (updateSeq S (·.push (Value.ref h.objs.size)) >>= λ_=>_) _ _ _
  refine ε (wpAny_updateSeq hS' rfl (π ⟨plainId_quiet PySem.F.plain_extend_loop _,?_⟩) (by rw [hsz];omega) (by show (g.push (Value.ref h.objs.size)).size<=sizeLine+1;rw [Array.size_push,hsz];omega))
  refine uc H m C D P u I k (i+1) _ r _ (g.push (Value.ref h.objs.size)) (l++[h.objs.size]) ω hlt ?_ (hd.at λo e=>up d o C (k' d o D e)) (λb o n1 n2 e=>up b o n1 (k' b o n2 (kp b o n1 n2 e)))
   (Heap.get?_update_self _ hS' rfl) (by rw [Array.toList_push,ha,List.map_append];rfl) (by rw [List.length_append,hl];rfl) ?_ ?_ ?_ (by rw [zu];omega)
  ·obtain ⟨own,f,ok,ov,e1,how⟩:=hit'
   refine ⟨own,f,ok,ov,up it _ (Ne.symm m) e1,how.imp id λ⟨a,oa,w1,w2,w3⟩=>?_⟩
   by_cases aS:a=S
   ·subst aS
    exact ⟨a,_,w1,w2,Heap.get?_update_self _ hS' rfl⟩
   ·exact ⟨a,oa,w1,w2,up a oa aS w3⟩
  ·intro j a hj
   by_cases hja:j<l.length
   ·rw [List.getElem?_append_left hja] at hj
    obtain ⟨e,e1,e2⟩:=tu j a hj
    obtain ⟨_,n1,n2,_⟩:=ab a (List.mem_of_getElem? hj)
    exact ⟨e,e1,up a _ n1 (k' a _ n2 e2)⟩
   ·rw [List.getElem?_append_right ω] at hj
    have hj0:j-l.length=0:=by
     cases q:j-l.length with
     | zero=>rfl
     | succ n=>rw [q] at hj;simp at hj
    rw [hj0] at hj
    have J:h.objs.size=a:=by simpa using hj
    subst J
    have K:j=i:=by omega
    subst K
    exact ⟨_,hx,up _ _ (Nat.ne_of_gt lS) ht⟩
  ·intro a hm
   rw [zu]
   rcases List.mem_append.mp hm with hm | hm
   ·obtain ⟨m1,m2,m3,m4⟩:=ab a hm
    exact ⟨m1,m2,m3,Nat.lt_succ_of_lt m4⟩
   ·have:=ϵ.mp hm
    subst this
    exact ⟨hz,Nat.ne_of_gt lS,Nat.ne_of_gt lI,Nat.lt_succ_self _⟩
  ·rw [List.nodup_append]
   refine ⟨ndp,by simp,λx G y O z=>?_⟩
   have L:y=h.objs.size:=ϵ.mp O
   exact Φ (ab x G).2.2.2 (z.trans L)
theorem zT{v:Addr}{Q:Value->Shared->Prop}(b:s.heap.IsItemsView v d)(i:RawD s.heap d es ep)(m:es.size<=sizeLine)
  (j:Q (.ref s.heap.objs.size) {s with heap:=s.heap.push (gM .none false d 0 es.size ep .none .none)}):wpAny (model prog w) A (pyIter (.ref v)) Q E s:=by
 obtain ⟨ov,g,l,h⟩:=id b
 obtain ⟨od,e,_,f⟩:=i
 refine wpAny_pyIter_slot b.typeIs PySem.F.slot_dict_items_iter (wpAny_call_entry PySem.F.slot_dict_items_iter b.typeIs PySem.F.entry_dict_items_iter ?_ (PySem.F.args_dict_items_iter_1 _))
 unfold Builtin.«dict_items.__iter__»
 refine ε (π (ε ?_))
 unfold Builtin.Dict_items.dictOf
 refine ε (wpAny_field g h (x:=.ref d) rfl (π (ε ?_)))
 unfold Builtin.Dict_items.newIterator
 refine ε (wpAny_dictEntries e f (ε (wpAny_dictEpoch e f ?_)))
 simp only [pQ,if_true]
 refine wpAny_newObj_type (wpAny_pure ⟨_,ϱ,"dict_itemiterator",_,⟨_,Heap.get?_push_size _ rfl,ϱ⟩,PySem.F.slot_dict_itemiterator_next.lookup,?_⟩) (by simp only [sizeOk,Builtin.Dict_items.ownedTupleFields,List.size_toArray,List.length_append,List.length_cons,List.length_nil,sizeLine_eq];omega)
 simpa [gM,rawInt,Builtin.Dict_items.ownedTupleFields] using j
theorem vb{v S:Addr}{J:Nat}{R:Result->Shared->Prop}(hh:A.handled=none)(C:s.heap.IsItemsView v d)(D:RawD s.heap d es ep)(K:es.size<=sizeLine)(G:S≠v)(r:d≠S)(g:Value)(L:s.heap.get? S=some {cls:=.type "list",data:=.seq #[] J})
  (hR:∀h' tk acc c as,(∀b o,b≠S->s.heap.get? b=some o->h'.get? b=some o)->h'.get? S=some {cls:=.type "list",dict:=none,data:=.seq acc c,slots:=#[]}->as.length=es.size->vt h' es as->(∀a∈as,s.heap.objs.size<=a)->as.Nodup->acc.toList=as.map Value.ref->R (.ok (.ret g)) {s with heap:=h',toks:=tk}) :
  wpAny (model prog w) A.in1 (Builtin.List.listExtendWith (.ref S) (.ref v) g) (λfin s'=>match fin with | .done f=>R (.ok f) s' | .again c'=>c'.quiet=true/\codeAny (model prog w) A c' R s') (λe s'=>R (.error e) s') s:=by
 have H:S<s.heap.objs.size:=η L
 have O:d<s.heap.objs.size:=let ⟨_,e,_⟩:=D;η e
 have I:∀(h:Heap) (c tk:Nat),(∀b o,b≠S->(s.heap.push (gM .none false d 0 es.size ep .none .none)).get? b=some o->h.get? b=some o)->h.get? S=some {cls:=.type "list",data:=.seq #[] c}->s.heap.objs.size<=h.objs.size ->
   codeAny (model prog w) A (.builtin "list.extend.loop" ⟨[.ref S,.ref s.heap.objs.size,g],[]⟩) R {s with heap:=h,toks:=tk}:=by
  intro h c tk kp eS zh
  have P:=kp s.heap.objs.size _ (Nat.ne_of_gt H) (ψ _ rfl)
  refine uc (s:=s) (it:=s.heap.objs.size) (d:=d) (ep:=ep) (es:=es) (h1:=s.heap) hh (Φ H) r (Φ O) K g (λh' x acc c' as Q y U W X Y Z=>hR h' x acc c' as (λb o l e=>Q b o l (Φ (η e)) e) y U W (λa z=>(X a z).1) Y Z)
   es.size 0 h tk c #[] [] (Nat.sub_zero _) (Nat.zero_le _) ⟨_,_,_,_,P,.inl rfl⟩ (D.at λo e=>kp d o r (Heap.get?_push_of_some _ e)) (λb o l _ e=>kp b o l (Heap.get?_push_of_some _ e)) eS rfl rfl (λj a hj=>by simp at hj) (λa z=>nomatch z) List.nodup_nil zh
 unfold Builtin.List.listExtendWith
 refine ε (wpAny_typeOf (T:="dict_items") C.typeIs ?_)
 have b1:Builtin.List.listSameRef (.ref S) (.ref v)=false:=by simp [Builtin.List.listSameRef,G]
 have b2:(Value.type "dict_items"==Value.type "list")=false/\(Value.type "dict_items"==Value.type "tuple")=false:=⟨ζ,ζ⟩
 simp only [b1,b2.1,b2.2,Bool.or_false,Bool.false_eq_true,if_false]
 have i:=ρ (gM .none false d 0 es.size ep .none .none) L
 have m:s.heap.objs.size<=(s.heap.push (gM .none false d 0 es.size ep .none .none)).objs.size:=by rw [Heap.size_push];exact Nat.le_succ _
 refine ε (zT C D K (ε (wpAny_holding (kdx_hint (let ⟨o,e,c,_⟩:=C;⟨o,ρ _ e,c⟩) ?_))))
 refine wpAny_ite_split (λ_=>?_) (λ_=>π ⟨plainId_quiet PySem.F.plain_extend_loop _,I _ J _ (λb o _ e=>e) i m⟩)
 refine ε (wpAny_rule (ε ?_))
 show wpAny _ _ (updateSeq S (·.push .none) >>= λ_=>updateSeq S (·.pop)) _ _ {s with heap:=s.heap.push (gM .none false d 0 es.size ep .none .none)}
 have q:=Heap.get?_update_self (Obj.mapSeq (·.push Value.none)) i rfl
 have u:=Heap.get?_update_self (Obj.mapSeq (·.pop)) q rfl
 refine ε (wpAny_updateSeq i rfl (wpAny_updateSeq (hz:=by seq_fits) q rfl (π ⟨plainId_quiet PySem.F.plain_extend_loop _,I _ _ _ (λb o l e=>?_) u ?_⟩)))
 ·exact (Heap.get?_update_other _ _ (Ne.symm l)).trans ((Heap.get?_update_other _ _ (Ne.symm l)).trans e)
 ·rw [Heap.size_update,Heap.size_update]
  exact m
theorem sG{v:Addr}{R:List Value->Shared->Prop}(Y:A.handled=none)(O:s.heap.IsItemsView v d)(P:RawD s.heap d es ep)(Z:es.size<=sizeLine)
  (hR:∀(h':Heap) (j:Nat) (h:List Addr),(∀b o,s.heap.get? b=some o->h'.get? b=some o)->h.length=es.size->vt h' es h->(∀a∈h,s.heap.objs.size<=a)->h.Nodup->R (h.map Value.ref) {s with heap:=h',toks:=j}) :
  wpAny (model prog w) A (collect (.ref v)) R E s:=by
 have Q:v<s.heap.objs.size:=let ⟨_,e,_⟩:=O;η e
 have U:d<s.heap.objs.size:=let ⟨_,e,_⟩:=P;η e
 unfold collect
 refine ε (wpAny_runValue (codeAny_builtin entry_proto_collect' ?_))
 rw [Around.under_plainId PySem.F.plain_proto_collect _]
 show wpAny _ A.in1 (newList [] >>= λl=>again (.builtin "list.__iadd__" (Args.mk [l,.ref v] []))) _ _ s
 refine ε (wpAny_newObj_type (π ⟨plainId_quiet PySem.F.plain_list_iadd _,codeAny_builtin entry_list_iadd' ?_⟩))
 rw [Around.under_plainId PySem.F.plain_list_iadd _]
 have W:(s.heap.push {cls:=.type "list",data:=.seq ([]:List Value).toArray}).get? s.heap.objs.size=some {cls:=.type "list",data:=.seq #[] 0}:=ψ _ rfl
 have D:=vb (prog:=prog) (w:=w) (A:=A) (s:={s with heap:=s.heap.push {cls:=.type "list",data:=.seq ([]:List Value).toArray}}) (v:=v) (S:=s.heap.objs.size) (d:=d) (es:=es) (ep:=ep)
  (R:=λ(q:Result) (u:Shared)=>∃(h':Heap) (j:Nat) (i:Array Value) (c:Nat) (h:List Addr),q=.ok (.ret (.ref s.heap.objs.size))/\u={s with heap:=h',toks:=j}/\(∀b o,s.heap.get? b=some o->h'.get? b=some o) /\
   h'.get? s.heap.objs.size=some {cls:=.type "list",dict:=none,data:=.seq i c,slots:=#[]}/\h.length=es.size/\vt h' es h/\(∀a∈h,s.heap.objs.size<=a)/\h.Nodup/\i.toList=h.map Value.ref)
  Y (let ⟨o,e,r⟩:=O;⟨o,ρ _ e,r⟩) (P.at λo e=>ρ _ e) Z (Nat.ne_of_gt Q) (Φ U) (.ref s.heap.objs.size) W
  (λh' j i c h G m H I J K L=>⟨h',j,i,c,h,ϱ,ϱ,λb o e=>G b o (Φ (η e)) (ρ _ e),m,H,I,λa X=>Nat.le_of_succ_le (by have:=J a X;rw [Heap.size_push] at this;exact this),K,L⟩)
 have fin:∀(q:Result) (u:Shared),(∃(h':Heap) (j:Nat) (i:Array Value) (c:Nat) (h:List Addr),q=.ok (.ret (.ref s.heap.objs.size))/\u={s with heap:=h',toks:=j}/\(∀b o,s.heap.get? b=some o->h'.get? b=some o) /\
   h'.get? s.heap.objs.size=some {cls:=.type "list",dict:=none,data:=.seq i c,slots:=#[]}/\h.length=es.size/\vt h' es h/\(∀a∈h,s.heap.objs.size<=a)/\h.Nodup/\i.toList=h.map Value.ref) ->
   ∃h' j,q=.ok (.ret (.ref s.heap.objs.size))/\u={s with heap:=h',toks:=j}/\wpAny (model prog w) A (load s.heap.objs.size >>= λo=>match o.data with | .seq xs _=>pure xs.toList | _=>unsupported "internal:collect") R E {s with heap:=h',toks:=j}:=by
  rintro q u ⟨h',j,i,c,h,rfl,rfl,G,m,H,I,J,K,L⟩
  refine ⟨h',j,ϱ,ϱ,ε (wpAny_load m (π ?_))⟩
  show R i.toList _
  rw [L]
  exact hR h' j h G H I J K
 refine wpAny_mono D (λf u x=>?_) λe u x=>?_
 ·cases f with
  | done fl =>
   obtain ⟨h',j,z,C,g⟩:=fin _ _ x
   cases z
   subst C
   exact g
  | again c1 =>
   refine ⟨x.1,codeAny_mono x.2 λq s2 y=>?_⟩
   obtain ⟨h',j,z,C,g⟩:=fin _ _ y
   subst z C
   exact g
 ·obtain ⟨h',j,z,_⟩:=fin _ _ x
  cases z
end
section
variable {prog:Program}{w:World}{A:Around}{E:Value->Shared->Prop}{s:Shared}{it d:Addr}{i ep:Nat}{es:Array DictEntry}
theorem qz:Builtin.Dict_items.ownsTuple "dict_keyiterator"=false:=by decide
theorem yP{Q:Value->Shared->Prop}(f:(d==sysModules)=false)(i:RawD s.heap d es ep)
  (j:Q (.ref s.heap.objs.size) {s with heap:=s.heap.push {cls:=.type "dict_keyiterator",data:=.fields #[.ref d,.int 0 0,.int es.size 0,.int ep 0]}}):wpAny (model prog w) A (pyIter (.ref d)) Q E s:=by
 obtain ⟨od,b,h,g⟩:=i
 have e:s.TypeIs (.ref d) "dict":=⟨od,b,h.1⟩
 refine wpAny_pyIter_slot e PySem.F.slot_dict_iter (wpAny_call_entry PySem.F.slot_dict_iter e PySem.F.entry_dict_iter ?_ (PySem.F.args_dict_iter_1 _))
 unfold Builtin.«dict.__iter__» Builtin.Dict.dictSlotNone
 refine ε (ε (wpAny_notOrdered_dict e ?_))
 refine π ?_
 show wpAny _ _ (Builtin.Dict.showsAll d >>= λ_=>_) _ _ s
 unfold Builtin.Dict.showsAll
 rw [if_neg (by rw [f];exact Bool.false_ne_true)]
 refine ε (π (ε (wpAny_dictEntries b g (ε (wpAny_dictEpoch b g ?_)))))
 refine ε (wpAny_newObj_type (π ⟨_,ϱ,"dict_keyiterator",_,⟨_,ψ _ rfl,ϱ⟩,PySem.F.slot_dict_keyiterator_next.lookup,?_⟩))
 simpa [rawInt] using j
theorem yO{e:DictEntry}{Q:Option Value->Shared->Prop}(j:s.heap.IsKeyIter it d i es.size ep)(m:RawD s.heap d es ep)(o:es[i]?=some e)
  (q:∀h',h'.IsKeyIter it d (i+1) es.size ep->Heap.SameBut it s.heap h'->Q (some e.key) {s with heap:=h'}):wpAny (model prog w) A (pyNext (.ref it)) Q E s:=by
 obtain ⟨r,h1,l,hf⟩:=id j
 obtain ⟨od,g,_,h⟩:=m
 have f:=j.typeIs
 unfold pyNext
 refine ε (wpAny_attempt (wpAny_callSpecial?_slot (name:=Str.ofString "__next__") f PySem.F.slot_dict_keyiterator_next (wpAny_call_entry PySem.F.slot_dict_keyiterator_next f PySem.F.entry_dict_keyiterator_next ?_ (PySem.F.args_dict_keyiterator_next_1 _))))
 refine ε (π (ε (ε ?_)))
 first | refine ε (wpAny_typeNameOfWhole_keyiter f (π ?_)) | refine ε (wpAny_typeNameOf_keyiter f (π ?_))
 refine ε (wpAny_fieldsOf h1 hf ?_)
 simp only [qz,Bool.false_eq_true,if_false]
 show wpAny _ _ (if (Value.ref d==Value.none)=true then _ else (_:Sem (Option (Array DictEntry×Int)))) _ _ s
 rw [if_neg (show ¬((Value.ref d==Value.none)=true) by intro z;cases z)]
 refine ε (π (ε (wpAny_dictEntries g h ?_)))
 rw [if_neg (by simp)]
 refine ε (π (ε (wpAny_dictEpoch g h ?_)))
 rw [if_neg (by simp)]
 refine π ?_
 simp only [show ¬((i:Int)<0) by omega,if_false,Int.toNat_natCast,o]
 refine ε ?_
 first | refine ε (wpAny_typeNameOfWhole_keyiter f (π ?_)) | refine ε (wpAny_typeNameOf_keyiter f (π ?_))
 refine ε (wpAny_isOneOf_keyiter f ?_)
 show wpAny _ _ (setField (.ref it) 1 (rawInt ((i:Int)+1)) >>= λ_=>_) _ _ s
 refine wpAny_bind (wpAny_setField h1 hf (by simp) ?_)
 have b:(s.heap.update it (Obj.mapFields (·.setIfInBounds 1 (rawInt ((i:Int)+1))))).IsKeyIter it d (i+1) es.size ep :=
  ⟨_,Heap.get?_update_self _ h1 (Obj.isFreed_of_fields (Obj.data_mapFields hf _)),(Obj.cls_mapFields ..).trans l,by rw [Obj.data_mapFields hf];simp [rawInt]⟩
 refine ε (wpAny_holding (ε (wpAny_isOneOf_keyiter (s:={s with heap:=s.heap.update it (Obj.mapFields (·.setIfInBounds 1 (rawInt ((i:Int)+1))))}) b.typeIs ?_)))
 show wpAny _ _ (pure e.key) _ _ _
 exact π (π ⟨_,ϱ,π (q _ b (Heap.SameBut.update ..))⟩)
theorem Bc{Q:Option Value->Shared->Prop}(j:A.handled=none)(h:s.heap.IsKeyIter it d i es.size ep)(l:RawD s.heap d es ep)(o:es.size<=i)
  (q:∀h',Heap.ExtBut it s.heap h'->Q none {s with heap:=h'}):wpAny (model prog w) A (pyNext (.ref it)) Q E s:=by
 obtain ⟨r,h1,u,hf⟩:=id h
 obtain ⟨od,f,_,g⟩:=l
 have e:=h.typeIs
 unfold pyNext
 refine ε (wpAny_attempt (wpAny_callSpecial?_slot (name:=Str.ofString "__next__") e PySem.F.slot_dict_keyiterator_next (wpAny_call_entry PySem.F.slot_dict_keyiterator_next e PySem.F.entry_dict_keyiterator_next ?_ (PySem.F.args_dict_keyiterator_next_1 _))))
 refine ε (π (ε (ε ?_)))
 first | refine ε (wpAny_typeNameOfWhole_keyiter e (π ?_)) | refine ε (wpAny_typeNameOf_keyiter e (π ?_))
 refine ε (wpAny_fieldsOf h1 hf ?_)
 simp only [qz,Bool.false_eq_true,if_false]
 show wpAny _ _ (if (Value.ref d==Value.none)=true then _ else (_:Sem (Option (Array DictEntry×Int)))) _ _ s
 rw [if_neg (show ¬((Value.ref d==Value.none)=true) by intro z;cases z)]
 refine ε (π (ε (wpAny_dictEntries f g ?_)))
 rw [if_neg (by simp)]
 refine ε (π (ε (wpAny_dictEpoch f g ?_)))
 rw [if_neg (by simp)]
 refine π ?_
 simp only [show ¬((i:Int)<0) by omega,if_false,Int.toNat_natCast,Array.getElem?_eq_none o]
 refine ε ?_
 first | refine ε (wpAny_typeNameOfWhole_keyiter e (π ?_)) | refine ε (wpAny_typeNameOf_keyiter e (π ?_))
 show wpAny _ _ (setField (.ref it) 0 .none >>= λ_=>_) _ _ s
 refine wpAny_bind (wpAny_setField h1 hf (by simp) ?_)
 show wpAny _ _ (newExc (.type "StopIteration") [] >>= λ_=>_) _ _ _
 refine ε ?_
 simp only [newExc,newTuple]
 refine wpAny_bind (wpAny_newObj_type (wpAny_bind (m:=firstArgMember _ _) (wpAny_of_eq (a:=Value.none) (by first | rfl | (simp only [firstArgMember];rfl)) (wpAny_newObj_type ?_ (by size_fits)))) (by size_fits))
 simp only [raiseNew]
 refine ε (wpAny_handled ?_)
 rw [show A.in1.handled=none from j]
 refine ε (π (wpAny_throw ?_));refine ε (wpAny_isInstance (T:="StopIteration") (b:=true) ⟨_,ψ _ rfl,ϱ⟩ isSubtype_stop ?_)
 exact π (q _ (((Heap.SameBut.update ..).extBut.push _).push _))
end
def Fz(a:Addr)(o:Obj):HO:=.ext λh=>h.get? a=some o
def FzD(P:Program)(w:World)(H:Hp)(a:Addr)(o:Obj)(kvs:List (List Key×V)):Prop :=
 kvs.length<=sizeLine/\(a==sysModules)=false/\∃xs es ep,KT H kvs xs/\o.ExactDict/\o.data=.dict es ep/\es.toList=xs.map (entryOfKey (tupleKind (aM P w)))/\(xs.map (·.1)).Nodup
theorem FzD.keep{P:Program}{w:World}{H H':Hp}{a:Addr}{o:Obj}{b:List (List Key×V)}(e:TSame H H')(f:FzD P w H a o b):FzD P w H' a o b:=by
 obtain ⟨z,d,g,es,h,r,q⟩:=f
 exact ⟨z,d,g,es,h,r.keeps e,q⟩
section
variable {X:Cx}{pins:List (Addr×Obj)}{σ:St}{H:Hp}{s:Shared}{a:Addr}{o:Obj}{kvs:List (List Key×V)}
theorem BW(I:Inv X pins σ H s)(e:H a=some (.dT kvs)):∃o,Inv X pins σ (upd H a (Fz a o)) s/\FzD X.prog X.w (upd H a (Fz a o)) a o kvs/\s.heap.get? a=some o:=by
 obtain ⟨z,d,f,r,o,es,g,h1,h,i,j,l⟩:=(show ObjOk X.prog X.w H s.heap a (.dT kvs) from I.hok a _ e)
 refine ⟨o,I.write (x:=a) (e:=a) (h':=s.heap) (t':=s.toks) (by rw [e];exact ϰ) (.inl rfl) (λb u _ q=>q) ⟨_,h1⟩ ⟨h1,⟨_,h1⟩,λg1 m p k=>k _ p⟩,⟨z,d,f,es,g,KT.keeps (H:=H) r λb y q=>?_,h,i,j,l⟩,h1⟩
 rw [ao (iG q e (λz=>nomatch z))]
 exact q
theorem AG(I:Inv X pins σ H s)(e:H a=some (Fz a o))(f:FzD X.prog X.w H a o kvs):Inv X pins σ (upd H a (.dT kvs)) s:=by
 obtain ⟨z,d,g,es,h,r,i,j,l,m⟩:=f
 obtain ⟨h1,_⟩:=(show ObjOk X.prog X.w H s.heap a (Fz a o) from I.hok a _ e)
 refine I.write (x:=a) (e:=a) (h':=s.heap) (t':=s.toks) (by rw [e];exact ϰ) (.inl rfl) (λb u _ q=>q) ⟨_,h1⟩ ⟨z,d,g,r.keeps λb y q=>?_,o,es,h,h1,i,j,l,m⟩
 rw [ao (iG q e (λz=>nomatch z))]
 exact q
end
def Ci(P:Program)(w:World)(t:TE):TE:=fun σ H Q=>t σ H λv H1=>∃a o kvs,H1 a=some (Fz a o)/\FzD P w H1 a o kvs/\Q v (upd H1 a (.dT kvs))
theorem yW{X:Cx}{e:Expr}{t:TE}(l:PE X e t):PE X e (Ci X.prog X.w t):=by
 intro b s σ H Q I h
 refine thn (l b s σ H _ I h) λu m ⟨x,H1,d,g,a,o,i,j,f,q⟩=>?_
 exact ⟨x,_,AG d j f,g,q⟩
def Itk(a:Addr)(o:Obj):It :=
 ⟨λi H=>H a=some (Fz a o)/\∃es ep h b v,o.data=.dict es ep/\es[i]?=some ⟨h,.ref b,v⟩,λi H x H'=>H'=H/\∃es ep h b v,o.data=.dict es ep/\es[i]?=some ⟨h,.ref b,v⟩/\x=.ref b,
  λi H=>H a=some (Fz a o)/\∃es ep,o.data=.dict es ep/\es.size<=i⟩
theorem uB{P:Program}{w:World}{K:Frag}{tg:Expr}(a it:Addr)(o:Obj)(Q:o.ExactDict):vq P w K tg (Itk a o) [it] it (λi h=>∃es ep,o.data=.dict es ep/\h.IsKeyIter it a i es.size ep) where
 mem:=by simp
 obj:=λi h st b hb=>by
  have e:b=it:=by simpa using hb
  subst e
  obtain ⟨_,_,_,o,e,c,d⟩:=st
  exact ⟨o,e,λv z=>by rw [d] at z;cases z⟩
 keep:=λi h h' st k=>by
  obtain ⟨es,ep,d,st⟩:=st
  exact ⟨es,ep,d,st.at λo e=>k it (by simp) o e⟩
 item:=by
  intro X F G J O i j s σ H E I hf st L
  subst F G J
  obtain ⟨es,ep,g,st⟩:=st
  obtain ⟨e0,q,r,U,b,v,f,m⟩:=L
  rw [g] at f
  cases f
  obtain ⟨h1,_⟩:=(show ObjOk X.prog X.w H s.heap a (Fz a o) from I.hok a _ e0)
  obtain ⟨u,x,W,y,C,D⟩:=hf it (by simp)
  refine yO st ⟨o,h1,Q,g⟩ m λh' l sb=>?_
  have Y:Inv X j σ H {s with heap:=h'}:=I.turned (t':=s.toks) (λb o hb e=>(sb.2 b hb).trans e) u x y C D
  obtain ⟨oi,e,c,d⟩:=id l
  exact ⟨.ref b,ϱ,qQ (s:={s with heap:=h'}) e c d ζ ⟨.ref b,H,Y,ϱ,⟨ϱ,es,ep,U,b,v,g,m,ϱ⟩,⟨es,ep,g,l⟩,λb hb=>(hf b hb).1⟩⟩
 done:=by
  intro X F G J O i j s σ H E I hf st L
  subst F G J
  obtain ⟨es,ep,g,st⟩:=st
  obtain ⟨e0,q,r,f,m⟩:=L
  rw [g] at f
  cases f
  obtain ⟨h1,_⟩:=(show ObjOk X.prog X.w H s.heap a (Fz a o) from I.hok a _ e0)
  obtain ⟨u,x,W,y,C,D⟩:=hf it (by simp)
  exact Bc (I.ok.hd O) st ⟨o,h1,Q,g⟩ m λh' Z=>⟨ϱ,I.turned (t':=s.toks) (λb o hb e=>Z b o hb e) u x y C D⟩
 self:=λ_ _ _ _ _ st h=>by
  obtain ⟨es,ep,g,st⟩:=st
  exact wpAny_pyIter_keyiter st h
def Dn(P:Program)(w:World)(tl:TE):TI:=fun σ H R=>tl σ H λx H1=>∃a kvs,x=.ref a/\H1 a=some (.dT kvs)/\∀o,FzD P w (upd H1 a (Fz a o)) a o kvs->R (Itk a o) (upd H1 a (Fz a o))
theorem yV{X:Cx}{J l:Expr}{r:TE}(K:PE X l r):PI X J l (Dn X.prog X.w r):=by
 intro d s σ H R I h
 refine thn (K d s σ H _ I h) λv g ⟨x,H1,D,F,q1⟩=>?_
 obtain ⟨a,u,e,y,q⟩:=q1
 subst e
 cases F
 obtain ⟨o,i,f,h1⟩:=BW D y
 obtain ⟨_,z,L,es,C,_,j,m,_,_⟩:=id f
 refine yP z ⟨o,h1,j,m⟩ ?_
 refine ⟨g.heap.objs.size,[g.heap.objs.size],_,_,_,ϱ,i.kept (t':=g.toks) λb o e=>ρ _ e,uB a _ o j,⟨es,C,m,_,ψ _ rfl,ϱ,ϱ⟩,λb G=>?_,q o f⟩
 have e:b=g.heap.objs.size:=by simpa using G
 subst e
 exact i.fpOk (ι _) (i.hok.fresh (ι _))
section
variable {P:Program}{w:World}{a:Addr}{o:Obj}{kvs:List (List Key×V)}{tt:TT}{te:TE}{bl:St}{Fin:List V->Hp->Prop}{H:Hp}
theorem zM(f:FzD P w H a o kvs)(d:Nat->List V->Hp->Prop)(h0:d 0 [] H)(U:∀i ys H',i<=kvs.length->d i ys H'->H' a=some (Fz a o)/\TSame H H')
  (X:∀i e b ys H',kvs[i]?=some e->H' b=some (.tup (e.1.map kV))->d i ys H'->tt (some (.ref b)::bl) H' λc H2=>if c=true then te (some (.ref b)::bl) H2 λy H3=>d (i+1) (ys++[y]) H3 else d (i+1) ys H2)
  (Y:∀ys H',d kvs.length ys H'->Fin ys H') :
  ∃(W:Nat->List V->Hp->Prop) (n:Nat),W 0 [] H/\n<=sizeLine/\∀i ys H,W i ys H->((Itk a o).stop i H/\Fin ys H) \/
   ((Itk a o).go i H/\i<n/\∀x H',(Itk a o).yld i H x H'->tt (some x::bl) H' λc H2=>if c=true then te (some x::bl) H2 λy H3=>W (i+1) (ys++[y]) H3 else W (i+1) ys H2):=by
 obtain ⟨C,_,Z,es,l,r,hx,g,m,_⟩:=f
 have J:es.size=kvs.length:=by rw [size_of_entries m];exact (Paired.length r).symm
 refine ⟨λi ys H'=>i<=kvs.length/\d i ys H',kvs.length,⟨ϖ _,h0⟩,C,?_⟩
 rintro i ys H' ⟨Q,p⟩
 obtain ⟨q,ts⟩:=U i ys H' Q p
 by_cases hlt:i<kvs.length
 ·obtain ⟨y,D,F⟩:=r.get1 (ξ hlt)
  have u:es[i]?=some (entryOfKey (tupleKind (aM P w)) y):=by rw [entry_at m,D];rfl
  refine .inr ⟨⟨q,es,l,_,y.2.1,y.2.2,g,u⟩,hlt,λx H2 z=>?_⟩
  obtain ⟨e,G,I,hh,b,v,h,j,ex⟩:=z
  subst e ex
  rw [g] at h
  cases h
  rw [u] at j
  have K:y.2.1=b:=by
   have:=congrArg DictEntry.key (Δ j)
   exact Value.ref.inj this
  subst K
  have z:=X i kvs[i] y.2.1 ys H2 (ξ hlt) (ts _ _ F.2.1) p
  have L:(λ(c:Bool) (H2:Hp)=>if c=true then te (some (.ref y.2.1)::bl) H2 λy H3=>i+1<=kvs.length/\d (i+1) (ys++[y]) H3 else i+1<=kvs.length/\d (i+1) ys H2)=λc H2=>if c=true then te (some (.ref y.2.1)::bl) H2 λy H3=>d (i+1) (ys++[y]) H3 else d (i+1) ys H2:=by
   have O:(i+1<=kvs.length)=True:=eq_true hlt
   funext c H2
   simp only [O,true_and]
  show tt _ _ _
  rw [L]
  exact z
 ·have e:i=kvs.length:=by omega
  subst e
  exact .inl ⟨⟨q,es,l,g,ω⟩,Y ys H' p⟩
end
def Vw(v d:Addr):HO:=.ext λh=>h.IsItemsView v d
def AK(td:TE):TE:=fun σ H Q=>td σ H λx H1=>∃a kvs,x=.ref a/\H1 a=some (.dT kvs)/\∀v,H1 v=none->Q (.ref v) (upd H1 v (Vw v a))
theorem wG{X:Cx}{o:Expr}{b d:Pos}{y:TE}(K:PE X o y)(f:attributeBase o "items" X.env (eval o X.env)=eval o X.env:=by rfl)(g:(b.endLine==d.line)=true:=by rfl) :
  PE X (.Call (.Attribute o "items" b) [] [] d) (AK y):=by
 intro j s σ H Q I h
 refine wpAny_Call_method0_late f g (thn (K j s σ H _ I h) λu i ⟨x,H1,m,G,a,w,ex,e,q⟩=>?_)
 subst ex
 obtain rfl:u=Value.ref a:=G
 obtain ⟨l,C,D⟩:=io m (.inr ⟨w,.inl e⟩)
 refine ⟨"dict","dict.items",PySem.F.plainAttrs_dict,PySem.F.slot_dict_items,PySem.F.type_dict_items,l,C,Calls.callWith_builtin rfl (PySem.evalArgs_none ?_)⟩
 refine wpAny_call_entry PySem.F.slot_dict_items l PySem.F.entry_dict_items ?_ (PySem.F.args_dict_items_1 _)
 unfold Builtin.«dict.items» Builtin.Dict.noArgs
 refine ε (ε (wpAny_notOrdered_dict l (π ?_)))
 show wpAny _ _ (Builtin.Dict.showsAll a >>= λ_=>_) _ _ i
 unfold Builtin.Dict.showsAll
 rw [if_neg (by rw [D];exact Bool.false_ne_true)]
 refine ε (π (ε (wpAny_newObj_type (π ⟨_,ϱ,?_⟩))))
 refine ⟨.ref i.heap.objs.size,_,m.laid (a:=i.heap.objs.size) (o:=Vw i.heap.objs.size a) (t':=i.toks) (λ_ _ z=>ρ _ z) (ι _) ⟨⟨_,ψ _ rfl,ϱ,ϱ⟩,⟨_,ψ _ rfl⟩,λg1 L ⟨J,p,r⟩ k=>⟨J,k _ p,r⟩⟩,ϱ,q _ (m.hok.fresh (ι _))⟩
theorem eK{α β:Type}{F:α->β->Prop}:∀{xs:List α} {ys:List β},xs.length=ys.length->(∀(i:Nat) x y,xs[i]?=some x->ys[i]?=some y->F x y)->Paired F xs ys
 | [],[],_,_=>.nil
 | x::xs,y::ys,h,f=>.cons (f 0 x y rfl rfl) (eK (Nat.succ.inj h) λi a b e1 e2=>f (i+1) a b e1 e2)
def kM(H:Hp)(ts:List (Addr×List V)):Hp:=λb=>match ts.find? (λp=>decide (p.1=b)) with | some p=>some (.tup p.2) | none=>H b
theorem yz{H:Hp}{ts:List (Addr×List V)}(nd:(ts.map (·.1)).Nodup){p:Addr×List V}(b:p∈ts):kM H ts p.1=some (.tup p.2):=by
 unfold kM
 have:ts.find? (λq=>decide (q.1=p.1))=some p:=by
  induction ts with
  | nil=>cases b
  | cons x r ih =>
   rw [List.map_cons,List.nodup_cons] at nd
   rw [List.find?_cons]
   by_cases e:x.1=p.1
   ·rw [τ e]
    rcases ϕ.mp b with z | z
    ·rw [z]
    ·exact absurd (ϑ.mpr ⟨p,z,e.symm⟩) nd.1
   ·rw [Γ e]
    rcases ϕ.mp b with z | z
    ·exact absurd (by rw [z]) e
    ·exact ih nd.2 z
 rw [this]
theorem sV{H:Hp}{ts:List (Addr×List V)}{b:Addr}(h:∀p∈ts,p.1≠b):kM H ts b=H b:=by
 unfold kM
 have:ts.find? (λq=>decide (q.1=b))=none:=List.find?_eq_none.mpr λp d c=>h p d (Ξ c)
 rw [this]
theorem vG{H:Hp}{ts:List (Addr×List V)}{b:Addr}{o:HO}(h:kM H ts b=some o):(∃p∈ts,p.1=b/\o=.tup p.2)\/((∀p∈ts,p.1≠b)/\H b=some o):=by
 unfold kM at h
 cases e:ts.find? (λq=>decide (q.1=b)) with
 | none =>
  rw [e] at h
  exact .inr ⟨λp d z=>List.find?_eq_none.mp e p d (τ z),h⟩
 | some p =>
  rw [e] at h
  exact .inl ⟨p,List.mem_of_find?_eq_some e,by simpa using List.find?_some e,(Option.some.inj h).symm⟩
section
variable {X:Cx}{pins:List (Addr×Obj)}{σ:St}{H:Hp}{s:Shared}
theorem De{h':Heap}{l:Nat}{ts:List (Addr×List V)}(I:Inv X pins σ H s)(k:∀b o,s.heap.get? b=some o->h'.get? b=some o)(new:∀p∈ts,s.heap.objs.size<=p.1)
  (ok:∀p∈ts,p.2.length<=sizeLine/\∃its,Vals p.2 its/\IsTup h' p.1 (List.toArray its)):Inv X pins σ (kM H ts) {s with heap:=h',toks:=l}:=by
 have old:∀b o,s.heap.get? b=some o->kM H ts b=H b:=λb o e=>sV λp j z=>by
  subst z
  exact Nat.not_le_of_gt (η e) (new p j)
 have f:∀b o,H b=some o->kM H ts b=H b:=λb o e=>by
  obtain ⟨g,h⟩:=(I.hok b o e).there
  exact old b g h
 refine I.step (h':=h') (g':=s.gens) (d':=s.drawn) (t':=l) (ch:=[]) (λ_ z=>nomatch z) (λb o _ _ _ e _=>k b o e) (λb o _ _ _ e _=>⟨o.slots,k b o e⟩) (λb o _ e n=>by rw [old b o e];exact n)
  (λb o _ e=>⟨o,k b o e⟩) (λb x e=>by rw [f b _ e];exact e) (λb o u e=>by rw [f b _ e];exact e) (λb C e=>⟨#[],by rw [f b _ e,e];simp⟩) (λm y=>?_) (λb o e=>?_) I.bare
 ·obtain ⟨g,es,w,i,r⟩:=y
  exact ⟨g,es,w,k _ g i,r⟩
 ·rcases vG e with ⟨p,j,rfl,rfl⟩ | ⟨hn,h⟩
  ·exact ok p j
  ·exact (I.hok b o h).stay (λd v _ q=>k d v q) (λd q=>by rw [f d _ q];exact q) λd x q=>by rw [f d _ q];exact q
end
end L2
namespace Lo
open PySem L2
theorem sPS.c{K:Frag}{H:Hp}{x:Pa×Str}{v:V}(h:sPS K H x v):cPS.rp K H x v:=by
 obtain ⟨a,b,rfl,h1,d⟩:=h
 exact ⟨a,_,_,ϱ,.inl h1,sPa.c (K:=K) (x:=x.1) ⟨b,ϱ,d⟩,ϱ⟩
end Lo
namespace L2
open PySem PySem.Spec PyProof.Rows
theorem zW{K:Frag}{H:Hp}{a:Addr}(n:Nat):EqIs K n H (.ref a) (.ref a) true:=λP w A s u v hA hok kin r1 r2=>by
 cases r1
 cases r2
 exact SeqAt.EqAt.same _
theorem eq_int{K:Frag}{H:Hp}(n:Nat)(i:Int):EqIs K n H (.int i) (.int i) true:=by
 have z:=(cInt.eq (K:=K) (H:=H) (x:=i) (y:=i) rfl rfl).mono (ϖ n)
 rwa [τ rfl] at z
theorem eq_str{K:Frag}{H:Hp}(n:Nat)(i:Str):EqIs K n H (.str i) (.str i) true:=by
 have z:=(cStr.eq (K:=K) (H:=H) (x:=i) (y:=i) rfl rfl).mono (ϖ n)
 rwa [τ rfl] at z
theorem j9{K:Frag}{H:Hp}{a b:Addr}{n:Nat}{us vs:List V}(o:SqT K H a us)(q:SqT K H b vs)(h:Paired (λx y=>EqIs K n H x y true) us vs):EqIs K (n+1) H (.ref a) (.ref b) true/\vv K (n+1) H (.ref a) (.ref b) true:=by
 obtain ⟨d,f⟩:=vL (e:=λ_=>true) o q h.len λj x y l m=>by
  obtain ⟨v,g,i⟩:=h.get1 l
  rw [m] at g
  cases g
  exact i
 have e:((List.range us.length).all λ_=>true)=true:=by simp
 rw [e] at d f
 exact ⟨mW d λ_ _ _ _ _ _=>rfl,f⟩
end L2
namespace Lo
open PySem L2
structure TxH(K:Frag)(CH:Addr):Prop where
 cl:Cls K CH
 ht:NoAttr K CH "stand"
 hw:NoAttr K CH "rows"
 hs:NoAttr K CH "sent"
 hl:NoAttr K CH "latest"
structure Ah where
 (l dx rw sn:Addr)
def hf(S:Addr)(h:Ah)(v:V):List (Str×V):=az "latest" v (az "sent" (.ref h.sn) (az "rows" (.ref h.rw) (az "stand" (.ref S) [])))
theorem mv(f:Str)(v v':V):∀fs:List (Str×V),az f v' (az f v fs)=az f v' fs
 | []=>by
  show (if f=f then _ else _)=_
  rw [if_pos rfl]
  rfl
 | (g,x)::r=>by
  by_cases e:g=f
  ·show az f v' (if g=f then _ else _)=(if g=f then _ else _)
   rw [if_pos e,if_pos e]
   show (if g=f then _ else _)=_
   rw [if_pos e]
  ·show az f v' (if g=f then _ else _)=(if g=f then _ else _)
   rw [if_neg e,if_neg e]
   show (if g=f then _ else _)=_
   rw [if_neg e,mv f v v' r]
theorem BU(S:Addr)(h:Ah)(v v':V):az "latest" v' (hf S h v)=hf S h v':=mv _ _ _ _
theorem AA(S:Addr)(h:Ah)(v:V):(hf S h v).lookup ("latest":Str)=some v:=by
 unfold hf
 rw [al,if_pos rfl]
theorem Ay(S:Addr)(h:Ah)(v:V):(hf S h v).lookup ("sent":Str)=some (.ref h.sn):=by
 unfold hf
 rw [al,if_neg θ,al,if_pos rfl]
theorem Az(S:Addr)(h:Ah)(v:V):(hf S h v).lookup ("rows":Str)=some (.ref h.rw):=by
 unfold hf
 rw [al,if_neg θ,al,if_neg θ,al,if_pos rfl]
theorem xL(S:Addr)(h:Ah)(v:V):(hf S h v).lookup ("stand":Str)=some (.ref S):=by
 unfold hf
 rw [al,if_neg θ,al,if_neg θ,al,if_neg θ,al,if_pos rfl]
theorem iJ{S:Addr}{h:Ah}{v:V}{m:Str}(q:decide (m∈(["latest","sent","rows","stand"]:List Str))=false):(hf S h v).lookup m=none:=by
 have b:m∉(["latest","sent","rows","stand"]:List Str):=of_decide_eq_false q
 simp only [List.mem_cons,List.not_mem_nil,or_false,not_or] at b
 obtain ⟨h1,d,e,f⟩:=b
 unfold hf
 rw [al,if_neg h1,al,if_neg d,al,if_neg e,al,if_neg f]
 rfl
theorem BV(S:Addr)(h:Ah)(v:V):(hf S h v).length<1000:=bj (n:=999) (bj (n:=998) (bj (n:=997) (bj (n:=996) (by show 0<996;decide))))
abbrev Ws:=Int×Str×Addr×Addr
def WsAt(H:Hp)(x:Ws)(u:V):Prop:=∃t t2,u=.ref t/\H t=some (.tup [.int x.1,.ref t2])/\H t2=some (.tup [.str x.2.1,.ref x.2.2.1,.ref x.2.2.2])
theorem WsAt.keep{H H':Hp}{x:Ws}{u:V}(e:TSame H H')(h:WsAt H x u):WsAt H' x u:=by
 obtain ⟨t,b,rfl,h1,d⟩:=h
 exact ⟨t,b,ϱ,e _ _ h1,e _ _ d⟩
def Im(CH CL:Addr):HO->Prop
 | .tup _=>True
 | .ins c _ fs=>fs≠[]/\c≠CH/\c≠CL
 | .ext φ=>∀a xs,φ≠zJ a xs
 | .frz _ (.tup _)=>True
 | _=>False
abbrev Cs:=List (Addr×HO)
def ad(L:Cs):List Addr:=L.map (·.1)
structure Ow(CH CL:Addr)(N:List Addr)(H0 H:Hp)(L:Cs):Prop where
 co:∀x∈L,H x.1=some x.2
 nd:(ad L).Nodup
 mu:∀x∈L,∀u,H0 x.1=some u->¬Im CH CL u
 nw:∀x∈L,x.1∈N\/H0 x.1=none
 fr:∀b o,b∉N->H0 b=some o->H b=some o
 im:∀b o,H0 b=some o->Im CH CL o->H b=some o
section
variable {CH CL:Addr}{N:List Addr}{H0 H H':Hp}{L L' L2:Cs}{a b:Addr}{o o':HO}
theorem Ow.ts(g:Ow CH CL N H0 H L):TSame H0 H:=λb xs e=>g.im b _ e ϰ
theorem Ow.mk0(co:∀x∈L,H x.1=some x.2)(nd:(ad L).Nodup)(nm:∀x∈L,¬Im CH CL x.2):Ow CH CL (ad L) H H L :=
 ⟨co,nd,λx hx u e=>by rw [co x hx] at e;cases e;exact nm x hx,λx hx=>.inl (ϑ.mpr ⟨x,hx,ϱ⟩),λ_ _ _ e=>e,λ_ _ e _=>e⟩
theorem Ow.self(g:Ow CH CL N H0 H L)(nm:∀x∈L,¬Im CH CL x.2):Ow CH CL (ad L) H H L:=.mk0 g.co g.nd nm
theorem Ow.same(g:Ow CH CL N H0 H L)(e:Same H H'):Ow CH CL N H0 H' L :=
 ⟨λx hx=>e _ _ (g.co x hx),g.nd,g.mu,g.nw,λb o n z=>e _ _ (g.fr b o n z),λb o z i=>e _ _ (g.im b o z i)⟩
theorem Ow.trans(g:Ow CH CL N H0 H L)(d:Ow CH CL (ad L) H H' L'):Ow CH CL N H0 H' L':=by
 refine ⟨d.co,d.nd,λx h u e i=>d.mu x h u (g.im _ _ e i) i,λx h=>?_,λb o n e=>?_,λb o e i=>d.im b o (g.im b o e i) i⟩
 ·rcases d.nw x h with m | m
  ·obtain ⟨y,f,e⟩:=ϑ.mp m
   rw [← e]
   exact g.nw y f
  ·by_cases n:x.1∈N
   ·exact .inl n
   ·cases e:H0 x.1 with
    | none=>exact .inr rfl
    | some u=>rw [g.fr _ _ n e] at m;cases m
 ·refine d.fr b o (λj=>?_) (g.fr b o n e)
  obtain ⟨y,f,z⟩:=ϑ.mp j
  rcases g.nw y f with m | m
  ·exact n (z▸m)
  ·rw [show y.1=b from z,e] at m;cases m
theorem Ow.kp(g:Ow CH CL N H0 H L)(i:Nat)(h:L[i]?=some (a,o))(k:Kp a H H')(e:H' a=some o'):Ow CH CL N H0 H' (L.set i (a,o')):=by
 have r:=List.mem_of_getElem? h
 have C:ad (L.set i (a,o'))=ad L:=by
  unfold ad
  rw [List.map_set]
  refine List.ext_getElem? λj=>?_
  rw [List.getElem?_set]
  by_cases q:i=j
  ·rw [if_pos q,if_pos (by rw [ν];exact (List.getElem?_eq_some_iff.mp h).1),← q,List.getElem?_map,h]
   rfl
  ·rw [if_neg q]
 have D:∀x∈L.set i (a,o'),∃y∈L,y.1=x.1:=λx f=>by
  have:x.1∈ad L:=C▸ϑ.mpr ⟨x,f,ϱ⟩
  exact ϑ.mp this
 refine ⟨λx f=>?_,C▸g.nd,λx f=>?_,λx f=>?_,λb u n z=>?_,λb u z w=>k b u (λy=>g.mu _ r u (by show H0 a=some u;rw [← y];exact z) w) (g.im b u z w)⟩
 ·obtain ⟨j,d⟩:=List.mem_iff_getElem?.mp f
  rw [List.getElem?_set] at d
  by_cases q:i=j
  ·rw [if_pos q] at d
   split at d
   ·cases d
    exact e
   ·cases d
  ·rw [if_neg q] at d
   refine k _ _ (λz=>q ?_) (g.co x (List.mem_of_getElem? d))
   have F:(ad L)[i]?=some a:=by unfold ad;rw [List.getElem?_map,h];rfl
   have G:(ad L)[j]?=some a:=by unfold ad;rw [List.getElem?_map,d];show some x.1=some a;rw [z]
   exact (List.getElem?_inj (List.getElem?_eq_some_iff.mp F).1 g.nd).mp (F.trans G.symm)
 ·obtain ⟨y,l,q⟩:=D x f
  rw [← q]
  exact g.mu y l
 ·obtain ⟨y,l,q⟩:=D x f
  rw [← q]
  exact g.nw y l
 ·refine k b u (λy=>?_) (g.fr b u n z)
  rcases g.nw _ r with m | m
  ·exact n (y▸m)
  ·rw [show (a,o).1=b from y.symm,z] at m;cases m
theorem Ow.up(g:Ow CH CL N H0 H L)(i:Nat)(o':HO)(hi:L[i]?=some (a,o)):Ow CH CL N H0 (upd H a o') (L.set i (a,o')):=g.kp i hi bn ae
theorem Ow.old(g:Ow CH CL N H0 H L)(h:H b=none):b∈N\/H0 b=none:=by
 by_cases n:b∈N
 ·exact .inl n
 ·cases e:H0 b with
  | none=>exact .inr rfl
  | some u=>rw [g.fr _ _ n e] at h;cases h
theorem Ow.free(g:Ow CH CL N H0 H L)(h:H b=none):b∉ad L:=λhm=>by
 obtain ⟨y,hy,z⟩:=ϑ.mp hm
 have:=g.co y hy
 rw [show y.1=b from z,h] at this
 cases this
theorem Ow.add(g:Ow CH CL N H0 H L)(h:H a=none)(e:Same H H')(q:H' a=some o):Ow CH CL N H0 H' (L++[(a,o)]):=by
 have g1:=g.same e
 have d:=g.free h
 refine ⟨λx b=>?_,?_,λx b=>?_,λx b=>?_,g1.fr,g1.im⟩
 ·rcases List.mem_append.mp b with m | m
  ·exact g1.co x m
  ·rw [ϵ.mp m];exact q
 ·unfold ad
  rw [List.map_append,List.nodup_append]
  exact ⟨g.nd,by simp,λx b y f=>by rw [List.mem_singleton.mp f];exact λz=>d (by rw [← show x=a from z];exact b)⟩
 ·rcases List.mem_append.mp b with m | m
  ·exact g.mu x m
  ·rw [ϵ.mp m]
   exact λu z i=>by rw [g.im a u z i] at h;cases h
 ·rcases List.mem_append.mp b with m | m
  ·exact g.nw x m
  ·rw [ϵ.mp m];exact g.old h
theorem Ow.new(g:Ow CH CL N H0 H L)(h:H a=none)(o:HO):Ow CH CL N H0 (upd H a o) (L++[(a,o)]):=g.add h (ah h) ae
theorem Ow.part(g:Ow CH CL N H0 H L)(nd:(ad L').Nodup)(s:∀x∈L',x∈L):Ow CH CL N H0 H L' :=
 ⟨λx hx=>g.co x (s x hx),nd,λx hx=>g.mu x (s x hx),λx hx=>g.nw x (s x hx),g.fr,g.im⟩
theorem Ow.tail(g:Ow CH CL N H0 H (L++L')):Ow CH CL N H0 H L':=g.part (by have:=g.nd;unfold ad at this ⊢;rw [List.map_append] at this;exact (List.nodup_append.mp this).2.1) λx hx=>List.mem_append_right _ hx
theorem Ow.join(g:Ow CH CL N H0 H L)(f:Ow CH CL [] H H' L2):Ow CH CL N H0 H' (L2++L):=by
 have s:Same H H':=λb o e=>f.fr b o (λz=>nomatch z) e
 have g1:=g.same s
 have j:∀x∈L2,H x.1=none:=λx d=>(f.nw x d).resolve_left λz=>nomatch z
 refine ⟨λx d=>(List.mem_append.mp d).elim (f.co x) (g1.co x),?_,λx d=>(List.mem_append.mp d).elim (λm u e i=>?_) (g.mu x),λx d=>(List.mem_append.mp d).elim (λm=>g.old (j x m)) (g.nw x),g1.fr,g1.im⟩
 ·unfold ad
  rw [List.map_append,List.nodup_append]
  refine ⟨f.nd,g.nd,λx d y q z=>?_⟩
  obtain ⟨l,h,rfl⟩:=ϑ.mp d
  exact g.free (j l h) (z▸q)
 ·have:=j x m
  rw [g.im _ _ e i] at this
  cases this
theorem Ow.born(g:Ow CH CL [a] H H' L)(e:Same H0 H)(n:H0 a=none):Ow CH CL [] H0 H' L:=by
 have s:Same H0 H':=λb o z=>g.fr b o (λy=>by rw [ϵ.mp y,n] at z;cases z) (e _ _ z)
 have f:∀x∈L,H0 x.1=none:=λx d=>by
  rcases g.nw x d with m | m
  ·rw [ϵ.mp m];exact n
  ·cases z:H0 x.1 with
   | none=>rfl
   | some u=>rw [e _ _ z] at m;cases m
 exact ⟨g.co,g.nd,(λx d u z=>by rw [f x d] at z;cases z),λx d=>.inr (f x d),λb o _ z=>s b o z,λb o z _=>s b o z⟩
end
section
variable {CH CL:Addr}{N:List Addr}{H0 H H':Hp}{L L' R S X O:Cs}{a b l dx c:Addr}{fs fs':List (Str×V)}{o o':HO}
theorem Ow.fld(g:Ow CH CL N H0 H ((l,.ins c dx fs)::R))(n:H b=none)(o:HO)(fs':List (Str×V)):(upd H b o) l=some (.ins c dx fs)/\Ow CH CL N H0 (upd (upd H b o) l (.ins c dx fs')) ((l,.ins c dx fs')::(R++[(b,o)])) :=
 ⟨(g.new n o).co _ (.head _),(g.new n o).up 0 _ rfl⟩
theorem Ow.sub(g:Ow CH CL N H0 H L)(s:L'.Sublist L):Ow CH CL N H0 H L':=g.part ((s.map _).nodup g.nd) λ_ hx=>s.subset hx
theorem Ow.perm(g:Ow CH CL N H0 H L)(s:L'.Perm L):Ow CH CL N H0 H L':=g.part ((s.map _).nodup_iff.mpr g.nd) λ_ hx=>s.subset hx
theorem Ow.swap(g:Ow CH CL N H0 H (X++(S++O))):Ow CH CL N H0 H (S++X):=(g.sub (List.Sublist.append (.refl _) (List.sublist_append_left _ _))).perm List.perm_append_comm
theorem Ow.repl{A B:Cs}{x y:Addr×HO}(g:Ow CH CL N H0 H (A++(x::(B++[y])))):Ow CH CL N H0 H (A++(y::B)):=(g.sub (List.Sublist.append (.refl _) (.cons _ (.refl _)))).perm (.append_left _ (List.perm_append_singleton _ _).symm)
theorem Ow.two(h1:H a=none)(f:H b=none)(g:a≠b)(e:Same H H')(q1:H' a=some o)(q2:H' b=some o'):Ow CH CL [] H H' [(a,o),(b,o')]:=by
 have m:∀x∈[(a,o),(b,o')],H x.1=none/\H' x.1=some x.2:=λx d=>by
  rcases ϕ.mp d with z | z
  ·subst z;exact ⟨h1,q1⟩
  ·rw [ϵ.mp z];exact ⟨f,q2⟩
 exact ⟨λx d=>(m x d).2,by simp [ad,g],(λx d u z=>by rw [(m x d).1] at z;cases z),λx d=>.inr (m x d).1,λb o _=>e b o,λb o z _=>e b o z⟩
end
abbrev ImS(CH CL:Addr)(H H':Hp):Prop:=∀b o,H b=some o->Im CH CL o->H' b=some o
section
variable {CH CL a:Addr}{H H' H2:Hp}{o:HO}
theorem cH(k:Kp a H H')(e:H a=some o)(n:¬Im CH CL o):ImS CH CL H H':=λb u q i=>k b u (λz=>by rw [z,e] at q;cases q;exact n i) q
theorem cy(e:Same H H'):ImS CH CL H H':=λb u q _=>e b u q
theorem ImS.ts(e:ImS CH CL H H'):TSame H H':=λb xs q=>e b _ q ϰ
theorem ImS.trans(e:ImS CH CL H H')(e2:ImS CH CL H' H2):ImS CH CL H H2:=λb u q i=>e2 b u (e b u q i) i
end
theorem kr{C l dl:Addr}{H:Hp}(nl:H l=none)(nd:H dl=none):Same H (upd (upd H dl (.own l)) l (.ins C dl [])):=λb o e=>by
 rw [ao (ap e nl),ao (ap e nd)]
 exact e
theorem iL{H:Hp}{a:Addr}{o o':HO}(e:H a=some o)(n:∀xs,o≠.tup xs:=by intro xs z;cases z):TSame H (upd H a o'):=λb xs q=>by
 rw [ao (λz=>by rw [z,e] at q;exact n xs (Δ q))]
 exact q
section
variable {α:Type}{a b c d e f g h i j k l m n:α}{r:List α}
theorem j0:a∈a::r:=.head _
theorem j1:b∈a::b::r:=.tail _ j0
theorem j2:c∈a::b::c::r:=.tail _ j1
theorem j3:d∈a::b::c::d::r:=.tail _ j2
theorem j4:e∈a::b::c::d::e::r:=.tail _ j3
theorem j5:f∈a::b::c::d::e::f::r:=.tail _ j4
theorem j6:g∈a::b::c::d::e::f::g::r:=.tail _ j5
theorem j7:h∈a::b::c::d::e::f::g::h::r:=.tail _ j6
end
end Lo
namespace L2
open PySem PySem.Spec PyProof.Rows PySem.W Lo
def Ch(t:TA):TE:=fun σ H Q=>t σ H λxs H1=>xs.length<=sizeLine/\∀p o,H1 p=none->o.dict=none->Q (.ref p) (upd H1 p (.frz o (.tup xs)))
theorem lK{X:Cx}{es:List Expr}{t:TA}{pos:Pos}{x1}(h:PA X es t):PE X (.Tuple es x1 pos) (Ch t):=by
 intro d s σ H Q I l
 refine wpAny_Tuple_spliced (thn (h pos d s σ H _ I l) λg f ⟨j,H1,i,r,z,q⟩=>⟨by rw [← r.length];exact z,?_⟩)
 have hf:H1 f.heap.objs.size=none:=i.hok.fresh (ι _)
 exact ⟨.ref f.heap.objs.size,upd H1 f.heap.objs.size (.frz {cls:=.type "tuple",data:=.seq g.toArray} (.tup j)),i.laid (t':=f.toks) (λb u e=>ρ _ e) (ι _) ⟨ψ _ rfl,z,g,r,_,ψ _ rfl,ϱ,_,ϱ⟩,ϱ,q _ _ hf rfl⟩
theorem uq{CH CL c:Addr}{q:Str}:Im CH CL (gb c q):=λa xs e=>by
 have g:∀b,Heap.get? {objs:=Array.replicate (c+1) ⟨.type "code",none,.fields #[.none,.str q 0],#[]⟩} b=if b<c+1 then some ⟨.type "code",none,.fields #[.none,.str q 0],#[]⟩ else none:=λb=>by
  unfold Heap.get?
  rw [Array.getElem?_replicate]
  by_cases z:b<c+1
  ·rw [if_pos z]
  ·rw [if_neg z]
 obtain ⟨_,o,es,ep,e1,_,d,_⟩:=(congrFun e {objs:=Array.replicate (c+1) ⟨.type "code",none,.fields #[.none,.str q 0],#[]⟩}).mp ⟨_,_,0,(g c).trans (if_pos (Nat.lt_succ_self c)),ϱ,ϱ⟩
 rw [g a] at e1
 split at e1
 ·cases e1;cases d
 ·cases e1
end L2
namespace Km
open PySem PySem.NumText PyProof.Rows
def qO(c:Nat):Bool:=decide (48<=c)&&decide (c<=57)
def sj(c:Nat):Bool:=decide (32<=c)&&decide (c<=126)&&decide (c≠37)
def bY(m:Nat):List Nat:=(Nat.toDigits 10 m).map Char.toNat
def b9(n:Int):List Nat:=if n<0 then 45::bY n.natAbs else bY n.natAbs
theorem f6(m:Nat):AllDigits (bY m):=by
 intro c d
 obtain ⟨f,b,e⟩:=ϑ.mp d
 have r:=digit_range (Nat.isDigit_of_mem_toDigits ζ ζ b)
 rw [← e]
 exact r
theorem jr(m:Nat):bY m≠[]:=by
 intro e
 have h:=toDigits_len_ge 10 m
 rw [List.map_eq_nil_iff.mp e] at h
 exact absurd h ζ
theorem ip(m:Nat):digitsVal (bY m)=m:=PySem.W.KIN.val_back m
theorem vg:bY 0=[48]:=rfl
theorem vh(m:Nat)(h:m≠0):∀c r,bY m=c::r->c≠48:=by
 induction m using Nat.strongRecOn with
 | _ m ih =>
  intro c r e
  by_cases hm:m<10
  ·unfold bY at e
   rw [Nat.toDigits_of_lt_base hm] at e
   have f:(Nat.digitChar m).toNat=c:=by simpa using (List.cons.inj e).1
   have b:∀d:Nat,d<10->d≠0->(Nat.digitChar d).toNat≠48:=by decide
   rw [← f]
   exact b m hm h
  ·have t:Nat.toDigits 10 (m/10)++Nat.toDigits 10 (m%10)=Nat.toDigits 10 (10*(m/10)+m%10):=Nat.toDigits_append_toDigits ζ ω (Nat.mod_lt m ζ)
   rw [Nat.div_add_mod] at t
   have g:bY m=bY (m/10)++bY (m%10):=by unfold bY;rw [← t,List.map_append]
   cases q:bY (m/10) with
   | nil=>exact absurd q (jr _)
   | cons c' r' =>
    rw [g,q] at e
    have:c'=c:=(List.cons.inj e).1
    rw [← this]
    exact ih (m/10) ω ω c' r' q
theorem mZ{m k:Nat}(g:1<=k)(h:m<10 ^ k):(bY m).length<=k:=by
 induction k generalizing m with
 | zero=>omega
 | succ k ih =>
  by_cases hm:m<10
  ·unfold bY
   rw [Nat.toDigits_of_lt_base hm]
   simp
  ·have b:1<=k:=by
    cases k with
    | zero=>exfalso;simp at h;omega
    | succ k=>omega
   have t:Nat.toDigits 10 (m/10)++Nat.toDigits 10 (m%10)=Nat.toDigits 10 (10*(m/10)+m%10):=Nat.toDigits_append_toDigits ζ ω (Nat.mod_lt m ζ)
   rw [Nat.div_add_mod] at t
   have d:bY m=bY (m/10)++bY (m%10):=by unfold bY;rw [← t,List.map_append]
   have e:bY (m%10)=[(Nat.digitChar (m%10)).toNat]:=by unfold bY;rw [Nat.toDigits_of_lt_base (Nat.mod_lt m ζ)];rfl
   have f:m/10<10 ^ k:=by
    rw [Nat.pow_succ] at h
    exact Nat.div_lt_of_lt_mul (by rw [Nat.mul_comm];exact h)
   have:=ih b f
   rw [d,e,List.length_append]
   simpa using this
theorem oV(n:Int):(Str.ofString (toString n)).cps.toList=b9 n:=by
 cases n with
 | ofNat m =>
  unfold b9
  rw [if_neg (show ¬Int.ofNat m<0 from Int.not_lt.mpr (Int.natCast_nonneg m))]
  exact PySem.W.KIN.signs_num m
 | negSucc m =>
  unfold b9
  rw [if_pos ω]
  have e:toString (Int.negSucc m)="-"++Nat.repr (m+1):=rfl
  rw [e,signs_ofString,String.toList_append,List.map_append,Nat.toList_repr]
  rfl
end Km
namespace Km
open PySem PySem.NumText L2
open PyProof.Rows
def cU(c:Nat):List (List Nat)->List Nat
 | []=>[]
 | [x]=>x
 | x::y::r=>x++c::cU c (y::r)
theorem dQ(c:Nat):∀ys:List Str,(Str.join ⟨#[c]⟩ ys).cps.toList=cU c (ys.map λy=>y.cps.toList)
 | []=>rfl
 | [y]=>rfl
 | y::u::ys=>by
  have ih:=dQ c (u::ys)
  rw [join_cons_cons]
  show ((y.cps++#[c])++(Str.join ⟨#[c]⟩ (u::ys)).cps).toList=_
  rw [Array.toList_append,Array.toList_append,ih]
  simp [cU]
theorem vo{c:Nat}{a b d g:List Nat}(i:c∉a)(f:c∉d)(e:a++c::b=d++c::g):a=d/\b=g:=by
 induction a generalizing d with
 | nil =>
  cases d with
  | nil=>exact ⟨rfl,(List.cons.inj e).2⟩
  | cons x d=>exact absurd (ϕ.mpr (.inl (List.cons.inj e).1)) f
 | cons x a ih =>
  cases d with
  | nil=>exact absurd (ϕ.mpr (.inl (List.cons.inj e).1.symm)) i
  | cons y d =>
   obtain ⟨j,l⟩:=List.cons.inj e
   obtain ⟨m,o⟩:=ih (λh=>i (Θ _ h)) (λh=>f (Θ _ h)) l
   exact ⟨by rw [j,m],o⟩
theorem oI{c:Nat}:∀{xs ys:List (List Nat)},xs≠[]->ys≠[]->(∀x∈xs,c∉x)->(∀y∈ys,c∉y)->cU c xs=cU c ys->xs=ys
 | [],_,h,_,_,_,_=>absurd rfl h
 | _::_,[],_,h,_,_,_=>absurd rfl h
 | [x],[y],_,_,_,_,e=>by rw [show x=y from e]
 | [x],y::u::ys,_,_,hx,_,e=>by
  have e':x=y++c::cU c (u::ys):=e
  exact absurd (by rw [e'];simp) (hx x List.mem_cons_self)
 | x::u::xs,[y],_,_,_,hy,e=>by
  have e':x++c::cU c (u::xs)=y:=e
  exact absurd (by rw [← e'];simp) (hy y List.mem_cons_self)
 | x::u::xs,y::v::ys,_,_,hx,hy,e=>by
  have e':x++c::cU c (u::xs)=y++c::cU c (v::ys):=e
  obtain ⟨e1,e2⟩:=vo (hx x Ω) (hy y Ω) e'
  rw [e1,oI (by simp) (by simp) (λz hz=>hx z (List.mem_cons_of_mem _ hz)) (λz hz=>hy z (List.mem_cons_of_mem _ hz)) e2]
theorem vW{z:Str}{c:Nat}{ps:List (List Nat)}(j:z.cps.toList=cU c ps)(h0:ps≠[])(l:∀p∈ps,c∉p):Txt.split z ⟨#[c]⟩=ps.map λp=>(⟨p.toArray⟩:Str):=by
 have d:=dQ c (Txt.split z ⟨#[c]⟩)
 rw [StrLaws.join_split,j] at d
 have f:(Txt.split z ⟨#[c]⟩).map (λy=>y.cps.toList)≠[]:=by
  intro e
  have:=split_pos z ⟨#[c]⟩
  rw [List.map_eq_nil_iff.mp e] at this
  exact absurd this ζ
 have g:=oI h0 f l (λy i=>by
  obtain ⟨p,b,rfl⟩:=ϑ.mp i
  exact StrLaws.split_free z c p b) d
 rw [g,List.map_map]
 have h:((λp:List Nat=>(⟨p.toArray⟩:Str))∘λy:Str=>y.cps.toList)=id:=by
  funext y
  obtain ⟨a⟩:=y
  simp
 rw [h,List.map_id]
end Km
namespace St
open PySem L2 Lo Km PySem.NumText
inductive Wd where
 | take | mean | sum | give | add | plus | need
 deriving DecidableEq
def wS:Wd->Str
 | .take=>"take" | .mean=>"mean" | .sum=>"sum" | .give=>"give" | .add=>"add" | .plus=>"plus" | .need=>"need"
def wN:Wd->Str
 | .take=>"TakeStep" | .mean=>"MeanStep" | .sum=>"SumStep" | .give=>"GiveStep" | .add=>"AddStep" | .plus=>"PlusStep" | .need=>"NeedStep"
def inN(i:Int):Prop:=0<=i/\i<10 ^ 40
def inV(i:Int):Prop:=i.natAbs<10 ^ 40
theorem inN.v{i:Int}(h:inN i):inV i:=by
 unfold inN at h
 unfold inV
 omega
def Ar:Wd->List Int->Prop
 | .take,[h,c]=>inN h/\inN c
 | .mean,[h,c]=>inN h/\inN c
 | .give,[h,c]=>inN h/\inN c
 | .sum,[h,a,b]=>inN h/\inN a/\inN b/\a<=b
 | .add,[h,c,v]=>inN h/\inN c/\inV v
 | .plus,[v]=>inV v
 | .need,[v]=>inV v
 | _,_=>False
theorem Ar.all{w:Wd}{d:List Int}(h:Ar w d):∀i∈d,inV i:=by
 unfold Ar at h
 split at h
 ·intro i b;simp only [List.mem_cons,List.mem_nil_iff,or_false] at b;rcases b with rfl | rfl<;>first | exact h.1.v | exact h.2.v
 ·intro i b;simp only [List.mem_cons,List.mem_nil_iff,or_false] at b;rcases b with rfl | rfl<;>first | exact h.1.v | exact h.2.v
 ·intro i b;simp only [List.mem_cons,List.mem_nil_iff,or_false] at b;rcases b with rfl | rfl<;>first | exact h.1.v | exact h.2.v
 ·intro i b;simp only [List.mem_cons,List.mem_nil_iff,or_false] at b;rcases b with rfl | rfl | rfl<;>first | exact h.1.v | exact h.2.1.v | exact h.2.2.1.v
 ·intro i b;simp only [List.mem_cons,List.mem_nil_iff,or_false] at b;rcases b with rfl | rfl | rfl<;>first | exact h.1.v | exact h.2.1.v | exact h.2.2
 ·intro i b;simp only [List.mem_cons,List.mem_nil_iff,or_false] at b;rcases b with rfl;exact h
 ·intro i b;simp only [List.mem_cons,List.mem_nil_iff,or_false] at b;rcases b with rfl;exact h
 ·exact h.elim
def iS(i:Int):Str:=Str.ofString (toString i)
theorem fM{i:Int}(h:inV i):(iS i).length<=41:=by
 have e:(iS i).length=(b9 i).length:=by
  unfold iS
  rw [← oV]
  simp [Str.length]
 rw [e]
 unfold b9
 have:=mZ (k:=40) ζ h
 split
 ·rw [List.length_cons];omega
 ·omega
theorem BD(i:Int):32∉b9 i:=by
 have d:∀m,32∉bY m:=λm b=>by
  have:=f6 m
  have h:=this 32 b
  omega
 unfold b9
 split
 ·intro b
  rcases ϕ.mp b with e | e
  ·cases e
  ·exact d _ e
 ·exact d _
def txt(w:Wd)(ns:List Int):Str:=Str.join (Str.ofString " ") (wS w::ns.map iS)
theorem Cd(w:Wd):32∉(wS w).cps.toList:=by cases w<;>decide +kernel
theorem vy(w:Wd):(wS w).length<=4:=by cases w<;>decide +kernel
theorem jE:(Str.ofString " ")=⟨#[32]⟩:=by decide +kernel
theorem jB(w:Wd)(b:List Int):Txt.split (txt w b) ⟨#[32]⟩=wS w::b.map iS:=by
 have e:=dQ 32 (wS w::b.map iS)
 have d:(txt w b).cps.toList=cU 32 ((wS w::b.map iS).map λy=>y.cps.toList):=by
  unfold txt
  rw [jE]
  exact e
 rw [vW d (by simp) (λp h=>?_)]
 ·rw [List.map_map]
  have f:((λp:List Nat=>(⟨p.toArray⟩:Str))∘λy:Str=>y.cps.toList)=id:=by
   funext y
   obtain ⟨a⟩:=y
   simp
  rw [f,List.map_id]
 ·obtain ⟨y,hy,rfl⟩:=ϑ.mp h
  rcases ϕ.mp hy with e | hy
  ·rw [e];exact Cd w
  ·obtain ⟨i,_,rfl⟩:=ϑ.mp hy
   have g:(iS i).cps.toList=b9 i:=oV i
   rw [g]
   exact BD i
theorem Ar.len{w:Wd}{b:List Int}(h:Ar w b):1<=b.length/\b.length<=3:=by
 unfold Ar at h
 split at h<;>first | exact h.elim | (constructor<;>simp)
theorem AU{ys:List Str}{k:Nat}(h:∀y∈ys,y.length<=k):(ys.map (·.length)).sum<=ys.length*k:=by
 induction ys with
 | nil=>simp
 | cons y ys ih =>
  have h1:=h y Ω
  have d:=ih λy b=>h y (Θ _ b)
  rw [List.map_cons,List.sum_cons,List.length_cons,Nat.succ_mul]
  omega
theorem vx{w:Wd}{ns:List Int}(h:Ar w ns):∀y∈wS w::ns.map iS,y.length<=41:=λy hy=>by
 rcases ϕ.mp hy with e | hy
 ·rw [e];exact Λ (vy w) ζ
 ·obtain ⟨i,hi,rfl⟩:=ϑ.mp hy
  exact fM (h.all i hi)
theorem uw{w:Wd}{b:List Int}(h:Ar w b):((wS w::b.map iS).map (·.length)).sum+(wS w::b.map iS).length*(Str.ofString " ").length<=1000:=by
 have h1:=AU (vx h)
 have f:=h.len
 have d:(Str.ofString " ").length=1:=by decide +kernel
 rw [d]
 have e:(wS w::b.map iS).length<=4:=by rw [List.length_cons,ν];omega
 have g:(wS w::b.map iS).length*41<=4*41:=Nat.mul_le_mul_right _ e
 omega
def mV:Wd->List Int->List (Str×V)
 | .take,[h,c]=>az "cell" (.int c) (az "where" (.int h) [])
 | .mean,[h,c]=>az "cell" (.int c) (az "where" (.int h) [])
 | .give,[h,c]=>az "cell" (.int c) (az "where" (.int h) [])
 | .sum,[h,a,b]=>az "high" (.int b) (az "low" (.int a) (az "where" (.int h) []))
 | .add,[h,c,v]=>az "amount" (.int v) (az "cell" (.int c) (az "where" (.int h) []))
 | .plus,[v]=>az "amount" (.int v) []
 | .need,[v]=>az "amount" (.int v) []
 | _,_=>[]
def StO(C:Wd->Addr)(H:Hp)(w:Wd)(ns:List Int)(v:V):Prop:=∃a dx,v=.ref a/\H a=some (.ins (C w) dx (mV w ns))
def jm:Wd->List Int->Option Lk
 | .take,[_,c]=>some (.read,c,c)
 | .mean,[_,c]=>some (.mean,c,c)
 | .give,[_,c]=>some (.change,c,c)
 | .sum,[_,a,b]=>some (.read,a,b)
 | .add,[_,c,_]=>some (.change,c,c)
 | _,_=>none
def orl(K:Frag)(H:Hp):Option Lk->V->Prop
 | none,v=>v=.non
 | some k,v=>∃a,v=.ref a/\H a=some (.tup [.str (kdS k.1),.int k.2.1,.int k.2.2])
end St
namespace L2
open PySem PySem.Spec PyProof.Rows
section
variable {X:Cx}{CX:CXT}{E:XK}{k:Nat}{C f:Addr}{fd:FuncData}{ps:List Str}{sp:Sp}{m:Str}{o e:Expr}{es:List Expr}{t:TA}{ty:TE}{pos apos cpos p:Pos}{mc:Value}
structure AD(K:Frag)(C:Addr)(m:Str)(f:Addr):Prop where
 ga:PySem.W.specialIn K (.ref C) "__getattribute__"=some (some (.builtin "type.__getattribute__"))
 rd:PySem.W.readsIn K C (.type "type")=true
 fc:PySem.W.findCls K (.ref C) (.type "type") m=some (.val (.ref f))
 hi:PySem.W.handedIn (.ref f)=true
 kp:PySem.W.keepIn K (.ref f)=true
theorem zb{pl:Sem Bool}(G:PE X o (tC (.ref C)))(c:AD X.K C m f)(F:FnOk X.prog X.w X.K X.mg X.base CX k f fd ps sp)(J:Room k X.A)(L:Binds X.K fd ps [])(O:c9 CX X E)(P:PA X (e::es) t)
  (g:starEach (e::es) X.env=(false,eval e X.env)::starEach es X.env:=by rfl)(i:(backTo pos (starEach es X.env)).any (·.1)=false:=by rfl)
  (U:eval (.Call (.Attribute o m apos) (e::es) [] pos) X.env=(do
   let ov ← eval o X.env
   standAt apos.atName
   let (f,first) ← holding [ov] (getMethod ov m pl)
   callWith pos f first (backTo pos (starEach (e::es) X.env)) (backToKw pos (keywordEach [] X.env))):=by rfl) :
  PE X (.Call (.Attribute o m apos) (e::es) [] pos) (vV sp [] E t):=by
 intro b s σ H Q I h
 refine PySem.W.methodCall_KW (pl:=pl) (thn (G b s σ H (λx H1=>x=.ref C/\t σ H1 λvs j=>sp (vs++[]) j Q E) I ⟨ϱ,h⟩) λu l ⟨x,H1,d,D,ex,q⟩=>?_) U
 subst ex
 obtain rfl:u=Value.ref C:=D
 refine PySem.W.method_cls d.kIn c.ga (PySem.W.cls_value d.kIn c.rd c.fc c.hi ?_)
 have z:Inv X b σ H1 {l with toks:=l.toks+1}:=d.tok _
 refine PySem.W.callWith_K (first:=[]) (h₀:=X.base) I.ok.mod.kin c.kp (thn (P pos b _ σ H1 _ z q) λus Y ⟨vs,j,y,r,q2⟩=>⟨y.kIn,?_⟩) g i
 exact pL (us:=us) (vs:=vs) F J L .nil O y r q2
theorem yX{a:Addr}{D:List (Str×KTD.Dat)}(J:PE X o (tC (.ref a)))(L:PE X e ty)(d:M1 X o "get" apos e cpos)(m:TabK X.K a D) :
  PE X (.Call (.Attribute o "get" apos) [e] [] cpos) (fun σ H Q=>ty σ H λy H1=>∃k z,y=.str k/\KTD.datumAt k D=some (.flat (.str z))/\Q (.str z) H1):=by
 intro b s σ H Q I h
 refine wpAny_Call_method d.base d.few d.line PySem.F.plainAttrs_dict PySem.F.slot_dict_get PySem.F.type_dict_get (thn (J b s σ H (λx H1=>x=.ref a/\ty σ H1 λy H1=>∃k z,y=.str k/\KTD.datumAt k D=some (.flat (.str z))/\Q (.str z) H1) I ⟨ϱ,h⟩) λu f ⟨x,H1,i,q,ex,q1⟩=>?_)
 subst ex
 obtain rfl:u=Value.ref a:=q
 have g:KTD.Here f.heap f.heap a D:=⟨m.at i.kIn,λ_ _ e=>e⟩
 refine ⟨g.typeIs,g.noDict,?_⟩
 rw [d.trees]
 refine Calls.callWith_builtin rfl (Calls.evalArgs_plain (Calls.spliced_cons (thn (L b f σ H1 _ i q1) λP r ⟨y,w,j,C,k,z,G,l,q2⟩=>Calls.spliced_nil ?_)))
 subst G
 obtain ⟨O,rfl⟩:=C
 refine KTD.get1_textL (h₀:=r.heap) ⟨m.at j.kIn,λ_ _ e=>e⟩ ?_ (pV l (KTD.opened_str λU=>⟨.str z,w,j.tok _,⟨_,ϱ⟩,q2⟩))
 rw [← KTD.isSome_datumAt,l]
 rfl
theorem so:MtR X "str.lstrip" (λx vs H Q=>∃z y,x=.str z/\vs=[.str y]/\z.length<=sizeLine/\Q (.str (Txt.lstripChars z y)) H):=by
 intro b s σ H x i v j Q I e r h
 obtain ⟨z,y,rfl,rfl,d,q⟩:=h
 obtain ⟨t,rfl⟩:=e
 obtain ⟨u,rfl,⟨f,rfl⟩⟩:=dm r
 exact SC.lstripChars (λg k=>⟨.str _,H,I.tok _,⟨_,ϱ⟩,q⟩) d
theorem Bg{d:TE}(h:PE X.nox e d):PEX X e (fun σ H Q _=>d σ H Q):=by
 intro b s σ H Q E I q
 exact nox (h b s σ H _ (I.wish _) q) λv g ⟨x,H1,f,r,q1⟩=>⟨x,H1,f.unwish,r,q1⟩
end
end L2
namespace St
open PySem L2 Lo Km PySem.NumText
structure TxW(K:Frag)(CW:Wd->Addr):Prop where
 cl:∀w,Cls K (CW w)
 nW:∀w,NoAttr K (CW w) "where"
 nC:∀w,NoAttr K (CW w) "cell"
 nL:∀w,NoAttr K (CW w) "low"
 nH:∀w,NoAttr K (CW w) "high"
 nA:∀w,NoAttr K (CW w) "amount"
def isC:Wd->Bool
 | .take=>true | .mean=>true | .give=>true | _=>false
theorem bF{f:Str}{v:V}{fs:List (Str×V)}:(az f v fs).lookup f=some v:=by rw [al,if_pos rfl]
theorem aP{f g:Str}{v:V}{fs:List (Str×V)}(h:¬g=f):(az f v fs).lookup g=fs.lookup g:=by rw [al,if_neg h]
section
variable (CW:Wd->Addr)
inductive gc (w:Wd) (vs:List V) (H:Hp) (Q:VK) (E:XK):Prop|mk a dx ns:vs=.ref a::(ns:List Int).map V.int->Ar w ns->H a=some (.ins (CW w) dx [])->(∀H',H' a=some (.ins (CW w) dx (mV w ns))->Kp a H H'->Q .non H')->gc w vs H Q E
inductive lE (vs:List V) (H:Hp) (Q:VK) (E:XK):Prop|mk a dx w h c:vs=[.ref a,.int h,.int c]->H a=some (.ins (CW w) dx [])->(∀H',H' a=some (.ins (CW w) dx (az "cell" (.int c) (az "where" (.int h) [])))->Kp a H H'->Q .non H')->lE vs H Q E
inductive df (K:Frag) (w:Wd) (vs:List V) (H:Hp) (Q:VK) (E:XK):Prop|mk v ns:vs=[v]->Ar w ns->StO CW H w ns v->(∀u H',Same H H'->orl K H' (jm w ns) u->Q u H')->df K w vs H Q E
end
theorem xE{i:Int}(h:inV i):i.natAbs.log2<1920:=by
 by_cases h0:i.natAbs=0
 ·rw [h0];decide
 ·exact (Nat.log2_lt h0).mpr (Nat.lt_trans h θ)
theorem Ar.c{w:Wd}{d:List Int}(hw:isC w=true)(h:Ar w d):∃a b,d=[a,b]/\inN a/\inN b/\mV w d=az "cell" (.int b) (az "where" (.int a) []):=by
 cases w<;>first | cases hw | skip
 all_goals
  match d,h with
  | [a,b],h=>exact ⟨a,b,rfl,h.1,h.2,rfl⟩
theorem Ar.s{d:List Int}(h:Ar .sum d):∃a b c,d=[a,b,c]/\inN a/\inN b/\inN c/\b<=c:=by
 match d,h with
 | [a,b,c],h=>exact ⟨a,b,c,rfl,h⟩
theorem Ar.a{d:List Int}(h:Ar .add d):∃a b c,d=[a,b,c]/\inN a/\inN b/\inV c:=by
 match d,h with
 | [a,b,c],h=>exact ⟨a,b,c,rfl,h⟩
theorem Ar.p{b:List Int}(h:Ar .plus b):∃a,b=[a]/\inV a:=by
 match b,h with
 | [a],h=>exact ⟨a,rfl,h⟩
theorem Ar.n{b:List Int}(h:Ar .need b):∃a,b=[a]/\inV a:=by
 match b,h with
 | [a],h=>exact ⟨a,rfl,h⟩
open PySem.Spec PyProof.Rows
theorem at0{x:V}{xs:List V}:atI (x::xs) 0=some x:=aW (j:=0) rfl
theorem at1{x y:V}{xs:List V}:atI (x::y::xs) 1=some y:=aW (j:=1) rfl
theorem at2{x y z:V}{xs:List V}:atI (x::y::z::xs) 2=some z:=aW (j:=2) rfl
theorem AF{a b:Wd}(h:wS a=wS b):a=b:=by
 cases a<;>cases b<;>first | rfl | exact absurd h θ
theorem fe{a b:Wd}(c:decide (V.str (wS a)=V.str (wS b))=true):a=b:=AF (V.str.inj (Ξ c))
theorem cA{a b:Wd}(c:¬decide (V.str (wS a)=V.str (wS b))=true):a≠b:=λe=>c (by rw [e];exact τ rfl)
theorem AE{a:Wd}(h1:a≠.take)(b:a≠.mean)(d:a≠.sum)(e:a≠.give)(f:a≠.add)(g:a≠.plus):a=.need:=by
 cases a<;>first | rfl | contradiction
def shp:Wd->Str
 | .take=>"HC" | .mean=>"HC" | .sum=>"HAB" | .give=>"HC" | .add=>"HCV" | .plus=>"V" | .need=>"V"
def lG:List (Str×PyProof.Rows.KTD.Dat):=[("take",.flat (.str "HC")),("mean",.flat (.str "HC")),("sum",.flat (.str "HAB")),("give",.flat (.str "HC")),("add",.flat (.str "HCV")),("plus",.flat (.str "V")),("need",.flat (.str "V"))]
theorem we(w:Wd):PyProof.Rows.KTD.datumAt (wS w) lG=some (.flat (.str (shp w))):=by
 cases w<;>kernel_rfl
theorem yK{w:Wd}{b:List Int}(h:Ar w b):(shp w).length=b.length:=by
 unfold Ar at h
 split at h<;>first | exact h.elim | kernel_rfl
theorem md(w:Wd):(shp w).length<=sizeLine:=by cases w<;>decide +kernel
theorem eT{i:Int}{p:Prop}(h:inN i):i<0->p:=λz=>absurd z (by unfold inN at h;omega)
theorem A2{w:Wd}{d:List Int}{k:Nat}{i:Int}(h:Ar w d)(b:d[k]?=some i):∃c,(shp w).cps.toList[k]?=some c/\(i<0->c=86):=by
 unfold Ar at h
 split at h
 ·rcases k with _ | _ | k
  ·cases b;exact ⟨72,θ,eT h.1⟩
  ·cases b;exact ⟨67,θ,eT h.2⟩
  ·simp at b
 ·rcases k with _ | _ | k
  ·cases b;exact ⟨72,θ,eT h.1⟩
  ·cases b;exact ⟨67,θ,eT h.2⟩
  ·simp at b
 ·rcases k with _ | _ | k
  ·cases b;exact ⟨72,θ,eT h.1⟩
  ·cases b;exact ⟨67,θ,eT h.2⟩
  ·simp at b
 ·rcases k with _ | _ | _ | k
  ·cases b;exact ⟨72,θ,eT h.1⟩
  ·cases b;exact ⟨65,θ,eT h.2.1⟩
  ·cases b;exact ⟨66,θ,eT h.2.2.1⟩
  ·simp at b
 ·rcases k with _ | _ | _ | k
  ·cases b;exact ⟨72,θ,eT h.1⟩
  ·cases b;exact ⟨67,θ,eT h.2.1⟩
  ·cases b;exact ⟨86,θ,λ_=>rfl⟩
  ·simp at b
 ·rcases k with _ | k
  ·cases b;exact ⟨86,θ,λ_=>rfl⟩
  ·simp at b
 ·rcases k with _ | k
  ·cases b;exact ⟨86,θ,λ_=>rfl⟩
  ·simp at b
 ·exact h.elim
theorem qP(i:Int):(iS i).cps.toList=b9 i:=oV i
theorem BC{i:Int}{c:Nat}(h:c∈b9 i):c=45\/(48<=c/\c<=57):=by
 have b:∀m,c∈bY m->48<=c/\c<=57:=λm d=>f6 m c d
 unfold b9 at h
 split at h
 ·rcases ϕ.mp h with e | e
  ·exact .inl e
  ·exact .inr (b _ e)
 ·exact .inr (b _ h)
theorem sC{i:Int}(h:inV i):(Txt.lstripChars (iS i) (Str.ofString "-")).length<=40:=by
 have e:(Str.ofString "-")=⟨#[45]⟩:=by decide +kernel
 have b:=mZ (k:=40) ζ h
 have f:(iS i).cps.size=(b9 i).length:=by rw [← qP];simp
 rw [e]
 unfold Txt.lstripChars
 rw [stripBy_eq]
 generalize hL:stripLo ((⟨#[45]⟩:Str).cps.contains) true (iS i)=lo
 show ((iS i).cps.extract lo (iS i).length).size<=40
 rw [Array.size_extract]
 by_cases hi:i<0
 ·have h1:1<=lo:=by
   rw [← hL]
   show 1<=((iS i).cps.toList.takeWhile (λc=>(⟨#[45]⟩:Str).cps.contains c)).length
   rw [qP]
   unfold b9
   rw [if_pos hi,List.takeWhile_cons,if_pos θ]
   simp
  have d:(b9 i).length<=41:=by
   unfold b9
   rw [if_pos hi,List.length_cons]
   omega
  omega
 ·have d:(b9 i).length<=40:=by
   unfold b9
   rw [if_neg hi]
   exact b
  omega
theorem zU{i:Int}(h:inV i):(iS i).length<=100000:=Λ (fM h) ζ
theorem oH(c:Nat):∀ls:List (List Nat),(cU c ls).length<=(ls.map (·.length)).sum+ls.length
 | []=>ϖ _
 | [x]=>by simp [cU]
 | x::y::r=>by
  have h:=oH c (y::r)
  show (x++c::cU c (y::r)).length<=_
  rw [List.length_append,List.length_cons,List.map_cons,List.sum_cons,List.length_cons (a:=x)]
  omega
theorem oQ{b:Wd}{d:List Int}(h:Ar b d):(txt b d).length<=1000000:=by
 have e:(txt b d).cps.toList=cU 32 ((wS b::d.map iS).map λy=>y.cps.toList):=by
  unfold txt
  rw [jE]
  exact dQ 32 _
 have f:(txt b d).length=(txt b d).cps.toList.length:=by simp [Str.length]
 have h1:=oH 32 ((wS b::d.map iS).map λy=>y.cps.toList)
 have g:=uw h
 have i:((wS b::d.map iS).map λy=>y.cps.toList).map (·.length)=(wS b::d.map iS).map (·.length):=by
  rw [List.map_map]
  refine List.map_congr_left λy _=>?_
  simp [Str.length]
 have j:(Str.ofString " ").length=1:=by decide +kernel
 rw [i,ν] at h1
 rw [j,Nat.mul_one] at g
 rw [f,e]
 omega
theorem ug{m:Str}(h1:¬m="where")(b:¬m="cell")(d:¬m="low")(e:¬m="high")(f:¬m="amount")(w:Wd)(g:List Int):(mV w g).lookup m=none:=by
 unfold mV
 split<;>simp only [aP h1,aP b,aP d,aP e,aP f,List.lookup_nil]
theorem mJ{H H':Hp}{x dx:Addr}{o1 o2:HO}(nx:H x=none)(nd:H dx=none)(k:Kp x (upd (upd H dx o1) x o2) H'):Same H H':=λb o e=>by
 have hx:b≠x:=λz=>by rw [z,nx] at e;cases e
 have hd:b≠dx:=λz=>by rw [z,nd] at e;cases e
 exact k b o hx (by rw [ao hx,ao hd];exact e)
structure WI(P:Program)(w:World)(K:Frag)(mg:Str->Option Value)(base:Heap)(CW:Wd->Addr)(wd:Wd) where
 fI:Addr
 dI:FuncData
 ps:List Str
 M:Mk K (CW wd) fI
 ok:FnOk P w K mg base CX0 2 fI dI ps (gc CW wd)
 b:Binds K dI ps []
 m:mg (wN wd)=some (.ref (CW wd))
section
variable (CW:Wd->Addr)
inductive rO (vs:List V) (H:Hp) (Q:VK) (E:XK):Prop|mk wd q ns:vs=[.str (wS wd),.ref q]->H q=some (.lst ((ns:List Int).map V.int))->Ar wd ns->(∀v H',Same H H'->StO CW H' wd ns v->Q v H')->rO vs H Q E
inductive rP (vs:List V) (H:Hp) (Q:VK) (E:XK):Prop|mk x y z:vs=[.int x,.int y,.int z]->Ar .sum [x,y,z]->(∀v H',Same H H'->StO CW H' .sum [x,y,z] v->Q v H')->rP vs H Q E
inductive i4 (vs:List V) (H:Hp) (Q:VK) (E:XK):Prop|mk wd ns:vs=[.str (txt wd ns)]->Ar wd ns->(∀v H',Same H H'->StO CW H' wd ns v->Q v H')->i4 vs H Q E
end
inductive rL (vs:List V) (H:Hp) (Q:VK) (E:XK):Prop|mk i c:vs=[.str (iS i),.str ⟨#[c]⟩]->inV i->((i<0->c=86))->(∀H',Same H H'->Q (.int i) H')->rL vs H Q E
end St
namespace L2
open PySem PySem.Spec PyProof.Rows PySem.W
open Lo
def Ab(h:Heap)(x:Int×Int)(v:Value):Prop:=∃a t1 t2,v=.ref a/\h.IsTuple a #[.int x.1 t1,.int x.2 t2]
def ltP(x y:Int×Int):Bool:=if x.1=y.1 then (if x.2=y.2 then false else decide (x.2<y.2)) else decide (x.1<y.1)
section
variable {prog:Program}{w:World}{A:Around}{E:Value->Shared->Prop}{s:Shared}
theorem Da{x y:Int×Int}{u v:Value}{Q:Bool->Shared->Prop}(h1:Ab s.heap x u)(l:Ab s.heap y v)(q:Q (ltP x y) s):wpAny (model prog w) A (keyLt' (tuples' true) u v) Q E s:=by
 obtain ⟨a,b,d,rfl,e⟩:=h1
 obtain ⟨c,u1,f,rfl,q1⟩:=l
 obtain ⟨m,g,_,o,h⟩:=id e
 obtain ⟨r,i,_,z,j⟩:=id q1
 refine kat_lt g h i j (kat_cons (SeqAt.EqAt.int_int _ b _ u1 _ _ _ _ ?_))
 unfold ltP at q
 by_cases en:x.1=y.1
 ·rw [if_pos en] at q
  rw [show (x.1==y.1)=true from beq_iff_eq.mpr en]
  refine kat_yes (kat_cons (SeqAt.EqAt.int_int _ d _ f _ _ _ _ ?_))
  by_cases es:x.2=y.2
  ·rw [if_pos es] at q
   rw [show (x.2==y.2)=true from beq_iff_eq.mpr es]
   exact kat_yes (kat_nil q)
  ·rw [if_neg es] at q
   rw [show (x.2==y.2)=false from beq_eq_false_iff_ne.mpr es]
   exact kat_no (kat_one _ _ (lt_int q))
 ·rw [if_neg en] at q
  rw [show (x.1==y.1)=false from beq_eq_false_iff_ne.mpr en]
  exact kat_no (kat_lt_int q)
end
theorem Bb{P:Program}{w:World}{K:Frag}{H:Hp}{h:Heap}{x:Int×Int}{v:V}{u:Value}(ok:HOk P w H h)(q:sPa K H x v)(r:RelV v u):Ab h x u:=by
 obtain ⟨a,rfl,h1⟩:=q
 cases (show u=Value.ref a from r)
 obtain ⟨_,b,d,p⟩:=(show ObjOk P w H h a (.tup [.int x.1,.int x.2]) from ok a _ h1)
 obtain ⟨g,i,rfl,⟨e,rfl⟩,⟨f,rfl⟩⟩:=sT d
 exact ⟨a,e,f,ϱ,p⟩
section
variable {prog:Program}{w:World}{A:Around}{E:Value->Shared->Prop}{s:Shared}{h₀:Heap}{L:Addr}{m:Str->Option Value}{news:List (Addr×Obj)}
def Dt(T:Value)(h:Heap)(v:Value):Prop:=∃f,KatTups h [v] [f]/\∀M:Model,Looks M h (typeOf f) T
theorem vN{T:Value}{α:Type}{At:Heap->α->Value->Prop}{h:Heap}(tp:∀{x v},At h x v->Dt T h v):∀{es:List α} {vs:List Value},Paired (At h) es vs->∃fs,KatTups h vs fs/\fs.length=vs.length/\∀v∈fs,∀M:Model,Looks M h (typeOf v) T
 | _,_,.nil=>⟨[],KatTups.nil,rfl,λ_ hv=>nomatch hv⟩
 | _,_,.cons r t=>by
  obtain ⟨fs,k,l,ty⟩:=vN tp t
  obtain ⟨f,k1,y1⟩:=tp r
  refine ⟨f::fs,⟨k1.1,k⟩,congrArg (·+1) l,λv hv M=>?_⟩
  rcases ϕ.mp hv with z | hv
  ·subst z
   exact y1 M
  ·exact ty v hv M
structure Srt(prog:Program)(w:World){α:Type}(At:Heap->α->Value->Prop)(lt:α->α->Bool)(T:Value):Prop where
 rf:(T==T)=true
 tp:∀{h:Heap} {x v},At h x v->Dt T h v
 cm:∀{A:Around} {E:Value->Shared->Prop} {s:Shared} {x y u v} {C:Bool->Shared->Prop},A.units+1<cLine->At s.heap x u->At s.heap y v->C (lt x y) s->wpAny (model prog w) A (keyLt' (tuples' (T != Value.type "tuple")) u v) C E s
theorem xO{α:Type} [Inhabited α]{f:Heap->α->Value->Prop}{lt:α->α->Bool}{T:Value}(S:Srt prog w f lt T){es:List α}{vs:List Value}{a n:Nat}{P:PySem.Fin->Shared->Prop}(Q:A.units+1<cLine)(F:Fr h₀ L s.heap m)(N:News h₀ L s.heap news)(U:s.heap.get? a=some (seqObj "list" vs.toArray n))(g:a≠L)(h:h₀.get? a=none)(d:∀p∈news,p.1≠a)
  (X:∀h',(∀b o,(b,o)∈news->h'.get? b=some o)->Paired (f h') es vs)(e:2<=vs.length)(l:vs.length<64)
  (q:∀h' c,Fr h₀ L h' m->News h₀ L h' ((a,PySem.W.listOf (List.toArray ((nY (λi j=>lt (es.getD i default) (es.getD j default)) (kas_sort es.length)).toList.map λi=>vs.getD i Value.none)) c)::news)->P (.done (.ret .none)) {s with heap:=h'}) :
  wpAny (model prog w) A (Builtin.«list.sort» ⟨[.ref a], []⟩) P E s := by
 refine kat_list_sort F N U g h d e l λY h' z r=>?_
 have en:Paired (f h') es vs:=X h' λb o D=>(r (b,o) (Θ _ D)).1
 have y:=en.len
 obtain ⟨fs,u,lf,x⟩:=vN S.tp en
 refine kat_kind (s:={s with heap:=h'}) u ω (λv G=>x v G _) S.rf ?_
 rw [← y]
 refine KAll.wp (lt:=λi j=>lt (es.getD i default) (es.getD j default)) (λi j C H I J=>?_) (rj ω) λZ=>?_
 ·exact S.cm (s:={s with heap:=h'}) Q (pP en H default Value.none) (pP en I default Value.none) J
 ·exact KasFin.intro (s:={s with heap:=h'}) z r (.head d) λe c K O=>q e c K O
end
section
variable {X:Cx}{pins:List (Addr×Obj)}{σ:St}{H:Hp}{s:Shared}
theorem l4{α:Type} [Inhabited α]{At:Heap->α->Value->Prop}{lt:α->α->Bool}{T:Value}(S:Srt X.prog X.w At lt T){vs:List Value}{us:List V}{es:List α}{Q:VK}{E:Value->Shared->Prop}{R:α->V->Prop}(hu:X.A.units+4<cLine)(I:Inv X pins σ H s)(K:Vals us vs)(pe:Paired R es us)
  (ra:∀{h x v u},HOk X.prog X.w H h->R x v->RelV v u->At h x u)(br:us.length<64)
  (q:∀l ys,H l=none->Paired R (bO lt es) ys->Q (.ref l) (upd H l (.lst ys))) :
  wpAny (model X.prog X.w) X.A.in1 (newList vs >>= λl=>holding [l] (call (.builtin "list.sort") [l] []) >>= λ_=>ret l) (λfin s'=>∃v,fin=.done (.ret v)/\EP X pins σ Q v s') E s:=by
 have ar:us.length=vs.length:=K.length
 have L:es.length=us.length:=pe.len
 have zl:vs.length<=sizeLine:=by rw [sizeLine_eq];omega
 refine ε (wpAny_newList ?_ zl)
 obtain ⟨m,hn,_⟩:=id I.loc
 have N:News (Att.fD s.heap) X.env.locals s.heap (Att.gE s.heap X.env.locals X.env.locals):=λ⟨c,o⟩ Y=>by
  obtain ⟨g,_,e⟩:=Att.mem_ledger.mp Y
  exact ⟨e,g,Att.eR _ _⟩
 have G:∀c o,c≠X.env.locals->s.heap.get? c=some o->(c,o)∈Att.gE s.heap X.env.locals X.env.locals:=λc o g e=>Att.mem_ledger.mpr ⟨g,g,e⟩
 have up:∀b o,s.heap.get? b=some o->(s.heap.push (seqObj "list" vs.toArray 0)).get? b=some o:=λb o e=>ρ _ e
 have F1:Fr (Att.fD s.heap) X.env.locals (s.heap.push (seqObj "list" vs.toArray 0)) m:=(Att.xP hn).kept up
 have N1:News (Att.fD s.heap) X.env.locals (s.heap.push (seqObj "list" vs.toArray 0)) (Att.gE s.heap X.env.locals X.env.locals):=N.grown up
 have O:(s.heap.push (seqObj "list" vs.toArray 0)).get? s.heap.objs.size=some (seqObj "list" vs.toArray 0):=ψ _ rfl
 have nL:s.heap.objs.size≠X.env.locals:=Nat.ne_of_gt I.lt
 have na:∀p∈Att.gE s.heap X.env.locals X.env.locals,p.1≠s.heap.objs.size:=λp Y=>Φ (η (N p Y).1)
 have f:H s.heap.objs.size=none:=I.hok.fresh (ι _)
 have fin:∀(out:List Value) (ys:List V),Vals ys out->ys.length<=sizeLine->Q (.ref s.heap.objs.size) (upd H s.heap.objs.size (.lst ys))->∀h' c,Fr (Att.fD s.heap) X.env.locals h' m ->
   News (Att.fD s.heap) X.env.locals h' ((s.heap.objs.size,PySem.W.listOf (List.toArray out) c)::Att.gE s.heap X.env.locals X.env.locals)->EP X pins σ Q (.ref s.heap.objs.size) {s with heap:=h'}:=λout ys ro hz hQ h' c y C=>by
  have keep:∀b o,b≠X.env.locals->s.heap.get? b=some o->h'.get? b=some o:=λb o g e=>(C (b,o) (Θ _ (G b o g e))).1
  have eD:h'.get? s.heap.objs.size=some (PySem.W.listOf (List.toArray out) c):=(C _ Ω).1
  refine ⟨.ref s.heap.objs.size,upd H s.heap.objs.size (.lst ys),?_,ϱ,hQ⟩
  have fresh:∀b o,s.heap.get? b=some o->b≠s.heap.objs.size:=λb o e=>Φ (η e)
  show Inv X pins σ (upd H s.heap.objs.size (.lst ys)) {s with heap:=h'}
  refine I.step (h':=h') (g':=s.gens) (d':=s.drawn) (t':=s.toks) (ch:=[]) (λ_ z=>nomatch z) (λb o g _ _ e _=>keep b o g e) (λb o g _ _ e _=>⟨o.slots,keep b o g e⟩) (λb o _ e n=>by rw [ao (fresh b o e)];exact n)
   (λb o _ e=>?_) (λb xs e=>by rw [ao (ap e f)];exact e) (λb o u e=>by rw [ao (ap e f)];exact e) (λb ps e=>⟨#[],by rw [ao (ap e f),e];simp⟩) (λm' Z=>?_) (λb o e=>?_) I.bare
  ·by_cases hb:b=X.env.locals
   ·obtain ⟨o',_,_,e',_⟩:=y.ns
    exact ⟨o',hb▸e'⟩
   ·exact ⟨o,keep b o hb e⟩
  ·have e:m'=m:=funext λJ=>Z.agree hn J
   rw [e]
   exact y.ns
  ·by_cases hb:b=s.heap.objs.size
   ·subst hb
    rw [ae] at e
    cases e
    exact ⟨hz,out,c,ro,eD⟩
   ·rw [ao hb] at e
    have r:b≠X.env.locals:=λz=>by rw [z,I.free] at e;cases e
    refine (I.hok b o e).stay (λd v hd q=>keep d v (λz=>?_) q) (λd q=>by rw [ao (ap q f)];exact q) λd xs q=>by rw [ao (ap q f)];exact q
    rcases hd with hd | hd
    ·exact r (hd.symm.trans z)
    ·rw [z,I.free] at hd;cases hd
 refine ε (wpAny_holding (wpAny_call_entry slot_list_sort ⟨_,O,ϱ⟩ entry_list_sort ?body (args_list_sort _)))
 case body =>
  by_cases h2:vs.length<2
  ·refine xR (s:={s with heap:=s.heap.push (seqObj "list" vs.toArray 0)}) F1 N1 O nL (Att.eR _ _) na h2 λh' c y C=>⟨_,ϱ,π ⟨_,ϱ,fin vs us K ω (q _ us f ?_) h' c y C⟩⟩
   have P:bO lt es=es:=by
    match es,(by omega:es.length<2) with
    | [],_=>unfold bO;show List.map _ (nY _ (kas_sort 0)).toList=_;rw [show kas_sort 0=.ret #[] from rfl];rfl
    | [x],_=>unfold bO;show List.map _ (nY _ (kas_sort 1)).toList=_;rw [show kas_sort 1=.ret #[0] from rfl];rfl
   rw [P]
   exact pe
  ·have h0:0<es.length:=by omega
   obtain ⟨j,D⟩:=sY lt es h0
   refine xO S (s:={s with heap:=s.heap.push (seqObj "list" vs.toArray 0)}) (es:=es) (by show X.A.units+1+1+1<cLine;omega) F1 N1 O nL (Att.eR _ _) na (λh' hk=>?_) ω ω λh' c y C=>⟨_,ϱ,π ⟨_,ϱ,fin _ _ (uz K _ (λi hi=>by rw [← L];exact D i hi)) ?_ (q _ _ f ?_) h' c y C⟩⟩
   ·have U:HOk X.prog X.w H h':=λb o e=>by
     have r:b≠X.env.locals:=λz=>by rw [z,I.free] at e;cases e
     refine (I.hok b o e).stay (λd v hd q=>hk d v (G d v (λz=>?_) q)) (λ_ q=>q) λ_ _ q=>q
     rcases hd with hd | hd
     ·exact r (hd.symm.trans z)
     ·rw [z,I.free] at hd;cases hd
    exact eK ω λi x u ex eu=>by
     obtain ⟨v,ev,r1⟩:=pe.get1 ex
     obtain ⟨u',F,r2⟩:=K.get1 ev
     rw [eu] at F
     cases F
     exact ra U r1 r2
   ·rw [ν]
    unfold bO at j
    rw [ν] at j
    rw [j,sizeLine_eq]
    omega
   ·exact pO pe _ _ D
end
theorem AV{prog:Program}{w:World}:Srt prog w Ab ltP (.type "int") :=
 ⟨ϱ,λ⟨a,t1,t2,e,⟨o,g,c,n,d⟩⟩=>by subst e;exact ⟨_,KatTups.cons g c d rfl KatTups.nil,λ_=>.now⟩,λ_ h1 h2 q=>Da h1 h2 q⟩
theorem sZ{prog:Program}{w:World}:Srt prog w uu ltE (.type "tuple") :=
 ⟨ϱ,λ⟨a,b,t1,t2,t3,e,⟨o,g,c,n,d⟩,⟨o',g',c',_⟩⟩=>by subst e;exact ⟨_,KatTups.cons g c d rfl KatTups.nil,λM=>by rw [← c'];exact (Looks.ld g').andThen .now⟩,λhu h1 h2 q=>BY hu h1 h2 q⟩
def DEn(h:Heap)(d:Addr)(ks:List (V×V)):Prop:=∃es ep,RawD h d es ep/\es.size=ks.length/\∀(i:Nat) (kv:V×V),ks[i]?=some kv->∃e,es[i]?=some e/\RelV kv.1 e.key/\RelV kv.2 e.val
theorem jv{X:Cx}{α:Type} [Inhabited α]{P:Heap->α->Value->Prop}{lt:α->α->Bool}{T:Value}{R:Hp->α->V->Prop}(S:Srt X.prog X.w P lt T)(rk:∀{H H' x v},TSame H H'->R H x v->R H' x v)
  (ra:∀{H h x v u},HOk X.prog X.w H h->R H x v->RelV v u->P h x u)(hc:X.calm=true)(hu:X.A.units+4<cLine):cV X (.builtin "sorted") (λxs H Q=>∃v d es,xs=[.ref v]/\H v=some (Vw v d) /\
  (∀h,HOk X.prog X.w H h->∃ks,DEn h d ks/\Paired (λx kv=>∀H' a,Same H H'->H' a=some (.tup [kv.1,kv.2])->R H' x (.ref a)) es ks)/\es.length<64 /\
  ∀H' l ys,Same H H'->H' l=none->Paired (R (upd H' l (.lst ys))) (bO lt es) ys->Q (.ref l) (upd H' l (.lst ys))):=by
 intro D s σ H xs us Q I r h
 obtain ⟨v,d,es,rfl,U,W,Y,q⟩:=h
 obtain ⟨u,rfl,Z⟩:=dm r
 cases (show u=Value.ref v from Z)
 obtain ⟨hw,_⟩:=(show ObjOk X.prog X.w H s.heap v (Vw v d) from I.hok v _ U)
 obtain ⟨ks,⟨en,ep,rd,ln,ge⟩,pk⟩:=W _ I.hok
 have l0:=pk.len
 refine Calls.call_function_entry kind_sorted plain_sorted entry_sorted (args_sorted1 _) ?_
 unfold Builtin.«sorted»
 refine ε (m:=checkCount "sorted" 1 1 _) (π (ε (sG (A:=X.A.in1) (I.ok.hd hc) hw rd (by rw [ln,sizeLine_eq];omega) λh' tk f k' la tu ab nd=>?_)))
 let ts:List (Addr×List V):=(f.zip ks).map λt=>(t.1,[t.2.1,t.2.2])
 have o:ts.map (·.1)=f:=by
  show ((f.zip ks).map λt=>(t.1,([t.2.1,t.2.2]:List V))).map (·.1)=f
  rw [List.map_map]
  show (f.zip ks).map Prod.fst=f
  rw [List.map_fst_zip]
  omega
 have new:∀p∈ts,s.heap.objs.size<=p.1:=λp C=>ab p.1 (by rw [← o];exact ϑ.mpr ⟨p,C,ϱ⟩)
 have I1:Inv X D σ (kM H ts) {s with heap:=h',toks:=tk}:=De I k' new λp C=>by
  obtain ⟨t,ht,rfl⟩:=ϑ.mp C
  obtain ⟨i,G⟩:=List.getElem?_of_mem ht
  rw [List.getElem?_zip_eq_some] at G
  obtain ⟨e,ee,eh⟩:=tu i t.1 G.1
  obtain ⟨e2,F,J,K⟩:=ge i t.2 G.2
  rw [ee] at F
  cases F
  exact ⟨by show 2<=sizeLine;decide,[e.key,e.val],.cons J (.cons K .nil),_,eh,ϱ,_,ϱ⟩
 have same:Same H (kM H ts):=λb ob e=>by
  obtain ⟨a7,e'⟩:=(I.hok b ob e).there
  rw [sV λp C z=>by subst z;exact Nat.not_le_of_gt (η e') (new p C)]
  exact e
 have pe:Paired (R (kM H ts)) es (f.map V.ref):=eK (by rw [ν];omega) λi x y ex j=>by
  rw [List.getElem?_map] at j
  obtain ⟨a,L,rfl⟩:=Option.map_eq_some_iff.mp j
  obtain ⟨kv,F,g⟩:=pk.get1 ex
  exact g _ _ same (yz (by rw [o];exact nd) (p:=(a,[kv.1,kv.2])) (ϑ.mpr ⟨(a,kv),List.mem_of_getElem? (i:=i) (by rw [List.getElem?_zip_eq_some];exact ⟨L,F⟩),ϱ⟩))
 have rv:Vals (f.map V.ref) (f.map Value.ref):=eK (by rw [ν,ν]) λi x y ex j=>by
  rw [List.getElem?_map] at ex j
  obtain ⟨a,L,rfl⟩:=Option.map_eq_some_iff.mp ex
  rw [L] at j
  cases j
  rfl
 exact l4 S hu I1 rv pe (λok J K=>ra ok J K) (by rw [ν];omega) λl ys O py=>q _ l ys same O (Paired.mapP py λ_ _ z=>rk (ah O).ts z)
theorem pY{X:Cx}{α:Type} [Inhabited α]{j:Heap->α->Value->Prop}{lt:α->α->Bool}{T:Value}{R:Hp->α->V->Prop}(S:Srt X.prog X.w j lt T)(O:∀{H H' x v},TSame H H'->R H x v->R H' x v)
  (P:∀{H h x v u},HOk X.prog X.w H h->R H x v->RelV v u->j h x u)(U:X.A.units+4<cLine):cV X (.builtin "sorted") (λxs H Q=>∃p us es,xs=[.ref p]/\SqL X.K H p us/\Paired (R H) es us/\es.length<64 /\
  ∀l ys,H l=none->Paired (R (upd H l (.lst ys))) (bO lt es) ys->Q (.ref l) (upd H l (.lst ys))):=by
 intro i s σ H xs us Q I r h
 obtain ⟨p,W,es,rfl,y,pe,C,q⟩:=h
 obtain ⟨u,rfl,D⟩:=dm r
 cases (show u=Value.ref p from D)
 obtain ⟨d,f,F,Y⟩:=I.list y
 have l1:=f.length
 have Z:=pe.len
 refine Calls.call_function_entry kind_sorted plain_sorted entry_sorted (args_sorted1 _) ?_
 unfold Builtin.«sorted»
 refine ε (m:=checkCount "sorted" 1 1 _) (π (ε (collect_list F.isList ?_ (by rw [sizeLine_eq];omega))))
 refine l4 S U (I.kept (t':=s.toks) (h':=(s.heap.push (seqObj "list" #[] 0)).update s.heap.objs.size (Obj.mapSeq (·++d.toArray))) λb o e=>?_) f pe (λok G J=>P ok G J) ω λl ys g L=>q l ys g (Paired.mapP L λ_ _ z=>O (ah g).ts z)
 exact (Heap.get?_update_other _ _ (Nat.ne_of_gt (η e))).trans (ρ _ e)
def nKs(es:List (Int×Int)):List (Key×V):=es.map λx=>(.inl x.1,.int x.2)
theorem qy{P:Program}{w:World}:∀{es:List DictEntry} {vs:List (Key×Value)} {xs:List (Int×Int)},Pairs (aM P w) es vs->KV (nKs xs) vs->es.length=xs.length/\∀(i:Nat) (x:Int×Int),xs[i]?=some x->∃e,es[i]?=some e/\RelV (.int x.1) e.key/\RelV (.int x.2) e.val
 | _,_,[],p,.nil=>by
  cases p
  exact ⟨ϱ,λi x e=>by cases e⟩
 | _,_,x::xs,p,.cons h t=>by
  cases p with
  | cons p1 p2 p3 =>
   obtain ⟨l,g⟩:=qy p3 t
   refine ⟨congrArg (·+1) l,λi y e=>?_⟩
   cases i with
   | zero =>
    cases e
    refine ⟨_,ϱ,zP (k:=.inl x.1) (by rw [show (Sum.inl x.1:Key)=_ from h.1];exact p1),?_⟩
    rw [p2]
    exact h.2
   | succ i=>exact g i y e
theorem Dq{P:Program}{w:World}{K:Frag}{H:Hp}{d:Addr}{es:List (Int×Int)}(hd:H d=some (.dK (nKs es))):∀h,HOk P w H h->∃ks,DEn h d ks/\Paired (λx kv=>∀H' a,Same H H'->H' a=some (.tup [kv.1,kv.2])->sPa K H' x (.ref a)) es ks:=λh ok=>by
 obtain ⟨z,_,vs,rel,o,en,ep,h1,h2,h3,_,h4,_⟩:=(show ObjOk P w H h d (.dK _) from ok d _ hd)
 obtain ⟨ln,ge⟩:=qy h4 rel
 rw [Array.length_toList] at ln
 refine ⟨es.map λx=>(.int x.1,.int x.2),⟨en,ep,⟨o,h1,h2,h3⟩,by rw [ν,ln],λi kv e=>?_⟩,eK (by rw [ν]) λi x kv ex ek H' a _ ha=>?_⟩
 ·rw [List.getElem?_map] at e
  obtain ⟨x,ex,rfl⟩:=Option.map_eq_some_iff.mp e
  obtain ⟨e2,ek,r⟩:=ge i x ex
  exact ⟨e2,by rw [← Array.getElem?_toList];exact ek,r⟩
 ·rw [List.getElem?_map,ex] at ek
  cases ek
  exact ⟨a,ϱ,ha⟩
theorem Dp{P:Program}{w:World}{K:Frag}{H:Hp}{d:Addr}{es:List ((Int×Int)×Str)}(hd:H d=some (.dT (List.map (λx:(Int×Int)×Str=>([.inl x.1.1,.inl x.1.2],V.str x.2)) es))):∀h,HOk P w H h->∃ks,DEn h d ks/\Paired (λx kv=>∀H' a,Same H H'->H' a=some (.tup [kv.1,kv.2])->sPS K H' x (.ref a)) es ks:=λh ok=>by
 obtain ⟨z,_,xs,rel,o,en,ep,h1,h2,h3,h4,h5⟩:=(show ObjOk P w H h d (.dT _) from ok d _ hd)
 have lx:es.length=xs.length:=by rw [← Paired.length rel,ν]
 have at3:∀(i:Nat) (x:(Int×Int)×Str) (y:List Key×Addr×Value),es[i]?=some x->xs[i]?=some y->H y.2.1=some (.tup [.int x.1.1,.int x.1.2])/\RelV (.str x.2) y.2.2:=λi x y ex ey=>by
  obtain ⟨y',ey',ry⟩:=rel.get1 (j:=i) (x:=([.inl x.1.1,.inl x.1.2],V.str x.2)) (by rw [List.getElem?_map,ex];rfl)
  rw [ey] at ey'
  cases ey'
  exact ⟨ry.2.1,ry.2.2⟩
 refine ⟨(es.zip xs).map λt=>(.ref t.2.2.1,.str t.1.2),⟨en,ep,⟨o,h1,h2,h3⟩,by rw [size_of_entries h4,ν,List.length_zip];omega,λi kv e=>?_⟩,eK (by rw [ν,List.length_zip];omega) λi x kv ex ek H' a sm ha=>?_⟩
 ·rw [List.getElem?_map] at e
  obtain ⟨t,et,rfl⟩:=Option.map_eq_some_iff.mp e
  rw [List.getElem?_zip_eq_some] at et
  exact ⟨entryOfKey (tupleKind (aM P w)) t.2,by rw [entry_at h4,et.2];rfl,ϱ,(at3 i _ _ et.1 et.2).2⟩
 ·rw [List.getElem?_map] at ek
  obtain ⟨t,et,rfl⟩:=Option.map_eq_some_iff.mp ek
  rw [List.getElem?_zip_eq_some,ex] at et
  obtain ⟨e1,e2⟩:=et
  cases e1
  exact ⟨a,_,ϱ,ha,sm _ _ (at3 i _ _ ex e2).1⟩
end L2
namespace K53
open PySem L2 Lo
def top(i:Nat):Stmt:=PySem.Challenge.pw_pactroom_k53_walked_once.main.body.getD i (.Pass ⟨0,0,0,0⟩)
abbrev il:Stmt:=inClass (top 4) 0
abbrev fJ:Stmt:=inClass (top 4) 2
abbrev fH:Stmt:=inClass (top 4) 3
abbrev ii:Stmt:=inClass (top 4) 4
abbrev ie:Stmt:=inClass (top 5) 0
abbrev ig:Stmt:=inClass (top 6) 0
abbrev fK:Stmt:=inClass (top 7) 0
abbrev jR:Stmt:=top 8
abbrev gD:Stmt:=inClass (top 16) 0
abbrev dM:Stmt:=inClass (top 16) 1
abbrev bp:Stmt:=inClass (top 16) 2
abbrev ck:Stmt:=inClass (top 16) 3
abbrev cS:Stmt:=inClass (top 16) 5
abbrev bV:Stmt:=inClass (top 16) 6
abbrev c7:Stmt:=inClass (top 16) 7
abbrev bq:Stmt:=inClass (top 16) 8
abbrev bc:Stmt:=inClass (top 16) 9
abbrev bX:Stmt:=inClass (top 16) 10
abbrev mq:Stmt:=top 26
abbrev je:Stmt:=top 27
abbrev ox:Stmt:=top 28
abbrev iH:Stmt:=inClass (top 29) 0
abbrev gL:Stmt:=inClass (top 29) 1
abbrev fo:Stmt:=inClass (top 29) 2
abbrev eG:Stmt:=inClass (top 29) 4
abbrev dJ:Stmt:=inClass (top 29) 5
abbrev h9:Stmt:=inClass (top 33) 1
abbrev eF:Stmt:=inClass (top 34) 0
abbrev d0:Stmt:=inClass (top 35) 0
abbrev cg:Stmt:=inClass (top 35) 1
abbrev eB:Stmt:=inClass (top 36) 0
abbrev dL:Stmt:=inClass (top 36) 1
abbrev eV:Stmt:=inClass (top 37) 0
abbrev eU:Stmt:=inClass (top 37) 2
abbrev bo:Stmt:=inClass (top 37) 3
abbrev eC:Stmt:=inClass (top 38) 0
abbrev cn:Stmt:=inClass (top 38) 1
abbrev eY:Stmt:=inClass (top 39) 0
abbrev eX:Stmt:=inClass (top 39) 1
abbrev cD:Stmt:=inClass (top 39) 2
abbrev d9:Stmt:=inClass (top 40) 0
abbrev ci:Stmt:=inClass (top 40) 1
abbrev eg:Stmt:=inClass (top 41) 0
abbrev cj:Stmt:=inClass (top 41) 1
abbrev dw:Stmt:=top 42
abbrev fu:Stmt:=top 43
abbrev gZ:Stmt:=top 44
abbrev iP:Stmt:=top 45
abbrev gu:Stmt:=inClass (top 47) 0
abbrev gs:Stmt:=inClass (top 47) 2
abbrev aN:Stmt:=inClass (top 47) 3
abbrev cZ:Stmt:=inClass (top 47) 4
abbrev c6:Stmt:=inClass (top 47) 5
abbrev cE:Stmt:=inClass (top 47) 6
abbrev fF:Stmt:=inClass (top 47) 7
abbrev bR:Stmt:=inClass (top 47) 8
abbrev cC:Stmt:=inClass (top 47) 10
abbrev gv:Stmt:=inClass (top 47) 13
abbrev dY:Stmt:=inClass (top 47) 14
abbrev bK:Stmt:=inClass (top 47) 15
abbrev gC:Stmt:=inClass (top 49) 0
abbrev ib:Stmt:=inClass (top 49) 1
abbrev gz:Stmt:=inClass (top 49) 2
abbrev cR:Stmt:=inClass (top 49) 3
abbrev bh:Stmt:=inClass (top 49) 4
abbrev gy:Stmt:=inClass (top 51) 0
abbrev gx:Stmt:=inClass (top 51) 1
abbrev cL:Stmt:=inClass (top 51) 2
abbrev d8:Stmt:=inClass (top 51) 3
abbrev cM:Stmt:=inClass (top 51) 4
abbrev d5:Stmt:=inClass (top 51) 5
abbrev gw:Stmt:=inClass (top 51) 6
abbrev cG:Stmt:=inClass (top 51) 7
abbrev cQ:Stmt:=inClass (top 51) 10
abbrev eN:Stmt:=top 53
abbrev fx:Stmt:=top 54
abbrev hI:Stmt:=top 55
abbrev hJ:Stmt:=top 56
abbrev fy:Stmt:=top 57
abbrev hU:Stmt:=top 58
abbrev gj:Stmt:=top 59
abbrev hO:Stmt:=top 60
abbrev fw:Stmt:=top 61
abbrev jf:Stmt:=top 62
theorem pI:am ["self","first","last"] ["self","first","last"] (defScope il):=⟨ϱ,ϱ,ϱ,θ,ϱ,θ,θ⟩
theorem sc_Lock_beside:am ["self","other","apart"] ["self","other"] (defScope fJ):=⟨ϱ,ϱ,ϱ,θ,ϱ,θ,θ⟩
theorem sc_Lock_covers:am ["self","other","within"] ["self","other"] (defScope fH):=⟨ϱ,ϱ,ϱ,θ,ϱ,θ,θ⟩
theorem pH:am ["self"] ["self"] (defScope ii):=⟨ϱ,ϱ,ϱ,θ,ϱ,θ,θ⟩
theorem pF:am ["self"] ["self"] (defScope ie):=⟨ϱ,ϱ,ϱ,θ,ϱ,θ,θ⟩
theorem pG:am ["self"] ["self"] (defScope ig):=⟨ϱ,ϱ,ϱ,θ,ϱ,θ,θ⟩
theorem mj:am ["self"] ["self"] (defScope fK):=⟨ϱ,ϱ,ϱ,θ,ϱ,θ,θ⟩
theorem rV:am ["told"] ["told"] (defScope jR):=⟨ϱ,ϱ,ϱ,θ,ϱ,θ,θ⟩
theorem nU:am ["self"] ["self"] (defScope gD):=⟨ϱ,ϱ,ϱ,θ,ϱ,θ,θ⟩
theorem sc_Locks_ask:am ["self","p","lock"] ["self","p","lock"] (defScope dM):=⟨ϱ,ϱ,ϱ,θ,ϱ,θ,θ⟩
def nq:Scope:=match defBody dM with
 | _::.If (.Call _ [.ListComp _ _ sc _] _ _) _ _ _::_=>sc
 | _=>default
theorem mo:aU ["self","p","lock"] (defScope dM) nq "pair" ["pair","p","lock"] [1,2]:=⟨θ,ϱ,θ,ϱ,θ,θ,ϱ,ϱ,θ⟩
theorem sc_Locks_free:am ["self","p","waited","still"] ["self","p"] (defScope bp):=⟨ϱ,ϱ,ϱ,θ,ϱ,θ,θ⟩
def lr:Scope:=match defBody bp with
 | _::.Assign _ (.ListComp _ _ sc _) _::_=>sc
 | _=>default
theorem k7:aU ["self","p","waited","still"] (defScope bp) lr "pair" ["pair","p"] [1]:=⟨θ,ϱ,θ,ϱ,θ,θ,ϱ,ϱ,θ⟩
def lq:Scope:=match defBody bp with
 | _::_::.Assign _ (.ListComp _ _ sc _) _::_=>sc
 | _=>default
theorem kZ:aU ["self","p","waited","still"] (defScope bp) lq "pair" ["pair"] []:=⟨θ,ϱ,θ,ϱ,θ,θ,ϱ,ϱ,λj h=>absurd h (Nat.not_lt_zero j)⟩
def lp:Scope:=match defBody bp with
 | _::_::_::.Return (some (.ListComp _ _ sc _)) _::_=>sc
 | _=>default
theorem kY:aU ["self","p","waited","still"] (defScope bp) lp "pair" ["pair","p","still"] [1,3]:=⟨θ,ϱ,θ,ϱ,θ,θ,ϱ,ϱ,θ⟩
theorem kR:am ["self","p","lock"] ["self","p","lock"] (defScope ck):=⟨ϱ,ϱ,ϱ,θ,ϱ,θ,θ⟩
def js:Scope:=match defBody ck with
 | .Return (some (.Call _ [.ListComp _ _ sc _] _ _)) _::_=>sc
 | _=>default
theorem jd:aU ["self","p","lock"] (defScope ck) js "pair" ["pair","p","lock"] [1,2]:=⟨θ,ϱ,θ,ϱ,θ,θ,ϱ,ϱ,θ⟩
theorem nX:am ["self"] ["self"] (defScope cS):=⟨ϱ,ϱ,ϱ,θ,ϱ,θ,θ⟩
def lj:Scope:=match defBody cS with
 | .Return (some (.ListComp _ _ sc _)) _::_=>sc
 | _=>default
theorem kX:aU ["self"] (defScope cS) lj "pair" ["pair"] []:=⟨θ,ϱ,θ,ϱ,θ,θ,ϱ,ϱ,λj h=>absurd h (Nat.not_lt_zero j)⟩
theorem jM:am ["self"] ["self"] (defScope bV):=⟨ϱ,ϱ,ϱ,θ,ϱ,θ,θ⟩
def iU:Scope:=match defBody bV with
 | .Return (some (.ListComp _ _ sc _)) _::_=>sc
 | _=>default
theorem iO:aU ["self"] (defScope bV) iU "pair" ["pair"] []:=⟨θ,ϱ,θ,ϱ,θ,θ,ϱ,ϱ,λj h=>absurd h (Nat.not_lt_zero j)⟩
theorem sc_Locks_hinderer:am ["self","place","pair","k","ahead"] ["self","place"] (defScope c7):=⟨ϱ,ϱ,ϱ,θ,ϱ,θ,θ⟩
theorem iC:am ["self"] ["self"] (defScope bq):=⟨ϱ,ϱ,ϱ,θ,ϱ,θ,θ⟩
def gT:Scope:=match defBody bq with
 | .Return (some (.ListComp _ _ sc _)) _::_=>sc
 | _=>default
theorem gS:aU ["self"] (defScope bq) gT "k" ["k","self"] [0]:=⟨θ,ϱ,θ,ϱ,θ,θ,ϱ,ϱ,θ⟩
theorem gh:am ["self"] ["self"] (defScope bc):=⟨ϱ,ϱ,ϱ,θ,ϱ,θ,θ⟩
def fO:Scope:=match defBody bc with
 | .Return (some (.ListComp _ _ sc _)) _::_=>sc
 | _=>default
theorem fq:aU ["self"] (defScope bc) fO "k" ["k","self"] [0]:=⟨θ,ϱ,θ,ϱ,θ,θ,ϱ,ϱ,θ⟩
theorem sc_Locks_waiting_place:am ["self","p","k"] ["self","p"] (defScope bX):=⟨ϱ,ϱ,ϱ,θ,ϱ,θ,θ⟩
theorem pD:am ["self"] ["self"] (defScope h9):=⟨ϱ,ϱ,ϱ,θ,ϱ,θ,θ⟩
theorem jO:am ["self","where","cell"] ["self","where","cell"] (defScope eF):=⟨ϱ,ϱ,ϱ,θ,ϱ,θ,θ⟩
theorem jG:am ["self"] ["self"] (defScope d0):=⟨ϱ,ϱ,ϱ,θ,ϱ,θ,θ⟩
theorem gN:am ["self","hand","value_of"] ["self","hand","value_of"] (defScope cg):=⟨ϱ,ϱ,ϱ,θ,ϱ,θ,θ⟩
theorem jL:am ["self"] ["self"] (defScope eB):=⟨ϱ,ϱ,ϱ,θ,ϱ,θ,θ⟩
theorem gQ:am ["self","hand","value_of"] ["self","hand","value_of"] (defScope dL):=⟨ϱ,ϱ,ϱ,θ,ϱ,θ,θ⟩
theorem kQ:am ["self","where","low","high"] ["self","where","low","high"] (defScope eV):=⟨ϱ,ϱ,ϱ,θ,ϱ,θ,θ⟩
theorem kO:am ["self"] ["self"] (defScope eU):=⟨ϱ,ϱ,ϱ,θ,ϱ,θ,θ⟩
theorem gX:am ["self","hand","value_of"] ["self","hand","value_of"] (defScope bo):=⟨ϱ,ϱ,ϱ,θ,ϱ,θ,θ⟩
def gF:Scope:=match defBody bo with
 | .Return (some (.Tuple [(.Call _ [.ListComp _ _ sc _] _ _),_] _ _)) _::_=>sc
 | _=>default
theorem gi:aU ["self","hand","value_of"] (defScope bo) gF "cell" ["cell","value_of"] [2]:=⟨θ,ϱ,θ,ϱ,θ,θ,ϱ,ϱ,θ⟩
theorem jN:am ["self"] ["self"] (defScope eC):=⟨ϱ,ϱ,ϱ,θ,ϱ,θ,θ⟩
theorem gR:am ["self","hand","value_of"] ["self","hand","value_of"] (defScope cn):=⟨ϱ,ϱ,ϱ,θ,ϱ,θ,θ⟩
theorem kW:am ["self","where","cell","amount"] ["self","where","cell","amount"] (defScope eY):=⟨ϱ,ϱ,ϱ,θ,ϱ,θ,θ⟩
theorem kS:am ["self"] ["self"] (defScope eX):=⟨ϱ,ϱ,ϱ,θ,ϱ,θ,θ⟩
theorem gY:am ["self","hand","value_of"] ["self","hand","value_of"] (defScope cD):=⟨ϱ,ϱ,ϱ,θ,ϱ,θ,θ⟩
theorem jJ:am ["self","amount"] ["self","amount"] (defScope d9):=⟨ϱ,ϱ,ϱ,θ,ϱ,θ,θ⟩
theorem gO:am ["self","hand","value_of"] ["self","hand","value_of"] (defScope ci):=⟨ϱ,ϱ,ϱ,θ,ϱ,θ,θ⟩
theorem jK:am ["self","amount"] ["self","amount"] (defScope eg):=⟨ϱ,ϱ,ϱ,θ,ϱ,θ,θ⟩
theorem gP:am ["self","hand","value_of"] ["self","hand","value_of"] (defScope cj):=⟨ϱ,ϱ,ϱ,θ,ϱ,θ,θ⟩
theorem sc_read_step:am ["text","words","shape"] ["text"] (defScope dw):=⟨ϱ,ϱ,ϱ,θ,ϱ,θ,θ⟩
def nj:Scope:=match defBody dw with
 | _::_::_::.Return (some (.Call _ [_,.ListComp _ _ sc _] _ _)) _::_=>sc
 | _=>default
theorem ml:aU ["text","words","shape"] (defScope dw) nj "k" ["k","words","shape"] [1,2]:=⟨θ,ϱ,θ,ϱ,θ,θ,ϱ,ϱ,θ⟩
theorem sc_read_number:am ["word","letter","number"] ["word","letter"] (defScope fu):=⟨ϱ,ϱ,ϱ,θ,ϱ,θ,θ⟩
theorem pC:am ["word","numbers"] ["word","numbers"] (defScope gZ):=⟨ϱ,ϱ,ϱ,θ,ϱ,θ,θ⟩
theorem qi:am ["where","low","high"] ["where","low","high"] (defScope iP):=⟨ϱ,ϱ,ϱ,θ,ϱ,θ,θ⟩
theorem sc_Works_init:am ["self","stand","home","many","row"] ["self","stand","home","many"] (defScope gu):=⟨ϱ,ϱ,ϱ,θ,ϱ,θ,θ⟩
theorem nI:am ["self","sheet","p","i","hand","text"] ["self","sheet","p","i","hand","text"] (defScope gs):=⟨ϱ,ϱ,ϱ,θ,ϱ,θ,θ⟩
theorem sc_Works_do_step:am ["self","sheet","p","waited","behind"] ["self","sheet","p","waited"] (defScope aN):=⟨ϱ,ϱ,ϱ,θ,ϱ,θ,θ⟩
theorem sc_Works_value_at:am ["self","p","cell","draft"] ["self","p","cell"] (defScope cZ):=⟨ϱ,ϱ,ϱ,θ,ϱ,θ,θ⟩
theorem jb:am ["self","sheet","p","i"] ["self","sheet","p","i"] (defScope c6):=⟨ϱ,ϱ,ϱ,θ,ϱ,θ,θ⟩
theorem sc_Works_ready:am ["self","sheet","p","houses","locks"] ["self","sheet","p","houses"] (defScope cE):=⟨ϱ,ϱ,ϱ,θ,ϱ,θ,θ⟩
def kf:Scope:=match defBody cE with
 | .If _ (_::.Assign _ (.Call _ [.ListComp _ _ sc _] _ _) _::_) _ _::_=>sc
 | _=>default
theorem jP:aU ["self","sheet","p","houses","locks"] (defScope cE) kf "pair" ["pair","p"] [2]:=⟨θ,ϱ,θ,ϱ,θ,θ,ϱ,ϱ,θ⟩
theorem sc_Works_ended:am ["self","sheet","p","freed"] ["self","sheet","p"] (defScope fF):=⟨ϱ,ϱ,ϱ,θ,ϱ,θ,θ⟩
theorem sc_Works_walk:am ["self","sheet","p","i","hand","text","row","step","behind"] ["self","sheet","p","i","hand","text"] (defScope bR):=⟨ϱ,ϱ,ϱ,θ,ϱ,θ,θ⟩
theorem gW:am ["self","p","step"] ["self","p","step"] (defScope cC):=⟨ϱ,ϱ,ϱ,θ,ϱ,θ,θ⟩
theorem nJ:am ["self"] ["self"] (defScope gv):=⟨ϱ,ϱ,ϱ,θ,ϱ,θ,θ⟩
theorem jF:am ["self"] ["self"] (defScope dY):=⟨ϱ,ϱ,ϱ,θ,ϱ,θ,θ⟩
theorem jc:am ["self","p"] ["self","p"] (defScope bK):=⟨ϱ,ϱ,ϱ,θ,ϱ,θ,θ⟩
def iF:Scope:=match defBody bK with
 | .Return (some (.Compare _ _ [.ListComp _ _ sc _] _)) _::_=>sc
 | _=>default
theorem iD:aU ["self","p"] (defScope bK) iF "row" ["row"] []:=⟨θ,ϱ,θ,ϱ,θ,θ,ϱ,ϱ,λj h=>absurd h (Nat.not_lt_zero j)⟩
theorem nQ:am ["self","stand"] ["self","stand"] (defScope gC):=⟨ϱ,ϱ,ϱ,θ,ϱ,θ,θ⟩
theorem pE:am ["self","row"] ["self","row"] (defScope ib):=⟨ϱ,ϱ,ϱ,θ,ϱ,θ,θ⟩
theorem nO:am ["self","to","word","p","more"] ["self","to","word","p","more"] (defScope gz):=⟨ϱ,ϱ,ϱ,θ,ϱ,θ,θ⟩
theorem iN:am ["self"] ["self"] (defScope cR):=⟨ϱ,ϱ,ϱ,θ,ϱ,θ,θ⟩
theorem sc_Sheet_letters_told:am ["self","news"] ["self"] (defScope bh):=⟨ϱ,ϱ,ϱ,θ,ϱ,θ,θ⟩
def f7:Scope:=match defBody bh with
 | _::.Return (some (.ListComp _ _ sc _)) _::_=>sc
 | _=>default
theorem fT:aU ["self","news"] (defScope bh) f7 "pair" ["pair","news"] [1]:=⟨θ,ϱ,θ,ϱ,θ,θ,ϱ,ϱ,θ⟩
theorem nN:am ["self","cells"] ["self","cells"] (defScope gy):=⟨ϱ,ϱ,ϱ,θ,ϱ,θ,θ⟩
theorem sc_Stand_keep:am ["self","row","change","p"] ["self","row"] (defScope gx):=⟨ϱ,ϱ,ϱ,θ,ϱ,θ,θ⟩
theorem iz:am ["self","row"] ["self","row"] (defScope cL):=⟨ϱ,ϱ,ϱ,θ,ϱ,θ,θ⟩
theorem jI:am ["self","cell"] ["self","cell"] (defScope d8):=⟨ϱ,ϱ,ϱ,θ,ϱ,θ,θ⟩
theorem iB:am ["self"] ["self"] (defScope cM):=⟨ϱ,ϱ,ϱ,θ,ϱ,θ,θ⟩
theorem jH:am ["self","p"] ["self","p"] (defScope d5):=⟨ϱ,ϱ,ϱ,θ,ϱ,θ,θ⟩
theorem nK:am ["self"] ["self"] (defScope gw):=⟨ϱ,ϱ,ϱ,θ,ϱ,θ,θ⟩
theorem mi:am ["self"] ["self"] (defScope cG):=⟨ϱ,ϱ,ϱ,θ,ϱ,θ,θ⟩
def kg:Scope:=match defBody cG with
 | .Return (some (.ListComp _ _ sc _)) _::_=>sc
 | _=>default
theorem jQ:aU ["self"] (defScope cG) kg "p" ["p","self"] [0]:=⟨θ,ϱ,θ,ϱ,θ,θ,ϱ,ϱ,θ⟩
theorem iM:am ["self","p","i"] ["self","p","i"] (defScope cQ):=⟨ϱ,ϱ,ϱ,θ,ϱ,θ,θ⟩
theorem kN:am ["_law_script","_law_k"] ["_law_script","_law_k"] (defScope eN):=⟨ϱ,ϱ,ϱ,θ,ϱ,θ,θ⟩
theorem mh:am ["_law_cell"] ["_law_cell"] (defScope fx):=⟨ϱ,ϱ,ϱ,θ,ϱ,θ,θ⟩
theorem sc__law_step:am ["_law_cell","_law_many","_law_at","_law_word","_law_text"] ["_law_cell","_law_many"] (defScope hI):=⟨ϱ,ϱ,ϱ,θ,ϱ,θ,θ⟩
theorem sc__law_lock:am ["_law_text","_law_words","_law_at"] ["_law_text"] (defScope hJ):=⟨ϱ,ϱ,ϱ,θ,ϱ,θ,θ⟩
theorem sc__law_beside:am ["_law_one","_law_other","_law_kinds"] ["_law_one","_law_other"] (defScope fy):=⟨ϱ,ϱ,ϱ,θ,ϱ,θ,θ⟩
theorem sc__law_done:am ["_law_cells","_law_hand","_law_text","_law_words","_law_at"] ["_law_cells","_law_hand","_law_text"] (defScope hU):=⟨ϱ,ϱ,ϱ,θ,ϱ,θ,θ⟩
theorem sc__law_ended:am ["_law_works","_law_stand","_law_p","_law_outcome","_law_sheet"] ["_law_works","_law_stand","_law_p","_law_outcome"] (defScope gj):=⟨ϱ,ϱ,ϱ,θ,ϱ,θ,θ⟩
theorem sc__law_held:am ["_law_works","_law_stand","_law_p","_law_script","_law_many","_law_locks","_law_k","_law_text"] ["_law_works","_law_stand","_law_p","_law_script","_law_many"] (defScope hO):=⟨ϱ,ϱ,ϱ,θ,ϱ,θ,θ⟩
theorem sc__law_walked:am ["_law_works","_law_stand","_law_told","_law_known","_law_free","_law_news","_law_p","_law_i","_law_hand","_law_text","_law_cells","_law_sheet","_law_rows","_law_letters","_law_done_here","_law_at","_law_value"] ["_law_works","_law_stand","_law_told","_law_known","_law_free","_law_news"] (defScope fw):=⟨ϱ,ϱ,ϱ,θ,ϱ,θ,θ⟩
theorem sc_law:am ["_law_script","_law_number_here","_law_first","_law_p","_law_others","_law_q","_law_stand","_law_works","_law_locks","_law_held_here","_law_known","_law_ends","_law_cells","_law_k","_law_i","_law_text","_law_free","_law_told"] ["_law_script"] (defScope jf):=⟨ϱ,ϱ,ϱ,θ,ϱ,θ,θ⟩
def yl:Scope:=match defBody jf with
 | _::.Assign _ (.ListComp _ _ sc _) _::_=>sc
 | _=>default
theorem wn:aU ["_law_script","_law_number_here","_law_first","_law_p","_law_others","_law_q","_law_stand","_law_works","_law_locks","_law_held_here","_law_known","_law_ends","_law_cells","_law_k","_law_i","_law_text","_law_free","_law_told"] (defScope jf) yl "_law_k" ["_law_k","_law_number_here"] [1]:=⟨θ,ϱ,θ,ϱ,θ,θ,ϱ,ϱ,θ⟩
def yk:Scope:=match defBody jf with
 | _::_::_::.Assign _ (.ListComp _ _ sc _) _::_=>sc
 | _=>default
theorem wm:aU ["_law_script","_law_number_here","_law_first","_law_p","_law_others","_law_q","_law_stand","_law_works","_law_locks","_law_held_here","_law_known","_law_ends","_law_cells","_law_k","_law_i","_law_text","_law_free","_law_told"] (defScope jf) yk "_law_home" ["_law_home","_law_p"] [3]:=⟨θ,ϱ,θ,ϱ,θ,θ,ϱ,ϱ,θ⟩
def yj:Scope:=match defBody jf with
 | _::_::_::_::_::_::_::_::_::_::_::_::.For _ _ (_::_::_::_::_::.Assign _ (.Compare (.ListComp _ _ sc _) _ _ _) _::_) _ _::_=>sc
 | _=>default
theorem wj:aU ["_law_script","_law_number_here","_law_first","_law_p","_law_others","_law_q","_law_stand","_law_works","_law_locks","_law_held_here","_law_known","_law_ends","_law_cells","_law_k","_law_i","_law_text","_law_free","_law_told"] (defScope jf) yj "_law_lock_here" ["_law_lock_here","_law_text"] [15]:=⟨θ,ϱ,θ,ϱ,θ,θ,ϱ,ϱ,θ⟩
open St
section
variable {P:Program}{w:World}{K:Frag}{mg:Str->Option Value}{base:Heap}{f CL CS CH CV:Addr}{fd:FuncData}{C:Kd->Addr}{CW:Wd->Addr}
theorem C5(F:Fun K "kind" "Read.kind" ie f fd):FnOk P w K mg base CX0 1 f fd ["self"] (gV .read):=by
 refine F.oj pF λd A b s H vs Q E e h=>?_
 obtain ⟨v,rfl,q⟩:=h
 exact ⟨_,aj (aw aA),q⟩
theorem C6(F:Fun K "kind" "Mean.kind" ig f fd):FnOk P w K mg base CX0 1 f fd ["self"] (gV .mean):=by
 refine F.oj pG λd A b s H vs Q E e h=>?_
 obtain ⟨v,rfl,q⟩:=h
 exact ⟨_,aj (aw aA),q⟩
theorem C7(F:Fun K "kind" "Change.kind" fK f fd):FnOk P w K mg base CX0 1 f fd ["self"] (gV .change):=by
 refine F.oj mj λd A b s H vs Q E e h=>?_
 obtain ⟨v,rfl,q⟩:=h
 exact ⟨_,aj (aw aA),q⟩
theorem xh(F:Fun K "__init__" "Lock.__init__" il f fd)(T:TxK K C):FnOk P w K mg base CX0 1 f fd ["self","first","last"] (fg C):=by
 refine F.oj pI λg A b s H vs Q E i h=>?_
 obtain ⟨a,d,k,x,y,rfl,e,q⟩:=h
 refine ⟨_,ag (aV (pv 0) (pv 1) rfl) (aj (aV (pv 0) (pv 2) rfl)),?_⟩
 exact ⟨_,ϱ,_,ϱ,a,C k,d,[],ϱ,e,T.cl k,T.nF k,(by show 0<1000;decide),_,ϱ,_,ϱ,a,C k,d,_,ϱ,ae,T.cl k,T.nL k,(by show 1<1000;decide),q⟩
theorem pU(F:Fun K "told" "Lock.told" ii f fd)(T:TxK K C)(l:∀k,GM P w K mg base CX0 1 (C k) "kind" ["self"] (gV k)):FnOk P w K mg base CX0 2 f fd ["self"] (gf C):=by
 refine F.oj pH λg A e s H vs Q E i h=>?_
 obtain ⟨v,k,rfl,⟨a,b,rfl,d⟩,q⟩:=h
 refine ⟨_,aj (aw (aF (ac (pm0 (l k.1) (pv 0) (T.cl k.1) i) (ac (aq (pv 0) rfl) (ac (aq (pv 0) rfl) af))))),?_⟩
 refine ⟨_,ϱ,a,b,_,ϱ,d,fW _ _ θ θ,_,ϱ,?_⟩
 exact ⟨_,ϱ,a,_,b,_,_,ϱ,d,T.cl _,T.nF _,fX _ _,_,ϱ,a,_,b,_,_,ϱ,d,T.cl _,T.nL _,jo _ _,χ,λt j=>q t j⟩
theorem uW(F:Fun K "lock_of" "lock_of" jR f fd)(T:TxK K C)(i:∀k,mg (kdN k)=some (.ref (C k))){J:Addr}{L:FuncData}(M:∀k,Mk K (C k) J)
  (G:FnOk P w K mg base CX0 1 J L ["self","first","last"] (fg C))(I:Binds K L ["self","first","last"] []):FnOk P w K mg base CX0 3 f fd ["told"] (i5 C K):=by
 refine F.oj rV λa1 A D s H vs Q E hr h=>?_
 obtain ⟨v,k,rfl,O,q⟩:=h
 obtain ⟨a,u1,U,W,rfl,d,X,Y,Z⟩:=O
 have m:u1=.str (kdS k.1):=X
 have o:U=.int k.2.1:=Y
 have u:W=.int k.2.2:=Z
 subst m o u
 have g:Room (1+1) _:=hr
 refine ⟨_,ag (aI (ax bf (au (r:=aQ K) aB (pv 0) ai (λ_ _=>rfl)) aA (ay _))
   (aj (aw (ba (M .read) G g rfl (i .read) I .nil bb (ac (au (r:=aQ K) aB (pv 0) ai (λ_ _=>rfl)) (ac (au (r:=aQ K) aB (pv 0) ai (λ_ _=>rfl)) af))))) aC)
  (ag (aI (ax bf (au (r:=aQ K) aB (pv 0) ai (λ_ _=>rfl)) aA (ay _))
   (aj (aw (ba (M .mean) G g rfl (i .mean) I .nil bb (ac (au (r:=aQ K) aB (pv 0) ai (λ_ _=>rfl)) (ac (au (r:=aQ K) aB (pv 0) ai (λ_ _=>rfl)) af))))) aC)
  (aj (aw (ba (M .change) G g rfl (i .change) I .nil bb (ac (au (r:=aQ K) aB (pv 0) ai (λ_ _=>rfl)) (ac (au (r:=aQ K) aB (pv 0) ai (λ_ _=>rfl)) af)))))),?_⟩
 refine ⟨_,ϱ,a,_,_,_,ϱ,ϱ,d.sq,ϱ,ϱ,_,ϱ,?_⟩
 obtain ⟨kd,x,y⟩:=k
 cases kd with
 | read =>
  refine a9 (λ_=>?_) (λc=>absurd (τ rfl) c)
  exact ⟨_,ϱ,a,_,_,_,ϱ,ϱ,d.sq,ϱ,_,ϱ,a,_,_,_,ϱ,ϱ,d.sq,ϱ,λz e j b l=>⟨z,e,.read,x,y,ϱ,ae,ϱ,q _ _ (fm j b) ⟨z,e,ϱ,ae⟩⟩⟩
 | mean =>
  refine a9 (λc=>absurd (V.str.inj (Ξ c)).symm A8) (λ_=>?_)
  refine ⟨_,ϱ,a,_,_,_,ϱ,ϱ,d.sq,ϱ,ϱ,_,ϱ,?_⟩
  refine a9 (λ_=>?_) (λc=>absurd (τ rfl) c)
  exact ⟨_,ϱ,a,_,_,_,ϱ,ϱ,d.sq,ϱ,_,ϱ,a,_,_,_,ϱ,ϱ,d.sq,ϱ,λz e j b l=>⟨z,e,.mean,x,y,ϱ,ae,ϱ,q _ _ (fm j b) ⟨z,e,ϱ,ae⟩⟩⟩
 | change =>
  refine a9 (λc=>absurd (V.str.inj (Ξ c)).symm A9) (λ_=>?_)
  refine ⟨_,ϱ,a,_,_,_,ϱ,ϱ,d.sq,ϱ,ϱ,_,ϱ,?_⟩
  refine a9 (λc=>absurd (V.str.inj (Ξ c)).symm Ba) (λ_=>?_)
  exact ⟨_,ϱ,a,_,_,_,ϱ,ϱ,d.sq,ϱ,_,ϱ,a,_,_,_,ϱ,ϱ,d.sq,ϱ,λz e j b l=>⟨z,e,.change,x,y,ϱ,ae,ϱ,q _ _ (fm j b) ⟨z,e,ϱ,ae⟩⟩⟩
theorem zF(F:Fun K "_law_cell_at" "_law_cell_at" eN f fd)(B:TxB mg):FnOk P w K mg base CX0 1 f fd ["_law_script","_law_k"] (pz K):=by
 refine F.oj kN λl A g s H vs Q E m h=>?_
 obtain ⟨a,b,k,rfl,i,q⟩:=h
 refine ⟨_,ag (aI (ax mD (pv 1) (aK be rfl B.len PySem.boot_len (ac (pv 0) af)) (ay _)) (aj (aw (au aE (pv 0) (pv 1) (λ_ _=>rfl)))) aC)
  (aj (aw ai)),?_⟩
 refine ⟨_,ϱ,_,ϱ,a,_,ϱ,.inl i,_,_,ϱ,ϱ,_,ϱ,?_⟩
 refine a9 (λc=>?_) (λc=>?_)
 ·have d:(k:Int)<(((b.map V.int).length:Nat):Int):=Ξ c
  rw [ν] at d
  have j:k<b.length:=by omega
  have q1:atI (b.map V.int) ((k:Nat):Int)=some (.int b[k]):=aW (by rw [List.getElem?_map,ξ j]<;>rfl)
  have e:bL b k=b[k]:=by unfold bL;rw [List.getElem?_eq_getElem j];rfl
  rw [e] at q
  exact ⟨_,ϱ,_,ϱ,a,_,_,_,ϱ,ϱ,i,q1,q⟩
 ·have d:¬(k:Int)<(((b.map V.int).length:Nat):Int):=λz=>c (τ z)
  rw [ν] at d
  have e:bL b k=0:=by unfold bL;rw [List.getElem?_eq_none ω];rfl
  rw [e] at q
  exact q
theorem kp2{a:Addr}{H:Hp}{o1 o2:HO}:Kp a H (upd (upd H a o1) a o2):=λb o n e=>by rw [ao n,ao n];exact e
theorem xu(F:Fun K "__init__" "CellStep.__init__" eF f fd)(T:TxW K CW):FnOk P w K mg base CX0 1 f fd ["self","where","cell"] (lE CW):=by
 refine F.oj jO λi A d s H vs Q E j h=>?_
 obtain ⟨a,e,b,x,y,rfl,g,q⟩:=h
 refine ⟨_,ag (aV (pv 0) (pv 1) rfl) (aj (aV (pv 0) (pv 2) rfl)),?_⟩
 exact ⟨_,ϱ,_,ϱ,a,CW b,e,[],ϱ,g,T.cl b,T.nW b,(by show 0<1000;decide),_,ϱ,_,ϱ,a,CW b,e,_,ϱ,ae,T.cl b,T.nC b,(by show 1<1000;decide),q _ ae kp2⟩
theorem pX{b:Wd}(hw:isC b=true){vs:List V}{H:Hp}{Q:VK}{E:XK}(h:gc CW b vs H Q E):lE CW vs H Q E:=by
 obtain ⟨a,d,l,rfl,f,g,q⟩:=h
 obtain ⟨x,y,rfl,_,_,e⟩:=f.c hw
 exact ⟨a,d,b,x,y,ϱ,g,λi h1 j=>q i (by rw [e];exact h1) j⟩
theorem wY(F:Fun K "__init__" "SumStep.__init__" eV f fd)(T:TxW K CW):FnOk P w K mg base CX0 1 f fd ["self","where","low","high"] (gc CW .sum):=by
 refine F.ok kQ (λvs H Q E h=>?_) (λm A i s H vs Q E r h=>?_)
 ·obtain ⟨a,d,j,rfl,g,_⟩:=h
  obtain ⟨x,y,z,rfl,_⟩:=g.s
  rfl
 obtain ⟨a,d,j,rfl,g,l,q⟩:=h
 obtain ⟨x,y,z,rfl,_⟩:=g.s
 refine ⟨_,ag (aV (pv 0) (pv 1) rfl) (ag (aV (pv 0) (pv 2) rfl) (aj (aV (pv 0) (pv 3) rfl))),?_⟩
 exact ⟨_,ϱ,_,ϱ,a,CW .sum,d,[],ϱ,l,T.cl _,T.nW _,(by show 0<1000;decide),_,ϱ,_,ϱ,a,CW .sum,d,_,ϱ,ae,T.cl _,T.nL _,(by show 1<1000;decide),_,ϱ,_,ϱ,a,CW .sum,d,_,ϱ,ae,T.cl _,T.nH _,Nat.lt_of_le_of_lt (dO _ _ _) (by show 1+1<1000;decide),q _ ae λb o n e=>by rw [ao n,ao n,ao n];exact e⟩
theorem xz{j m:Addr}{r:FuncData}(F:Fun K "__init__" "AddStep.__init__" eY f fd)(T:TxW K CW)(l:mg "CellStep"=some (.ref j))(J:AD K j "__init__" m)(L:FnOk P w K mg base CX0 1 m r ["self","where","cell"] (lE CW))(O:Binds K r ["self","where","cell"] []) :
  FnOk P w K mg base CX0 2 f fd ["self","where","cell","amount"] (gc CW .add):=by
 refine F.ok kW (λvs H Q E h=>?_) (λD A i s H vs Q E G h=>?_)
 ·obtain ⟨a,d,u,rfl,g,_⟩:=h
  obtain ⟨x,y,z,rfl,_⟩:=g.a
  rfl
 obtain ⟨a,d,u,rfl,g,C,q⟩:=h
 obtain ⟨x,y,z,rfl,_⟩:=g.a
 refine ⟨_,ag (aO (zb (gp (v:=.ref j) rfl l rfl) J L G O bb (ac (pv 0) (ac (pv 1) (ac (pv 2) af))))) (aj (aV (pv 0) (pv 3) rfl)),?_⟩
 refine ⟨_,ϱ,_,ϱ,_,ϱ,a,d,.add,x,y,ϱ,C,λU h1 I=>?_⟩
 exact ⟨_,ϱ,_,ϱ,a,CW .add,d,_,ϱ,h1,T.cl _,T.nA _,Nat.lt_of_le_of_lt (dO _ _ _) (by show 1+1<1000;decide),q _ ae λb o n e=>by rw [ao n];exact I b o n e⟩
theorem w8(F:Fun K "__init__" "PlusStep.__init__" d9 f fd)(T:TxW K CW):FnOk P w K mg base CX0 1 f fd ["self","amount"] (gc CW .plus):=by
 refine F.ok jJ (λvs H Q E h=>?_) (λj A d s H vs Q E l h=>?_)
 ·obtain ⟨a,e,g,rfl,b,_⟩:=h
  obtain ⟨x,rfl,_⟩:=b.p
  rfl
 obtain ⟨a,e,g,rfl,b,i,q⟩:=h
 obtain ⟨x,rfl,_⟩:=b.p
 refine ⟨_,aj (aV (pv 0) (pv 1) rfl),?_⟩
 exact ⟨_,ϱ,_,ϱ,a,CW .plus,e,[],ϱ,i,T.cl _,T.nA _,(by show 0<1000;decide),q _ ae bn⟩
theorem w9(F:Fun K "__init__" "NeedStep.__init__" eg f fd)(T:TxW K CW):FnOk P w K mg base CX0 1 f fd ["self","amount"] (gc CW .need):=by
 refine F.ok jK (λvs H Q E h=>?_) (λj A d s H vs Q E l h=>?_)
 ·obtain ⟨a,e,g,rfl,b,_⟩:=h
  obtain ⟨x,rfl,_⟩:=b.n
  rfl
 obtain ⟨a,e,g,rfl,b,i,q⟩:=h
 obtain ⟨x,rfl,_⟩:=b.n
 refine ⟨_,aj (aV (pv 0) (pv 1) rfl),?_⟩
 exact ⟨_,ϱ,_,ϱ,a,CW .need,e,[],ϱ,i,T.cl _,T.nA _,(by show 0<1000;decide),q _ ae bn⟩
inductive iZ (val:Int->Int) (n:Nat) (vs:List V) (H:Hp) (Q:VK) (E:XK):Prop|mk (c:Int):vs=[.int c]->0<=c->c<n->(∀H',Same H H'->Q (.int (val c)) H')->iZ val n vs H Q E
def rF(val:Int->Int)(a:Int):Nat->Int
 | 0=>0
 | n+1=>rF val a n+val (a+n)
def wu(a:Int)(n:Nat):List Int:=(List.range n).map λi=>a+(i:Nat)
theorem qj(a:Int)(n:Nat):wu a (n+1)=wu a n++[a+n]:=by
 unfold wu
 rw [List.range_succ,List.map_append]
 rfl
theorem yH(val:Int->Int)(a:Int)(n:Nat):((wu a n).map val).sum=rF val a n:=by
 induction n with
 | zero=>rfl
 | succ n ih =>
  rw [qj,List.map_append,List.sum_append,ih]
  simp [rF]
def dn(val:Int->Int):Wd->List Int->Int->Int×List (Int×Int)
 | .take,[_,c],_=>(val c,[])
 | .mean,[_,c],_=>(val c,[])
 | .sum,[_,a,b],_=>(rF val a (b+1-a).toNat,[])
 | .give,[_,c],h=>(h,[(c,h)])
 | .add,[_,c,v],h=>(h,[(c,val c+v)])
 | _,_,h=>(h,[])
def inC(n:Nat):Wd->List Int->Prop
 | .sum,[_,a,b]=>a<n/\b<n
 | .add,[_,c,_]=>c<n
 | .plus,_=>False
 | .need,_=>False
 | _,[_,c]=>c<n
 | _,_=>False
def chK(cs:List (Int×Int)):List (Key×V):=cs.map λx=>(Sum.inl x.1,V.int x.2)
def chN(H:Hp)(cs:List (Int×Int))(a:Addr):Prop:=∃us,TF H a us/\Paired (prD H) (chK cs) us
inductive dU (P:Program) (w:World) (K:Frag) (mg:Str->Option Value) (CW:Wd->Addr) (val:Int->Int) (n:Nat) (wd:Wd) (B:Heap) (vs:List V) (H:Hp) (Q:VK) (E:XK):Prop|mk v ns hand fv:vs=[v,.int hand,.ref fv]->Ar wd ns->inC n wd ns->StO CW H wd ns v->CloT P w K mg B 4 fv (iZ val n) H->(∀t ch H',Same H H'->H' t=some (.tup [.int (dn val wd ns hand).1,.ref ch])->chN H' (dn val wd ns hand).2 ch->Q (.ref t) H')->dU P w K mg CW val n wd B vs H Q E
section
variable {val:Int->Int}{n:Nat}
theorem xp{g:Wd}{st:Stmt}{q:Str}(hw:g=.take\/g=.mean)(F:Fun K "step_done" q st f fd)(S:am ["self","hand","value_of"] ["self","hand","value_of"] (defScope st)){p1 p2 p3 p4 p5 p6 p7 x1 x2}(Y:defBody st=[.Return (some (.Tuple [.Call (.Name "value_of" p1) [.Attribute (.Name "self" p2) "cell" p3] [] p4,.Tuple [] x1 p5] x2 p6)) p7])(z:defScope st=defScope cg)(T:TxW K CW) :
  FnOk P w K mg base CX0 5 f fd ["self","hand","value_of"] (dU P w K mg CW val n g base):=by
 refine F.oj S λO A l s H vs Q E u h=>?_
 obtain ⟨v,Z,b,C,rfl,D,G,⟨a,I,rfl,m⟩,r,q⟩:=h
 rw [Y,z]
 rw [z] at u
 obtain ⟨x,y,rfl,h1,J,e⟩:=D.c (by rcases hw with rfl | rfl<;>rfl)
 rw [e] at m
 have j:y<n:=by rcases hw with rfl | rfl<;>exact G
 have L:dn val g [x,y] b=(val y,[]):=by rcases hw with rfl | rfl<;>rfl
 rw [L] at q
 refine ⟨_,aj (aw (aF (ac (my (k:=4) (i:=2) (sp:=iZ val n) P w K mg base rfl (.inl rfl) u (ac (aq (pv 0) rfl) af)) (ac (lK af) af)))),?_⟩
 refine ⟨C,ϱ,r.fn,_,ϱ,a,CW g,I,_,_,ϱ,m,T.cl _,T.nC _,bF,_,ϱ,r,y,ϱ,J.1,j,λH1 U=>⟨χ,λt o W od=>⟨χ,λX d=>q X t _ (U.trans ((ah W).trans (ah d))) ae ⟨[],⟨o,ah d _ _ ae,od⟩,.nil⟩⟩⟩⟩
theorem xt(F:Fun K "step_done" "GiveStep.step_done" cn f fd)(T:TxW K CW):FnOk P w K mg base CX0 5 f fd ["self","hand","value_of"] (dU P w K mg CW val n .give base):=by
 refine F.oj gR λr A g s H vs Q E O h=>?_
 obtain ⟨v,D,i,G,rfl,l,I,⟨a,m,rfl,j⟩,J,q⟩:=h
 obtain ⟨x,y,rfl,h1,L,e⟩:=l.c rfl
 rw [e] at j
 refine ⟨_,aj (aw (aF (ac (pv 1) (ac (lK (ac (aF (ac (aq (pv 0) rfl) (ac (pv 1) af))) af)) af)))),?_⟩
 refine ⟨_,ϱ,_,ϱ,a,CW .give,m,_,_,ϱ,j,T.cl _,T.nC _,bF,_,ϱ,χ,λt u=>⟨χ,λz o d od=>⟨χ,λC b=>q C z _ ((ah u).trans ((ah d).trans (ah b))) ae ⟨_,⟨o,ah b _ _ ae,od⟩,.cons ⟨t,ϱ,?_⟩ .nil⟩⟩⟩⟩
 exact ah b _ _ (ah d _ _ ae)
theorem zE(F:Fun K "step_done" "AddStep.step_done" cD f fd)(T:TxW K CW):FnOk P w K mg base CX0 5 f fd ["self","hand","value_of"] (dU P w K mg CW val n .add base):=by
 refine F.oj gY λL A j s H vs Q E O h=>?_
 obtain ⟨v,Y,l,C,rfl,D,G,⟨a,e,rfl,g⟩,m,q⟩:=h
 obtain ⟨x,y,z,rfl,h1,I,_⟩:=D.a
 refine ⟨_,aj (aw (aF (ac (pv 1) (ac (lK (ac (aF (ac (aq (pv 0) rfl) (ac (aH dX (my (k:=4) (i:=2) (sp:=iZ val n) P w K mg base rfl (.inl rfl) O (ac (aq (pv 0) rfl) af)) (aq (pv 0) rfl)) af))) af)) af)))),?_⟩
 have r:(mV .add [x,y,z]).lookup (Str.ofString "cell")=some (V.int y):=by
  show (az "amount" _ (az "cell" _ (az "where" _ []))).lookup _=_
  rw [aP θ,bF]
 have J:(mV .add [x,y,z]).lookup (Str.ofString "amount")=some (V.int z):=by
  show (az "amount" _ (az "cell" _ (az "where" _ []))).lookup _=_
  rw [bF]
 refine ⟨_,ϱ,_,ϱ,a,CW .add,e,_,_,ϱ,g,T.cl _,T.nC _,r,C,ϱ,m.fn,_,ϱ,a,CW .add,e,_,_,ϱ,g,T.cl _,T.nC _,r,_,ϱ,m,y,ϱ,I.1,G,λH1 u=>⟨_,ϱ,a,CW .add,e,_,_,ϱ,u _ _ g,T.cl _,T.nA _,J,_,_,ϱ,ϱ,
  χ,λt U=>⟨χ,λW o d od=>⟨χ,λX b=>q X W _ (u.trans ((ah U).trans ((ah d).trans (ah b)))) ae ⟨_,⟨o,ah b _ _ ae,od⟩,.cons ⟨t,ϱ,?_⟩ .nil⟩⟩⟩⟩⟩
 exact ah b _ _ (ah d _ _ ae)
theorem zD(F:Fun K "step_done" "SumStep.step_done" bo f fd)(T:TxW K CW)(B:TxB mg)(d:mg "sum"=none)(hn:n<=1000):FnOk P w K mg base CX0 5 f fd ["self","hand","value_of"] (dU P w K mg CW val n .sum base):=by
 refine F.oj gX λX A j s H vs Q E Y h=>?_
 obtain ⟨v,ns,m,D,rfl,G,I,⟨a,r,rfl,u⟩,J,q⟩:=h
 obtain ⟨x,y,z,rfl,h1,L,h3,h4⟩:=G.s
 refine ⟨_,aj (aw (aF (ac (aK (iK rfl) rfl d PyProof.Rows.boot_sum (ac (dF gi rfl (uO rfl B.range (ac (aq (pv 0) rfl) (ac (aH dX (aq (pv 0) rfl) ai) af))) (λ_ _ _ _=>cP)
  (λ_ _ _ _=>my (k:=4) (i:=1) (sp:=iZ val n) P w K mg base rfl (by first | exact Or.inl rfl | exact Or.inr (Or.inl rfl) | exact Or.inr (Or.inr rfl)) Y (ac (pv 0) af))) af)) (ac (lK af) af)))),?_⟩
 have O:(mV .sum [x,y,z]).lookup (Str.ofString "low")=some (V.int y):=by
  show (az "high" _ (az "low" _ (az "where" _ []))).lookup _=_
  rw [aP θ,bF]
 have U:(mV .sum [x,y,z]).lookup (Str.ofString "high")=some (V.int z):=by
  show (az "high" _ (az "low" _ (az "where" _ []))).lookup _=_
  rw [bF]
 have y0:0<=y:=L.1
 have W:z<n:=I.2
 refine ⟨_,ϱ,a,CW .sum,r,_,_,ϱ,u,T.cl _,T.nL _,O,_,ϱ,a,CW .sum,r,_,_,ϱ,u,T.cl _,T.nH _,U,_,_,ϱ,ϱ,_,_,ϱ,⟨ω,ω,ω,ω⟩,?_⟩
 have hz:(z+1-y).toNat<=n:=by omega
 have g:(1000:Nat)<=sizeLine:=by decide
 refine oF (λi l Z=>Same H Z/\l=((wu y i).map val).map V.int) ⟨Same.refl _,ϱ⟩ ω ?_ ?_
 ·rintro i l H2 hi ⟨e,rfl⟩
  have C:=J.keep e
  refine lU ⟨D,ϱ,C.fn,_,ϱ,_,ϱ,C,y+i,ϱ,ω,ω,λH3 s3=>⟨e.trans s3,?_⟩⟩
  rw [qj,List.map_append,List.map_append]
  rfl
 ·rintro l H2 ⟨e,rfl⟩ p hp
  refine ⟨p,_,ϱ,SqL.of ae,?_⟩
  rw [yH]
  exact ⟨χ,λt o ht od=>⟨χ,λt2 b=>q t2 t _ (e.trans ((ah hp).trans ((ah ht).trans (ah b)))) ae ⟨[],⟨o,ah b _ _ ae,od⟩,.nil⟩⟩⟩
end
end
end K53
namespace K53
open PySem L2 Lo
section
variable {P:Program}{w:World}{K:Frag}{mg:Str->Option Value}{base:Heap}{f CL CS CH CV:Addr}{fd:FuncData}{C:Kd->Addr}{CW:Wd->Addr}
theorem jW(F:Fun K "beside" "Lock.beside" fJ f fd)(T:TxK K C)(S:TxS K mg)(D:∀k,GM P w K mg base CX0 1 (C k) "kind" ["self"] (gV k)):FnOk P w K mg base CX0 2 f fd ["self","other"] (ja C):=by
 refine F.oj sc_Lock_beside λY A r s H vs Q E x h=>?_
 obtain ⟨v,u,k,j,rfl,⟨a,d,rfl,g⟩,⟨b,l,rfl,m⟩,q⟩:=h
 obtain ⟨y,G,I,J,L,O,U,W,X⟩:=S.sh
 refine ⟨_,ag (aD (i:=2) sc_Lock_beside.nd rfl (Or.inl rfl) (tO (bv mD (aq (pv 0) rfl) (aq (pv 1) rfl) (ay _)) (eO (bv mD (aq (pv 1) rfl) (aq (pv 0) rfl) (ay _)))))
  (aj (aw (tO (pv 2) (eO (bv (wO (cT2 cStr cStr) (hun x)) (aF (ac (pm0 (D k.1) (pv 0) (T.cl k.1) x) (ac (pm0 (D j.1) (pv 1) (T.cl j.1) x) af))) (gp (v:=.ref y) rfl L rfl) rfl))))),?_⟩
 refine ⟨_,ϱ,a,_,d,_,_,ϱ,g,T.cl _,T.nL _,jo _ _,_,ϱ,b,_,l,_,_,ϱ,m,T.cl _,T.nF _,fX _ _,_,_,ϱ,ϱ,_,ϱ,?_⟩
 by_cases h1:k.2.2<j.2.1
 ·have e:aG k j=true:=by unfold aG;rw [decide_eq_true h1];rfl
  rw [e] at q
  refine a9 (λ_=>?_) (λc=>absurd (τ h1) c)
  exact ⟨_,ϱ,_,ϱ,cu (q H (Same.refl H))⟩
 refine a9 (λc=>absurd (Ξ c) h1) (λ_=>?_)
 refine ⟨_,ϱ,b,_,l,_,_,ϱ,m,T.cl _,T.nL _,jo _ _,_,ϱ,a,_,d,_,_,ϱ,g,T.cl _,T.nF _,fX _ _,_,_,ϱ,ϱ,?_⟩
 by_cases h2:j.2.2<k.2.1
 ·have e:aG k j=true:=by unfold aG;rw [decide_eq_true h2,Bool.or_true];rfl
  rw [e] at q
  refine ⟨_,ϱ,_,ϱ,a9 (λ_=>q H (Same.refl H)) (λc=>absurd (τ h2) c)⟩
 have e:aG k j=ot k.1 j.1:=by unfold aG;rw [decide_eq_false h1,decide_eq_false h2];rfl
 rw [e] at q
 refine ⟨_,ϱ,_,ϱ,a9 (λc=>absurd (Ξ c) h2) (λ_=>?_)⟩
 refine ⟨_,ϱ,a,d,_,ϱ,g,fW _ _ θ θ,_,ϱ,?_⟩
 refine ⟨_,ϱ,b,l,_,ϱ,m,fW _ _ θ θ,_,ϱ,χ,λt Z=>?_⟩
 refine ⟨(kdS k.1,kdS j.1),y,_,([("read","read"),("read","mean"),("mean","read")]:List (Str×Str)),⟨t,_,_,ϱ,.inl ae,ϱ,ϱ⟩,ϱ,.inr O.sq.sq,.cons ⟨G,_,_,ϱ,U.sq,ϱ,ϱ⟩ (.cons ⟨I,_,_,ϱ,W.sq,ϱ,ϱ⟩ (.cons ⟨J,_,_,ϱ,X.sq,ϱ,ϱ⟩ .nil)),?_⟩
 have z:=q _ (ah (o:=.tup [.str (kdS k.1),.str (kdS j.1)]) Z)
 rw [rT]
 exact z
theorem jV(F:Fun K "covers" "Lock.covers" fH f fd)(T:TxK K C)(R:TxR K mg)(G:∀k,GM P w K mg base CX0 1 (C k) "kind" ["self"] (gV k)):FnOk P w K mg base CX0 2 f fd ["self","other"] (i9 C):=by
 refine F.oj sc_Lock_covers λI A r s H vs Q E z h=>?_
 obtain ⟨v,u,k,j,rfl,⟨a,g,rfl,l⟩,⟨b,m,rfl,o⟩,q⟩:=h
 obtain ⟨d,x,y⟩:=R.rk
 refine ⟨_,ag (aD (i:=2) sc_Lock_covers.nd rfl (Or.inl rfl) (hZ (bv tX (aq (pv 0) rfl) (aq (pv 1) rfl) (ay _)) (eO (bv tX (aq (pv 1) rfl) (aq (pv 0) rfl) (ay _)))))
  (aj (aw (hZ (pv 2) (eO (bv C3 (au (t8 (D:=mr)) (gp (v:=.ref d) rfl x rfl) (pm0 (G k.1) (pv 0) (T.cl k.1) z) (λ_ _=>rfl)) (au (t8 (D:=mr)) (gp (v:=.ref d) rfl x rfl) (pm0 (G j.1) (pv 1) (T.cl j.1) z) (λ_ _=>rfl)) (ay _)))))),?_⟩
 refine ⟨_,ϱ,a,_,g,_,_,ϱ,l,T.cl _,T.nF _,fX _ _,_,ϱ,b,_,m,_,_,ϱ,o,T.cl _,T.nF _,fX _ _,_,_,ϱ,ϱ,_,ϱ,?_⟩
 by_cases h1:k.2.1<=j.2.1
 ·refine a9 (λ_=>?_) (λc=>absurd (τ h1) c)
  refine ⟨_,ϱ,b,_,m,_,_,ϱ,o,T.cl _,T.nL _,jo _ _,_,ϱ,a,_,g,_,_,ϱ,l,T.cl _,T.nL _,jo _ _,_,_,ϱ,ϱ,?_⟩
  by_cases h2:j.2.2<=k.2.2
  ·have e:bH k j=decide (rW j.1<=rW k.1):=by unfold bH;rw [decide_eq_true h1,decide_eq_true h2];rfl
   rw [e] at q
   refine ⟨_,ϱ,_,ϱ,a9 (λ_=>?_) (λc=>absurd (τ h2) c)⟩
   refine ⟨_,ϱ,a,g,_,ϱ,l,fW _ _ θ θ,_,ϱ,d,_,rW k.1,ϱ,ϱ,y,tK k.1,ϱ,?_⟩
   exact ⟨_,ϱ,b,m,_,ϱ,o,fW _ _ θ θ,_,ϱ,d,_,rW j.1,ϱ,ϱ,y,tK j.1,ϱ,_,_,ϱ,ϱ,q H (Same.refl H)⟩
  ·have e:bH k j=false:=by unfold bH;rw [decide_eq_false h2,Bool.and_false];rfl
   rw [e] at q
   exact ⟨_,ϱ,_,ϱ,a9 (λc=>absurd (Ξ c) h2) (λ_=>q H (Same.refl H))⟩
 ·have e:bH k j=false:=by unfold bH;rw [decide_eq_false h1];rfl
  rw [e] at q
  refine a9 (λc=>absurd (Ξ c) h1) (λ_=>?_)
  exact ⟨_,ϱ,_,ϱ,aT (q H (Same.refl H))⟩
theorem uV(F:Fun K "__init__" "Locks.__init__" gD f fd)(L:TxL K C CL):FnOk P w K mg base CX0 1 f fd ["self"] (lX CL):=by
 refine F.oj nU λr A d s H vs Q E u h=>?_
 obtain ⟨l,m,rfl,i,q⟩:=h
 refine ⟨_,aj (aV (pv 0) (bE af) rfl),?_⟩
 refine ⟨χ,λp g=>?_⟩
 have j:l≠p:=ap i g
 refine ⟨_,ϱ,l,CL,m,[],ϱ,(by rw [ao j];exact i),L.cl,L.nP,(by show 0<1000;decide),?_⟩
 exact q p _ g (by rw [ao (Ne.symm j),ae]) ae λb o n e=>by rw [ao n,ao (ap e g)];exact e
def Un(ps:List Pr):Prop:=∃x,∀y∈ps,y.1=x
theorem eJ(p:Pa)(due:List Lk):∀x∈due.map (λk=>((p,k):Pr)),x.1=p:=λx hx=>by
 obtain ⟨k,_,rfl⟩:=ϑ.mp hx
 rfl
def mY(due:List Lk)(k:Lk):List Lk:=if (due.any λj=>bH j k)=true then due else due++[k]
theorem zZ(b:List Lk)(k:Lk):(mY b k).length<=b.length+1:=by
 unfold mY
 split<;>simp
theorem pwn{X:Cx}{e:Expr}:PW X e (λ_ _ _=>False):=λ_ _ _ _ _ _ _ h=>h.elim
def tNo:TE:=λ_ _ _=>False
theorem fV{X:Cx}{e:Expr}:PE X e tNo:=λ_ _ _ _ _ _ h=>h.elim
section
variable (C:Kd->Addr)(CL:Addr)(K:Frag)
inductive uI (vs:List V) (H:Hp) (Q:VK) (E:XK):Prop|mk l p ps k:vs=[.ref l,.int (k:Nat)]->LS C CL K H l p ps->k<ps.length->ps.length<=1000->Un ps->(∀H',Same H H'->Q .non H')->uI vs H Q E
inductive uH (R:Frag->Hp->Pr->V->Prop) (vs:List V) (H:Hp) (Q:VK) (E:XK):Prop|mk l p ps:vs=[.ref l]->LS C CL K H l p ps->ps.length<=1000->Un ps->(∀q H' us,Same H H'->H q=none->H' q=some (.lst us)->Paired (R K H') ps us->Q (.ref q) H')->uH R vs H Q E
inductive uG (vs:List V) (H:Hp) (Q:VK) (E:XK):Prop|mk l p ps:vs=[.ref l]->LS C CL K H l p ps->ps.length<=1000->Un ps->(∀q H',Same H H'->H' q=some (.lst [])->Q (.ref q) H')->uG vs H Q E
inductive AX (vs:List V) (H:Hp) (Q:VK) (E:XK):Prop|mk l p ps v x:vs=[.ref l,v]->LS C CL K H l p ps->ps.length<=1000->Un ps->cPa.rp K H x v->(∀H',Same H H'->Q .non H')->AX vs H Q E
inductive AZ (vs:List V) (H:Hp) (Q:VK) (E:XK):Prop|mk l p due v x u k:vs=[.ref l,v,u]->(LS C CL K H l p ((due:List Lk).map λk=>((x,k):Pr)))->due.length<1000->cPa.rp K H x v->LkO C H k u->(∀H',LS C CL K H' l p ((mY due k).map λk=>((x,k):Pr))->Kp p H H'->Q (.bl true) H')->AZ vs H Q E
inductive vZ (vs:List V) (H:Hp) (Q:VK) (E:XK):Prop|mk l p due v z x u k:vs=[.ref l,v,u]->(LS C CL K H l p ((due:List Lk).map λk=>((x,k):Pr)))->due.length<=1000->cPa.rp K H z v->x≠z->LkO C H k u->(∀H',Same H H'->Q (.bl (due.all λj=>aG j k)) H')->vZ vs H Q E
inductive AY (vs:List V) (H:Hp) (Q:VK) (E:XK):Prop|mk l p due v x y:vs=[.ref l,v]->(LS C CL K H l p ((due:List Lk).map λk=>((x,k):Pr)))->due.length<=1000->cPa.rp K H y v->(∀us q p' dl H',(x=y->us=[])->(x≠y->H p=some (.lst us))->H' l=some (.ins CL dl [("pairs",.ref p')])->H' p'=some (.lst us)->H p'=none->Kp l H H'->H' q=some (.lst [])->Q (.ref q) H')->AY vs H Q E
end
theorem zA(F:Fun K "hinderer" "Locks.hinderer" c7 f fd)(B:TxB mg)(L:TxL K C CL):FnOk P w K mg base CX0 3 f fd ["self","place"] (uI C CL K):=by
 refine F.oj sc_Locks_hinderer λar A G s H vs Q E hr h=>?_
 obtain ⟨l,p,e,k,rfl,ls,O,hz,⟨x,U⟩,q⟩:=h
 have nd:=sc_Locks_hinderer.nd
 obtain ⟨Y,vs,Z,hp,W⟩:=id ls
 have X:=W.len
 obtain ⟨uk,g,j⟩:=W.get1 (ξ O)
 refine ⟨_,ag (aD (i:=2) nd rfl (Or.inl rfl) (au (r:=bz K) aE (aq (pv 0) rfl) (pv 1) (λ_ _=>rfl)))
  (ag (hW PassesOwn.never rfl (cN rfl B.range (ac (pv 1) af)) (b7 (i:=3) nd rfl (Or.inl rfl))
   (ag (aD (i:=4) nd rfl (Or.inl rfl) (au (r:=bz K) aE (aq (pv 0) rfl) (pv 3) (λ_ _=>rfl)))
   (aj (aI (PW.pt (fz (ax (wL cPa (hun hr)) (au (r:=aQ K) aB (pv 4) ai (λ_ _=>rfl)) (au (r:=aQ K) aB (pv 2) ai (λ_ _=>rfl)) (ay _)) pwn)) aJ aC))))
  (aj (aw cK))),?_⟩
 refine ⟨_,ϱ,l,CL,Y,_,_,ϱ,Z,L.cl,L.nP,cq,_,ϱ,p,_,_,_,ϱ,ϱ,SqL.of hp,aW g,?_⟩
 refine ⟨_,ϱ,(k:Int),ϱ,(bnd ω).1,(bnd ω).2,?_⟩
 rw [Int.toNat_natCast]
 refine iw (n:=k) (λi σ H'=>Same H H'/\∃I J,σ=[some (.ref l),some (.int (k:Nat)),some uk,I,J]) ⟨Same.refl H,none,none,ϱ⟩ ?_ ?_
 ·rintro i σ H1 hi ⟨d,I,J,rfl⟩
  rw [Int.zero_add]
  obtain ⟨m,a4,o,u,y⟩:=ls.keep L.ne d
  have b:i<e.length:=by omega
  obtain ⟨ui,z,D⟩:=y.get1 (ξ b)
  obtain ⟨a1,p1,l1,rfl,t1,c1,o1⟩:=D
  obtain ⟨a2,p2,l2,rfl,t2,c2,o2⟩:=j.keep L.ne (dj d)
  refine ⟨_,ϱ,l,CL,m,_,_,ϱ,o,L.cl,L.nP,cq,_,ϱ,p,_,_,_,ϱ,ϱ,SqL.of u,aW z,?_⟩
  refine ⟨_,ϱ,a1,_,_,_,ϱ,ϱ,t1.sq,ϱ,_,ϱ,a2,_,_,_,ϱ,ϱ,t2.sq,ϱ,e[i].1,e[k].1,c1,c2,_,ϱ,?_⟩
  rw [τ ((U _ (List.getElem_mem b)).trans (U _ (List.getElem_mem O)).symm)]
  exact aT (aT ⟨d,_,_,ϱ⟩)
 ·rintro σ H1 ⟨d,I,J,rfl⟩
  exact q H1 d
theorem xn(F:Fun K "held_pairs" "Locks.held_pairs" bq f fd)(B:TxB mg)(L:TxL K C CL)(Z:GM P w K mg base CX0 3 CL "hinderer" ["self","place"] (uI C CL K)) :
  FnOk P w K mg base CX0 4 f fd ["self"] (uH C CL K (PrO C)):=by
 refine F.oj iC λW A x s H vs Q E X h=>?_
 obtain ⟨l,p,O,rfl,ls,U,un,q⟩:=h
 obtain ⟨m,vs,u,D,G⟩:=id ls
 have I:=G.len
 refine ⟨_,aj (aw (dF gS rfl (cN rfl B.range (ac (aK be rfl B.len PySem.boot_len (ac (aq (pv 0) rfl) af)) af))
  (λ_ _ _ _=>fh (ax pR (pm Z (pv 1) L.cl X (ac (pv 0) af)) cK (ay _))) (λ_ _ _ _=>au (r:=bz K) aE (pfK K 1) (pv 0) (λ_ _=>rfl)))),?_⟩
 refine ⟨_,ϱ,l,CL,m,_,_,ϱ,u,L.cl,L.nP,cq,p,_,ϱ,.inl (SqL.of D),(vs.length:Int),ϱ,(bnd ω).1,(bnd ω).2,?_⟩
 rw [Int.toNat_natCast]
 refine jq (n:=vs.length) (λi y Y=>Same H Y/\y=vs.take i) ⟨Same.refl H,ϱ⟩ (ko ω) ?_ ?_
 ·rintro i y H1 J ⟨d,rfl⟩
  refine ⟨_,ϱ,l,m,_,ϱ,d _ _ u,eZ θ,_,ϱ,l,p,O,i,ϱ,ls.keep L.ne d,ω,U,un,λH2 j=>⟨ϱ,_,ϱ,cu ?_⟩⟩
  have b:=d.trans j
  refine ⟨_,ϱ,l,CL,m,_,_,ϱ,b _ _ u,L.cl,L.nP,cq,_,ϱ,p,_,_,_,ϱ,ϱ,SqL.of (b _ _ D),aW (ξ J),b,?_⟩
  rw [List.take_succ,ξ J]
  rfl
 ·rintro y H1 ⟨d,rfl⟩ z e
  rw [List.take_length]
  have j:=d.trans (ah (o:=.lst vs) e)
  exact q z _ _ j (d.free e) ae (pp G λ_ _ g=>g.keep L.ne (dj j))
theorem wV(F:Fun K "waiting_pairs" "Locks.waiting_pairs" bc f fd)(B:TxB mg)(L:TxL K C CL)(O:GM P w K mg base CX0 3 CL "hinderer" ["self","place"] (uI C CL K)):FnOk P w K mg base CX0 4 f fd ["self"] (uG C CL K):=by
 refine F.oj gh λD A d s H vs Q E G h=>?_
 obtain ⟨l,p,r,rfl,ls,u,un,q⟩:=h
 obtain ⟨j,vs,m,x,y⟩:=id ls
 have o:=y.len
 refine ⟨_,aj (aw (dF fq rfl (cN rfl B.range (ac (aK be rfl B.len PySem.boot_len (ac (aq (pv 0) rfl) af)) af))
  (λ_ _ _ _=>fh (ax lL (pm O (pv 1) L.cl G (ac (pv 0) af)) cK (ay _))) (λ_ _ _ _=>fV))),?_⟩
 refine ⟨_,ϱ,l,CL,j,_,_,ϱ,m,L.cl,L.nP,cq,p,_,ϱ,.inl (SqL.of x),(vs.length:Int),ϱ,(bnd ω).1,(bnd ω).2,?_⟩
 rw [Int.toNat_natCast]
 refine jq (n:=vs.length) (λi e I=>Same H I/\e=[]) ⟨Same.refl H,ϱ⟩ (ko ω) ?_ ?_
 ·rintro i e H1 W ⟨b,rfl⟩
  exact ⟨_,ϱ,l,j,_,ϱ,b _ _ m,eZ θ,_,ϱ,l,p,r,i,ϱ,ls.keep L.ne b,ω,u,un,λU J=>⟨ϱ,_,ϱ,aT ⟨b.trans J,ϱ⟩⟩⟩
 ·rintro e H1 ⟨b,rfl⟩ z g
  exact q z _ (b.trans (ah g)) ae
theorem zB(F:Fun K "held" "Locks.held" cS f fd)(T:TxK K C)(L:TxL K C CL)(GP:GM P w K mg base CX0 4 CL "held_pairs" ["self"] (uH C CL K (PrO C)))(GT:∀k,GM P w K mg base CX0 2 (C k) "told" ["self"] (gf C)) :
  FnOk P w K mg base CX0 5 f fd ["self"] (uH C CL K cPr.rp):=by
 refine F.oj nX λak A J s H vs Q E U h=>?_
 obtain ⟨l,p,O,rfl,ls,hz,un,q⟩:=h
 obtain ⟨dx,vs,hl,hp,pr⟩:=id ls
 refine ⟨_,aj (aw (dF kX rfl (bZ (pm0 GP (pv 0) L.cl U)) (λ_ _ _ _=>cP)
  (λ_ _ _ _=>aF (ac (au (r:=aQ K) aB (pv 0) ai (λ_ _=>rfl)) (ac (PE.ex λkd:Kd=>pm0 (GT kd) (au (r:=aQ K) aB (pv 0) ai (λ_ _=>rfl)) (T.cl kd) U) af))))),?_⟩
 refine ⟨_,ϱ,l,dx,_,ϱ,hl,eZ θ,l,p,O,ϱ,ls,hz,un,λx H1 us W _ X Y=>⟨x,ϱ,⟨_,SqL.of X⟩,?_⟩⟩
 have d:=Y.len
 refine cJ (xs:=us) (λi e Z=>Same H1 Z/\Paired (cPr.rp K Z) (O.take i) e) ⟨Same.refl _,.nil⟩ (ko ω) (λi e G _ g=>SqL.of (g.1 _ _ X)) ?_ ?_
 ·rintro i u e G hu ⟨m,I⟩
  obtain ⟨y,ey,ry⟩:=Y.get hu
  obtain ⟨a,pu,lu,rfl,ta,cp,lo⟩:=ry.keep L.ne (dj m)
  obtain ⟨la,da,rfl,ha⟩:=id lo
  refine lU ⟨_,ϱ,a,_,_,_,ϱ,ϱ,ta.sq,ϱ,y.2.1,_,ϱ,a,_,_,_,ϱ,ϱ,ta.sq,ϱ,la,da,_,ϱ,ha,fW _ _ θ θ,_,y.2,ϱ,lo,λt ht=>⟨χ,λt2 j=>?_⟩⟩
  have b:Same G (upd (upd G t (.tup [.str (kdS y.2.1),.int y.2.2.1,.int y.2.2.2])) t2 (.tup [pu,.ref t])):=(ah ht).trans (ah j)
  refine ⟨m.trans b,?_⟩
  rw [List.take_succ,ey]
  exact (pp I λ_ _ g=>cPr.keep b.ts g).app (.cons (B4 (k:=y) ae (cPa.keep b.ts cp) (p8 (ah j _ _ ae))) .nil)
 ·rintro e G ⟨m,I⟩ z D
  rw [← d,List.take_length] at I
  have b:=ah (o:=.lst e) D
  exact q z _ _ (W.trans (m.trans b)) ((W.trans m).free D) ae (pp I λ_ _ g=>cPr.keep b.ts g)
theorem se(F:Fun K "waiting" "Locks.waiting" bV f fd)(L:TxL K C CL)(X:GM P w K mg base CX0 4 CL "waiting_pairs" ["self"] (uG C CL K)):FnOk P w K mg base CX0 5 f fd ["self"] (uG C CL K):=by
 refine F.oj jM λG A d s H vs Q E I h=>?_
 obtain ⟨l,p,o,rfl,ls,r,un,q⟩:=h
 obtain ⟨y,vs,D,Y,Z⟩:=id ls
 refine ⟨_,aj (aw (dF iO rfl (bZ (pm0 X (pv 0) L.cl I)) (λ_ _ _ _=>cP) (λ_ _ _ _=>fV))),?_⟩
 refine ⟨_,ϱ,l,y,_,ϱ,D,eZ θ,l,p,o,ϱ,ls,r,un,λx H1 J j=>⟨x,ϱ,⟨_,SqL.of j⟩,?_⟩⟩
 refine cJ (xs:=[]) (λi b O=>Same H1 O/\b=[]) ⟨Same.refl _,ϱ⟩ (ϖ _) (λi b m _ g=>SqL.of (g.1 _ _ j)) (λi u b m U=>by cases U) ?_
 rintro b m ⟨W,rfl⟩ z e
 exact q z _ (J.trans (W.trans (ah e))) ae
theorem uS(F:Fun K "waiting_place" "Locks.waiting_place" bX f fd)(B:TxB mg)(L:TxL K C CL)(GH:GM P w K mg base CX0 3 CL "hinderer" ["self","place"] (uI C CL K)) :
  FnOk P w K mg base CX0 4 f fd ["self","p"] (AX C CL K):=by
 refine F.oj sc_Locks_waiting_place λa5 A D s H vs Q E J h=>?_
 obtain ⟨l,p,m,v,x,rfl,ls,O,un,U,q⟩:=h
 have nd:=sc_Locks_waiting_place.nd
 obtain ⟨W,vs,X,Y,Z⟩:=id ls
 have I:=Z.len
 refine ⟨_,ag (hW PassesOwn.never rfl (cN rfl B.range (ac (aK be rfl B.len PySem.boot_len (ac (aq (pv 0) rfl) af)) af)) (b7 (i:=2) nd rfl (Or.inl rfl))
   (aj (aI (PW.pt (fz (ax (wQ cPa (hun J)) (au (r:=aQ K) aB (au (r:=bz K) aE (aq (pv 0) rfl) (pv 2) (λ_ _=>rfl)) ai (λ_ _=>rfl)) (pv 1) (ay _))
    (gm (ax lL (pm GH (pv 0) L.cl J (ac (pv 2) af)) cK (ay _))))) aJ aC)))
  (aj (aw cK)),?_⟩
 refine ⟨_,ϱ,l,CL,W,_,_,ϱ,X,L.cl,L.nP,cq,p,_,ϱ,.inl (SqL.of Y),(vs.length:Int),ϱ,(bnd ω).1,(bnd ω).2,?_⟩
 rw [Int.toNat_natCast]
 refine iw (n:=vs.length) (λi σ H'=>Same H H'/\∃G,σ=[some (.ref l),some v,G]) ⟨Same.refl H,none,ϱ⟩ ?_ ?_
 ·rintro i σ H1 hi ⟨b,G,rfl⟩
  rw [Int.zero_add]
  have g:=ls.keep L.ne b
  obtain ⟨d,a0,e,o,u⟩:=id g
  have j:i<m.length:=by omega
  obtain ⟨ui,y,z⟩:=u.get1 (ξ j)
  obtain ⟨a1,p1,l1,rfl,t1,c1,o1⟩:=z
  refine ⟨_,ϱ,l,CL,d,_,_,ϱ,e,L.cl,L.nP,cq,_,ϱ,p,_,_,_,ϱ,ϱ,SqL.of o,aW y,a1,_,_,_,ϱ,ϱ,t1.sq,ϱ,_,ϱ,m[i].1,x,c1,cPa.keep b.ts U,_,ϱ,?_⟩
  cases decide (m[i].1=x) with
  | true=>exact cu ⟨_,rfl,l,d,_,rfl,e,eZ θ,_,rfl,l,p,m,i,rfl,g,j,O,un,λH2 s2=>⟨rfl,_,rfl,aT ⟨b.trans s2,_,rfl⟩⟩⟩
  | false=>exact aT (aT ⟨b,_,rfl⟩)
 ·rintro σ H1 ⟨b,G,rfl⟩
  exact q H1 b
theorem Bz(F:Fun K "ask" "Locks.ask" dM f fd)(B:TxB mg)(T:TxK K C)(L:TxL K C CL)(GC:∀k,GM P w K mg base CX0 2 (C k) "covers" ["self","other"] (i9 C))(GH:GM P w K mg base CX0 3 CL "hinderer" ["self","place"] (uI C CL K))(GW:GM P w K mg base CX0 4 CL "waiting_place" ["self","p"] (AX C CL K)) :
  FnOk P w K mg base CX0 5 f fd ["self","p","lock"] (AZ C CL K):=by
 refine F.oj sc_Locks_ask λc0 A aS s H vs Q E hr h=>?_
 obtain ⟨l,p,b,v,x,u,k,rfl,ls,hz,hx,hu,q⟩:=h
 have nd:=sc_Locks_ask.nd
 refine ⟨_,ag (aI (ax lL (pm GW (pv 0) L.cl hr (ac (pv 1) af)) cK (ay _)) aJ aC)
  (ag (aI (cB (aK (re rfl) rfl B.any PyProof.Rows.boot_any (ac (dF mo rfl (bZ (aq (pv 0) rfl)) (λ_ _ _ _=>cP)
   (λ_ _ _ _=>hZ (bv (pT K cPa (hun hr)) (au (r:=aQ K) aB (pv 0) ai (λ_ _=>rfl)) (pv 1) (ay _)) (eO (PE.ex λkd:Kd=>pm (GC kd) (au (r:=aQ K) aB (pv 0) ai (λ_ _=>rfl)) (T.cl kd) hr (ac (pv 2) af))))) af))) (aj (aw oB)) aC)
  (ag (aO (gK PySem.F.plainAttrs_list PySem.F.slot_list_append PySem.F.type_list_append eL (aq (pv 0) rfl) (ac (aF (ac (pv 1) (ac (pv 2) af))) af)))
  (aj (aw (bv pR (pm GH (pv 0) L.cl hr (ac (aH mC (aK be rfl B.len PySem.boot_len (ac (aq (pv 0) rfl) af)) ai) af)) cK (ay _)))))),?_⟩
 obtain ⟨dx,vs,hl,hp,pr⟩:=id ls
 have D:=pr.len
 rw [ν] at D
 refine ⟨_,ϱ,l,dx,_,ϱ,hl,eZ θ,_,ϱ,l,p,_,v,x,ϱ,ls,by rw [ν];exact Nat.le_of_lt hz,⟨x,eJ x b⟩,hx,λH1 s1=>⟨ϱ,_,ϱ,aT ?_⟩⟩
 have as:=s1 _ _ hl
 have Z:=s1 _ _ hp
 refine ⟨_,ϱ,l,CL,dx,_,_,ϱ,as,L.cl,L.nP,cq,p,ϱ,⟨_,SqL.of Z⟩,?_⟩
 refine cJ (xs:=vs) (λi ys H'=>Same H1 H'/\ys=((b.take i).map λy=>bH y k).map V.bl) ⟨Same.refl _,ϱ⟩ (ko ω) (λi ys H2 _ g=>SqL.of (g.1 _ _ Z)) ?_ ?_
 ·rintro i u0 ys H2 bd ⟨s2,rfl⟩
  obtain ⟨y0,ey,ry⟩:=pr.get bd
  rw [List.getElem?_map] at ey
  obtain ⟨y,ab,rfl⟩:=Option.map_eq_some_iff.mp ey
  have sx:=s1.trans s2
  obtain ⟨a,pu,lu,rfl,ta,cp,lo⟩:=ry.keep L.ne (dj sx)
  obtain ⟨la,da,rfl,ha⟩:=id lo
  refine lU ⟨_,ϱ,a,_,_,_,ϱ,ϱ,ta.sq,ϱ,_,ϱ,x,x,cp,cPa.keep sx.ts hx,_,ϱ,?_⟩
  rw [τ rfl]
  refine cu ⟨y.1,_,ϱ,a,_,_,_,ϱ,ϱ,ta.sq,ϱ,la,da,_,ϱ,ha,fW _ _ θ θ,_,ϱ,_,_,y,k,ϱ,lo,hu.keep L.ne (dj sx),λU e=>⟨s2.trans e,?_⟩⟩
  rw [List.take_succ,ab,List.map_append,List.map_append]
  rfl
 ·rintro ys H2 ⟨s2,rfl⟩ y hy
  rw [show vs.length=b.length from D.symm,List.take_length]
  refine ⟨y,_,ϱ,SqL.of ae,_,ϱ,?_⟩
  have e:=s1.trans (s2.trans (ah (o:=.lst ((b.map λy=>bH y k).map V.bl)) hy))
  generalize (upd H2 y (HO.lst ((b.map λy=>bH y k).map V.bl)))=U at e ⊢
  rw [show (b.map λy=>bH y k).any id=b.any λy=>bH y k by rw [List.any_map];rfl]
  unfold mY at q
  cases ec:b.any λy=>bH y k with
  | true =>
   rw [ec,if_pos rfl] at q
   exact cu (q U (ls.keep L.ne e) (Kp.of e))
  | false =>
   rw [ec,if_neg Bool.false_ne_true,List.map_append] at q
   have G:=e _ _ hl
   have d:=e _ _ hp
   refine aT ⟨_,ϱ,l,CL,dx,_,_,ϱ,G,L.cl,L.nP,cq,.inl ⟨ϱ,_,SqL.of d⟩,_,ϱ,_,ϱ,χ,λt ht=>?_⟩
   have np:p≠t:=ap d ht
   have aR:(upd U t (.tup [v,u])) p=some (.lst vs):=by rw [ao np];exact d
   refine ⟨p,vs,_,ϱ,ϱ,aR,cW ω,?_⟩
   have I:Kp p U (upd (upd U t (.tup [v,u])) p (.lst (vs++[.ref t]))):=(Kp.of (ah ht)).trans bn
   have J:=(dj e).trans (I.fs (CL:=CL) d)
   have j:LS C CL K (upd (upd U t (.tup [v,u])) p (.lst (vs++[.ref t]))) l p ((b.map λk=>((x,k):Pr))++[(x,k)]) :=
    ⟨dx,_,I l _ (iG G d (by intro z;cases z)) G,ae,(pp pr λ_ _ g=>g.keep L.ne J).app (.cons ⟨t,v,u,ϱ,.inl (by rw [ao (Ne.symm np),ae]),cPa.keep J.ts hx,hu.keep L.ne J⟩ .nil)⟩
   have a0:=(Kp.of (p:=p) e).trans I
   generalize (upd (upd U t (.tup [v,u])) p (HO.lst (vs++[.ref t])))=H4 at j a0 ⊢
   obtain ⟨W,ak,X,Y,ar⟩:=id j
   have O:b.length+1=ak.length:=by have:=ar.len;rw [List.length_append,ν] at this;exact this
   refine ⟨_,ϱ,l,W,_,ϱ,X,eZ θ,_,ϱ,l,CL,W,_,_,ϱ,X,L.cl,L.nP,cq,p,_,ϱ,.inl (SqL.of Y),_,_,ϱ,ϱ,?_⟩
   rw [← O]
   have ei:((b.length+1:Nat):Int)-1=(b.length:Nat):=by omega
   refine ⟨l,p,_,b.length,congrArg (λi=>[V.ref l,V.int i]) ei,j,by rw [List.length_append,ν];exact Nat.lt_succ_self _,by rw [List.length_append,ν];exact hz,⟨x,λy hy=>?_⟩,λH5 s5=>⟨ϱ,q H5 (j.keep L.ne s5) (a0.trans (Kp.of s5))⟩⟩
   rcases List.mem_append.mp hy with m | m
   ·exact eJ x b y m
   ·rw [ϵ.mp m]
theorem zC(F:Fun K "free" "Locks.free" bp f fd)(L:TxL K C CL)(GP:GM P w K mg base CX0 4 CL "waiting_pairs" ["self"] (uG C CL K)) :
  FnOk P w K mg base CX0 5 f fd ["self","p"] (AY C CL K):=by
 refine F.oj sc_Locks_free λc3 A bl s H vs Q E hr h=>?_
 obtain ⟨l,p,a1,v,x,y,rfl,ls,hz,hx,q⟩:=h
 have nd:=sc_Locks_free.nd
 refine ⟨_,ag (aD (i:=2) nd rfl (Or.inl rfl) (pm0 GP (pv 0) L.cl hr))
  (ag (aV (pv 0) (dF k7 rfl (bZ (aq (pv 0) rfl)) (λ_ _ _ _=>fh (ax (tW K cPa (hun hr)) (au (r:=aQ K) aB (pv 0) ai (λ_ _=>rfl)) (pv 1) (ay _))) (λ_ _ _ _=>pv 0)) rfl)
  (ag (aD (i:=3) nd rfl (Or.inr rfl) (dF kZ rfl (bZ (pm0 GP (pv 0) L.cl hr)) (λ_ _ _ _=>cP) (λ_ _ _ _=>fV)))
  (aj (aw (dF kY rfl (bZ (pv 2)) (λ_ _ _ _=>fh (PW.pt (fz (ax (tW K cPa (hun hr)) (au (r:=aQ K) aB (pv 0) ai (λ_ _=>rfl)) (pv 1) (ay _)) pwn))) (λ_ _ _ _=>fV)))))),?_⟩
 obtain ⟨m,vs,hl,hp,pr⟩:=id ls
 have a3:=pr.len
 rw [ν] at a3
 refine ⟨_,ϱ,l,m,_,ϱ,hl,eZ θ,l,p,_,ϱ,ls,by rw [ν];exact hz,⟨x,eJ x a1⟩,λw0 H1 s1 hw=>?_⟩
 have G:=s1 _ _ hl
 have a4:=s1 _ _ hp
 refine ⟨_,ϱ,l,CL,m,_,_,ϱ,G,L.cl,L.nP,cq,p,ϱ,⟨_,SqL.of a4⟩,?_⟩
 refine cJ (xs:=vs) (λi d H'=>Same H1 H'/\(x=y->d=[])/\(x≠y->d=vs.take i)) ⟨Same.refl _,λ_=>rfl,λ_=>rfl⟩ (ko ω) (λi d D _ g=>SqL.of (g.1 _ _ a4)) ?_ ?_
 ·rintro i u d D hu ⟨J,i1,i2⟩
  obtain ⟨y0,ey,ry⟩:=pr.get hu
  rw [List.getElem?_map] at ey
  obtain ⟨y1,ey,rfl⟩:=Option.map_eq_some_iff.mp ey
  obtain ⟨a,pu,lu,rfl,ta,cp,lo⟩:=ry.keep L.ne (dj (s1.trans J))
  refine ⟨_,ϱ,a,_,_,_,ϱ,ϱ,ta.sq,ϱ,_,ϱ,x,y,cp,cPa.keep (s1.trans J).ts hx,_,ϱ,?_⟩
  by_cases e:x=y
  ·rw [τ e]
   exact aT ⟨J,i1,λz=>absurd e z⟩
  ·rw [Γ e]
   exact cu ⟨_,ϱ,J,λz=>absurd z e,λz=>by rw [i2 z,List.take_succ,hu];rfl⟩
 rintro d D ⟨J,i1,i2⟩ j I
 have i3:x≠y->d=vs:=λz=>by rw [i2 z,List.take_length]
 have c2:d.length<=vs.length:=by
  by_cases e:x=y
  ·rw [i1 e]
   exact ϖ _
  ·rw [i3 e]
   exact ι _
 have W:=s1.trans J
 have np:l≠j:=ap (J _ _ G) I
 refine ⟨_,ϱ,l,CL,m,_,ϱ,(by rw [ao np];exact J _ _ G),L.cl,L.nP,(by show 1<1000;decide),?_⟩
 rw [BH]
 have a5:Kp l D (upd (upd D j (.lst d)) l (.ins CL m [("pairs",.ref j)])):=(Kp.of (ah I)).trans bn
 have O:(upd (upd D j (.lst d)) l (.ins CL m [("pairs",.ref j)])) l=some (.ins CL m [("pairs",.ref j)]):=ae
 have X:(upd (upd D j (.lst d)) l (.ins CL m [("pairs",.ref j)])) j=some (.lst d):=by rw [ao (Ne.symm np),ae]
 have bg:w0≠l:=λz=>by rw [z,G] at hw;cases hw
 have Y:=a5 w0 _ bg (J _ _ hw)
 have U:=(Kp.of (p:=l) W).trans a5
 have bi:H j=none:=W.free I
 have a6:FSame CL H (upd (upd D j (.lst d)) l (.ins CL m [("pairs",.ref j)])):=λb o e c=>BX (ah (o:=.lst d) I _ _ (J _ _ G)) b o (ah I _ _ (W _ _ e)) c
 generalize (upd (upd D j (.lst d)) l (HO.ins CL m [("pairs",V.ref j)]))=H3 at O X Y U a6 ⊢
 obtain ⟨ps,aS,aZ,b0⟩:∃ps,Paired (PrO C K H3) ps d/\ps.length<=1000/\Un ps:=by
  by_cases e:x=y
  ·rw [i1 e]
   exact ⟨[],.nil,ϖ _,x,λ_ h=>nomatch h⟩
  ·rw [i3 e]
   exact ⟨_,Paired.mapP pr λ_ _ z=>z.keep L.ne a6,by rw [ν];exact hz,x,eJ x a1⟩
 refine ⟨_,ϱ,l,m,_,ϱ,O,eZ θ,l,j,ps,ϱ,⟨m,d,O,X,aS⟩,aZ,b0,λw1 H4 s4 ak=>⟨w1,ϱ,⟨_,SqL.of ak⟩,?_⟩⟩
 refine cJ (xs:=[]) (λi d H'=>Same H4 H'/\d=[]) ⟨Same.refl _,ϱ⟩ (ϖ _) (λi d D _ g=>SqL.of (g.1 _ _ ak)) (λi u d D hu=>by cases hu) ?_
 rintro d H5 ⟨s5,rfl⟩ st bA
 have a7:=s4.trans (s5.trans (ah (o:=.lst []) bA))
 refine ⟨_,ϱ,w0,ϱ,⟨_,SqL.of (a7 _ _ Y)⟩,?_⟩
 refine cJ (xs:=[]) (λi d H'=>Same H3 H'/\d=[]) ⟨a7,ϱ⟩ (ϖ _) (λi d D _ g=>SqL.of (g.1 _ _ Y)) (λi u d D hu=>by cases hu) ?_
 rintro d H7 ⟨s7,rfl⟩ z bB
 have Z:=s7.trans (ah (o:=.lst []) bB)
 exact q _ z j m _ i1 (λe=>by rw [i3 e];exact hp) (Z _ _ O) (Z _ _ X) bi (U.trans (Kp.of Z)) ae
theorem uU(F:Fun K "stands" "Locks.stands" ck f fd)(B:TxB mg)(T:TxK K C)(L:TxL K C CL)(GP:GM P w K mg base CX0 4 CL "held_pairs" ["self"] (uH C CL K (PrO C)))(GB:∀k,GM P w K mg base CX0 2 (C k) "beside" ["self","other"] (ja C)) :
  FnOk P w K mg base CX0 5 f fd ["self","p","lock"] (vZ C CL K):=by
 refine F.oj kR λab A o s H vs Q E D h=>?_
 obtain ⟨l,p,b,v,z,x,u,k,rfl,ls,Y,Z,nx,hu,q⟩:=h
 refine ⟨_,aj (aw (aK (kL rfl) rfl B.all PyProof.Rows.boot_all (ac (dF jd rfl (bZ (pm0 GP (pv 0) L.cl D)) (λ_ _ _ _=>cP)
  (λ_ _ _ _=>tO (bv (pT K cPa (hun D)) (au (r:=aQ K) aB (pv 0) ai (λ_ _=>rfl)) (pv 1) (ay _)) (eO (PE.ex λkd:Kd=>pm (GB kd) (au (r:=aQ K) aB (pv 0) ai (λ_ _=>rfl)) (T.cl kd) D (ac (pv 2) af))))) af))),?_⟩
 obtain ⟨dx,vs,hl,hp,pr⟩:=id ls
 refine ⟨_,ϱ,l,dx,_,ϱ,hl,eZ θ,l,p,_,ϱ,ls,by rw [ν];exact Y,⟨x,eJ x b⟩,λw1 H1 us O _ U W=>⟨w1,ϱ,⟨_,SqL.of U⟩,?_⟩⟩
 have d:=W.len
 rw [ν] at d
 refine cJ (xs:=us) (λi j H'=>Same H1 H'/\j=((b.take i).map λy=>aG y k).map V.bl) ⟨Same.refl _,ϱ⟩ (ko ω) (λi j X _ g=>SqL.of (g.1 _ _ U)) ?_ ?_
 ·rintro i u0 j X G ⟨e,rfl⟩
  obtain ⟨y0,I,ry⟩:=W.get G
  rw [List.getElem?_map] at I
  obtain ⟨y,m,rfl⟩:=Option.map_eq_some_iff.mp I
  obtain ⟨a,pu,lu,rfl,ta,cp,lo⟩:=ry.keep L.ne (dj e)
  obtain ⟨la,da,rfl,ha⟩:=id lo
  have J:=O.trans e
  refine lU ⟨_,ϱ,a,_,_,_,ϱ,ϱ,ta.sq,ϱ,_,ϱ,x,z,cp,cPa.keep J.ts Z,_,ϱ,?_⟩
  rw [Γ nx]
  refine aT ⟨y.1,_,ϱ,a,_,_,_,ϱ,ϱ,ta.sq,ϱ,la,da,_,ϱ,ha,fW _ _ θ θ,_,ϱ,_,_,y,k,ϱ,lo,hu.keep L.ne (dj J),λH3 s3=>⟨e.trans s3,?_⟩⟩
  rw [List.take_succ,m,List.map_append,List.map_append]
  rfl
 ·rintro j X ⟨e,rfl⟩ y hy
  rw [← d,List.take_length]
  refine ⟨y,_,ϱ,SqL.of ae,?_⟩
  rw [show (b.map λy=>aG y k).all id=b.all λy=>aG y k by rw [List.all_map];rfl]
  exact q _ (O.trans (e.trans (ah hy)))
structure Wt where
 (i v:Int)(b r:Addr)
structure Sx where
 (cells:List Int)(wk:Bool)(rd:Option Addr)(rc:List Pa)(en:List (Pa×Str))(ws:List Wt)
def dOf(p:Pa):Option Addr->List (List Key×V)
 | none=>[]
 | some a=>[(pk p,.ref a)]
theorem db(p:Pa)(x:Option Addr):bx (dOf p x) (pk p)=x.map V.ref:=by
 cases x with
 | none=>rfl
 | some a=>exact bJ rfl
def dWk(p:Pa):Bool->List (List Key×V)
 | true=>[(pk p,.bl true)]
 | false=>[]
theorem pN(k:List Key)(v:V):bM [] k v=[(k,v)]:=qo _ rfl
theorem yT(p:Pa)(b:Bool):bM (dWk p b) (pk p) (.bl true)=dWk p true:=by
 cases b with
 | false=>exact pN _ _
 | true=>exact Bd [p] p |>.trans (by unfold B7;rw [if_pos List.mem_cons_self];rfl)
def nes(z:Pa)(ws:List Wt):List e8:=ws.map λt=>((z,t.i),t.b,t.r)
def iX(ws:List Wt)(i:Int):Option Wt:=ws.find? λt=>decide (t.i=i)
theorem tZ(z:Pa)(d:List Wt)(i:Int):k9 (nes z d) (z,i)=(iX d i).map Wt.r:=by
 unfold k9 nes iX
 rw [List.find?_map,Option.map_map]
 have e:((λx:e8=>decide (x.1=((z,i):f9)))∘λt:Wt=>(((z,t.i),t.b,t.r):e8))=λt=>decide (t.i=i):=by
  funext t
  simp
 rw [e]
 rfl
theorem tY(z:Pa)(d:List Wt)(t:Wt)(h:iX d t.i=none):qC (nes z d) (z,t.i) t.b t.r=nes z (d++[t]):=by
 unfold qC
 rw [tZ,h]
 unfold nes
 rw [List.map_append]
 rfl
def stL(p z:Pa)(A:Ad)(d:Sx):Cs:=[(A.cl,.lst (d.cells.map V.int)),(A.wk,.dT (dWk p d.wk)),(A.rd,.dT (dOf p d.rd)),(A.en,.dT (dE d.en)),(A.wa,NDt A.wa (nes z d.ws))]
def PaA(H:Hp)(p:Pa)(a:Addr):Prop:=H a=some (.tup [.int p.1,.int p.2])
def ChT(K:Frag)(H:Hp)(ch:List Pa)(v:V):Prop:=∃d us,v=.ref d/\(H d=some (.tup us)\/∃o,H d=some (.frz o (.tup us)))/\Paired (sPa K H) ch us
theorem ChT.keep{H H':Hp}{ch:List Pa}{v:V}(e:ImS CH CL H H')(h:ChT K H ch v):ChT K H' ch v:=by
 obtain ⟨d,b,rfl,h1,f⟩:=h
 exact ⟨d,b,ϱ,h1.imp (λz=>e _ _ z ϰ) (λ⟨o,z⟩=>⟨o,e _ _ z ϰ⟩),Paired.mapP f λ_ _ z=>z.keep e.ts⟩
def DU(H:Hp)(t:Wt):Prop:=∃a b c,H t.r=some (.tup [.str "walked",a,b,c,.int t.v])
structure Si(CS:Addr)(K:Frag)(H:Hp)(p z:Pa)(A:Ad)(d:Sx):Prop where
 ins:H A.l=some (.ins CS A.dx (sf A))
 ok:NOk H (nes z d.ws)
 wt:∀t∈d.ws,DU H t
 rdy:∀r,d.rd=some r->∃a b c cv,H r=some (.tup [.str "ready",a,b,c,cv])/\ChT K H d.rc cv
structure Sa(CS:Addr)(K:Frag)(H:Hp)(p z:Pa)(A:Ad)(d:Sx):Prop extends Si CS K H p z A d where
 co:∀x∈stL p z A d,H x.1=some x.2
theorem Aj(A:Ad):sf A≠[]:=λz=>by
 have:=tH A
 rw [z] at this
 cases this
section
variable {N:List Addr}{H0 H H':Hp}{L R:Cs}{p z:Pa}{A:Ad}{d:Sx}{x y u:Addr×HO}
theorem Si.im(h:Si CS K H p z A d)(t:∀b o,H b=some o->Im CH CL o->H' b=some o)(c:CS≠CH/\CS≠CL):Si CS K H' p z A d :=
 ⟨t _ _ h.ins ⟨Aj A,c⟩,h.ok.keep λb xs e=>t b _ e ϰ,λx hx=>let ⟨a,b,c,h1⟩:=h.wt x hx;⟨a,b,c,t _ _ h1 ϰ⟩,λr e=>let ⟨a,b,c,cv,h1,h2⟩:=h.rdy r e;⟨a,b,c,cv,t _ _ h1 ϰ,h2.keep t⟩⟩
theorem Si.keep(h:Si CS K H p z A d)(e:Same H H'):Si CS K H' p z A d:=⟨e _ _ h.ins,h.ok.keep e.ts,λx hx=>let ⟨a,b,c,h1⟩:=h.wt x hx;⟨a,b,c,e _ _ h1⟩,λr q=>let ⟨a,b,c,cv,h1,h2⟩:=h.rdy r q;⟨a,b,c,cv,e _ _ h1,h2.keep (CH:=CS) (CL:=CS) (cy e)⟩⟩
theorem Sa.keep(h:Sa CS K H p z A d)(e:Same H H'):Sa CS K H' p z A d:=⟨h.toSi.keep e,λx hx=>e _ _ (h.co x hx)⟩
theorem Sa.cl(h:Sa CS K H p z A d):H A.cl=some (.lst (d.cells.map V.int)):=h.co _ j0
theorem Sa.rdd(h:Sa CS K H p z A d):H A.rd=some (.dT (dOf p d.rd)):=h.co _ j2
theorem Sa.en(h:Sa CS K H p z A d):H A.en=some (.dT (dE d.en)):=h.co _ j3
theorem Sa.wa(h:Sa CS K H p z A d):H A.wa=some (NDt A.wa (nes z d.ws)):=h.co _ j4
theorem Aq(g:Ow CH CL N H0 H (x::y::u::(stL p z A d++R)))(i:Si CS K H p z A d):Sa CS K H p z A d:=⟨i,λu hu=>g.co u (.tail _ (.tail _ (.tail _ (List.mem_append_left _ hu))))⟩
theorem Bl(g:Ow CH CL N H0 H (stL p z A d++R))(i:Si CS K H p z A d):Sa CS K H p z A d:=⟨i,λu hu=>g.co u (List.mem_append_left _ hu)⟩
end
inductive Rx where
 | work | rdy (ch:List Pa) | fin (y:Pa) (o:Str) | wlk (i v:Int) (ch:List Pa)
def RxAt(K:Frag)(H:Hp)(p z:Pa)(r:Addr):Rx->Prop
 | .work=>∃pa,H r=some (.tup [.str "work",.ref pa])/\PaA H p pa
 | .rdy ch=>∃pa b c cv,H r=some (.tup [.str "ready",.ref pa,b,c,cv])/\PaA H p pa/\ChT K H ch cv
 | .fin y o=>∃pa e,H r=some (.tup [.str "end",.ref pa,.str o,e])/\PaA H y pa/\(y≠p->decide (o=("done":Str))=false)
 | .wlk i v ch=>∃za cv,H r=some (.tup [.str "walked",.ref za,.int i,cv,.int v])/\PaA H z za/\ChT K H ch cv
theorem RxAt.keep{H H':Hp}{p z:Pa}{r:Addr}{w:Rx}(e:ImS CH CL H H')(h:RxAt K H p z r w):RxAt K H' p z r w:=by
 cases w with
 | work=>obtain ⟨f,h1,d⟩:=h;exact ⟨f,e _ _ h1 ϰ,e _ _ d ϰ⟩
 | rdy ch=>obtain ⟨f,b,c,j,h1,d,g⟩:=h;exact ⟨f,b,c,j,e _ _ h1 ϰ,e _ _ d ϰ,g.keep e⟩
 | fin y o=>obtain ⟨f,v,h1,d,g⟩:=h;exact ⟨f,v,e _ _ h1 ϰ,e _ _ d ϰ,g⟩
 | wlk i v ch=>obtain ⟨l,j,h1,d,g⟩:=h;exact ⟨l,j,e _ _ h1 ϰ,e _ _ d ϰ,g.keep e⟩
def Sx.chs(d:Sx):Rx->List Pa
 | .wlk _ _ ch=>ch
 | .fin _ o=>if o="done"/\d.rd.isSome=true then d.rc else []
 | _=>[]
def Sx.kp(d:Sx)(r b:Addr):Rx->Sx
 | .work=>⟨d.cells,true,d.rd,d.rc,d.en,d.ws⟩
 | .rdy ch=>⟨d.cells,d.wk,some r,ch,d.en,d.ws⟩
 | .fin y o=>⟨apply d.cells (d.chs (.fin y o)),d.wk,d.rd,d.rc,d.en++[(y,o)],d.ws⟩
 | .wlk i v ch=>⟨apply d.cells ch,d.wk,d.rd,d.rc,d.en,d.ws++[⟨i,v,b,r⟩]⟩
structure Sx.fits(d:Sx)(w:Rx):Prop where
 ch:∀c∈d.chs w,0<=c.1/\c.1<d.cells.length
 rd:∀ch,w=.rdy ch->d.rd=none
 en:∀y o,w=.fin y o->cr d.en y=none
 wl:∀i v ch,w=.wlk i v ch->iX d.ws i=none
 le:d.en.length<=60
 lw:d.ws.length<=900
def NwAt(K:Frag)(H:Hp)(es:List (Pa×Str))(v:V):Prop:=∃t ys,v=.ref t/\H t=some (.tup ys)/\Paired (sPS K H) es ys
theorem NwAt.keep{H H':Hp}{es:List (Pa×Str)}{v:V}(e:TSame H H')(h:NwAt K H es v):NwAt K H' es v:=by
 obtain ⟨t,b,rfl,h1,d⟩:=h
 exact ⟨t,b,ϱ,e _ _ h1,Paired.mapP d λ_ _ z=>z.keep e⟩
section
variable (CS CH CL:Addr)(K:Frag)
inductive oZ (vs:List V) (H:Hp) (Q:VK) (E:XK):Prop|mk l dx c cs:vs=[.ref l,.ref c]->H l=some (.ins CS dx [])->H c=some (.lst ((cs:List Int).map V.int))->(∀A H',A.l=l->H' l=some (.ins CS A.dx (sf A))->(∀p z,Ow CH CL [l] H H' (stL p z A ⟨cs,false,none,[],[],[]⟩))->Q .non H')->oZ vs H Q E
inductive wb (vs:List V) (H:Hp) (Q:VK) (E:XK):Prop|mk p z A d r w:vs=[.ref A.l,.ref r]->Sa CS K H p z A d->RxAt K H p z r w->(∀v H',Same H H'->ChT K H' (d.chs w) v->Q v H')->wb vs H Q E
inductive rQ (vs:List V) (H:Hp) (Q:VK) (E:XK):Prop|mk p z A d r w x y u R:vs=[.ref A.l,.ref r]->Ow CH CL (ad (x::y::u::(stL p z A d++R))) H H (x::y::u::(stL p z A d++R))->Si CS K H p z A d->RxAt K H p z r w->d.fits w->(∀b H',Ow CH CL (ad (x::y::u::(stL p z A d++R))) H H' (x::y::u::(stL p z A (d.kp r b w)++R))->Si CS K H' p z A (d.kp r b w)->Q .non H')->rQ vs H Q E
inductive fR (vs:List V) (H:Hp) (Q:VK) (E:XK):Prop|mk A j c:∀(cs:List Int),vs=[.ref A.l,.int (j:Nat)]->H A.l=some (.ins CS A.dx (sf A))->H A.cl=some (.lst (cs.map V.int))->cs[j]?=some c->Q (.int c) H->fR vs H Q E
inductive pj (vs:List V) (H:Hp) (Q:VK) (E:XK):Prop|mk p z A d:vs=[.ref A.l]->Sa CS K H p z A d->(∀q H',Same H H'->H q=none->H' q=some (.lst (d.cells.map V.int))->Q (.ref q) H')->pj vs H Q E
inductive o6 (vs:List V) (H:Hp) (Q:VK) (E:XK):Prop|mk p z A d:vs=[.ref A.l]->Sa CS K H p z A d->d.en.length<=62->(∀v H',Same H H'->NwAt K H' (bO ltE d.en) v->Q v H')->o6 vs H Q E
inductive lF (vs:List V) (H:Hp) (Q:VK) (E:XK):Prop|mk p z A d:vs=[.ref A.l]->Sa CS K H p z A d->d.rd=none->(∀l H',Same H H'->H l=none->H' l=some (.lst [])->Q (.ref l) H')->lF vs H Q E
inductive rN (vs:List V) (H:Hp) (Q:VK) (E:XK):Prop|mk p z A d za:vs=[.ref A.l,.ref za]->Sa CS K H p z A d->PaA H z za->Q (((cr d.en z).map V.str).getD .non) H->rN vs H Q E
inductive vY (vs:List V) (H:Hp) (Q:VK) (E:XK):Prop|mk p z A d za i:vs=[.ref A.l,.ref za,.int i]->Sa CS K H p z A d->PaA H z za->(∀H',Same H H'->Q (ov ((iX d.ws i).map Wt.r)) H')->vY vs H Q E
end
theorem sq{t u:TS}{D:Ends}{σ:L2.St}{H:Hp}(h:∀nx,(∀σ H,u D σ H->nx σ H)->t {D with nx:=nx} σ H):Cj t u D σ H:=h _ λ_ _ z=>z
theorem cX{X:Cx}{st:List Stmt}{t u:TS}(h:PSs X st t)(hw:∀D σ H,u D σ H->t D σ H):PSs X st u:=qp u h hw
def Dy:TT:=λ_ _ _=>False
theorem ptn{X:Cx}{e:Expr}:PT X e Dy:=λ_ _ _ _ _ _ h=>h.elim
theorem uT(F:Fun K "__init__" "Stand.__init__" gy f fd)(B:TxB mg)(D:TxD K CS):FnOk P w K mg base CX0 1 f fd ["self","cells"] (oZ CS CH CL):=by
 refine F.oj nN λa8 A i s H vs Q E hr h=>?_
 obtain ⟨l,b,c,o,rfl,r,u,q⟩:=h
 refine ⟨_,ag (aV (pv 0) (aX gH rfl B.list PyProof.Rows.boot_list (ac (pv 1) af)) rfl)
  (ag (aV (pv 0) (bE af) rfl) (ag (aV (pv 0) eQ rfl) (ag (aV (pv 0) eQ rfl) (ag (aV (pv 0) eQ rfl) (ag (aV (pv 0) wH rfl) (aj (aV (pv 0) eQ rfl))))))),?_⟩
 have g0:Ow CH CL [l] H H [(l,.ins CS b [])]:=.mk0 (L:=[(l,.ins CS b [])]) (λx j=>by rw [List.mem_singleton.mp j];exact r) (by simp [ad]) (λx j=>by rw [List.mem_singleton.mp j];exact λz=>z.1 rfl)
 refine ⟨_,ϱ,c,_,ϱ,.inl (SqL.of u),λcl n1=>?_⟩
 obtain ⟨y,g1⟩:=g0.fld n1 (.lst (o.map V.int)) (az "cells" (.ref cl) [])
 refine ⟨_,ϱ,l,CS,b,_,ϱ,y,D.cl,D.nc,(by show 0<1000;decide),χ,λd n2=>?_⟩
 obtain ⟨C,G⟩:=g1.fld n2 (.lst []) (az "begins" (.ref d) (az "cells" (.ref cl) []))
 refine ⟨_,ϱ,l,CS,b,_,ϱ,C,D.cl,D.nb,(bj (n:=999) (by show 0<999;decide)),λe n3=>?_⟩
 obtain ⟨I,J⟩:=G.fld n3 (.dT []) (az "worked" (.ref e) (az "begins" (.ref d) (az "cells" (.ref cl) [])))
 refine ⟨_,ϱ,l,CS,b,_,ϱ,I,D.cl,D.nw,(bj (n:=999) (bj (n:=998) (by show 0<998;decide))),λg n4=>?_⟩
 obtain ⟨O,U⟩:=J.fld n4 (.dT []) (az "readies" (.ref g) (az "worked" (.ref e) (az "begins" (.ref d) (az "cells" (.ref cl) []))))
 refine ⟨_,ϱ,l,CS,b,_,ϱ,O,D.cl,D.nr,(bj (n:=999) (bj (n:=998) (bj (n:=997) (by show 0<997;decide)))),λen n5=>?_⟩
 obtain ⟨W,X⟩:=U.fld n5 (.dT []) (az "ends" (.ref en) (az "readies" (.ref g) (az "worked" (.ref e) (az "begins" (.ref d) (az "cells" (.ref cl) [])))))
 refine ⟨_,ϱ,l,CS,b,_,ϱ,W,D.cl,D.ne,(bj (n:=999) (bj (n:=998) (bj (n:=997) (bj (n:=996) (by show 0<996;decide))))),λwa n6=>?_⟩
 obtain ⟨Y,Z⟩:=X.fld n6 (NDt wa []) (az "walks" (.ref wa) (az "ends" (.ref en) (az "readies" (.ref g) (az "worked" (.ref e) (az "begins" (.ref d) (az "cells" (.ref cl) []))))))
 refine ⟨_,ϱ,l,CS,b,_,ϱ,Y,D.cl,D.na,(bj (n:=999) (bj (n:=998) (bj (n:=997) (bj (n:=996) (bj (n:=995) (by show 0<995;decide)))))),λov n7=>?_⟩
 obtain ⟨a7,m⟩:=Z.fld n7 (.dT []) (sf ⟨l,b,cl,d,e,g,en,wa,ov⟩)
 refine ⟨_,ϱ,l,CS,b,_,ϱ,a7,D.cl,D.no,(bj (n:=999) (bj (n:=998) (bj (n:=997) (bj (n:=996) (bj (n:=995) (bj (n:=994) (by show 0<994;decide))))))),?_⟩
 exact q ⟨l,b,cl,d,e,g,en,wa,ov⟩ _ rfl (m.co _ (.head _)) λp z=>m.sub (.cons _ (.cons₂ _ (.cons _ (.cons₂ _ (.cons₂ _ (.cons₂ _ (.cons₂ _ (.cons _ .slnil))))))))
theorem cb{a b:Str}(h:decide (a=b)=false):decide (V.str a=V.str b)=false:=Γ λz=>of_decide_eq_false h (V.str.inj z)
theorem By(F:Fun K "changes_of" "Stand.changes_of" cL f fd)(D:TxD K CS):FnOk P w K mg base CX0 1 f fd ["self","row"] (wb CS K):=by
 refine F.oj iz λa4 A X s H vs Q E hr h=>?_
 obtain ⟨p,z,S,d,r,w,rfl,L,O,q⟩:=h
 refine ⟨_,ag (aI (PW.pt (fz (ax bf (au (r:=aQ K) aB (pv 1) ai (λ_ _=>rfl)) aA (ay _)) (fz (ax bf (au (r:=aQ K) aB (pv 1) ai (λ_ _=>rfl)) aA (ay _)) (gm (hV (mz (cT hr) (au (r:=aQ K) aB (pv 1) ai (λ_ _=>rfl)) (aq (pv 0) rfl)))))))
   (aj (aw (au (r:=aQ K) aB (gq (cT hr) (aq (pv 0) rfl) (au (r:=aQ K) aB (pv 1) ai (λ_ _=>rfl)) (λ_ _=>rfl)) ai (λ_ _=>rfl)))) aC)
  (cX (u:=λD σ W=>∃Y J,σ=[some (.ref S.l),some (.ref r)]/\W r=some (.tup (.str J::Y))/\(decide (J=("walked":Str))=false/\decide (J=("undone":Str))=false/\(∀v H2,Same W H2->ChT K H2 [] v->D.rt v H2)\/J="walked"/\∃a b C us',Y=a::b::C::us'/\D.rt C W))
   (ag (aI (PW.pt (mt (ax bf (au (r:=aQ K) aB (pv 1) ai (λ_ _=>rfl)) aA (ay _)) (iQ (ax bf (au (r:=aQ K) aB (pv 1) ai (λ_ _=>rfl)) aA (ay _))))) (aj (aw (au (r:=aQ K) aB (pv 1) ai (λ_ _=>rfl)))) aC)
  (aj (aw (aF af)))) ?v),?_⟩
 case v =>
  rintro D σ W ⟨Y,J,rfl,m,⟨w1,w2,q⟩ | ⟨rfl,a,b,C,us',rfl,q⟩⟩
  ·refine ⟨_,ϱ,r,_,_,_,ϱ,ϱ,SqT.of m,at0,ϱ,_,ϱ,?_⟩
   rw [cb w1]
   refine aT ⟨_,ϱ,r,_,_,_,ϱ,ϱ,SqT.of m,at0,ϱ,_,ϱ,?_⟩
   rw [cb w2]
   exact aT ⟨χ,λt ht=>q _ _ (ah ht) ⟨t,[],ϱ,.inl ae,.nil⟩⟩
  ·exact ⟨_,ϱ,r,_,_,_,ϱ,ϱ,SqT.of m,at0,ϱ,_,ϱ,a9 (λ_=>cu ⟨_,ϱ,r,_,_,_,ϱ,ϱ,SqT.of m,aW (j:=3) rfl,q⟩) (λc=>absurd (τ rfl) c)⟩
 cases w with
 | work =>
  obtain ⟨Z,g,G⟩:=O
  refine ⟨_,ϱ,r,_,_,_,ϱ,ϱ,SqT.of g,at0,ϱ,_,ϱ,?_⟩
  rw [cb θ]
  exact aT (aT ⟨_,_,ϱ,g,.inl ⟨θ,θ,q⟩⟩)
 | rdy ch =>
  obtain ⟨Z,b,c,C,g,_⟩:=O
  refine ⟨_,ϱ,r,_,_,_,ϱ,ϱ,SqT.of g,at0,ϱ,_,ϱ,?_⟩
  rw [cb θ]
  exact aT (aT ⟨_,_,ϱ,g,.inl ⟨θ,θ,q⟩⟩)
 | wlk i v ch =>
  obtain ⟨za,C,g,_,hc⟩:=O
  refine ⟨_,ϱ,r,_,_,_,ϱ,ϱ,SqT.of g,at0,ϱ,_,ϱ,?_⟩
  rw [cb θ]
  exact aT (aT ⟨_,_,ϱ,g,.inr ⟨ϱ,_,_,C,_,ϱ,q C H (Same.refl H) hc⟩⟩)
 | fin y o =>
  obtain ⟨Z,e,g,G,ho⟩:=O
  refine ⟨_,ϱ,r,_,_,_,ϱ,ϱ,SqT.of g,at0,ϱ,_,ϱ,a9 (λ_=>?_) (λc=>absurd (τ rfl) c)⟩
  refine ⟨_,ϱ,r,_,_,_,ϱ,ϱ,SqT.of g,at2,ϱ,_,ϱ,?_⟩
  by_cases eo:o="done"
  ·obtain rfl:y=p:=Classical.byContradiction λz=>of_decide_eq_false (ho z) eo
   refine a9 (λ_=>?_) (λc=>absurd (τ (congrArg V.str eo)) c)
   have U:=DGet.t (k:=pk y) L.rdd G
   refine ⟨_,ϱ,r,_,_,_,ϱ,ϱ,SqT.of g,at1,_,ϱ,S.l,CS,S.dx,_,_,ϱ,L.ins,D.cl,D.nr,tG S,S.rd,_,ϱ,U,_,ϱ,?_⟩
   rw [db] at U ⊢
   cases er:d.rd with
   | some x =>
    have I:d.chs (.fin y o)=d.rc:=if_pos ⟨eo,by rw [er];rfl⟩
    rw [I] at q
    rw [er] at U
    obtain ⟨a,b,c,C,h1,h2⟩:=L.rdy x er
    exact cu ⟨_,ϱ,S.l,CS,S.dx,_,_,ϱ,L.ins,D.cl,D.nr,tG S,_,ϱ,r,_,_,_,ϱ,ϱ,SqT.of g,at1,S.rd,.ref x,ϱ,U,x,_,_,_,ϱ,ϱ,SqT.of h1,ϱ,q _ H (Same.refl H) h2⟩
   | none =>
    have I:d.chs (.fin y o)=[]:=if_neg λz=>by rw [er] at z;cases z.2
    rw [I] at q
    exact aT ⟨_,_,ϱ,g,.inl ⟨θ,θ,q⟩⟩
  ·have I:d.chs (.fin y o)=[]:=if_neg λz=>eo z.1
   rw [I] at q
   rw [cb (Γ eo)]
   exact aT (aT ⟨_,_,ϱ,g,.inl ⟨θ,θ,q⟩⟩)
theorem zt(F:Fun K "keep" "Stand.keep" gx f fd)(D:TxD K CS)(hc:CS≠CH/\CS≠CL)(GC:GM P w K mg base CX0 1 CS "changes_of" ["self","row"] (wb CS K)):FnOk P w K mg base CX0 2 f fd ["self","row"] (rQ CS CH CL K):=by
 refine F.oj sc_Stand_keep λce A br s H vs Q E hr h=>?_
 obtain ⟨p,z,S,d,r,w,x,y,u,R,rfl,g,si,hx,J,q⟩:=h
 have nd:=sc_Stand_keep.nd
 refine ⟨_,ag (hW PassesOwn.never rfl (wC (pm GC (pv 0) D.cl hr (ac (pv 1) af))) (b7 (i:=2) nd rfl (Or.inl rfl)) (aj (rZ (au (r:=aQ K) aB (pv 2) ai (λ_ _=>rfl)) (wE (aq (pv 0) rfl) (au (r:=aQ K) aB (pv 2) ai (λ_ _=>rfl)) qh))))
  (ag (aD (i:=3) nd rfl (Or.inl rfl) (au (r:=aQ K) aB (pv 1) ai (λ_ _=>rfl)))
  (aj (aI (ax bf (au (r:=aQ K) aB (pv 1) ai (λ_ _=>rfl)) aA (ay _)) aJ
  (aj (aI (ax bf (au (r:=aQ K) aB (pv 1) ai (λ_ _=>rfl)) aA (ay _)) (aj (jg (cT hr) (aq (pv 0) rfl) (pv 3) oB rfl))
  (aj (aI (ax bf (au (r:=aQ K) aB (pv 1) ai (λ_ _=>rfl)) aA (ay _)) (aj (jg (cT hr) (aq (pv 0) rfl) (pv 3) (pv 1) rfl))
  (aj (aI (ax bf (au (r:=aQ K) aB (pv 1) ai (λ_ _=>rfl)) aA (ay _)) (aj (aO (tT (cT hr) (aq (pv 0) rfl) (pv 3) (au (r:=aQ K) aB (pv 1) ai (λ_ _=>rfl)) ⟨ϱ,ϱ,ϱ,ϱ⟩)))
  (aj (aI (ax bf (au (r:=aQ K) aB (pv 1) ai (λ_ _=>rfl)) aA (ay _)) aJ (aj (yU (hun hr) (aq (pv 0) rfl) (aF (ac (pv 3) (ac (au (r:=aQ K) aB (pv 1) ai (λ_ _=>rfl)) af))) (pv 1) rfl))))))))))))),?_⟩
 refine sq λnA kA=>⟨_,ϱ,S.l,S.dx,_,ϱ,si.ins,gI θ,_,ϱ,p,z,S,d,r,w,ϱ,Aq g si,hx,λv H1 s1 Z=>?_⟩
 obtain ⟨dc,a6,rfl,b0,a7⟩:=Z
 have ab:∀{H'},ImS CH CL H1 H'->SqT K H' dc a6:=λe=>b0.elim (λz=>SqT.of (e _ _ z ϰ)) λ⟨o,z⟩=>.inl (.inr ⟨o,e _ _ z ϰ⟩)
 refine ⟨dc,ϱ,⟨_,ab (cy (Same.refl _))⟩,?_⟩
 have ak:=a7.len
 have g1:=g.same s1
 refine uh (xs:=a6) (λi σ H'=>∃x2 x3,σ=[some (.ref S.l),some (.ref r),x2,x3]/\Ow CH CL (ad (x::y::u::(stL p z S d++R))) H H' (x::y::u::(stL p z S ⟨apply d.cells ((d.chs w).take i),d.wk,d.rd,d.rc,d.en,d.ws⟩++R))/\ImS CH CL H1 H') ⟨none,none,ϱ,g1,cy (Same.refl _)⟩
  (λi σ H' _ q=>by obtain ⟨_,_,_,_,k⟩:=q;exact ab k) ?_ ?_
 ·rintro i u0 σ L hu ⟨x2,x3,rfl,I,t2⟩
  obtain ⟨c,ec,rc⟩:=a7.get hu
  obtain ⟨ca,rfl,a8⟩:=rc.keep t2.ts
  obtain ⟨f1,f2⟩:=J.ch c (List.mem_of_getElem? ec)
  have bi:((apply d.cells ((d.chs w).take i)).map V.int).length=d.cells.length:=by rw [ν,f8]
  refine ⟨_,ϱ,ca,_,_,_,ϱ,ϱ,SqT.of a8,ϱ,_,ϱ,S.l,CS,S.dx,_,_,ϱ,(si.im I.im hc).ins,D.cl,D.nc,tH S,_,ϱ,ca,_,_,_,ϱ,ϱ,SqT.of a8,ϱ,S.cl,_,c.1,c.1.toNat,ϱ,ϱ,I.co _ j3,?_,?_⟩
  ·rw [bi]
   exact xI f1 f2
  ·have e:(d.chs w).take (i+1)=(d.chs w).take i++[c]:=by rw [List.take_succ,ec];rfl
   have e3:((apply d.cells ((d.chs w).take i)).map V.int).set c.1.toNat (.int c.2)=(apply d.cells ((d.chs w).take (i+1))).map V.int:=by rw [e,nt,List.map_set]
   rw [e3]
   have g3:=I.up 3 (.lst ((apply d.cells ((d.chs w).take (i+1))).map V.int)) rfl
   have e4:L S.cl=some (.lst _):=I.co _ j3
   exact ⟨_,_,ϱ,g3,t2.trans (cH bn e4 id)⟩
 ·rintro σ L ⟨x2,x3,rfl,I,t2⟩
  rw [← ak,List.take_length] at I
  have G:=si.im I.im hc
  have W:=hx.keep I.im
  refine kA _ _ (sq λnB kB=>?_)
  cases w with
  | work =>
   obtain ⟨pa,j,O⟩:=W
   refine ⟨_,ϱ,r,_,_,_,ϱ,ϱ,SqT.of j,at1,kB _ _ ⟨_,ϱ,r,_,_,_,ϱ,ϱ,SqT.of j,at0,ϱ,_,ϱ,?_⟩⟩
   rw [cb θ]
   refine aT ⟨_,ϱ,r,_,_,_,ϱ,ϱ,SqT.of j,at0,ϱ,_,ϱ,a9 (λ_=>?_) (λc=>absurd (τ rfl) c)⟩
   have ar:L S.wk=some (.dT (dWk p d.wk)):=I.co _ j4
   refine ⟨_,ϱ,S.l,CS,S.dx,_,_,ϱ,G.ins,D.cl,D.nw,CJ S,_,ϱ,S.wk,_,ϱ,DPut.t (k:=pk p) ar O (cW (by cases d.wk<;>exact Nat.le_of_ble_eq_true rfl)),?_⟩
   rw [yT]
   have g3:=I.up 4 (.dT (dWk p true)) rfl
   have U:ImS CH CL L (upd L S.wk (.dT (dWk p true))):=cH bn ar id
   have C:=G.im U hc
   exact q 0 _ g3 ⟨C.ins,C.ok,C.wt,C.rdy⟩
  | rdy ch =>
   obtain ⟨pa,b,c,cv,j,O,Z⟩:=W
   have er:=J.rd ch rfl
   refine ⟨_,ϱ,r,_,_,_,ϱ,ϱ,SqT.of j,at1,kB _ _ ⟨_,ϱ,r,_,_,_,ϱ,ϱ,SqT.of j,at0,ϱ,_,ϱ,?_⟩⟩
   rw [cb θ]
   refine aT ⟨_,ϱ,r,_,_,_,ϱ,ϱ,SqT.of j,at0,ϱ,_,ϱ,?_⟩
   rw [cb θ]
   refine aT ⟨_,ϱ,r,_,_,_,ϱ,ϱ,SqT.of j,at0,ϱ,_,ϱ,a9 (λ_=>?_) (λc=>absurd (τ rfl) c)⟩
   have hd:L S.rd=some (.dT []):=by have:=I.co _ j5;rw [er] at this;exact this
   refine ⟨_,ϱ,_,ϱ,S.l,CS,S.dx,_,_,ϱ,G.ins,D.cl,D.nr,tG S,_,ϱ,S.rd,_,ϱ,DPut.t (k:=pk p) hd O ζ,?_⟩
   rw [pN]
   have U:ImS CH CL L (upd L S.rd (.dT [(pk p,.ref r)])):=cH bn hd id
   have C:=G.im U hc
   exact q 0 _ (I.up 5 _ rfl) ⟨C.ins,C.ok,C.wt,λr' e=>by cases e;exact ⟨_,b,c,cv,U _ _ j ϰ,Z.keep U⟩⟩
  | fin y o =>
   obtain ⟨pa,e,j,O,_⟩:=W
   have er:=J.en y o rfl
   refine ⟨_,ϱ,r,_,_,_,ϱ,ϱ,SqT.of j,at1,kB _ _ ⟨_,ϱ,r,_,_,_,ϱ,ϱ,SqT.of j,at0,ϱ,_,ϱ,?_⟩⟩
   rw [cb θ]
   refine aT ⟨_,ϱ,r,_,_,_,ϱ,ϱ,SqT.of j,at0,ϱ,_,ϱ,?_⟩
   rw [cb θ]
   refine aT ⟨_,ϱ,r,_,_,_,ϱ,ϱ,SqT.of j,at0,ϱ,_,ϱ,?_⟩
   rw [cb θ]
   refine aT ⟨_,ϱ,r,_,_,_,ϱ,ϱ,SqT.of j,at0,ϱ,_,ϱ,a9 (λ_=>?_) (λc=>absurd (τ rfl) c)⟩
   have hd:L S.en=some (.dT (dE d.en)):=I.co _ j6
   have bm:bx (dE d.en) (pk y)=none:=by rw [vA,er];rfl
   have e2:dE d.en++[(pk y,V.str o)]=dE (d.en++[(y,o)]):=by unfold dE;rw [List.map_append];rfl
   refine ⟨_,ϱ,S.l,CS,S.dx,_,_,ϱ,G.ins,D.cl,D.ne,wg S,S.en,ϱ,.inr ⟨_,.inl hd⟩,_,ϱ,_,ϱ,r,_,_,_,ϱ,ϱ,SqT.of j,at2,_,pk y,pa,hd,ϱ,O,(by unfold dE;rw [List.length_map];exact cW (Nat.le_trans J.le ζ)),(λv hv=>by rw [bm] at hv;cases hv),λ_=>?_⟩
   rw [e2]
   exact q 0 _ (I.up 6 _ rfl) (let i:=G.im (cH bn hd id) hc;⟨i.ins,i.ok,i.wt,i.rdy⟩)
  | wlk i v ch =>
   obtain ⟨za,cv,j,bg,_⟩:=W
   have ew:=J.wl i v ch rfl
   refine ⟨_,ϱ,r,_,_,_,ϱ,ϱ,SqT.of j,at1,kB _ _ ⟨_,ϱ,r,_,_,_,ϱ,ϱ,SqT.of j,at0,ϱ,_,ϱ,?_⟩⟩
   rw [cb θ]
   refine aT ⟨_,ϱ,r,_,_,_,ϱ,ϱ,SqT.of j,at0,ϱ,_,ϱ,?_⟩
   rw [cb θ]
   refine aT ⟨_,ϱ,r,_,_,_,ϱ,ϱ,SqT.of j,at0,ϱ,_,ϱ,?_⟩
   rw [cb θ]
   refine aT ⟨_,ϱ,r,_,_,_,ϱ,ϱ,SqT.of j,at0,ϱ,_,ϱ,?_⟩
   rw [cb θ]
   refine aT ⟨_,ϱ,r,_,_,_,ϱ,ϱ,SqT.of j,at0,ϱ,_,ϱ,?_⟩
   rw [cb θ]
   refine aT ⟨_,ϱ,_,ϱ,S.l,CS,S.dx,_,_,ϱ,G.ins,D.cl,D.na,Ai S,_,ϱ,_,ϱ,r,_,_,_,ϱ,ϱ,SqT.of j,at2,χ,λb hb=>?_⟩
   have s3:=ah (o:=.tup [.ref za,.int i]) hb
   have g3:=I.same s3
   have C:=G.keep s3
   have as:(upd L b (.tup [.ref za,.int i])) S.wa=some (NDt S.wa (nes z d.ws)):=g3.co _ j7
   have Y:NKeyAt (upd L b (.tup [.ref za,.int i])) (z,i) b:=⟨za,ae,s3 _ _ bg⟩
   have a0:ImS CH CL (upd L b (.tup [.ref za,.int i])) (upd (upd L b (.tup [.ref za,.int i])) S.wa (NDt S.wa (nes z (d.ws++[⟨i,v,b,r⟩])))):=cH bn as λz=>z _ _ rfl
   have X:=C.im a0 hc
   have hn:(nes z d.ws).length<=1000:=by unfold nes;rw [List.length_map];exact Nat.le_trans J.lw ζ
   refine ⟨S.wa,b,r,_,(z,i),ϱ,ϱ,ϱ,as,C.ok,Y,Nat.le_of_lt (cW hn),?_⟩
   rw [tY z d.ws ⟨i,v,b,r⟩ ew]
   refine q b _ (g3.up 7 _ rfl) ⟨X.ins,?_,λt ht=>?_,X.rdy⟩
   ·show NOk _ (nes z (d.ws++[⟨i,v,b,r⟩]))
    have:=X.ok.put r (Y.keep a0.ts)
    rw [tY z d.ws ⟨i,v,b,r⟩ ew] at this
    exact this
   ·rcases List.mem_append.mp ht with m | m
    ·exact X.wt t m
    ·rw [ϵ.mp m]
     exact ⟨_,_,_,a0 _ _ (s3 _ _ j) ϰ⟩
theorem uY(F:Fun K "cell_at" "Stand.cell_at" d8 f fd)(D:TxD K CS):FnOk P w K mg base CX0 1 f fd ["self","cell"] (fR CS):=by
 refine F.oj jI λi A b s H vs Q E o h=>?_
 obtain ⟨S,j,c,m,rfl,d,e,g,q⟩:=h
 refine ⟨_,aj (aw (au (r:=bz K) aE (aq (pv 0) rfl) (pv 1) (λ_ _=>rfl))),?_⟩
 exact ⟨_,ϱ,S.l,CS,S.dx,_,_,ϱ,d,D.cl,D.nc,tH S,_,ϱ,S.cl,_,_,.int c,ϱ,ϱ,SqL.of e,aW (by rw [List.getElem?_map,g];rfl),q⟩
theorem xw(F:Fun K "cells_told" "Stand.cells_told" cM f fd)(B:TxB mg)(D:TxD K CS):FnOk P w K mg base CX0 1 f fd ["self"] (pj CS K):=by
 refine F.oj iB λi A b s H vs Q E j h=>?_
 obtain ⟨p,z,S,d,rfl,e,q⟩:=h
 refine ⟨_,aj (aw (aX gH rfl B.list PyProof.Rows.boot_list (ac (aq (pv 0) rfl) af))),?_⟩
 exact ⟨_,ϱ,S.l,CS,S.dx,_,_,ϱ,e.ins,D.cl,D.nc,tH S,S.cl,_,ϱ,.inl (SqL.of e.cl),λp g=>q p _ (ah g) g ae⟩
theorem zn(F:Fun K "news" "Stand.news" gw f fd)(B:TxB mg)(D:TxD K CS):FnOk P w K mg base CX0 1 f fd ["self"] (o6 CS K):=by
 refine F.oj nK λy A i s H vs Q E C h=>?_
 obtain ⟨p,z,S,d,rfl,g,u,q⟩:=h
 refine ⟨_,aj (aw (aX cI rfl B.tuple PyProof.Rows.boot_tuple (ac (aK (jv (R:=λH=>sPS K H) sZ (λe h=>h.keep e) (λok q r=>q.ent ok r) rfl (hun (c:=3) C)) rfl B.sorted PyProof.Rows.boot_sorted (ac (wG (aq (pv 0) rfl)) af)) af))),?_⟩
 refine ⟨_,ϱ,S.l,CS,S.dx,_,_,ϱ,g.ins,D.cl,D.ne,wg S,S.en,_,ϱ,g.en,λv G=>?_⟩
 have j:=ah (o:=Vw v S.en) G
 refine ⟨v,S.en,d.en,ϱ,ae,Dp (j _ _ g.en),Nat.lt_of_le_of_lt u ζ,λU l b I J L=>?_⟩
 have x:=ah (o:=.lst b) J
 refine ⟨l,b,ϱ,.inl ⟨SqL.of ae,λt O=>?_⟩⟩
 have m:=ah (o:=.tup b) O
 exact q _ _ (j.trans (I.trans (x.trans m))) ⟨t,b,ϱ,ae,Paired.mapP L λ_ _ z=>z.keep m.ts⟩
theorem uD{H H1:Hp}{D:Addr}{o:Obj}{f:List (List Key×V)}{p:Addr}{o2:HO}(l:H D=some (.dT f))(s1:Same (upd H D (Fz D o)) H1)(g:H1 p=none) :
  Same H (upd (upd H1 p o2) D (.dT f))/\(upd (upd H1 p o2) D (.dT f)) p=some o2/\(upd H1 p o2) D=some (Fz D o)/\H p=none:=by
 have h:H1 D=some (Fz D o):=s1 _ _ ae
 have d:p≠D:=Ne.symm (ap h g)
 refine ⟨λb j e=>?_,by rw [ao d];exact ae,by rw [ao (Ne.symm d)];exact h,?_⟩
 ·by_cases hb:b=D
  ·subst hb
   rw [ae,← e,l]
  ·rw [ao hb]
   have i:H1 b=some j:=s1 _ _ (by rw [ao hb];exact e)
   rw [ao (ap i g)]
   exact i
 ·cases e:H p with
  | none=>rfl
  | some u =>
   have:=s1 p u (by rw [ao d];exact e)
   rw [g] at this
   cases this
theorem xx(F:Fun K "bound" "Stand.bound" cG f fd)(D:TxD K CS):FnOk P w K mg base CX0 1 f fd ["self"] (lF CS K):=by
 refine F.oj mi λO A m s H vs Q E u h=>?_
 obtain ⟨p,z,S,d,rfl,x,C,q⟩:=h
 refine ⟨_,aj (aw (yW (dF jQ rfl (yV (aq (pv 0) rfl)) (λ_ _ _ _=>fh ptn) (λ_ _ _ _=>fV)))),?_⟩
 have g:H S.rd=some (.dT []):=by have:=x.rdd;rw [C] at this;exact this
 refine ⟨_,ϱ,S.l,CS,S.dx,_,_,ϱ,x.ins,D.cl,D.nr,tG S,S.rd,_,ϱ,g,λo f=>?_⟩
 refine zM f (λi j H1=>Same (upd H S.rd (Fz S.rd o)) H1/\j=[]) ⟨Same.refl _,ϱ⟩ (λi j U _ z=>⟨z.1 _ _ ae,z.1.ts⟩) (λi e b j U W X z=>by cases W) ?_
 rintro j H1 ⟨y,rfl⟩ r u
 obtain ⟨G,I,J,L⟩:=uD (o2:=.lst []) g y u
 exact ⟨S.rd,o,_,J,(f.keep y.ts).keep (ah u).ts,q r _ G L I⟩
theorem zm(F:Fun K "outcome" "Stand.outcome" d5 f fd)(D:TxD K CS):FnOk P w K mg base CX0 1 f fd ["self","p"] (rN CS K):=by
 refine F.oj jH λi A g s H vs Q E j h=>?_
 obtain ⟨p,z,S,d,m,rfl,b,e,q⟩:=h
 refine ⟨_,aj (aw (wI (cT j) (aq (pv 0) rfl) (pv 1) ⟨ϱ,ϱ,ϱ,ϱ⟩)),?_⟩
 refine ⟨_,ϱ,S.l,CS,S.dx,_,_,ϱ,b.ins,D.cl,D.ne,wg S,S.en,ϱ,.inr ⟨_,.inl b.en⟩,_,ϱ,_,DGet.t (k:=pk z) b.en e,?_⟩
 rw [vA]
 exact q
theorem Bn(F:Fun K "walked_at" "Stand.walked_at" cQ f fd)(D:TxD K CS):FnOk P w K mg base CX0 1 f fd ["self","p","i"] (vY CS K):=by
 refine F.oj iM λu A m s H vs Q E x h=>?_
 obtain ⟨p,z,S,d,r,i,rfl,e,j,q⟩:=h
 refine ⟨_,aj (aw (yY (hun x) (aq (pv 0) rfl) (aF (ac (pv 1) (ac (pv 2) af))) ⟨ϱ,ϱ,ϱ,ϱ⟩)),?_⟩
 refine ⟨_,ϱ,S.l,CS,S.dx,_,_,ϱ,e.ins,D.cl,D.na,Ai S,S.wa,_,ϱ,e.wa,_,ϱ,_,ϱ,χ,λb y=>?_⟩
 have g:=ah (o:=.tup [.ref r,.int i]) y
 refine ⟨b,(z,i),ϱ,g _ _ e.wa,e.ok.keep g.ts,⟨r,ae,g _ _ j⟩,?_⟩
 rw [tZ]
 exact q _ g
theorem Di{d:Sx}{r b:Addr}{w:Rx}(h:d.en.length<=60):(d.kp r b w).en.length<=62:=by
 cases w with
 | fin y o=>show (d.en++[(y,o)]).length<=62;rw [List.length_append];exact υ (Nat.succ_le_succ h)
 | _=>exact Λ h ζ
def shL(CH S:Addr)(h:Ah)(rs:List Addr)(us:List V)(v:V):Cs:=[(h.l,.ins CH h.dx (hf S h v)),(h.rw,.lst (rs.map V.ref)),(h.sn,.lst us)]
def LtAt(K:Frag)(H:Hp)(es:List (Pa×Str))(x:Ws)(u:V):Prop:=∃t t2 nv,u=.ref t/\H t=some (.tup [.int x.1,.ref t2])/\H t2=some (.tup [.str x.2.1,.ref x.2.2.1,.ref x.2.2.2,nv])/\NwAt K H es nv
theorem LtAt.keep{H H':Hp}{es:List (Pa×Str)}{x:Ws}{u:V}(e:TSame H H')(h:LtAt K H es x u):LtAt K H' es x u:=by
 obtain ⟨t,b,d,rfl,h1,f,g⟩:=h
 exact ⟨t,b,d,ϱ,e _ _ h1,e _ _ f,g.keep e⟩
section
variable (CS CH CL:Addr)(K:Frag)
inductive i7 (vs:List V) (H:Hp) (Q:VK) (E:XK):Prop|mk l dx S:vs=[.ref l,.ref S]->H l=some (.ins CH dx [])->(∀h H',h.l=l->Ow CH CL [l] H H' (shL CH S h [] [] .non)->Q .non H')->i7 vs H Q E
inductive jD (vs:List V) (H:Hp) (Q:VK) (E:XK):Prop|mk p z A h d rs us v r w R:vs=[.ref h.l,.ref r]->Ow CH CL (ad (shL CH A.l h rs us v++(stL p z A d++R))) H H (shL CH A.l h rs us v++(stL p z A d++R))->Si CS K H p z A d->RxAt K H p z r w->d.fits w->rs.length<=900->(∀b v' H',Ow CH CL (ad (shL CH A.l h rs us v++(stL p z A d++R))) H H' (shL CH A.l h (rs++[r]) us v'++(stL p z A (d.kp r b w)++R))->Si CS K H' p z A (d.kp r b w)->NwAt K H' (bO ltE (d.kp r b w).en) v'->Q .non H')->jD vs H Q E
inductive i6 (vs:List V) (H:Hp) (Q:VK) (E:XK):Prop|mk S h rs us v x R:vs=[.ref h.l,.int x.1,.str x.2.1,.ref x.2.2.1,.ref x.2.2.2]->Ow CH CL (ad (shL CH S h rs us v++R)) H H (shL CH S h rs us v++R)->us.length<=900->(∀u H',Ow CH CL (ad (shL CH S h rs us v++R)) H H' (shL CH S h rs (us++[u]) v++R)->WsAt H' x u->Q .non H')->i6 vs H Q E
inductive pd (vs:List V) (H:Hp) (Q:VK) (E:XK):Prop|mk S h rs v:vs=[.ref h.l]->H h.l=some (.ins CH h.dx (hf S h v))->H h.rw=some (.lst ((rs:List Addr).map V.ref))->(∀q H',Same H H'->H' q=some (.lst (rs.map V.ref))->Q (.ref q) H')->pd vs H Q E
inductive rS (vs:List V) (H:Hp) (Q:VK) (E:XK):Prop|mk p z A h d us ws v:vs=[.ref h.l]->H h.l=some (.ins CH h.dx (hf A.l h v))->H h.sn=some (.lst us)->Sa CS K H p z A d->Paired (WsAt H) ws us->ws.length<=900->d.en.length<=62->((v=.non\/NwAt K H (bO ltE d.en) v))->(∀q us' H',Same H H'->H' q=some (.lst us')->Paired (LtAt K H' (bO ltE d.en)) ws us'->Q (.ref q) H')->rS vs H Q E
end
theorem xm(F:Fun K "__init__" "Sheet.__init__" gC f fd)(d:TxH K CH):FnOk P w K mg base CX0 1 f fd ["self","stand"] (i7 CH CL):=by
 refine F.oj nQ λC A g s H vs Q E I h=>?_
 obtain ⟨l,b,S,rfl,j,q⟩:=h
 refine ⟨_,ag (aV (pv 0) (pv 1) rfl) (ag (aV (pv 0) (bE af) rfl) (ag (aV (pv 0) (bE af) rfl) (aj (aV (pv 0) cK rfl)))),?_⟩
 have g0:Ow CH CL [l] H H [(l,.ins CH b [])]:=.mk0 (L:=[(l,.ins CH b [])]) (λx i=>by rw [List.mem_singleton.mp i];exact j) (by simp [ad]) (λx i=>by rw [List.mem_singleton.mp i];exact λz=>z.1 rfl)
 have g1:Ow CH CL [l] H _ [(l,.ins CH b (az "stand" (.ref S) []))]:=g0.up 0 _ rfl
 refine ⟨_,ϱ,_,ϱ,l,CH,b,_,ϱ,j,d.cl,d.ht,(by show 0<1000;decide),χ,λe D=>?_⟩
 obtain ⟨r,u⟩:=g1.fld D (.lst []) (az "rows" (.ref e) (az "stand" (.ref S) []))
 refine ⟨_,ϱ,l,CH,b,_,ϱ,r,d.cl,d.hw,(bj (n:=999) (by show 0<999;decide)),χ,λo G=>?_⟩
 obtain ⟨y,m⟩:=u.fld G (.lst []) (az "sent" (.ref o) (az "rows" (.ref e) (az "stand" (.ref S) [])))
 exact ⟨_,ϱ,l,CH,b,_,ϱ,y,d.cl,d.hs,(bj (n:=999) (bj (n:=998) (by show 0<998;decide))),_,ϱ,l,CH,b,_,ϱ,m.co _ (.head _),d.cl,d.hl,(bj (n:=999) (bj (n:=998) (bj (n:=997) (by show 0<997;decide)))),q ⟨l,b,e,o⟩ _ rfl (m.up 0 _ rfl)⟩
theorem zx(F:Fun K "row" "Sheet.row" ib f fd)(D:TxD K CS)(e:TxH K CH)(W:CS≠CH/\CS≠CL)(GK:GM P w K mg base CX0 2 CS "keep" ["self","row"] (rQ CS CH CL K))(GW:GM P w K mg base CX0 1 CS "news" ["self"] (o6 CS K)) :
  FnOk P w K mg base CX0 3 f fd ["self","row"] (jD CS CH CL K):=by
 refine F.oj pE λa0 A y s H vs Q E O h=>?_
 obtain ⟨p,z,S,h,d,i,G,v,r,I,R,rfl,g,J,X,m,Y,q⟩:=h
 refine ⟨_,ag (aO (pm GK (aq (pv 0) rfl) D.cl O (ac (pv 1) af)))
  (ag (aO (gK PySem.F.plainAttrs_list PySem.F.slot_list_append PySem.F.type_list_append eL (aq (pv 0) rfl) (ac (pv 1) af)))
  (aj (aV (pv 0) (pm0 GW (aq (pv 0) rfl) D.cl O) rfl))),?_⟩
 refine ⟨_,ϱ,h.l,CH,h.dx,_,_,ϱ,g.co _ j0,e.cl,e.ht,xL _ _ _,S.l,S.dx,_,ϱ,J.ins,gI θ,_,ϱ,p,z,S,d,r,I,_,_,_,R,ϱ,g,J,X,m,λb H1 g1 C=>?_⟩
 have Z:H1 h.rw=some (.lst (i.map V.ref)):=g1.co _ j1
 refine ⟨_,ϱ,h.l,CH,h.dx,_,_,ϱ,g1.co _ j0,e.cl,e.hw,Az _ _ _,.inl ⟨ϱ,_,SqL.of (g1.co _ j1)⟩,_,ϱ,h.rw,_,_,ϱ,ϱ,g1.co _ j1,cW (by rw [ν];omega),?_⟩
 have u:Ow CH CL (ad (shL CH S.l h i G v++(stL p z S d++R))) H (upd H1 h.rw (.lst ((i++[r]).map V.ref))) (shL CH S.l h (i++[r]) G v++(stL p z S (d.kp r b I)++R)):=g1.up 1 _ rfl
 rw [show i.map V.ref++[.ref r]=(i++[r]).map V.ref by rw [List.map_append];rfl]
 have j:=C.im (cH (bn (o:=.lst ((i++[r]).map V.ref))) Z id) W
 refine ⟨_,ϱ,h.l,CH,h.dx,_,_,ϱ,u.co _ j0,e.cl,e.ht,xL _ _ _,S.l,S.dx,_,ϱ,j.ins,gI θ,p,z,S,_,ϱ,Aq u j,Di m.le,λv' H3 U nw=>?_⟩
 have L:=u.same U
 have x:H3 h.l=some (.ins CH h.dx (hf S.l h v)):=L.co _ j0
 refine ⟨_,ϱ,h.l,CH,h.dx,_,ϱ,x,e.cl,e.hl,BV _ _ _,?_⟩
 rw [BU]
 exact q b v' _ (L.up 0 _ rfl) ((j.keep U).im (cH bn x λz=>z.2.1 rfl) W) (nw.keep (iL x))
theorem xk(F:Fun K "send" "Sheet.send" gz f fd)(r:TxH K CH):FnOk P w K mg base CX0 1 f fd ["self","to","word","p","more"] (i6 CH CL):=by
 refine F.oj nO λz A b s H vs Q E I h=>?_
 obtain ⟨S,h,D,u,v,x,R,rfl,g,G,q⟩:=h
 refine ⟨_,aj (aO (gK PySem.F.plainAttrs_list PySem.F.slot_list_append PySem.F.type_list_append eL (aq (pv 0) rfl) (ac (aF (ac (pv 1) (ac (aF (ac (pv 2) (ac (pv 3) (ac (pv 4) af)))) af))) af))),?_⟩
 refine ⟨_,ϱ,h.l,CH,h.dx,_,_,ϱ,g.co _ j0,r.cl,r.hs,Ay _ _ _,.inl ⟨ϱ,_,SqL.of (g.co _ j2)⟩,_,ϱ,_,ϱ,_,ϱ,_,ϱ,χ,λm d=>⟨χ,λt C=>?_⟩⟩
 have e:=ah (o:=.tup [.int x.1,.ref m]) C
 have i:=(g.same (ah d)).same e
 have j:=i.co _ j2
 have y:WsAt _ x (.ref t):=⟨t,m,ϱ,ae,e _ _ ae⟩
 exact ⟨h.sn,u,_,ϱ,ϱ,j,cW ω,q (.ref t) _ (i.up 2 _ rfl) (y.keep (iL j))⟩
theorem xl(F:Fun K "rows_told" "Sheet.rows_told" cR f fd)(B:TxB mg)(d:TxH K CH):FnOk P w K mg base CX0 1 f fd ["self"] (pd CH):=by
 refine F.oj iN λg A b s H vs Q E m h=>?_
 obtain ⟨S,h,j,v,rfl,h1,e,q⟩:=h
 refine ⟨_,aj (aw (aX gH rfl B.list PyProof.Rows.boot_list (ac (aq (pv 0) rfl) af))),?_⟩
 exact ⟨_,ϱ,h.l,CH,h.dx,_,_,ϱ,h1,d.cl,d.hw,Az _ _ _,h.rw,_,ϱ,.inl (SqL.of e),λp i=>q p _ (ah i) ae⟩
inductive Ce (CH:Addr) (K:Frag) (D:Ends) (σ:L2.St) (H:Hp):Prop|mk S h us ws v nv es:σ=[some (.ref (h:Ah).l),some nv]->H h.l=some (.ins CH h.dx (hf S h v))->H h.sn=some (.lst us)->Paired (WsAt H) ws us->ws.length<=900->NwAt K H es nv->(∀p us' H',Same H H'->H' p=some (.lst us')->Paired (LtAt K H' es) ws us'->D.rt (.ref p) H')->Ce CH K D σ H
theorem zy(F:Fun K "letters_told" "Sheet.letters_told" bh f fd)(D:TxD K CS)(j:TxH K CH)(GW:GM P w K mg base CX0 1 CS "news" ["self"] (o6 CS K)) :
  FnOk P w K mg base CX0 2 f fd ["self"] (rS CS CH K):=by
 refine F.oj sc_Sheet_letters_told λaR A a1 s H vs Q E hr h=>?_
 obtain ⟨p,z,S,h,d,m,y,v,rfl,h1,h2,sa,b,W,le,X,q⟩:=h
 have nd:=sc_Sheet_letters_told.nd
 refine ⟨_,ag (aD (i:=1) nd rfl (Or.inr rfl) (qu (ax pR (aq (pv 0) rfl) cK (ay _)) (pm0 GW (aq (pv 0) rfl) D.cl hr) (aq (pv 0) rfl)))
  (qp (Ce CH K) (aj (aw (dF fT rfl (bZ (aq (pv 0) rfl)) (λ_ _ _ _=>cP) (λ_ _ _ _=>aF (ac (au (r:=aQ K) aB (pv 0) ai (λ_ _=>rfl)) (ac (aH (r:=Ao K) zc (au (r:=aQ K) aB (pv 0) ai (λ_ _=>rfl)) (aF (ac (pv 1) af))) af)))))) ?v1),?_⟩
 case v1 =>
  rintro D0 σ H ⟨S,h,m,y,v,nv,es,rfl,h1,J,b,W,L,q⟩
  refine ⟨_,ϱ,h.l,CH,h.dx,_,_,ϱ,h1,j.cl,j.hs,Ay _ _ _,h.sn,ϱ,⟨_,SqL.of J⟩,?_⟩
  refine cJ (xs:=m) (λi C I=>Same H I/\Paired (LtAt K I es) (y.take i) C) ⟨Same.refl _,.nil⟩ (ko (by rw [← b.len];omega)) (λi C I _ z=>SqL.of (z.1 _ _ J)) ?_ ?_
  ·rintro i u C H1 hu ⟨g,U⟩
   obtain ⟨x,ex,t,t2,rfl,ht,Y⟩:=b.get hu
   obtain ⟨O,rfl⟩:∃O,nv=.ref O:=by obtain ⟨t,_,e,_⟩:=L;exact ⟨t,e⟩
   have et:y.take (i+1)=y.take i++[x]:=by rw [List.take_succ,ex];rfl
   refine lU ⟨_,ϱ,t,_,_,_,ϱ,ϱ,SqT.of (g _ _ ht),at0,_,ϱ,t,_,_,_,ϱ,ϱ,SqT.of (g _ _ ht),at1,_,ϱ,χ,λt3 a2=>?_⟩
   have Z:=ah (o:=.tup [.ref O]) a2
   refine ⟨t2,t3,_,_,ϱ,ϱ,SqT.of (Z _ _ (g _ _ Y)),SqT.of ae,(λz=>by cases z),χ,(λz=>by cases z),λ_ t4 a3=>⟨χ,λt5 a4=>?_⟩⟩
   have s4:=ah (o:=.tup ([.str x.2.1,.ref x.2.2.1,.ref x.2.2.2]++[.ref O])) a3
   have s5:=ah (o:=.tup [.int x.1,.ref t4]) a4
   have G:=g.trans (Z.trans (s4.trans s5))
   rw [et]
   exact ⟨G,(Paired.mapP U λ_ _ z=>z.keep (Z.trans (s4.trans s5)).ts).app (.cons ⟨t5,t4,_,ϱ,ae,s5 _ _ ae,L.keep G.ts⟩ .nil)⟩
  ·rintro C H1 ⟨g,U⟩ p hp
   rw [← b.len,List.take_length] at U
   have s2:=ah (o:=.lst C) hp
   exact q p C _ (g.trans s2) ae (Paired.mapP U λ_ _ z=>z.keep s2.ts)
 refine ⟨_,ϱ,h.l,CH,h.dx,_,_,ϱ,h1,j.cl,j.hl,AA _ _ _,ϱ,_,ϱ,?_⟩
 by_cases e:v=.non
 ·refine a9 (λ_=>?_) (λc=>absurd (τ e) c)
  refine ⟨_,ϱ,h.l,CH,h.dx,_,_,ϱ,h1,j.cl,j.ht,xL _ _ _,S.l,S.dx,_,ϱ,sa.ins,gI θ,p,z,S,d,ϱ,sa,le,λnv H1 g nw=>?_⟩
  exact ⟨S.l,h,m,y,v,nv,_,ϱ,g _ _ h1,g _ _ h2,Paired.mapP b λ_ _ z=>z.keep g.ts,W,nw,λp m I s'=>q p m I (g.trans s')⟩
 ·refine a9 (λc=>absurd (Ξ c) e) (λ_=>?_)
  exact ⟨_,ϱ,h.l,CH,h.dx,_,_,ϱ,h1,j.cl,j.hl,AA _ _ _,S.l,h,m,y,v,v,_,ϱ,h1,h2,b,W,X.resolve_left e,q⟩
end
open St
section
variable {P:Program}{w:World}{K:Frag}{mg:Str->Option Value}{base:Heap}{f CL CS CH CV:Addr}{fd:FuncData}{C:Kd->Addr}{CW:Wd->Addr}
theorem xc(F:Fun K "lock" "TakeStep.lock" d0 f fd)(W:TxW K CW)(T:TxK K C)(l:∀k,mg (kdN k)=some (.ref (C k))){r:Addr}{u:FuncData}(M:∀k,Mk K (C k) r)
  (O:FnOk P w K mg base CX0 1 r u ["self","first","last"] (fg C))(U:Binds K u ["self","first","last"] [])(X:∀k,GM P w K mg base CX0 2 (C k) "told" ["self"] (gf C)):FnOk P w K mg base CX0 3 f fd ["self"] (df CW K .take):=by
 refine F.oj jG λG A g s H vs Q E o h=>?_
 obtain ⟨v,Y,rfl,D,⟨a,m,rfl,b⟩,q⟩:=h
 obtain ⟨x,y,rfl,_,_,e⟩:=D.c rfl
 rw [e] at b
 have d:Room (1+1) _:=o
 refine ⟨_,aj (aw (pm0 (X .read) (ba (M .read) O d rfl (l .read) U .nil bb (ac (aq (pv 0) rfl) (ac (aq (pv 0) rfl) af))) (T.cl .read) o)),?_⟩
 refine ⟨_,ϱ,a,_,m,_,_,ϱ,b,W.cl _,W.nC _,bF,_,ϱ,a,_,m,_,_,ϱ,b,W.cl _,W.nC _,bF,λz i I j J=>⟨z,i,.read,y,y,ϱ,ae,ϱ,z,i,_,ϱ,ae,fW _ _ θ θ,_,(.read,y,y),ϱ,⟨z,i,ϱ,ae⟩,λt L=>?_⟩⟩
 exact q _ _ ((fm I j).trans (ah L)) ⟨t,ϱ,ae⟩
theorem xg(F:Fun K "lock" "MeanStep.lock" eB f fd)(W:TxW K CW)(T:TxK K C)(l:∀k,mg (kdN k)=some (.ref (C k))){r:Addr}{u:FuncData}(M:∀k,Mk K (C k) r)
  (O:FnOk P w K mg base CX0 1 r u ["self","first","last"] (fg C))(U:Binds K u ["self","first","last"] [])(X:∀k,GM P w K mg base CX0 2 (C k) "told" ["self"] (gf C)):FnOk P w K mg base CX0 3 f fd ["self"] (df CW K .mean):=by
 refine F.oj jL λG A g s H vs Q E o h=>?_
 obtain ⟨v,Y,rfl,D,⟨a,m,rfl,b⟩,q⟩:=h
 obtain ⟨x,y,rfl,_,_,e⟩:=D.c rfl
 rw [e] at b
 have d:Room (1+1) _:=o
 refine ⟨_,aj (aw (pm0 (X .mean) (ba (M .mean) O d rfl (l .mean) U .nil bb (ac (aq (pv 0) rfl) (ac (aq (pv 0) rfl) af))) (T.cl .mean) o)),?_⟩
 refine ⟨_,ϱ,a,_,m,_,_,ϱ,b,W.cl _,W.nC _,bF,_,ϱ,a,_,m,_,_,ϱ,b,W.cl _,W.nC _,bF,λz i I j J=>⟨z,i,.mean,y,y,ϱ,ae,ϱ,z,i,_,ϱ,ae,fW _ _ θ θ,_,(.mean,y,y),ϱ,⟨z,i,ϱ,ae⟩,λt L=>?_⟩⟩
 exact q _ _ ((fm I j).trans (ah L)) ⟨t,ϱ,ae⟩
theorem xi(F:Fun K "lock" "GiveStep.lock" eC f fd)(W:TxW K CW)(T:TxK K C)(l:∀k,mg (kdN k)=some (.ref (C k))){r:Addr}{u:FuncData}(M:∀k,Mk K (C k) r)
  (O:FnOk P w K mg base CX0 1 r u ["self","first","last"] (fg C))(U:Binds K u ["self","first","last"] [])(X:∀k,GM P w K mg base CX0 2 (C k) "told" ["self"] (gf C)):FnOk P w K mg base CX0 3 f fd ["self"] (df CW K .give):=by
 refine F.oj jN λG A g s H vs Q E o h=>?_
 obtain ⟨v,Y,rfl,D,⟨a,m,rfl,b⟩,q⟩:=h
 obtain ⟨x,y,rfl,_,_,e⟩:=D.c rfl
 rw [e] at b
 have d:Room (1+1) _:=o
 refine ⟨_,aj (aw (pm0 (X .change) (ba (M .change) O d rfl (l .change) U .nil bb (ac (aq (pv 0) rfl) (ac (aq (pv 0) rfl) af))) (T.cl .change) o)),?_⟩
 refine ⟨_,ϱ,a,_,m,_,_,ϱ,b,W.cl _,W.nC _,bF,_,ϱ,a,_,m,_,_,ϱ,b,W.cl _,W.nC _,bF,λz i I j J=>⟨z,i,.change,y,y,ϱ,ae,ϱ,z,i,_,ϱ,ae,fW _ _ θ θ,_,(.change,y,y),ϱ,⟨z,i,ϱ,ae⟩,λt L=>?_⟩⟩
 exact q _ _ ((fm I j).trans (ah L)) ⟨t,ϱ,ae⟩
theorem zr(F:Fun K "lock" "AddStep.lock" eX f fd)(W:TxW K CW)(T:TxK K C)(i:∀k,mg (kdN k)=some (.ref (C k))){o:Addr}{r:FuncData}(M:∀k,Mk K (C k) o)
  (L:FnOk P w K mg base CX0 1 o r ["self","first","last"] (fg C))(O:Binds K r ["self","first","last"] [])(U:∀k,GM P w K mg base CX0 2 (C k) "told" ["self"] (gf C)):FnOk P w K mg base CX0 3 f fd ["self"] (df CW K .add):=by
 refine F.oj kS λD A d s H vs Q E m h=>?_
 obtain ⟨v,X,rfl,u,⟨a,j,rfl,l⟩,q⟩:=h
 obtain ⟨x,y,Y,rfl,_⟩:=u.a
 have b:Room (1+1) _:=m
 refine ⟨_,aj (aw (pm0 (U .change) (ba (M .change) L b rfl (i .change) O .nil bb (ac (aq (pv 0) rfl) (ac (aq (pv 0) rfl) af))) (T.cl .change) m)),?_⟩
 refine ⟨_,ϱ,a,_,j,_,_,ϱ,l,W.cl _,W.nC _,(by show (az "amount" _ (az "cell" _ (az "where" _ []))).lookup _=_;rw [aP θ,bF]),_,ϱ,a,_,j,_,_,ϱ,l,W.cl _,W.nC _,(by show (az "amount" _ (az "cell" _ (az "where" _ []))).lookup _=_;rw [aP θ,bF]),λz e G g I=>⟨z,e,.change,y,y,ϱ,ae,ϱ,z,e,_,ϱ,ae,fW _ _ θ θ,_,(.change,y,y),ϱ,⟨z,e,ϱ,ae⟩,λt J=>?_⟩⟩
 exact q _ _ ((fm G g).trans (ah J)) ⟨t,ϱ,ae⟩
theorem zp(F:Fun K "lock" "SumStep.lock" eU f fd)(W:TxW K CW)(T:TxK K C)(i:∀k,mg (kdN k)=some (.ref (C k))){o:Addr}{r:FuncData}(M:∀k,Mk K (C k) o)
  (L:FnOk P w K mg base CX0 1 o r ["self","first","last"] (fg C))(O:Binds K r ["self","first","last"] [])(U:∀k,GM P w K mg base CX0 2 (C k) "told" ["self"] (gf C)):FnOk P w K mg base CX0 3 f fd ["self"] (df CW K .sum):=by
 refine F.oj kO λD A d s H vs Q E m h=>?_
 obtain ⟨v,X,rfl,u,⟨a,j,rfl,l⟩,q⟩:=h
 obtain ⟨x,y,y2,rfl,_⟩:=u.s
 have b:Room (1+1) _:=m
 refine ⟨_,aj (aw (pm0 (U .read) (ba (M .read) L b rfl (i .read) O .nil bb (ac (aq (pv 0) rfl) (ac (aq (pv 0) rfl) af))) (T.cl .read) m)),?_⟩
 refine ⟨_,ϱ,a,_,j,_,_,ϱ,l,W.cl _,W.nL _,(by show (az "high" _ (az "low" _ (az "where" _ []))).lookup _=_;rw [aP θ,bF]),_,ϱ,a,_,j,_,_,ϱ,l,W.cl _,W.nH _,bF,λz e G g I=>⟨z,e,.read,y,y2,ϱ,ae,ϱ,z,e,_,ϱ,ae,fW _ _ θ θ,_,(.read,y,y2),ϱ,⟨z,e,ϱ,ae⟩,λt J=>?_⟩⟩
 exact q _ _ ((fm G g).trans (ah J)) ⟨t,ϱ,ae⟩
theorem qB{b:Wd}(hw:b=.plus\/b=.need)(F:Fun K "lock" "Step.lock" h9 f fd):FnOk P w K mg base CX0 1 f fd ["self"] (df CW K b):=by
 refine F.oj pD λi A d s H vs Q E m h=>?_
 obtain ⟨v,g,rfl,j,l,q⟩:=h
 refine ⟨_,aj (aw cK),?_⟩
 have e:jm b g=none:=by rcases hw with rfl | rfl<;>rfl
 rw [e] at q
 exact q .non H (Same.refl H) rfl
end
end K53
namespace K53T
open PySem L2 Km PySem.NumText
abbrev wq:Stmt:=K53.mq
abbrev tI:Stmt:=K53.je
abbrev Ak:Stmt:=K53.ox
abbrev Am:Stmt:=K53.iH
abbrev Al:Stmt:=K53.gL
abbrev CQ:Stmt:=K53.fo
abbrev wr:Stmt:=K53.eG
abbrev CK:Stmt:=K53.dJ
theorem tp:¬(("text":Str)="place"):=by decide +kernel
def rf(z:Str)(k:Int):List (Str×V):=az "place" (.int k) (az "text" (.str z) [])
theorem wx(z:Str)(k:Int):rf z k=([("text",V.str z),("place",V.int k)]:List (Str×V)):=by
 show (if ("text":Str)="place" then [(("text":Str),V.int k)] else (("text":Str),V.str z)::az "place" (V.int k) [])=([("text",V.str z),("place",V.int k)]:List (Str×V))
 rw [if_neg tp]
 all_goals rfl
theorem lH(z:Str)(k:Int):(rf z k).lookup ("text":Str)=some (.str z):=by
 unfold rf
 rw [al,if_neg tp,al,if_pos rfl]
theorem dD(z:Str)(k:Int):(rf z k).lookup ("place":Str)=some (.int k):=by
 unfold rf
 rw [al,if_pos rfl]
theorem ql(z:Str)(k:Int){m:Str}(h1:¬m="place")(b:¬m="text"):(rf z k).lookup m=none:=by
 unfold rf
 rw [al,if_neg h1,al,if_neg b]
 all_goals rfl
theorem wv(z:Str)(k j:Int):az "place" (.int j) (rf z k)=rf z j:=by
 rw [wx,wx]
 show (if ("text":Str)="place" then _ else (("text":Str),V.str z)::(if ("place":Str)="place" then [(("place":Str),V.int j)] else _))=([("text",V.str z),("place",V.int j)]:List (Str×V))
 rw [if_neg tp,if_pos rfl]
theorem ww(z:Str)(k:Int):(rf z k).length=2:=by rw [wx];rfl
structure Tx(K:Frag)(mg:Str->Option Value)(C:Addr):Prop where
 cl:Cls K C
 nT:NoAttr K C "text"
 nP:NoAttr K C "place"
 mgC:mg "Reader"=some (.ref C)
 isi:mg "isinstance"=none
 int:mg "int"=none
 bool:mg "bool"=none
 str:mg "str"=none
 len:mg "len"=none
 ord:mg "ord"=none
 all:mg "all"=none
 range:mg "range"=none
 cFig:∃t,mg "MOST_FIGURES_things"=some (.int 400 t)
 cDeep:∃t,mg "MOST_DEEP"=some (.int 8 t)
 cLong:∃t,mg "LONGEST"=some (.int 100000 t)
 cBl:∃t,mg "BLANK"=some (.int 32 t)
 cPc:∃t,mg "PERCENT"=some (.int 37 t)
 cTi:∃t,mg "TILDE"=some (.int 126 t)
theorem qR{X:Cx}{x:Str}{i:Int}{pos:Pos}(b:∃t,X.mg x=some (.int i t))(d:Gl X x)(f:(x==("__debug__":Str))=false:=by decide):PE X (.Name x pos) (tC (.int i)):=by
 obtain ⟨t,e⟩:=b
 exact gp d e ⟨t,ϱ⟩ f
section
variable {K:Frag}
theorem BM:PySem.W.kitOne K (.type "int") (.type "int")=some true:=rfl
theorem BN:PySem.W.kitOne K (.type "int") (.type "bool")=some false:=by kernel_rfl
end
section
variable {P:Program}{w:World}{K:Frag}{mg:Str->Option Value}{base:Heap}{f C:Addr}{fd:FuncData}
inductive oX (vs:List V) (H:Hp) (Q:VK) (E:XK):Prop|mk i:vs=[.int i]->Q (.bl true) H->oX vs H Q E
theorem yM:am ["thing"] ["thing"] (defScope wq):=⟨ϱ,ϱ,ϱ,θ,ϱ,θ,θ⟩
theorem wT(F:Fun K "is_whole" "is_whole" wq f fd)(T:Tx K mg C):FnOk P w K mg base CX0 1 f fd ["thing"] oX:=by
 refine F.oj yM λd A b s H vs Q E e h=>?_
 obtain ⟨i,rfl,q⟩:=h
 refine ⟨_,aj (aw (hZ (aK kK rfl T.isi PyProof.Rows.boot_isinstance (ac (pv 0) (ac (tV (v:=.ty "int") rfl T.int PyProof.Rows.boot_int rfl) af)))
  (eO (Bi (aK kK rfl T.isi PyProof.Rows.boot_isinstance (ac (pv 0) (ac (tV (v:=.ty "bool") rfl T.bool PyProof.Rows.boot_bool rfl) af))))))),?_⟩
 exact ⟨_,ϱ,_,_,_,_,ϱ,TyOf.int i,BM,_,ϱ,cu ⟨_,ϱ,_,_,_,_,ϱ,TyOf.int i,BN,_,ϱ,q⟩⟩
theorem mK:1000000<=sizeLine:=by decide
inductive rJ (vs:List V) (H:Hp) (Q:VK) (E:XK):Prop|mk (c:Nat):vs=[.str ⟨#[c]⟩]->Q (.bl (sj c)) H->rJ vs H Q E
theorem scSign:am ["sign","number"] ["sign"] (defScope Ak):=⟨ϱ,ϱ,ϱ,θ,ϱ,θ,θ⟩
theorem zg(F:Fun K "is_sign" "is_sign" Ak f fd)(T:Tx K mg C):FnOk P w K mg base CX0 1 f fd ["sign"] rJ:=by
 refine F.oj scSign λj A e s H vs Q E l h=>?_
 obtain ⟨c,rfl,q⟩:=h
 refine ⟨_,ag (aD (i:=1) scSign.nd rfl (Or.inl rfl) (aK ym rfl T.ord PyProof.Rows.boot_ord (ac (pv 0) af)))
  (aj (aw (hZ (wJ tX tX (qR T.cBl rfl) (pv 1) (qR T.cTi rfl)) (eO (bv oC (pv 1) (qR T.cPc rfl) (ay _)))))),?_⟩
 refine ⟨_,ϱ,_,ϱ,ϱ,?_⟩
 refine ⟨_,ϱ,_,_,ϱ,ϱ,_,ϱ,?_⟩
 have e0:((({cps:=#[c]}:Str).cps.getD 0 0:Nat):Int)=(c:Int):=rfl
 unfold sj at q
 by_cases h1:32<=c
 ·have b:decide ((32:Int)<=(({cps:=#[c]}:Str).cps.getD 0 0:Nat))=true:=τ (by rw [e0];omega)
  rw [b]
  refine cu ⟨_,_,ϱ,ϱ,_,ϱ,?_⟩
  by_cases h2:c<=126
  ·have d:decide (((({cps:=#[c]}:Str).cps.getD 0 0:Nat):Int)<=126)=true:=τ (by rw [e0];omega)
   rw [d]
   refine cu ⟨_,ϱ,ϱ,?_⟩
   have g:(!decide (V.int (({cps:=#[c]}:Str).cps.getD 0 0:Nat)=V.int 37))=(decide (32<=c)&&decide (c<=126)&&decide (c≠37)):=by
    rw [τ h1,τ h2,pW,e0]
    by_cases h3:c=37
    ·subst h3;rfl
    ·have:((c:Int)==37)=false:=beq_eq_false_iff_ne.mpr ω
     rw [this,τ h3];rfl
   rw [g]
   exact q
  ·have d:decide (((({cps:=#[c]}:Str).cps.getD 0 0:Nat):Int)<=126)=false:=Γ (by rw [e0];omega)
   rw [d]
   refine aT ?_
   rw [Γ h2,Bool.and_false,Bool.false_and] at q
   exact q
 ·have b:decide ((32:Int)<=(({cps:=#[c]}:Str).cps.getD 0 0:Nat))=false:=Γ (by rw [e0];omega)
  rw [b]
  refine aT ⟨_,ϱ,aT ?_⟩
  rw [Γ h1,Bool.false_and,Bool.false_and] at q
  exact q
inductive rR (C:Addr) (vs:List V) (H:Hp) (Q:VK) (E:XK):Prop|mk p dx z:vs=[.ref p,.str z]->H p=some (.ins C dx [])->Q .non (upd (upd H p (.ins C dx (az "text" (.str z) []))) p (.ins C dx (rf z 0)))->rR C vs H Q E
theorem A5:am ["self","text"] ["self","text"] (defScope Am):=⟨ϱ,ϱ,ϱ,θ,ϱ,θ,θ⟩
theorem zv(F:Fun K "__init__" "Reader.__init__" Am f fd)(T:Tx K mg C):FnOk P w K mg base CX0 1 f fd ["self","text"] (rR C):=by
 refine F.oj A5 λg A b s H vs Q E i h=>?_
 obtain ⟨p,d,z,rfl,e,q⟩:=h
 refine ⟨_,ag (aV (pv 0) (pv 1) rfl) (aj (aV (pv 0) ai rfl)),?_⟩
 exact ⟨_,ϱ,_,ϱ,p,C,d,[],ϱ,e,T.cl,T.nT,(by show 0<1000;decide),_,ϱ,p,C,d,_,ϱ,ae,T.cl,T.nP,(by show 1<1000;decide),q⟩
theorem lW(z:Str)(c k:Nat):Txt.startswith3 z ⟨#[c]⟩ (k:Int)=decide (z.cps.toList[k]?=some c):=by
 have f:fromIndex z.length (k:Int)=k:=by
  unfold fromIndex
  rw [if_neg ω]
  omega
 unfold Txt.startswith3
 rw [f]
 have e:(({cps:=#[c]}:Str)).length=1:=rfl
 rw [e]
 by_cases h:k<z.length
 ·have g:k<z.cps.size:=h
  have j:Builtin.Str.subAt z ⟨#[c]⟩ k=(z.cps[k]==c):=by
   unfold Builtin.Str.subAt
   rw [e]
   have l:z.cps.extract k (k+1)=#[z.cps[k]]:=by
    apply Array.ext
    ·simp;omega
    ·intro i h1 m
     have:i=0:=by simp at m;omega
     subst this
     simp
   rw [l]
   simp
  rw [j]
  have b:decide (k+1<=z.length)=true:=τ h
  rw [b,Bool.true_and]
  have d:z.cps.toList[k]?=some z.cps[k]:=by rw [Array.getElem?_toList];exact Array.getElem?_eq_getElem g
  rw [d]
  simp [Bool.beq_eq_decide_eq]
 ·have b:decide (k+1<=z.length)=false:=Γ ω
  rw [b,Bool.false_and]
  have d:z.cps.toList[k]?=none:=by rw [Array.getElem?_toList];exact Array.getElem?_eq_none (by show z.length<=k;omega)
  rw [d]
  simp
inductive rM (C:Addr) (vs:List V) (H:Hp) (Q:VK) (E:XK):Prop|mk p dx z c:∀(k:Nat),vs=[.ref p,.str ⟨#[c]⟩]->H p=some (.ins C dx (rf z k))->((if z.cps.toList[k]?=some c then Q (.bl true) (upd H p (.ins C dx (rf z ((k+1:Nat):Int)))) else Q (.bl false) H))->rM C vs H Q E
theorem A4:am ["self","sign"] ["self","sign"] (defScope Al):=⟨ϱ,ϱ,ϱ,θ,ϱ,θ,θ⟩
theorem zk(F:Fun K "passes" "Reader.passes" Al f fd)(T:Tx K mg C):FnOk P w K mg base CX0 1 f fd ["self","sign"] (rM C):=by
 refine F.oj A4 λi A g s H vs Q E j h=>?_
 obtain ⟨p,b,z,c,k,rfl,d,q⟩:=h
 refine ⟨_,ag (aI (iR (cB (gK PySem.F.plainAttrs_str PySem.F.slot_str_startswith PySem.F.type_str_startswith mI (aq (pv 0) rfl) (ac (pv 1) (ac (aq (pv 0) rfl) af))))) (aj (aw oB)) aC)
  (ag (oz (pv 0) ai xJ) (aj (aw oB))),?_⟩
 refine ⟨_,ϱ,p,C,b,_,_,ϱ,d,T.cl,T.nT,lH _ _,ϱ,_,ϱ,_,ϱ,p,C,b,_,_,ϱ,d,T.cl,T.nP,dD _ _,_,_,_,ϱ,ϱ,_,ϱ,?_⟩
 rw [lW]
 by_cases hk:z.cps.toList[k]?=some c
 ·rw [if_pos hk] at q
  rw [τ hk]
  refine aT ?_
  refine ⟨_,ϱ,p,C,b,_,_,ϱ,d,T.cl,T.nP,dD _ _,_,_,ϱ,ϱ,b,_,d,(by rw [ww];decide),?_⟩
  rw [wv]
  have e:((k:Int)+1)=((k+1:Nat):Int):=by omega
  rw [e]
  exact q
 ·rw [if_neg hk] at q
  rw [Γ hk]
  exact cu q
end
theorem lB{x y:Str}(h:x.cps.toList=y.cps.toList):x=y:=by
 obtain ⟨a⟩:=x
 obtain ⟨b⟩:=y
 have:a=b:=Array.toList_inj.mp h
 rw [this]
theorem lM(z:Str):z.length=z.cps.toList.length:=by simp [Str.length]
theorem uJ{z:Str}{pre d b:List Nat}(e:z.cps.toList=pre++d++b):Txt.slice z (some ((pre.length:Nat):Int)) (some (((pre.length+d.length:Nat)):Int))=⟨d.toArray⟩:=by
 have h:z.cps.toList.length=pre.length+d.length+b.length:=by rw [e];simp;omega
 have q:=PyProof.Rows.slice_closes (x:=z) (i:=((pre.length:Nat):Int)) (j:=((pre.length+d.length:Nat):Int)) ⟨ω,ω,ω⟩
 rw [eq_of_beq q]
 refine lB ?_
 have f:(((pre.length+d.length:Nat):Int)-((pre.length:Nat):Int)).toNat=d.length:=by omega
 have g:(((pre.length:Nat):Int)).toNat=pre.length:=by omega
 rw [f,g,e,List.append_assoc,List.drop_left,List.take_left]
theorem yA:∀c:Nat,c<128->Unicode.isDigit c=qO c:=by decide +kernel
theorem kx{c:Nat}(h:c<128):Txt.isdigit ⟨#[c]⟩=qO c:=by
 rw [← yA c h]
 unfold Txt.isdigit
 simp [Str.length]
def yt(ds:List Nat):Prop:=AllDigits ds/\ds≠[]/\ds.length<=400/\(ds=[48]\/∀c r,ds=c::r->c≠48)
def ut(post:List Nat):Prop:=∀c r,post=c::r->c<128/\qO c=false
def But(p:Addr)(H H':Hp):Prop:=∀b o,H b=some o->b≠p->H' b=some o
theorem But.refl(p:Addr)(H:Hp):But p H H:=λ_ _ e _=>e
theorem But.upd{p:Addr}{H H':Hp}(h:But p H H')(o:HO):But p H (L2.upd H' p o):=λb u e n=>by rw [ao n];exact h b u e n
theorem But.trans{p:Addr}{H H1 H2:Hp}(a:But p H H1)(b:But p H1 H2):But p H H2:=λc o e n=>b c o (a c o e n) n
theorem yJ(x y:Str):Txt.startswith x y=Txt.startswith3 x y ((0:Nat):Int):=by
 unfold Txt.startswith Txt.startswith3
 have e:fromIndex x.length ((0:Nat):Int)=0:=by unfold fromIndex;simp
 rw [e]
section
variable {P:Program}{w:World}{K:Frag}{mg:Str->Option Value}{base:Heap}{f C:Addr}{fd:FuncData}
inductive tq (C:Addr) (vs:List V) (H:Hp) (Q:VK) (E:XK):Prop|mk p dx z pre ds post:vs=[.ref p]->z.cps.toList=pre++ds++post->H p=some (.ins C dx (rf z (pre.length:Nat)))->z.length<=100000->yt ds->ut post->(∀H',H' p=some (.ins C dx (rf z ((pre.length+ds.length:Nat):Int)))->But p H H'->Q (.int (digitsVal ds:Nat)) H')->tq C vs H Q E
theorem scNum:am ["self","start","figures"] ["self"] (defScope CK):=⟨ϱ,ϱ,ϱ,θ,ϱ,θ,θ⟩
theorem zX:(Str.ofString "")=⟨#[]⟩:=by decide +kernel
theorem xW:(Str.ofString "0")=⟨#[48]⟩:=by decide +kernel
def qg(K:Frag):TT:=CD (Ae (tOp (rI0 λi j=>.bl (decide (i<j))) (uE K (rE 0) "place") (tCB (λxs H Q=>∃z,xs=[.str z]/\z.length<=sizeLine/\Q (.int z.length) H) (Ag (uE K (rE 0) "text") vU))))
 (tB (Cy K "str" (λx vs H Q=>∃z,x=.str z/\vs=[]/\Q (.bl (Txt.isdigit z)) H) (tOp CZ (uE K (rE 0) "text") (uE K (rE 0) "place"))))
theorem xA{p l:Addr}{z:Str}{pre d b:List Nat}{j:Nat}{σ:St}{H1:Hp}{R:Bool->Hp->Prop}(T:Tx K mg C)(q:z.cps.toList=pre++d++b)(hz:z.length<=100000)(y:AllDigits d)(u:ut b)(G:j<=d.length)
  (e0:σ[0]?=some (some (.ref p)))(e:H1 p=some (.ins C l (rf z ((pre.length+j:Nat):Int))))(h:R (decide (j<d.length)) H1):qg K σ H1 R:=by
 have D:=mK
 have F:z.length=pre.length+d.length+b.length:=by rw [lM,q];simp;omega
 refine ⟨_,e0,p,C,l,_,_,ϱ,e,T.cl,T.nP,dD _ _,_,e0,p,C,l,_,_,ϱ,e,T.cl,T.nT,lH _ _,_,ϱ,ω,_,_,ϱ,ϱ,_,ϱ,?_⟩
 by_cases hlt:(pre.length+j:Nat)<z.length
 ·rw [τ (show (((pre.length+j:Nat)):Int)<((z.length:Nat):Int) by omega)]
  have g:pre.length+j<z.cps.toList.length:=by rw [← lM];exact hlt
  obtain ⟨c,f⟩:∃c,z.cps.toList[pre.length+j]?=some c:=⟨_,ξ g⟩
  refine cu ⟨_,e0,p,C,l,_,_,ϱ,e,T.cl,T.nT,lH _ _,_,e0,p,C,l,_,_,ϱ,e,T.cl,T.nP,dD _ _,z,_,c,ϱ,ϱ,ω,aW f,ϱ,_,ϱ,ϱ,_,ϱ,?_⟩
  by_cases hjd:j<d.length
  ·have m:d[j]?=some c:=by
    rw [q,List.append_assoc,List.getElem?_append_right ω,List.getElem?_append_left ω] at f
    rw [← f];congr 1;omega
   have w:48<=c/\c<=57:=y c (List.mem_of_getElem? m)
   have o:Txt.isdigit ⟨#[c]⟩=true:=by rw [kx ω];unfold qO;rw [decide_eq_true w.1,decide_eq_true w.2];rfl
   rw [τ hjd] at h
   rw [o]
   exact h
  ·have x:j=d.length:=by omega
   have m:b[0]?=some c:=by
    rw [q,List.getElem?_append_right (by rw [List.length_append];omega)] at f
    rw [← f];congr 1;rw [List.length_append];omega
   have i:c<128/\qO c=false:=by
    cases b with
    | nil=>cases m
    | cons a r=>exact u c r (by rw [show a=c by simpa using m])
   have o:Txt.isdigit ⟨#[c]⟩=false:=by rw [kx i.1];exact i.2
   rw [Γ hjd] at h
   rw [o]
   exact h
 ·rw [Γ (show ¬(((pre.length+j:Nat)):Int)<((z.length:Nat):Int) by omega)]
  rw [Γ (show ¬j<d.length by omega)] at h
  exact aT h
theorem Bo(F:Fun K "read_number" "Reader.read_number" CK f fd)(T:Tx K mg C):FnOk P w K mg base CX0 1 f fd ["self"] (tq C):=by
 refine F.oj scNum λa5 A J s H vs Q E hr h=>?_
 obtain ⟨p,l,z,g,b,o,rfl,y,O,Y,D,G,q⟩:=h
 obtain ⟨U,I,d3,Z⟩:=D
 have hu:=mK
 have lz:z.length=g.length+b.length+o.length:=by rw [lM,y];simp;omega
 refine ⟨_,ag (aD (i:=1) scNum.nd rfl (Or.inl rfl) (aq (pv 0) rfl))
  (ag (wB (tc:=qg K) PassesOwn.never (PW.pt (fz (ax mD (aq (pv 0) rfl) (aK bT rfl T.len PySem.boot_len (ac (aq (pv 0) rfl) af)) (ay _))
    (gm (cB (Bj PySem.F.plainAttrs_str PySem.F.slot_str_isdigit PySem.F.type_str_isdigit ss (au xH (aq (pv 0) rfl) (aq (pv 0) rfl) (λ_ _=>rfl)))))))
   (aj (oz (pv 0) ai xJ)))
  (ag (aD (i:=2) scNum.nd rfl (Or.inl rfl) (mx A1 (aq (pv 0) rfl) (iu (pv 1)) (iu (aq (pv 0) rfl))))
  (ag (aI (ax bf (pv 2) aA (ay _)) aJ aC)
  (ag (aI (ax qA (aK bT rfl T.len PySem.boot_len (ac (pv 2) af)) (qR T.cFig rfl) (ay _)) aJ aC)
  (ag (aI (PW.pt (fz (cB (gK PySem.F.plainAttrs_str PySem.F.slot_str_startswith PySem.F.type_str_startswith og (pv 2) (ac aA af))) (gm (ax oC (pv 2) aA (ay _))))) aJ aC)
  (aj (aw (aX bW rfl T.int PyProof.Rows.boot_int (ac (pv 2) af))))))))),?_⟩
 refine ⟨_,ϱ,p,C,l,_,_,ϱ,O,T.cl,T.nP,dD _ _,?_⟩
 refine ⟨λm σ H1=>∃j,m=b.length-j/\j<=b.length/\σ=[some (.ref p),some (.int (g.length:Nat)),none]/\H1 p=some (.ins C l (rf z ((g.length+j:Nat):Int)))/\But p H H1,
  ⟨b.length,0,ϱ,ϖ _,ϱ,O,But.refl p H⟩,?_⟩
 rintro m σ H1 ⟨j,rfl,hj,rfl,d,L⟩
 refine xA T y Y U G hj rfl d ?_
 by_cases hjd:j<b.length
 ·rw [τ hjd]
  refine cu ⟨_,fun σ' H' h=>h,?_⟩
  refine ⟨_,ϱ,p,C,l,_,_,ϱ,d,T.cl,T.nP,dD _ _,_,_,ϱ,ϱ,l,_,d,(by rw [ww];decide),?_⟩
  refine ⟨b.length-(j+1),ω,j+1,ϱ,hjd,ϱ,?_,L.upd _⟩
  rw [ae,wv]
  have e:(((g.length+j:Nat)):Int)+1=((g.length+(j+1):Nat):Int):=by omega
  rw [e]
 ·rw [Γ hjd]
  obtain rfl:j=b.length:=by omega
  refine aT ?_
  refine ⟨_,ϱ,p,C,l,_,_,ϱ,d,T.cl,T.nT,lH _ _,_,ϱ,_,ϱ,_,ϱ,p,C,l,_,_,ϱ,d,T.cl,T.nP,dD _ _,_,ϱ,z,ϱ,ω,?_⟩
  rw [uJ y]
  have u:(({cps:=b.toArray}:Str)).length=b.length:=by simp [Str.length]
  refine ⟨_,ϱ,ϱ,_,ϱ,?_⟩
  have n1:¬(V.str ({cps:=b.toArray}:Str)=V.str (Str.ofString "")):=by
   intro e
   have W:(({cps:=b.toArray}:Str))=Str.ofString "":=by injection e
   rw [zX] at W
   have e2:=congrArg (λs:Str=>s.cps.toList) W
   exact I (by simpa using e2)
  rw [Γ n1]
  refine aT ?_
  refine ⟨_,ϱ,_,ϱ,ω,_,_,ϱ,ϱ,_,ϱ,?_⟩
  rw [Γ (show ¬((400:Int)<((({cps:=b.toArray}:Str)).length:Nat)) by rw [u];omega)]
  refine aT ?_
  have X:PySem.intText? ({cps:=b.toArray}:Str)=some ((digitsVal b:Nat):Int):=by
   have:=intText_digits (x:=({cps:=b.toArray}:Str)) (by simpa using U) (by simpa using I) (by rw [u];omega)
   simpa using this
  refine ⟨_,ϱ,ϱ,_,_,ϱ,ϱ,_,ϱ,?_⟩
  have hs:Txt.startswith ({cps:=b.toArray}:Str) (Str.ofString "0")=decide (b[0]?=some 48):=by
   rw [xW,yJ,lW]
  rw [hs]
  rcases Z with e4 | h4
  ·subst e4
   refine cu ⟨_,ϱ,ϱ,_,ϱ,?_⟩
   have n3:V.str ({cps:=([48]:List Nat).toArray}:Str)=V.str (Str.ofString "0"):=by rw [xW]
   rw [τ n3]
   exact aT ⟨_,ϱ,_,_,ϱ,X,by rw [u];omega,q H1 d L⟩
  ·have n4:¬b[0]?=some 48:=by
    cases b with
    | nil=>exact absurd rfl I
    | cons c r=>intro e;exact h4 c r rfl (by simpa using e)
   rw [Γ n4]
   exact aT (aT ⟨_,ϱ,_,_,ϱ,X,by rw [u];omega,q H1 d L⟩)
inductive pA (C:Addr) (vs:List V) (H:Hp) (Q:VK) (E:XK):Prop|mk p dx z pre ds post:vs=[.ref p]->z.cps.toList=pre++ds++post->H p=some (.ins C dx (rf z (pre.length:Nat)))->z.length<=100000->yt ds->ut post->digitsVal ds≠0->(∀H',H' p=some (.ins C dx (rf z ((pre.length+ds.length:Nat):Int)))->But p H H'->Q (.int (-((digitsVal ds:Nat):Int))) H')->pA C vs H Q E
theorem scBelow:am ["self","number"] ["self"] (defScope wr):=⟨ϱ,ϱ,ϱ,θ,ϱ,θ,θ⟩
theorem xy{x:Addr}{y:FuncData}(F:Fun K "read_below" "Reader.read_below" wr f fd)(T:Tx K mg C)(W:FnOk P w K mg base CX0 1 x y ["self"] (tq C))(X:Binds K y ["self"] [])(Y:ir K C "read_number" x) :
  FnOk P w K mg base CX0 2 f fd ["self"] (pA C):=by
 refine F.oj scBelow λL A l s H vs Q E O h=>?_
 obtain ⟨p,o,z,d,r,b,rfl,D,u,G,g,j,I,q⟩:=h
 refine ⟨_,ag (aD (i:=1) scBelow.nd rfl (Or.inl rfl) (jh (pv 0) T.cl Y W O X .nil bb))
  (ag (aI (ax bf (pv 1) ai (ay _)) aJ aC)
  (aj (aw (Ap vH (pv 1))))),?_⟩
 refine ⟨_,ϱ,p,o,_,ϱ,u,ql _ _ θ θ,p,o,z,d,r,b,ϱ,D,u,G,g,j,λH1 m U=>?_⟩
 refine ⟨_,ϱ,ϱ,_,ϱ,?_⟩
 have J:¬(V.int ((digitsVal r:Nat):Int)=V.int 0):=by intro e;injection e with e;omega
 rw [Γ J]
 exact aT ⟨_,ϱ,_,ϱ,q H1 m U⟩
end
inductive B9:List Nat->V->Prop where
 | num (n:Int) (h:n.natAbs<10 ^ 400):B9 (b9 n) (.int n)
def Ends(post:List Nat):Prop:=∀c r,post=c::r->c=32\/c=41
theorem qV(m:Nat)(h:m<10 ^ 400):yt (bY m):=by
 refine ⟨f6 m,jr m,mZ ζ h,?_⟩
 by_cases h0:m=0
 ·subst h0;exact .inl vg
 ·exact .inr (vh m h0)
theorem Ends.stops{post:List Nat}(h:Ends post):ut post:=λc r e=>by
 rcases h c r e with rfl | rfl<;>exact ⟨ζ,ζ⟩
theorem xX:(Str.ofString "(")=⟨#[40]⟩:=by decide +kernel
theorem ul:(Str.ofString "-")=⟨#[45]⟩:=by decide +kernel
theorem zY:(Str.ofString ":")=⟨#[58]⟩:=by decide +kernel
theorem yn{z:Str}{pre rest:List Nat}(e:z.cps.toList=pre++rest):z.cps.toList[pre.length]?=rest[0]?:=by
 rw [e,List.getElem?_append_right (ι _),Nat.sub_self]
theorem vj(m:Nat):∃c r,bY m=c::r/\48<=c/\c<=57:=by
 cases e:bY m with
 | nil=>exact absurd e (jr m)
 | cons c r =>
  have h:=f6 m
  rw [e] at h
  exact ⟨c,r,ϱ,h.head⟩
section
variable {P:Program}{w:World}{K:Frag}{mg:Str->Option Value}{base:Heap}{f C:Addr}{fd:FuncData}
inductive wc (C:Addr) (vs:List V) (H:Hp) (Q:VK) (E:XK):Prop|mk p dx z pre it post v d:vs=[.ref p,d]->z.cps.toList=pre++it++post->H p=some (.ins C dx (rf z ((pre:List Nat).length:Nat)))->z.length<=100000->B9 it v->Ends post->(∀H',H' p=some (.ins C dx (rf z ((pre.length+it.length:Nat):Int)))->But p H H'->Q v H')->wc C vs H Q E
theorem scAny:am ["self","deep","number"] ["self","deep"] (defScope CQ):=⟨ϱ,ϱ,ϱ,θ,ϱ,θ,θ⟩
theorem BA{fP fB fN:Addr}{dP dB dN:FuncData}(F:Fun K "read_any" "Reader.read_any" CQ f fd)(T:Tx K mg C)
  (U:FnOk P w K mg base CX0 1 fP dP ["self","sign"] (rM C))(W:Binds K dP ["self","sign"] [])(X:ir K C "passes" fP)
  (GB:FnOk P w K mg base CX0 2 fB dB ["self"] (pA C))(bB:Binds K dB ["self"] [])(mB:ir K C "read_below" fB)
  (GN:FnOk P w K mg base CX0 1 fN dN ["self"] (tq C))(bN:Binds K dN ["self"] [])(mN:ir K C "read_number" fN) :
  FnOk P w K mg base CX0 3 f fd ["self","deep"] (wc C):=by
 refine F.oj scAny λar A J s H vs Q E Z h=>?_
 obtain ⟨p,g,z,pre,it,b,v,d,rfl,y,l,Y,G,o,q⟩:=h
 have m:=Z.mono (show 1<=2 by decide)
 have D:∀(k:Int),(rf z k).lookup ("passes":Str)=none:=λk=>ql _ _ θ θ
 have nn:∀(k:Int),(rf z k).lookup ("read_number":Str)=none:=λk=>ql _ _ θ θ
 have nb:∀(k:Int),(rf z k).lookup ("read_below":Str)=none:=λk=>ql _ _ θ θ
 refine ⟨_,ag (aI (cB (jj (pv 0) T.cl X U m W .nil bb (ac aA af))) aJ aC)
  (ag (aI (cB (jj (pv 0) T.cl X U m W .nil bb (ac aA af))) (aj (aw (jh (pv 0) T.cl mB GB Z bB .nil bb))) aC)
  (ag (aD (i:=2) scAny.nd rfl (Or.inl rfl) (jh (pv 0) T.cl mN GN m bN .nil bb))
  (ag (aI (cB (jj (pv 0) T.cl X U m W .nil bb (ac aA af))) aJ aC)
  (aj (aw (pv 2)))))),?_⟩
 have u:z.cps.toList=pre++(it++b):=by rw [y,List.append_assoc]
 have h0:=yn u
 cases G with
 | num n hn =>
  by_cases hneg:n<0
  ·have en:b9 n=45::bY n.natAbs:=by unfold b9;rw [if_pos hneg]
   rw [en] at y u q h0
   have j:z.cps.toList[pre.length]?=some 45:=h0
   refine ⟨_,ϱ,p,g,_,ϱ,l,D _,p,g,z,40,pre.length,(by rw [xX];rfl),l,?_⟩
   rw [if_neg (by rw [j];decide)]
   refine ⟨_,ϱ,aT ?_⟩
   refine ⟨_,ϱ,p,g,_,ϱ,l,D _,p,g,z,45,pre.length,(by rw [ul];rfl),l,?_⟩
   rw [if_pos j]
   refine ⟨_,ϱ,cu ?_⟩
   refine ⟨_,ϱ,p,g,_,ϱ,ae,nb _,p,g,z,pre++[45],bY n.natAbs,b,ϱ,(by rw [y];simp),(by rw [ae];simp),Y,qV _ hn,o.stops,(by rw [ip];omega),λH' L O=>?_⟩
   have I:(-((digitsVal (bY n.natAbs):Nat):Int))=n:=by rw [ip];omega
   rw [I]
   refine q H' ?_ (((But.refl p H).upd _).trans O)
   rw [L]
   have e2:(pre++[45]).length+(bY n.natAbs).length=pre.length+(45::bY n.natAbs).length:=by simp;omega
   rw [e2]
  ·have en:b9 n=bY n.natAbs:=by unfold b9;rw [if_neg hneg]
   rw [en] at y u q h0
   obtain ⟨c,r,ec,hc⟩:=vj n.natAbs
   have j:z.cps.toList[pre.length]?=some c:=by rw [h0,ec];rfl
   refine ⟨_,ϱ,p,g,_,ϱ,l,D _,p,g,z,40,pre.length,(by rw [xX];rfl),l,?_⟩
   rw [if_neg (by rw [j];intro e;injection e with e;omega)]
   refine ⟨_,ϱ,aT ?_⟩
   refine ⟨_,ϱ,p,g,_,ϱ,l,D _,p,g,z,45,pre.length,(by rw [ul];rfl),l,?_⟩
   rw [if_neg (by rw [j];intro e;injection e with e;omega)]
   refine ⟨_,ϱ,aT ?_⟩
   refine ⟨_,ϱ,p,g,_,ϱ,l,nn _,p,g,z,pre,bY n.natAbs,b,ϱ,y,l,Y,qV _ hn,o.stops,λH1 x O=>?_⟩
   have h1:z.cps.toList[pre.length+(bY n.natAbs).length]?=b[0]?:=by
    have:=yn (z:=z) (pre:=pre++bY n.natAbs) (rest:=b) y
    rw [List.length_append] at this
    exact this
   refine ⟨_,ϱ,p,g,_,ϱ,x,D _,p,g,z,58,pre.length+(bY n.natAbs).length,(by rw [zY];rfl),x,?_⟩
   rw [if_neg (by
    rw [h1]
    intro e
    cases b with
    | nil=>cases e
    | cons a r' =>
     have:=o a r' rfl
     have ea:a=58:=by simpa using e
     omega)]
   refine ⟨_,ϱ,aT ⟨_,ϱ,?_⟩⟩
   have I:((digitsVal (bY n.natAbs):Nat):Int)=n:=by rw [ip];omega
   rw [I]
   exact q H1 x O
inductive rK (vs:List V) (H:Hp) (Q:VK) (E:XK):Prop|mk z v:vs=[.str z]->B9 z.cps.toList v->((∀c∈z.cps.toList,sj c=true))->z.length<=100000->(∀H',Same H H'->Q v H')->rK vs H Q E
theorem scRead:am ["text","reader","thing"] ["text"] (defScope tI):=⟨ϱ,ϱ,ϱ,θ,ϱ,θ,θ⟩
def wy:Scope:=match defBody tI with
 | _::.If (.UnaryOp _ (.Call _ [.ListComp _ _ sc _] _ _) _) _ _ _::_=>sc
 | _=>default
theorem A7:aU ["text","reader","thing"] (defScope tI) wy "sign" ["sign"] []:=⟨θ,ϱ,θ,ϱ,θ,θ,ϱ,ϱ,λj h=>absurd h (Nat.not_lt_zero j)⟩
theorem zj{X Z fA:Addr}{dG dI dA:FuncData}(F:Fun K "read_thing" "read_thing" tI f fd)(T:Tx K mg C)(M:Mk K C Z)
  (GG:FnOk P w K mg base CX0 1 X dG ["sign"] rJ)(bG:Binds K dG ["sign"] [])(kG:PySem.W.keepIn K (.ref X)=true)(mG:mg "is_sign"=some (.ref X))
  (GI:FnOk P w K mg base CX0 1 Z dI ["self","text"] (rR C))(bI:Binds K dI ["self","text"] [])
  (GA:FnOk P w K mg base CX0 3 fA dA ["self","deep"] (wc C))(bA:Binds K dA ["self","deep"] [])(mA:ir K C "read_any" fA) :
  FnOk P w K mg base CX0 4 f fd ["text"] rK:=by
 refine F.oj scRead λa8 A I s H vs Q E J h=>?_
 obtain ⟨z,v,rfl,j,m,hz,q⟩:=h
 have u:=J.mono (show 1<=3 by decide)
 have y:=J.mono (show 2<=3 by decide)
 have hu:=mK
 refine ⟨_,ag (aI (ax qA (aK bT rfl T.len PySem.boot_len (ac (pv 0) af)) (qR T.cLong rfl) (ay _)) aJ aC)
  (ag (aI (iR (cB (aK (kL rfl) rfl T.all PyProof.Rows.boot_all (ac (dF A7 rfl (Bf (pv 0)) (λ_ _ _ _=>cP) (λ_ _ _ _=>tU GG u rfl mG kG bG .nil bb (ac (pv 0) af))) af)))) aJ aC)
  (ag (aD (i:=1) scRead.nd rfl (Or.inl rfl) (ba M GI y rfl T.mgC bI .nil bb (ac (pv 0) af)))
  (ag (aD (i:=2) scRead.nd rfl (Or.inl rfl) (jj (pv 1) T.cl mA GA J bA .nil bb (ac (qR T.cDeep rfl) af)))
  (ag (aI (ax oC (aq (pv 1) rfl) (aK bT rfl T.len PySem.boot_len (ac (pv 0) af)) (ay _)) aJ aC)
  (aj (aw (pv 2))))))),?_⟩
 refine ⟨_,ϱ,z,ϱ,ω,_,_,ϱ,ϱ,_,ϱ,?_⟩
 rw [Γ (show ¬((100000:Int)<((z.length:Nat):Int)) by omega)]
 refine aT ?_
 refine ⟨_,ϱ,z,ϱ,λi Y H1=>i<=z.length/\Y=List.replicate i (V.bl true)/\H1=H,z.length,⟨ϖ _,ϱ,ϱ⟩,ω,?_⟩
 rintro i Y H1 ⟨hi,rfl,rfl⟩
 by_cases hlt:i<z.length
 ·refine .inr ⟨hlt,hlt,?_⟩
  rintro x H2 ⟨rfl,c,hc,rfl⟩
  refine ⟨_,ϱ,c,ϱ,hlt,?_,ϱ⟩
  rw [m c (List.mem_of_getElem? hc),List.replicate_succ']
 refine .inl ⟨by show z.length<=i;omega,λl hl=>?_⟩
 have e0:List.replicate i (V.bl true)=(List.replicate i true).map V.bl:=by simp
 refine ⟨l,List.replicate i true,ϱ,SqL.of (by rw [ae,e0]),_,ϱ,?_⟩
 have e1:(List.replicate i true).all id=true:=by simp
 rw [e1]
 refine aT ?_
 have sl:Same H1 (upd H1 l (.lst (List.replicate i (V.bl true)))):=λb o e=>by rw [ao (ap e hl)];exact e
 refine ⟨_,ϱ,λx g nx L ar=>⟨x,g,z,ϱ,ae,ϱ,?_⟩⟩
 refine ⟨_,ϱ,x,g,_,ϱ,ae,ql _ _ θ θ,x,g,z,[],z.cps.toList,[],v,_,ϱ,(by simp),ae,hz,j,(λc r e=>nomatch e),λH3 O U=>?_⟩
 refine ⟨_,ϱ,x,C,g,_,_,ϱ,O,T.cl,T.nP,dD _ _,_,ϱ,z,ϱ,ω,ϱ,_,ϱ,?_⟩
 have e2:V.int ((([]:List Nat).length+z.cps.toList.length:Nat):Int)=V.int ((z.length:Nat):Int):=by rw [lM];simp
 rw [τ e2]
 refine aT ⟨_,ϱ,q H3 λb o e=>?_⟩
 have D:=sl b o e
 have d:b≠x:=ap D nx
 have G:b≠g:=ap D L
 refine U b o ?_ d
 rw [ao d,ao d,ao d,ao G]
 exact D
end
end K53T
namespace K53
open PySem L2 Lo St
section
variable {P:Program}{w:World}{K:Frag}{mg:Str->Option Value}{base:Heap}{f CL CS CH CV:Addr}{fd:FuncData}{C:Kd->Addr}{CW:Wd->Addr}
theorem zo(F:Fun K "made_sum" "made_sum" iP f fd)(I:WI P w K mg base CW .sum):FnOk P w K mg base CX0 4 f fd ["where","low","high"] (rP CW):=by
 refine F.oj qi λo A e s H vs Q E r h=>?_
 obtain ⟨x,y,z,rfl,i,q⟩:=h
 have d:Room (2+1) _:=r
 refine ⟨_,ag (aI (ax qA (pv 1) (pv 2) (ay _)) aJ aC) (aj (aw (ba I.M I.ok d rfl I.m I.b .nil bb (ac (pv 0) (ac (pv 1) (ac (pv 2) af)))))),?_⟩
 have l:y<=z:=i.2.2.2
 refine ⟨_,ϱ,_,ϱ,_,_,ϱ,ϱ,_,ϱ,a9 (λc=>absurd (Ξ c) (show ¬z<y by omega)) (λ_=>?_)⟩
 exact ⟨_,ϱ,_,ϱ,_,ϱ,λp j u g C=>⟨p,j,[x,y,z],ϱ,i,ae,λD h1 G=>⟨ϱ,q _ D (mJ u g G) ⟨p,j,ϱ,h1⟩⟩⟩⟩
theorem xa(F:Fun K "made_step" "made_step" gZ f fd)(I:∀wd,WI P w K mg base CW wd)(Z:GF P w K mg base CX0 4 "made_sum" ["where","low","high"] (rP CW)):FnOk P w K mg base CX0 5 f fd ["word","numbers"] (rO CW):=by
 refine F.oj pC λJ A D s H vs Q E G h=>?_
 obtain ⟨wd,b,ns,rfl,g,i,q⟩:=h
 have j:Room (2+1) _:=G.mono ζ
 refine ⟨_,(ag (aI (ax bf (pv 0) aA (ay _)) (aj (aw (ba (I .take).M (I .take).ok j rfl (I .take).m (I .take).b .nil bb (ac (au (r:=bz K) aE (pv 1) ai (λ_ _=>rfl)) (ac (au (r:=bz K) aE (pv 1) ai (λ_ _=>rfl)) af))))) aC)
  (ag (aI (ax bf (pv 0) aA (ay _)) (aj (aw (ba (I .mean).M (I .mean).ok j rfl (I .mean).m (I .mean).b .nil bb (ac (au (r:=bz K) aE (pv 1) ai (λ_ _=>rfl)) (ac (au (r:=bz K) aE (pv 1) ai (λ_ _=>rfl)) af))))) aC)
  (ag (aI (ax bf (pv 0) aA (ay _)) (aj (aw (pc Z G (ac (au (r:=bz K) aE (pv 1) ai (λ_ _=>rfl)) (ac (au (r:=bz K) aE (pv 1) ai (λ_ _=>rfl)) (ac (au (r:=bz K) aE (pv 1) ai (λ_ _=>rfl)) af)))))) aC)
  (ag (aI (ax bf (pv 0) aA (ay _)) (aj (aw (ba (I .give).M (I .give).ok j rfl (I .give).m (I .give).b .nil bb (ac (au (r:=bz K) aE (pv 1) ai (λ_ _=>rfl)) (ac (au (r:=bz K) aE (pv 1) ai (λ_ _=>rfl)) af))))) aC)
  (ag (aI (ax bf (pv 0) aA (ay _)) (aj (aw (ba (I .add).M (I .add).ok j rfl (I .add).m (I .add).b .nil bb (ac (au (r:=bz K) aE (pv 1) ai (λ_ _=>rfl)) (ac (au (r:=bz K) aE (pv 1) ai (λ_ _=>rfl)) (ac (au (r:=bz K) aE (pv 1) ai (λ_ _=>rfl)) af)))))) aC)
  (ag (aI (ax bf (pv 0) aA (ay _)) (aj (aw (ba (I .plus).M (I .plus).ok j rfl (I .plus).m (I .plus).b .nil bb (ac (au (r:=bz K) aE (pv 1) ai (λ_ _=>rfl)) af)))) aC)
  (aj (aw (ba (I .need).M (I .need).ok j rfl (I .need).m (I .need).b .nil bb (ac (au (r:=bz K) aE (pv 1) ai (λ_ _=>rfl)) af)))))))))),?_⟩
 refine ⟨_,ϱ,ϱ,_,ϱ,a9 (λc=>?_) (λL=>?_)⟩
 ·obtain rfl:wd=.take:=fe c
  obtain ⟨x,y,rfl,_⟩:=i.c rfl
  exact ⟨_,ϱ,b,_,_,_,ϱ,ϱ,SqL.of g,ϱ,_,ϱ,b,_,_,_,ϱ,ϱ,SqL.of g,ϱ,λp e l d o=>⟨p,e,[x,y],ϱ,i,ae,λu h1 C=>⟨ϱ,q _ u (mJ l d C) ⟨p,e,ϱ,h1⟩⟩⟩⟩
 refine ⟨_,ϱ,ϱ,_,ϱ,a9 (λc=>?_) (λO=>?_)⟩
 ·obtain rfl:wd=.mean:=fe c
  obtain ⟨x,y,rfl,_⟩:=i.c rfl
  exact ⟨_,ϱ,b,_,_,_,ϱ,ϱ,SqL.of g,ϱ,_,ϱ,b,_,_,_,ϱ,ϱ,SqL.of g,ϱ,λp e l d o=>⟨p,e,[x,y],ϱ,i,ae,λu h1 C=>⟨ϱ,q _ u (mJ l d C) ⟨p,e,ϱ,h1⟩⟩⟩⟩
 refine ⟨_,ϱ,ϱ,_,ϱ,a9 (λc=>?_) (λU=>?_)⟩
 ·obtain rfl:wd=.sum:=fe c
  obtain ⟨x,y,z,rfl,_⟩:=i.s
  exact ⟨_,ϱ,b,_,_,_,ϱ,ϱ,SqL.of g,ϱ,_,ϱ,b,_,_,_,ϱ,ϱ,SqL.of g,ϱ,_,ϱ,b,_,_,_,ϱ,ϱ,SqL.of g,ϱ,x,y,z,ϱ,i,q⟩
 refine ⟨_,ϱ,ϱ,_,ϱ,a9 (λc=>?_) (λW=>?_)⟩
 ·obtain rfl:wd=.give:=fe c
  obtain ⟨x,y,rfl,_⟩:=i.c rfl
  exact ⟨_,ϱ,b,_,_,_,ϱ,ϱ,SqL.of g,ϱ,_,ϱ,b,_,_,_,ϱ,ϱ,SqL.of g,ϱ,λp e l d o=>⟨p,e,[x,y],ϱ,i,ae,λu h1 C=>⟨ϱ,q _ u (mJ l d C) ⟨p,e,ϱ,h1⟩⟩⟩⟩
 refine ⟨_,ϱ,ϱ,_,ϱ,a9 (λc=>?_) (λX=>?_)⟩
 ·obtain rfl:wd=.add:=fe c
  obtain ⟨x,y,z,rfl,_⟩:=i.a
  exact ⟨_,ϱ,b,_,_,_,ϱ,ϱ,SqL.of g,ϱ,_,ϱ,b,_,_,_,ϱ,ϱ,SqL.of g,ϱ,_,ϱ,b,_,_,_,ϱ,ϱ,SqL.of g,ϱ,λp e l d o=>⟨p,e,[x,y,z],ϱ,i,ae,λu h1 C=>⟨ϱ,q _ u (mJ l d C) ⟨p,e,ϱ,h1⟩⟩⟩⟩
 refine ⟨_,ϱ,ϱ,_,ϱ,a9 (λc=>?_) (λY=>?_)⟩
 ·obtain rfl:wd=.plus:=fe c
  obtain ⟨x,rfl,_⟩:=i.p
  exact ⟨_,ϱ,b,_,_,_,ϱ,ϱ,SqL.of g,ϱ,λp e l d o=>⟨p,e,[x],ϱ,i,ae,λu h1 C=>⟨ϱ,q _ u (mJ l d C) ⟨p,e,ϱ,h1⟩⟩⟩⟩
 obtain rfl:wd=.need:=AE (cA (b:=.take) L) (cA (b:=.mean) O) (cA (b:=.sum) U) (cA (b:=.give) W) (cA (b:=.add) X) (cA (b:=.plus) Y)
 obtain ⟨x,rfl,_⟩:=i.n
 exact ⟨_,ϱ,b,_,_,_,ϱ,ϱ,SqL.of g,ϱ,λp e l d o=>⟨p,e,[x],ϱ,i,ae,λu h1 C=>⟨ϱ,q _ u (mJ l d C) ⟨p,e,ϱ,h1⟩⟩⟩⟩
theorem zi{l:Addr}{u:List Value}{new:String}(F:Fun K "read_number" "read_number" fu f fd)(B:TxB mg)(x:mg "NoThing"=some (.ref l))(L:PySem.W.excIn K l u new=true)(O:u.contains (.type "BaseException")=true)
  (U:∃t,mg "MOST_FIGURES_steps"=some (.int 40 t))(X:GF P w K mg base CX0 4 "read_thing" ["text"] K53T.rK)(Y:GF P w K mg base CX0 1 "is_whole" ["thing"] K53T.oX):FnOk P w K mg base CX0 5 f fd ["word","letter"] rL:=by
 refine F.oj sc_read_number λI A g s H vs Q E m h=>?_
 obtain ⟨i,c,rfl,e,b,q⟩:=h
 have nd:=sc_read_number.nd
 refine ⟨_,ag (uM (j:=2) (C:=l) rfl rfl rfl nd rfl (Or.inl rfl) (Bg (pc X m (ac (pv 0) af))) rfl x (rD x L O) (λ_=>aJ))
  (ag (aI (PW.pt (mt (iR (cB (pc Y m (ac (pv 2) af)))) (iQ (ax qA (aK bT rfl B.len PySem.boot_len (ac (gK PySem.F.plainAttrs_str PySem.F.slot_str_lstrip PySem.F.type_str_lstrip so (pv 0) (ac aA af)) af)) (qR U rfl) (ay _))))) aJ aC)
  (ag (aI (PW.pt (fz (ax mD (pv 2) ai (ay _)) (gm (ax oC (pv 1) aA (ay _))))) aJ aC)
  (aj (aw (pv 2))))),?_⟩
 have y:=zU e
 have h1:(100000:Nat)<=sizeLine:=by decide
 have D:=sC e
 refine ⟨_,ϱ,iS i,.int i,ϱ,(by rw [qP];exact .num i (Nat.lt_trans e θ)),(λd o=>?_),y,λH1 r=>?_⟩
 ·rw [qP] at o
  rcases BC o with rfl | ⟨a1,a2⟩
  ·decide
  ·show (decide _&&decide _&&_)=true
   simp
   omega
 refine ⟨_,ϱ,_,ϱ,_,ϱ,aT ?_⟩
 refine ⟨_,ϱ,ϱ,iS i,_,ϱ,ϱ,ω,_,ϱ,Λ D ζ,_,_,ϱ,ϱ,_,ϱ,a9 (λc=>absurd (Ξ c) (λz=>?_)) (λ_=>?_)⟩
 ·have Z:(40:Int)<(((Txt.lstripChars (iS i) (Str.ofString "-")).length:Nat):Int):=z
  omega
 refine ⟨_,ϱ,_,_,ϱ,ϱ,_,ϱ,a9 (λJ=>?_) (λ_=>⟨_,ϱ,q H1 r⟩)⟩
 have G:c=86:=b (Ξ J)
 subst G
 exact ⟨_,ϱ,ϱ,_,ϱ,Av (congrArg V.str θ) ⟨_,ϱ,q H1 r⟩⟩
theorem wZ(F:Fun K "read_step" "read_step" dw f fd)(B:TxB mg){J:Addr}(mS:mg "SHAPES"=some (.ref J))(tS:TabK K J lG)(GN:GF P w K mg base CX0 5 "read_number" ["word","letter"] rL)
  (GS:GF P w K mg base CX0 5 "made_step" ["word","numbers"] (rO CW)):FnOk P w K mg base CX0 6 f fd ["text"] (i4 CW):=by
 refine F.oj sc_read_step λa0 A y s H vs Q E O h=>?_
 obtain ⟨d,b,rfl,g,q⟩:=h
 have nd:=sc_read_step.nd
 have m:=g.len
 have u:=yK g
 refine ⟨_,ag (aD (i:=1) nd rfl (Or.inr rfl) (gK PySem.F.plainAttrs_str PySem.F.slot_str_split PySem.F.type_str_split jX (pv 0) (ac aA af)))
  (ag (aD (i:=2) nd rfl (Or.inr rfl) (yX (D:=lG) (gp (v:=.ref J) rfl mS rfl) (au (r:=bz K) aE (pv 1) ai (λ_ _=>rfl)) ⟨ϱ,ϱ,ϱ,ϱ⟩ tS))
  (ag (aI (PW.pt (mt (ax pR (pv 2) cK (ay _)) (iQ (ax oC (aK be rfl B.len PySem.boot_len (ac (pv 1) af)) (aH dX (aK bT rfl B.len PySem.boot_len (ac (pv 2) af)) ai) (ay _))))) aJ aC)
  (aj (aw (pc GS O (ac (au (r:=bz K) aE (pv 1) ai (λ_ _=>rfl)) (ac (dF ml rfl (cN rfl B.range (ac (aK bT rfl B.len PySem.boot_len (ac (pv 2) af)) af)) (λ_ _ _ _=>cP)
   (λ_ _ _ _=>pc GN O (ac (au (r:=bz K) aE (pv 1) (aH dX (pv 0) ai) (λ_ _=>rfl)) (ac (au xH (pv 2) (pv 0) (λ_ _=>rfl)) af)))) af))))))),?_⟩
 refine ⟨_,ϱ,ϱ,txt d b,32,ϱ,congrArg (λz=>[V.str z]) jE,oQ g,λp hp=>?_⟩
 rw [jB]
 have L:Same H _:=ah (o:=.lst ((wS d::b.map iS).map V.str)) hp
 have e:(upd H p (.lst ((wS d::b.map iS).map V.str))) p=some (.lst ((wS d::b.map iS).map V.str)):=ae
 generalize (upd H p _)=H1 at L e ⊢
 refine ⟨_,ϱ,p,_,_,_,ϱ,ϱ,SqL.of e,St.at0,wS d,shp d,ϱ,we d,?_⟩
 refine ⟨_,ϱ,ϱ,_,ϱ,a9 (λc=>absurd (Ξ c) (by intro z;cases z)) (λ_=>?_)⟩
 refine ⟨_,ϱ,p,_,ϱ,.inl (SqL.of e),_,ϱ,_,ϱ,md d,_,_,ϱ,ϱ,ϱ,_,ϱ,Av ?_ ?_⟩
 ·rw [u]
  simp
 refine ⟨_,ϱ,p,_,_,_,ϱ,ϱ,SqL.of e,St.at0,?_⟩
 refine ⟨_,ϱ,_,ϱ,md d,_,ϱ,ω,by rw [u];omega,?_⟩
 have e0:(((shp d).length:Nat):Int).toNat=b.length:=by rw [u];rfl
 rw [e0]
 refine jq (n:=b.length) (λi C H'=>Same H1 H'/\C=(b.take i).map V.int) ⟨Same.refl _,ϱ⟩ (Λ m.2 ζ) ?_ ?_
 ·rintro i C H2 W ⟨l,rfl⟩
  have x:b[i]?=some b[i]:=ξ W
  obtain ⟨c,X,j⟩:=A2 g x
  refine lU ⟨_,ϱ,_,ϱ,_,_,ϱ,ϱ,p,_,_,_,ϱ,ϱ,SqL.of (l _ _ e),?_,_,ϱ,_,ϱ,_,_,_,ϱ,ϱ,md d,aW X,b[i],c,ϱ,g.all _ (List.getElem_mem W),j,λU G=>⟨l.trans G,?_⟩⟩
  ·have Y:((i:Nat):Int)+1=((i+1:Nat):Int):=rfl
   rw [Y]
   refine aW ?_
   rw [List.map_cons,List.getElem?_cons_succ,List.map_map,List.getElem?_map,x]
   rfl
  ·have Z:b.take (i+1)=b.take i++[b[i]]:=by
    rw [List.take_add_one,x]
    rfl
   rw [Z,List.map_append]
   rfl
 ·rintro C H2 ⟨l,rfl⟩ p2 I
  rw [List.take_length]
  exact ⟨d,p2,b,ϱ,ae,g,λv U G st=>q v U (L.trans (l.trans ((ah I).trans G))) st⟩
structure Aw where
 (l dx lk pl dr an pe:Addr)
def wf(S:Addr)(home many:Int)(W:Aw):List (Str×V):=az "pending" (.ref W.pe) (az "answers" (.ref W.an) (az "drafts" (.ref W.dr) (az "locks" (.ref W.lk) (az "many" (.int many) (az "home" (.int home) (az "stand" (.ref S) []))))))
section
variable {S:Addr}{home many:Int}{W:Aw}
theorem lP:(wf S home many W).lookup ("pending":Str)=some (.ref W.pe):=bF
theorem gU:(wf S home many W).lookup ("answers":Str)=some (.ref W.an):=by unfold wf;rw [aP θ,bF]
theorem lQ:(wf S home many W).lookup ("drafts":Str)=some (.ref W.dr):=by unfold wf;rw [aP θ,aP θ,bF]
theorem qe:(wf S home many W).lookup ("locks":Str)=some (.ref W.lk):=by unfold wf;rw [aP θ,aP θ,aP θ,bF]
theorem qd:(wf S home many W).lookup ("stand":Str)=some (.ref S):=by unfold wf;rw [aP θ,aP θ,aP θ,aP θ,aP θ,aP θ,bF]
theorem fb{m:Str}(h:decide (m∈(["pending","answers","drafts","locks","many","home","stand"]:List Str))=false):(wf S home many W).lookup m=none:=by
 have b:m∉(["pending","answers","drafts","locks","many","home","stand"]:List Str):=of_decide_eq_false h
 simp only [List.mem_cons,List.not_mem_nil,or_false,not_or] at b
 obtain ⟨h1,d,e,f,g,i,j⟩:=b
 unfold wf
 rw [aP h1,aP d,aP e,aP f,aP g,aP i,aP j]
 rfl
end
structure TxV(K:Frag)(CV:Addr):Prop where
 cl:Cls K CV
 st:NoAttr K CV "stand"
 ho:NoAttr K CV "home"
 mn:NoAttr K CV "many"
 lk:NoAttr K CV "locks"
 dr:NoAttr K CV "drafts"
 an:NoAttr K CV "answers"
 pe:NoAttr K CV "pending"
def eM(dk:List (Key×V))(cells:List Int)(c:Int):Int:=match bx dk (.inl c) with | some (.int v)=>v | _=>cells.getD c.toNat 0
def DrI(dk:List (Key×V)):Prop:=∀(c:Int) (v:V),bx dk (.inl c)=some v->∃i,v=.int i
inductive iY (CS CV:Addr) (vs:List V) (H:Hp) (Q:VK) (E:XK):Prop|mk W home many A cs p pa o dk c:vs=[.ref (W:Aw).l,.ref pa,.int c]->H W.l=some (.ins CV W.dx (wf (A:Ad).l home many W))->H W.dr=some (.dT (dOf p o))->((∀x,o=some x->H x=some (.dK dk)))->((o=none->dk=[]))->DrI dk->H A.l=some (.ins CS A.dx (sf A))->H A.cl=some (.lst ((cs:List Int).map V.int))->PaA H p pa->0<=c->c<cs.length->(∀H',Same H H'->Q (.int (eM dk cs c)) H')->iY CS CV vs H Q E
theorem wX(F:Fun K "value_at" "Works.value_at" cZ f fd)(D:TxD K CS)(T:TxV K CV)(GC:GM P w K mg base CX0 1 CS "cell_at" ["self","cell"] (fR CS)):FnOk P w K mg base CX0 2 f fd ["self","p","cell"] (iY CS CV):=by
 refine F.oj sc_Works_value_at λa2 A G s H vs Q E y h=>?_
 obtain ⟨W,I,J,A,j,p,pa,o,m,c,rfl,L,O,X,Y,Z,U,z,hp,c0,c1,q⟩:=h
 have nd:=sc_Works_value_at.nd
 refine ⟨_,ag (aD (i:=3) nd rfl (Or.inl rfl) (qw (cT y) (aq (pv 0) rfl) (pv 1) hX ⟨ϱ,ϱ,ϱ,ϱ⟩))
  (aj (aw (qu (hV (mz (cT y) (pv 2) (pv 3))) (gq (cT y) (pv 3) (pv 2) (λ_ _=>rfl)) (pm GC (aq (pv 0) rfl) D.cl y (ac (pv 2) af))))),?_⟩
 refine ⟨_,ϱ,W.l,CV,W.dx,_,_,ϱ,L,T.cl,T.dr,lQ,W.dr,ϱ,.inr ⟨_,.inl O⟩,_,ϱ,λq0 g=>⟨_,DGet.t (k:=pk p) (ah g _ _ O) (ah g _ _ hp),?_⟩⟩
 have d:=ah (o:=.dK []) g
 rw [db]
 obtain ⟨x,hx,r⟩:∃x,(Option.map V.ref o).getD (.ref q0)=.ref x/\(upd H q0 (.dK [])) x=some (.dK m):=by
  cases o with
  | none=>exact ⟨q0,rfl,by rw [Y rfl];exact ae⟩
  | some x=>exact ⟨x,rfl,d _ _ (X x rfl)⟩
 rw [hx]
 refine ⟨_,ϱ,_,ϱ,x,_,ϱ,DGet.k (k:=.inl c) r,_,ϱ,a9 (λe=>?_) (λe=>?_)⟩
 ·cases b:bx m (.inl c) with
  | none=>rw [b] at e;cases e
  | some v =>
   obtain ⟨i,rfl⟩:=Z c v b
   have C:eM m j c=i:=by unfold eM;rw [b]
   rw [C] at q
   refine ⟨_,ϱ,_,ϱ,x,.int i,ϱ,?_,q _ d⟩
   have:=DGet.k (k:=.inl c) r
   rw [b] at this
   exact this
 ·have b:bx m (.inl c)=none:=by
   cases b:bx m (.inl c) with
   | none=>rfl
   | some v=>exact absurd (by rw [b];rfl) e
  obtain ⟨n,rfl⟩:∃n:Nat,c=(n:Int):=⟨c.toNat,ω⟩
  have u:n<j.length:=by omega
  have C:eM m j (n:Int)=j[n]:=by
   unfold eM
   rw [b]
   show j.getD n 0=_
   rw [List.getD_eq_getElem?_getD,ξ u]
   rfl
  rw [C] at q
  exact ⟨_,ϱ,W.l,CV,W.dx,_,_,ϱ,d _ _ L,T.cl,T.st,qd,A.l,A.dx,_,ϱ,d _ _ U,gI θ,_,ϱ,A,n,_,j,ϱ,d _ _ U,d _ _ z,ξ u,q _ d⟩
abbrev pK:Expr:=match (defBody aN).getD 0 (.Pass default) with | .Assign _ (.Call _ [_,l] _ _) _=>l | _=>.Name "" default
abbrev pJ:Expr:=match (defBody bR).getD 4 (.Pass default) with | .Assign _ (.Call _ [_,l] _ _) _=>l | _=>.Name "" default
abbrev yR:Str:="Works.do_step.<locals>.<lambda>"
abbrev yS:Str:="Works.walk.<locals>.<lambda>"
def zO:Pos:=match pK with | .Lambda _ _ _ p=>p | _=>default
def yy:Pos:=match pJ with | .Lambda _ _ _ p=>p | _=>default
def sM(p:Pos):Option Addr->Array Value
 | none=>#[]
 | some c=>lT p c
abbrev Odb:=Option Addr×Option Addr
structure Bx where
 (home many:Int)(p:Pa)(pa:Addr)(z:Pa)(za:Addr)(A:Ad)(Pt Pw:Addr)
structure Cz where
 (d w:Option Addr)
structure Wx where
 (W:Aw)(dl:Addr)(vs:List V)(o:Odb)(dk ak:List (Key×V))(due:List Lk)(cz:Cz)
def odc(x:Wx):Cs:=(x.o.1.toList.map λd=>(d,HO.dK x.dk))++x.o.2.toList.map λa=>(a,HO.dK x.ak)
def wkL(CL:Addr)(b:Bx)(x:Wx):Cs:=(x.W.lk,.ins CL x.dl [("pairs",.ref x.W.pl)])::(x.W.pl,.lst x.vs)::(x.W.dr,.dT (dOf b.p x.o.1))::(x.W.an,.dT (dOf b.p x.o.2))::(x.W.pe,.dT [])::odc x
def wtL(CL:Addr)(b:Bx)(x:Wx):Cs:=(b.Pt,.tbl (sM zO x.cz.d))::(b.Pw,.tbl (sM yy x.cz.w))::wkL CL b x
structure Nq(C:Kd->Addr)(CS CH CL CV:Addr):Prop where
 s:CS≠CH/\CS≠CL
 v:CV≠CH/\CV≠CL
 k:∀k,C k≠CH/\C k≠CL
def CzOk(H:Hp)(c:Cz):Prop:=(∀a,c.d=some a->H a=some (gb a yR))/\∀a,c.w=some a->H a=some (gb a yS)
theorem CzOk.im{H H':Hp}{c:Cz}(e:ImS CH CL H H')(h:CzOk H c):CzOk H' c:=⟨λa z=>e _ _ (h.1 a z) uq,λa z=>e _ _ (h.2 a z) uq⟩
structure Wo(C:Kd->Addr)(CS CV:Addr)(K:Frag)(H:Hp)(b:Bx)(d:Sx)(x:Wx):Prop where
 si:Si CS K H b.p b.z b.A d
 wi:H x.W.l=some (.ins CV x.W.dx (wf b.A.l b.home b.many x.W))
 ps:Paired (PrO C K H) (x.due.map λk=>((b.p,k):Pr)) x.vs
 cz:CzOk H x.cz
 pa:PaA H b.p b.pa
 za:PaA H b.z b.za
 n1:x.o.1=none->x.dk=[]/\x.o.2=none
 n2:x.o.2=none->x.ak=[]
 ne:b.p≠b.z
theorem Cb(S:Addr)(home many:Int)(W:Aw):wf S home many W≠[]:=λz=>by
 have:=lP (S:=S) (home:=home) (many:=many) (W:=W)
 rw [z] at this
 cases this
theorem Dc(f l:Int):lf f l≠[]:=λz=>by
 have:=fX f l
 rw [z] at this
 cases this
theorem PrO.im{H H':Hp}{y:Pr}{v:V}(n:∀k,C k≠CH/\C k≠CL)(e:ImS CH CL H H')(h:PrO C K H y v):PrO C K H' y v:=by
 have t:TSame H H':=λb r q=>e b _ q ϰ
 obtain ⟨a,u,l,f,g,i,d,j,m,o⟩:=h
 exact ⟨a,u,l,f,g.keep t,cPa.keep t i,d,j,m,e d _ o ⟨Dc _ _,n _⟩⟩
section
variable {N N':List Addr}{H0 H H':Hp}{b:Bx}{S S':Cs}{d d':Sx}{x x':Wx}
theorem Wo.im(g:Wo C CS CV K H b d x)(n:Nq C CS CH CL CV)(t:ImS CH CL H H'):Wo C CS CV K H' b d x :=
 ⟨g.si.im t n.s,t _ _ g.wi ⟨Cb _ _ _ _,n.v⟩,pp g.ps λ_ _ z=>PrO.im n.k t z,g.cz.im t,t _ _ g.pa ϰ,t _ _ g.za ϰ,g.n1,g.n2,g.ne⟩
structure Gd(C:Kd->Addr)(CS CH CL CV:Addr)(K:Frag)(N:List Addr)(H0 H:Hp)(b:Bx)(S:Cs)(d:Sx)(x:Wx):Prop where
 ow:Ow CH CL N H0 H (S++(stL b.p b.z b.A d++wtL CL b x))
 wo:Wo C CS CV K H b d x
theorem Gd.same(g:Gd C CS CH CL CV K N H0 H b S d x)(n:Nq C CS CH CL CV)(e:Same H H'):Gd C CS CH CL CV K N H0 H' b S d x:=⟨g.ow.same e,g.wo.im n (cy e)⟩
theorem Gd.trans(g:Gd C CS CH CL CV K N H0 H b S d x)(g2:Gd C CS CH CL CV K (ad (S++(stL b.p b.z b.A d++wtL CL b x))) H H' b S' d' x'):Gd C CS CH CL CV K N H0 H' b S' d' x':=⟨g.ow.trans g2.ow,g2.wo⟩
theorem C9{p z:Pa}{A:Ad}:∀u∈stL p z A d,¬Im CH CL u.2:=by
 intro u b
 simp only [stL,List.mem_cons,List.not_mem_nil,or_false] at b
 rcases b with e | e | e | e | e<;>subst e<;>first | exact id | exact λz=>z _ _ rfl
theorem C8:∀u∈wtL CL b x,¬Im CH CL u.2:=by
 intro u d
 simp only [wtL,wkL,odc,List.mem_cons,List.mem_append,List.mem_map] at d
 rcases d with e | e | e | e | e | e | e | ⟨y,_,e⟩ | ⟨y,_,e⟩<;>subst e<;>first | exact id | exact λz=>z.2.2 rfl
theorem dH{A:Addr}{h:Ah}{d:List Addr}{us:List V}{v:V}:∀u∈shL CH A h d us v,¬Im CH CL u.2:=by
 intro u b
 simp only [shL,List.mem_cons,List.not_mem_nil,or_false] at b
 rcases b with e | e | e<;>subst e<;>first | exact id | exact λz=>z.2.1 rfl
theorem BE(hS:∀u∈S,¬Im CH CL u.2):∀u∈S++(stL b.p b.z b.A d++wtL CL b x),¬Im CH CL u.2:=λu hu =>
 (List.mem_append.mp hu).elim (hS u) λh=>(List.mem_append.mp h).elim (C9 u) (C8 u)
theorem Gd.self(g:Gd C CS CH CL CV K N H0 H b S d x)(hS:∀u∈S,¬Im CH CL u.2):Gd C CS CH CL CV K (ad (S++(stL b.p b.z b.A d++wtL CL b x))) H H b S d x:=⟨g.ow.self (BE hS),g.wo⟩
theorem Gd.co(g:Gd C CS CH CL CV K N H0 H b S d x){u:Addr×HO}(hu:u∈wtL CL b x):H u.1=some u.2:=g.ow.co u (Ψ _ (Ψ _ hu))
theorem Gd.sa(g:Gd C CS CH CL CV K N H0 H b S d x):Sa CS K H b.p b.z b.A d:=⟨g.wo.si,λu hu=>g.ow.co u (Ψ _ (List.mem_append_left _ hu))⟩
theorem Gd.ls(g:Gd C CS CH CL CV K N H0 H b S d x):LS C CL K H x.W.lk x.W.pl (x.due.map λk=>((b.p,k):Pr)):=⟨x.dl,x.vs,g.co j2,g.co j3,g.wo.ps⟩
theorem Gd.dr(g:Gd C CS CH CL CV K N H0 H b S d x):H x.W.dr=some (.dT (dOf b.p x.o.1)):=g.co j4
theorem Gd.an(g:Gd C CS CH CL CV K N H0 H b S d x):H x.W.an=some (.dT (dOf b.p x.o.2)):=g.co j5
theorem Gd.pe(g:Gd C CS CH CL CV K N H0 H b S d x):H x.W.pe=some (.dT []):=g.co j6
theorem Gd.dd{a:Addr}(g:Gd C CS CH CL CV K N H0 H b S d x)(e:x.o.1=some a):H a=some (.dK x.dk):=g.co (u:=(a,.dK x.dk)) (by simp [wtL,wkL,odc,e])
theorem Gd.aa{a:Addr}(g:Gd C CS CH CL CV K N H0 H b S d x)(e:x.o.2=some a):H a=some (.dK x.ak):=g.co (u:=(a,.dK x.ak)) (by simp [wtL,wkL,odc,e])
theorem Ac{pos:Pos}{q:Str}{b:Addr}{c:Option Addr}(e:H b=some (.tbl (sM pos c)))(h:∀a,c=some a->H a=some (gb a q)):Tb H b pos q:=by
 cases c with
 | none=>exact .inl e
 | some a=>exact .inr ⟨a,e,h a rfl⟩
theorem Gd.tb(g:Gd C CS CH CL CV K N H0 H b S d x):Tb H b.Pt zO yR:=Ac (g.co (u:=(b.Pt,_)) j0) g.wo.cz.1
theorem Gd.tw(g:Gd C CS CH CL CV K N H0 H b S d x):Tb H b.Pw yy yS:=Ac (g.co (u:=(b.Pw,_)) j1) g.wo.cz.2
theorem Gd.kp{a:Addr}{o o':HO}(g:Gd C CS CH CL CV K N H0 H b S d x)(n:Nq C CS CH CL CV)(i:Nat)(hi:(S++(stL b.p b.z b.A d++wtL CL b x))[i]?=some (a,o))(k:Kp a H H')(e:H' a=some o')(hn:¬Im CH CL o)(wo:Wo C CS CV K H b d' x')(el:(S++(stL b.p b.z b.A d++wtL CL b x)).set i (a,o')=S'++(stL b.p b.z b.A d'++wtL CL b x'):=by rfl):Gd C CS CH CL CV K N H0 H' b S' d' x' :=
 ⟨el▸g.ow.kp i hi k e,wo.im n (cH k (g.ow.co _ (List.mem_of_getElem? hi)) hn)⟩
theorem Gd.sh{h:Ah}{rs:List Addr}{us:List V}{v:V}{S:Addr}(g:Gd C CS CH CL CV K N H0 H b (shL CH S h rs us v) d x):H h.l=some (.ins CH h.dx (hf S h v)):=g.ow.co _ (List.mem_append_left _ j0)
end
inductive tE (CS CV:Addr) (K:Frag) (vs:List V) (H:Hp) (Q:VK) (E:XK):Prop|mk W home many A d pa p z:vs=[.ref (W:Aw).l,.ref pa]->H W.l=some (.ins CV W.dx (wf (A:Ad).l home many W))->Sa CS K H p z A d->d.rd=none->PaA H p pa->(∀H',Same H H'->Q (.bl false) H')->tE CS CV K vs H Q E
theorem Bv(F:Fun K "is_bound" "Works.is_bound" bK f fd)(D:TxD K CS)(T:TxV K CV)(GB:GM P w K mg base CX0 1 CS "bound" ["self"] (lF CS K)):FnOk P w K mg base CX0 2 f fd ["self","p"] (tE CS CV K):=by
 refine F.oj jc λO A e s H vs Q E y h=>?_
 obtain ⟨W,j,m,A,d,pa,p,z,rfl,I,r,J,L,q⟩:=h
 refine ⟨_,aj (aw (bv (wO cPa (hun y)) (pv 1) (dF iD rfl (bZ (pm0 GB (aq (pv 0) rfl) D.cl y)) (λ_ _ _ _=>cP) (λ_ _ _ _=>fV)) rfl)),?_⟩
 refine ⟨_,ϱ,_,ϱ,W.l,CV,W.dx,_,_,ϱ,I,T.cl,T.st,qd,A.l,A.dx,_,ϱ,r.ins,gI θ,p,z,A,d,ϱ,r,J,λl H1 U n1 C=>⟨l,ϱ,⟨_,SqL.of C⟩,?_⟩⟩
 refine cJ (xs:=[]) (λi b G=>Same H1 G/\b=[]) ⟨Same.refl _,ϱ⟩ (ϖ _) (λi b G _ z=>SqL.of (z.1 _ _ C)) (λi u b X Y=>by cases Y) ?_
 rintro b X ⟨Z,rfl⟩ p2 g
 have x:=U.trans (Z.trans (ah (o:=.lst []) g))
 exact ⟨p,p2,[],[],iV (k:=p) (x _ _ L),ϱ,.inl (SqL.of ae),.nil,q _ x⟩
inductive vX (C:Kd->Addr) (CL CV:Addr) (K:Frag) (vs:List V) (H:Hp) (Q:VK) (E:XK):Prop|mk W home many S ps:vs=[.ref (W:Aw).l]->H W.l=some (.ins CV W.dx (wf S home many W))->LS C CL K H W.lk W.pl ps->ps.length<=1000->Un ps->(∀q H',Same H H'->H' q=some (.lst [])->Q (.ref q) H')->vX C CL CV K vs H Q E
inductive tm (C:Kd->Addr) (CL CV:Addr) (K:Frag) (vs:List V) (H:Hp) (Q:VK) (E:XK):Prop|mk W home many S ps:vs=[.ref (W:Aw).l]->H W.l=some (.ins CV W.dx (wf S home many W))->LS C CL K H W.lk W.pl ps->ps.length<=1000->Un ps->(∀q H' us,Same H H'->H q=none->H' q=some (.lst us)->Paired (cPr.rp K H') ps us->Q (.ref q) H')->tm C CL CV K vs H Q E
theorem wR(F:Fun K "waiting" "Works.waiting" dY f fd)(T:TxV K CV)(L:TxL K C CL)(y:GM P w K mg base CX0 5 CL "waiting" ["self"] (uG C CL K)):FnOk P w K mg base CX0 6 f fd ["self"] (vX C CL CV K):=by
 refine F.oj jF λu A d s H vs Q E x h=>?_
 obtain ⟨W,e,g,S,i,rfl,j,ls,m,un,q⟩:=h
 refine ⟨_,aj (aw (pm0 y (aq (pv 0) rfl) L.cl x)),?_⟩
 obtain ⟨o,r,b,_⟩:=id ls
 exact ⟨_,ϱ,W.l,CV,W.dx,_,_,ϱ,j,T.cl,T.lk,qe,W.lk,o,_,ϱ,b,eZ θ,W.lk,W.pl,i,ϱ,ls,m,un,q⟩
theorem wU(F:Fun K "held" "Works.held" gv f fd)(T:TxV K CV)(L:TxL K C CL)(y:GM P w K mg base CX0 5 CL "held" ["self"] (uH C CL K cPr.rp)):FnOk P w K mg base CX0 6 f fd ["self"] (tm C CL CV K):=by
 refine F.oj nJ λu A d s H vs Q E x h=>?_
 obtain ⟨W,e,g,S,i,rfl,j,ls,m,un,q⟩:=h
 refine ⟨_,aj (aw (pm0 y (aq (pv 0) rfl) L.cl x)),?_⟩
 obtain ⟨o,r,b,_⟩:=id ls
 exact ⟨_,ϱ,W.l,CV,W.dx,_,_,ϱ,j,T.cl,T.lk,qe,W.lk,o,_,ϱ,b,eZ θ,W.lk,W.pl,i,ϱ,ls,m,un,q⟩
inductive oY (CS CH CL CV:Addr) (K:Frag) (vs:List V) (H:Hp) (Q:VK) (E:XK):Prop|mk l dx b d:vs=[.ref l,.ref (b:Bx).A.l,.int b.home,.int b.many]->H l=some (.ins CV dx [])->Sa CS K H b.p b.z b.A d->d.rd=none->(∀W dl H',(W:Aw).l=l->Ow CH CL [l] H H' (wkL CL b ⟨W,dl,[],(none,none),[],[],[],⟨none,none⟩⟩)->H' l=some (.ins CV W.dx (wf b.A.l b.home b.many W))->Q .non H')->oY CS CH CL CV K vs H Q E
theorem wW{fI:Addr}{dI:FuncData}(F:Fun K "__init__" "Works.__init__" gu f fd)(D:TxD K CS)(T:TxV K CV)(n:Nq C CS CH CL CV)(ML:L2.Mk K CL fI)(av:mg "Locks"=some (.ref CL))(aR:FnOk P w K mg base CX0 1 fI dI ["self"] (lX CL))(aS:Binds K dI ["self"] [])(GB:GM P w K mg base CX0 1 CS "bound" ["self"] (lF CS K)) :
  FnOk P w K mg base CX0 3 f fd ["self","stand","home","many"] (oY CS CH CL CV K):=by
 refine F.oj sc_Works_init λc4 A ab s H vs Q E hr h=>?_
 obtain ⟨l,g,b,d,rfl,hl,sa,er,q⟩:=h
 have nd:=sc_Works_init.nd
 have a4:Room (1+1) _:=hr.mono ζ
 refine ⟨_,ag (aV (pv 0) (pv 1) rfl) (ag (aV (pv 0) (pv 2) rfl) (ag (aV (pv 0) (pv 3) rfl)
  (ag (aV (pv 0) (wF ML aR a4 rfl av aS .nil bb) rfl)
  (ag (aV (pv 0) eQ rfl) (ag (aV (pv 0) eQ rfl) (ag (aV (pv 0) eQ rfl)
  (aj (hW PassesOwn.never rfl (bZ (pm0 GB (pv 1) D.cl hr)) (b7 (i:=4) nd rfl (Or.inl rfl)) aJ)))))))),?_⟩
 have g0:Ow CH CL [l] H H [(l,.ins CV g [])]:=.mk0 (L:=[(l,.ins CV g [])]) (λx X=>by rw [List.mem_singleton.mp X];exact hl) (by simp [ad]) (λx X=>by rw [List.mem_singleton.mp X];exact λz=>z.1 rfl)
 have g1:Ow CH CL [l] H _ [(l,.ins CV g (az "stand" (.ref b.A.l) []))]:=g0.up 0 _ rfl
 have g2:Ow CH CL [l] H _ [(l,.ins CV g (az "home" (.int b.home) (az "stand" (.ref b.A.l) [])))]:=g1.up 0 _ rfl
 have g3:Ow CH CL [l] H _ [(l,.ins CV g (az "many" (.int b.many) (az "home" (.int b.home) (az "stand" (.ref b.A.l) []))))]:=g2.up 0 _ rfl
 refine ⟨_,ϱ,_,ϱ,l,CV,g,_,ϱ,hl,T.cl,T.st,(by show 0<1000;decide),_,ϱ,_,ϱ,l,CV,g,_,ϱ,ae,T.cl,T.ho,(bj (n:=999) (by show 0<999;decide)),_,ϱ,_,ϱ,l,CV,g,_,ϱ,ae,T.cl,T.mn,(bj (n:=999) (bj (n:=998) (by show 0<998;decide))),?_⟩
 generalize (upd (upd (upd H l _) l _) l _)=H3 at g3 ⊢
 intro y m a0 a1 as
 refine ⟨y,m,ϱ,ae,λG H4 j I J ak=>⟨ϱ,?_⟩⟩
 have s4:Same H3 H4:=u4 a0 a1 ak
 have O:H3 G=none:=by
  cases e:H3 G with
  | none=>rfl
  | some o =>
   have n1:G≠y:=iG I J (by intro z;cases z)
   have n2:G≠m:=λz=>by rw [z] at j;rw [ao as,ae] at j;cases j
   rw [ao n1,ao n2,e] at j
   cases j
 have g4:=(g3.join (Ow.two a0 O (iG J I (by intro z;cases z)) s4 J I)).perm List.perm_append_comm
 have a5:H4 l=some (.ins CV g (az "many" (.int b.many) (az "home" (.int b.home) (az "stand" (.ref b.A.l) [])))):=g4.co _ (.head _)
 have g5:Ow CH CL [l] H _ ((l,.ins CV g (az "locks" (.ref y) (az "many" (.int b.many) (az "home" (.int b.home) (az "stand" (.ref b.A.l) [])))))::[(y,.ins CL m [("pairs",.ref G)]),(G,.lst [])]):=g4.up 0 _ rfl
 refine ⟨_,ϱ,l,CV,g,_,ϱ,a5,T.cl,T.lk,(bj (n:=999) (bj (n:=998) (bj (n:=997) (by show 0<997;decide)))),λdr n6=>?_⟩
 obtain ⟨a6,g6⟩:=g5.fld n6 (.dT []) (az "drafts" (.ref dr) (az "locks" (.ref y) (az "many" (.int b.many) (az "home" (.int b.home) (az "stand" (.ref b.A.l) [])))))
 refine ⟨_,ϱ,l,CV,g,_,ϱ,a6,T.cl,T.dr,(bj (n:=999) (bj (n:=998) (bj (n:=997) (bj (n:=996) (by show 0<996;decide))))),λan n7=>?_⟩
 obtain ⟨a7,g7⟩:=g6.fld n7 (.dT []) (az "answers" (.ref an) (az "drafts" (.ref dr) (az "locks" (.ref y) (az "many" (.int b.many) (az "home" (.int b.home) (az "stand" (.ref b.A.l) []))))))
 refine ⟨_,ϱ,l,CV,g,_,ϱ,a7,T.cl,T.an,(bj (n:=999) (bj (n:=998) (bj (n:=997) (bj (n:=996) (bj (n:=995) (by show 0<995;decide)))))),λpe n8=>?_⟩
 obtain ⟨a8,g8⟩:=g7.fld n8 (.dT []) (az "pending" (.ref pe) (az "answers" (.ref an) (az "drafts" (.ref dr) (az "locks" (.ref y) (az "many" (.int b.many) (az "home" (.int b.home) (az "stand" (.ref b.A.l) [])))))))
 refine ⟨_,ϱ,l,CV,g,_,ϱ,a8,T.cl,T.pe,(bj (n:=999) (bj (n:=998) (bj (n:=997) (bj (n:=996) (bj (n:=995) (bj (n:=994) (by show 0<994;decide))))))),?_⟩
 have i8:=g8.co _ (.head _)
 have U:Ow CH CL [l] H _ (wkL CL b ⟨⟨l,g,y,G,dr,an,pe⟩,m,[],(none,none),[],[],[],⟨none,none⟩⟩):=g8.sub (.cons _ (.refl _))
 generalize (upd (upd _ pe _) l _)=H9 at i8 U ⊢
 have W:Sa CS K H9 b.p b.z b.A d:=by
  have nl:∀{c o},H c=some o->(∀g,o≠.ins CV g [])->H9 c=some o:=λ{c o} e ne=>U.fr c o (λz=>by rw [ϵ.mp z,hl] at e;exact ne _ (Δ e).symm) e
  refine ⟨⟨nl sa.ins (λ_ z=>by injection z with _ _ z;exact Aj _ z),sa.ok.keep U.ts,λx X=>let ⟨w,us,c,h1⟩:=sa.wt x X;⟨w,us,c,U.ts _ _ h1⟩,λr e=>by rw [er] at e;cases e⟩,λu hu=>nl (sa.co u hu) λg z=>?_⟩
  simp only [stL,List.mem_cons,List.not_mem_nil,or_false] at hu
  rcases hu with e | e | e | e | e<;>subst e<;>cases z
 refine ⟨_,ϱ,b.A.l,b.A.dx,_,ϱ,W.ins,gI θ,b.p,b.z,b.A,d,ϱ,W,er,λlb Y Z nb hb=>⟨lb,ϱ,⟨_,SqL.of hb⟩,?_⟩⟩
 exact qT (xs:=[]) (λi σ H'=>H'=Y) rfl (λi σ H' _ z=>by rw [z];exact SqL.of hb) (λi x σ H' e=>by cases e) fun σ H' z=>by rw [z];exact q ⟨l,g,y,G,dr,an,pe⟩ m Y rfl (U.same Z) (Z _ _ i8)
abbrev Dh:Arguments:=match pK with | .Lambda a _ _ _=>a | _=>defArgs aN
abbrev Df:Expr:=match pK with | .Lambda _ b _ _=>b | _=>.Name "" default
abbrev lScope:Scope:=match pK with | .Lambda _ _ s _=>s | _=>defScope aN
theorem zL{b d y:Str}{f g a:Addr}(h:[(b,f),(d,g)].lookup y=some a):(y=b/\a=f)\/(y=d/\a=g):=by
 rw [List.lookup_cons] at h
 cases e:y==b with
 | true =>
  rw [e] at h
  exact .inl ⟨by simpa using e,(Option.some.inj h).symm⟩
 | false =>
  rw [e,List.lookup_cons] at h
  cases e2:y==d with
  | true =>
   rw [e2] at h
   exact .inr ⟨by simpa using e2,(Option.some.inj h).symm⟩
  | false =>
   rw [e2] at h
   cases h
theorem zN{G c f g:Addr}{W:Aw}{home many:Int}{S:Ad}{cs:List Int}{p:Pa}{m:Addr}{o:Option Addr}{dk:List (Key×V)}{H:Hp}(C:g≠f)(hB:yr [] [(g,.ref m),(f,.ref W.l)] base)(hf:H G=some (jz G yR Dh Df lScope [("self",f),("p",g)] c))(hc:H c=some (gb c yR))
  (T:TxV K CV)(GV:GM P w K mg base CX0 2 CV "value_at" ["self","p","cell"] (iY CS CV))(L:H W.l=some (.ins CV W.dx (wf S.l home many W)))(hd:H W.dr=some (.dT (dOf p o)))(hs:∀x,o=some x->H x=some (.dK dk))(hn:o=none->dk=[])(di:DrI dk)(st:H S.l=some (.ins CS S.dx (sf S)))(I:H S.cl=some (.lst (cs.map V.int)))(sp:PaA H p m) :
  CloT P w K mg base 4 G (iZ (eM dk cs) cs.length) H:=by
 refine ⟨⟨_,_,_,_,_,_,hf⟩,λH1 A D s v u Q b J e0 r h=>?_⟩
 obtain ⟨i,O,U,X,q⟩:=h
 cases O
 refine qL (k:=3) (N:=["cell","p","self"]) (x:="cell") (fvs:=[.ref m,.ref W.l]) J e0 hB ⟨ϱ,ϱ,ϱ,θ,ϱ,ϱ,θ,λy Y=>?_,λy z a h1 d=>?_⟩ rfl (λy a h=>?_) (λj y v h1 d=>?_) (b _ _ hf) (b _ _ hc) r (λpm ct=>.of_eq rfl) ⟨_,pm GV (pv 2) T.cl (J.deeper _) (ac (pv 1) (ac (pv 0) af)),?_⟩
 ·have e:y="p"\/y="self":=(by decide +kernel:∀p∈lScope.names,p.2=NameKind.free->p.1=("p":Str)\/p.1=("self":Str)) _ (PySem.mem_of_lookup Y) rfl
  rcases e with e | e
  ·subst e
   exact ⟨g,ϱ⟩
  ·subst e
   exact ⟨f,ϱ⟩
 ·rcases zL h1 with ⟨rfl,rfl⟩ | ⟨rfl,rfl⟩
  ·rcases zL d with ⟨rfl,e⟩ | ⟨_,e⟩
   ·rfl
   ·exact absurd e.symm C
  ·rcases zL d with ⟨_,e⟩ | ⟨rfl,e⟩
   ·exact absurd e C
   ·rfl
 ·rcases zL h with ⟨_,rfl⟩ | ⟨_,rfl⟩
  ·exact ⟨_,Θ _ Ω⟩
  ·exact ⟨_,Ω⟩
 ·cases j with
  | zero =>
   cases h1
   cases d
   refine ⟨ϱ,g,ϱ,λZ F=>?_⟩
   rcases ϕ.mp F with e | e
   ·cases e
    rfl
   ·cases ϵ.mp e
    exact absurd rfl C
  | succ j =>
   cases j with
   | zero =>
    cases h1
    cases d
    refine ⟨ϱ,f,ϱ,λZ F=>?_⟩
    rcases ϕ.mp F with e | e
    ·cases e
     exact absurd rfl C
    ·cases ϵ.mp e
     rfl
   | succ j=>cases d
 ·exact ⟨_,ϱ,W.l,W.dx,_,ϱ,b _ _ L,fb θ,_,ϱ,_,ϱ,W,home,many,S,cs,p,m,o,dk,i,ϱ,b _ _ L,b _ _ hd,λx hx=>b _ _ (hs x hx),hn,di,b _ _ st,b _ _ I,b _ _ sp,U,X,q⟩
theorem BL{b y:Str}{d a:Addr}(h:[(b,d)].lookup y=some a):y=b/\a=d:=by
 rw [List.lookup_cons] at h
 cases e:y==b with
 | true =>
  rw [e] at h
  exact ⟨by simpa using e,(Option.some.inj h).symm⟩
 | false =>
  rw [e] at h
  cases h
def bu(cs:List Int)(c:Int):Int:=cs.getD c.toNat 0
abbrev BK:Arguments:=match pJ with | .Lambda a _ _ _=>a | _=>defArgs aN
abbrev BJ:Expr:=match pJ with | .Lambda _ b _ _=>b | _=>.Name "" default
abbrev lmScope:Scope:=match pJ with | .Lambda _ _ s _=>s | _=>defScope aN
theorem BI{o c f:Addr}{W:Aw}{home many:Int}{S:Ad}{cs:List Int}{H:Hp}(O:yr [] [(f,.ref W.l)] base)(hf:H o=some (jz o yS BK BJ lmScope [("self",f)] c))(U:H c=some (gb c yS))
  (D:TxD K CS)(T:TxV K CV)(X:GM P w K mg base CX0 1 CS "cell_at" ["self","cell"] (fR CS))(Y:H W.l=some (.ins CV W.dx (wf S.l home many W)))(st:H S.l=some (.ins CS S.dx (sf S)))(C:H S.cl=some (.lst (cs.map V.int))) :
  CloT P w K mg base 4 o (iZ (bu cs) cs.length) H:=by
 refine ⟨⟨_,_,_,_,_,_,hf⟩,λH1 A m s v u Q b F e0 r h=>?_⟩
 obtain ⟨i,G,Z,i1,q⟩:=h
 cases G
 have I:∀(j:Nat) (y:Str) (v:V),(["cell","self"]:List Str)[j+1]?=some y->([.ref W.l]:List V)[j]?=some v->y="self"/\v=.ref W.l:=λj y v h1 d=>by
  cases j with
  | zero=>cases h1;cases d;exact ⟨rfl,rfl⟩
  | succ j=>cases d
 have e:∃n:Nat,i=(n:Int)/\cs[n]?=some (bu cs i):=by
  obtain ⟨n,rfl⟩:∃n:Nat,i=(n:Int):=⟨i.toNat,ω⟩
  have g:n<cs.length:=by omega
  refine ⟨n,ϱ,?_⟩
  unfold bu
  rw [Int.toNat_natCast,List.getD_eq_getElem?_getD,ξ g]
  rfl
 obtain ⟨n,rfl,en⟩:=e
 exact qL (k:=3) (N:=["cell","self"]) (x:="cell") (fvs:=[.ref W.l]) F e0 O ⟨ϱ,ϱ,ϱ,θ,ϱ,ϱ,θ,λy J=>⟨f,by rw [show y=("self":Str) from (by decide +kernel:∀p∈lmScope.names,p.2=NameKind.free->p.1=("self":Str)) _ (PySem.mem_of_lookup J) rfl];rfl⟩,λy z a h1 d=>by rw [(BL h1).1,(BL d).1]⟩ rfl (λy a h=>by rw [(BL h).2];exact ⟨_,Ω⟩)
  (λj y v h1 d=>by obtain ⟨rfl,rfl⟩:=I j y v h1 d;exact ⟨rfl,f,rfl,λv' L=>by cases ϵ.mp L;rfl⟩) (b _ _ hf) (b _ _ U) r (λpm ct=>.of_eq rfl) ⟨_,pm X (aq (pv 1) rfl) D.cl (F.deeper _) (ac (pv 0) af),⟨_,rfl,W.l,CV,W.dx,_,_,rfl,b _ _ Y,T.cl,T.st,qd,S.l,S.dx,_,rfl,b _ _ st,gI θ,_,rfl,S,n,_,cs,rfl,b _ _ st,b _ _ C,en,q _ (Same.refl _)⟩⟩
abbrev Gs(C:Kd->Addr)(CS CH CL CV:Addr)(K:Frag)(H:Hp)(b:Bx)(S:Cs)(d:Sx)(x:Wx)(H':Hp)(S':Cs)(d':Sx)(x':Wx):Prop:=Gd C CS CH CL CV K (ad (S++(stL b.p b.z b.A d++wtL CL b x))) H H' b S' d' x'
inductive v9 (C:Kd->Addr) (CS CH CL CV:Addr) (K:Frag) (vs:List V) (H:Hp) (Q:VK) (E:XK):Prop|mk b h rs us v d x i aa hv:vs=[.ref (x:Wx).W.l,.ref (h:Ah).l,.ref (b:Bx).pa,.int i]->Gs C CS CH CL CV K H b (shL CH b.A.l h rs us v) d x H (shL CH b.A.l h rs us v) d x->x.o.2=some aa->bx x.ak (.inl i)=some (.int hv)->us.length<=900->(∀u H',Gs C CS CH CL CV K H b (shL CH b.A.l h rs us v) d x H' (shL CH b.A.l h rs (us++[u]) v) d x->Q .non H')->v9 C CS CH CL CV K vs H Q E
theorem Bw(F:Fun K "send_did" "Works.send_did" c6 f fd)(DH:TxH K CH)(T:TxV K CV)(n:Nq C CS CH CL CV)(GS:GM P w K mg base CX0 1 CH "send" ["self","to","word","p","more"] (i6 CH CL)):FnOk P w K mg base CX0 2 f fd ["self","sheet","p","i"] (v9 C CS CH CL CV K):=by
 refine F.oj jb λY A m s H vs Q E y h=>?_
 obtain ⟨b,h,J,L,v,d,x,i,aa,D,rfl,g,G,e,O,q⟩:=h
 refine ⟨_,aj (aO (pm GS (pv 1) DH.cl y (ac (au (r:=aQ K) aB (pv 2) ai (λ_ _=>rfl)) (ac aA (ac (pv 2) (ac (aF (ac (pv 3) (ac (gq (cT y) (gq (cT y) (aq (pv 0) rfl) (pv 2) (λ_ _=>rfl)) (pv 3) (λ_ _=>rfl)) af))) af)))))),?_⟩
 have g1:DGet H x.W.an (.ref b.pa) (some (.ref aa)):=by
  have:=DGet.t (k:=pk b.p) g.an g.wo.pa
  rw [db,G] at this
  exact this
 have U:DGet H aa (.int i) (some (.int D)):=by
  have:=DGet.k (k:=.inl i) (g.aa G)
  rw [e] at this
  exact this
 refine ⟨_,ϱ,h.l,h.dx,_,ϱ,g.sh,iJ θ,_,ϱ,b.pa,_,_,_,ϱ,ϱ,SqT.of g.wo.pa,St.at0,_,ϱ,_,ϱ,_,ϱ,x.W.l,CV,x.W.dx,_,_,ϱ,g.wo.wi,T.cl,T.an,gU,_,ϱ,x.W.an,_,ϱ,g1,_,ϱ,aa,_,ϱ,U,χ,λt Z=>?_⟩
 have X:=ah (o:=.tup [.int i,.int D]) Z
 have j:=g.same n X
 exact ⟨b.A.l,h,J,L,v,(b.p.1,"did",b.pa,t),stL b.p b.z b.A d++wtL CL b x,ϱ,(j.self dH).ow,O,λu H' I _=>q u H' (j.trans ⟨I,j.wo.im n I.im⟩)⟩
theorem B2{X:Cx}{b c:Addr}{u v:V}{σ:L2.St}(i j:Nat)(x y:Str)(h1:X.N[i]?=some x/\σ[i]?=some (some u)/\X.env.kindOf x=some .cell/\X.env.cells.lookup x=some b/\X.fn x=true)(h2:X.N[j]?=some y/\σ[j]?=some (some v)/\X.env.kindOf y=some .cell/\X.env.cells.lookup y=some c/\X.fn y=true):qc X [(b,u),(c,v)] σ:=λp hm=>by
 rcases ϕ.mp hm with e | e
 ·cases e
  exact ⟨i,x,h1⟩
 ·cases ϵ.mp e
  exact ⟨j,y,h2⟩
section
variable {H:Hp}{b:Bx}{d:Sx}{x:Wx}
theorem Wo.wsi{d':Sx}(g:Wo C CS CV K H b d x)(e:Si CS K H b.p b.z b.A d'):Wo C CS CV K H b d' x:=⟨e,g.wi,g.ps,g.cz,g.pa,g.za,g.n1,g.n2,g.ne⟩
theorem Wo.od{o:Odb}{dk ak:List (Key×V)}(g:Wo C CS CV K H b d x)(n1:o.1=none->dk=[]/\o.2=none)(n2:o.2=none->ak=[]):Wo C CS CV K H b d ⟨x.W,x.dl,x.vs,o,dk,ak,x.due,x.cz⟩:=⟨g.si,g.wi,g.ps,g.cz,g.pa,g.za,n1,n2,g.ne⟩
end
inductive v8 (C:Kd->Addr) (CS CH CL CV:Addr) (K:Frag) (Pt:Addr) (vs:List V) (H:Hp) (Q:VK) (E:XK):Prop|mk b h d rs us v wt i hand wd ns x:vs=[.ref (x:Wx).W.l,.ref (h:Ah).l,.ref (b:Bx).pa,.ref wt]->b.Pt=Pt->Gs C CS CH CL CV K H b (shL CH b.A.l h rs us v) d x H (shL CH b.A.l h rs us v) d x->H wt=some (.tup [.int i,.int hand,.str (txt wd ns)])->Ar wd ns->inC d.cells.length wd ns->d.cells.length<=900->d.ws.length<=900->d.en.length<=60->DrI x.dk->x.dk.length<=100->x.ak.length<=100->rs.length<=100->us.length<=100->(∀dd aa c us' d' rs' v' H',Gs C CS CH CL CV K H b (shL CH b.A.l h rs us v) d x H' (shL CH b.A.l h rs' us' v') d' ⟨x.W,x.dl,x.vs,(some dd,some aa),aL x.dk (aL [] (chK (dn (eM x.dk d.cells) wd ns hand).2)),bM x.ak (.inl i) (.int (dn (eM x.dk d.cells) wd ns hand).1),x.due,⟨some c,x.cz.w⟩⟩->d'=d\/d'=d.kp 0 0 .work->Q .non H')->v8 C CS CH CL CV K Pt vs H Q E
theorem yb(val:Int->Int)(b:Wd)(d:List Int)(h:Int):(dn val b d h).2.length<=1:=by
 unfold dn
 split<;>simp
theorem uX{cc Pt:Addr}{fS:Wd->Addr}{dS:Wd->FuncData}(F:Fun K "do_step" "Works.do_step" aN f fd)(bI:mg "dict"=none)(TW:TxW K CW)(T:TxV K CV)(DH:TxH K CH)(n:Nq C CS CH CL CV)(du:BB mg base)(dv:fd.code=.ref cc)(dy:PySem.W.codeHdIn K cc Pt=true)
  (GR:GF P w K mg base CX0 6 "read_step" ["text"] (i4 CW))(HV:∀Bh:Heap,K.In Bh->GM P w K mg Bh CX0 2 CV "value_at" ["self","p","cell"] (iY CS CV))
  (HS:∀(m:Wd) (val:Int->Int) (n:Nat) (Bh:Heap),n<=1000->K.In Bh->FnOk P w K mg Bh CX0 5 (fS m) (dS m) ["self","hand","value_of"] (dU P w K mg CW val n m Bh))(mS:∀m,ir K (CW m) "step_done" (fS m))(bS:∀m,Binds K (dS m) ["self","hand","value_of"] [])
  (ce:GM P w K mg base CX0 3 CH "row" ["self","row"] (jD CS CH CL K))(GD:GM P w K mg base CX0 2 CV "send_did" ["self","sheet","p","i"] (v9 C CS CH CL CV K)):FnOk P w K mg base CX0 7 f fd ["self","sheet","p","waited"] (v8 C CS CH CL CV K Pt):=by
 refine F.okC sc_Works_do_step (λvs H Q E h=>?_) (λA0 d3 s H vs Q E hr h=>?_)
 ·obtain ⟨b,h,d,L,y,v,wt,i,I,m,ns,x,rfl,_⟩:=h
  rfl
 obtain ⟨b,h,d,L,y,v,wt,i,I,m,ns,⟨W,J,vs,o,dk,ak,j,G⟩,rfl,rfl,g0,br,ar,ic,hn,cv,len,di,cw,cx,e2,e3,q⟩:=h
 have nd:=sc_Works_do_step.nd
 have d1:Room 5 _:=hr.mono ζ
 have ne:s.heap.objs.size+2≠s.heap.objs.size+1:=by omega
 have hz:(1000:Nat)<=sizeLine:=by decide
 simp only [] at di cw cx
 generalize er:dn (eM dk d.cells) m ns I=r at q
 refine ⟨_,ag (aD (i:=4) nd rfl (Or.inl rfl) (qt (cs:=[(s.heap.objs.size+2,.ref b.pa),(s.heap.objs.size+1,.ref W.l)]) (sp:=λBh=>dU P w K mg CW (eM dk d.cells) d.cells.length m Bh) (pc GR hr (ac (au (r:=aQ K) aB (pv 3) ai (λ_ _=>rfl)) af)) (TW.cl m) (mS m)
   (λBh bB=>HS m (eM dk d.cells) d.cells.length Bh ω bB) d1 (bS m) bb (ac (au (r:=aQ K) aB (pv 3) ai (λ_ _=>rfl)) (ac (tQ (P:=b.Pt) (cl:=[("self",s.heap.objs.size+1),("p",s.heap.objs.size+2)]) dv dy du rfl rfl rfl) af))))
  (cX (u:=λD σ H1=>∃t U c,σ=[some (.ref W.l),some (.ref h.l),some (.ref b.pa),some (.ref wt),some (.ref t)]/\Gs C CS CH CL CV K H b (shL CH b.A.l h L y v) d ⟨W,J,vs,o,dk,ak,j,G⟩ H1 (shL CH b.A.l h L y v) d ⟨W,J,vs,o,dk,ak,j,⟨some c,G.w⟩⟩/\H1 t=some (.tup [.int r.1,.ref U])/\chN H1 r.2 U/\H1 wt=some (.tup [.int i,.int I,.str (txt m ns)])/\∀σ' H',Q .non H'->D.nx σ' H')
   (ag (aO (yZ (tT (cT hr) (aq (pv 0) rfl) (pv 2) hX ⟨ϱ,ϱ,ϱ,ϱ⟩) (aX (sP rfl) rfl bI PyProof.Rows.boot_dict (ac (au (r:=aQ K) aB (pv 4) ai (λ_ _=>rfl)) af)) ⟨ϱ,ϱ,ϱ,ϱ⟩))
  (cX (u:=λD σ H1=>∃t U c dd,σ=[some (.ref W.l),some (.ref h.l),some (.ref b.pa),some (.ref wt),some (.ref t)]/\Gs C CS CH CL CV K H b (shL CH b.A.l h L y v) d ⟨W,J,vs,o,dk,ak,j,G⟩ H1 (shL CH b.A.l h L y v) d ⟨W,J,vs,(some dd,o.2),aL dk (aL [] (chK r.2)),ak,j,⟨some c,G.w⟩⟩/\H1 t=some (.tup [.int r.1,.ref U])/\H1 wt=some (.tup [.int i,.int I,.str (txt m ns)])/\∀σ' H',Q .non H'->D.nx σ' H')
   (ag (aI (hV (jU (cT hr) (pv 2) (aq (pv 0) rfl))) (ag (jg (cT hr) (aq (pv 0) rfl) (pv 2) hX rfl) (aj (aO (pm ce (pv 1) DH.cl hr (ac (aF (ac aA (ac (pv 2) af))) af))))) aC)
  (cX (u:=λD σ H1=>∃t U c dd aa d' ab v',σ=[some (.ref W.l),some (.ref h.l),some (.ref b.pa),some (.ref wt),some (.ref t)]/\Gs C CS CH CL CV K H b (shL CH b.A.l h L y v) d ⟨W,J,vs,o,dk,ak,j,G⟩ H1 (shL CH b.A.l h ab y v') d' ⟨W,J,vs,(some dd,some aa),aL dk (aL [] (chK r.2)),ak,j,⟨some c,G.w⟩⟩/\H1 t=some (.tup [.int r.1,.ref U])/\H1 wt=some (.tup [.int i,.int I,.str (txt m ns)])/\(d'=d\/d'=d.kp 0 0 .work)/\∀σ' H',Q .non H'->D.nx σ' H')
   (ag (jg (cT hr) (gq (cT hr) (aq (pv 0) rfl) (pv 2) (λ_ _=>rfl)) (au (r:=aQ K) aB (pv 3) ai (λ_ _=>rfl)) (au (r:=aQ K) aB (pv 4) ai (λ_ _=>rfl)) rfl)
   (aj (aO (pm GD (pv 0) T.cl hr (ac (pv 1) (ac (pv 2) (ac (au (r:=aQ K) aB (pv 3) ai (λ_ _=>rfl)) af))))))) ?s4)) ?s3)) ?s2),?_⟩
 case s4 =>
  rintro D σ H1 ⟨t,U,c,dd,aa,d',ab,v',rfl,g,ht,X,e1,nx⟩
  have g1:DGet H1 W.an (.ref b.pa) (some (.ref aa)):=by
   have:=DGet.t (k:=pk b.p) g.an g.wo.pa
   rw [db] at this
   exact this
  have ha:=g.aa rfl
  refine ⟨_,ϱ,t,_,_,_,ϱ,ϱ,SqT.of ht,St.at0,_,ϱ,W.l,CV,W.dx,_,_,ϱ,g.wo.wi,T.cl,T.an,gU,_,ϱ,W.an,_,ϱ,g1,_,ϱ,wt,_,_,_,ϱ,ϱ,SqT.of X,St.at0,aa,_,ϱ,DPut.k (k:=.inl i) ha (by show ak.length<_;omega),?_⟩
  have Y:=g.kp n 16 (a:=aa) (o':=.dK (bM ak (.inl i) (.int r.1))) (S':=shL CH b.A.l h ab y v') (x':=⟨W,J,vs,(some dd,some aa),aL dk (aL [] (chK r.2)),bM ak (.inl i) (.int r.1),j,⟨some c,G.w⟩⟩) rfl bn ae id (g.wo.od (λz=>by cases z) (λz=>by cases z))
  have av:bx (bM ak (.inl i) (.int r.1)) (.inl i)=some (.int r.1):=by rw [lR,if_pos rfl]
  exact ⟨_,ϱ,W.l,W.dx,_,ϱ,Y.wo.wi,fb θ,_,ϱ,_,ϱ,_,ϱ,wt,_,_,_,ϱ,ϱ,SqT.of ((iL ha) _ _ X),St.at0,b,h,ab,y,v',d',⟨W,J,vs,(some dd,some aa),aL dk (aL [] (chK r.2)),bM ak (.inl i) (.int r.1),j,⟨some c,G.w⟩⟩,i,aa,r.1,ϱ,Y.self dH,ϱ,av,ω,λu H2 g3=>nx _ H2 (q dd aa c _ d' ab v' H2 (Y.trans g3) e1)⟩
 case s3 =>
  rintro D σ H1 ⟨t,U,c,dd,rfl,g,ht,X,nx⟩
  have g1:=DGet.t (k:=pk b.p) g.an g.wo.pa
  rw [db] at g1
  refine ⟨_,ϱ,_,ϱ,W.l,CV,W.dx,_,_,ϱ,g.wo.wi,T.cl,T.an,gU,W.an,_,ϱ,g1,_,ϱ,?_⟩
  obtain ⟨od,oa⟩:=o
  cases oa with
  | some aa=>exact aT ⟨t,U,c,dd,aa,d,L,v,rfl,g,ht,X,.inl rfl,nx⟩
  | none =>
   refine cu λaa a4=>⟨_,ϱ,W.l,CV,W.dx,_,_,ϱ,ah a4 _ _ g.wo.wi,T.cl,T.an,gU,_,ϱ,W.an,_,ϱ,DPut.t (k:=pk b.p) (ah a4 _ _ g.an) (ah a4 _ _ g.wo.pa) (by show 0<sizeLine;decide),?_⟩
   rw [show dOf b.p none=[] from rfl,pN]
   have ea:ak=[]:=g.wo.n2 rfl
   subst ea
   have a0:ImS CH CL H1 (upd (upd H1 aa (.dK [])) W.an (.dT [(pk b.p,.ref aa)])):=(cy (ah a4)).trans (cH bn (ah a4 _ _ g.an) id)
   have Y:Gs C CS CH CL CV K H b (shL CH b.A.l h L y v) d ⟨W,J,vs,(od,none),dk,[],j,G⟩ (upd (upd H1 aa (.dK [])) W.an (.dT [(pk b.p,.ref aa)])) (shL CH b.A.l h L y v) d ⟨W,J,vs,(some dd,some aa),aL dk (aL [] (chK r.2)),[],j,⟨some c,G.w⟩⟩:=⟨(g.ow.new a4 (.dK [])).up 13 _ rfl,(g.wo.od (λz=>by cases z) (λz=>by cases z)).im n a0⟩
   generalize (upd (upd H1 aa (.dK [])) W.an (.dT [(pk b.p,.ref aa)]))=H2 at Y a0 ⊢
   refine ⟨_,ϱ,h.l,h.dx,_,ϱ,Y.sh,iJ θ,_,ϱ,χ,λrr d6=>?_⟩
   have s3:=ah (o:=.tup [.str "work",.ref b.pa]) d6
   have g3:=Y.same n s3
   have d2:RxAt K (upd H2 rr (.tup [.str "work",.ref b.pa])) b.p b.z rr .work:=⟨b.pa,ae,g3.wo.pa⟩
   refine ⟨b.p,b.z,b.A,h,d,L,y,v,rr,.work,wtL CL b ⟨W,J,vs,(some dd,some aa),aL dk (aL [] (chK r.2)),[],j,⟨some c,G.w⟩⟩,ϱ,(g3.self dH).ow,g3.wo.si,d2,⟨(λc hc=>by cases hc),(λ_ z=>by cases z),(λ_ _ z=>by cases z),(λ_ _ _ z=>by cases z),len,cv⟩,ω,λb' v' H4 o4 da _=>?_⟩
   have c2:=(a0.ts).trans (s3.ts.trans (ImS.ts o4.im))
   exact ⟨t,U,c,dd,aa,_,_,v',ϱ,g3.trans ⟨o4,(g3.wo.im n o4.im).wsi da⟩,c2 _ _ ht,c2 _ _ X,.inr rfl,nx⟩
 case s2 =>
  rintro D σ H1 ⟨t,U,c,rfl,g,ht,⟨bG,⟨o1,a8,cd⟩,pch⟩,X,nx⟩
  refine ⟨_,ϱ,W.l,CV,W.dx,_,_,ϱ,g.wo.wi,T.cl,T.dr,lQ,W.dr,ϱ,.inr ⟨_,.inl g.dr⟩,_,ϱ,λq0 ca=>?_⟩
  have s1:=ah (o:=.dK []) ca
  have l1:r.2.length<=1:=by rw [← er];exact yb _ _ _ _
  have lc:(chK r.2).length<=1:=by unfold chK;rw [List.length_map];exact l1
  have lm:(aL [] (chK r.2)).length<=1:=by have:=dh (chK r.2) [];simp at this;omega
  have fin:∀(dd p2:Addr) (H4:Hp),Gs C CS CH CL CV K H b (shL CH b.A.l h L y v) d ⟨W,J,vs,o,dk,ak,j,G⟩ H4 (shL CH b.A.l h L y v) d ⟨W,J,vs,(some dd,o.2),dk,ak,j,⟨some c,G.w⟩⟩->TSame H1 H4->H4 p2=none ->
    Gs C CS CH CL CV K H b (shL CH b.A.l h L y v) d ⟨W,J,vs,o,dk,ak,j,G⟩ (upd (upd H4 p2 (.dK (aL [] (chK r.2)))) dd (.dK (aL dk (aL [] (chK r.2))))) (shL CH b.A.l h L y v) d ⟨W,J,vs,(some dd,o.2),aL dk (aL [] (chK r.2)),ak,j,⟨some c,G.w⟩⟩/\TSame H1 (upd (upd H4 p2 (.dK (aL [] (chK r.2)))) dd (.dK (aL dk (aL [] (chK r.2))))):=λdd p2 H4 g4 t4 O=>by
   have s5:=ah (o:=.dK (aL [] (chK r.2))) O
   have g5:=g4.same n s5
   exact ⟨g5.kp n 15 (a:=dd) (o':=.dK (aL dk (aL [] (chK r.2)))) (S':=shL CH b.A.l h L y v) (x':=⟨W,J,vs,(some dd,o.2),aL dk (aL [] (chK r.2)),ak,j,⟨some c,G.w⟩⟩) rfl bn ae id (g5.wo.od (λz=>by cases z) g5.wo.n2),t4.trans (s5.ts.trans (iL (g5.dd rfl)))⟩
  have c3:∀{H4:Hp},TSame H1 H4->Paired (prD H4) (chK r.2) bG:=λt4=>Paired.mapP pch λ_ _ ⟨b,e,hb⟩=>⟨b,e,t4 _ _ hb⟩
  refine ⟨_,pk b.p,b.pa,s1 _ _ g.dr,ϱ,s1 _ _ g.wo.pa,?_,λv' ev=>?_,λev=>?_⟩
  ·have:(dOf b.p o.1).length<=1:=by cases o.1<;>simp [dOf]
   show (dOf b.p o.1).length<_
   omega
  ·rw [db] at ev
   obtain ⟨od,oa⟩:=o
   cases od with
   | none=>cases ev
   | some dd =>
    cases ev
    have g4:=g.same n s1
    have Z:=g4.dd (a:=dd) rfl
    refine ⟨dd,ϱ,.inl ⟨_,.inl Z⟩,_,ϱ,t,_,_,_,ϱ,ϱ,SqT.of (s1 _ _ ht),St.at1,U,bG,chK r.2,ϱ,⟨o1,s1 _ _ a8,cd⟩,c3 s1.ts,ω,λp2 O=>⟨p2,dk,aL [] (chK r.2),ϱ,ap Z O,ah O _ _ Z,ae,ω,?_⟩⟩
    obtain ⟨g6,t6⟩:=fin dd p2 _ g4 s1.ts O
    exact ⟨t,U,c,dd,ϱ,g6,t6 _ _ ht,t6 _ _ X,nx⟩
  ·rw [db] at ev
   obtain ⟨od,oa⟩:=o
   cases od with
   | some dd=>cases ev
   | none =>
    obtain ⟨ed,eo⟩:=g.wo.n1 rfl
    cases (show dk=[] from ed)
    cases (show oa=none from eo)
    have a7:ImS CH CL H1 (upd (upd H1 q0 (.dK [])) W.dr (.dT [(pk b.p,.ref q0)])):=(cy s1).trans (cH bn (s1 _ _ g.dr) id)
    have g4:Gs C CS CH CL CV K H b (shL CH b.A.l h L y v) d ⟨W,J,vs,(none,none),[],ak,j,G⟩ (upd (upd H1 q0 (.dK [])) W.dr (.dT [(pk b.p,.ref q0)])) (shL CH b.A.l h L y v) d ⟨W,J,vs,(some q0,none),[],ak,j,⟨some c,G.w⟩⟩:=⟨(g.ow.new ca (.dK [])).up 12 _ rfl,(g.wo.od (o:=(some q0,none)) (dk:=[]) (ak:=ak) (λz=>by cases z) (λ_=>g.wo.n2 rfl)).im n a7⟩
    have Z:=g4.dd (a:=q0) rfl
    show (_:Prop)
    refine ⟨q0,ϱ,.inl ⟨_,.inl Z⟩,_,ϱ,t,_,_,_,ϱ,ϱ,SqT.of (a7.ts _ _ ht),St.at1,U,bG,chK r.2,ϱ,⟨o1,a7 _ _ a8 True.intro,cd⟩,c3 a7.ts,ω,λp2 O=>⟨p2,[],aL [] (chK r.2),ϱ,ap Z O,ah O _ _ Z,ae,by simp;omega,?_⟩⟩
    obtain ⟨g6,t6⟩:=fin q0 p2 _ g4 a7.ts O
    exact ⟨t,U,c,q0,ϱ,g6,t6 _ _ ht,t6 _ _ X,nx⟩
 have hf:(mV m ns).lookup ("step_done":Str)=none:=ug θ θ θ θ θ m ns
 refine ⟨B2 2 0 "p" "self" ⟨ϱ,ϱ,ϱ,ϱ,ϱ⟩ ⟨ϱ,ϱ,ϱ,ϱ,ϱ⟩,_,ϱ,wt,_,_,_,ϱ,ϱ,SqT.of br,St.at2,m,ns,ϱ,ar,λv1 H1 s1 dg=>?_⟩
 obtain ⟨a1,c1,rfl,aZ⟩:=id dg
 have g1:=g0.same n s1
 refine ⟨a1,c1,_,ϱ,aZ,hf,_,ϱ,wt,_,_,_,ϱ,ϱ,SqT.of (s1 _ _ br),St.at1,g1.tb,λfv c H2 k2 ds ef eh dt bm Bh bB pb=>?_⟩
 have c4:H1 b.Pt=some (.tbl (sM zO G.d)):=g1.co j0
 have a0:ImS CH CL H1 H2:=cH k2 c4 id
 have w2:=g1.wo.im n a0
 have Y:Gs C CS CH CL CV K H b (shL CH b.A.l h L y v) d ⟨W,J,vs,o,dk,ak,j,G⟩ H2 (shL CH b.A.l h L y v) d ⟨W,J,vs,o,dk,ak,j,⟨some c,G.w⟩⟩:=⟨g1.ow.kp 8 rfl k2 ds,w2.si,w2.wi,w2.ps,⟨λz e=>by cases e;exact bm,w2.cz.2⟩,w2.pa,w2.za,w2.n1,w2.n2,w2.ne⟩
 have c5:StO CW H2 m ns (.ref a1):=⟨a1,c1,ϱ,k2 _ _ (λz=>by rw [z,c4] at aZ;cases aZ) aZ⟩
 have ct:CloT P w K mg Bh 4 fv (iZ (eM dk d.cells) d.cells.length) H2:=zN ne pb dt bm T (HV Bh bB) Y.wo.wi Y.dr (λx hx=>Y.dd hx) (λz=>(Y.wo.n1 z).1) di Y.wo.si.ins Y.sa.cl Y.wo.pa
 refine ⟨.ref a1,ns,I,fv,ϱ,ar,ic,c5,ct,λt U H3 s3 ht a8=>?_⟩
 rw [er] at ht a8
 exact ⟨t,U,c,ϱ,Y.same n s3,ht,a8,s3 _ _ (a0.ts _ _ (s1 _ _ br)),λ_ H' z=>z⟩
end
end K53
namespace L2
open PySem PySem.Spec PyProof.Rows PySem.W
section
variable {prog:Program}{w:World}{A:Around}{E:Value->Shared->Prop}{s:Shared}{κ:Type} [DecidableEq κ] {knd:HeapKind prog w κ}{d a:Addr}
theorem km{k:κ}{b:Addr}{v:Value}{Q:Option DictEntry->Shared->Prop}(r:knd.room A)(e:knd.is s.heap k a)(G:s.heap.DictOfH knd d [(k,b,v)])
  (h:∀h',h'.DictOfH knd d []->Heap.SameBut d s.heap h'->Q (some (entryOfKey knd (k,b,v))) {s with heap:=h',toks:=s.toks+knd.draws k}):wpAny (model prog w) A (Builtin.Dict.takeOut d (.ref a)) Q E s:=by
 obtain ⟨o,es,u,g,y,f,i,l,z⟩:=G
 unfold Builtin.Dict.takeOut
 refine wpAny_holding (ε (knd.pyHash r e ?_))
 have m:es.size=1:=size_of_entries i
 refine ε (wpAny_dictFind_heap (s:={s with toks:=s.toks+knd.draws k}) r e g f i l z (λq=>absurd rfl (q 0 (b,v))) (λj p D=>?_))
 cases j with
 | succ j=>cases D
 | zero =>
  refine ε (wpAny_dictEntries (s:={s with toks:=s.toks+knd.draws k}) g f ?_)
  rw [entry_at i 0]
  refine wpAny_bind (wpAny_updateDictKeys (hz:=by rw [m];decide) (hf:=by simp [Array.eraseIdxIfInBounds];split<;>simp<;>omega) (s:={s with toks:=s.toks+knd.draws k}) g f (wpAny_pure (h _ ⟨_,_,u+1,Heap.get?_update_self _ g (Obj.isFreed_of_dict (Obj.data_mapDictKeys f _)),y.mapDictKeys _,Obj.data_mapDictKeys f _,?_,(λx F=>nomatch F),List.nodup_nil⟩ (Heap.SameBut.update ..))))
  have C:es=#[entryOfKey knd (k,b,v)]:=Array.toList_inj.mp i
  rw [C]
  simp [Array.eraseIdxIfInBounds]
theorem qJ(knd:HeapKind prog w κ)(d a:Addr)(more:List Value)(hm:more=[]\/∃x,more=[x]) :
  MeetsIn prog w (Builtin.«dict.pop» ⟨.ref d :: .ref a :: more, []⟩) (fun A R s => knd.room A.in1 ∧ ∃ k b v, knd.is s.heap k a ∧ s.heap.DictOfH knd d [(k, b, v)] ∧ ∀ h', h'.DictOfH knd d [] → Heap.SameBut d s.heap h' → R (.ok (.ret v)) { s with heap := h', toks := s.toks + knd.draws k }) :=
 .of_wp λA R s ⟨hu,k,b,v,hkey,hd,h⟩=>by
  have hd2:=hd
  obtain ⟨o,es,ep,ho,hc,hdd,he,his,hn⟩:=hd2
  have e1:es=#[entryOfKey knd (k,b,v)]:=Array.toList_inj.mp he
  unfold Builtin.«dict.pop»
  refine ε ?_
  unfold Builtin.Dict.keyAndDefault
  refine ε (wpAny_notOrdered_dict hd.typeIs ?_)
  rcases hm with rfl | ⟨x,rfl⟩
  ·show wpAny _ _ (pure (d,Value.ref a,none)) _ _ s
   refine π ?_
   show wpAny _ _ (dictEntries d >>= λes=>(pure es.isEmpty >>= λ_=>_)) _ _ s
   refine ε (wpAny_dictEntries ho hdd (ε (π ?_)))
   subst e1
   show wpAny _ _ (Builtin.Dict.takeOut d (.ref a) >>= λ_=>_) _ _ s
   exact ε (km hu hkey hd λh' d' sb=>ε (wpAny_letGo (π ⟨_,ϱ,h h' d' sb⟩)))
  ·show wpAny _ _ (pure (d,Value.ref a,some x)) _ _ s
   refine π ?_
   show wpAny _ _ (dictEntries d >>= λes=>(pure es.isEmpty >>= λ_=>_)) _ _ s
   refine ε (wpAny_dictEntries ho hdd (ε (π ?_)))
   subst e1
   show wpAny _ _ (Builtin.Dict.takeOut d (.ref a) >>= λ_=>_) _ _ s
   exact ε (km hu hkey hd λh' d' sb=>ε (wpAny_letGo (π ⟨_,ϱ,h h' d' sb⟩)))
theorem qK(knd:HeapKind prog w κ)(d a:Addr)(hs:(d==sysModules)=false)(x:Value) :
  MeetsIn prog w (Builtin.«dict.pop» ⟨[.ref d, .ref a, x], []⟩) (fun A R s => s.heap.DictOfH knd d [] ∧ R (.ok (.ret x)) s) :=
 .of_wp λA R s ⟨hd,h⟩=>by
  have hd2:=hd
  obtain ⟨o,es,ep,ho,hc,hdd,he,his,hn⟩:=hd2
  have e1:es=#[]:=Array.toList_inj.mp he
  unfold Builtin.«dict.pop»
  refine ε ?_
  unfold Builtin.Dict.keyAndDefault
  refine ε (wpAny_notOrdered_dict hd.typeIs ?_)
  show wpAny _ _ (pure (d,Value.ref a,some x)) _ _ s
  refine π ?_
  show wpAny _ _ (dictEntries d >>= λes=>(pure es.isEmpty >>= λ_=>_)) _ _ s
  refine ε (wpAny_dictEntries ho hdd (ε (π ?_)))
  subst e1
  show wpAny _ _ (rule "dict.pop.empty" >>= λ_=>(pure none >>= λ_=>_)) _ _ s
  refine ε (wpAny_rule (ε (π ?_)))
  show wpAny _ _ (Builtin.Dict.missedRemoval d (.ref a) >>= λ_=>_) _ _ s
  refine ε ?_
  unfold Builtin.Dict.missedRemoval
  have hne:¬((d==sysModules)=true):=by rw [hs];decide
  rw [if_neg hne]
  exact π (ε (wpAny_rule (π ⟨_,ϱ,h⟩)))
end
def yF(td ty:TE):TE:=fun σ H Q=>td σ H λx H1=>∃a,x=.ref a/\IsD H1 a/\ty σ H1 λy H2=>∃k b v,y=.ref b/\H2 b=some (.tup (List.map kV k))/\H2 a=some (.dT [(k,v)])/\Q v (upd H2 a (.dT []))
section
variable {X:Cx}{pins:List (Addr×Obj)}{σ:St}{H:Hp}{s:Shared}{a b:Addr}{k:List Key}{v:V}{o e f:Expr}{apos cpos:Pos}{td ty tx:TE}{Q:Value->Shared->Prop}
theorem xY(U:X.A.units+1<cLine)(I:Inv X pins σ H s)(i:H a=some (.dT [(k,v)]))(W:H b=some (.tup (List.map kV k)))(more:List Value)(l:more=[]\/∃x,more=[x])(h:∀w' s',Inv X pins σ (upd H a (.dT [])) s'->RelV v w'->Q w' s') :
  wpAny (model X.prog X.w) X.A (call (.builtin "dict.pop") (.ref a::.ref b::more)) Q X.xe s:=by
 obtain ⟨Y,m,e,d,dd⟩:=qU I.hok i
 obtain ⟨x,rfl⟩:∃x,e=[x]:=by
  have:=Paired.length d
  match e,this with
  | [x],_=>exact ⟨x,rfl⟩
 obtain ⟨o,b2,f⟩:=x
 have L:=Paired.get1 d (j:=0) rfl
 obtain ⟨y,r,u,Z,z⟩:=L
 cases r
 cases (show k=o from u)
 have O:argsOk "dict.pop" ⟨.ref a::.ref b::more,[]⟩:=by
  rcases l with q | ⟨x,q⟩
  ·subst q;exact PySem.F.args_dict_pop_2 _ _
  ·subst q;exact PySem.F.args_dict_pop_3 _ _ _
 refine call_meetsIn PySem.F.slot_dict_pop dd.typeIs PySem.F.entry_dict_pop O (qJ (tupleKind (aM X.prog X.w)) a b more l) ⟨tupleKind_room_in1 U,k,b2,f,fL I.hok W,dd,λh' P sb=>h f _ ?_ z⟩
 obtain ⟨q,es,C,g,D,G,J,_,K⟩:=P
 exact ix I (by rw [i];exact ϰ) sb ⟨q,g⟩ ⟨ϖ _,m,[],.nil,q,es,C,g,D,G,J,K⟩
theorem uQ(K:X.A.units+1<cLine)(L:PE X o td)(O:PE X e ty)(m:M1 X o "pop" apos e cpos):PE X (.Call (.Attribute o "pop" apos) [e] [] cpos) (yF td ty):=by
 intro pins s σ H Q I h
 refine wpAny_Call_method m.base m.few m.line PySem.F.plainAttrs_dict PySem.F.slot_dict_pop PySem.F.type_dict_pop (thn (L pins s σ H _ I h) λu l ⟨x,H1,g,q,a,ex,d,q1⟩=>?_)
 subst ex
 obtain rfl:u=Value.ref a:=q
 obtain ⟨i,j,_⟩:=io g d
 refine ⟨i,j,?_⟩
 rw [m.trees]
 refine Calls.callWith_builtin rfl (Calls.evalArgs_plain (Calls.spliced_cons (thn (O pins l σ H1 _ g q1) λr P ⟨y,U,w,z,k,b,v,C,D,G,q2⟩=>Calls.spliced_nil ?_)))
 subst C
 obtain rfl:r=Value.ref b:=z
 exact xY K w G D [] (.inl rfl) λW Y J f=>⟨v,_,J,f,q2⟩
end
end L2
namespace K53
open PySem L2 Lo St
section
variable {P:Program}{w:World}{K:Frag}{mg:Str->Option Value}{base:Heap}{f CL CS CH CV:Addr}{fd:FuncData}{C:Kd->Addr}{CW:Wd->Addr}
theorem lO{n:Nat}{e:Wd}{f:List Int}(d:Ar e f)(g:inC n e f):∃k,jm e f=some k:=by
 cases e with
 | take=>obtain ⟨a,b,rfl,_⟩:=d.c rfl;exact ⟨_,rfl⟩
 | mean=>obtain ⟨a,b,rfl,_⟩:=d.c rfl;exact ⟨_,rfl⟩
 | give=>obtain ⟨a,b,rfl,_⟩:=d.c rfl;exact ⟨_,rfl⟩
 | sum=>obtain ⟨a,b,c,rfl,_⟩:=d.s;exact ⟨_,rfl⟩
 | add=>obtain ⟨a,b,c,rfl,_⟩:=d.a;exact ⟨_,rfl⟩
 | plus=>exact g.elim
 | need=>exact g.elim
inductive rG (C:Kd->Addr) (CS CH CL CV:Addr) (K:Frag) (Pt:Addr) (vs:List V) (H:Hp) (Q:VK) (E:XK):Prop|mk b h d rs us v i hand wd ns x:vs=[.ref (x:Wx).W.l,.ref (h:Ah).l,.ref (b:Bx).pa,.int i,.int hand,.str (txt wd ns)]->b.Pt=Pt->Gs C CS CH CL CV K H b (shL CH b.A.l h rs us v) d x H (shL CH b.A.l h rs us v) d x->Ar wd ns->inC d.cells.length wd ns->d.cells.length<=900->d.ws.length<=900->d.rd=none->d.en.length<=60->DrI x.dk->x.dk.length<=100->x.ak.length<=100->rs.length<=100->us.length<=100->x.due.length<=900->bx x.ak (.inl i)=none->(∀lk dd aa c vs' us' d' rs' v' H',jm wd ns=some lk->Gs C CS CH CL CV K H b (shL CH b.A.l h rs us v) d x H' (shL CH b.A.l h rs' us' v') d' ⟨x.W,x.dl,vs',(some dd,some aa),aL x.dk (aL [] (chK (dn (eM x.dk d.cells) wd ns hand).2)),bM x.ak (.inl i) (.int (dn (eM x.dk d.cells) wd ns hand).1),mY x.due lk,⟨some c,x.cz.w⟩⟩->d'=d\/d'=d.kp 0 0 .work->Q .non H')->rG C CS CH CL CV K Pt vs H Q E
theorem ze{Pt:Addr}(F:Fun K "work" "Works.work" gs f fd)(TW:TxW K CW)(T:TxV K CV)(L:TxL K C CL)(n:Nq C CS CH CL CV)
  (GB:GM P w K mg base CX0 2 CV "is_bound" ["self","p"] (tE CS CV K))(GK:GM P w K mg base CX0 5 CL "ask" ["self","p","lock"] (AZ C CL K))(GO:GF P w K mg base CX0 3 "lock_of" ["told"] (i5 C K))
  (GR:GF P w K mg base CX0 6 "read_step" ["text"] (i4 CW))(GL:∀wd,GM P w K mg base CX0 3 (CW wd) "lock" ["self"] (df CW K wd))(GS:GM P w K mg base CX0 7 CV "do_step" ["self","sheet","p","waited"] (v8 C CS CH CL CV K Pt)):FnOk P w K mg base CX0 8 f fd ["self","sheet","p","i","hand","text"] (rG C CS CH CL CV K Pt):=by
 refine F.oj nI λca A0 bg s H vs Q E e h=>?_
 obtain ⟨b,h,d,rs,us,v,i,g,wd,J,⟨W,dl,vs,o,dk,I,q,cz⟩,rfl,a8,g0,ar,ic,hn,ab,er,len,di,O,U,as,av,X,ev,q2⟩:=h
 simp only [] at q2 di O U X ev
 refine ⟨_,ag (aI (cB (pm GB (pv 0) T.cl e (ac (pv 2) af))) (aj lJ) aC)
  (aj (aI (hV (mz (cT e) (pv 3) (qw (cT e) (aq (pv 0) rfl) (pv 2) hX ⟨ϱ,ϱ,ϱ,ϱ⟩))) aJ
   (aj (aI (hV (jU (cT e) (pv 2) (aq (pv 0) rfl))) (aj (aI (cB (pm GK (aq (pv 0) rfl) L.cl e (ac (pv 2) (ac (pc GO e (ac (pm0 (GL wd) (pc GR e (ac (pv 5) af)) (TW.cl wd) e) af)) af))))
    (aj (aO (pm GS (pv 0) T.cl e (ac (pv 1) (ac (pv 2) (ac (aF (ac (pv 3) (ac (pv 4) (ac (pv 5) af)))) af)))))) aJ)) aC)))),?_⟩
 refine ⟨_,ϱ,W.l,W.dx,_,ϱ,g0.wo.wi,fb θ,_,ϱ,W,b.home,b.many,b.A,d,_,b.p,b.z,ϱ,g0.wo.wi,g0.sa,er,g0.wo.pa,λH1 s1=>⟨_,ϱ,?_⟩⟩
 obtain ⟨Y,Z⟩:=lO ar ic
 refine aT ?_
 have g1:=g0.same n s1
 refine ⟨_,ϱ,_,ϱ,W.l,CV,W.dx,_,_,ϱ,g1.wo.wi,T.cl,T.an,gU,W.an,ϱ,.inr ⟨_,.inl g1.an⟩,_,ϱ,λq0 G=>⟨_,DGet.t (k:=pk b.p) (ah G _ _ g1.an) (ah G _ _ g1.wo.pa),?_⟩⟩
 have s2:=ah (o:=.dK []) G
 have D:=g1.same n s2
 rw [db]
 obtain ⟨y,hy,aR⟩:∃y,(Option.map V.ref o.2).getD (.ref q0)=.ref y/\(upd H1 q0 (.dK [])) y=some (.dK I):=by
  obtain ⟨od,oa⟩:=o
  cases oa with
  | none=>exact ⟨q0,rfl,by rw [show I=[] from g0.wo.n2 rfl];exact ae⟩
  | some x=>exact ⟨x,rfl,D.aa rfl⟩
 rw [hy]
 refine ⟨y,_,ϱ,DGet.k (k:=.inl i) aR,_,ϱ,?_⟩
 rw [show bx I (.inl i)=none from ev]
 refine aT ⟨_,ϱ,_,ϱ,W.l,CV,W.dx,_,_,ϱ,D.wo.wi,T.cl,T.pe,lP,W.pe,_,ϱ,DGet.t (k:=pk b.p) D.pe D.wo.pa,_,ϱ,cu ?_⟩
 refine ⟨_,ϱ,W.l,CV,W.dx,_,_,ϱ,D.wo.wi,T.cl,T.lk,qe,W.lk,dl,_,ϱ,D.co j2,eZ θ,_,ϱ,_,ϱ,wd,J,ϱ,ar,λsv H3 s3 a1=>?_⟩
 obtain ⟨sa,aS,rfl,aZ⟩:=id a1
 have fl:=ug (m:="lock") θ θ θ θ θ wd J
 refine ⟨sa,aS,_,ϱ,aZ,fl,_,J,ϱ,ar,a1,λu H4 s4 lo=>?_⟩
 rw [Z] at lo
 obtain ⟨la,rfl,b0⟩:=lo
 refine ⟨_,Y,ϱ,p8 b0,λu2 H5 s5 bi=>?_⟩
 have g5:=D.same n (s3.trans (s4.trans s5))
 refine ⟨W.lk,W.pl,_,_,b.p,u2,Y,ϱ,g5.ls,Nat.lt_of_le_of_lt X ζ,iV (k:=b.p) g5.wo.pa,bi,λH6 bl k6=>?_⟩
 obtain ⟨c3,r,_,e6,bd⟩:=bl
 have j:=g5.wo.im n (cH k6 (g5.co j3) id)
 have g6:Gs C CS CH CL CV K H b (shL CH b.A.l h rs us v) d ⟨W,dl,vs,o,dk,I,q,cz⟩ H6 (shL CH b.A.l h rs us v) d ⟨W,dl,r,o,dk,I,mY q Y,cz⟩:=⟨g5.ow.kp 11 rfl k6 e6,j.si,j.wi,bd,j.cz,j.pa,j.za,j.n1,j.n2,j.ne⟩
 refine ⟨_,ϱ,cu ⟨_,ϱ,W.l,W.dx,_,ϱ,g6.wo.wi,fb θ,_,ϱ,_,ϱ,_,ϱ,_,ϱ,_,ϱ,χ,λwt bm=>?_⟩⟩
 have g7:=g6.same n (ah (o:=.tup [.int i,.int g,.str (txt wd J)]) bm)
 exact ⟨b,h,d,rs,us,v,wt,i,g,wd,J,⟨W,dl,r,o,dk,I,mY q Y,cz⟩,ϱ,a8,g7.self dH,ae,ar,ic,hn,ab,len,di,O,U,as,av,λdd aa c br d' bt v' H8 g8 ed=>q2 Y dd aa c r br d' bt v' H8 Z (g7.trans g8) ed⟩
end
end K53
namespace L2
open PySem PySem.Spec PyProof.Rows PySem.W
section
variable {prog:Program}{w:World}{A:Around}{E:Value->Shared->Prop}{s:Shared}{κ:Type} [DecidableEq κ] {knd:HeapKind prog w κ}{d a:Addr}
theorem oU{k i:κ}{b:Addr}{v:Value}{Q:Option DictEntry->Shared->Prop}(l:knd.room A)(e:knd.is s.heap k a)(x:i≠k)(y:s.heap.DictOfH knd d [(i,b,v)])
  (h:Q none {s with toks:=s.toks+knd.draws k}):wpAny (model prog w) A (Builtin.Dict.takeOut d (.ref a)) Q E s:=by
 obtain ⟨o,es,z,m,C,q,r,f,u⟩:=y
 unfold Builtin.Dict.takeOut
 refine wpAny_holding (ε (knd.pyHash l e ?_))
 refine ε (wpAny_dictFind_heap (s:={s with toks:=s.toks+knd.draws k}) l e m q r f u (λ_=>π h) (λj p g=>?_))
 cases j with
 | succ j=>cases g
 | zero=>exact absurd (congrArg Prod.fst (Δ g)) x
theorem qI(knd:HeapKind prog w κ)(d a:Addr)(hs:(d==sysModules)=false)(x:Value) :
  MeetsIn prog w (Builtin.«dict.pop» ⟨[.ref d, .ref a, x], []⟩) (fun A R s => knd.room A.in1 ∧ ∃ k k' b v, knd.is s.heap k a ∧ k' ≠ k ∧ s.heap.DictOfH knd d [(k', b, v)] ∧ R (.ok (.ret x)) { s with toks := s.toks + knd.draws k }) :=
 .of_wp λA R s ⟨hu,k,k',b,v,hkey,ne,hd,h⟩=>by
  have hd2:=hd
  obtain ⟨o,es,ep,ho,hc,hdd,he,his,hn⟩:=hd2
  have e1:es=#[entryOfKey knd (k',b,v)]:=Array.toList_inj.mp he
  unfold Builtin.«dict.pop»
  refine ε ?_
  unfold Builtin.Dict.keyAndDefault
  refine ε (wpAny_notOrdered_dict hd.typeIs ?_)
  show wpAny _ _ (pure (d,Value.ref a,some x)) _ _ s
  refine π ?_
  show wpAny _ _ (dictEntries d >>= λes=>(pure es.isEmpty >>= λ_=>_)) _ _ s
  refine ε (wpAny_dictEntries ho hdd (ε (π ?_)))
  subst e1
  show wpAny _ _ (Builtin.Dict.takeOut d (.ref a) >>= λ_=>_) _ _ s
  refine ε (oU hu hkey ne hd ?_)
  show wpAny _ _ (Builtin.Dict.missedRemoval d (.ref a) >>= λ_=>_) _ _ _
  refine ε ?_
  unfold Builtin.Dict.missedRemoval
  have hne:¬((d==sysModules)=true):=by rw [hs];decide
  rw [if_neg hne]
  exact π (ε (wpAny_rule (π ⟨_,ϱ,h⟩)))
end
def yE(td ty tx:TE):TE:=fun σ H Q=>td σ H λx H1=>∃a,x=.ref a/\IsD H1 a/\ty σ H1 λy H2=>tx σ H2 λz H3=>∃k b,y=.ref b/\H3 b=some (.tup (List.map kV k))/\((∃v,H3 a=some (.dT [(k,v)])/\Q v (upd H3 a (.dT [])))\/(H3 a=some (.dT [])/\Q z H3)\/(∃k' v,H3 a=some (.dT [(k',v)])/\k'≠k/\Q z H3))
section
variable {X:Cx}{o e f:Expr}{apos cpos:Pos}{td ty tx:TE}
theorem jT(U:X.A.units+1<cLine)(ho:PE X o td)(he:PE X e ty)(hf:PE X f tx)(m:M2 X o "pop" apos e f cpos):PE X (.Call (.Attribute o "pop" apos) [e,f] [] cpos) (yE td ty tx):=by
 intro g s σ H Q I h
 refine wpAny_Call_method m.base m.few m.line PySem.F.plainAttrs_dict PySem.F.slot_dict_pop PySem.F.type_dict_pop (thn (ho g s σ H _ I h) λu s1 ⟨x,H1,J,rx,a,ex,d,q1⟩=>?_)
 subst ex
 obtain rfl:u=Value.ref a:=rx
 obtain ⟨W,Y,_⟩:=io J d
 refine ⟨W,Y,?_⟩
 rw [m.trees]
 refine Calls.callWith_builtin rfl (Calls.evalArgs_plain (Calls.spliced_cons (thn (he g s1 σ H1 _ J q1) λiv s2 ⟨y,H2,I2,ry,q2⟩ =>
  Calls.spliced_cons (thn (hf g s2 σ H2 _ I2 q2) λq K ⟨z,L,l,O,k,b,D,P,q3⟩=>Calls.spliced_nil ?_))))
 subst D
 obtain rfl:iv=Value.ref b:=ry
 rcases q3 with ⟨v,ea,q3⟩ | ⟨ea,q3⟩ | ⟨k',v,ea,ne,q3⟩
 ·exact xY U l ea P [q] (.inr ⟨q,ϱ⟩) λw' K l G=>⟨v,_,l,G,q3⟩
 ·obtain ⟨Z,r,C,i,dd⟩:=qU l.hok ea
  cases i
  exact call_meetsIn PySem.F.slot_dict_pop dd.typeIs PySem.F.entry_dict_pop (PySem.F.args_dict_pop_3 _ _ _) (qK (tupleKind (aM X.prog X.w)) a b r q) ⟨dd,z,L,l,O,q3⟩
 ·obtain ⟨Z,r,C,i,dd⟩:=qU l.hok ea
  obtain ⟨x,rfl⟩:∃x,C=[x]:=by
   have:=Paired.length i
   match C,this with
   | [x],_=>exact ⟨x,rfl⟩
  obtain ⟨k2,b2,v2⟩:=x
  obtain ⟨y,D,e1,e2,e3⟩:=Paired.get1 i (j:=0) rfl
  cases D
  cases (show k'=k2 from e1)
  exact call_meetsIn PySem.F.slot_dict_pop dd.typeIs PySem.F.entry_dict_pop (PySem.F.args_dict_pop_3 _ _ _) (qI (tupleKind (aM X.prog X.w)) a b r q) ⟨tupleKind_room_in1 U,k,k',b2,v2,fL l.hok P,ne,dd,z,L,l.kept (h':=K.heap) (t':=_) (λ_ _ z=>z),O,q3⟩
end
end L2
namespace K53
open PySem L2 Lo St
section
variable {P:Program}{w:World}{K:Frag}{mg:Str->Option Value}{base:Heap}{f CL CS CH CV:Addr}{fd:FuncData}{C:Kd->Addr}{CW:Wd->Addr}
abbrev Wx.off(x:Wx)(W:Aw)(dl:Addr):Wx:=⟨W,dl,[],(none,none),[],[],[],x.cz⟩
theorem C1{p z:Pa}(h:p≠z):pk p≠pk z:=λe=>h (by
 simp only [pk,List.cons.injEq,Sum.inl.injEq,and_true] at e
 exact Prod.ext e.1 e.2)
theorem C0{H:Hp}{a:Addr}{p z:Pa}{o:Option Addr}{d:V->Prop}{b:Prop}(e:p≠z)(h:H a=some (.dT (dOf p o)))(q:b):(∃v,H a=some (.dT [(pk z,v)])/\d v)\/(H a=some (.dT [])/\b)\/(∃k' v,H a=some (.dT [(k',v)])/\k'≠pk z/\b):=by
 cases o with
 | none=>exact .inr (.inl ⟨h,q⟩)
 | some x=>exact .inr (.inr ⟨_,_,h,C1 e,q⟩)
inductive pi (C:Kd->Addr) (CS CH CL CV:Addr) (K:Frag) (vs:List V) (H:Hp) (Q:VK) (E:XK):Prop|mk b h d rs us v x ya:vs=[.ref (x:Wx).W.l,.ref (h:Ah).l,.ref ya]->Gs C CS CH CL CV K H b (shL CH b.A.l h rs us v) d x H (shL CH b.A.l h rs us v) d x->x.due.length<=900->(((ya=(b:Bx).pa/\(x.o=(none,none)\/(∃dd aa,x.o=(some dd,some aa))\/∃dd,x.o=(some dd,none))/\∀W' dl H',(W':Aw).l=x.W.l->Gs C CS CH CL CV K H b (shL CH b.A.l h rs us v) d x H' (shL CH b.A.l h rs us v) d (x.off W' dl)->Q .non H')\/(ya=b.za/\∀W' dl H',(W':Aw).l=x.W.l->Gs C CS CH CL CV K H b (shL CH b.A.l h rs us v) d x H' (shL CH b.A.l h rs us v) d ⟨W',dl,x.vs,x.o,x.dk,x.ak,x.due,x.cz⟩->Q .non H')))->pi C CS CH CL CV K vs H Q E
theorem xo(F:Fun K "ended" "Works.ended" fF f fd)(T:TxV K CV)(L:TxL K C CL)(n:Nq C CS CH CL CV)(bi:GM P w K mg base CX0 5 CL "free" ["self","p"] (AY C CL K)):FnOk P w K mg base CX0 6 f fd ["self","sheet","p"] (pi C CS CH CL CV K):=by
 refine F.oj sc_Works_ended λbG A0 bd s H vs Q E hr h=>?_
 obtain ⟨b,h,d,Z,us,v,⟨W,Y,vs,o,dk,ak,r,U⟩,ya,rfl,g0,av,two⟩:=h
 have nd:=sc_Works_ended.nd
 refine ⟨_,ag (aO (jT (cT hr) (aq (pv 0) rfl) (pv 2) cK ⟨ϱ,ϱ,ϱ,ϱ⟩)) (ag (aO (jT (cT hr) (aq (pv 0) rfl) (pv 2) cK ⟨ϱ,ϱ,ϱ,ϱ⟩)) (ag (aO (jT (cT hr) (aq (pv 0) rfl) (pv 2) cK ⟨ϱ,ϱ,ϱ,ϱ⟩))
  (cX (u:=λD σ H1=>σ=[some (.ref W.l),some (.ref h.l),some (.ref ya),none]/\∃o' a2 a3,Gs C CS CH CL CV K H b (shL CH b.A.l h Z us v) d ⟨W,Y,vs,o,dk,ak,r,U⟩ H1 (shL CH b.A.l h Z us v) d ⟨W,Y,vs,o',a2,a3,r,U⟩/\∃y,PaA H1 y ya /\
    ∀j G m I,(b.p=y->j=[])->(b.p≠y->j=vs)->Gs C CS CH CL CV K H b (shL CH b.A.l h Z us v) d ⟨W,Y,vs,o,dk,ak,r,U⟩ I (shL CH b.A.l h Z us v) d ⟨⟨W.l,W.dx,W.lk,G,W.dr,W.an,W.pe⟩,m,j,o',a2,a3,if b.p=y then [] else r,U⟩->∀σ',D.nx σ' I)
   (aj (hW PassesOwn.never rfl (bZ (pm bi (aq (pv 0) rfl) L.cl hr (ac (pv 2) af))) (b7 (i:=3) nd rfl (Or.inl rfl)) aJ)) ?s))),?_⟩
 case s =>
  rintro D σ H1 ⟨rfl,o',a2,a3,g1,y,hy,nx⟩
  refine ⟨_,ϱ,W.l,CV,W.dx,_,_,ϱ,g1.wo.wi,T.cl,T.lk,qe,W.lk,Y,_,ϱ,g1.co j2,eZ θ,_,ϱ,W.lk,W.pl,_,_,b.p,y,ϱ,g1.ls,Λ av ζ,iV (k:=y) hy,λj q2 G m H2 eu en e1 e2 np k2 hq=>⟨q2,ϱ,⟨_,SqL.of hq⟩,?_⟩⟩
  have k3:Kp W.lk (upd H1 G (.lst j)) H2:=λc o nc e=>by
   by_cases z:c=G
   ·subst z
    rw [ae] at e
    cases e
    exact e2
   ·rw [ao z] at e
    exact k2 c o nc e
  have aR:H1 W.lk=some (.ins CL Y [("pairs",.ref W.pl)]):=g1.co j2
  have aS:H1 W.pl=some (.lst vs):=g1.co j3
  have a6:b.p≠y->j=vs:=λz=>by have:=en z;rw [aS] at this;cases this;rfl
  have o3:=((g1.ow.new np (.lst j)).kp 10 rfl k3 e1).repl (A:=shL CH b.A.l h Z us v++(stL b.p b.z b.A d++[(b.Pt,.tbl (sM zO U.d)),(b.Pw,.tbl (sM yy U.w)),(W.lk,.ins CL m [("pairs",.ref G)])])) (B:=(W.dr,.dT (dOf b.p o'.1))::(W.an,.dT (dOf b.p o'.2))::(W.pe,.dT [])::odc ⟨W,Y,vs,o',a2,a3,r,U⟩) (x:=(W.pl,.lst vs)) (y:=(G,.lst j))
  have w3:=g1.wo.im n (cH k2 aR (λz=>z.2.2 rfl))
  have aZ:Paired (PrO C K H2) ((if b.p=y then [] else r).map λk=>((b.p,k):Pr)) j:=by
   by_cases e:b.p=y
   ·rw [if_pos e,eu e]
    exact .nil
   ·rw [if_neg e,a6 e]
    exact w3.ps
  exact qT (xs:=[]) (λi σ I=>I=H2) rfl (λi σ I _ z=>by rw [z];exact SqL.of hq) (λi x σ I e=>by cases e) fun σ I z=>by rw [z];exact nx j G m H2 eu a6 ⟨o3,w3.si,w3.wi,aZ,w3.cz,w3.pa,w3.za,w3.n1,w3.n2,w3.ne⟩ _
 rcases two with ⟨rfl,eo,q⟩ | ⟨rfl,q⟩
 case inr =>
  exact ⟨_,ϱ,W.l,CV,W.dx,_,_,ϱ,g0.wo.wi,T.cl,T.dr,lQ,W.dr,ϱ,.inr ⟨_,.inl g0.dr⟩,_,ϱ,pk b.z,b.za,ϱ,g0.wo.za,C0 g0.wo.ne g0.dr ⟨_,ϱ,W.l,CV,W.dx,_,_,ϱ,g0.wo.wi,T.cl,T.an,gU,W.an,ϱ,.inr ⟨_,.inl g0.an⟩,_,ϱ,pk b.z,b.za,ϱ,g0.wo.za,C0 g0.wo.ne g0.an
   ⟨_,ϱ,W.l,CV,W.dx,_,_,ϱ,g0.wo.wi,T.cl,T.pe,lP,W.pe,ϱ,.inr ⟨_,.inl g0.pe⟩,_,ϱ,pk b.z,b.za,ϱ,g0.wo.za,.inr (.inl ⟨g0.pe,ϱ,o,dk,ak,g0,b.z,g0.wo.za,λj G m I _ e2 g σ'=>by
    rw [if_neg g0.wo.ne,e2 g0.wo.ne] at g
    exact q ⟨W.l,W.dx,W.lk,G,W.dr,W.an,W.pe⟩ m I rfl g⟩)⟩⟩⟩
 rcases eo with e | ⟨dd,aa,e⟩ | ⟨dd,e⟩
 ·cases (show o=(none,none) from e)
  cases (show dk=[] from (g0.wo.n1 rfl).1)
  cases (show ak=[] from g0.wo.n2 rfl)
  exact ⟨_,ϱ,W.l,CV,W.dx,_,_,ϱ,g0.wo.wi,T.cl,T.dr,lQ,W.dr,ϱ,.inr ⟨_,.inl g0.dr⟩,_,ϱ,pk b.p,b.pa,ϱ,g0.wo.pa,.inr (.inl ⟨g0.dr,_,ϱ,W.l,CV,W.dx,_,_,ϱ,g0.wo.wi,T.cl,T.an,gU,W.an,ϱ,.inr ⟨_,.inl g0.an⟩,_,ϱ,pk b.p,b.pa,ϱ,g0.wo.pa,.inr (.inl ⟨g0.an,
   _,ϱ,W.l,CV,W.dx,_,_,ϱ,g0.wo.wi,T.cl,T.pe,lP,W.pe,ϱ,.inr ⟨_,.inl g0.pe⟩,_,ϱ,pk b.p,b.pa,ϱ,g0.wo.pa,.inr (.inl ⟨g0.pe,ϱ,(none,none),[],[],g0,b.p,g0.wo.pa,λj G m I e1 _ g σ'=>by
    rw [if_pos rfl,e1 rfl] at g
    exact q ⟨W.l,W.dx,W.lk,G,W.dr,W.an,W.pe⟩ m I rfl g⟩)⟩)⟩)⟩
 ·cases (show o=(some dd,some aa) from e)
  have o1:=g0.ow.up 12 (.dT []) rfl
  have X:ImS CH CL H (upd H W.dr (.dT [])):=cH bn g0.dr id
  have w1:=g0.wo.im n X
  have J:(upd H W.dr (.dT [])) W.an=some (.dT (dOf b.p (some aa))):=o1.co (W.an,_) (List.mem_of_getElem? (i:=13) rfl)
  have o2:=o1.up 13 (.dT []) rfl
  have b0:ImS CH CL H (upd (upd H W.dr (.dT [])) W.an (.dT [])):=X.trans (cH bn J id)
  have O:Gs C CS CH CL CV K H b (shL CH b.A.l h Z us v) d ⟨W,Y,vs,(some dd,some aa),dk,ak,r,U⟩ (upd (upd H W.dr (.dT [])) W.an (.dT [])) (shL CH b.A.l h Z us v) d ⟨W,Y,vs,(none,none),[],[],r,U⟩ :=
   ⟨o2.sub (List.sublist_append_left _ [(dd,HO.dK dk),(aa,HO.dK ak)]),(g0.wo.od (o:=(none,none)) (dk:=[]) (ak:=[]) (λ_=>⟨ϱ,ϱ⟩) (λ_=>rfl)).im n b0⟩
  exact ⟨_,ϱ,W.l,CV,W.dx,_,_,ϱ,g0.wo.wi,T.cl,T.dr,lQ,W.dr,ϱ,.inr ⟨_,.inl g0.dr⟩,_,ϱ,pk b.p,b.pa,ϱ,g0.wo.pa,.inl ⟨.ref dd,g0.dr,_,ϱ,W.l,CV,W.dx,_,_,ϱ,w1.wi,T.cl,T.an,gU,W.an,ϱ,.inr ⟨_,.inl J⟩,_,ϱ,pk b.p,b.pa,ϱ,w1.pa,.inl ⟨.ref aa,J,
   _,ϱ,W.l,CV,W.dx,_,_,ϱ,O.wo.wi,T.cl,T.pe,lP,W.pe,ϱ,.inr ⟨_,.inl O.pe⟩,_,ϱ,pk b.p,b.pa,ϱ,O.wo.pa,.inr (.inl ⟨O.pe,ϱ,(none,none),[],[],O,b.p,O.wo.pa,λj G m I e1 _ g σ'=>by
    rw [if_pos rfl,e1 rfl] at g
    exact q ⟨W.l,W.dx,W.lk,G,W.dr,W.an,W.pe⟩ m I rfl g⟩)⟩⟩⟩
 ·cases (show o=(some dd,none) from e)
  cases (show ak=[] from g0.wo.n2 rfl)
  have o1:=g0.ow.up 12 (.dT []) rfl
  have X:ImS CH CL H (upd H W.dr (.dT [])):=cH bn g0.dr id
  have w1:=g0.wo.im n X
  have J:(upd H W.dr (.dT [])) W.an=some (.dT []):=o1.co (W.an,_) (List.mem_of_getElem? (i:=13) rfl)
  have O:Gs C CS CH CL CV K H b (shL CH b.A.l h Z us v) d ⟨W,Y,vs,(some dd,none),dk,[],r,U⟩ (upd H W.dr (.dT [])) (shL CH b.A.l h Z us v) d ⟨W,Y,vs,(none,none),[],[],r,U⟩ :=
   ⟨o1.sub (List.sublist_append_left _ [(dd,HO.dK dk)]),(g0.wo.od (o:=(none,none)) (dk:=[]) (ak:=[]) (λ_=>⟨ϱ,ϱ⟩) (λ_=>rfl)).im n X⟩
  exact ⟨_,ϱ,W.l,CV,W.dx,_,_,ϱ,g0.wo.wi,T.cl,T.dr,lQ,W.dr,ϱ,.inr ⟨_,.inl g0.dr⟩,_,ϱ,pk b.p,b.pa,ϱ,g0.wo.pa,.inl ⟨.ref dd,g0.dr,_,ϱ,W.l,CV,W.dx,_,_,ϱ,w1.wi,T.cl,T.an,gU,W.an,ϱ,.inr ⟨_,.inl J⟩,_,ϱ,pk b.p,b.pa,ϱ,w1.pa,.inr (.inl ⟨J,
   _,ϱ,W.l,CV,W.dx,_,_,ϱ,O.wo.wi,T.cl,T.pe,lP,W.pe,ϱ,.inr ⟨_,.inl O.pe⟩,_,ϱ,pk b.p,b.pa,ϱ,O.wo.pa,.inr (.inl ⟨O.pe,ϱ,(none,none),[],[],O,b.p,O.wo.pa,λj G m I e1 _ g σ'=>by
    rw [if_pos rfl,e1 rfl] at g
    exact q ⟨W.l,W.dx,W.lk,G,W.dr,W.an,W.pe⟩ m I rfl g⟩)⟩)⟩⟩
inductive v5 (C:Kd->Addr) (CW:Wd->Addr) (CS CH CL CV:Addr) (K:Frag) (vs:List V) (H:Hp) (Q:VK) (E:XK):Prop|mk b S d x v wd ns lk:vs=[.ref (x:Wx).W.l,.ref (b:Bx).za,v]->Gs C CS CH CL CV K H b S d x H S d x->StO CW H wd ns v->Ar wd ns->jm wd ns=some lk->x.due.length<=900->(∀H',Same H H'->Q (.bl (x.due.all λj=>aG j lk)) H')->v5 C CW CS CH CL CV K vs H Q E
theorem Bq(F:Fun K "lock_stands" "Works.lock_stands" cC f fd)(TW:TxW K CW)(T:TxV K CV)(L:TxL K C CL)(n:Nq C CS CH CL CV)(GT:GM P w K mg base CX0 5 CL "stands" ["self","p","lock"] (vZ C CL K))(GO:GF P w K mg base CX0 3 "lock_of" ["told"] (i5 C K))
  (GL:∀wd,GM P w K mg base CX0 3 (CW wd) "lock" ["self"] (df CW K wd)):FnOk P w K mg base CX0 6 f fd ["self","p","step"] (v5 C CW CS CH CL CV K):=by
 refine F.oj gW λZ A0 G s H vs Q E I h=>?_
 obtain ⟨b,S,d,x,v,wd,O,U,rfl,g,e,Y,j,o,q⟩:=h
 refine ⟨_,aj (aw (pm GT (aq (pv 0) rfl) L.cl I (ac (pv 1) (ac (pc GO I (ac (pm0 (GL wd) (pv 2) (TW.cl wd) I) af)) af)))),?_⟩
 obtain ⟨sa,r,rfl,y⟩:=id e
 have fl:=ug (m:="lock") θ θ θ θ θ wd O
 refine ⟨_,ϱ,x.W.l,CV,x.W.dx,_,_,ϱ,g.wo.wi,T.cl,T.lk,qe,x.W.lk,x.dl,_,ϱ,g.co j2,eZ θ,_,ϱ,_,ϱ,sa,r,_,ϱ,y,fl,_,O,ϱ,Y,e,λu H4 s4 lo=>?_⟩
 rw [j] at lo
 obtain ⟨la,rfl,D⟩:=lo
 refine ⟨_,U,ϱ,p8 D,λu2 H5 s5 J=>?_⟩
 have i:=s4.trans s5
 have X:=g.same n i
 exact ⟨x.W.lk,x.W.pl,x.due,_,b.z,b.p,u2,U,ϱ,X.ls,Λ o ζ,iV (k:=b.z) X.wo.za,g.wo.ne,J,λH6 s6=>q H6 (i.trans s6)⟩
theorem B3{X:Cx}{b:Addr}{u:V}{σ:L2.St}(i:Nat)(x:Str)(h1:X.N[i]?=some x/\σ[i]?=some (some u)/\X.env.kindOf x=some .cell/\X.env.cells.lookup x=some b/\X.fn x=true):qc X [(b,u)] σ:=λp hm=>by
 cases ϵ.mp hm
 exact ⟨i,x,h1⟩
theorem AC{H:Hp}:∀{ch:List Pa} {us:List V},Paired (prD H) (chK ch) us->Paired (sPa K H) ch us
 | [],_,.nil=>.nil
 | _::_,_,.cons ⟨a,e,h⟩ t=>.cons ⟨a,e,h⟩ (AC t)
theorem sJ{n:Nat}{val:Int->Int}{d:Wd}{i:List Int}{hand:Int}(b:Ar d i)(e:inC n d i):∀c∈(dn val d i hand).2,0<=c.1/\c.1<n:=by
 cases d with
 | give=>obtain ⟨a,c,rfl,_,f,_⟩:=b.c rfl;intro y g;rw [ϵ.mp g];exact ⟨f.1,e⟩
 | add=>obtain ⟨a,c,v,rfl,_,f,_⟩:=b.a;intro y g;rw [ϵ.mp g];exact ⟨f.1,e⟩
 | take=>obtain ⟨a,c,rfl,_⟩:=b.c rfl;exact λ_ h=>nomatch h
 | mean=>obtain ⟨a,c,rfl,_⟩:=b.c rfl;exact λ_ h=>nomatch h
 | sum=>obtain ⟨a,c,v,rfl,_⟩:=b.s;exact λ_ h=>nomatch h
 | plus=>exact e.elim
 | need=>exact e.elim
def LtW(w:Str)(us:List V)(H:Hp)(b:Bx)(u:V):Prop:=∃t,WsAt H (b.z.1,w,b.za,t) u/\H t=some (.tup us)
inductive rH (C:Kd->Addr) (CS CH CL CV:Addr) (K:Frag) (Pw:Addr) (vs:List V) (H:Hp) (Q:VK) (E:XK):Prop|mk b h d i hand wd ns x:vs=[.ref (x:Wx).W.l,.ref (h:Ah).l,.ref (b:Bx).za,.int i,.int hand,.str (txt wd ns)]->b.Pw=Pw->Gs C CS CH CL CV K H b (shL CH b.A.l h [] [] .non) d x H (shL CH b.A.l h [] [] .non) d x->d.cells.length<=900->(((∃t,iX d.ws i=some t/\∀u t2 H',Gs C CS CH CL CV K H b (shL CH b.A.l h [] [] .non) d x H' (shL CH b.A.l h [] [u] .non) d x->WsAt H' (b.z.1,"went",b.za,t2) u->H' t2=some (.tup [.int i,.int t.v])->Q .non H')\/(iX d.ws i=none/\Ar wd ns/\inC d.cells.length wd ns/\d.ws.length<=900/\d.en.length<=60/\x.due.length<=900/\∀lk,jm wd ns=some lk->((cr d.en b.z=some "broken"\/(x.due.all λj=>aG j lk)=false)->∀H',Same H H'->Q .non H')/\(cr d.en b.z≠some "broken"->(x.due.all λj=>aG j lk)=true->∀c r b' u t2 v' H',Gs C CS CH CL CV K H b (shL CH b.A.l h [] [] .non) d x H' (shL CH b.A.l h [r] [u] v') (d.kp r b' (.wlk i (dn (bu d.cells) wd ns hand).1 (dn (bu d.cells) wd ns hand).2)) ⟨x.W,x.dl,x.vs,x.o,x.dk,x.ak,x.due,⟨x.cz.d,some c⟩⟩->RxAt K H' b.p b.z r (.wlk i (dn (bu d.cells) wd ns hand).1 (dn (bu d.cells) wd ns hand).2)->NwAt K H' (bO ltE d.en) v'->WsAt H' (b.z.1,"went",b.za,t2) u->H' t2=some (.tup [.int i,.int (dn (bu d.cells) wd ns hand).1])->Q .non H'))))->rH C CS CH CL CV K Pw vs H Q E
theorem zf{cc Pw:Addr}{fS:Wd->Addr}{dS:Wd->FuncData}(F:Fun K "walk" "Works.walk" bR f fd)(TW:TxW K CW)(D:TxD K CS)(T:TxV K CV)(DH:TxH K CH)(n:Nq C CS CH CL CV)(d4:BB mg base)(d6:fd.code=.ref cc)(d7:PySem.W.codeHdIn K cc Pw=true)
  (GR:GF P w K mg base CX0 6 "read_step" ["text"] (i4 CW))(HC:∀I:Heap,GM P w K mg I CX0 1 CS "cell_at" ["self","cell"] (fR CS))
  (HS:∀(g:Wd) (val:Int->Int) (n:Nat) (I:Heap),n<=1000->K.In I->FnOk P w K mg I CX0 5 (fS g) (dS g) ["self","hand","value_of"] (dU P w K mg CW val n g I))(mS:∀g,ir K (CW g) "step_done" (fS g))(bS:∀g,Binds K (dS g) ["self","hand","value_of"] [])
  (da:GM P w K mg base CX0 1 CS "walked_at" ["self","p","i"] (vY CS K))(dc:GM P w K mg base CX0 1 CS "outcome" ["self","p"] (rN CS K))(dg:GM P w K mg base CX0 6 CV "lock_stands" ["self","p","step"] (v5 C CW CS CH CL CV K))
  (bi:GM P w K mg base CX0 3 CH "row" ["self","row"] (jD CS CH CL K))(GS:GM P w K mg base CX0 1 CH "send" ["self","to","word","p","more"] (i6 CH CL)):FnOk P w K mg base CX0 7 f fd ["self","sheet","p","i","hand","text"] (rH C CS CH CL CV K Pw):=by
 refine F.okC sc_Works_walk (λvs H Q E h=>?_) (λA0 c4 s H vs Q E O h=>?_)
 ·obtain ⟨b,h,d,i,m,g,G,x,rfl,_⟩:=h
  rfl
 obtain ⟨b,h,d,i,m,g,G,⟨W,dl,vs,o,dk,ak,y,X⟩,rfl,rfl,g0,hn,two⟩:=h
 have nd:=sc_Works_walk.nd
 have bI:Room 5 _:=O.mono ζ
 refine ⟨_,ag (aD (i:=6) nd rfl (Or.inl rfl) (pm da (aq (pv 0) rfl) D.cl O (ac (pv 2) (ac (pv 3) af))))
  (ag (aI (ax lL (pv 6) cK (ay _)) (ag (aI (ax bf (au (r:=aQ K) aB (pv 6) ai (λ_ _=>rfl)) aA (ay _)) (aj (aO (pm GS (pv 1) DH.cl O (ac (au (r:=aQ K) aB (pv 2) ai (λ_ _=>rfl)) (ac aA (ac (pv 2) (ac (aF (ac (pv 3) (ac (au (r:=aQ K) aB (pv 6) ai (λ_ _=>rfl)) af))) af))))))) aC) (aj lJ)) aC)
  (ag (aD (i:=7) nd rfl (Or.inl rfl) (pc GR O (ac (pv 5) af)))
  (ag (aI (PW.pt (mt (ax bf (pm dc (aq (pv 0) rfl) D.cl O (ac (pv 2) af)) aA (ay _)) (iQ (iR (cB (pm dg (pv 0) T.cl O (ac (pv 2) (ac (pv 7) af)))))))) (aj lJ) aC)
  (ag (aD (i:=8) nd rfl (Or.inl rfl) (qt (cs:=[(s.heap.objs.size+1,.ref W.l)]) (sp:=λI=>dU P w K mg CW (bu d.cells) d.cells.length g I) (pv 7) (TW.cl g) (mS g)
   (λI aZ=>HS g (bu d.cells) d.cells.length I (Λ hn ζ) aZ) bI (bS g) bb (ac (pv 4) (ac (tQ (P:=b.Pw) (cl:=[("self",s.heap.objs.size+1)]) d6 d7 d4 rfl rfl rfl) af))))
  (ag (aO (pm bi (pv 1) DH.cl O (ac (aF (ac aA (ac (pv 2) (ac (pv 3) (ac (au (r:=aQ K) aB (pv 8) ai (λ_ _=>rfl)) (ac (au (r:=aQ K) aB (pv 8) ai (λ_ _=>rfl)) af)))))) af)))
  (aj (aO (pm GS (pv 1) DH.cl O (ac (au (r:=aQ K) aB (pv 2) ai (λ_ _=>rfl)) (ac aA (ac (pv 2) (ac (aF (ac (pv 3) (ac (au (r:=aQ K) aB (pv 8) ai (λ_ _=>rfl)) af))) af)))))))))))),?_⟩
 refine sq λnA kA=>⟨_,ϱ,W.l,CV,W.dx,_,_,ϱ,g0.wo.wi,T.cl,T.st,qd,b.A.l,b.A.dx,_,ϱ,g0.sa.ins,gI θ,_,ϱ,_,ϱ,b.p,b.z,b.A,d,b.za,i,ϱ,g0.sa,g0.wo.za,λH1 s1=>kA _ _ (sq λnB kB=>?_)⟩
 have g1:=g0.same n s1
 rcases two with ⟨t,et,q⟩ | ⟨et,ar,ic,lws,len,ldu,qq⟩
 ·rw [et]
  obtain ⟨ra,rb,dz,a6⟩:=g1.wo.si.wt t (List.mem_of_find?_eq_some et)
  refine ⟨_,ϱ,ϱ,_,ϱ,cu ⟨_,ϱ,t.r,_,_,_,ϱ,ϱ,SqT.of a6,St.at0,ϱ,_,ϱ,a9 (λ_=>?_) (λc=>absurd (τ rfl) c)⟩⟩
  refine ⟨_,ϱ,h.l,h.dx,_,ϱ,g1.sh,iJ θ,_,ϱ,b.za,_,_,_,ϱ,ϱ,SqT.of g1.wo.za,St.at0,_,ϱ,_,ϱ,_,ϱ,t.r,_,_,_,ϱ,ϱ,SqT.of a6,aW (j:=4) rfl,χ,λt2 a2=>?_⟩
  have s8:=ah (o:=.tup [.int i,.int t.v]) a2
  have Z:=g1.same n s8
  exact ⟨b.A.l,h,[],[],.non,(b.z.1,"went",b.za,t2),stL b.p b.z b.A _++wtL CL b ⟨W,dl,vs,o,dk,ak,y,X⟩,ϱ,(Z.self dH).ow,(by show 0<=900;decide),λu H' L hw=>q u t2 H' (Z.trans ⟨L,Z.wo.im n L.im⟩) hw (ImS.ts L.im _ _ ae)⟩
 rw [et]
 obtain ⟨lk,a7⟩:=lO ar ic
 obtain ⟨q0,q⟩:=qq lk a7
 refine ⟨_,ϱ,ϱ,_,ϱ,aT (kB _ _ (sq λnC kC=>⟨_,ϱ,g,G,ϱ,ar,λv1 H2 s2 bd=>kC _ _ (sq λnD kD=>?_)⟩))⟩
 have g2:=g1.same n s2
 have bN:A3 (((cr d.en b.z).map V.str).getD .non) (.str "broken")=true:=by cases cr d.en b.z<;>rfl
 refine ⟨_,ϱ,W.l,CV,W.dx,_,_,ϱ,g2.wo.wi,T.cl,T.st,qd,b.A.l,b.A.dx,_,ϱ,g2.sa.ins,gI θ,_,ϱ,b.p,b.z,b.A,d,b.za,ϱ,g2.sa,g2.wo.za,bN,_,ϱ,?_⟩
 by_cases hb:cr d.en b.z=some "broken"
 ·refine a9 (λ_=>cu (q0 (.inl hb) H2 (s1.trans s2))) (λc=>absurd (τ (by rw [hb];rfl)) c)
 refine a9 (λc=>absurd (Ξ c) λz=>hb (by cases e:cr d.en b.z with | none=>rw [e] at z;cases z | some s=>rw [e] at z;cases z;rfl)) (λ_=>?_)
 refine ⟨_,ϱ,W.l,W.dx,_,ϱ,g2.wo.wi,fb θ,_,ϱ,_,ϱ,b,shL CH b.A.l h [] [] .non,d,⟨W,dl,vs,o,dk,ak,y,X⟩,v1,g,G,lk,ϱ,g2.self dH,bd,ar,a7,ldu,λH3 s3=>⟨_,ϱ,?_⟩⟩
 cases ea:y.all λj=>aG j lk with
 | false=>exact cu (q0 (.inr ea) H3 (s1.trans (s2.trans s3)))
 | true=>?_
 refine aT (kD _ _ (sq λnE kE=>?_))
 have g3:=g2.same n s3
 obtain ⟨a1,a8,rfl,Y⟩:=id bd
 have hf:(mV g G).lookup ("step_done":Str)=none:=ug θ θ θ θ θ g G
 refine ⟨B3 0 "self" ⟨ϱ,ϱ,ϱ,ϱ,ϱ⟩,_,ϱ,a1,a8,_,ϱ,s3 _ _ Y,hf,_,ϱ,g3.tw,λfv c H4 k4 cp dZ e1 cv U I aZ pb=>?_⟩
 have as:H3 b.Pw=some (.tbl (sM yy X.w)):=g3.co j1
 have bP:ImS CH CL H3 H4:=cH k4 as id
 have J:=g3.wo.im n bP
 have g4:Gs C CS CH CL CV K H b (shL CH b.A.l h [] [] .non) d ⟨W,dl,vs,o,dk,ak,y,X⟩ H4 (shL CH b.A.l h [] [] .non) d ⟨W,dl,vs,o,dk,ak,y,⟨X.d,some c⟩⟩:=⟨g3.ow.kp 9 rfl k4 cp,J.si,J.wi,J.ps,⟨J.cz.1,(λz e=>by cases e;exact U)⟩,J.pa,J.za,J.n1,J.n2,J.ne⟩
 have av:StO CW H4 g G (.ref a1):=⟨a1,a8,ϱ,k4 _ _ (λz=>by have:=s3 _ _ Y;rw [z,as] at this;cases this) (s3 _ _ Y)⟩
 have ct:CloT P w K mg I 4 fv (iZ (bu d.cells) d.cells.length) H4:=BI pb cv U D T (HC I) g4.wo.wi g4.wo.si.ins g4.sa.cl
 refine ⟨.ref a1,G,m,fv,ϱ,ar,ic,av,ct,λt ch H5 s5 ht cx=>kE _ _ (sq λnF kF=>?_)⟩
 have g5:=g4.same n s5
 obtain ⟨bG,⟨o1,h1,_⟩,h2⟩:=cx
 have c0:ChT K H5 (dn (bu d.cells) g G m).2 (.ref ch):=⟨ch,bG,ϱ,.inr ⟨o1,h1⟩,AC h2⟩
 refine ⟨_,ϱ,h.l,h.dx,_,ϱ,g5.sh,iJ θ,_,ϱ,_,ϱ,_,ϱ,t,_,_,_,ϱ,ϱ,SqT.of ht,St.at1,_,ϱ,t,_,_,_,ϱ,ϱ,SqT.of ht,St.at0,χ,λr cF=>?_⟩
 have s6:=ah (o:=.tup [.str "walked",.ref b.za,.int i,.ref ch,.int (dn (bu d.cells) g G m).1]) cF
 have g6:=g5.same n s6
 have aS:RxAt K _ b.p b.z r (.wlk i (dn (bu d.cells) g G m).1 (dn (bu d.cells) g G m).2):=⟨b.za,.ref ch,ae,g6.wo.za,c0.keep (CH:=CH) (CL:=CL) (cy s6)⟩
 refine ⟨b.p,b.z,b.A,h,d,[],[],.non,r,_,wtL CL b ⟨W,dl,vs,o,dk,ak,y,⟨X.d,some c⟩⟩,ϱ,(g6.self dH).ow,g6.wo.si,aS,⟨sJ ar ic,(λ_ z=>by cases z),(λ_ _ z=>by cases z),(λ_ _ _ z=>by cases z;exact et),len,lws⟩,(by show 0<=900;decide),λb' v' H7 o7 d2 nw=>kF _ _ ?_⟩
 have g7:=g6.trans (S':=shL CH b.A.l h [r] [] v') ⟨o7,(g6.wo.im n o7.im).wsi d2⟩
 have c3:=ImS.ts o7.im _ _ (s6 _ _ ht)
 refine ⟨_,ϱ,h.l,h.dx,_,ϱ,g7.sh,iJ θ,_,ϱ,b.za,_,_,_,ϱ,ϱ,SqT.of g7.wo.za,St.at0,_,ϱ,_,ϱ,_,ϱ,t,_,_,_,ϱ,ϱ,SqT.of c3,St.at0,χ,λt2 a2=>?_⟩
 have s8:=ah (o:=.tup [.int i,.int (dn (bu d.cells) g G m).1]) a2
 have Z:=g7.same n s8
 exact ⟨b.A.l,h,[r],[],v',(b.z.1,"went",b.za,t2),stL b.p b.z b.A _++wtL CL b ⟨W,dl,vs,o,dk,ak,y,⟨X.d,some c⟩⟩,ϱ,(Z.self dH).ow,(by show 0<=900;decide),λu H' L hw=>q hb ea c r b' u t2 v' H' (Z.trans ⟨L,Z.wo.im n L.im⟩) ((aS.keep o7.im).keep ((cy s8).trans L.im)) (nw.keep ((cy (CH:=CH) (CL:=CL) s8).trans L.im).ts) hw (ImS.ts L.im _ _ ae)⟩
theorem wz{H:Hp}{a b:Addr}{n:Nat}{us vs:List V}(ha:H a=some (.lst us))(hb:H b=some (.lst vs))(h:Paired (λx y=>EqIs K n H x y true) us vs):rn K (n+1) H (.ref a) (.ref b) true:=by
 intro P w A s u v hA d m Z r2
 cases Z
 cases r2
 obtain ⟨_,f,n1,o,G⟩:=(show ObjOk P w H s.heap a (.lst us) from d a _ ha)
 obtain ⟨_,g,n2,r,I⟩:=(show ObjOk P w H s.heap b (.lst vs) from d b _ hb)
 have l1:=o.length
 have l2:=r.length
 have l3:=h.len
 have q1:s.heap.IsList a f.toArray:=⟨_,G,ϱ,_,ϱ⟩
 have q2:s.heap.IsList b g.toArray:=⟨_,I,ϱ,_,ϱ⟩
 have z:=PySem.SeqAt.RcAt.lists (A:=A) (s:=s) (e:=λ_=>true) q1 q2 (by simp;omega) ω (λj h1 Y=>by
  have i:j<f.length:=by simpa using h1
  have l:j<g.length:=by simpa using Y
  have F:us[j]?=some us[j]:=ξ ω
  obtain ⟨y,J,L⟩:=h.get1 F
  obtain ⟨u,C,O⟩:=o.get F
  obtain ⟨v,D,Q⟩:=r.get J
  have q:=L P w A.in1 s u v (by show A.units+1+n<cLine;omega) d m O Q
  have U:f.toArray[j]=u:=by
   rw [ξ i] at C
   simpa using Option.some.inj C
  have W:g.toArray[j]=v:=by
   rw [ξ l] at D
   simpa using Option.some.inj D
  rw [U,W]
  exact q)
 have X:((List.range f.toArray.size).all λ_=>true)=true:=by simp
 rw [X] at z
 exact z
inductive o8 (vs:List V) (H:Hp) (Q:VK) (E:XK):Prop|mk c:vs=[.int c]->(∀r,inV r->Q (.int r) H)->o8 vs H Q E
theorem zq(F:Fun K "_law_number" "_law_number" fx f fd):FnOk P w K mg base CX0 1 f fd ["_law_cell"] o8:=by
 refine F.oj mh λd A b s H vs Q E e h=>?_
 obtain ⟨c,rfl,q⟩:=h
 refine ⟨_,ag (aI (ax bf (aH bQ (pv 0) ai) ai (ay _)) (aj (aw (aH dX (aH mC (aH bQ (aH bw (pv 0) ai) (aH mC (aH wM ai (aH sd ai ai)) ai)) (aH sd ai ai)) ai))) aC)
  (aj (aw (aH mC (aH bQ (aH bw (pv 0) ai) ai) ai))),?_⟩
 refine ⟨_,ϱ,_,_,ϱ,ϱ,(by show (0:Int)<3;decide),ϱ,_,ϱ,a9 (λ_=>?_) (λ_=>?_)⟩
 ·refine ⟨_,ϱ,_,_,ϱ,ϱ,⟨ζ,ζ⟩,_,_,ϱ,ϱ,⟨ζ,ζ,ζ⟩,_,_,ϱ,ϱ,.inl ⟨ζ,ζ⟩,_,_,ϱ,ϱ,_,_,ϱ,ϱ,(by show (0:Int)<2*10 ^ 40-1;decide +kernel),_,_,ϱ,ϱ,⟨ζ,ζ,ζ⟩,_,_,ϱ,ϱ,_,_,ϱ,ϱ,q _ ?_⟩
  show (c/3%(2*10 ^ 40-1)-10 ^ 40+1:Int).natAbs<10 ^ 40
  have h0:0<=c/3%(2*10 ^ 40-1:Int):=Int.emod_nonneg _ θ
  have h1:c/3%(2*10 ^ 40-1:Int)<2*10 ^ 40-1:=Int.emod_lt_of_pos _ θ
  generalize c/3%(2*10 ^ 40-1:Int)=m at h0 h1 ⊢
  omega
 ·refine ⟨_,ϱ,_,_,ϱ,ϱ,⟨ζ,ζ⟩,_,_,ϱ,ϱ,(by show (0:Int)<25;decide),_,_,ϱ,ϱ,q _ ?_⟩
  show (c/3%25-9:Int).natAbs<10 ^ 40
  omega
theorem B6(a b:Str):(a++b).length=a.length+b.length:=by
 show (a.cps++b.cps).size=_
 rw [Array.size_append]
 rfl
theorem acs(a b:Str):(a++b).cps.toList=a.cps.toList++b.cps.toList:=by
 show (a.cps++b.cps).toList=_
 rw [Array.toList_append]
theorem lB{a b:Str}(h:a.cps.toList=b.cps.toList):a=b:=by
 obtain ⟨a⟩:=a
 obtain ⟨b⟩:=b
 have:a=b:=Array.toList_inj.mp h
 rw [this]
theorem CG:(Str.ofString " ").cps.toList=[32]:=by decide +kernel
theorem vJ(b:Wd)(d:List Int):(txt b d).cps.toList=Km.cU 32 ((wS b::d.map iS).map λy=>y.cps.toList):=by
 unfold txt
 rw [jE]
 exact Km.dQ 32 _
theorem Cg(d:Wd)(b:Int):wS d++Str.ofString " 1 "++iS b=txt d [1,b]:=by
 refine lB ?_
 rw [vJ]
 have e:(Str.ofString " 1 ").cps.toList=[32]++(iS 1).cps.toList++[32]:=by decide +kernel
 simp only [acs,e,List.map_cons,List.map_nil,Km.cU]
 simp
theorem Cf(d:Wd)(a b c:Int):txt d [a,b]++Str.ofString " "++iS c=txt d [a,b,c]:=by
 refine lB ?_
 simp only [acs,vJ,CG,List.map_cons,List.map_nil,Km.cU]
 simp
theorem Cc(i:Int)(h0:0<=i)(b:i<5):∃w,w≠.plus/\w≠.need/\atI ([.str "take",.str "mean",.str "sum",.str "give",.str "add"]:List V) i=some (.str (wS w)):=by
 have:i=0\/i=1\/i=2\/i=3\/i=4:=by omega
 rcases this with rfl | rfl | rfl | rfl | rfl
 ·exact ⟨.take,ζ,ζ,ϱ⟩
 ·exact ⟨.mean,ζ,ζ,ϱ⟩
 ·exact ⟨.sum,ζ,ζ,ϱ⟩
 ·exact ⟨.give,ζ,ζ,ϱ⟩
 ·exact ⟨.add,ζ,ζ,ϱ⟩
inductive lD (vs:List V) (H:Hp) (Q:VK) (E:XK):Prop|mk c m:vs=[.int c,.int (m:Nat)]->1<=m->m<=8->(∀wd ns H',Same H H'->Ar wd ns->inC m wd ns->Q (.str (txt wd ns)) H')->lD vs H Q E
theorem xf(F:Fun K "_law_step" "_law_step" hI f fd)(B:TxB mg)(GN:GF P w K mg base CX0 1 "_law_number" ["_law_cell"] o8):FnOk P w K mg base CX0 2 f fd ["_law_cell","_law_many"] lD:=by
 refine F.oj sc__law_step λa5 A I s H vs Q E g h=>?_
 obtain ⟨c,m,rfl,m1,m8,q⟩:=h
 have nd:=sc__law_step.nd
 obtain ⟨d,w1,w2,Y⟩:=Cc (c%5) (Int.emod_nonneg _ ζ) (Int.emod_lt_of_pos _ ζ)
 have L:(0:Int)<(m:Int):=by omega
 refine ⟨_,ag (aD (i:=2) nd rfl (Or.inl rfl) (aH bQ (aH bw (pv 0) ai) (pv 1)))
  (ag (aD (i:=3) nd rfl (Or.inl rfl) (au (r:=bz K) aE (bE (ac aA (ac aA (ac aA (ac aA (ac aA af)))))) (aH bQ (pv 0) ai) (λ_ _=>rfl)))
  (ag (aD (i:=4) nd rfl (Or.inl rfl) (aH cY (aH cY (pv 3) aA) (aX gG rfl B.str PyProof.Rows.boot_str (ac (pv 2) af))))
  (ag (aI (ax bf (pv 3) aA (ay _)) (aj (aw (aH cY (aH cY (pv 4) aA) (aX gG rfl B.str PyProof.Rows.boot_str (ac (aH dX (pv 2) (aH bQ (aH bw (pv 0) ai) (aH mC (pv 1) (pv 2)))) af))))) aC)
  (ag (aI (ax bf (pv 3) aA (ay _)) (aj (aw (aH cY (aH cY (pv 4) aA) (aX gG rfl B.str PyProof.Rows.boot_str (ac (pc GN g (ac (aH bw (pv 0) ai) af)) af))))) aC)
  (aj (aw (pv 4))))))),?_⟩
 refine ⟨_,ϱ,_,_,ϱ,ϱ,⟨ζ,ζ⟩,_,ϱ,_,_,ϱ,ϱ,L,?_⟩
 have O:0<=c/5%(m:Int):=Int.emod_nonneg _ ω
 have y:c/5%(m:Int)<m:=Int.emod_lt_of_pos _ L
 obtain ⟨a,j⟩:∃a,c/5%(m:Int)=a:=⟨_,ϱ⟩
 rw [j] at O y
 have C:inN 1:=⟨ζ,ζ⟩
 have e:inN a:=⟨O,ω⟩
 refine ⟨χ,λl hl=>?_⟩
 have u:Same H _:=ah (o:=.lst [.str "take",.str "mean",.str "sum",.str "give",.str "add"]) hl
 refine ⟨_,ϱ,_,_,ϱ,ϱ,(by show (0:Int)<5;decide),l,_,_,_,ϱ,ϱ,SqL.of ae,Y,?_⟩
 generalize (upd H l _)=H1 at u ⊢
 have hz:(1000:Nat)<=sizeLine:=by decide
 have l1:=vy d
 have l3:=fM e.v
 have ls:(Str.ofString " ").length=1:=by decide +kernel
 have l2:(Str.ofString " 1 ").length=3:=by decide +kernel
 have lt:(txt d [1,a]).length<=100:=by rw [← Cg];simp only [B6];omega
 refine ⟨_,ϱ,_,_,ϱ,ϱ,?_,_,ϱ,a,congrArg (λz=>[V.int z]) j,xE e.v,_,_,ϱ,ϱ,?_,?_⟩
 ·show (wS d).length+(Str.ofString " 1 ").length<=sizeLine
  omega
 ·show (wS d++Str.ofString " 1 ").length+(iS a).length<=sizeLine
  simp only [B6];omega
 have Z:=Cg d a
 have fin:∀(x:Int),inV x->(txt d [1,a]++Str.ofString " ").length+(iS x).length<=sizeLine:=λx hx=>by
  have:=fM hx
  simp only [B6]
  omega
 erw [Z]
 refine ⟨_,ϱ,ϱ,_,ϱ,a9 (λk=>?_) (λW=>⟨_,ϱ,ϱ,_,ϱ,a9 (λk=>?_) (λX=>?_)⟩)⟩
 ·obtain rfl:d=.sum:=fe k
  have U:(0:Int)<(m:Int)-a:=by omega
  refine ⟨_,ϱ,_,_,ϱ,ϱ,(by show (txt .sum [1,a]).length+(Str.ofString " ").length<=sizeLine;omega),_,ϱ,_,ϱ,_,_,ϱ,ϱ,⟨ζ,ζ⟩,_,ϱ,_,ϱ,_,a,ϱ,congrArg V.int j,_,_,ϱ,ϱ,U,a,_,congrArg V.int j,ϱ,?_⟩
  have b0:0<=c/40%((m:Int)-a):=Int.emod_nonneg _ ω
  have b1:c/40%((m:Int)-a)<m-a:=Int.emod_lt_of_pos _ U
  obtain ⟨b,J⟩:∃b,c/40%((m:Int)-a)=b:=⟨_,ϱ⟩
  rw [J] at b0 b1
  have D:inN (a+b):=⟨ω,ω⟩
  refine ⟨a+b,congrArg (λz=>[V.int (a+z)]) J,xE D.v,_,_,ϱ,ϱ,fin _ D.v,?_⟩
  have G:=Cf .sum 1 a (a+b)
  erw [G]
  exact q .sum [1,a,a+b] H1 u ⟨C,e,D,ω⟩ ⟨ω,ω⟩
 ·obtain rfl:d=.add:=fe k
  refine ⟨_,ϱ,_,_,ϱ,ϱ,(by show (txt .add [1,a]).length+(Str.ofString " ").length<=sizeLine;omega),_,ϱ,_,_,ϱ,ϱ,⟨ζ,ζ⟩,_,ϱ,λr g=>⟨_,ϱ,xE g,_,_,ϱ,ϱ,fin _ g,?_⟩⟩
  have G:=Cf .add 1 a r
  erw [G]
  exact q .add [1,a,r] H1 u ⟨C,e,g⟩ y
 ·refine ⟨_,ϱ,q d [1,a] H1 u ?_ ?_⟩
  ·have n3:=cA (b:=.sum) W
   have n4:=cA (b:=.add) X
   cases d<;>first | contradiction | exact ⟨C,e⟩
  ·have n3:=cA (b:=.sum) W
   have n4:=cA (b:=.add) X
   cases d<;>first | contradiction | exact y
theorem mT{i:Int}(h:inV i):PySem.intText? (iS i)=some i:=by
 have b:(iS i).length<=4300:=Λ (fM h) ζ
 have e:=qP i
 unfold Km.b9 at e
 split at e
 ·rename_i hn
  have:=PySem.intText_neg e (Km.f6 _) (Km.jr _) b
  rw [Km.ip] at this
  rw [this]
  congr 1
  omega
 ·have:=PySem.intText_digits (x:=iS i) (by rw [e];exact Km.f6 _) (by rw [e];exact Km.jr _) b
  rw [e,Km.ip] at this
  rw [this]
  congr 1
  omega
theorem As{n:Nat}{f:Wd}{g:List Int}(e:Ar f g)(d:inC n f g):∃x a r,g=x::a::r/\inN a/\a<n:=by
 cases f with
 | take=>obtain ⟨a,b,rfl,_,h,_⟩:=e.c rfl;exact ⟨_,_,_,rfl,h,d⟩
 | mean=>obtain ⟨a,b,rfl,_,h,_⟩:=e.c rfl;exact ⟨_,_,_,rfl,h,d⟩
 | give=>obtain ⟨a,b,rfl,_,h,_⟩:=e.c rfl;exact ⟨_,_,_,rfl,h,d⟩
 | sum=>obtain ⟨a,b,c,rfl,_,h,_⟩:=e.s;exact ⟨_,_,_,rfl,h,d.1⟩
 | add=>obtain ⟨a,b,c,rfl,_,h,_⟩:=e.a;exact ⟨_,_,_,rfl,h,d⟩
 | plus=>exact d.elim
 | need=>exact d.elim
inductive tD (K:Frag) (vs:List V) (H:Hp) (Q:VK) (E:XK):Prop|mk n wd ns:vs=[.str (txt wd ns)]->Ar wd ns->inC n wd ns->(∀lk v H',jm wd ns=some lk->Same H H'->cLk.rp K H' lk v->Q v H')->tD K vs H Q E
theorem Br(F:Fun K "_law_lock" "_law_lock" hJ f fd)(B:TxB mg):FnOk P w K mg base CX0 1 f fd ["_law_text"] (tD K):=by
 refine F.oj sc__law_lock λW A D s H vs Q E hr h=>?_
 obtain ⟨n,g,y,rfl,m,C,q⟩:=h
 have nd:=sc__law_lock.nd
 refine ⟨_,ag (aD (i:=1) nd rfl (Or.inl rfl) (gK PySem.F.plainAttrs_str PySem.F.slot_str_split PySem.F.type_str_split jX (pv 0) (ac aA af)))
  (ag (aD (i:=2) nd rfl (Or.inl rfl) (aX bW rfl B.int PyProof.Rows.boot_int (ac (au (r:=bz K) aE (pv 1) ai (λ_ _=>rfl)) af)))
  (ag (aI (ax bf (au (r:=bz K) aE (pv 1) ai (λ_ _=>rfl)) aA (ay _)) (aj (aw (aF (ac aA (ac (pv 2) (ac (aX bW rfl B.int PyProof.Rows.boot_int (ac (au (r:=bz K) aE (pv 1) ai (λ_ _=>rfl)) af)) af)))))) aC)
  (ag (aI (ax bf (au (r:=bz K) aE (pv 1) ai (λ_ _=>rfl)) aA (ay _)) (aj (aw (aF (ac aA (ac (pv 2) (ac (pv 2) af)))))) aC)
  (ag (aI (ax bf (au (r:=bz K) aE (pv 1) ai (λ_ _=>rfl)) aA (ay _)) (aj (aw (aF (ac aA (ac (pv 2) (ac (pv 2) af)))))) aC)
  (aj (aw (aF (ac aA (ac (pv 2) (ac (pv 2) af)))))))))),?_⟩
 refine ⟨_,ϱ,ϱ,txt g y,32,ϱ,congrArg (λz=>[V.str z]) jE,oQ m,λt X=>?_⟩
 rw [jB]
 have J:Same H _:=ah (o:=.lst ((wS g::y.map iS).map V.str)) X
 have d:(upd H t (.lst ((wS g::y.map iS).map V.str))) t=some (.lst ((wS g::y.map iS).map V.str)):=ae
 generalize (upd H t _)=H1 at J d ⊢
 obtain ⟨x,a,r,rfl,G,_⟩:=As m C
 have fin:∀(u:Lk) (c:Addr),jm g (x::a::r)=some u->H1 c=none->Q (.ref c) (upd H1 c (.tup [.str (kdS u.1),.int u.2.1,.int u.2.2])):=λu c e l=>q u _ _ e (J.trans (ah l)) (p8 ae)
 refine ⟨_,ϱ,t,_,_,_,ϱ,ϱ,SqL.of d,St.at2,iS a,a,ϱ,mT G.v,Λ (fM G.v) ζ,?_⟩
 refine ⟨_,ϱ,t,_,_,_,ϱ,ϱ,SqL.of d,St.at0,ϱ,_,ϱ,a9 (λk=>?_) (λY=>⟨_,ϱ,t,_,_,_,ϱ,ϱ,SqL.of d,St.at0,ϱ,_,ϱ,a9 (λk=>?_) (λZ=>⟨_,ϱ,t,_,_,_,ϱ,ϱ,SqL.of d,St.at0,ϱ,_,ϱ,a9 (λk=>?_) (λk3=>?_)⟩)⟩)⟩
 ·obtain rfl:g=.sum:=fe k
  obtain ⟨_,_,v,e,_,_,I,av⟩:=m.s
  cases e
  exact ⟨_,ϱ,_,ϱ,t,_,_,_,ϱ,ϱ,SqL.of d,aW (j:=3) rfl,iS v,v,ϱ,mT I.v,Λ (fM I.v) ζ,χ,λc l=>fin (.read,a,v) c rfl l⟩
 ·obtain rfl:g=.take:=fe k
  obtain ⟨_,_,e,_⟩:=m.c rfl
  cases e
  exact ⟨_,ϱ,_,ϱ,χ,λc l=>fin (.read,a,a) c rfl l⟩
 ·obtain rfl:g=.mean:=fe k
  obtain ⟨_,_,e,_⟩:=m.c rfl
  cases e
  exact ⟨_,ϱ,_,ϱ,χ,λc l=>fin (.mean,a,a) c rfl l⟩
 ·have L:=cA (b:=.sum) Y
  have O:=cA (b:=.take) Z
  have U:=cA (b:=.mean) k3
  refine ⟨_,ϱ,_,ϱ,χ,λc l=>fin (.change,a,a) c ?_ l⟩
  cases g with
  | take=>exact absurd rfl O
  | mean=>exact absurd rfl U
  | sum=>exact absurd rfl L
  | give=>obtain ⟨_,_,e,_⟩:=m.c rfl;cases e;rfl
  | add=>obtain ⟨_,_,_,e,_⟩:=m.a;cases e;rfl
  | plus=>exact C.elim
  | need=>exact C.elim
theorem sg(F:Fun K "_law_beside" "_law_beside" fy f fd)(B:TxB mg):FnOk P w K mg base CX0 1 f fd ["_law_one","_law_other"] (jC K):=by
 refine F.oj sc__law_beside λas A L s H vs Q E W h=>?_
 obtain ⟨v,u,k,j,rfl,⟨a,u1,Z,u3,rfl,x,e1,e2,e3⟩,⟨b,w1,w2,w3,rfl,y,f1,f2,f3⟩,q⟩:=h
 have z:u1=.str (kdS k.1):=e1
 have C:Z=.int k.2.1:=e2
 have D:u3=.int k.2.2:=e3
 have G:w1=.str (kdS j.1):=f1
 have I:w2=.int j.2.1:=f2
 have J:w3=.int j.2.2:=f3
 subst z C D G I J
 refine ⟨_,ag (aI (PW.pt (mt (ax mD (au (r:=aQ K) aB (pv 0) ai (λ_ _=>rfl)) (au (r:=aQ K) aB (pv 1) ai (λ_ _=>rfl)) (ay _)) (iQ (ax mD (au (r:=aQ K) aB (pv 1) ai (λ_ _=>rfl)) (au (r:=aQ K) aB (pv 0) ai (λ_ _=>rfl)) (ay _))))) (aj (aw oB)) aC)
  (ag (aD (i:=2) sc__law_beside.nd rfl (Or.inl rfl) (aK pZ rfl B.sorted PyProof.Rows.boot_sorted (ac (bE (ac (au (r:=aQ K) aB (pv 0) ai (λ_ _=>rfl)) (ac (au (r:=aQ K) aB (pv 1) ai (λ_ _=>rfl)) af))) af)))
  (aj (aw (tO (bv (pS cStr (hun W)) (pv 2) (bE (ac aA (ac aA af))) (ay _)) (eO (bv (pS cStr (hun W)) (pv 2) (bE (ac aA (ac aA af))) (ay _))))))),?_⟩
 refine ⟨_,ϱ,a,_,_,_,ϱ,ϱ,x.sq,ϱ,_,ϱ,b,_,_,_,ϱ,ϱ,y.sq,ϱ,_,_,ϱ,ϱ,_,ϱ,?_⟩
 by_cases h1:k.2.2<j.2.1
 ·have e:aG k j=true:=by unfold aG;rw [decide_eq_true h1];rfl
  rw [e] at q
  exact a9 (λ_=>cu (q H (Same.refl H))) (λc=>absurd (τ h1) c)
 refine a9 (λc=>absurd (Ξ c) h1) (λ_=>?_)
 refine ⟨_,ϱ,b,_,_,_,ϱ,ϱ,y.sq,ϱ,_,ϱ,a,_,_,_,ϱ,ϱ,x.sq,ϱ,_,_,ϱ,ϱ,_,ϱ,?_⟩
 by_cases h2:j.2.2<k.2.1
 ·have e:aG k j=true:=by unfold aG;rw [decide_eq_true h2,Bool.or_true];rfl
  rw [e] at q
  exact a9 (λ_=>q H (Same.refl H)) (λc=>absurd (τ h2) c)
 refine a9 (λc=>absurd (Ξ c) h2) (λ_=>?_)
 have e:aG k j=ot k.1 j.1:=by unfold aG;rw [decide_eq_false h1,decide_eq_false h2];rfl
 rw [e,← uF] at q
 refine ⟨_,ϱ,a,_,_,_,ϱ,ϱ,x.sq,ϱ,_,ϱ,b,_,_,_,ϱ,ϱ,y.sq,ϱ,χ,λl hl=>?_⟩
 refine ⟨l,kdS k.1,kdS j.1,ϱ,SqL.of ae,λm hm=>?_⟩
 have sm:Same H (upd (upd H l (.lst [.str (kdS k.1),.str (kdS j.1)])) m (.lst ((srt (kdS k.1) (kdS j.1)).map V.str))):=(ah hl).trans (ah hm)
 have em:(if (kdS j.1).cps.toList<(kdS k.1).cps.toList then [V.str (kdS j.1),V.str (kdS k.1)] else [V.str (kdS k.1),V.str (kdS j.1)])=(srt (kdS k.1) (kdS j.1)).map V.str:=by
  unfold srt
  split<;>rfl
 rw [em]
 have O:∀(X:Hp),Paired (cStr.rp K X) (srt (kdS k.1) (kdS j.1)) ((srt (kdS k.1) (kdS j.1)).map V.str):=λX=>by
  unfold srt
  split<;>exact .cons rfl (.cons rfl .nil)
 refine ⟨_,ϱ,χ,λn Y=>?_⟩
 have U:=sm.trans (ah (o:=.lst [.str "read",.str "read"]) Y)
 have d:=ah (o:=.lst [.str "read",.str "read"]) Y m _ ae
 refine ⟨_,(["read","read"]:List Str),⟨m,_,ϱ,SqL.of d,O _⟩,⟨n,_,ϱ,SqL.of ae,.cons rfl (.cons rfl .nil)⟩,_,ϱ,?_⟩
 by_cases g1:srt (kdS k.1) (kdS j.1)=(["read","read"]:List Str)
 ·rw [τ g1,Bool.true_or] at q
  exact a9 (λ_=>q _ U) (λc=>absurd (τ g1) c)
 refine a9 (λc=>absurd (Ξ c) g1) (λ_=>?_)
 rw [Γ g1,Bool.false_or] at q
 refine ⟨_,ϱ,χ,λn' g=>?_⟩
 exact ⟨_,(["mean","read"]:List Str),⟨m,_,ϱ,SqL.of (ah g _ _ d),O _⟩,⟨n',_,ϱ,SqL.of ae,.cons rfl (.cons rfl .nil)⟩,q _ (U.trans (ah g))⟩
theorem sX(cs:List Int)(a:Nat):∀k:Nat,a+k<=cs.length->((cs.drop a).take k).sum=rF (bu cs) (a:Int) k
 | 0,_=>by rw [List.take_zero];rfl
 | k+1,h=>by
  have e:(cs.drop a)[k]?=some (bu cs ((a:Int)+(k:Int))):=by
   unfold bu
   rw [List.getElem?_drop,show ((a:Int)+(k:Int)).toNat=a+k by omega,List.getD_eq_getElem?_getD,ξ (show a+k<cs.length by omega)]
   rfl
  rw [List.take_succ,e,List.sum_append,sX cs a k ω]
  show _=rF (bu cs) a k+bu cs ((a:Int)+(k:Int))
  simp
theorem cell_at{cs:List Int}{a:Int}(h0:0<=a)(h1:a<cs.length):atI (cs.map V.int) a=some (.int (bu cs a)):=by
 obtain ⟨n,rfl⟩:∃n:Nat,a=(n:Int):=⟨a.toNat,ω⟩
 have b:n<cs.length:=by omega
 refine aW ?_
 unfold bu
 rw [List.getElem?_map,Int.toNat_natCast,List.getD_eq_getElem?_getD,ξ b]
 rfl
inductive o9 (K:Frag) (vs:List V) (H:Hp) (Q:VK) (E:XK):Prop|mk ca cs hand wd ns:vs=[.ref ca,.int hand,.str (txt wd ns)]->H ca=some (.lst ((cs:List Int).map V.int))->Ar wd ns->inC cs.length wd ns->(∀t cv us H',Same H H'->H' t=some (.tup [.ref cv,.int (dn (bu cs) wd ns hand).1])->H' cv=some (.tup us)->Paired (sPa K H') (dn (bu cs) wd ns hand).2 us->Q (.ref t) H')->o9 K vs H Q E
theorem xj(F:Fun K "_law_done" "_law_done" hU f fd)(B:TxB mg)(Y:mg "sum"=none):FnOk P w K mg base CX0 1 f fd ["_law_cells","_law_hand","_law_text"] (o9 K):=by
 refine F.oj sc__law_done λaZ A a8 s H vs Q E hr h=>?_
 obtain ⟨ca,G,l,I,Z,rfl,a5,O,ic,q⟩:=h
 have nd:=sc__law_done.nd
 refine ⟨_,ag (aD (i:=3) nd rfl (Or.inl rfl) (gK PySem.F.plainAttrs_str PySem.F.slot_str_split PySem.F.type_str_split jX (pv 2) (ac aA af)))
  (ag (aD (i:=4) nd rfl (Or.inl rfl) (aX bW rfl B.int PyProof.Rows.boot_int (ac (au (r:=bz K) aE (pv 3) ai (λ_ _=>rfl)) af)))
  (ag (aI (ax bf (au (r:=bz K) aE (pv 3) ai (λ_ _=>rfl)) aA (ay _)) (aj (aw (aF (ac (aF (ac (aF (ac (pv 4) (ac (pv 1) af))) af)) (ac (pv 1) af))))) aC)
  (ag (aI (ax bf (au (r:=bz K) aE (pv 3) ai (λ_ _=>rfl)) aA (ay _)) (aj (aw (aF (ac (aF (ac (aF (ac (pv 4) (ac (aH dX (au (r:=bz K) aE (pv 0) (pv 4) (λ_ _=>rfl)) (aX bW rfl B.int PyProof.Rows.boot_int (ac (au (r:=bz K) aE (pv 3) ai (λ_ _=>rfl)) af))) af))) af)) (ac (pv 1) af))))) aC)
  (ag (aI (ax bf (au (r:=bz K) aE (pv 3) ai (λ_ _=>rfl)) aA (ay _)) (aj (aw (aF (ac (aF af) (ac (aK (iK rfl) rfl Y PyProof.Rows.boot_sum (ac (mx tF (pv 0) (iu (pv 4)) (iu (aH dX (aX bW rfl B.int PyProof.Rows.boot_int (ac (au (r:=bz K) aE (pv 3) ai (λ_ _=>rfl)) af)) ai))) af)) af))))) aC)
  (aj (aw (aF (ac (aF af) (ac (au (r:=bz K) aE (pv 0) (pv 4) (λ_ _=>rfl)) af))))))))),?_⟩
 refine ⟨_,ϱ,ϱ,txt I Z,32,ϱ,congrArg (λz=>[V.str z]) jE,oQ O,λt ht=>?_⟩
 rw [jB]
 have s1:Same H _:=ah (o:=.lst ((wS I::Z.map iS).map V.str)) ht
 have m:(upd H t (.lst ((wS I::Z.map iS).map V.str))) t=some (.lst ((wS I::Z.map iS).map V.str)):=ae
 have u:=s1 _ _ a5
 generalize (upd H t _)=H1 at s1 m u ⊢
 obtain ⟨x,a,r,rfl,na,a1⟩:=As O ic
 have a0:=na.1
 refine ⟨_,ϱ,t,_,_,_,ϱ,ϱ,SqL.of m,St.at2,iS a,a,ϱ,mT na.v,Λ (fM na.v) ζ,?_⟩
 have one:∀(v:Int) (d g y:Addr),(dn (bu G) I (x::a::r) l)=(l,[(a,v)])->H1 d=none->(upd H1 d (.tup [.int a,.int v])) g=none->(upd (upd H1 d (.tup [.int a,.int v])) g (.tup [.ref d])) y=none->Q (.ref y) (upd (upd (upd H1 d (.tup [.int a,.int v])) g (.tup [.ref d])) y (.tup [.ref g,.int l])):=λv d g y e C D U=>by
  have J:=ah (o:=.tup [.int a,.int v]) C
  have L:=ah (o:=.tup [.ref d]) D
  have s4:=ah (o:=.tup [.ref g,.int l]) U
  refine q y g [.ref d] _ (s1.trans (J.trans (L.trans s4))) (by rw [e];exact ae) (s4 _ _ ae) ?_
  rw [e]
  exact .cons ⟨d,ϱ,(L.trans s4) _ _ ae⟩ .nil
 have W:∀(v:Int) (X:Hp) (d g:Addr),Same H1 X->(dn (bu G) I (x::a::r) l)=(v,[])->X d=some (.tup [])->X g=none->Q (.ref g) (upd X g (.tup [.ref d,.int v])):=λv X d g J e C D=>by
  have L:=ah (o:=.tup [.ref d,.int v]) D
  refine q g d [] _ (s1.trans (J.trans L)) (by rw [e];exact ae) (L _ _ C) ?_
  rw [e]
  exact .nil
 refine ⟨_,ϱ,t,_,_,_,ϱ,ϱ,SqL.of m,St.at0,ϱ,_,ϱ,a9 (λk=>?_) (λk1=>⟨_,ϱ,t,_,_,_,ϱ,ϱ,SqL.of m,St.at0,ϱ,_,ϱ,a9 (λk=>?_) (λk2=>⟨_,ϱ,t,_,_,_,ϱ,ϱ,SqL.of m,St.at0,ϱ,_,ϱ,a9 (λk=>?_) (λk3=>?_)⟩)⟩)⟩
 ·obtain rfl:I=.give:=fe k
  obtain ⟨_,_,e,_⟩:=O.c rfl
  cases e
  exact ⟨_,ϱ,_,ϱ,χ,λd C=>⟨χ,λg D=>⟨_,ϱ,χ,λy U=>one l d g y rfl C D U⟩⟩⟩
 ·obtain rfl:I=.add:=fe k
  obtain ⟨_,_,v,e,_,_,hv⟩:=O.a
  cases e
  exact ⟨_,ϱ,_,ϱ,_,ϱ,ca,_,_,_,ϱ,ϱ,SqL.of u,cell_at a0 a1,_,ϱ,t,_,_,_,ϱ,ϱ,SqL.of m,aW (j:=3) rfl,iS v,v,ϱ,mT hv,Λ (fM hv) ζ,_,_,ϱ,ϱ,χ,λd C=>⟨χ,λg D=>⟨_,ϱ,χ,λy U=>one (bu G a+v) d g y rfl C D U⟩⟩⟩
 ·obtain rfl:I=.sum:=fe k
  obtain ⟨_,_,v,e,_,_,nv,av⟩:=O.s
  cases e
  refine ⟨χ,λd C=>?_⟩
  have J:=ah (o:=.tup []) C
  refine ⟨_,ϱ,_,ϱ,_,ϱ,_,ϱ,t,_,_,_,ϱ,ϱ,SqL.of (J _ _ m),aW (j:=3) rfl,iS v,v,ϱ,mT nv.v,Λ (fM nv.v) ζ,_,_,ϱ,ϱ,_,ϱ,ca,_,ϱ,SqL.of (J _ _ u),λg D=>?_⟩
  have L:=ah (o:=.lst (ng (G.map V.int) (some a) (some (v+1)))) D
  obtain ⟨i,rfl⟩:∃i:Nat,a=(i:Int):=⟨a.toNat,ω⟩
  obtain ⟨j,rfl⟩:∃j:Nat,v=(j:Int):=⟨v.toNat,ω⟩
  have ij:i<=j:=by omega
  have jn:j<G.length:=by have:=ic.2;omega
  have ec:ng (G.map V.int) (some (i:Int)) (some ((j:Int)+1))=((G.drop i).take (j+1-i)).map V.int:=by
   unfold ng
   rw [show ((j:Int)+1)=((j+1:Nat):Int) by omega,HT.tJ,HT.tJ,ν,Nat.min_eq_left ω,Nat.min_eq_left ω,List.map_take,List.map_drop]
  refine ⟨g,(G.drop i).take (j+1-i),ϱ,by rw [← ec];exact SqL.of ae,χ,λy U=>W _ _ d y (J.trans L) ?_ (L _ _ ae) U⟩
  show (rF (bu G) (i:Int) ((j:Int)+1-(i:Int)).toNat,_)=_
  rw [show ((j:Int)+1-(i:Int)).toNat=j+1-i by omega,← sX G i (j+1-i) ω]
 ·refine ⟨χ,λd C=>?_⟩
  have J:=ah (o:=.tup []) C
  refine ⟨_,ϱ,_,ϱ,ca,_,_,_,ϱ,ϱ,SqL.of (J _ _ u),cell_at a0 a1,χ,λg D=>W _ _ d g J ?_ ae D⟩
  have m1:=cA (b:=.give) k1
  have m2:=cA (b:=.add) k2
  have m3:=cA (b:=.sum) k3
  cases I with
  | take=>obtain ⟨_,_,e,_⟩:=O.c rfl;cases e;rfl
  | mean=>obtain ⟨_,_,e,_⟩:=O.c rfl;cases e;rfl
  | give=>exact absurd rfl m1
  | add=>exact absurd rfl m2
  | sum=>exact absurd rfl m3
  | plus=>exact ic.elim
  | need=>exact ic.elim
end
end K53
namespace L2
open PySem PySem.Spec PyProof.Rows PySem.W Lo
def yD(td:TE):TE:=fun σ H Q=>td σ H λx H1=>∃a kvs,x=.ref a/\H1 a=some (.dK kvs)/\∀v,H1 v=none->Q (.ref v) (upd H1 v (Vw v a))
theorem uP{X:Cx}{o:Expr}{b d:Pos}{y:TE}(K:PE X o y)(f:attributeBase o "items" X.env (eval o X.env)=eval o X.env:=by rfl)(g:(b.endLine==d.line)=true:=by rfl) :
  PE X (.Call (.Attribute o "items" b) [] [] d) (yD y):=by
 intro j s σ H Q I h
 refine wpAny_Call_method0_late f g (thn (K j s σ H _ I h) λu i ⟨x,H1,m,G,a,w,ex,e,q⟩=>?_)
 subst ex
 obtain rfl:u=Value.ref a:=G
 obtain ⟨l,C,D⟩:=io m (.inl ⟨w,.inl e⟩)
 refine ⟨"dict","dict.items",PySem.F.plainAttrs_dict,PySem.F.slot_dict_items,PySem.F.type_dict_items,l,C,Calls.callWith_builtin rfl (PySem.evalArgs_none ?_)⟩
 refine wpAny_call_entry PySem.F.slot_dict_items l PySem.F.entry_dict_items ?_ (PySem.F.args_dict_items_1 _)
 unfold Builtin.«dict.items» Builtin.Dict.noArgs
 refine ε (ε (wpAny_notOrdered_dict l (π ?_)))
 show wpAny _ _ (Builtin.Dict.showsAll a >>= λ_=>_) _ _ i
 unfold Builtin.Dict.showsAll
 rw [if_neg (by rw [D];exact Bool.false_ne_true)]
 refine ε (π (ε (wpAny_newObj_type (π ⟨_,ϱ,?_⟩))))
 refine ⟨.ref i.heap.objs.size,_,m.laid (a:=i.heap.objs.size) (o:=Vw i.heap.objs.size a) (t':=i.toks) (λ_ _ z=>ρ _ z) (ι _) ⟨⟨_,ψ _ rfl,ϱ,ϱ⟩,⟨_,ψ _ rfl⟩,λg1 L ⟨J,p,r⟩ k=>⟨J,k _ p,r⟩⟩,ϱ,q _ (m.hok.fresh (ι _))⟩
end L2
namespace K53
open PySem L2 Lo St
section
variable {P:Program}{w:World}{K:Frag}{mg:Str->Option Value}{base:Heap}{f CL CS CH CV:Addr}{fd:FuncData}{C:Kd->Addr}{CW:Wd->Addr}
theorem AW{lt:Pa->Pa->Bool}{es:List Pa}:∀c∈bO lt es,c∈es:=λc hc=>by
 cases es with
 | nil=>cases hc
 | cons x r =>
  obtain ⟨_,hs⟩:=sY lt (x::r) (Nat.succ_pos _)
  unfold bO at hc
  obtain ⟨i,hi,rfl⟩:=ϑ.mp hc
  have h:=hs i hi
  rw [List.getD_eq_getElem?_getD,ξ h]
  exact List.getElem_mem h
inductive o5 (C:Kd->Addr) (CS CH CL CV:Addr) (K:Frag) (vs:List V) (H:Hp) (Q:VK) (E:XK):Prop|mk b h d x ht xs es:vs=[.ref (x:Wx).W.l,.ref (h:Ah).l,.ref (b:Bx).pa,.ref ht]->Gs C CS CH CL CV K H b (shL CH b.A.l h [] [] .non) d x H (shL CH b.A.l h [] [] .non) d x->H ht=some (.tup xs)->x.due.length<=900->d.ws.length<=900->d.rd=none->d.en.length<=60->x.dk=nKs es->es.length<64->((x.o.2=none->∀H',Same H H'->Q .non H'))->(∀aa,x.o.2=some aa->∀dd r u v' H',Gs C CS CH CL CV K H b (shL CH b.A.l h [] [] .non) d x H' (shL CH b.A.l h [r] [u] v') (d.kp r 0 (.rdy (bO ltP es))) ⟨x.W,x.dl,x.vs,(some dd,none),x.dk,[],x.due,x.cz⟩->Q .non H')->o5 C CS CH CL CV K vs H Q E
theorem w5(F:Fun K "ready" "Works.ready" cE f fd)(B:TxB mg)(T:TxV K CV)(DH:TxH K CH)(n:Nq C CS CH CL CV)(GB:GM P w K mg base CX0 2 CV "is_bound" ["self","p"] (tE CS CV K))(GH:GM P w K mg base CX0 6 CV "held" ["self"] (tm C CL CV K))(a8:GM P w K mg base CX0 3 CH "row" ["self","row"] (jD CS CH CL K))(GS:GM P w K mg base CX0 1 CH "send" ["self","to","word","p","more"] (i6 CH CL)) :
  FnOk P w K mg base CX0 7 f fd ["self","sheet","p","houses"] (o5 C CS CH CL CV K):=by
 refine F.oj sc_Works_ready λd1 A0 bm s H vs Q E y h=>?_
 obtain ⟨b,h,d,⟨W,Y,vs,o,dk,ak,m,Z⟩,ht,xs,es,rfl,g0,aR,a0,aS,er,len,aZ,b0,q2,q4⟩:=h
 have nd:=sc_Works_ready.nd
 subst aZ
 refine ⟨_,ag (aI (iR (cB (pm GB (pv 0) T.cl y (ac (pv 2) af))))
   (ag (aI (PW.pt (mt (hV (jU (cT y) (pv 2) (aq (pv 0) rfl))) (iQ (hV (mz (cT y) (pv 2) (aq (pv 0) rfl)))))) (aj lJ) aC)
   (ag (aD (i:=4) nd rfl (Or.inl rfl) (aX cI rfl B.tuple PyProof.Rows.boot_tuple (ac (dF jP rfl (bZ (pm0 GH (pv 0) T.cl y)) (λ_ _ _ _=>fh (ax (pT K cPa (hun y)) (au (r:=aQ K) aB (pv 0) ai (λ_ _=>rfl)) (pv 1) (ay _))) (λ_ _ _ _=>au (r:=aQ K) aB (pv 0) ai (λ_ _=>rfl))) af)))
   (ag (aO (pm a8 (pv 1) DH.cl y (ac (aF (ac aA (ac (pv 2) (ac (aX cI rfl B.tuple PyProof.Rows.boot_tuple (ac (pv 3) af)) (ac (pv 4)
    (ac (aX cI rfl B.tuple PyProof.Rows.boot_tuple (ac (aK (jv (R:=λH=>sPa K H) AV (λe h=>h.keep e) (λok q r=>Bb ok q r) rfl (hun (c:=3) y)) rfl B.sorted PyProof.Rows.boot_sorted (ac (uP (gq (cT y) (aq (pv 0) rfl) (pv 2) (λ_ _=>rfl))) af)) af)) af)))))) af)))
   (aj (aO (uQ (cT y) (aq (pv 0) rfl) (pv 2) ⟨ϱ,ϱ,ϱ,ϱ⟩)))))) aC)
  (cX (u:=λD σ H1=>∃x4 J I d' x',σ=[some (.ref W.l),some (.ref h.l),some (.ref b.pa),some (.ref ht),x4]/\Gs C CS CH CL CV K H b (shL CH b.A.l h [] [] .non) d ⟨W,Y,vs,o,nKs es,ak,m,Z⟩ H1 (shL CH b.A.l h J [] I) d' x'/\∀u G,Gs C CS CH CL CV K H b (shL CH b.A.l h [] [] .non) d ⟨W,Y,vs,o,nKs es,ak,m,Z⟩ G (shL CH b.A.l h J [u] I) d' x'->∀σ',D.nx σ' G)
   (aj (aO (pm GS (pv 1) DH.cl y (ac (au (r:=aQ K) aB (pv 2) ai (λ_ _=>rfl)) (ac aA (ac (pv 2) (ac (aF af) af))))))) ?s1),?_⟩
 case s1 =>
  rintro D σ H1 ⟨x4,J,I,d',x',rfl,g,nx⟩
  refine ⟨_,ϱ,h.l,h.dx,_,ϱ,g.sh,iJ θ,_,ϱ,b.pa,_,_,_,ϱ,ϱ,SqT.of g.wo.pa,St.at0,_,ϱ,χ,λt br=>?_⟩
  have s2:=ah (o:=.tup []) br
  have g2:=g.same n s2
  exact ⟨b.A.l,h,J,[],I,(b.p.1,"yes",b.pa,t),stL b.p b.z b.A d'++wtL CL b x',ϱ,(g2.self dH).ow,(by show 0<=900;decide),λu G o' hw=>nx u G (g2.trans ⟨o',g2.wo.im n o'.im⟩) _⟩
 refine ⟨_,ϱ,W.l,W.dx,_,ϱ,g0.wo.wi,fb θ,_,ϱ,W,b.home,b.many,b.A,d,_,b.p,b.z,ϱ,g0.wo.wi,g0.sa,er,g0.wo.pa,λH1 s1=>⟨_,ϱ,cu ?_⟩⟩
 have g1:=g0.same n s1
 have dg:=DGet.t (k:=pk b.p) g1.an g1.wo.pa
 rw [db] at dg
 refine ⟨_,ϱ,_,ϱ,W.l,CV,W.dx,_,_,ϱ,g1.wo.wi,T.cl,T.an,gU,W.an,_,ϱ,dg,_,ϱ,?_⟩
 obtain ⟨od,oa⟩:=o
 cases oa with
 | none=>exact cu (cu (q2 rfl H1 s1))
 | some aa =>
 cases od with
 | none=>exact absurd (g0.wo.n1 rfl).2 (by intro z;cases z)
 | some dd =>
 refine aT ⟨_,ϱ,_,ϱ,W.l,CV,W.dx,_,_,ϱ,g1.wo.wi,T.cl,T.pe,lP,W.pe,_,ϱ,DGet.t (k:=pk b.p) g1.pe g1.wo.pa,_,ϱ,aT ?_⟩
 refine ⟨_,ϱ,W.l,W.dx,_,ϱ,g1.wo.wi,fb θ,W,b.home,b.many,b.A.l,_,ϱ,g1.wo.wi,g1.ls,(by rw [ν];exact Λ a0 ζ),⟨_,eJ b.p _⟩,λq0 H2 bt s2 _ a3 pu=>⟨q0,ϱ,⟨_,SqL.of a3⟩,?_⟩⟩
 have lu:=pu.len
 rw [ν] at lu
 refine cJ (xs:=bt) (λi L G=>Same H2 G) (Same.refl _) (Λ (by rw [← lu];exact a0) ζ) (λi L G _ z=>SqL.of (z _ _ a3)) ?_ ?_
 ·rintro i u L H3 hu s3
  obtain ⟨k,ek,rk⟩:=pu.get hu
  rw [List.getElem?_map] at ek
  obtain ⟨k',ct,rfl⟩:=Option.map_eq_some_iff.mp ek
  obtain ⟨a,u1,u2,rfl,ha,r1,r2⟩:=cPr.keep s3.ts rk
  refine ⟨_,ϱ,a,_,_,_,ϱ,ϱ,ha.sq,St.at0,_,ϱ,b.p,b.p,r1,iV (k:=b.p) (s3 _ _ (s2 _ _ g1.wo.pa)),_,ϱ,?_⟩
  rw [τ rfl]
  exact cu ⟨_,ϱ,a,_,_,_,ϱ,ϱ,ha.sq,St.at1,s3⟩
 ·rintro L H3 s3 p3 bN
  have s4:=ah (o:=.lst L) bN
  refine ⟨p3,L,ϱ,.inl ⟨SqL.of ae,λt bA=>?_⟩⟩
  have s5:=ah (o:=.tup L) bA
  have a1:=s2.trans (s3.trans (s4.trans s5))
  have O:=g1.same n a1
  have bg:DGet (upd (upd H3 p3 (.lst L)) t (.tup L)) W.dr (.ref b.pa) (some (.ref dd)):=by
   have:=DGet.t (k:=pk b.p) O.dr O.wo.pa
   rw [db] at this
   exact this
  refine ⟨_,ϱ,h.l,h.dx,_,ϱ,O.sh,iJ θ,_,ϱ,_,ϱ,ht,xs,ϱ,.inr ⟨SqT.of (a1 _ _ (s1 _ _ aR)),?_⟩⟩
  refine ⟨_,ϱ,_,ϱ,W.l,CV,W.dx,_,_,ϱ,O.wo.wi,T.cl,T.dr,lQ,_,ϱ,W.dr,_,ϱ,bg,dd,_,ϱ,O.dd rfl,λvw bB=>?_⟩
  have s6:=ah (o:=Vw vw dd) bB
  refine ⟨vw,dd,es,ϱ,ae,Dq (s6 _ _ (O.dd rfl)),b0,λH7 l7 y7 s7 bC p7=>?_⟩
  have s8:=ah (o:=.lst y7) bC
  refine ⟨l7,y7,ϱ,.inl ⟨SqL.of ae,λl9 bG=>⟨χ,λr bI=>?_⟩⟩⟩
  have s9:=ah (o:=.tup y7) bG
  have U:=ah (o:=.tup [.str "ready",.ref b.pa,.ref ht,.ref t,.ref l9]) bI
  have x:=O.same n (s6.trans (s7.trans (s8.trans (s9.trans U))))
  have bi:RxAt K (upd (upd (upd H7 l7 (.lst y7)) l9 (.tup y7)) r (.tup [.str "ready",.ref b.pa,.ref ht,.ref t,.ref l9])) b.p b.z r (.rdy (bO ltP es)):=⟨b.pa,_,_,.ref l9,ae,x.wo.pa,l9,y7,ϱ,.inl (U _ _ ae),Paired.mapP p7 λ_ _ z=>z.keep (s9.trans U).ts⟩
  refine ⟨b.p,b.z,b.A,h,d,[],[],.non,r,.rdy (bO ltP es),wtL CL b ⟨W,Y,vs,(some dd,some aa),nKs es,ak,m,Z⟩,ϱ,(x.self dH).ow,x.wo.si,bi,⟨(λc hc=>by cases hc),(λ_ _=>er),(λ_ _ z=>by cases z),(λ_ _ _ z=>by cases z),len,aS⟩,(by show 0<=900;decide),λb' I X a5 a6 nw=>?_⟩
  have j:=x.trans (S':=shL CH b.A.l h [r] [] I) ⟨a5,(x.wo.im n a5.im).wsi a6⟩
  refine ⟨_,ϱ,W.l,CV,W.dx,_,_,ϱ,j.wo.wi,T.cl,T.an,gU,W.an,ϱ,.inr ⟨_,.inl j.an⟩,_,ϱ,pk b.p,b.pa,.ref aa,ϱ,j.wo.pa,j.an,?_⟩
  have a2:ImS CH CL X (upd X W.an (.dT [])):=cH bn j.an id
  have bl:Gs C CS CH CL CV K H b (shL CH b.A.l h [] [] .non) d ⟨W,Y,vs,(some dd,some aa),nKs es,ak,m,Z⟩ (upd X W.an (.dT [])) (shL CH b.A.l h [r] [] I) (d.kp r b' (.rdy (bO ltP es))) ⟨W,Y,vs,(some dd,none),nKs es,[],m,Z⟩ :=
   ⟨(j.ow.up 13 (.dT []) rfl).sub (List.sublist_append_left _ [(aa,HO.dK ak)]),(j.wo.od (o:=(some dd,none)) (dk:=nKs es) (ak:=[]) (λz=>by cases z) (λ_=>rfl)).im n a2⟩
  exact ⟨_,_,I,_,_,ϱ,bl,λu G g' _=>q4 aa rfl dd r u I G g'⟩
section
variable {N:List Addr}{H0 H H':Hp}{b:Bx}{d:Sx}{x:Wx}{h:Ah}{rs:List Addr}{us:List V}{v:V}
theorem fE:∀u∈([]:Cs),¬Im CH CL u.2:=λ_ h=>nomatch h
theorem Gd.sheet(g:Gd C CS CH CL CV K N H0 H b [] d x)(n:Nq C CS CH CL CV)(o:Ow CH CL [] H H' (shL CH b.A.l h [] [] .non)):Gd C CS CH CL CV K N H0 H' b (shL CH b.A.l h [] [] .non) d x:=⟨g.ow.join o,g.wo.im n o.im⟩
theorem Gd.drop{S:Cs}(g:Gd C CS CH CL CV K N H0 H b S d x):Gd C CS CH CL CV K N H0 H b [] d x:=⟨g.ow.tail,g.wo⟩
end
theorem xS{α:Type} [DecidableEq α]{c:Cod α}{H:Hp}:∀{xs:List α} {us vs:List V},Paired (c.rp K H) xs us->Paired (c.rp K H) xs vs->Paired (λx y=>EqIs K c.n H x y true) us vs
 | [],_,_,.nil,.nil=>.nil
 | x::_,_,_,.cons h t,.cons h2 t2=>.cons (by have:=c.eq h h2;rw [τ rfl] at this;exact this) (xS t t2)
theorem zI{H:Hp}{es:List (Pa×Str)}{u v:V}(h1:NwAt K H es u)(m:NwAt K H es v):EqIs K 3 H u v true:=by
 obtain ⟨t,o,rfl,g,h⟩:=h1
 obtain ⟨q,i,rfl,d,j⟩:=m
 refine (j9 (n:=2) (SqT.of g) (SqT.of d) ?_).1
 have l:∀{e:List (Pa×Str)} {f vs:List V},Paired (sPS K H) e f->Paired (sPS K H) e vs->Paired (λx y=>EqIs K 2 H x y true) f vs:=by
  intro e f vs q1
  induction q1 generalizing vs with
  | nil=>intro q2;cases q2;exact .nil
  | cons a t ih =>
   intro q2
   cases q2 with
   | cons b r =>
    refine .cons ?_ (ih r)
    have z:=(cPS.eq (sPS.c a) (sPS.c b)).mono (show cPS.n<=2 by decide)
    rwa [τ rfl] at z
 exact l h j
theorem Bm{N:List Addr}{H0 H H':Hp}{L:Cs}{a:Addr}{o:HO}(g:Ow CH CL N H0 H L)(k:Kp a H H')(e:H a=some o)(i:¬Im CH CL o)(n:a∉ad L)(h:a∈N\/H0 a=none):Ow CH CL N H0 H' L :=
 ⟨λx hx=>k _ _ (λz=>n (z▸ϑ.mpr ⟨x,hx,ϱ⟩)) (g.co x hx),g.nd,g.mu,g.nw,λb u nb z=>k b u (λy=>by
  rcases h with m | m
  ·exact nb (y▸m)
  ·rw [y,m] at z;cases z) (g.fr b u nb z),λb u z w=>k b u (λy=>by
  have:=g.im b u z w
  rw [y,e] at this
  cases this
  exact i w) (g.im b u z w)⟩
theorem Gd.ext{N:List Addr}{H0 H H':Hp}{b:Bx}{S:Cs}{d:Sx}{x:Wx}{a:Addr}{o:HO}(g:Gd C CS CH CL CV K N H0 H b S d x)(n:Nq C CS CH CL CV)(k:Kp a H H')(e:H a=some o)(i:¬Im CH CL o)(na:a∉ad (S++(stL b.p b.z b.A d++wtL CL b x)))(h:a∈N\/H0 a=none):Gd C CS CH CL CV K N H0 H' b S d x:=⟨Bm g.ow k e i na h,g.wo.im n (cH k e i)⟩
theorem Gd.out{N:List Addr}{H0 H:Hp}{b:Bx}{S:Cs}{d:Sx}{x:Wx}{a:Addr}{o:HO}(g:Gd C CS CH CL CV K N H0 H b S d x)(e:H0 a=some o)(n:a∉N):H a=some o/\a∉ad (S++(stL b.p b.z b.A d++wtL CL b x)) :=
 ⟨g.ow.fr a o n e,λhm=>by
  obtain ⟨y,hy,z⟩:=ϑ.mp hm
  rcases g.ow.nw y hy with m | m
  ·exact n (z▸m)
  ·rw [show y.1=a from z,e] at m;cases m⟩
theorem Gd.more{N:List Addr}{H0 H:Hp}{b:Bx}{S:Cs}{d:Sx}{x:Wx}{a:Addr}(g:Gd C CS CH CL CV K N H0 H b S d x):Gd C CS CH CL CV K (a::N) H0 H b S d x :=
 ⟨⟨g.ow.co,g.ow.nd,g.ow.mu,λu hu=>(g.ow.nw u hu).imp (λz=>Θ _ z) id,λc u nc e=>g.ow.fr c u (λz=>nc (Θ _ z)) e,g.ow.im⟩,g.wo⟩
def Dg(n:Nat)(dk:List (Key×V)):Prop:=∀kv∈dk,∃c v,kv=((.inl c:Key),V.int v)/\0<=c/\c<n
theorem Dg.es{n:Nat}:∀{dk:List (Key×V)},Dg n dk->∃es,dk=nKs es/\∀c∈es,0<=c.1/\c.1<n
 | [],_=>⟨[],rfl,λ_ h=>nomatch h⟩
 | kv::r,h=>by
  obtain ⟨c,v,rfl,h1⟩:=h kv (.head _)
  obtain ⟨es,rfl,h2⟩:=Dg.es (dk:=r) λy hy=>h y (.tail _ hy)
  refine ⟨(c,v)::es,ϱ,λy hy=>?_⟩
  rcases ϕ.mp hy with z | z
  ·rw [z];exact h1
  ·exact h2 y z
theorem Dg.dri{n:Nat}{dk:List (Key×V)}(h:Dg n dk):DrI dk:=λc v e=>by
 obtain ⟨kv,e1,rfl⟩:=Option.map_eq_some_iff.mp e
 obtain ⟨c',v',rfl,_⟩:=h kv (List.mem_of_find?_eq_some e1)
 exact ⟨v',ϱ⟩
theorem Dg.step{n:Nat}{dk:List (Key×V)}{ch:List (Int×Int)}(h:Dg n dk)(l:ch.length<=1)(i:∀c∈ch,0<=c.1/\c.1<n):Dg n (aL dk (aL [] (chK ch)))/\(aL dk (aL [] (chK ch))).length<=dk.length+1:=by
 match ch,l with
 | [],_=>exact ⟨h,Nat.le_succ _⟩
 | [(c,v)],_ =>
  show Dg n (bM dk (.inl c) (.int v))/\(bM dk (.inl c) (.int v)).length<=_
  refine ⟨λg b=>?_,cO _ _ _⟩
  unfold bM at b
  split at b
  ·obtain ⟨y,e,rfl⟩:=ϑ.mp b
   obtain ⟨d,f,rfl,h1⟩:=h y e
   split
   ·exact ⟨d,v,ϱ,h1⟩
   ·exact ⟨d,f,ϱ,h1⟩
  ·rcases List.mem_append.mp b with z | z
   ·exact h g z
   ·rw [ϵ.mp z];exact ⟨c,v,ϱ,i _ (.head _)⟩
theorem sN{j k d:Lk}(h:bH j k=true)(hb:aG j d=true):aG k d=true:=by
 obtain ⟨a,j1,j2⟩:=j
 obtain ⟨b,f,g⟩:=k
 obtain ⟨c,l1,i⟩:=d
 unfold bH at h
 unfold aG at hb ⊢
 simp only [Bool.and_eq_true,Bool.or_eq_true,decide_eq_true_eq] at h hb ⊢
 rcases hb with hb | hb
 ·exact .inl ω
 ·refine .inr ?_
  have e:=h.2
  revert hb e
  cases a<;>cases b<;>cases c<;>decide
theorem z9(b:List Lk)(k d:Lk):((mY b k).all λj=>aG j d)=((b.all λj=>aG j d)&&aG k d):=by
 unfold mY
 split
 ·next h =>
  cases e:b.all λj=>aG j d with
  | false=>rfl
  | true =>
   obtain ⟨j,f,g⟩:=List.any_eq_true.mp h
   rw [sN g (List.all_eq_true.mp e j f)]
   rfl
 ·rw [List.all_append]
  simp
structure Lx(CL:Addr)(K:Frag)(H:Hp)(b:Bx)(d:Sx)(x:Wx)(la:Addr)(ls:List V)(lks:List Lk):Prop where
 h:H la=some (.lst ls)
 n:la∉ad (stL b.p b.z b.A d++wtL CL b x)
 p:Paired (cLk.rp K H) lks ls
 l:lks.length<=100
 m:∀c,(lks.all λj=>aG j c)=x.due.all λj=>aG j c
def O3(x:Wx):Prop:=x.o=(none,none)\/(∃dd aa,x.o=(some dd,some aa))\/∃dd,x.o=(some dd,none)
def yq(d:Sx):Prop:=∀c∈d.rc,0<=c.1/\c.1<d.cells.length
inductive v7 (C:Kd->Addr) (CS CH CL CV:Addr) (K:Frag) (vs:List V) (H:Hp) (Q:VK) (E:XK):Prop|mk b d x ya y o:vs=[.ref (x:Wx).W.l,.ref (b:Bx).A.l,.ref ya,.str o]->Gs C CS CH CL CV K H b [] d x H [] d x->x.due.length<=900->d.en.length<=60->d.ws.length<=900->cr d.en y=none->yq d->(((ya=b.pa/\y=b.p/\O3 x/\∀W' dl H',(W':Aw).l=x.W.l->Gs C CS CH CL CV K H b [] d x H' [] (d.kp 0 0 (.fin b.p o)) (x.off W' dl)->Q .non H')\/(ya=b.za/\y=b.z/\decide (o=("done":Str))=false/\∀W' dl H',(W':Aw).l=x.W.l->Gs C CS CH CL CV K H b [] d x H' [] (d.kp 0 0 (.fin b.z o)) ⟨W',dl,x.vs,x.o,x.dk,x.ak,x.due,x.cz⟩->Q .non H')))->v7 C CS CH CL CV K vs H Q E
theorem Bt{fI:Addr}{dI:FuncData}(F:Fun K "_law_ended" "_law_ended" gj f fd)(T:TxV K CV)(DH:TxH K CH)(n:Nq C CS CH CL CV)(MH:L2.Mk K CH fI)(a7:mg "Sheet"=some (.ref CH))(a8:FnOk P w K mg base CX0 1 fI dI ["self","stand"] (i7 CH CL))(ab:Binds K dI ["self","stand"] [])
  (u:GM P w K mg base CX0 3 CH "row" ["self","row"] (jD CS CH CL K))(ak:GM P w K mg base CX0 6 CV "ended" ["self","sheet","p"] (pi C CS CH CL CV K)):FnOk P w K mg base CX0 7 f fd ["_law_works","_law_stand","_law_p","_law_outcome"] (v7 C CS CH CL CV K):=by
 refine F.oj sc__law_ended λbm A0 U s H vs Q E X h=>?_
 obtain ⟨b,d,x,j,y,o,rfl,g0,I,len,J,en,rc,two⟩:=h
 have nd:=sc__law_ended.nd
 have L:Room (1+1) _:=X.mono ζ
 refine ⟨_,ag (aD (i:=4) nd rfl (Or.inl rfl) (ba MH a8 L rfl a7 ab .nil bb (ac (pv 1) af)))
  (ag (aO (pm u (pv 4) DH.cl X (ac (aF (ac aA (ac (pv 2) (ac (pv 3) (ac (aF af) af))))) af)))
  (aj (aO (pm ak (pv 0) T.cl X (ac (pv 4) (ac (pv 2) af)))))),?_⟩
 have hy:PaA H y j/\(y≠b.p->decide (o=("done":Str))=false):=by
  rcases two with ⟨rfl,rfl,_⟩ | ⟨rfl,rfl,e,_⟩
  ·exact ⟨g0.wo.pa,λz=>absurd rfl z⟩
  ·exact ⟨g0.wo.za,λ_=>e⟩
 refine sq λn1 k1=>⟨_,ϱ,λl dx nl Y bA=>⟨l,dx,b.A.l,ϱ,ae,λh H4 eh o4=>⟨ϱ,k1 _ _ (sq λn2 k2=>?_)⟩⟩⟩
 have ob:=o4.born (kr nl Y) nl
 subst eh
 have g4:=g0.sheet n ob
 refine ⟨_,ϱ,h.l,h.dx,_,ϱ,g4.sh,iJ θ,_,ϱ,_,ϱ,χ,λG Z=>⟨χ,λr a0=>?_⟩⟩
 have s5:=ah (o:=.tup []) Z
 have s6:=ah (o:=.tup [.str "end",.ref j,.str o,.ref G]) a0
 have m:=g4.same n (s5.trans s6)
 have O:RxAt K (upd (upd H4 G (.tup [])) r (.tup [.str "end",.ref j,.str o,.ref G])) b.p b.z r (.fin y o):=⟨j,.ref G,ae,m.ow.ts _ _ hy.1,hy.2⟩
 refine ⟨b.p,b.z,b.A,h,d,[],[],.non,r,.fin y o,wtL CL b x,ϱ,(m.self dH).ow,m.wo.si,O,⟨λc hc=>?_,(λ_ z=>by cases z),(λ_ _ z=>by cases z;exact en),(λ_ _ _ z=>by cases z),len,J⟩,(by show 0<=900;decide),λb' v' H7 o7 a1 nw=>k2 _ _ ?_⟩
 ·have g:c∈if o="done"/\d.rd.isSome=true then d.rc else []:=hc
  split at g
  ·exact rc c g
  ·cases g
 have D:=m.trans (S':=shL CH b.A.l h [r] [] v') ⟨o7,(m.wo.im n o7.im).wsi a1⟩
 refine ⟨_,ϱ,x.W.l,x.W.dx,_,ϱ,D.wo.wi,fb θ,_,ϱ,_,ϱ,b,h,_,[r],[],v',x,j,ϱ,D.self dH,I,?_⟩
 rcases two with ⟨rfl,rfl,eo,q⟩ | ⟨rfl,rfl,_,q⟩
 ·exact .inl ⟨ϱ,eo,λW' dl H8 eW g8=>q W' dl H8 eW (D.trans g8).drop⟩
 ·exact .inr ⟨ϱ,λW' dl H8 eW g8=>q W' dl H8 eW (D.trans g8).drop⟩
inductive v6 (C:Kd->Addr) (CS CH CL CV:Addr) (K:Frag) (Pt:Addr) (vs:List V) (H:Hp) (Q:VK) (E:XK):Prop|mk b d x sc ns Es:vs=[.ref (x:Wx).W.l,.ref (b:Bx).A.l,.ref b.pa,.ref sc,.int (d.cells.length:Nat)]->b.Pt=Pt->Gs C CS CH CL CV K H b [] d x H [] d x->x.o=(none,none)->x.due=[]->d.rd=none->d.rc=[]->d.en=[]->d.ws=[]->1<=d.cells.length->d.cells.length<=8->((∀u∈(Es:Cs),H u.1=some u.2/\u.1∉ad (stL b.p b.z b.A d++wtL CL b x)))->((∀H',(∀u∈Es,H' u.1=some u.2)->SqL K H' sc ((ns:List Int).map V.int)))->(∀d' x' la ls lks H',Gs C CS CH CL CV K H b [] d x H' [] d' x'->H la=none->Lx CL K H' b d' x' la ls lks->d'.cells=d.cells->d'.ws=[]->d'.en=[]->O3 x'->x'.due.length<=3->x'.W=x.W->yq d'->Q (.ref la) H')->v6 C CS CH CL CV K Pt vs H Q E
structure Hi(C:Kd->Addr)(CS CH CL CV:Addr)(K:Frag)(H:Hp)(b:Bx)(d:Sx)(x:Wx)(la:Addr)(i:Nat)(H':Hp)(d':Sx)(x':Wx)(ls:List V)(lks:List Lk):Prop where
 g:Gs C CS CH CL CV K H b [] d x H' [] d' x'
 lx:Lx CL K H' b d' x' la ls lks
 ll:lks.length<=i
 cl:d'.cells=d.cells
 ws:d'.ws=[]
 en:d'.en=[]
 rd:d'.rd=none
 rc:d'.rc=[]
 o:x'.o=(none,none)\/∃dd aa,x'.o=(some dd,some aa)
 du:x'.due.length<=i
 eW:x'.W=x.W
 dg:Dg d.cells.length x'.dk
 ld:x'.dk.length<=i
 lk:x'.ak.length<=i
 non:∀j:Int,i<=j->bx x'.ak (.inl j)=none
theorem Bs{Pt fI:Addr}{dI:FuncData}(F:Fun K "_law_held" "_law_held" hO f fd)(B:TxB mg)(T:TxV K CV)(n:Nq C CS CH CL CV)(MH:L2.Mk K CH fI)(bI:mg "Sheet"=some (.ref CH))(bN:FnOk P w K mg base CX0 1 fI dI ["self","stand"] (i7 CH CL))(bP:Binds K dI ["self","stand"] [])
  (GA:GF P w K mg base CX0 1 "_law_cell_at" ["_law_script","_law_k"] (pz K))(dl:GF P w K mg base CX0 2 "_law_step" ["_law_cell","_law_many"] lD)(dp:GF P w K mg base CX0 1 "_law_lock" ["_law_text"] (tD K))
  (ds:GM P w K mg base CX0 8 CV "work" ["self","sheet","p","i","hand","text"] (rG C CS CH CL CV K Pt))(dt:GM P w K mg base CX0 7 CV "ready" ["self","sheet","p","houses"] (o5 C CS CH CL CV K)):FnOk P w K mg base CX0 9 f fd ["_law_works","_law_stand","_law_p","_law_script","_law_many"] (v6 C CS CH CL CV K Pt):=by
 refine F.oj sc__law_held λe9 A0 cx s H vs Q E Z h=>?_
 obtain ⟨b,d,x,sc,U,E1,rfl,c2,g0,eo,aS,c4,c5,ca,cc,l1,l8,hE,Y,q⟩:=h
 have nd:=sc__law_held.nd
 have b0:Room (1+1) _:=Z.mono ζ
 refine ⟨_,ag (aD (i:=5) nd rfl (Or.inl rfl) (bE af))
  (ag (hW PassesOwn.never rfl (cN rfl B.range (ac (aH bQ (pc GA Z (ac (pv 3) (ac ai af))) ai) af)) (b7 (i:=6) nd rfl (Or.inl rfl))
   (ag (aD (i:=7) nd rfl (Or.inl rfl) (pc dl Z (ac (pc GA Z (ac (pv 3) (ac (aH dX ai (pv 6)) af))) (ac (pv 4) af))))
   (ag (aO (pm ds (pv 0) T.cl Z (ac (ba MH bN b0 rfl bI bP .nil bb (ac (pv 1) af)) (ac (pv 2) (ac (pv 6) (ac (aH bQ (aH bw (pc GA Z (ac (pv 3) (ac ai af))) ai) (aH sd ai ai)) (ac (pv 7) af)))))))
   (aj (aO (gK PySem.F.plainAttrs_list PySem.F.slot_list_append PySem.F.type_list_append eL (pv 5) (ac (pc dp Z (ac (pv 7) af)) af)))))))
  (ag (aI (ax bf (aH bQ (aH bw (pc GA Z (ac (pv 3) (ac ai af))) ai) ai) ai (ay _)) (aj (aO (pm dt (pv 0) T.cl Z (ac (ba MH bN b0 rfl bI bP .nil bb (ac (pv 1) af)) (ac (pv 2) (ac (aF (ac ai af)) af)))))) aC)
  (aj (aw (pv 5))))),?_⟩
 have bd:x.dk=[]:=(g0.wo.n1 (by rw [eo])).1
 have bg:x.ak=[]:=g0.wo.n2 (by rw [eo])
 refine sq λnA kA=>⟨χ,λla n1=>kA _ _ (sq λnB kB=>?_)⟩
 have s1:=ah (o:=.lst []) n1
 have cf:=Y _ λu X=>s1 _ _ (hE u X).1
 obtain ⟨M,hM,cd⟩:∃M:Nat,bL U 1%4=(M:Int)/\M<=3:=by
  have h0:0<=bL U 1%4:=Int.emod_nonneg _ ζ
  have h3:bL U 1%4<4:=Int.emod_lt_of_pos _ ζ
  exact ⟨(bL U 1%4).toNat,ω,ω⟩
 refine ⟨_,ϱ,sc,U,1,ϱ,cf,_,_,ϱ,ϱ,(by show (0:Int)<4;decide),(M:Int),congrArg (λz=>[V.int z]) hM,ω,ω,?_⟩
 rw [Int.toNat_natCast]
 refine iw (n:=M) (λi σ H'=>∃y6 y7 d' D ls y,σ=[some (.ref x.W.l),some (.ref b.A.l),some (.ref b.pa),some (.ref sc),some (.int (d.cells.length:Nat)),some (.ref la),y6,y7]/\Hi C CS CH CL CV K H b d x la i H' d' D ls y)
  ⟨_,_,d,x,[],[],ϱ,g0.same n s1,⟨ae,g0.ow.free n1,.nil,ϖ _,λc=>by rw [aS]⟩,ι _,ϱ,cc,ca,c4,c5,.inl eo,(by rw [aS];exact ι _),ϱ,(by rw [bd];exact λ_ z=>nomatch z),(by rw [bd];exact ι _),(by rw [bg];exact ι _),by rw [bg];exact λ_ _=>rfl⟩ ?_ ?_
 ·rintro i σ H1 hi ⟨y6,y7,d',D,ls,y,rfl,I⟩
  rw [Int.zero_add]
  have g:=I.g
  have lx:=I.lx
  have e3:=I.ll
  have bi:=I.du
  have bl:=I.ld
  have ch:=I.lk
  have eW:=I.eW
  have a4:=Y H1 λu X=>(g.out (hE u X).1 (hE u X).2).1
  refine sq λnC kC=>⟨_,ϱ,_,ϱ,_,_,ϱ,ϱ,sc,U,2+i,congrArg (λz:Int=>[V.ref sc,V.int z]) ω,a4,_,ϱ,_,_,ϱ,l1,l8,λwd a6 H2 s2 ar ic=>kC _ _ (sq λnD kD=>?_)⟩
  have g2:=g.same n s2
  refine ⟨_,ϱ,D.W.l,D.W.dx,_,(by rw [eW]),g2.wo.wi,fb θ,_,ϱ,λl dx nl a8 d4=>⟨l,dx,b.A.l,ϱ,ae,λh H3 eh o3=>⟨ϱ,?_⟩⟩⟩
  have ob:=o3.born (kr nl a8) nl
  subst eh
  have g3:=g2.sheet n ob
  have a5:=(g2.self fE).sheet n ob
  have cs:=Y H3 λu X=>(g3.out (hE u X).1 (hE u X).2).1
  refine ⟨_,ϱ,_,ϱ,_,ϱ,sc,U,1,ϱ,cs,_,_,ϱ,ϱ,⟨ζ,ζ⟩,_,_,ϱ,ϱ,⟨ζ,ζ,ζ⟩,_,_,ϱ,ϱ,(by show (0:Int)<10 ^ 40;decide +kernel),_,ϱ,b,h,d',[],[],.non,i,bL U 1/4%10 ^ 40,wd,a6,D,(by rw [eW];rfl),c2,g3.self dH,ar,by rw [I.cl];exact ic,by rw [I.cl];omega,(by rw [I.ws];exact ϖ _),I.rd,(by rw [I.en];exact ϖ _),I.dg.dri,ω,ω,(by show 0<=100;decide),(by show 0<=100;decide),ω,I.non i (Int.le_refl _),λlk dd aa c ei ej d2 ek v' H5 da g5 ed=>kD _ _ ?_⟩
  have gA:=(g3.trans g5).drop
  have gB:=(a5.trans g5).drop
  obtain ⟨G,J⟩:=gB.out (s2 _ _ lx.h) lx.n
  have L:d2.cells=d.cells/\d2.ws=[]/\d2.en=[]/\d2.rd=none/\d2.rc=[]:=by
   rcases ed with rfl | rfl
   ·exact ⟨I.cl,I.ws,I.en,I.rd,I.rc⟩
   ·exact ⟨I.cl,I.ws,I.en,I.rd,I.rc⟩
  have p5:Paired (cLk.rp K H5) y ls:=Paired.mapP lx.p λ_ _ z=>cLk.keep gB.ow.ts (cLk.keep s2.ts z)
  refine ⟨_,ϱ,.inl ⟨ϱ,_,SqL.of G⟩,_,ϱ,_,wd,a6,ϱ,ar,ic,λep v2 H6 e6 s6 r6=>?_⟩
  rw [da] at e6
  cases e6
  have O:=s6 _ _ G
  have g6:=gA.same n s6
  refine ⟨la,ls,_,ϱ,ϱ,O,Nat.lt_of_le_of_lt (by rw [← lx.p.len];exact lx.l) ζ,?_⟩
  obtain ⟨k1,k2⟩:=I.dg.step (yb (eM D.dk d'.cells) wd a6 (bL U 1/4%10 ^ 40)) (sJ ar ic)
  have tu:=iL (o':=.lst (ls++[v2])) O
  refine ⟨_,_,d2,_,ls++[v2],y++[lk],ϱ,g6.ext n bn O id J (.inr n1),⟨ae,J,(Paired.mapP p5 λ_ _ z=>cLk.keep tu (cLk.keep s6.ts z)).app (.cons (cLk.keep tu r6) .nil),?_,λc'=>?_⟩,?_,L.1,L.2.1,L.2.2.1,L.2.2.2.1,L.2.2.2.2,.inr ⟨dd,aa,ϱ⟩,?_,eW,k1,?_,?_,λj hj=>?_⟩
  ·rw [List.length_append];show y.length+1<=100;omega
  ·show _=((mY D.due lk).all λj=>aG j c')
   rw [z9,List.all_append,lx.m c']
   simp
  ·rw [List.length_append];show y.length+1<=i+1;omega
  ·have:=zZ D.due lk;show (mY D.due lk).length<=i+1;omega
  ·exact Λ k2 (Nat.succ_le_succ bl)
  ·exact Λ (cO _ _ _) (Nat.succ_le_succ ch)
  ·show bx (bM D.ak (.inl (i:Int)) _) _=none
   rw [lR,if_neg (λz=>by cases z;omega)]
   exact I.non j ω
 ·rintro σ H1 ⟨y6,y7,d',D,ls,y,rfl,I⟩
  have g:=I.g
  have bl:=I.ld
  have bi:=I.du
  refine kB _ _ (sq λnC kC=>?_)
  have a0:∀H2,Same H1 H2->nC [some (.ref x.W.l),some (.ref b.A.l),some (.ref b.pa),some (.ref sc),some (.int (d.cells.length:Nat)),some (.ref la),y6,y7] H2:=λH2 s2=>kC _ _ ⟨_,ϱ,q d' D la ls y H2 (g.same n s2) n1 ⟨s2 _ _ I.lx.h,I.lx.n,Paired.mapP I.lx.p λ_ _ z=>cLk.keep s2.ts z,I.lx.l,I.lx.m⟩ I.cl I.ws I.en (I.o.imp id .inl) ω I.eW (by unfold yq;rw [I.rc];exact λ_ z=>nomatch z)⟩
  have a4:=Y H1 λu X=>(g.out (hE u X).1 (hE u X).2).1
  refine ⟨_,ϱ,sc,U,1,ϱ,a4,_,_,ϱ,ϱ,⟨ζ,ζ⟩,_,_,ϱ,ϱ,(by show (0:Int)<2;decide),ϱ,_,ϱ,a9 (λ_=>?_) (λ_=>a0 H1 (Same.refl _))⟩
  refine ⟨_,ϱ,D.W.l,D.W.dx,_,(by rw [I.eW]),g.wo.wi,fb θ,_,ϱ,λl dx nl a8 d4=>⟨l,dx,b.A.l,ϱ,ae,λh H3 eh o3=>⟨ϱ,?_⟩⟩⟩
  have ob:=o3.born (kr nl a8) nl
  subst eh
  have g3:=g.sheet n ob
  have a5:=(g.self fE).sheet n ob
  refine ⟨_,ϱ,χ,λht di=>?_⟩
  have s4:=ah (o:=.tup [.int 1]) di
  have g4:=g3.same n s4
  have cw:=a5.same n s4
  obtain ⟨es,aZ,ce⟩:=I.dg.es
  have e7:es.length=D.dk.length:=by rw [aZ];exact (ν _).symm
  refine ⟨b,h,d',D,ht,[.int 1],es,(by rw [I.eW];rfl),g4.self dH,ae,ω,(by rw [I.ws];exact ϖ _),I.rd,(by rw [I.en];exact ϖ _),aZ,ω,λ_ H5 s5=>?_,λaa ea dd r u v' H5 g5=>?_⟩
  ·exact a0 H5 λc o e=>s5 _ _ (s4 _ _ (ob.fr c o (λz=>nomatch z) e))
  ·have gA:=(g4.trans g5).drop
   have gB:=(cw.trans g5).drop
   obtain ⟨G,J⟩:=gB.out I.lx.h I.lx.n
   exact kC _ _ ⟨_,ϱ,q _ _ la ls y H5 gA n1 ⟨G,J,Paired.mapP I.lx.p λ_ _ z=>cLk.keep gB.ow.ts z,I.lx.l,I.lx.m⟩ I.cl I.ws I.en (.inr (.inr ⟨dd,ϱ⟩)) (Λ bi cd) I.eW (λc hc=>by
    have:=ce c (AW c hc)
    show _/\_<(d'.cells.length:Int)
    rw [I.cl]
    exact this)⟩
theorem LtW.keep{w:Str}{us:List V}{H H':Hp}{b:Bx}{u:V}(e:TSame H H')(h:LtW w us H b u):LtW w us H' b u:=let ⟨t,h1,h2⟩:=h;⟨t,h1.keep e,e _ _ h2⟩
def Known(kn:List (Key×V))(ws:List Wt):Prop:=∀i:Int,bx kn (.inl i)=(iX ws i).map λt=>V.int t.v
theorem Known.put{kn:List (Key×V)}{ws:List Wt}(h:Known kn ws)(t:Wt)(e:iX ws t.i=none):Known (bM kn (.inl t.i) (.int t.v)) (ws++[t]):=λj=>by
 rw [lR,h j]
 unfold iX at e ⊢
 rw [List.find?_append]
 by_cases z:j=t.i
 ·subst z
  rw [if_pos rfl,e,List.find?_cons_of_pos (by simp)]
  rfl
 ·rw [if_neg (λy=>z (Sum.inl.inj y)),List.find?_cons_of_neg (by simp;exact λy=>z y.symm)]
  simp
def OutW(K:Frag)(H:Hp)(b:Bx)(d:Sx)(fr:Bool)(i v:Int)(ch:List Pa)(rs:List Addr)(us:List V)(d':Sx):Prop :=
 (∃t u,iX d.ws i=some t/\rs=[]/\us=[u]/\d'=d/\LtW "went" [.int i,.int t.v] H b u) \/
 (iX d.ws i=none/\fr=false/\rs=[]/\us=[]/\d'=d) \/
 (iX d.ws i=none/\fr=true/\∃r b' u,rs=[r]/\us=[u]/\d'=d.kp r b' (.wlk i v ch)/\RxAt K H b.p b.z r (.wlk i v ch)/\LtW "went" [.int i,.int v] H b u)
theorem OutW.keep{H H':Hp}{b:Bx}{d:Sx}{f:Bool}{i v:Int}{ch:List Pa}{g:List Addr}{us:List V}{d':Sx}(e:Same H H')(h:OutW K H b d f i v ch g us d'):OutW K H' b d f i v ch g us d':=by
 rcases h with ⟨t,u,h1,h2,h3,h4,h5⟩ | h | ⟨h1,h0,r,b',u,h2,h3,h4,h5,h6⟩
 ·exact .inl ⟨t,u,h1,h2,h3,h4,h5.keep e.ts⟩
 ·exact .inr (.inl h)
 ·exact .inr (.inr ⟨h1,h0,r,b',u,h2,h3,h4,h5.keep (CH:=0) (CL:=0) (cy e),h6.keep e.ts⟩)
def RwW(K:Frag)(H:Hp)(z:Pa)(rs:List Addr)(ys:List V):Prop:=(rs=[]/\ys=[])\/∃r r2 a a' i v cv c2 us2 ch,rs=[r]/\ys=[.ref r2]/\PaA H z a/\PaA H z a'/\H r=some (.tup [.str "walked",.ref a,.int i,cv,.int v])/\ChT K H ch cv/\H r2=some (.tup [.str "walked",.ref a',.int i,.ref c2,.int v])/\H c2=some (.tup us2)/\Paired (sPa K H) ch us2
theorem RwW.keep{H H':Hp}{z:Pa}{b:List Addr}{ys:List V}(e:ImS CH CL H H')(h:RwW K H z b ys):RwW K H' z b ys:=by
 rcases h with h | ⟨r,r2,a,a',i,v,cv,c2,us2,ch,h1,h2,p1,p2,h3,h4,h5,h6,h7⟩
 ·exact .inl h
 ·exact .inr ⟨r,r2,a,a',i,v,cv,c2,us2,ch,h1,h2,e.ts _ _ p1,e.ts _ _ p2,e.ts _ _ h3,h4.keep e,e.ts _ _ h5,e.ts _ _ h6,Paired.mapP h7 λ_ _ z=>z.keep e.ts⟩
theorem RwW.eq{H:Hp}{z:Pa}{b:List Addr}{ys:List V}(h:RwW K H z b ys):Paired (λx y=>EqIs K 3 H x y true) (b.map V.ref) ys:=by
 rcases h with ⟨rfl,rfl⟩ | ⟨r,r2,a,a',i,v,cv,c2,us2,ch,rfl,rfl,p1,p2,h3,⟨dv,us1,rfl,h4,h5⟩,h6,h7,h8⟩
 ·exact .nil
 have d:EqIs K 1 H (.ref a) (.ref a') true:=by have:=cPa.eq (iV (K:=K) (k:=z) p1) (iV (K:=K) (k:=z) p2);rw [τ rfl] at this;exact this
 have e:SqT K H dv us1:=h4.elim SqT.of λ⟨o,z⟩=>.inl (.inr ⟨o,z⟩)
 have f:=(j9 (K:=K) (n:=1) e (SqT.of h7) (xS (c:=cPa) (Paired.mapP h5 λ_ _ z=>z.c) (Paired.mapP h8 λ_ _ z=>z.c))).1
 exact .cons (j9 (K:=K) (n:=2) (SqT.of h3) (SqT.of h6) (.cons (eq_str 2 _) (.cons (d.mono ζ) (.cons (eq_int 2 _) (.cons f (.cons (eq_int 2 _) .nil)))))).1 .nil
def ZsW(H:Hp)(b:Bx)(i:Int)(nv:V)(ws:List Ws)(zs:List V):Prop:=(ws=[]/\zs=[])\/∃t a2 a3 a4 v,ws=[((b.z.1,("went":Str),b.za,t):Ws)]/\H t=some (.tup [.int i,.int v])/\zs=[.ref a4]/\H a4=some (.tup [.int b.z.1,.ref a3])/\H a3=some (.tup [.str "went",.ref b.za,.ref a2,nv])/\H a2=some (.tup [.int i,.int v])
theorem ZsW.keep{H H':Hp}{b:Bx}{i:Int}{d:V}{f:List Ws}{g:List V}(e:TSame H H')(h:ZsW H b i d f g):ZsW H' b i d f g:=by
 rcases h with h | ⟨t,a2,a3,a4,v,h1,h2,h3,h4,h5,h6⟩
 ·exact .inl h
 ·exact .inr ⟨t,a2,a3,a4,v,h1,e _ _ h2,h3,e _ _ h4,e _ _ h5,e _ _ h6⟩
theorem ZsW.eq{H:Hp}{b:Bx}{i:Int}{e:V}{f:List Ws}{g d:List V}{es:List (Pa×Str)}(h:ZsW H b i e f g)(u:NwAt K H es e)(p:Paired (LtAt K H es) f d):Paired (λx y=>EqIs K 5 H x y true) d g:=by
 rcases h with ⟨rfl,rfl⟩ | ⟨t,a2,a3,a4,v,rfl,h2,rfl,h4,h5,h6⟩
 ·cases p;exact .nil
 ·cases p with
  | cons a c =>
   cases c
   obtain ⟨w,z,j,rfl,l,m,o⟩:=a
   have q:=((j9 (K:=K) (n:=0) (SqT.of h2) (SqT.of h6) (.cons (eq_int 0 _) (.cons (eq_int 0 _) .nil))).1).mono (show 1<=3 by decide)
   have r:=(j9 (K:=K) (n:=3) (SqT.of m) (SqT.of h5) (.cons (eq_str 3 _) (.cons (zW 3) (.cons q (.cons (zI o u) .nil))))).1
   exact .cons (j9 (K:=K) (n:=4) (SqT.of l) (SqT.of h4) (.cons (eq_int 4 _) (.cons r .nil))).1 .nil
def sw(W A ta ka:Addr)(fr:Bool)(nv:V)(za:Addr)(i hand:Int)(tx:Str)(y10 y11 y12 y13 y14 y15 y16:Option V):L2.St:=[some (.ref W),some (.ref A),some (.ref ta),some (.ref ka),some (.bl fr),some nv,some (.ref za),some (.int i),some (.int hand),some (.str tx),y10,y11,y12,y13,y14,y15,y16]
structure Wm(C:Kd->Addr)(CS CH CL CV:Addr)(K:Frag)(H:Hp)(b:Bx)(d:Sx)(x:Wx)(fr:Bool)(i v:Int)(ch:List Pa)(h:Ah)(cl:Addr)(rs:List Addr)(us:List V)(v':V)(d':Sx)(x':Wx)(H1:Hp):Prop where
 g:Gd C CS CH CL CV K (ad (stL b.p b.z b.A d++wtL CL b x)) H H1 b (shL CH b.A.l h rs us v') d' x'
 ex:∃cz,x'=⟨x.W,x.dl,x.vs,x.o,x.dk,x.ak,x.due,cz⟩
 hc:H1 cl=some (.lst (d.cells.map V.int))
 nc:cl∉ad (shL CH b.A.l h rs us v'++(stL b.p b.z b.A d'++wtL CL b x'))
 fc:H cl=none
 lat:v'=.non\/NwAt K H1 (bO ltE d.en) v'
 out:OutW K H1 b d fr i v ch rs us d'
theorem Wm.same{H:Hp}{b:Bx}{d:Sx}{x:Wx}{fr:Bool}{i v:Int}{ch:List Pa}{h:Ah}{cl:Addr}{rs:List Addr}{us:List V}{v':V}{d':Sx}{x':Wx}{H1 H2:Hp}(m:Wm C CS CH CL CV K H b d x fr i v ch h cl rs us v' d' x' H1)(n:Nq C CS CH CL CV)(e:Same H1 H2):Wm C CS CH CL CV K H b d x fr i v ch h cl rs us v' d' x' H2 :=
 ⟨m.g.same n e,m.ex,e _ _ m.hc,m.nc,m.fc,m.lat.imp id λz=>z.keep e.ts,m.out.keep e⟩
structure Pg(d d':Sx)(x x':Wx)(kn kn':List (Key×V)):Prop where
 ex:∃cz,x'=⟨x.W,x.dl,x.vs,x.o,x.dk,x.ak,x.due,cz⟩
 ln:d'.cells.length=d.cells.length
 en:d'.en=d.en
 rc:d'.rc=d.rc
 lw:d'.ws.length<=d.ws.length+1
 lk:kn'.length<=kn.length+1
 kn:Known kn' d'.ws
inductive v4 (C:Kd->Addr) (CS CH CL CV:Addr) (K:Frag) (Pw:Addr) (vs:List V) (H:Hp) (Q:VK) (E:XK):Prop|mk b d x ta i hand wd ns ka kn fr nv:vs=[.ref (x:Wx).W.l,.ref (b:Bx).A.l,.ref ta,.ref ka,.bl fr,nv]->b.Pw=Pw->Gs C CS CH CL CV K H b [] d x H [] d x->H ta=some (.tup [.ref b.za,.int i,.int hand,.str (txt wd ns)])->Ar wd ns->inC d.cells.length wd ns->d.cells.length<=8->d.ws.length<=100->x.due.length<=100->d.en.length<=60->H ka=some (.dK kn)->ka∉ad (stL b.p b.z b.A d++wtL CL b x)->kn.length<=100->Known kn d.ws->((cr d.en b.z=some "broken"->fr=false))->((∀lk,jm wd ns=some lk->cr d.en b.z≠some "broken"->fr=x.due.all λj=>aG j lk))->NwAt K H (bO ltE d.en) nv->(∀d' x' kn' H',Gd C CS CH CL CV K (ka::ad (stL b.p b.z b.A d++wtL CL b x)) H H' b [] d' x'->ka∉ad (stL b.p b.z b.A d'++wtL CL b x')->H' ka=some (.dK kn')->Pg d d' x x' kn kn'->Q (.bl true) H')->v4 C CS CH CL CV K Pw vs H Q E
theorem Bp{Pw fI:Addr}{dI:FuncData}(F:Fun K "_law_walked" "_law_walked" fw f fd)(D:TxD K CS)(T:TxV K CV)(DH:TxH K CH)(n:Nq C CS CH CL CV)(MH:L2.Mk K CH fI)(h3:mg "Sheet"=some (.ref CH))(h4:FnOk P w K mg base CX0 1 fI dI ["self","stand"] (i7 CH CL))(h5:Binds K dI ["self","stand"] [])
  (h7:GM P w K mg base CX0 7 CV "walk" ["self","sheet","p","i","hand","text"] (rH C CS CH CL CV K Pw))(h8:GM P w K mg base CX0 1 CH "rows_told" ["self"] (pd CH))(ha:GM P w K mg base CX0 2 CH "letters_told" ["self"] (rS CS CH K))(GC:GM P w K mg base CX0 1 CS "cells_told" ["self"] (pj CS K))(hd:GF P w K mg base CX0 1 "_law_done" ["_law_cells","_law_hand","_law_text"] (o9 K)) :
  FnOk P w K mg base CX0 8 f fd ["_law_works","_law_stand","_law_told","_law_known","_law_free","_law_news"] (v4 C CS CH CL CV K Pw):=by
 refine F.oj sc__law_walked λhD A0 fv s H vs Q E hr h=>?_
 obtain ⟨b,d,x,ta,i,hand,wd,ns,Y,kn,fr,nv,rfl,et,g0,eu,ar,ic,ev,ey,ez,len,eA,eD,eE,a6,eH,dv,eI,q⟩:=h
 have nd:=sc__law_walked.nd
 have f3:Room (1+1) _:=hr.mono ζ
 obtain ⟨lk,bN⟩:=lO ar ic
 obtain ⟨y,da⟩:∃r,dn (bu d.cells) wd ns hand=r:=⟨_,ϱ⟩
 have dy:=sJ (val:=bu d.cells) (hand:=hand) ar ic
 rw [da] at dy
 refine ⟨_,(ag (rZ (pv 2) (wD (n:=4) rfl (fU (b7 (i:=6) nd rfl (Or.inl rfl)) (fU (b7 (i:=7) nd rfl (Or.inl rfl)) (fU (b7 (i:=8) nd rfl (Or.inl rfl)) (fU (b7 (i:=9) nd rfl (Or.inl rfl)) tN))))))
  (ag (aD (i:=10) nd rfl (Or.inl rfl) (pm0 GC (pv 1) D.cl hr))
  (ag (aD (i:=11) nd rfl (Or.inl rfl) (ba MH h4 f3 rfl h3 h5 .nil bb (ac (pv 1) af)))
  (ag (aO (pm h7 (pv 0) T.cl hr (ac (pv 11) (ac (pv 6) (ac (pv 7) (ac (pv 8) (ac (pv 9) af)))))))
  (cX (u:=λD σ H1=>∃h cl rs I G X x',σ=sw x.W.l b.A.l ta Y fr nv b.za i hand (txt wd ns) (some (.ref cl)) (some (.ref (h:Ah).l)) none none none none none/\Wm C CS CH CL CV K H b d x fr i y.1 y.2 h cl rs I G X x' H1/\∀v H',Q v H'->D.rt v H')
  (ag (aD (i:=12) nd rfl (Or.inl rfl) (bE af))
  (ag (aD (i:=13) nd rfl (Or.inl rfl) (bE af))
  (ag (aI (hV (mz (cT hr) (pv 7) (pv 3)))
   (aj (aD (i:=13) nd rfl (Or.inl rfl) (bE (ac (aF (ac (au (r:=aQ K) aB (pv 6) ai (λ_ _=>rfl)) (ac (aF (ac aA (ac (pv 6) (ac (aF (ac (pv 7) (ac (gq (cT hr) (pv 3) (pv 7) (λ_ _=>rfl)) af))) (ac (pv 5) af))))) af))) af))))
   (aj (aI (cB (pv 4))
    (ag (aD (i:=14) nd rfl (Or.inl rfl) (pc hd hr (ac (pv 10) (ac (pv 8) (ac (pv 9) af)))))
    (ag (aD (i:=12) nd rfl (Or.inl rfl) (bE (ac (aF (ac aA (ac (pv 6) (ac (pv 7) (ac (au (r:=aQ K) aB (pv 14) ai (λ_ _=>rfl)) (ac (au (r:=aQ K) aB (pv 14) ai (λ_ _=>rfl)) af)))))) af)))
    (ag (aD (i:=13) nd rfl (Or.inl rfl) (bE (ac (aF (ac (au (r:=aQ K) aB (pv 6) ai (λ_ _=>rfl)) (ac (aF (ac aA (ac (pv 6) (ac (aF (ac (pv 7) (ac (au (r:=aQ K) aB (pv 14) ai (λ_ _=>rfl)) af))) (ac (pv 5) af))))) af))) af)))
    (ag (jg (cT hr) (pv 3) (pv 7) (au (r:=aQ K) aB (pv 14) ai (λ_ _=>rfl)) rfl)
    (aj (hW PassesOwn.never rfl (wC (au (r:=aQ K) aB (pv 14) ai (λ_ _=>rfl))) (wD (n:=2) rfl (fU (b7 (i:=15) nd rfl (Or.inl rfl)) (fU (b7 (i:=16) nd rfl (Or.inl rfl)) tN))) (aj (rZ (pv 16) (wE (pv 10) (pv 15) qh)))))))))
    aC)))
  (cX (u:=λD σ H1=>∃h cl y14 y15 y16 rs I ws G X x' rl ll ys zs cf,σ=sw x.W.l b.A.l ta Y fr nv b.za i hand (txt wd ns) (some (.ref cl)) (some (.ref (h:Ah).l)) (some (.ref rl)) (some (.ref ll)) y14 y15 y16/\Gd C CS CH CL CV K (Y::ad (stL b.p b.z b.A d++wtL CL b x)) H H1 b (shL CH b.A.l h rs I G) X x'/\Y∉ad (shL CH b.A.l h rs I G++(stL b.p b.z b.A X++wtL CL b x'))/\H1 Y=some (.dK cf)/\Pg d X x x' kn cf/\RwW K H1 b.z rs ys/\H1 rl=some (.lst ys)/\H1 ll=some (.lst zs)/\Paired (WsAt H1) ws I/\ws.length<=900/\ZsW H1 b i nv ws zs/\(G=.non\/NwAt K H1 (bO ltE d.en) G)/\H1 cl=some (.lst (X.cells.map V.int))/\∀v H',Q v H'->D.rt v H')
  (aj (aw (hZ (bv (wP 4 (hun (c:=3) hr)) (pm0 h8 (pv 11) DH.cl hr) (pv 12) (ay _)) (hZ (bv (wP 6 (hun (c:=5) hr)) (pm0 ha (pv 11) DH.cl hr) (pv 13) (ay _)) (eO (bv (pS cInt (hun hr)) (pm0 GC (pv 1) D.cl hr) (pv 10) (ay _))))))) ?vE)))) ?vM))))),?_⟩
 case vM =>
  rintro D σ H0 ⟨h,cl,rs,I,G,X,x',rfl,m0,nx⟩
  refine sq λnA kA=>⟨χ,λrl n1=>kA _ _ (sq λnB kB=>⟨χ,λll n2=>kB _ _ (sq λnC kC=>?_)⟩)⟩
  have s1:=ah (o:=.lst []) n1
  have Z:=ah (o:=.lst []) n2
  have m:=m0.same n (s1.trans Z)
  have aZ:=Z _ _ (ae (H:=H0) (a:=rl) (o:=.lst []))
  have bP:(upd (upd H0 rl (.lst [])) ll (.lst [])) ll=some (.lst []):=ae
  generalize (upd (upd H0 rl _) ll _)=H1 at m aZ bP ⊢
  obtain ⟨J,a7⟩:=m.g.out eA eD
  have f5:=m.g.wo.za
  refine ⟨_,ϱ,_,ϱ,Y,_,ϱ,DGet.k (k:=.inl i) J,_,ϱ,?_⟩
  have dc:=a6 i
  rw [dc]
  rcases m.out with ⟨t,u,e1,rfl,rfl,rfl,lt⟩ | ⟨e1,e2,rfl,rfl,rfl⟩ | ⟨e1,e2,r,b',u,rfl,rfl,rfl,rx,lt⟩
  ·rw [e1] at dc ⊢
   have dg:=DGet.k (k:=.inl i) J
   rw [dc] at dg
   refine cu ⟨_,ϱ,b.za,_,_,_,ϱ,ϱ,SqT.of f5,St.at0,_,ϱ,_,ϱ,_,ϱ,_,ϱ,Y,_,ϱ,dg,χ,λa2 n3=>⟨_,ϱ,χ,λa3 n4=>⟨χ,λa4 n5=>⟨χ,λl2 n6=>kC _ _ ?_⟩⟩⟩⟩
   have s3:=ah (o:=.tup [.int i,.int t.v]) n3
   have s4:=ah (o:=.tup [.str "went",.ref b.za,.ref a2,nv]) n4
   have s5:=ah (o:=.tup [.int b.z.1,.ref a3]) n5
   have s6:=ah (o:=.lst [.ref a4]) n6
   have c0:=s3.trans (s4.trans (s5.trans s6))
   have m2:=m.same n c0
   obtain ⟨tl,w1,w2⟩:=lt.keep c0.ts
   refine ⟨h,cl,_,_,_,[],[u],[_],G,_,x',rl,l2,[],[.ref a4],kn,ϱ,m2.g.more,a7,c0 _ _ J,⟨m.ex,ϱ,ϱ,ϱ,Nat.le_succ _,Nat.le_succ _,a6⟩,.inl ⟨ϱ,ϱ⟩,c0 _ _ aZ,ae,.cons w1 .nil,(by show 1<=900;decide),.inr ⟨tl,a2,a3,a4,t.v,ϱ,w2,ϱ,s6 _ _ ae,(s5.trans s6) _ _ ae,(s4.trans (s5.trans s6)) _ _ ae⟩,m2.lat,m2.hc,nx⟩
  ·rw [e1]
   exact aT ⟨_,ϱ,fr,ϱ,a9 (λc=>by rw [e2] at c;cases c) λ_=>(kC _ _ ⟨h,cl,_,_,_,[],[],[],G,_,x',rl,ll,[],[],kn,ϱ,m.g.more,a7,J,⟨m.ex,ϱ,ϱ,ϱ,Nat.le_succ _,Nat.le_succ _,a6⟩,.inl ⟨ϱ,ϱ⟩,aZ,bP,.nil,ϖ _,.inl ⟨ϱ,ϱ⟩,m.lat,m.hc,nx⟩)⟩
  ·rw [e1]
   refine aT ⟨_,ϱ,fr,ϱ,a9 (λ_=>?_) (λc=>absurd e2 c)⟩
   refine (sq λnD kD=>⟨_,ϱ,_,ϱ,_,ϱ,cl,d.cells,hand,wd,ns,ϱ,m.hc,ar,ic,λtd cv e5 H2 Z c5 fS e6=>kD _ _ (sq λnE kE=>?_)⟩)
   rw [da] at c5 e6
   refine ⟨_,ϱ,_,ϱ,_,ϱ,td,_,_,_,ϱ,ϱ,SqT.of c5,St.at0,_,ϱ,td,_,_,_,ϱ,ϱ,SqT.of c5,St.at1,χ,λr2 n3=>⟨χ,λav n4=>kE _ _ (sq λnF kF=>?_)⟩⟩
   have s3:=ah (o:=.tup [.str "walked",.ref b.za,.int i,.ref cv,.int y.1]) n3
   have s4:=ah (o:=.lst [.ref r2]) n4
   have a1:=Z.trans (s3.trans s4)
   have dz:=s4 _ _ (ae (H:=H2) (a:=r2) (o:=.tup [.str "walked",.ref b.za,.int i,.ref cv,.int y.1]))
   have cp:(upd (upd H2 r2 (.tup [.str "walked",.ref b.za,.int i,.ref cv,.int y.1])) av (.lst [.ref r2])) av=some (.lst [.ref r2]):=ae
   have fa:cl≠av:=ap ((Z.trans s3) _ _ m.hc) n4
   have bd:=(s3.trans s4) _ _ c5
   have bg:=(s3.trans s4) _ _ fS
   have bi:=Paired.mapP e6 λ_ _ z=>z.keep (s3.trans s4).ts
   have m3:=m.same n a1
   have cs:=a1 _ _ J
   have dA:=rx.keep (CH:=CH) (CL:=CL) (cy a1)
   have dB:=lt.keep a1.ts
   generalize (upd (upd H2 r2 _) av _)=H3 at dz cp bd bg bi m3 cs dA dB ⊢
   refine ⟨_,ϱ,b.za,_,_,_,ϱ,ϱ,SqT.of m3.g.wo.za,St.at0,_,ϱ,_,ϱ,_,ϱ,td,_,_,_,ϱ,ϱ,SqT.of bd,St.at1,χ,λa2 n5=>⟨_,ϱ,χ,λa3 n6=>⟨χ,λa4 n7=>⟨χ,λbG n8=>kF _ _ (sq λnG kG=>?_)⟩⟩⟩⟩
   have s5:=ah (o:=.tup [.int i,.int y.1]) n5
   have s6:=ah (o:=.tup [.str "went",.ref b.za,.ref a2,nv]) n6
   have s7:=ah (o:=.tup [.int b.z.1,.ref a3]) n7
   have s8:=ah (o:=.lst [.ref a4]) n8
   have L:=s5.trans (s6.trans (s7.trans s8))
   have c1:cl≠bG:=ap ((s5.trans (s6.trans s7)) _ _ m3.hc) n8
   have dC:=(s6.trans (s7.trans s8)) _ _ (ae (H:=H3) (a:=a2) (o:=.tup [.int i,.int y.1]))
   have dG:=(s7.trans s8) _ _ (ae (H:=upd H3 a2 (.tup [.int i,.int y.1])) (a:=a3) (o:=.tup [.str "went",.ref b.za,.ref a2,nv]))
   have dN:=s8 _ _ (ae (H:=upd (upd H3 a2 (.tup [.int i,.int y.1])) a3 (.tup [.str "went",.ref b.za,.ref a2,nv])) (a:=a4) (o:=.tup [.int b.z.1,.ref a3]))
   have dP:=ae (H:=upd (upd (upd H3 a2 (.tup [.int i,.int y.1])) a3 (.tup [.str "went",.ref b.za,.ref a2,nv])) a4 (.tup [.int b.z.1,.ref a3])) (a:=bG) (o:=.lst [.ref a4])
   have m4:=m3.same n L
   have O:=L _ _ cs
   have ct:=L _ _ cp
   have bl:=L _ _ bd
   have dS:RwW K _ b.z [r] [.ref r2]:=(let ⟨a,cw,k1,k2,k3⟩:=dA;RwW.keep (CH:=CH) (CL:=CL) (cy L) (.inr ⟨r,r2,a,b.za,i,y.1,cw,cv,e5,y.2,rfl,rfl,k2,m3.g.wo.za,k1,k3,dz,bg,bi⟩))
   have dT:=dB.keep L.ts
   have bm:=L _ _ bg
   have br:=Paired.mapP bi λ_ _ z=>z.keep L.ts
   generalize (upd (upd (upd (upd H3 a2 _) a3 _) a4 _) bG _)=H4 at dC dG dN dP m4 O ct bl dS dT bm br ⊢
   refine ⟨_,ϱ,td,_,_,_,ϱ,ϱ,SqT.of bl,St.at1,_,ϱ,_,ϱ,Y,_,ϱ,DPut.k (k:=.inl i) O (Nat.lt_of_le_of_lt eE ζ),kG _ _ ?_⟩
   have di:ImS CH CL H4 (upd H4 Y (.dK (bM kn (.inl i) (.int y.1)))):=cH bn O id
   have g5:=m4.g.more.ext (H':=upd H4 Y (.dK (bM kn (.inl i) (.int y.1)))) n bn O id a7 (.inl Ω)
   have bt:(upd H4 Y (.dK (bM kn (.inl i) (.int y.1)))) Y=some (.dK (bM kn (.inl i) (.int y.1))):=ae
   have dp:∀{c I},H4 c=some (.lst I)->(upd H4 Y (.dK (bM kn (.inl i) (.int y.1)))) c=some (.lst I):=λ{c I} e=>by rw [ao (iG e O (by intro z;cases z))];exact e
   have U:=dp m4.hc
   have cx:=dp ct
   have cF:=dp dP
   generalize (upd H4 Y _)=H5 at di g5 bt U cx cF ⊢
   have c3:=di.ts
   refine ⟨_,ϱ,td,_,_,_,ϱ,ϱ,SqT.of (c3 _ _ bl),St.at0,cv,ϱ,⟨_,SqT.of (c3 _ _ bm)⟩,?_⟩
   have ks:∀{H'},Kp cl H5 H'->ImS CH CL H5 H':=λk=>cH k U id
   have dV:=br.len
   refine uh (xs:=e5) (λj σ H'=>∃y15 y16,σ=sw x.W.l b.A.l ta Y fr nv b.za i hand (txt wd ns) (some (.ref cl)) (some (.ref h.l)) (some (.ref av)) (some (.ref bG)) (some (.ref td)) y15 y16/\Kp cl H5 H'/\H' cl=some (.lst ((apply d.cells (y.2.take j)).map V.int))) ⟨_,_,rfl,(λ_ _ _ e=>e),U⟩ (λj σ H' _ z=>by obtain ⟨_,_,_,k,_⟩:=z;exact SqT.of ((ks k).ts _ _ (c3 _ _ bm))) ?_ ?_
   ·rintro j u0 σ H6 hu ⟨y15,y16,rfl,k6,h6⟩
    obtain ⟨c,ec,rc⟩:=br.get hu
    obtain ⟨ca,rfl,f0⟩:=rc.keep (c3.trans (ks k6).ts)
    obtain ⟨f1,f2⟩:=dy c (List.mem_of_getElem? ec)
    refine ⟨ca,_,ϱ,SqT.of f0,ϱ,_,_,ϱ,_,_,ϱ,ϱ,_,ϱ,_,ϱ,_,ϱ,cl,_,c.1,c.1.toNat,ϱ,ϱ,h6,?_,?_⟩
    ·rw [ν,f8]
     exact xI f1 f2
    ·have e:y.2.take (j+1)=y.2.take j++[c]:=by rw [List.take_succ,ec];rfl
     refine ⟨_,_,ϱ,(λa o na e=>by rw [ao na];exact k6 a o na e),?_⟩
     rw [e,nt,List.map_set]
     exact ae
   ·rintro σ H6 ⟨y15,y16,rfl,k6,h6⟩
    rw [← dV,List.take_length] at h6
    have dZ:=di.trans (ks k6)
    have bA:=dZ.ts
    obtain ⟨tl,w1,w2⟩:=dT.keep bA
    refine kC _ _ ⟨h,cl,_,_,_,[r],[u],[_],G,_,x',av,bG,[.ref r2],[.ref a4],_,ϱ,g5.ext n k6 U id m.nc (.inr m.fc),a7,k6 _ _ (iG bt U (by intro z;cases z)) bt,⟨m.ex,f8 _ _,ϱ,ϱ,?_,cO _ _ _,a6.put ⟨i,y.1,b',r⟩ e1⟩,dS.keep dZ,k6 _ _ (Ne.symm fa) cx,k6 _ _ (Ne.symm c1) cF,.cons w1 .nil,(by show 1<=900;decide),.inr ⟨tl,a2,a3,a4,y.1,ϱ,w2,ϱ,bA _ _ dN,bA _ _ dG,bA _ _ dC⟩,m4.lat.imp id λz=>z.keep bA,h6,nx⟩
    show (d.ws++[_]).length<=_
    rw [List.length_append]
    exact ι _
 case vE =>
  rintro D σ H1 ⟨h,cl,y14,y15,y16,rs,I,ws,G,X,x',rl,ll,ys,zs,cf,rfl,g,ea,eb,pg,gA,aZ,bP,gB,lw,zw,ce,dt,nx⟩
  have fi:H1 h.rw=some (.lst (rs.map V.ref)):=g.ow.co _ (List.mem_append_left _ j1)
  have fn:H1 h.sn=some (.lst I):=g.ow.co _ (List.mem_append_left _ j2)
  have e3:NwAt K H1 (bO ltE X.en) nv:=by rw [pg.en];exact eI.keep g.ow.ts
  rw [← pg.en] at ce
  refine ⟨_,ϱ,h.l,h.dx,_,ϱ,g.sh,iJ θ,b.A.l,h,rs,G,ϱ,g.sh,fi,λq1 H2 Z g4=>⟨_,ϱ,wz g4 (Z _ _ aZ) ((gA.keep (CH:=CH) (CL:=CL) (cy Z)).eq),_,ϱ,cu ?_⟩⟩
  have g2:=g.same n Z
  refine ⟨_,ϱ,h.l,h.dx,_,ϱ,g2.sh,iJ θ,b.p,b.z,b.A,h,X,I,ws,G,ϱ,g2.sh,Z _ _ fn,g2.sa,Paired.mapP gB λ_ _ z=>z.keep Z.ts,lw,(by rw [pg.en];exact Λ len ζ),ce.imp id λz=>z.keep Z.ts,λq3 hQ H3 s3 g6 p3=>⟨_,ϱ,wz g6 (s3 _ _ (Z _ _ bP)) ((zw.keep (Z.trans s3).ts).eq (e3.keep (Z.trans s3).ts) p3),_,ϱ,cu ?_⟩⟩
  have ds:=Z.trans s3
  have g3:=g.same n ds
  refine ⟨_,ϱ,b.A.l,b.A.dx,_,ϱ,g3.wo.si.ins,gI θ,b.p,b.z,b.A,X,ϱ,g3.sa,λq4 H4 s4 _ g7=>⟨_,ϱ,_,_,ue g7,ue (s4 _ _ (ds _ _ dt)),?_⟩⟩
  rw [τ rfl]
  have a1:=ds.trans s4
  exact nx _ _ (q X x' cf H4 (g.same n a1).drop (λm=>ea (by unfold ad at m ⊢;rw [List.map_append];exact List.mem_append_right _ m)) (a1 _ _ eb) pg)
 refine sq λnA kA=>⟨_,ϱ,ta,_,ϱ,SqT.of eu,ϱ,_,_,ϱ,_,_,ϱ,_,_,ϱ,_,_,ϱ,ϱ,kA _ _ (sq λnB kB=>?_)⟩
 refine ⟨_,ϱ,b.A.l,b.A.dx,_,ϱ,g0.wo.si.ins,gI θ,b.p,b.z,b.A,d,ϱ,g0.sa,λcl H1 s1 c1 dt=>kB _ _ (sq λnE kE=>?_)⟩
 have g1:=g0.same n s1
 refine ⟨_,ϱ,λl dx nl g8 hT=>⟨l,dx,b.A.l,ϱ,ae,λh H3 eh o3=>⟨ϱ,kE _ _ (sq λnF kF=>?_)⟩⟩⟩
 have ob:=o3.born (kr nl g8) nl
 subst eh
 have g3:=g1.sheet n ob
 have ft:=(g1.self fE).sheet n ob
 have fin:∀(H5:Hp) (rs:List Addr) (I:List V) (G:V) (X:Sx) (x':Wx),Gs C CS CH CL CV K H3 b (shL CH b.A.l h [] [] .non) d x H5 (shL CH b.A.l h rs I G) X x'->(∃cz,x'=⟨x.W,x.dl,x.vs,x.o,x.dk,x.ak,x.due,cz⟩)->(G=.non\/NwAt K H5 (bO ltE d.en) G)->OutW K H5 b d fr i y.1 y.2 rs I X->nF (sw x.W.l b.A.l ta Y fr nv b.za i hand (txt wd ns) (some (.ref cl)) (some (.ref h.l)) none none none none none) H5:=λH5 rs I G X x' g5 ex ce out=>by
  obtain ⟨p1,p2⟩:=(ft.trans g5).out dt (g0.ow.free c1)
  exact kF _ _ ⟨h,cl,rs,I,G,X,x',ϱ,⟨g3.trans g5,ex,p1,p2,c1,ce,out⟩,λ_ _ z=>z⟩
 refine ⟨_,ϱ,x.W.l,x.W.dx,_,ϱ,g3.wo.wi,fb θ,_,ϱ,_,ϱ,_,ϱ,_,ϱ,_,ϱ,b,h,d,i,hand,wd,ns,x,ϱ,et,g3.self dH,Λ ev ζ,?_⟩
 cases ew:iX d.ws i with
 | some t=>exact .inl ⟨t,rfl,λu t2 H5 g5 hw ht=>fin H5 _ _ _ _ _ g5 ⟨_,rfl⟩ (.inl rfl) (.inl ⟨t,u,ew,rfl,rfl,rfl,t2,hw,ht⟩)⟩
 | none =>
  refine .inr ⟨ϱ,ar,ic,Λ ey ζ,len,Λ ez ζ,λi1 el=>⟨λhb H5 s5=>?_,λh1 h2 c r b' u t2 G H5=>?_⟩⟩
  ·rw [bN] at el
   cases el
   have ef:fr=false:=by
    by_cases z:cr d.en b.z=some "broken"
    ·exact eH z
    ·rw [dv lk bN z]
     exact hb.resolve_left z
   exact fin H5 _ _ _ _ _ ((g3.same n s5).self dH |> λ_=>(g3.self dH).same n s5) ⟨_,ϱ⟩ (.inl rfl) (.inr (.inl ⟨ew,ef,ϱ,ϱ,ϱ⟩))
  ·rw [bN] at el
   cases el
   rw [da]
   exact λg5 rx nw hw ht=>fin H5 _ _ _ _ _ g5 ⟨_,ϱ⟩ (.inr nw) (.inr (.inr ⟨ew,by rw [dv lk bN h1];exact h2,r,b',u,ϱ,ϱ,ϱ,rx,t2,hw,ht⟩))
theorem Dj{c:TT}{t u:TS}{D:Ends}{σ:L2.St}{H:Hp}(h:∀tb ub:L2.St->Hp->Prop,(∀σ H,t D σ H->tb σ H)->(∀σ H,u D σ H->ub σ H)->c σ H λb H1=>if b=true then tb σ H1 else ub σ H1):Cr c t u D σ H:=h _ _ (λ_ _ z=>z) λ_ _ z=>z
theorem gn{i:Nat}{x:V}{σ σ':L2.St}{H:Hp}{Q:L2.St->Hp->Prop}(e:σ.set i (some x)=σ')(h:Q σ' H):uf i x σ H Q:=by subst e;exact h
theorem rA{N:List Addr}{l:Addr}{H0 H H1 H2:Hp}{b:Bx}{d:Sx}{R:Cs}{W:Aw}{dl:Addr}(g:Ow CH CL N H0 H (stL b.p b.z b.A d++((b.Pt,.tbl #[])::(b.Pw,.tbl #[])::R)))(s:Same H H1)(nl:H l=none)(ow:Ow CH CL [l] H1 H2 (wkL CL b ⟨W,dl,[],(none,none),[],[],[],⟨none,none⟩⟩)) :
  Ow CH CL N H0 H2 (stL b.p b.z b.A d++wtL CL b ⟨W,dl,[],(none,none),[],[],[],⟨none,none⟩⟩)/\Same H H2 :=
 have ob:=ow.born s nl
 ⟨(g.join ob).swap (S:=stL b.p b.z b.A d++[(b.Pt,.tbl #[]),(b.Pw,.tbl #[])]) (X:=wkL CL b ⟨W,dl,[],(none,none),[],[],[],⟨none,none⟩⟩) (O:=R),λc u e=>ob.fr c u (λz=>nomatch z) e⟩
structure Fx where
 (sc:Addr)(m:Int)(fa oa W ka ea ca:Addr)(b:Bx)(E:Cs)(N:Nat)
def sL(c:Fx)(la ha:Addr)(y13 y14 y15 y16 y17:Option V):L2.St:=[some (.ref c.sc),some (.int c.m),some (.ref c.fa),some (.ref c.b.za),some (.ref c.oa),some (.ref c.b.pa),some (.ref c.b.A.l),some (.ref c.W),some (.ref la),some (.ref ha),some (.ref c.ka),some (.ref c.ea),some (.ref c.ca),y13,y14,y15,y16,y17]
structure Fk(K:Frag)(c:Fx)(ns zs:List Int)(fs:List V)(E0:Cs)(Pw:Addr):Prop where
 eE:c.E=(c.ca,.lst (zs.map V.int))::(c.fa,.lst fs)::E0
 ek:∀u∈c.E,(∀kvs,u.2≠.dK kvs)/\u.1≠c.ea
 sq:∀H',(∀u∈E0,H' u.1=some u.2)->SqL K H' c.sc (ns.map V.int)
 n1:1<=c.N
 n8:c.N<=8
 lf:fs.length=c.N
 lz:zs.length<=10
 pw:c.b.Pw=Pw
structure LB(C:Kd->Addr)(CS CH CL CV:Addr)(K:Frag)(c:Fx)(k:Nat)(H:Hp)(d:Sx)(x:Wx)(kn:List (Key×V)):Prop where
 g:Gs C CS CH CL CV K H c.b [] d x H [] d x
 e:∀u∈c.E,H u.1=some u.2/\u.1∉ad (stL c.b.p c.b.z c.b.A d++wtL CL c.b x)
 hk:H c.ka=some (.dK kn)
 nk:c.ka∉ad (stL c.b.p c.b.z c.b.A d++wtL CL c.b x)
 lk:kn.length<=k
 kw:Known kn d.ws
 lw:d.ws.length<=k
 cl:d.cells.length=c.N
 o:O3 x
 du:x.due.length<=3
 rc:yq d
 eW:x.W.l=c.W
structure LE(CL:Addr)(K:Frag)(c:Fx)(H:Hp)(d:Sx)(x:Wx)(es:List V):Prop where
 h:H c.ea=some (.lst es)
 n:c.ea∉ad (stL c.b.p c.b.z c.b.A d++wtL CL c.b x)
 p:Paired (sPS K H) d.en es
 z:∀o,(c.b.z,o)∈d.en->o="broken"
structure LK(CL:Addr)(K:Frag)(c:Fx)(H:Hp)(d:Sx)(x:Wx)(la:Addr)(ls:List V)(lks:List Lk)(ha:Addr)(hs:List V):Prop where
 lx:Lx CL K H c.b d x la ls lks
 na:la≠c.ea
 h:H ha=some (.lst hs)
 n:ha∉ad (stL c.b.p c.b.z c.b.A d++wtL CL c.b x)
 nh:ha≠c.ea
 p:Paired (cPr.rp K H) (x.due.map λj=>((c.b.p,j):Pr)) hs
section
variable {c:Fx}{k:Nat}{H H':Hp}{d d':Sx}{x x':Wx}{kn:List (Key×V)}{es:List V}{la:Addr}{ls:List V}{lks:List Lk}{ha:Addr}{hs:List V}
theorem LB.same(i:LB C CS CH CL CV K c k H d x kn)(n:Nq C CS CH CL CV)(e:Same H H'):LB C CS CH CL CV K c k H' d x kn :=
 ⟨(i.g.same n e).self fE,λu hu=>⟨e _ _ (i.e u hu).1,(i.e u hu).2⟩,e _ _ i.hk,i.nk,i.lk,i.kw,i.lw,i.cl,i.o,i.du,i.rc,i.eW⟩
theorem LE.same(i:LE CL K c H d x es)(e:Same H H'):LE CL K c H' d x es:=⟨e _ _ i.h,i.n,Paired.mapP i.p λ_ _ z=>z.keep e.ts,i.z⟩
theorem LK.out(i:LK CL K c H d x la ls lks ha hs)(ou:∀{a us},H a=some (.lst us)->a∉ad (stL c.b.p c.b.z c.b.A d++wtL CL c.b x)->a≠c.ea->H' a=some (.lst us)/\a∉ad (stL c.b.p c.b.z c.b.A d'++wtL CL c.b x'))(ts:TSame H H')(e:x'.due=x.due):LK CL K c H' d' x' la ls lks ha hs :=
 let ⟨h1,h2⟩:=ou i.lx.h i.lx.n i.na
 let ⟨h3,h4⟩:=ou i.h i.n i.nh
 ⟨⟨h1,h2,Paired.mapP i.lx.p λ_ _ z=>cLk.keep ts z,i.lx.l,λc=>by rw [e];exact i.lx.m c⟩,i.na,h3,h4,i.nh,by rw [e];exact pp i.p λ_ _ z=>cPr.keep ts z⟩
theorem LK.same(i:LK CL K c H d x la ls lks ha hs)(e:Same H H'):LK CL K c H' d x la ls lks ha hs:=i.out (λh n _=>⟨e _ _ h,n⟩) e.ts rfl
theorem LB.kp{ns zs:List Int}{fs:List V}{E0:Cs}{Pw:Addr}(i:LB C CS CH CL CV K c k H d x kn)(n:Nq C CS CH CL CV)(f:Fk K c ns zs fs E0 Pw)(l:LE CL K c H d x es)(q:Kp c.ea H H'):LB C CS CH CL CV K c k H' d x kn :=
 ⟨((i.g.more (a:=c.ea)).ext n q l.h id l.n (.inl Ω)).self fE,λu hu=>⟨q _ _ (f.ek u hu).2 (i.e u hu).1,(i.e u hu).2⟩,q _ _ (iG i.hk l.h (by intro z;cases z)) i.hk,i.nk,i.lk,i.kw,i.lw,i.cl,i.o,i.du,i.rc,i.eW⟩
theorem LB.fin{y:Pa}{o:Str}(i:LB C CS CH CL CV K c k H d x kn)(g:Gs C CS CH CL CV K H c.b [] d x H' [] (d.kp 0 0 (.fin y o)) x')(ho:O3 x')(hd:x'.due.length<=3)(eW:x'.W.l=x.W.l):LB C CS CH CL CV K c k H' (d.kp 0 0 (.fin y o)) x' kn :=
 ⟨g.self fE,λu hu=>g.out (i.e u hu).1 (i.e u hu).2,(g.out i.hk i.nk).1,(g.out i.hk i.nk).2,i.lk,i.kw,i.lw,(f8 _ _).trans i.cl,ho,hd,λa h=>by
  have:=i.rc a h
  show _/\_<((apply d.cells (d.chs (.fin y o))).length:Int)
  rw [f8]
  exact this,eW.trans i.eW⟩
end
def Jn(C:Kd->Addr)(CS CH CL CV:Addr)(K:Frag)(c:Fx)(kq kz:Int)(le k:Nat)(y13 y14:Option V)(σ:L2.St)(H:Hp):Prop:=∃d x kn es la ls lks ha hs y15 y16 y17,σ=sL c la ha y13 y14 y15 y16 y17/\LB C CS CH CL CV K c k H d x kn/\LE CL K c H d x es/\LK CL K c H d x la ls lks ha hs/\d.en.length<=le/\(∀o,(c.b.p,o)∈d.en->c.m/7%6<kq)/\∀o,(c.b.z,o)∈d.en->3<kz
theorem xV{es:List (Pa×Str)}{y:Pa}(h:∀o,(y,o)∉es):cr es y=none:=by
 unfold cr
 rw [Option.map_eq_none_iff,List.find?_eq_none]
 intro e b z
 exact h e.2 (by have:=Ξ z;rw [← this];exact b)
theorem BZ{es:List (Pa×Str)}{y:Pa}(h:∀o,(y,o)∈es->o="broken"):cr es y=some "broken"↔(y,("broken":Str))∈es:=by
 constructor
 ·intro z
  obtain ⟨e,b,d⟩:=Option.map_eq_some_iff.mp z
  have m:=List.mem_of_find?_eq_some b
  have:=Ξ (List.find?_some (p:=λx:Pa×Str=>decide (x.1=y)) b)
  rw [← this,← d]
  exact m
 ·intro z
  cases e:cr es y with
  | none =>
   unfold cr at e
   rw [Option.map_eq_none_iff,List.find?_eq_none] at e
   exact absurd (show decide (((y,("broken":Str)):Pa×Str).1=y)=true from τ rfl) (e _ z)
  | some o =>
   obtain ⟨u,b,rfl⟩:=Option.map_eq_some_iff.mp e
   have m:=List.mem_of_find?_eq_some b
   have f:=Ξ (List.find?_some (p:=λx:Pa×Str=>decide (x.1=y)) b)
   exact congrArg some (h u.2 (by rw [← f];exact m))
inductive lY (K:Frag) (Ps:List Addr) (vs:List V) (H:Hp) (Q:VK) (E:XK):Prop|mk a ns:vs=[.ref a]->SqL K H a ((ns:List Int).map V.int)->ns.length<=63->((∀b∈Ps,H b=some (.tbl #[])))->(∀H',Q (.bl true) H')->lY K Ps vs H Q E
theorem Dr(b:List Int):(ng (b.map V.int) (some 5) (some 15)).length<=10:=by
 unfold ng
 rw [List.length_take]
 show min (min 15 _-min 5 _) _<=10
 omega
theorem oth{p0:Int}{i:Nat}{z:Int}{b:List Int}(hz:([0,2,3,4]:List Int)[i]?=some z)(h1:1<=i->p0≠0->b≠[])(d:2<=i->b≠[])(e:z=p0):(1<=i+1->p0≠0->b≠[])/\(2<=i+1->b≠[]):=by
 match i,hz with
 | 0,hz=>cases hz;exact ⟨λ_ n=>absurd e.symm n,λz=>by omega⟩
 | 1,hz=>cases hz;exact ⟨λ_ n=>h1 ζ n,λ_=>h1 ζ ω⟩
 | i+2,_=>exact ⟨λ_ _=>d ω,λ_=>d ω⟩
theorem Bu{Pt Pw ih ij:Addr}{is it:FuncData}(F:Fun K "law" "law" jf f fd)(B:TxB mg)(T:TxV K CV)(n:Nq C CS CH CL CV)(nP:[Pt,Pw].Nodup)(MS:Mk K CS ih)(nS:mg "Stand"=some (.ref CS))(nT:FnOk P w K mg base CX0 1 ih is ["self","cells"] (oZ CS CH CL))(nV:Binds K is ["self","cells"] [])
  (MV:Mk K CV ij)(nW:mg "Works"=some (.ref CV))(o0:FnOk P w K mg base CX0 3 ij it ["self","stand","home","many"] (oY CS CH CL CV K))(o1:Binds K it ["self","stand","home","many"] [])
  (GA:GF P w K mg base CX0 1 "_law_cell_at" ["_law_script","_law_k"] (pz K))(GN:GF P w K mg base CX0 1 "_law_number" ["_law_cell"] o8)(o2:GF P w K mg base CX0 2 "_law_step" ["_law_cell","_law_many"] lD)(o4:GF P w K mg base CX0 1 "_law_lock" ["_law_text"] (tD K))(oc:GF P w K mg base CX0 1 "_law_beside" ["_law_one","_law_other"] (jC K))
  (iv:GF P w K mg base CX0 7 "_law_ended" ["_law_works","_law_stand","_law_p","_law_outcome"] (v7 C CS CH CL CV K))(oe:GF P w K mg base CX0 9 "_law_held" ["_law_works","_law_stand","_law_p","_law_script","_law_many"] (v6 C CS CH CL CV K Pt))(oi:GF P w K mg base CX0 8 "_law_walked" ["_law_works","_law_stand","_law_told","_law_known","_law_free","_law_news"] (v4 C CS CH CL CV K Pw))
  (ji:GM P w K mg base CX0 6 CV "held" ["self"] (tm C CL CV K))(op:GM P w K mg base CX0 6 CV "waiting" ["self"] (vX C CL CV K)):FnOk P w K mg base CX0 10 f fd ["_law_script"] (lY K [Pt,Pw]):=by
 refine F.oj sc_law λra A mk s H vs Q E Z h=>?_
 obtain ⟨a,ns,rfl,hS,hl,hP,q⟩:=h
 have nd:=sc_law.nd
 have lc:Room (1+1) _:=Z.mono ζ
 have lh:Room (3+1) _:=Z.mono ζ
 refine ⟨_,(ag (aD (i:=1) nd rfl (Or.inr rfl) (pc GA Z (ac (pv 0) (ac ai af))))
  (ag (qr (iy:=2) wn rfl (cN rfl B.range (ac (aH dX ai (aH bQ (pv 1) ai)) af)) (λ_ _ _ _=>cP) (λ_ _ _ _=>pc GN Z (ac (aH dX (aH bw (pv 1) (aH dX (pv 0) ai)) (aH wM ai (pv 0))) af)) nd rfl (Or.inl rfl))
  (ag (aD (i:=3) nd rfl (Or.inr rfl) (aF (ac (aH bQ (aH bw (pv 1) ai) ai) (ac (aH bQ (aH bw (pv 1) ai) ai) af))))
  (ag (qr (iy:=4) wm rfl (bZ (bE (ac ai (ac ai (ac ai (ac ai af)))))) (λ_ _ _ _=>fh (ax oC (pv 0) (au (r:=aQ K) aB (pv 1) ai (λ_ _=>rfl)) (ay _))) (λ_ _ _ _=>pv 0) nd rfl (Or.inl rfl))
  (ag (aD (i:=5) nd rfl (Or.inl rfl) (aF (ac (au (r:=bz K) aE (pv 4) (aH bQ (aH bw (pv 1) ai) (aK be rfl B.len PySem.boot_len (ac (pv 4) af))) (λ_ _=>rfl)) (ac (aH bQ (aH bw (pv 1) ai) ai) af))))
  (ag (aD (i:=6) nd rfl (Or.inl rfl) (ba MS nT lc rfl nS nV .nil bb (ac (pv 2) af)))
  (ag (aD (i:=7) nd rfl (Or.inl rfl) (ba MV o0 lh rfl nW o1 .nil bb (ac (pv 6) (ac ai (ac ai af)))))
  (cX (u:=λD σ H1=>∃(m:Int) (fa oa:Addr) (b:Bx) (d:Sx) (x:Wx) (E1:Cs),σ=[some (.ref a),some (.int m),some (.ref fa),some (.ref b.za),some (.ref oa),some (.ref b.pa),some (.ref b.A.l),some (.ref x.W.l),none,none,none,none,none,none,none,none,none,none]/\Gs C CS CH CL CV K H1 b [] d x H1 [] d x/\x.o=(none,none)/\x.due=[]/\d.rd=none/\d.rc=[]/\d.en=[]/\d.ws=[]/\1<=d.cells.length/\d.cells.length<=8/\(∀u∈(fa,.lst (d.cells.map V.int))::E1,H1 u.1=some u.2/\u.1∉ad (stL b.p b.z b.A d++wtL CL b x))/\(∀u∈E1,∀bt,u.2≠.dK bt)/\(∀H',(∀u∈E1,H' u.1=some u.2)->SqL K H' a (ns.map V.int))/\b.Pt=Pt/\b.Pw=Pw/\∀v H',Q v H'->D.rt v H')
  (ag (aD (i:=8) nd rfl (Or.inl rfl) (pc oe Z (ac (pv 7) (ac (pv 6) (ac (pv 5) (ac (pv 0) (ac (aK be rfl B.len PySem.boot_len (ac (pv 2) af)) af)))))))
  (ag (aD (i:=9) nd rfl (Or.inl rfl) (pm0 ji (pv 7) T.cl Z))
  (ag (aD (i:=10) nd rfl (Or.inl rfl) hX)
  (ag (aD (i:=11) nd rfl (Or.inl rfl) (bE af))
  (ag (aD (i:=12) nd rfl (Or.inl rfl) (mx tF (pv 0) (iu ai) (iu ai)))
  (cX (u:=λD σ H1=>∃c ns J fs E0,Fk K c ns J fs E0 Pw/\Jn C CS CH CL CV K c 0 0 0 0 none none σ H1/\∀v H',Q v H'->D.rt v H')
  (ag (hW PassesOwn.never rfl (cN rfl B.range (ac (aK be rfl B.len PySem.boot_len (ac (pv 12) af)) af)) (b7 (i:=13) nd rfl (Or.inl rfl))
   (ag (aI (ax bf (pv 13) (aH bQ (aH bw (pv 1) ai) ai) (ay _))
    (ag (aO (gK PySem.F.plainAttrs_list PySem.F.slot_list_append PySem.F.type_list_append eL (pv 11) (ac (aF (ac (pv 5) (ac (au (r:=bz K) aE (bE (ac aA (ac aA af))) (aH bQ (aH bw (pc GA Z (ac (pv 0) (ac ai af))) ai) ai) (λ_ _=>rfl)) af))) af)))
    (ag (aO (pc iv Z (ac (pv 7) (ac (pv 6) (ac (pv 5) (ac (au (r:=aQ K) aB (au (r:=bz K) aE (pv 11) (Ap vH ai) (λ_ _=>rfl)) ai (λ_ _=>rfl)) af))))))
    (ag (aD (i:=8) nd rfl (Or.inl rfl) (bE af)) (aj (aD (i:=9) nd rfl (Or.inl rfl) (bE af)))))) aC)
   (cX (u:=λD σ H1=>∃c ns J fs E0 k y14,Fk K c ns J fs E0 Pw/\k<J.length/\Jn C CS CH CL CV K c (k+1:Nat) (k:Nat) (2*k+1) k (some (.int (k:Nat))) y14 σ H1/\∀y13 y14 σ' H',Jn C CS CH CL CV K c (k+1:Nat) (k+1:Nat) (2*(k+1)) (k+1) y13 y14 σ' H'->D.nx σ' H')
   (ag (aI (PW.pt (fz (ax bf (pv 13) ai (ay _)) (gm (ax bf (aH bQ (aH bw (pv 1) ai) ai) ai (ay _)))))
    (ag (aO (gK PySem.F.plainAttrs_list PySem.F.slot_list_append PySem.F.type_list_append eL (pv 11) (ac (aF (ac (pv 3) (ac aA af))) af)))
    (aj (aO (pc iv Z (ac (pv 7) (ac (pv 6) (ac (pv 3) (ac aA af)))))))) aC)
   (cX (u:=λD σ H1=>∃c ns J fs E0 k y14,Fk K c ns J fs E0 Pw/\k<J.length/\Jn C CS CH CL CV K c (k+1:Nat) (k+1:Nat) (2*(k+1)) k (some (.int (k:Nat))) y14 σ H1/\∀y13 y14 σ' H',Jn C CS CH CL CV K c (k+1:Nat) (k+1:Nat) (2*(k+1)) (k+1) y13 y14 σ' H'->D.nx σ' H')
   (ag (aD (i:=14) nd rfl (Or.inl rfl) (pv 13))
   (ag (aI (PW.pt (fz (ax bf (aH bQ (au (r:=bz K) aE (pv 12) (pv 13) (λ_ _=>rfl)) ai) ai (ay _)) (gm (ax qA (pv 13) ai (ay _)))))
    (aj (aD (i:=14) nd rfl (Or.inl rfl) (aH bQ (aH bw (au (r:=bz K) aE (pv 12) (pv 13) (λ_ _=>rfl)) ai) (pv 13)))) aC)
   (cX (u:=λD σ H1=>∃c ns J fs E0 k i,Fk K c ns J fs E0 Pw/\k<J.length/\Jn C CS CH CL CV K c (k+1:Nat) (k+1:Nat) (2*(k+1)) k (some (.int (k:Nat))) (some (.int i)) σ H1/\∀y13 y14 σ' H',Jn C CS CH CL CV K c (k+1:Nat) (k+1:Nat) (2*(k+1)) (k+1) y13 y14 σ' H'->D.nx σ' H')
   (ag (aD (i:=15) nd rfl (Or.inr rfl) (pc o2 Z (ac (aH bw (au (r:=bz K) aE (pv 12) (pv 13) (λ_ _=>rfl)) ai) (ac (aK be rfl B.len PySem.boot_len (ac (pv 2) af)) af))))
   (ag (aD (i:=16) nd rfl (Or.inl rfl) (bv (pS cLk (hun Z)) (dF wj rfl (bZ (pv 8)) (λ_ _ _ _=>fh (iR (cB (pc oc Z (ac (pv 0) (ac (pc o4 Z (ac (pv 1) af)) af)))))) (λ_ _ _ _=>pv 0)) (bE af) (ay _)))
   (ag (aD (i:=16) nd rfl (Or.inl rfl) (hZ (pv 16) (eO (bv (uR cPS (hun Z)) (aF (ac (pv 3) (ac aA af))) (pv 11) rfl))))
   (ag (aD (i:=17) nd rfl (Or.inl rfl) (aF (ac (pv 3) (ac (pv 14) (ac (pc GN Z (ac (aH bw (au (r:=bz K) aE (pv 12) (pv 13) (λ_ _=>rfl)) ai) af)) (ac (pv 15) af))))))
   (ag (aI (iR (cB (pc oi Z (ac (pv 7) (ac (pv 6) (ac (pv 17) (ac (pv 10) (ac (pv 16) (ac (aX cI rfl B.tuple PyProof.Rows.boot_tuple (ac (aK (pY (R:=λH=>sPS K H) sZ (λe h=>h.keep e) (λok q r=>q.ent ok r) (hun (c:=3) Z)) rfl B.sorted PyProof.Rows.boot_sorted (ac (pv 11) af)) af)) af))))))))) aJ aC)
   (aj (aI (PW.pt (mt (ax (wK cPr (hun Z)) (pm0 ji (pv 7) T.cl Z) (pv 9) (ay _)) (iQ (ax (wK cInt (hun Z)) (pm0 op (pv 7) T.cl Z) (bE af) (ay _))))) aJ aC))))))) ?vD))) ?vC)) ?vB)))
  (aj (aw oB))) ?v2)))))) ?v1)))))))),?_⟩
 case v1 =>
  rintro D0 σ H1 ⟨m,fa,oa,b,d,x,E1,rfl,g0,eo,nm,no,nr,nv,nw,l1,l8,he,ee,cm,nz,nH,nx⟩
  refine sq λnA kA=>⟨_,ϱ,_,ϱ,_,ϱ,_,ϱ,_,ϱ,fa,_,ϱ,.inl (SqL.of (he _ (.head _)).1),b,d,x,a,ns,E1,(by rw [ν];rfl),nz,g0,eo,nm,no,nr,nv,nw,l1,l8,(λu O=>he u (.tail _ O)),cm,λd' x' la ls I H2 g2 rb lx mm e6 ab o3 mn eW rc=>kA _ _ (sq λnB kB=>?_)⟩
  have cp:=g2.self fE
  have dp:∀u∈(fa,HO.lst (d.cells.map V.int))::E1,H2 u.1=some u.2/\u.1∉ad (stL b.p b.z b.A d'++wtL CL b x'):=λu O=>g2.out (he u O).1 (he u O).2
  refine ⟨_,ϱ,x'.W.l,x'.W.dx,_,(by rw [eW]),g2.wo.wi,fb θ,x'.W,b.home,b.many,b.A.l,_,(by rw [eW];rfl),g2.wo.wi,g2.ls,(by rw [ν];omega),⟨_,eJ b.p _⟩,λha H3 hs s3 ms hw ph=>kB _ _ (sq λnC kC ka hB=>kC _ _ (sq λnD kD=>⟨χ,λea eS=>kD _ _ (sq λnE kE=>?_)⟩))⟩
  have s4:=ah (o:=.dK []) hB
  have s5:=ah (o:=.lst []) eS
  have ds:=s3.trans s4
  have eh:=ds.trans s5
  have sE:=cm (upd (upd H3 ka (.dK [])) ea (.lst [])) λu O=>eh _ _ (dp u (.tail _ O)).1
  refine ⟨_,ϱ,_,ϱ,_,ϱ,a,_,ϱ,sE,λca dG=>?_⟩
  have ei:=Dr ns
  obtain ⟨J,kt,_⟩:=yh ns (some 5) (some 15)
  rw [kt] at ei ⊢
  rw [ν] at ei
  have s6:=ah (o:=.lst (J.map V.int)) dG
  have a8:=eh.trans s6
  have g6:=(cp.same n a8).self fE
  have li:∀{y},H3 y=none->y∉ad (stL b.p b.z b.A d'++wtL CL b x'):=λe=>(cp.same n s3).ow.free e
  have nE:∀{y:Addr} {o:HO},(upd H3 ka (.dK [])) y=some o->y≠ea:=λe=>ap e eS
  have fS:(upd (upd (upd H3 ka (.dK [])) ea (.lst [])) ca (.lst (J.map V.int))) ca=some (.lst (J.map V.int)):=ae
  have fZ:ca∉ad (stL b.p b.z b.A d'++wtL CL b x'):=(cp.same n eh).ow.free dG
  have g3:ea∉ad (stL b.p b.z b.A d'++wtL CL b x'):=(cp.same n ds).ow.free eS
  have ce:ca≠ea:=λz=>by rw [z,ae] at dG;cases dG
  refine kE _ _ ⟨⟨a,m,fa,oa,x.W.l,ka,ea,ca,b,(ca,.lst (J.map V.int))::(fa,.lst (d.cells.map V.int))::E1,d.cells.length⟩,ns,J,d.cells.map V.int,E1,⟨ϱ,λu O=>?_,cm,l1,l8,ν _,ei,nH⟩,⟨d',x',[],[],la,ls,I,ha,hs,none,none,none,ϱ,⟨g6,λu O=>?_,(s5.trans s6) _ _ ae,li hB,ι _,(by rw [e6];exact λ_=>rfl),(by rw [e6];exact ι _),(by rw [mm]),o3,mn,rc,(by rw [eW])⟩,⟨s6 _ _ ae,g3,(by rw [ab];exact .nil),(by rw [ab];exact λ_ z=>nomatch z)⟩,⟨⟨a8 _ _ lx.h,lx.n,Paired.mapP lx.p λ_ _ z=>cLk.keep a8.ts z,lx.l,lx.m⟩,nE (ds _ _ lx.h),(s4.trans (s5.trans s6)) _ _ hw,cp.ow.free ms,nE (s4 _ _ hw),pp ph λ_ _ z=>cPr.keep (s4.trans (s5.trans s6)).ts z⟩,(by rw [ab];exact ι _),(by rw [ab];exact λ_ z=>nomatch z),(by rw [ab];exact λ_ z=>nomatch z)⟩,nx⟩
  ·rcases ϕ.mp O with z | z
   ·rw [z];exact ⟨(λ_ z=>by cases z),ce⟩
   ·have e4:=nE (ds _ _ (dp u z).1)
    rcases ϕ.mp z with y | y
    ·rw [y] at e4 ⊢;exact ⟨(λ_ z=>by cases z),e4⟩
    ·exact ⟨ee u y,e4⟩
  ·rcases ϕ.mp O with z | z
   ·rw [z];exact ⟨fS,fZ⟩
   ·exact ⟨a8 _ _ (dp u z).1,(dp u z).2⟩
 case v2 =>
  rintro D0 σ H1 ⟨c,U,J,fs,E0,fk,jn,nx⟩
  obtain ⟨d,x,kn,es,la,ls,I,ha,hs,y15,y16,y17,rfl,G,le,lk,r3⟩:=jn
  have aS:=G.e _ (by rw [fk.eE];exact .head _)
  have lz:=fk.lz
  refine sq λnA kA=>⟨_,ϱ,c.ca,_,ϱ,.inl (SqL.of aS.1),(J.length:Int),(by rw [ν]),ω,ω,?_⟩
  rw [Int.toNat_natCast]
  refine iw (n:=J.length) (λk σ H'=>∃y13 y14,Jn C CS CH CL CV K c (k:Nat) (k:Nat) (2*k) k y13 y14 σ H') ⟨_,_,d,x,kn,es,la,ls,I,ha,hs,_,_,_,ϱ,G,le,lk,r3⟩ ?_ ?_
  ·clear aS G le lk r3
   rintro k σ H2 hk ⟨y13,y14,d,x,kn,es,la,ls,I,ha,hs,y15,y16,y17,rfl,G,le,lk,en,eq,ez⟩
   rw [Int.zero_add]
   refine gn (σ':=sL c la ha (some (.int (k:Nat))) y14 y15 y16 y17) rfl ?_
   refine sq λnB kB=>⟨_,ϱ,_,ϱ,_,_,ϱ,ϱ,⟨ζ,ζ⟩,_,_,ϱ,ϱ,(by show (0:Int)<6;decide),ϱ,_,ϱ,?_⟩
   by_cases hc:(k:Int)=c.m/7%6
   ·refine a9 (λ_=>?_) (λz=>absurd (τ (congrArg V.int hc)) z)
    have ej:cr d.en c.b.p=none:=xV λo m=>by have:=eq o m;omega
    have r4:=fk.sq H2 λu O=>(G.e u (by rw [fk.eE];exact .tail _ (.tail _ O))).1
    obtain ⟨o,ho⟩:∃o:Str,atI ([.str "broken",.str "done"]:List V) (bL U 1/8%2)=some (.str o):=by
     have h0:0<=bL U 1/8%2:=Int.emod_nonneg _ ζ
     have h2:bL U 1/8%2<2:=Int.emod_lt_of_pos _ ζ
     generalize bL U 1/8%2=j at h0 h2
     have:j=0\/j=1:=by omega
     rcases this with rfl | rfl
     ·exact ⟨_,ϱ⟩
     ·exact ⟨_,ϱ⟩
    refine sq λn1 k1=>⟨_,ϱ,.inl ⟨ϱ,_,SqL.of le.h⟩,_,ϱ,χ,λl0 dI=>⟨_,ϱ,c.sc,U,1,ϱ,(fk.sq _ λu O=>ah dI _ _ (G.e u (by rw [fk.eE];exact .tail _ (.tail _ O))).1),_,_,ϱ,ϱ,⟨ζ,ζ⟩,_,_,ϱ,ϱ,(by show (0:Int)<2;decide),l0,_,_,_,ϱ,ϱ,SqL.of ae,ho,χ,λY f2=>?_⟩⟩
    have s1:=ah (o:=.lst [.str "broken",.str "done"]) dI
    have s2:=ah (o:=.tup [.ref c.b.pa,.str o]) f2
    have aZ:=s1.trans s2
    have ct:=G.same n aZ
    have X:=le.same aZ
    have cv:(upd (upd H2 l0 (.lst [.str "broken",.str "done"])) Y (.tup [.ref c.b.pa,.str o])) Y=some (.tup [.ref c.b.pa,.str o]):=ae
    generalize (upd (upd H2 l0 _) Y _)=H3 at ct X cv ⊢
    have em:es.length<=100:=by rw [← le.p.len];omega
    refine ⟨c.ea,es,_,ϱ,ϱ,X.h,Nat.lt_of_le_of_lt em ζ,k1 _ _ (sq λn2 k2=>?_)⟩
    have b0:=ct.kp n fk X (bn (o:=.lst (es++[.ref Y])))
    have bI:=iL (o':=.lst (es++[.ref Y])) X.h
    have bN:(upd H3 c.ea (.lst (es++[.ref Y]))) c.ea=some (.lst (es++[.ref Y])):=ae
    have bP:=bI _ _ cv
    have cw:=Paired.mapP X.p λ_ _ z=>z.keep bI
    generalize (upd H3 c.ea _)=H4 at b0 bN bP cw ⊢
    refine ⟨_,ϱ,_,ϱ,_,ϱ,_,ϱ,_,ϱ,c.ea,_,_,_,ϱ,ϱ,SqL.of bN,yo es (.ref Y),Y,_,_,_,ϱ,ϱ,SqT.of bP,St.at1,c.b,d,x,c.b.pa,c.b.p,o,(by rw [G.eW];rfl),b0.g,(by have:=G.du;omega),ω,(by have:=G.lw;omega),ej,G.rc,.inl ⟨ϱ,ϱ,G.o,λW' dl H5 eW g5=>k2 _ _ (sq λn3 k3=>⟨χ,λmA n4=>k3 _ _ ⟨χ,λmG n5=>kB _ _ ?_⟩⟩)⟩⟩
    have ep:=b0.fin g5 (.inl rfl) (by show 0<=3;decide) eW
    have s4:=ah (o:=.lst []) n4
    have s5:=ah (o:=.lst []) n5
    have cx:=s4.trans s5
    obtain ⟨cf,ch⟩:=g5.out bN le.n
    have cF:=g5.ow.ts _ _ bP
    have lm:=Paired.mapP cw λ_ _ z=>z.keep (g5.ow.ts.trans cx.ts)
    refine ⟨c,U,J,fs,E0,k,y14,fk,hk,⟨_,_,kn,es++[.ref Y],mA,[],[],mG,[],_,_,_,ϱ,ep.same n cx,⟨cx _ _ cf,ch,lm.app (.cons ⟨Y,c.b.pa,ϱ,cx _ _ cF,cx _ _ g5.wo.pa⟩ .nil),λo' m=>?_⟩,⟨⟨s5 _ _ ae,g5.ow.free n4,.nil,ϖ _,λ_=>rfl⟩,Ne.symm (ap cf n4),ae,(g5.same n s4).ow.free n5,Ne.symm (ap (s4 _ _ cf) n5),.nil⟩,?_,λo' m=>?_,λo' m=>?_⟩,λy13 y14 σ' H' j=>⟨y13,y14,j⟩⟩
    ·rcases List.mem_append.mp m with m | m
     ·exact le.z o' m
     ·exact absurd (congrArg Prod.fst (ϵ.mp m)).symm G.g.wo.ne
    ·show (d.en++[_]).length<=_
     rw [List.length_append]
     exact Nat.succ_le_succ en
    ·omega
    ·rcases List.mem_append.mp m with m | m
     ·exact ez o' m
     ·exact absurd (congrArg Prod.fst (ϵ.mp m)).symm G.g.wo.ne
   ·refine a9 (λz=>absurd (V.int.inj (Ξ z)) hc) (λ_=>kB _ _ ⟨c,U,J,fs,E0,k,y14,fk,hk,⟨d,x,kn,es,la,ls,I,ha,hs,_,_,_,ϱ,G,le,lk,ω,(λo m=>by have:=eq o m;omega),ez⟩,λy13 y14 σ' H' j=>⟨y13,y14,j⟩⟩)
  ·rintro σ H2 _
   exact kA _ _ (nx _ _ (q _))
 case vB =>
  rintro D0 σ H2 ⟨c,U,J,fs,E0,k,y14,fk,hk,⟨d,x,kn,es,la,ls,I,ha,hs,y15,y16,y17,rfl,G,le,lk,en,eq,ez⟩,nx⟩
  have lz:=fk.lz
  refine sq λnB kB=>Dj λtb ub kT kU=>?_
  have dT:ub (sL c la ha (some (.int (k:Nat))) y14 y15 y16 y17) H2:=kU _ _ (kB _ _ ⟨c,U,J,fs,E0,k,y14,fk,hk,⟨d,x,kn,es,la,ls,I,ha,hs,_,_,_,ϱ,G,le,lk,ω,eq,(λo m=>by have:=ez o m;omega)⟩,nx⟩)
  refine ⟨_,ϱ,ϱ,_,ϱ,a9 (λh3=>⟨_,ϱ,_,_,ϱ,ϱ,⟨ζ,ζ⟩,_,_,ϱ,ϱ,(by show (0:Int)<8;decide),ϱ,_,ϱ,a9 (λ_=>kT _ _ ?_) (λ_=>dT)⟩) (λ_=>aT dT)⟩
  have k3:k=3:=by have:=V.int.inj (Ξ h3);omega
  have ej:cr d.en c.b.z=none:=xV λo m=>by have:=ez o m;omega
  refine sq λn1 k1=>⟨_,ϱ,.inl ⟨ϱ,_,SqL.of le.h⟩,_,ϱ,χ,λY f2=>?_⟩
  have s1:=ah (o:=.tup [.ref c.b.za,.str "broken"]) f2
  have ct:=G.same n s1
  have X:=le.same s1
  have bS:=lk.same s1
  have cv:(upd H2 Y (.tup [.ref c.b.za,.str "broken"])) Y=some (.tup [.ref c.b.za,.str "broken"]):=ae
  generalize (upd H2 Y _)=H3 at ct X bS cv ⊢
  have em:es.length<=100:=by rw [← le.p.len];omega
  refine ⟨c.ea,es,_,ϱ,ϱ,X.h,Nat.lt_of_le_of_lt em ζ,k1 _ _ ?_⟩
  have b0:=ct.kp n fk X (bn (o:=.lst (es++[.ref Y])))
  have bI:=iL (o':=.lst (es++[.ref Y])) X.h
  have g7:=bS.out (H':=upd H3 c.ea (.lst (es++[.ref Y]))) (d':=d) (x':=x) (λh nn na=>⟨by rw [ao na];exact h,nn⟩) bI rfl
  have bN:(upd H3 c.ea (.lst (es++[.ref Y]))) c.ea=some (.lst (es++[.ref Y])):=ae
  have bP:=bI _ _ cv
  have cw:=Paired.mapP X.p λ_ _ z=>z.keep bI
  generalize (upd H3 c.ea _)=H4 at b0 g7 bN bP cw ⊢
  refine ⟨_,ϱ,_,ϱ,_,ϱ,c.b,d,x,c.b.za,c.b.z,"broken",(by rw [G.eW];rfl),b0.g,(by have:=G.du;omega),ω,(by have:=G.lw;omega),ej,G.rc,.inr ⟨ϱ,ϱ,θ,λW' dl H5 eW g5=>kB _ _ ?_⟩⟩
  have ep:=b0.fin g5 G.o G.du eW
  obtain ⟨cf,ch⟩:=g5.out bN le.n
  refine ⟨c,U,J,fs,E0,k,y14,fk,hk,⟨_,_,kn,es++[.ref Y],la,ls,I,ha,hs,_,_,_,ϱ,ep,⟨cf,ch,(Paired.mapP cw λ_ _ z=>z.keep g5.ow.ts).app (.cons ⟨Y,c.b.za,ϱ,g5.ow.ts _ _ bP,g5.wo.za⟩ .nil),λo' m=>?_⟩,g7.out (λh nn _=>g5.out h nn) g5.ow.ts rfl,?_,λo' m=>?_,λo' m=>?_⟩,nx⟩
  ·rcases List.mem_append.mp m with m | m
   ·exact le.z o' m
   ·cases ϵ.mp m;rfl
  ·show (d.en++[_]).length<=_
   rw [List.length_append]
   exact Nat.succ_le_succ en
  ·rcases List.mem_append.mp m with m | m
   ·exact eq o' m
   ·exact absurd (congrArg Prod.fst (ϵ.mp m)) G.g.wo.ne
  ·omega
 case vC =>
  rintro D0 σ H2 ⟨c,U,J,fs,E0,k,y14,fk,hk,⟨d,x,kn,es,la,ls,I,ha,hs,y15,y16,y17,rfl,r⟩,nx⟩
  have aS:=r.1.e _ (by rw [fk.eE];exact .head _)
  have hz:(J.map V.int)[k]?=some (.int J[k]):=by rw [List.getElem?_map,ξ hk];rfl
  refine sq λnA kA=>⟨_,ϱ,kA _ _ (sq λnB kB=>Dj λtb ub kT kU=>?_)⟩
  have go:∀i:Int,nB (sL c la ha (some (.int (k:Nat))) (some (.int i)) y15 y16 y17) H2:=λi=>kB _ _ ⟨c,U,J,fs,E0,k,i,fk,hk,⟨d,x,kn,es,la,ls,I,ha,hs,_,_,_,ϱ,r⟩,nx⟩
  refine ⟨_,ϱ,_,ϱ,c.ca,_,_,_,ϱ,ϱ,SqL.of aS.1,aW hz,_,_,ϱ,ϱ,(by show (0:Int)<4;decide),ϱ,_,ϱ,a9 (λ_=>⟨_,ϱ,_,_,ϱ,ϱ,_,ϱ,a9 (λh0=>kT _ _ ?_) (λ_=>kU _ _ (go _))⟩) (λ_=>aT (kU _ _ (go _)))⟩
  have lu:(0:Int)<(k:Int):=Ξ h0
  exact ⟨_,ϱ,_,ϱ,c.ca,_,_,_,ϱ,ϱ,SqL.of aS.1,aW hz,_,_,ϱ,ϱ,⟨ζ,ζ⟩,_,ϱ,_,_,ϱ,ϱ,lu,go _⟩
 case vD =>
  rintro D0 σ H2 ⟨c,U,J,fs,E0,k,i,fk,hk,⟨d,x,kn,es,la,ls,I,ha,hs,y15,y16,y17,rfl,G,le,lk,en,eq,ez⟩,nx⟩
  have lz:=fk.lz
  have aS:=G.e _ (by rw [fk.eE];exact .head _)
  have d1:=G.e (c.fa,.lst fs) (by rw [fk.eE];exact .tail _ (.head _))
  have hz:(J.map V.int)[k]?=some (.int J[k]):=by rw [List.getElem?_map,ξ hk];rfl
  refine sq λnA kA=>⟨_,ϱ,_,ϱ,c.ca,_,_,_,ϱ,ϱ,SqL.of aS.1,aW hz,_,_,ϱ,ϱ,⟨ζ,ζ⟩,_,ϱ,c.fa,_,ϱ,.inl (SqL.of d1.1),_,_,ϱ,(by rw [fk.lf];exact fk.n1),(by rw [fk.lf];exact fk.n8),λwd bi H3 s3 ar hG=>kA _ _ (sq λnB kB=>?_)⟩
  rw [fk.lf] at hG
  have ic:inC d.cells.length wd bi:=by rw [G.cl];exact hG
  obtain ⟨lo,fI⟩:=lO ar ic
  have bS:=lk.same s3
  have dV:=bS.lx.h
  have g9:=bS.lx.p.len
  refine ⟨_,ϱ,la,ϱ,⟨_,SqL.of dV⟩,?_⟩
  refine cJ (xs:=ls) (λj ys H'=>Same H3 H'/\∃fl,Paired (cLk.rp K H') fl ys/\decide (fl=[])=(I.take j).all λl=>aG l lo) ⟨Same.refl _,[],.nil,ϱ⟩ (Λ (by rw [← g9];exact lk.lx.l) ζ) (λj ys H' _ z=>SqL.of (z.1 _ _ dV)) ?_ ?_
  ·rintro j u ys H4 hj ⟨s4,fl,pf,ef⟩
   obtain ⟨l,el,rl⟩:=bS.lx.p.get hj
   have et:((I.take (j+1)).all λl=>aG l lo)=(((I.take j).all λl=>aG l lo)&&aG l lo):=by
    rw [List.take_succ,el,List.all_append]
    simp
   rw [et,← ef]
   refine ⟨_,ϱ,_,ϱ,_,wd,bi,ϱ,ar,ic,λmS v2 H5 e5 s5 r5=>?_⟩
   rw [fI] at e5
   cases e5
   refine ⟨u,v2,l,lo,ϱ,cLk.keep (s4.trans s5).ts rl,r5,λH6 s6=>⟨_,ϱ,?_⟩⟩
   have dt:=s5.trans s6
   have ga:=pp pf λ_ _ z=>cLk.keep dt.ts z
   cases eb:aG l lo with
   | true=>exact aT ⟨s4.trans dt,fl,ga,by rw [Bool.and_true]⟩
   | false=>exact cu ⟨_,rfl,s4.trans dt,fl++[l],ga.app (.cons (cLk.keep (s4.trans dt).ts rl) .nil),by rw [Bool.and_false];exact decide_eq_false (by simp)⟩
  rintro ys H4 ⟨s4,fl,pf,ef⟩ l5 n5
  rw [← g9,List.take_length,lk.lx.m lo] at ef
  have s5:=ah (o:=.lst ys) n5
  refine ⟨χ,λl6 n6=>⟨fl,[],⟨l5,ys,ϱ,SqL.of (ah n6 _ _ ae),pp pf λ_ _ z=>cLk.keep (s5.trans (ah n6)).ts z⟩,⟨l6,[],ϱ,SqL.of ae,.nil⟩,kB _ _ (sq λnC kC=>?_)⟩⟩
  have s6:=ah (o:=.lst []) n6
  have a8:=s3.trans (s4.trans (s5.trans s6))
  have er:=G.same n a8
  have dv:=le.same a8
  have ge:=lk.same a8
  generalize (upd (upd H4 l5 _) l6 _)=H6 at er dv ge ⊢
  rw [ef]
  have go:∀(fr:Bool) (H7:Hp),Same H6 H7->(cr d.en c.b.z=some "broken"->fr=false)->(cr d.en c.b.z≠some "broken"->fr=x.due.all λj=>aG j lo)->nC (sL c la ha (some (.int (k:Nat))) (some (.int i)) (some (.str (txt wd bi))) (some (.bl fr)) y17) H7:=λfr H7 s7 f0 f1=>by
   have gg:=er.same n s7
   have lI:=dv.same s7
   have lS:=ge.same s7
   have gk:=gg.e _ (by rw [fk.eE];exact .head _)
   refine kC _ _ (sq λnD kD=>⟨_,ϱ,_,ϱ,_,ϱ,_,ϱ,c.ca,_,_,_,ϱ,ϱ,SqL.of gk.1,aW hz,_,_,ϱ,ϱ,⟨ζ,ζ⟩,_,ϱ,λbG _=>⟨_,ϱ,χ,λta n0=>kD _ _ (sq λnE kE=>?_)⟩⟩)
   have s8:=ah (o:=.tup [.ref c.b.za,.int i,.int bG,.str (txt wd bi)]) n0
   have gt:=gg.same n s8
   have dy:=lI.same s8
   have gA:=lS.same s8
   have dZ:(upd H7 ta (.tup [.ref c.b.za,.int i,.int bG,.str (txt wd bi)])) ta=some (.tup [.ref c.b.za,.int i,.int bG,.str (txt wd bi)]):=ae
   generalize (upd H7 ta _)=H8 at gt dy gA dZ ⊢
   refine ⟨_,ϱ,_,ϱ,_,ϱ,_,ϱ,_,ϱ,_,ϱ,c.ea,es,d.en,ϱ,SqL.of dy.h,dy.p,ω,λl9 c1 n9 p9=>⟨l9,c1,ϱ,.inl ⟨SqL.of ae,λt9 nc=>?_⟩⟩⟩
   have s9:=ah (o:=.lst c1) n9
   have gB:=ah (o:=.tup c1) nc
   have bC:=s9.trans gB
   have bd:=gt.same n bC
   have dz:=dy.same bC
   have h5:=gA.same bC
   have h6:NwAt K (upd (upd H8 l9 (.lst c1)) t9 (.tup c1)) (bO ltE d.en) (.ref t9):=⟨t9,c1,ϱ,ae,Paired.mapP p9 λ_ _ z=>z.keep gB.ts⟩
   have e1:=bC _ _ dZ
   generalize (upd (upd H8 l9 _) t9 _)=H9 at bd dz h5 h6 e1 ⊢
   refine ⟨c.b,d,x,ta,i,bG,wd,bi,c.ka,kn,fr,.ref t9,(by rw [G.eW];rfl),fk.pw,bd.g,e1,ar,ic,(by rw [G.cl];exact fk.n8),(by have:=G.lw;omega),(by have:=G.du;omega),ω,bd.hk,bd.nk,(by have:=G.lk;omega),G.kw,f0,(λmS e2=>by rw [fI] at e2;cases e2;exact f1),h6,λd' x' hL dN f5 hN hQ pg=>⟨_,ϱ,aT (kE _ _ ?_)⟩⟩
   obtain ⟨cz,rfl⟩:=pg.ex
   have ou:∀{a o},H9 a=some o->(∀bt,o≠.dK bt)->a∉ad (stL c.b.p c.b.z c.b.A d++wtL CL c.b x)->dN a=some o/\a∉ad (stL c.b.p c.b.z c.b.A d'++wtL CL c.b ⟨x.W,x.dl,x.vs,x.o,x.dk,x.ak,x.due,cz⟩):=λ{a o} e ne na=>f5.out e λz=>by
    rcases ϕ.mp z with y | y
    ·rw [y,bd.hk] at e
     exact ne _ (Δ e).symm
    ·exact na y
   have ts:=f5.ow.ts
   have d2:LK CL K c dN d' ⟨x.W,x.dl,x.vs,x.o,x.dk,x.ak,x.due,cz⟩ la ls I ha hs:=h5.out (λh nn _=>ou h (λ_ z=>by cases z) nn) ts rfl
   have e3:LB C CS CH CL CV K c (k+1) dN d' ⟨x.W,x.dl,x.vs,x.o,x.dk,x.ak,x.due,cz⟩ hL:=⟨f5.self fE,λu O=>ou (bd.e u O).1 (fk.ek u O).1 (bd.e u O).2,hQ,hN,(by have:=pg.lk;have:=G.lk;omega),pg.kn,(by have:=pg.lw;have:=G.lw;omega),pg.ln.trans G.cl,G.o,G.du,(by unfold yq;rw [pg.rc,pg.ln];exact G.rc),G.eW⟩
   have h7:LE CL K c dN d' ⟨x.W,x.dl,x.vs,x.o,x.dk,x.ak,x.due,cz⟩ es:=(let ⟨h1,h2⟩:=ou dz.h (λ_ z=>by cases z) dz.n;⟨h1,h2,by rw [pg.en];exact Paired.mapP dz.p λ_ _ z=>z.keep ts,by rw [pg.en];exact le.z⟩)
   have g:=e3.g
   have ld:(x.due.map λj=>((c.b.p,j):Pr)).length<=1000:=by rw [ν];have:=G.du;omega
   refine ⟨_,ϱ,x.W.l,x.W.dx,_,(by rw [G.eW]),g.wo.wi,fb θ,x.W,c.b.home,c.b.many,c.b.A.l,_,(by rw [G.eW];rfl),g.wo.wi,g.ls,ld,⟨_,eJ c.b.p _⟩,λnf s0 hR dP _ hT hY=>⟨_,ϱ,_,_,⟨nf,hR,ϱ,SqL.of hT,hY⟩,⟨ha,hs,ϱ,SqL.of (dP _ _ d2.h),pp d2.p λ_ _ z=>cPr.keep dP.ts z⟩,_,ϱ,?_⟩⟩
   rw [τ rfl]
   have eu:=g.same n dP
   refine aT ⟨_,ϱ,x.W.l,x.W.dx,_,(by rw [G.eW]),eu.wo.wi,fb θ,x.W,c.b.home,c.b.many,c.b.A.l,_,(by rw [G.eW];rfl),eu.wo.wi,eu.ls,ld,⟨_,eJ c.b.p _⟩,λq12 si aZ i0=>⟨χ,λnh i1=>⟨[],[],⟨q12,[],ϱ,SqL.of (ah i1 _ _ i0),.nil⟩,⟨nh,[],ϱ,SqL.of ae,.nil⟩,_,ϱ,aT ?_⟩⟩⟩
   have ev:=dP.trans (aZ.trans (ah (o:=.lst []) i1))
   exact nx _ _ _ _ ⟨d',_,hL,es,la,ls,I,ha,hs,_,_,_,ϱ,e3.same n ev,h7.same ev,d2.same ev,by rw [pg.en];exact en,by rw [pg.en];exact eq,by rw [pg.en];exact ez⟩
  have br:=BZ le.z
  refine ⟨_,ϱ,x.due.all λj=>aG j lo,ϱ,?_⟩
  cases ea:x.due.all λj=>aG j lo with
  | false=>exact aT (go false H6 (Same.refl _) (λ_=>rfl) λ_=>ea.symm)
  | true =>
   refine cu ⟨_,ϱ,χ,λp7 n7=>?_⟩
   have s7:=ah (o:=.tup [.ref c.b.za,.str "broken"]) n7
   refine ⟨_,ϱ,(c.b.z,"broken"),c.ea,es,d.en,sPS.c (x:=(c.b.z,"broken")) ⟨p7,c.b.za,ϱ,ae,s7 _ _ er.g.wo.za⟩,ϱ,.inl (SqL.of (s7 _ _ dv.h)),(Paired.mapP dv.p λ_ _ z=>sPS.c (z.keep s7.ts)),go _ _ s7 (λz=>?_) λz=>?_⟩
   ·simp [br.mp z]
   ·simp [show ¬(c.b.z,("broken":Str))∈d.en from λy=>z (br.mpr y),ea]
 obtain ⟨E0,fN,ee,cm⟩:∃E0:Cs,(∀u∈E0,H u.1=some u.2/\u.1∉[Pt,Pw])/\(∀u∈E0,∀bt,u.2≠.dK bt)/\∀H',(∀u∈E0,H' u.1=some u.2)->SqL K H' a (ns.map V.int):=by
  have np:∀{o:HO},H a=some o->(∀t,o≠.tbl t)->a∉[Pt,Pw]:=λ{o} e ne m=>ne _ (Δ (e.symm.trans (hP a m)))
  rcases id hS with (h | ⟨o,h⟩) | h
  ·exact ⟨[(a,.lst (ns.map V.int))],(λu O=>by rw [ϵ.mp O];exact ⟨h,np h (λ_ z=>by cases z)⟩),(λu O bt z=>by rw [ϵ.mp O] at z;cases z),λH' e=>.inl (.inl (e _ (.head _)))⟩
  ·exact ⟨[(a,.frz o (.lst (ns.map V.int)))],(λu O=>by rw [ϵ.mp O];exact ⟨h,np h (λ_ z=>by cases z)⟩),(λu O bt z=>by rw [ϵ.mp O] at z;cases z),λH' e=>.inl (.inr ⟨o,e _ (.head _)⟩)⟩
  ·exact ⟨[],(λ_ h=>nomatch h),(λ_ h=>nomatch h),λH' _=>.inr h⟩
 refine sq λnA kA=>⟨_,ϱ,a,ns,0,ϱ,hS,kA _ _ (sq λnB kB=>?_)⟩
 generalize bL ns 0=m
 obtain ⟨M,hM,qs,qx⟩:∃M:Nat,1+m%8=(M:Int)/\1<=M/\M<=8:=by
  have h0:0<=m%8:=Int.emod_nonneg _ ζ
  have h3:m%8<8:=Int.emod_lt_of_pos _ ζ
  exact ⟨(1+m%8).toNat,ω,ω,ω⟩
 refine ⟨_,ϱ,_,_,ϱ,ϱ,(by show (0:Int)<8;decide),_,_,ϱ,ϱ,(M:Int),congrArg (λz=>[V.int z]) hM,ω,ω,?_⟩
 rw [Int.toNat_natCast]
 refine jq (n:=M) (λi ys H'=>H'=H/\∃vs:List Int,ys=vs.map V.int/\vs.length=i) ⟨ϱ,[],ϱ,ϱ⟩ (ko ω) (λi ys H' hi z=>lU ?_) (λys H' z=>?_)
 ·obtain ⟨rfl,vs,rfl,kv⟩:=z
  exact ⟨_,ϱ,_,ϱ,_,_,ϱ,ϱ,_,_,ϱ,ϱ,⟨ω,ω⟩,_,ϱ,_,_,ϱ,ϱ,.inl ⟨ζ,ζ⟩,_,_,ϱ,ϱ,_,ϱ,λr _=>⟨ϱ,vs++[r],by rw [List.map_append];rfl,by rw [List.length_append];show vs.length+1=i+1;omega⟩⟩
 obtain ⟨rfl,cs,rfl,kv⟩:=z
 intro fa d1
 have s1:=ah (o:=.lst (cs.map V.int)) d1
 have h8:(upd H' fa (.lst (cs.map V.int))) fa=some (.lst (cs.map V.int)):=ae
 have mb:fa∉[Pt,Pw]:=λz=>by rw [hP fa z] at d1;cases d1
 generalize (upd H' fa (HO.lst (cs.map V.int)))=H1 at s1 h8 ⊢
 refine kB _ _ (sq λnC kC=>⟨_,ϱ,_,_,ϱ,ϱ,⟨ζ,ζ⟩,_,_,ϱ,ϱ,(by show (0:Int)<5;decide),_,ϱ,_,_,ϱ,ϱ,⟨ζ,ζ⟩,_,_,ϱ,ϱ,(by show (0:Int)<19;decide),χ,λza ni=>kC _ _ (sq λnD kD=>?_)⟩)
 have s2:=ah (o:=.tup [.int (m/8%5),.int (m/40%19)]) ni
 have ew:PaA (upd H1 za (.tup [.int (m/8%5),.int (m/40%19)])) (m/8%5,m/40%19) za:=ae
 have aZ:=s1.trans s2
 have hd:=s2 _ _ h8
 generalize (upd H1 za _)=H2 at ew aZ hd ⊢
 obtain ⟨p0,kz⟩:∃p0,m/8%5=p0:=⟨_,ϱ⟩
 rw [kz] at ew
 refine ⟨χ,λl0 dI=>⟨l0,ϱ,⟨_,SqL.of ae⟩,?_⟩⟩
 have s3:=ah (o:=.lst [.int 0,.int 2,.int 3,.int 4]) dI
 have hg:(upd H2 l0 (.lst [.int 0,.int 2,.int 3,.int 4])) l0=some (.lst [.int 0,.int 2,.int 3,.int 4]):=ae
 have ey:=s3 _ _ ew
 generalize (upd H2 l0 _)=H3 at s3 hg ey ⊢
 refine cJ (xs:=([0,2,3,4]:List Int).map V.int) (λi ys H'=>H3=H'/\∃os:List Int,ys=os.map V.int/\(∀z∈os,z≠p0)/\(1<=i->p0≠0->os≠[])/\(2<=i->os≠[])/\os.length<=i) ⟨ϱ,[],ϱ,(λ_ z=>nomatch z),(λz=>by omega),(λz=>by omega),ι _⟩ χ (λi ys H' _ z=>by rw [← z.1];exact SqL.of hg) ?_ ?_
 ·rintro i u ys _ O ⟨rfl,os,rfl,h1,h2,h3,h4⟩
  rw [List.getElem?_map] at O
  obtain ⟨z,ez,rfl⟩:=Option.map_eq_some_iff.mp O
  refine ⟨_,ϱ,_,ϱ,za,_,_,_,ϱ,ϱ,SqT.of ey,St.at0,ϱ,_,ϱ,?_⟩
  by_cases e:z=p0
  ·obtain ⟨k1,k2⟩:=oth ez h2 h3 e
   rw [τ (congrArg V.int e)]
   exact aT ⟨ϱ,os,ϱ,h1,k1,k2,υ h4⟩
  ·rw [Γ λy=>e (V.int.inj y)]
   refine cu ⟨_,ϱ,ϱ,os++[z],by rw [List.map_append];rfl,λy hy=>?_,(λ_ _=>by simp),(λ_=>by simp),by rw [List.length_append];exact Nat.succ_le_succ h4⟩
   rcases List.mem_append.mp hy with k | k
   ·exact h1 y k
   ·rw [ϵ.mp k];exact e
 rintro ys _ ⟨rfl,os,rfl,h1,_,h3,h4⟩ oa nR
 have r9:=List.length_pos_iff.mpr (h3 ζ)
 have s4:=ah (o:=.lst (os.map V.int)) nR
 have eD:(upd H3 oa (.lst (os.map V.int))) oa=some (.lst (os.map V.int)):=ae
 have hh:=aZ.trans (s3.trans s4)
 have hm:=(s3.trans s4) _ _ hd
 have hn:=s4 _ _ ey
 generalize (upd H3 oa _)=H4 at eD hh hm hn ⊢
 have hp:(0:Int)<((os.map V.int).length:Int):=by rw [ν];omega
 obtain ⟨q0,l2,l3⟩:∃q0,atI (os.map V.int) (m/16%((os.map V.int).length:Int))=some (.int q0)/\q0≠p0:=by
  have g0:0<=m/16%((os.map V.int).length:Int):=Int.emod_nonneg _ ω
  have g1:m/16%((os.map V.int).length:Int)<((os.map V.int).length:Int):=Int.emod_lt_of_pos _ hp
  generalize m/16%((os.map V.int).length:Int)=j at g0 g1
  rw [ν] at g1
  obtain ⟨i,rfl⟩:∃i:Nat,j=(i:Int):=⟨j.toNat,ω⟩
  have hi:i<os.length:=by omega
  exact ⟨os[i],aW (by rw [List.getElem?_map,ξ hi];rfl),h1 _ (List.getElem_mem hi)⟩
 refine kD _ _ (sq λnE kE=>⟨_,ϱ,_,ϱ,_,_,ϱ,ϱ,⟨ζ,ζ⟩,_,ϱ,oa,_,ϱ,.inl (SqL.of eD),_,_,ϱ,ϱ,hp,oa,_,_,_,ϱ,ϱ,SqL.of eD,l2,_,ϱ,_,_,ϱ,ϱ,⟨ζ,ζ⟩,_,_,ϱ,ϱ,(by show (0:Int)<19;decide),χ,λpa nl=>kE _ _ (sq λnF kF=>?_)⟩)
 have s5:=ah (o:=.tup [.int q0,.int (m/80%19)]) nl
 have cF:PaA (upd H4 pa (.tup [.int q0,.int (m/80%19)])) (q0,m/80%19) pa:=ae
 have eH:=hh.trans s5
 have eI:=s5 _ _ hm
 have eP:=s5 _ _ hn
 have d3:((q0,m/80%19):Pa)≠(p0,m/40%19):=λz=>l3 (congrArg Prod.fst z)
 generalize (upd H4 pa _)=H5 at cF eH eI eP ⊢
 generalize ((q0,m/80%19):Pa)=Q1 at cF d3
 generalize ((p0,m/40%19):Pa)=P1 at eP d3
 have hq:∀b∈[Pt,Pw],H5 b=some (.tbl #[]):=λb hb=>eH _ _ (hP b hb)
 have g0:Ow CH CL [Pt,Pw] H5 H5 [(Pt,.tbl #[]),(Pw,.tbl #[])]:=.mk0 (L:=[(Pt,.tbl #[]),(Pw,.tbl #[])]) (λx hx=>by
   simp only [List.mem_cons,List.not_mem_nil,or_false] at hx
   rcases hx with e | e<;>subst e
   ·exact hq _ j0
   ·exact hq _ j1) nP (λx hx=>by
   simp only [List.mem_cons,List.not_mem_nil,or_false] at hx
   rcases hx with e | e<;>subst e<;>exact id)
 refine ⟨_,ϱ,λl6 d6 ff i3 sv=>⟨l6,d6,fa,cs,ϱ,ae,kr ff i3 _ _ eI,λA6 H6 eA iA oA=>⟨ϱ,kF _ _ (sq λnG kG=>?_)⟩⟩⟩
 subst eA
 have ob:=(oA Q1 P1).born (kr ff i3) ff
 have g6:=g0.join ob
 have s6:Same H5 H6:=λb u e=>ob.fr b u (λz=>nomatch z) e
 have ht:Si CS K H6 Q1 P1 A6 ⟨cs,false,none,[],[],[]⟩:=⟨iA,⟨(λ_ h=>nomatch h),List.nodup_nil⟩,(λ_ h=>nomatch h),λ_ z=>by cases z⟩
 refine ⟨_,ϱ,λl7 d7 fi ia t4=>⟨l7,d7,⟨1,5,Q1,pa,P1,za,A6,Pt,Pw⟩,⟨cs,false,none,[],[],[]⟩,ϱ,ae,(Bl g6 ht).keep (kr fi ia),ϱ,λW dl H7 eW oW iW=>⟨ϱ,?_⟩⟩⟩
 subst eW
 obtain ⟨o7,s7⟩:=rA (b:=⟨1,5,Q1,pa,P1,za,A6,Pt,Pw⟩) (d:=⟨cs,false,none,[],[],[]⟩) (R:=[]) g6 (kr fi ia) fi oW
 have gd:Gd C CS CH CL CV K [Pt,Pw] H5 H7 ⟨1,5,Q1,pa,P1,za,A6,Pt,Pw⟩ [] ⟨cs,false,none,[],[],[]⟩ ⟨W,dl,[],(none,none),[],[],[],⟨none,none⟩⟩:=⟨o7,ht.keep s7,iW,.nil,⟨(λ_ z=>by cases z),λ_ z=>by cases z⟩,s7 _ _ (s6 _ _ cF),s7 _ _ (s6 _ _ eP),(λ_=>⟨ϱ,ϱ⟩),(λ_=>rfl),d3⟩
 refine kG _ _ ⟨m,fa,oa,⟨1,5,Q1,pa,P1,za,A6,Pt,Pw⟩,⟨cs,false,none,[],[],[]⟩,⟨W,dl,[],(none,none),[],[],[],⟨none,none⟩⟩,E0,ϱ,gd.self fE,ϱ,ϱ,ϱ,ϱ,ϱ,ϱ,(by show 1<=cs.length;omega),(by show cs.length<=8;omega),λu O=>?_,ee,cm,ϱ,ϱ,λ_ _ z=>z⟩
 rcases ϕ.mp O with z | z
 ·rw [z];exact gd.out eI mb
 ·exact gd.out (eH _ _ (fN u z).1) (fN u z).2
theorem Ds{α:Type}{p:α->Prop}{a b:α}(h1:p a)(h2:p b):∀t∈[a,b],p t:=λt ht=>by
 simp only [List.mem_cons,List.not_mem_nil,or_false] at ht
 rcases ht with e | e<;>subst e<;>assumption
theorem xq{val:Int->Int}{n:Nat}(F:Fun K "step_done" "PlusStep.step_done" ci f fd):FnOk P w K mg base CX0 5 f fd ["self","hand","value_of"] (dU P w K mg CW val n .plus base):=by
 refine F.ok gO (λvs H Q E h=>?_) (λl A e s H vs Q E m h=>?_)
 ·obtain ⟨v,g,b,i,_,j,d,_⟩:=h
  exact d.elim
 ·obtain ⟨v,g,b,i,_,j,d,_⟩:=h
  exact d.elim
theorem xr{val:Int->Int}{n:Nat}(F:Fun K "step_done" "NeedStep.step_done" cj f fd):FnOk P w K mg base CX0 5 f fd ["self","hand","value_of"] (dU P w K mg CW val n .need base):=by
 refine F.ok gP (λvs H Q E h=>?_) (λl A e s H vs Q E m h=>?_)
 ·obtain ⟨v,g,b,i,_,j,d,_⟩:=h
  exact d.elim
 ·obtain ⟨v,g,b,i,_,j,d,_⟩:=h
  exact d.elim
end
end K53
namespace L2
open PySem PySem.Spec PyProof.Rows PySem.W Lo
theorem sF{P:Program}{w:World}{K:Frag}{mg mb:Str->Option Value}{CX:CXT}{k:Nat}{fa a:Addr}{j:List (Addr×Addr)}{fd:FuncData}{x:Str}{sp:Sp}{f:Shared}{vs:List Value}{Z:List Int}
  (KX:K.In f.heap)(aR:f.heap.Ns mainGlobals mg)(i:f.heap.Ns builtinsNs mb)(aS:∀x:Str,x≠"__name__"->mb x=bootBuiltins x)(a0:f.heap.NoLimit)(hg:f.gens=#[])
  (L:f.heap.get? a=some {cls:=.type "list",data:=.seq vs.toArray})(hi:IntsAre vs Z)(hl:Z.length<=sizeLine)(hr:Room k callerA)
  (hC:∀t∈j,codeHdIn K t.1 t.2=true)(hT1:∀t∈j,f.heap.get? t.2=some (tabObj #[]))(hK:noTabs K=true)(hB:BB mg f.heap)
  (F:∀base:Heap,K.In base->BB mg base->FnOk P w K mg base CX k fa fd [x] sp)(O:∀(s:Shared) (u:Value),BindsTo s fd ⟨[u],[]⟩ [(x,u)])
  (aZ:∀H:Hp,SqL K H a (Z.map V.int)->(∀b∈j.map Prod.snd,H b=some (.tbl #[]))->sp [.ref a] H (λv _=>v=.bl true) λ_ _ _=>False)
  (b0:∀H e s',CX [] H f (λ_ _ _=>False) e s'->False) :
  codeAny (model P w) callerA (.call (.ref fa) ⟨[.ref a],[]⟩) (λr s'=>r=.ok (.ret (.bool true))/\OldK f.heap s'.heap/\s'.os=f.os/\AllBare s'.gens) f:=by
 have rv:=on hi
 have U:=hi.length
 have I:∀{b:Addr},b∈j.map Prod.snd->f.heap.get? b=some (tabObj #[]):=λ{b} z=>by
  obtain ⟨t,ht,e⟩:=ϑ.mp z
  rw [← e]
  exact hT1 t ht
 have C:¬(a∈j.map Prod.snd):=λz=>by
  rw [I z] at L
  cases L
 have kP:∀{b:Addr},b∈j.map Prod.snd->K.lookup b=none:=λ{b} z=>by
  cases q:K.lookup b with
  | none=>rfl
  | some o =>
   have h2:=List.all_eq_true.mp hK (b,o) (mem_of_lookupK q)
   have e:=KX _ _ q
   rw [I z] at e
   cases e
   exact absurd (show false=true from h2) Bool.false_ne_true
 have W:∀{b:Addr},b∈j.map Prod.snd->∃cc,f.heap.TableAt cc b #[]:=λ{b} z=>by
  obtain ⟨t,ht,e⟩:=ϑ.mp z
  rw [← e]
  exact ⟨t.1,(codeHd_of_K KX (hC t ht)).tab (hT1 t ht)⟩
 have G:∀H:Hp,SqL K H a (Z.map V.int)->(∀b,b∈j.map Prod.snd->H b=some (.tbl #[]))->HOk P w H f.heap->(∀b,H b≠none->b=a\/(b∈j.map Prod.snd))->(H a≠none->K.lookup a=none)->(∀u,H a=some u->∃o xs,u=.frz o (.lst xs)) ->
   codeAny (model P w) callerA (.call (.ref fa) ⟨[.ref a],[]⟩) (λr s'=>r=.ok (.ret (.bool true))/\OldK f.heap s'.heap/\s'.os=f.os/\AllBare s'.gens) f:=by
  intro H hS hP Y hA ak ar
  have g:∀{b:Addr} {o:Obj},f.heap.get? b=some o->H b=none->(ol f.heap H).get? b=some o:=λe n=>xK e n
  have a7:∀{b:Addr} {o:Obj},f.heap.get? b=some o->(o.cls≠.type "list")->o.cls≠.none->H b=none:=λ{b o} e d1 d2=>by
   cases q:H b with
   | none=>rfl
   | some u =>
    rcases hA b (by rw [q];simp) with e' | e'
    ·subst e'
     rw [L] at e
     cases e
     exact absurd rfl d1
    ·rw [I e'] at e
     cases e
     exact absurd rfl d2
  have a8:∀{b:Addr} {o:Obj} {es:Array DictEntry} {ep:Nat},f.heap.get? b=some o->o.data=.dict es ep->H b=none:=λ{b o es ep} e d=>by
   cases q:H b with
   | none=>rfl
   | some u =>
    rcases hA b (by rw [q];simp) with e' | e'
    ·subst e'
     rw [L] at e
     cases e
     cases (show Data.seq vs.toArray _=Data.dict es ep from d)
    ·rw [I e'] at e
     cases e
     cases (show Data.fields #[]=Data.dict es ep from d)
  have J:∀{b:Addr} {m:Str->Option Value},f.heap.Ns b m->(ol f.heap H).Ns b m:=λ{b m} ⟨o,es,ep,e,d,r⟩=>⟨o,es,ep,g e (a8 e d),d,r⟩
  have X:K.In (ol f.heap H):=λb o e=>g (KX b o e) (by
   cases q:H b with
   | none=>rfl
   | some u =>
    rcases hA b (by rw [q];simp) with e' | e'
    ·subst e'
     rw [ak (by rw [q];simp)] at e
     cases e
    ·rw [kP e'] at e
     cases e)
  have hM:Mod K mg (ol f.heap H):=⟨X,J aR,⟨mb,J i,aS⟩,let ⟨mc,h1,h2⟩:=a0;⟨mc,J h1,h2⟩⟩
  have ab:BB mg (ol f.heap H):=by
   obtain ⟨bm,ob,b1,b2,b3,b4,b5,b6⟩:=hB
   exact ⟨bm,ob,b1,b2,g b3 (a7 b3 (by rw [b4];decide) (by rw [b4];nofun)),b4,b5,b6⟩
  have e0:Env0 P w K mg (ol f.heap H) callerA [] f H:=⟨ϱ,hM,λb o e=>zG e,Nat.le_of_eq (ve _ _),trivial,λb i=>absurd (show b∈([]:List Addr) from i) (by simp),Y,.of_eq hg⟩
  refine codeAny_mono ((F _ X ab).run callerA [] f H ⟨[.ref a],[]⟩ [.ref a] [.ref a] _ _ hr e0 (O f (.ref a)) (.cons rfl .nil) (aZ H hS hP)) λr s' h=>?_
  cases r with
  | error e=>exact (b0 H e s' h).elim
  | ok fl =>
   cases fl with
   | next=>exact False.elim h
   | brk=>exact False.elim h
   | cont=>exact False.elim h
   | ret u =>
    obtain ⟨v,H',os,Q,un,D,r',q⟩:=h
    have q':v=.bl true:=q
    subst q'
    obtain rfl:u=Value.bool true:=r'
    have l:∀b o,f.heap.get? b=some o->¬(b∈j.map Prod.snd)->s'.heap.get? b=some o:=λb o e nP=>by
     cases q:H b with
     | none=>exact un.keep b o e q (by intro z;exact absurd (show b∈([]:List Addr) from z) (by simp)) (by simp)
     | some u =>
      rcases hA b (by rw [q];simp) with e' | e'
      ·subst e'
       obtain ⟨ob,xs,rfl⟩:=ar u q
       have z2:=un.frzs b ob _ q
       obtain ⟨e1,_⟩:=Y b _ q
       obtain ⟨e2,_⟩:=D b _ z2
       rw [e] at e1
       cases e1
       exact e2
      ·exact absurd e' nP
    have tP:∀{b:Addr},b∈j.map Prod.snd->∃more,s'.heap.get? b=some {cls:=.none,data:=.fields (#[]++more)}:=λ{b} z=>by
     obtain ⟨more,eP⟩:=un.tbls b #[] (hP b z)
     exact ⟨more,D b _ eP⟩
    refine ⟨ϱ,⟨λb o e=>?_,λb o e=>?_⟩,os,Q⟩
    ·by_cases z:b∈j.map Prod.snd
     ·rw [I z] at e
      cases e
      obtain ⟨more,t⟩:=tP z
      obtain ⟨_,tc⟩:=W z
      exact .inr (.inl ⟨tc.isCodeTable,ϱ,#[],more,ϱ,t⟩)
     ·exact .inl (l b o e z)
    ·by_cases z:b∈j.map Prod.snd
     ·obtain ⟨more,t⟩:=tP z
      exact ⟨_,t⟩
     ·exact ⟨o,l b o e z⟩
 cases hk:K.lookup a with
 | some o =>
  have e:=KX a o hk
  rw [L] at e
  cases e
  refine G (λb=>if b∈j.map Prod.snd then some (.tbl #[]) else none) (.inr ⟨_,vs.toArray,_,hk,ϱ,ϱ,ϱ,by rw [List.size_toArray,U];exact hl,by simpa using rv⟩) (λb z=>if_pos z) (λb u z=>?_) (λb z=>?_) (λz=>absurd (if_neg C) z) λu z=>?_
  ·by_cases i:b∈j.map Prod.snd
   ·have y:=(if_pos i).symm.trans z
    cases y
    exact I i
   ·have y:=(if_neg i).symm.trans z
    cases y
  ·by_cases i:b∈j.map Prod.snd
   ·exact .inr i
   ·exact absurd (if_neg i) z
  ·have y:=(if_neg C).symm.trans z
   cases y
 | none =>
  refine G (λb=>if b∈j.map Prod.snd then some (.tbl #[]) else if b=a then some (.frz {cls:=.type "list",data:=.seq vs.toArray} (.lst (Z.map V.int))) else none) (.inl (.inr ⟨{cls:=.type "list",data:=.seq vs.toArray},(if_neg C).trans (if_pos rfl)⟩)) (λb z=>if_pos z) (λb u z=>?_) (λb z=>?_) (λ_=>hk) λu z=>?_
  ·by_cases i:b∈j.map Prod.snd
   ·have y:=(if_pos i).symm.trans z
    cases y
    exact I i
   ·have z1:=(if_neg i).symm.trans z
    by_cases i:b=a
    ·have y:=(if_pos i).symm.trans z1
     cases y
     subst i
     exact ⟨L,by rw [ν];exact hl,vs,_,rv,L⟩
    ·have y:=(if_neg i).symm.trans z1
     cases y
  ·by_cases i:b∈j.map Prod.snd
   ·exact .inr i
   ·by_cases hb':b=a
    ·exact .inl hb'
    ·exact absurd ((if_neg i).trans (if_neg hb')) z
  ·have z1:=((if_neg C).trans (if_pos rfl)).symm.trans z
   cases z1
   exact ⟨_,_,ϱ⟩
theorem uy{l:OpenLaw}{n k:Nat}{q:Program}{loose:List Str}{XP:(Str->Option Value)->Heap->Prop}{YP:World->Heap->Prop}{d:DefRec}{K:Params->Frag}{sp:World->List Addr->Sp}{x:Str}
  (hn:l.most=some n)(L:n<=sizeLine)(O:d.params.defaults=[])(hr:Room k callerA)(hY:∀(w:World) (h:Heap),YP w h->(K w.params).In h)
  (F:∀(w:World) (mg:Str->Option Value) (y:Addr) (h:Heap),YP w h->(K w.params).In h->h.Ns mainGlobals mg->mg d.name=some (.ref y) ->
   ∃(D:FuncData) (r:List (Addr×Addr)),(∀(s:Shared) (u:Value),BindsTo s D ⟨[u],[]⟩ [(x,u)])/\(∀t∈r,codeHdIn (K w.params) t.1 t.2=true)/\(∀t∈r,h.get? t.2=some (tabObj #[]))/\noTabs (K w.params)=true /\
    ∀base:Heap,(K w.params).In base->BB mg base->FnOk l.prog w (K w.params) mg base CX0 k y D [x] (sp w (r.map Prod.snd)))
  (P:∀(w:World) (U:List Addr) (H:Hp) (a:Addr) (C:List Int),C.length<=n->SqL (K w.params) H a (C.map V.int)->(∀b∈U,H b=some (.tbl #[]))->sp w U [.ref a] H (λv _=>v=.bl true) λ_ _ _=>False) :
  WalkO q loose XP YP l.row.toRowW d [] (λf vs=>PySem.call f vs):=by
 refine Att.rg hn O λw s₀ s₁ mg mb y o pm cd a1 a vs C G Y ho hd a2 J m j i hg=>?_
 have Q:=hY w _ Y
 obtain ⟨D,r,W,X,I,Z,hF⟩:=F w mg y _ Y Q G.T.g J
 exact sF Q G.T.g G.T.b G.T.builtins G.T.nolimit hg m j (Λ i L) hr X I Z G.T.bmain hF W (λH hS h1=>P w _ H a C i hS h1) λH e s' z=>z
end L2
namespace K53
open PySem L2 Lo St
def kmk(a b c:Addr):Kd->Addr
 | .read=>a
 | .mean=>b
 | .change=>c
def wmk(a b c d e f g:Addr):Wd->Addr
 | .take=>a
 | .mean=>b
 | .sum=>c
 | .give=>d
 | .add=>e
 | .plus=>f
 | .need=>g
abbrev bmV:List Value:=[.type "ValueError",.type "Exception",.type "BaseException",.type "object"]
def FnX(K:Frag)(f:Addr)(x q:Str)(st:Stmt):Prop:=PySem.W.isFn K (.ref f)=true/\∃fd,Fun K x q st f fd
theorem fnx{K:Frag}{f:Addr}{x q:Str}{st:Stmt}{oc kV dc pm cd ct:Value}{od an:Option Addr}{sl:Array (Option Value)}(l:K.lookup f=some ⟨oc,od,.func (PySem.W.fnOf x q (defArgs st) (defBody st) (defScope st) .none kV dc pm an cd ct),sl⟩)(c:PySem.W.codeIn K cd q=true)(k:PySem.W.keepIn K (.ref f)=true)(j:PySem.W.isFn K (.ref f)=true):FnX K f x q st:=⟨j,_,sI l c k⟩
section
variable {K:Frag}{f:Addr}{x q:Str}{st:Stmt}{fd:FuncData}
abbrev BdF(x q:Str)(st:Stmt)(us:List Value)(ps:List Str):Prop:=∀(kV doc pm:Value) (an:Option Addr) (cdv ct:Value),bindArgs (PySem.W.fnOf x q (defArgs st) (defBody st) (defScope st) .none kV doc pm an cdv ct) ⟨us,[]⟩=pure (ps.zip us)
theorem _root_.L2.Fun.b1(F:Fun K x q st f fd)(p:Str)(h:∀u,BdF x q st [u] [p]):Binds K fd [p] []:=F.binds λa b c d e g us hl=>match us,hl with | [u],_=>h u a b c d e g
theorem _root_.L2.Fun.b2(F:Fun K x q st f fd)(p r:Str)(h:∀u v,BdF x q st [u,v] [p,r]):Binds K fd [p,r] []:=F.binds λa b c d e g us hl=>match us,hl with | [u,v],_=>h u v a b c d e g
theorem _root_.L2.Fun.b3(F:Fun K x q st f fd)(p r s:Str)(h:∀u v w,BdF x q st [u,v,w] [p,r,s]):Binds K fd [p,r,s] []:=F.binds λa b c d e g us hl=>match us,hl with | [u,v,w],_=>h u v w a b c d e g
theorem _root_.L2.Fun.b4(F:Fun K x q st f fd)(p r s t:Str)(h:∀u v w y,BdF x q st [u,v,w,y] [p,r,s,t]):Binds K fd [p,r,s,t] []:=F.binds λa b c d e g us hl=>match us,hl with | [u,v,w,y],_=>h u v w y a b c d e g
theorem _root_.L2.Fun.b5(F:Fun K x q st f fd)(p r s t m:Str)(h:∀u v w y z,BdF x q st [u,v,w,y,z] [p,r,s,t,m]):Binds K fd [p,r,s,t,m] []:=F.binds λa b c d e g us hl=>match us,hl with | [u,v,w,y,z],_=>h u v w y z a b c d e g
theorem _root_.L2.Fun.b6(F:Fun K x q st f fd)(p r s t m n:Str)(h:∀u v w y z j,BdF x q st [u,v,w,y,z,j] [p,r,s,t,m,n]):Binds K fd [p,r,s,t,m,n] []:=F.binds λa b c d e g us hl=>match us,hl with | [u,v,w,y,z,j],_=>h u v w y z j a b c d e g
end
open PySem.W (readsIn findCls fnOf codeIn handedIn findIn nsIn keepIn isFn plainGet hasDictIn plainOver makesIn mroIn kitOne specialIn takesIn excIn mg_of mg_none_of codeHdIn tabObj noTabs)
abbrev XF(K:Frag)(C:Addr)(m:Str)(f:Addr):Prop:=PySem.W.findIn K (.ref C) m=some (some (.ref f))
abbrev X0(K:Frag)(C:Addr)(m:Str):Prop:=PySem.W.findIn K (.ref C) m=some none
abbrev XN(K:Frag)(m:Str)(f:Addr):Prop:=PySem.W.nsIn K mainGlobals m=some (some (.ref f))
abbrev Xn(K:Frag)(m:Str):Prop:=PySem.W.nsIn K mainGlobals m=some none
theorem nZ{K:Frag}{C D f:Addr}{m:Str}(a:XF K C m f)(b:X0 K D m):C≠D:=λe=>by
 subst e
 have:=(show _=_ from a).symm.trans (show _=_ from b)
 cases this
structure Ck(K:Frag)(C:Addr):Prop where
 c:Cls K C
 m:PySem.W.makesIn K C=true
 k:PySem.W.keepIn K (.ref C)=true
section
variable {P:Program}{w:World}{K:Frag}{mg:Str->Option Value}{base:Heap}{k:Nat}{C f:Addr}{x:Str}{ps:List Str}{sp:Sp}{fd:FuncData}
def gmk(a:XF K C x f)(j:PySem.W.isFn K (.ref f)=true)(e:PySem.W.keepIn K (.ref f)=true)(b:Binds K fd ps [])(o:FnOk P w K mg base CX0 k f fd ps sp):GM P w K mg base CX0 k C x ps sp:=⟨f,fd,o,b,⟨a,j,e⟩⟩
def gfk(e:PySem.W.keepIn K (.ref f)=true)(m:mg x=some (.ref f))(b:Binds K fd ps [])(o:FnOk P w K mg base CX0 k f fd ps sp):GF P w K mg base CX0 k x ps sp:=⟨f,fd,o,b,e,m⟩
end
theorem all_mk {l : PySem.W.OpenLaw} {w : World} {K : Frag} {h : Heap} {mg : Str → Option Value} {fa CR k5 I k6 J ka fi ft C F o vM kc kd kk kn WA q eb br WB ec bA WD ed ee bB WE ef bC WF eh ei bG WG ej Y bI WN ek bN CY CL h5 h6 h7 h8 ha hb hc hd he hg H hh hi hj el hk hm ho hp hq CH hr hs ht hu hv u hw hx bP em hy hz hA hC c0 hD hE hF kq ks kt kv kw kz kA kB kC kD kE kG kP kT kU l0 l2 fZ l3 fr aS b0 b1 b2 w0 eo ep er et : Addr} (X : K.In h) (G : h.Ns mainGlobals mg) (GH : mg "law" = some (.ref fa))
     {l5 l6 l7 l8:Option Addr} {l9 la:Array (Option Value)} {lb lc ld le ab lh ll lm ln lu ak lv:Value} {b O ar eu as ev f:Tok} {w1:Array DictEntry} {GJ:Nat} {w2:Array DictEntry} {GL:Nat} {oS o0 o1 o2:Option Addr} {sS s0 s1 s2:Array (Option Value)} {vS v0 v1 v2:Nat} {t0 t1 t2 t3 t4 t5:Tok} {w3:Option Addr} {w4:Array (Option Value)} {hG:Array Value} {w6:Option Addr} {w7:Array (Option Value)} {hK:Array Value}
  (nR:XN K "Read" CR)
 (lw:Ck K CR)
  (GN:X0 K CR "first")
  (GO:X0 K CR "last")
  (lx:XF K CR "kind" k5)
  (GP:FnX K k5 "kind" "Read.kind" ie)
  (nM:XN K "Mean" I)
 (lz:Ck K I)
  (GQ:X0 K I "first")
  (GR:X0 K I "last")
  (lI:XF K I "kind" k6)
  (GS:FnX K k6 "kind" "Mean.kind" ig)
  (nC:XN K "Change" J)
 (ma:Ck K J)
  (GT:X0 K J "first")
  (GU:X0 K J "last")
  (mb:XF K J "kind" ka)
  (GV:FnX K ka "kind" "Change.kind" fK)
  (GW:XF K CR "__init__" fi)
  (GX:XF K I "__init__" fi)
  (GY:XF K J "__init__" fi)
  (li:FnX K fi "__init__" "Lock.__init__" il)
  (GZ:XF K CR "told" ft)
  (H0:XF K I "told" ft)
  (H2:XF K J "told" ft)
  (lt:FnX K ft "told" "Lock.told" ii)
  (mc:XF K CR "beside" C)
  (me:XF K I "beside" C)
  (mk:XF K J "beside" C)
  (wh:FnX K C "beside" "Lock.beside" fJ)
  (mm:XF K CR "covers" F)
  (mn:XF K I "covers" F)
  (mp:XF K J "covers" F)
  (wi:FnX K F "covers" "Lock.covers" fH)
  (H3:XN K "Reader" o)
 (ew:Ck K o)
  (H4:X0 K o "text")
  (H5:X0 K o "place")
  (H6:XF K o "__init__" vM)
  (H7:FnX K vM "__init__" "Reader.__init__" iH)
  (H8:XF K o "passes" kc)
  (H9:FnX K kc "passes" "Reader.passes" gL)
  (Hc:XF K o "read_any" kd)
  (Hd:FnX K kd "read_any" "Reader.read_any" fo)
  (He:XF K o "read_below" kk)
  (Hf:FnX K kk "read_below" "Reader.read_below" eG)
  (Hg:XF K o "read_number" kn)
  (Hh:FnX K kn "read_number" "Reader.read_number" dJ)
  (Hj:XN K "TakeStep" WA)
 (ey:Ck K WA)
  (wk:X0 K WA "where")
  (wl:X0 K WA "cell")
  (wo:X0 K WA "low")
  (ws:X0 K WA "high")
  (wt:X0 K WA "amount")
  (ms:XF K WA "__init__" q)
  (x0:FnX K q "__init__" "CellStep.__init__" eF)
  (mu:XF K WA "lock" eb)
  (x1:FnX K eb "lock" "TakeStep.lock" d0)
  (mA:XF K WA "step_done" br)
  (x2:FnX K br "step_done" "TakeStep.step_done" cg)
  (Hk:XN K "MeanStep" WB)
 (ez:Ck K WB)
  (x3:X0 K WB "where")
  (x4:X0 K WB "cell")
  (x5:X0 K WB "low")
  (x6:X0 K WB "high")
  (x7:X0 K WB "amount")
  (mB:XF K WB "__init__" q)
  (mG:XF K WB "lock" ec)
  (x8:FnX K ec "lock" "MeanStep.lock" eB)
  (mN:XF K WB "step_done" bA)
  (x9:FnX K bA "step_done" "MeanStep.step_done" dL)
  (Hl:XN K "SumStep" WD)
 (eA:Ck K WD)
  (xb:X0 K WD "where")
  (xd:X0 K WD "cell")
  (xe:X0 K WD "low")
  (xs:X0 K WD "high")
  (xv:X0 K WD "amount")
  (mP:XF K WD "__init__" ed)
  (xN:FnX K ed "__init__" "SumStep.__init__" eV)
  (mR:XF K WD "lock" ee)
  (ya:FnX K ee "lock" "SumStep.lock" eU)
  (mX:XF K WD "step_done" bB)
  (ys:FnX K bB "step_done" "SumStep.step_done" bo)
  (Hm:XN K "GiveStep" WE)
 (eD:Ck K WE)
  (yv:X0 K WE "where")
  (z0:X0 K WE "cell")
  (z1:X0 K WE "low")
  (z2:X0 K WE "high")
  (z3:X0 K WE "amount")
  (n0:XF K WE "__init__" q)
  (n1:XF K WE "lock" ef)
  (za:FnX K ef "lock" "GiveStep.lock" eC)
  (n2:XF K WE "step_done" bC)
  (zh:FnX K bC "step_done" "GiveStep.step_done" cn)
  (Ho:XN K "AddStep" WF)
 (eE:Ck K WF)
  (zl:X0 K WF "where")
  (zs:X0 K WF "cell")
  (zu:X0 K WF "low")
  (zw:X0 K WF "high")
  (zz:X0 K WF "amount")
  (n3:XF K WF "__init__" eh)
  (A0:FnX K eh "__init__" "AddStep.__init__" eY)
  (n4:XF K WF "lock" ei)
  (A6:FnX K ei "lock" "AddStep.lock" eX)
  (n5:XF K WF "step_done" bG)
  (At:FnX K bG "step_done" "AddStep.step_done" cD)
  (Hq:XN K "PlusStep" WG)
 (eH:Ck K WG)
  (BT:X0 K WG "where")
  (C2:X0 K WG "cell")
  (CB:X0 K WG "low")
  (CN:X0 K WG "high")
  (CW:X0 K WG "amount")
  (n6:XF K WG "__init__" ej)
  (CX:FnX K ej "__init__" "PlusStep.__init__" d9)
  (n7:XF K WG "lock" Y)
  (D0:FnX K Y "lock" "Step.lock" h9)
  (n8:XF K WG "step_done" bI)
  (D1:FnX K bI "step_done" "PlusStep.step_done" ci)
  (Hr:XN K "NeedStep" WN)
 (eI:Ck K WN)
  (D2:X0 K WN "where")
  (D3:X0 K WN "cell")
  (D4:X0 K WN "low")
  (D5:X0 K WN "high")
  (D6:X0 K WN "amount")
  (n9:XF K WN "__init__" ek)
  (D7:FnX K ek "__init__" "NeedStep.__init__" eg)
  (na:XF K WN "lock" Y)
  (nb:XF K WN "step_done" bN)
  (D8:FnX K bN "step_done" "NeedStep.step_done" cj)
  (Hs:XN K "CellStep" CY)
  (Ht:specialIn K (.ref CY) "__getattribute__"=some (some (.builtin "type.__getattribute__")))
  (Hu:readsIn K CY (.type "type")=true)
  (Hv:findCls K (.ref CY) (.type "type") "__init__"=some (.val (.ref q)))
  (Hw:handedIn (.ref q)=true)
  (nL:XN K "Locks" CL)
 (nc:Ck K CL)
  (nP:X0 K CL "pairs")
  (nf:X0 K CL "kind")
  (D9:X0 K CL "keep")
  (DE:X0 K CL "value_at")
  (DY:XF K CL "__init__" h5)
  (DZ:FnX K h5 "__init__" "Locks.__init__" gD)
  (E1:XF K CL "ask" h6)
  (E2:FnX K h6 "ask" "Locks.ask" dM)
  (E3:XF K CL "hinderer" h7)
  (E4:FnX K h7 "hinderer" "Locks.hinderer" c7)
  (E5:XF K CL "waiting_pairs" h8)
  (E6:FnX K h8 "waiting_pairs" "Locks.waiting_pairs" bc)
  (E7:XF K CL "waiting_place" ha)
  (E8:FnX K ha "waiting_place" "Locks.waiting_place" bX)
  (E9:XF K CL "free" hb)
  (Ea:FnX K hb "free" "Locks.free" bp)
  (Eb:XF K CL "held_pairs" hc)
  (Ec:FnX K hc "held_pairs" "Locks.held_pairs" bq)
  (Ed:XF K CL "stands" hd)
  (Ee:FnX K hd "stands" "Locks.stands" ck)
  (Ef:XF K CL "held" he)
  (Eg:FnX K he "held" "Locks.held" cS)
  (Eh:XF K CL "waiting" hg)
  (Ei:FnX K hg "waiting" "Locks.waiting" bV)
  (nS:XN K "Stand" H)
 (nh:Ck K H)
  (Hx:X0 K H "cells")
  (Hy:X0 K H "begins")
  (Hz:X0 K H "worked")
  (HA:X0 K H "readies")
  (HB:X0 K H "ends")
  (HC:X0 K H "walks")
  (HD:X0 K H "overs")
  (Ej:XF K H "__init__" hh)
  (Ek:FnX K hh "__init__" "Stand.__init__" gy)
  (eP:XF K H "keep" hi)
  (El:FnX K hi "keep" "Stand.keep" gx)
  (Em:XF K H "changes_of" hj)
  (En:FnX K hj "changes_of" "Stand.changes_of" cL)
  (Eo:XF K H "cell_at" el)
  (Ep:FnX K el "cell_at" "Stand.cell_at" d8)
  (Eq:XF K H "cells_told" hk)
  (Er:FnX K hk "cells_told" "Stand.cells_told" cM)
  (Es:XF K H "news" hm)
  (Et:FnX K hm "news" "Stand.news" gw)
  (Eu:XF K H "bound" ho)
  (Ev:FnX K ho "bound" "Stand.bound" cG)
  (Ew:XF K H "outcome" hp)
  (Ex:FnX K hp "outcome" "Stand.outcome" d5)
  (Ey:XF K H "walked_at" hq)
  (Ez:FnX K hq "walked_at" "Stand.walked_at" cQ)
  (nH:XN K "Sheet" CH)
 (av:Ck K CH)
  (HF:X0 K CH "stand")
  (HH:X0 K CH "rows")
  (HI:X0 K CH "sent")
  (HJ:X0 K CH "latest")
  (ni:X0 K CH "kind")
  (EA:X0 K CH "keep")
  (EB:X0 K CH "value_at")
  (eS:XF K CH "__init__" hr)
  (EC:FnX K hr "__init__" "Sheet.__init__" gC)
  (ED:XF K CH "row" hs)
  (EE:FnX K hs "row" "Sheet.row" ib)
  (EF:XF K CH "send" ht)
  (EG:FnX K ht "send" "Sheet.send" gz)
  (EH:XF K CH "rows_told" hu)
  (EI:FnX K hu "rows_told" "Sheet.rows_told" cR)
  (EJ:XF K CH "letters_told" hv)
  (EK:FnX K hv "letters_told" "Sheet.letters_told" bh)
  (nV:XN K "Works" u)
 (nk:Ck K u)
  (HL:X0 K u "stand")
  (HM:X0 K u "home")
  (HN:X0 K u "many")
  (HP:X0 K u "locks")
  (HQ:X0 K u "drafts")
  (HR:X0 K u "answers")
  (HT:X0 K u "pending")
  (EL:XF K u "__init__" hw)
  (EM:FnX K hw "__init__" "Works.__init__" gu)
  (EN:XF K u "work" hx)
  (EO:FnX K hx "work" "Works.work" gs)
  (EQ:XF K u "do_step" bP)
  (ER:isFn K (.ref bP)=true)
  (ES:K.lookup bP=some ⟨lb,l5,.func (fnOf "do_step" "Works.do_step" (defArgs aN) (defBody aN) (defScope aN) .none lc ld le l6 ab lh),l9⟩)
  (ET:codeIn K ab "Works.do_step"=true)
  (hL:keepIn K (.ref bP)=true)
  (eW:XF K u "value_at" em)
  (EU:FnX K em "value_at" "Works.value_at" cZ)
  (EV:XF K u "send_did" hy)
  (EW:FnX K hy "send_did" "Works.send_did" c6)
  (EX:XF K u "is_bound" hz)
  (EY:FnX K hz "is_bound" "Works.is_bound" bK)
  (EZ:XF K u "ended" hA)
  (F0:FnX K hA "ended" "Works.ended" fF)
  (F1:XF K u "lock_stands" hC)
  (F2:FnX K hC "lock_stands" "Works.lock_stands" cC)
  (F3:XF K u "walk" c0)
  (F4:isFn K (.ref c0)=true)
  (F5:K.lookup c0=some ⟨ll,l7,.func (fnOf "walk" "Works.walk" (defArgs bR) (defBody bR) (defScope bR) .none lm ln lu l8 ak lv),la⟩)
  (F6:codeIn K ak "Works.walk"=true)
  (hM:keepIn K (.ref c0)=true)
  (F7:XF K u "ready" hD)
  (F8:FnX K hD "ready" "Works.ready" cE)
  (F9:XF K u "held" hE)
  (Fa:FnX K hE "held" "Works.held" gv)
  (Fb:XF K u "waiting" hF)
  (Fc:FnX K hF "waiting" "Works.waiting" dY)
  (HU:XN K "lock_of" kq)
  (HX:FnX K kq "lock_of" "lock_of" jR)
  (HY:XN K "is_whole" ks)
  (HZ:FnX K ks "is_whole" "is_whole" mq)
  (I0:XN K "read_thing" kt)
  (I1:FnX K kt "read_thing" "read_thing" je)
  (I2:XN K "is_sign" kv)
  (I3:FnX K kv "is_sign" "is_sign" ox)
  (I4:XN K "read_step" kw)
  (I5:FnX K kw "read_step" "read_step" dw)
  (I6:XN K "read_number" kz)
  (I7:FnX K kz "read_number" "read_number" fu)
  (I8:XN K "made_step" kA)
  (I9:FnX K kA "made_step" "made_step" gZ)
  (Ia:XN K "made_sum" kB)
  (Ib:FnX K kB "made_sum" "made_sum" iP)
  (Ic:XN K "_law_cell_at" kC)
  (Id:FnX K kC "_law_cell_at" "_law_cell_at" eN)
  (Ie:XN K "_law_number" kD)
  (If:FnX K kD "_law_number" "_law_number" fx)
  (Ig:XN K "_law_step" kE)
  (Ih:FnX K kE "_law_step" "_law_step" hI)
  (Ii:XN K "_law_lock" kG)
  (Ij:FnX K kG "_law_lock" "_law_lock" hJ)
  (Ik:XN K "_law_beside" kP)
  (Il:FnX K kP "_law_beside" "_law_beside" fy)
  (Io:XN K "_law_done" kT)
  (Ip:FnX K kT "_law_done" "_law_done" hU)
  (Iq:XN K "_law_ended" kU)
  (Ir:FnX K kU "_law_ended" "_law_ended" gj)
  (Is:XN K "_law_held" l0)
  (Iu:FnX K l0 "_law_held" "_law_held" hO)
  (Iv:XN K "_law_walked" l2)
  (Iw:FnX K l2 "_law_walked" "_law_walked" fw)
  (aZ:XN K "law" fZ)
  (lZ:FnX K fZ "law" "law" jf)
  (i:Xn K "isinstance")
  (f0:Xn K "int")
  (c1:Xn K "bool")
  (f1:Xn K "str")
  (f2:Xn K "len")
  (Z:Xn K "range")
  (f3:Xn K "tuple")
  (fv:Xn K "list")
  (nl:Xn K "any")
  (f4:Xn K "all")
  (nm:Xn K "max")
  (c3:Xn K "sorted")
  (f5:Xn K "sum")
  (fA:Xn K "dict")
  (nn:Xn K "ord")
  (d:nsIn K mainGlobals "MOST_FIGURES_things"=some (some (.int 400 b)))
  (Q:nsIn K mainGlobals "MOST_DEEP"=some (some (.int 8 O)))
  (aR:nsIn K mainGlobals "LONGEST"=some (some (.int 100000 ar)))
  (fc:nsIn K mainGlobals "BLANK"=some (some (.int 32 eu)))
  (bd:nsIn K mainGlobals "PERCENT"=some (some (.int 37 as)))
  (ff:nsIn K mainGlobals "TILDE"=some (some (.int 126 ev)))
  (g:nsIn K mainGlobals "MOST_FIGURES_steps"=some (some (.int 40 f)))
  (Ix:XN K "SHAPES" l3)
  (Iy:K.lookup l3=some ⟨.type "dict",none,.dict w1 GJ,#[]⟩)
  (Iz:(l3==sysModules)=false)
  (IA:PyProof.Rows.KTD.rowsLook yf w1.toList lG=true)
  (IB:XN K "RANKS" fr)
  (IC:K.lookup fr=some ⟨.type "dict",none,.dict w2 GL,#[]⟩)
  (ID:(fr==sysModules)=false)
  (IE:PyProof.Rows.KTD.rowsLook yf w2.toList mr=true)
  (Fd:XN K "SHARING" aS)
  (lS:K.lookup aS=some ⟨.type "tuple",oS,.seq #[.ref b0,.ref b1,.ref b2] vS,sS⟩)
  (Fe:K.lookup b0=some ⟨.type "tuple",o0,.seq #[.str "read" t0,.str "read" t1] v0,s0⟩)
  (Ff:K.lookup b1=some ⟨.type "tuple",o1,.seq #[.str "read" t2,.str "mean" t3] v1,s1⟩)
  (Fg:K.lookup b2=some ⟨.type "tuple",o2,.seq #[.str "mean" t4,.str "read" t5] v2,s2⟩)
  (IF:XN K "NoThing" w0)
  (IG:excIn K w0 bmV "ValueError.__new__"=true)
  (hcc1:ab=.ref eo)
  (KZ:K.lookup eo=some ⟨.type "code",w3,.fields hG,w4⟩)
  (hPt1:hG[11]?=some (.ref ep))
  (Fh:codeHdIn K eo ep=true)
  (hT1:h.get? ep=some (tabObj #[]))
  (hcc2:ak=.ref er)
  (L0:K.lookup er=some ⟨.type "code",w6,.fields hK,w7⟩)
  (hPt2:hK[11]?=some (.ref et))
  (Fj:codeHdIn K er et=true)
  (hT2:h.get? et=some (tabObj #[]))
  (hNe:[ep,et].Nodup)
  (hN:noTabs K=true) :
  ∃(fd:FuncData) (Ts:List (Addr×Addr)),(∀(s:Shared) (v:Value),BindsTo s fd ⟨[v],[]⟩ [("_law_script",v)])/\(∀t∈Ts,PySem.W.codeHdIn K t.1 t.2=true)/\(∀t∈Ts,h.get? t.2=some (PySem.W.tabObj #[]))/\PySem.W.noTabs K=true/\∀base:Heap,K.In base->BB mg base->FnOk l.prog w K mg base CX0 10 fa fd ["_law_script"] (lY K (Ts.map Prod.snd)):=by
 have e:=GH.symm.trans (PySem.W.mg_of X G aZ)
 cases e
 obtain ⟨Fm,JE,hP⟩:=GP
 have Fy:=hP.b1 "self" λ_ _ _ _ _ _ _=>rfl
 obtain ⟨Fn,JF,hQ⟩:=GS
 have FA:=hQ.b1 "self" λ_ _ _ _ _ _ _=>rfl
 obtain ⟨Fo,JG,hR⟩:=GV
 have FB:=hR.b1 "self" λ_ _ _ _ _ _ _=>rfl
 obtain ⟨ji,di,Fi⟩:=li
 have bi:=Fi.b3 "self" "first" "last" λ_ _ _ _ _ _ _ _ _=>rfl
 obtain ⟨jt,dt,Ft⟩:=lt
 have bt:=Ft.b1 "self" λ_ _ _ _ _ _ _=>rfl
 have T:TxK K (kmk CR I J):=⟨λk=>match k with | .read=>lw.c | .mean=>lz.c | .change=>ma.c,λk=>match k with | .read=>GN | .mean=>GQ | .change=>GT,λk=>match k with | .read=>GO | .mean=>GR | .change=>GU⟩
 have c2:∀k,mg (kdN k)=some (.ref (kmk CR I J k)):=λk=>match k with | .read=>mg_of X G nR | .mean=>mg_of X G nM | .change=>mg_of X G nC
 obtain ⟨c5,IJ,x⟩:=wh
 have e5:=x.b2 "self" "other" λ_ _ _ _ _ _ _ _=>rfl
 obtain ⟨ca,IK,y⟩:=wi
 have e6:=y.b2 "self" "other" λ_ _ _ _ _ _ _ _=>rfl
 obtain ⟨Fr,dri,ns⟩:=H7
 have FD:=ns.b2 "self" "text" λ_ _ _ _ _ _ _ _=>rfl
 obtain ⟨Fs,JH,hT⟩:=H9
 have FE:=hT.b2 "self" "sign" λ_ _ _ _ _ _ _ _=>rfl
 obtain ⟨Fu,JI,hY⟩:=Hd
 have FF:=hY.b2 "self" "deep" λ_ _ _ _ _ _ _ _=>rfl
 obtain ⟨Fv,JJ,i0⟩:=Hf
 have FG:=i0.b1 "self" λ_ _ _ _ _ _ _=>rfl
 obtain ⟨Fw,JK,i1⟩:=Hh
 have qn:=i1.b1 "self" λ_ _ _ _ _ _ _=>rfl
 obtain ⟨cd,IL,ce⟩:=x0
 have bg:=ce.b3 "self" "where" "cell" λ_ _ _ _ _ _ _ _ _=>rfl
 obtain ⟨nv,IM,cf⟩:=x1
 have qq:=cf.b1 "self" λ_ _ _ _ _ _ _=>rfl
 obtain ⟨nw,fB,ch⟩:=x2
 have qs:=ch.b3 "self" "hand" "value_of" λ_ _ _ _ _ _ _ _ _=>rfl
 obtain ⟨nx,IN,cm⟩:=x8
 have qx:=cm.b1 "self" λ_ _ _ _ _ _ _=>rfl
 obtain ⟨nz,fC,cp⟩:=x9
 have r0:=cp.b3 "self" "hand" "value_of" λ_ _ _ _ _ _ _ _ _=>rfl
 obtain ⟨nA,IO,fG⟩:=xN
 have r1:=fG.b4 "self" "where" "low" "high" λ_ _ _ _ _ _ _ _ _ _=>rfl
 obtain ⟨nB,IP,cs⟩:=ya
 have r2:=cs.b1 "self" λ_ _ _ _ _ _ _=>rfl
 obtain ⟨nD,fI,cv⟩:=ys
 have r3:=cv.b3 "self" "hand" "value_of" λ_ _ _ _ _ _ _ _ _=>rfl
 obtain ⟨nE,IQ,cw⟩:=za
 have r4:=cw.b1 "self" λ_ _ _ _ _ _ _=>rfl
 obtain ⟨nF,fN,cx⟩:=zh
 have r5:=cx.b3 "self" "hand" "value_of" λ_ _ _ _ _ _ _ _ _=>rfl
 obtain ⟨nG,IR,fP⟩:=A0
 have r6:=fP.b4 "self" "where" "cell" "amount" λ_ _ _ _ _ _ _ _ _ _=>rfl
 obtain ⟨nT,IS,cz⟩:=A6
 have r7:=cz.b1 "self" λ_ _ _ _ _ _ _=>rfl
 obtain ⟨nW,fS,cF⟩:=At
 have r9:=cF.b3 "self" "hand" "value_of" λ_ _ _ _ _ _ _ _ _=>rfl
 obtain ⟨o3,IT,g2⟩:=CX
 have ra:=g2.b2 "self" "amount" λ_ _ _ _ _ _ _ _=>rfl
 obtain ⟨g3,IU,U⟩:=D0
 have gd:=U.b1 "self" λ_ _ _ _ _ _ _=>rfl
 obtain ⟨o4,g4,d1⟩:=D1
 have rb:=d1.b3 "self" "hand" "value_of" λ_ _ _ _ _ _ _ _ _=>rfl
 obtain ⟨o7,IV,g5⟩:=D7
 have rc:=g5.b2 "self" "amount" λ_ _ _ _ _ _ _ _=>rfl
 obtain ⟨oa,g6,d2⟩:=D8
 have rd:=d2.b3 "self" "hand" "value_of" λ_ _ _ _ _ _ _ _ _=>rfl
 have W:TxW K (wmk WA WB WD WE WF WG WN):=⟨λk=>match k with | .take=>ey.c | .mean=>ez.c | .sum=>eA.c | .give=>eD.c | .add=>eE.c | .plus=>eH.c | .need=>eI.c,λk=>match k with | .take=>wk | .mean=>x3 | .sum=>xb | .give=>yv | .add=>zl | .plus=>BT | .need=>D2,λk=>match k with | .take=>wl | .mean=>x4 | .sum=>xd | .give=>z0 | .add=>zs | .plus=>C2 | .need=>D3,λk=>match k with | .take=>wo | .mean=>x5 | .sum=>xe | .give=>z1 | .add=>zu | .plus=>CB | .need=>D4,λk=>match k with | .take=>ws | .mean=>x6 | .sum=>xs | .give=>z2 | .add=>zw | .plus=>CN | .need=>D5,λk=>match k with | .take=>wt | .mean=>x7 | .sum=>xv | .give=>z3 | .add=>zz | .plus=>CW | .need=>D6⟩
 obtain ⟨ob,IW,g7⟩:=DZ
 have ri:=g7.b1 "self" λ_ _ _ _ _ _ _=>rfl
 obtain ⟨oe,IX,d3⟩:=E2
 have rk:=d3.b3 "self" "p" "lock" λ_ _ _ _ _ _ _ _ _=>rfl
 obtain ⟨oi,IY,d4⟩:=E4
 have rl:=d4.b2 "self" "place" λ_ _ _ _ _ _ _ _=>rfl
 obtain ⟨op,IZ,d6⟩:=E6
 have ro:=d6.b1 "self" λ_ _ _ _ _ _ _=>rfl
 obtain ⟨or,J0,d7⟩:=E8
 have rp:=d7.b2 "self" "p" λ_ _ _ _ _ _ _ _=>rfl
 obtain ⟨os,J1,da⟩:=Ea
 have rr:=da.b2 "self" "p" λ_ _ _ _ _ _ _ _=>rfl
 obtain ⟨ou,J2,dc⟩:=Ec
 have rs:=dc.b1 "self" λ_ _ _ _ _ _ _=>rfl
 obtain ⟨ow,J3,dg⟩:=Ee
 have rt:=dg.b3 "self" "p" "lock" λ_ _ _ _ _ _ _ _ _=>rfl
 obtain ⟨oA,J4,dk⟩:=Eg
 have ru:=dk.b1 "self" λ_ _ _ _ _ _ _=>rfl
 obtain ⟨oD,J5,dl⟩:=Ei
 have rv:=dl.b1 "self" λ_ _ _ _ _ _ _=>rfl
 obtain ⟨oL,J6,g8⟩:=Ek
 have rx:=g8.b2 "self" "cells" λ_ _ _ _ _ _ _ _=>rfl
 obtain ⟨oW,J7,dp⟩:=El
 have ry:=dp.b2 "self" "row" λ_ _ _ _ _ _ _ _=>rfl
 obtain ⟨p1,J8,ds⟩:=En
 have rz:=ds.b2 "self" "row" λ_ _ _ _ _ _ _ _=>rfl
 obtain ⟨p2,J9,du⟩:=Ep
 have s3:=du.b2 "self" "cell" λ_ _ _ _ _ _ _ _=>rfl
 obtain ⟨p3,Ja,dv⟩:=Er
 have s4:=dv.b1 "self" λ_ _ _ _ _ _ _=>rfl
 obtain ⟨p4,Jb,dx⟩:=Et
 have s5:=dx.b1 "self" λ_ _ _ _ _ _ _=>rfl
 obtain ⟨p5,Jc,dy⟩:=Ev
 have s6:=dy.b1 "self" λ_ _ _ _ _ _ _=>rfl
 obtain ⟨p6,Jd,dz⟩:=Ex
 have s7:=dz.b2 "self" "p" λ_ _ _ _ _ _ _ _=>rfl
 obtain ⟨p7,Je,dA⟩:=Ez
 have s8:=dA.b3 "self" "p" "i" λ_ _ _ _ _ _ _ _ _=>rfl
 obtain ⟨dB,Jf,g9⟩:=EC
 have e7:=g9.b2 "self" "stand" λ_ _ _ _ _ _ _ _=>rfl
 obtain ⟨p9,Jg,dC⟩:=EE
 have s9:=dC.b2 "self" "row" λ_ _ _ _ _ _ _ _=>rfl
 obtain ⟨pa,Jh,dG⟩:=EG
 have sc:=dG.b5 "self" "to" "word" "p" "more" λ_ _ _ _ _ _ _ _ _ _ _=>rfl
 obtain ⟨pb,Ji,dI⟩:=EI
 have si:=dI.b1 "self" λ_ _ _ _ _ _ _=>rfl
 obtain ⟨pf,Jj,dK⟩:=EK
 have sl:=dK.b1 "self" λ_ _ _ _ _ _ _=>rfl
 obtain ⟨pg,Jk,ga⟩:=EM
 have sm:=ga.b4 "self" "stand" "home" "many" λ_ _ _ _ _ _ _ _ _ _=>rfl
 obtain ⟨ph,Jl,dN⟩:=EO
 have sn:=dN.b6 "self" "sheet" "p" "i" "hand" "text" λ_ _ _ _ _ _ _ _ _ _ _ _=>rfl
 have ge:=sI (st:=aN) ES ET hL
 have sp:=ge.binds (ps:=["self","sheet","p","waited"]) λ_ _ _ _ _ _ us hl=>match us,hl with | [_,_,_,_],_=>rfl
 obtain ⟨pl,Jm,dP⟩:=EU
 have sv:=dP.b3 "self" "p" "cell" λ_ _ _ _ _ _ _ _ _=>rfl
 obtain ⟨pn,Jo,dS⟩:=EW
 have sx:=dS.b4 "self" "sheet" "p" "i" λ_ _ _ _ _ _ _ _ _ _=>rfl
 obtain ⟨po,Jp,dT⟩:=EY
 have sE:=dT.b2 "self" "p" λ_ _ _ _ _ _ _ _=>rfl
 obtain ⟨pr,Jq,dV⟩:=F0
 have t6:=dV.b3 "self" "sheet" "p" λ_ _ _ _ _ _ _ _ _=>rfl
 obtain ⟨pu,Jr,e1⟩:=F2
 have t9:=e1.b3 "self" "p" "step" λ_ _ _ _ _ _ _ _ _=>rfl
 have go:=sI (st:=bR) F5 F6 hM
 have tc:=go.binds (ps:=["self","sheet","p","i","hand","text"]) λ_ _ _ _ _ _ us hl=>match us,hl with | [_,_,_,_,_,_],_=>rfl
 obtain ⟨pw,Js,e2⟩:=F8
 have td:=e2.b4 "self" "sheet" "p" "houses" λ_ _ _ _ _ _ _ _ _ _=>rfl
 obtain ⟨px,Jt,e3⟩:=Fa
 have te:=e3.b1 "self" λ_ _ _ _ _ _ _=>rfl
 obtain ⟨py,Ju,e4⟩:=Fc
 have tg:=e4.b1 "self" λ_ _ _ _ _ _ _=>rfl
 have L:TxL K (kmk CR I J) CL:=⟨nc.c,nP,λk=>match k with | .read=>nZ lx nf | .mean=>nZ lI nf | .change=>nZ mb nf⟩
 have hH:∀k,kmk CR I J k≠CH:=λk=>match k with | .read=>nZ lx ni | .mean=>nZ lI ni | .change=>nZ mb ni
 have n:Nq (kmk CR I J) H CH CL u:=⟨⟨nZ eP EA,nZ eP D9⟩,⟨nZ eW EB,nZ eW DE⟩,λk=>⟨hH k,L.ne k⟩⟩
 have D:TxD K H:=⟨nh.c,Hx,Hy,Hz,HA,HB,HC,HD⟩
 have DH:TxH K CH:=⟨av.c,HF,HH,HI,HJ⟩
 have TV:TxV K u:=⟨nk.c,HL,HM,HN,HP,HQ,HR,HT⟩
 obtain ⟨JL,JM,i2⟩:=HX
 have FH:=i2.b1 "told" λ_ _ _ _ _ _ _=>rfl
 have FI:mg "lock_of"=some (.ref kq):=mg_of X G HU
 obtain ⟨JN,JO,i3⟩:=HZ
 have FJ:=i3.b1 "thing" λ_ _ _ _ _ _ _=>rfl
 have FK:mg "is_whole"=some (.ref ks):=mg_of X G HY
 obtain ⟨JP,JQ,i8⟩:=I1
 have FL:=i8.b1 "text" λ_ _ _ _ _ _ _=>rfl
 have FM:mg "read_thing"=some (.ref kt):=mg_of X G I0
 obtain ⟨JR,JS,ia⟩:=I3
 have FN:=ia.b1 "sign" λ_ _ _ _ _ _ _=>rfl
 have FO:mg "is_sign"=some (.ref kv):=mg_of X G I2
 obtain ⟨JT,JU,ic⟩:=I5
 have FP:=ic.b1 "text" λ_ _ _ _ _ _ _=>rfl
 have FQ:mg "read_step"=some (.ref kw):=mg_of X G I4
 obtain ⟨JV,JW,ih⟩:=I7
 have FR:=ih.b2 "word" "letter" λ_ _ _ _ _ _ _ _=>rfl
 have FS:mg "read_number"=some (.ref kz):=mg_of X G I6
 obtain ⟨JX,JY,ij⟩:=I9
 have FT:=ij.b2 "word" "numbers" λ_ _ _ _ _ _ _ _=>rfl
 have FU:mg "made_step"=some (.ref kA):=mg_of X G I8
 obtain ⟨JZ,K0,is⟩:=Ib
 have FV:=is.b3 "where" "low" "high" λ_ _ _ _ _ _ _ _ _=>rfl
 have FW:mg "made_sum"=some (.ref kB):=mg_of X G Ia
 obtain ⟨K1,K2,it⟩:=Id
 have FX:=it.b2 "_law_script" "_law_k" λ_ _ _ _ _ _ _ _=>rfl
 have FY:mg "_law_cell_at"=some (.ref kC):=mg_of X G Ic
 obtain ⟨K3,K4,iv⟩:=If
 have G0:=iv.b1 "_law_cell" λ_ _ _ _ _ _ _=>rfl
 have G1:mg "_law_number"=some (.ref kD):=mg_of X G Ie
 obtain ⟨K5,K6,iy⟩:=Ih
 have G2:=iy.b2 "_law_cell" "_law_many" λ_ _ _ _ _ _ _ _=>rfl
 have G3:mg "_law_step"=some (.ref kE):=mg_of X G Ig
 obtain ⟨K7,K8,iA⟩:=Ij
 have G4:=iA.b1 "_law_text" λ_ _ _ _ _ _ _=>rfl
 have G5:mg "_law_lock"=some (.ref kG):=mg_of X G Ii
 obtain ⟨K9,Kb,iW⟩:=Il
 have G6:=iW.b2 "_law_one" "_law_other" λ_ _ _ _ _ _ _ _=>rfl
 have G7:mg "_law_beside"=some (.ref kP):=mg_of X G Ik
 obtain ⟨Kc,Ke,jn⟩:=Ip
 have G8:=jn.b3 "_law_cells" "_law_hand" "_law_text" λ_ _ _ _ _ _ _ _ _=>rfl
 have G9:mg "_law_done"=some (.ref kT):=mg_of X G Io
 obtain ⟨Kg,Kh,k0⟩:=Ir
 have Ga:=k0.b4 "_law_works" "_law_stand" "_law_p" "_law_outcome" λ_ _ _ _ _ _ _ _ _ _=>rfl
 have Gb:mg "_law_ended"=some (.ref kU):=mg_of X G Iq
 obtain ⟨Ki,Kj,k1⟩:=Iu
 have Gc:=k1.b5 "_law_works" "_law_stand" "_law_p" "_law_script" "_law_many" λ_ _ _ _ _ _ _ _ _ _ _=>rfl
 have Ge:mg "_law_held"=some (.ref l0):=mg_of X G Is
 obtain ⟨Kk,Kl,k2⟩:=Iw
 have Gf:=k2.b6 "_law_works" "_law_stand" "_law_told" "_law_known" "_law_free" "_law_news" λ_ _ _ _ _ _ _ _ _ _ _ _=>rfl
 have Gg:mg "_law_walked"=some (.ref l2):=mg_of X G Iv
 obtain ⟨jZ,dZ,FZ⟩:=lZ
 have B:TxB mg:=⟨mg_none_of X G i,mg_none_of X G f0,mg_none_of X G c1,mg_none_of X G f1,mg_none_of X G f2,mg_none_of X G Z,mg_none_of X G f3,mg_none_of X G fv,mg_none_of X G nl,mg_none_of X G f4,mg_none_of X G nm,mg_none_of X G c3⟩
 have SS:TxS K mg:=⟨⟨aS,b0,b1,b2,mg_of X G Fd,Db lS,xC Fe,xC Ff,xC Fg⟩⟩
 have RR:TxR K mg:=⟨⟨fr,mg_of X G IB,vP IC ID IE⟩⟩
 have TT:K53T.Tx K mg o:=⟨ew.c,H4,H5,mg_of X G H3,mg_none_of X G i,mg_none_of X G f0,mg_none_of X G c1,mg_none_of X G f1,mg_none_of X G f2,mg_none_of X G nn,mg_none_of X G f4,mg_none_of X G Z,⟨_,mg_of X G d⟩,⟨_,mg_of X G Q⟩,⟨_,mg_of X G aR⟩,⟨_,mg_of X G fc⟩,⟨_,mg_of X G bd⟩,⟨_,mg_of X G ff⟩⟩
 refine ⟨dZ,[(eo,ep),(er,et)],(by obtain ⟨oc,od,kV,Kn,pm,an,Ko,ct,Kq,rfl,lk,Kr⟩:=FZ.ex;exact λs v=>.of_eq rfl),Ds Fh Fj,Ds hT1 hT2,hN,λbase _ hB=>?_⟩
 have GK:∀k,GM l.prog w K mg base CX0 1 (kmk CR I J k) "kind" ["self"] (gV k):=λk=>match k with | .read=>⟨k5,_,C5 hP,Fy,⟨lx,Fm,hP.kp⟩⟩ | .mean=>⟨k6,_,C6 hQ,FA,⟨lI,Fn,hQ.kp⟩⟩ | .change=>⟨ka,_,C7 hR,FB,⟨mb,Fo,hR.kp⟩⟩
 have Mk:∀k,Mk K (kmk CR I J k) fi:=λk=>match k with | .read=>⟨lw.m,GW,ji,lw.k⟩ | .mean=>⟨lz.m,GX,ji,lz.k⟩ | .change=>⟨ma.m,GY,ji,ma.k⟩
 have Gt:∀k,GM l.prog w K mg base CX0 2 (kmk CR I J k) "told" ["self"] (gf (kmk CR I J)):=λk=>match k with | .read=>⟨ft,_,pU Ft T GK,bt,⟨GZ,jt,Ft.kp⟩⟩ | .mean=>⟨ft,_,pU Ft T GK,bt,⟨H0,jt,Ft.kp⟩⟩ | .change=>⟨ft,_,pU Ft T GK,bt,⟨H2,jt,Ft.kp⟩⟩
 have GI:=xh (P:=l.prog) (w:=w) (mg:=mg) (base:=base) Fi T
 have fp:=xu (P:=l.prog) (w:=w) (mg:=mg) (base:=base) ce W
 have WI:∀r,WI l.prog w K mg base (wmk WA WB WD WE WF WG WN) r:=λr=>match r with | .take=>⟨q,_,_,⟨ey.m,ms,cd,ey.k⟩,(fp.imp λ_ _ _ _ z=>pX rfl z).mono ζ,bg,mg_of X G Hj⟩ | .mean=>⟨q,_,_,⟨ez.m,mB,cd,ez.k⟩,(fp.imp λ_ _ _ _ z=>pX rfl z).mono ζ,bg,mg_of X G Hk⟩ | .sum=>⟨ed,_,_,⟨eA.m,mP,nA,eA.k⟩,(wY fG W).mono ζ,r1,mg_of X G Hl⟩ | .give=>⟨q,_,_,⟨eD.m,n0,cd,eD.k⟩,(fp.imp λ_ _ _ _ z=>pX rfl z).mono ζ,bg,mg_of X G Hm⟩ | .add=>⟨eh,_,_,⟨eE.m,n3,nG,eE.k⟩,xz fP W (mg_of X G Hs) ⟨Ht,Hu,Hv,Hw,ce.kp⟩ fp bg,r6,mg_of X G Ho⟩ | .plus=>⟨ej,_,_,⟨eH.m,n6,o3,eH.k⟩,(w8 g2 W).mono ζ,ra,mg_of X G Hq⟩ | .need=>⟨ek,_,_,⟨eI.m,n9,o7,eI.k⟩,(w9 g5 W).mono ζ,rc,mg_of X G Hr⟩
 have th:∀k,GM l.prog w K mg base CX0 2 ((kmk CR I J) k) "beside" ["self","other"] (ja (kmk CR I J)):=λk=>match k with | .read=>⟨C,_,jW x T SS GK,e5,⟨mc,c5,x.kp⟩⟩ | .mean=>⟨C,_,jW x T SS GK,e5,⟨me,c5,x.kp⟩⟩ | .change=>⟨C,_,jW x T SS GK,e5,⟨mk,c5,x.kp⟩⟩
 have ti:∀k,GM l.prog w K mg base CX0 2 ((kmk CR I J) k) "covers" ["self","other"] (i9 (kmk CR I J)):=λk=>match k with | .read=>⟨F,_,jV y T RR GK,e6,⟨mm,ca,y.kp⟩⟩ | .mean=>⟨F,_,jV y T RR GK,e6,⟨mn,ca,y.kp⟩⟩ | .change=>⟨F,_,jV y T RR GK,e6,⟨mp,ca,y.kp⟩⟩
 have Hi:=K53T.zv (P:=l.prog) (w:=w) (mg:=mg) (base:=base) ns TT
 have Hp:=K53T.zk (P:=l.prog) (w:=w) (mg:=mg) (base:=base) hT TT
 have Hn:=K53T.Bo (P:=l.prog) (w:=w) (mg:=mg) (base:=base) i1 TT
 have tk:ir K o "read_number" kn:=⟨Hg,Fw,i1.kp⟩
 have Gj:ir K o "passes" kc:=⟨H8,Fs,hT.kp⟩
 have Gk:ir K o "read_below" kk:=⟨He,Fv,i0.kp⟩
 have Gm:ir K o "read_any" kd:=⟨Hc,Fu,hY.kp⟩
 have Hb:=K53T.xy i0 TT Hn qn tk
 have Ha:=K53T.BA hY TT Hp FE Gj Hb FG Gk Hn qn tk
 have HG:=K53T.zg (P:=l.prog) (w:=w) (mg:=mg) (base:=base) ia TT
 have HW:=K53T.wT (P:=l.prog) (w:=w) (mg:=mg) (base:=base) i3 TT
 have j:=@gmk l.prog w K mg base
 have gg:=@gfk l.prog w K mg base
 have Gn:=gg i3.kp FK FJ (HW)
 have Go:=gg i8.kp FM FL (K53T.zj i8 TT ⟨ew.m,H6,Fr,ew.k⟩ HG FN ia.kp FO Hi FD Ha FF Gm)
 have Gp:=gg is.kp FW FV (zo is (WI .sum))
 have Gq:=gg ij.kp FU FT (xa ij WI Gp)
 have Gr:=gg ih.kp FS FR (zi ih B (mg_of X G IF) IG θ ⟨_,mg_of X G g⟩ Go Gn)
 have k3:=gg ic.kp FQ FP (wZ ic B (mg_of X G Ix) (vP Iy Iz IA) Gr Gq)
 have tl:=gg i2.kp FI FH (uW i2 T c2 Mk GI bi)
 have Gl:∀r,GM l.prog w K mg base CX0 3 ((wmk WA WB WD WE WF WG WN) r) "lock" ["self"] (df (wmk WA WB WD WE WF WG WN) K r):=λr=>match r with | .take=>⟨eb,_,xc cf W T c2 Mk GI bi Gt,qq,⟨mu,nv,cf.kp⟩⟩ | .mean=>⟨ec,_,xg cm W T c2 Mk GI bi Gt,qx,⟨mG,nx,cm.kp⟩⟩ | .sum=>⟨ee,_,zp cs W T c2 Mk GI bi Gt,r2,⟨mR,nB,cs.kp⟩⟩ | .give=>⟨ef,_,xi cw W T c2 Mk GI bi Gt,r4,⟨n1,nE,cw.kp⟩⟩ | .add=>⟨ei,_,zr cz W T c2 Mk GI bi Gt,r7,⟨n4,nT,cz.kp⟩⟩ | .plus=>⟨Y,_,(qB (.inl rfl) U).mono ζ,gd,⟨n7,g3,U.kp⟩⟩ | .need=>⟨Y,_,(qB (.inr rfl) U).mono ζ,gd,⟨na,g3,U.kp⟩⟩
 have Gu:=uV (P:=l.prog) (w:=w) (mg:=mg) (base:=base) g7 L
 have bl:=j E3 oi d4.kp rl (zA d4 B L)
 have gt:=j E5 op d6.kp ro (wV d6 B L bl)
 have tn:=j E7 or d7.kp rp (uS d7 B L bl)
 have to:=j E1 oe d3.kp rk (Bz d3 B T L ti bl tn)
 have tr:=j E9 os da.kp rr (zC da L gt)
 have gA:=j Eb ou dc.kp rs (xn dc B L bl)
 have tt:=j Ef oA dk.kp ru (zB dk T L gA Gt)
 have tu:=j Eh oD dl.kp rv (se dl L gt)
 have tv:=j Ed ow dg.kp rt (uU dg B T L gA th)
 have Gv:=uT (P:=l.prog) (w:=w) (mg:=mg) (base:=base) (CH:=CH) (CL:=CL) g8 B D
 have k4:=xm (P:=l.prog) (w:=w) (mg:=mg) (base:=base) (CL:=CL) g9 DH
 have tx:=j Em p1 ds.kp rz (By ds D)
 have ty:=j eP oW dp.kp ry (zt dp D n.s tx)
 have tA:=j Eq p3 dv.kp s4 (xw dv B D)
 have gB:=j Es p4 dx.kp s5 (zn dx B D)
 have h2:=j Eu p5 dy.kp s6 (xx dy D)
 have tP:=j Ew p6 dz.kp s7 (zm dz D)
 have tR:=j Ey p7 dA.kp s8 (Bn dA D)
 have bm:=j ED p9 dC.kp s9 (zx dC D DH n.s ty gB)
 have ea:=j EF pa dG.kp sc (xk (CL:=CL) dG DH)
 have tS:=j EH pb dI.kp si (xl dI B DH)
 have u2:=j EJ pf dK.kp sl (zy dK D DH gB)
 have u3:∀Bh:Heap,GM l.prog w K mg Bh CX0 1 H "cell_at" ["self","cell"] (fR H):=λBh=>⟨el,_,uY du D,s3,⟨Eo,p2,du.kp⟩⟩
 have HV:∀Bh:Heap,K.In Bh->GM l.prog w K mg Bh CX0 2 u "value_at" ["self","p","cell"] (iY H u):=λBh _=>⟨em,_,wX dP D TV (u3 Bh),sv,⟨eW,pl,dP.kp⟩⟩
 have HS:∀(r:Wd) (val:Int->Int) (n:Nat) (Bh:Heap),n<=1000->K.In Bh->FnOk l.prog w K mg Bh CX0 5 ((wmk br bA bB bC bG bI bN) r) ((λr:Wd=>match r with | .take=>fB | .mean=>fC | .sum=>fI | .give=>fN | .add=>fS | .plus=>g4 | .need=>g6) r) ["self","hand","value_of"] (dU l.prog w K mg (wmk WA WB WD WE WF WG WN) val n r Bh):=λr val n Bh hn _=>match r with | .take=>xp (.inl rfl) ch gN rfl rfl W | .mean=>xp (.inr rfl) cp gQ rfl rfl W | .sum=>zD cv W B (mg_none_of X G f5) hn | .give=>xt cx W | .add=>zE cF W | .plus=>xq d1 | .need=>xr d2
 have mS:∀r,ir K ((wmk WA WB WD WE WF WG WN) r) "step_done" ((wmk br bA bB bC bG bI bN) r):=λr=>match r with | .take=>⟨mA,nw,ch.kp⟩ | .mean=>⟨mN,nz,cp.kp⟩ | .sum=>⟨mX,nD,cv.kp⟩ | .give=>⟨n2,nF,cx.kp⟩ | .add=>⟨n5,nW,cF.kp⟩ | .plus=>⟨n8,o4,d1.kp⟩ | .need=>⟨nb,oa,d2.kp⟩
 have bS:∀r,Binds K ((λr:Wd=>match r with | .take=>fB | .mean=>fC | .sum=>fI | .give=>fN | .add=>fS | .plus=>g4 | .need=>g6) r) ["self","hand","value_of"] []:=λr=>match r with | .take=>qs | .mean=>r0 | .sum=>r3 | .give=>r5 | .add=>r9 | .plus=>rb | .need=>rd
 have Gw:=wW ga D TV n ⟨nc.m,DY,ob,nc.k⟩ (mg_of X G nL) Gu ri h2
 have h3:=j EX po dT.kp sE (Bv dT D TV h2)
 have ub:=j EV pn dS.kp sx (Bw dS DH TV n ea)
 have ui:=j EQ ER hL sp (uX (cc:=eo) ge (mg_none_of X G fA) W TV DH n hB hcc1 Fh k3 HV HS mS bS bm ub)
 have uk:=j EN ph dN.kp sn (ze dN W TV L n h3 to tl k3 Gl ui)
 have uv:=j EZ pr dV.kp t6 (xo dV TV L n tr)
 have ux:=j F1 pu e1.kp t9 (Bq e1 W TV L n tv tl Gl)
 have v3:=j F3 F4 hM tc (zf (cc:=er) go W D TV DH n hB hcc2 Fj k3 u3 HS mS bS tR tP ux bm ea)
 have h4:=j F9 px e3.kp te (wU e3 TV L tt)
 have vl:=j Fb py e4.kp tg (wR e4 TV L tu)
 have vu:=j F7 pw e2.kp td (w5 e2 B TV DH n h3 h4 bm ea)
 have vw:=gg it.kp FY FX (zF it B)
 have vB:=gg iv.kp G1 G0 (zq iv)
 have vC:=gg iy.kp G3 G2 (xf iy B vB)
 have vD:=gg iA.kp G5 G4 (Br iA B)
 have Gx:=gg iW.kp G7 G6 (sg iW B)
 have Gy:=gg jn.kp G9 G8 (xj jn B (mg_none_of X G f5))
 have Gz:=gg k0.kp Gb Ga (Bt k0 TV DH n ⟨av.m,eS,dB,av.k⟩ (mg_of X G nH) k4 e7 bm uv)
 have GA:=gg k1.kp Ge Gc (Bs k1 B TV n ⟨av.m,eS,dB,av.k⟩ (mg_of X G nH) k4 e7 vw vC vD uk vu)
 have GB:=gg k2.kp Gg Gf (Bp k2 D TV DH n ⟨av.m,eS,dB,av.k⟩ (mg_of X G nH) k4 e7 v3 tS u2 tA Gy)
 exact Bu FZ B TV n hNe ⟨nh.m,Ej,oL,nh.k⟩ (mg_of X G nS) Gv rx ⟨nk.m,EL,pg,nk.k⟩ (mg_of X G nV) Gw sm vw vB vC vD Gx Gz GA GB h4 vl
theorem walk{l:PySem.W.OpenLaw}{q:Program}{loose:List Str}{XP:(Str->Option Value)->Heap->Prop}{YP:World->Heap->Prop}{d:DefRec}{K:Params->Frag}(hn:l.most=some 63)(hdf:d.params.defaults=[])
  (hY:∀(w:World) (h:Heap),YP w h->(K w.params).In h)
  (F:∀(w:World) (mg:Str->Option Value) (fa:Addr) (h:Heap),YP w h->(K w.params).In h->h.Ns mainGlobals mg->mg d.name=some (.ref fa) ->
   ∃(fd:FuncData) (Ts:List (Addr×Addr)),(∀(s:Shared) (u:Value),BindsTo s fd ⟨[u],[]⟩ [("_law_script",u)])/\(∀t∈Ts,PySem.W.codeHdIn (K w.params) t.1 t.2=true)/\(∀t∈Ts,h.get? t.2=some (PySem.W.tabObj #[]))/\PySem.W.noTabs (K w.params)=true /\
    ∀base:Heap,(K w.params).In base->BB mg base->FnOk l.prog w (K w.params) mg base CX0 10 fa fd ["_law_script"] (lY (K w.params) (Ts.map Prod.snd))) :
  PySem.W.WalkO q loose XP YP l.row.toRowW d [] (λf vs=>PySem.call f vs) :=
 L2.uy (n:=63) (k:=10) (x:="_law_script") (sp:=λw Ps=>lY (K w.params) Ps) hn ζ hdf ⟨ϱ,ζ,ζ⟩ hY F λw Ps H a ns hl hS hP=>⟨a,ns,ϱ,hS,hl,hP,λ_=>rfl⟩
end K53
open PySem PySem.W PyProof.Rows
set_option maxRecDepth 100000 in
set_option maxHeartbeats 0 in
theorem PySem.Challenge.cw_pactroom_k53_walked_once_holds : PySem.Challenge.rw_pactroom_k53_walked_once.Holds := by
 w_on;o_law
 refine holds_open (q:=Q.qv) (loose:=Q.lo) (Xt:=Q.Xt) (XP:=XL Q.qv Q.lvv) (Yf:=Hook.obs (kmHook Q.Kf Q.Ka Q.ke [802,769])) (Ya:=Hook.val (kmHook Q.Kf Q.Ka Q.ke [802,769])) (YP:=Hook.says (kmHook Q.Kf Q.Ka Q.ke [802,769])) (N:=17554) Q.left (Hook.of (kmHook Q.Kf Q.Ka Q.ke [802,769])) (Hook.keeps (kmHook Q.Kf Q.Ka Q.ke [802,769])) (λs e=>xl_of s (Bool.and_eq_true_iff.mp e).1) XL.keeps (by rfl) (by rfl) (by rfl) (λs e=>recFacts_of (Bool.and_eq_true_iff.mp e).2) (by rfl) (by first | assumption | decide +kernel) (by decide +kernel) ⟨rfl,rfl,rfl,rfl,rfl,by decide +kernel⟩ ?hw ?hc
 (case hw=>w_witness2)
 k_fill
 refine K53.walk (l:=PySem.Challenge.rw_pactroom_k53_walked_once) rfl rfl (λw h Y=>PySem.W.km_in_of Y) ?F
 case F =>
  intro w f g h Y d G b
  apply K53.all_mk d G b
  all_goals first | (delta K53.XF;k_is) | (delta K53.X0;k_is) | (delta K53.XN;k_is) | (delta K53.Xn;k_is) | exact ⟨⟨by k_is,by k_is,by k_is,by k_is⟩,by k_is,by k_is⟩ | (case hcc1=>exact rfl) | (case hPt1=>exact rfl) | (case hT1=>exact PySem.W.km_tabs_of Y _ (by k_mem)) | (case hcc2=>exact rfl) | (case hPt2=>exact rfl) | (case hT2=>exact PySem.W.km_tabs_of Y _ (by k_mem)) | (case hNe=>decide) | k_is | exact K53.fnx (by k_is) (by k_is) (by k_is) (by k_is) | kit_is | k_exc | kernel_rfl | skip
