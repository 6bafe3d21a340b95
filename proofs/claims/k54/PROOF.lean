import PyProof.Rows.All
import Wide.All
import OpenK.AllK
import Wide.FinOn
import Lean
import PyProof.EqAt
import PyProof.EqKinds
import PyProof.TupleCall
import KE.KNestM
import KE.KLam
import KE.KMinKey
import KE.KRevSl
import KE.KRevIter
import KE.KDictList
import KE.KDictOf
import PyProof.DictUpdate
import PyProof.AttrMissHeap
import PyProof.DictRoadsH
import PyProof.MeetsDict
import PySem.Challenge.RW_pactroom_k54_undone_once_or_void
set_option Elab.async false
set_option linter.all false
set_option genSizeOf false
set_option maxHeartbeats 4000000
set_option maxRecDepth 100000
abbrev ν:=@List.length_map
abbrev ϕ:=@List.mem_cons
abbrev ϵ:=@List.mem_singleton
abbrev ϑ:=@List.mem_map
abbrev ϖ:=@Nat.zero_le
abbrev ϰ:=@True.intro
theorem ϱ.{u}{α:Sort u}{a:α}:a=a:=rfl
theorem θ{p:Prop}(h:p:=by decide +kernel):p:=h
theorem ζ{p:Prop}(h:p:=by decide):p:=h
theorem ω{p:Prop}(h:p:=by omega):p:=h
theorem χ{a b:Nat}(h:a.ble b=true:=by rfl):a<=b:=Nat.le_of_ble_eq_true h
abbrev ε:=@PySem.wpAny_bind
abbrev π:=@PySem.wpAny_pure
abbrev ρ:=@PySem.Heap.get?_push_of_some
abbrev ξ:=@List.getElem?_eq_getElem
abbrev τ:=@decide_eq_true
abbrev υ:=@Nat.le_succ_of_le
abbrev ι:=@Nat.le_refl
abbrev η:=@PySem.Heap.lt_size
abbrev ψ:=@PySem.Heap.get?_push_size
abbrev Γ:=@decide_eq_false
abbrev Δ:=@Option.some.inj
abbrev Θ:=@List.mem_cons_of_mem
abbrev Λ:=@Nat.le_trans
abbrev Ξ:=@of_decide_eq_true
abbrev Φ:=@Nat.ne_of_lt
abbrev Ψ:=@List.mem_append_right
abbrev Ω:=@List.mem_cons_self
open PySem.W (Frag)
namespace L2
open PySem PySem.Spec PyProof.Rows
abbrev Key:=Sum Int Str
def mZ:Key->Value->Bool
 | .inl k,v=>Value.isInt k v
 | .inr x,v=>Value.isStrOf x v
def Cm(w:World):Key->Int
 | .inl k=>hashInt k
 | .inr x=>hashStr w x
theorem bz:∀{k:Key} {v:Value},mZ k v=true->(∃i t,k=Sum.inl i/\v=Value.int i t)\/(∃x t,k=Sum.inr x/\v=Value.str x t)
 | .inl i,v,h=>by
  obtain ⟨t,e⟩:=Value.isInt_shape (k:=i) (v:=v) h
  exact .inl ⟨i,t,ϱ,e⟩
 | .inr x,v,h=>by
  obtain ⟨t,e⟩:=Value.isStrOf_shape (x:=x) (v:=v) h
  exact .inr ⟨x,t,ϱ,e⟩
theorem tQ(i:Int)(t:Tok):mZ (.inl i) (.int i t)=true:=by simp [mZ,Value.isInt]
theorem tO(x:Str)(t:Tok):mZ (.inr x) (.str x t)=true:=by simp [mZ,Value.isStrOf]
theorem AL(a b:Int):decide ((Sum.inl a:Key)=Sum.inl b)=(a==b):=by
 by_cases e:a=b
 ·subst e;simp
 ·have h:¬(Sum.inl a:Key)=Sum.inl b:=λq=>e (Sum.inl.inj q)
  rw [Γ h]
  exact (beq_eq_false_iff_ne.mpr e).symm
theorem AI(a b:Str):decide ((Sum.inr a:Key)=Sum.inr b)=decide (a=b):=by
 by_cases e:a=b
 ·subst e;simp
 ·have h:¬(Sum.inr a:Key)=Sum.inr b:=λq=>e (Sum.inr.inj q)
  rw [Γ h,Γ e]
theorem AK(a:Int)(b:Str):decide ((Sum.inl a:Key)=Sum.inr b)=false:=Γ (λq=>nomatch q)
theorem AJ(a:Str)(b:Int):decide ((Sum.inr a:Key)=Sum.inl b)=false:=Γ (λq=>nomatch q)
def aK(prog:Program)(w:World):PySem.KeyKind prog w Key where
 is:=mZ
 hash:=Cm w
 inj:=λv a b ha hb=>by
  rcases bz ha with ⟨i,t,rfl,rfl⟩ | ⟨x,t,rfl,rfl⟩
  ·rcases bz hb with ⟨j,u,rfl,e⟩ | ⟨y,u,rfl,e⟩
   ·injection e with e1 _;rw [e1]
   ·exact nomatch e
  ·rcases bz hb with ⟨j,u,rfl,e⟩ | ⟨y,u,rfl,e⟩
   ·exact nomatch e
   ·injection e with e1 _;rw [e1]
 byValue:=λk v h=>by
  rcases bz h with ⟨i,t,rfl,rfl⟩ | ⟨x,t,rfl,rfl⟩<;>rfl
 pyHash:=λhv h=>by
  rcases bz hv with ⟨i,t,rfl,rfl⟩ | ⟨x,t,rfl,rfl⟩
  ·exact wpAny_pyHash_int h
  ·exact wpAny_pyHash_str h
 eqBool:=λhu hv h=>by
  rcases bz hu with ⟨i,t,rfl,rfl⟩ | ⟨x,t,rfl,rfl⟩
  ·rcases bz hv with ⟨j,u,rfl,rfl⟩ | ⟨y,u,rfl,rfl⟩
   ·rw [AL] at h;exact wpAny_eqBool_int h
   ·rw [AK] at h;exact SeqAt.EqAt.int_str i t y u _ _ _ _ h
  ·rcases bz hv with ⟨j,u,rfl,rfl⟩ | ⟨y,u,rfl,rfl⟩
   ·rw [AJ] at h;exact SeqAt.EqAt.str_int x t j u _ _ _ _ h
   ·rw [AI] at h;exact wpAny_eqBool_str h
 «strs» := fun k x t v h => by
  rcases bz h with ⟨i,u,rfl,e⟩ | ⟨y,u,rfl,e⟩
  ·exact nomatch e
  ·injection e with e1 _
   subst e1
   cases v<;>rfl
theorem pX(prog:Program)(w:World)(i:Int)(t:Tok):(aK prog w).is (.inl i) (.int i t)=true:=tQ i t
theorem pW(prog:Program)(w:World)(x:Str)(t:Tok):(aK prog w).is (.inr x) (.str x t)=true:=tO x t
inductive V where
 | non | bl (b:Bool) | int (i:Int) | str (x:Str) | byt (b:Array UInt8) | flt (b:UInt64) | ref (a:Addr) | ty (n:String)
 deriving DecidableEq
def RelV:V->Value->Prop
 | .non,u=>u=Value.none
 | .bl b,u=>u=Value.bool b
 | .int i,u=>∃t,u=Value.int i t
 | .str x,u=>∃t,u=Value.str x t
 | .byt b,u=>∃t,u=Value.bytes b t
 | .flt b,u=>∃t,u=Value.float b t
 | .ref a,u=>u=Value.ref a
 | .ty n,u=>u=Value.type n
abbrev Vals:List V->List Value->Prop:=Paired RelV
theorem Vals.length{xs:List V}{us:List Value}(r:Vals xs us):xs.length=us.length:=Paired.length r
theorem Vals.get:∀{xs:List V} {us:List Value} {i:Nat} {x:V},Vals xs us->xs[i]?=some x->∃u,us[i]?=some u/\RelV x u
 | _,_,_,_,.nil,e=>by simp at e
 | _,_,0,_,.cons r _,e=>by simp at e;subst e;exact ⟨_,rfl,r⟩
 | _,_,i+1,x,.cons _ t,e=>by
  obtain ⟨u,h1,h2⟩:=Vals.get (i:=i) (x:=x) t (by simpa using e)
  exact ⟨u,by simpa using h1,h2⟩
theorem Vals.set{x:V}{u:Value}(r:RelV x u):∀{xs:List V} {us:List Value} (i:Nat),Vals xs us->Vals (xs.set i x) (us.set i u)
 | _,_,_,.nil=>.nil
 | _,_,0,.cons _ t=>.cons r t
 | _,_,i+1,.cons q t=>.cons q (Vals.set r i t)
theorem Vals.append:∀{xs ys:List V} {us ws:List Value},Vals xs us->Vals ys ws->Vals (xs++ys) (us++ws)
 | _,_,_,_,.nil,s=>s
 | _,_,_,_,.cons r t,s=>.cons r (Vals.append t s)
theorem Vals.take:∀{xs:List V} {us:List Value} (n:Nat),Vals xs us->Vals (xs.take n) (us.take n)
 | _,_,0,_=>.nil
 | _,_,_+1,.nil=>.nil
 | _,_,n+1,.cons r t=>.cons r (Vals.take n t)
theorem Vals.drop:∀{xs:List V} {us:List Value} (n:Nat),Vals xs us->Vals (xs.drop n) (us.drop n)
 | _,_,0,r=>r
 | _,_,_+1,.nil=>.nil
 | _,_,n+1,.cons _ t=>Vals.drop n t
def RelO:Option V->Option Value->Prop
 | some v,some u=>RelV v u
 | none,none=>True
 | _,_=>False
def KV{κ:Type}:List (κ×V)->List (κ×Value)->Prop:=Paired λ(p:κ×V) (q:κ×Value)=>p.1=q.1/\RelV p.2 q.2
def kV:Key->V
 | .inl i=>.int i
 | .inr x=>.str x
inductive HO where
 | lst (xs:List V)
 | tup (xs:List V)
 | dK (kvs:List (Key×V)) | dT (kvs:List (List Key×V))
 | set (S:Int->Bool) (n:Nat)
 | ins (C dx:Addr) (fs:List (Str×V))
 | own (x:Addr)
 | xd (fs:List (Str×V))
 | met (f x:Addr)
 | rng (lo hi:Int)
 | frz (o:Obj) (u:HO)
 | tbl (ps:Array Value)
 | ext (φ:Heap->Prop)
abbrev Hp:=Addr->Option HO
def upd(H:Hp)(a:Addr)(o:HO):Hp:=λb=>if b=a then some o else H b
theorem ae{H:Hp}{a:Addr}{o:HO}:upd H a o a=some o:=by unfold upd;rw [if_pos rfl]
theorem ao{H:Hp}{a b:Addr}{o:HO}(h:b≠a):upd H a o b=H b:=by unfold upd;rw [if_neg h]
theorem i4{H:Hp}{a b:Addr}{o u:HO}(h:H a=some o)(h':H b=some u)(d:o≠u):a≠b:=by
 intro e;subst e;rw [h] at h';exact d (Δ h')
theorem aq{H:Hp}{a b:Addr}{o:HO}(h:H a=some o)(h':H b=none):a≠b:=by
 intro e;subst e;rw [h] at h';cases h'
section
variable (P:Program)(w:World)
def ObjOk(H:Hp)(h:Heap)(a:Addr):HO->Prop
 | .lst xs=>xs.length<=sizeLine/\∃(its:List Value) (n:Nat),Vals xs its/\h.get? a=some {cls:=.type "list",data:=.seq its.toArray n}
 | .tup xs=>xs.length<=sizeLine/\∃its:List Value,Vals xs its/\IsTup h a its.toArray
 | .dK kvs=>kvs.length<=sizeLine/\(a==sysModules)=false/\∃vs,KV kvs vs/\h.DictOf (aK P w) a vs
 | .dT kvs=>kvs.length<=sizeLine/\(a==sysModules)=false/\∃xs:List (List Key×Addr×Value),
   Paired (λ(p:List Key×V) (q:List Key×Addr×Value)=>p.1=q.1/\H q.2.1=some (.tup (p.1.map kV))/\RelV p.2 q.2.2) kvs xs /\
   ∃o es ep,h.get? a=some o/\o.ExactDict/\o.data=.dict es ep/\es.toList=xs.map (entryOfKey (tupleKind (aK P w)))/\(xs.map (·.1)).Nodup
 | .set S n=>h.SetOf (intKind P w) a S n
 | .ins C dx fs=>H dx=some (.own a)/\fs.length<=1000/\dx≠a/\h.get? a=some (PySem.W.instObj C dx) /\
   ∃mA,h.Ns1 dx mA/\(∀f,RelO (fs.lookup f) (mA f))/\PySem.Within mA (fs.map (·.1))
 | .own _=>∃o,h.get? a=some o
 | .xd fs=>∃mA,h.Ns1 a mA/\∀f,RelO (fs.lookup f) (mA f)
 | .rng lo hi=>∃t u v,h.get? a=some {cls:=.type "range",data:=.fields #[.int lo t,.int hi u,.int 1 v]}
 | .frz o u=>h.get? a=some o/\ObjOk H h a u
 | .tbl ps=>h.get? a=some {cls:=.none,data:=.fields ps}
 | .met f x=>h.get? a=some (PySem.W.methodObj (.ref f) (.ref x))
 | .ext φ=>φ h/\(∃o,h.get? a=some o)/\∀h1 h2:Heap,φ h1->(∀o,h1.get? a=some o->h2.get? a=some o)->φ h2
def HOk(H:Hp)(h:Heap):Prop:=∀a o,H a=some o->ObjOk P w H h a o
end
section
variable {P:Program}{w:World}{H H':Hp}{h h':Heap}{a:Addr}{o:HO}
theorem ObjOk.lt(x:ObjOk P w H h a o):a<h.objs.size:=by
 cases o with
 | lst xs=>obtain ⟨_,_,_,_,e⟩:=x;exact η e
 | tup xs=>obtain ⟨_,_,_,p⟩:=x;exact p.lt
 | dK kvs=>obtain ⟨_,_,_,_,o,_,_,e,_⟩:=x;exact η e
 | dT kvs=>obtain ⟨_,_,_,_,o,_,_,e,_⟩:=x;exact η e
 | set S n=>obtain ⟨o,_,_,_,e,_⟩:=x;exact η e
 | ins C dx fs=>obtain ⟨_,_,_,e,_⟩:=x;exact η e
 | own y=>obtain ⟨_,e⟩:=x;exact η e
 | xd fs=>obtain ⟨_,⟨_,_,_,e,_⟩,_⟩:=x;exact η e
 | rng lo hi=>obtain ⟨_,_,_,e⟩:=x;exact η e
 | frz ob u=>obtain ⟨e,_⟩:=x;exact η e
 | tbl ps=>exact η (show h.get? a=some _ from x)
 | met f y=>exact η (show h.get? a=some _ from x)
 | ext φ=>obtain ⟨_,⟨_,e⟩,_⟩:=x;exact η e
theorem Paired.mapP{α β:Type}{F G:α->β->Prop}:∀{l₁:List α} {l₂:List β},Paired F l₁ l₂->(∀a b,F a b->G a b)->Paired G l₁ l₂
 | _,_,.nil,_=>.nil
 | _,_,.cons r t,f=>.cons (f _ _ r) (Paired.mapP t f)
theorem ObjOk.stay(x:ObjOk P w H h a o)(k:∀b u,(b=a\/H b=some (.own a))->h.get? b=some u->h'.get? b=some u)
  (I:∀b,H b=some (.own a)->H' b=some (.own a))(J:∀b xs,H b=some (.tup xs)->H' b=some (.tup xs)):ObjOk P w H' h' a o:=by
 induction o with
 | lst xs=>obtain ⟨z,l,n,r,e⟩:=x;exact ⟨z,l,n,r,k _ _ (.inl rfl) e⟩
 | tup xs=>obtain ⟨z,l,r,g,e,c⟩:=x;exact ⟨z,l,r,g,k _ _ (.inl rfl) e,c⟩
 | dK kvs=>obtain ⟨z,y,vs,r,g,i,j,e,c⟩:=x;exact ⟨z,y,vs,r,g,i,j,k _ _ (.inl rfl) e,c⟩
 | dT kvs =>
  obtain ⟨z,y,xs,r,g,i,j,e,c⟩:=x
  exact ⟨z,y,xs,Paired.mapP r λp q z=>⟨z.1,J _ _ z.2.1,z.2.2⟩,g,i,j,k _ _ (.inl rfl) e,c⟩
 | set S n=>obtain ⟨g,i,j,t,e,c⟩:=x;exact ⟨g,i,j,t,k _ _ (.inl rfl) e,c⟩
 | ins C dx fs =>
  obtain ⟨d,z,F,e,m,⟨od,i,j,G,c⟩,r⟩:=x
  exact ⟨I _ d,z,F,k _ _ (.inl rfl) e,m,⟨od,i,j,k _ _ (.inr d) G,c⟩,r⟩
 | own y=>obtain ⟨g,e⟩:=x;exact ⟨g,k _ _ (.inl rfl) e⟩
 | xd fs=>obtain ⟨m,⟨od,i,j,e,c⟩,r⟩:=x;exact ⟨m,⟨od,i,j,k _ _ (.inl rfl) e,c⟩,r⟩
 | rng lo hi=>obtain ⟨t,u,v,e⟩:=x;exact ⟨t,u,v,k _ _ (.inl rfl) e⟩
 | frz g u ih=>obtain ⟨e,q⟩:=x;exact ⟨k _ _ (.inl rfl) e,ih q⟩
 | tbl ps =>
  have e:h.get? a=some {cls:=.none,data:=.fields ps}:=x
  show h'.get? a=some {cls:=.none,data:=.fields ps}
  exact k a _ (.inl rfl) e
 | met f y =>
  have e:h.get? a=some (PySem.W.methodObj (.ref f) (.ref y)):=x
  show h'.get? a=some (PySem.W.methodObj (.ref f) (.ref y))
  exact k a _ (.inl rfl) e
 | ext φ=>obtain ⟨p,⟨o,e⟩,D⟩:=x;exact ⟨D _ _ p λo q=>k _ _ (.inl rfl) q,⟨o,k _ _ (.inl rfl) e⟩,D⟩
theorem HOk.lt(x:HOk P w H h)(e:H a=some o):a<h.objs.size:=(x a o e).lt
theorem HOk.fresh(x:HOk P w H h)(e:h.objs.size<=a):H a=none:=by
 cases q:H a with
 | none=>rfl
 | some u=>exact absurd (Nat.lt_of_lt_of_le (x.lt q) e) (Nat.lt_irrefl _)
theorem HOk.kept(x:HOk P w H h)(k:∀b u,h.get? b=some u->h'.get? b=some u):HOk P w H h':=λa o e =>
 (x a o e).stay (λb u _ q=>k b u q) (λ_ q=>q) λ_ _ q=>q
theorem HOk.laid(x:HOk P w H h)(k:∀b u,h.get? b=some u->h'.get? b=some u)(hp:h.objs.size<=a)(new:ObjOk P w (upd H a o) h' a o):HOk P w (upd H a o) h':=λb u e=>by
 have hn:=x.fresh hp
 by_cases hb:b=a
 ·subst hb;rw [ae] at e;cases e;exact new
 ·rw [ao hb] at e
  exact (x b u e).stay (λc v _ q=>k c v q) (λc q=>by rw [ao (aq q hn)];exact q) λc xs q=>by rw [ao (aq q hn)];exact q
end
def Rd(H:Hp)(a:Addr)(u:HO):Prop:=H a=some u\/∃o,H a=some (.frz o u)
theorem Rd.ok{P:Program}{w:World}{H:Hp}{h:Heap}{a:Addr}{u:HO}(r:Rd H a u)(x:HOk P w H h):ObjOk P w H h a u:=by
 rcases r with r | ⟨o,r⟩
 ·exact x a u r
 ·obtain ⟨_,q⟩:=x a _ r
  exact q
def Mut:Option HO->Prop
 | some (.lst _)=>True
 | some (.dK _)=>True
 | some (.dT _)=>True
 | some (.set _ _)=>True
 | some (.ins _ _ _)=>True
 | some (.ext _)=>True
 | _=>False
section
variable {P:Program}{w:World}{H:Hp}{h h':Heap}{x e:Addr}{o':HO}
theorem HOk.write(ok:HOk P w H h)(d:Mut (H x))(g:e=x\/H e=some (.own x))(k:∀b u,b≠e->h.get? b=some u->h'.get? b=some u)(f:∃u,h'.get? e=some u)
  (new:ObjOk P w (upd H x o') h' x o'):HOk P w (upd H x o') h':=λb u q=>by
 have nown:∀c y,H c=some (.own y)->c≠x:=λc y r z=>by subst z;rw [r] at d;exact d
 have ntup:∀c xs,H c=some (.tup xs)->c≠x:=λc xs r z=>by subst z;rw [r] at d;exact d
 by_cases hb:b=x
 ·subst hb;rw [ae] at q;cases q;exact new
 ·rw [ao hb] at q
  by_cases hbe:b=e
  ·have q':H b=some (.own x):=by
    rcases g with z | z
    ·exact absurd (hbe.trans z) hb
    ·rw [hbe];exact z
   rw [q] at q';cases q'
   obtain ⟨v,i⟩:=f
   exact ⟨v,by rw [hbe];exact i⟩
  ·refine (ok b u q).stay (λc v hc r=>k c v ?_ r) (λc r=>by rw [ao (nown c b r)];exact r) λc xs r=>by rw [ao (ntup c xs r)];exact r
   rcases hc with rfl | hc
   ·exact hbe
   ·rintro rfl
    rcases g with z | z
    ·exact nown c b hc z
    ·rw [hc] at z;cases z;exact hb rfl
end
structure Un(fs ex:List Addr)(H H':Hp)(h h':Heap):Prop where
 keep:∀b o,h.get? b=some o->H b=none->b∉fs->b∉ex->h'.get? b=some o
 slot:∀b o,h.get? b=some o->H b=none->b∈fs->b∉ex->∃sl,h'.get? b=some {o with slots:=sl}
 free:∀b o,h.get? b=some o->H b=none->b∉ex->H' b=none
 there:∀b o,h.get? b=some o->b∉ex->∃o',h'.get? b=some o'
 tups:∀b xs,H b=some (.tup xs)->H' b=some (.tup xs)
 frzs:∀b o u,H b=some (.frz o u)->H' b=some (.frz o u)
 tbls:∀b ps,H b=some (.tbl ps)->∃more,H' b=some (.tbl (ps++more))
section
variable {fs fs' ex ex':List Addr}{H H1 H2:Hp}{h h1 h2 h':Heap}{a x e:Addr}{o:HO}
theorem Un.any(u:Un fs ex H H1 h h1){b:Addr}{d:Obj}(q:h.get? b=some d)(n:H b=none)(e:b∉ex):∃sl,h1.get? b=some {d with slots:=sl}:=by
 by_cases hb:b∈fs
 ·exact u.slot b d q n hb e
 ·exact ⟨d.slots,u.keep b d q n hb e⟩
theorem Un.kept(k:∀b u,h.get? b=some u->h'.get? b=some u):Un fs ex H H h h' :=
 ⟨λb ob q _ _ _=>k b ob q,λb ob q _ _ _=>⟨ob.slots,k b ob q⟩,λ_ _ _ n _=>n,λb ob q _=>⟨ob,k b ob q⟩,λ_ _ q=>q,λ_ _ _ q=>q,λ_ ps q=>⟨#[],by rw [q];simp⟩⟩
theorem Un.refl:Un fs ex H H h h:=Un.kept λ_ _ q=>q
theorem Un.laid(k:∀b u,h.get? b=some u->h'.get? b=some u)(hp:h.objs.size<=a)(hn:H a=none):Un fs ex H (upd H a o) h h' where
 keep:=λb u q _ _ _=>k b u q
 slot:=λb u q _ _ _=>⟨u.slots,k b u q⟩
 free:=λb u q n _=>by rw [ao (Φ (Nat.lt_of_lt_of_le (η q) hp))];exact n
 there:=λb u q _=>⟨u,k b u q⟩
 tups:=λb xs q=>by rw [ao (aq q hn)];exact q
 frzs:=λb u xs q=>by rw [ao (aq q hn)];exact q
 tbls:=λb ps q=>⟨#[],by rw [ao (aq q hn),q];simp⟩
theorem Un.write(d:Mut (H x))(w:e=x\/H e=some (.own x))(k:∀b u,b≠e->h.get? b=some u->h'.get? b=some u)(g:∃u,h'.get? e=some u):Un fs ex H (upd H x o) h h':=by
 have i:∀b,H b=none->b≠x:=λb n z=>by subst z;rw [n] at d;exact d
 have j:∀b,H b=none->b≠e:=λb n z=>by
  subst z
  rcases w with r | r
  ·exact i b n r
  ·rw [n] at r;cases r
 have f:∀b u,H b=some u->¬Mut (some u)->b≠x:=λb u q l z=>by subst z;rw [q] at d;exact l d
 refine ⟨λb u q n _ _=>k b u (j b n) q,λb u q n _ _=>⟨u.slots,k b u (j b n) q⟩,λb u q n _=>by rw [ao (i b n)];exact n,λb u q _=>?_,
  λb m q=>by rw [ao (f b _ q λz=>z)];exact q,λb u m q=>by rw [ao (f b _ q λz=>z)];exact q,λb y q=>⟨#[],by rw [ao (f b _ q λz=>z),q];simp⟩⟩
 by_cases hbe:b=e
 ·subst hbe;exact g
 ·exact ⟨u,k b u hbe q⟩
end
def trk(h:Heap)(H:Hp):List Addr:=(List.range h.objs.size).filter λa=>(H a).isSome
def mC(h:Heap)(H:Hp):Heap:=PySem.W.hideAll h (trk h H)
theorem tW(h:Heap)(H:Hp):(mC h H).objs.size=h.objs.size:=PySem.W.hideAll_size _ _
theorem wq{h:Heap}{H:Hp}{b:Addr}{o:Obj}(e:h.get? b=some o)(n:H b=none):(mC h H).get? b=some o :=
 PySem.W.hideAll_get _ e λhm=>by
  have q:(H b).isSome=true:=(List.mem_filter.mp hm).2
  rw [n] at q;simp at q
theorem yg{h:Heap}{H:Hp}{b:Addr}{o:Obj}(e:(mC h H).get? b=some o):h.get? b=some o/\H b=none:=by
 have d:h.get? b=some o:=PySem.W.of_hideAll (trk h H) e
 refine ⟨d,?_⟩
 cases q:H b with
 | none=>rfl
 | some x =>
  have f:b∈trk h H:=List.mem_filter.mpr ⟨List.mem_range.mpr (Heap.lt_size d),by simp [q]⟩
  have z:(mC h H).get? b=none:=PySem.W.hideAll_none (trk h H) f
  rw [z] at e;cases e
structure Mod(K:Frag)(mg:Str->Option Value)(base:Heap):Prop where
 kin:K.In base
 glob:base.Ns mainGlobals mg
 blt:∃mb,base.Ns builtinsNs mb/\∀x:Str,x≠"__name__"->mb x=bootBuiltins x
 nolimit:base.NoLimit
structure Cx where
 prog:Program
 w:World
 K:Frag
 mg:Str->Option Value
 base:Heap
 A:Around
 N:List Str
 s₀:Shared
 H₀:Hp
 env:Env
 outer:List Env
 stack:List Env
 ex:List Addr
 fn:Str->Bool
 calm:Bool
 pn:List (Addr×Obj)
 xe:Value->Shared->Prop
def frs(l:List Env):List Addr:=l.filterMap (·.frame)
abbrev Cx.fs(X:Cx):List Addr:=frs X.outer
def Vis(sc:Scope)(x:Str):Prop:=sc.names.lookup x=some .local\/sc.names.lookup x=some .cell\/sc.names.lookup x=some .free
def Loc(sc:Scope)(x:Str):Prop:=sc.names.lookup x=some .local\/sc.names.lookup x=some .cell
def CD(env:Env)(h:Heap)(m:Str->Option Value)(x:Str)(u:Value):Prop :=
 (env.kindOf x=some .local/\m x=some u)\/((env.kindOf x=some .cell\/env.kindOf x=some .free)/\∃c,env.cells.lookup x=some c/\h.IsCell c (some u))
structure Cx.Ok(X:Cx):Prop where
 mod:Mod X.K X.mg X.base
 kind:X.env.scope.kind=.function
 glob:X.env.globals=mainGlobals
 blt:X.env.builtins=builtinsNs
 above:X.s₀.heap.objs.size<=X.env.locals
 inj:∀x y c,X.env.cells.lookup x=some c->X.env.cells.lookup y=some c->x=y
 has:∀x,(X.env.kindOf x=some .cell\/X.env.kindOf x=some .free)->∃c,X.env.cells.lookup x=some c
 cab:∀x c,X.fn x=true->X.env.cells.lookup x=some c->X.s₀.heap.objs.size<=c
 hd:X.calm=true->X.A.handled=none
 frames:X.A.frames=some X.stack
 stk:X.stack=X.outer\/(X.stack=X.env::X.outer/\X.env.frame=some X.env.locals)
 exf:∀b∈X.ex,b≠X.env.locals/\∀x c,X.env.cells.lookup x=some c->c≠b
 bs:∀b o,X.base.get? b=some o->X.s₀.heap.get? b=some o/\X.H₀ b=none
 bsz:X.base.objs.size<=X.s₀.heap.objs.size
 noex:∀b o,X.base.get? b=some o->b∉X.ex
 exfs:∀b∈X.ex,b∉X.fs
 funs:X.s₀.heap.FunFrames X.base X.outer
 frf:∀b∈X.fs,X.H₀ b=none
structure Inv(X:Cx)(pins:List (Addr×Obj))(σ:List (Option V))(H:Hp)(s:Shared):Prop where
 ok:X.Ok
 os:s.os=X.s₀.os
 bare:AllBare s.gens
 base:Un X.fs X.ex X.H₀ H X.s₀.heap s.heap
 loc:∃m,s.heap.Ns X.env.locals m/\∀(i:Nat) (x:Str) (v:V),X.N[i]?=some x->σ[i]?=some (some v)->Vis X.env.scope x->∃u,RelV v u/\CD X.env s.heap m x u
 cell:∀x c,X.env.cells.lookup x=some c->∃v,s.heap.IsCell c v
 free:H X.env.locals=none
 freeC:∀x c,X.env.cells.lookup x=some c->H c=none
 pin:∀p∈X.pn++pins,s.heap.get? p.1=some p.2/\H p.1=none/\p.1≠X.env.locals/\p.1∉X.fs/\∀v,p.2.data≠.cell v
 hok:HOk X.prog X.w H s.heap
 len:σ.length=X.N.length
section
variable {X:Cx}{pins:List (Addr×Obj)}{σ:List (Option V)}{H H':Hp}{s:Shared}{h':Heap}
theorem Cx.Ok.nofr(ok:X.Ok){b:Addr}{o:Obj}(e:X.base.get? b=some o):b∉X.fs:=λhb=>by
 have:=(ok.funs.mem hb).1
 rw [e] at this;cases this
theorem Inv.bs(I:Inv X pins σ H s):∀b o,X.base.get? b=some o->s.heap.get? b=some o/\H b=none:=λb o e =>
 ⟨I.base.keep b o (I.ok.bs b o e).1 (I.ok.bs b o e).2 (I.ok.nofr e) (I.ok.noex b o e),I.base.free b o (I.ok.bs b o e).1 (I.ok.bs b o e).2 (I.ok.noex b o e)⟩
theorem Inv.bk(I:Inv X pins σ H s):∀b o,X.base.get? b=some o->s.heap.get? b=some o:=λb o e=>(I.bs b o e).1
theorem Inv.mod(I:Inv X pins σ H s):Mod X.K X.mg X.base:=I.ok.mod
theorem Inv.kIn(I:Inv X pins σ H s):X.K.In s.heap:=I.ok.mod.kin.keeps I.bk
theorem Inv.lt(I:Inv X pins σ H s):X.env.locals<s.heap.objs.size:=let ⟨_,hn,_⟩:=I.loc;hn.lt
theorem Inv.sz(I:Inv X pins σ H s):X.s₀.heap.objs.size<=s.heap.objs.size:=Λ I.ok.above (Nat.le_of_lt I.lt)
theorem Inv.nofs(I:Inv X pins σ H s){a:Addr}(h:s.heap.objs.size<=a):a∉X.fs:=λhb=>by
 obtain ⟨_,o,ho,_⟩:=I.ok.funs.mem hb
 exact absurd (Nat.lt_of_lt_of_le (η ho) (Λ I.sz h)) (Nat.lt_irrefl _)
theorem Inv.cne(I:Inv X pins σ H s):∀x c,X.env.cells.lookup x=some c->c≠X.env.locals:=λx c e z=>by
 obtain ⟨v,o,ho,hd⟩:=I.cell x c e
 obtain ⟨m,⟨o',es,ep,ho',hd',_⟩,_⟩:=I.loc
 rw [z,ho'] at ho;cases ho;rw [hd'] at hd;cases hd
theorem Inv.funs(I:Inv X pins σ H s):s.heap.FunFrames X.base X.outer:=by
 have all:∀(l:List Env),(∀b∈frs l,b∈X.fs)->X.s₀.heap.FunFrames X.base l->s.heap.FunFrames X.base l:=by
  intro l
  induction l with
  | nil=>intro _ _;trivial
  | cons env r ih =>
   intro g u
   obtain ⟨h,⟨L,o,hf,i,j,m⟩,q⟩:=u
   have d:L∈X.fs:=g L (by unfold frs;rw [List.filterMap_cons,hf];exact List.mem_cons_self)
   obtain ⟨sl,e⟩:=I.base.slot L o j (I.ok.frf L d) d λz=>I.ok.exfs L z d
   exact ⟨h,⟨L,_,hf,i,e,m⟩,ih (λb f=>g b (by unfold frs;rw [List.filterMap_cons,hf];exact List.mem_cons_of_mem _ f)) q⟩
 exact all X.outer (λ_ f=>f) I.ok.funs
theorem Inv.stack(I:Inv X pins σ H s):s.heap.FunFrames X.base X.stack:=by
 rcases I.ok.stk with e | ⟨e,hf⟩
 ·rw [e];exact I.funs
 ·rw [e]
  obtain ⟨m,b,_⟩:=I.loc
  refine .cons (by rw [I.ok.kind];decide) hf b ?_ I.funs
  exact Heap.get?_none_of_le (Λ I.ok.bsz I.ok.above)
theorem Inv.stkSub(I:Inv X pins σ H s):∀b∈frs X.stack,b∈X.env.locals::X.fs:=λb hb=>by
 rcases I.ok.stk with e | ⟨e,hf⟩
 ·rw [e] at hb;exact Θ _ hb
 ·rw [e] at hb
  unfold frs at hb
  rw [List.filterMap_cons,hf] at hb
  exact hb
theorem Inv.stkFree(I:Inv X pins σ H s):∀b∈frs X.stack,H b=none:=λb hb=>by
 rcases ϕ.mp (I.stkSub b hb) with e | hb
 ·rw [e];exact I.free
 ·obtain ⟨_,o,ho,_⟩:=I.ok.funs.mem hb
  exact I.base.free b o ho (I.ok.frf b hb) λz=>I.ok.exfs b z hb
theorem Inv.step{g':Array GenState}{t':Nat}{d':Drawn}{ch:List Addr}(I:Inv X pins σ H s)
  (j:∀b∈ch,(b∈X.ex\/X.s₀.heap.objs.size<=b)/\b≠X.env.locals/\(∀x c,X.env.cells.lookup x=some c->c≠b)/\∀p∈X.pn++pins,p.1≠b)
  (keep:∀b o,b≠X.env.locals->b∉X.fs->b∉ch->s.heap.get? b=some o->H b=none->h'.get? b=some o)
  (D:∀b o,b≠X.env.locals->b∈X.fs->b∉ch->s.heap.get? b=some o->H b=none->∃sl,h'.get? b=some {o with slots:=sl})(free:∀b o,b∉ch->s.heap.get? b=some o->H b=none->H' b=none)
  (there:∀b o,b∉ch->s.heap.get? b=some o->∃o',h'.get? b=some o')
  (L:∀b xs,H b=some (.tup xs)->H' b=some (.tup xs))(O:∀b o u,H b=some (.frz o u)->H' b=some (.frz o u))(P:∀b ps,H b=some (.tbl ps)->∃more,H' b=some (.tbl (ps++more)))
  (ns:∀m,s.heap.Ns X.env.locals m->h'.Ns X.env.locals m)(W:HOk X.prog X.w H' h')(hg:AllBare g') :
  Inv X pins σ H' {s with heap:=h',gens:=g',drawn:=d',toks:=t'}:=by
 have K:∀b o,X.s₀.heap.get? b=some o->b≠X.env.locals:=λb o e=>Φ (Nat.lt_of_lt_of_le (η e) I.ok.above)
 have C:∀b o,X.s₀.heap.get? b=some o->b∉X.ex->b∉ch:=λb o e f F=>by
  rcases (j b F).1 with z | z
  ·exact f z
  ·exact absurd (Nat.lt_of_lt_of_le (η e) z) (Nat.lt_irrefl _)
 have g:∀x c,X.env.cells.lookup x=some c->∀v,s.heap.IsCell c v->h'.IsCell c v:=λx c e v ⟨o,G,U⟩=>by
  have h:c∉ch:=λz=>(j c z).2.2.1 x c e rfl
  by_cases hc:c∈X.fs
  ·obtain ⟨sl,q⟩:=D c o (I.cne x c e) hc h G (I.freeC x c e)
   exact ⟨_,q,U⟩
  ·exact ⟨o,keep c o (I.cne x c e) hc h G (I.freeC x c e),U⟩
 refine ⟨I.ok,I.os,hg,⟨λb o e n F f=>?_,λb o e n F f=>?_,λb o e n f=>?_,λb o e f=>?_,λb xs e=>L b xs (I.base.tups b xs e),λb o xs e=>O b o xs (I.base.frzs b o xs e),λb ps e=>?_⟩,?_,λx c e=>?_,?_,λx c e=>?_,λp hp=>?_,W,I.len⟩
 ·exact keep b o (K b o e) F (C b o e f) (I.base.keep b o e n F f) (I.base.free b o e n f)
 ·obtain ⟨sl,y⟩:=I.base.slot b o e n F f
  obtain ⟨Q,J⟩:=D b _ (K b o e) F (C b o e f) y (I.base.free b o e n f)
  exact ⟨Q,J⟩
 ·obtain ⟨o',y⟩:=I.base.there b o e f
  exact free b o' (C b o e f) y (I.base.free b o e n f)
 ·obtain ⟨o',y⟩:=I.base.there b o e f
  exact there b o' (C b o e f) y
 ·obtain ⟨m1,y⟩:=I.base.tbls b ps e
  obtain ⟨m2,J⟩:=P b _ y
  exact ⟨m1++m2,by rw [J,Array.append_assoc]⟩
 ·obtain ⟨m,hn,hl⟩:=I.loc
  refine ⟨m,ns m hn,λi x v y J e3=>?_⟩
  obtain ⟨u,r,l⟩:=hl i x v y J e3
  refine ⟨u,r,?_⟩
  rcases l with l | ⟨k,c,e,z⟩
  ·exact .inl l
  ·exact .inr ⟨k,c,e,g x c e _ z⟩
 ·obtain ⟨v,z⟩:=I.cell x c e
  exact ⟨v,g x c e v z⟩
 ·obtain ⟨m,⟨o,_,_,G,_⟩,_⟩:=I.loc
  exact free _ o (λz=>(j _ z).2.1 rfl) G I.free
 ·obtain ⟨v,o,G,U⟩:=I.cell x c e
  exact free c o (λz=>(j c z).2.2.1 x c e rfl) G (I.freeC x c e)
 ·obtain ⟨e,n,Y,Z,d⟩:=I.pin p hp
  have h:p.1∉ch:=λz=>(j p.1 z).2.2.2 p hp rfl
  exact ⟨keep p.1 p.2 Y Z h e n,free p.1 p.2 h e n,Y,Z,d⟩
theorem Inv.un{t':Nat}(I:Inv X pins σ H s)(u:Un X.fs [] H H' s.heap h')(i:HOk X.prog X.w H' h'):Inv X pins σ H' {s with heap:=h',toks:=t'}:=by
 obtain ⟨m,⟨o,y,C,j,r⟩,_⟩:=id I.loc
 obtain ⟨sl,l⟩:=u.any j I.free (by simp)
 exact I.step (g':=s.gens) (d':=s.drawn) (ch:=[]) (λ_ z=>nomatch z) (λb o _ h _ e n=>u.keep b o e n h (by simp)) (λb o _ h _ e n=>u.slot b o e n h (by simp)) (λb o _ e n=>u.free b o e n (by simp)) (λb o _ e=>u.there b o e (by simp)) u.tups u.frzs u.tbls (λF x=>by
  obtain ⟨D,f,g,d,q⟩:=x
  rw [j] at d;cases d
  exact ⟨_,f,g,l,q⟩) i I.bare
theorem Inv.call{g':Array GenState}{t':Nat}{d':Drawn}{ch:List Addr}(I:Inv X pins σ H s)(u:Un (frs X.stack) ch H H' s.heap h')(l:HOk X.prog X.w H' h')(F:AllBare g')
  (g:∀b∈ch,(b∈X.ex\/X.s₀.heap.objs.size<=b)/\b≠X.env.locals/\(∀x c,X.env.cells.lookup x=some c->c≠b)/\∀p∈X.pn++pins,p.1≠b) :
  Inv X pins σ H' {s with heap:=h',gens:=g',drawn:=d',toks:=t'}:=by
 obtain ⟨m,⟨o,G,J,q,r⟩,_⟩:=id I.loc
 obtain ⟨sl,h⟩:=u.any q I.free λz=>(g _ z).2.1 rfl
 exact I.step (ch:=ch) g (λb o h C d e n=>u.keep b o e n (λz=>(ϕ.mp (I.stkSub b z)).elim h C) d) (λb o _ _ d e n=>u.any e n d) (λb o d e n=>u.free b o e n d) (λb o d e=>u.there b o e d) u.tups u.frzs u.tbls (λL D=>by
  obtain ⟨K,i,j,f,y⟩:=D
  rw [q] at f;cases f
  exact ⟨_,i,j,h,y⟩) l F
theorem Inv.turned{t':Nat}{it:Addr}(I:Inv X pins σ H s)(k:∀b o,b≠it->s.heap.get? b=some o->h'.get? b=some o)(y:H it=none)(g:it≠X.env.locals)
  (h1:it∈X.ex\/X.s₀.heap.objs.size<=it)(C:∀x c,X.env.cells.lookup x=some c->c≠it)(D:∀p∈X.pn++pins,p.1≠it):Inv X pins σ H {s with heap:=h',toks:=t'}:=by
 have f:∀b u,H b=some u->b≠it:=λb u e z=>by rw [z,y] at e;cases e
 refine I.step (g':=s.gens) (d':=s.drawn) (ch:=[it]) (λb l=>?_) (λb o _ _ d e _=>k b o (λz=>d (by simp [z])) e) (λb o _ _ d e _=>⟨o.slots,k b o (λz=>d (by simp [z])) e⟩) (λ_ _ _ _ n=>n)
  (λb o d e=>⟨o,k b o (λz=>d (by simp [z])) e⟩) (λ_ _ e=>e) (λ_ _ _ e=>e) (λb F e=>⟨#[],by rw [e];simp⟩) (λm w=>?_) (λb u e=>?_) I.bare
 ·have e:b=it:=by simpa using l
  subst e
  exact ⟨h1,g,C,D⟩
 ·obtain ⟨o,h,i,j,r⟩:=w
  exact ⟨o,h,i,k _ o (Ne.symm g) j,r⟩
 ·refine (I.hok b u e).stay (λc v d q=>k c v ?_ q) (λ_ q=>q) λ_ _ q=>q
  rcases d with z | z
  ·rw [z];exact f b u e
  ·exact f c _ z
theorem Inv.tok(I:Inv X pins σ H s)(t:Nat):Inv X pins σ H {s with toks:=t}:=I.un (h':=s.heap) (t':=t) Un.refl I.hok
theorem Inv.kept{t':Nat}(I:Inv X pins σ H s)(k:∀b u,s.heap.get? b=some u->h'.get? b=some u):Inv X pins σ H {s with heap:=h',toks:=t'}:=I.un (Un.kept k) (I.hok.kept k)
theorem Inv.laid{a:Addr}{o:HO}{t':Nat}(I:Inv X pins σ H s)(k:∀b u,s.heap.get? b=some u->h'.get? b=some u)(hp:s.heap.objs.size<=a)(new:ObjOk X.prog X.w (upd H a o) h' a o) :
  Inv X pins σ (upd H a o) {s with heap:=h',toks:=t'}:=I.un (Un.laid k hp (I.hok.fresh hp)) (I.hok.laid k hp new)
theorem Inv.write{x e:Addr}{o:HO}{t':Nat}(I:Inv X pins σ H s)(mu:Mut (H x))(he:e=x\/H e=some (.own x))(k:∀b u,b≠e->s.heap.get? b=some u->h'.get? b=some u)(heo:∃u,h'.get? e=some u)
  (new:ObjOk X.prog X.w (upd H x o) h' x o):Inv X pins σ (upd H x o) {s with heap:=h',toks:=t'}:=I.un (Un.write mu he k heo) (I.hok.write mu he k heo new)
theorem Inv.weak{σ':List (Option V)}(I:Inv X pins σ H s)(hl:σ'.length=σ.length)(w:∀(i:Nat) v,σ'[i]?=some (some v)->σ[i]?=some (some v)):Inv X pins σ' H s :=
 ⟨I.ok,I.os,I.bare,I.base,let ⟨m,hn,hl'⟩:=I.loc;⟨m,hn,λi x v e1 e2 e3=>hl' i x v e1 (w i v e2) e3⟩,I.cell,I.free,I.freeC,I.pin,I.hok,hl.trans I.len⟩
theorem Inv.pins_of{pins':List (Addr×Obj)}(I:Inv X pins σ H s)(h:∀p∈pins',s.heap.get? p.1=some p.2/\H p.1=none/\p.1≠X.env.locals/\p.1∉X.fs/\∀v,p.2.data≠.cell v):Inv X pins' σ H s :=
 ⟨I.ok,I.os,I.bare,I.base,I.loc,I.cell,I.free,I.freeC,λp hp=>(List.mem_append.mp hp).elim (λz=>I.pin p (List.mem_append_left _ z)) (h p),I.hok,I.len⟩
theorem pT{N:List Str}(f:N.Nodup){i j:Nat}{x:Str}(a:N[i]?=some x)(b:N[j]?=some x):i=j:=by
 obtain ⟨h1,d⟩:=List.getElem?_eq_some_iff.mp a
 obtain ⟨g,e⟩:=List.getElem?_eq_some_iff.mp b
 exact (List.getElem_inj f).mp (d.trans e.symm)
theorem sQ{M:Model}{A:Around}{E:Value->Shared->Prop}{i:Nat}{x:Str}{v:V}{u:Value}{Q:Unit->Shared->Prop}(I:Inv X pins σ H s)(hN:X.N.Nodup)(W:X.N[i]?=some x)(C:Loc X.env.scope x)(r:RelV v u)
  (h:∀s',Inv X pins (σ.set i (some v)) H s'->(∃a,Heap.SameBut a s.heap s'.heap/\(a=X.env.locals\/X.env.cells.lookup x=some a))->Q () s')(hf:X.fn x=true\/X.env.scope.names.lookup x=some .local:=by first | exact .inl rfl | exact .inr rfl | assumption):wpAny M A (storeName X.env x u) Q E s:=by
 obtain ⟨m,hn,hl⟩:=id I.loc
 have O:(X.env.scope.kind==.class||(X.env.scope.kind==.module&&X.env.locals != X.env.globals))=false:=by rw [I.ok.kind];rfl
 have P:i<σ.length:=by rw [I.len];exact (List.getElem?_eq_some_iff.mp W).1
 have cne:=I.cne
 have l:∀{a:Addr} {h':Heap},(∃o,s.heap.get? a=some o/\H a=none)->Heap.SameBut a s.heap h'->HOk X.prog X.w H h':=λ{a h'} ha f b ob e=>by
  obtain ⟨_,_,D⟩:=ha
  refine (I.hok b ob e).stay (λc Y hc q=>(f.2 c ?_).trans q) (λ_ q=>q) λ_ _ q=>q
  rintro rfl
  rcases hc with rfl | hc
  ·rw [D] at e;cases e
  ·rw [D] at hc;cases hc
 rcases C with hk | hk
 ·refine wpAny_storeName_local hk hn (λh' a7 f=>?_) O
  obtain ⟨oL,_,_,a2,_⟩:=id hn
  refine h _ ⟨I.ok,I.os,I.bare,⟨λb o e n J C=>?_,λb o e n J C=>?_,I.base.free,λb o e C=>?_,I.base.tups,I.base.frzs,I.base.tbls⟩,⟨_,a7,λj y v' g F e3=>?_⟩,λy c e=>?_,I.free,I.freeC,λp hp=>?_,l ⟨oL,a2,I.free⟩ f,by simpa using I.len⟩ ⟨_,f,.inl rfl⟩
  ·exact (f.2 b (Φ (Nat.lt_of_lt_of_le (η e) I.ok.above))).trans (I.base.keep b o e n J C)
  ·obtain ⟨sl,g⟩:=I.base.slot b o e n J C
   exact ⟨sl,(f.2 b (Φ (Nat.lt_of_lt_of_le (η e) I.ok.above))).trans g⟩
  ·obtain ⟨o',g⟩:=I.base.there b o e C
   exact ⟨o',(f.2 b (Φ (Nat.lt_of_lt_of_le (η e) I.ok.above))).trans g⟩
  ·by_cases hj:j=i
   ·subst hj
    rw [W] at g;cases g
    rw [List.getElem?_set_self P] at F
    cases F
    exact ⟨u,r,.inl ⟨hk,by simp⟩⟩
   ·rw [List.getElem?_set_ne (Ne.symm hj)] at F
    obtain ⟨u',r',q⟩:=hl j y v' g F e3
    refine ⟨u',r',?_⟩
    rcases q with ⟨k,e⟩ | ⟨k,c,e,z⟩
    ·refine .inl ⟨k,?_⟩
     have:y≠x:=λe=>hj (pT hN g (e▸W))
     simp [this,e]
    ·exact .inr ⟨k,c,e,z.sameBut f (cne y c e)⟩
  ·obtain ⟨Y,z⟩:=I.cell y c e
   exact ⟨Y,z.sameBut f (cne y c e)⟩
  ·obtain ⟨e,n,Z,nf,d⟩:=I.pin p hp
   exact ⟨(f.2 p.1 Z).trans e,n,Z,nf,d⟩
 ·have G:X.fn x=true:=by
   rcases hf with z | z
   ·exact z
   ·rw [z] at hk;cases hk
  obtain ⟨c,hc⟩:=I.ok.has x (.inl hk)
  obtain ⟨Y,z⟩:=I.cell x c hc
  refine wpAny_storeName_cell I.ok.kind hk hc z (λh' U f=>?_)
  obtain ⟨oc,K,L⟩:=id z
  refine h {s with heap:=h'} ⟨I.ok,I.os,I.bare,⟨λb o e n J C=>?_,λb o e n J C=>?_,I.base.free,λb o e C=>?_,I.base.tups,I.base.frzs,I.base.tbls⟩,⟨m,hn.sameBut f (Ne.symm (cne x c hc)),λj y v' g F e3=>?_⟩,λy c' e=>?_,I.free,I.freeC,λp hp=>?_,l ⟨oc,K,I.freeC x c hc⟩ f,by simpa using I.len⟩ ⟨c,f,.inr hc⟩
  ·exact (f.2 b (Φ (Nat.lt_of_lt_of_le (η e) (I.ok.cab x c G hc)))).trans (I.base.keep b o e n J C)
  ·obtain ⟨sl,g⟩:=I.base.slot b o e n J C
   exact ⟨sl,(f.2 b (Φ (Nat.lt_of_lt_of_le (η e) (I.ok.cab x c G hc)))).trans g⟩
  ·obtain ⟨o',g⟩:=I.base.there b o e C
   exact ⟨o',(f.2 b (Φ (Nat.lt_of_lt_of_le (η e) (I.ok.cab x c G hc)))).trans g⟩
  ·by_cases hj:j=i
   ·subst hj
    rw [W] at g;cases g
    rw [List.getElem?_set_self P] at F
    cases F
    exact ⟨u,r,.inr ⟨.inl hk,c,hc,U⟩⟩
   ·rw [List.getElem?_set_ne (Ne.symm hj)] at F
    obtain ⟨u',r',q⟩:=hl j y v' g F e3
    refine ⟨u',r',?_⟩
    rcases q with q | ⟨k,c',e,z'⟩
    ·exact .inl q
    ·refine .inr ⟨k,c',e,z'.sameBut f ?_⟩
     rintro rfl
     exact hj (pT hN g (I.ok.inj _ _ _ e hc▸W))
  ·by_cases hcc:c'=c
   ·subst hcc;exact ⟨_,U⟩
   ·obtain ⟨w2,z2⟩:=I.cell y c' e
    exact ⟨w2,z2.sameBut f hcc⟩
  ·obtain ⟨e,n,Z,nf,d⟩:=I.pin p hp
   refine ⟨(f.2 p.1 ?_).trans e,n,Z,nf,d⟩
   intro q
   rw [q,K] at e
   have q':oc=p.2:=Δ e
   exact d Y (by rw [← q'];exact L)
theorem lg{M:Model}{A:Around}{E:Value->Shared->Prop}{i:Nat}{x:Str}{v:V}{u:Value}{Q:Unit->Shared->Prop}(I:Inv X pins σ H s)(hN:X.N.Nodup)(hi:X.N[i]?=some x)(hx:Loc X.env.scope x)(r:RelV v u)
  (h:∀s',Inv X pins (σ.set i (some v)) H s'->Q () s')(hf:X.fn x=true\/X.env.scope.names.lookup x=some .local:=by first | exact .inl rfl | exact .inr rfl | assumption):wpAny M A (storeName X.env x u) Q E s :=
 sQ I hN hi hx r (λs' I' _=>h s' I') hf
theorem Inv.call'{s':Shared}{ch:List Addr}(I:Inv X pins σ H s)(h:s'.os=s.os)(u:Un (frs X.stack) ch H H' s.heap s'.heap)(d:HOk X.prog X.w H' s'.heap)(i:AllBare s'.gens)
  (f:∀b∈ch,(b∈X.ex\/X.s₀.heap.objs.size<=b)/\b≠X.env.locals/\(∀x c,X.env.cells.lookup x=some c->c≠b)/\∀p∈X.pn++pins,p.1≠b):Inv X pins σ H' s':=by
 obtain ⟨h',g',d',t',g⟩:=s'
 have e:g=s.os:=h
 subst e
 exact I.call (g':=g') (t':=t') (d':=d') u d i f
end
abbrev XK:=Value->Option Addr->Hp->Prop
abbrev St:=List (Option V)
abbrev VK:=V->Hp->Prop
abbrev TE:=St->Hp->VK->Prop
abbrev TT:=St->Hp->(Bool->Hp->Prop)->Prop
abbrev TA:=St->Hp->(List V->Hp->Prop)->Prop
structure Ends where
 nx:St->Hp->Prop
 rt:VK
 bk:St->Hp->Prop:=λ_ _=>False
 ct:St->Hp->Prop:=λ_ _=>False
abbrev TS:=Ends->St->Hp->Prop
def EP(X:Cx)(pins:List (Addr×Obj))(σ:St)(Q:VK)(u:Value)(s':Shared):Prop:=∃v H',Inv X pins σ H' s'/\RelV v u/\Q v H'
def TP(X:Cx)(pins:List (Addr×Obj))(σ:St)(Q:Bool->Hp->Prop)(b:Bool)(s':Shared):Prop:=∃H',Inv X pins σ H' s'/\Q b H'
def AP(X:Cx)(pins:List (Addr×Obj))(σ:St)(Q:List V->Hp->Prop)(us:List Value)(s':Shared):Prop:=∃vs H',Inv X pins σ H' s'/\Vals vs us/\Q vs H'
def SP(X:Cx)(pins:List (Addr×Obj))(D:Ends)(f:Flow)(s':Shared):Prop :=
 match f with
 | .next=>∃σ' H',Inv X pins σ' H' s'/\D.nx σ' H'
 | .brk=>∃σ' H',Inv X pins σ' H' s'/\D.bk σ' H'
 | .cont=>∃σ' H',Inv X pins σ' H' s'/\D.ct σ' H'
 | .ret u=>∃v σ' H',Inv X pins σ' H' s'/\RelV v u/\D.rt v H'
def PE(X:Cx)(e:Expr)(t:TE):Prop :=
 ∀(pins:List (Addr×Obj)) (s:Shared) (σ:St) (H:Hp) (Q:VK),Inv X pins σ H s->t σ H Q->wpAny (model X.prog X.w) X.A (eval e X.env) (EP X pins σ Q) X.xe s
def PT(X:Cx)(e:Expr)(t:TT):Prop :=
 ∀(pins:List (Addr×Obj)) (s:Shared) (σ:St) (H:Hp) (Q:Bool->Hp->Prop),Inv X pins σ H s->t σ H Q->wpAny (model X.prog X.w) X.A (isTrue e X.env (eval e X.env)) (TP X pins σ Q) X.xe s
def PW(X:Cx)(e:Expr)(t:TT):Prop :=
 ∀(whole:Sem Value) (pins:List (Addr×Obj)) (s:Shared) (σ:St) (H:Hp) (Q:Bool->Hp->Prop),Inv X pins σ H s->t σ H Q->wpAny (model X.prog X.w) X.A (isTrue e X.env whole) (TP X pins σ Q) X.xe s
theorem PW.pt{X:Cx}{e:Expr}{t:TT}(h:PW X e t):PT X e t:=h _
def PA(X:Cx)(es:List Expr)(t:TA):Prop :=
 ∀(pos:Pos) (pins:List (Addr×Obj)) (s:Shared) (σ:St) (H:Hp) (Q:List V->Hp->Prop),Inv X pins σ H s->t σ H Q->wpAny (model X.prog X.w) X.A (spliced (backTo pos (starEach es X.env))) (AP X pins σ Q) X.xe s
def PS(X:Cx)(st:Stmt)(t:TS):Prop :=
 ∀(pins:List (Addr×Obj)) (s:Shared) (σ:St) (H:Hp) (D:Ends),Inv X pins σ H s->t D σ H->wpAny (model X.prog X.w) X.A (exec st X.env) (SP X pins D) X.xe s
def PSs(X:Cx)(st:List Stmt)(t:TS):Prop :=
 ∀(pins:List (Addr×Obj)) (s:Shared) (σ:St) (H:Hp) (D:Ends),Inv X pins σ H s->t D σ H->wpAny (model X.prog X.w) X.A (execs st X.env) (SP X pins D) X.xe s
theorem thn{α:Type}{t:Sem α}{Q Q':α->Shared->Prop}{M:Model}{A:Around}{E:Value->Shared->Prop}{s:Shared}(h:wpAny M A t Q E s)(hQ:∀a s,Q a s->Q' a s):wpAny M A t Q' E s:=wpAny_mono h hQ λ_ _ x=>x
section
variable {X:Cx}
inductive XV (i:Nat) (σ:St) (H:Hp) (Q:VK):Prop|mk v:σ[i]?=some (some v)->Q v H->XV i σ H Q
def qt(i:Nat):TE:=fun σ H Q=>XV i σ H Q
def tC(v:V):TE:=λ_ H Q=>Q v H
theorem qR{i:Nat}{x:Str}{pos:Pos}(q:X.N[i]?=some x)(w:Vis X.env.scope x)(f:(x==("__debug__":Str))=false:=by decide)(g:(x==("__classdict__":Str))=false:=by decide):PE X (.Name x pos) (qt i):=by
 intro d s σ H Q I h
 obtain ⟨v,e,h⟩:=h
 obtain ⟨m,j,o⟩:=I.loc
 obtain ⟨u,r,l⟩:=o i x v q e w
 have b:EP X d σ Q u s:=⟨v,H,I,r,h⟩
 rcases l with ⟨hk,hm⟩ | ⟨hk,c,hc,hcell⟩
 ·exact wpAny_Name (wpAny_loadName_local I.ok.kind hk j hm b) f
 ·rcases hk with hk | hk
  ·exact wpAny_Name (wpAny_loadName_cell I.ok.kind hk hc hcell b) f
  ·exact wpAny_Name (wpAny_loadName_free I.ok.kind hk hc hcell b g) f
theorem aj{i j pos}:PE X (.Constant (.int i) j pos) (tC (.int i)):=λ_ _ _ H _ I h=>wpAny_Constant_int ⟨.int i,H,I.tok _,⟨_,ϱ⟩,h⟩
theorem lR{b j pos}:PE X (.Constant (.bool b) j pos) (tC (.bl b)):=λ_ _ _ H _ I h=>Constant_bool ⟨.bl b,H,I,ϱ,h⟩
theorem cj{j pos}:PE X (.Constant .none j pos) (tC .non):=λ_ _ _ H _ I h=>Constant_none ⟨.non,H,I,ϱ,h⟩
theorem aC{x j pos}:PE X (.Constant (.str x) j pos) (tC (.str x)):=λ_ _ _ H _ I h=>Calls.Constant_str ⟨.str x,H,I.tok _,⟨_,ϱ⟩,h⟩
def Gl(X:Cx)(x:Str):Prop:=X.env.kindOf x=some .globalImplicit
theorem jc{E:Value->Shared->Prop}{pins:List (Addr×Obj)}{s:Shared}{σ:St}{H:Hp}{x:Str}{u:Value}{pos:Pos}{Q:Value->Shared->Prop}(I:Inv X pins σ H s)(hg:Gl X x)(hm:X.mg x=some u)(h:Q u s)
  (hd:(x==("__debug__":Str))=false:=by decide):wpAny (model X.prog X.w) X.A (eval (.Name x pos) X.env) Q E s :=
 Calls.Name_function_global I.ok.kind hg (Calls.loadGlobal_global (by rw [I.ok.glob];exact I.mod.glob.keeps I.bk) hm h) hd
theorem l0{E:Value->Shared->Prop}{b:List (Addr×Obj)}{s:Shared}{σ:St}{H:Hp}{x:Str}{u:Value}{pos:Pos}{Q:Value->Shared->Prop}(I:Inv X b σ H s)(e:Gl X x)(f:X.mg x=none)(g:bootBuiltins x=some u)(h:Q u s)
  (i:x≠"__name__":=by decide)(j:(x==("__debug__":Str))=false:=by decide):wpAny (model X.prog X.w) X.A (eval (.Name x pos) X.env) Q E s:=by
 obtain ⟨l,h1,d⟩:=I.mod.blt
 exact Calls.Name_function_global I.ok.kind e (Calls.loadGlobal_builtin (by rw [I.ok.glob];exact I.mod.glob.keeps I.bk) f (by rw [I.ok.blt];exact h1.keeps I.bk) ((d x i).trans g) h) j
theorem fU{x:Str}{v:V}{u:Value}{pos:Pos}(hg:Gl X x)(hm:X.mg x=some u)(r:RelV v u)(hd:(x==("__debug__":Str))=false:=by decide):PE X (.Name x pos) (tC v) :=
 λ_ _ _ H _ I h=>jc I hg hm ⟨v,H,I,r,h⟩ hd
theorem rZ{x:Str}{v:V}{u:Value}{pos:Pos}(hg:Gl X x)(hm:X.mg x=none)(hv:bootBuiltins x=some u)(r:RelV v u)(hn:x≠"__name__":=by decide)(hd:(x==("__debug__":Str))=false:=by decide):PE X (.Name x pos) (tC v) :=
 λ_ _ _ H _ I h=>l0 I hg hm hv ⟨v,H,I,r,h⟩ hn hd
variable {a b:Expr}{ta tb:TE}{pos:Pos}
def PC(X:Cx)(op:CmpOp)(a b:Expr)(t:TE):Prop :=
 ∀(pins:List (Addr×Obj)) (s:Shared) (σ:St) (H:Hp) (Q:VK),Inv X pins σ H s->t σ H Q ->
  wpAny (model X.prog X.w) X.A (eval a X.env) (λv s₁=>wpAny (model X.prog X.w) X.A (eval b X.env) (λu s₂=>wpAny (model X.prog X.w) X.A (compareOp op v u) (EP X pins σ Q) X.xe s₂) X.xe s₁) X.xe s
inductive XB (Q:Bool->Hp->Prop) (x:V) (H:Hp):Prop|mk c:x=.bl c->Q c H->XB Q x H
def tB(t:TE):TT:=fun σ H Q=>t σ H λx H1=>XB Q x H1
theorem lM{f:CmpOp}{t:TE}(h:PC X f a b t)(h1:behindInMarks f b=false:=by first | exact nobehind _ ζ ζ | rfl):PT X (.Compare a [f] [b] pos) (tB t):=by
 intro e s σ H Q I l
 refine wpAny_isTrue_Compare1 (thn (h e s σ H _ I l) λv m h1=>thn h1 λu o g=>thn g λc r ⟨x,H1,i,j,q1⟩=>?_) h1
 obtain ⟨d,rfl,q⟩:=q1
 cases j
 exact wpAny_truthy_bool ⟨H1,i,q⟩
theorem ci{e:Expr}{t:TE}(h:PE X e t)(j:∀whole,isTrue e X.env whole=(do let v ← whole;standAt e.pos;holding [v] (truthy v)):=by intro _;rfl):PT X e (tB t):=by
 intro b s σ H Q I i
 refine isTrue_plain (thn (h b s σ H _ I i) λv l ⟨x,H1,f,g,q1⟩=>?_) (j _)
 obtain ⟨d,rfl,q⟩:=q1
 cases g
 exact wpAny_truthy_bool ⟨H1,f,q⟩
variable {tA tB':TT}{rest:List Expr}
def Bu(t u:TT):TT:=fun σ H Q=>t σ H λc H1=>if c=true then u σ H1 Q else Q false H1
def tOr(t u:TT):TT:=fun σ H Q=>t σ H λc H1=>if c=true then Q true H1 else u σ H1 Q
def Cd(t:TT):TT:=fun σ H Q=>t σ H λc H1=>Q (!c) H1
theorem fR(d:PT X a tA):PW X (.BoolOp .And [a] pos) tA:=by
 intro g b s σ H Q I h
 refine isTrue_and (thn (d b s σ H Q I h) λc f e=>?_)
 cases c with
 | true=>exact isTrue_and_nil e
 | false=>exact e
theorem lJ(d:PT X a tA):PW X (.BoolOp .Or [a] pos) tA:=by
 intro g b s σ H Q I h
 refine isTrue_or (thn (d b s σ H Q I h) λc f e=>?_)
 cases c with
 | false=>exact isTrue_or_nil e
 | true=>exact e
theorem dD(i:PT X a tA)(j:PW X (.BoolOp .And (b::rest) pos) tB'):PW X (.BoolOp .And (a::b::rest) pos) (Bu tA tB'):=by
 intro g d s σ H Q I h
 refine isTrue_and (thn (i d s σ H _ I h) λc f ⟨H1,e,q1⟩=>?_)
 cases c with
 | true=>exact j g d f σ H1 Q e q1
 | false=>exact ⟨H1,e,q1⟩
theorem pK(i:PT X a tA)(j:PW X (.BoolOp .Or (b::rest) pos) tB'):PW X (.BoolOp .Or (a::b::rest) pos) (tOr tA tB'):=by
 intro g d s σ H Q I h
 refine isTrue_or (thn (i d s σ H _ I h) λc f ⟨H1,e,q1⟩=>?_)
 cases c with
 | true=>exact ⟨H1,e,q1⟩
 | false=>exact j g d f σ H1 Q e q1
theorem iF(d:PT X a tA):PT X (.UnaryOp .Not a pos) (Cd tA):=by
 intro b s σ H Q I h
 exact isTrue_not (d b s σ H (λc H1=>Q (!c) H1) I h)
inductive XIf (x:V) (P R:Prop):Prop|mk c:x=.bl c->(if c=true then P else R)->XIf x P R
def Bt(ta tb:TE):TE:=fun σ H Q=>ta σ H λx H1=>XIf x (tb σ H1 Q) (Q (.bl false) H1)
def Cc(ta tb:TE):TE:=fun σ H Q=>ta σ H λx H1=>XIf x (Q (.bl true) H1) (tb σ H1 Q)
def Bj(ta:TE):TE:=fun σ H Q=>ta σ H λx H1=>∃c,x=.bl c/\Q (.bl (!c)) H1
theorem eE{op}{t:TE}(h:PE X a t):PE X (.BoolOp op [a] pos) t:=λpins s σ H Q I hw=>BoolOp_one (h pins s σ H Q I hw)
theorem fV(i:PE X a ta)(j:PE X (.BoolOp .And (b::rest) pos) tb):PE X (.BoolOp .And (a::b::rest) pos) (Bt ta tb):=by
 intro d s σ H Q I h
 refine BoolOp_and (thn (i d s σ H _ I h) λv f ⟨x,H1,e,g,q1⟩=>?_)
 obtain ⟨c,rfl,q1⟩:=q1
 cases g
 refine wpAny_truthy_bool ?_
 cases c with
 | true=>exact j d f σ H1 Q e q1
 | false=>exact ⟨.bl false,H1,e,rfl,q1⟩
theorem vb(i:PE X a ta)(j:PE X (.BoolOp .Or (b::rest) pos) tb):PE X (.BoolOp .Or (a::b::rest) pos) (Cc ta tb):=by
 intro d s σ H Q I h
 refine BoolOp_or (thn (i d s σ H _ I h) λv f ⟨x,H1,e,g,q1⟩=>?_)
 obtain ⟨c,rfl,q1⟩:=q1
 cases g
 refine wpAny_truthy_bool ?_
 cases c with
 | false=>exact j d f σ H1 Q e q1
 | true=>exact ⟨.bl true,H1,e,rfl,q1⟩
theorem z4(f:PE X a ta):PE X (.UnaryOp .Not a pos) (Bj ta):=by
 intro b s σ H Q I h
 refine UnaryOp_ (thn (f b s σ H _ I h) λv g ⟨x,H1,d,e,q1⟩=>?_)
 obtain ⟨c,rfl,q1⟩:=q1
 cases e
 exact not_of (wpAny_truthy_bool ⟨.bl (!c),H1,d,ϱ,q1⟩)
def tIf(t:TT)(ta tb:TE):TE:=fun σ H Q=>t σ H λc H1=>if c=true then ta σ H1 Q else tb σ H1 Q
theorem pN{c:Expr}(i:PT X c tA)(j:PE X a ta)(l:PE X b tb):PE X (.IfExp c a b pos) (tIf tA ta tb):=by
 intro e s σ H Q I h
 refine wpAny_IfExp (thn (i e s σ H _ I h) λd f ⟨H1,g,q1⟩=>?_)
 cases d with
 | true=>exact j e f σ H1 Q g q1
 | false=>exact l e f σ H1 Q g q1
end
def SqL(K:Frag)(H:Hp)(a:Addr)(xs:List V):Prop :=
 Rd H a (.lst xs) \/
  ∃(o:Obj) (its:Array Value) (n:Nat),K.lookup a=some o/\o.cls=.type "list"/\o.dict=none/\o.data=.seq its n/\its.size<=sizeLine/\Vals xs its.toList
def SqT(K:Frag)(H:Hp)(a:Addr)(xs:List V):Prop :=
 Rd H a (.tup xs) \/
  ∃(o:Obj) (its:Array Value) (n:Nat),K.lookup a=some o/\o.cls=.type "tuple"/\o.data=.seq its n/\its.size<=sizeLine/\Vals xs its.toList
def Cy:Value->Option V
 | .none=>some .non
 | .bool b=>some (.bl b)
 | .int i _=>some (.int i)
 | .str x _=>some (.str x)
 | .bytes b _=>some (.byt b)
 | .float b _=>some (.flt b)
 | .ref a=>some (.ref a)
 | .type n=>some (.ty n)
 | _=>none
theorem RelV.abs{x:V}{u:Value}(r:RelV x u):Cy u=some x:=by
 cases x with
 | non=>cases r;rfl
 | bl _=>cases r;rfl
 | int _=>obtain ⟨t,rfl⟩:=r;rfl
 | str _=>obtain ⟨t,rfl⟩:=r;rfl
 | byt _=>obtain ⟨t,rfl⟩:=r;rfl
 | flt _=>obtain ⟨t,rfl⟩:=r;rfl
 | ref _=>cases r;rfl
 | ty _=>cases r;rfl
theorem RelV.inj{x y:V}{u:Value}(r:RelV x u)(q:RelV y u):x=y:=Δ (r.abs.symm.trans q.abs)
theorem Vals.inj:∀{xs ys:List V} {us:List Value},Vals xs us->Vals ys us->xs=ys
 | _,_,_,.nil,.nil=>rfl
 | _,_,_,.cons r t,.cons r' t'=>by rw [r.inj r',Vals.inj t t']
section
variable {X:Cx}{pins:List (Addr×Obj)}{σ:St}{H:Hp}{s:Shared}{a:Addr}{xs ys:List V}
theorem SqL.of{K:Frag}(h:H a=some (.lst xs)):SqL K H a xs:=.inl (.inl h)
theorem SqT.of{K:Frag}(h:H a=some (.tup xs)):SqT K H a xs:=.inl (.inl h)
theorem Inv.list(I:Inv X pins σ H s)(h:SqL X.K H a xs):∃its:List Value,Vals xs its/\PlainL s.heap a its.toArray/\xs.length<=sizeLine:=by
 rcases h with h | ⟨o,its,n,hk,hc,hd,hs,hz,r⟩
 ·obtain ⟨z,its,n,r,e⟩:=h.ok I.hok
  exact ⟨its,r,⟨_,n,e,ϱ,ϱ,ϱ⟩,z⟩
 ·refine ⟨its.toList,r,⟨o,n,I.kIn a o hk,hc,hd,by simpa using hs⟩,?_⟩
  have e:=r.length
  simp only [Array.length_toList] at e
  omega
theorem Inv.tuple(I:Inv X pins σ H s)(h:SqT X.K H a xs):∃its:List Value,Vals xs its/\IsTup s.heap a its.toArray/\xs.length<=sizeLine:=by
 rcases h with h | ⟨o,its,n,hk,hc,hs,hz,r⟩
 ·obtain ⟨z,its,r,p⟩:=h.ok I.hok
  exact ⟨its,r,p,z⟩
 ·refine ⟨its.toList,r,⟨o,I.kIn a o hk,hc,n,by simpa using hs⟩,?_⟩
  have e:=r.length
  simp only [Array.length_toList] at e
  omega
theorem Inv.list_inj(I:Inv X pins σ H s)(h:SqL X.K H a xs)(h':SqL X.K H a ys):xs=ys:=by
 obtain ⟨f,r,⟨o,n,e,_,_,d⟩,_⟩:=I.list h
 obtain ⟨b,j,⟨l,m,g,_,_,i⟩,_⟩:=I.list h'
 rw [e] at g;cases g
 rw [d] at i
 injection i with d1 _
 have:f=b:=by simpa using congrArg Array.toList d1
 subst this
 exact r.inj j
theorem Inv.tuple_inj(I:Inv X pins σ H s)(h:SqT X.K H a xs)(h':SqT X.K H a ys):xs=ys:=by
 obtain ⟨f,r,⟨o,e,_,n,d⟩,_⟩:=I.tuple h
 obtain ⟨b,j,⟨l,g,_,m,i⟩,_⟩:=I.tuple h'
 rw [e] at g;cases g
 rw [d] at i
 injection i with d1 _
 have:f=b:=by simpa using congrArg Array.toList d1
 subst this
 exact r.inj j
end
abbrev Cx.wish(X:Cx)(E:Value->Shared->Prop):Cx:={X with xe:=E}
abbrev Cx.nox(X:Cx):Cx:=X.wish λ_ _=>False
theorem Cx.Ok.wish{X:Cx}(ok:X.Ok)(E:Value->Shared->Prop):(X.wish E).Ok :=
 ⟨ok.mod,ok.kind,ok.glob,ok.blt,ok.above,ok.inj,ok.has,ok.cab,ok.hd,ok.frames,ok.stk,ok.exf,ok.bs,ok.bsz,ok.noex,ok.exfs,ok.funs,ok.frf⟩
theorem Cx.Ok.unwish{X:Cx}{E:Value->Shared->Prop}(ok:(X.wish E).Ok):X.Ok :=
 ⟨ok.mod,ok.kind,ok.glob,ok.blt,ok.above,ok.inj,ok.has,ok.cab,ok.hd,ok.frames,ok.stk,ok.exf,ok.bs,ok.bsz,ok.noex,ok.exfs,ok.funs,ok.frf⟩
section
variable {X:Cx}{pins:List (Addr×Obj)}{σ:St}{H:Hp}{s:Shared}{E:Value->Shared->Prop}
theorem Inv.wish(I:Inv X pins σ H s)(E:Value->Shared->Prop):Inv (X.wish E) pins σ H s:=⟨I.ok.wish E,I.os,I.bare,I.base,I.loc,I.cell,I.free,I.freeC,I.pin,I.hok,I.len⟩
theorem Inv.unwish(I:Inv (X.wish E) pins σ H s):Inv X pins σ H s:=⟨I.ok.unwish,I.os,I.bare,I.base,I.loc,I.cell,I.free,I.freeC,I.pin,I.hok,I.len⟩
theorem SP.unwish{D:Ends}{f:Flow}{s':Shared}(h:SP (X.wish E) pins D f s'):SP X pins D f s':=by
 cases f with
 | next=>obtain ⟨b,d,I,q⟩:=h;exact ⟨b,d,I.unwish,q⟩
 | brk=>obtain ⟨b,d,I,q⟩:=h;exact ⟨b,d,I.unwish,q⟩
 | cont=>obtain ⟨b,d,I,q⟩:=h;exact ⟨b,d,I.unwish,q⟩
 | ret u=>obtain ⟨v,b,d,I,r,q⟩:=h;exact ⟨v,b,d,I.unwish,r,q⟩
theorem PSs.nox{st:List Stmt}{t:TS}(h:PSs X.nox st t):PSs X st t:=λpins s σ H D I hw =>
 wpAny_mono (h pins s σ H D (I.wish _) hw) (λ_ _ q=>q.unwish) λ_ _ z=>False.elim z
end
section
variable {X:Cx}{st:Stmt}{rest:List Stmt}{t u:TS}{e:Expr}{te:TE}{pos:Pos}
def Bk:TS:=λD σ H=>D.nx σ H
def Bf(t u:TS):TS:=λD σ H=>t {D with nx:=u D} σ H
theorem aA:PSs X [] Bk:=λ_ _ σ H _ I h=>wpAny_execs_nil ⟨σ,H,I,h⟩
theorem af(h1:PS X st t)(j:PSs X rest u):PSs X (st::rest) (Bf t u):=by
 intro b s σ H D I h
 refine wpAny_execs_cons (thn (h1 b s σ H {D with nx:=u D} I h) λf i q=>?_)
 cases f with
 | next =>
  obtain ⟨d,e,g,q⟩:=q
  exact j b i d e D g q
 | ret v=>exact q
 | brk=>exact q
 | cont=>exact q
theorem ai(h1:PS X st t):PSs X [st] t:=by
 intro b s σ H D I h
 refine wpAny_execs_cons (thn (h1 b s σ H D I h) λf d q=>?_)
 cases f with
 | next=>exact wpAny_execs_nil q
 | ret v=>exact q
 | brk=>exact q
 | cont=>exact q
theorem Inv.quiet{pins:List (Addr×Obj)}{σ:St}{H:Hp}{s:Shared}(I:Inv X pins σ H s):interactive X.env=false:=by simp [interactive,I.ok.kind]
def Bn(te:TE):TS:=λD σ H=>te σ H λ_ H1=>D.nx σ H1
theorem aQ(f:PE X e te)(g:swapsWith e none pos.line X.env=pure false:=by rfl):PS X (.Expr e pos) (Bn te):=by
 intro b s σ H D I h
 exact wpAny_Expr_any (thn (f b s σ H _ I h) λv i ⟨x,H1,d,j,q1⟩=>⟨σ,H1,d,q1⟩) I.quiet g
def Cb(te:TE):TS:=λD σ H=>te σ H D.rt
theorem aw(g:PE X e te):PS X (.Return (some e) pos) (Cb te):=by
 intro b s σ H D I h
 exact wpAny_Return_some (thn (g b s σ H _ I h) λv i ⟨x,H1,d,f,q1⟩=>⟨x,σ,H1,d,f,q1⟩)
def Bg:TS:=λD _ H=>D.rt .non H
theorem oO:PS X (.Return none pos) Bg:=λ_ _ σ H _ I h=>wpAny_Return_none ⟨.non,σ,H,I,ϱ,h⟩
def zt(c:TT)(t u:TS):TS:=λD σ H=>c σ H λb H1=>if b=true then t D σ H1 else u D σ H1
theorem aH{c:Expr}{a b:List Stmt}{tc:TT}(i:PT X c tc)(j:PSs X a t)(l:PSs X b u):PS X (.If c a b pos) (zt tc t u):=by
 intro e s σ H D I h
 refine wpAny_If (thn (i e s σ H _ I h) λd f ⟨H1,g,q1⟩=>?_)
 cases d with
 | true=>exact j e f σ H1 D g q1
 | false=>exact l e f σ H1 D g q1
def zp:TS:=λ_ _ _=>False
theorem aE{sts:List Stmt}:PSs X sts zp:=λ_ _ _ _ _ _ h=>h.elim
end
abbrev TG:=V->St->Hp->(St->Hp->Prop)->Prop
abbrev TGs:=List V->St->Hp->(St->Hp->Prop)->Prop
def PG(X:Cx)(target:Expr)(t:TG):Prop :=
 ∀(pins:List (Addr×Obj)) (s:Shared) (σ:St) (H:Hp) (v:V) (u:Value) (Q:St->Hp->Prop),Inv X pins σ H s->RelV v u->t v σ H Q ->
  wpAny (model X.prog X.w) X.A (assign target X.env u) (λ_ s'=>∃σ' H',Inv X pins σ' H' s'/\Q σ' H') X.xe s
def PGs(X:Cx)(ts:List Expr)(t:TGs):Prop :=
 ∀(pins:List (Addr×Obj)) (s:Shared) (σ:St) (H:Hp) (vs:List V) (us:List Value) (Q:St->Hp->Prop),Inv X pins σ H s->Vals vs us->t vs σ H Q ->
  wpAny (model X.prog X.w) X.A (assignInOrder ((assignEach ts X.env).map (·.2)) us) (λ_ s'=>∃σ' H',Inv X pins σ' H' s'/\Q σ' H') X.xe s
abbrev A3:=V->V->V->Hp->(Hp->Prop)->Prop
def B6(X:Cx)(t:A3):Prop :=
 ∀(pins:List (Addr×Obj)) (s:Shared) (σ:St) (H:Hp) (o i v:V) (ov iv u:Value) (Q:Hp->Prop),Inv X pins σ H s->RelV o ov->RelV i iv->RelV v u->t o i v H Q ->
  wpAny (model X.prog X.w) X.A (setItem ov iv u) (λ_ s'=>∃H',Inv X pins σ H' s'/\Q H') X.xe s
section
variable {X:Cx}{pos:Pos}
def wv(i:Nat):TG:=λv σ H Q=>Q (σ.set i (some v)) H
theorem cB{i:Nat}{x:Str}(e:X.N.Nodup)(f:X.N[i]?=some x)(g:Loc X.env.scope x)(hf:X.fn x=true\/X.env.scope.names.lookup x=some .local:=by first | exact .inl rfl | exact .inr rfl | assumption):PG X (.Name x pos) (wv i):=by
 intro b s σ H v u Q I r h
 exact wpAny_assign_Name (lg I e f g r (λj d=>⟨_,H,d,h⟩) hf)
def Ct:TGs:=λvs σ H Q=>vs=[]/\Q σ H
inductive XGC (t:TG) (u:TGs) (vs:List V) (σ:St) (H:Hp) (Q:St->Hp->Prop):Prop|mk v r:vs=v::r->(t v σ H fun σ' H'=>u r σ' H' Q)->XGC t u vs σ H Q
def B2(t:TG)(u:TGs):TGs:=λvs σ H Q=>XGC t u vs σ H Q
theorem xz:PGs X [] Ct:=by
 intro b s σ H vs d Q I r h
 obtain ⟨e,h⟩:=h
 subst e
 cases r
 exact assignInOrder_nil ⟨σ,H,I,h⟩
theorem lO{e:Expr}{es:List Expr}{t:TG}{u:TGs}(h1:PG X e t)(j:PGs X es u)
  (l:(assignEach (e::es) X.env).map (·.2)=assign e X.env::(assignEach es X.env).map (·.2):=by rfl):PGs X (e::es) (B2 t u):=by
 intro b s σ H vs m Q I r h
 obtain ⟨v,vr,d,h⟩:=h
 subst d
 cases r with
 | cons r rr =>
  rw [l]
  refine assignInOrder_cons (thn (h1 b s σ H _ _ _ I r h) λ_ f ⟨g,H1,i,q1⟩=>?_)
  exact j b f g H1 _ _ Q i rr q1
inductive XGT (K:Frag) (n:Nat) (t:TGs) (v:V) (σ:St) (H:Hp) (Q:St->Hp->Prop):Prop|mk a xs:v=.ref a->SqT K H a xs->xs.length=n->t xs σ H Q->XGT K n t v σ H Q
def Cq(K:Frag)(n:Nat)(t:TGs):TG:=λv σ H Q=>XGT K n t v σ H Q
theorem zY{es:List Expr}{k:Nat}{t:TGs}{n:Nat}(D:X.calm=true)(h:PGs X es t)
  (F:(assignEach es X.env).length=n:=by rfl)(g:(assignEach es X.env).findIdx? (·.1)=none:=by rfl):PG X (.Tuple es k pos) (Cq X.K n t):=by
 intro d s σ H v u Q I r f
 obtain ⟨a,j,l,m,q,f⟩:=f
 subst l
 cases r
 obtain ⟨w,i,x,G⟩:=I.tuple m
 refine assign_Tuple_tuple (I.ok.hd D) x (by simp [F,← q,i.length]) g λz C=>?_
 have y:Inv X d σ H {s with heap:=z}:=I.kept (t':=s.toks) λb o e=>C b o (Φ (η e)) e
 exact h d _ σ H j _ Q y (by simpa using i) f
def Cr(to ti:TE)(t:A3):TG:=λv σ H Q=>to σ H λo H1=>ti σ H1 λi H2=>t o i v H2 λH3=>Q σ H3
theorem va{o i:Expr}{d e:TE}{t:A3}(D:PE X o d)(F:PE X i e)(G:B6 X t)
  (J:∀v,assign (.Subscript o i pos) X.env v=(do
   let ov ← holding [v] (eval o X.env)
   let iv ← holding [v,ov] (eval i X.env)
   standAt pos
   holding [v,ov,iv] (setItem ov iv v)
   release [v,ov,iv] []):=by intro _;rfl):PG X (.Subscript o i pos) (Cr d e t):=by
 intro b s σ H v u Q I r h
 rw [J]
 refine ε (wpAny_holding (thn (D b s σ H _ I h) λov f ⟨x,H1,g,j,q1⟩=>?_))
 refine ε (wpAny_holding (thn (F b f σ H1 _ g q1) λiv l ⟨y,m,q,w,q2⟩=>?_))
 refine ε (wpAny_standAt (ε (wpAny_holding (thn (G b l σ m x y v ov iv u _ q j w r q2) λ_ K ⟨z,C,q3⟩=>?_))))
 exact wpAny_release ⟨σ,z,C,q3⟩
def Bs(te:TE)(g:TG):TS:=λD σ H=>te σ H λx H1=>g x σ H1 D.nx
theorem qQ{d e:Expr}{f:TE}{g:TG}(m:PE X e f)(o:PG X d g)(r:swapsWithSole [d] e pos.line X.env=pure false:=by rfl)(hw:swappedStores [d] e X.env=pure none:=by rfl)
  (h1:(assignEach [d] X.env).map (·.2)=[assign d X.env]:=by rfl):PS X (.Assign [d] e pos) (Bs f g):=by
 intro b s σ H D I h
 refine wpAny_Assign_stores (thn (m b s σ H _ I h) λv i ⟨x,H1,j,l,q1⟩=>?_) r hw
 rw [h1]
 exact thn (o b i σ H1 x v _ j l q1) λ_ u q=>q
theorem aB{i:Nat}{x:Str}{e:Expr}{f:TE}{b:Pos}(m:X.N.Nodup)(o:X.N[i]?=some x)(q:Loc X.env.scope x)(r:PE X e f)(u:swapsWith e (some (.Name x b)) pos.line X.env=pure false:=by rfl)(hf:X.fn x=true\/X.env.scope.names.lookup x=some .local:=by first | exact .inl rfl | exact .inr rfl | assumption) :
  PS X (.Assign [.Name x b] e pos) (Bs f (wv i)):=by
 intro d s σ H D I h
 refine wpAny_Assign_Name (thn (r d s σ H _ I h) λv w ⟨y,H1,g,j,q1⟩=>?_) u
 exact lg g m o q j (λz l=>⟨_,H1,l,q1⟩) hf
end
section
variable {X:Cx}{pos:Pos}
def zo(c:TT)(tb:TS):TS:=λD σ H=>∃W:Nat->St->Hp->Prop,(∃m,W m σ H)/\∀m σ H,W m σ H ->
 c σ H λb H1=>if b=true then ∃N:St->Hp->Prop,(∀σ' H',N σ' H'->∃m',m'<m/\W m' σ' H')/\tb {D with nx:=N,ct:=N,bk:=D.nx} σ H1 else D.nx σ H1
theorem u9{c:Expr}{body:List Stmt}{tc:TT}{tb:TS}(z:PassesOwn (model X.prog X.w) X.A X.env X.xe)(O:PT X c tc)(P:PSs X body tb):PS X (.While c body [] pos) (zo tc tb):=by
 intro d s σ H D I h
 obtain ⟨W,⟨m0,C⟩,e⟩:=h
 refine wpAny_While (codeAny_whileLoop (λn F=>∃σ' H',Inv X d σ' H' F/\W n σ' H') ?_ m0 ⟨σ,H,I,C⟩)
 rintro n J ⟨j,H1,K,L⟩
 refine wpAny_passesOwn z (thn (O d J j H1 _ K (e n j H1 L)) λb G ⟨x,y,q2⟩=>?_)
 cases b with
 | true =>
  obtain ⟨N,u,q2⟩:=q2
  rw [if_pos rfl]
  refine wpAny_passesOwn z (thn (P d G j x _ y q2) λf Q q3=>?_)
  cases f with
  | next =>
   obtain ⟨g,i,l,m⟩:=q3
   obtain ⟨o,q,r⟩:=u g i m
   exact ⟨o,q,g,i,l,r⟩
  | cont =>
   obtain ⟨g,i,l,m⟩:=q3
   obtain ⟨o,q,r⟩:=u g i m
   exact ⟨o,q,g,i,l,r⟩
  | brk=>exact q3
  | ret v=>exact q3
 | false =>
  rw [if_neg Bool.false_ne_true]
  exact wpAny_execs_nil ⟨j,x,y,q2⟩
end
structure It where
 go:Nat->Hp->Prop
 yld:Nat->Hp->V->Hp->Prop
 stop:Nat->Hp->Prop
def qo(X:Cx)(pins:List (Addr×Obj))(H:Hp)(b:Addr):Prop :=
 H b=none/\b≠X.env.locals/\b∉X.fs/\(b∈X.ex\/X.s₀.heap.objs.size<=b)/\(∀x c,X.env.cells.lookup x=some c->c≠b)/\∀p∈X.pn++pins,p.1≠b
theorem Inv.fpOk{X:Cx}{d:List (Addr×Obj)}{σ:St}{H g:Hp}{s:Shared}{b:Addr}(I:Inv X d σ H s)(f:s.heap.objs.size<=b)(i:g b=none):qo X d g b:=by
 refine ⟨i,Nat.ne_of_gt (Nat.lt_of_lt_of_le I.lt f),I.nofs f,.inr (Λ I.sz f),λx c e z=>?_,λp h z=>?_⟩
 ·obtain ⟨v,q⟩:=I.cell x c e
  exact absurd (Nat.lt_of_lt_of_le q.lt (by rw [z];exact f)) (Nat.lt_irrefl _)
 ·exact absurd (Nat.lt_of_lt_of_le (η (I.pin p h).1) (by rw [z];exact f)) (Nat.lt_irrefl _)
structure rE(P:Program)(w:World)(K:Frag)(tg:Expr)(J:It)(fp:List Addr)(it:Addr)(tn:Nat->Heap->Prop):Prop where
 mem:it∈fp
 obj:∀i h,tn i h->∀b∈fp,∃o,h.get? b=some o/\∀v,o.data≠.cell v
 keep:∀i h h',tn i h->(∀b∈fp,∀o,h.get? b=some o->h'.get? b=some o)->tn i h'
 item:∀(X:Cx),X.prog=P->X.w=w->X.K=K->X.calm=true->∀(i:Nat) (pins:List (Addr×Obj)) (s:Shared) (σ:St) (H:Hp) (E:Value->Shared->Prop),Inv X pins σ H s->(∀b∈fp,qo X pins H b)->tn i s.heap->J.go i H ->
  wpAny (model P w) X.A (pyNext (.ref it)) (λr s1=>∃u,r=some u /\
   wpAny (model P w) X.A (letOwnedTupleGo tg (.ref it) u) (λ_ s2=>∃x H',Inv X pins σ H' s2/\RelV x u/\J.yld i H x H'/\tn (i+1) s2.heap/\∀b∈fp,H' b=none) E s1) E s
 done:∀(X:Cx),X.prog=P->X.w=w->X.K=K->X.calm=true->∀(i:Nat) (pins:List (Addr×Obj)) (s:Shared) (σ:St) (H:Hp) (E:Value->Shared->Prop),Inv X pins σ H s->(∀b∈fp,qo X pins H b)->tn i s.heap->J.stop i H ->
  wpAny (model P w) X.A (pyNext (.ref it)) (λr s1=>r=none/\Inv X pins σ H s1) E s
 self:∀(A:Around) (i:Nat) (s:Shared) (Q:Value->Shared->Prop) (E:Value->Shared->Prop),tn i s.heap->Q (.ref it) s->wpAny (model P w) A (pyIter (.ref it)) Q E s
abbrev TI:=St->Hp->(It->Hp->Prop)->Prop
def PIE(X:Cx)(pins:List (Addr×Obj))(σ:St)(tg:Expr)(R:It->Hp->Prop)(itv:Value)(s2:Shared):Prop :=
 ∃(it:Addr) (fp:List Addr) (tn:Nat->Heap->Prop) (J:It) (H':Hp),itv=.ref it/\Inv X pins σ H' s2/\rE X.prog X.w X.K tg J fp it tn/\tn 0 s2.heap/\(∀b∈fp,qo X pins H' b)/\R J H'
def PI(X:Cx)(tg iter:Expr)(wi:TI):Prop :=
 ∀(pins:List (Addr×Obj)) (s:Shared) (σ:St) (H:Hp) (R:It->Hp->Prop),Inv X pins σ H s->wi σ H R ->
  wpAny (model X.prog X.w) X.A (eval iter X.env) (λv s1=>wpAny (model X.prog X.w) X.A (pyIter v) (PIE X pins σ tg R) X.xe s1) X.xe s
theorem ny{M:Model}{A:Around}{E:Value->Shared->Prop}{s:Shared}{d:Expr}{it:Addr}{u:Value}{o:Obj}{n:String}{vs:Array Value}{Q:Unit->Shared->Prop}(e:s.heap.get? it=some o)(f:o.cls=.type n)(g:o.data=.fields vs)
  (i:["enumerate","zip","dict_itemiterator","dict_reverseitemiterator","odict_iterator","itertools.zip_longest","itertools.pairwise"].contains n=false)(b:Q () s):wpAny M A (letOwnedTupleGo d (.ref it) u) Q E s:=by
 unfold letOwnedTupleGo
 cases d<;>first
  | exact π b
  | (cases u<;>first
    | exact π b
    | (refine ε (wpAny_load e ?_)
       rw [f,g]
       show wpAny M A (if (["enumerate","zip","dict_itemiterator","dict_reverseitemiterator","odict_iterator","itertools.zip_longest","itertools.pairwise"].contains n&&vs[0]?==some (rawInt _))=true then _ else _) Q E s
       rw [if_neg (by intro h;rw [i,Bool.false_and] at h;cases h)]
       exact π b))
def Itl(K:Frag)(a:Addr):It :=
 ⟨λi H=>∃xs x,SqL K H a xs/\xs[i]?=some x,λi H x H'=>H'=H/\∀xs,SqL K H a xs->xs[i]?=some x,λi H=>∃xs,SqL K H a xs/\xs.length<=i⟩
def Itt(K:Frag)(a:Addr):It :=
 ⟨λi H=>∃xs x,SqT K H a xs/\xs[i]?=some x,λi H x H'=>H'=H/\∀xs,SqT K H a xs->xs[i]?=some x,λi H=>∃xs,SqT K H a xs/\xs.length<=i⟩
def Itr(lo:Int)(n:Nat):It:=⟨λi _=>i<n,λi H x H'=>H'=H/\x=.int (lo+i),λi _=>n<=i⟩
theorem sL{P:Program}{w:World}{K:Frag}{tg:Expr}(a it:Addr):rE P w K tg (Itl K a) [it] it (λi h=>h.IsListIter it a i) where
 mem:=by simp
 obj:=λi h st b hb=>by
  have e:b=it:=by simpa using hb
  subst e
  obtain ⟨o,e,c,d⟩:=st
  exact ⟨o,e,λv z=>by rw [d] at z;cases z⟩
 keep:=λi h h' st k=>st.at λo e=>k it (by simp) o e
 item:=by
  intro X G J L Q i f s σ H E I hf st O
  subst G J L
  obtain ⟨U,x,j,l⟩:=O
  obtain ⟨m,q,p,W⟩:=I.list j
  obtain ⟨u,Y,Z⟩:=q.get l
  obtain ⟨r,y,f2,C,D,F⟩:=hf it (by simp)
  refine wpAny_pyNext_list_item st p.isList (x:=u) (by simpa using Y) λh' g sb=>?_
  have I1:Inv X f σ H {s with heap:=h'}:=I.turned (t':=s.toks) (λb o hb e=>(sb.2 b hb).trans e) r y C D F
  obtain ⟨o,e,c,d⟩:=id g
  exact ⟨u,ϱ,ny (s:={s with heap:=h'}) e c d ζ ⟨x,H,I1,Z,⟨ϱ,λys hy=>by rw [I.list_inj hy j];exact l⟩,g,λb hb=>(hf b hb).1⟩⟩
 done:=by
  intro X G J L Q i f s σ H E I hf st O
  subst G J L
  obtain ⟨U,j,l⟩:=O
  obtain ⟨m,q,p,W⟩:=I.list j
  obtain ⟨r,y,f2,C,D,F⟩:=hf it (by simp)
  have hl:=q.length
  exact wpAny_pyNext_list_end (I.ok.hd Q) st p.isList (by simp;omega) λh' eb=>⟨ϱ,I.turned (t':=s.toks) (λb o hb e=>eb b o hb e) r y C D F⟩
 self:=λ_ _ _ _ _ st h=>wpAny_pyIter_listiter st h
theorem qq{P:Program}{w:World}{K:Frag}{tg:Expr}(a it:Addr):rE P w K tg (Itt K a) [it] it (λi h=>h.IsTupleIter it a i) where
 mem:=by simp
 obj:=λi h st b hb=>by
  have e:b=it:=by simpa using hb
  subst e
  obtain ⟨o,e,c,d⟩:=st
  exact ⟨o,e,λv z=>by rw [d] at z;cases z⟩
 keep:=λi h h' st k=>st.at λo e=>k it (by simp) o e
 item:=by
  intro X G J L Q i f s σ H E I hf st O
  subst G J L
  obtain ⟨U,x,l,m⟩:=O
  obtain ⟨g,q,p,W⟩:=I.tuple l
  obtain ⟨u,Y,Z⟩:=q.get m
  obtain ⟨r,y,f2,C,D,F⟩:=hf it (by simp)
  refine wpAny_pyNext_tuple_item st (show s.heap.IsTuple a g.toArray from p) (x:=u) (by simpa using Y) λh' j sb=>?_
  have I1:Inv X f σ H {s with heap:=h'}:=I.turned (t':=s.toks) (λb o hb e=>(sb.2 b hb).trans e) r y C D F
  obtain ⟨o,e,c,d⟩:=id j
  exact ⟨u,ϱ,ny (s:={s with heap:=h'}) e c d ζ ⟨x,H,I1,Z,⟨ϱ,λys hy=>by rw [I.tuple_inj hy l];exact m⟩,j,λb hb=>(hf b hb).1⟩⟩
 done:=by
  intro X G J L Q i f s σ H E I hf st O
  subst G J L
  obtain ⟨U,l,m⟩:=O
  obtain ⟨g,q,p,W⟩:=I.tuple l
  obtain ⟨r,y,f2,C,D,F⟩:=hf it (by simp)
  have hl:=q.length
  exact wpAny_pyNext_tuple_end (I.ok.hd Q) st (show s.heap.IsTuple a g.toArray from p) (by simp;omega) λh' eb=>⟨ϱ,I.turned (t':=s.toks) (λb o hb e=>eb b o hb e) r y C D F⟩
 self:=λ_ _ _ _ _ st h=>wpAny_pyIter_tupleiter st h
theorem k7{P:Program}{w:World}{K:Frag}{Q:Expr}(it:Addr)(lo:Int)(n:Nat):rE P w K Q (Itr lo n) [it] it (λi h=>IsRangeIter h it (lo+(i:Nat)*1) ((n:Int)-(i:Nat)) 1) where
 mem:=by simp
 obj:=λi h st b hb=>by
  have e:b=it:=by simpa using hb
  subst e
  exact ⟨_,st,λv z=>by
   have z':Data.fields _=Data.cell v:=z
   cases z'⟩
 keep:=λi h h' st k=>k it (by simp) _ st
 item:=by
  intro X r u x y i d s σ H E I hf st C
  subst r u x
  obtain ⟨g,j,F,l,m,q⟩:=hf it (by simp)
  have W:=Walks.range (prog:=X.prog) (w:=X.w) (I.ok.hd y) it lo 1 n
  refine W.item i s _ _ C st λv h' D J f L=>?_
  obtain ⟨t,rfl⟩:=J
  have G:Inv X d σ H {s with heap:=h',toks:=D}:=I.turned (λb o hb e=>L b o (by simpa using hb) e) g j l m q
  refine ⟨_,ϱ,ny (s:={s with heap:=h',toks:=D}) (n:="range_iterator") f rfl rfl ζ ⟨.int (lo+i),H,G,⟨t,?_⟩,⟨ϱ,ϱ⟩,f,λb hb=>(hf b hb).1⟩⟩
  rw [Int.mul_one]
 done:=by
  intro X r u x y i d s σ H E I hf st C
  subst r u x
  obtain ⟨g,j,F,l,m,q⟩:=hf it (by simp)
  exact wpAny_pyNext_range_end (I.ok.hd y) st (by have:n<=i:=C;omega) λh' O=>⟨ϱ,I.turned (t':=s.toks) (λb o hb e=>O b o hb e) g j l m q⟩
 self:=λ_ _ _ _ _ st h=>wpAny_pyIter_rangeiter st h
section
variable {X:Cx}{tg:Expr}
inductive XIL (K:Frag) (R:It->Hp->Prop) (x:V) (H:Hp):Prop|mk a:x=.ref a->(∃xs,SqL K H a xs)->R (Itl K a) H->XIL K R x H
def B0(K:Frag)(tl:TE):TI:=fun σ H R=>tl σ H λx H1=>XIL K R x H1
inductive XIT (K:Frag) (R:It->Hp->Prop) (x:V) (H:Hp):Prop|mk a:x=.ref a->(∃xs,SqT K H a xs)->R (Itt K a) H->XIT K R x H
def Co(K:Frag)(tl:TE):TI:=fun σ H R=>tl σ H λx H1=>XIT K R x H1
theorem cH{l:Expr}{i:TE}(w:PE X l i):PI X tg l (B0 X.K i):=by
 intro d s σ H R I h
 refine thn (w d s σ H _ I h) λv f ⟨x,H1,g,r,q1⟩=>?_
 obtain ⟨a,e,⟨y,j⟩,q⟩:=q1
 subst e
 cases r
 obtain ⟨m,z,p,C⟩:=g.list j
 refine wpAny_pyIter_list p.isList ?_
 refine ⟨f.heap.objs.size,[f.heap.objs.size],_,_,H1,ϱ,g.kept (t':=f.toks) λb o e=>ρ _ e,sL a _,⟨_,ψ _ rfl,ϱ,ϱ⟩,λb u=>?_,q⟩
 have e:b=f.heap.objs.size:=by simpa using u
 subst e
 exact g.fpOk (ι _) (g.hok.fresh (ι _))
theorem zW{l:Expr}{j:TE}(w:PE X l j):PI X tg l (Co X.K j):=by
 intro f s σ H R I h
 refine thn (w f s σ H _ I h) λv d ⟨x,H1,g,r,q1⟩=>?_
 obtain ⟨a,e,⟨y,m⟩,q⟩:=q1
 subst e
 cases r
 obtain ⟨i,z,p,C⟩:=g.tuple m
 refine wpAny_pyIter_tuple (show d.heap.IsTuple a i.toArray from p) ?_
 refine ⟨d.heap.objs.size,[d.heap.objs.size],_,_,H1,ϱ,g.kept (t':=d.toks) λb o e=>ρ _ e,qq a _,⟨_,ψ _ rfl,ϱ,ϱ⟩,λb u=>?_,q⟩
 have e:b=d.heap.objs.size:=by simpa using u
 subst e
 exact g.fpOk (ι _) (g.hok.fresh (ι _))
theorem u8{f:List (Addr×Obj)}{σ:St}{H:Hp}{s:Shared}{R:It->Hp->Prop}{E:Value->Shared->Prop}{lo d:Int}{t u v:Tok}{h:Nat}(I:Inv X f σ H s)(h1:-(2 ^ 62)<=lo)(m:lo<2 ^ 62)(r:-(2 ^ 62)<=d)(x:d<2 ^ 62)
  (q:R (Itr lo (d-lo).toNat) H):wpAny (model X.prog X.w) X.A (pyIter (.ref s.heap.objs.size)) (PIE X f σ tg R) E {s with heap:=s.heap.push {cls:=.type "range",data:=.fields #[.int lo t,.int d u,.int 1 v]},toks:=h}:=by
 refine wpAny_pyIter_range (IsRange.new ..) (small_one h1 m r x) ?_
 have g:Inv X f σ H {s with heap:=s.heap.push {cls:=.type "range",data:=.fields #[.int lo t,.int d u,.int 1 v]},toks:=h}:=I.kept λb o e=>ρ _ e
 refine ⟨(s.heap.push {cls:=.type "range",data:=.fields #[.int lo t,.int d u,.int 1 v]}).objs.size,[(s.heap.push {cls:=.type "range",data:=.fields #[.int lo t,.int d u,.int 1 v]}).objs.size],_,_,H,ϱ,
  g.kept (t':=h) λb o e=>ρ _ e,k7 _ lo (d-lo).toNat,?_,λb l=>?_,q⟩
 ·have i:lo+((0:Nat):Int)*1=lo:=by simp
  have j:(((d-lo).toNat:Nat):Int)-((0:Nat):Int)=Builtin.Range.rangeSize lo d 1:=by rw [rangeSize_one];split<;>omega
  show IsRangeIter _ _ (lo+((0:Nat):Int)*1) ((((d-lo).toNat:Nat):Int)-((0:Nat):Int)) 1
  rw [i,j]
  exact ψ _ rfl
 ·have e:b=(s.heap.push {cls:=.type "range",data:=.fields #[.int lo t,.int d u,.int 1 v]}).objs.size:=by simpa using l
  subst e
  exact g.fpOk (ι _) (g.hok.fresh (ι _))
def BZ(ta:TA):TI:=fun σ H R=>ta σ H λvs H1=>∃j:Int,vs=[.int j]/\-(2 ^ 62)<=j/\j<2 ^ 62/\R (Itr 0 j.toNat) H1
theorem bR{a:Expr}{ta:TA}{p pos:Pos}(g:Gl X "range")(i:X.mg "range"=none)(l:PA X [a] ta)(m:starEach [a] X.env=[(false,eval a X.env)]:=by rfl):PI X tg (.Call (.Name "range" p) [a] [] pos) (BZ ta):=by
 intro b s σ H R I h
 refine Call_ (l0 I g i boot_range (PyProof.Rows.callWith_type1 (thn (l pos b s σ H _ I h) λo u ⟨vs,H1,d,f,q1⟩=>?_) m rfl))
 obtain ⟨j,e,q1,q2,q⟩:=q1
 subst e
 cases f with
 | cons r rr =>
  cases rr
  obtain ⟨t,rfl⟩:=r
  exact call_range_1 (u8 d ω ω q1 q2 (by simpa using q))
def Cf(wi:TI)(g:TG)(tb:TS):TS:=λD σ H=>wi σ H λJ H1=>∃W:Nat->Nat->St->Hp->Prop,(∃m,W 0 m σ H1)/\∀i m σ H,W i m σ H ->
 (J.stop i H/\D.nx σ H)\/(J.go i H/\∃N:St->Hp->Prop,(∀σ' H',N σ' H'->∃m',m'<m/\W (i+1) m' σ' H')/\∀x H',J.yld i H x H'->g x σ H' fun σ2 H2=>tb {D with nx:=N,ct:=N,bk:=D.nx} σ2 H2)
def lN(fp:List Addr)(h:Heap):List (Addr×Obj):=fp.filterMap λb=>(h.get? b).map λo=>(b,o)
theorem fX{fp:List Addr}{h:Heap}{b:Addr}{o:Obj}(hb:b∈fp)(e:h.get? b=some o):(b,o)∈lN fp h:=List.mem_filterMap.mpr ⟨b,hb,by rw [e];rfl⟩
theorem tG{d:List Addr}{h:Heap}{p:Addr×Obj}(i:p∈lN d h):p.1∈d/\h.get? p.1=some p.2:=by
 obtain ⟨b,f,e⟩:=List.mem_filterMap.mp i
 cases q:h.get? b with
 | none=>rw [q] at e;cases e
 | some o =>
  rw [q] at e
  have g:(b,o)=p:=Δ e
  subst g
  exact ⟨f,q⟩
theorem Inv.pinned{pins:List (Addr×Obj)}{σ:St}{H:Hp}{s:Shared}{fp:List Addr}(I:Inv X pins σ H s)(hf:∀b∈fp,qo X pins H b)(ho:∀b∈fp,∃o,s.heap.get? b=some o/\∀v,o.data≠.cell v):Inv X (pins++lN fp s.heap) σ H s :=
 I.pins_of λp hp=>(List.mem_append.mp hp).elim (λz=>I.pin p (Ψ _ z)) λz=>by
  obtain ⟨hb,e⟩:=tG z
  obtain ⟨f0,f1,f2,_⟩:=hf p.1 hb
  obtain ⟨o,e',d⟩:=ho p.1 hb
  rw [e] at e';cases e'
  exact ⟨e,f0,f1,f2,d⟩
theorem Inv.unpinned{pins pl:List (Addr×Obj)}{σ:St}{H:Hp}{s:Shared}(I:Inv X (pins++pl) σ H s):Inv X pins σ H s:=I.pins_of λp hp=>I.pin p (Ψ _ (List.mem_append_left _ hp))
theorem gS{G:Expr}{body:List Stmt}{wi:TI}{g:TG}{tb:TS}{pos:Pos}(Z:PassesOwn (model X.prog X.w) X.A X.env X.xe)(hc:X.calm=true)(hi:PI X tg G wi)(hg:PG X tg g)(F:PSs X body tb)
  (hs:∀x,foldedSetIterable G X.env x=pure x:=by intro _;rfl):PS X (.For tg G body [] pos) (Cf wi g tb):=by
 intro j s σ H D I h
 refine wpAny_For (thn (hi j s σ H _ I h) λv s1 h1=>thn h1 λbm s2 h2=>?_) hs
 obtain ⟨it,L,tn,J,H2,e,I2,T,a1,f2,W,⟨m0,w0⟩,O⟩:=h2
 subst e
 have z:∀{H':Hp},(∀b∈L,H' b=none)->∀b∈L,qo X j H' b:=λhn b F=>⟨hn b F,(f2 b F).2⟩
 refine codeAny_forLoop_any (λn s'=>∃i σ' H',Inv X j σ' H' s'/\tn i s'.heap/\(∀b∈L,H' b=none)/\W i n σ' H') ?_ m0 ⟨0,σ,H2,I2,a1,λb F=>(f2 b F).1,w0⟩
 rintro n s3 ⟨i,Q,H3,I3,U,Y,w3⟩
 rcases O i n Q H3 w3 with ⟨stop,qn⟩ | ⟨go,N,hN,step⟩
 ·refine wpAny_passesOwn Z (thn (T.done X rfl rfl rfl hc i j s3 Q H3 X.xe I3 (z Y) U stop) λr s4 ⟨hr,I4⟩=>?_)
  subst hr
  exact wpAny_execs_nil ⟨Q,H3,I4,qn⟩
 ·refine wpAny_passesOwn Z (thn (T.item X rfl rfl rfl hc i j s3 Q H3 X.xe I3 (z Y) U go) λr s4 ⟨u,hr,h4⟩=>?_)
  subst hr
  refine wpAny_passesOwn Z (thn h4 λ_ s5 ⟨x,H5,I5,r5,y5,K,a4⟩=>?_)
  have a2:=I5.pinned (z a4) (T.obj _ _ K)
  refine wpAny_passesOwn Z (thn (hg _ s5 Q H5 x u _ a2 r5 (step x H5 y5)) λ_ s6 ⟨σ6,H6,I6,q6⟩=>?_)
  refine wpAny_passesOwn Z (thn (F _ s6 σ6 H6 _ I6 q6) λf s7 q7=>?_)
  have C:∀{l:St} {q:Hp},Inv X (j++lN L s5.heap) l q s7->N l q->∃m,m<n/\∃i σ' H',Inv X j σ' H' s7/\tn i s7.heap/\(∀b∈L,H' b=none)/\W i m σ' H':=λ{l q} y P=>by
   obtain ⟨m',hm,w7⟩:=hN l q P
   refine ⟨m',hm,i+1,l,q,y.unpinned,T.keep _ _ _ K λb F o e=>(y.pin (b,o) (Ψ _ (Ψ _ (fX F e)))).1,λb F=>?_,w7⟩
   obtain ⟨o,e,d⟩:=T.obj _ _ K b F
   exact (y.pin (b,o) (Ψ _ (Ψ _ (fX F e)))).2.1
  cases f with
  | next=>obtain ⟨l,q,y,P⟩:=q7;exact C y P
  | cont=>obtain ⟨l,q,y,P⟩:=q7;exact C y P
  | brk=>obtain ⟨l,q,y,q7⟩:=q7;exact ⟨l,q,y.unpinned,q7⟩
  | ret v=>obtain ⟨x7,l,q,y,r7,q7⟩:=q7;exact ⟨x7,l,q,y.unpinned,r7,q7⟩
end
theorem qf{K:Frag}{a:Addr}{xs:List V}{g:TG}{tb:TS}{D:Ends}{σ:St}{H:Hp}(b:Nat->St->Hp->Prop)(h0:b 0 σ H)(h:∀i σ H,i<=xs.length->b i σ H->SqL K H a xs)
  (j:∀i x σ H,xs[i]?=some x->b i σ H->g x σ H fun σ2 H2=>tb {D with nx:=b (i+1),ct:=b (i+1),bk:=D.nx} σ2 H2)(l:∀σ H,b xs.length σ H->D.nx σ H) :
  ∃W:Nat->Nat->St->Hp->Prop,(∃m,W 0 m σ H)/\∀i m σ H,W i m σ H ->
   ((Itl K a).stop i H/\D.nx σ H)\/((Itl K a).go i H/\∃N:St->Hp->Prop,(∀σ' H',N σ' H'->∃m',m'<m/\W (i+1) m' σ' H')/\∀x H',(Itl K a).yld i H x H'->g x σ H' fun σ2 H2=>tb {D with nx:=N,ct:=N,bk:=D.nx} σ2 H2):=by
 refine ⟨λi m σ H=>m=xs.length-i/\i<=xs.length/\b i σ H,⟨xs.length,by simp,Nat.zero_le _,h0⟩,?_⟩
 rintro i m σ H ⟨rfl,f,p⟩
 have q:=h i σ H f p
 by_cases hlt:i<xs.length
 ·refine .inr ⟨⟨xs,xs[i],q,by simp [hlt]⟩,b (i+1),fun σ' H' d=>⟨xs.length-(i+1),ω,ϱ,hlt,d⟩,λx H' y=>?_⟩
  obtain ⟨e,y⟩:=y
  subst e
  exact j i x σ _ (y xs q) p
 ·have e:i=xs.length:=by omega
  subst e
  exact .inl ⟨⟨xs,q,ι _⟩,l σ H p⟩
theorem yx{K:Frag}{a:Addr}{xs:List V}{g:TG}{tb:TS}{D:Ends}{σ:St}{H:Hp}(b:Nat->St->Hp->Prop)(h0:b 0 σ H)(h:∀i σ H,i<=xs.length->b i σ H->SqT K H a xs)
  (j:∀i x σ H,xs[i]?=some x->b i σ H->g x σ H fun σ2 H2=>tb {D with nx:=b (i+1),ct:=b (i+1),bk:=D.nx} σ2 H2)(l:∀σ H,b xs.length σ H->D.nx σ H) :
  ∃W:Nat->Nat->St->Hp->Prop,(∃m,W 0 m σ H)/\∀i m σ H,W i m σ H ->
   ((Itt K a).stop i H/\D.nx σ H)\/((Itt K a).go i H/\∃N:St->Hp->Prop,(∀σ' H',N σ' H'->∃m',m'<m/\W (i+1) m' σ' H')/\∀x H',(Itt K a).yld i H x H'->g x σ H' fun σ2 H2=>tb {D with nx:=N,ct:=N,bk:=D.nx} σ2 H2):=by
 refine ⟨λi m σ H=>m=xs.length-i/\i<=xs.length/\b i σ H,⟨xs.length,by simp,Nat.zero_le _,h0⟩,?_⟩
 rintro i m σ H ⟨rfl,f,p⟩
 have q:=h i σ H f p
 by_cases hlt:i<xs.length
 ·refine .inr ⟨⟨xs,xs[i],q,by simp [hlt]⟩,b (i+1),fun σ' H' d=>⟨xs.length-(i+1),ω,ϱ,hlt,d⟩,λx H' y=>?_⟩
  obtain ⟨e,y⟩:=y
  subst e
  exact j i x σ _ (y xs q) p
 ·have e:i=xs.length:=by omega
  subst e
  exact .inl ⟨⟨xs,q,ι _⟩,l σ H p⟩
theorem fy{lo:Int}{n:Nat}{g:TG}{tb:TS}{D:Ends}{σ:St}{H:Hp}(b:Nat->St->Hp->Prop)(h0:b 0 σ H)
  (f:∀i σ H,i<n->b i σ H->g (.int (lo+i)) σ H fun σ2 H2=>tb {D with nx:=b (i+1),ct:=b (i+1),bk:=D.nx} σ2 H2)(h:∀σ H,b n σ H->D.nx σ H) :
  ∃W:Nat->Nat->St->Hp->Prop,(∃m,W 0 m σ H)/\∀i m σ H,W i m σ H ->
   ((Itr lo n).stop i H/\D.nx σ H)\/((Itr lo n).go i H/\∃N:St->Hp->Prop,(∀σ' H',N σ' H'->∃m',m'<m/\W (i+1) m' σ' H')/\∀x H',(Itr lo n).yld i H x H'->g x σ H' fun σ2 H2=>tb {D with nx:=N,ct:=N,bk:=D.nx} σ2 H2):=by
 refine ⟨λi m σ H=>m=n-i/\i<=n/\b i σ H,⟨n,by simp,Nat.zero_le _,h0⟩,?_⟩
 rintro i m σ H ⟨rfl,j,p⟩
 by_cases hlt:i<n
 ·refine .inr ⟨hlt,b (i+1),fun σ' H' d=>⟨n-(i+1),ω,ϱ,hlt,d⟩,λx H' y=>?_⟩
  obtain ⟨e,y⟩:=y
  subst e y
  exact f i σ _ hlt p
 ·have e:i=n:=by omega
  subst e
  exact .inl ⟨ι _,h σ H p⟩
abbrev R2:=V->V->Hp->VK->Prop
def OpR(X:Cx)(f:Value->Value->Sem Value)(r:R2):Prop :=
 ∀(pins:List (Addr×Obj)) (s:Shared) (σ:St) (H:Hp) (x y:V) (v u:Value) (Q:VK),Inv X pins σ H s->RelV x v->RelV y u->r x y H Q ->
  wpAny (model X.prog X.w) X.A (f v u) (EP X pins σ Q) X.xe s
def UnR(X:Cx)(f:Value->Sem Value)(r:V->Hp->VK->Prop):Prop :=
 ∀(pins:List (Addr×Obj)) (s:Shared) (σ:St) (H:Hp) (x:V) (v:Value) (Q:VK),Inv X pins σ H s->RelV x v->r x H Q ->
  wpAny (model X.prog X.w) X.A (f v) (EP X pins σ Q) X.xe s
def d0(X:Cx)(f:Value)(r:List V->Hp->VK->Prop):Prop :=
 ∀(pins:List (Addr×Obj)) (s:Shared) (σ:St) (H:Hp) (xs:List V) (us:List Value) (Q:VK),Inv X pins σ H s->Vals xs us->r xs H Q ->
  wpAny (model X.prog X.w) X.A (call f us) (EP X pins σ Q) X.xe s
def CA(X:Cx)(r:V->Hp->(Bool->Hp->Prop)->Prop):Prop :=
 ∀(pins:List (Addr×Obj)) (s:Shared) (σ:St) (H:Hp) (x:V) (v:Value) (Q:Bool->Hp->Prop),Inv X pins σ H s->RelV x v->r x H Q ->
  wpAny (model X.prog X.w) X.A (truthy v) (TP X pins σ Q) X.xe s
def tOp(r:R2)(ta tb:TE):TE:=fun σ H Q=>ta σ H λx H1=>tb σ H1 λy H2=>r x y H2 Q
def tUn(r:V->Hp->VK->Prop)(ta:TE):TE:=fun σ H Q=>ta σ H λx H1=>r x H1 Q
inductive XI (C:Int->Int->Prop) (g:Int->Int->V) (x y:V) (H:Hp) (Q:VK):Prop|mk i j:x=.int i->y=.int j->C i j->Q (g i j) H->XI C g x y H Q
def rI(C:Int->Int->Prop)(g:Int->Int->V):R2:=λx y H Q=>XI C g x y H Q
inductive XI0 (g:Int->Int->V) (x y:V) (H:Hp) (Q:VK):Prop|mk i j:x=.int i->y=.int j->Q (g i j) H->XI0 g x y H Q
def rI0(g:Int->Int->V):R2:=λx y H Q=>XI0 g x y H Q
def rU(g:Int->V):V->Hp->VK->Prop:=λx H Q=>∃i,x=.int i/\Q (g i) H
section
variable {X:Cx}{a b c:Expr}{ta tb tc:TE}{pos:Pos}
theorem AY(m:PE X a ta)(o:PE X b tb){d:List (Addr×Obj)}{s:Shared}{σ:St}{H:Hp}{R:V->V->Hp->Prop}(I:Inv X d σ H s)
  (h:ta σ H λx H1=>tb σ H1 λy H2=>R x y H2){Q:Value->Shared->Prop}{f:Value->Value->Sem Value}
  (hf:∀v u s2 x y H2,Inv X d σ H2 s2->RelV x v->RelV y u->R x y H2->wpAny (model X.prog X.w) X.A (f v u) Q X.xe s2) :
  wpAny (model X.prog X.w) X.A (eval a X.env) (λv s₁=>wpAny (model X.prog X.w) X.A (eval b X.env) (λu s₂=>wpAny (model X.prog X.w) X.A (f v u) Q X.xe s₂) X.xe s₁) X.xe s:=by
 refine thn (m d s σ H _ I h) λv e ⟨x,H1,g,i,q1⟩=>?_
 refine thn (o d e σ H1 _ g q1) λu s2 ⟨y,H2,j,l,q2⟩=>?_
 exact hf v u s2 x y H2 j i l q2
theorem aG{e:Operator}{r:R2}(m:OpR X (binaryOp e) r)(o:PE X a ta)(w:PE X b tb):PE X (.BinOp a e b pos) (tOp r ta tb):=by
 intro d s σ H Q I h
 exact wpAny_BinOp (AY o w I h λv u f x y g i j l q=>m d f σ g x y v u Q i j l q)
theorem BJ{d:UnaryOp}{r:V->Hp->VK->Prop}(i:UnR X (unaryOp d) r)(j:PE X a ta):PE X (.UnaryOp d a pos) (tUn r ta):=by
 intro b s σ H Q I h
 exact UnaryOp_ (thn (j b s σ H _ I h) λv e ⟨x,H1,f,g,q1⟩=>i b e σ H1 x v Q f g q1)
theorem opI{f:Value->Value->Sem Value}{C:Int->Int->Prop}{g:Int->Int->Int}
  (b:∀(i j:Int) (t u:Tok) (s:Shared) (Q:Value->Shared->Prop) (E:Value->Shared->Prop),C i j->Q (.int (g i j) s.toks) {s with toks:=s.toks+1}->wpAny (model X.prog X.w) X.A (f (.int i t) (.int j u)) Q E s) :
  OpR X f (rI C λi j=>.int (g i j)):=by
 intro d s σ H x y v u Q I m o h
 obtain ⟨i,j,rfl,rfl,e,q⟩:=h
 obtain ⟨t,rfl⟩:=m
 obtain ⟨l,rfl⟩:=o
 exact b i j t l s _ _ e ⟨.int (g i j),H,I.tok _,⟨_,ϱ⟩,q⟩
theorem BL{f:Value->Value->Sem Value}{g:Int->Int->Int}
  (b:∀(i j:Int) (t u:Tok) (s:Shared) (Q:Value->Shared->Prop) (E:Value->Shared->Prop),Q (.int (g i j) s.toks) {s with toks:=s.toks+1}->wpAny (model X.prog X.w) X.A (f (.int i t) (.int j u)) Q E s) :
  OpR X f (rI0 λi j=>.int (g i j)):=by
 intro d s σ H x y v u Q I l m h
 obtain ⟨i,j,rfl,rfl,q⟩:=h
 obtain ⟨t,rfl⟩:=l
 obtain ⟨e,rfl⟩:=m
 exact b i j t e s _ _ ⟨.int (g i j),H,I.tok _,⟨_,ϱ⟩,q⟩
theorem xG{f:Value->Value->Sem Value}{g:Int->Int->Bool}
  (b:∀(i j:Int) (t u:Tok) (s:Shared) (Q:Value->Shared->Prop) (E:Value->Shared->Prop),Q (.bool (g i j)) s->wpAny (model X.prog X.w) X.A (f (.int i t) (.int j u)) Q E s) :
  OpR X f (rI0 λi j=>.bl (g i j)):=by
 intro d s σ H x y v u Q I l m h
 obtain ⟨i,j,rfl,rfl,q⟩:=h
 obtain ⟨t,rfl⟩:=l
 obtain ⟨e,rfl⟩:=m
 exact b i j t e s _ _ ⟨.bl (g i j),H,I,ϱ,q⟩
def CG(i j:Int):Prop:=0<j/\j<1073741824
def CF(i j:Int):Prop:=0<=j/\j<=1000000/\i.natAbs<2 ^ 64
def CMul(i j:Int):Prop:=(-(2 ^ 64)<i/\i<2 ^ 64)\/(-(2 ^ 64)<j/\j<2 ^ 64)
theorem CMul.ok{i j:Int}(h:CMul i j):IntMulOk i j:=by
 rcases h with ⟨h1,h2⟩ | ⟨h1,h2⟩
 ·exact .of_left (intBits_le_64 h1 h2)
 ·exact .of_right (intBits_le_64 h1 h2)
theorem cQ:OpR X (binaryOp .Add) (rI0 λi j=>.int (i+j)):=BL λ_ _ _ _ _ _ _ q=>add_int q
theorem fW:OpR X (binaryOp .Sub) (rI0 λi j=>.int (i-j)):=BL λ_ _ _ _ _ _ _ q=>sub_int q
theorem oR:OpR X (binaryOp .Mult) (rI CMul λi j=>.int (i*j)):=opI λ_ _ _ _ _ _ _ hc q=>mul_int q hc.ok
theorem cC:OpR X (binaryOp .FloorDiv) (rI CG λi j=>.int (i/j)):=opI λi j _ _ _ _ _ hc q=>by
 have h1:(0:Int)<j:=hc.1
 have h2:j<1073741824:=hc.2
 exact floordiv_int ω (by rw [Int.fdiv_eq_ediv_of_nonneg i ω];exact q) (.inl (PyProof.noPylong_small ω))
theorem cm:OpR X (binaryOp .Mod) (rI (λ_ j=>0<j) λi j=>.int (i%j)):=opI λi j _ _ _ _ _ hc q=>by
 have h1:(0:Int)<j:=hc
 exact mod_int' ω (by rw [Int.fmod_eq_emod_of_nonneg i ω];exact q)
theorem vj:OpR X (binaryOp .Pow) (rI CF λi j=>.int (i ^ j.toNat)):=opI λ_ _ _ _ _ _ _ hc q=>pow_int_small hc.1 hc.2.1 hc.2.2 q
theorem unI{f:Value->Sem Value}{g:Int->Int}
  (b:∀(i:Int) (t:Tok) (s:Shared) (Q:Value->Shared->Prop) (E:Value->Shared->Prop),Q (.int (g i) s.toks) {s with toks:=s.toks+1}->wpAny (model X.prog X.w) X.A (f (.int i t)) Q E s) :
  UnR X f (rU λi=>.int (g i)):=by
 intro d s σ H x v Q I e h
 obtain ⟨i,rfl,q⟩:=h
 obtain ⟨t,rfl⟩:=e
 exact b i t s _ _ ⟨.int (g i),H,I.tok _,⟨_,ϱ⟩,q⟩
theorem zk:UnR X (unaryOp .USub) (rU λi=>.int (-i)):=unI λ_ _ _ _ _ q=>neg_int q
end
def BA:V->V->Bool
 | .non,.non=>true | .non,.int _=>true | .int _,.non=>true | .non,.bl _=>true | .bl _,.non=>true | .non,.str _=>true | .str _,.non=>true
 | .int _,.int _=>true | .bl _,.bl _=>true | .str _,.str _=>true | .byt _,.byt _=>true
 | .int _,.str _=>true | .str _,.int _=>true | .bl _,.str _=>true | .str _,.bl _=>true
 | _,_=>false
def rEq:R2:=λx y H Q=>BA x y=true/\Q (.bl (decide (x=y))) H
def rNe:R2:=λx y H Q=>BA x y=true/\Q (.bl (!decide (x=y))) H
theorem pf{i j:Int}:decide (V.int i=V.int j)=(i==j):=by
 rw [Bool.eq_iff_iff]
 simp
theorem wG{i j:Bool}:decide (V.bl i=V.bl j)=(i==j):=by
 rw [Bool.eq_iff_iff]
 simp
theorem sE{i j:Str}:decide (V.str i=V.str j)=(i==j):=by
 rw [Bool.eq_iff_iff]
 simp
theorem sF{i j:Array UInt8}:decide (V.byt i=V.byt j)=(i.toList==j.toList):=by
 rw [Bool.eq_iff_iff]
 cases i
 cases j
 simp
section
variable {X:Cx}{a b c:Expr}{ta tb tc:TE}{pos:Pos}
theorem aT{b:List (Addr×Obj)}{σ:St}{H:Hp}{s:Shared}{Q:VK}{k d:Bool}(I:Inv X b σ H s)(q:Q (.bl k) H)(e:k=d):EP X b σ Q (.bool d) s:=by
 subst e
 exact ⟨.bl k,H,I,ϱ,q⟩
theorem bw:OpR X (compareOp .Eq) rEq:=by
 intro g s σ H x y v u Q I f b h
 obtain ⟨e,q⟩:=h
 cases x with
 | non =>
  cases f
  cases y with
  | non=>cases b;exact PySem.EqNone.eq_none_none (aT I q (by simp))
  | bl j=>cases b;exact PySem.EqNone.eq_none_bool (aT I q (by simp))
  | int j=>obtain ⟨d,rfl⟩:=b;exact PySem.EqNone.eq_none_int (aT I q (by simp))
  | str j=>obtain ⟨d,rfl⟩:=b;exact PySem.EqNone.eq_none_str (aT I q (by simp))
  | _=>exact absurd (show false=true from e) Bool.false_ne_true
 | bl i =>
  cases f
  cases y with
  | non=>cases b;exact PySem.EqNone.eq_bool_none (aT I q (by simp))
  | bl j=>cases b;exact eq_bool (aT I q wG)
  | str j=>obtain ⟨d,rfl⟩:=b;exact PySem.EqMixed.eq_bool_str (aT I q (by simp))
  | _=>exact absurd (show false=true from e) Bool.false_ne_true
 | int i =>
  obtain ⟨t,rfl⟩:=f
  cases y with
  | non=>cases b;exact PySem.EqNone.eq_int_none (aT I q (by simp))
  | int j=>obtain ⟨d,rfl⟩:=b;exact eq_int (aT I q pf)
  | str j=>obtain ⟨d,rfl⟩:=b;exact PySem.EqMixed.eq_int_str (aT I q (by simp))
  | _=>exact absurd (show false=true from e) Bool.false_ne_true
 | str i =>
  obtain ⟨t,rfl⟩:=f
  cases y with
  | non=>cases b;exact PySem.EqNone.eq_str_none (aT I q (by simp))
  | bl j=>cases b;exact PySem.EqMixed.eq_str_bool (aT I q (by simp))
  | int j=>obtain ⟨d,rfl⟩:=b;exact PySem.EqMixed.eq_str_int (aT I q (by simp))
  | str j=>obtain ⟨d,rfl⟩:=b;exact eq_str (aT I q sE)
  | _=>exact absurd (show false=true from e) Bool.false_ne_true
 | byt i =>
  obtain ⟨t,rfl⟩:=f
  cases y with
  | byt j=>obtain ⟨d,rfl⟩:=b;exact PySem.W.eq_bytes (aT I q sF)
  | _=>exact absurd (show false=true from e) Bool.false_ne_true
 | _=>cases y<;>exact absurd (show false=true from e) Bool.false_ne_true
theorem mV:OpR X (compareOp .NotEq) rNe:=by
 intro g s σ H x y v u Q I f b h
 obtain ⟨e,q⟩:=h
 cases x with
 | non =>
  cases f
  cases y with
  | non=>cases b;exact PySem.EqNone.ne_none_none (aT I q (by simp))
  | bl j=>cases b;exact PySem.EqNone.ne_none_bool (aT I q (by simp))
  | int j=>obtain ⟨d,rfl⟩:=b;exact PySem.EqNone.ne_none_int (aT I q (by simp))
  | str j=>obtain ⟨d,rfl⟩:=b;exact PySem.EqNone.ne_none_str (aT I q (by simp))
  | _=>exact absurd (show false=true from e) Bool.false_ne_true
 | bl i =>
  cases f
  cases y with
  | non=>cases b;exact PySem.EqNone.ne_bool_none (aT I q (by simp))
  | bl j=>cases b;exact ne_bool (aT I q (congrArg not wG))
  | str j=>obtain ⟨d,rfl⟩:=b;exact PySem.EqMixed.ne_bool_str (aT I q (by simp))
  | _=>exact absurd (show false=true from e) Bool.false_ne_true
 | int i =>
  obtain ⟨t,rfl⟩:=f
  cases y with
  | non=>cases b;exact PySem.EqNone.ne_int_none (aT I q (by simp))
  | int j=>obtain ⟨d,rfl⟩:=b;exact ne_int (aT I q (congrArg not pf))
  | str j=>obtain ⟨d,rfl⟩:=b;exact PySem.EqMixed.ne_int_str (aT I q (by simp))
  | _=>exact absurd (show false=true from e) Bool.false_ne_true
 | str i =>
  obtain ⟨t,rfl⟩:=f
  cases y with
  | non=>cases b;exact PySem.EqNone.ne_str_none (aT I q (by simp))
  | bl j=>cases b;exact PySem.EqMixed.ne_str_bool (aT I q (by simp))
  | int j=>obtain ⟨d,rfl⟩:=b;exact PySem.EqMixed.ne_str_int (aT I q (by simp))
  | str j=>obtain ⟨d,rfl⟩:=b;exact ne_str (aT I q (congrArg not sE))
  | _=>exact absurd (show false=true from e) Bool.false_ne_true
 | byt i =>
  obtain ⟨t,rfl⟩:=f
  cases y with
  | byt j=>obtain ⟨d,rfl⟩:=b;exact PySem.W.ne_bytes (aT I q (congrArg not sF))
  | _=>exact absurd (show false=true from e) Bool.false_ne_true
 | _=>cases y<;>exact absurd (show false=true from e) Bool.false_ne_true
theorem pQ:OpR X (compareOp .Lt) (rI0 λi j=>.bl (decide (i<j))):=xG λ_ _ _ _ _ _ _ q=>lt_int q
theorem mW:OpR X (compareOp .LtE) (rI0 λi j=>.bl (decide (i<=j))):=xG λ_ _ _ _ _ _ _ q=>le_int q
theorem mY:OpR X (compareOp .Gt) (rI0 λi j=>.bl (decide (j<i))):=xG λ_ _ _ _ _ _ _ q=>gt_int q
theorem BK:OpR X (compareOp .GtE) (rI0 λi j=>.bl (decide (j<=i))):=xG λ_ _ _ _ _ _ _ q=>ge_int q
theorem lT:OpR X (compareOp .Is) (λx y H Q=>y=.non/\Q (.bl (decide (x=.non))) H):=by
 intro b s σ H x y v u Q I d e h
 obtain ⟨rfl,q⟩:=h
 cases e
 refine is_none_gen (aT I q ?_)
 cases x<;>first
  | (cases d;rfl)
  | (obtain ⟨t,rfl⟩:=d;rfl)
theorem kW:OpR X (compareOp .IsNot) (λx y H Q=>y=.non/\Q (.bl (!decide (x=.non))) H):=by
 intro b s σ H x y v u Q I d e h
 obtain ⟨rfl,q⟩:=h
 cases e
 refine isnot_none_gen (aT I q ?_)
 cases x<;>first
  | (cases d;rfl)
  | (obtain ⟨t,rfl⟩:=d;rfl)
theorem ax(b:Expr){d:CmpOp}(h:d≠.In:=by decide)(g:d≠.NotIn:=by decide):behindInMarks d b=false:=by
 have e:(d==CmpOp.In)=false:=by cases d<;>first | rfl | exact absurd rfl h
 have f:(d==CmpOp.NotIn)=false:=by cases d<;>first | rfl | exact absurd rfl g
 cases b<;>simp [behindInMarks,e,f]
theorem bn{e:CmpOp}{r:R2}(m:OpR X (compareOp e) r)(o:PE X a ta)(w:PE X b tb)(z:behindInMarks e b=false):PE X (.Compare a [e] [b] pos) (tOp r ta tb):=by
 intro d s σ H Q I h
 exact wpAny_Compare1 (AY o w I h λv u f x y g i j l q=>m d f σ g x y v u Q i j l q) z
def yK(t:TE):TT:=fun σ H Q=>t σ H λx H'=>XB Q x H'
theorem ay{f:CmpOp}{r:R2}(F:OpR X (compareOp f) r)(G:PE X a ta)(J:PE X b tb)(K:behindInMarks f b=false):PT X (.Compare a [f] [b] pos) (yK (tOp r ta tb)):=by
 intro d s σ H Q I h
 refine wpAny_isTrue_Compare1 (thn (G d s σ H _ I h) λv g ⟨x,H1,i,j,q1⟩=>thn (J d g σ H1 _ i q1) λu l ⟨y,m,o,q,q2⟩ =>
  thn (F d l σ m x y v u _ o j q q2) λc L ⟨z,w,C,D,k,e,q3⟩=>?_) K
 subst e
 cases D
 exact wpAny_truthy_bool ⟨w,C,q3⟩
def zC(r r':R2)(ta tb tc:TE):TE:=fun σ H Q=>ta σ H λx H1=>tb σ H1 λy H2=>r x y H2 λz H3=>∃k,z=.bl k /\
 (if k=true then tc σ H3 λw' H4=>r' y w' H4 Q else Q (.bl false) H3)
theorem vg{i g:CmpOp}{r q:R2}(ho:OpR X (compareOp i) r)(j:OpR X (compareOp g) q)(ha:PE X a ta)(hb:PE X b tb)(hc:PE X c tc)
  (hm:lastMarks [i,g] [b,c]=false:=by with_unfolding_all rfl):PE X (.Compare a [i,g] [b,c] pos) (zC r q ta tb tc):=by
 intro f s σ H Q I h
 refine Compare_chain (thn (ha f s σ H _ I h) λv w ⟨x,H1,C,D,q1⟩=>chain_link (thn (hb f w σ H1 _ C q1) λu F ⟨y,G,J,l,q2⟩ =>
  thn (ho f F σ G x y v u _ J D l q2) λd K ⟨z,m,o,L,k,e,q3⟩=>?_)) hm
 subst e
 cases L
 refine wpAny_truthy_bool ?_
 cases k with
 | false=>exact ite_ff ⟨.bl false,m,o,rfl,q3⟩
 | true=>exact ite_tt (chain_last (thn (hc f K σ m _ o q3) λO P ⟨U,W,Y,Z,q4⟩=>j f P σ W y U u O Q Y l Z q4))
def B5(K:Frag)(x:V)(H:Hp)(k:Bool):Prop :=
 match x with
 | .non=>k=false
 | .bl b=>k=b
 | .int i=>k=(i != 0)
 | .str y=>y.length<=sizeLine/\k=((y.length:Int) != 0)
 | .byt y=>y.size<=sizeLine/\k=((y.size:Int) != 0)
 | .ref p=>(∃xs,SqL K H p xs/\k=!xs.isEmpty)\/(∃xs,SqT K H p xs/\k=!xs.isEmpty)\/∃kvs,H p=some (.dK kvs)/\k=!kvs.isEmpty
 | _=>False
theorem rg{κ:Type}{b:List (κ×V)}{vs:List (κ×Value)}(r:KV b vs):(!vs.isEmpty)=!b.isEmpty:=by
 cases r<;>rfl
theorem l7{xs:List V}{b:List Value}(r:Vals xs b):(!b.toArray.isEmpty)=!xs.isEmpty:=by
 cases r<;>simp
theorem iH:(sizeLine:Nat)<2 ^ 63:=by rw [sizeLine_eq];decide
theorem zm:CA X (λx H Q=>∃k,B5 X.K x H k/\Q k H):=by
 intro u s σ H x v Q I g h
 obtain ⟨k,e,q⟩:=h
 have D:=iH
 have F:sizeLine=16777216:=sizeLine_eq
 cases x with
 | non =>
  cases g
  have d:k=false:=e
  subst d
  exact truthy_none ⟨H,I,q⟩
 | bl b =>
  cases g
  have d:k=b:=e
  subst d
  exact wpAny_truthy_bool ⟨H,I,q⟩
 | int i =>
  obtain ⟨t,rfl⟩:=g
  have d:k=(i != 0):=e
  subst d
  exact PySem.P.truthy_int ⟨H,I,q⟩
 | str y =>
  obtain ⟨t,rfl⟩:=g
  obtain ⟨z,d⟩:y.length<=sizeLine/\k=((y.length:Int) != 0):=e
  subst d
  exact PySem.P.truthy_str ω ⟨H,I.tok _,q⟩
 | byt y =>
  obtain ⟨t,rfl⟩:=g
  obtain ⟨z,d⟩:y.size<=sizeLine/\k=((y.size:Int) != 0):=e
  subst d
  exact PySem.W.truthy_bytes ω ⟨H,I.tok _,q⟩
 | ref p =>
  cases g
  have d:(∃xs,SqL X.K H p xs/\k=!xs.isEmpty)\/(∃xs,SqT X.K H p xs/\k=!xs.isEmpty)\/∃kvs,H p=some (.dK kvs)/\k=!kvs.isEmpty:=e
  rcases d with ⟨xs,hx,d⟩ | ⟨xs,hx,d⟩ | ⟨kvs,hx,d⟩
  ·subst d
   obtain ⟨j,r,l,o⟩:=I.list hx
   have f:=r.length
   exact wpAny_truthy_list l.isList (by simp only [List.size_toArray];omega) ⟨H,I.tok _,by rw [l7 r];exact q⟩
  ·subst d
   obtain ⟨j,r,l,o⟩:=I.tuple hx
   have f:=r.length
   exact truthy_tuple l (by simp only [List.size_toArray];omega) ⟨H,I.tok _,by rw [l7 r];exact q⟩
  ·subst d
   obtain ⟨o,C,vs,r,m⟩:kvs.length<=sizeLine/\(p==sysModules)=false/\∃vs,KV kvs vs/\s.heap.DictOf (aK X.prog X.w) p vs:=I.hok p _ hx
   have f:kvs.length=vs.length:=Paired.length r
   exact wpAny_truthy_dict C m ω ⟨H,I.tok _,by rw [rg r];exact q⟩
 | _=>exact (show False from e).elim
theorem lL(g:PE X a ta)(i:∀whole,isTrue a X.env whole=(do let v ← whole;standAt a.pos;holding [v] (truthy v))) :
  PT X a (fun σ H Q=>ta σ H λx H'=>∃k,B5 X.K x H' k/\Q k H'):=by
 intro b s σ H Q I h
 exact isTrue_plain (thn (g b s σ H _ I h) λv d ⟨x,H1,e,f,q1⟩=>zm b d σ H1 x v Q e f q1) (i _)
theorem cP:OpR X (binaryOp .Add) (λx y H Q=>∃i j,x=.str i/\y=.str j/\i.length+j.length<=sizeLine/\Q (.str (i++j)) H):=by
 intro b s σ H x y v u Q I f g h
 obtain ⟨i,j,rfl,rfl,d,q⟩:=h
 obtain ⟨t,rfl⟩:=f
 obtain ⟨e,rfl⟩:=g
 exact add_str (λe l=>⟨.str (i++j),H,I.tok _,⟨_,ϱ⟩,q⟩) d
theorem d9{x:V}{us:List Value}(r:Vals [x] us):∃u,us=[u]/\RelV x u:=by
 cases r with
 | cons r1 r2=>cases r2;exact ⟨_,rfl,r1⟩
theorem uh{x y:V}{us:List Value}(r:Vals [x,y] us):∃u w',us=[u,w']/\RelV x u/\RelV y w':=by
 cases r with
 | cons r1 r2 =>
  cases r2 with
  | cons r3 r4=>cases r4;exact ⟨_,_,rfl,r1,r3⟩
theorem gl:d0 X (.type "str") (λxs H Q=>∃i,xs=[.int i]/\i.natAbs.log2<1920/\Q (.str (toString i)) H):=by
 intro b s σ H xs e Q I r h
 obtain ⟨i,rfl,d,q⟩:=h
 obtain ⟨u,rfl,t,rfl⟩:=d9 r
 exact PySem.P.str_of_int d ⟨.str _,H,I.tok _,⟨_,ϱ⟩,q⟩
theorem wQ:d0 X (.builtin "ord") (λxs H Q=>∃x,xs=[.str x]/\x.length=1/\Q (.int (x.cps.getD 0 0:Nat)) H):=by
 intro b s σ H xs e Q I r h
 obtain ⟨x,rfl,d,q⟩:=h
 obtain ⟨u,rfl,t,rfl⟩:=d9 r
 exact ord_of_one d ⟨.int _,H,I.tok _,⟨_,ϱ⟩,q⟩
end
structure ObjM(h:Heap)(x dx C:Addr)(mA:Str->Option Value):Prop where
 obj:h.get? x=some (PySem.W.instObj C dx)
 ns:h.Ns1 dx mA
 ne:dx≠x
theorem tM{h:Heap}{f:Addr}{g:Str->Option Value}(n:h.Ns1 f g):∃od,h.get? f=some od/\∀name,PySem.W.lookIn name od=some (g name):=by
 obtain ⟨o,d,w,i,j,l,_,m⟩:=n
 refine ⟨o,i,λname=>?_⟩
 have e:=m name
 unfold nsFind findBy at e
 rw [← Array.find?_toList] at e
 unfold PySem.W.lookIn
 rw [j]
 dsimp only
 split
 ·rename_i y q
  rw [q] at e
  exact congrArg some e
 ·rename_i q
  rw [q] at e
  have a:d.toList.any (·.refKey)=false:=by
   rw [List.any_eq_false]
   intro y u
   obtain ⟨z,t,b⟩:=l y (Array.mem_toList_iff.mp u)
   simp [DictEntry.refKey,b]
  have r:¬d.toList.any (·.refKey)=true:=by rw [a];exact Bool.false_ne_true
  rw [if_neg r]
  exact congrArg some e
theorem ObjM.look{h:Heap}{x dx C:Addr}{mA:Str->Option Value}(I:ObjM h x dx C mA):∃od,PySem.W.InstAt h x (PySem.W.instObj C dx) C (some od)/\∀name,PySem.W.lookIn name od=some (mA name) :=
 let ⟨od,ho,hl⟩:=tM I.ns
 ⟨od,⟨I.obj,ϱ,ϱ,ho⟩,hl⟩
section
variable {prog:Program}{w:World}{A:Around}{E:Value->Shared->Prop}{s:Shared}{K:Frag}{x dx C f:Addr}{mA:Str->Option Value}{name:Str}{v:Value}
theorem yw{b:Bool}{Q:Value->Shared->Prop}(X:K.In s.heap)(I:ObjM s.heap x dx C mA)(f:PySem.W.plainGet K C name=true)(g:PySem.W.hasDictIn K C=true)
  (i:PySem.W.findIn K (.ref C) name=some none)(j:mA name=some v)(d:PySem.W.handedIn v=true)(h:Q v {s with toks:=s.toks+1}) :
  wpAny (model prog w) A (getAttr (.ref x) name b) Q E s:=by
 obtain ⟨od,J,e⟩:=I.look
 exact PySem.W.get_value X J (PySem.W.plainGet_of f).1 (PySem.W.findObj_own g i rfl (by rw [e,j])) d h
theorem wu{pl:Sem Bool}{Q:Value×List Value->Shared->Prop}(X:K.In s.heap)(I:ObjM s.heap x dx C mA)(b:PySem.W.plainGet K C name=true)
  (hf:PySem.W.findIn K (.ref C) name=some (some (.ref f)))(e:PySem.W.isFn K (.ref f)=true)(g:mA name=none)(h:Q (.ref f,[.ref x]) s) :
  wpAny (model prog w) A (getMethod (.ref x) name pl) Q E s:=by
 obtain ⟨od,J,d⟩:=I.look
 exact PySem.W.method_fn X J (PySem.W.plainGet_of b).1 (PySem.W.plainGet_of b).2 hf (beq_iff_eq.mp e) (by show (PySem.W.lookIn name od).map (·.isSome)=some false;rw [d,g];rfl) h
theorem xn{l:List Str}{Q:Unit->Shared->Prop}(X:K.In s.heap)(I:ObjM s.heap x dx C mA)
  (z:PySem.W.findIn K (.ref C) "__setattr__"=some (some (.builtin "object.__setattr__")))(D:PySem.W.plainOver K C=true)(F:PySem.W.takerIn K C name=some none)(G:PySem.W.hasDictIn K C=true)
  (hw:PySem.Within mA l)(hsz:l.length<=sizeLine)
  (h:∀h',ObjM h' x dx C (λy=>if y=name then some v else mA y)->Heap.SameBut dx s.heap h'->Q () {s with heap:=h',toks:=s.toks+2}) :
  wpAny (model prog w) A (setAttr (.ref x) name v) Q E s:=by
 obtain ⟨od,J,H⟩:=I.look
 refine PySem.W.set_plain X J z (PySem.W.osa_open (s:={s with toks:=s.toks+1}) (r:=none) X J D F λb=>?_)
 obtain ⟨L,m,f⟩:=PySem.W.any_some G
 have u:s.heap.get? x=some ⟨.ref C,some dx,.plain,#[]⟩:=I.obj
 refine ε (π (ε (ε (wpAny_loadPart u (ε (PySem.W.Looks.here (s:={s with toks:=s.toks+1}) (PySem.W.looks_clsIn X m) ?_))))))
 rw [f]
 refine π (a:=some dx) (ε (π (ε ?_)))
 refine wpAny_nsSet1 (s:={s with toks:=s.toks+1}) I.ns λh' d e=>?_
 obtain ⟨O,o,q,g,i,j⟩:=d.count (PySem.Within.cons name v hw)
 refine ε (wpAny_lookBehind g (by rw [i];exact pastItsLine_dict (Λ j (by rw [List.length_cons];omega))) ?_)
 exact π (h _ ⟨(e.2 _ (Ne.symm I.ne)).trans I.obj,d,I.ne⟩ e)
theorem wg{R:Result->Shared->Prop}{vs:List Value}{b:List (Str×Value)}(X:K.In s.heap)(e:PySem.W.makesIn K C=true)
  (i:PySem.W.findIn K (.ref C) "__init__"=some (some (.ref f)))(hf:PySem.W.typeIn K (.ref f)=some (.type "function"))
  (h:codeAny (model prog w) (A.under (.builtin "type.__call__" ⟨.ref C::vs,b⟩)) (.call (.ref f) ⟨.ref (s.heap.objs.size+1)::vs,b⟩) (PySem.W.InitBack (s.heap.objs.size+1) R)
   {s with heap:=(s.heap.push PySem.W.emptyDict).push (PySem.W.instObj C s.heap.objs.size)}) :
  codeAny (model prog w) A (.call (.ref C) ⟨vs,b⟩) R s:=by
 obtain ⟨j,g,d,t,l⟩:=s
 exact PySem.W.make_core (PySem.W.makes_of X e) (PySem.W.looks_findIn X i) (λself=>PySem.W.bind_fn X self hf) (.inl rfl) h
end
def au(f:Str)(v:V):List (Str×V)->List (Str×V)
 | []=>[(f,v)]
 | (g,x)::r=>if g=f then (g,v)::r else (g,x)::au f v r
theorem al(f g:Str)(v:V):∀fs:List (Str×V),(au f v fs).lookup g=if g=f then some v else fs.lookup g
 | []=>by
  show List.lookup g [(f,v)]=_
  by_cases h:g=f
  ·have hb:(g==f)=true:=beq_iff_eq.mpr h
   simp only [List.lookup,hb,if_pos h]
  ·have hb:(g==f)=false:=beq_eq_false_iff_ne.mpr h
   simp only [List.lookup,hb,if_neg h]
 | (k,x)::r=>by
  have ih:=al f g v r
  rw [show au f v ((k,x)::r)=(if k=f then (k,v)::r else (k,x)::au f v r) from rfl]
  by_cases hk:k=f
  ·rw [if_pos hk]
   by_cases h:g=k
   ·have hb:(g==k)=true:=beq_iff_eq.mpr h
    simp only [List.lookup,hb,if_pos (h.trans hk)]
   ·have hb:(g==k)=false:=beq_eq_false_iff_ne.mpr h
    simp only [List.lookup,hb,if_neg (λe:g=f=>h (e.trans hk.symm))]
  ·rw [if_neg hk]
   by_cases h:g=k
   ·have hb:(g==k)=true:=beq_iff_eq.mpr h
    simp only [List.lookup,hb,if_neg (λe:g=f=>hk (h.symm.trans e))]
   ·have hb:(g==k)=false:=beq_eq_false_iff_ne.mpr h
    simp only [List.lookup,hb]
    exact ih
theorem jJ(f:Str)(v:V):∀fs:List (Str×V),f∈(au f v fs).map (·.1)/\∀g,g∈fs.map (·.1)->g∈(au f v fs).map (·.1)
 | []=>⟨by simp [au],λg h=>by simp at h⟩
 | (k,x)::r=>by
  obtain ⟨i1,i2⟩:=jJ f v r
  rw [show au f v ((k,x)::r)=(if k=f then (k,v)::r else (k,x)::au f v r) from rfl]
  by_cases hk:k=f
  ·rw [if_pos hk]
   subst hk
   exact ⟨by simp,λg h=>by simpa using h⟩
  ·rw [if_neg hk]
   refine ⟨?_,λg h=>?_⟩
   ·rw [List.map_cons]
    exact Θ _ i1
   ·rw [List.map_cons] at h ⊢
    rcases ϕ.mp h with e | e
    ·exact ϕ.mpr (.inl e)
    ·exact Θ _ (i2 g e)
theorem dh(f:Str)(v:V):∀fs:List (Str×V),(au f v fs).length<=fs.length+1
 | []=>by simp [au]
 | (k,x)::r=>by
  have ih:=dh f v r
  rw [show au f v ((k,x)::r)=(if k=f then (k,v)::r else (k,x)::au f v r) from rfl]
  by_cases hk:k=f
  ·rw [if_pos hk,List.length_cons,List.length_cons];omega
  ·rw [if_neg hk,List.length_cons,List.length_cons];omega
theorem RelO.some_of{v:V}{o:Option Value}(r:RelO (some v) o):∃u,o=some u/\RelV v u:=by
 cases o with
 | none=>exact (show False from r).elim
 | some u=>exact ⟨u,rfl,r⟩
theorem RelO.none_of{o:Option Value}(r:RelO none o):o=none:=by
 cases o with
 | none=>rfl
 | some u=>exact (show False from r).elim
theorem tX{v:V}{u:Value}(r:RelV v u):PySem.W.handedIn u=true:=by
 cases v with
 | non=>cases (show u=Value.none from r);rfl
 | bl b=>cases (show u=Value.bool b from r);rfl
 | int i=>obtain ⟨t,e⟩:=(show ∃t,u=Value.int i t from r);cases e;rfl
 | str x=>obtain ⟨t,e⟩:=(show ∃t,u=Value.str x t from r);cases e;rfl
 | byt b=>obtain ⟨t,e⟩:=(show ∃t,u=Value.bytes b t from r);cases e;rfl
 | flt b=>obtain ⟨t,e⟩:=(show ∃t,u=Value.float b t from r);cases e;rfl
 | ref a=>cases (show u=Value.ref a from r);rfl
 | ty n=>cases (show u=Value.type n from r);rfl
section
variable {P:Program}{w:World}{H H':Hp}{h h':Heap}{a C dx:Addr}{fs fs':List (Str×V)}
theorem kY(b:HOk P w H h)(e:H a=some (.ins C dx fs)):∃mA,ObjM h a dx C mA/\(∀f,RelO (fs.lookup f) (mA f))/\PySem.Within mA (fs.map (·.1))/\fs.length<=1000/\H dx=some (.own a):=by
 obtain ⟨d,z,g,i,mA,n,r,q⟩:=(show ObjOk P w H h a (.ins C dx fs) from b a _ e)
 exact ⟨mA,⟨i,n,g⟩,r,q,z,d⟩
end
structure Cls(K:Frag)(C:Addr):Prop where
 pg:PySem.W.plainGet K C Str.empty=true
 hd:PySem.W.hasDictIn K C=true
 po:PySem.W.plainOver K C=true
 sa:PySem.W.findIn K (.ref C) "__setattr__"=some (some (.builtin "object.__setattr__"))
theorem Cls.get{K:Frag}{C:Addr}(c:Cls K C)(f:Str):PySem.W.plainGet K C f=true:=c.pg
def NoAttr(K:Frag)(C:Addr)(f:Str):Prop:=PySem.W.findIn K (.ref C) f=some none
theorem NoAttr.taker{K:Frag}{C:Addr}{f:Str}(n:NoAttr K C f):PySem.W.takerIn K C f=some none:=by
 unfold PySem.W.takerIn
 rw [show PySem.W.findIn K (.ref C) f=some none from n]
 rfl
structure fm(K:Frag)(C:Addr)(m:Str)(f:Addr):Prop where
 at_:PySem.W.findIn K (.ref C) m=some (some (.ref f))
 fn:PySem.W.isFn K (.ref f)=true
 kp:PySem.W.keepIn K (.ref f)=true
section
variable {X:Cx}{pins:List (Addr×Obj)}{σ:St}{H:Hp}{s:Shared}{a C dx:Addr}{fs:List (Str×V)}{f:Str}{v:V}{A:Around}{E:Value->Shared->Prop}
theorem l9{b:Bool}{Q:Value->Shared->Prop}(I:Inv X pins σ H s)(e:H a=some (.ins C dx fs))(c:Cls X.K C)(n:NoAttr X.K C f)(l:fs.lookup f=some v)
  (h:∀u s',Inv X pins σ H s'->RelV v u->Q u s'):wpAny (model X.prog X.w) A (getAttr (.ref a) f b) Q E s:=by
 obtain ⟨g,O,r,_,_,_⟩:=kY I.hok e
 obtain ⟨u,i,d⟩:=RelO.some_of (v:=v) (o:=g f) (by rw [← l];exact r f)
 exact yw I.kIn O (c.get f) c.hd n i (tX d) (h u _ (I.tok _) d)
theorem iJ{m:Str}{g:Addr}{pl:Sem Bool}{Q:Value×List Value->Shared->Prop}(I:Inv X pins σ H s)(e:H a=some (.ins C dx fs))(c:Cls X.K C)(k:fm X.K C m g)(l:fs.lookup m=none)
  (h:Q (.ref g,[.ref a]) s):wpAny (model X.prog X.w) A (getMethod (.ref a) m pl) Q E s:=by
 obtain ⟨b,O,r,_,_,_⟩:=kY I.hok e
 have d:b m=none:=RelO.none_of (by rw [← l];exact r m)
 exact wu I.kIn O (c.get m) k.at_ k.fn d h
theorem lA{y:V}{u:Value}{Q:Unit->Shared->Prop}(I:Inv X pins σ H s)(e:H a=some (.ins C dx fs))(c:Cls X.K C)(n:NoAttr X.K C f)(P:fs.length<1000)(L:RelV y u)
  (h:∀s',Inv X pins σ (upd H a (.ins C dx (au f y fs))) s'->Q () s'):wpAny (model X.prog X.w) A (setAttr (.ref a) f u) Q E s:=by
 obtain ⟨i,O,r,j,_,l⟩:=kY I.hok e
 have m:(fs.map (·.1)).length<=sizeLine:=by rw [ν,sizeLine_eq];omega
 refine xn I.kIn O c.sa c.po n.taker c.hd j m λF d sb=>h _ ?_
 have D:∃o,F.get? dx=some o:=let ⟨o,_,_,e',_⟩:=d.ns;⟨o,e'⟩
 refine I.write (x:=a) (e:=dx) (by rw [e];exact ϰ) (.inr l) (λb q G z=>(sb.2 b G).trans z) D ?_
 refine ⟨by rw [ao O.ne];exact l,?_,O.ne,d.obj,_,d.ns,λg=>?_,λg J=>?_⟩
 ·have:=dh f y fs;omega
 ·show RelO ((au f y fs).lookup g) (if g=f then some u else i g)
  rw [al]
  by_cases q:g=f
  ·rw [if_pos q,if_pos q];exact L
  ·rw [if_neg q,if_neg q];exact r g
 ·by_cases q:g=f
  ·rw [q];exact (jJ f y fs).1
  ·refine (jJ f y fs).2 g (j g λz=>J ?_)
   show (if g=f then some u else i g)=none
   rw [if_neg q];exact z
theorem Inv.made(I:Inv X pins σ H s):Inv X pins σ (upd (upd H s.heap.objs.size (.own (s.heap.objs.size+1))) (s.heap.objs.size+1) (.ins C s.heap.objs.size []))
  {s with heap:=(s.heap.push PySem.W.emptyDict).push (PySem.W.instObj C s.heap.objs.size)}:=by
 have d:(s.heap.push PySem.W.emptyDict).get? s.heap.objs.size=some PySem.W.emptyDict:=ψ s.heap rfl
 have g:((s.heap.push PySem.W.emptyDict).push (PySem.W.instObj C s.heap.objs.size)).get? (s.heap.objs.size+1)=some (PySem.W.instObj C s.heap.objs.size):=by
  have:=ψ (s.heap.push PySem.W.emptyDict) (o:=PySem.W.instObj C s.heap.objs.size) rfl
  rwa [Heap.size_push] at this
 have h:(s.heap.push PySem.W.emptyDict).Ns s.heap.objs.size (λ_=>none):=⟨PySem.W.emptyDict,#[],_,d,ϱ,(λe j=>absurd j (by simp)),λ_=>rfl⟩
 have i:=I.laid (a:=s.heap.objs.size) (o:=.own (s.heap.objs.size+1)) (h':=s.heap.push PySem.W.emptyDict) (t':=s.toks) (λb u q=>ρ _ q) (ι _) ⟨_,d⟩
 refine i.laid (a:=s.heap.objs.size+1) (o:=.ins C s.heap.objs.size []) (t':=s.toks) (λb u q=>ρ _ q) (Nat.le_of_eq (Heap.size_push _ _)) ?_
 have f:s.heap.objs.size≠s.heap.objs.size+1:=Φ (Nat.lt_succ_self _)
 refine ⟨by rw [ao f,ae],ϖ _,f,g,λ_=>none,(Heap.Ns1.of_empty h).at λo q=>ρ _ q,λ_=>ϰ,λy l=>absurd rfl l⟩
theorem yF{prog:Program}{w:World}{env:Env}{e:Expr}{f:Str}{pos:Pos}{s:Shared}{Q:Value->Shared->Prop}(hb:attributeBase e f env (eval e env)=eval e env)
  (h:wpAny (model prog w) A (eval e env) (λo s₁=>wpAny (model prog w) A (getAttr o f true) Q E s₁) E s):wpAny (model prog w) A (eval (.Attribute e f pos) env) Q E s :=
 Attribute_any_ h (by rw [arm_eval_Attribute,hb])
end
inductive XF (K:Frag) (f:Str) (Q:VK) (x:V) (H:Hp):Prop|mk a C dx fs v:x=.ref a->H a=some (.ins C dx fs)->Cls K C->NoAttr K C f->fs.lookup f=some v->Q v H->XF K f Q x H
def sP(K:Frag)(ta:TE)(f:Str):TE:=fun σ H Q=>ta σ H λx H1=>XF K f Q x H1
def Ch(K:Frag)(ta tv:TE)(f:Str):TS:=λD σ H=>tv σ H λy H1=>ta σ H1 λx H2=>∃a C dx fs,x=.ref a/\H2 a=some (.ins C dx fs)/\Cls K C/\NoAttr K C f/\fs.length<1000 /\
 D.nx σ (upd H2 a (.ins C dx (au f y fs)))
def B8(X:Cx)(op:Operator)(rd:V->V->Hp->VK->Prop):Prop :=
 ∀(pins:List (Addr×Obj)) (s:Shared) (σ:St) (H:Hp) (x y:V) (u v:Value) (Q:VK),Inv X pins σ H s->RelV x u->RelV y v->rd x y H Q->wpAny (model X.prog X.w) X.A (inplaceOp op u v) (EP X pins σ Q) X.xe s
def xp(K:Frag)(ta tv:TE)(rd:V->V->Hp->VK->Prop)(f:Str):TS:=λD σ H=>ta σ H λx H1=>∃a C dx fs v,x=.ref a/\H1 a=some (.ins C dx fs)/\Cls K C/\NoAttr K C f/\fs.lookup f=some v /\
 tv σ H1 λy H2=>rd v y H2 λz H3=>∃dx' fs',H3 a=some (.ins C dx' fs')/\fs'.length<1000/\D.nx σ (upd H3 a (.ins C dx' (au f z fs')))
section
variable {X:Cx}{o e value:Expr}{f:Str}{pos pos' tpos:Pos}{ta tv:TE}
theorem ap(o:PE X e ta)(r:attributeBase e f X.env (eval e X.env)=eval e X.env):PE X (.Attribute e f pos) (sP X.K ta f):=by
 intro b s σ H Q I h
 refine yF r (thn (o b s σ H _ I h) λu w ⟨x,H1,d,g,a,C,y,fs,v,ex,i,c,n,l,q⟩=>?_)
 subst ex
 obtain rfl:u=Value.ref a:=g
 exact l9 d i c n l λz D j m=>⟨v,H1,j,m,q⟩
theorem aP(w:PE X o ta)(z:PE X value tv)(F:swapsWith value (some (.Attribute o f pos')) pos.line X.env=pure false):PS X (.Assign [.Attribute o f pos'] value pos) (Ch X.K ta tv f):=by
 intro b s σ H D I h
 refine plainObj_wpAny_Assign_Attribute (thn (z b s σ H _ I h) λu d ⟨y,H1,e,g,q⟩=>thn (w b d σ H1 _ e q) λov G ⟨x,J,i,j,a,C,L,fs,ex,m,c,n,l,q2⟩=>?_) F
 subst ex
 obtain rfl:ov=Value.ref a:=j
 exact lA i m c n l g λO r=>⟨σ,_,r,q2⟩
theorem mT{g:Operator}{i:V->V->Hp->VK->Prop}(ha:PE X o ta)(hv:PE X value tv)(e:B8 X g i):PS X (.AugAssign (.Attribute o f tpos) g value pos) (xp X.K ta tv i f):=by
 intro b s σ H D I h
 refine wpAny_AugAssign_AttributeAny (thn (ha b s σ H _ I h) λov s1 ⟨x,H1,j,m,a,C,dx,fs,v,ex,r,c,n,l,q⟩=>?_)
 subst ex
 obtain rfl:ov=Value.ref a:=m
 refine l9 j r c n l λu w F G=>thn (hv b w σ H1 _ F q) λJ L ⟨y,O,P,Q,q3⟩=>thn (e b L σ O v y u J _ P G Q q3) λw4 s4 ⟨z,H3,U,W,Y,Z,d,l',q4⟩=>?_
 exact lA U d c n l' W λs5 I5=>⟨σ,_,I5,q4⟩
def Cl:V->V->Hp->VK->Prop:=λx y H Q=>∃i j,x=.int i/\y=.int j/\Q (.int (i+j)) H
theorem wp:B8 X .Add Cl:=by
 rintro d s σ H x y u v Q I e f ⟨i,j,rfl,rfl,q⟩
 obtain ⟨t,rfl⟩:=(show ∃t,u=Value.int i t from e)
 obtain ⟨b,rfl⟩:=(show ∃b,v=Value.int j b from f)
 exact PyProof.Rows.iadd_int ⟨.int (i+j),H,I.tok _,⟨_,ϱ⟩,q⟩
end
section
variable {X:Cx}{pins:List (Addr×Obj)}{σ:St}{H:Hp}{s:Shared}{A:Around}{E:Value->Shared->Prop}{Q:Value->Shared->Prop}{c:Value}{b:Bool}
inductive TyOf (K:Frag) (H:Hp):V->Value->Prop where
 | non:TyOf K H .non (.type "NoneType")
 | bl (x:Bool):TyOf K H (.bl x) (.type "bool")
 | int (i:Int):TyOf K H (.int i) (.type "int")
 | str (x:Str):TyOf K H (.str x) (.type "str")
 | flt (x:UInt64):TyOf K H (.flt x) (.type "float")
 | lst {a:Addr} {xs:List V} (e:H a=some (.lst xs)):TyOf K H (.ref a) (.type "list")
 | frz {a:Addr} {o:Obj} {xs:List V} (e:H a=some (.frz o (.lst xs))):TyOf K H (.ref a) (.type "list")
 | tup {a:Addr} {xs:List V} (e:H a=some (.tup xs)):TyOf K H (.ref a) (.type "tuple")
 | dK {a:Addr} {kvs:List (Key×V)} (e:H a=some (.dK kvs)):TyOf K H (.ref a) (.type "dict")
 | dT {a:Addr} {kvs:List (List Key×V)} (e:H a=some (.dT kvs)):TyOf K H (.ref a) (.type "dict")
 | ins {a C dx:Addr} {fs:List (Str×V)} (e:H a=some (.ins C dx fs)) (cl:Cls K C) (ha:PySem.W.findIn K (.ref C) "__class__"=some (some (.builtin "object.__class__")))
   (hn:PySem.W.specialIn K (.builtin "object.__class__") "__get__"=some (some (.builtin "getset_descriptor.__get__"))) (htk:PySem.W.takesIn K (.builtin "object.__class__")=some true)
   (hm:PySem.W.mroIn K C (.type "object")=some true):TyOf K H (.ref a) (.ref C)
theorem tU{x:V}{u t:Value}(I:Inv X pins σ H s)(d:RelV x u)(m:TyOf X.K H x t)(e:PySem.W.kitOne X.K t c=some b)(h:∀tk,Q (.bool b) {s with toks:=tk}) :
  wpAny (model X.prog X.w) A (call (.builtin "isinstance") [u,c]) Q E s:=by
 cases m with
 | non=>cases (show u=Value.none from d);exact PySem.W.kia_one PySem.W.kitx_none I.kIn ϰ e (λz=>nomatch z) h
 | bl y=>cases (show u=Value.bool y from d);exact PySem.W.kia_one PySem.W.kitx_bool I.kIn ϰ e (λz=>nomatch z) h
 | int i=>obtain ⟨t,q⟩:=(show ∃t,u=Value.int i t from d);cases q;exact PySem.W.kia_one PySem.W.kitx_int I.kIn ϰ e (λz=>nomatch z) h
 | str y=>obtain ⟨t,q⟩:=(show ∃t,u=Value.str y t from d);cases q;exact PySem.W.kia_one PySem.W.kitx_str I.kIn ϰ e (λz=>nomatch z) h
 | flt y=>obtain ⟨t,q⟩:=(show ∃t,u=Value.float y t from d);cases q;exact PySem.W.kia_one PySem.W.kitx_float I.kIn ϰ e (λz=>nomatch z) h
 | @lst a f ea =>
  cases (show u=Value.ref a from d)
  obtain ⟨_,_,n,_,h1⟩:=(show ObjOk X.prog X.w H s.heap a (.lst f) from I.hok a _ ea)
  exact PySem.W.kia_one PySem.W.kitx_list I.kIn ⟨_,h1,ϱ⟩ e (λz=>nomatch z) h
 | @frz a ob f ea =>
  cases (show u=Value.ref a from d)
  obtain ⟨_,_,_,n,_,h1⟩:=(show ObjOk X.prog X.w H s.heap a (.frz ob (.lst f)) from I.hok a _ ea)
  exact PySem.W.kia_one PySem.W.kitx_list I.kIn ⟨_,h1,ϱ⟩ e (λz=>nomatch z) h
 | @tup a f ea =>
  cases (show u=Value.ref a from d)
  obtain ⟨_,_,_,p⟩:=(show ObjOk X.prog X.w H s.heap a (.tup f) from I.hok a _ ea)
  obtain ⟨o,h1,g,_⟩:=p
  exact PySem.W.kia_one PySem.W.kitx_tuple I.kIn ⟨o,h1,g⟩ e (λz=>nomatch z) h
 | @dK a kvs ea =>
  cases (show u=Value.ref a from d)
  obtain ⟨_,_,vs,_,p⟩:=(show ObjOk X.prog X.w H s.heap a (.dK kvs) from I.hok a _ ea)
  obtain ⟨o,j,l,h1,g,_⟩:=p
  exact PySem.W.kia_one PySem.W.kitx_dict I.kIn ⟨o,h1,g.1⟩ e (λz=>nomatch z) h
 | @dT a kvs ea =>
  cases (show u=Value.ref a from d)
  obtain ⟨_,_,f,_,o,j,l,h1,g,_⟩:=(show ObjOk X.prog X.w H s.heap a (.dT kvs) from I.hok a _ ea)
  exact PySem.W.kia_one PySem.W.kitx_dict I.kIn ⟨o,h1,g.1⟩ e (λz=>nomatch z) h
 | @ins a C dx fs ea cl ha hn htk hm =>
  cases (show u=Value.ref a from d)
  obtain ⟨r,O,_⟩:=kY I.hok ea
  obtain ⟨od,J,_⟩:=O.look
  exact PySem.W.kia_one (PySem.W.kitx_own (cl.get _) cl.hd ha hn htk hm) I.kIn J e (λz=>nomatch z) h
end
structure Room(k:Nat)(A:Around):Prop where
 hd:A.handled=none
 dp:A.depth+3*k+5<recursionLimit
 un:A.units+16*k+200<cLine
theorem Room.mono{j k:Nat}{A:Around}(r:Room k A)(h:j<=k):Room j A:=⟨r.hd,by have:=r.dp;omega,by have:=r.un;omega⟩
theorem Room.deeper{k:Nat}{A:Around}(r:Room (k+1) A)(env:Env):Room k (A.deeper env) :=
 ⟨r.hd,by have:=r.dp;show A.depth+1+3*k+5<_;omega,by have:=r.un;show A.units+3+16*k+200<_;omega⟩
theorem qY{A:Around}{C:Addr}{us:List Value}{b:List (Str×Value)}:(A.under (.builtin "type.__call__" ⟨.ref C::us,b⟩)).depth=A.depth+1:=by
 first | rfl | simp [Around.under,Code.weight,Code.isCreation,Code.isGuard,Code.isCaller,Code.frames,Code.isFrame,guardIds]
theorem qX{A:Around}{C:Addr}{us:List Value}{b:List (Str×Value)}:(A.under (.builtin "type.__call__" ⟨.ref C::us,b⟩)).units=A.units+1:=by
 first | rfl | simp [Around.under,Code.cUnits,Code.frames,Code.isFrame]
theorem Room.make{k:Nat}{A:Around}(r:Room (k+1) A)(C:Addr)(us:List Value)(kw:List (Str×Value)):Room k (A.under (.builtin "type.__call__" ⟨.ref C::us,kw⟩)) :=
 ⟨r.hd,by have:=r.dp;rw [qY];omega,by have:=r.un;rw [qX];omega⟩
theorem Room.depth{k:Nat}{A:Around}(r:Room k A):A.depth<recursionLimit:=by have:=r.dp;omega
theorem Room.units{k:Nat}{A:Around}(r:Room k A):A.units+64<cLine:=by have:=r.un;omega
def uB:TA:=λ_ H Q=>Q [] H
def yM(ta:TE)(tr:TA):TA:=fun σ H Q=>ta σ H λx H1=>tr σ H1 λxs H2=>Q (x::xs) H2
section
variable {X:Cx}{e:Expr}{es:List Expr}{te:TE}{t:TA}{pos:Pos}
theorem ag:PA X [] uB:=λ_ _ _ _ H Q I h=>Calls.spliced_nil ⟨[],H,I,.nil,h⟩
theorem ac(o:PE X e te)(q:PA X es t)(r:starEach (e::es) X.env=(false,eval e X.env)::starEach es X.env:=by rfl):PA X (e::es) (yM te t):=by
 intro pos b s σ H Q I h
 rw [r]
 show wpAny _ _ (spliced ((false,eval e X.env)::backTo pos (starEach es X.env))) _ _ s
 refine Calls.spliced_cons (thn (o b s σ H _ I h) λu d ⟨x,H1,f,g,q1⟩=>?_)
 exact thn (q pos b d σ H1 _ f q1) λw y ⟨i,j,l,m,q2⟩=>⟨x::i,j,l,.cons g m,q2⟩
def B9(t:TA):TE:=fun σ H Q=>t σ H λxs H1=>xs.length<=sizeLine/\∀p,H1 p=none->Q (.ref p) (upd H1 p (.tup xs))
def Ce(t:TA):TE:=fun σ H Q=>t σ H λxs H1=>xs.length<=sizeLine/\∀p,H1 p=none->Q (.ref p) (upd H1 p (.lst xs))
theorem aF{x1}(h:PA X es t):PE X (.Tuple es x1 pos) (B9 t):=by
 intro d s σ H Q I l
 refine wpAny_Tuple_spliced (thn (h pos d s σ H _ I l) λi f ⟨j,H1,g,r,z,q⟩=>⟨by rw [← r.length];exact z,?_⟩)
 have hf:H1 f.heap.objs.size=none:=g.hok.fresh (ι _)
 refine ⟨.ref f.heap.objs.size,upd H1 f.heap.objs.size (.tup j),g.laid (t':=f.toks) (λb u e=>ρ _ e) (ι _) ?_,ϱ,q _ hf⟩
 exact ⟨z,i,r,⟨_,ψ _ rfl,ϱ,_,ϱ⟩⟩
theorem ck(h:PA X es t):PE X (.List es pos) (Ce t):=by
 intro d s σ H Q I l
 refine wpAny_List_spliced (thn (h pos d s σ H _ I l) λi f ⟨j,H1,g,r,z,q⟩=>⟨by rw [← r.length];exact z,?_⟩)
 have hf:H1 f.heap.objs.size=none:=g.hok.fresh (ι _)
 refine ⟨.ref f.heap.objs.size,upd H1 f.heap.objs.size (.lst j),g.laid (t':=f.toks) (λb u e=>ρ _ e) (ι _) ?_,ϱ,q _ hf⟩
 exact ⟨z,i,0,r,ψ _ rfl⟩
end
abbrev Sp:=List V->Hp->VK->XK->Prop
abbrev CXT:=List Env->Hp->Shared->XK->Value->Shared->Prop
structure Env0(P:Program)(w:World)(K:Frag)(mg:Str->Option Value)(base:Heap)(A:Around)(outer:List Env)(s:Shared)(H:Hp):Prop where
 frames:A.frames=some outer
 mod:Mod K mg base
 bs:∀b o,base.get? b=some o->s.heap.get? b=some o/\H b=none
 bsz:base.objs.size<=s.heap.objs.size
 funs:s.heap.FunFrames base outer
 frf:∀b∈frs outer,H b=none
 hok:HOk P w H s.heap
 bare:AllBare s.gens
def CE(outer:List Env)(P:Program)(w:World)(H:Hp)(s:Shared)(Q:VK)(u:Value)(s':Shared):Prop :=
 ∃v H',s'.os=s.os/\AllBare s'.gens/\Un (frs outer) [] H H' s.heap s'.heap/\HOk P w H' s'.heap/\RelV v u/\Q v H'
def CR(CX:CXT)(outer:List Env)(P:Program)(w:World)(H:Hp)(s:Shared)(Q:VK)(E:XK)(r:Result)(s':Shared):Prop :=
 match r with
 | .ok (.ret u)=>CE outer P w H s Q u s'
 | .ok _=>False
 | .error e=>CX outer H s E e s'
structure FnOk(P:Program)(w:World)(K:Frag)(mg:Str->Option Value)(base:Heap)(CX:CXT)(k:Nat)(f:Addr)(fd:FuncData)(ps:List Str)(sp:Sp):Prop where
 len:∀vs H Q E,sp vs H Q E->vs.length=ps.length
 run:∀(A:Around) (outer:List Env) (s:Shared) (H:Hp) (args:Args) (us:List Value) (vs:List V) (Q:VK) (E:XK),Room k A->Env0 P w K mg base A outer s H->BindsTo s fd args (ps.zip us)->Vals vs us->sp vs H Q E ->
  codeAny (model P w) A (.call (.ref f) args) (CR CX outer P w H s Q E) s
theorem FnOk.mono{P:Program}{w:World}{K:Frag}{mg:Str->Option Value}{base:Heap}{CX:CXT}{j k:Nat}{f:Addr}{fd:FuncData}{ps:List Str}{sp:Sp}(F:FnOk P w K mg base CX j f fd ps sp)(h:j<=k) :
  FnOk P w K mg base CX k f fd ps sp:=⟨F.len,λA outer s H args us vs Q E hr=>F.run A outer s H args us vs Q E (hr.mono h)⟩
theorem FnOk.imp{P:Program}{w:World}{K:Frag}{mg:Str->Option Value}{base:Heap}{CX:CXT}{k:Nat}{f:Addr}{fd:FuncData}{ps:List Str}{sp sp':Sp}(F:FnOk P w K mg base CX k f fd ps sp)
  (h:∀vs H Q E,sp' vs H Q E->sp vs H Q E):FnOk P w K mg base CX k f fd ps sp' :=
 ⟨λvs H Q E q=>F.len vs H Q E (h _ _ _ _ q),λA outer s H args us vs Q E hr he hb hv hs=>F.run A outer s H args us vs Q E hr he hb hv (h _ _ _ _ hs)⟩
theorem Env0.make{P:Program}{w:World}{K:Frag}{mg:Str->Option Value}{base:Heap}{A:Around}{outer:List Env}{s:Shared}{H:Hp}(e:Env0 P w K mg base A outer s H)(C:Addr)(us:List Value)(kw:List (Str×Value)) :
  Env0 P w K mg base (A.under (.builtin "type.__call__" ⟨.ref C::us,kw⟩)) outer s H:=⟨by first | exact e.frames | (simpa [Around.under,Code.envs,Code.isFrame,pushEnvs] using e.frames),e.mod,e.bs,e.bsz,e.funs,e.frf,e.hok,e.bare⟩
section
variable {X:Cx}{pins:List (Addr×Obj)}{σ:St}{H:Hp}{s s':Shared}
theorem Inv.env0(I:Inv X pins σ H s):Env0 X.prog X.w X.K X.mg X.base X.A X.stack s H :=
 ⟨I.ok.frames,I.ok.mod,I.bs,Λ I.ok.bsz I.sz,I.stack,I.stkFree,I.hok,I.bare⟩
theorem Inv.after{Q:VK}{u:Value}(I:Inv X pins σ H s)(h:CE X.stack X.prog X.w H s Q u s'):EP X pins σ Q u s':=by
 obtain ⟨v,j,l,e,un,f,r,q⟩:=h
 obtain ⟨m,g,d,t,i⟩:=s'
 obtain rfl:i=s.os:=l
 exact ⟨v,j,I.call (h':=m) (g':=g) (d':=d) (t':=t) (ch:=[]) un f e (λb z=>absurd z (by simp)),r,q⟩
end
def uC(sp:Sp)(dvs:List V)(E:XK)(t:TA):TE:=fun σ H Q=>t σ H λvs H1=>sp (vs++dvs) H1 Q E
inductive XM (C:Addr) (m:Str) (x:V) (H:Hp) (P:Prop):Prop|mk a dx fs:x=.ref a->H a=some (.ins C dx fs)->fs.lookup m=none->P->XM C m x H P
def rK(C:Addr)(m:Str)(sp:Sp)(dvs:List V)(E:XK)(ta:TE)(t:TA):TE:=fun σ H Q=>ta σ H λx H1=>XM C m x H1 (t σ H1 λvs H2=>sp (x::(vs++dvs)) H2 Q E)
def yL(C:Addr)(sp:Sp)(dvs:List V)(E:XK)(t:TA):TE:=fun σ H Q=>t σ H λvs H1=>∀x dx,H1 x=none->H1 dx=none->dx≠x ->
 sp (.ref x::(vs++dvs)) (upd (upd H1 dx (.own x)) x (.ins C dx [])) (λv H2=>v=.non/\Q (.ref x) H2) E
def Binds(K:Frag)(fd:FuncData)(ps:List Str)(ds:List Value):Prop :=
 ∀(s:Shared) (us:List Value),K.In s.heap->(us++ds).length=ps.length->BindsTo s fd ⟨us,[]⟩ (ps.zip (us++ds))
theorem Binds.all{K:Frag}{fd:FuncData}{ps:List Str}(h:∀us:List Value,us.length=ps.length->bindArgs fd ⟨us,[]⟩=pure (ps.zip us)):Binds K fd ps []:=λs us _ hl=>by
 rw [List.append_nil] at hl ⊢
 exact .of_eq (h us hl)
def cV(CX:CXT)(X:Cx)(E:XK):Prop:=∀(pins:List (Addr×Obj)) (σ:St) (H:Hp) (s:Shared) (e:Value) (s':Shared),Inv X pins σ H s->CX X.stack H s E e s'->X.xe e s'
section
variable {X:Cx}{CX:CXT}{k:Nat}{f C:Addr}{fd:FuncData}{ps:List Str}{sp:Sp}{dvs:List V}{ds:List Value}{E:XK}{x m:Str}{p pos apos:Pos}{e o:Expr}{es:List Expr}{ta:TE}{t:TA}
theorem oM{b:List (Addr×Obj)}{σ:St}{H:Hp}{s:Shared}{Q:VK}{us:List Value}{vs:List V}(F:FnOk X.prog X.w X.K X.mg X.base CX k f fd ps sp)(l:Room k X.A)(m:Binds X.K fd ps ds)(o:Vals dvs ds)(q:cV CX X E)
  (I:Inv X b σ H s)(r:Vals vs us)(h:sp (vs++dvs) H Q E):wpAny (model X.prog X.w) X.A (call (.ref f) us) (EP X b σ Q) X.xe s:=by
 have g:Vals (vs++dvs) (us++ds):=r.append o
 have i:(us++ds).length=ps.length:=by rw [← g.length];exact F.len _ _ _ _ h
 refine wpAny_call (codeAny_mono (F.run X.A X.stack s H ⟨us,[]⟩ (us++ds) (vs++dvs) Q E l I.env0 (m s us I.kIn i) g h) λr j d=>?_)
 cases r with
 | error e=>exact q b σ H s e j I d
 | ok fl =>
  cases fl with
  | ret u=>exact I.after d
  | next=>exact False.elim d
  | brk=>exact False.elim d
  | cont=>exact False.elim d
theorem rY(F:FnOk X.prog X.w X.K X.mg X.base CX k f fd ps sp)(j:Room k X.A)(l:Gl X x)(m:X.mg x=some (.ref f))(o:PySem.W.keepIn X.K (.ref f)=true)(u:Binds X.K fd ps ds)(y:Vals dvs ds)(z:cV CX X E)
  (C:PA X (e::es) t)(d:(x==("__debug__":Str))=false:=by decide)(D:starEach (e::es) X.env=(false,eval e X.env)::starEach es X.env:=by rfl)(g:(backTo pos (starEach es X.env)).any (·.1)=false:=by rfl) :
  PE X (.Call (.Name x p) (e::es) [] pos) (uC sp dvs E t):=by
 intro b s σ H Q I h
 refine wpAny_Call_Name_kw (jc I l m ?_ d)
 refine PySem.W.callWith_K (h₀:=X.base) I.ok.mod.kin o (thn (C pos b s σ H _ I h) λG J ⟨vs,H1,i,r,q⟩=>⟨i.kIn,?_⟩) D g
 exact oM F j u y z i r q
theorem ib{pl:Sem Bool}(J:PE X o ta)(c:Cls X.K C)(y:fm X.K C m f)(F:FnOk X.prog X.w X.K X.mg X.base CX k f fd ps sp)(L:Room k X.A)(O:Binds X.K fd ps ds)(P:Vals dvs ds)(U:cV CX X E)(Y:PA X (e::es) t)
  (d:starEach (e::es) X.env=(false,eval e X.env)::starEach es X.env:=by rfl)(g:(backTo pos (starEach es X.env)).any (·.1)=false:=by rfl)
  (Z:eval (.Call (.Attribute o m apos) (e::es) [] pos) X.env=(do
   let ov ← eval o X.env
   standAt apos.atName
   let (f,first) ← holding [ov] (getMethod ov m pl)
   callWith pos f first (backTo pos (starEach (e::es) X.env)) (backToKw pos (keywordEach [] X.env))):=by rfl) :
  PE X (.Call (.Attribute o m apos) (e::es) [] pos) (rK C m sp dvs E ta t):=by
 intro b s σ H Q I h
 refine PySem.W.methodCall_KW (pl:=pl) (thn (J b s σ H _ I h) λu z ⟨x,H1,i,D,a,dx,fs,ex,G,l,q⟩=>?_) Z
 subst ex
 obtain rfl:u=Value.ref a:=D
 refine iJ i G c y l ?_
 refine PySem.W.callWith_K (first:=[.ref a]) (h₀:=X.base) I.ok.mod.kin y.kp (thn (Y pos b z σ H1 _ i q) λus s2 ⟨vs,H2,j,r,q2⟩=>⟨j.kIn,?_⟩) d g
 exact oM (us:=.ref a::us) (vs:=.ref a::vs) F L O P U j (.cons rfl r) q2
theorem iY{pl:Sem Bool}(j:PE X o ta)(c:Cls X.K C)(e:fm X.K C m f)(F:FnOk X.prog X.w X.K X.mg X.base CX k f fd ps sp)(r:Room k X.A)(y:Binds X.K fd ps ds)(z:Vals dvs ds)(D:cV CX X E)
  (G:eval (.Call (.Attribute o m apos) [] [] pos) X.env=(do
   let ov ← eval o X.env
   standAt apos.atName
   let (f,first) ← holding [ov] (getMethod ov m pl)
   callWith pos f first (backTo pos (starEach [] X.env)) (backToKw pos (keywordEach [] X.env))):=by rfl) :
  PE X (.Call (.Attribute o m apos) [] [] pos) (rK C m sp dvs E ta uB):=by
 intro b s σ H Q I h
 refine PySem.W.methodCall_KW (pl:=pl) (thn (j b s σ H _ I h) λu J ⟨x,H1,d,g,a,L,fs,ex,i,l,q⟩=>?_) G
 subst ex
 obtain rfl:u=Value.ref a:=g
 refine iJ d i c e l ?_
 exact PySem.W.callWith_K0 (first:=[.ref a]) d.kIn e.kp (oM (us:=[.ref a]) (vs:=[.ref a]) F r y z D d (.cons rfl .nil) q)
structure Mk(K:Frag)(C f:Addr):Prop where
 makes:PySem.W.makesIn K C=true
 init:PySem.W.findIn K (.ref C) "__init__"=some (some (.ref f))
 fn:PySem.W.isFn K (.ref f)=true
 kp:PySem.W.keepIn K (.ref C)=true
theorem pJ{d:List (Addr×Obj)}{σ:St}{H:Hp}{s:Shared}{Q:VK}{us:List Value}{vs:List V}(M:Mk X.K C f)(F:FnOk X.prog X.w X.K X.mg X.base CX k f fd ps sp)(D:Room (k+1) X.A)(G:Binds X.K fd ps ds)(J:Vals dvs ds)
  (L:cV CX X E)(I:Inv X d σ H s)(r:Vals vs us)
  (h:∀x dx,H x=none->H dx=none->dx≠x->sp (.ref x::(vs++dvs)) (upd (upd H dx (.own x)) x (.ins C dx [])) (λv H2=>v=.non/\Q (.ref x) H2) E) :
  wpAny (model X.prog X.w) X.A (call (.ref C) us) (EP X d σ Q) X.xe s:=by
 have i:=h (s.heap.objs.size+1) s.heap.objs.size (I.hok.fresh (Nat.le_succ _)) (I.hok.fresh (ι _)) (Φ (Nat.lt_succ_self _))
 have g:=Inv.made (C:=C) I
 have j:Vals (V.ref (s.heap.objs.size+1)::(vs++dvs)) (Value.ref (s.heap.objs.size+1)::(us++ds)):=.cons rfl (r.append J)
 have y:(Value.ref (s.heap.objs.size+1)::us++ds).length=ps.length:=by
  have e:=j.length
  rw [F.len _ _ _ _ i] at e
  exact e.symm
 refine wpAny_call (wg (f:=f) I.kIn M.makes M.init (beq_iff_eq.mp M.fn) (codeAny_mono (F.run _ X.stack _ _ ⟨Value.ref (s.heap.objs.size+1)::us,[]⟩ (Value.ref (s.heap.objs.size+1)::(us++ds)) _ _ E (D.make C us [])
  (g.env0.make C us []) (G _ (Value.ref (s.heap.objs.size+1)::us) g.kIn y) j i) λr z b=>?_))
 cases r with
 | error e=>exact L d σ _ _ e z g b
 | ok fl =>
  cases fl with
  | ret u =>
   obtain ⟨v,l,m,o,q,q3⟩:=g.after b
   subst q
   exact ⟨o,⟨V.ref (s.heap.objs.size+1),l,m,ϱ,q3⟩⟩
  | next=>exact False.elim b
  | brk=>exact False.elim b
  | cont=>exact False.elim b
theorem aX(M:Mk X.K C f)(F:FnOk X.prog X.w X.K X.mg X.base CX k f fd ps sp)(j:Room (k+1) X.A)(l:Gl X x)(m:X.mg x=some (.ref C))(o:Binds X.K fd ps ds)(u:Vals dvs ds)(y:cV CX X E)
  (z:PA X (e::es) t)(d:(x==("__debug__":Str))=false:=by decide)(D:starEach (e::es) X.env=(false,eval e X.env)::starEach es X.env:=by rfl)(g:(backTo pos (starEach es X.env)).any (·.1)=false:=by rfl) :
  PE X (.Call (.Name x p) (e::es) [] pos) (yL C sp dvs E t):=by
 intro b s σ H Q I h
 refine wpAny_Call_Name_kw (jc I l m ?_ d)
 refine PySem.W.callWith_K (h₀:=X.base) I.ok.mod.kin M.kp (thn (z pos b s σ H _ I h) λG J ⟨vs,H1,i,r,q⟩=>⟨i.kIn,?_⟩) D g
 exact pJ M F j o u y i r q
theorem vc(M:Mk X.K C f)(F:FnOk X.prog X.w X.K X.mg X.base CX k f fd ps sp)(e:Room (k+1) X.A)(g:Gl X x)(i:X.mg x=some (.ref C))(j:Binds X.K fd ps ds)(l:Vals dvs ds)(m:cV CX X E)
  (b:(x==("__debug__":Str))=false:=by decide):PE X (.Call (.Name x p) [] [] pos) (yL C sp dvs E uB):=by
 intro d s σ H Q I h
 refine wpAny_Call_Name_kw (jc I g i ?_ b)
 exact PySem.W.callWith_K0 I.kIn M.kp (pJ (us:=[]) M F e j l m I .nil h)
end
structure am(N P:List Str)(sc:Scope):Prop where
 kind:sc.kind=.function
 co:sc.isCoroutine=false
 gen:sc.isGenerator=false
 nd:N.Nodup
 pre:N.take P.length=P
 par:∀x∈P,sc.names.lookup x=some .local\/sc.names.lookup x=some .cell
 nofree:∀y∈sc.names,y.2≠.free
theorem nK{kindOf:Str->Option NameKind}{x:Str}:∀{binds:List (Str×Value)} {m:Str->Option Value},(∀v,(x,v)∉binds)->bindL kindOf binds m x=m x
 | [],_,_=>rfl
 | (n,v)::r,m,h=>by
  unfold bindL
  rw [nK λw hw=>h w (Θ _ hw)]
  split
  ·have:x≠n:=by rintro rfl;exact h v Ω
   simp [this]
  ·rfl
theorem nO{kindOf:Str->Option NameKind}{x:Str}:∀{binds:List (Str×Value)} {m:Str->Option Value},(∀v,(x,v)∉binds)->bindC kindOf binds m x=m x
 | [],_,_=>rfl
 | (n,v)::r,m,h=>by
  unfold bindC
  rw [nO λw hw=>h w (Θ _ hw)]
  split
  ·rfl
  ·have:x≠n:=by rintro rfl;exact h v Ω
   simp [this]
theorem nN{kindOf:Str->Option NameKind}{x:Str}{v:Value}:∀{P:List Str} {vs:List Value} {i:Nat} {m:Str->Option Value},P.Nodup->P[i]?=some x->vs[i]?=some v->kindOf x=some .local ->
  bindL kindOf (P.zip vs) m x=some v
 | [],_,_,_,_,h,_,_=>by simp at h
 | _::_,[],_,_,_,_,h,_=>by simp at h
 | p::P,w::vs,0,m,nd,h1,h2,hk=>by
  simp at h1 h2;subst h1;subst h2
  show bindL kindOf ((p,w)::P.zip vs) m p=_
  unfold bindL
  rw [nK λv hv=>(List.nodup_cons.mp nd).1 (List.of_mem_zip hv).1,if_pos hk]
  simp
 | p::P,w::vs,i+1,m,nd,h1,h2,hk=>by
  show bindL kindOf ((p,w)::P.zip vs) m x=_
  unfold bindL
  exact nN (i:=i) (List.nodup_cons.mp nd).2 (by simpa using h1) (by simpa using h2) hk
theorem nQ{kindOf:Str->Option NameKind}{x:Str}{v:Value}:∀{P:List Str} {vs:List Value} {i:Nat} {m:Str->Option Value},P.Nodup->P[i]?=some x->vs[i]?=some v->kindOf x≠some .local ->
  bindC kindOf (P.zip vs) m x=some v
 | [],_,_,_,_,h,_,_=>by simp at h
 | _::_,[],_,_,_,_,h,_=>by simp at h
 | p::P,w::vs,0,m,nd,h1,h2,hk=>by
  simp at h1 h2;subst h1;subst h2
  show bindC kindOf ((p,w)::P.zip vs) m p=_
  unfold bindC
  rw [nO λv hv=>(List.nodup_cons.mp nd).1 (List.of_mem_zip hv).1,if_neg hk]
  simp
 | p::P,w::vs,i+1,m,nd,h1,h2,hk=>by
  show bindC kindOf ((p,w)::P.zip vs) m x=_
  unfold bindC
  exact nQ (i:=i) (List.nodup_cons.mp nd).2 (by simpa using h1) (by simpa using h2) hk
def start(N:List Str)(vs:List V):St:=vs.map some++List.replicate (N.length-vs.length) none
def rn(CX:CXT)(P:Program)(w:World)(K:Frag)(mg:Str->Option Value)(base:Heap)(N:List Str)(qual:Str)(scope:Scope)(f:Addr)(cd:Value)(A:Around)(outer:List Env)(s:Shared)(H:Hp)(E:XK):Cx where
 prog:=P
 w:=w
 K:=K
 mg:=mg
 base:=base
 A:=A.deeper (envOfC qual scope s.heap.objs.size f cd)
 N:=N
 s₀:=s
 H₀:=H
 env:=envOfC qual scope s.heap.objs.size f cd
 outer:=outer
 stack:=envOfC qual scope s.heap.objs.size f cd::outer
 ex:=[]
 calm:=true
 fn:=λ_=>true
 pn:=[]
 xe:=λe s'=>wpAny (model P w) (A.deeper (envOfC qual scope s.heap.objs.size f cd)) (leaving (envOfC qual scope s.heap.objs.size f cd) e) (λ_ s''=>CX outer H s E e s'') (λe' s''=>CX outer H s E e' s'') s'
theorem qj{b:Scope}{n:Nat}{x:Str}(h:b.names.lookup x=some .cell):∃c,(cellsFrom n b.names []).lookup x=some c:=by
 have q:=PySem.W.cellsFrom_some b.names n [] (.inl h)
 exact Option.isSome_iff_exists.mp q
theorem tV{I:CXT}{P:Program}{w:World}{K:Frag}{mg:Str->Option Value}{base:Heap}{N ps:List Str}{g:Str}{scope:Scope}{f:Addr}{D:Value}{A:Around}{d:List Env}{s J:Shared}{H:Hp}{E:XK}{us:List Value}{vs:List V}
  (S:am N ps scope)(U:A.handled=none)(e0:Env0 P w K mg base A d s H)(Y:vs.length=ps.length)(r:Vals vs us)
  (x:InCallC s s.heap.objs.size (bindL (envOfC g scope s.heap.objs.size f D).kindOf (ps.zip us) λ_=>none) (cellsFrom (s.heap.objs.size+1) scope.names []) (bindC (envOfC g scope s.heap.objs.size f D).kindOf (ps.zip us) λ_=>none) J) :
  Inv (rn I P w K mg base N g scope f D A d s H E) [] (start N vs) H J:=by
 have O:ps.length<=N.length:=by have:=congrArg List.length S.pre;rw [List.length_take] at this;omega
 obtain ⟨h1,W,rfl,F⟩:=x.done
 have l:∀b:Addr,b∉(rn I P w K mg base N g scope f D A d s H E).ex:=λb z=>absurd (show b∈([]:List Addr) from z) (by simp)
 refine ⟨⟨e0.mod,S.kind,ϱ,ϱ,ι _,λy z c h1 j=>?_,λy hy=>?_,λy c _ h=>?_,λ_=>U,Around.frames_deeper e0.frames,.inr ⟨ϱ,ϱ⟩,λb z=>absurd z (l b),e0.bs,e0.bsz,λb _ _=>l b,λb z=>absurd z (l b),e0.funs,e0.frf⟩,
  rfl,e0.bare,Un.kept F,⟨_,x.toInCall.ns,λi y v h1 j X=>?_⟩,λy c h=>⟨_,x.cell y c h⟩,e0.hok.fresh (Nat.le_refl _),λy c h=>?_,λp m=>absurd (show p∈([]:List (Addr×Obj)) from m) (by simp),e0.hok.kept F,?_⟩
 ·exact name_of_addr x.apart (PySem.mem_of_lookup h1) (PySem.mem_of_lookup j)
 ·have hy:scope.names.lookup y=some .cell\/scope.names.lookup y=some .free:=hy
  rcases hy with hy | hy
  ·exact qj hy
  ·exact absurd rfl (S.nofree _ (PySem.mem_of_lookup hy))
 ·exact Nat.le_of_lt (x.above y c (PySem.mem_of_lookup h))
 ·have C:i<vs.length:=by
   unfold start at j
   by_cases C:i<vs.length
   ·exact C
   ·rw [List.getElem?_append_right (by simpa using C)] at j
    rw [List.getElem?_replicate] at j
    split at j<;>cases j
  have Q:vs[i]?=some v:=by
   unfold start at j
   rw [List.getElem?_append_left (by simpa using C),List.getElem?_map] at j
   cases e:vs[i]? with
   | none=>rw [e] at j;cases j
   | some a=>rw [e] at j;cases j;rfl
  obtain ⟨u,G,L⟩:=r.get Q
  have m:ps[i]?=some y:=by
   rw [← S.pre,List.getElem?_take_of_lt ω];exact h1
  have o:ps.Nodup:=by rw [← S.pre];exact S.nd.sublist (List.take_sublist _ _)
  refine ⟨u,L,?_⟩
  rcases S.par y (List.mem_of_getElem? m) with k | k
  ·exact .inl ⟨k,nN o m G k⟩
  ·obtain ⟨c,e⟩:=qj (n:=s.heap.objs.size+1) k
   refine .inr ⟨.inl k,c,e,?_⟩
   have q:=x.cell y c e
   rw [nQ o m G (by show scope.names.lookup y≠_;rw [k];decide)] at q
   exact q
 ·exact e0.hok.fresh (Nat.le_of_lt (x.above y c (PySem.mem_of_lookup h)))
 ·unfold start
  show _=N.length
  rw [List.length_append,ν,List.length_replicate]
  omega
theorem zd{G:CXT}{P:Program}{w:World}{K:Frag}{mg:Str->Option Value}{base:Heap}{k:Nat}{f:Addr}{name g:Str}{i:Arguments}{body:List Stmt}{scope:Scope}{dV kV D pm h ct oc:Value}{an od:Option Addr}
  {Y:Array (Option Value)}{N ps:List Str}{sp:Sp}(lk:K.lookup f=some ⟨oc,od,.func (PySem.W.fnOf name g i body scope dV kV D pm an h ct),Y⟩)(Z:PySem.W.codeIn K h g=true)(S:am N ps scope)
  (len:∀vs H Q E,sp vs H Q E->vs.length=ps.length)
  (l:∀(A:Around) (d:List Env) (s:Shared) (H:Hp) (vs:List V) (Q:VK) (E:XK),Room k (A.deeper (envOfC g scope s.heap.objs.size f h))->sp vs H Q E ->
   ∃t,PSs (rn G P w K mg base N g scope f h A d s H E) body t/\t {nx:=λ_ H'=>Q .non H',rt:=Q} (start N vs) H) :
  FnOk P w K mg base G (k+1) f (PySem.W.fnOf name g i body scope dV kV D pm an h ct) ps sp:=by
 refine ⟨len,λA d s H a1 us vs Q E U e0 hb r C=>?_⟩
 have hl:=len _ _ _ _ C
 have KX:K.In s.heap:=e0.mod.kin.keeps λb o e=>(e0.bs b o e).1
 have O:s.heap.NoLimit:=e0.mod.nolimit.keeps λb o e=>(e0.bs b o e).1
 have j:∀y∈ps.zip us,scope.names.lookup y.1=some .local\/(scope.names.lookup y.1=some .cell/\((cellsFrom (s.heap.objs.size+1) scope.names []).lookup y.1).isSome=true):=λ⟨n,v⟩ hy=>by
  rcases S.par n (List.of_mem_zip hy).1 with q | q
  ·exact .inl q
  ·exact .inr ⟨q,PySem.W.cellsFrom_some _ _ _ (.inl q)⟩
 refine codeAny_call_function U.depth (KX _ _ lk) rfl S.co S.gen rfl (PySem.W.codeRec_of KX Z) (hb _ _ _ _ ?_)
 refine wpAny_newFunctionEnv_cells S.kind j λar he s1 x=>?_
 subst he
 refine ⟨O.keeps x.toInCall.keep,codeAny_func ?_⟩
 obtain ⟨t,ht,hq⟩:=l A d s H vs Q E (U.deeper _) C
 have I:Inv (rn G P w K mg base N g scope f h A d s H E) [] (start N vs) H s1:=tV S U.hd e0 hl r x
 refine wpAny_mono (ht [] s1 (start N vs) H _ I hq) (λfl X m=>?_) λe X m=>m
 have z:∀{F:St} {H':Hp} {v:V} {u:Value},Inv (rn G P w K mg base N g scope f h A d s H E) [] F H' X->RelV v u->Q v H'->CE d P w H s Q u X :=
  λ{F H' v u} J L q=>⟨v,H',J.os,J.bare,J.base,J.hok,L,q⟩
 cases fl with
 | ret u =>
  obtain ⟨v,F,H',J,L,q⟩:=m
  exact z J L q
 | next =>
  obtain ⟨F,H',J,q⟩:=m
  exact z (v:=V.non) (u:=Value.none) J rfl q
 | brk =>
  obtain ⟨_,_,_,q⟩:=m
  exact False.elim q
 | cont =>
  obtain ⟨_,_,_,q⟩:=m
  exact False.elim q
section
variable {X:Cx}{x:Str}{p pos:Pos}{e:Expr}{es:List Expr}{t:TA}{id T:String}{r:List V->Hp->VK->Prop}
def tCB(r:List V->Hp->VK->Prop)(t:TA):TE:=fun σ H Q=>t σ H λvs H1=>r vs H1 Q
theorem aL(m:d0 X (.builtin id) r)(o:Gl X x)(q:X.mg x=none)(u:bootBuiltins x=some (.builtin id))(w:PA X (e::es) t)(y:x≠"__name__":=by decide)(d:(x==("__debug__":Str))=false:=by decide)
  (z:starEach (e::es) X.env=(false,eval e X.env)::starEach es X.env:=by rfl)(f:(backTo pos (starEach es X.env)).any (·.1)=false:=by rfl):PE X (.Call (.Name x p) (e::es) [] pos) (tCB r t):=by
 intro b s σ H Q I h
 refine wpAny_Call_Name_kw (l0 I o q u ?_ y d)
 exact PyProof.Rows.callWith_builtin1 (thn (w pos b s σ H _ I h) λg i ⟨vs,H1,j,l,q1⟩=>m b i σ H1 vs g Q j l q1) z f
theorem bp(m:d0 X (.type T) r)(o:Gl X x)(q:X.mg x=none)(u:bootBuiltins x=some (.type T))(w:PA X (e::es) t)(y:x≠"__name__":=by decide)(d:(x==("__debug__":Str))=false:=by decide)
  (z:starEach (e::es) X.env=(false,eval e X.env)::starEach es X.env:=by rfl)(f:(backTo pos (starEach es X.env)).any (·.1)=false:=by rfl):PE X (.Call (.Name x p) (e::es) [] pos) (tCB r t):=by
 intro b s σ H Q I h
 refine wpAny_Call_Name_kw (l0 I o q u ?_ y d)
 exact PyProof.Rows.callWith_type1 (thn (w pos b s σ H _ I h) λg i ⟨vs,H1,j,l,q1⟩=>m b i σ H1 vs g Q j l q1) z f
end
end L2
namespace HT
open PySem PyProof.Rows
section
open PySem.SeqAt
open PySem.AutoSeq1 (wpAny_loadPart')
open PySem.MeetsSeq PySem.MeetsSeq2 PySem.MeetsSeq3
end
section
variable {prog:Program}{w:World}{A:Around}{E:Value->Shared->Prop}{s:Shared}
theorem yD{t b:Addr}{vs d:List Value}{Q:Value->Shared->Prop}(y:IsTup s.heap t vs.toArray)(z:IsTup s.heap b d.toArray)(x:vs≠[])
  (h1:d=[]->Q (.ref t) s)(C:d≠[]->Q (.ref s.heap.objs.size) {s with heap:=s.heap.push {cls:=.type "tuple",data:=.seq (vs++d).toArray}})
  (hsz:vs.length+d.length<=sizeLine):wpAny (model prog w) A (binaryOp .Add (.ref t) (.ref b)) Q E s:=by
 obtain ⟨⟨cls,dd,data,sl⟩,l,o,n,q⟩:=id y
 obtain ⟨⟨r,g,m,h⟩,f,i,u,j⟩:=id z
 simp only at o q i j
 subst o q i j
 have e:vs.toArray++d.toArray=(vs++d).toArray:=by simp
 by_cases hw:d=[]
 ·exact concat_meets ⟨_,l,ϱ⟩ ⟨_,f,ϱ⟩ noFill_tuple_add seq_tuple_add PySem.F.slot_tuple_add PySem.F.entry_tuple_add (PySem.F.args_tuple_add_2 _ _)
   (tuple_addW1 t b vs.toArray d.toArray n u dd g sl h (by simpa using x) (by simp [hw])) ⟨l,f,h1 hw⟩
 ·refine concat_meets ⟨_,l,ϱ⟩ ⟨_,f,ϱ⟩ noFill_tuple_add seq_tuple_add PySem.F.slot_tuple_add PySem.F.entry_tuple_add (PySem.F.args_tuple_add_2 _ _)
   (tuple_addW2 t b vs.toArray d.toArray n u dd g sl h (by simpa using x) (by simpa using hw) (by rw [List.size_toArray,List.size_toArray];exact hsz)) ⟨l,f,?_⟩
  rw [e]
  exact C hw
def sIx(n d:Nat):Option Int->Nat
 | none=>d
 | some v=>if v<0 then (v+(n:Int)).toNat else min v.toNat n
end
end HT
namespace L2
open PySem PySem.Spec PyProof.Rows
abbrev TO:=St->Hp->(Option Int->Hp->Prop)->Prop
def PO(X:Cx)(e:Option Expr)(t:TO):Prop :=
 ∀(pins:List (Addr×Obj)) (s:Shared) (σ:St) (H:Hp) (Q:Option Int->Hp->Prop),Inv X pins σ H s->t σ H Q ->
  wpAny (model X.prog X.w) X.A (evalPart e X.env) (λu s'=>∃o H',Inv X pins σ H' s'/\IsPart u o/\Q o H') X.xe s
def Bi(t:TE):TO:=fun σ H Q=>t σ H λx H1=>∃i,x=.int i/\Q (some i) H1
theorem rh{b:List Int}:∀{us:List Value},Vals (b.map V.int) us->IntsAre us b:=by
 induction b with
 | nil=>intro us r;rw [List.map_nil] at r;cases r;exact .nil
 | cons n b ih =>
  intro us r
  rw [List.map_cons] at r
  cases r with
  | cons r1 r2 =>
   obtain ⟨t,e⟩:=r1
   subst e
   exact .cons n t (ih r2)
section
variable {X:Cx}{e:Expr}{te:TE}{lo hi:Option Expr}{tl th:TO}{pos p2:Pos}
theorem h9(h:PE X e te):PO X (some e) (Bi te):=by
 intro b s σ H Q I g
 rw [evalPart_some]
 refine thn (h b s σ H _ I g) λu j ⟨x,H1,d,f,q1⟩=>?_
 obtain ⟨i,rfl,q⟩:=q1
 obtain ⟨t,rfl⟩:=f
 exact ⟨some i,H1,d,.int i t,q⟩
def SlR(X:Cx)(r:V->Option Int->Option Int->Hp->VK->Prop):Prop :=
 ∀(pins:List (Addr×Obj)) (s:Shared) (σ:St) (H:Hp) (x:V) (v vl vu:Value) (lo hi:Option Int) (sl:Addr) (Q:VK),Inv X pins σ H s->RelV x v->s.heap.IsSliceOf sl vl vu .none->IsPart vl lo->IsPart vu hi->r x lo hi H Q ->
  ∃T id,typeLookup (.type T) "__getitem__"=pure (some (.builtin id))/\s.TypeIs v T/\wpAny (model X.prog X.w) X.A (getItem v (.ref sl)) (EP X pins σ Q) X.xe s
def tSl(r:V->Option Int->Option Int->Hp->VK->Prop)(te:TE)(tl th:TO):TE:=fun σ H Q=>te σ H λx H1=>tl σ H1 λl H2=>th σ H2 λu H3=>r x l u H3 Q
theorem lP{r:V->Option Int->Option Int->Hp->VK->Prop}(U:SlR X r)(W:PE X e te)(Y:PO X lo tl)(Z:PO X hi th):PE X (.Subscript e (.Slice lo hi none p2) pos) (tSl r te tl th):=by
 intro d s σ H Q I h
 refine Subscript_ (thn (W d s σ H _ I h) λv C ⟨x,H1,D,F,q1⟩=>?_)
 refine wpAny_Slice (thn (Y d C σ H1 _ D q1) λg G ⟨l,J,K,L,q2⟩=>thn (Z d G σ J _ K q2) λi f ⟨u,j,O,P,q3⟩=>?_)
 rw [evalPart_none]
 refine π ?_
 have z:Inv X d σ j {f with heap:=f.heap.push {cls:=.type "slice",data:=.fields #[g,i,.none]}}:=O.kept (t':=f.toks) λb ob q=>ρ _ q
 obtain ⟨T,id,m,o,y⟩:=U d {f with heap:=f.heap.push {cls:=.type "slice",data:=.fields #[g,i,.none]}} σ j x v g i l u f.heap.objs.size Q z F (Heap.IsSliceOf.new ..) L P q3
 show wpAny (model X.prog X.w) X.A (subscriptTail e (.Slice lo hi none p2) v (.ref f.heap.objs.size)) (EP X d σ Q) X.xe {f with heap:=f.heap.push {cls:=.type "slice",data:=.fields #[g,i,.none]}}
 exact tail_any (ops:=[.ref f.heap.objs.size,v]) o m y (by with_unfolding_all rfl)
def qi(xs:List V)(lo hi:Option Int):List V:=(xs.drop (HT.sIx xs.length 0 lo)).take (HT.sIx xs.length xs.length hi-HT.sIx xs.length 0 lo)
theorem qh(xs:List V)(lo hi:Option Int):(qi xs lo hi).length<=xs.length:=by
 unfold qi
 rw [List.length_take,List.length_drop]
 omega
def yT(K:Frag):R2:=λx y H Q=>∃a b xs ys,x=.ref a/\y=.ref b/\SqT K H a xs/\SqT K H b ys/\xs≠[]/\xs.length+ys.length<=sizeLine /\
 (ys=[]->Q (.ref a) H)/\(ys≠[]->∀p,H p=none->Q (.ref p) (upd H p (.tup (xs++ys))))
theorem Vals.nil_iff{xs:List V}{us:List Value}(r:Vals xs us):us=[]↔xs=[]:=by
 cases r with
 | nil=>simp
 | cons _ _=>simp
theorem xF:OpR X (binaryOp .Add) (yT X.K):=by
 intro i s σ H x y v u Q I G J h
 obtain ⟨a,b,j,l,rfl,rfl,m,r,C,f,q1,q2⟩:=h
 cases G
 cases J
 obtain ⟨D,e,F,_⟩:=I.tuple m
 obtain ⟨g,d,p2,_⟩:=I.tuple r
 refine HT.yD F p2 (λz=>C (e.nil_iff.mp z)) (λz=>⟨.ref a,H,I,ϱ,q1 (d.nil_iff.mp z)⟩) (λz=>?_) (by rw [← e.length,← d.length];exact f)
 refine ⟨.ref s.heap.objs.size,_,I.laid (t':=s.toks) (o:=.tup (j++l)) (λb L q=>ρ _ q) (ι _) ?_,ϱ,q2 (λw=>z (d.nil_iff.mpr w)) _ (I.hok.fresh (ι _))⟩
 exact ⟨by rw [List.length_append];exact f,_,e.append d,IsTup.new _ _⟩
end
def ixN(n:Nat)(i:Int):Option Nat:=if 0<=i then (if i<n then some i.toNat else none) else if -(n:Int)<=i then some (i+n).toNat else none
def atI{α:Type}(xs:List α)(i:Int):Option α:=(ixN xs.length i).bind λj=>xs[j]?
theorem ss{n:Nat}{i:Int}{j:Nat}(h:ixN n i=some j):seqIndex? i n=some j/\j<n/\-(n:Int)<=i/\i<n:=by
 unfold ixN at h
 by_cases h0:0<=i
 ·rw [if_pos h0] at h
  by_cases h1:i<n
  ·rw [if_pos h1] at h
   have e:i.toNat=j:=Δ h
   exact ⟨by rw [seqIndex_of h0 h1,e],ω,ω,h1⟩
  ·rw [if_neg h1] at h;cases h
 ·rw [if_neg h0] at h
  by_cases h1:-(n:Int)<=i
  ·rw [if_pos h1] at h
   have e:(i+n).toNat=j:=Δ h
   exact ⟨by rw [seqIndex_neg ω h1,e],ω,h1,ω⟩
  ·rw [if_neg h1] at h;cases h
theorem pz{α:Type}{xs:List α}{i:Int}{v:α}(h:atI xs i=some v):∃j,seqIndex? i xs.length=some j/\xs[j]?=some v/\j<xs.length/\-(xs.length:Int)<=i/\i<xs.length:=by
 unfold atI at h
 cases e:ixN xs.length i with
 | none=>rw [e] at h;cases h
 | some j =>
  rw [e] at h
  obtain ⟨h1,b,d,f⟩:=ss e
  exact ⟨j,h1,h,b,d,f⟩
theorem aV{α:Type}{xs:List α}{j:Nat}{v:α}(h:xs[j]?=some v):atI xs (j:Int)=some v:=by
 have b:j<xs.length:=(List.getElem?_eq_some_iff.mp h).1
 have e:ixN xs.length (j:Int)=some j:=by
  unfold ixN
  rw [if_pos ω,if_pos ω];simp
 unfold atI;rw [e];exact h
def yI(b:Expr):Prop:=∀o i,subscripted b false o i=operate [o,i] (getItem o i)
def IxR(X:Cx)(r:R2):Prop :=
 ∀(value slice:Expr) (pins:List (Addr×Obj)) (s:Shared) (σ:St) (H:Hp) (x y:V) (v u:Value) (Q:VK),Inv X pins σ H s->RelV x v->RelV y u->r x y H Q ->
  subscripted slice false v u=operate [v,u] (getItem v u)->wpAny (model X.prog X.w) X.A (subscriptTail value slice v u) (EP X pins σ Q) X.xe s
def MtR(X:Cx)(id:String)(r:V->List V->Hp->VK->Prop):Prop :=
 ∀(pins:List (Addr×Obj)) (s:Shared) (σ:St) (H:Hp) (x:V) (xs:List V) (v:Value) (us:List Value) (Q:VK),Inv X pins σ H s->RelV x v->Vals xs us->r x xs H Q ->
  wpAny (model X.prog X.w) X.A (call (.builtin id) (v::us)) (EP X pins σ Q) X.xe s
section
variable {X:Cx}{a b:Expr}{ta tb:TE}{pos:Pos}
theorem az{r:R2}(l:IxR X r)(m:PE X a ta)(o:PE X b tb)(w:yI b):PE X (.Subscript a b pos) (tOp r ta tb):=by
 intro d s σ H Q I h
 exact Subscript_ (AY m o I h λv u e x y f g i j q=>l a b d e σ f x y v u Q g i j q (w _ _))
inductive XXL (K:Frag) (x y:V) (H:Hp) (Q:VK):Prop|mk p xs i v:x=.ref p->y=.int i->SqL K H p xs->atI xs i=some v->Q v H->XXL K x y H Q
def bW(K:Frag):R2:=λx y H Q=>XXL K x y H Q
inductive XXT (K:Frag) (x y:V) (H:Hp) (Q:VK):Prop|mk p xs i v:x=.ref p->y=.int i->SqT K H p xs->atI xs i=some v->Q v H->XXT K x y H Q
def bc(K:Frag):R2:=λx y H Q=>XXT K x y H Q
def BH:R2:=λx y H Q=>∃z i c,x=.str z/\y=.int i/\z.length<=sizeLine/\atI z.cps.toList i=some c/\Q (.str ⟨#[c]⟩) H
theorem aI:IxR X (bW X.K):=by
 intro m o b s σ H x y v u Q I W Y h D
 obtain ⟨p,Z,i,z,rfl,rfl,F,G,q⟩:=h
 cases W
 obtain ⟨t,rfl⟩:=Y
 obtain ⟨e,r,f,hz⟩:=I.list F
 obtain ⟨j,h1,J,h3,L,O⟩:=pz G
 obtain ⟨w,C,g⟩:=r.get J
 have P:=r.length
 have hn:=iH
 have d:EP X b σ Q w s:=⟨z,H,I,g,q⟩
 by_cases h0:0<=i
 ·have l:i.toNat=j:=by
   rw [seqIndex_of h0 O] at h1
   exact Δ h1
  exact item_listR f.isList h0 ω (by rw [l];simpa using C) d D
 ·have l:(i+(e.toArray.size:Int)).toNat=j:=by
   rw [seqIndex_neg ω L] at h1
   rw [List.size_toArray,← P]
   exact Δ h1
  exact subscriptTail_builtinR (x:=w) f.isList.typeIs slot_list_getitem.lookup
   (wpAny_getItem_list_neg (Q:=λr U=>r=w/\EP X b σ Q r U) f.isList ω (by rw [List.size_toArray]<;>omega) ω (by rw [l];simpa using C) ⟨ϱ,d⟩) D
theorem aD:IxR X (bc X.K):=by
 intro f g b s σ H x y v u Q I L O h P
 obtain ⟨p,U,i,z,rfl,rfl,m,o,q⟩:=h
 cases L
 obtain ⟨t,rfl⟩:=O
 obtain ⟨C,r,l,W⟩:=I.tuple m
 obtain ⟨j,h1,D,Y,Z,h5⟩:=pz o
 obtain ⟨w,F,d⟩:=r.get D
 have G:=r.length
 have hn:=iH
 have e:EP X b σ Q w s:=⟨z,H,I,d,q⟩
 exact subscriptTail_builtinR (x:=w) l.typeIs slot_tuple_getitem.lookup
  (getItem_tuple (j:=j) (Q:=λr J=>r=w/\EP X b σ Q r J) l ω ω (by rw [List.size_toArray,← G];exact h1) (by simpa using F) ⟨ϱ,e⟩) P
theorem wm:IxR X BH:=by
 intro b d e s σ H x y v u Q I C D h F
 obtain ⟨z,i,c,rfl,rfl,G,f,q⟩:=h
 obtain ⟨t,rfl⟩:=C
 obtain ⟨J,rfl⟩:=D
 obtain ⟨j,h1,g,K,l,m⟩:=pz f
 have o:z.cps.toList.length=z.length:=by simp [Str.length]
 rw [o] at h1 l m
 have L:=iH
 exact tail_any (typeIs_str s z t) slot_str_getitem.lookup (getItem_str (c:=c) (by
  have r:decide (i < -(2 ^ 63:Int))=false:=Γ ω
  have w:decide (i≥2 ^ 63)=false:=Γ ω
  rw [r,w,Bool.or_false]) (by rw [h1];simpa using g) ⟨.str ⟨#[c]⟩,H,I.tok _,⟨_,ϱ⟩,q⟩) F
theorem qW(b:List Value)(n j:Nat)(u:Value):Obj.mapSeq (·.setIfInBounds j u) {cls:=.type "list",data:=.seq b.toArray n}={cls:=.type "list",data:=.seq (b.set j u).toArray n}:=by
 simp [Obj.mapSeq]
theorem Inv.lst{d:List (Addr×Obj)}{σ:St}{H:Hp}{s:Shared}{p:Addr}{xs:List V}(I:Inv X d σ H s)(h:H p=some (.lst xs)) :
  ∃(b:List Value) (n:Nat),Vals xs b/\s.heap.get? p=some {cls:=.type "list",data:=.seq b.toArray n}/\xs.length<=sizeLine:=by
 obtain ⟨z,b,n,r,e⟩:=I.hok p _ h
 exact ⟨b,n,r,e,z⟩
theorem Inv.lstUpd{d:List (Addr×Obj)}{σ:St}{H:Hp}{s:Shared}{p:Addr}{xs ys:List V}{g its':List Value}{n i:Nat}{f:Obj->Obj}(I:Inv X d σ H s)(h:H p=some (.lst xs))
  (l:s.heap.get? p=some {cls:=.type "list",data:=.seq g.toArray n})(hf:f {cls:=.type "list",data:=.seq g.toArray n}={cls:=.type "list",data:=.seq its'.toArray i})(r:Vals ys its')(hz:ys.length<=sizeLine)(t:Nat) :
  Inv X d σ (upd H p (.lst ys)) {s with heap:=s.heap.update p f,toks:=t}:=by
 have e:(s.heap.update p f).get? p=some {cls:=.type "list",data:=.seq its'.toArray i}:=by
  rw [Heap.get?_update_self f l (by rw [hf]<;>rfl),hf]
 refine I.write (x:=p) (e:=p) (by rw [h];trivial) (.inl rfl) (λb u j q=>(Heap.get?_update_other _ _ (Ne.symm j)).trans q) ⟨_,e⟩ ?_
 exact ⟨hz,its',i,r,e⟩
def BG:V->V->V->Hp->(Hp->Prop)->Prop:=λo i v H Q=>∃p xs k j,o=.ref p/\i=.int k/\H p=some (.lst xs)/\ixN xs.length k=some j/\Q (upd H p (.lst (xs.set j v)))
theorem pG:B6 X BG:=by
 intro d s σ H o i v ov L u Q I D F G h
 obtain ⟨p,y,k,j,rfl,rfl,l,z,q⟩:=h
 cases D
 obtain ⟨t,rfl⟩:=F
 obtain ⟨b,n,r,e,C⟩:=I.lst l
 obtain ⟨h1,J,m,w⟩:=ss z
 have f:=r.length
 have K:=iH
 have x:Inv X d σ (upd H p (.lst (y.set j v))) {s with heap:=s.heap.update p (Obj.mapSeq (·.setIfInBounds j u))} :=
  I.lstUpd l e (qW b n j u) (r.set G j) (by rw [List.length_set];exact C) s.toks
 by_cases h0:0<=k
 ·have g:k.toNat=j:=by
   rw [seqIndex_of h0 w] at h1
   exact Δ h1
  exact PySem.W.ki_setAt e h0 ω (by rw [List.size_toArray,← f];exact w) (by rw [g];exact ⟨_,x,q⟩)
 ·have g:(k+(b.toArray.size:Int)).toNat=j:=by
   rw [seqIndex_neg ω m] at h1
   rw [List.size_toArray,← f]
   exact Δ h1
  exact PySem.W.ki_setBack e ω (by rw [List.size_toArray,← f];exact m) ω (by rw [g];exact ⟨_,x,q⟩)
theorem oz(lo b:Option Int)(n:Nat):(sliceBounds lo b none n).1=((HT.sIx n 0 lo:Nat):Int)/\(sliceBounds lo b none n).2.1=((HT.sIx n n b:Nat):Int)/\(sliceBounds lo b none n).2.2=1:=by
 refine ⟨?_,?_,ϱ⟩
 ·cases lo with
  | none=>simp [sliceBounds,HT.sIx]
  | some i =>
   simp only [sliceBounds,HT.sIx,Option.getD_none,show (1:Int)>0 by decide,if_true]
   by_cases h:i<0
   ·simp only [h,if_true]<;>omega
   ·simp only [h,if_false]<;>omega
 ·cases b with
  | none=>simp [sliceBounds,HT.sIx]
  | some i =>
   simp only [sliceBounds,HT.sIx,Option.getD_none,show (1:Int)>0 by decide,if_true]
   by_cases h:i<0
   ·simp only [h,if_true]<;>omega
   ·simp only [h,if_false]<;>omega
theorem mo(b:List Value)(lo d:Option Int):slicePick b.toArray lo d none=((b.drop (HT.sIx b.length 0 lo)).take (HT.sIx b.length b.length d-HT.sIx b.length 0 lo)).toArray:=by
 obtain ⟨h1,e,f⟩:=oz lo d b.toArray.size
 unfold slicePick
 rw [h1,e,f]
 simp only [sliceRange_one,pick_run,List.size_toArray]<;>rfl
def Ci(K:Frag):V->Option Int->Option Int->Hp->VK->Prop:=λx lo hi H Q=>∃a xs,x=.ref a/\SqL K H a xs/\∀p,H p=none->Q (.ref p) (upd H p (.lst (qi xs lo hi)))
theorem xl:SlR X (Ci X.K):=by
 intro i s σ H x v D F lo f sl Q I u w y z h
 obtain ⟨a,d,rfl,j,q⟩:=h
 cases u
 obtain ⟨l,r,g,m⟩:=I.list j
 have e:=r.length
 refine ⟨"list",_,slot_list_getitem.lookup,g.isList.typeIs,?_⟩
 refine wpAny_getItem_list_slice g.isList w y z .none (by simp) ?_ (by rw [List.size_toArray]<;>omega)
 rw [mo,← e]
 refine ⟨.ref s.heap.objs.size,_,I.laid (t':=s.toks) (o:=.lst (qi d lo f)) (λb C q=>ρ _ q) (ι _) ?_,ϱ,q _ (I.hok.fresh (ι _))⟩
 exact ⟨Λ (qh d lo f) m,_,0,(r.drop (HT.sIx d.length 0 lo)).take (HT.sIx d.length d.length f-HT.sIx d.length 0 lo),ψ _ rfl⟩
theorem be:d0 X (.builtin "len") (λxs H Q=>∃p ys,xs=[.ref p]/\(SqL X.K H p ys\/SqT X.K H p ys)/\Q (.int ys.length) H):=by
 intro g s σ H xs m Q I r h
 obtain ⟨p,ys,rfl,hq,q⟩:=h
 obtain ⟨u,rfl,i⟩:=d9 r
 cases i
 have l:=iH
 rcases hq with hq | hq
 ·obtain ⟨d,e,f,j⟩:=I.list hq
  have b:=e.length
  exact Calls.call_len_list f.isList (by simp only [List.size_toArray]<;>omega) ⟨.int ys.length,H,I.tok _,⟨s.toks+1,by rw [List.size_toArray,b]⟩,q⟩
 ·obtain ⟨d,e,f,j⟩:=I.tuple hq
  have b:=e.length
  exact len_tuple f (by simp only [List.size_toArray]<;>omega) ⟨.int ys.length,H,I.tok _,⟨s.toks+1,by rw [List.size_toArray,b]⟩,q⟩
theorem bD:d0 X (.builtin "len") (λxs H Q=>∃z,xs=[.str z]/\z.length<=sizeLine/\Q (.int z.length) H):=by
 intro b s σ H xs f Q I r h
 obtain ⟨z,rfl,d,q⟩:=h
 obtain ⟨u,rfl,t,rfl⟩:=d9 r
 have e:=iH
 exact len_str ω ⟨.int z.length,H,I.tok _,⟨_,ϱ⟩,q⟩
theorem gm:d0 X (.type "list") (λxs H Q=>∃p ys,xs=[.ref p]/\(SqL X.K H p ys\/SqT X.K H p ys)/\∀l,H l=none->Q (.ref l) (upd H l (.lst ys))):=by
 intro y s σ H xs J Q I r h
 obtain ⟨p,ys,rfl,hq,q⟩:=h
 obtain ⟨u,rfl,G⟩:=d9 r
 cases G
 have m:∀(d:List Value),Vals ys d->ys.length<=sizeLine->∀(f:Heap) (i:Nat),(∀b o',s.heap.get? b=some o'->f.get? b=some o') ->
   f.get? s.heap.objs.size=some {cls:=.type "list",dict:=none,data:=.seq d.toArray i,slots:=#[]}->EP X y σ Q (.ref s.heap.objs.size) {s with heap:=f}:=λd g j f i kp e =>
  ⟨.ref s.heap.objs.size,_,I.laid (t':=s.toks) kp (ι _) (show ObjOk X.prog X.w _ f _ (.lst ys) from ⟨j,d,i,g,e⟩),ϱ,q _ (I.hok.fresh (ι _))⟩
 rcases hq with hq | hq
 ·obtain ⟨d,g,z,j⟩:=I.list hq
  have x:=g.length
  obtain ⟨o,C,D,n,F⟩:=z.isList
  exact call_list_seq p (.inl rfl) C D F (λf i kp e=>m d g j f i kp e) (by simp only [List.size_toArray]<;>omega)
 ·obtain ⟨d,g,z,j⟩:=I.tuple hq
  have x:=g.length
  obtain ⟨o,C,D,n,F⟩:=z
  exact call_list_seq p (.inr rfl) C D F (λf i kp e=>m d g j f i kp e) (by simp only [List.size_toArray]<;>omega)
theorem mE:d0 X (.type "tuple") (λxs H Q=>∃p ys,xs=[.ref p]/\((SqL X.K H p ys/\∀l,H l=none->Q (.ref l) (upd H l (.tup ys)))\/(SqT X.K H p ys/\Q (.ref p) H))):=by
 intro d s σ H xs D Q I r h
 obtain ⟨p,ys,rfl,h⟩:=h
 obtain ⟨u,rfl,z⟩:=d9 r
 cases z
 rcases h with ⟨hq,q⟩ | ⟨hq,q⟩
 ·obtain ⟨f,i,j,m⟩:=I.list hq
  have x:=i.length
  refine call_tuple_list j.isList (λg kp=>?_) (by simp only [List.size_toArray]<;>omega)
  have y:Inv X d σ H {s with heap:=g}:=I.kept (t':=s.toks) kp
  have C:Inv X d σ (upd H g.objs.size (.tup ys)) {s with heap:=g.push {cls:=.type "tuple",data:=.seq f.toArray}} :=
   y.laid (t':=s.toks) (λb o e=>ρ _ e) (ι _) (show ObjOk X.prog X.w _ _ _ (.tup ys) from ⟨m,f,i,IsTup.new _ _⟩)
  exact ⟨.ref g.objs.size,_,C,ϱ,q _ (y.hok.fresh (ι _))⟩
 ·obtain ⟨f,i,j,m⟩:=I.tuple hq
  exact call_tuple_same j ⟨.ref p,H,I,ϱ,q⟩
def tyV(K:Frag)(T:String)(x:V)(H:Hp):Prop:=match x with
 | .str _=>T="str"
 | .int _=>T="int"
 | .ref p=>(T="list"/\∃xs,SqL K H p xs)\/(T="tuple"/\∃o,K.lookup p=some o/\o.cls=.type "tuple"/\o.dict=none) \/
   (T="dict"/\((∃kvs,H p=some (.dK kvs))\/∃kvs,H p=some (.dT kvs)))\/(T="set"/\∃S n,H p=some (.set S n))
 | _=>False
theorem um{b:List (Addr×Obj)}{σ:St}{H:Hp}{s:Shared}{T:String}{x:V}{v:Value}(I:Inv X b σ H s)(r:RelV x v)(d:tyV X.K T x H) :
  s.TypeIs v T/\∀a,v=.ref a->∃ob,s.heap.get? a=some ob/\ob.dict=none:=by
 cases x with
 | str z =>
  obtain ⟨t,rfl⟩:=r
  cases (show T="str" from d)
  exact ⟨typeIs_str s z t,λ_ e=>nomatch e⟩
 | int i =>
  obtain ⟨t,rfl⟩:=r
  cases (show T="int" from d)
  exact ⟨typeIs_int s i t,λ_ e=>nomatch e⟩
 | ref p =>
  cases r
  rcases d with ⟨rfl,xs,hq⟩ | ⟨rfl,o,hk,hc,f⟩ | ⟨rfl,hk⟩ | ⟨rfl,S,n,hk⟩
  ·obtain ⟨j,_,h,_⟩:=I.list hq
   refine ⟨h.isList.typeIs,λa e=>?_⟩
   cases e
   obtain ⟨o,n,e,c,f,_⟩:=h
   exact ⟨o,e,f⟩
  ·refine ⟨⟨o,I.kIn p o hk,hc⟩,λa e=>?_⟩
   cases e
   exact ⟨o,I.kIn _ o hk,f⟩
  ·have z:∃o,s.heap.get? p=some o/\o.ExactDict:=by
    rcases hk with ⟨kvs,hk⟩ | ⟨kvs,hk⟩
    ·obtain ⟨_,_,_,_,o,_,_,e,ex,_⟩:=I.hok p _ hk
     exact ⟨o,e,ex⟩
    ·obtain ⟨_,_,_,_,o,_,_,e,ex,_⟩:=I.hok p _ hk
     exact ⟨o,e,ex⟩
   obtain ⟨o,e,ex⟩:=z
   refine ⟨⟨o,e,ex.1⟩,λa g=>?_⟩
   cases g
   exact ⟨o,e,ex.2.1⟩
  ·obtain ⟨o,_,_,_,e,ex,_⟩:=I.hok p _ hk
   refine ⟨⟨o,e,ex.1⟩,λa g=>?_⟩
   cases g
   exact ⟨o,e,ex.2.1⟩
 | _=>exact False.elim d
def Br(K:Frag)(T:String)(r:V->List V->Hp->VK->Prop)(to:TE):TE:=fun σ H Q=>to σ H λx H1=>tyV K T x H1/\r x [] H1 Q
def tBM(K:Frag)(T:String)(r:V->List V->Hp->VK->Prop)(to:TE)(t:TA):TE:=fun σ H Q=>to σ H λx H1=>tyV K T x H1/\t σ H1 λxs H2=>r x xs H2 Q
variable {o e:Expr}{es:List Expr}{to:TE}{t:TA}{name:Str}{apos cpos:Pos}{T id:String}{r:V->List V->Hp->VK->Prop}
theorem z5(u:PlainAttrs T)(f:Slot T name id)(g:typeOf (.builtin id)=pure (.type "method_descriptor"))(w:MtR X id r)(y:PE X o to)
  (d:attributeBase o name X.env (eval o X.env)=eval o X.env:=by rfl)(e:(apos.endLine==cpos.line)=true:=by rfl):PE X (.Call (.Attribute o name apos) [] [] cpos) (Br X.K T r to):=by
 intro b s σ H Q I h
 refine wpAny_Call_method0_late d e (thn (y b s σ H _ I h) λv m ⟨x,H1,i,j,q,q1⟩=>?_)
 obtain ⟨h1,l⟩:=um i j q
 exact ⟨T,id,u,f,g,h1,l,Calls.callWith_builtin rfl (PySem.evalArgs_none (w b m σ H1 x [] v [] Q i j .nil q1))⟩
theorem iw(L:PlainAttrs T)(i:Slot T name id)(l:typeOf (.builtin id)=pure (.type "method_descriptor"))(O:MtR X id r)(P:PE X o to)(U:PA X (e::es) t)
  (f:attributeBase o name X.env (eval o X.env)=eval o X.env:=by rfl)
  (j:((backTo cpos (starEach (e::es) X.env)).all (λx=>!x.1)&&(backToKw cpos (keywordEach [] X.env)).all (λx=>x.1.isSome)
   && decide ((e::es).length+([]:List Keyword).length+(if ([]:List Keyword).isEmpty then 0 else 1)<30))=true:=by rfl)
  (g:(apos.endLine==cpos.line)=true:=by rfl) (W:starEach (e::es) X.env=(false,eval e X.env)::starEach es X.env:=by rfl) (d:(backTo cpos (starEach es X.env)).any (·.1)=false:=by rfl) :
  PE X (.Call (.Attribute o name apos) (e::es) [] cpos) (tBM X.K T r to t):=by
 intro b s σ H Q I h
 refine wpAny_Call_method_late f j g rfl (thn (P b s σ H _ I h) λv y ⟨x,H1,q,u,z,q1⟩=>?_)
 obtain ⟨h1,w⟩:=um q u z
 refine ⟨T,id,L,i,l,h1,w,?_⟩
 have m:=U cpos b y σ H1 _ q q1
 rw [W] at m ⊢
 refine Calls.callWith_builtin (by show (false||(backTo cpos (starEach es X.env)).any (·.1))=false;rw [d]<;>rfl) (Calls.evalArgs_plain ?_)
 exact thn m λC D ⟨vs,F,G,J,q2⟩=>O b D σ F x vs v C Q G u J q2
end
def MtM(X:Cx)(id:String)(r:V->List V->Hp->VK->Prop):Prop :=
 ∀(pins:List (Addr×Obj)) (s:Shared) (σ:St) (H:Hp) (x:V) (xs:List V) (v:Value) (us:List Value) (Q:VK),Inv X pins σ H s->RelV x v->Vals xs us->r x xs H Q ->
  wpAny (model X.prog X.w) X.A (call (.builtin id) (v::us)) (EP X pins σ Q) X.xe s
theorem Vals.one:∀{x:V} {us:List Value},Vals [x] us->∃u,us=[u]/\RelV x u
 | _,_,.cons r .nil=>⟨_,rfl,r⟩
theorem Vals.two:∀{x y:V} {us:List Value},Vals [x,y] us->∃u v,us=[u,v]/\RelV x u/\RelV y v
 | _,_,_,.cons r (.cons q .nil)=>⟨_,_,rfl,r,q⟩
section
variable {X:Cx}{pins:List (Addr×Obj)}{σ:St}{H:Hp}{s:Shared}{l b:Addr}{xs ys zs:List V}
theorem Inv.lset{b its':List Value}{n:Nat}{f:Array Value->Array Value}{t':Nat}(I:Inv X pins σ H s)(h:H l=some (.lst xs))
  (e:s.heap.get? l=some {cls:=.type "list",data:=.seq b.toArray n})(hf:f b.toArray=its'.toArray)(i:Vals ys its')(hz:ys.length<=sizeLine) :
  Inv X pins σ (upd H l (.lst ys)) {s with heap:=s.heap.update l (Obj.mapSeq f),toks:=t'}:=by
 have q:=PySem.IsL.update e f
 rw [hf] at q
 refine I.write (x:=l) (e:=l) (by rw [h];exact trivial) (.inl rfl) (λj u d g=>(Heap.get?_update_other s.heap (Obj.mapSeq f) (Ne.symm d)).trans g) ⟨_,q⟩ ?_
 exact ⟨hz,its',_,i,q⟩
theorem Inv.lstM(I:Inv X pins σ H s)(d:H l=some (.lst xs)):xs.length<=sizeLine/\∃(b:List Value) (n:Nat),Vals xs b/\xs.length=b.length/\s.heap.get? l=some {cls:=.type "list",data:=.seq b.toArray n}:=by
 obtain ⟨z,b,n,r,e⟩:=I.hok l _ d
 exact ⟨z,b,n,r,r.length,e⟩
end
section
variable {X:Cx}
def xt:V->List V->Hp->VK->Prop:=λx vs H Q=>∃l xs y,x=.ref l/\vs=[y]/\H l=some (.lst xs)/\xs.length<sizeLine/\Q .non (upd H l (.lst (xs++[y])))
theorem ig:MtM X "list.append" xt:=by
 intro f s σ H x vs v C Q I i j h
 obtain ⟨l,m,y,rfl,rfl,d,o,q⟩:=h
 cases i
 obtain ⟨u,rfl,g⟩:=j.one
 obtain ⟨z,b,n,r,w,e⟩:=I.lstM d
 refine call_meets F.slot_list_append ⟨_,e,ϱ⟩ F.entry_list_append (F.args_list_append_2 _ _) (PySem.list_append l b.toArray n u (by rw [List.size_toArray];omega)) ⟨e,?_⟩
 refine ⟨.non,_,I.lset (its':=b++[u]) d e (by simp) (r.append (.cons g .nil)) ?_,ϱ,q⟩
 rw [List.length_append,List.length_singleton]
 omega
end
end L2
namespace Att
open PySem PySem.W PySem.Calls PyProof.Rows
theorem ku{P:Params}{h:Heap}:∀(d:List Int) (vs:List Value),WellAll P h vs (d.map WData.int)->IntsAre vs d:=by
 intro d
 induction d with
 | nil =>
  intro vs w
  rw [List.map_nil] at w
  cases w
  exact .nil
 | cons n d ih =>
  intro vs w
  rw [List.map_cons] at w
  cases w with
  | cons a b =>
   cases a
   exact .cons _ _ (ih _ b)
theorem sU{l:OpenLaw}{n:Nat}(y:l.most=some n){P:Params}{h:Heap}{args:List WData}{b:List Value}
  (e:l.row.toRowW.claim.pre args=true)(m:WellAll P h b args) :
  ∃a vs ns,b=[Value.ref a]/\args=[WData.list (ns.map WData.int)]/\h.get? a=some {cls:=.type "list",data:=.seq vs.toArray}/\IntsAre vs ns/\ns.length<=n:=by
 have j:WShape.hasAll [] args [.list .int]=true:=(pre_splitW e).1
 have o:l.pre.holds [] {args:=args}=true:=(pre_splitW e).2
 obtain ⟨d,r,rfl,h1,u⟩:=hasAllW_cons j
 obtain rfl:=hasAllW_nil u
 obtain ⟨z,rfl,w⟩:=hasW_list h1
 obtain ⟨ns,rfl⟩:=items_int w
 have f:ns.length<=n:=by
  unfold OpenLaw.pre at o
  have g:(WTm.not (.lt (.lit (.int (n:Int))) (.len (.arg 0)))).holds [] {args:=[.list (ns.map .int)]}=true:=by
   have g:=(holds_andW o).1
   rw [y] at g
   exact g
  have i:=condW_of g (w_not (w_lt w_lit (w_len_list (w_arg rfl))))
  rw [ν] at i
  refine Nat.le_of_not_lt λq=>?_
  have x:(n:Int)<((ns.length:Nat):Int):=by omega
  first
   | (rw [τ x] at i;exact absurd i ζ)
   | (simp at i;omega)
 cases m with
 | cons w1 w2 =>
  cases w2
  cases w1 with
  | list ho hall=>exact ⟨_,_,ns,rfl,rfl,ho,ku ns _ hall,f⟩
theorem sX(l:OpenLaw)(args:List WData):l.row.toRowW.claim.post args (.bool true) args=true :=
 postW_of (r:=l.row.toRowW) (X:=(true==true))
  (show WShape.has [] (.bool true) .bool=true by first | rfl | decide | simp [WShape.has,WShape.arms,WShape.armsAll])
  (show (WTm.eq .res (.lit (.bool true))).value [] {args:=args,res:=some (.bool true),after:=args}=some (.bool (true==true)) from w_eq_bool (w_res rfl) w_lit) rfl
theorem ql{l:OpenLaw}{n:Nat}{q:Program}{loose:List Str}{XP:(Str->Option Value)->Heap->Prop}{YP:World->Heap->Prop}{d:DefRec}
  (hn:l.most=some n)(H:d.params.defaults=[])
  (call:∀(w:World) (y b:Shared) (mg z:Str->Option Value) (j:Addr) (o:Obj) (pm x g:Value) (a:Addr) (vs:List Value) (u:List Int),
   Ground q loose [] XP w y mg z b.heap->YP w b.heap ->
   b.heap.get? j=some o->o.data=.func (docDef d.name d.params d.body d.scope pm x g)->b.heap.CodeRec x d.name->mg d.name=some (.ref j) ->
   b.heap.get? a=some {cls:=.type "list",data:=.seq vs.toArray}->IntsAre vs u->u.length<=n->b.gens=#[] ->
   codeAny (model l.prog w) callerA (.call (.ref j) ⟨[.ref a],[]⟩) (λr s'=>r=.ok (.ret (.bool true))/\OldK b.heap s'.heap/\s'.os=b.os/\AllBare s'.gens) b) :
  WalkO q loose XP YP l.row.toRowW d [] (λf vs=>PySem.call f vs):=by
 intro w y b mg z G Y j o pm x g X kV Z hd C I D hg J K as m L a2 F a3
 obtain rfl:X=.none:=Dflts.none I H
 obtain rfl:kV=.none:=Dflts.noKw I
 obtain ⟨a,vs,u,rfl,rfl,h,e,i⟩:=sU hn m F
 refine enter_call (codeAny_mono (call w y b mg z j o pm x g a vs u G Y Z (fd_plain hd) C D h e i hg) λr s' U=>?_)
 obtain ⟨rfl,O,P,Q⟩:=U
 exact ⟨.inl ⟨.bool true,.bool true,[],ϱ,λ_=>rfl,.bool true,sX l _,λ_=>⟨List.Pairwise.nil,λ_ W=>(nomatch W)⟩⟩,O,P,Q⟩
section
variable {prog:Program}{w:World}{A:Around}{E:Value->Shared->Prop}{s:Shared}{K:Frag}
def gU(h:Heap):Heap:={h with objs:=#[]}
theorem iG(h:Heap)(b:Addr):(gU h).get? b=none:=by
 cases e:(gU h).get? b with
 | none=>rfl
 | some o=>exact absurd (η e) (Nat.not_lt_zero _)
def iI(h:Heap)(L d:Addr):List (Addr×Obj):=(List.range h.objs.size).filterMap λa=>if a=L\/a=d then none else (h.get? a).map λo=>(a,o)
theorem mem_ledger{h:Heap}{L d a:Addr}{o:Obj}:(a,o)∈iI h L d↔a≠L/\a≠d/\h.get? a=some o:=by
 unfold iI
 rw [List.mem_filterMap]
 constructor
 ·rintro ⟨b,_,e⟩
  split at e
  ·cases e
  ·rename_i hb
   obtain ⟨l,f,g⟩:=Option.map_eq_some_iff.mp e
   cases g
   exact ⟨λq=>hb (.inl q),λq=>hb (.inr q),f⟩
 ·rintro ⟨i,j,f⟩
  refine ⟨a,List.mem_range.mpr (η f),?_⟩
  rw [if_neg (show ¬(a=L\/a=d) from λq=>q.elim i j),f]<;>rfl
theorem AR{h:Heap}{L:Addr}{m:Str->Option Value}(n:h.Ns L m):Fr (gU h) L h m :=
 ⟨n,λb o e=>(by rw [iG] at e;cases e),ϖ _⟩
end
end Att
namespace L2
open PySem PySem.Spec PyProof.Rows
theorem mJ:∀{vs:List Value} {ns:List Int},IntsAre vs ns->Vals (ns.map V.int) vs
 | _,_,.nil=>.nil
 | _,_,.cons n t h=>.cons ⟨t,rfl⟩ (mJ h)
def inClass(s:Stmt)(j:Nat):Stmt:=match s with
 | .ClassDef _ _ _ body _ _ _ _ _ _ _=>body.getD j (.Pass ⟨0,0,0,0⟩)
 | _=>.Pass ⟨0,0,0,0⟩
def defArgs(s:Stmt):Arguments:=match s with
 | .FunctionDef _ a _ _ _ _ _ _ _ _=>a
 | _=>{posonlyargs:=[],args:=[],vararg:=none,kwonlyargs:=[],kw_defaults:=[],kwarg:=none,defaults:=[]}
def defBody(s:Stmt):List Stmt:=match s with
 | .FunctionDef _ _ b _ _ _ _ _ _ _=>b
 | _=>[]
def defScope(s:Stmt):Scope:=match s with
 | .FunctionDef _ _ _ _ _ _ sc _ _ _=>sc
 | _=>{kind:=.function,names:=[],isGenerator:=false,isCoroutine:=false}
abbrev CX0:CXT:=λ_ _ _ _ _ _=>False
abbrev E0:XK:=λ_ _ _=>False
theorem aW{X:Cx}:cV CX0 X E0:=λ_ _ _ _ _ _ _ h=>h.elim
structure Fun(K:Frag)(x qual:Str)(st:Stmt)(f:Addr)(fd:FuncData):Prop where
 ex:∃(oc:Value) (od:Option Addr) (kV doc pm:Value) (an:Option Addr) (cdv ct:Value) (osl:Array (Option Value)),
  fd=PySem.W.fnOf x qual (defArgs st) (defBody st) (defScope st) .none kV doc pm an cdv ct/\K.lookup f=some ⟨oc,od,.func fd,osl⟩/\PySem.W.codeIn K cdv qual=true
 kp:PySem.W.keepIn K (.ref f)=true
section
variable {P:Program}{w:World}{K:Frag}{mg:Str->Option Value}{base:Heap}
theorem Fun.ok{x d:Str}{st:Stmt}{f:Addr}{l:FuncData}{N ps:List Str}{k:Nat}{sp:Sp}(F:Fun K x d st f l)(S:am N ps (defScope st))(len:∀vs H Q E,sp vs H Q E->vs.length=ps.length)
  (g:∀(e:Value) (A:Around) (b:List Env) (s:Shared) (H:Hp) (vs:List V) (Q:VK) (E:XK),Room k (A.deeper (envOfC d (defScope st) s.heap.objs.size f e))->sp vs H Q E ->
   ∃t,PSs (rn CX0 P w K mg base N d (defScope st) f e A b s H E).nox (defBody st) t/\t {nx:=λ_ H'=>Q .non H',rt:=Q} (start N vs) H):FnOk P w K mg base CX0 (k+1) f l ps sp:=by
 obtain ⟨y,od,kV,m,pm,an,e,z,o,rfl,r,i⟩:=F.ex
 refine zd r i S len λA b s H vs Q E u j=>?_
 obtain ⟨t,h,q⟩:=g e A b s H vs Q E u j
 exact ⟨t,h.nox,q⟩
theorem Fun.binds{x b:Str}{st:Stmt}{f:Addr}{i:FuncData}{ps:List Str}(F:Fun K x b st f i)
  (h:∀(kV d pm:Value) (an:Option Addr) (e g:Value) (us:List Value),us.length=ps.length->bindArgs (PySem.W.fnOf x b (defArgs st) (defBody st) (defScope st) .none kV d pm an e g) ⟨us,[]⟩=pure (ps.zip us)):Binds K i ps []:=by
 obtain ⟨m,od,kV,d,pm,an,e,g,j,rfl,o,l⟩:=F.ex
 exact .all (h kV d pm an e g)
theorem o6{x qual:Str}{st:Stmt}{f:Addr}{oc:Value}{od an:Option Addr}{osl:Array (Option Value)}{kV doc pm cdv ct:Value}(l:K.lookup f=some ⟨oc,od,.func (PySem.W.fnOf x qual (defArgs st) (defBody st) (defScope st) .none kV doc pm an cdv ct),osl⟩)
  (c:PySem.W.codeIn K cdv qual=true)(k:PySem.W.keepIn K (.ref f)=true):Fun K x qual st f (PySem.W.fnOf x qual (defArgs st) (defBody st) (defScope st) .none kV doc pm an cdv ct):=⟨⟨oc,od,kV,doc,pm,an,cdv,ct,osl,ϱ,l,c⟩,k⟩
end
theorem d8{n:Nat}(h:n<=1000):n<sizeLine:=Nat.lt_of_le_of_lt h ζ
section
variable {X:Cx}
theorem pv(i:Nat){x:Str}{pos:Pos}(hN:X.N[i]?=some x:=by rfl)(hv:Vis X.env.scope x:=by first | exact Or.inl rfl | exact Or.inr (Or.inl rfl) | exact Or.inr (Or.inr rfl))(hd:(x==("__debug__":Str))=false:=by decide)
  (hcd:(x==("__classdict__":Str))=false:=by decide):PE X (.Name x pos) (qt i):=qR hN hv hd hcd
end
theorem aM{A B:Prop}(h:B):if false=true then A else B:=by
 rw [if_neg Bool.false_ne_true]
 exact h
theorem bU{A B:Prop}(h:A):if true=true then A else B:=by
 rw [if_pos rfl]
 exact h
theorem bF{c A B:Prop} [Decidable c](h1:c->A)(b:¬c->B):if c then A else B:=by
 by_cases h:c
 ·rw [if_pos h]
  exact h1 h
 ·rw [if_neg h]
  exact b h
theorem yX{c A B:Prop} [Decidable c](b:c)(h:B):if (!decide c)=true then A else B:=by
 rw [τ b]
 exact aM h
def Same(H H':Hp):Prop:=∀b o,H b=some o->H' b=some o
theorem Same.refl(H:Hp):Same H H:=λ_ _ h=>h
theorem Same.trans{H H1 H2:Hp}(a:Same H H1)(b:Same H1 H2):Same H H2:=λc o h=>b c o (a c o h)
theorem Same.free{H b:Hp}(e:Same H b){l:Addr}(h:b l=Option.none):H l=Option.none:=by
 cases q:H l with
 | none=>rfl
 | some o =>
  rw [e l o q] at h
  cases h
end L2
section
set_option maxHeartbeats 0
open PySem PySem.W PyProof.Rows
lay_quick PySem.Challenge.pw_pactroom_k54_undone_once_or_void
namespace Q
noncomputable section
noncomputable abbrev vT:Value:=Value.bool true
noncomputable abbrev vF:Value:=Value.bool false
noncomputable abbrev A{α:Type}(l:List α):Array α:=Array.mk l
noncomputable abbrev E{α:Type}:Array α:=Array.mk []
noncomputable abbrev vn:Value:=Value.none
noncomputable abbrev vr(n:Nat):Value:=Value.ref n
noncomputable abbrev sr(n:Nat):Option Value:=some (Value.ref n)
noncomputable abbrev vi(a:Int)(n:Nat):Value:=Value.int a n
noncomputable abbrev vs(q:Str)(n:Nat):Value:=Value.str q n
noncomputable abbrev de(P:Params)(q:Str)(n:Nat)(v:Value):DictEntry:=DictEntry.mk (PyData.keyHash P q) (Value.str q n) v
noncomputable abbrev nd(o:Obj)(a b:BT):BT:=.node o a b
noncomputable abbrev l1(o:Obj):BT:=.node o .nil .nil
noncomputable abbrev S(l:List Nat):Str:=@Str.mk (Array.mk l)
abbrev q0:=S [60,109,111,100,117,108,101,62]
abbrev q1:=S [47,99,108,97,105,109,47,99,117,116,46,112,121]
abbrev q2:=S [95,95,109,97,105,110,95,95]
abbrev q3:=S [95,95,110,97,109,101,95,95]
abbrev q4:=S [112,97,99,116,114,111,111,109,46,115,116,101,112,115]
abbrev q5:=S [95,95,100,111,99,95,95]
abbrev q6:=S [95,95,112,97,99,107,97,103,101,95,95]
abbrev q7:=S [95,95,108,111,97,100,101,114,95,95]
abbrev q8:=S [95,95,115,112,101,99,95,95]
abbrev q9:=S [95,95,97,110,110,111,116,97,116,105,111,110,115,95,95]
abbrev q10:=S [95,95,98,117,105,108,116,105,110,115,95,95]
abbrev q11:=S [95,95,102,105,108,101,95,95]
abbrev q12:=S [95,95,99,97,99,104,101,100,95,95]
abbrev q13:=S [95,119,97,108,108]
abbrev q14:=S [82,65,78,75,83]
abbrev q15:=S [83,72,65,82,73,78,71]
abbrev q16:=S [76,111,99,107]
abbrev q17:=S [82,101,97,100]
abbrev q18:=S [77,101,97,110]
abbrev q19:=S [67,104,97,110,103,101]
abbrev q20:=S [108,111,99,107,95,111,102]
abbrev q21:=S [80,97,99,116,69,114,114,111,114]
abbrev q22:=S [78,111,84,104,105,110,103]
abbrev q23:=S [78,111,78,101,101,100]
abbrev q24:=S [87,97,105,116,105,110,103]
abbrev q25:=S [78,111,84,101,120,116]
abbrev q26:=S [76,111,99,107,115]
abbrev q27:=S [77,79,83,84,95,70,73,71,85,82,69,83,95,116,104,105,110,103,115]
abbrev q28:=S [77,79,83,84,95,83,73,71,78,83]
abbrev q29:=S [77,79,83,84,95,80,65,82,84,83]
abbrev q30:=S [77,79,83,84,95,68,69,69,80]
abbrev q31:=S [76,79,78,71,69,83,84]
abbrev q32:=S [66,76,65,78,75]
abbrev q33:=S [80,69,82,67,69,78,84]
abbrev q34:=S [84,73,76,68,69]
abbrev q35:=S [105,115,95,119,104,111,108,101]
abbrev q36:=S [114,101,97,100,95,116,104,105,110,103]
abbrev q37:=S [105,115,95,115,105,103,110]
abbrev q38:=S [82,101,97,100,101,114]
abbrev q39:=S [77,79,83,84,95,70,73,71,85,82,69,83,95,115,116,101,112,115]
abbrev q40:=S [83,72,65,80,69,83]
abbrev q41:=S [83,116,101,112]
abbrev q42:=S [67,101,108,108,83,116,101,112]
abbrev q43:=S [84,97,107,101,83,116,101,112]
abbrev q44:=S [77,101,97,110,83,116,101,112]
abbrev q45:=S [83,117,109,83,116,101,112]
abbrev q46:=S [71,105,118,101,83,116,101,112]
abbrev q47:=S [65,100,100,83,116,101,112]
abbrev q48:=S [107]
abbrev q49:=S [114,101,97,100]
abbrev q50:=S [109,101,97,110]
abbrev q51:=S [99,104,97,110,103,101]
abbrev q52:=S [95,95,109,111,100,117,108,101,95,95]
abbrev q53:=S [112,97,99,116,114,111,111,109,46,107,105,110,100,115]
abbrev q54:=S [95,95,113,117,97,108,110,97,109,101,95,95]
abbrev q55:=S [95,95,102,105,114,115,116,108,105,110,101,110,111,95,95]
abbrev q56:=S [95,95,105,110,105,116,95,95]
abbrev q57:=S [107,105,110,100]
abbrev q58:=S [98,101,115,105,100,101]
abbrev q59:=S [99,111,118,101,114,115]
abbrev q60:=S [116,111,108,100]
abbrev q61:=S [95,95,115,116,97,116,105,99,95,97,116,116,114,105,98,117,116,101,115,95,95]
abbrev q62:=S [115,101,108,102]
abbrev q63:=S [102,105,114,115,116]
abbrev q64:=S [108,97,115,116]
abbrev q65:=S [76,111,99,107,46,95,95,105,110,105,116,95,95]
abbrev q66:=S [76,111,99,107,46,107,105,110,100]
abbrev q67:=S [111,116,104,101,114]
abbrev q68:=S [97,112,97,114,116]
abbrev q69:=S [76,111,99,107,46,98,101,115,105,100,101]
abbrev q70:=S [119,105,116,104,105,110]
abbrev q71:=S [76,111,99,107,46,99,111,118,101,114,115]
abbrev q72:=S [76,111,99,107,46,116,111,108,100]
abbrev q73:=S [95,95,100,105,99,116,95,95]
abbrev q74:=S [95,95,119,101,97,107,114,101,102,95,95]
abbrev q75:=S [82,101,97,100,46,107,105,110,100]
abbrev q76:=S [77,101,97,110,46,107,105,110,100]
abbrev q77:=S [67,104,97,110,103,101,46,107,105,110,100]
abbrev q78:=S [112,97,99,116,114,111,111,109,46,101,114,114,111,114,115]
abbrev q79:=S [97,116]
abbrev q80:=S [78,111,84,101,120,116,46,95,95,105,110,105,116,95,95]
abbrev q81:=S [112,97,99,116,114,111,111,109,46,108,111,99,107,115]
abbrev q82:=S [97,115,107]
abbrev q83:=S [102,114,101,101]
abbrev q84:=S [115,116,97,110,100,115]
abbrev q85:=S [98,101,104,105,110,100]
abbrev q86:=S [104,101,108,100]
abbrev q87:=S [119,97,105,116,105,110,103]
abbrev q88:=S [104,105,110,100,101,114,101,114]
abbrev q89:=S [104,101,108,100,95,112,97,105,114,115]
abbrev q90:=S [119,97,105,116,105,110,103,95,112,97,105,114,115]
abbrev q91:=S [119,97,105,116,105,110,103,95,112,108,97,99,101]
abbrev q92:=S [76,111,99,107,115,46,95,95,105,110,105,116,95,95]
abbrev q93:=S [76,111,99,107,115,46,97,115,107]
abbrev q94:=S [76,111,99,107,115,46,102,114,101,101]
abbrev q95:=S [76,111,99,107,115,46,115,116,97,110,100,115]
abbrev q96:=S [112]
abbrev q97:=S [112,108,97,99,101]
abbrev q98:=S [76,111,99,107,115,46,98,101,104,105,110,100]
abbrev q99:=S [76,111,99,107,115,46,104,101,108,100]
abbrev q100:=S [76,111,99,107,115,46,119,97,105,116,105,110,103]
abbrev q101:=S [112,97,105,114]
abbrev q102:=S [97,104,101,97,100]
abbrev q103:=S [76,111,99,107,115,46,104,105,110,100,101,114,101,114]
abbrev q104:=S [76,111,99,107,115,46,104,101,108,100,95,112,97,105,114,115]
abbrev q105:=S [76,111,99,107,115,46,119,97,105,116,105,110,103,95,112,97,105,114,115]
abbrev q106:=S [76,111,99,107,115,46,119,97,105,116,105,110,103,95,112,108,97,99,101]
abbrev q107:=S [112,97,105,114,115]
abbrev q108:=S [116,104,105,110,103]
abbrev q109:=S [112,97,99,116,114,111,111,109,46,116,104,105,110,103,115]
abbrev q110:=S [115,105,103,110]
abbrev q111:=S [110,117,109,98,101,114]
abbrev q112:=S [112,97,115,115,101,115]
abbrev q113:=S [114,101,97,100,95,97,110,121]
abbrev q114:=S [114,101,97,100,95,112,97,114,116,115]
abbrev q115:=S [114,101,97,100,95,98,101,108,111,119]
abbrev q116:=S [114,101,97,100,95,110,117,109,98,101,114]
abbrev q117:=S [114,101,97,100,95,115,105,103,110,115]
abbrev q118:=S [116,101,120,116]
abbrev q119:=S [82,101,97,100,101,114,46,95,95,105,110,105,116,95,95]
abbrev q120:=S [82,101,97,100,101,114,46,112,97,115,115,101,115]
abbrev q121:=S [100,101,101,112]
abbrev q122:=S [82,101,97,100,101,114,46,114,101,97,100,95,97,110,121]
abbrev q123:=S [112,97,114,116,115]
abbrev q124:=S [82,101,97,100,101,114,46,114,101,97,100,95,112,97,114,116,115]
abbrev q125:=S [82,101,97,100,101,114,46,114,101,97,100,95,98,101,108,111,119]
abbrev q126:=S [115,116,97,114,116]
abbrev q127:=S [102,105,103,117,114,101,115]
abbrev q128:=S [82,101,97,100,101,114,46,114,101,97,100,95,110,117,109,98,101,114]
abbrev q129:=S [109,97,110,121]
abbrev q130:=S [115,105,103,110,115]
abbrev q131:=S [82,101,97,100,101,114,46,114,101,97,100,95,115,105,103,110,115]
abbrev q132:=S [116,97,107,101]
abbrev q133:=S [72,67]
abbrev q134:=S [115,117,109]
abbrev q135:=S [72,65,66]
abbrev q136:=S [103,105,118,101]
abbrev q137:=S [97,100,100]
abbrev q138:=S [72,67,86]
abbrev q139:=S [112,108,117,115]
abbrev q140:=S [86]
abbrev q141:=S [110,101,101,100]
abbrev q142:=S [104,111,117,115,101]
abbrev q143:=S [108,111,99,107]
abbrev q144:=S [115,116,101,112,95,100,111,110,101]
abbrev q145:=S [98,97,99,107]
abbrev q146:=S [115,117,114,101]
abbrev q147:=S [115,112,101,108,108,101,100]
abbrev q148:=S [83,116,101,112,46,104,111,117,115,101]
abbrev q149:=S [83,116,101,112,46,108,111,99,107]
abbrev q150:=S [104,97,110,100]
abbrev q151:=S [118,97,108,117,101,95,111,102]
abbrev q152:=S [83,116,101,112,46,115,116,101,112,95,100,111,110,101]
abbrev q153:=S [83,116,101,112,46,98,97,99,107]
abbrev q154:=S [83,116,101,112,46,115,117,114,101]
abbrev q155:=S [83,116,101,112,46,115,112,101,108,108,101,100]
abbrev q156:=S [119,104,101,114,101]
abbrev q157:=S [99,101,108,108]
abbrev q158:=S [67,101,108,108,83,116,101,112,46,95,95,105,110,105,116,95,95]
abbrev q159:=S [67,101,108,108,83,116,101,112,46,104,111,117,115,101]
abbrev q160:=S [84,97,107,101,83,116,101,112,46,108,111,99,107]
abbrev q161:=S [84,97,107,101,83,116,101,112,46,115,116,101,112,95,100,111,110,101]
abbrev q162:=S [84,97,107,101,83,116,101,112,46,115,112,101,108,108,101,100]
abbrev q163:=S [77,101,97,110,83,116,101,112,46,108,111,99,107]
abbrev q164:=S [77,101,97,110,83,116,101,112,46,115,116,101,112,95,100,111,110,101]
abbrev q165:=S [77,101,97,110,83,116,101,112,46,115,112,101,108,108,101,100]
abbrev q166:=S [108,111,119]
abbrev q167:=S [104,105,103,104]
abbrev q168:=S [83,117,109,83,116,101,112,46,95,95,105,110,105,116,95,95]
abbrev q169:=S [83,117,109,83,116,101,112,46,104,111,117,115,101]
abbrev q170:=S [83,117,109,83,116,101,112,46,108,111,99,107]
abbrev q171:=S [83,117,109,83,116,101,112,46,115,116,101,112,95,100,111,110,101]
abbrev q172:=S [83,117,109,83,116,101,112,46,115,112,101,108,108,101,100]
abbrev q173:=S [71,105,118,101,83,116,101,112,46,108,111,99,107]
abbrev q174:=S [71,105,118,101,83,116,101,112,46,115,116,101,112,95,100,111,110,101]
abbrev q175:=S [71,105,118,101,83,116,101,112,46,115,117,114,101]
abbrev q176:=S [71,105,118,101,83,116,101,112,46,115,112,101,108,108,101,100]
abbrev q177:=S [97,109,111,117,110,116]
abbrev q178:=S [65,100,100,83,116,101,112,46,95,95,105,110,105,116,95,95]
abbrev q179:=S [65,100,100,83,116,101,112,46,108,111,99,107]
abbrev q180:=S [65,100,100,83,116,101,112,46,115,116,101,112,95,100,111,110,101]
abbrev q181:=S [65,100,100,83,116,101,112,46,98,97,99,107]
abbrev q182:=S [65,100,100,83,116,101,112,46,115,112,101,108,108,101,100]
abbrev q183:=S [108,97,119,95,112,97,99,116,114,111,111,109,95,107,53,52,95,117,110,100,111,110,101,95,111,110,99,101,95,111,114,95,118,111,105,100]
abbrev q184:=S [80,108,117,115,83,116,101,112]
abbrev q185:=S [78,101,101,100,83,116,101,112]
abbrev q186:=S [114,101,97,100,95,115,116,101,112]
abbrev q187:=S [109,97,100,101,95,115,116,101,112]
abbrev q188:=S [109,97,100,101,95,115,117,109]
abbrev q189:=S [87,111,114,107,115]
abbrev q190:=S [83,104,101,101,116]
abbrev q191:=S [83,116,97,110,100]
abbrev q192:=S [95,108,97,119,95,99,101,108,108,95,97,116]
abbrev q193:=S [95,108,97,119,95,110,117,109,98,101,114]
abbrev q194:=S [95,108,97,119,95,115,116,101,112]
abbrev q195:=S [95,108,97,119,95,108,111,99,107]
abbrev q196:=S [95,108,97,119,95,109,101,101,116,115]
abbrev q197:=S [95,108,97,119,95,117,110,100,111,110,101]
abbrev q198:=S [95,108,97,119,95,119,97,108,107]
abbrev q199:=S [95,108,97,119,95,104,101,108,100]
abbrev q200:=S [95,108,97,119,95,115,105,108,101,110,116]
abbrev q201:=S [108,97,119]
abbrev q202:=S [80,108,117,115,83,116,101,112,46,95,95,105,110,105,116,95,95]
abbrev q203:=S [80,108,117,115,83,116,101,112,46,115,116,101,112,95,100,111,110,101]
abbrev q204:=S [80,108,117,115,83,116,101,112,46,115,112,101,108,108,101,100]
abbrev q205:=S [78,101,101,100,83,116,101,112,46,95,95,105,110,105,116,95,95]
abbrev q206:=S [78,101,101,100,83,116,101,112,46,115,116,101,112,95,100,111,110,101]
abbrev q207:=S [78,101,101,100,83,116,101,112,46,115,112,101,108,108,101,100]
abbrev q208:=S [119,111,114,100]
abbrev q209:=S [108,101,116,116,101,114]
abbrev q210:=S [110,117,109,98,101,114,115]
abbrev q211:=S [112,97,99,116,114,111,111,109,46,119,111,114,107,115]
abbrev q212:=S [116,97,107,101,95,117,112]
abbrev q213:=S [119,111,114,107]
abbrev q214:=S [100,111,95,115,116,101,112]
abbrev q215:=S [118,97,108,117,101,95,97,116]
abbrev q216:=S [115,101,110,100,95,100,105,100]
abbrev q217:=S [114,101,97,100,121]
abbrev q218:=S [101,110,100,101,100]
abbrev q219:=S [119,97,108,107]
abbrev q220:=S [117,110,100,111]
abbrev q221:=S [108,111,99,107,95,115,116,97,110,100,115]
abbrev q222:=S [116,117,114,110]
abbrev q223:=S [99,104,97,115,101]
abbrev q224:=S [105,115,95,98,111,117,110,100]
abbrev q225:=S [115,116,97,110,100]
abbrev q226:=S [104,111,109,101]
abbrev q227:=S [114,111,119]
abbrev q228:=S [87,111,114,107,115,46,95,95,105,110,105,116,95,95]
abbrev q229:=S [87,111,114,107,115,46,116,97,107,101,95,117,112]
abbrev q230:=S [115,104,101,101,116]
abbrev q231:=S [105]
abbrev q232:=S [87,111,114,107,115,46,119,111,114,107]
abbrev q233:=S [119,97,105,116,101,100]
abbrev q234:=S [87,111,114,107,115,46,100,111,95,115,116,101,112]
abbrev q235:=S [100,114,97,102,116]
abbrev q236:=S [87,111,114,107,115,46,118,97,108,117,101,95,97,116]
abbrev q237:=S [87,111,114,107,115,46,115,101,110,100,95,100,105,100]
abbrev q238:=S [87,111,114,107,115,46,114,101,97,100,121]
abbrev q239:=S [102,114,101,101,100]
abbrev q240:=S [87,111,114,107,115,46,101,110,100,101,100]
abbrev q241:=S [115,116,101,112]
abbrev q242:=S [87,111,114,107,115,46,119,97,108,107]
abbrev q243:=S [99,104,97,110,103,101,115]
abbrev q244:=S [87,111,114,107,115,46,117,110,100,111]
abbrev q245:=S [87,111,114,107,115,46,108,111,99,107,95,115,116,97,110,100,115]
abbrev q246:=S [87,111,114,107,115,46,116,117,114,110]
abbrev q247:=S [112,97,116,104]
abbrev q248:=S [87,111,114,107,115,46,99,104,97,115,101]
abbrev q249:=S [87,111,114,107,115,46,104,101,108,100]
abbrev q250:=S [87,111,114,107,115,46,119,97,105,116,105,110,103]
abbrev q251:=S [87,111,114,107,115,46,105,115,95,98,111,117,110,100]
abbrev q252:=S [97,110,115,119,101,114,115]
abbrev q253:=S [100,114,97,102,116,115]
abbrev q254:=S [108,111,99,107,115]
abbrev q255:=S [112,101,110,100,105,110,103]
abbrev q256:=S [112,97,99,116,114,111,111,109,46,115,104,101,101,116,115]
abbrev q257:=S [115,101,110,100]
abbrev q258:=S [114,111,119,115,95,116,111,108,100]
abbrev q259:=S [108,101,116,116,101,114,115,95,116,111,108,100]
abbrev q260:=S [83,104,101,101,116,46,95,95,105,110,105,116,95,95]
abbrev q261:=S [83,104,101,101,116,46,114,111,119]
abbrev q262:=S [116,111]
abbrev q263:=S [109,111,114,101]
abbrev q264:=S [83,104,101,101,116,46,115,101,110,100]
abbrev q265:=S [83,104,101,101,116,46,114,111,119,115,95,116,111,108,100]
abbrev q266:=S [83,104,101,101,116,46,108,101,116,116,101,114,115,95,116,111,108,100]
abbrev q267:=S [108,97,116,101,115,116]
abbrev q268:=S [114,111,119,115]
abbrev q269:=S [115,101,110,116]
abbrev q270:=S [112,97,99,116,114,111,111,109,46,115,116,97,110,100,115]
abbrev q271:=S [107,101,101,112]
abbrev q272:=S [99,104,97,110,103,101,115,95,111,102]
abbrev q273:=S [99,101,108,108,95,97,116]
abbrev q274:=S [99,101,108,108,115,95,116,111,108,100]
abbrev q275:=S [111,117,116,99,111,109,101]
abbrev q276:=S [110,101,119,115]
abbrev q277:=S [98,111,117,110,100]
abbrev q278:=S [108,111,115,116]
abbrev q279:=S [98,101,103,117,110]
abbrev q280:=S [119,97,108,107,101,100,95,97,116]
abbrev q281:=S [105,115,95,111,118,101,114]
abbrev q282:=S [99,101,108,108,115]
abbrev q283:=S [83,116,97,110,100,46,95,95,105,110,105,116,95,95]
abbrev q284:=S [83,116,97,110,100,46,107,101,101,112]
abbrev q285:=S [83,116,97,110,100,46,99,104,97,110,103,101,115,95,111,102]
abbrev q286:=S [83,116,97,110,100,46,99,101,108,108,95,97,116]
abbrev q287:=S [83,116,97,110,100,46,99,101,108,108,115,95,116,111,108,100]
abbrev q288:=S [83,116,97,110,100,46,111,117,116,99,111,109,101]
abbrev q289:=S [83,116,97,110,100,46,110,101,119,115]
abbrev q290:=S [83,116,97,110,100,46,98,111,117,110,100]
abbrev q291:=S [83,116,97,110,100,46,108,111,115,116]
abbrev q292:=S [83,116,97,110,100,46,98,101,103,117,110]
abbrev q293:=S [83,116,97,110,100,46,119,97,108,107,101,100,95,97,116]
abbrev q294:=S [83,116,97,110,100,46,105,115,95,111,118,101,114]
abbrev q295:=S [98,101,103,105,110,115]
abbrev q296:=S [101,110,100,115]
abbrev q297:=S [111,118,101,114,115]
abbrev q298:=S [114,101,97,100,105,101,115]
abbrev q299:=S [119,97,108,107,115]
abbrev q300:=S [119,111,114,107,101,100]
abbrev q301:=S [95,108,97,119,95,115,99,114,105,112,116]
abbrev q302:=S [95,108,97,119,95,107]
abbrev q303:=S [95,108,97,119,95,99,101,108,108]
abbrev q304:=S [95,108,97,119,95,109,97,110,121]
abbrev q305:=S [95,108,97,119,95,97,116]
abbrev q306:=S [95,108,97,119,95,119,111,114,100]
abbrev q307:=S [95,108,97,119,95,116,101,120,116]
abbrev q308:=S [95,108,97,119,95,119,111,114,100,115]
abbrev q309:=S [95,108,97,119,95,108,111,99,107,95,104,101,114,101]
abbrev q310:=S [95,108,97,119,95,119,111,114,107,115]
abbrev q311:=S [95,108,97,119,95,115,116,97,110,100]
abbrev q312:=S [95,108,97,119,95,112]
abbrev q313:=S [95,108,97,119,95,116,101,120,116,115]
abbrev q314:=S [95,108,97,119,95,99,101,108,108,115]
abbrev q315:=S [95,108,97,119,95,115,101,101,110]
abbrev q316:=S [95,108,97,119,95,105]
abbrev q317:=S [95,108,97,119,95,113]
abbrev q318:=S [95,108,97,119,95,108,111,99,107,115]
abbrev q319:=S [95,108,97,119,95,115,104,101,101,116]
noncomputable abbrev y0:Value:=(@Value.type SL.s2766695959194262286x5)
noncomputable abbrev y1:Value:=(@Value.type SL.s5856160107412720595x4)
noncomputable abbrev y2:Value:=(@Value.type SL.s658472552662922059x5)
noncomputable abbrev y3:Value:=(@Value.type SL.s14018661285674007319x4)
noncomputable abbrev y4:Value:=(@Value.builtin SL.s7097527257260152453x26)
noncomputable abbrev y5:Value:=(@Value.type SL.s7174869446012820540x8)
noncomputable abbrev y6:Value:=(@Value.type SL.s11030030927630378310x26)
noncomputable abbrev y7:Value:=(@Value.builtin SL.s10062305145149207511x16)
noncomputable abbrev y8:Value:=(@Value.type SL.s17162191345867700912x4)
noncomputable abbrev y9:Value:=(@Value.type SL.s2742458400755230247x6)
noncomputable abbrev y10:Value:=(@Value.builtin SL.s11443829558043349243x14)
noncomputable abbrev y11:Value:=(@Value.type SL.s14755015743595814543x17)
noncomputable abbrev y12:Value:=(@Value.builtin SL.s6511155373996960695x17)
noncomputable abbrev y13:Value:=(@Value.builtin SL.s12411053484034534018x21)
noncomputable abbrev y14:Value:=(@Value.builtin SL.s10220274742760427390x26)
noncomputable abbrev y15:Value:=(@Value.type SL.s4290257624100764138x5)
noncomputable abbrev y16:Value:=(@Value.builtin SL.s4860613602091757760x24)
noncomputable abbrev y17:Value:=(@Value.type SL.s6070975301684473832x10)
noncomputable abbrev y18:Value:=(@Value.type SL.s5946037652744460706x9)
noncomputable abbrev y19:Value:=(@Value.type SL.s4278001404047624695x13)
noncomputable abbrev y20:Value:=(@Value.builtin SL.s4209523147560561109x18)
noncomputable abbrev p0:Program:=PySem.Challenge.pw_pactroom_k54_undone_once_or_void
noncomputable abbrev pq:Program:=PySem.W.Fast.tw7048958934176689375
theorem pe:p0=pq:=PySem.W.Fast.te7048958934176689375
noncomputable def B(i:Nat):Stmt:=pq.main.body.getD i (.Pass ⟨0,0,0,0⟩)
noncomputable def T(i:Nat):Stmt:=p0.main.body.getD i (.Pass ⟨0,0,0,0⟩)
noncomputable def M(k j:Nat):Stmt:=L2.inClass (B k) j
noncomputable def N(k j:Nat):Stmt:=L2.inClass (T k) j
noncomputable abbrev fk(a b:Str)(s:Stmt):=FuncData.mk a b (L2.defArgs s) (.stmts (L2.defBody s)) (L2.defScope s)
section
variable (P:Params)
def a11:=Obj.mk y0 none (Data.seq E 0) E
def a12:=Obj.mk vn none (Data.fields E) E
def m0(x0:Str)(x1:Nat)(x2:Nat)(x3:Nat)(x4:Int)(x5:Nat)(x6:Nat)(x7:Int)(x8:Nat):=Obj.mk y1 none (Data.fields (A [vs x0 x1,vs x0 x2,vs q1 x3,vi x4 0,vi 0 0,vi 0 0,vi 0 0,vi 0 0,vr x5,vF,vi 181 0,vr x6,vn,vn,vn,vn,vi x7 0,vi x4 0,vs q1 x8])) E
def a13:=m0 q0 182 183 184 1 11 12 185 186
def m1(x0:Nat)(x1:Nat)(x2:Str)(x3:Nat):=Obj.mk y2 none Data.plain (A [sr x0,sr 3,sr x1,none,some (vs x2 x3),none,sr 0])
def a14:=m1 13 3 q2 164
def u0:=nd (boot_o_0 P) (nd (boot_o_1 P) (nd (boot_o_3 P) (l1 (boot_o_7 P)) (l1 a11)) (nd (boot_o_5 P) (l1 (boot_o_9 P)) (l1 a13))) (nd (boot_o_2 P) (nd (boot_o_4 P) (l1 (boot_o_8 P)) (l1 a12)) (nd (boot_o_6 P) (l1 (boot_o_10 P)) (l1 a14)))
def ta:=u0 P
def tb:=u0 P
def c0_3:=Obj.mk y3 none (Data.dict (A [de P q3 165 (vs q4 669),de P q5 166 vn,de P q6 167 vn,de P q7 168 y4,de P q8 169 vn,de P q9 170 (vr 6),de P q10 171 (vr 4),de P q11 173 (vs q1 172),de P q12 174 vn,de P q13 193 (vr 21),de P q14 205 (vr 22),de P q15 212 (vr 26),de P q16 275 (vr 71),de P q17 298 (vr 92),de P q18 321 (vr 111),de P q19 344 (vr 130),de P q20 351 (vr 139),de P q21 371 (vr 149),de P q22 387 (vr 162),de P q23 403 (vr 174),de P q24 419 (vr 186),de P q25 444 (vr 205),de P q26 546 (vr 282),de P q27 550 (vi 400 549),de P q28 552 (vi 2000 551),de P q29 554 (vi 2000 553),de P q30 556 (vi 8 555),de P q31 558 (vi 100000 557),de P q32 560 (vi 32 559),de P q33 562 (vi 37 561),de P q34 564 (vi 126 563),de P q35 571 (vr 293),de P q36 577 (vr 298),de P q37 585 (vr 305),de P q38 668 (vr 364),de P q39 672 (vi 40 671),de P q40 694 (vr 369),de P q41 759 (vr 421),de P q42 793 (vr 449),de P q43 832 (vr 482),de P q44 871 (vr 515),de P q45 927 (vr 560),de P q46 973 (vr 600),de P q47 1031 (vr 647)]) 44) E
def c0_12:=Obj.mk vn none (Data.fields (A [vi 1 0,vi 0 0,vr 20,vi 7 0,vi 0 0,vr 32,vi 26 0,vi 0 0,vr 81,vi 30 0,vi 0 0,vr 100,vi 34 0,vi 0 0,vr 119,vi 38 0,vi 0 0,vr 138,vi 45 0,vi 0 0,vr 145,vi 47 0,vi 0 0,vr 158,vi 49 0,vi 0 0,vr 170,vi 51 0,vi 0 0,vr 182,vi 53 0,vi 0 0,vr 194,vi 58 0,vi 0 0,vr 213,vi 120 0,vi 0 0,vr 292,vi 122 0,vi 0 0,vr 297,vi 132 0,vi 0 0,vr 304,vi 135 0,vi 0 0,vr 311,vi 202 0,vi 0 0,vr 375,vi 221 0,vi 0 0,vr 431,vi 229 0,vi 0 0,vr 457,vi 239 0,vi 0 0,vr 490,vi 249 0,vi 0 0,vr 523,vi 267 0,vi 0 0,vr 568,vi 280 0,vi 0 0,vr 608])) E
def m2(x0:Str)(x1:Nat):=Obj.mk y0 none (Data.seq (A [vs x0 x1]) 0) E
def c0_17:=m2 q48 190
def m3(x0:Str)(x1:Str)(x2:Stmt):=Obj.mk vn none (Data.func (fk x0 x1 x2 0 [] vn vn vn vn none vn vn 0)) E
def c0_19:=m3 q13 q13 (B 0)
def m4(x0:Str)(x1:Nat)(x2:Str)(x3:Nat)(x4:Nat)(x5:Int)(x6:Int)(x7:Nat)(x8:Nat)(x9:Nat)(x10:Nat)(x11:Nat)(x12:Int)(x13:Nat):=Obj.mk y1 none (Data.fields (A [vs x0 x1,vs x2 x3,vs q1 x4,vi x5 0,vi x6 0,vi 0 0,vi 0 0,vi 3 0,vr x7,vT,vi 181 0,vr x8,vn,vr x9,vr x10,vr x11,vi x12 0,vi x5 0,vs q1 x13])) E
def c0_20:=m4 q13 187 q13 188 189 1 1 15 16 17 18 19 191 192
def m5(x0:Str)(x1:Str)(x2:Stmt)(x3:Str)(x4:Nat)(x5:Nat):=Obj.mk y5 none (Data.func (fk x0 x1 x2 3 [] vn vn vn (vs x3 x4) none (vr x5) vn 0)) E
def c0_21:=m5 q13 q13 (B 0) q2 164 20
def c0_22:=Obj.mk y3 none (Data.dict (A [de P q49 196 (vi 0 197),de P q50 198 (vi 1 199),de P q51 200 (vi 2 201)]) 3) E
def m6(x0:Str)(x1:Nat)(x2:Str)(x3:Nat):=Obj.mk y0 none (Data.seq (A [vs x0 x1,vs x2 x3]) 0) E
def c0_23:=m6 q49 206 q49 207
def c0_24:=m6 q49 208 q50 209
def c0_25:=m6 q50 210 q49 211
def c0_26:=Obj.mk y0 none (Data.seq (A [vr 23,vr 24,vr 25]) 0) E
def c0_28:=Obj.mk y6 none (Data.fields (A [y7,y8])) E
def m7(x0:Nat)(x1:Str)(x2:Nat)(x3:Nat)(x4:Str)(x5:Nat)(x6:Nat)(x7:Int)(x8:Nat)(x9:Nat)(x10:Nat)(x11:Str)(x12:Nat)(x13:Nat)(x14:Str)(x15:Nat)(x16:Nat)(x17:Str)(x18:Nat)(x19:Nat)(x20:Str)(x21:Nat)(x22:Nat)(x23:Nat)(x24:Nat):=Obj.mk y3 none (Data.dict (A [de P q52 x0 (vs x1 x2),de P q54 x3 (vs x4 x5),de P q55 x6 (vi x7 x8),de P q56 x9 (vr x10),de P x11 x12 (vr x13),de P x14 x15 (vr x16),de P x17 x18 (vr x19),de P x20 x21 (vr x22),de P q61 x23 (vr x24)]) 9) E
def c0_29:=m7 P 220 q53 194 222 q16 221 224 7 223 233 40 q57 240 47 q58 249 54 q59 258 61 q60 265 68 268 69
def m8(x0:Int)(x1:Nat)(x2:Int)(x3:Nat)(x4:Int)(x5:Nat)(x6:Int)(x7:Nat)(x8:Int)(x9:Nat):=Obj.mk vn none (Data.fields (A [vi x0 0,vi 4 0,vr x1,vi x2 0,vi 4 0,vr x3,vi x4 0,vi 4 0,vr x5,vi x6 0,vi 4 0,vr x7,vi x8 0,vi 4 0,vr x9])) E
def c0_31:=m8 9 39 13 46 16 53 20 60 24 67
def c0_32:=m0 q16 215 216 217 7 30 31 218 219
def c0_33:=m1 32 29 q53 194
def m9(x0:Str)(x1:Nat)(x2:Str)(x3:Nat)(x4:Str)(x5:Nat):=Obj.mk y0 none (Data.seq (A [vs x0 x1,vs x2 x3,vs x4 x5]) 0) E
def c0_36:=m9 q62 228 q63 229 q64 230
def c0_38:=m3 q56 q65 (M 4 0)
def c0_39:=m4 q56 225 q65 226 227 9 3 34 35 36 37 38 231 232
def c0_40:=m5 q56 q65 (M 4 0) q53 194 39
def c0_43:=m2 q62 237
def c0_45:=m3 q57 q66 (M 4 1)
def c0_46:=m4 q57 234 q66 235 236 13 1 41 42 43 44 45 238 239
def c0_47:=m5 q57 q66 (M 4 1) q53 194 46
def c0_50:=m9 q62 244 q67 245 q68 246
def c0_52:=m3 q58 q69 (M 4 2)
def c0_53:=m4 q58 241 q69 242 243 16 2 48 49 50 51 52 247 248
def c0_54:=m5 q58 q69 (M 4 2) q53 194 53
def c0_57:=m9 q62 253 q67 254 q70 255
def c0_59:=m3 q59 q71 (M 4 3)
def c0_60:=m4 q59 250 q71 251 252 20 2 55 56 57 58 59 256 257
def c0_61:=m5 q59 q71 (M 4 3) q53 194 60
def c0_64:=m2 q62 262
def c0_66:=m3 q60 q72 (M 4 4)
def c0_67:=m4 q60 259 q72 260 261 24 1 62 63 64 65 66 263 264
def c0_68:=m5 q60 q72 (M 4 4) q53 194 67
def c0_69:=m6 q63 266 q64 267
def c0_70:=Obj.mk y3 none (Data.dict (A [de P q52 220 (vs q53 194),de P q55 224 (vi 7 223),de P q56 233 (vr 40),de P q57 240 (vr 47),de P q58 249 (vr 54),de P q59 258 (vr 61),de P q60 265 (vr 68),de P q61 268 (vr 69),de P q73 270 (vr 72),de P q74 272 (vr 73),de P q5 273 vn]) 4) E
def c0_71:=Obj.mk y8 none (Data.cls (ClassData.mk q16 [y9] [vr 71,y9] 70 q16 true [] [vr 92,vr 111,vr 130] false none false)) (A [none,none,some (vs q16 213),some (vs q16 221),some y10,some vT])
def m10(x0:Nat)(x1:Nat):=Obj.mk y11 none (Data.fields (A [vs q73 x0,vr x1,y12,y13])) E
def c0_72:=m10 269 71
def m11(x0:Nat)(x1:Nat):=Obj.mk y11 none (Data.fields (A [vs q74 x0,vr x1,y14,vn])) E
def c0_73:=m11 271 71
def m12(x0:Nat):=Obj.mk y15 none (Data.fields (A [vr x0,vr x0,vr x0])) E
def c0_74:=m12 71
def m13(x0:Nat):=Obj.mk y6 none (Data.fields (A [y16,vr x0])) E
def c0_75:=m13 71
def m14(x0:Nat):=Obj.mk y0 none (Data.seq (A [vr x0]) 0) E
def c0_76:=m14 71
def m15(x0:Nat)(x1:Str)(x2:Nat)(x3:Nat)(x4:Str)(x5:Nat)(x6:Nat)(x7:Int)(x8:Nat)(x9:Str)(x10:Nat)(x11:Nat)(x12:Nat)(x13:Nat):=Obj.mk y3 none (Data.dict (A [de P q52 x0 (vs x1 x2),de P q54 x3 (vs x4 x5),de P q55 x6 (vi x7 x8),de P x9 x10 (vr x11),de P q61 x12 (vr x13)]) 5) E
def c0_78:=m15 P 283 q53 194 285 q17 284 287 26 286 q57 294 89 295 90
def m16(x0:Int)(x1:Nat):=Obj.mk vn none (Data.fields (A [vi x0 0,vi 4 0,vr x1])) E
def c0_80:=m16 28 88
def c0_81:=m0 q17 278 279 280 26 79 80 281 282
def c0_82:=m1 81 78 q53 194
def c0_85:=m2 q62 291
def c0_87:=m3 q57 q75 (M 5 0)
def c0_88:=m4 q57 288 q75 289 290 28 1 83 84 85 86 87 292 293
def c0_89:=m5 q57 q75 (M 5 0) q53 194 88
def m17(x0:Nat)(x1:Str)(x2:Nat)(x3:Nat)(x4:Int)(x5:Nat)(x6:Str)(x7:Nat)(x8:Nat)(x9:Nat)(x10:Nat)(x11:Nat):=Obj.mk y3 none (Data.dict (A [de P q52 x0 (vs x1 x2),de P q55 x3 (vi x4 x5),de P x6 x7 (vr x8),de P q61 x9 (vr x10),de P q5 x11 vn]) 2) E
def c0_91:=m17 P 283 q53 194 287 26 286 q57 294 89 295 90 296
def c0_92:=Obj.mk y8 none (Data.cls (ClassData.mk q17 [vr 71] [vr 92,vr 71,y9] 91 q17 true [] [] false none false)) (A [sr 76,none,some (vs q17 276),some (vs q17 284),some y10,some vT])
def c0_93:=m12 92
def c0_94:=m13 92
def c0_97:=m15 P 306 q53 194 308 q18 307 310 30 309 q57 317 108 318 109
def c0_99:=m16 32 107
def c0_100:=m0 q18 301 302 303 30 98 99 304 305
def c0_101:=m1 100 97 q53 194
def c0_104:=m2 q62 314
def c0_106:=m3 q57 q76 (M 6 0)
def c0_107:=m4 q57 311 q76 312 313 32 1 102 103 104 105 106 315 316
def c0_108:=m5 q57 q76 (M 6 0) q53 194 107
def c0_110:=m17 P 306 q53 194 310 30 309 q57 317 108 318 109 319
def c0_111:=Obj.mk y8 none (Data.cls (ClassData.mk q18 [vr 71] [vr 111,vr 71,y9] 110 q18 true [] [] false none false)) (A [sr 95,none,some (vs q18 299),some (vs q18 307),some y10,some vT])
def c0_112:=m12 111
def c0_113:=m13 111
def c0_116:=m15 P 329 q53 194 331 q19 330 333 34 332 q57 340 127 341 128
def c0_118:=m16 36 126
def c0_119:=m0 q19 324 325 326 34 117 118 327 328
def c0_120:=m1 119 116 q53 194
def c0_123:=m2 q62 337
def c0_125:=m3 q57 q77 (M 7 0)
def c0_126:=m4 q57 334 q77 335 336 36 1 121 122 123 124 125 338 339
def c0_127:=m5 q57 q77 (M 7 0) q53 194 126
def c0_129:=m17 P 329 q53 194 333 34 332 q57 340 127 341 128 342
def c0_130:=Obj.mk y8 none (Data.cls (ClassData.mk q19 [vr 71] [vr 130,vr 71,y9] 129 q19 true [] [] false none false)) (A [sr 114,none,some (vs q19 322),some (vs q19 330),some y10,some vT])
def c0_131:=m12 130
def c0_132:=m13 130
def c0_135:=m2 q60 348
def c0_137:=m3 q20 q20 (B 8)
def c0_138:=m4 q20 345 q20 346 347 38 1 133 134 135 136 137 349 350
def c0_139:=m5 q20 q20 (B 8) q53 194 138
def c0_140:=Obj.mk y0 none (Data.seq (A [y17]) 0) E
def m18(x0:Nat)(x1:Nat)(x2:Str)(x3:Nat)(x4:Nat)(x5:Int)(x6:Nat)(x7:Nat)(x8:Nat):=Obj.mk y3 none (Data.dict (A [de P q52 x0 (vs q78 352),de P q54 x1 (vs x2 x3),de P q55 x4 (vi x5 x6),de P q61 x7 (vr x8)]) 4) E
def c0_142:=m18 P 361 363 q21 362 365 45 364 366 147
def c0_145:=m0 q21 356 357 358 45 143 144 359 360
def c0_146:=m1 145 142 q78 352
def c0_148:=Obj.mk y3 none (Data.dict (A [de P q52 361 (vs q78 352),de P q55 365 (vi 45 364),de P q61 366 (vr 147),de P q74 368 (vr 150),de P q5 369 vn]) 3) E
def c0_149:=Obj.mk y8 none (Data.cls (ClassData.mk q21 [y17] [vr 149,y17,y18,y19,y9] 148 q21 true [] [vr 162,vr 174,vr 186,vr 205] false none false)) (A [sr 140,none,some (vs q21 354),some (vs q21 362),some y20,some vT])
def c0_150:=m11 367 149
def c0_151:=m12 149
def c0_152:=m13 149
def c0_153:=m14 149
def c0_155:=m18 P 379 381 q22 380 383 47 382 384 160
def c0_158:=m0 q22 374 375 376 47 156 157 377 378
def c0_159:=m1 158 155 q78 352
def m19(x0:Nat)(x1:Nat)(x2:Int)(x3:Nat)(x4:Nat)(x5:Nat)(x6:Nat):=Obj.mk y3 none (Data.dict (A [de P q52 x0 (vs q78 352),de P q55 x1 (vi x2 x3),de P q61 x4 (vr x5),de P q5 x6 vn]) 2) E
def c0_161:=m19 P 379 383 47 382 384 160 385
def c0_162:=Obj.mk y8 none (Data.cls (ClassData.mk q22 [vr 149] [vr 162,vr 149,y17,y18,y19,y9] 161 q22 true [] [] false none false)) (A [sr 153,none,some (vs q22 372),some (vs q22 380),some y20,some vT])
def c0_163:=m12 162
def c0_164:=m13 162
def c0_167:=m18 P 395 397 q23 396 399 49 398 400 172
def c0_170:=m0 q23 390 391 392 49 168 169 393 394
def c0_171:=m1 170 167 q78 352
def c0_173:=m19 P 395 399 49 398 400 172 401
def c0_174:=Obj.mk y8 none (Data.cls (ClassData.mk q23 [vr 149] [vr 174,vr 149,y17,y18,y19,y9] 173 q23 true [] [] false none false)) (A [sr 165,none,some (vs q23 388),some (vs q23 396),some y20,some vT])
def c0_175:=m12 174
def c0_176:=m13 174
def c0_179:=m18 P 411 413 q24 412 415 51 414 416 184
def c0_182:=m0 q24 406 407 408 51 180 181 409 410
def c0_183:=m1 182 179 q78 352
def c0_185:=m19 P 411 415 51 414 416 184 417
def c0_186:=Obj.mk y8 none (Data.cls (ClassData.mk q24 [vr 149] [vr 186,vr 149,y17,y18,y19,y9] 185 q24 true [] [] false none false)) (A [sr 177,none,some (vs q24 404),some (vs q24 412),some y20,some vT])
def c0_187:=m12 186
def c0_188:=m13 186
def c0_191:=m15 P 427 q78 352 429 q25 428 431 53 430 q56 439 202 441 203
def c0_193:=m16 55 201
def c0_194:=m0 q25 422 423 424 53 192 193 425 426
def c0_195:=m1 194 191 q78 352
def c0_198:=m6 q62 435 q79 436
def c0_200:=m3 q56 q80 (M 14 0)
def c0_201:=m4 q56 432 q80 433 434 55 2 196 197 198 199 200 437 438
def c0_202:=m5 q56 q80 (M 14 0) q78 352 201
def c0_203:=m2 q79 440
def c0_204:=m17 P 427 q78 352 431 53 430 q56 439 202 441 203 442
def c0_205:=Obj.mk y8 none (Data.cls (ClassData.mk q25 [vr 149] [vr 205,vr 149,y17,y18,y19,y9] 204 q25 true [] [] false none false)) (A [sr 189,none,some (vs q25 420),some (vs q25 428),some y20,some vT])
def c0_206:=m12 205
def c0_207:=m13 205
def c0_210:=Obj.mk y3 none (Data.dict (A [de P q52 454 (vs q81 445),de P q54 456 (vs q26 455),de P q55 458 (vi 58 457),de P q56 465 (vr 221),de P q82 471 (vr 226),de P q83 477 (vr 231),de P q84 483 (vr 236),de P q85 492 (vr 243),de P q86 498 (vr 248),de P q87 505 (vr 255),de P q88 516 (vr 262),de P q89 522 (vr 267),de P q90 528 (vr 272),de P q91 537 (vr 279),de P q61 539 (vr 280)]) 15) E
def c0_212:=Obj.mk vn none (Data.fields (A [vi 60 0,vi 4 0,vr 220,vi 63 0,vi 4 0,vr 225,vi 71 0,vi 4 0,vr 230,vi 77 0,vi 4 0,vr 235,vi 80 0,vi 4 0,vr 242,vi 86 0,vi 4 0,vr 247,vi 89 0,vi 4 0,vr 254,vi 92 0,vi 4 0,vr 261,vi 100 0,vi 4 0,vr 266,vi 103 0,vi 4 0,vr 271,vi 106 0,vi 4 0,vr 278])) E
def c0_213:=m0 q26 449 450 451 58 211 212 452 453
def c0_214:=m1 213 210 q81 445
def c0_217:=m2 q62 462
def c0_219:=m3 q56 q92 (M 16 0)
def c0_220:=m4 q56 459 q92 460 461 60 1 215 216 217 218 219 463 464
def c0_221:=m5 q56 q92 (M 16 0) q81 445 220
def c0_224:=m3 q82 q93 (M 16 1)
def m20(x0:Str)(x1:Nat)(x2:Str)(x3:Nat)(x4:Nat)(x5:Int)(x6:Int)(x7:Nat)(x8:Nat)(x9:Nat)(x10:Int)(x11:Nat):=Obj.mk y1 none (Data.fields (A [vs x0 x1,vs x2 x3,vs q1 x4,vi x5 0,vi x6 0,vi 0 0,vi 0 0,vi 3 0,vr x7,vT,vi 181 0,vr x8,vn,vn,vn,vr x9,vi x10 0,vi x5 0,vs q1 x11])) E
def c0_225:=m20 q82 466 q93 467 468 63 3 222 223 224 469 470
def c0_226:=m5 q82 q93 (M 16 1) q81 445 225
def c0_229:=m3 q83 q94 (M 16 2)
def c0_230:=m20 q83 472 q94 473 474 71 2 227 228 229 475 476
def c0_231:=m5 q83 q94 (M 16 2) q81 445 230
def c0_234:=m3 q84 q95 (M 16 3)
def c0_235:=m20 q84 478 q95 479 480 77 3 232 233 234 481 482
def c0_236:=m5 q84 q95 (M 16 3) q81 445 235
def c0_239:=m9 q62 487 q96 488 q97 489
def c0_241:=m3 q85 q98 (M 16 4)
def c0_242:=m4 q85 484 q98 485 486 80 2 237 238 239 240 241 490 491
def c0_243:=m5 q85 q98 (M 16 4) q81 445 242
def c0_246:=m3 q86 q99 (M 16 5)
def c0_247:=m20 q86 493 q99 494 495 86 1 244 245 246 496 497
def c0_248:=m5 q86 q99 (M 16 5) q81 445 247
def c0_251:=m2 q62 502
def c0_253:=m3 q87 q100 (M 16 6)
def c0_254:=m4 q87 499 q100 500 501 89 1 249 250 251 252 253 503 504
def c0_255:=m5 q87 q100 (M 16 6) q81 445 254
def m21(x0:Str)(x1:Nat)(x2:Str)(x3:Nat)(x4:Str)(x5:Nat)(x6:Str)(x7:Nat)(x8:Str)(x9:Nat):=Obj.mk y0 none (Data.seq (A [vs x0 x1,vs x2 x3,vs x4 x5,vs x6 x7,vs x8 x9]) 0) E
def c0_258:=m21 q62 509 q97 510 q101 511 q48 512 q102 513
def c0_260:=m3 q88 q103 (M 16 7)
def c0_261:=m4 q88 506 q103 507 508 92 2 256 257 258 259 260 514 515
def c0_262:=m5 q88 q103 (M 16 7) q81 445 261
def c0_265:=m3 q89 q104 (M 16 8)
def c0_266:=m20 q89 517 q104 518 519 100 1 263 264 265 520 521
def c0_267:=m5 q89 q104 (M 16 8) q81 445 266
def c0_270:=m3 q90 q105 (M 16 9)
def c0_271:=m20 q90 523 q105 524 525 103 1 268 269 270 526 527
def c0_272:=m5 q90 q105 (M 16 9) q81 445 271
def c0_275:=m9 q62 532 q96 533 q48 534
def c0_277:=m3 q91 q106 (M 16 10)
def c0_278:=m4 q91 529 q106 530 531 106 2 273 274 275 276 277 535 536
def c0_279:=m5 q91 q106 (M 16 10) q81 445 278
def c0_280:=m2 q107 538
def c0_281:=Obj.mk y3 none (Data.dict (A [de P q52 454 (vs q81 445),de P q55 458 (vi 58 457),de P q56 465 (vr 221),de P q82 471 (vr 226),de P q83 477 (vr 231),de P q84 483 (vr 236),de P q85 492 (vr 243),de P q86 498 (vr 248),de P q87 505 (vr 255),de P q88 516 (vr 262),de P q89 522 (vr 267),de P q90 528 (vr 272),de P q91 537 (vr 279),de P q61 539 (vr 280),de P q73 541 (vr 283),de P q74 543 (vr 284),de P q5 544 vn]) 4) E
def c0_282:=Obj.mk y8 none (Data.cls (ClassData.mk q26 [y9] [vr 282,y9] 281 q26 true [] [] false none false)) (A [none,none,some (vs q26 447),some (vs q26 455),some y10,some vT])
def c0_283:=m10 540 282
def c0_284:=m11 542 282
def c0_285:=m12 282
def c0_286:=m13 282
def c0_289:=m2 q108 568
def c0_291:=m3 q35 q35 (B 26)
def c0_292:=m4 q35 565 q35 566 567 120 1 287 288 289 290 291 569 570
def c0_293:=m5 q35 q35 (B 26) q109 547 292
def c0_296:=m3 q36 q36 (B 27)
def c0_297:=m20 q36 572 q36 573 574 122 1 294 295 296 575 576
def c0_298:=m5 q36 q36 (B 27) q109 547 297
def c0_301:=m6 q110 581 q111 582
def c0_303:=m3 q37 q37 (B 28)
def c0_304:=m4 q37 578 q37 579 580 132 1 299 300 301 302 303 583 584
def c0_305:=m5 q37 q37 (B 28) q109 547 304
def c0_308:=Obj.mk y3 none (Data.dict (A [de P q52 593 (vs q109 547),de P q54 595 (vs q38 594),de P q55 597 (vi 135 596),de P q56 605 (vr 319),de P q112 613 (vr 326),de P q113 622 (vr 333),de P q114 631 (vr 340),de P q115 639 (vr 347),de P q116 648 (vr 354),de P q117 658 (vr 361),de P q61 661 (vr 362)]) 11) E
def c0_310:=Obj.mk vn none (Data.fields (A [vi 137 0,vi 4 0,vr 318,vi 141 0,vi 4 0,vr 325,vi 147 0,vi 4 0,vr 332,vi 157 0,vi 4 0,vr 339,vi 171 0,vi 4 0,vr 346,vi 177 0,vi 4 0,vr 353,vi 190 0,vi 4 0,vr 360])) E
def c0_311:=m0 q38 588 589 590 135 309 310 591 592
def c0_312:=m1 311 308 q109 547
def c0_315:=m6 q62 601 q118 602
def c0_317:=m3 q56 q119 (M 29 0)
def c0_318:=m4 q56 598 q119 599 600 137 2 313 314 315 316 317 603 604
def c0_319:=m5 q56 q119 (M 29 0) q109 547 318
def c0_322:=m6 q62 609 q110 610
def c0_324:=m3 q112 q120 (M 29 1)
def c0_325:=m4 q112 606 q120 607 608 141 2 320 321 322 323 324 611 612
def c0_326:=m5 q112 q120 (M 29 1) q109 547 325
def c0_329:=m9 q62 617 q121 618 q111 619
def c0_331:=m3 q113 q122 (M 29 2)
def c0_332:=m4 q113 614 q122 615 616 147 2 327 328 329 330 331 620 621
def c0_333:=m5 q113 q122 (M 29 2) q109 547 332
def c0_336:=m9 q62 626 q121 627 q123 628
def c0_338:=m3 q114 q124 (M 29 3)
def c0_339:=m4 q114 623 q124 624 625 157 2 334 335 336 337 338 629 630
def c0_340:=m5 q114 q124 (M 29 3) q109 547 339
def c0_343:=m6 q62 635 q111 636
def c0_345:=m3 q115 q125 (M 29 4)
def c0_346:=m4 q115 632 q125 633 634 171 1 341 342 343 344 345 637 638
def c0_347:=m5 q115 q125 (M 29 4) q109 547 346
def c0_350:=m9 q62 643 q126 644 q127 645
def c0_352:=m3 q116 q128 (M 29 5)
def c0_353:=m4 q116 640 q128 641 642 177 1 348 349 350 351 352 646 647
def c0_354:=m5 q116 q128 (M 29 5) q109 547 353
def m22(x0:Str)(x1:Nat)(x2:Str)(x3:Nat)(x4:Str)(x5:Nat)(x6:Str)(x7:Nat):=Obj.mk y0 none (Data.seq (A [vs x0 x1,vs x2 x3,vs x4 x5,vs x6 x7]) 0) E
def c0_357:=m22 q62 652 q129 653 q85 654 q130 655
def c0_359:=m3 q117 q131 (M 29 6)
def c0_360:=m4 q117 649 q131 650 651 190 2 355 356 357 358 359 656 657
def c0_361:=m5 q117 q131 (M 29 6) q109 547 360
def c0_362:=m6 q97 659 q118 660
def c0_363:=Obj.mk y3 none (Data.dict (A [de P q52 593 (vs q109 547),de P q55 597 (vi 135 596),de P q56 605 (vr 319),de P q112 613 (vr 326),de P q113 622 (vr 333),de P q114 631 (vr 340),de P q115 639 (vr 347),de P q116 648 (vr 354),de P q117 658 (vr 361),de P q61 661 (vr 362),de P q73 663 (vr 365),de P q74 665 (vr 366),de P q5 666 vn]) 4) E
def c0_364:=Obj.mk y8 none (Data.cls (ClassData.mk q38 [y9] [vr 364,y9] 363 q38 true [] [] false none false)) (A [none,none,some (vs q38 586),some (vs q38 594),some y10,some vT])
def c0_365:=m10 662 364
def c0_366:=m11 664 364
def c0_367:=m12 364
def c0_368:=m13 364
def c0_369:=Obj.mk y3 none (Data.dict (A [de P q132 673 (vs q133 674),de P q50 675 (vs q133 676),de P q134 677 (vs q135 678),de P q136 679 (vs q133 680),de P q137 681 (vs q138 682),de P q139 683 (vs q140 684),de P q141 685 (vs q140 686)]) 7) E
def c0_372:=Obj.mk y3 none (Data.dict (A [de P q52 702 (vs q4 669),de P q54 704 (vs q41 703),de P q55 706 (vi 202 705),de P q142 713 (vr 383),de P q143 720 (vr 390),de P q144 729 (vr 397),de P q145 737 (vr 404),de P q146 744 (vr 411),de P q147 751 (vr 418),de P q61 752 (vr 419)]) 10) E
def c0_374:=Obj.mk vn none (Data.fields (A [vi 204 0,vi 4 0,vr 382,vi 207 0,vi 4 0,vr 389,vi 210 0,vi 4 0,vr 396,vi 213 0,vi 4 0,vr 403,vi 216 0,vi 4 0,vr 410,vi 219 0,vi 4 0,vr 417])) E
def c0_375:=m0 q41 697 698 699 202 373 374 700 701
def c0_376:=m1 375 372 q4 669
def c0_379:=m2 q62 710
def c0_381:=m3 q142 q148 (M 33 0)
def c0_382:=m4 q142 707 q148 708 709 204 1 377 378 379 380 381 711 712
def c0_383:=m5 q142 q148 (M 33 0) q4 669 382
def c0_386:=m2 q62 717
def c0_388:=m3 q143 q149 (M 33 1)
def c0_389:=m4 q143 714 q149 715 716 207 1 384 385 386 387 388 718 719
def c0_390:=m5 q143 q149 (M 33 1) q4 669 389
def c0_393:=m9 q62 724 q150 725 q151 726
def c0_395:=m3 q144 q152 (M 33 2)
def c0_396:=m4 q144 721 q152 722 723 210 3 391 392 393 394 395 727 728
def c0_397:=m5 q144 q152 (M 33 2) q4 669 396
def c0_400:=m6 q62 733 q151 734
def c0_402:=m3 q145 q153 (M 33 3)
def c0_403:=m4 q145 730 q153 731 732 213 2 398 399 400 401 402 735 736
def c0_404:=m5 q145 q153 (M 33 3) q4 669 403
def c0_407:=m2 q62 741
def c0_409:=m3 q146 q154 (M 33 4)
def c0_410:=m4 q146 738 q154 739 740 216 1 405 406 407 408 409 742 743
def c0_411:=m5 q146 q154 (M 33 4) q4 669 410
def c0_414:=m2 q62 748
def c0_416:=m3 q147 q155 (M 33 5)
def c0_417:=m4 q147 745 q155 746 747 219 1 412 413 414 415 416 749 750
def c0_418:=m5 q147 q155 (M 33 5) q4 669 417
def c0_420:=Obj.mk y3 none (Data.dict (A [de P q52 702 (vs q4 669),de P q55 706 (vi 202 705),de P q142 713 (vr 383),de P q143 720 (vr 390),de P q144 729 (vr 397),de P q145 737 (vr 404),de P q146 744 (vr 411),de P q147 751 (vr 418),de P q61 752 (vr 419),de P q73 754 (vr 422),de P q74 756 (vr 423),de P q5 757 vn]) 4) E
def c0_421:=Obj.mk y8 none (Data.cls (ClassData.mk q41 [y9] [vr 421,y9] 420 q41 true [] [vr 449,vr 560] false none false)) (A [none,none,some (vs q41 695),some (vs q41 703),some y10,some vT])
def c0_422:=m10 753 421
def c0_423:=m11 755 421
def c0_424:=m12 421
def c0_425:=m13 421
def c0_426:=m14 421
def c0_428:=Obj.mk y3 none (Data.dict (A [de P q52 767 (vs q4 669),de P q54 769 (vs q42 768),de P q55 771 (vi 221 770),de P q56 780 (vr 439),de P q142 787 (vr 446),de P q61 790 (vr 447)]) 6) E
def c0_430:=Obj.mk vn none (Data.fields (A [vi 223 0,vi 4 0,vr 438,vi 227 0,vi 4 0,vr 445])) E
def c0_431:=m0 q42 762 763 764 221 429 430 765 766
def c0_432:=m1 431 428 q4 669
def c0_435:=m9 q62 775 q156 776 q157 777
def c0_437:=m3 q56 q158 (M 34 0)
def c0_438:=m4 q56 772 q158 773 774 223 3 433 434 435 436 437 778 779
def c0_439:=m5 q56 q158 (M 34 0) q4 669 438
def c0_442:=m2 q62 784
def c0_444:=m3 q142 q159 (M 34 1)
def c0_445:=m4 q142 781 q159 782 783 227 1 440 441 442 443 444 785 786
def c0_446:=m5 q142 q159 (M 34 1) q4 669 445
def c0_447:=m6 q157 788 q156 789
def c0_448:=Obj.mk y3 none (Data.dict (A [de P q52 767 (vs q4 669),de P q55 771 (vi 221 770),de P q56 780 (vr 439),de P q142 787 (vr 446),de P q61 790 (vr 447),de P q5 791 vn]) 2) E
def c0_449:=Obj.mk y8 none (Data.cls (ClassData.mk q42 [vr 421] [vr 449,vr 421,y9] 448 q42 true [] [vr 482,vr 515,vr 600,vr 647] false none false)) (A [sr 426,none,some (vs q42 760),some (vs q42 768),some y10,some vT])
def c0_450:=m12 449
def c0_451:=m13 449
def c0_452:=m14 449
def m23(x0:Nat)(x1:Nat)(x2:Str)(x3:Nat)(x4:Nat)(x5:Int)(x6:Nat)(x7:Str)(x8:Nat)(x9:Nat)(x10:Nat)(x11:Nat)(x12:Nat)(x13:Nat)(x14:Nat)(x15:Nat):=Obj.mk y3 none (Data.dict (A [de P q52 x0 (vs q4 669),de P q54 x1 (vs x2 x3),de P q55 x4 (vi x5 x6),de P x7 x8 (vr x9),de P q144 x10 (vr x11),de P q147 x12 (vr x13),de P q61 x14 (vr x15)]) 7) E
def c0_454:=m23 P 801 803 q43 802 805 229 804 q143 812 465 821 472 828 479 829 480
def m24(x0:Int)(x1:Nat)(x2:Int)(x3:Nat)(x4:Int)(x5:Nat):=Obj.mk vn none (Data.fields (A [vi x0 0,vi 4 0,vr x1,vi x2 0,vi 4 0,vr x3,vi x4 0,vi 4 0,vr x5])) E
def c0_456:=m24 231 464 234 471 237 478
def c0_457:=m0 q43 796 797 798 229 455 456 799 800
def c0_458:=m1 457 454 q4 669
def c0_461:=m2 q62 809
def c0_463:=m3 q143 q160 (M 35 0)
def c0_464:=m4 q143 806 q160 807 808 231 1 459 460 461 462 463 810 811
def c0_465:=m5 q143 q160 (M 35 0) q4 669 464
def c0_468:=m9 q62 816 q150 817 q151 818
def c0_470:=m3 q144 q161 (M 35 1)
def c0_471:=m4 q144 813 q161 814 815 234 3 466 467 468 469 470 819 820
def c0_472:=m5 q144 q161 (M 35 1) q4 669 471
def c0_475:=m2 q62 825
def c0_477:=m3 q147 q162 (M 35 2)
def c0_478:=m4 q147 822 q162 823 824 237 1 473 474 475 476 477 826 827
def c0_479:=m5 q147 q162 (M 35 2) q4 669 478
def m25(x0:Nat)(x1:Nat)(x2:Int)(x3:Nat)(x4:Str)(x5:Nat)(x6:Nat)(x7:Nat)(x8:Nat)(x9:Nat)(x10:Nat)(x11:Nat)(x12:Nat)(x13:Nat):=Obj.mk y3 none (Data.dict (A [de P q52 x0 (vs q4 669),de P q55 x1 (vi x2 x3),de P x4 x5 (vr x6),de P q144 x7 (vr x8),de P q147 x9 (vr x10),de P q61 x11 (vr x12),de P q5 x13 vn]) 2) E
def c0_481:=m25 P 801 805 229 804 q143 812 465 821 472 828 479 829 480 830
def c0_482:=Obj.mk y8 none (Data.cls (ClassData.mk q43 [vr 449] [vr 482,vr 449,vr 421,y9] 481 q43 true [] [] false none false)) (A [sr 452,none,some (vs q43 794),some (vs q43 802),some y10,some vT])
def c0_483:=m12 482
def c0_484:=m13 482
def c0_487:=m23 P 840 842 q44 841 844 239 843 q143 851 498 860 505 867 512 868 513
def c0_489:=m24 241 497 244 504 247 511
def c0_490:=m0 q44 835 836 837 239 488 489 838 839
def c0_491:=m1 490 487 q4 669
def c0_494:=m2 q62 848
def c0_496:=m3 q143 q163 (M 36 0)
def c0_497:=m4 q143 845 q163 846 847 241 1 492 493 494 495 496 849 850
def c0_498:=m5 q143 q163 (M 36 0) q4 669 497
def c0_501:=m9 q62 855 q150 856 q151 857
def c0_503:=m3 q144 q164 (M 36 1)
def c0_504:=m4 q144 852 q164 853 854 244 3 499 500 501 502 503 858 859
def c0_505:=m5 q144 q164 (M 36 1) q4 669 504
def c0_508:=m2 q62 864
def c0_510:=m3 q147 q165 (M 36 2)
def c0_511:=m4 q147 861 q165 862 863 247 1 506 507 508 509 510 865 866
def c0_512:=m5 q147 q165 (M 36 2) q4 669 511
def c0_514:=m25 P 840 844 239 843 q143 851 498 860 505 867 512 868 513 869
def c0_515:=Obj.mk y8 none (Data.cls (ClassData.mk q44 [vr 449] [vr 515,vr 449,vr 421,y9] 514 q44 true [] [] false none false)) (A [sr 485,none,some (vs q44 833),some (vs q44 841),some y10,some vT])
def c0_516:=m12 515
def c0_517:=m13 515
def c0_520:=m7 P 879 q4 669 881 q45 880 883 249 882 893 531 q142 900 538 q143 907 545 q144 913 550 q147 920 557 924 558
def c0_522:=m8 251 530 256 537 259 544 262 549 265 556
def c0_523:=m0 q45 874 875 876 249 521 522 877 878
def c0_524:=m1 523 520 q4 669
def c0_527:=m22 q62 887 q156 888 q166 889 q167 890
def c0_529:=m3 q56 q168 (M 37 0)
def c0_530:=m4 q56 884 q168 885 886 251 4 525 526 527 528 529 891 892
def c0_531:=m5 q56 q168 (M 37 0) q4 669 530
def c0_534:=m2 q62 897
def c0_536:=m3 q142 q169 (M 37 1)
def c0_537:=m4 q142 894 q169 895 896 256 1 532 533 534 535 536 898 899
def c0_538:=m5 q142 q169 (M 37 1) q4 669 537
def c0_541:=m2 q62 904
def c0_543:=m3 q143 q170 (M 37 2)
def c0_544:=m4 q143 901 q170 902 903 259 1 539 540 541 542 543 905 906
def c0_545:=m5 q143 q170 (M 37 2) q4 669 544
def c0_548:=m3 q144 q171 (M 37 3)
def c0_549:=m20 q144 908 q171 909 910 262 3 546 547 548 911 912
def c0_550:=m5 q144 q171 (M 37 3) q4 669 549
def c0_553:=m2 q62 917
def c0_555:=m3 q147 q172 (M 37 4)
def c0_556:=m4 q147 914 q172 915 916 265 1 551 552 553 554 555 918 919
def c0_557:=m5 q147 q172 (M 37 4) q4 669 556
def c0_558:=m9 q167 921 q166 922 q156 923
def c0_559:=Obj.mk y3 none (Data.dict (A [de P q52 879 (vs q4 669),de P q55 883 (vi 249 882),de P q56 893 (vr 531),de P q142 900 (vr 538),de P q143 907 (vr 545),de P q144 913 (vr 550),de P q147 920 (vr 557),de P q61 924 (vr 558),de P q5 925 vn]) 2) E
def c0_560:=Obj.mk y8 none (Data.cls (ClassData.mk q45 [vr 421] [vr 560,vr 421,y9] 559 q45 true [] [] false none false)) (A [sr 518,none,some (vs q45 872),some (vs q45 880),some y10,some vT])
def c0_561:=m12 560
def c0_562:=m13 560
def c0_565:=Obj.mk y3 none (Data.dict (A [de P q52 935 (vs q4 669),de P q54 937 (vs q46 936),de P q55 939 (vi 267 938),de P q143 946 (vr 576),de P q144 955 (vr 583),de P q146 962 (vr 590),de P q147 969 (vr 597),de P q61 970 (vr 598)]) 8) E
def c0_567:=Obj.mk vn none (Data.fields (A [vi 269 0,vi 4 0,vr 575,vi 272 0,vi 4 0,vr 582,vi 275 0,vi 4 0,vr 589,vi 278 0,vi 4 0,vr 596])) E
def c0_568:=m0 q46 930 931 932 267 566 567 933 934
def c0_569:=m1 568 565 q4 669
def c0_572:=m2 q62 943
def c0_574:=m3 q143 q173 (M 38 0)
def c0_575:=m4 q143 940 q173 941 942 269 1 570 571 572 573 574 944 945
def c0_576:=m5 q143 q173 (M 38 0) q4 669 575
def c0_579:=m9 q62 950 q150 951 q151 952
def c0_581:=m3 q144 q174 (M 38 1)
def c0_582:=m4 q144 947 q174 948 949 272 3 577 578 579 580 581 953 954
def c0_583:=m5 q144 q174 (M 38 1) q4 669 582
def c0_586:=m2 q62 959
def c0_588:=m3 q146 q175 (M 38 2)
def c0_589:=m4 q146 956 q175 957 958 275 1 584 585 586 587 588 960 961
def c0_590:=m5 q146 q175 (M 38 2) q4 669 589
def c0_593:=m2 q62 966
def c0_595:=m3 q147 q176 (M 38 3)
def c0_596:=m4 q147 963 q176 964 965 278 1 591 592 593 594 595 967 968
def c0_597:=m5 q147 q176 (M 38 3) q4 669 596
def c0_599:=Obj.mk y3 none (Data.dict (A [de P q52 935 (vs q4 669),de P q55 939 (vi 267 938),de P q143 946 (vr 576),de P q144 955 (vr 583),de P q146 962 (vr 590),de P q147 969 (vr 597),de P q61 970 (vr 598),de P q5 971 vn]) 2) E
def c0_600:=Obj.mk y8 none (Data.cls (ClassData.mk q46 [vr 449] [vr 600,vr 449,vr 421,y9] 599 q46 true [] [] false none false)) (A [sr 563,none,some (vs q46 928),some (vs q46 936),some y10,some vT])
def c0_601:=m12 600
def c0_602:=m13 600
def c0_605:=m7 P 981 q4 669 983 q47 982 985 280 984 995 616 q143 1002 623 q144 1011 630 q145 1019 637 q147 1026 644 1028 645
def c0_607:=m8 282 615 286 622 289 629 292 636 295 643
def c0_608:=m0 q47 976 977 978 280 606 607 979 980
def c0_609:=m1 608 605 q4 669
def c0_612:=m22 q62 989 q156 990 q157 991 q177 992
def c0_614:=m3 q56 q178 (M 39 0)
def c0_615:=m4 q56 986 q178 987 988 282 4 610 611 612 613 614 993 994
def c0_616:=m5 q56 q178 (M 39 0) q4 669 615
def c0_619:=m2 q62 999
def c0_621:=m3 q143 q179 (M 39 1)
def c0_622:=m4 q143 996 q179 997 998 286 1 617 618 619 620 621 1000 1001
def c0_623:=m5 q143 q179 (M 39 1) q4 669 622
def c0_626:=m9 q62 1006 q150 1007 q151 1008
def c0_628:=m3 q144 q180 (M 39 2)
def c0_629:=m4 q144 1003 q180 1004 1005 289 3 624 625 626 627 628 1009 1010
def c0_630:=m5 q144 q180 (M 39 2) q4 669 629
def c0_633:=m6 q62 1015 q151 1016
def c0_635:=m3 q145 q181 (M 39 3)
def c0_636:=m4 q145 1012 q181 1013 1014 292 2 631 632 633 634 635 1017 1018
def c0_637:=m5 q145 q181 (M 39 3) q4 669 636
def c0_640:=m2 q62 1023
def c0_642:=m3 q147 q182 (M 39 4)
def c0_643:=m4 q147 1020 q182 1021 1022 295 1 638 639 640 641 642 1024 1025
def c0_644:=m5 q147 q182 (M 39 4) q4 669 643
def c0_645:=m2 q177 1027
def c0_646:=Obj.mk y3 none (Data.dict (A [de P q52 981 (vs q4 669),de P q55 985 (vi 280 984),de P q56 995 (vr 616),de P q143 1002 (vr 623),de P q144 1011 (vr 630),de P q145 1019 (vr 637),de P q147 1026 (vr 644),de P q61 1028 (vr 645),de P q5 1029 vn]) 2) E
def c0_647:=Obj.mk y8 none (Data.cls (ClassData.mk q47 [vr 449] [vr 647,vr 449,vr 421,y9] 646 q47 true [] [] false none false)) (A [sr 603,none,some (vs q47 974),some (vs q47 982),some y10,some vT])
def c0_648:=m12 647
def c0_649:=m13 647
def tc0_:=nd (boot_o_0 P) (nd (boot_o_1 P) (nd (c0_3 P) (nd (boot_o_7 P) (nd a11 (nd c0_31 (nd a12 (nd c0_127 (nd c0_255 (l1 c0_511) .nil) (nd c0_383 (l1 a12) .nil)) (nd (c0_191 P) (nd c0_319 (l1 c0_575) .nil) (l1 c0_447))) (nd c0_76 (nd c0_159 (nd a11 (l1 c0_543) .nil) (l1 a11)) (nd a12 (nd a11 (l1 c0_607) .nil) (l1 c0_479)))) (nd c0_47 (nd a11 (nd a11 (nd c0_271 (l1 c0_527) .nil) (l1 a12)) (nd c0_207 (nd a12 (l1 a11) .nil) (l1 c0_463))) (nd c0_111 (nd c0_175 (nd c0_303 (l1 (c0_559 P)) .nil) (l1 c0_431)) (nd c0_239 (nd c0_367 (l1 c0_623) .nil) (l1 a11))))) (nd c0_23 (nd c0_39 (nd c0_71 (nd c0_135 (nd a11 (l1 c0_28) .nil) (nd a11 (l1 c0_647) .nil)) (nd a11 (nd a11 (l1 c0_583) .nil) (l1 a11))) (nd a12 (nd (c0_167 P) (nd a12 (l1 a11) .nil) (l1 c0_423)) (nd c0_231 (nd c0_359 (l1 c0_615) .nil) (l1 (c0_487 P))))) (nd a11 (nd c0_87 (nd c0_151 (nd c0_279 (l1 a11) .nil) (l1 c0_407)) (nd a11 (nd c0_343 (l1 (c0_599 P)) .nil) (l1 c0_471))) (nd c0_119 (nd c0_183 (nd c0_311 (l1 c0_567) .nil) (l1 c0_439)) (nd c0_247 (nd c0_375 (l1 a11) .nil) (l1 c0_503)))))) (nd a11 (nd c0_19 (nd a12 (nd c0_67 (nd c0_131 (nd a11 (l1 c0_515) .nil) (nd a11 (l1 c0_643) .nil)) (nd c0_195 (nd a11 (l1 c0_579) .nil) (l1 c0_451))) (nd c0_99 (nd c0_163 (nd c0_291 (l1 a12) .nil) (l1 a11)) (nd a11 (nd a11 (l1 a12) .nil) (l1 c0_483)))) (nd a11 (nd a11 (nd a11 (nd c0_275 (l1 c0_531) .nil) (l1 c0_403)) (nd a11 (nd c0_339 (l1 c0_595) .nil) (l1 a12))) (nd c0_28 (nd (c0_179 P) (nd c0_28 (l1 c0_452) .nil) (l1 c0_435)) (nd c0_243 (nd c0_28 (l1 a11) .nil) (l1 a11))))) (nd a11 (nd c0_43 (nd c0_75 (nd c0_139 (nd c0_267 (l1 c0_523) .nil) (l1 c0_395)) (nd c0_203 (nd c0_331 (l1 a11) .nil) (l1 a11))) (nd c0_107 (nd c0_171 (nd a11 (l1 c0_555) .nil) (l1 c0_28)) (nd c0_235 (nd (c0_363 P) (l1 c0_619) .nil) (l1 c0_491)))) (nd c0_59 (nd (c0_91 P) (nd (c0_155 P) (nd c0_283 (l1 a11) .nil) (l1 c0_411)) (nd c0_219 (nd c0_347 (l1 c0_452) .nil) (l1 c0_475))) (nd c0_123 (nd c0_187 (nd c0_315 (l1 a12) .nil) (l1 a11)) (nd c0_251 (nd c0_379 (l1 c0_635) .nil) (l1 a12))))))) (nd (boot_o_5 P) (nd (boot_o_9 P) (nd c0_17 (nd c0_33 (nd a11 (nd (c0_129 P) (nd a12 (l1 a11) .nil) (nd a12 (l1 a11) .nil)) (nd c0_193 (nd a12 (l1 a11) .nil) (l1 c0_449))) (nd (c0_97 P) (nd (c0_161 P) (nd c0_289 (l1 c0_545) .nil) (l1 c0_417)) (nd c0_225 (nd c0_353 (l1 c0_609) .nil) (l1 (c0_481 P))))) (nd a12 (nd c0_81 (nd c0_145 (nd a11 (l1 c0_529) .nil) (l1 a11)) (nd c0_28 (nd a11 (l1 c0_593) .nil) (l1 c0_465))) (nd c0_113 (nd c0_153 (nd c0_305 (l1 c0_561) .nil) (l1 a11)) (nd c0_241 (nd (c0_369 P) (l1 a12) .nil) (l1 c0_497))))) (nd c0_25 (nd a11 (nd c0_73 (nd c0_137 (nd c0_265 (l1 a11) .nil) (nd c0_393 (l1 c0_649) .nil)) (nd c0_201 (nd c0_329 (l1 a12) .nil) (l1 c0_457))) (nd a11 (nd a12 (nd c0_297 (l1 c0_553) .nil) (l1 c0_425)) (nd a12 (nd c0_361 (l1 a11) .nil) (l1 c0_489)))) (nd c0_57 (nd c0_89 (nd c0_153 (nd (c0_281 P) (l1 c0_537) .nil) (l1 c0_409)) (nd c0_217 (nd c0_345 (l1 c0_601) .nil) (l1 a11))) (nd a11 (nd (c0_185 P) (nd a11 (l1 c0_569) .nil) (l1 a12)) (nd a11 (nd a11 (l1 c0_633) .nil) (l1 c0_505)))))) (nd a13 (nd c0_21 (nd a11 (nd c0_69 (nd a11 (nd c0_261 (l1 c0_517) .nil) (nd c0_389 (l1 c0_645) .nil)) (nd a12 (nd c0_325 (l1 c0_581) .nil) (l1 c0_28))) (nd c0_101 (nd c0_153 (nd c0_293 (l1 c0_549) .nil) (l1 c0_421)) (nd c0_229 (nd c0_357 (l1 a11) .nil) (l1 c0_452)))) (nd c0_53 (nd c0_85 (nd c0_149 (nd c0_277 (l1 a12) .nil) (l1 a11)) (nd c0_213 (nd a11 (l1 c0_597) .nil) (l1 a11))) (nd a11 (nd a12 (nd a11 (l1 (c0_565 P)) .nil) (l1 c0_437)) (nd a12 (nd a11 (l1 c0_629) .nil) (l1 c0_501))))) (nd (c0_29 P) (nd c0_45 (nd c0_28 (nd c0_28 (nd a12 (l1 a11) .nil) (l1 c0_397)) (nd c0_205 (nd c0_333 (l1 c0_589) .nil) (l1 c0_461))) (nd a11 (nd (c0_173 P) (nd c0_301 (l1 c0_557) .nil) (l1 a11)) (nd a11 (nd c0_365 (l1 c0_621) .nil) (l1 a12)))) (nd c0_61 (nd c0_93 (nd a12 (nd c0_285 (l1 c0_541) .nil) (l1 a12)) (nd c0_221 (nd a12 (l1 (c0_605 P)) .nil) (l1 c0_477))) (nd c0_125 (nd c0_153 (nd c0_317 (l1 a11) .nil) (l1 c0_445)) (nd c0_253 (nd c0_381 (l1 c0_637) .nil) (l1 a11)))))))) (nd (boot_o_2 P) (nd (boot_o_4 P) (nd (boot_o_8 P) (nd a12 (nd c0_32 (nd c0_64 (nd a11 (nd a11 (l1 c0_512) .nil) (nd a11 (l1 c0_640) .nil)) (nd a11 (nd a11 (l1 c0_576) .nil) (l1 (c0_448 P)))) (nd c0_28 (nd a11 (nd a12 (l1 c0_544) .nil) (l1 c0_416)) (nd c0_224 (nd c0_352 (l1 c0_608) .nil) (l1 a11)))) (nd a11 (nd c0_80 (nd a12 (nd c0_272 (l1 a11) .nil) (l1 c0_400)) (nd a11 (nd c0_336 (l1 a12) .nil) (l1 c0_464))) (nd c0_112 (nd c0_176 (nd c0_304 (l1 c0_560) .nil) (l1 c0_432)) (nd a11 (nd c0_368 (l1 a11) .nil) (l1 c0_496))))) (nd c0_24 (nd c0_40 (nd c0_72 (nd a11 (nd a12 (l1 (c0_520 P)) .nil) (nd a12 (l1 c0_648) .nil)) (nd c0_200 (nd a12 (l1 a11) .nil) (l1 c0_456))) (nd c0_104 (nd a11 (nd c0_296 (l1 a12) .nil) (l1 c0_424)) (nd a11 (nd c0_360 (l1 c0_616) .nil) (l1 a11)))) (nd a12 (nd c0_88 (nd c0_152 (nd c0_280 (l1 c0_536) .nil) (l1 a11)) (nd a12 (nd a11 (l1 c0_600) .nil) (l1 c0_472))) (nd c0_120 (nd a11 (nd c0_312 (l1 c0_568) .nil) (l1 a11)) (nd c0_248 (nd c0_376 (l1 a12) .nil) (l1 c0_504)))))) (nd c0_12 (nd c0_20 (nd c0_36 (nd c0_68 (nd c0_132 (nd c0_260 (l1 c0_516) .nil) (nd c0_388 (l1 c0_644) .nil)) (nd a11 (nd c0_324 (l1 a11) .nil) (l1 c0_452))) (nd c0_100 (nd c0_164 (nd c0_292 (l1 c0_548) .nil) (l1 (c0_420 P))) (nd a12 (nd a12 (l1 c0_612) .nil) (l1 c0_484)))) (nd c0_52 (nd a12 (nd (c0_148 P) (nd a11 (l1 a11) .nil) (l1 c0_404)) (nd c0_212 (nd c0_340 (l1 c0_596) .nil) (l1 c0_468))) (nd (c0_116 P) (nd a11 (nd (c0_308 P) (l1 c0_28) .nil) (l1 a11)) (nd a11 (nd (c0_372 P) (l1 c0_628) .nil) (l1 a12))))) (nd c0_28 (nd a11 (nd c0_76 (nd c0_140 (nd a11 (l1 c0_524) .nil) (l1 c0_396)) (nd (c0_204 P) (nd c0_332 (l1 c0_588) .nil) (l1 a12))) (nd c0_108 (nd a11 (nd a12 (l1 c0_556) .nil) (l1 (c0_428 P))) (nd c0_236 (nd c0_364 (l1 a11) .nil) (l1 a11)))) (nd c0_60 (nd c0_92 (nd a11 (nd c0_284 (l1 a12) .nil) (l1 a11)) (nd c0_220 (nd a11 (l1 c0_28) .nil) (l1 a11))) (nd a11 (nd c0_188 (nd a11 (l1 c0_572) .nil) (l1 c0_444)) (nd a11 (nd a11 (l1 c0_636) .nil) (l1 c0_508))))))) (nd (boot_o_6 P) (nd (boot_o_10 P) (nd a11 (nd a11 (nd c0_66 (nd c0_130 (nd c0_258 (l1 (c0_514 P)) .nil) (nd c0_386 (l1 c0_642) .nil)) (nd c0_194 (nd c0_322 (l1 a12) .nil) (l1 c0_450))) (nd a11 (nd c0_162 (nd a11 (l1 a11) .nil) (l1 c0_418)) (nd c0_226 (nd c0_354 (l1 a11) .nil) (l1 c0_482)))) (nd c0_50 (nd c0_82 (nd c0_146 (nd a12 (l1 c0_530) .nil) (l1 c0_402)) (nd (c0_210 P) (nd c0_338 (l1 a11) .nil) (l1 a11))) (nd c0_76 (nd c0_28 (nd a11 (l1 c0_562) .nil) (l1 a12)) (nd c0_242 (nd a11 (l1 c0_626) .nil) (l1 c0_498))))) (nd c0_26 (nd a12 (nd c0_74 (nd c0_138 (nd c0_266 (l1 c0_522) .nil) (l1 a11)) (nd c0_202 (nd a11 (l1 c0_586) .nil) (l1 c0_458))) (nd c0_106 (nd c0_170 (nd c0_298 (l1 a11) .nil) (l1 c0_426)) (nd c0_234 (nd c0_362 (l1 a12) .nil) (l1 c0_490)))) (nd a11 (nd a11 (nd c0_28 (nd c0_282 (l1 c0_538) .nil) (l1 c0_410)) (nd a11 (nd c0_346 (l1 c0_602) .nil) (l1 a12))) (nd a12 (nd c0_186 (nd a12 (l1 a11) .nil) (l1 c0_442)) (nd a12 (nd a12 (l1 a11) .nil) (l1 a11)))))) (nd a14 (nd (c0_22 P) (nd c0_38 (nd (c0_70 P) (nd a12 (nd c0_262 (l1 c0_426) .nil) (nd c0_390 (l1 (c0_646 P)) .nil)) (nd c0_198 (nd c0_326 (l1 c0_582) .nil) (l1 (c0_454 P)))) (nd a11 (nd c0_28 (nd a11 (l1 c0_550) .nil) (l1 c0_422)) (nd c0_230 (nd a11 (l1 c0_614) .nil) (l1 c0_28)))) (nd c0_54 (nd a11 (nd c0_150 (nd c0_278 (l1 c0_534) .nil) (l1 a12)) (nd c0_214 (nd a12 (l1 a11) .nil) (l1 c0_470))) (nd c0_118 (nd c0_182 (nd c0_310 (l1 a11) .nil) (l1 c0_438)) (nd c0_246 (nd c0_374 (l1 c0_630) .nil) (l1 a11))))) (nd a11 (nd c0_46 (nd (c0_78 P) (nd (c0_142 P) (nd c0_270 (l1 a12) .nil) (l1 a11)) (nd c0_206 (nd a11 (l1 c0_590) .nil) (l1 a11))) (nd (c0_110 P) (nd c0_174 (nd a11 (l1 c0_558) .nil) (l1 c0_430)) (nd a12 (nd c0_366 (l1 c0_622) .nil) (l1 c0_494)))) (nd a11 (nd c0_94 (nd c0_158 (nd c0_286 (l1 a11) .nil) (l1 c0_414)) (nd a11 (nd c0_350 (l1 a11) .nil) (l1 c0_478))) (nd c0_126 (nd c0_28 (nd c0_318 (l1 c0_574) .nil) (l1 c0_446)) (nd c0_254 (nd c0_382 (l1 a11) .nil) (l1 c0_510))))))))
def c1_3:=Obj.mk y3 none (Data.dict (A [de P q3 165 (vs q183 1522),de P q5 166 vn,de P q6 167 vn,de P q7 168 y4,de P q8 169 vn,de P q9 170 (vr 6),de P q10 171 (vr 4),de P q11 173 (vs q1 172),de P q12 174 vn,de P q13 193 (vr 21),de P q14 205 (vr 22),de P q15 212 (vr 26),de P q16 275 (vr 71),de P q17 298 (vr 92),de P q18 321 (vr 111),de P q19 344 (vr 130),de P q20 351 (vr 139),de P q21 371 (vr 149),de P q22 387 (vr 162),de P q23 403 (vr 174),de P q24 419 (vr 186),de P q25 444 (vr 205),de P q26 546 (vr 282),de P q27 550 (vi 400 549),de P q28 552 (vi 2000 551),de P q29 554 (vi 2000 553),de P q30 556 (vi 8 555),de P q31 558 (vi 100000 557),de P q32 560 (vi 32 559),de P q33 562 (vi 37 561),de P q34 564 (vi 126 563),de P q35 571 (vr 293),de P q36 577 (vr 298),de P q37 585 (vr 305),de P q38 668 (vr 364),de P q39 672 (vi 40 671),de P q40 694 (vr 369),de P q41 759 (vr 421),de P q42 793 (vr 449),de P q43 832 (vr 482),de P q44 871 (vr 515),de P q45 927 (vr 560),de P q46 973 (vr 600),de P q47 1031 (vr 647),de P q184 1072 (vr 680),de P q185 1113 (vr 713),de P q186 1119 (vr 720),de P q116 1128 (vr 727),de P q187 1136 (vr 734),de P q188 1145 (vr 741),de P q189 1333 (vr 859),de P q190 1399 (vr 906),de P q191 1521 (vr 1002),de P q192 1531 (vr 1013),de P q193 1538 (vr 1020),de P q194 1549 (vr 1027),de P q195 1558 (vr 1034),de P q196 1566 (vr 1041),de P q197 1572 (vr 1046),de P q198 1585 (vr 1053),de P q199 1599 (vr 1060),de P q200 1611 (vr 1067),de P q201 1617 (vr 1072)]) 63) E
def c1_12:=Obj.mk vn none (Data.fields (A [vi 1 0,vi 0 0,vr 20,vi 7 0,vi 0 0,vr 32,vi 26 0,vi 0 0,vr 81,vi 30 0,vi 0 0,vr 100,vi 34 0,vi 0 0,vr 119,vi 38 0,vi 0 0,vr 138,vi 45 0,vi 0 0,vr 145,vi 47 0,vi 0 0,vr 158,vi 49 0,vi 0 0,vr 170,vi 51 0,vi 0 0,vr 182,vi 53 0,vi 0 0,vr 194,vi 58 0,vi 0 0,vr 213,vi 120 0,vi 0 0,vr 292,vi 122 0,vi 0 0,vr 297,vi 132 0,vi 0 0,vr 304,vi 135 0,vi 0 0,vr 311,vi 202 0,vi 0 0,vr 375,vi 221 0,vi 0 0,vr 431,vi 229 0,vi 0 0,vr 457,vi 239 0,vi 0 0,vr 490,vi 249 0,vi 0 0,vr 523,vi 267 0,vi 0 0,vr 568,vi 280 0,vi 0 0,vr 608,vi 297 0,vi 0 0,vr 655,vi 307 0,vi 0 0,vr 688,vi 319 0,vi 0 0,vr 719,vi 325 0,vi 0 0,vr 726,vi 335 0,vi 0 0,vr 733,vi 349 0,vi 0 0,vr 740,vi 354 0,vi 0 0,vr 747,vi 458 0,vi 0 0,vr 869,vi 481 0,vi 0 0,vr 916,vi 543 0,vi 0 0,vr 1012,vi 547 0,vi 0 0,vr 1019,vi 551 0,vi 0 0,vr 1026,vi 560 0,vi 0 0,vr 1033,vi 568 0,vi 0 0,vr 1040,vi 570 0,vi 0 0,vr 1045,vi 593 0,vi 0 0,vr 1052,vi 600 0,vi 0 0,vr 1059,vi 607 0,vi 0 0,vr 1066,vi 611 0,vi 0 0,vr 1071])) E
def c1_421:=Obj.mk y8 none (Data.cls (ClassData.mk q41 [y9] [vr 421,y9] 420 q41 true [] [vr 449,vr 560,vr 680,vr 713] false none false)) (A [none,none,some (vs q41 695),some (vs q41 703),some y10,some vT])
def c1_652:=m23 P 1039 1041 q184 1040 1043 297 1042 q56 1051 663 1060 670 1067 677 1069 678
def c1_654:=m24 299 662 302 669 305 676
def c1_655:=m0 q184 1034 1035 1036 297 653 654 1037 1038
def c1_656:=m1 655 652 q4 669
def c1_659:=m6 q62 1047 q177 1048
def c1_661:=m3 q56 q202 (M 40 0)
def c1_662:=m4 q56 1044 q202 1045 1046 299 2 657 658 659 660 661 1049 1050
def c1_663:=m5 q56 q202 (M 40 0) q4 669 662
def c1_666:=m9 q62 1055 q150 1056 q151 1057
def c1_668:=m3 q144 q203 (M 40 1)
def c1_669:=m4 q144 1052 q203 1053 1054 302 3 664 665 666 667 668 1058 1059
def c1_670:=m5 q144 q203 (M 40 1) q4 669 669
def c1_673:=m2 q62 1064
def c1_675:=m3 q147 q204 (M 40 2)
def c1_676:=m4 q147 1061 q204 1062 1063 305 1 671 672 673 674 675 1065 1066
def c1_677:=m5 q147 q204 (M 40 2) q4 669 676
def c1_678:=m2 q177 1068
def c1_679:=m25 P 1039 1043 297 1042 q56 1051 663 1060 670 1067 677 1069 678 1070
def c1_680:=Obj.mk y8 none (Data.cls (ClassData.mk q184 [vr 421] [vr 680,vr 421,y9] 679 q184 true [] [] false none false)) (A [sr 650,none,some (vs q184 1032),some (vs q184 1040),some y10,some vT])
def c1_681:=m12 680
def c1_682:=m13 680
def c1_685:=m23 P 1080 1082 q185 1081 1084 307 1083 q56 1092 696 1101 703 1108 710 1110 711
def c1_687:=m24 309 695 312 702 317 709
def c1_688:=m0 q185 1075 1076 1077 307 686 687 1078 1079
def c1_689:=m1 688 685 q4 669
def c1_692:=m6 q62 1088 q177 1089
def c1_694:=m3 q56 q205 (M 41 0)
def c1_695:=m4 q56 1085 q205 1086 1087 309 2 690 691 692 693 694 1090 1091
def c1_696:=m5 q56 q205 (M 41 0) q4 669 695
def c1_699:=m9 q62 1096 q150 1097 q151 1098
def c1_701:=m3 q144 q206 (M 41 1)
def c1_702:=m4 q144 1093 q206 1094 1095 312 3 697 698 699 700 701 1099 1100
def c1_703:=m5 q144 q206 (M 41 1) q4 669 702
def c1_706:=m2 q62 1105
def c1_708:=m3 q147 q207 (M 41 2)
def c1_709:=m4 q147 1102 q207 1103 1104 317 1 704 705 706 707 708 1106 1107
def c1_710:=m5 q147 q207 (M 41 2) q4 669 709
def c1_711:=m2 q177 1109
def c1_712:=m25 P 1080 1084 307 1083 q56 1092 696 1101 703 1108 710 1110 711 1111
def c1_713:=Obj.mk y8 none (Data.cls (ClassData.mk q185 [vr 421] [vr 713,vr 421,y9] 712 q185 true [] [] false none false)) (A [sr 683,none,some (vs q185 1073),some (vs q185 1081),some y10,some vT])
def c1_714:=m12 713
def c1_715:=m13 713
def c1_718:=m3 q186 q186 (B 42)
def c1_719:=m20 q186 1114 q186 1115 1116 319 1 716 717 718 1117 1118
def c1_720:=m5 q186 q186 (B 42) q4 669 719
def c1_723:=m9 q208 1123 q209 1124 q111 1125
def c1_725:=m3 q116 q116 (B 43)
def c1_726:=m4 q116 1120 q116 1121 1122 325 2 721 722 723 724 725 1126 1127
def c1_727:=m5 q116 q116 (B 43) q4 669 726
def c1_730:=m6 q208 1132 q210 1133
def c1_732:=m3 q187 q187 (B 44)
def c1_733:=m4 q187 1129 q187 1130 1131 335 2 728 729 730 731 732 1134 1135
def c1_734:=m5 q187 q187 (B 44) q4 669 733
def c1_737:=m9 q156 1140 q166 1141 q167 1142
def c1_739:=m3 q188 q188 (B 45)
def c1_740:=m4 q188 1137 q188 1138 1139 349 3 735 736 737 738 739 1143 1144
def c1_741:=m5 q188 q188 (B 45) q4 669 740
def c1_744:=Obj.mk y3 none (Data.dict (A [de P q52 1155 (vs q211 1146),de P q54 1157 (vs q189 1156),de P q55 1159 (vi 354 1158),de P q56 1170 (vr 755),de P q212 1179 (vr 762),de P q213 1191 (vr 769),de P q214 1204 (vr 776),de P q215 1214 (vr 783),de P q216 1224 (vr 790),de P q217 1230 (vr 795),de P q218 1240 (vr 802),de P q219 1256 (vr 809),de P q220 1271 (vr 816),de P q221 1280 (vr 823),de P q222 1288 (vr 830),de P q223 1298 (vr 837),de P q86 1305 (vr 844),de P q87 1312 (vr 851),de P q224 1318 (vr 856),de P q61 1326 (vr 857)]) 20) E
def c1_746:=Obj.mk vn none (Data.fields (A [vi 356 0,vi 4 0,vr 754,vi 367 0,vi 4 0,vr 761,vi 372 0,vi 4 0,vr 768,vi 383 0,vi 4 0,vr 775,vi 392 0,vi 4 0,vr 782,vi 396 0,vi 4 0,vr 789,vi 399 0,vi 4 0,vr 794,vi 408 0,vi 4 0,vr 801,vi 415 0,vi 4 0,vr 808,vi 428 0,vi 4 0,vr 815,vi 440 0,vi 4 0,vr 822,vi 443 0,vi 4 0,vr 829,vi 446 0,vi 4 0,vr 836,vi 449 0,vi 4 0,vr 843,vi 452 0,vi 4 0,vr 850,vi 455 0,vi 4 0,vr 855])) E
def c1_747:=m0 q189 1150 1151 1152 354 745 746 1153 1154
def c1_748:=m1 747 744 q211 1146
def c1_751:=m21 q62 1163 q225 1164 q226 1165 q129 1166 q227 1167
def c1_753:=m3 q56 q228 (M 47 0)
def c1_754:=m4 q56 1160 q228 1161 1162 356 4 749 750 751 752 753 1168 1169
def c1_755:=m5 q56 q228 (M 47 0) q211 1146 754
def c1_758:=m9 q62 1174 q227 1175 q60 1176
def c1_760:=m3 q212 q229 (M 47 1)
def c1_761:=m4 q212 1171 q229 1172 1173 367 2 756 757 758 759 760 1177 1178
def c1_762:=m5 q212 q229 (M 47 1) q211 1146 761
def c1_765:=Obj.mk y0 none (Data.seq (A [vs q62 1183,vs q230 1184,vs q96 1185,vs q231 1186,vs q150 1187,vs q118 1188]) 0) E
def c1_767:=m3 q213 q232 (M 47 2)
def c1_768:=m4 q213 1180 q232 1181 1182 372 6 763 764 765 766 767 1189 1190
def c1_769:=m5 q213 q232 (M 47 2) q211 1146 768
def c1_772:=m21 q62 1195 q230 1196 q96 1197 q233 1198 q85 1199
def c1_773:=m6 q62 1200 q96 1201
def c1_774:=m3 q214 q234 (M 47 3)
def c1_775:=m4 q214 1192 q234 1193 1194 383 4 770 771 772 773 774 1202 1203
def c1_776:=m5 q214 q234 (M 47 3) q211 1146 775
def c1_779:=m22 q62 1208 q96 1209 q157 1210 q235 1211
def c1_781:=m3 q215 q236 (M 47 4)
def c1_782:=m4 q215 1205 q236 1206 1207 392 3 777 778 779 780 781 1212 1213
def c1_783:=m5 q215 q236 (M 47 4) q211 1146 782
def c1_786:=m22 q62 1218 q230 1219 q96 1220 q231 1221
def c1_788:=m3 q216 q237 (M 47 5)
def c1_789:=m4 q216 1215 q237 1216 1217 396 4 784 785 786 787 788 1222 1223
def c1_790:=m5 q216 q237 (M 47 5) q211 1146 789
def c1_793:=m3 q217 q238 (M 47 6)
def c1_794:=m20 q217 1225 q238 1226 1227 399 4 791 792 793 1228 1229
def c1_795:=m5 q217 q238 (M 47 6) q211 1146 794
def c1_798:=m22 q62 1234 q230 1235 q96 1236 q239 1237
def c1_800:=m3 q218 q240 (M 47 7)
def c1_801:=m4 q218 1231 q240 1232 1233 408 3 796 797 798 799 800 1238 1239
def c1_802:=m5 q218 q240 (M 47 7) q211 1146 801
def c1_805:=Obj.mk y0 none (Data.seq (A [vs q62 1244,vs q230 1245,vs q96 1246,vs q231 1247,vs q150 1248,vs q118 1249,vs q227 1250,vs q241 1251,vs q85 1252]) 0) E
def c1_806:=m2 q62 1253
def c1_807:=m3 q219 q242 (M 47 8)
def c1_808:=m4 q219 1241 q242 1242 1243 415 6 803 804 805 806 807 1254 1255
def c1_809:=m5 q219 q242 (M 47 8) q211 1146 808
def c1_812:=Obj.mk y0 none (Data.seq (A [vs q62 1260,vs q230 1261,vs q96 1262,vs q231 1263,vs q118 1264,vs q227 1265,vs q241 1266,vs q243 1267]) 0) E
def c1_813:=m2 q62 1268
def c1_814:=m3 q220 q244 (M 47 9)
def c1_815:=m4 q220 1257 q244 1258 1259 428 5 810 811 812 813 814 1269 1270
def c1_816:=m5 q220 q244 (M 47 9) q211 1146 815
def c1_819:=m9 q62 1275 q96 1276 q241 1277
def c1_821:=m3 q221 q245 (M 47 10)
def c1_822:=m4 q221 1272 q245 1273 1274 440 3 817 818 819 820 821 1278 1279
def c1_823:=m5 q221 q245 (M 47 10) q211 1146 822
def c1_826:=m6 q62 1284 q230 1285
def c1_828:=m3 q222 q246 (M 47 11)
def c1_829:=m4 q222 1281 q246 1282 1283 443 2 824 825 826 827 828 1286 1287
def c1_830:=m5 q222 q246 (M 47 11) q211 1146 829
def c1_833:=m22 q62 1292 q230 1293 q96 1294 q247 1295
def c1_835:=m3 q223 q248 (M 47 12)
def c1_836:=m4 q223 1289 q248 1290 1291 446 4 831 832 833 834 835 1296 1297
def c1_837:=m5 q223 q248 (M 47 12) q211 1146 836
def c1_840:=m2 q62 1302
def c1_842:=m3 q86 q249 (M 47 13)
def c1_843:=m4 q86 1299 q249 1300 1301 449 1 838 839 840 841 842 1303 1304
def c1_844:=m5 q86 q249 (M 47 13) q211 1146 843
def c1_847:=m2 q62 1309
def c1_849:=m3 q87 q250 (M 47 14)
def c1_850:=m4 q87 1306 q250 1307 1308 452 1 845 846 847 848 849 1310 1311
def c1_851:=m5 q87 q250 (M 47 14) q211 1146 850
def c1_854:=m3 q224 q251 (M 47 15)
def c1_855:=m20 q224 1313 q251 1314 1315 455 2 852 853 854 1316 1317
def c1_856:=m5 q224 q251 (M 47 15) q211 1146 855
def c1_857:=Obj.mk y0 none (Data.seq (A [vs q252 1319,vs q253 1320,vs q226 1321,vs q254 1322,vs q129 1323,vs q255 1324,vs q225 1325]) 0) E
def c1_858:=Obj.mk y3 none (Data.dict (A [de P q52 1155 (vs q211 1146),de P q55 1159 (vi 354 1158),de P q56 1170 (vr 755),de P q212 1179 (vr 762),de P q213 1191 (vr 769),de P q214 1204 (vr 776),de P q215 1214 (vr 783),de P q216 1224 (vr 790),de P q217 1230 (vr 795),de P q218 1240 (vr 802),de P q219 1256 (vr 809),de P q220 1271 (vr 816),de P q221 1280 (vr 823),de P q222 1288 (vr 830),de P q223 1298 (vr 837),de P q86 1305 (vr 844),de P q87 1312 (vr 851),de P q224 1318 (vr 856),de P q61 1326 (vr 857),de P q73 1328 (vr 860),de P q74 1330 (vr 861),de P q5 1331 vn]) 4) E
def c1_859:=Obj.mk y8 none (Data.cls (ClassData.mk q189 [y9] [vr 859,y9] 858 q189 true [] [] false none false)) (A [none,none,some (vs q189 1148),some (vs q189 1156),some y10,some vT])
def c1_860:=m10 1327 859
def c1_861:=m11 1329 859
def c1_862:=m12 859
def c1_863:=m13 859
def c1_866:=m7 P 1343 q256 1334 1345 q190 1344 1347 458 1346 1355 877 q227 1363 884 q257 1374 891 q258 1381 898 q259 1387 903 1392 904
def c1_868:=m8 460 876 466 883 471 890 474 897 477 902
def c1_869:=m0 q190 1338 1339 1340 458 867 868 1341 1342
def c1_870:=m1 869 866 q256 1334
def c1_873:=m6 q62 1351 q225 1352
def c1_875:=m3 q56 q260 (M 49 0)
def c1_876:=m4 q56 1348 q260 1349 1350 460 2 871 872 873 874 875 1353 1354
def c1_877:=m5 q56 q260 (M 49 0) q256 1334 876
def c1_880:=m6 q62 1359 q227 1360
def c1_882:=m3 q227 q261 (M 49 1)
def c1_883:=m4 q227 1356 q261 1357 1358 466 2 878 879 880 881 882 1361 1362
def c1_884:=m5 q227 q261 (M 49 1) q256 1334 883
def c1_887:=m21 q62 1367 q262 1368 q208 1369 q96 1370 q263 1371
def c1_889:=m3 q257 q264 (M 49 2)
def c1_890:=m4 q257 1364 q264 1365 1366 471 5 885 886 887 888 889 1372 1373
def c1_891:=m5 q257 q264 (M 49 2) q256 1334 890
def c1_894:=m2 q62 1378
def c1_896:=m3 q258 q265 (M 49 3)
def c1_897:=m4 q258 1375 q265 1376 1377 474 1 892 893 894 895 896 1379 1380
def c1_898:=m5 q258 q265 (M 49 3) q256 1334 897
def c1_901:=m3 q259 q266 (M 49 4)
def c1_902:=m20 q259 1382 q266 1383 1384 477 1 899 900 901 1385 1386
def c1_903:=m5 q259 q266 (M 49 4) q256 1334 902
def c1_904:=m22 q267 1388 q268 1389 q269 1390 q225 1391
def c1_905:=Obj.mk y3 none (Data.dict (A [de P q52 1343 (vs q256 1334),de P q55 1347 (vi 458 1346),de P q56 1355 (vr 877),de P q227 1363 (vr 884),de P q257 1374 (vr 891),de P q258 1381 (vr 898),de P q259 1387 (vr 903),de P q61 1392 (vr 904),de P q73 1394 (vr 907),de P q74 1396 (vr 908),de P q5 1397 vn]) 4) E
def c1_906:=Obj.mk y8 none (Data.cls (ClassData.mk q190 [y9] [vr 906,y9] 905 q190 true [] [] false none false)) (A [none,none,some (vs q190 1336),some (vs q190 1344),some y10,some vT])
def c1_907:=m10 1393 906
def c1_908:=m11 1395 906
def c1_909:=m12 906
def c1_910:=m13 906
def c1_913:=Obj.mk y3 none (Data.dict (A [de P q52 1409 (vs q270 1400),de P q54 1411 (vs q191 1410),de P q55 1413 (vi 481 1412),de P q56 1421 (vr 924),de P q271 1431 (vr 931),de P q272 1439 (vr 938),de P q273 1447 (vr 945),de P q274 1454 (vr 952),de P q275 1462 (vr 959),de P q276 1469 (vr 966),de P q277 1475 (vr 971),de P q278 1482 (vr 978),de P q279 1489 (vr 985),de P q280 1498 (vr 992),de P q281 1506 (vr 999),de P q61 1514 (vr 1000)]) 16) E
def c1_915:=Obj.mk vn none (Data.fields (A [vi 483 0,vi 4 0,vr 923,vi 492 0,vi 4 0,vr 930,vi 509 0,vi 4 0,vr 937,vi 516 0,vi 4 0,vr 944,vi 519 0,vi 4 0,vr 951,vi 522 0,vi 4 0,vr 958,vi 525 0,vi 4 0,vr 965,vi 528 0,vi 4 0,vr 970,vi 531 0,vi 4 0,vr 977,vi 534 0,vi 4 0,vr 984,vi 537 0,vi 4 0,vr 991,vi 540 0,vi 4 0,vr 998])) E
def c1_916:=m0 q191 1404 1405 1406 481 914 915 1407 1408
def c1_917:=m1 916 913 q270 1400
def c1_920:=m6 q62 1417 q282 1418
def c1_922:=m3 q56 q283 (M 51 0)
def c1_923:=m4 q56 1414 q283 1415 1416 483 2 918 919 920 921 922 1419 1420
def c1_924:=m5 q56 q283 (M 51 0) q270 1400 923
def c1_927:=m22 q62 1425 q227 1426 q51 1427 q96 1428
def c1_929:=m3 q271 q284 (M 51 1)
def c1_930:=m4 q271 1422 q284 1423 1424 492 2 925 926 927 928 929 1429 1430
def c1_931:=m5 q271 q284 (M 51 1) q270 1400 930
def c1_934:=m6 q62 1435 q227 1436
def c1_936:=m3 q272 q285 (M 51 2)
def c1_937:=m4 q272 1432 q285 1433 1434 509 2 932 933 934 935 936 1437 1438
def c1_938:=m5 q272 q285 (M 51 2) q270 1400 937
def c1_941:=m6 q62 1443 q157 1444
def c1_943:=m3 q273 q286 (M 51 3)
def c1_944:=m4 q273 1440 q286 1441 1442 516 2 939 940 941 942 943 1445 1446
def c1_945:=m5 q273 q286 (M 51 3) q270 1400 944
def c1_948:=m2 q62 1451
def c1_950:=m3 q274 q287 (M 51 4)
def c1_951:=m4 q274 1448 q287 1449 1450 519 1 946 947 948 949 950 1452 1453
def c1_952:=m5 q274 q287 (M 51 4) q270 1400 951
def c1_955:=m6 q62 1458 q96 1459
def c1_957:=m3 q275 q288 (M 51 5)
def c1_958:=m4 q275 1455 q288 1456 1457 522 2 953 954 955 956 957 1460 1461
def c1_959:=m5 q275 q288 (M 51 5) q270 1400 958
def c1_962:=m2 q62 1466
def c1_964:=m3 q276 q289 (M 51 6)
def c1_965:=m4 q276 1463 q289 1464 1465 525 1 960 961 962 963 964 1467 1468
def c1_966:=m5 q276 q289 (M 51 6) q270 1400 965
def c1_969:=m3 q277 q290 (M 51 7)
def c1_970:=m20 q277 1470 q290 1471 1472 528 1 967 968 969 1473 1474
def c1_971:=m5 q277 q290 (M 51 7) q270 1400 970
def c1_974:=m2 q62 1479
def c1_976:=m3 q278 q291 (M 51 8)
def c1_977:=m4 q278 1476 q291 1477 1478 531 1 972 973 974 975 976 1480 1481
def c1_978:=m5 q278 q291 (M 51 8) q270 1400 977
def c1_981:=m2 q62 1486
def c1_983:=m3 q279 q292 (M 51 9)
def c1_984:=m4 q279 1483 q292 1484 1485 534 1 979 980 981 982 983 1487 1488
def c1_985:=m5 q279 q292 (M 51 9) q270 1400 984
def c1_988:=m9 q62 1493 q96 1494 q231 1495
def c1_990:=m3 q280 q293 (M 51 10)
def c1_991:=m4 q280 1490 q293 1491 1492 537 3 986 987 988 989 990 1496 1497
def c1_992:=m5 q280 q293 (M 51 10) q270 1400 991
def c1_995:=m6 q62 1502 q96 1503
def c1_997:=m3 q281 q294 (M 51 11)
def c1_998:=m4 q281 1499 q294 1500 1501 540 2 993 994 995 996 997 1504 1505
def c1_999:=m5 q281 q294 (M 51 11) q270 1400 998
def c1_1000:=Obj.mk y0 none (Data.seq (A [vs q295 1507,vs q282 1508,vs q296 1509,vs q297 1510,vs q298 1511,vs q299 1512,vs q300 1513]) 0) E
def c1_1001:=Obj.mk y3 none (Data.dict (A [de P q52 1409 (vs q270 1400),de P q55 1413 (vi 481 1412),de P q56 1421 (vr 924),de P q271 1431 (vr 931),de P q272 1439 (vr 938),de P q273 1447 (vr 945),de P q274 1454 (vr 952),de P q275 1462 (vr 959),de P q276 1469 (vr 966),de P q277 1475 (vr 971),de P q278 1482 (vr 978),de P q279 1489 (vr 985),de P q280 1498 (vr 992),de P q281 1506 (vr 999),de P q61 1514 (vr 1000),de P q73 1516 (vr 1003),de P q74 1518 (vr 1004),de P q5 1519 vn]) 4) E
def c1_1002:=Obj.mk y8 none (Data.cls (ClassData.mk q191 [y9] [vr 1002,y9] 1001 q191 true [] [] false none false)) (A [none,none,some (vs q191 1402),some (vs q191 1410),some y10,some vT])
def c1_1003:=m10 1515 1002
def c1_1004:=m11 1517 1002
def c1_1005:=m12 1002
def c1_1006:=m13 1002
def c1_1009:=m6 q301 1527 q302 1528
def c1_1011:=m3 q192 q192 (B 53)
def c1_1012:=m4 q192 1524 q192 1525 1526 543 2 1007 1008 1009 1010 1011 1529 1530
def c1_1013:=m5 q192 q192 (B 53) q183 1522 1012
def c1_1016:=m2 q303 1535
def c1_1018:=m3 q193 q193 (B 54)
def c1_1019:=m4 q193 1532 q193 1533 1534 547 1 1014 1015 1016 1017 1018 1536 1537
def c1_1020:=m5 q193 q193 (B 54) q183 1522 1019
def c1_1023:=m21 q303 1542 q304 1543 q305 1544 q306 1545 q307 1546
def c1_1025:=m3 q194 q194 (B 55)
def c1_1026:=m4 q194 1539 q194 1540 1541 551 2 1021 1022 1023 1024 1025 1547 1548
def c1_1027:=m5 q194 q194 (B 55) q183 1522 1026
def c1_1030:=m9 q307 1553 q308 1554 q305 1555
def c1_1032:=m3 q195 q195 (B 56)
def c1_1033:=m4 q195 1550 q195 1551 1552 560 1 1028 1029 1030 1031 1032 1556 1557
def c1_1034:=m5 q195 q195 (B 56) q183 1522 1033
def c1_1037:=m6 q309 1562 q305 1563
def c1_1039:=m3 q196 q196 (B 57)
def c1_1040:=m4 q196 1559 q196 1560 1561 568 2 1035 1036 1037 1038 1039 1564 1565
def c1_1041:=m5 q196 q196 (B 57) q183 1522 1040
def c1_1044:=m3 q197 q197 (B 58)
def c1_1045:=m20 q197 1567 q197 1568 1569 570 6 1042 1043 1044 1570 1571
def c1_1046:=m5 q197 q197 (B 58) q183 1522 1045
def c1_1049:=Obj.mk y0 none (Data.seq (A [vs q310 1576,vs q311 1577,vs q312 1578,vs q313 1579,vs q314 1580,vs q315 1581,vs q316 1582]) 0) E
def c1_1051:=m3 q198 q198 (B 59)
def c1_1052:=m4 q198 1573 q198 1574 1575 593 5 1047 1048 1049 1050 1051 1583 1584
def c1_1053:=m5 q198 q198 (B 59) q183 1522 1052
def c1_1056:=Obj.mk y0 none (Data.seq (A [vs q310 1589,vs q311 1590,vs q317 1591,vs q301 1592,vs q304 1593,vs q318 1594,vs q302 1595,vs q307 1596]) 0) E
def c1_1058:=m3 q199 q199 (B 60)
def c1_1059:=m4 q199 1586 q199 1587 1588 600 5 1054 1055 1056 1057 1058 1597 1598
def c1_1060:=m5 q199 q199 (B 60) q183 1522 1059
def c1_1063:=Obj.mk y0 none (Data.seq (A [vs q310 1603,vs q311 1604,vs q312 1605,vs q316 1606,vs q307 1607,vs q319 1608]) 0) E
def c1_1065:=m3 q200 q200 (B 61)
def c1_1066:=m4 q200 1600 q200 1601 1602 607 5 1061 1062 1063 1064 1065 1609 1610
def c1_1067:=m5 q200 q200 (B 61) q183 1522 1066
def c1_1070:=m3 q201 q201 (B 62)
def c1_1071:=m20 q201 1612 q201 1613 1614 611 1 1068 1069 1070 1615 1616
def c1_1072:=m5 q201 q201 (B 62) q183 1522 1071
def u1:=nd (boot_o_0 P) (nd (boot_o_1 P) (nd (c1_3 P) (nd (boot_o_7 P) (nd a11 (nd c0_31 (nd a12 (nd c0_127 (nd c0_255 (nd c0_511 (l1 c1_1023) .nil) (l1 c1_767)) (nd c0_383 (l1 a12) (l1 a11))) (nd (c0_191 P) (nd c0_319 (l1 c0_575) (l1 a11)) (nd c0_447 (l1 c1_703) (l1 c1_959)))) (nd c0_76 (nd c0_159 (nd a11 (nd c0_543 (l1 a12) .nil) (l1 a11)) (nd a11 (l1 a11) (l1 c1_927))) (nd a12 (nd a11 (l1 c0_607) (l1 c1_863)) (nd c0_479 (l1 a11) (l1 c1_991))))) (nd c0_47 (nd a11 (nd a11 (nd c0_271 (nd c0_527 (l1 c1_1039) .nil) (l1 c1_783)) (nd a12 (l1 c1_655) (l1 a11))) (nd c0_207 (nd a12 (l1 a11) (l1 c1_847)) (nd c0_463 (l1 c1_719) (l1 a11)))) (nd c0_111 (nd c0_175 (nd c0_303 (nd (c0_559 P) (l1 c1_1071) .nil) (l1 c1_815)) (nd c0_431 (l1 c1_687) (l1 c1_943))) (nd c0_239 (nd c0_367 (l1 c0_623) (l1 a12)) (nd a11 (l1 c1_751) (l1 a11)))))) (nd c0_23 (nd c0_39 (nd c0_71 (nd c0_135 (nd a11 (nd c0_28 (l1 a11) .nil) (l1 c1_775)) (nd a11 (l1 c0_647) (l1 c1_903))) (nd a11 (nd a11 (l1 c0_583) (l1 a12)) (nd a11 (l1 c1_711) (l1 a11)))) (nd a12 (nd (c0_167 P) (nd a12 (nd a11 (l1 c1_1063) .nil) (l1 c1_807)) (nd c0_423 (l1 (c1_679 P)) (l1 a11))) (nd c0_231 (nd c0_359 (l1 c0_615) (l1 a11)) (nd (c0_487 P) (l1 c0_28) (l1 c1_999))))) (nd a11 (nd c0_87 (nd c0_151 (nd c0_279 (nd a11 (l1 a11) .nil) (l1 a11)) (nd c0_407 (l1 c1_663) (l1 a12))) (nd a11 (nd c0_343 (l1 (c0_599 P)) (l1 c1_855)) (nd c0_471 (l1 c1_727) (l1 c1_983)))) (nd c0_119 (nd c0_183 (nd c0_311 (l1 c0_567) (l1 c1_823)) (nd c0_439 (l1 c1_695) (l1 c1_951))) (nd c0_247 (nd c0_375 (l1 a11) (l1 c1_887)) (nd c0_503 (l1 a11) (l1 a12))))))) (nd a11 (nd c0_19 (nd a12 (nd c0_67 (nd c0_131 (nd a11 (nd c0_515 (l1 c1_1027) .nil) (l1 a12)) (nd a11 (l1 c0_643) (l1 a11))) (nd c0_195 (nd a11 (l1 c0_579) (l1 c1_835)) (nd c0_451 (l1 a11) (l1 a11)))) (nd c0_99 (nd c0_163 (nd c0_291 (nd a12 (l1 c1_1059) .nil) (l1 a11)) (nd a11 (l1 c1_675) (l1 c1_931))) (nd a11 (nd a11 (l1 a12) (l1 a11)) (nd c0_483 (l1 c1_739) (l1 c1_995))))) (nd a11 (nd a11 (nd a11 (nd c0_275 (nd c0_531 (l1 a12) .nil) (l1 a11)) (nd c0_403 (l1 c1_659) (l1 c1_915))) (nd a11 (nd c0_339 (l1 c0_595) (l1 c1_851)) (nd a12 (l1 c1_723) (l1 a11)))) (nd c0_28 (nd (c0_179 P) (nd c0_28 (l1 c0_452) (l1 c1_819)) (nd c0_435 (l1 a12) (l1 a12))) (nd c0_243 (nd c0_28 (l1 a11) (l1 c1_883)) (nd a11 (l1 c1_755) (l1 c1_1011)))))) (nd a11 (nd c0_43 (nd c0_75 (nd c0_139 (nd c0_267 (nd c0_523 (l1 a11) .nil) (l1 c1_779)) (nd c0_395 (l1 c0_28) (l1 c1_907))) (nd c0_203 (nd c0_331 (l1 a11) (l1 c1_843)) (nd a11 (l1 c1_715) (l1 c1_971)))) (nd c0_107 (nd c0_171 (nd a11 (nd c0_555 (l1 c1_1067) .nil) (l1 a12)) (nd c0_28 (l1 c0_426) (l1 a11))) (nd c0_235 (nd (c0_363 P) (l1 c0_619) (l1 c1_875)) (nd c0_491 (l1 c1_747) (l1 c1_1003))))) (nd c0_59 (nd (c0_91 P) (nd (c0_155 P) (nd c0_283 (nd a11 (l1 c1_1051) .nil) (l1 c1_795)) (nd c0_411 (l1 a11) (l1 c1_923))) (nd c0_219 (nd c0_347 (l1 c0_452) (l1 c1_859)) (nd c0_475 (l1 a11) (l1 a12)))) (nd c0_123 (nd c0_187 (nd c0_315 (l1 a12) (l1 a11)) (nd a11 (l1 c1_699) (l1 c1_955))) (nd c0_251 (nd c0_379 (l1 c0_635) (l1 c1_891)) (nd a12 (l1 a11) (l1 c1_1019)))))))) (nd (boot_o_5 P) (nd (boot_o_9 P) (nd c0_17 (nd c0_33 (nd a11 (nd (c0_129 P) (nd a12 (nd a11 (l1 c1_1025) .nil) (l1 c1_769)) (nd a12 (l1 a11) (l1 c1_897))) (nd c0_193 (nd a12 (l1 a11) (l1 c1_833)) (nd c0_449 (l1 a12) (l1 a12)))) (nd (c0_97 P) (nd (c0_161 P) (nd c0_289 (nd c0_545 (l1 a11) .nil) (l1 c1_801)) (nd c0_417 (l1 c1_673) (l1 c1_929))) (nd c0_225 (nd c0_353 (l1 c0_609) (l1 c0_28)) (nd (c0_481 P) (l1 c1_737) (l1 a11))))) (nd a12 (nd c0_81 (nd c0_145 (nd a11 (nd c0_529 (l1 c1_1041) .nil) (l1 a12)) (nd a11 (l1 a11) (l1 (c1_913 P)))) (nd c0_28 (nd a11 (l1 c0_593) (l1 c1_849)) (nd c0_465 (l1 a11) (l1 c1_977)))) (nd c0_113 (nd c0_153 (nd c0_305 (l1 c0_561) (l1 a11)) (nd a11 (l1 c1_689) (l1 c1_945))) (nd c0_241 (nd (c0_369 P) (l1 a12) (l1 a11)) (nd c0_497 (l1 c1_753) (l1 c1_1009)))))) (nd c0_25 (nd a11 (nd c0_73 (nd c0_137 (nd c0_265 (nd a11 (l1 c1_1033) .nil) (l1 a11)) (nd c0_393 (l1 c0_649) (l1 (c1_905 P)))) (nd c0_201 (nd c0_329 (l1 a12) (l1 a11)) (nd c0_457 (l1 c1_713) (l1 c1_969)))) (nd a11 (nd a12 (nd c0_297 (nd c0_553 (l1 c1_1065) .nil) (l1 c1_809)) (nd c0_425 (l1 c1_681) (l1 c1_937))) (nd a12 (nd c0_361 (l1 a11) (l1 c1_873)) (nd c0_489 (l1 a11) (l1 (c1_1001 P)))))) (nd c0_57 (nd c0_89 (nd c0_153 (nd (c0_281 P) (nd c0_537 (l1 c1_1049) .nil) (l1 c1_793)) (nd c0_409 (l1 a12) (l1 a11))) (nd c0_217 (nd c0_345 (l1 c0_601) (l1 c1_857)) (nd a11 (l1 a12) (l1 c1_985)))) (nd a11 (nd (c0_185 P) (nd a11 (l1 c0_569) (l1 a12)) (nd a12 (l1 a11) (l1 a11))) (nd a11 (nd a11 (l1 c0_633) (l1 c1_889)) (nd c0_505 (l1 c1_761) (l1 a11))))))) (nd a13 (nd c0_21 (nd a11 (nd c0_69 (nd a11 (nd c0_261 (nd c0_517 (l1 a12) .nil) (l1 c1_773)) (nd c0_389 (l1 c0_645) (l1 c1_901))) (nd a12 (nd c0_325 (l1 c0_581) (l1 c1_837)) (nd c0_28 (l1 c1_709) (l1 c1_965)))) (nd c0_101 (nd c0_153 (nd c0_293 (nd c0_549 (l1 a11) .nil) (l1 c1_805)) (nd c1_421 (l1 c1_677) (l1 a12))) (nd c0_229 (nd c0_357 (l1 a11) (l1 c1_869)) (nd c0_452 (l1 c1_741) (l1 c1_997))))) (nd c0_53 (nd c0_85 (nd c0_149 (nd c0_277 (nd a12 (l1 c1_1045) .nil) (l1 c1_789)) (nd a11 (l1 c1_661) (l1 c1_917))) (nd c0_213 (nd a11 (l1 c0_597) (l1 a12)) (nd a11 (l1 c1_725) (l1 c1_981)))) (nd a11 (nd a12 (nd a11 (l1 (c0_565 P)) (l1 c1_821)) (nd c0_437 (l1 a11) (l1 a11))) (nd a12 (nd a11 (l1 c0_629) (l1 a11)) (nd c0_501 (l1 a12) (l1 c1_1013)))))) (nd (c0_29 P) (nd c0_45 (nd c0_28 (nd c0_28 (nd a12 (nd a11 (l1 c1_1037) .nil) (l1 c1_781)) (nd c0_397 (l1 a11) (l1 c1_909))) (nd c0_205 (nd c0_333 (l1 c0_589) (l1 a11)) (nd c0_461 (l1 a12) (l1 a12)))) (nd a11 (nd (c0_173 P) (nd c0_301 (nd c0_557 (l1 a12) .nil) (l1 c1_813)) (nd a11 (l1 (c1_685 P)) (l1 c1_941))) (nd a11 (nd c0_365 (l1 c0_621) (l1 c1_877)) (nd a12 (l1 a11) (l1 c1_1005))))) (nd c0_61 (nd c0_93 (nd a12 (nd c0_285 (nd c0_541 (l1 c1_1053) .nil) (l1 a12)) (nd a12 (l1 c1_669) (l1 a11))) (nd c0_221 (nd a12 (l1 (c0_605 P)) (l1 c1_861)) (nd c0_477 (l1 c1_733) (l1 a11)))) (nd c0_125 (nd c0_153 (nd c0_317 (l1 a11) (l1 c1_829)) (nd c0_445 (l1 c1_701) (l1 c1_957))) (nd c0_253 (nd c0_381 (l1 c0_637) (l1 a12)) (nd a11 (l1 c1_765) (l1 a11))))))))) (nd (boot_o_2 P) (nd (boot_o_4 P) (nd (boot_o_8 P) (nd a12 (nd c0_32 (nd c0_64 (nd a11 (nd a11 (nd c0_512 (l1 a11) .nil) (l1 c1_768)) (nd a11 (l1 c0_640) (l1 c1_896))) (nd a11 (nd a11 (l1 c0_576) (l1 a12)) (nd (c0_448 P) (l1 a11) (l1 a11)))) (nd c0_28 (nd a11 (nd a12 (nd c0_544 (l1 c1_1056) .nil) (l1 c1_800)) (nd c0_416 (l1 a12) (l1 a11))) (nd c0_224 (nd c0_352 (l1 c0_608) (l1 a11)) (nd a11 (l1 a12) (l1 c1_992))))) (nd a11 (nd c0_80 (nd a12 (nd c0_272 (nd a11 (l1 c1_1040) .nil) (l1 a11)) (nd c0_400 (l1 c1_656) (l1 c0_28))) (nd a11 (nd c0_336 (l1 a12) (l1 a11)) (nd c0_464 (l1 c1_720) (l1 c1_976)))) (nd c0_112 (nd c0_176 (nd c0_304 (nd c0_560 (l1 c1_1072) .nil) (l1 c1_816)) (nd c0_432 (l1 c1_688) (l1 c1_944))) (nd a11 (nd c0_368 (l1 a11) (l1 c1_880)) (nd c0_496 (l1 a11) (l1 a12)))))) (nd c0_24 (nd c0_40 (nd c0_72 (nd a11 (nd a12 (nd (c0_520 P) (l1 c1_1032) .nil) (l1 c1_776)) (nd a12 (l1 c0_648) (l1 c1_904))) (nd c0_200 (nd a12 (l1 a11) (l1 c1_840)) (nd c0_456 (l1 (c1_712 P)) (l1 a12)))) (nd c0_104 (nd a11 (nd c0_296 (nd a12 (l1 a11) .nil) (l1 c1_808)) (nd c0_424 (l1 c1_680) (l1 c1_936))) (nd a11 (nd c0_360 (l1 c0_616) (l1 a12)) (nd a11 (l1 (c1_744 P)) (l1 c1_1000))))) (nd a12 (nd c0_88 (nd c0_152 (nd c0_280 (nd c0_536 (l1 a12) .nil) (l1 a12)) (nd a11 (l1 a11) (l1 c1_920))) (nd a12 (nd a11 (l1 c0_600) (l1 c1_856)) (nd c0_472 (l1 a11) (l1 c1_984)))) (nd c0_120 (nd a11 (nd c0_312 (l1 c0_568) (l1 a11)) (nd a11 (l1 c1_696) (l1 c1_952))) (nd c0_248 (nd c0_376 (l1 a12) (l1 a11)) (nd c0_504 (l1 c1_760) (l1 c1_1016))))))) (nd c1_12 (nd c0_20 (nd c0_36 (nd c0_68 (nd c0_132 (nd c0_260 (nd c0_516 (l1 a11) .nil) (l1 c1_772)) (nd c0_388 (l1 c0_644) (l1 a12))) (nd a11 (nd c0_324 (l1 a11) (l1 c1_836)) (nd c0_452 (l1 c1_708) (l1 c1_964)))) (nd c0_100 (nd c0_164 (nd c0_292 (nd c0_548 (l1 c1_1060) .nil) (l1 a12)) (nd (c0_420 P) (l1 c1_676) (l1 a11))) (nd a12 (nd a12 (l1 c0_612) (l1 c1_868)) (nd c0_484 (l1 c1_740) (l1 a11))))) (nd c0_52 (nd a12 (nd (c0_148 P) (nd a11 (nd a11 (l1 c1_1044) .nil) (l1 c1_788)) (nd c0_404 (l1 a11) (l1 c1_916))) (nd c0_212 (nd c0_340 (l1 c0_596) (l1 a11)) (nd c0_468 (l1 a11) (l1 a12)))) (nd (c0_116 P) (nd a11 (nd (c0_308 P) (l1 c0_28) (l1 a11)) (nd a11 (l1 c1_692) (l1 c1_948))) (nd a11 (nd (c0_372 P) (l1 c0_628) (l1 c1_884)) (nd a12 (l1 a11) (l1 c1_1012)))))) (nd c0_28 (nd a11 (nd c0_76 (nd c0_140 (nd a11 (nd c0_524 (l1 a12) .nil) (l1 a11)) (nd c0_396 (l1 (c1_652 P)) (l1 c1_908))) (nd (c0_204 P) (nd c0_332 (l1 c0_588) (l1 c1_844)) (nd a12 (l1 a11) (l1 a11)))) (nd c0_108 (nd a11 (nd a12 (nd c0_556 (l1 a11) .nil) (l1 c1_812)) (nd (c0_428 P) (l1 c0_28) (l1 a12))) (nd c0_236 (nd c0_364 (l1 a11) (l1 c1_876)) (nd a11 (l1 c1_748) (l1 c1_1004))))) (nd c0_60 (nd c0_92 (nd a11 (nd c0_284 (nd a12 (l1 c1_1052) .nil) (l1 a11)) (nd a11 (l1 c1_668) (l1 c1_924))) (nd c0_220 (nd a11 (l1 c0_28) (l1 c1_860)) (nd a11 (l1 c1_732) (l1 c1_988)))) (nd a11 (nd c0_188 (nd a11 (l1 c0_572) (l1 c1_828)) (nd c0_444 (l1 a11) (l1 a11))) (nd a11 (nd a11 (l1 c0_636) (l1 a11)) (nd c0_508 (l1 a12) (l1 c1_1020)))))))) (nd (boot_o_6 P) (nd (boot_o_10 P) (nd a11 (nd a11 (nd c0_66 (nd c0_130 (nd c0_258 (nd (c0_514 P) (l1 c1_1026) .nil) (l1 a11)) (nd c0_386 (l1 c0_642) (l1 c1_898))) (nd c0_194 (nd c0_322 (l1 a12) (l1 a11)) (nd c0_450 (l1 c1_706) (l1 c1_962)))) (nd a11 (nd c0_162 (nd a11 (nd a11 (l1 c1_1058) .nil) (l1 c1_802)) (nd c0_418 (l1 a11) (l1 c1_930))) (nd c0_226 (nd c0_354 (l1 a11) (l1 (c1_866 P))) (nd c0_482 (l1 a11) (l1 a12))))) (nd c0_50 (nd c0_82 (nd c0_146 (nd a12 (nd c0_530 (l1 a11) .nil) (l1 c1_786)) (nd c0_402 (l1 a12) (l1 a11))) (nd (c0_210 P) (nd c0_338 (l1 a11) (l1 c1_850)) (nd a11 (l1 a12) (l1 c1_978)))) (nd c0_76 (nd c0_28 (nd a11 (l1 c0_562) (l1 a12)) (nd a12 (l1 a11) (l1 a11))) (nd c0_242 (nd a11 (l1 c0_626) (l1 c1_882)) (nd c0_498 (l1 c1_754) (l1 a11)))))) (nd c0_26 (nd a12 (nd c0_74 (nd c0_138 (nd c0_266 (nd c0_522 (l1 c1_1034) .nil) (l1 a12)) (nd a11 (l1 c0_426) (l1 c1_906))) (nd c0_202 (nd a11 (l1 c0_586) (l1 c1_842)) (nd c0_458 (l1 c1_714) (l1 c1_970)))) (nd c0_106 (nd c0_170 (nd c0_298 (nd a11 (l1 c1_1066) .nil) (l1 a11)) (nd c0_426 (l1 c1_682) (l1 c1_938))) (nd c0_234 (nd c0_362 (l1 a12) (l1 a11)) (nd c0_490 (l1 c1_746) (l1 c1_1002))))) (nd a11 (nd a11 (nd c0_28 (nd c0_282 (nd c0_538 (l1 a11) .nil) (l1 c1_794)) (nd c0_410 (l1 c1_666) (l1 c1_922))) (nd a11 (nd c0_346 (l1 c0_602) (l1 (c1_858 P))) (nd a12 (l1 c1_730) (l1 a11)))) (nd a12 (nd c0_186 (nd a12 (l1 a11) (l1 c1_826)) (nd c0_442 (l1 a12) (l1 a12))) (nd a12 (nd a12 (l1 a11) (l1 c1_890)) (nd a11 (l1 c1_762) (l1 c1_1018))))))) (nd a14 (nd (c0_22 P) (nd c0_38 (nd (c0_70 P) (nd a12 (nd c0_262 (nd c0_426 (l1 c1_1030) .nil) (l1 c1_774)) (nd c0_390 (l1 (c0_646 P)) (l1 c1_902))) (nd c0_198 (nd c0_326 (l1 c0_582) (l1 a11)) (nd (c0_454 P) (l1 c1_710) (l1 c1_966)))) (nd a11 (nd c0_28 (nd a11 (nd c0_550 (l1 a12) .nil) (l1 c1_806)) (nd c0_422 (l1 c1_678) (l1 c1_934))) (nd c0_230 (nd a11 (l1 c0_614) (l1 c1_870)) (nd c0_28 (l1 a11) (l1 c1_998))))) (nd c0_54 (nd a11 (nd c0_150 (nd c0_278 (nd c0_534 (l1 c1_1046) .nil) (l1 c1_790)) (nd a12 (l1 c1_662) (l1 a11))) (nd c0_214 (nd a12 (l1 a11) (l1 c1_854)) (nd c0_470 (l1 c1_726) (l1 a11)))) (nd c0_118 (nd c0_182 (nd c0_310 (l1 a11) (l1 c1_822)) (nd c0_438 (l1 c1_694) (l1 c1_950))) (nd c0_246 (nd c0_374 (l1 c0_630) (l1 a12)) (nd a11 (l1 c1_758) (l1 a11)))))) (nd a11 (nd c0_46 (nd (c0_78 P) (nd (c0_142 P) (nd c0_270 (nd a12 (l1 a11) .nil) (l1 c1_782)) (nd a11 (l1 c1_654) (l1 c1_910))) (nd c0_206 (nd a11 (l1 c0_590) (l1 a12)) (nd a11 (l1 c1_718) (l1 c1_974)))) (nd (c0_110 P) (nd c0_174 (nd a11 (nd c0_558 (l1 c1_1070) .nil) (l1 c1_814)) (nd c0_430 (l1 a11) (l1 a11))) (nd a12 (nd c0_366 (l1 c0_622) (l1 a11)) (nd c0_494 (l1 a12) (l1 c1_1006))))) (nd a11 (nd c0_94 (nd c0_158 (nd c0_286 (nd a11 (l1 a11) .nil) (l1 c1_798)) (nd c0_414 (l1 c1_670) (l1 a12))) (nd a11 (nd c0_350 (l1 a11) (l1 c1_862)) (nd c0_478 (l1 c1_734) (l1 c1_990)))) (nd c0_126 (nd c0_28 (nd c0_318 (l1 c0_574) (l1 c1_830)) (nd c0_446 (l1 c1_702) (l1 c1_958))) (nd c0_254 (nd c0_382 (l1 a11) (l1 c1_894)) (nd c0_510 (l1 a11) (l1 a12)))))))))
def tc1_:=u1 P
def tz:=u1 P
end
noncomputable def sa(w:World)(os:OsState):SharedT:=SharedT.mk (ta w.params) 15 (@Life.mk [] [] [] 0 [] [] false E [] 0 false false false 0 [2000,10,10] false 0 true [] [] 0 false) E (@Drawn.mk 0 0 0 0) 187 os
noncomputable def sb(w:World)(os:OsState):SharedT:=SharedT.mk (tb w.params) 15 (@Life.mk [] [] [] 0 [] [] false E [] 0 false false false 0 [2000,10,10] false 0 true [] [] 0 false) E (@Drawn.mk 0 0 0 0) 187 os
noncomputable def sc0_(w:World)(os:OsState):SharedT:=SharedT.mk (tc0_ w.params) 650 (@Life.mk [] [] [] 0 [] [] false E [] 0 false false false 0 [2000,10,10] false 0 true [] [] 0 false) E (@Drawn.mk 0 0 0 0) 1032 os
noncomputable def sc1_(w:World)(os:OsState):SharedT:=SharedT.mk (tc1_ w.params) 1073 (@Life.mk [] [] [] 0 [] [] false E [] 0 false false false 0 [2000,10,10] false 0 true [] [] 0 false) E (@Drawn.mk 0 0 0 0) 1618 os
noncomputable def sz(w:World)(os:OsState):SharedT:=SharedT.mk (tz w.params) 1073 (@Life.mk [] [] [] 0 [] [] false E [] 0 false false false 0 [2000,10,10] false 0 true [] [] 0 false) E (@Drawn.mk 0 0 0 0) 1618 os
noncomputable abbrev e0:Env:={scope:=p0.main.scope,locals:=mainNs,globals:=mainNs,cells:=[],code:=(vr 13),frame:=some 14}
noncomputable abbrev en:Env:={scope:=pq.main.scope,locals:=mainNs,globals:=mainNs,cells:=[],code:=(vr 13),frame:=some 14}
theorem bs:behindTheImports p0=((p0.main.body.drop 0).take 40++((p0.main.body.drop 40).take 23++[])):=by kernel_rfl
theorem pre_l(w:World)(b:OsState):topGo treeTable p0 w 11 (sr 6) 12 ⟨boot_heap w.params,Array.mk [],boot_drawn,boot_toks,b⟩ (topStub p0)=some ((sa w b).abs,⟨denote treeTable (Code.body (behindTheImports p0) e0),Code.body (behindTheImports p0) e0,(@Pos.mk 0 0 0 0),[topFrame (@Pos.mk 0 0 0 0)]⟩):=by
 rw [PySem.W.Fast.te15667345088766844465,PySem.W.Fast.te14364793385576792824,PySem.W.Fast.te11892475500146522536,pe]
 kernel_rfl
theorem blk_l(w:World)(b:OsState):segRun treeTable p0 w 11 (sr 6) 1 1 (sa w b).abs (blockOf (behindTheImports p0) e0 (Code.body (behindTheImports p0) e0) (@Pos.mk 0 0 0 0) [topFrame (@Pos.mk 0 0 0 0)])=some (Flow.next,(sb w b).abs,Code.body (behindTheImports p0) e0,(@Pos.mk 0 0 0 0)):=by
 refine segRun_of ?_
 rw [PySem.W.Fast.te10110043849684766642,PySem.W.Fast.te14364793385576792824,pe]
 kernel_rfl
theorem g0(p:Program)(b:List Stmt):∀w:World,(λos=>PySem.W.Fast.tw10110043849684766642 PySem.W.Fast.tw14364793385576792824 p w 11 (sr 6) 1 5962 (sb w os) (piecesOf ((pq.main.body.drop 0).take 40) en (Code.body b en) (@Pos.mk 0 0 0 0) [topFrame (@Pos.mk 0 0 0 0)]))=(λos=>some (Flow.next,sc0_ w os,Code.body b en,(@Pos.mk 280 0 296 17))):=byRow2 "special-get-raises" (P:=λw=>(λos=>PySem.W.Fast.tw10110043849684766642 PySem.W.Fast.tw14364793385576792824 p w 11 (sr 6) 1 5962 (sb w os) (piecesOf ((pq.main.body.drop 0).take 40) en (Code.body b en) (@Pos.mk 0 0 0 0) [topFrame (@Pos.mk 0 0 0 0)]))=(λos=>some (Flow.next,sc0_ w os,Code.body b en,(@Pos.mk 280 0 296 17)))) (λw=>by kernel_rfl) (λw=>by kernel_rfl)
theorem h0(b:List Stmt)(w:World)(d:OsState):segRun treeTable p0 w 11 (sr 6) 1 5962 (sb w d).abs (piecesOf ((p0.main.body.drop 0).take 40) e0 (Code.body b e0) (@Pos.mk 0 0 0 0) [topFrame (@Pos.mk 0 0 0 0)])=some (Flow.next,(sc0_ w d).abs,Code.body b e0,(@Pos.mk 280 0 296 17)):=by
 refine segRun_of ?_
 rw [PySem.W.Fast.te10110043849684766642,PySem.W.Fast.te14364793385576792824,pe]
 exact congrFun (g0 pq b w) d
theorem g1(p:Program)(b:List Stmt):∀w:World,(λos=>PySem.W.Fast.tw10110043849684766642 PySem.W.Fast.tw14364793385576792824 p w 11 (sr 6) 1 2744 (sc0_ w os) (piecesOf ((pq.main.body.drop 40).take 23) en (Code.body b en) (@Pos.mk 280 0 296 17) [topFrame (@Pos.mk 0 0 0 0)]))=(λos=>some (Flow.next,sc1_ w os,Code.body b en,(@Pos.mk 611 0 634 135))):=λw=>by kernel_rfl
theorem h1(b:List Stmt)(w:World)(d:OsState):segRun treeTable p0 w 11 (sr 6) 1 2744 (sc0_ w d).abs (piecesOf ((p0.main.body.drop 40).take 23) e0 (Code.body b e0) (@Pos.mk 280 0 296 17) [topFrame (@Pos.mk 0 0 0 0)])=some (Flow.next,(sc1_ w d).abs,Code.body b e0,(@Pos.mk 611 0 634 135)):=by
 refine segRun_of ?_
 rw [PySem.W.Fast.te10110043849684766642,PySem.W.Fast.te14364793385576792824,pe]
 exact congrFun (g1 pq b w) d
noncomputable abbrev H1:Params->Heap:=λP=>absHeap (tz P) 1073 (@Life.mk [] [] [] 0 [] [] false E [] 0 false false false 0 [2000,10,10] false 0 true [] [] 0 false)
theorem fin_l(b:List Stmt)(w:World)(d:OsState):topRun treeTable p0 w 11 (sr 6) 2 (sc1_ w d).abs ⟨doneF .next,Code.body b e0,(@Pos.mk 611 0 634 135),[topFrame (@Pos.mk 0 0 0 0)]⟩=some ⟨H1 w.params,Array.mk [],(@Drawn.mk 0 0 0 0),1618,d⟩:=by
 rw [PySem.W.Fast.te14082659384304107361,PySem.W.Fast.te14364793385576792824,pe]
 kernel_rfl
theorem run_l(w:World)(b:OsState):topRun treeTable p0 w 11 (sr 6) (12+(1+(5962+(2744+2)))) ⟨boot_heap w.params,Array.mk [],boot_drawn,boot_toks,b⟩ (topStub p0)=some ⟨H1 w.params,Array.mk [],(@Drawn.mk 0 0 0 0),1618,b⟩:=by
 refine go_top (pre_l w b) (piece_block (blk_l w b) ?k)
 rw [bs]
 exact piece_app (h0 _ w b) (piece_app (h1 _ w b) (piece_nil (fin_l _ w b)))
abbrev kF(a b:String)(s:Stmt)(m:String)(n v:Nat):Params->Obj:=λP=>(Obj.mk (@Value.type "function") none (Data.func (fk (@Str.ofString a) (@Str.ofString b) s 3 [] vn vn vn (@Value.str (@Str.ofString m) n) none (vr v) vn 0)) E)
abbrev k21:=kF "_wall" "_wall" (T 0) "__main__" 164 20
abbrev k40:=kF "__init__" "Lock.__init__" (N 4 0) "pactroom.kinds" 194 39
abbrev k47:=kF "kind" "Lock.kind" (N 4 1) "pactroom.kinds" 194 46
abbrev k54:=kF "beside" "Lock.beside" (N 4 2) "pactroom.kinds" 194 53
abbrev k61:=kF "covers" "Lock.covers" (N 4 3) "pactroom.kinds" 194 60
abbrev k68:=kF "told" "Lock.told" (N 4 4) "pactroom.kinds" 194 67
abbrev k89:=kF "kind" "Read.kind" (N 5 0) "pactroom.kinds" 194 88
abbrev k108:=kF "kind" "Mean.kind" (N 6 0) "pactroom.kinds" 194 107
abbrev k127:=kF "kind" "Change.kind" (N 7 0) "pactroom.kinds" 194 126
abbrev k139:=kF "lock_of" "lock_of" (T 8) "pactroom.kinds" 194 138
abbrev k202:=kF "__init__" "NoText.__init__" (N 14 0) "pactroom.errors" 352 201
abbrev k221:=kF "__init__" "Locks.__init__" (N 16 0) "pactroom.locks" 445 220
abbrev k226:=kF "ask" "Locks.ask" (N 16 1) "pactroom.locks" 445 225
abbrev k231:=kF "free" "Locks.free" (N 16 2) "pactroom.locks" 445 230
abbrev k236:=kF "stands" "Locks.stands" (N 16 3) "pactroom.locks" 445 235
abbrev k243:=kF "behind" "Locks.behind" (N 16 4) "pactroom.locks" 445 242
abbrev k248:=kF "held" "Locks.held" (N 16 5) "pactroom.locks" 445 247
abbrev k255:=kF "waiting" "Locks.waiting" (N 16 6) "pactroom.locks" 445 254
abbrev k262:=kF "hinderer" "Locks.hinderer" (N 16 7) "pactroom.locks" 445 261
abbrev k267:=kF "held_pairs" "Locks.held_pairs" (N 16 8) "pactroom.locks" 445 266
abbrev k272:=kF "waiting_pairs" "Locks.waiting_pairs" (N 16 9) "pactroom.locks" 445 271
abbrev k279:=kF "waiting_place" "Locks.waiting_place" (N 16 10) "pactroom.locks" 445 278
abbrev k293:=kF "is_whole" "is_whole" (T 26) "pactroom.things" 547 292
abbrev k298:=kF "read_thing" "read_thing" (T 27) "pactroom.things" 547 297
abbrev k305:=kF "is_sign" "is_sign" (T 28) "pactroom.things" 547 304
abbrev k319:=kF "__init__" "Reader.__init__" (N 29 0) "pactroom.things" 547 318
abbrev k326:=kF "passes" "Reader.passes" (N 29 1) "pactroom.things" 547 325
abbrev k333:=kF "read_any" "Reader.read_any" (N 29 2) "pactroom.things" 547 332
abbrev k340:=kF "read_parts" "Reader.read_parts" (N 29 3) "pactroom.things" 547 339
abbrev k347:=kF "read_below" "Reader.read_below" (N 29 4) "pactroom.things" 547 346
abbrev k354:=kF "read_number" "Reader.read_number" (N 29 5) "pactroom.things" 547 353
abbrev k361:=kF "read_signs" "Reader.read_signs" (N 29 6) "pactroom.things" 547 360
abbrev k383:=kF "house" "Step.house" (N 33 0) "pactroom.steps" 669 382
abbrev k390:=kF "lock" "Step.lock" (N 33 1) "pactroom.steps" 669 389
abbrev k397:=kF "step_done" "Step.step_done" (N 33 2) "pactroom.steps" 669 396
abbrev k404:=kF "back" "Step.back" (N 33 3) "pactroom.steps" 669 403
abbrev k411:=kF "sure" "Step.sure" (N 33 4) "pactroom.steps" 669 410
abbrev k418:=kF "spelled" "Step.spelled" (N 33 5) "pactroom.steps" 669 417
abbrev k439:=kF "__init__" "CellStep.__init__" (N 34 0) "pactroom.steps" 669 438
abbrev k446:=kF "house" "CellStep.house" (N 34 1) "pactroom.steps" 669 445
abbrev k465:=kF "lock" "TakeStep.lock" (N 35 0) "pactroom.steps" 669 464
abbrev k472:=kF "step_done" "TakeStep.step_done" (N 35 1) "pactroom.steps" 669 471
abbrev k479:=kF "spelled" "TakeStep.spelled" (N 35 2) "pactroom.steps" 669 478
abbrev k498:=kF "lock" "MeanStep.lock" (N 36 0) "pactroom.steps" 669 497
abbrev k505:=kF "step_done" "MeanStep.step_done" (N 36 1) "pactroom.steps" 669 504
abbrev k512:=kF "spelled" "MeanStep.spelled" (N 36 2) "pactroom.steps" 669 511
abbrev k531:=kF "__init__" "SumStep.__init__" (N 37 0) "pactroom.steps" 669 530
abbrev k538:=kF "house" "SumStep.house" (N 37 1) "pactroom.steps" 669 537
abbrev k545:=kF "lock" "SumStep.lock" (N 37 2) "pactroom.steps" 669 544
abbrev k550:=kF "step_done" "SumStep.step_done" (N 37 3) "pactroom.steps" 669 549
abbrev k557:=kF "spelled" "SumStep.spelled" (N 37 4) "pactroom.steps" 669 556
abbrev k576:=kF "lock" "GiveStep.lock" (N 38 0) "pactroom.steps" 669 575
abbrev k583:=kF "step_done" "GiveStep.step_done" (N 38 1) "pactroom.steps" 669 582
abbrev k590:=kF "sure" "GiveStep.sure" (N 38 2) "pactroom.steps" 669 589
abbrev k597:=kF "spelled" "GiveStep.spelled" (N 38 3) "pactroom.steps" 669 596
abbrev k616:=kF "__init__" "AddStep.__init__" (N 39 0) "pactroom.steps" 669 615
abbrev k623:=kF "lock" "AddStep.lock" (N 39 1) "pactroom.steps" 669 622
abbrev k630:=kF "step_done" "AddStep.step_done" (N 39 2) "pactroom.steps" 669 629
abbrev k637:=kF "back" "AddStep.back" (N 39 3) "pactroom.steps" 669 636
abbrev k644:=kF "spelled" "AddStep.spelled" (N 39 4) "pactroom.steps" 669 643
abbrev k663:=kF "__init__" "PlusStep.__init__" (N 40 0) "pactroom.steps" 669 662
abbrev k670:=kF "step_done" "PlusStep.step_done" (N 40 1) "pactroom.steps" 669 669
abbrev k677:=kF "spelled" "PlusStep.spelled" (N 40 2) "pactroom.steps" 669 676
abbrev k696:=kF "__init__" "NeedStep.__init__" (N 41 0) "pactroom.steps" 669 695
abbrev k703:=kF "step_done" "NeedStep.step_done" (N 41 1) "pactroom.steps" 669 702
abbrev k710:=kF "spelled" "NeedStep.spelled" (N 41 2) "pactroom.steps" 669 709
abbrev k720:=kF "read_step" "read_step" (T 42) "pactroom.steps" 669 719
abbrev k727:=kF "read_number" "read_number" (T 43) "pactroom.steps" 669 726
abbrev k734:=kF "made_step" "made_step" (T 44) "pactroom.steps" 669 733
abbrev k741:=kF "made_sum" "made_sum" (T 45) "pactroom.steps" 669 740
abbrev k755:=kF "__init__" "Works.__init__" (N 47 0) "pactroom.works" 1146 754
abbrev k762:=kF "take_up" "Works.take_up" (N 47 1) "pactroom.works" 1146 761
abbrev k769:=kF "work" "Works.work" (N 47 2) "pactroom.works" 1146 768
abbrev k776:=kF "do_step" "Works.do_step" (N 47 3) "pactroom.works" 1146 775
abbrev k783:=kF "value_at" "Works.value_at" (N 47 4) "pactroom.works" 1146 782
abbrev k790:=kF "send_did" "Works.send_did" (N 47 5) "pactroom.works" 1146 789
abbrev k795:=kF "ready" "Works.ready" (N 47 6) "pactroom.works" 1146 794
abbrev k802:=kF "ended" "Works.ended" (N 47 7) "pactroom.works" 1146 801
abbrev k809:=kF "walk" "Works.walk" (N 47 8) "pactroom.works" 1146 808
abbrev k816:=kF "undo" "Works.undo" (N 47 9) "pactroom.works" 1146 815
abbrev k823:=kF "lock_stands" "Works.lock_stands" (N 47 10) "pactroom.works" 1146 822
abbrev k830:=kF "turn" "Works.turn" (N 47 11) "pactroom.works" 1146 829
abbrev k837:=kF "chase" "Works.chase" (N 47 12) "pactroom.works" 1146 836
abbrev k844:=kF "held" "Works.held" (N 47 13) "pactroom.works" 1146 843
abbrev k851:=kF "waiting" "Works.waiting" (N 47 14) "pactroom.works" 1146 850
abbrev k856:=kF "is_bound" "Works.is_bound" (N 47 15) "pactroom.works" 1146 855
abbrev k877:=kF "__init__" "Sheet.__init__" (N 49 0) "pactroom.sheets" 1334 876
abbrev k884:=kF "row" "Sheet.row" (N 49 1) "pactroom.sheets" 1334 883
abbrev k891:=kF "send" "Sheet.send" (N 49 2) "pactroom.sheets" 1334 890
abbrev k898:=kF "rows_told" "Sheet.rows_told" (N 49 3) "pactroom.sheets" 1334 897
abbrev k903:=kF "letters_told" "Sheet.letters_told" (N 49 4) "pactroom.sheets" 1334 902
abbrev k924:=kF "__init__" "Stand.__init__" (N 51 0) "pactroom.stands" 1400 923
abbrev k931:=kF "keep" "Stand.keep" (N 51 1) "pactroom.stands" 1400 930
abbrev k938:=kF "changes_of" "Stand.changes_of" (N 51 2) "pactroom.stands" 1400 937
abbrev k945:=kF "cell_at" "Stand.cell_at" (N 51 3) "pactroom.stands" 1400 944
abbrev k952:=kF "cells_told" "Stand.cells_told" (N 51 4) "pactroom.stands" 1400 951
abbrev k959:=kF "outcome" "Stand.outcome" (N 51 5) "pactroom.stands" 1400 958
abbrev k966:=kF "news" "Stand.news" (N 51 6) "pactroom.stands" 1400 965
abbrev k971:=kF "bound" "Stand.bound" (N 51 7) "pactroom.stands" 1400 970
abbrev k978:=kF "lost" "Stand.lost" (N 51 8) "pactroom.stands" 1400 977
abbrev k985:=kF "begun" "Stand.begun" (N 51 9) "pactroom.stands" 1400 984
abbrev k992:=kF "walked_at" "Stand.walked_at" (N 51 10) "pactroom.stands" 1400 991
abbrev k999:=kF "is_over" "Stand.is_over" (N 51 11) "pactroom.stands" 1400 998
abbrev k1013:=kF "_law_cell_at" "_law_cell_at" (T 53) "law_pactroom_k54_undone_once_or_void" 1522 1012
abbrev k1020:=kF "_law_number" "_law_number" (T 54) "law_pactroom_k54_undone_once_or_void" 1522 1019
abbrev k1027:=kF "_law_step" "_law_step" (T 55) "law_pactroom_k54_undone_once_or_void" 1522 1026
abbrev k1034:=kF "_law_lock" "_law_lock" (T 56) "law_pactroom_k54_undone_once_or_void" 1522 1033
abbrev k1041:=kF "_law_meets" "_law_meets" (T 57) "law_pactroom_k54_undone_once_or_void" 1522 1040
abbrev k1046:=kF "_law_undone" "_law_undone" (T 58) "law_pactroom_k54_undone_once_or_void" 1522 1045
abbrev k1053:=kF "_law_walk" "_law_walk" (T 59) "law_pactroom_k54_undone_once_or_void" 1522 1052
abbrev k1060:=kF "_law_held" "_law_held" (T 60) "law_pactroom_k54_undone_once_or_void" 1522 1059
abbrev k1067:=kF "_law_silent" "_law_silent" (T 61) "law_pactroom_k54_undone_once_or_void" 1522 1066
abbrev k1072:=kF "law" "law" (T 62) "law_pactroom_k54_undone_once_or_void" 1522 1071
noncomputable def Kf:Params->Frag:=λP=>(nat_lit 2,boot_o_2 P)::(nat_lit 3,c1_3 P)::(nat_lit 15,a11)::(nat_lit 17,c0_17)::(nat_lit 18,a11)::(nat_lit 20,c0_20)::(nat_lit 21,k21 P)::(nat_lit 22,c0_22 P)::(nat_lit 23,c0_23)::(nat_lit 24,c0_24)::(nat_lit 25,c0_25)::(nat_lit 26,c0_26)::(nat_lit 34,a11)::(nat_lit 36,c0_36)::(nat_lit 37,a11)::(nat_lit 39,c0_39)::(nat_lit 40,k40 P)::(nat_lit 41,a11)::(nat_lit 43,c0_43)::(nat_lit 44,a11)::(nat_lit 46,c0_46)::(nat_lit 47,k47 P)::(nat_lit 48,a11)::(nat_lit 50,c0_50)::(nat_lit 51,a11)::(nat_lit 53,c0_53)::(nat_lit 54,k54 P)::(nat_lit 55,a11)::(nat_lit 57,c0_57)::(nat_lit 58,a11)::(nat_lit 60,c0_60)::(nat_lit 61,k61 P)::(nat_lit 62,a11)::(nat_lit 64,c0_64)::(nat_lit 65,a11)::(nat_lit 67,c0_67)::(nat_lit 68,k68 P)::(nat_lit 69,c0_69)::(nat_lit 70,c0_70 P)::(nat_lit 71,c0_71)::(nat_lit 72,c0_72)::(nat_lit 73,c0_73)::(nat_lit 76,c0_76)::(nat_lit 83,a11)::(nat_lit 85,c0_85)::(nat_lit 86,a11)::(nat_lit 88,c0_88)::(nat_lit 89,k89 P)::(nat_lit 90,a11)::(nat_lit 91,c0_91 P)::(nat_lit 92,c0_92)::(nat_lit 95,c0_76)::(nat_lit 102,a11)::(nat_lit 104,c0_104)::(nat_lit 105,a11)::(nat_lit 107,c0_107)::(nat_lit 108,k108 P)::(nat_lit 109,a11)::(nat_lit 110,c0_110 P)::(nat_lit 111,c0_111)::(nat_lit 114,c0_76)::(nat_lit 121,a11)::(nat_lit 123,c0_123)::(nat_lit 124,a11)::(nat_lit 126,c0_126)::(nat_lit 127,k127 P)::(nat_lit 128,a11)::(nat_lit 129,c0_129 P)::(nat_lit 130,c0_130)::(nat_lit 133,a11)::(nat_lit 135,c0_135)::(nat_lit 136,a11)::(nat_lit 138,c0_138)::(nat_lit 139,k139 P)::(nat_lit 140,c0_140)::(nat_lit 147,a11)::(nat_lit 148,c0_148 P)::(nat_lit 149,c0_149)::(nat_lit 150,c0_150)::(nat_lit 153,c0_153)::(nat_lit 160,a11)::(nat_lit 161,c0_161 P)::(nat_lit 162,c0_162)::(nat_lit 165,c0_153)::(nat_lit 172,a11)::(nat_lit 173,c0_173 P)::(nat_lit 174,c0_174)::(nat_lit 177,c0_153)::(nat_lit 184,a11)::(nat_lit 185,c0_185 P)::(nat_lit 186,c0_186)::(nat_lit 189,c0_153)::(nat_lit 196,a11)::(nat_lit 198,c0_198)::(nat_lit 199,a11)::(nat_lit 201,c0_201)::(nat_lit 202,k202 P)::(nat_lit 203,c0_203)::(nat_lit 204,c0_204 P)::(nat_lit 205,c0_205)::(nat_lit 215,a11)::(nat_lit 217,c0_217)::(nat_lit 218,a11)::(nat_lit 220,c0_220)::(nat_lit 221,k221 P)::(nat_lit 222,a11)::(nat_lit 225,c0_225)::(nat_lit 226,k226 P)::(nat_lit 227,a11)::(nat_lit 230,c0_230)::(nat_lit 231,k231 P)::(nat_lit 232,a11)::(nat_lit 235,c0_235)::(nat_lit 236,k236 P)::(nat_lit 237,a11)::(nat_lit 239,c0_239)::(nat_lit 240,a11)::(nat_lit 242,c0_242)::(nat_lit 243,k243 P)::(nat_lit 244,a11)::(nat_lit 247,c0_247)::(nat_lit 248,k248 P)::(nat_lit 249,a11)::(nat_lit 251,c0_251)::(nat_lit 252,a11)::(nat_lit 254,c0_254)::(nat_lit 255,k255 P)::(nat_lit 256,a11)::(nat_lit 258,c0_258)::(nat_lit 259,a11)::(nat_lit 261,c0_261)::(nat_lit 262,k262 P)::(nat_lit 263,a11)::(nat_lit 266,c0_266)::(nat_lit 267,k267 P)::(nat_lit 268,a11)::(nat_lit 271,c0_271)::(nat_lit 272,k272 P)::(nat_lit 273,a11)::(nat_lit 275,c0_275)::(nat_lit 276,a11)::(nat_lit 278,c0_278)::(nat_lit 279,k279 P)::(nat_lit 280,c0_280)::(nat_lit 281,c0_281 P)::(nat_lit 282,c0_282)::(nat_lit 283,c0_283)::(nat_lit 284,c0_284)::(nat_lit 287,a11)::(nat_lit 289,c0_289)::(nat_lit 290,a11)::(nat_lit 292,c0_292)::(nat_lit 293,k293 P)::(nat_lit 294,a11)::(nat_lit 297,c0_297)::(nat_lit 298,k298 P)::(nat_lit 299,a11)::(nat_lit 301,c0_301)::(nat_lit 302,a11)::(nat_lit 304,c0_304)::(nat_lit 305,k305 P)::(nat_lit 313,a11)::(nat_lit 315,c0_315)::(nat_lit 316,a11)::(nat_lit 318,c0_318)::(nat_lit 319,k319 P)::(nat_lit 320,a11)::(nat_lit 322,c0_322)::(nat_lit 323,a11)::(nat_lit 325,c0_325)::(nat_lit 326,k326 P)::(nat_lit 327,a11)::(nat_lit 329,c0_329)::(nat_lit 330,a11)::(nat_lit 332,c0_332)::(nat_lit 333,k333 P)::(nat_lit 334,a11)::(nat_lit 336,c0_336)::(nat_lit 337,a11)::(nat_lit 339,c0_339)::(nat_lit 340,k340 P)::(nat_lit 341,a11)::(nat_lit 343,c0_343)::(nat_lit 344,a11)::(nat_lit 346,c0_346)::(nat_lit 347,k347 P)::(nat_lit 348,a11)::(nat_lit 350,c0_350)::(nat_lit 351,a11)::(nat_lit 353,c0_353)::(nat_lit 354,k354 P)::(nat_lit 355,a11)::(nat_lit 357,c0_357)::(nat_lit 358,a11)::(nat_lit 360,c0_360)::(nat_lit 361,k361 P)::(nat_lit 362,c0_362)::(nat_lit 363,c0_363 P)::(nat_lit 364,c0_364)::(nat_lit 365,c0_365)::(nat_lit 366,c0_366)::(nat_lit 369,c0_369 P)::(nat_lit 377,a11)::(nat_lit 379,c0_379)::(nat_lit 380,a11)::(nat_lit 382,c0_382)::(nat_lit 383,k383 P)::(nat_lit 384,a11)::(nat_lit 386,c0_386)::(nat_lit 387,a11)::(nat_lit 389,c0_389)::(nat_lit 390,k390 P)::(nat_lit 391,a11)::(nat_lit 393,c0_393)::(nat_lit 394,a11)::(nat_lit 396,c0_396)::(nat_lit 397,k397 P)::(nat_lit 398,a11)::(nat_lit 400,c0_400)::(nat_lit 401,a11)::(nat_lit 403,c0_403)::(nat_lit 404,k404 P)::(nat_lit 405,a11)::(nat_lit 407,c0_407)::(nat_lit 408,a11)::(nat_lit 410,c0_410)::(nat_lit 411,k411 P)::(nat_lit 412,a11)::(nat_lit 414,c0_414)::(nat_lit 415,a11)::(nat_lit 417,c0_417)::(nat_lit 418,k418 P)::(nat_lit 419,a11)::(nat_lit 420,c0_420 P)::(nat_lit 421,c1_421)::(nat_lit 422,c0_422)::(nat_lit 423,c0_423)::(nat_lit 426,c0_426)::(nat_lit 433,a11)::(nat_lit 435,c0_435)::(nat_lit 436,a11)::(nat_lit 438,c0_438)::(nat_lit 439,k439 P)::(nat_lit 440,a11)::(nat_lit 442,c0_442)::(nat_lit 443,a11)::(nat_lit 445,c0_445)::(nat_lit 446,k446 P)::(nat_lit 447,c0_447)::(nat_lit 448,c0_448 P)::(nat_lit 449,c0_449)::(nat_lit 452,c0_452)::(nat_lit 459,a11)::(nat_lit 461,c0_461)::(nat_lit 462,a11)::(nat_lit 464,c0_464)::(nat_lit 465,k465 P)::(nat_lit 466,a11)::(nat_lit 468,c0_468)::(nat_lit 469,a11)::(nat_lit 471,c0_471)::(nat_lit 472,k472 P)::(nat_lit 473,a11)::(nat_lit 475,c0_475)::(nat_lit 476,a11)::(nat_lit 478,c0_478)::(nat_lit 479,k479 P)::(nat_lit 480,a11)::(nat_lit 481,c0_481 P)::(nat_lit 482,c0_482)::(nat_lit 485,c0_452)::(nat_lit 492,a11)::(nat_lit 494,c0_494)::(nat_lit 495,a11)::(nat_lit 497,c0_497)::(nat_lit 498,k498 P)::(nat_lit 499,a11)::(nat_lit 501,c0_501)::(nat_lit 502,a11)::(nat_lit 504,c0_504)::(nat_lit 505,k505 P)::(nat_lit 506,a11)::(nat_lit 508,c0_508)::(nat_lit 509,a11)::(nat_lit 511,c0_511)::(nat_lit 512,k512 P)::(nat_lit 513,a11)::(nat_lit 514,c0_514 P)::(nat_lit 515,c0_515)::(nat_lit 518,c0_426)::(nat_lit 525,a11)::(nat_lit 527,c0_527)::(nat_lit 528,a11)::(nat_lit 530,c0_530)::(nat_lit 531,k531 P)::(nat_lit 532,a11)::(nat_lit 534,c0_534)::(nat_lit 535,a11)::(nat_lit 537,c0_537)::(nat_lit 538,k538 P)::(nat_lit 539,a11)::(nat_lit 541,c0_541)::(nat_lit 542,a11)::(nat_lit 544,c0_544)::(nat_lit 545,k545 P)::(nat_lit 546,a11)::(nat_lit 549,c0_549)::(nat_lit 550,k550 P)::(nat_lit 551,a11)::(nat_lit 553,c0_553)::(nat_lit 554,a11)::(nat_lit 556,c0_556)::(nat_lit 557,k557 P)::(nat_lit 558,c0_558)::(nat_lit 559,c0_559 P)::(nat_lit 560,c0_560)::(nat_lit 563,c0_452)::(nat_lit 570,a11)::(nat_lit 572,c0_572)::(nat_lit 573,a11)::(nat_lit 575,c0_575)::(nat_lit 576,k576 P)::(nat_lit 577,a11)::(nat_lit 579,c0_579)::(nat_lit 580,a11)::(nat_lit 582,c0_582)::(nat_lit 583,k583 P)::(nat_lit 584,a11)::(nat_lit 586,c0_586)::(nat_lit 587,a11)::(nat_lit 589,c0_589)::(nat_lit 590,k590 P)::(nat_lit 591,a11)::(nat_lit 593,c0_593)::(nat_lit 594,a11)::(nat_lit 596,c0_596)::(nat_lit 597,k597 P)::(nat_lit 598,a11)::(nat_lit 599,c0_599 P)::(nat_lit 600,c0_600)::(nat_lit 603,c0_452)::(nat_lit 610,a11)::(nat_lit 612,c0_612)::(nat_lit 613,a11)::(nat_lit 615,c0_615)::(nat_lit 616,k616 P)::(nat_lit 617,a11)::(nat_lit 619,c0_619)::(nat_lit 620,a11)::(nat_lit 622,c0_622)::(nat_lit 623,k623 P)::(nat_lit 624,a11)::(nat_lit 626,c0_626)::(nat_lit 627,a11)::(nat_lit 629,c0_629)::(nat_lit 630,k630 P)::(nat_lit 631,a11)::(nat_lit 633,c0_633)::(nat_lit 634,a11)::(nat_lit 636,c0_636)::(nat_lit 637,k637 P)::(nat_lit 638,a11)::(nat_lit 640,c0_640)::(nat_lit 641,a11)::(nat_lit 643,c0_643)::(nat_lit 644,k644 P)::(nat_lit 645,c0_645)::(nat_lit 646,c0_646 P)::(nat_lit 647,c0_647)::(nat_lit 650,c0_426)::(nat_lit 657,a11)::(nat_lit 659,c1_659)::(nat_lit 660,a11)::(nat_lit 662,c1_662)::(nat_lit 663,k663 P)::(nat_lit 664,a11)::(nat_lit 666,c1_666)::(nat_lit 667,a11)::(nat_lit 669,c1_669)::(nat_lit 670,k670 P)::(nat_lit 671,a11)::(nat_lit 673,c1_673)::(nat_lit 674,a11)::(nat_lit 676,c1_676)::(nat_lit 677,k677 P)::(nat_lit 678,c1_678)::(nat_lit 679,c1_679 P)::(nat_lit 680,c1_680)::(nat_lit 683,c0_426)::(nat_lit 690,a11)::(nat_lit 692,c1_692)::(nat_lit 693,a11)::(nat_lit 695,c1_695)::(nat_lit 696,k696 P)::(nat_lit 697,a11)::(nat_lit 699,c1_699)::(nat_lit 700,a11)::(nat_lit 702,c1_702)::(nat_lit 703,k703 P)::(nat_lit 704,a11)::(nat_lit 706,c1_706)::(nat_lit 707,a11)::(nat_lit 709,c1_709)::(nat_lit 710,k710 P)::(nat_lit 711,c1_711)::(nat_lit 712,c1_712 P)::(nat_lit 713,c1_713)::(nat_lit 716,a11)::(nat_lit 719,c1_719)::(nat_lit 720,k720 P)::(nat_lit 721,a11)::(nat_lit 723,c1_723)::(nat_lit 724,a11)::(nat_lit 726,c1_726)::(nat_lit 727,k727 P)::(nat_lit 728,a11)::(nat_lit 730,c1_730)::(nat_lit 731,a11)::(nat_lit 733,c1_733)::(nat_lit 734,k734 P)::(nat_lit 735,a11)::(nat_lit 737,c1_737)::(nat_lit 738,a11)::(nat_lit 740,c1_740)::(nat_lit 741,k741 P)::(nat_lit 749,a11)::(nat_lit 751,c1_751)::(nat_lit 752,a11)::(nat_lit 754,c1_754)::(nat_lit 755,k755 P)::(nat_lit 756,a11)::(nat_lit 758,c1_758)::(nat_lit 759,a11)::(nat_lit 761,c1_761)::(nat_lit 762,k762 P)::(nat_lit 763,a11)::(nat_lit 765,c1_765)::(nat_lit 766,a11)::(nat_lit 768,c1_768)::(nat_lit 769,k769 P)::(nat_lit 770,a11)::(nat_lit 772,c1_772)::(nat_lit 773,c1_773)::(nat_lit 775,c1_775)::(nat_lit 776,k776 P)::(nat_lit 777,a11)::(nat_lit 779,c1_779)::(nat_lit 780,a11)::(nat_lit 782,c1_782)::(nat_lit 783,k783 P)::(nat_lit 784,a11)::(nat_lit 786,c1_786)::(nat_lit 787,a11)::(nat_lit 789,c1_789)::(nat_lit 790,k790 P)::(nat_lit 791,a11)::(nat_lit 794,c1_794)::(nat_lit 795,k795 P)::(nat_lit 796,a11)::(nat_lit 798,c1_798)::(nat_lit 799,a11)::(nat_lit 801,c1_801)::(nat_lit 802,k802 P)::(nat_lit 803,a11)::(nat_lit 805,c1_805)::(nat_lit 806,c1_806)::(nat_lit 808,c1_808)::(nat_lit 809,k809 P)::(nat_lit 810,a11)::(nat_lit 812,c1_812)::(nat_lit 813,c1_813)::(nat_lit 815,c1_815)::(nat_lit 816,k816 P)::(nat_lit 817,a11)::(nat_lit 819,c1_819)::(nat_lit 820,a11)::(nat_lit 822,c1_822)::(nat_lit 823,k823 P)::(nat_lit 824,a11)::(nat_lit 826,c1_826)::(nat_lit 827,a11)::(nat_lit 829,c1_829)::(nat_lit 830,k830 P)::(nat_lit 831,a11)::(nat_lit 833,c1_833)::(nat_lit 834,a11)::(nat_lit 836,c1_836)::(nat_lit 837,k837 P)::(nat_lit 838,a11)::(nat_lit 840,c1_840)::(nat_lit 841,a11)::(nat_lit 843,c1_843)::(nat_lit 844,k844 P)::(nat_lit 845,a11)::(nat_lit 847,c1_847)::(nat_lit 848,a11)::(nat_lit 850,c1_850)::(nat_lit 851,k851 P)::(nat_lit 852,a11)::(nat_lit 855,c1_855)::(nat_lit 856,k856 P)::(nat_lit 857,c1_857)::(nat_lit 858,c1_858 P)::(nat_lit 859,c1_859)::(nat_lit 860,c1_860)::(nat_lit 861,c1_861)::(nat_lit 871,a11)::(nat_lit 873,c1_873)::(nat_lit 874,a11)::(nat_lit 876,c1_876)::(nat_lit 877,k877 P)::(nat_lit 878,a11)::(nat_lit 880,c1_880)::(nat_lit 881,a11)::(nat_lit 883,c1_883)::(nat_lit 884,k884 P)::(nat_lit 885,a11)::(nat_lit 887,c1_887)::(nat_lit 888,a11)::(nat_lit 890,c1_890)::(nat_lit 891,k891 P)::(nat_lit 892,a11)::(nat_lit 894,c1_894)::(nat_lit 895,a11)::(nat_lit 897,c1_897)::(nat_lit 898,k898 P)::(nat_lit 899,a11)::(nat_lit 902,c1_902)::(nat_lit 903,k903 P)::(nat_lit 904,c1_904)::(nat_lit 905,c1_905 P)::(nat_lit 906,c1_906)::(nat_lit 907,c1_907)::(nat_lit 908,c1_908)::(nat_lit 918,a11)::(nat_lit 920,c1_920)::(nat_lit 921,a11)::(nat_lit 923,c1_923)::(nat_lit 924,k924 P)::(nat_lit 925,a11)::(nat_lit 927,c1_927)::(nat_lit 928,a11)::(nat_lit 930,c1_930)::(nat_lit 931,k931 P)::(nat_lit 932,a11)::(nat_lit 934,c1_934)::(nat_lit 935,a11)::(nat_lit 937,c1_937)::(nat_lit 938,k938 P)::(nat_lit 939,a11)::(nat_lit 941,c1_941)::(nat_lit 942,a11)::(nat_lit 944,c1_944)::(nat_lit 945,k945 P)::(nat_lit 946,a11)::(nat_lit 948,c1_948)::(nat_lit 949,a11)::(nat_lit 951,c1_951)::(nat_lit 952,k952 P)::(nat_lit 953,a11)::(nat_lit 955,c1_955)::(nat_lit 956,a11)::(nat_lit 958,c1_958)::(nat_lit 959,k959 P)::(nat_lit 960,a11)::(nat_lit 962,c1_962)::(nat_lit 963,a11)::(nat_lit 965,c1_965)::(nat_lit 966,k966 P)::(nat_lit 967,a11)::(nat_lit 970,c1_970)::(nat_lit 971,k971 P)::(nat_lit 972,a11)::(nat_lit 974,c1_974)::(nat_lit 975,a11)::(nat_lit 977,c1_977)::(nat_lit 978,k978 P)::(nat_lit 979,a11)::(nat_lit 981,c1_981)::(nat_lit 982,a11)::(nat_lit 984,c1_984)::(nat_lit 985,k985 P)::(nat_lit 986,a11)::(nat_lit 988,c1_988)::(nat_lit 989,a11)::(nat_lit 991,c1_991)::(nat_lit 992,k992 P)::(nat_lit 993,a11)::(nat_lit 995,c1_995)::(nat_lit 996,a11)::(nat_lit 998,c1_998)::(nat_lit 999,k999 P)::(nat_lit 1000,c1_1000)::(nat_lit 1001,c1_1001 P)::(nat_lit 1002,c1_1002)::(nat_lit 1003,c1_1003)::(nat_lit 1004,c1_1004)::(nat_lit 1007,a11)::(nat_lit 1009,c1_1009)::(nat_lit 1010,a11)::(nat_lit 1012,c1_1012)::(nat_lit 1013,k1013 P)::(nat_lit 1014,a11)::(nat_lit 1016,c1_1016)::(nat_lit 1017,a11)::(nat_lit 1019,c1_1019)::(nat_lit 1020,k1020 P)::(nat_lit 1021,a11)::(nat_lit 1023,c1_1023)::(nat_lit 1024,a11)::(nat_lit 1026,c1_1026)::(nat_lit 1027,k1027 P)::(nat_lit 1028,a11)::(nat_lit 1030,c1_1030)::(nat_lit 1031,a11)::(nat_lit 1033,c1_1033)::(nat_lit 1034,k1034 P)::(nat_lit 1035,a11)::(nat_lit 1037,c1_1037)::(nat_lit 1038,a11)::(nat_lit 1040,c1_1040)::(nat_lit 1041,k1041 P)::(nat_lit 1042,a11)::(nat_lit 1045,c1_1045)::(nat_lit 1046,k1046 P)::(nat_lit 1047,a11)::(nat_lit 1049,c1_1049)::(nat_lit 1050,a11)::(nat_lit 1052,c1_1052)::(nat_lit 1053,k1053 P)::(nat_lit 1054,a11)::(nat_lit 1056,c1_1056)::(nat_lit 1057,a11)::(nat_lit 1059,c1_1059)::(nat_lit 1060,k1060 P)::(nat_lit 1061,a11)::(nat_lit 1063,c1_1063)::(nat_lit 1064,a11)::(nat_lit 1066,c1_1066)::(nat_lit 1067,k1067 P)::(nat_lit 1068,a11)::(nat_lit 1071,c1_1071)::(nat_lit 1072,k1072 P)::[]
noncomputable def Ka:List Addr:=[2,3,15,17,18,20,21,22,23,24,25,26,34,36,37,39,40,41,43,44,46,47,48,50,51,53,54,55,57,58,60,61,62,64,65,67,68,69,70,71,72,73,76,83,85,86,88,89,90,91,92,95,102,104,105,107,108,109,110,111,114,121,123,124,126,127,128,129,130,133,135,136,138,139,140,147,148,149,150,153,160,161,162,165,172,173,174,177,184,185,186,189,196,198,199,201,202,203,204,205,215,217,218,220,221,222,225,226,227,230,231,232,235,236,237,239,240,242,243,244,247,248,249,251,252,254,255,256,258,259,261,262,263,266,267,268,271,272,273,275,276,278,279,280,281,282,283,284,287,289,290,292,293,294,297,298,299,301,302,304,305,313,315,316,318,319,320,322,323,325,326,327,329,330,332,333,334,336,337,339,340,341,343,344,346,347,348,350,351,353,354,355,357,358,360,361,362,363,364,365,366,369,377,379,380,382,383,384,386,387,389,390,391,393,394,396,397,398,400,401,403,404,405,407,408,410,411,412,414,415,417,418,419,420,421,422,423,426,433,435,436,438,439,440,442,443,445,446,447,448,449,452,459,461,462,464,465,466,468,469,471,472,473,475,476,478,479,480,481,482,485,492,494,495,497,498,499,501,502,504,505,506,508,509,511,512,513,514,515,518,525,527,528,530,531,532,534,535,537,538,539,541,542,544,545,546,549,550,551,553,554,556,557,558,559,560,563,570,572,573,575,576,577,579,580,582,583,584,586,587,589,590,591,593,594,596,597,598,599,600,603,610,612,613,615,616,617,619,620,622,623,624,626,627,629,630,631,633,634,636,637,638,640,641,643,644,645,646,647,650,657,659,660,662,663,664,666,667,669,670,671,673,674,676,677,678,679,680,683,690,692,693,695,696,697,699,700,702,703,704,706,707,709,710,711,712,713,716,719,720,721,723,724,726,727,728,730,731,733,734,735,737,738,740,741,749,751,752,754,755,756,758,759,761,762,763,765,766,768,769,770,772,773,775,776,777,779,780,782,783,784,786,787,789,790,791,794,795,796,798,799,801,802,803,805,806,808,809,810,812,813,815,816,817,819,820,822,823,824,826,827,829,830,831,833,834,836,837,838,840,841,843,844,845,847,848,850,851,852,855,856,857,858,859,860,861,871,873,874,876,877,878,880,881,883,884,885,887,888,890,891,892,894,895,897,898,899,902,903,904,905,906,907,908,918,920,921,923,924,925,927,928,930,931,932,934,935,937,938,939,941,942,944,945,946,948,949,951,952,953,955,956,958,959,960,962,963,965,966,967,970,971,972,974,975,977,978,979,981,982,984,985,986,988,989,991,992,993,995,996,998,999,1000,1001,1002,1003,1004,1007,1009,1010,1012,1013,1014,1016,1017,1019,1020,1021,1023,1024,1026,1027,1028,1030,1031,1033,1034,1035,1037,1038,1040,1041,1042,1045,1046,1047,1049,1050,1052,1053,1054,1056,1057,1059,1060,1061,1063,1064,1066,1067,1068,1071,1072]
theorem ke(P:Params):Ka=(Kf P).map (·.1):=by kernel_rfl
noncomputable abbrev HK:Hook:=kmHook Kf Ka ke [811,804,771]
noncomputable abbrev R:RowW:=PySem.Challenge.rw_pactroom_k54_undone_once_or_void.row.toRowW
noncomputable abbrev lo:List Str:=[Str.ofString "RANKS",Str.ofString "SHAPES"]
noncomputable abbrev lvv:List (Str×WData):=[]
noncomputable def qv:Program:={p0 with main:={p0.main with body:=[T 0,T 2,T 3,T 4,T 5,T 6,T 7,T 8,T 10,T 11,T 12,T 13,T 14,T 16,T 18,T 19,T 20,T 21,T 22,T 23,T 24,T 25,T 26,T 27,T 28,T 29,T 31,T 32,T 33,T 34,T 35,T 36,T 37,T 38,T 39,T 40,T 41,T 42,T 43,T 44,T 45,T 47,T 49,T 51,T 53,T 54,T 55,T 56,T 57,T 58,T 59,T 60,T 61,T 62]}}
noncomputable abbrev Xt:Shared->Bool:=λs=>xlAt qv lvv s&&recOk (RowW.records R) s
theorem size_l(w:World):((boot_heap w.params).isNs mainGlobals&&(A []:Array GenState).size==0,(boot_heap w.params).objs.size,(boot_heap w.params).nsMap mainGlobals "__annotations__")=(true,11,(sr 6)):=by kernel_rfl
theorem look1(w:World)(os:OsState):(staticsOk (importedModules p0.main.body) (boot_heap w.params) (H1 w.params)&&namesBound p0 (H1 w.params)&&gensDone ⟨H1 w.params,Array.mk [],(@Drawn.mk 0 0 0 0),1618,os⟩&&laidKept (boot_heap w.params) (H1 w.params))=true:=by kernel_rfl
theorem look2(w:World)(os:OsState):openSeen qv lo (importedModules p0.main.body) Xt true ⟨H1 w.params,Array.mk [],(@Drawn.mk 0 0 0 0),1618,os⟩=openGood qv lo:=by kernel_rfl
theorem look3(w:World)(os:OsState):Hook.obs HK ⟨H1 w.params,Array.mk [],(@Drawn.mk 0 0 0 0),1618,os⟩=Hook.val HK w:=by kernel_rfl
theorem left:LeftO p0 qv lo Xt (Hook.obs HK) (Hook.val HK) 17534:=LeftO.of_pieces (boot_open (by kernel_rfl) (by kernel_rfl) (λs=>by kernel_rfl)) size_l run_l (by decide) λw=>funext λos=>looks_pair (look1 w os) (looks_pair (look2 w os) (look3 w os))
end
end Q
end
namespace L2
open PySem PySem.Spec PyProof.Rows
section
variable {X:Cx}
theorem j8:d0 X (.builtin "isinstance") (λxs H Q=>∃x t n b,xs=[x,.ty n]/\TyOf X.K H x t/\PySem.W.kitOne X.K t (.type n)=some b/\Q (.bl b) H):=by
 intro d s σ H xs l Q I r h
 obtain ⟨x,t,n,b,rfl,ty,e,q⟩:=h
 obtain ⟨u,f,rfl,g,i⟩:=uh r
 cases (show f=Value.type n from i)
 exact tU I g ty e λj=>⟨.bl b,H,I.tok _,ϱ,q⟩
theorem lX:MtR X "str.startswith" (λx vs H Q=>∃z y i,x=.str z/\vs=[.str y,.int i]/\Q (.bl (Txt.startswith3 z y i)) H):=by
 intro b s σ H x j v l Q I d r h
 obtain ⟨z,y,i,rfl,rfl,q⟩:=h
 obtain ⟨t,rfl⟩:=d
 obtain ⟨u,e,rfl,⟨f,rfl⟩,⟨g,rfl⟩⟩:=uh r
 exact SC.startswith3 ⟨.bl _,H,I,ϱ,q⟩
theorem mz:MtR X "str.startswith" (λx vs H Q=>∃z y,x=.str z/\vs=[.str y]/\Q (.bl (Txt.startswith z y)) H):=by
 intro b s σ H x f v g Q I d r h
 obtain ⟨z,y,rfl,rfl,q⟩:=h
 obtain ⟨t,rfl⟩:=d
 obtain ⟨u,rfl,⟨e,rfl⟩⟩:=d9 r
 exact SC.startswith ⟨.bl _,H,I,ϱ,q⟩
theorem qV:MtR X "str.isdigit" (λx vs H Q=>∃z,x=.str z/\vs=[]/\Q (.bl (Txt.isdigit z)) H):=by
 intro b s σ H x e v f Q I d r h
 obtain ⟨z,rfl,rfl,q⟩:=h
 obtain ⟨t,rfl⟩:=d
 cases r
 exact SC.isdigit ⟨.bl _,H,I,ϱ,q⟩
theorem cA:d0 X (.type "int") (λxs H Q=>∃z n,xs=[.str z]/\PySem.intText? z=some n/\z.length<=640/\Q (.int n) H):=by
 intro b s σ H xs f Q I r h
 obtain ⟨z,n,rfl,e,d,q⟩:=h
 obtain ⟨u,rfl,⟨t,rfl⟩⟩:=d9 r
 exact PySem.W.KIN.call_text e d ⟨.int n,H,I.tok _,⟨_,ϱ⟩,q⟩
theorem uP:SlR X (λx lo hi H Q=>∃z,x=.str z/\z.length<=sizeLine/\Q (.str (Txt.slice z lo hi)) H):=by
 intro f s σ H x v m o lo hi sl Q I g d i j h
 obtain ⟨z,rfl,b,q⟩:=h
 obtain ⟨t,rfl⟩:=g
 refine ⟨"str",_,F.slot_str_getitem.lookup,typeIs_str _ _ _,?_⟩
 cases i<;>cases j
 ·exact wpAny_getItem_str_slice (l:=none) (u:=none) (st:=none) d rfl (post_val_or_str ⟨Λ (Txt.slice_le z _ _) b,λe k=>⟨.str _,H,I.tok _,⟨_,ϱ⟩,q⟩⟩)
 ·exact wpAny_getItem_str_slice (l:=none) (u:=some (_,_)) (st:=none) d rfl (post_val_or_str ⟨Λ (Txt.slice_le z _ _) b,λe k=>⟨.str _,H,I.tok _,⟨_,ϱ⟩,q⟩⟩)
 ·exact wpAny_getItem_str_slice (l:=some (_,_)) (u:=none) (st:=none) d rfl (post_val_or_str ⟨Λ (Txt.slice_le z _ _) b,λe k=>⟨.str _,H,I.tok _,⟨_,ϱ⟩,q⟩⟩)
 ·exact wpAny_getItem_str_slice (l:=some (_,_)) (u:=some (_,_)) (st:=none) d rfl (post_val_or_str ⟨Λ (Txt.slice_le z _ _) b,λe k=>⟨.str _,H,I.tok _,⟨_,ϱ⟩,q⟩⟩)
theorem j9(U:X.calm=true):d0 X (.builtin "all") (λxs H Q=>∃(p:Addr) (bs:List Bool),xs=[.ref p]/\SqL X.K H p (bs.map V.bl)/\Q (.bl (bs.all id)) H):=by
 intro w s σ H xs us Q I r h
 obtain ⟨p,bs,rfl,x,q⟩:=h
 obtain ⟨u,rfl,y⟩:=d9 r
 cases (show u=Value.ref p from y)
 obtain ⟨b,m,z,W⟩:=I.list x
 have j:=z.isList
 have l:p<s.heap.objs.size:=by obtain ⟨_,e,_⟩:=j;exact η e
 have D:X.A.handled=none:=I.ok.hd U
 have d:bs.length=b.length:=by have:=m.length;rw [ν] at this;exact this
 refine call_all_walk (wpAny_pyIter_list j ?_)
 refine ⟨s.heap.objs.size,[s.heap.objs.size,p],[s.heap.objs.size],b.toArray.size,_,_,λi=>(bs[i]?).getD true,ϱ,Walks.list (A:=X.A.in1) D _ p (Φ l) b.toArray,
  ⟨⟨_,ψ _ rfl,ϱ,ϱ⟩,j.push _⟩,λi v G J E' L O=>?_,λh' tk P=>?_⟩
 ·have f:b[i]?=some v:=by simpa using L
  have Z:i<b.length:=(List.getElem?_eq_some_iff.mp f).1
  have F:(bs.map V.bl)[i]?=some (V.bl (bs[i]'(ω))):=by rw [List.getElem?_map,ξ ω];rfl
  obtain ⟨Y,o,C⟩:=m.get F
  rw [f] at o
  cases o
  cases (show v=Value.bool _ from C)
  have g:J ((bs[i]?).getD true) G:=O
  rw [ξ ω] at g
  exact wpAny_truthy_bool g
 ·have e:((List.range b.toArray.size).all λi=>(bs[i]?).getD true)=bs.all id:=by
   rw [List.size_toArray,← d];exact LSm.range_all bs
  rw [e]
  exact ⟨.bl _,H,I.kept (LSm.kept_iter P),ϱ,q⟩
end
def dm(env:Env):List (Str×NameKind)->List (Str×Addr)->List (Str×Addr)
 | [],cs=>cs
 | (n,k)::r,cs=>dm env r (if k==.free then match env.cells.lookup n with | some a=>(n,a)::cs | none=>cs else cs)
theorem kH{scope:Scope}{env:Env}(h:∀y∈scope.names,y.2=.free->∃c,env.cells.lookup y.1=some c):closureFor scope env=pure (dm env scope.names []):=by
 have b:∀(l:List (Str×NameKind)) (cs:List (Str×Addr)),(∀y∈l,y.2=.free->∃c,env.cells.lookup y.1=some c) ->
   (forIn l cs (λ(x:Str×NameKind) (r:List (Str×Addr))=>(if (x.2==NameKind.free)=true then (do let a ← cellOf env x.1;pure (ForInStep.yield ((x.1,a)::r))) else pure (ForInStep.yield r):Sem (ForInStep (List (Str×Addr))))))=(pure (dm env l cs):Sem _):=by
  intro l
  induction l with
  | nil=>intro cs _;rfl
  | cons y r ih =>
   intro cs i
   obtain ⟨n,k⟩:=y
   have g:∀z∈r,z.2=.free->∃c,env.cells.lookup z.1=some c:=λz j=>i z (Θ _ j)
   rw [List.forIn_cons]
   by_cases hk:(k==NameKind.free)=true
   ·obtain ⟨c,f⟩:=i (n,k) List.mem_cons_self (by simpa using hk)
    have e:cellOf env n=pure c:=by unfold cellOf;rw [f]
    simp only [hk,if_true,e,pure_bind,dm,f]
    exact ih _ g
   ·have d:(k==NameKind.free)=false:=by simpa using hk
    simp only [d,Bool.false_eq_true,if_false,pure_bind,dm]
    exact ih _ g
 have e:closureFor scope env=(forIn scope.names ([]:List (Str×Addr)) (λ(x:Str×NameKind) (r:List (Str×Addr))=>(if (x.2==NameKind.free)=true then (do let a ← cellOf env x.1;pure (ForInStep.yield ((x.1,a)::r))) else pure (ForInStep.yield r):Sem (ForInStep (List (Str×Addr))))) >>= λcs=>pure cs):=by
  unfold closureFor
  rfl
 rw [e,b scope.names [] h]
 all_goals rfl
theorem jN{env:Env}:∀(l:List (Str×NameKind)) (cs:List (Str×Addr)),(∀p∈cs,env.cells.lookup p.1=some p.2)->∀p∈dm env l cs,env.cells.lookup p.1=some p.2
 | [],cs,h,p,hp=>h p hp
 | (n,k)::r,cs,h,p,hp=>by
  unfold dm at hp
  refine jN r _ ?_ p hp
  split
  ·split
   ·rename_i a ea
    intro q hq
    rcases ϕ.mp hq with e | hq
    ·rw [e];exact ea
    ·exact h q hq
   ·exact h
  ·exact h
theorem jY{env:Env}:∀(l:List (Str×NameKind)) (cs:List (Str×Addr)) {y:Str},(∃p∈cs,p.1=y)->∃p∈dm env l cs,p.1=y
 | [],cs,y,h=>h
 | (n,k)::r,cs,y,⟨p,hp,e⟩=>by
  unfold dm
  refine jY r _ ?_
  split
  ·split
   ·exact ⟨p,Θ _ hp,e⟩
   ·exact ⟨p,hp,e⟩
  ·exact ⟨p,hp,e⟩
theorem nJ{env:Env}:∀(l:List (Str×NameKind)) (cs:List (Str×Addr)) {y:Str} {c:Addr},(y,NameKind.free)∈l->env.cells.lookup y=some c->∃p∈dm env l cs,p.1=y
 | (n,k)::r,cs,y,c,hm,hc=>by
  unfold dm
  rcases ϕ.mp hm with e | hm
  ·cases e
   refine jY r _ ?_
   rw [if_pos (by rfl),hc]
   exact ⟨_,Ω,ϱ⟩
  ·exact nJ r _ hm hc
theorem iy{α:Type}:∀{l:List (Str×α)} {p:Str×α},p∈l->∃c,l.lookup p.1=some c
 | q::l,p,h=>by
  obtain ⟨n,a⟩:=q
  rw [List.lookup_cons]
  split
  ·exact ⟨_,ϱ⟩
  ·rename_i hne
   rcases ϕ.mp h with e | h
   ·subst e;simp at hne
   ·exact iy h
theorem jg{env:Env}{l:List (Str×NameKind)}{y:Str}{c:Addr}(g:(y,NameKind.free)∈l)(d:env.cells.lookup y=some c):(dm env l []).lookup y=some c:=by
 obtain ⟨p,f,e⟩:=nJ l [] g d
 obtain ⟨h,b⟩:=iy f
 rw [e] at b
 have q:=jN l [] (λ_ z=>nomatch z) _ (PySem.mem_of_lookup b)
 rw [d] at q
 rw [b]
 exact q.symm
theorem cU{env:Env}{l:List (Str×NameKind)}{y:Str}{c:Addr}(h:(dm env l []).lookup y=some c):env.cells.lookup y=some c :=
 jN l [] (λ_ z=>nomatch z) _ (PySem.mem_of_lookup h)
theorem fQ{env:Env}:∀{names:List (Str×NameKind)} {x:Str} {k:NameKind},(names.map λ(n,k)=>if (k==NameKind.free&&env.scope.kind==.function&&env.kindOf n==some .cell) then (n,NameKind.cell) else (n,k)).lookup x=some k ->
  ∃k',names.lookup x=some k'/\(k'=k\/k'=.free)
 | [],_,_,h=>by simp at h
 | (n,k0)::r,x,k,h=>by
  have ih:=@fQ env r x k
  have h:List.lookup x ((if (k0==NameKind.free&&env.scope.kind==.function&&env.kindOf n==some .cell)=true then (n,NameKind.cell) else (n,k0))::_)=some k:=h
  cases hx:x==n with
  | true =>
   refine ⟨k0,by simp only [List.lookup_cons,hx],?_⟩
   by_cases hc:(k0==NameKind.free&&env.scope.kind==.function&&env.kindOf n==some .cell)=true
   ·refine .inr ?_
    simp only [Bool.and_eq_true] at hc
    exact beq_iff_eq.mp hc.1.1
   ·rw [if_neg hc] at h
    simp only [List.lookup_cons,hx] at h
    exact .inl (Δ h)
  | false =>
   have h2:List.lookup x (r.map λ(n,k)=>if (k==NameKind.free&&env.scope.kind==.function&&env.kindOf n==some .cell) then (n,NameKind.cell) else (n,k))=some k:=by
    by_cases hc:(k0==NameKind.free&&env.scope.kind==.function&&env.kindOf n==some .cell)=true
    ·rw [if_pos hc] at h;simp only [List.lookup_cons,hx] at h;exact h
    ·rw [if_neg hc] at h;simp only [List.lookup_cons,hx] at h;exact h
   obtain ⟨k',b,d⟩:=ih h2
   exact ⟨k',by simp only [List.lookup_cons,hx];exact b,d⟩
theorem gq{env:Env}:∀{names:List (Str×NameKind)} {x:Str},names.lookup x=some .free ->
  (names.map λ(n,k)=>if (k==NameKind.free&&env.scope.kind==.function&&env.kindOf n==some .cell) then (n,NameKind.cell) else (n,k)).lookup x=some .cell \/
  (names.map λ(n,k)=>if (k==NameKind.free&&env.scope.kind==.function&&env.kindOf n==some .cell) then (n,NameKind.cell) else (n,k)).lookup x=some .free
 | [],_,h=>by simp at h
 | (n,k0)::r,x,h=>by
  have ih:=@gq env r x
  show List.lookup x ((if (k0==NameKind.free&&env.scope.kind==.function&&env.kindOf n==some .cell)=true then (n,NameKind.cell) else (n,k0))::_)=some .cell\/List.lookup x ((if (k0==NameKind.free&&env.scope.kind==.function&&env.kindOf n==some .cell)=true then (n,NameKind.cell) else (n,k0))::_)=some .free
  cases hx:x==n with
  | true =>
   simp only [List.lookup_cons,hx] at h
   by_cases hc:(k0==NameKind.free&&env.scope.kind==.function&&env.kindOf n==some .cell)=true
   ·rw [if_pos hc];simp only [List.lookup_cons,hx];simp
   ·rw [if_neg hc];simp only [List.lookup_cons,hx];exact .inr (by rw [Option.some.inj h])
  | false =>
   simp only [List.lookup_cons,hx] at h
   by_cases hc:(k0==NameKind.free&&env.scope.kind==.function&&env.kindOf n==some .cell)=true
   ·rw [if_pos hc];simp only [List.lookup_cons,hx];exact ih h
   ·rw [if_neg hc];simp only [List.lookup_cons,hx];exact ih h
def Its(z:Str):It:=⟨λi _=>i<z.length,λi H x H'=>H'=H/\∃c,z.cps.toList[i]?=some c/\x=.str ⟨#[c]⟩,λi _=>z.length<=i⟩
structure StrIt(P:Program)(w:World)(it:Addr)(ty:String)(z:Str)(t:Tok):Prop where
 W:∀A':Around,A'.handled=none->Walks P w A' it [it] [it] z.cps.size (SignAt z) (λi h=>h.IsStrIter it ty z t i)
 en:∀(A:Around) (i:Nat) (s:Shared) (Q:Option Value->Shared->Prop) (E:Value->Shared->Prop),A.handled=none->s.heap.IsStrIter it ty z t i->z.cps[i]?=none ->
  (∀h',Heap.ExtBut it s.heap h'->Q none {s with heap:=h'})->wpAny (model P w) A (pyNext (.ref it)) Q E s
 me:∀(A:Around) (i:Nat) (s:Shared) (Q:Value->Shared->Prop) (E:Value->Shared->Prop),s.heap.IsStrIter it ty z t i->Q (.ref it) s->wpAny (model P w) A (pyIter (.ref it)) Q E s
 ne:["enumerate","zip","dict_itemiterator","dict_reverseitemiterator","odict_iterator","itertools.zip_longest","itertools.pairwise"].contains ty=false
theorem StrIt.ascii{P:Program}{w:World}(it:Addr)(z:Str)(t:Tok):StrIt P w it "str_ascii_iterator" z t :=
 ⟨λ_ hA=>Walks.strAscii hA it z t,λ_ _ _ _ _ hA st hx hQ=>wpAny_pyNext_ascii_end hA st hx hQ,λ_ _ _ _ _ st h=>wpAny_pyIter_striter_ascii st h,ζ⟩
theorem StrIt.wide{P:Program}{w:World}(it:Addr)(z:Str)(t:Tok):StrIt P w it "str_iterator" z t :=
 ⟨λ_ hA=>Walks.strWide hA it z t,λ_ _ _ _ _ hA st hx hQ=>wpAny_pyNext_wide_end hA st hx hQ,λ_ _ _ _ _ st h=>wpAny_pyIter_striter_wide st h,ζ⟩
theorem uq{P:Program}{w:World}{K:Frag}{tg:Expr}{z:Str}{t:Tok}{it:Addr}{U:String}(S:StrIt P w it U z t) :
  rE P w K tg (Its z) [it] it (λi h=>h.IsStrIter it U z t i) where
 mem:=by simp
 obj:=λi h st b hb=>by
  have e:b=it:=by simpa using hb
  subst e
  obtain ⟨o,e,c,d⟩:=st
  exact ⟨o,e,λv q=>by rw [d] at q;cases q⟩
 keep:=λi h h' st k=>by
  obtain ⟨o,e,r⟩:=st
  exact ⟨o,k it (by simp) o e,r⟩
 item:=by
  intro X D F G J i f s σ H E I hf st L
  subst D F G
  obtain ⟨j,l,Y,m,x,y⟩:=hf it (by simp)
  refine (S.W X.A (I.ok.hd J)).item i s _ _ L st λv h' O hv g kk=>?_
  obtain ⟨c,u,C,rfl⟩:=hv
  have I1:Inv X f σ H {s with heap:=h',toks:=O}:=I.turned (λb o hb e=>kk b o (by simpa using hb) e) j l m x y
  obtain ⟨o,e,Z,d1⟩:=id g
  exact ⟨_,ϱ,ny (s:={s with heap:=h',toks:=O}) e Z d1 S.ne ⟨.str ⟨#[c]⟩,H,I1,⟨u,ϱ⟩,⟨ϱ,c,by rw [Array.getElem?_toList];exact C,ϱ⟩,g,λb hb=>(hf b hb).1⟩⟩
 done:=by
  intro X D F G J i f s σ H E I hf st L
  subst D F G
  obtain ⟨j,l,Y,m,x,y⟩:=hf it (by simp)
  refine S.en X.A i s _ _ (I.ok.hd J) st ?_ λh' eb=>⟨ϱ,I.turned (t':=s.toks) (λb o hb e=>eb b o hb e) j l m x y⟩
  exact Array.getElem?_eq_none L
 self:=λA i s Q E st h=>S.me A i s Q E st h
def Cp(tl:TE):TI:=fun σ H R=>tl σ H λx H1=>∃z,x=.str z/\R (Its z) H1
theorem zX{X:Cx}{m l:Expr}{r:TE}(D:PE X l r):PI X m l (Cp r):=by
 intro f s σ H R I h
 refine thn (D f s σ H _ I h) λv d ⟨x,H1,i,u,q1⟩=>?_
 obtain ⟨z,rfl,q⟩:=q1
 obtain ⟨t,rfl⟩:=u
 have g:∀(o:Obj) (j:String),StrIt X.prog X.w d.heap.objs.size j z t->(d.heap.push o).IsStrIter d.heap.objs.size j z t 0->PIE X f σ m R (.ref d.heap.objs.size) {d with heap:=d.heap.push o}:=λo j S y=>by
  refine ⟨d.heap.objs.size,[d.heap.objs.size],_,Its z,H1,ϱ,i.kept (t':=d.toks) λb o e=>ρ _ e,uq S,y,λb C=>?_,q⟩
  have e:b=d.heap.objs.size:=by simpa using C
  subst e
  exact i.fpOk (ι _) (i.hok.fresh (ι _))
 cases ha:z.cps.all (·<128)
 ·exact wpAny_pyIter_wide ha (g _ _ (.wide _ z t) ⟨_,ψ _ rfl,ϱ,ϱ⟩)
 ·exact wpAny_pyIter_ascii ha (g _ _ (.ascii _ z t) ⟨_,ψ _ rfl,ϱ,ϱ⟩)
def Cx.blk(X:Cx)(N':List Str)(scope:Scope)(C:Addr)(fp:List Addr)(s:Shared)(H:Hp):Cx :=
 {X with N:=N',s₀:=s,H₀:=H,env:=compEnvC scope (dm X.env scope.names []) C X.env,outer:=X.stack,ex:=fp,fn:=λ_=>false,pn:=[],xe:=λ_ _=>False}
structure a9(N:List Str)(sc scope:Scope)(x:Str)(N':List Str)(fv:List Nat):Prop where
 nocell:∀y∈scope.names,y.2≠.cell
 kind:scope.kind=.function
 names:∀y∈scope.names,y.2=.local->scope.names.lookup y.1=some .local
 loc:scope.names.lookup x=some .local
 free:∀y∈scope.names,y.2=.free->sc.names.lookup y.1=some .cell\/sc.names.lookup y.1=some .free
 nd:N'.Nodup
 hd:N'[0]?=some x
 len:N'.length=fv.length+1
 at_:∀j,j<fv.length->(N'[j+1]?).isSome=true/\N'[j+1]?=(fv[j]?).bind (λi=>N[i]?)/\(N'[j+1]?).bind (λy=>scope.names.lookup y)=some .free
def bV(fv:List Nat)(σ:St):St:=fv.map λk=>(σ[k]?).join
abbrev nY(ifs:List Expr)(env:Env):Sem Bool:=forIn ifs true λc r=>if r=true then do let ok ← isTrue c env (eval c env);pure (ForInStep.yield ok) else pure (ForInStep.yield r)
def PTs(X:Cx)(ifs:List Expr)(t:TT):Prop :=
 ∀(pins:List (Addr×Obj)) (s:Shared) (σ:St) (H:Hp) (Q:Bool->Hp->Prop),Inv X pins σ H s->t σ H Q->wpAny (model X.prog X.w) X.A (nY ifs X.env) (TP X pins σ Q) X.xe s
def Bv:TT:=λ_ H Q=>Q true H
theorem cX{X:Cx}:PTs X [] Bv:=λpins s σ H Q I h=>π ⟨H,I,h⟩
theorem fT{X:Cx}{c:Expr}{t:TT}(f:PT X c t):PTs X [c] t:=by
 intro d s σ H Q I h
 have e:nY [c] X.env=(isTrue c X.env (eval c X.env) >>= λok=>pure ok):=by
  unfold nY
  rw [List.forIn_cons]
  simp
 rw [e]
 exact ε (thn (f d s σ H Q I h) λb g q=>π q)
def tLC(wi:TI)(fv:List Nat)(tt:TT)(te:TE):TE:=fun σ H Q=>wi σ H λJ H1=>∃(W:Nat->List V->Hp->Prop) (n:Nat),W 0 [] H1/\n<=sizeLine/\∀i ys H,W i ys H ->
 (J.stop i H/\∀p,H p=none->Q (.ref p) (upd H p (.lst ys))) \/
 (J.go i H/\i<n/\∀x H',J.yld i H x H'->tt (some x::bV fv σ) H' λc H2=>if c=true then te (some x::bV fv σ) H2 λy H3=>W (i+1) (ys++[y]) H3 else W (i+1) ys H2)
section
variable {X:Cx}{N':List Str}{scope:Scope}{x:Str}{fv:List Nat}
theorem yE{h:List (Addr×Obj)}{σ:St}{H:Hp}{s:Shared}{W:List Addr}{C:Addr}{h1:Heap}{m:Str->Option Value}{tk:Nat}{pl:List (Addr×Obj)}(S:a9 X.N X.env.scope scope x N' fv)(I:Inv X h σ H s)
  (hf:∀b∈W,qo X h H b)(Y:∀b∈W,b<s.heap.objs.size)(Z:s.heap.objs.size<=C)(kp:∀b o,s.heap.get? b=some o->h1.get? b=some o)(hn:h1.Ns C m)
  (a0:∀p∈pl,h1.get? p.1=some p.2/\s.heap.objs.size<=p.1/\p.1≠C/\∀v,p.2.data≠.cell v) :
  Inv (X.blk N' scope C W s H) pl (none::bV fv σ) H {s with heap:=h1,toks:=tk}:=by
 have g:∀y c,(dm X.env scope.names []).lookup y=some c->X.env.cells.lookup y=some c:=λy c e=>cU e
 have cell:∀y c,(dm X.env scope.names []).lookup y=some c->∃v,s.heap.IsCell c v:=λy c e=>I.cell y c (g y c e)
 have lt:∀y c,(dm X.env scope.names []).lookup y=some c->c<s.heap.objs.size:=λy c e=>by obtain ⟨v,q⟩:=cell y c e;exact q.lt
 have kc:∀c v,s.heap.IsCell c v->h1.IsCell c v:=λc v q=>by obtain ⟨o,e,d⟩:=q;exact ⟨o,kp _ _ e,d⟩
 refine ⟨⟨I.ok.mod,S.kind,I.ok.glob,I.ok.blt,Z,λy z c l e2=>I.ok.inj y z c (g y c l) (g z c e2),λy hy=>?_,λy c e=>?_,I.ok.hd,I.ok.frames,.inl rfl,λb r=>⟨?_,λy c e z=>(hf b r).2.2.2.2.1 y c (g y c e) z⟩,λb o e=>I.bs b o e,Λ I.ok.bsz I.sz,λb o e r=>?_,λb r Q=>?_,I.stack,I.stkFree⟩,
  rfl,I.bare,Un.kept kp,⟨m,hn,λi y v U h2 h3=>?_⟩,λy c e=>?_,I.hok.fresh Z,λy c e=>I.freeC y c (g y c e),λp hp=>?_,I.hok.kept kp,?_⟩
 ·have O:∃k,scope.names.lookup y=some k/\k=.free:=by
   rcases hy with hy | hy
   ·obtain ⟨F,l,e2⟩:=fQ (env:=X.env) (names:=scope.names) (x:=y) (k:=.cell) hy
    rcases e2 with e2 | e2
    ·exact absurd e2 (S.nocell _ (PySem.mem_of_lookup l))
    ·exact ⟨F,l,e2⟩
   ·obtain ⟨F,l,e2⟩:=fQ (env:=X.env) (names:=scope.names) (x:=y) (k:=.free) hy
    rcases e2 with e2 | e2
    ·exact ⟨F,l,e2⟩
    ·exact ⟨F,l,e2⟩
  obtain ⟨k,e,rfl⟩:=O
  have w:=PySem.mem_of_lookup e
  obtain ⟨c,J⟩:=I.ok.has y (S.free _ w rfl)
  exact ⟨c,jg w J⟩
 ·exact (Bool.false_ne_true (show false=true from e)).elim
 ·exact Φ (Nat.lt_of_lt_of_le (Y b r) Z)
 ·have e':=e
  rcases (hf b r).2.2.2.1 with z | z
  ·exact I.ok.noex b o e z
  ·exact absurd (Nat.lt_of_lt_of_le (η e) (Λ I.ok.bsz z)) (Nat.lt_irrefl _)
 ·have q:=I.stkSub b Q
  rcases ϕ.mp q with z | z
  ·exact (hf b r).2.1 z
  ·exact (hf b r).2.2.1 z
 ·cases i with
  | zero =>
   have z:(none:Option V)=some v:=Δ h2
   cases z
  | succ j =>
   have f:(bV fv σ)[j]?=some (some v):=h2
   unfold bV at f
   rw [List.getElem?_map] at f
   cases ej:fv[j]? with
   | none=>rw [ej] at f;cases f
   | some k =>
    rw [ej] at f
    have G:(σ[k]?).join=some v:=Δ f
    have h5:σ[k]?=some (some v):=by
     cases es:σ[k]? with
     | none=>rw [es] at G;cases G
     | some w'=>rw [es] at G;rw [show w'=some v from G]
    have hj:j<fv.length:=(List.getElem?_eq_some_iff.mp ej).1
    obtain ⟨_,K,a2⟩:=S.at_ j hj
    have D:N'[j+1]?=some y:=U
    rw [D] at K a2
    rw [ej] at K
    have a3:X.N[k]?=some y:=K.symm
    have a4:scope.names.lookup y=some .free:=a2
    have w:=PySem.mem_of_lookup a4
    have kd:X.env.kindOf y=some .cell\/X.env.kindOf y=some .free:=S.free _ w rfl
    obtain ⟨mX,_,L⟩:=I.loc
    obtain ⟨u,ru,lk⟩:=L k y v a3 h5 (kd.elim (λz=>.inr (.inl z)) λz=>.inr (.inr z))
    refine ⟨u,ru,.inr ?_⟩
    rcases lk with ⟨z,_⟩ | ⟨_,c,J,hcell⟩
    ·rcases kd with z' | z'<;>rw [z'] at z<;>cases z
    ·exact ⟨gq (env:=X.env) a4,c,jg w J,kc _ _ hcell⟩
 ·obtain ⟨v,q⟩:=cell y c e
  exact ⟨v,kc _ _ q⟩
 ·have P:p∈pl:=hp
  obtain ⟨e,l1,l2,d⟩:=a0 p P
  exact ⟨e,I.hok.fresh l1,l2,λz=>absurd (I.stkSub _ z) (λq=>by
   rcases ϕ.mp q with q | q
   ·exact absurd I.lt (by rw [← q];exact Nat.not_lt.mpr l1)
   ·exact I.nofs l1 q),d⟩
 ·show (none::bV fv σ).length=N'.length
  rw [S.len]
  unfold bV
  simp
end
theorem nox{α:Type}{t:Sem α}{Q Q':α->Shared->Prop}{M:Model}{A:Around}{E:Value->Shared->Prop}{s:Shared}(h:wpAny M A t Q (λ_ _=>False) s)(hQ:∀a s,Q a s->Q' a s):wpAny M A t Q' E s:=wpAny_mono h hQ λ_ _ f=>f.elim
set_option maxHeartbeats 1600000 in
theorem c6{X:Cx}{aR O:Expr}{x:Str}{px:Pos}{aS:List Expr}{scope:Scope}{pos:Pos}{K:List Str}{fv:List Nat}{wi:TI}{tt:TT}{te:TE}
  (S:a9 X.N X.env.scope scope x K fv)(hc:X.calm=true)(hi:PI X (.Name x px) O wi)
  (ht:∀C fp s H,PTs (X.blk K scope C fp s H) aS tt)(he:∀C fp s H,PE (X.blk K scope C fp s H) aR te)
  (hs:∀x,foldedSetIterable O X.env x=pure x:=by intro _;rfl) :
  PE X (.ListComp aR [⟨.Name x px,O,aS,0⟩] scope pos) (tLC wi fv tt te):=by
 intro a4 s σ H Q I h
 rw [eval_ListComp]
 refine wpAny_comprehension_free (use:=none) rfl hs (kH λy hy hk=>I.ok.has y.1 (S.free y hy hk)) S.kind S.names
  (wpAny_mono (hi a4 s σ H _ I h) (λxv s1 h1=>wpAny_mono h1 (λe5 g h2=>?_) λ_ _ e=>e) λ_ _ e=>e)
 obtain ⟨it,fp,tn,J,F,rfl,Y,T,a5,f2,W,n,w0,hn,aZ⟩:=h2
 refine wpAny_newObj_type (wpAny_newFunctionEnv S.nocell (by intro y hy;simp at hy) (λh1 ak ar=>?_) S.kind)
 dsimp only at ak ar ⊢
 generalize hH:g.heap.push {cls:=.type "list",dict:=none,data:=.seq ([]:List Value).toArray}=G at ak ar ⊢
 have hG:G.objs.size=g.heap.objs.size+1:=by rw [← hH,Heap.size_push]
 have cf:∀b o,g.heap.get? b=some o->G.get? b=some o:=λb o e=>hH▸ρ _ e
 have b0:∀b o,b<G.objs.size->G.get? b=some o->h1.get? b=some o:=λb o lt e=>ar.extBut b o (Φ lt) (ρ _ e)
 have kp:∀b o,g.heap.get? b=some o->h1.get? b=some o:=λb o e=>b0 b o (by rw [hG];exact Nat.lt_succ_of_lt (η e)) (cf b o e)
 have hD:h1.PlainList g.heap.objs.size #[]:=⟨_,b0 _ _ (by rw [hG];exact Nat.lt_succ_self _) (hH▸ψ _ rfl)⟩
 have a6:g.heap.objs.size≠G.objs.size:=by rw [hG];exact Φ (Nat.lt_succ_self _)
 have hC:g.heap.objs.size<=G.objs.size:=by rw [hG];exact Nat.le_succ _
 have a7:∀b∈fp,b<g.heap.objs.size:=λb m=>by obtain ⟨o,e,_⟩:=T.obj 0 _ a5 b m;exact η e
 have U:∀{D:Hp} {pl:List (Addr×Obj)},(∀b∈fp,D b=none)->(∀p∈pl,p.1∉fp)->∀b∈fp,qo (X.blk K scope G.objs.size fp g F) pl D b:=λ{D pl} hn hpl b m=>by
  obtain ⟨_,g1,g2,g3,g4,g5⟩:=f2 b m
  refine ⟨hn b m,Φ (Nat.lt_of_lt_of_le (a7 b m) hC),λz=>?_,.inl m,λy c e=>g4 y c (cU e),λp P e=>?_⟩
  ·rcases ϕ.mp (Y.stkSub b z) with q | q
   ·exact g1 q
   ·exact g2 q
  ·exact hpl p P (e▸m)
 have bb:g.heap.objs.size∉fp:=λz=>absurd (a7 _ z) (Nat.lt_irrefl _)
 have bd:(X.blk K scope G.objs.size fp g F).env.scope.names.lookup x=some .local:=lookup_relabel_local S.loc
 have cp:∀y c,(X.blk K scope G.objs.size fp g F).env.cells.lookup y=some c->c≠g.heap.objs.size:=λy c e z=>by
  obtain ⟨v,q⟩:=Y.cell y c (cU e)
  exact absurd q.lt (by rw [z];exact Nat.lt_irrefl _)
 have bg:∀{s':Shared} {D:Hp} {ob:Obj} {i:Nat} {ys:List V},Inv (X.blk K scope G.objs.size fp g F) [] (none::bV fv σ) D s'->s'.heap.get? g.heap.objs.size=some ob->(∀v,ob.data≠.cell v)->D g.heap.objs.size=none ->
   Inv (X.blk K scope G.objs.size fp g F) [(g.heap.objs.size,ob)] (none::bV fv σ) D s':=λ{s' D ob i ys} J1 e d f=>J1.pins_of λp P=>by
  have z:p=(g.heap.objs.size,ob):=by simpa using P
  subst z
  refine ⟨e,f,a6,λz=>?_,d⟩
  rcases ϕ.mp (Y.stkSub _ z) with q | q
  ·exact absurd Y.lt (by rw [← q];exact Nat.lt_irrefl _)
  ·exact Y.nofs (ι _) q
 have a3:∀s3:Shared,s3={g with heap:=h1,toks:=g.toks+([]:List (Str×Value)).length} ->
   codeAny (model X.prog X.w) X.A (.compLoop (.ListComp aR [⟨.Name x px,O,aS,0⟩] scope pos) 0 (.ref it) (.ref g.heap.objs.size) (X.blk K scope G.objs.size fp g F).env)
    (compPost (model X.prog X.w) X.A X.xe none (EP X a4 σ Q) (.ref g.heap.objs.size) G.objs.size) s3:=by
  rintro s3 rfl
  refine codeAny_compLoop_tests (λk s'=>∃i ys D l,k=n+1-i/\i<=n/\ys.length<=i/\Vals ys l/\s'.heap.PlainList g.heap.objs.size l.toArray /\
   Inv (X.blk K scope G.objs.size fp g F) [] (none::bV fv σ) D s'/\D g.heap.objs.size=none/\tn i s'.heap/\(∀b∈fp,D b=none)/\W i ys D) ?_ (n+1)
   ⟨0,[],F,[],ϱ,ϖ _,ι _,.nil,hD,yE S Y f2 a7 hC kp ak (λp P=>nomatch P),Y.hok.fresh (ι _),T.keep _ _ _ a5 λb _ o e=>kp b o e,λb m=>(f2 b m).1,w0⟩
  rintro k s4 ⟨i,ys,H4,l,rfl,bG,a0,rv,dp,I4,a1,bI,bN,w4⟩
  obtain ⟨L,eD⟩:=id dp
  have bi:=bg (i:=i) (ys:=ys) I4 eD (λv z=>by cases z) a1
  have np:∀p∈[(g.heap.objs.size,({cls:=.type "list",data:=.seq l.toArray L}:Obj))],p.1∉fp:=λp P=>by
   have z:p=(g.heap.objs.size,({cls:=.type "list",data:=.seq l.toArray L}:Obj)):=by simpa using P
   subst z;exact bb
  rcases aZ i ys H4 w4 with ⟨stop,fin⟩ | ⟨go,hi2,step⟩
  ·refine wpAny_mono (T.done (X.blk K scope G.objs.size fp g F) rfl rfl rfl hc i _ s4 _ H4 _ bi (U bN np) bI stop) (λr s5 ⟨hr,I5⟩=>?_) λ_ _ e=>e
   subst hr
   obtain ⟨m5,c8,_⟩:=I5.loc
   have cu:s5.heap.get? g.heap.objs.size=some {cls:=.type "list",data:=.seq l.toArray L}:=(I5.pin _ (Ψ _ Ω)).1
   refine ⟨m5,c8,λh' sb=>⟨.ref g.heap.objs.size,upd H4 g.heap.objs.size (.lst ys),?_,ϱ,fin _ a1⟩⟩
   have a8:∀{b:Addr} {o:Obj},g.heap.get? b=some o->b≠G.objs.size:=λ{b o} e=>Φ (Nat.lt_of_lt_of_le (η e) hC)
   have ab:F g.heap.objs.size=none:=Y.hok.fresh (ι _)
   have cv:∀{b:Addr} {o:Obj},g.heap.get? b=some o->b≠g.heap.objs.size:=λ{b o} e=>Φ (η e)
   have B:=I5.base
   refine Y.call' (s':={s5 with heap:=h'}) (ch:=fp) I5.os ⟨λb o e nb m hx=>?_,λb o e nb m hx=>?_,λb o e nb hx=>?_,λb o e hx=>?_,λb xs e=>?_,λb o u e=>?_,λb ps e=>?_⟩ ?_ I5.bare λb m=>?_
   ·exact sb.extBut b o (a8 e) (B.keep b o e nb m hx)
   ·obtain ⟨sl,q⟩:=B.slot b o e nb m hx
    exact ⟨sl,sb.extBut b _ (a8 e) q⟩
   ·rw [ao (cv e)];exact B.free b o e nb hx
   ·obtain ⟨o',q⟩:=B.there b o e hx
    exact ⟨o',sb.extBut b o' (a8 e) q⟩
   ·have e':F b=some (.tup xs):=e
    rw [ao (aq e' ab)];exact B.tups b xs e
   ·have e':F b=some (.frz o u):=e
    rw [ao (aq e' ab)];exact B.frzs b o u e
   ·have e':F b=some (.tbl ps):=e
    rw [ao (aq e' ab)];exact B.tbls b ps e
   ·intro b u e
    by_cases m:b=g.heap.objs.size
    ·subst m
     rw [ae] at e
     cases e
     exact ⟨Λ a0 (Λ bG hn),l,L,rv,sb.extBut _ _ a6 cu⟩
    ·rw [ao m] at e
     have fC:H4 G.objs.size=none:=I5.free
     refine (I5.hok b u e).stay (λc v d4 q=>sb.extBut c v ?_ q) (λc q=>by rw [ao (aq q a1)];exact q) λc xs q=>by rw [ao (aq q a1)];exact q
     rcases d4 with z | z
     ·subst z;exact aq e fC
     ·exact aq z fC
   ·obtain ⟨_,g1,g2,g3,g4,g5⟩:=f2 b m
    exact ⟨g3,g1,g4,g5⟩
  ·refine wpAny_mono (T.item (X.blk K scope G.objs.size fp g F) rfl rfl rfl hc i _ s4 _ H4 _ bi (U bN np) bI go) (λr s5 ⟨u,hr,h5⟩=>?_) λ_ _ e=>e
   subst hr
   show wpAny _ _ (letOwnedTupleGo (.Name x px) (.ref it) u >>= λ_=>assign (.Name x px) (X.blk K scope G.objs.size fp g F).env u) _ _ s5
   refine ε (wpAny_mono h5 (λ_ s6 ⟨xv,H6,I6,r6,y6,Z,da⟩=>?_) λ_ _ e=>e)
   have cx:=I6.pinned (U da np) (T.obj _ _ Z)
   have out:∀{σ':St} {D:Hp} {s':Shared},Inv (X.blk K scope G.objs.size fp g F) ([(g.heap.objs.size,({cls:=.type "list",data:=.seq l.toArray L}:Obj))]++lN fp s6.heap) σ' D s' ->
     s'.heap.PlainList g.heap.objs.size l.toArray/\D g.heap.objs.size=none/\(∀b∈fp,D b=none)/\(∀b∈fp,∀o,s6.heap.get? b=some o->s'.heap.get? b=some o):=λ{σ' D s'} J1=>by
    have q:=J1.pin (g.heap.objs.size,({cls:=.type "list",data:=.seq l.toArray L}:Obj)) (Ψ _ (List.mem_append_left _ Ω))
    refine ⟨⟨L,q.1⟩,q.2.1,λb m=>?_,λb m o e=>(J1.pin (b,o) (Ψ _ (Ψ _ (fX m e)))).1⟩
    obtain ⟨o,e,d⟩:=T.obj _ _ Z b m
    exact (J1.pin (b,o) (Ψ _ (Ψ _ (fX m e)))).2.1
   refine nox ((cB (X:=X.blk K scope G.objs.size fp g F) (i:=0) S.nd S.hd (.inl bd) (.inr bd)) _ s6 _ H6 xv u (fun σ' D=>σ'=some xv::bV fv σ/\D=H6) cx r6 ⟨ϱ,ϱ⟩) λ_ s7 ⟨σ7,H7,I7,e7,dc⟩=>?_
   subst e7 dc
   refine nox (ht _ _ _ _ _ s7 _ H7 _ I7 (step xv H7 y6)) λok s8 ⟨H8,I8,q8⟩=>?_
   cases ok with
   | false =>
    obtain ⟨o1,o2,o3,o4⟩:=out I8
    exact ⟨n+1-(i+1),ω,i+1,ys,H8,l,ϱ,hi2,υ a0,rv,o1,(I8.pins_of (pins':=[]) λp P=>nomatch P).weak (σ':=none::bV fv σ) rfl (λj v e=>by
     cases j with
     | zero=>cases (show (none:Option V)=some v from Δ e)
     | succ j=>exact e),o2,T.keep _ _ _ Z o4,o3,q8⟩
   | true =>
    refine nox (he _ _ _ _ _ s8 _ H8 _ I8 q8) λyv s9 ⟨y,H9,I9,r9,q9⟩=>?_
    obtain ⟨o1,o2,o3,o4⟩:=out I9
    have bm:=rv.length
    refine wpAny_list_append_plain (hsz:=by rw [List.size_toArray,← bm];exact Λ a0 (Λ bG hn)) o1 λh' dk bB=>?_
    have cz:Inv (X.blk K scope G.objs.size fp g F) [] (some xv::bV fv σ) H9 {s9 with heap:=h'} :=
     (I9.pins_of (pins':=[]) λp P=>nomatch P).turned (t':=s9.toks) (it:=g.heap.objs.size) (λb o m e=>bB.extBut b o m e) o2 a6 (.inr (ι _)) cp (λp P=>nomatch P)
    refine ⟨n+1-(i+1),ω,i+1,ys++[y],H9,l++[yv],ϱ,hi2,by rw [List.length_append];exact Nat.succ_le_succ a0,rv.append (.cons r9 .nil),?_,cz.weak (σ':=none::bV fv σ) rfl (λj v e=>by
     cases j with
     | zero=>cases (show (none:Option V)=some v from Δ e)
     | succ j=>exact e),o2,T.keep _ _ _ Z λb m o e=>bB.extBut b o (λz=>bb (z▸m)) (o4 b m o e),o3,q9⟩
    have e9:(l++[yv]).toArray=l.toArray.push yv:=by simp
    rw [e9]
    exact dk
 exact codeAny_compStart_list (a3 _ rfl) (T.self _ 0 _ _ _ (T.keep _ _ _ a5 λb _ o e=>kp b o e) (a3 _ rfl))
open Builtin Builtin.Str
theorem ng(c:Nat):∀ys:List Str,ys.length<=(Str.join ⟨#[c]⟩ ys).length+1
 | []=>ϖ _
 | [y]=>by simp
 | y::u::ys=>by
  have ih:=ng c (u::ys)
  rw [join_cons_cons]
  have e:(y++(⟨#[c]⟩:Str)++Str.join ⟨#[c]⟩ (u::ys)).length=y.length+1+(Str.join ⟨#[c]⟩ (u::ys)).length:=by
   show ((y.cps++#[c])++(Str.join ⟨#[c]⟩ (u::ys)).cps).size=_
   rw [Array.size_append,Array.size_append]
   rfl
  rw [e,List.length_cons]
  omega
theorem mI:∀(l:List (Str×Tok)),Vals ((l.map (·.1)).map V.str) (strValues l)
 | []=>.nil
 | p::l=>.cons ⟨p.2,rfl⟩ (mI l)
section
variable {X:Cx}
theorem mF(z:X.calm=true):d0 X (.builtin "sum") (λxs H Q=>∃(p:Addr) (b:List Int),xs=[.ref p]/\SqL X.K H p (b.map V.int)/\Q (.int b.sum) H):=by
 intro i s σ H xs G Q I r h
 obtain ⟨p,b,rfl,j,q⟩:=h
 obtain ⟨u,rfl,l⟩:=d9 r
 cases (show u=Value.ref p from l)
 obtain ⟨d,m,o,C⟩:=I.list j
 have g:IntsAre d b:=rh m
 obtain ⟨e,f⟩:=g.allInts.items
 have w:s.heap.IsList p (intItems e):=f▸o.isList
 refine sum_intListG (I.ok.hd z) w λD F x y=>⟨.int b.sum,H,I.kept y,⟨x,?_⟩,q⟩
 have en:b=e.toList.map (·.1):=(show numsOf d.toArray.toList=b from g.numsOf).symm.trans (by rw [f,nums_intItems])
 rw [preSum_eq,List.take_of_length_le (by simp),en]
theorem jI:MtR X "str.split" (λx vs H Q=>∃(z:Str) (c:Nat),x=.str z/\vs=[.str ⟨#[c]⟩]/\z.length<=1000000/\∀p,H p=none->Q (.ref p) (upd H p (.lst ((Txt.split z ⟨#[c]⟩).map V.str)))):=by
 intro i s σ H x J v K Q I C r h
 obtain ⟨z,c,rfl,rfl,D,q⟩:=h
 obtain ⟨t,rfl⟩:=C
 obtain ⟨u,rfl,⟨j,rfl⟩⟩:=d9 r
 have G:(1000002:Nat)<=sizeLine:=by decide
 have d:(Txt.split z ⟨#[c]⟩).length<=sizeLine:=by
  have:=ng c (Txt.split z ⟨#[c]⟩)
  rw [StrLaws.join_split] at this
  omega
 have f:∀(l:List (Str×Tok)) (k:Nat),l.map (·.1)=Txt.split z ⟨#[c]⟩->EP X i σ Q (.ref s.heap.objs.size) {s with toks:=k,heap:=s.heap.push {cls:=.type "list",data:=.seq (strValues l).toArray}}:=λl k y =>
  ⟨.ref s.heap.objs.size,_,I.laid (t':=k) (o:=.lst ((Txt.split z ⟨#[c]⟩).map V.str)) (λb o e=>ρ _ e) (ι _)
   (show ObjOk X.prog X.w _ _ _ (.lst ((Txt.split z ⟨#[c]⟩).map V.str)) from ⟨by rw [ν];exact d,strValues l,0,y▸mI l,ψ _ rfl⟩),ϱ,q _ (I.hok.fresh (ι _))⟩
 have m:((⟨#[c]⟩:Str).length==0)=false:=rfl
 cases h1:(decide (z.length<(⟨#[c]⟩:Str).length)||decide (strKind z<strKind ⟨#[c]⟩)) with
 | true =>
  have g:Txt.split z ⟨#[c]⟩=[z]:=by unfold Txt.split;rw [if_pos h1]
  exact call_meets F.slot_str_split (typeIs_str _ _ _) F.entry_str_split (F.args_str_split_2 _ _) (meets_str_split_cannot_occur z ⟨#[c]⟩ t j h1) (f [(z,t)] s.toks g.symm)
 | false =>
  cases hf:(occurrences z ⟨#[c]⟩ 0 z.length (z.length+1)).isEmpty with
  | true =>
   have g:Txt.split z ⟨#[c]⟩=[z]:=by unfold Txt.split;rw [if_neg (by rw [h1];decide),if_pos hf]
   exact call_meets F.slot_str_split (typeIs_str _ _ _) F.entry_str_split (F.args_str_split_2 _ _) (meets_str_split_not_found z ⟨#[c]⟩ t j h1 m hf) (f [(z,t)] s.toks g.symm)
  | false =>
   have g:Txt.split z ⟨#[c]⟩=partsBetween z (occurrences z ⟨#[c]⟩ 0 z.length (z.length+1)) (⟨#[c]⟩:Str).length:=by unfold Txt.split;rw [if_neg (by rw [h1];decide),if_neg (by rw [hf];decide)]
   refine call_meets F.slot_str_split (typeIs_str _ _ _) F.entry_str_split (F.args_str_split_2 _ _) (meets_str_split_sep z ⟨#[c]⟩ t j h1 m hf ω (by rw [← g];exact d)) ?_
   rw [strsFrom_eq]
   exact f _ _ ((numbered_texts _ _).trans g.symm)
end
end L2
namespace L2
open PySem PySem.Spec PyProof.Rows
def Cov(l:List Env)(h0:Heap)(H:Hp)(B h:Heap):Prop:=∀b o,h.get? b=some o->b∉frs l->(H b≠none\/∃o0,h0.get? b=some o0)->B.get? b=some o
def Fly(l:List Env)(h0:Heap)(H:Hp)(ea C:Addr)(h:Heap):Prop:=∃B a0,Heap.FlyingW B l ea (.ref C) a0 h/\Cov l h0 H B h
theorem ObjOk.there{P:Program}{w:World}{H:Hp}{h:Heap}{a:Addr}{o:HO}(x:ObjOk P w H h a o):∃ob,h.get? a=some ob:=by
 cases o with
 | lst xs=>obtain ⟨_,_,_,_,e⟩:=x;exact ⟨_,e⟩
 | tup xs=>obtain ⟨_,_,_,o,e,_⟩:=x;exact ⟨_,e⟩
 | dK kvs=>obtain ⟨_,_,_,_,o,_,_,e,_⟩:=x;exact ⟨_,e⟩
 | dT kvs=>obtain ⟨_,_,_,_,o,_,_,e,_⟩:=x;exact ⟨_,e⟩
 | set S n=>obtain ⟨o,_,_,_,e,_⟩:=x;exact ⟨_,e⟩
 | ins C dx fs=>obtain ⟨_,_,_,e,_⟩:=x;exact ⟨_,e⟩
 | own y=>obtain ⟨_,e⟩:=x;exact ⟨_,e⟩
 | xd fs=>obtain ⟨_,⟨_,_,_,e,_⟩,_⟩:=x;exact ⟨_,e⟩
 | rng lo hi=>obtain ⟨_,_,_,e⟩:=x;exact ⟨_,e⟩
 | frz ob u=>obtain ⟨e,_⟩:=x;exact ⟨_,e⟩
 | tbl ps=>exact ⟨_,(show h.get? a=some _ from x)⟩
 | met f y=>exact ⟨_,(show h.get? a=some _ from x)⟩
 | ext φ=>obtain ⟨_,⟨_,e⟩,_⟩:=x;exact ⟨_,e⟩
section
variable {l:List Env}{H:Hp}{B h h' hc:Heap}{P:Program}{w:World}
theorem Cov.stay(c:Cov l hc H B h)(st:B.StaysIn h'):∀b o,h.get? b=some o->b∉frs l->(H b≠none\/∃o0,hc.get? b=some o0)->h'.get? b=some o:=λb o e nb hb=>st b o (c b o e nb hb)
theorem HOk.moved(x:HOk P w H h)(c:Cov l hc H B h)(st:B.StaysIn h')(d:∀b∈frs l,H b=none):HOk P w H h':=λa o e=>by
 refine (x a o e).stay (λb u hb q=>?_) (λb q=>q) λb xs q=>q
 have tr:H b≠none:=by
  rcases hb with rfl | hb
  ·rw [e];intro z;cases z
  ·rw [hb];intro z;cases z
 exact c.stay st b u q (λz=>tr (d b z)) (.inl tr)
theorem Un.moved{fs:List Addr}{x:Hp}{h0:Heap}(u:Un fs [] x H h0 h)(c:Cov l hc H B h)(st:B.StaysIn h')(y:h.UpToSlots h')(C:h.FunFrames B l)(D:∀b o,h0.get? b=some o->∃o',hc.get? b=some o')
  (hf:∀b∈fs,b∈frs l)(F:∀b o,h0.get? b=some o->b∈frs l->b∈fs):Un fs [] x H h0 h':=by
 have kp:∀b i o,h0.get? b=some i->b∉fs->h.get? b=some o->h'.get? b=some o:=λb i o e0 j e=>c.stay st b o e (λz=>j (F b i e0 z)) (.inr (D b i e0))
 have sl:∀b o,b∈fs->h.get? b=some o->∃sl,h'.get? b=some {o with slots:=sl}:=λb o f e=>by
  obtain ⟨_,o',m,d⟩:=C.mem (show b∈l.filterMap (·.frame) from hf b f)
  rw [e] at m
  cases m
  exact y b o e d
 refine ⟨λb o e z j g=>kp b o o e j (u.keep b o e z j g),λb o e z f g=>?_,u.free,λb o e g=>?_,u.tups,u.frzs,u.tbls⟩
 ·obtain ⟨G,q⟩:=u.slot b o e z f g
  obtain ⟨r,q2⟩:=sl b _ f q
  exact ⟨r,q2⟩
 ·obtain ⟨w,q⟩:=u.there b o e g
  by_cases f:b∈fs
  ·obtain ⟨r,q2⟩:=sl b _ f q
   exact ⟨_,q2⟩
  ·exact ⟨w,kp b o w e f q⟩
end
section
variable {X:Cx}{E:XK}{pins:List (Addr×Obj)}{σ:St}{H H':Hp}{s s':Shared}
theorem qe(D:X.stack=X.env::X.outer)(b:X.env.frame=some X.env.locals):frs X.stack=X.env.locals::frs X.outer:=by
 rw [D]
 show List.filterMap _ (X.env::X.outer)=_
 rw [List.filterMap_cons,b]
 rfl
end
theorem z6{K:Frag}{h:Heap}{mg:Str->Option Value}{x:Str}{C:Addr}{u:List Value}{new:String}(b:K.In h)(G:mg x=some (.ref C))(q:PySem.W.excIn K C u new=true):OwnCls x C u new mg h:=by
 have m:∀o,K.lookup C=some o->∃tl N g i bs hdct j sub l d dd k0 k1 k2 k3 k5 mN,h.get? C=some (excClassObj g i C N bs tl hdct j sub l d dd k0 k1 k2 k3 k5 new)/\h.Ns N mN/\mN "__init__"=none/\OwnTail h u tl:=λo e=>by
  unfold PySem.W.excIn at q
  rw [e] at q
  obtain ⟨H,od,w,f⟩:=o
  split at q
  ·rename_i dd cd sl e0
   cases (Δ e0)
   obtain ⟨g,bs,y,z,i,D,j,sub,l,d,F⟩:=cd
   split at q
   ·rename_i C2 tl k0 k1 k2 k3 n2 k5 em es
    dsimp only at em q
    simp only [Bool.and_eq_true,beq_iff_eq,Bool.not_eq_true'] at q
    obtain ⟨⟨⟨⟨⟨q1,q2⟩,q3⟩,q4⟩,q5⟩,q6⟩:=q
    subst q1 q2 q3 em
    have r:f=#[k0,k1,k2,k3,some (.builtin n2),k5]:=Array.toList_inj.mp es
    subst r
    exact ⟨tl,z,g,i,bs,D,j,sub,l,d,od,k0,k1,k2,k3,k5,_,b _ _ e,.of_isNs (PySem.W.isNs_of_in b q5),PySem.W.nsMap_none_of_in b q5 q6,PySem.W.tail_of_in b q4⟩
   ·cases q
  ·cases q
 refine ⟨G,?_⟩
 cases e:K.lookup C with
 | none=>unfold PySem.W.excIn at q;rw [e] at q;cases q
 | some o=>exact m o e
def A6(ea C:Addr):HO:=.ext λh=>∃o,h.get? ea=some o/\o.cls=.ref C
abbrev Cx.hnd(X:Cx)(ev:Value):Cx:={X with A:=X.A.mark (some ev),calm:=false,xe:=λ_ _=>False}
section
variable {X:Cx}{pins:List (Addr×Obj)}{σ:St}{H H1:Hp}{s s1:Shared}{ev:Value}
theorem Cx.Ok.hnd(ok:X.Ok)(ev:Value):(X.hnd ev).Ok :=
 ⟨ok.mod,ok.kind,ok.glob,ok.blt,ok.above,ok.inj,ok.has,ok.cab,λh=>(by cases h),ok.frames,ok.stk,ok.exf,ok.bs,ok.bsz,ok.noex,ok.exfs,ok.funs,ok.frf⟩
theorem Inv.hnd(I:Inv X pins σ H s)(ev:Value):Inv (X.hnd ev) pins σ H s:=⟨I.ok.hnd ev,I.os,I.bare,I.base,I.loc,I.cell,I.free,I.freeC,I.pin,I.hok,I.len⟩
theorem Inv.unhnd(ok:X.Ok)(I:Inv (X.hnd ev) pins σ H s):Inv X pins σ H s:=⟨ok,I.os,I.bare,I.base,I.loc,I.cell,I.free,I.freeC,I.pin,I.hok,I.len⟩
theorem SP.unhnd{D:Ends}{f:Flow}{s':Shared}(ok:X.Ok)(h:SP (X.hnd ev) pins D f s'):SP X pins D f s':=by
 cases f with
 | next=>obtain ⟨b,d,e,q⟩:=h;exact ⟨b,d,e.unhnd ok,q⟩
 | brk=>obtain ⟨b,d,e,q⟩:=h;exact ⟨b,d,e.unhnd ok,q⟩
 | cont=>obtain ⟨b,d,e,q⟩:=h;exact ⟨b,d,e.unhnd ok,q⟩
 | ret v=>obtain ⟨x,b,d,e,r,q⟩:=h;exact ⟨x,b,d,e.unhnd ok,r,q⟩
theorem UpToSlots.isCell{h h':Heap}{c:Addr}{v:Option Value}(f:h.UpToSlots h')(x:h.IsCell c v):h'.IsCell c v:=by
 obtain ⟨o,e,d⟩:=x
 obtain ⟨sl,b⟩:=f c o e λvs q=>by rw [d] at q;cases q
 exact ⟨_,b,d⟩
theorem Inv.moved{B y:Heap}(J:Inv X pins σ H1 s1)(I:Inv X pins σ H s)(C:X.stack=X.env::X.outer)(U:X.env.frame=some X.env.locals)(g:X.ex=[])(c:Cov X.stack s1.heap H B s.heap)(st:B.StaysIn y)(j:s.heap.UpToSlots y)
  (W:s.heap.FunFrames B X.stack):Inv X pins σ H {s with heap:=y}:=by
 have l:=qe C U
 have P:Un X.fs [] X.H₀ H X.s₀.heap s.heap:=by have:=I.base;rw [g] at this;exact this
 have sub:∀b o,X.s₀.heap.get? b=some o->∃o',s1.heap.get? b=some o':=λb o e=>J.base.there b o e (by rw [g];simp)
 have Q:∀b o,X.s₀.heap.get? b=some o->b≠X.env.locals:=λb o e z=>absurd (η e) (by rw [z];exact Nat.not_lt.mpr I.ok.above)
 refine ⟨I.ok,I.os,I.bare,?_,?_,λx w e=>?_,I.free,I.freeC,λp G=>?_,I.hok.moved c st I.stkFree,I.len⟩
 ·rw [g]
  refine P.moved c st j W sub (λb h=>by rw [l];exact Θ _ h) λb o e h=>?_
  rw [l] at h
  rcases ϕ.mp h with z | z
  ·exact absurd z (Q b o e)
  ·exact z
 ·obtain ⟨m,K,L⟩:=I.loc
  refine ⟨m,j.ns K,λi x v a b w=>?_⟩
  obtain ⟨u,r,O⟩:=L i x v a b w
  refine ⟨u,r,?_⟩
  rcases O with z | ⟨z,cl,e,ic⟩
  ·exact .inl z
  ·exact .inr ⟨z,cl,e,UpToSlots.isCell j ic⟩
 ·obtain ⟨v,q⟩:=I.cell x w e
  exact ⟨v,UpToSlots.isCell j q⟩
 ·obtain ⟨e,f,D,F,d⟩:=I.pin p G
  refine ⟨c.stay st p.1 p.2 e (λz=>?_) (.inr ⟨_,(J.pin p G).1⟩),f,D,F,d⟩
  rw [l] at z
  rcases ϕ.mp z with z | z
  ·exact D z
  ·exact F z
theorem Inv.exc{d C:Addr}{i:Obj}(I:Inv X pins σ H s)(h:H d=none)(m:s.heap.get? d=some i)(F:i.cls=.ref C)(h0:X.s₀.heap.get? d=none)(G:d≠X.env.locals)(j:∀y c,X.env.cells.lookup y=some c->c≠d)
  (J:∀p∈X.pn++pins,p.1≠d):Inv X pins σ (upd H d (A6 d C)) s:=by
 refine ⟨I.ok,I.os,I.bare,⟨I.base.keep,I.base.slot,λb o e z w=>?_,I.base.there,λb l e=>?_,λb o u e=>?_,λb x e=>?_⟩,I.loc,I.cell,?_,λy c e=>?_,λp g=>?_,λb u e=>?_,I.len⟩
 ·rw [ao (λD=>by rw [D,h0] at e;cases e)];exact I.base.free b o e z w
 ·have q:=I.base.tups b l e
  rw [ao (aq q h)];exact q
 ·have q:=I.base.frzs b o u e
  rw [ao (aq q h)];exact q
 ·obtain ⟨more,q⟩:=I.base.tbls b x e
  exact ⟨more,by rw [ao (aq q h)];exact q⟩
 ·rw [ao G.symm];exact I.free
 ·rw [ao (j y c e)];exact I.freeC y c e
 ·obtain ⟨e,f,r⟩:=I.pin p g
  exact ⟨e,by rw [ao (J p g)];exact f,r⟩
 ·by_cases hb:b=d
  ·subst hb
   rw [ae] at e
   cases e
   exact ⟨⟨i,m,F⟩,⟨i,m⟩,λh1 K ⟨o,e,c⟩ k=>⟨o,k o e,c⟩⟩
  ·rw [ao hb] at e
   exact (I.hok b u e).stay (λc v _ q=>q) (λc q=>by rw [ao (aq q h)];exact q) λc l q=>by rw [ao (aq q h)];exact q
def wT(X:Cx)(C CB:Addr):Prop:=∀(A:Around) (s:Shared) (ea:Addr) (ob:Obj) (Q:Bool->Shared->Prop) (E:Value->Shared->Prop),X.K.In s.heap->s.heap.get? ea=some ob->ob.cls=.ref C->Q true s->wpAny (model X.prog X.w) A (excMatches (.ref ea) (.ref CB)) Q E s
theorem qr{x:Str}{C:Addr}{e:List Value}{new:String}(o:X.mg x=some (.ref C))(r:PySem.W.excIn X.K C e new=true)(u:e.contains (.type "BaseException")=true):wT X C C:=by
 intro A s Y Z Q E k l m q
 obtain ⟨w,N,y,z,bs,b,D,sub,F,f,dd,G,H,I,J,L,O,i,P,j,T⟩:=(z6 k o r).obj
 obtain ⟨h,g,d,t,U⟩:=s
 exact wpAny_excMatches_sub_self i l m (T.hasType u) q
theorem BU{b C CB:Addr}{Y:Str}{np U:Pos}{b₀:Stmt}{g:List Stmt}{rest:List ExceptHandler}{D:Ends}{th:TS}{E:Value->Shared->Prop}(W:Inv X pins σ H1 s1)(I:Inv X pins σ H s)(d:X.stack=X.env::X.outer)(Z:X.env.frame=some X.env.locals)(x:X.ex=[])
  (a7:Fly X.stack s1.heap H b C s.heap)(hg:Gl X Y)(hm:X.mg Y=some (.ref CB))(tk:wT X C CB)(hs:∀ev,PSs (X.hnd ev) (b₀::g) th)(q:H b=none->th D σ (upd H b (A6 b C)))(hd:(Y==("__debug__":Str))=false) :
  wpAny (model X.prog X.w) X.A (noteFrame (.ref b) X.env) (λ_ s₂=>wpAny (model X.prog X.w) X.A (setFlight (.ref b) none) (λ_ s₃ =>
   wpAny (model X.prog X.w) X.A (handleBy (.ref b) X.env (.ExceptHandler (some (.Name Y np)) none (b₀::g) U::rest)) (SP X pins D) E s₃) E s₂) E s:=by
 obtain ⟨B,a0,fl,c⟩:=a7
 have a2:X.A.frames=some (X.env::X.outer):=by rw [I.ok.frames,d]
 have ff:=fl.2.2.1
 have a3:Heap.FlyingW B (X.env::X.outer) b (.ref C) a0 s.heap:=by rw [← d];exact fl
 refine wpAny_looks_onW a2 Z a3 λh₄ l P=>?_
 refine wpAny_landsW l λh₅ m Q=>?_
 have I5:=Inv.moved W I d Z x c m.1 (P.trans Q) ff
 obtain ⟨ob,a1,F⟩:=m.there
 refine wpAny_handleBy_cons (codeAny_handlers_test (jc (X:=X.hnd (.ref b)) (I5.hnd (.ref b)) hg hm ?_ hd)) (by intro z;cases z)
 refine tk _ _ b ob _ _ I5.kIn a1 F (codeAny_handlers_suite ?_)
 refine lands_againW (s:={s with heap:=h₅}) m λh₆ r a6=>?_
 have I6:=Inv.moved W I d Z x c r.1 ((P.trans Q).trans a6) ff
 obtain ⟨oe,ws,G,J,K,a8⟩:=r.first
 have i:b∉frs X.stack:=λz=>by
  have L:=r.2.2.1
  rw [← d] at L
  obtain ⟨_,o',h,d'⟩:=L.mem (show b∈X.stack.filterMap (·.frame) from z)
  rw [G] at h
  cases h
  exact d' ws K
 obtain ⟨o1,e1,_⟩:=fl.there
 have hB:=fl.2.1
 have O:H b=none:=by
  cases z:H b with
  | none=>rfl
  | some u =>
   have:=c b o1 e1 i (.inl (by rw [z];intro y;cases y))
   rw [hB] at this;cases this
 have j:s1.heap.get? b=none:=by
  cases z:s1.heap.get? b with
  | none=>rfl
  | some u =>
   have:=c b o1 e1 i (.inr ⟨u,z⟩)
   rw [hB] at this;cases this
 have a4:X.s₀.heap.get? b=none:=by
  cases z:X.s₀.heap.get? b with
  | none=>rfl
  | some u =>
   obtain ⟨o',h⟩:=W.base.there b u z (by rw [x];simp)
   rw [j] at h;cases h
 have a5:=I6.exc O G J a4 (λz=>i (by rw [qe d Z,z];exact Ω)) (λy cc e z=>by
  obtain ⟨v,o,h,_⟩:=W.cell y cc e
  rw [z,j] at h;cases h) λp hp z=>by
   have:=(W.pin p hp).1
   rw [z,j] at this;cases this
 exact wpAny_mono (hs (.ref b) pins _ σ _ D (a5.hnd _) (q O)) (λf s7 h7=>SP.unhnd I.ok h7) λ_ _ z=>z.elim
abbrev TX:=St->Hp->VK->XK->Prop
def XP(X:Cx)(pins:List (Addr×Obj))(σ:St)(E:XK)(ev:Value)(s':Shared):Prop:=∃s1 H1 ea C H',Inv X pins σ H1 s1/\ev=.ref ea/\Inv X pins σ H' s'/\Fly X.stack s1.heap H' ea C s'.heap/\E ev (some C) H'
def PEX(X:Cx)(e:Expr)(t:TX):Prop :=
 ∀(pins:List (Addr×Obj)) (s:Shared) (σ:St) (H:Hp) (Q:VK) (E:XK),Inv X pins σ H s->t σ H Q E->wpAny (model X.prog X.w) X.A (eval e X.env) (EP X pins σ Q) (XP X pins σ E) s
end
section
variable {X:Cx}{e:Expr}{t:TX}{C CB:Addr}{cx y:Str}{np hpos pos py apos:Pos}{b₀:Stmt}{suite:List Stmt}{th:TS}{j:Nat}
def xc(j:Nat)(C:Addr)(t:TX)(th:TS):TS:=λD σ H=>t σ H (λv H1=>D.nx (σ.set j (some v)) H1) λev c H1=>∃ea,ev=.ref ea/\c=some C/\(H1 ea=none->th D σ (upd H1 ea (A6 ea C)))
theorem sW(l:X.stack=X.env::X.outer)(O:X.env.frame=some X.env.locals)(m:X.ex=[])(P:X.N.Nodup)(U:X.N[j]?=some y)(W:Loc X.env.scope y)(Y:PEX X e t)(Z:Gl X cx)(hm:X.mg cx=some (.ref CB))(tk:wT X C CB)
  (hs:∀ev,PSs (X.hnd ev) (b₀::suite) th)(hd:(cx==("__debug__":Str))=false:=by decide)(o:swapsWith e (some (.Name y py)) apos.line X.env=pure false:=by rfl)
  (hf:X.fn y=true\/X.env.scope.names.lookup y=some .local:=by first | exact .inl rfl | exact .inr rfl | assumption) :
  PS X (.Try [.Assign [.Name y py] e apos] [.ExceptHandler (some (.Name cx np)) none (b₀::suite) hpos] [] [] pos) (xc j C t th):=by
 intro b s σ H D I h
 refine wpAny_Try_except (wpAny_execs_cons (wpAny_mono (wpAny_Assign_Name (Q:=λf g=>f=.next/\SP X b D .next g) (wpAny_mono (Y b s σ H _ _ I h) (λv g ⟨y1,H1,G,J,q1⟩=>?_) λev g K=>?_) o) (λf g i=>?_) λ_ _ z=>z))
 ·exact lg G P U W J (λs2 L=>⟨ϱ,_,H1,L,q1⟩) hf
 ·obtain ⟨s0,H0,ea,r,H',u,rfl,w,fl,x,F,d,q⟩:=K
  cases F
  obtain rfl:r=C:=Δ d
  exact BU u w l O m fl Z hm tk hs q hd
 ·obtain ⟨rfl,i⟩:=i
  exact wpAny_execs_nil (wpAny_execs_nil i)
end
open PySem.Builtin PySem.Builtin.ObjectAttr PySem.Builtin.Getset_descriptor
end L2
namespace L2
open PySem PySem.Spec PyProof.Rows
theorem PE.ex{X:Cx}{α:Type}{e:Expr}{t:α->TE}(h:∀a,PE X e (t a)):PE X e (fun σ H Q=>∃a,t a σ H Q):=by
 intro b s σ H Q I q
 obtain ⟨a,q⟩:=q
 exact h a b s σ H Q I q
section
variable {P:Program}{w:World}{K:Frag}{H:Hp}{h:Heap}{a b:Addr}{xs ys:List V}
theorem rM(b:HOk P w H h)(d:K.In h)(q:SqL K H a xs):∃its:List Value,Vals xs its/\PlainL h a its.toArray/\xs.length<=sizeLine:=by
 rcases q with q | ⟨o,its,n,hk,hc,hd,hs,hz,r⟩
 ·obtain ⟨z,its,n,r,e⟩:=q.ok b
  exact ⟨its,r,⟨_,n,e,ϱ,ϱ,ϱ⟩,z⟩
 ·refine ⟨its.toList,r,⟨o,n,d a o hk,hc,hd,by simpa using hs⟩,?_⟩
  have e:=r.length
  simp only [Array.length_toList] at e
  omega
theorem kL(b:HOk P w H h)(d:K.In h)(q:SqT K H a xs):∃its:List Value,Vals xs its/\IsTup h a its.toArray/\xs.length<=sizeLine:=by
 rcases q with q | ⟨o,its,n,hk,hc,hs,hz,r⟩
 ·obtain ⟨z,its,r,p⟩:=q.ok b
  exact ⟨its,r,p,z⟩
 ·refine ⟨its.toList,r,⟨o,d a o hk,hc,n,by simpa using hs⟩,?_⟩
  have e:=r.length
  simp only [Array.length_toList] at e
  omega
theorem rL(f:HOk P w H h)(g:K.In h)(q:SqT K H a xs)(u:SqT K H a ys):xs=ys:=by
 obtain ⟨i,r,⟨o,e,_,n,d⟩,_⟩:=kL f g q
 obtain ⟨b,m,⟨x,j,_,y,l⟩,_⟩:=kL f g u
 rw [e] at j;cases j
 rw [d] at l
 injection l with d1 _
 have:i=b:=by simpa using congrArg Array.toList d1
 subst this
 exact r.inj m
def SqU(K:Frag)(H:Hp)(a:Addr)(xs:List V):Prop :=
 H a=some (.tup xs)\/∃(o:Obj) (its:Array Value) (n:Nat),K.lookup a=some o/\o.cls=.type "tuple"/\o.data=.seq its n/\its.size<=sizeLine/\Vals xs its.toList
theorem SqU.sq(q:SqU K H a xs):SqT K H a xs:=q.elim (λz=>.inl (.inl z)) .inr
def TSame(H H':Hp):Prop:=∀b xs,H b=some (.tup xs)->H' b=some (.tup xs)
theorem Same.ts{H H':Hp}(e:Same H H'):TSame H H':=λb xs h=>e b _ h
theorem TSame.trans{H H1 H2:Hp}(a:TSame H H1)(b:TSame H1 H2):TSame H H2:=λc xs h=>b c xs (a c xs h)
theorem SqU.keep{H':Hp}(e:TSame H H')(q:SqU K H a xs):SqU K H' a xs:=q.elim (λz=>.inl (e _ _ z)) .inr
end
def EqIs(K:Frag)(n:Nat)(H:Hp)(x y:V)(b:Bool):Prop :=
 ∀(P:Program) (w:World) (A:Around) (s:Shared) (u v:Value),A.units+n<cLine->HOk P w H s.heap->K.In s.heap->RelV x u->RelV y v->SeqAt.EqAt A s u v b
def qm(K:Frag)(n:Nat)(H:Hp)(x y:V)(b:Bool):Prop :=
 ∀(P:Program) (w:World) (A:Around) (s:Shared) (u v:Value),A.units+n<cLine->HOk P w H s.heap->K.In s.heap->RelV x u->RelV y v->SeqAt.RcAt A s u v b
def ud(K:Frag)(n:Nat)(H:Hp)(x y:V)(b:Bool):Prop :=
 ∀(P:Program) (w:World) (A:Around) (s:Shared) (u v:Value),A.units+n<cLine->HOk P w H s.heap->K.In s.heap->RelV x u->RelV y v->SeqAt.RcNeAt A s u v (!b)
section
variable {K:Frag}{H:Hp}{a b:Addr}{n m:Nat}{x y:V}{r:Bool}
theorem EqIs.mono(h:EqIs K n H x y r)(le:n<=m):EqIs K m H x y r:=λP w A s u v hA=>h P w A s u v ω
theorem ut{us vs:List V}{e:Nat->Bool}(ha:SqT K H a us)(hb:SqT K H b vs)(hl:us.length=vs.length)(he:∀(j:Nat) x y,us[j]?=some x->vs[j]?=some y->EqIs K n H x y (e j)) :
  qm K (n+1) H (.ref a) (.ref b) ((List.range us.length).all e)/\ud K (n+1) H (.ref a) (.ref b) ((List.range us.length).all e):=by
 have f:∀(P:Program) (w:World) (A:Around) (s:Shared) (u v:Value),A.units+(n+1)<cLine->HOk P w H s.heap->K.In s.heap->RelV (.ref a) u->RelV (.ref b) v ->
   SeqAt.RcAt A s u v ((List.range us.length).all e)/\SeqAt.RcNeAt A s u v (!(List.range us.length).all e):=by
  intro P w A s u v hA i l r1 r2
  cases r1
  cases r2
  obtain ⟨g,F,G,_⟩:=kL i l ha
  obtain ⟨h,I,J,_⟩:=kL i l hb
  have l1:=F.length
  have Z:=I.length
  have d:∀j (h1:j<g.toArray.size) (m:j<h.toArray.size),SeqAt.EqAt A.in1 s g.toArray[j] h.toArray[j] (e j):=λj h1 m=>by
   have o:j<g.length:=by simpa using h1
   have r:j<h.length:=by simpa using m
   have Q:us[j]?=some us[j]:=ξ ω
   have U:vs[j]?=some vs[j]:=ξ ω
   obtain ⟨u,L,X⟩:=F.get Q
   obtain ⟨v,O,Y⟩:=I.get U
   have q:=he j _ _ Q U P w A.in1 s u v (by show A.units+1+n<cLine;omega) i l X Y
   have z1:g.toArray[j]=u:=by
    rw [ξ o] at L
    simpa using Option.some.inj L
   have z2:h.toArray[j]=v:=by
    rw [ξ r] at O
    simpa using Option.some.inj O
   rw [z1,z2]
   exact q
  have W:((List.range (min g.toArray.size h.toArray.size)).all e&&g.toArray.size==h.toArray.size)=(List.range us.length).all e:=by
   have s1:g.toArray.size=us.length:=by simp [l1]
   have s2:h.toArray.size=us.length:=by simp [← Z,hl]
   rw [s1,s2,Nat.min_self]
   simp
  constructor
  ·have q:=SeqAt.RcAt.tuples (A:=A) (s:=s) (e:=e) G J ω d
   rw [W] at q
   exact q
  ·have q:=SeqAt.RcNeAt.tuples (A:=A) (s:=s) (e:=e) G J ω d
   rw [W] at q
   exact q
 exact ⟨λP w A s u v h1 m z C D=>(f P w A s u v h1 m z C D).1,λP w A s u v h1 m z C D=>(f P w A s u v h1 m z C D).2⟩
theorem md(h:qm K n H (.ref a) (.ref b) r)(l:∀(P:Program) (w:World) (h:Heap),HOk P w H h->K.In h->a=b->r=true):EqIs K n H (.ref a) (.ref b) r:=by
 intro P w A s u v j d f g i
 have q:=h P w A s u v j d f g i
 cases g
 cases i
 by_cases e:a=b
 ·rw [l P w s.heap d f e,e]
  exact SeqAt.EqAt.same _
 ·exact SeqAt.EqAt.of_refs e q
end
structure Cod(α:Type) [DecidableEq α] where
 n:Nat
 rp:Frag->Hp->α->V->Prop
 inj:∀{P:Program} {w:World} {K:Frag} {H:Hp} {h:Heap} {x y:α} {v:V},HOk P w H h->K.In h->rp K H x v->rp K H y v->x=y
 eq:∀{K:Frag} {H:Hp} {x y:α} {u v:V},rp K H x u->rp K H y v->EqIs K n H u v (decide (x=y))
 rc:∀{K:Frag} {H:Hp} {x y:α} {u v:V},rp K H x u->rp K H y v->qm K n H u v (decide (x=y))
 ne:∀{K:Frag} {H:Hp} {x y:α} {u v:V},rp K H x u->rp K H y v->ud K n H u v (decide (x=y))
 keep:∀{K:Frag} {H H':Hp} {x:α} {v:V},TSame H H'->rp K H x v->rp K H' x v
def cInt:Cod Int where
 n:=0
 rp _ _ i v:=v=.int i
 inj _ _ h1 h2:=by
  rw [h1] at h2
  exact V.int.inj h2
 eq h1 h2:=by
  intro P w A s u v _ _ _ r1 r2
  subst h1 h2
  obtain ⟨t,rfl⟩:=r1
  obtain ⟨t',rfl⟩:=r2
  rw [← Bool.beq_eq_decide_eq]
  exact SeqAt.EqAt.int_int _ t _ t'
 rc h1 h2:=by
  intro P w A s u v _ _ _ r1 r2
  subst h1 h2
  obtain ⟨t,rfl⟩:=r1
  obtain ⟨t',rfl⟩:=r2
  rw [← Bool.beq_eq_decide_eq]
  exact SeqAt.RcAt.int_int _ t _ t'
 ne h1 h2:=by
  intro P w A s u v _ _ _ r1 r2
  subst h1 h2
  obtain ⟨t,rfl⟩:=r1
  obtain ⟨t',rfl⟩:=r2
  rw [← Bool.beq_eq_decide_eq]
  exact SeqAt.RcNeAt.int_int _ t _ t'
 keep _ h:=h
theorem gH(x y:Str):decide (x=y)=(x==y):=by
 rw [Bool.eq_iff_iff]
 simp
def cStr:Cod Str where
 n:=0
 rp _ _ i v:=v=.str i
 inj _ _ h1 h2:=by
  rw [h1] at h2
  exact V.str.inj h2
 eq h1 h2:=by
  intro P w A s u v _ _ _ r1 r2
  subst h1 h2
  obtain ⟨t,rfl⟩:=r1
  obtain ⟨t',rfl⟩:=r2
  rw [gH]
  exact SeqAt.EqAt.str_str _ t _ t'
 rc h1 h2:=by
  intro P w A s u v _ _ _ r1 r2
  subst h1 h2
  obtain ⟨t,rfl⟩:=r1
  obtain ⟨t',rfl⟩:=r2
  rw [gH]
  exact SeqAt.RcAt.str_str _ t _ t'
 ne h1 h2:=by
  intro P w A s u v _ _ _ r1 r2
  subst h1 h2
  obtain ⟨t,rfl⟩:=r1
  obtain ⟨t',rfl⟩:=r2
  rw [gH]
  exact SeqAt.RcNeAt.str_str _ t _ t'
 keep _ h:=h
section
variable {α β γ:Type} [DecidableEq α] [DecidableEq β] [DecidableEq γ]
def Cw(f:β->α)(hf:∀x y,f x=f y->x=y)(c:Cod α):Cod β where
 n:=c.n
 rp K H x v:=c.rp K H (f x) v
 inj h1 h2 h3 h4:=hf _ _ (c.inj h1 h2 h3 h4)
 eq {K H x y u v} h1 h2:=by
  have e:decide (x=y)=decide (f x=f y):=decide_eq_decide.mpr ⟨λz=>by rw [z],λz=>hf _ _ z⟩
  rw [e]
  exact c.eq h1 h2
 rc {K H x y u v} h1 h2:=by
  have e:decide (x=y)=decide (f x=f y):=decide_eq_decide.mpr ⟨λz=>by rw [z],λz=>hf _ _ z⟩
  rw [e]
  exact c.rc h1 h2
 ne {K H x y u v} h1 h2:=by
  have e:decide (x=y)=decide (f x=f y):=decide_eq_decide.mpr ⟨λz=>by rw [z],λz=>hf _ _ z⟩
  rw [e]
  exact c.ne h1 h2
 keep h1 h2:=c.keep h1 h2
def rT2(c:Cod α)(d:Cod β)(K:Frag)(H:Hp)(x:α×β)(v:V):Prop:=∃a u w,v=.ref a/\SqU K H a [u,w]/\c.rp K H x.1 u/\d.rp K H x.2 w
theorem rV{c:Cod α}{d:Cod β}{P:Program}{w:World}{K:Frag}{H:Hp}{h:Heap}{x y:α×β}{v:V}(f:HOk P w H h)(g:K.In h)(h1:rT2 c d K H x v)(r:rT2 c d K H y v):x=y:=by
 obtain ⟨a,u,t,rfl,l,m,o⟩:=h1
 obtain ⟨b,C,D,e,q,i,j⟩:=r
 cases e
 have z:=rL f g l.sq q.sq
 cases z
 exact Prod.ext (c.inj f g m i) (d.inj f g o j)
theorem qP{c:Cod α}{d:Cod β}{K:Frag}{H:Hp}{x y:α×β}{u v:V}(h1:rT2 c d K H x u)(w:rT2 c d K H y v) :
  qm K (max c.n d.n+1) H u v (decide (x=y))/\ud K (max c.n d.n+1) H u v (decide (x=y)):=by
 obtain ⟨a,u,t,rfl,l,m,o⟩:=h1
 obtain ⟨b,z,C,rfl,r,h,i⟩:=w
 have T:=ut (n:=max c.n d.n) (e:=λj=>if j=0 then decide (x.1=y.1) else decide (x.2=y.2)) l.sq r.sq rfl (λj p q f g=>by
  match j,f,g with
  | 0,f,g=>cases f;cases g;exact (c.eq m h).mono (Nat.le_max_left _ _)
  | 1,f,g=>cases f;cases g;exact (d.eq o i).mono (Nat.le_max_right _ _))
 have e:((List.range ([u,t]:List V).length).all λj=>if j=0 then decide (x.1=y.1) else decide (x.2=y.2))=decide (x=y):=by
  show (decide (x.1=y.1)&&(decide (x.2=y.2)&&true))=decide (x=y)
  rw [Bool.and_true,← Bool.decide_and]
  exact decide_eq_decide.mpr (Prod.ext_iff (x:=x) (y:=y)).symm
 rw [e] at T
 exact T
def cT2(c:Cod α)(d:Cod β):Cod (α×β) where
 n:=max c.n d.n+1
 rp:=rT2 c d
 inj:=rV
 rc h1 h2:=(qP h1 h2).1
 ne h1 h2:=(qP h1 h2).2
 eq {K H x y u v} h1 h2:=by
  have r:=(qP h1 h2).1
  have i:=λP w h hok kin=>rV (c:=c) (d:=d) (P:=P) (w:=w) (K:=K) (H:=H) (h:=h) (x:=x) (y:=y) (v:=v) hok kin
  obtain ⟨a,_,_,rfl,_⟩:=id h1
  obtain ⟨b,_,_,rfl,_⟩:=id h2
  refine md r λP w h hok kin e=>?_
  subst e
  exact τ (i P w h hok kin h1 h2)
 keep e h:=let ⟨a,u,w,h1,h2,h3,h4⟩:=h;⟨a,u,w,h1,h2.keep e,c.keep e h3,d.keep e h4⟩
def rT3(c:Cod α)(d:Cod β)(f:Cod γ)(K:Frag)(H:Hp)(x:α×β×γ)(v:V):Prop:=∃a u w z,v=.ref a/\SqU K H a [u,w,z]/\c.rp K H x.1 u/\d.rp K H x.2.1 w/\f.rp K H x.2.2 z
theorem rT{c:Cod α}{d:Cod β}{f:Cod γ}{P:Program}{w:World}{K:Frag}{H:Hp}{h:Heap}{x y:α×β×γ}{v:V}(g:HOk P w H h)(i:K.In h)(h1:rT3 c d f K H x v)(G:rT3 c d f K H y v):x=y:=by
 obtain ⟨a,u,t,z,rfl,o,r,C,D⟩:=h1
 obtain ⟨b,I,J,L,e,F,j,l,m⟩:=G
 cases e
 have q:=rL g i o.sq F.sq
 cases q
 exact Prod.ext (c.inj g i r j) (Prod.ext (d.inj g i C l) (f.inj g i D m))
theorem qO{c:Cod α}{d:Cod β}{f:Cod γ}{K:Frag}{H:Hp}{x y:α×β×γ}{u v:V}(h1:rT3 c d f K H x u)(F:rT3 c d f K H y v) :
  qm K (max c.n (max d.n f.n)+1) H u v (decide (x=y))/\ud K (max c.n (max d.n f.n)+1) H u v (decide (x=y)):=by
 obtain ⟨a,u,t,z,rfl,o,r,w,C⟩:=h1
 obtain ⟨b,G,I,J,rfl,D,i,l,m⟩:=F
 have T:=ut (n:=max c.n (max d.n f.n)) (e:=λj=>if j=0 then decide (x.1=y.1) else if j=1 then decide (x.2.1=y.2.1) else decide (x.2.2=y.2.2)) o.sq D.sq rfl (λj p q g h=>by
  match j,g,h with
  | 0,g,h=>cases g;cases h;exact (c.eq r i).mono (Nat.le_max_left _ _)
  | 1,g,h=>cases g;cases h;exact (d.eq w l).mono (Λ (Nat.le_max_left _ _) (Nat.le_max_right _ _))
  | 2,g,h=>cases g;cases h;exact (f.eq C m).mono (Λ (Nat.le_max_right _ _) (Nat.le_max_right _ _)))
 have e:((List.range ([u,t,z]:List V).length).all λj=>if j=0 then decide (x.1=y.1) else if j=1 then decide (x.2.1=y.2.1) else decide (x.2.2=y.2.2))=decide (x=y):=by
  show (decide (x.1=y.1)&&(decide (x.2.1=y.2.1)&&(decide (x.2.2=y.2.2)&&true)))=decide (x=y)
  rw [Bool.and_true,← Bool.decide_and,← Bool.decide_and]
  refine decide_eq_decide.mpr ⟨λz=>Prod.ext z.1 (Prod.ext z.2.1 z.2.2),λz=>?_⟩
  rw [z]
  exact ⟨ϱ,ϱ,ϱ⟩
 rw [e] at T
 exact T
def cT3(c:Cod α)(d:Cod β)(f:Cod γ):Cod (α×β×γ) where
 n:=max c.n (max d.n f.n)+1
 rp:=rT3 c d f
 inj:=rT
 rc h1 h2:=(qO h1 h2).1
 ne h1 h2:=(qO h1 h2).2
 eq {K H x y u v} h1 h2:=by
  have r:=(qO h1 h2).1
  have i:=λP w h hok kin=>rT (c:=c) (d:=d) (f:=f) (P:=P) (w:=w) (K:=K) (H:=H) (h:=h) (x:=x) (y:=y) (v:=v) hok kin
  obtain ⟨a,_,_,_,rfl,_⟩:=id h1
  obtain ⟨b,_,_,_,rfl,_⟩:=id h2
  refine md r λP w h hok kin e=>?_
  subst e
  exact τ (i P w h hok kin h1 h2)
 keep e h:=let ⟨a,u,w,z,h1,h2,h3,h4,h5⟩:=h;⟨a,u,w,z,h1,h2.keep e,c.keep e h3,d.keep e h4,f.keep e h5⟩
end
section
variable {α:Type} [DecidableEq α] {K:Frag}{H:Hp}
theorem _root_.PySem.Paired.get{β γ:Type}{R:β->γ->Prop}:∀{xs:List β} {us:List γ},Paired R xs us->∀{j:Nat} {u:γ},us[j]?=some u->∃x,xs[j]?=some x/\R x u
 | _,_,.nil,j,u,e=>by simp at e
 | _,_,.cons r t,0,u,e=>by simp at e;subst e;exact ⟨_,rfl,r⟩
 | _,_,.cons r t,j+1,u,e=>PySem.Paired.get t (j:=j) (by simpa using e)
theorem _root_.PySem.Paired.get1{β γ:Type}{R:β->γ->Prop}:∀{xs:List β} {us:List γ},Paired R xs us->∀{j:Nat} {x:β},xs[j]?=some x->∃u,us[j]?=some u/\R x u
 | _,_,.nil,j,u,e=>by simp at e
 | _,_,.cons r t,0,u,e=>by simp at e;subst e;exact ⟨_,rfl,r⟩
 | _,_,.cons r t,j+1,u,e=>PySem.Paired.get1 t (j:=j) (by simpa using e)
theorem _root_.PySem.Paired.len{β γ:Type}{R:β->γ->Prop}:∀{xs:List β} {us:List γ},Paired R xs us->xs.length=us.length
 | _,_,.nil=>rfl
 | _,_,.cons r t=>by simp [PySem.Paired.len t]
theorem _root_.PySem.Paired.app{β γ:Type}{R:β->γ->Prop}:∀{xs ys:List β} {us vs:List γ},Paired R xs us->Paired R ys vs->Paired R (xs++ys) (us++vs)
 | _,_,_,_,.nil,s=>s
 | _,_,_,_,.cons r t,s=>.cons r (PySem.Paired.app t s)
theorem oN{xs ys:List α}{n:Nat}(h1:xs.length=n)(b:ys.length=n):((List.range n).all λj=>decide (xs[j]?=ys[j]?))=decide (xs=ys):=by
 rw [Bool.eq_iff_iff,List.all_eq_true,decide_eq_true_eq]
 constructor
 ·intro h
  apply List.ext_getElem?
  intro i
  by_cases hi:i<n
  ·exact Ξ (h i (List.mem_range.mpr hi))
  ·rw [List.getElem?_eq_none ω,List.getElem?_eq_none ω]
 ·intro h i _
  rw [h]
  exact τ rfl
theorem AA{c:Cod α}{a b:Addr}{us vs:List V}{xs ys:List α}(ha:SqL K H a us)(hb:SqL K H b vs)(Z:Paired (c.rp K H) xs us)(py:Paired (c.rp K H) ys vs) :
  qm K (c.n+1) H (.ref a) (.ref b) (decide (xs=ys))/\ud K (c.n+1) H (.ref a) (.ref b) (decide (xs=ys)):=by
 have f:∀(P:Program) (w:World) (A:Around) (s:Shared) (u v:Value),A.units+(c.n+1)<cLine->HOk P w H s.heap->K.In s.heap->RelV (.ref a) u->RelV (.ref b) v ->
   SeqAt.RcAt A s u v (decide (xs=ys))/\SeqAt.RcNeAt A s u v (!decide (xs=ys)):=by
  intro P w A s u v hA h i r1 r2
  cases r1
  cases r2
  obtain ⟨g,L,r,_⟩:=rM h i ha
  obtain ⟨l,O,C,_⟩:=rM h i hb
  have l1:=L.length
  have l2:=O.length
  have m1:=Z.len
  have m2:=py.len
  by_cases hl:g.length=l.length
  ·have d:∀j (h1:j<g.toArray.size) (m:j<l.toArray.size),SeqAt.EqAt A.in1 s g.toArray[j] l.toArray[j] (decide (xs[j]?=ys[j]?)):=λj h1 m=>by
    have D:j<g.length:=by simpa using h1
    have F:j<l.length:=by simpa using m
    have W:us[j]?=some us[j]:=ξ ω
    have X:vs[j]?=some vs[j]:=ξ ω
    obtain ⟨u,Q,ru⟩:=L.get W
    obtain ⟨v,U,rv⟩:=O.get X
    obtain ⟨x,ex,rx⟩:=Z.get W
    obtain ⟨y,ey,ry⟩:=py.get X
    have q:=c.eq rx ry P w A.in1 s u v (by show A.units+1+c.n<cLine;omega) h i ru rv
    have z1:g.toArray[j]=u:=by
     rw [ξ D] at Q
     simpa using Option.some.inj Q
    have z2:l.toArray[j]=v:=by
     rw [ξ F] at U
     simpa using Option.some.inj U
    rw [z1,z2,ex,ey]
    have e:decide ((some x:Option α)=some y)=decide (x=y):=decide_eq_decide.mpr ⟨λz=>Δ z,λz=>by rw [z]⟩
    rw [e]
    exact q
   have Y:(List.range g.toArray.size).all (λj=>decide (xs[j]?=ys[j]?))=decide (xs=ys):=oN (by rw [List.size_toArray];omega) (by rw [List.size_toArray];omega)
   constructor
   ·have q:=SeqAt.RcAt.lists (A:=A) (s:=s) r.isList C.isList (by simpa using hl) ω d
    rw [Y] at q
    exact q
   ·have q:=SeqAt.RcNeAt.lists (A:=A) (s:=s) r.isList C.isList (by simpa using hl) ω d
    rw [Y] at q
    exact q
  ·have o:(g.toArray.size != l.toArray.size)=true:=by simpa using hl
   have e:decide (xs=ys)=false:=Γ λz=>hl (by rw [← l1,← l2,← m1,← m2,z])
   rw [e]
   exact ⟨SeqAt.RcAt.lists_lengths r.isList C.isList o ω,SeqAt.RcNeAt.lists_lengths r.isList C.isList o ω⟩
 exact ⟨λP w A s u v h1 m G I J=>(f P w A s u v h1 m G I J).1,λP w A s u v h1 m G I J=>(f P w A s u v h1 m G I J).2⟩
end
section
variable {X:Cx}{α:Type} [DecidableEq α]
theorem hun{c:Nat}{k:Nat}{A:Around}(b:Room k A)(h:c<=60:=by decide):A.units+c+1<cLine:=by
 have:=b.units
 omega
theorem vq(c:Cod α)(j:X.A.units+c.n+1<cLine):OpR X (compareOp .Eq) (λx y H Q=>∃a b,c.rp X.K H a x/\c.rp X.K H b y/\Q (.bl (decide (a=b))) H):=by
 intro d s σ H x y v u Q I g i h
 obtain ⟨a,b,e,f,q⟩:=h
 exact c.rc e f X.prog X.w X.A s v u ω I.hok I.kIn g i X.prog X.w X.xe _ ⟨.bl _,H,I,ϱ,q⟩
theorem vm(c:Cod α)(j:X.A.units+c.n+1<cLine):OpR X (compareOp .NotEq) (λx y H Q=>∃a b,c.rp X.K H a x/\c.rp X.K H b y/\Q (.bl (!decide (a=b))) H):=by
 intro d s σ H x y v u Q I g i h
 obtain ⟨a,b,e,f,q⟩:=h
 exact c.ne e f X.prog X.w X.A s v u ω I.hok I.kIn g i X.prog X.w X.xe _ ⟨.bl _,H,I,ϱ,q⟩
def A5(c:Cod α)(K:Frag)(H:Hp)(xs:List α)(v:V):Prop:=∃a us,v=.ref a/\SqL K H a us/\Paired (c.rp K H) xs us
theorem oT(c:Cod α)(o:X.A.units+c.n+1<cLine):OpR X (compareOp .Eq) (λx y H Q=>∃xs ys,A5 c X.K H xs x/\A5 c X.K H ys y/\Q (.bl (decide (xs=ys))) H):=by
 intro d s σ H x y v u Q I j l h
 obtain ⟨xs,ys,⟨a,m,rfl,e,f⟩,⟨b,vs,rfl,g,i⟩,q⟩:=h
 exact (AA e g f i).1 X.prog X.w X.A s v u ω I.hok I.kIn j l X.prog X.w X.xe _ ⟨.bl _,H,I,ϱ,q⟩
noncomputable def eqR(c:Cod α)(K:Frag)(H:Hp)(a:α)(u:Value):Bool:=@decide (∃v,RelV v u/\c.rp K H a v) (Classical.propDecidable _)
theorem wz{c:Cod α}{P:Program}{w:World}{K:Frag}{H:Hp}{h:Heap}{a z:α}{v:V}{u:Value}(b:HOk P w H h)(d:K.In h)(r:RelV v u)(q:c.rp K H z v):eqR c K H a u=decide (z=a):=by
 unfold eqR
 by_cases e:z=a
 ·subst e
  rw [τ (show z=z from rfl)]
  exact @decide_eq_true _ (Classical.propDecidable _) ⟨v,r,q⟩
 ·rw [Γ e]
  refine @decide_eq_false _ (Classical.propDecidable _) λ⟨i,f,g⟩=>e ?_
  have:=r.inj f
  subst this
  exact c.inj b d q g
theorem pA{c:Cod α}{P:Program}{w:World}{K:Frag}{H:Hp}{h:Heap}{a:α}(hok:HOk P w H h)(kin:K.In h):∀{xs:List α} {us:List V} {its:List Value},Paired (c.rp K H) xs us->Vals us its->its.any (eqR c K H a)=decide (a∈xs)
 | _,_,_,.nil,.nil=>by simp
 | x::xs,_,_,.cons p t,.cons r s=>by
  rw [List.any_cons,wz hok kin r p,pA hok kin t s,Bool.eq_iff_iff]
  simp only [Bool.or_eq_true,decide_eq_true_eq,List.mem_cons]
  exact ⟨λz=>z.elim (λe=>.inl e.symm) .inr,λz=>z.elim (λe=>.inl e.symm) .inr⟩
theorem oV{c:Cod α}{P:Program}{w:World}{A:Around}{s:Shared}{K:Frag}{H:Hp}{a:α}{x:V}{v:Value}(hok:HOk P w H s.heap)(kin:K.In s.heap)(hA:A.units+c.n<cLine)(rx:RelV x v)(qx:c.rp K H a x) :
  ∀{xs:List α} {us:List V} {its:List Value},Paired (c.rp K H) xs us->Vals us its->∀u∈its,SeqAt.EqAt A s u v (eqR c K H a u)
 | _,_,_,.nil,.nil=>λu hu=>by cases hu
 | _,_,_,.cons p t,.cons r q=>λu' hu=>by
  rcases ϕ.mp hu with rfl | hu
  ·rw [wz hok kin r p]
   exact c.eq p qx P w A s _ v hA hok kin r rx
  ·exact oV hok kin hA rx qx t q u' hu
def Cj(c:Cod α)(K:Frag):R2:=λx y H Q=>∃a p us xs,c.rp K H a x/\y=.ref p/\(SqL K H p us\/SqT K H p us)/\Paired (c.rp K H) xs us/\Q (.bl (decide (a∈xs))) H
theorem vo(c:Cod α)(C:X.A.units+c.n+1<cLine):OpR X (compareOp .In) (Cj c X.K):=by
 intro i s σ H x y v u Q I j m h
 obtain ⟨a,p,o,z,g,rfl,hq,d,q⟩:=h
 cases m
 rcases hq with hq | hq
 ·obtain ⟨b,r,e,l⟩:=I.list hq
  refine SeqAt.in_listAt (eqR c X.K H a) e.isList (λw f=>oV I.hok I.kIn (by show X.A.units+1+c.n<cLine;omega) j g d r w (by simpa using f)) ⟨.bl _,H,I,ϱ,?_⟩
  rw [show b.toArray.any (eqR c X.K H a)=b.any (eqR c X.K H a) by simp,pA I.hok I.kIn d r]
  exact q
 ·obtain ⟨b,r,e,l⟩:=I.tuple hq
  refine SeqAt.in_tupleAt (eqR c X.K H a) e (λw f=>oV I.hok I.kIn (by show X.A.units+1+c.n<cLine;omega) j g d r w (by simpa using f)) ⟨.bl _,H,I,ϱ,?_⟩
  rw [show b.toArray.any (eqR c X.K H a)=b.any (eqR c X.K H a) by simp,pA I.hok I.kIn d r]
  exact q
end
section
variable {X:Cx}
theorem qk(hc:X.calm=true):d0 X (.builtin "any") (λxs H Q=>∃(p:Addr) (bs:List Bool),xs=[.ref p]/\SqL X.K H p (bs.map V.bl)/\Q (.bl (bs.any id)) H):=by
 intro D s σ H xs us Q I r h
 obtain ⟨p,bs,rfl,F,q⟩:=h
 obtain ⟨u,rfl,G⟩:=d9 r
 cases (show u=Value.ref p from G)
 obtain ⟨d,z,J,hz⟩:=I.list F
 have w:=J.isList
 have x:p<s.heap.objs.size:=by obtain ⟨_,e,_⟩:=w;exact η e
 have O:X.A.handled=none:=I.ok.hd hc
 have j:bs.length=d.length:=by have:=z.length;rw [ν] at this;exact this
 refine call_any_walk (wpAny_pyIter_list w ?_)
 refine ⟨s.heap.objs.size,[s.heap.objs.size,p],[s.heap.objs.size],d.toArray.size,_,_,λi=>(bs[i]?).getD false,ϱ,Walks.list (A:=X.A.in1) O _ p (Φ x) d.toArray,
  ⟨⟨_,ψ _ rfl,ϱ,ϱ⟩,w.push _⟩,λi v P U E' W Y=>?_,λh' tk Z=>?_⟩
 ·have l:d[i]?=some v:=by simpa using W
  have g:i<d.length:=(List.getElem?_eq_some_iff.mp l).1
  have f:(bs.map V.bl)[i]?=some (V.bl (bs[i]'(ω))):=by rw [List.getElem?_map,ξ ω];rfl
  obtain ⟨u',C,L⟩:=z.get f
  rw [l] at C
  cases C
  cases (show v=Value.bool _ from L)
  have m:U ((bs[i]?).getD false) P:=Y
  rw [ξ ω] at m
  exact wpAny_truthy_bool m
 ·have e:((List.range d.toArray.size).any λi=>(bs[i]?).getD false)=bs.any id:=by
   rw [List.size_toArray,← j,Bool.eq_iff_iff,List.any_eq_true,List.any_eq_true]
   constructor
   ·rintro ⟨i,g,f⟩
    have o:=List.mem_range.mp g
    rw [ξ o] at f
    exact ⟨bs[i],List.getElem_mem o,f⟩
   ·rintro ⟨b,f,y⟩
    obtain ⟨i,g,e⟩:=List.getElem_of_mem f
    refine ⟨i,List.mem_range.mpr g,?_⟩
    rw [ξ g,e]
    exact y
  rw [e]
  exact ⟨.bl _,H,I.kept (LSm.kept_iter Z),ϱ,q⟩
def wH:KTD.Dat->Value->Bool
 | .flat d,v=>KTD.flatLooks d v
 | _,_=>false
theorem yB{h:Heap}:∀(d:KTD.Dat) (v:Value),wH d v=true->d.At h v
 | .flat d,v,e=>KTD.flat_of_looks (d:=d) e
 | .float _,_,e=>by cases e
 | .nums _,_,e=>by cases e
 | .words _,_,e=>by cases e
 | .tup _,_,e=>by cases e
 | .tab _,_,e=>by cases e
def TabK(K:Frag)(a:Addr)(D:List (Str×KTD.Dat)):Prop:=KTD.tabLook wH (λb=>K.lookup b) a D=true
theorem TabK.at{K:Frag}{a:Addr}{D:List (Str×KTD.Dat)}{h:Heap}(t:TabK K a D)(kin:K.In h):KTD.TextTab h a D:=KTD.tab_of_look yB (λa o e=>kin a o e) t
theorem o9{h₀:Heap}{k:Str}{Pr:Value->Prop}:∀{D:List (Str×KTD.Dat)} {d:KTD.Dat},KTD.datumAt k D=some d->KTD.Opened h₀ Pr d->KTD.EachL h₀ k Pr D
 | [],_,e,_=>by cases e
 | (x,d')::D,d,e,o=>by
  have e':(if decide (k=x)=true then some d' else KTD.datumAt k D)=some d:=e
  by_cases hx:k=x
  ·rw [if_pos (τ hx)] at e'
   cases e'
   exact KTD.eachL_hit hx o
  ·rw [if_neg (by simp [hx])] at e'
   exact KTD.eachL_miss hx (o9 e' o)
theorem so{D:List (Str×KTD.Dat)}:IxR X (λx y H Q=>∃a k i,x=.ref a/\y=.str k/\TabK X.K a D/\KTD.datumAt k D=some (.flat (.int i))/\(D.all λp=>KTD.plain p.2)=true/\Q (.int i) H):=by
 intro b d g s σ H x y v u Q I m o h r
 obtain ⟨a,k,i,rfl,rfl,j,f,l,q⟩:=h
 cases m
 obtain ⟨t,rfl⟩:=o
 refine KTD.item_textA (h₀:=s.heap) ⟨j.at I.kIn,λ_ _ e=>e⟩ l ?_ ?_ r
 ·rw [← KTD.isSome_datumAt,f];rfl
 ·exact o9 f (KTD.opened_int λw=>⟨.int i,H,I.tok _,⟨_,ϱ⟩,q⟩)
end
section
variable {X:Cx}{α:Type} [DecidableEq α]
theorem pfK(K:Frag)(i:Nat){x f:Str}{b pos:Pos}(e:X.K=K:=by rfl)(g:X.N[i]?=some x:=by rfl)(h:Vis X.env.scope x:=by first | exact Or.inl rfl | exact Or.inr (Or.inl rfl) | exact Or.inr (Or.inr rfl))(j:(x==("__debug__":Str))=false:=by decide)
  (d:(x==("__classdict__":Str))=false:=by decide)(l:attributeBase (.Name x b) f X.env (eval (.Name x b) X.env)=eval (.Name x b) X.env:=by rfl):PE X (.Attribute (.Name x b) f pos) (sP K (qt i) f):=by
 subst e
 exact ap (qR g h j d) l
theorem sd(K:Frag)(c:Cod α)(d:X.A.units+c.n+1<cLine)(e:X.K=K:=by rfl):OpR X (compareOp .Eq) (λx y H Q=>∃a b,c.rp K H a x/\c.rp K H b y/\Q (.bl (decide (a=b))) H):=by
 subst e
 exact vq c d
theorem r8(K:Frag)(c:Cod α)(d:X.A.units+c.n+1<cLine)(e:X.K=K:=by rfl):OpR X (compareOp .NotEq) (λx y H Q=>∃a b,c.rp K H a x/\c.rp K H b y/\Q (.bl (!decide (a=b))) H):=by
 subst e
 exact vm c d
end
structure GF(P:Program)(w:World)(K:Frag)(mg:Str->Option Value)(base:Heap)(CX:CXT)(k:Nat)(x:Str)(ps:List Str)(sp:Sp) where
 f:Addr
 fd:FuncData
 ok:FnOk P w K mg base CX k f fd ps sp
 bd:Binds K fd ps []
 kp:PySem.W.keepIn K (.ref f)=true
 mgx:mg x=some (.ref f)
structure GM(P:Program)(w:World)(K:Frag)(mg:Str->Option Value)(base:Heap)(CX:CXT)(k:Nat)(C:Addr)(m:Str)(ps:List Str)(sp:Sp) where
 f:Addr
 fd:FuncData
 ok:FnOk P w K mg base CX k f fd ps sp
 bd:Binds K fd ps []
 me:fm K C m f
section
variable {X:Cx}{CX:CXT}{j k:Nat}{x m:Str}{ps:List Str}{sp:Sp}{E:XK}{p pos apos:Pos}{e o:Expr}{es:List Expr}{t:TA}{ta:TE}{C:Addr}
theorem pc(G:GF X.prog X.w X.K X.mg X.base CX j x ps sp)(hr:Room k X.A)(ha:PA X (e::es) t)(hx:cV CX X E:=by exact aW)(hk:j<=k:=by decide)(hg:Gl X x:=by rfl)
  (hdb:(x==("__debug__":Str))=false:=by decide)(he:starEach (e::es) X.env=(false,eval e X.env)::starEach es X.env:=by rfl)(hpl:(backTo pos (starEach es X.env)).any (·.1)=false:=by rfl) :
  PE X (.Call (.Name x p) (e::es) [] pos) (uC sp [] E t):=rY G.ok (hr.mono hk) hg G.mgx G.kp G.bd .nil hx ha hdb he hpl
theorem pm{pl:Sem Bool}(G:GM X.prog X.w X.K X.mg X.base CX j C m ps sp)(ho:PE X o ta)(cl:Cls X.K C)(hr:Room k X.A)(ha:PA X (e::es) t)(hx:cV CX X E:=by exact aW)(hk:j<=k:=by decide)
  (hst:starEach (e::es) X.env=(false,eval e X.env)::starEach es X.env:=by rfl)(hpl:(backTo pos (starEach es X.env)).any (·.1)=false:=by rfl)
  (ht:eval (.Call (.Attribute o m apos) (e::es) [] pos) X.env=(do
   let ov ← eval o X.env
   standAt apos.atName
   let (f,first) ← holding [ov] (getMethod ov m pl)
   callWith pos f first (backTo pos (starEach (e::es) X.env)) (backToKw pos (keywordEach [] X.env))):=by rfl) :
  PE X (.Call (.Attribute o m apos) (e::es) [] pos) (rK C m sp [] E ta t):=ib ho cl G.me G.ok (hr.mono hk) G.bd .nil hx ha hst hpl ht
theorem pm0{pl:Sem Bool}(G:GM X.prog X.w X.K X.mg X.base CX j C m ps sp)(ho:PE X o ta)(cl:Cls X.K C)(hr:Room k X.A)(hx:cV CX X E:=by exact aW)(hk:j<=k:=by decide)
  (ht:eval (.Call (.Attribute o m apos) [] [] pos) X.env=(do
   let ov ← eval o X.env
   standAt apos.atName
   let (f,first) ← holding [ov] (getMethod ov m pl)
   callWith pos f first (backTo pos (starEach [] X.env)) (backToKw pos (keywordEach [] X.env))):=by rfl) :
  PE X (.Call (.Attribute o m apos) [] [] pos) (rK C m sp [] E ta uB):=iY ho cl G.me G.ok (hr.mono hk) G.bd .nil hx ht
end
section
variable {K:Frag}{a:Addr}{xs:List V}{tt:TT}{te:TE}{bl:St}{Fin:List V->Hp->Prop}{H:Hp}
theorem d6(b:Nat->List V->Hp->Prop)(h0:b 0 [] H)(h:xs.length<=sizeLine)(j:∀i ys H,i<=xs.length->b i ys H->SqL K H a xs)
  (l:∀i x ys H,xs[i]?=some x->b i ys H->tt (some x::bl) H λc H2=>if c=true then te (some x::bl) H2 λy H3=>b (i+1) (ys++[y]) H3 else b (i+1) ys H2)
  (m:∀ys H,b xs.length ys H->Fin ys H) :
  ∃(W:Nat->List V->Hp->Prop) (n:Nat),W 0 [] H/\n<=sizeLine/\∀i ys H,W i ys H->((Itl K a).stop i H/\Fin ys H) \/
   ((Itl K a).go i H/\i<n/\∀x H',(Itl K a).yld i H x H'->tt (some x::bl) H' λc H2=>if c=true then te (some x::bl) H2 λy H3=>W (i+1) (ys++[y]) H3 else W (i+1) ys H2):=by
 refine ⟨λi ys H=>i<=xs.length/\b i ys H,xs.length,⟨ϖ _,h0⟩,h,?_⟩
 rintro i ys H ⟨g,p⟩
 have q:=j i ys H g p
 by_cases hlt:i<xs.length
 ·refine .inr ⟨⟨xs,xs[i],q,by simp [hlt]⟩,hlt,λx H' y=>?_⟩
  obtain ⟨e,y⟩:=y
  subst e
  have z:=l i x ys _ (y xs q) p
  have d:(λ(c:Bool) (H2:Hp)=>if c=true then te (some x::bl) H2 λy H3=>i+1<=xs.length/\b (i+1) (ys++[y]) H3 else i+1<=xs.length/\b (i+1) ys H2)=λc H2=>if c=true then te (some x::bl) H2 λy H3=>b (i+1) (ys++[y]) H3 else b (i+1) ys H2:=by
   have f:(i+1<=xs.length)=True:=eq_true hlt
   funext c H2
   simp only [f,true_and]
  show tt _ _ _
  rw [d]
  exact z
 ·have e:i=xs.length:=by omega
  subst e
  exact .inl ⟨⟨xs,q,ι _⟩,m ys H p⟩
theorem k9{σ:St}{A B:Hp->Prop}(h:A H):Bv σ H (λc H2=>if c=true then A H2 else B H2):=by
 show if true=true then A H else B H
 exact @bU (A H) (B H) h
theorem hU{n:Nat}(b:Nat->List V->Hp->Prop)(h0:b 0 [] H)(g:n<=sizeLine)
  (h:∀(i:Nat) ys H,i<n->b i ys H->tt (some (.int i)::bl) H λc H2=>if c=true then te (some (.int i)::bl) H2 λy H3=>b (i+1) (ys++[y]) H3 else b (i+1) ys H2)
  (j:∀ys H,b n ys H->Fin ys H) :
  ∃(W:Nat->List V->Hp->Prop) (m:Nat),W 0 [] H/\m<=sizeLine/\∀i ys H,W i ys H->((Itr 0 n).stop i H/\Fin ys H) \/
   ((Itr 0 n).go i H/\i<m/\∀x H',(Itr 0 n).yld i H x H'->tt (some x::bl) H' λc H2=>if c=true then te (some x::bl) H2 λy H3=>W (i+1) (ys++[y]) H3 else W (i+1) ys H2):=by
 refine ⟨λi ys H=>i<=n/\b i ys H,n,⟨ϖ _,h0⟩,g,?_⟩
 rintro i ys H ⟨l,p⟩
 by_cases hlt:i<n
 ·refine .inr ⟨hlt,hlt,λx H' y=>?_⟩
  obtain ⟨e,y⟩:=y
  subst e
  rw [Int.zero_add] at y
  subst y
  have z:=h i ys _ hlt p
  have d:(λ(c:Bool) (H2:Hp)=>if c=true then te (some (.int i)::bl) H2 λy H3=>i+1<=n/\b (i+1) (ys++[y]) H3 else i+1<=n/\b (i+1) ys H2)=λc H2=>if c=true then te (some (.int i)::bl) H2 λy H3=>b (i+1) (ys++[y]) H3 else b (i+1) ys H2:=by
   have f:(i+1<=n)=True:=eq_true hlt
   funext c H2
   simp only [f,true_and]
  show tt _ _ _
  rw [d]
  exact z
 ·have e:i=n:=by omega
  subst e
  exact .inl ⟨ι _,j ys H p⟩
end
end L2
namespace Lo
open PySem L2
inductive Kd where
 | read | mean | change
 deriving DecidableEq
def kdS:Kd->Str
 | .read=>"read"
 | .mean=>"mean"
 | .change=>"change"
theorem zO:¬(("read":Str)="mean"):=by decide +kernel
theorem zP:¬(("read":Str)="change"):=by decide +kernel
theorem zQ:¬(("mean":Str)="change"):=by decide +kernel
theorem yp:∀x y,kdS x=kdS y->x=y
 | .read,.read,_=>rfl
 | .mean,.mean,_=>rfl
 | .change,.change,_=>rfl
 | .read,.mean,h=>absurd h zO
 | .read,.change,h=>absurd h zP
 | .mean,.change,h=>absurd h zQ
 | .mean,.read,h=>absurd h.symm zO
 | .change,.read,h=>absurd h.symm zP
 | .change,.mean,h=>absurd h.symm zQ
def qN:Kd->Int
 | .read=>0
 | .mean=>1
 | .change=>2
abbrev Lk:=Kd×Int×Int
abbrev Pa:=Int×Int
abbrev Pr:=Pa×Lk
def pF:Kd->Kd->Bool
 | .read,.read=>true
 | .read,.mean=>true
 | .mean,.read=>true
 | _,_=>false
def aY(a b:Lk):Bool:=(decide (a.2.2<b.2.1)||decide (b.2.2<a.2.1))||pF a.1 b.1
def bQ(a b:Lk):Bool:=(decide (a.2.1<=b.2.1)&&decide (b.2.2<=a.2.2))&&decide (qN b.1<=qN a.1)
theorem sT(a b:Kd):decide ((kdS a,kdS b)∈([("read","read"),("read","mean"),("mean","read")]:List (Str×Str)))=pF a b:=by
 cases a<;>cases b<;>decide +kernel
theorem qJ(a b:Kd)(i:Decidable ((kdS a,kdS b)∈([("read","read"),("read","mean"),("mean","read")]:List (Str×Str)))):@decide _ i=pF a b:=(decide_eq_decide.mpr Iff.rfl).trans (sT a b)
def uu(k:Lk):Str×Int×Int:=(kdS k.1,k.2)
theorem sN:∀x y,uu x=uu y->x=y:=λx y h=>by
 obtain ⟨a,b⟩:=x
 obtain ⟨c,d⟩:=y
 have h1:=congrArg Prod.fst h
 have h2:=congrArg Prod.snd h
 exact Prod.ext (yp _ _ h1) h2
def cLk:Cod Lk:=Cw uu sN (cT3 cStr cInt cInt)
def cPa:Cod Pa:=cT2 cInt cInt
theorem wR{K:Frag}{H:Hp}{a:Addr}{k:Lk}(h:H a=some (.tup [.str (kdS k.1),.int k.2.1,.int k.2.2])):cLk.rp K H k (.ref a):=⟨a,_,_,_,ϱ,.inl h,ϱ,ϱ,ϱ⟩
theorem jO{K:Frag}{H:Hp}{a:Addr}{k:Pa}(h:H a=some (.tup [.int k.1,.int k.2])):cPa.rp K H k (.ref a):=⟨a,_,_,ϱ,.inl h,ϱ,ϱ⟩
def Fix(CL:Addr):HO->Prop
 | .tup _=>True
 | .ins C _ _=>C≠CL
 | _=>False
def FSame(CL:Addr)(H H':Hp):Prop:=∀b o,H b=some o->Fix CL o->H' b=some o
theorem FSame.ts{CL:Addr}{H H':Hp}(h:FSame CL H H'):TSame H H':=λb xs e=>h b _ e ϰ
theorem d7{CL:Addr}{H H':Hp}(h:Same H H'):FSame CL H H':=λb o e _=>h b o e
theorem FSame.trans{CL:Addr}{H H1 H2:Hp}(a:FSame CL H H1)(b:FSame CL H1 H2):FSame CL H H2:=λc o e f=>b c o (a c o e f) f
theorem ah{H:Hp}{p:Addr}{o:HO}(h:H p=none):Same H (upd H p o):=λb u e=>by
 rw [ao (aq e h)]
 exact e
def Kp(p:Addr)(H H':Hp):Prop:=∀b o,b≠p->H b=some o->H' b=some o
theorem Kp.of{p:Addr}{H H':Hp}(h:Same H H'):Kp p H H':=λb o _ e=>h b o e
theorem Kp.trans{p:Addr}{H H1 H2:Hp}(a:Kp p H H1)(b:Kp p H1 H2):Kp p H H2:=λc o n e=>b c o n (a c o n e)
theorem bv{p:Addr}{H:Hp}{o:HO}:Kp p H (upd H p o):=λb u n e=>by
 rw [ao n]
 exact e
theorem Kp.fs{CL p:Addr}{H H':Hp}{xs:List V}(h:Kp p H H')(e:H p=some (.lst xs)):FSame CL H H':=λb o q f=>h b o (λz=>by rw [z,e] at q;cases q;exact f) q
theorem fl:¬(("first":Str)="last"):=by decide +kernel
def lf(f l:Int):List (Str×V):=au "last" (.int l) (au "first" (.int f) [])
theorem fx(f l:Int):(lf f l).lookup ("first":Str)=some (.int f):=by
 unfold lf
 rw [al,if_neg fl,al,if_pos rfl]
theorem ja(f l:Int):(lf f l).lookup ("last":Str)=some (.int l):=by
 unfold lf
 rw [al,if_pos rfl]
theorem gs(f l:Int){m:Str}(h1:¬m="last")(b:¬m="first"):(lf f l).lookup m=none:=by
 unfold lf
 rw [al,if_neg h1,al,if_neg b]
 rfl
def LkO(C:Kd->Addr)(H:Hp)(k:Lk)(v:V):Prop:=∃a dx,v=.ref a/\H a=some (.ins (C k.1) dx (lf k.2.1 k.2.2))
theorem LkO.keep{C:Kd->Addr}{CL:Addr}{H b:Hp}{k:Lk}{v:V}(i:∀k,C k≠CL)(e:FSame CL H b)(h:LkO C H k v):LkO C b k v:=by
 obtain ⟨a,d,f,g⟩:=h
 exact ⟨a,d,f,e a _ g (i _)⟩
def PrO(C:Kd->Addr)(K:Frag)(H:Hp)(x:Pr)(v:V):Prop:=∃a u l,v=.ref a/\SqU K H a [u,l]/\cPa.rp K H x.1 u/\LkO C H x.2 l
theorem PrO.keep{C:Kd->Addr}{CL:Addr}{K:Frag}{H b:Hp}{x:Pr}{v:V}(j:∀k,C k≠CL)(e:FSame CL H b)(h:PrO C K H x v):PrO C K b x v:=by
 obtain ⟨a,u,l,d,f,g,i⟩:=h
 exact ⟨a,u,l,d,f.keep e.ts,cPa.keep e.ts g,i.keep j e⟩
def LS(C:Kd->Addr)(CL:Addr)(K:Frag)(H:Hp)(l p:Addr)(ps:List Pr):Prop :=
 ∃dx vs,H l=some (.ins CL dx [("pairs",.ref p)])/\H p=some (.lst vs)/\Paired (PrO C K H) ps vs
theorem pp{F:α->β->Prop}{G:α->β->Prop}{xs:List α}{ys:List β}(h:Paired F xs ys)(f:∀a b,F a b->G a b):Paired G xs ys:=Paired.mapP h f
theorem LS.keep{C:Kd->Addr}{CL:Addr}{K:Frag}{H b:Hp}{l p:Addr}{ps:List Pr}(j:∀k,C k≠CL)(e:Same H b)(h:LS C CL K H l p ps):LS C CL K b l p ps:=by
 obtain ⟨d,vs,f,g,i⟩:=h
 exact ⟨d,vs,e l _ f,e p _ g,pp i λ_ _ q=>q.keep j (d7 e)⟩
theorem oZ{X:Cx}{x:Str}{i:Int}{pos:Pos}(b:∃t,X.mg x=some (.int i t))(d:Gl X x)(f:(x==("__debug__":Str))=false:=by decide):PE X (.Name x pos) (tC (.int i)):=by
 obtain ⟨t,e⟩:=b
 exact fU d e ⟨t,ϱ⟩ f
def ModT(K:Frag)(a:Addr)(xs:List V):Prop:=∃(o:Obj) (its:Array Value) (n:Nat),K.lookup a=some o/\o.cls=.type "tuple"/\o.data=.seq its n/\its.size<=sizeLine/\Vals xs its.toList
theorem ModT.sq{K:Frag}{a:Addr}{xs:List V}{H:Hp}(h:ModT K a xs):SqU K H a xs:=.inr h
theorem we{K:Frag}{a:Addr}{x y:Str}{t t':Tok}{od:Option Addr}{n:Nat}{sl:Array (Option Value)}(h:K.lookup a=some ⟨.type "tuple",od,.seq #[.str x t,.str y t'] n,sl⟩):ModT K a [.str x,.str y] :=
 ⟨_,_,n,h,ϱ,ϱ,by show 2<=sizeLine;decide,.cons ⟨_,ϱ⟩ (.cons ⟨_,ϱ⟩ .nil)⟩
theorem BR{K:Frag}{a b c d:Addr}{od:Option Addr}{n:Nat}{sl:Array (Option Value)}(h:K.lookup a=some ⟨.type "tuple",od,.seq #[.ref b,.ref c,.ref d] n,sl⟩):ModT K a [.ref b,.ref c,.ref d] :=
 ⟨_,_,n,h,ϱ,ϱ,by show 3<=sizeLine;decide,.cons rfl (.cons rfl (.cons rfl .nil))⟩
structure TxB(mg:Str->Option Value):Prop where
 isi:mg "isinstance"=none
 int:mg "int"=none
 bool:mg "bool"=none
 str:mg "str"=none
 len:mg "len"=none
 range:mg "range"=none
 tuple:mg "tuple"=none
 list:mg "list"=none
 any:mg "any"=none
 all:mg "all"=none
 max:mg "max"=none
 sorted:mg "sorted"=none
structure TxK(K:Frag)(C:Kd->Addr):Prop where
 cl:∀k,Cls K (C k)
 nF:∀k,NoAttr K (C k) "first"
 nL:∀k,NoAttr K (C k) "last"
def lH:List (Str×PyProof.Rows.KTD.Dat):=[("read",.flat (.int 0)),("mean",.flat (.int 1)),("change",.flat (.int 2))]
theorem rS(k:Kd):PyProof.Rows.KTD.datumAt (kdS k) lH=some (.flat (.int (qN k))):=by
 cases k<;>kernel_rfl
structure TxS(K:Frag)(mg:Str->Option Value):Prop where
 sh:∃aS a0 a1 a2,mg "SHARING"=some (.ref aS)/\ModT K aS [.ref a0,.ref a1,.ref a2]/\ModT K a0 [.str "read",.str "read"]/\ModT K a1 [.str "read",.str "mean"]/\ModT K a2 [.str "mean",.str "read"]
structure TxR(K:Frag)(mg:Str->Option Value):Prop where
 rk:∃aR,mg "RANKS"=some (.ref aR)/\TabK K aR lH
structure TxL(K:Frag)(C:Kd->Addr)(CL:Addr):Prop where
 cl:Cls K CL
 nP:NoAttr K CL "pairs"
 ne:∀k,C k≠CL
theorem uy{K:Frag}{a:Addr}{es:Array DictEntry}{n:Nat}{D:List (Str×PyProof.Rows.KTD.Dat)}(h:K.lookup a=some ⟨.type "dict",none,.dict es n,#[]⟩)(z:(a==sysModules)=false)(r:PyProof.Rows.KTD.rowsLook wH es.toList D=true):TabK K a D:=by
 unfold TabK PyProof.Rows.KTD.tabLook
 rw [z]
 show (true&&(match K.lookup a with | some o=>_ | none=>false))=true
 rw [h]
 simp [r]
def kdN:Kd->Str
 | .read=>"Read"
 | .mean=>"Mean"
 | .change=>"Change"
inductive gJ (k:Kd) (vs:List V) (H:Hp) (Q:VK) (E:XK):Prop|mk v:vs=[v]->Q (.str (kdS k)) H->gJ k vs H Q E
inductive eQ (C:Kd->Addr) (vs:List V) (H:Hp) (Q:VK) (E:XK):Prop|mk a dx k f l:vs=[.ref a,.int f,.int l]->H a=some (.ins (C k) dx [])->Q .non (upd (upd H a (.ins (C k) dx (au "first" (.int f) []))) a (.ins (C k) dx (lf f l)))->eQ C vs H Q E
inductive gI (C:Kd->Addr) (vs:List V) (H:Hp) (Q:VK) (E:XK):Prop|mk v k:vs=[v]->LkO C H k v->(∀a,H a=none->Q (.ref a) (upd H a (.tup [.str (kdS k.1),.int k.2.1,.int k.2.2])))->gI C vs H Q E
inductive iQ (C:Kd->Addr) (vs:List V) (H:Hp) (Q:VK) (E:XK):Prop|mk v u k j:vs=[v,u]->LkO C H k v->LkO C H j u->(∀H',Same H H'->Q (.bl (aY k j)) H')->iQ C vs H Q E
inductive iP (C:Kd->Addr) (vs:List V) (H:Hp) (Q:VK) (E:XK):Prop|mk v u k j:vs=[v,u]->LkO C H k v->LkO C H j u->(∀H',Same H H'->Q (.bl (bQ k j)) H')->iP C vs H Q E
inductive iN (C:Kd->Addr) (K:Frag) (vs:List V) (H:Hp) (Q:VK) (E:XK):Prop|mk v k:vs=[v]->cLk.rp K H k v->(∀u H',Same H H'->LkO C H' k u->Q u H')->iN C K vs H Q E
theorem eT{H:Hp}{x dx:Addr}{o1 o2 o3 o4:HO}(nx:H x=none)(nd:H dx=none):Same H (upd (upd (upd (upd H dx o1) x o2) x o3) x o4):=λb o e=>by
 have n1:b≠x:=aq e nx
 have n2:b≠dx:=aq e nd
 rw [ao n1,ao n1,ao n1,ao n2]
 exact e
theorem cb{v:V}:([("pairs",v)]:List (Str×V)).lookup ("pairs":Str)=some v:=by
 show (au "pairs" v []).lookup ("pairs":Str)=some v
 rw [al,if_pos rfl]
theorem hO{v:V}{m:Str}(h:¬m="pairs"):([("pairs",v)]:List (Str×V)).lookup m=none:=by
 show (au "pairs" v []).lookup m=none
 rw [al,if_neg h]
 rfl
theorem Av{v u:V}:au "pairs" u ([("pairs",v)]:List (Str×V))=([("pairs",u)]:List (Str×V)):=by
 show (if ("pairs":Str)="pairs" then [(("pairs":Str),u)] else (("pairs":Str),v)::au "pairs" u [])=([("pairs",u)]:List (Str×V))
 rw [if_pos rfl]
section
variable (C:Kd->Addr)(CL:Addr)(K:Frag)
inductive lp (vs:List V) (H:Hp) (Q:VK) (E:XK):Prop|mk l dx:vs=[.ref l]->H l=some (.ins CL dx [])->(∀p H',H p=none->H' p=some (.lst [])->H' l=some (.ins CL dx [("pairs",.ref p)])->Kp l H H'->Q .non H')->lp vs H Q E
end
theorem bnd{n:Nat}(h:n<=1000):-(2 ^ 62)<=(n:Int)/\(n:Int)<2 ^ 62:=by
 constructor<;>omega
theorem small{n:Nat}(h:n<=1000):n<=sizeLine:=Nat.le_of_lt (d8 h)
def cN(ns:List Int)(k:Nat):Int:=(ns[k]?).getD 0
inductive ox (K:Frag) (vs:List V) (H:Hp) (Q:VK) (E:XK):Prop|mk a ns k:vs=[.ref a,.int (k:Nat)]->SqL K H a ((ns:List Int).map V.int)->Q (.int (cN ns k)) H->ox K vs H Q E
theorem pM{X:Cx}{st:List Stmt}{t:TS}(u:TS)(h:PSs X st t)(hw:∀D σ H,u D σ H->t D σ H):PSs X st u:=λpins s σ H D I q=>h pins s σ H D I (hw D σ H q)
theorem wJ(b:List Int)(lo d:Option Int):∃cs:List Int,qi (b.map V.int) lo d=cs.map V.int/\cs.length<=b.length:=by
 refine ⟨(b.drop (HT.sIx (b.map V.int).length 0 lo)).take (HT.sIx (b.map V.int).length (b.map V.int).length d-HT.sIx (b.map V.int).length 0 lo),?_,?_⟩
 ·unfold qi
  rw [List.map_take,List.map_drop]
 ·rw [List.length_take,List.length_drop]
  omega
theorem tH{CL l dl:Addr}{H H1:Hp}(nl:H l=none)(nd:H dl=none)(k:Kp l (upd (upd H dl (.own l)) l (.ins CL dl [])) H1):Same H H1:=λb o e=>by
 have n1:b≠l:=aq e nl
 have n2:b≠dl:=aq e nd
 refine k b o n1 ?_
 rw [ao n1,ao n2]
 exact e
end Lo
namespace L2
open PySem PySem.Spec PyProof.Rows
section
variable {κ:Type} [DecidableEq κ]
def bE(kvs:List (κ×V))(k:κ):Option V:=(kvs.find? λkv=>decide (kv.1=k)).map (·.2)
def bx(kvs:List (κ×V))(k:κ)(v:V):List (κ×V) :=
 if (kvs.any λkv=>decide (kv.1=k))=true then kvs.map (λkv=>if kv.1=k then (kv.1,v) else kv) else kvs++[(k,v)]
theorem bH{p:κ×V}{r:List (κ×V)}{k:κ}(e:p.1=k):bE (p::r) k=some p.2:=by simp [bE,List.find?_cons,e]
theorem bJ{p:κ×V}{r:List (κ×V)}{k:κ}(e:¬p.1=k):bE (p::r) k=bE r k:=by simp [bE,List.find?_cons,e]
theorem fo(k:κ):∀kvs:List (κ×V),(kvs.any λkv=>decide (kv.1=k))=(bE kvs k).isSome
 | []=>rfl
 | p::r=>by
  rw [List.any_cons]
  by_cases e:p.1=k
  ·simp only [bH e,decide_eq_true e,Bool.true_or,Option.isSome_some]
  ·rw [bJ e,Γ e,Bool.false_or];exact fo k r
theorem pD(k j:κ)(y:V):∀kvs:List (κ×V),bE (kvs.map λkv=>if kv.1=k then (kv.1,y) else kv) j=(bE kvs j).map λx=>if j=k then y else x
 | []=>rfl
 | p::r=>by
  have ih:=pD k j y r
  rw [List.map_cons]
  by_cases h:p.1=k
  ·rw [if_pos h]
   by_cases e:p.1=j
   ·rw [bH (p:=(p.1,y)) e,bH e,Option.map_some,if_pos (e.symm.trans h)]
   ·rw [bJ (p:=(p.1,y)) e,bJ e,ih]
  ·rw [if_neg h]
   by_cases e:p.1=j
   ·rw [bH (p:=p) e,bH e,Option.map_some,if_neg (λz=>h (e.trans z))]
   ·rw [bJ (p:=p) e,bJ e,ih]
theorem mK(k j:κ)(y:V):∀kvs:List (κ×V),bE kvs k=none->bE (kvs++[(k,y)]) j=if j=k then some y else bE kvs j
 | [],_=>by
  by_cases e:k=j
  ·rw [if_pos e.symm];exact bH (p:=(k,y)) e
  ·rw [if_neg (λz=>e z.symm)];exact bJ (p:=(k,y)) e
 | p::r,hn=>by
  rw [List.cons_append]
  have hk:¬p.1=k:=λz=>by rw [bH z] at hn;cases hn
  rw [bJ hk] at hn
  have ih:=mK k j y r hn
  by_cases e:p.1=j
  ·rw [bH e,bH e,if_neg (λz=>hk (e.trans z))]
  ·rw [bJ e,bJ e,ih]
theorem iL(b:List (κ×V))(k j:κ)(y:V):bE (bx b k y) j=if j=k then some y else bE b j:=by
 unfold bx
 by_cases a:(b.any λf=>decide (f.1=k))=true
 ·rw [if_pos a,pD]
  rw [fo] at a
  by_cases e:j=k
  ·obtain ⟨x,d⟩:=Option.isSome_iff_exists.mp a
   rw [if_pos e,e,d,Option.map_some,if_pos rfl]
  ·rw [if_neg e]
   cases bE b j with
   | none=>rfl
   | some x=>rw [Option.map_some,if_neg e]
 ·rw [if_neg a]
  refine mK k j y b ?_
  rw [fo] at a
  cases q:bE b k with
  | none=>rfl
  | some x=>rw [q] at a;exact (a rfl).elim
theorem ce(b:List (κ×V))(k:κ)(v:V):(bx b k v).length<=b.length+1:=by
 unfold bx
 split
 ·rw [ν];omega
 ·rw [List.length_append,List.length_cons,List.length_nil];omega
theorem pL{b:List (κ×V)}{k:κ}(v:V)(h:bE b k=none):bx b k v=b++[(k,v)]:=by
 unfold bx
 rw [fo,h]
 exact if_neg ζ
theorem RelO.isSome_eq{o:Option V}{u:Option Value}(r:RelO o u):o.isSome=u.isSome:=by
 cases o with
 | none=>cases u with
  | none=>rfl
  | some _=>exact (show False from r).elim
 | some _=>cases u with
  | none=>exact (show False from r).elim
  | some _=>rfl
theorem RelO.getD{o:Option V}{u:Option Value}{d:V}{d':Value}(r:RelO o u)(b:RelV d d'):RelV (o.getD d) (u.getD d'):=by
 cases o with
 | none=>cases u with
  | none=>exact b
  | some _=>exact (show False from r).elim
 | some _=>cases u with
  | none=>exact (show False from r).elim
  | some _=>exact r
theorem KV.val{d:List (κ×V)}{vs:List (κ×Value)}(r:KV d vs)(k:κ):RelO (bE d k) (valueAt vs k):=by
 unfold KV at r
 induction r with
 | nil=>exact ϰ
 | @cons p q ps qs h t ih =>
  obtain ⟨h1,g⟩:=h
  by_cases e:p.1=k
  ·have f:q.1=k:=h1.symm.trans e
   have b:valueAt (q::qs) k=some q.2:=by simp [valueAt,List.find?_cons,f]
   rw [bH e,b];exact g
  ·have f:¬q.1=k:=λz=>e (h1.trans z)
   have b:valueAt (q::qs) k=valueAt qs k:=by simp [valueAt,List.find?_cons,f]
   rw [bJ e,b];exact ih
theorem KV.any{b:List (κ×V)}{vs:List (κ×Value)}(r:KV b vs)(k:κ):(b.any λkv=>decide (kv.1=k))=vs.any λkv=>decide (kv.1=k):=by
 unfold KV at r
 induction r with
 | nil=>rfl
 | cons h t ih=>rw [List.any_cons,List.any_cons,ih,h.1]
theorem KV.repl{b:List (κ×V)}{vs:List (κ×Value)}(r:KV b vs)(k:κ){y:V}{u:Value}(f:RelV y u) :
  KV (b.map λkv=>if kv.1=k then (kv.1,y) else kv) (vs.map λkv=>if kv.1=k then (kv.1,u) else kv):=by
 unfold KV at r ⊢
 induction r with
 | nil=>exact .nil
 | @cons p q ps qs h t ih =>
  rw [List.map_cons,List.map_cons]
  refine .cons ?_ ih
  obtain ⟨h1,d⟩:=h
  by_cases e:p.1=k
  ·rw [if_pos e,if_pos (h1.symm.trans e)];exact ⟨h1,f⟩
  ·rw [if_neg e,if_neg (λz=>e (h1.trans z))];exact ⟨h1,d⟩
theorem KV.put{b:List (κ×V)}{vs:List (κ×Value)}(r:KV b vs)(k:κ){y:V}{u:Value}(d:RelV y u):KV (bx b k y) (stored vs k u):=by
 unfold bx stored
 rw [r.any k]
 by_cases e:(vs.any λf=>decide (f.1=k))=true
 ·rw [if_pos e,if_pos e];exact r.repl k d
 ·rw [if_neg e,if_neg e];exact Paired.snoc r ⟨ϱ,d⟩
theorem KV.length{kvs:List (κ×V)}{vs:List (κ×Value)}(r:KV kvs vs):kvs.length=vs.length:=Paired.length r
end
theorem jT{P:Program}{w:World}{k:Key}{u:Value}(r:RelV (kV k) u):(aK P w).is k u=true:=by
 cases k with
 | inl i=>obtain ⟨t,e⟩:=(show ∃t,u=Value.int i t from r);subst e;exact pX P w i t
 | inr x=>obtain ⟨t,e⟩:=(show ∃t,u=Value.str x t from r);subst e;exact pW P w x t
theorem nu{P:Program}{w:World}:∀{ks:List Key} {us:List Value},Vals (ks.map kV) us->ItemsAre (aK P w) ks us
 | [],_,r=>by rw [List.map_nil] at r;cases r;exact .nil
 | k::ks,_,r=>by
  rw [List.map_cons] at r
  cases r with
  | cons h t=>exact .cons (jT h) (nu t)
abbrev KT(H:Hp):List (List Key×V)->List (List Key×Addr×Value)->Prop:=Paired λp q=>p.1=q.1/\H q.2.1=some (.tup (p.1.map kV))/\RelV p.2 q.2.2
theorem KT.val{H:Hp}{d:List (List Key×V)}{xs:List (List Key×Addr×Value)}(r:KT H d xs)(k:List Key):RelO (bE d k) ((atKey xs k).map (·.2)):=by
 induction r with
 | nil=>exact ϰ
 | @cons p q ps qs h t ih =>
  obtain ⟨h1,_,g⟩:=h
  by_cases e:p.1=k
  ·have f:q.1=k:=h1.symm.trans e
   have b:atKey (q::qs) k=some q.2:=by simp [atKey,List.find?_cons,f]
   rw [bH e,b];exact g
  ·have f:¬q.1=k:=λz=>e (h1.trans z)
   have b:atKey (q::qs) k=atKey qs k:=by simp [atKey,List.find?_cons,f]
   rw [bJ e,b];exact ih
theorem KT.repl{H:Hp}{b:List (List Key×V)}{xs:List (List Key×Addr×Value)}(r:KT H b xs)(k:List Key){y:V}{u:Value}(g:RelV y u) :
  KT H (b.map λkv=>if kv.1=k then (kv.1,y) else kv) (xs.map (putAt k u)):=by
 induction r with
 | nil=>exact .nil
 | @cons p q ps qs h t ih =>
  rw [List.map_cons,List.map_cons]
  refine .cons ?_ ih
  obtain ⟨h1,d,f⟩:=h
  unfold putAt
  by_cases e:p.1=k
  ·rw [if_pos e,if_pos (h1.symm.trans e)];exact ⟨h1,d,g⟩
  ·rw [if_neg e,if_neg (λz=>e (h1.trans z))];exact ⟨h1,d,f⟩
theorem KT.put{H:Hp}{d:List (List Key×V)}{xs:List (List Key×Addr×Value)}(r:KT H d xs)(k:List Key){b:Addr}{y:V}{u:Value}(h:H b=some (.tup (k.map kV)))(f:RelV y u) :
  KT H (bx d k y) (storedH xs k b u):=by
 have e:(d.any λg=>decide (g.1=k))=(atKey xs k).isSome:=by
  rw [fo,(r.val k).isSome_eq,Option.isSome_map]
 unfold bx storedH
 rw [e]
 by_cases q:(atKey xs k).isSome=true
 ·rw [if_pos q,if_pos q];exact r.repl k f
 ·rw [if_neg q,if_neg q];exact Paired.snoc r ⟨ϱ,h,f⟩
theorem KT.keeps{H H':Hp}{kvs:List (List Key×V)}{xs:List (List Key×Addr×Value)}(r:KT H kvs xs)(ht:∀b ys,H b=some (.tup ys)->H' b=some (.tup ys)):KT H' kvs xs :=
 Paired.mapP r λ_ _ z=>⟨z.1,ht _ _ z.2.1,z.2.2⟩
section
variable {P:Program}{w:World}{H:Hp}{h:Heap}{a:Addr}
theorem yS{u:HO}(ok:HOk P w H h)(e:Rd H a u):ObjOk P w H h a u:=e.ok ok
theorem jX{kvs:List (Key×V)}(ok:HOk P w H h)(e:Rd H a (.dK kvs)):kvs.length<=sizeLine/\(a==sysModules)=false/\∃vs,KV kvs vs/\h.DictOf (aK P w) a vs :=
 show ObjOk P w H h a (.dK kvs) from yS ok e
theorem wE{kvs:List (Key×V)}(ok:HOk P w H h)(e:H a=some (.dK kvs)):kvs.length<=sizeLine/\(a==sysModules)=false/\∃vs,KV kvs vs/\h.DictOf (aK P w) a vs:=jX ok (.inl e)
theorem gh{ks:List Key}(ok:HOk P w H h)(e:H a=some (.tup (ks.map kV))):(tupleKind (aK P w)).is h ks a:=by
 obtain ⟨_,b,r,o,h1,d,n,f⟩:=(show ObjOk P w H h a (.tup (ks.map kV)) from ok a _ e)
 exact ⟨o,b.toArray,n,h1,d,f,by simpa using nu r⟩
theorem jW{b:List (List Key×V)}(ok:HOk P w H h)(e:Rd H a (.dT b)):b.length<=sizeLine/\(a==sysModules)=false /\
  ∃xs,KT H b xs/\h.DictOfH (tupleKind (aK P w)) a xs:=by
 obtain ⟨z,y,xs,r,o,d,f,h1,g,i,j,u⟩:=(show ObjOk P w H h a (.dT b) from yS ok e)
 refine ⟨z,y,xs,r,o,d,f,h1,g,i,j,λx hx=>?_,u⟩
 have all:∀{l:List (List Key×V)} {m:List (List Key×Addr×Value)},KT H l m->∀x∈m,(tupleKind (aK P w)).is h x.1 x.2.1:=by
  intro l m q
  induction q with
  | nil=>intro x hx;exact nomatch hx
  | @cons p q ps qs hq t ih =>
   intro x hx
   rcases ϕ.mp hx with e | hx
   ·subst e
    exact gh ok (by rw [← hq.1];exact hq.2.1)
   ·exact ih x hx
 exact all r x hx
theorem sD{kvs:List (List Key×V)}(ok:HOk P w H h)(e:H a=some (.dT kvs)):kvs.length<=sizeLine/\(a==sysModules)=false /\
  ∃xs,KT H kvs xs/\h.DictOfH (tupleKind (aK P w)) a xs:=jW ok (.inl e)
end
def DGet(H:Hp)(a:Addr)(y:V)(r:Option V):Prop :=
 (∃kvs k,Rd H a (.dK kvs)/\y=kV k/\r=bE kvs k)\/∃kvs k b,Rd H a (.dT kvs)/\y=.ref b/\H b=some (.tup (k.map kV))/\r=bE kvs k
def DPut(H:Hp)(a:Addr)(y v:V)(H':Hp):Prop :=
 (∃kvs k,H a=some (.dK kvs)/\y=kV k/\kvs.length<sizeLine/\H'=upd H a (.dK (bx kvs k v))) \/
 ∃kvs k b,H a=some (.dT kvs)/\y=.ref b/\H b=some (.tup (k.map kV))/\kvs.length<sizeLine/\H'=upd H a (.dT (bx kvs k v))
theorem DGet.k{H:Hp}{a:Addr}{kvs:List (Key×V)}{k:Key}(e:H a=some (.dK kvs)):DGet H a (kV k) (bE kvs k):=.inl ⟨kvs,k,.inl e,ϱ,ϱ⟩
theorem DGet.t{H:Hp}{a b:Addr}{kvs:List (List Key×V)}{k:List Key}(e:H a=some (.dT kvs))(eb:H b=some (.tup (k.map kV))):DGet H a (.ref b) (bE kvs k):=.inr ⟨kvs,k,b,.inl e,ϱ,eb,ϱ⟩
theorem DPut.k{H:Hp}{a:Addr}{kvs:List (Key×V)}{k:Key}{v:V}(e:H a=some (.dK kvs))(hl:kvs.length<sizeLine):DPut H a (kV k) v (upd H a (.dK (bx kvs k v))):=.inl ⟨kvs,k,e,ϱ,hl,ϱ⟩
theorem DPut.t{H:Hp}{a b:Addr}{kvs:List (List Key×V)}{k:List Key}{v:V}(e:H a=some (.dT kvs))(eb:H b=some (.tup (k.map kV)))(hl:kvs.length<sizeLine) :
  DPut H a (.ref b) v (upd H a (.dT (bx kvs k v))):=.inr ⟨kvs,k,b,e,ϱ,eb,hl,ϱ⟩
section
variable {X:Cx}{pins:List (Addr×Obj)}{σ:St}{H:Hp}{s:Shared}{a:Addr}{y v:V}{u r:Value}{o:Option V}{A:Around}{E:Value->Shared->Prop}
theorem Inv.big(I:Inv X pins σ H s):sysModules<s.heap.objs.size:=by
 have h:mainGlobals<s.heap.objs.size:=(I.mod.glob.keeps I.bk).lt
 exact Nat.lt_trans ζ h
theorem t8{Q:Value->Shared->Prop}(C:A.units+1<cLine)(I:Inv X pins σ H s)(g:DGet H a y (some v))(m:RelV y u)(h:∀w' s',Inv X pins σ H s'->RelV v w'->Q w' s') :
  wpAny (model X.prog X.w) A (getItem (.ref a) u) Q E s:=by
 rcases g with ⟨kvs,k,e,ey,l⟩ | ⟨kvs,k,b,e,ey,eb,l⟩
 ·subst ey
  obtain ⟨z,q,vs,d,dd⟩:=jX I.hok e
  obtain ⟨w',i,f⟩:=RelO.some_of (v:=v) (o:=valueAt vs k) (by rw [l];exact d.val k)
  exact wpAny_getItem_of (jT m) dd.mapOf i (h w' _ (I.tok _) f)
 ·subst ey
  cases (show u=Value.ref b from m)
  obtain ⟨z,q,r,d,dd⟩:=jW I.hok e
  obtain ⟨w',i,f⟩:=RelO.some_of (v:=v) (o:=(atKey r k).map (·.2)) (by rw [l];exact d.val k)
  obtain ⟨p,x,j⟩:=Option.map_eq_some_iff.mp i
  refine wpAny_getItem_heap (tupleKind_room_in1 C) (gh I.hok eb) dd x ?_
  rw [j]
  exact h w' _ (I.tok _) f
theorem Cu{Q:Value->Shared->Prop}(j:A.units+1<cLine)(I:Inv X pins σ H s)(g:DGet H a y o)(i:RelV y u)(h:∀s',Inv X pins σ H s'->Q (.bool o.isSome) s') :
  wpAny (model X.prog X.w) A (compareOp .In u (.ref a)) Q E s:=by
 rcases g with ⟨kvs,k,e,ey,l⟩ | ⟨kvs,k,b,e,ey,eb,l⟩
 ·subst ey
  obtain ⟨z,f,vs,d,dd⟩:=jX I.hok e
  refine wpAny_in_of (jT i) f dd.mapOf ?_
  rw [← (d.val k).isSome_eq,← l]
  exact h _ (I.tok _)
 ·subst ey
  cases (show u=Value.ref b from i)
  obtain ⟨z,f,m,d,dd⟩:=jW I.hok e
  refine wpAny_in_heap (tupleKind_room_in1 j) (gh I.hok eb) f dd ?_
  have q:=(d.val k).isSome_eq
  rw [Option.isSome_map] at q
  rw [← q,← l]
  exact h _ (I.tok _)
theorem yC{Q:Value->Shared->Prop}(j:A.units+1<cLine)(I:Inv X pins σ H s)(g:DGet H a y o)(i:RelV y u)(h:∀s',Inv X pins σ H s'->Q (.bool (!o.isSome)) s') :
  wpAny (model X.prog X.w) A (compareOp .NotIn u (.ref a)) Q E s:=by
 rcases g with ⟨kvs,k,e,ey,l⟩ | ⟨kvs,k,b,e,ey,eb,l⟩
 ·subst ey
  obtain ⟨z,f,vs,d,dd⟩:=jX I.hok e
  refine wpAny_notIn_of (jT i) f dd.mapOf ?_
  rw [← (d.val k).isSome_eq,← l]
  exact h _ (I.tok _)
 ·subst ey
  cases (show u=Value.ref b from i)
  obtain ⟨z,f,m,d,dd⟩:=jW I.hok e
  refine wpAny_notIn_heap (tupleKind_room_in1 j) (gh I.hok eb) f dd ?_
  have q:=(d.val k).isSome_eq
  rw [Option.isSome_map] at q
  rw [← q,← l]
  exact h _ (I.tok _)
theorem ii{h':Heap}{t':Nat}{ob:HO}(I:Inv X pins σ H s)(mu:Mut (H a))(hs:Heap.SameBut a s.heap h')(he:∃q,h'.get? a=some q)(new:ObjOk X.prog X.w (upd H a ob) h' a ob) :
  Inv X pins σ (upd H a ob) {s with heap:=h',toks:=t'} :=
 I.write (x:=a) (e:=a) mu (.inl rfl) (λb q hb z=>(hs.2 b hb).trans z) he new
theorem rm{P:Program}{w:World}{H':Hp}{h':Heap}{kvs:List (Key×V)}{vs:List (Key×Value)}(z:kvs.length<=sizeLine)(hd:(a==sysModules)=false)(rel:KV kvs vs)(dd:h'.DictOf (aK P w) a vs) :
  ObjOk P w H' h' a (.dK kvs):=⟨z,hd,vs,rel,dd⟩
theorem t7{F:Hp}{Q:Unit->Shared->Prop}(hu:A.units+1<cLine)(I:Inv X pins σ H s)(g:DPut H a y v F)(G:RelV y u)(J:RelV v r)(h:∀s',Inv X pins σ F s'->Q () s') :
  wpAny (model X.prog X.w) A (setItem (.ref a) u r) Q E s:=by
 rcases g with ⟨kvs,k,e,ey,l,eH⟩ | ⟨kvs,k,b,e,ey,eb,l,eH⟩
 ·subst ey eH
  obtain ⟨z,j,vs,d,dd⟩:=wE I.hok e
  have m:vs.length<=sizeLine:=by rw [← d.length];exact z
  have o:(bx kvs k v).length<=sizeLine:=by have:=ce kvs k v;omega
  refine wpAny_setItem_pairs (hsz:=m) (jT G) dd λC f x=>h _ ?_
  have Z:∃q,C.get? a=some q:=let ⟨q,_,_,i,_⟩:=f;⟨q,i⟩
  exact ii I (by rw [e];exact ϰ) x Z (rm o j (d.put k J) f)
 ·subst ey eH
  cases (show u=Value.ref b from G)
  obtain ⟨z,j,K,d,dd⟩:=sD I.hok e
  have m:K.length<=sizeLine:=by rw [← Paired.length d];exact z
  have o:(bx kvs k v).length<=sizeLine:=by have:=ce kvs k v;omega
  refine wpAny_setItem_heap (hsz:=m) (tupleKind_room_in1 hu) (gh I.hok eb) dd λC f x=>h _ ?_
  obtain ⟨q,L,O,i,P,U,W,_,Y⟩:=f
  refine ii I (by rw [e];exact ϰ) x ⟨q,i⟩ ⟨o,j,_,(d.put k eb J).keeps λc ys D=>?_,q,L,O,i,P,U,W,Y⟩
  rw [ao (i4 D e (λz=>nomatch z))]
  exact D
end
def B7(i:Expr):Prop:=∀ov iv,subscripted i false ov iv=operate [ov,iv] (getItem ov iv)
theorem xj{prog:Program}{w:World}{A:Around}{E:Value->Shared->Prop}{s:Shared}{env:Env}{d b:Expr}{pos:Pos}{T id:String}{Q:Value->Shared->Prop}
  (q:typeLookup (.type T) "__getitem__"=pure (some (.builtin id)))(u:B7 b)
  (h:wpAny (model prog w) A (eval d env) (λo s₁=>wpAny (model prog w) A (eval b env) (λi s₂=>s₂.TypeIs o T/\wpAny (model prog w) A (getItem o i) Q E s₂) E s₁) E s) :
  wpAny (model prog w) A (eval (.Subscript d b pos) env) Q E s:=by
 refine Subscript_ (wpAny_mono h (λo s₁ l=>wpAny_mono l (λi s₂ f=>?_) λ_ _ x=>x) λ_ _ x=>x)
 obtain ⟨g,f⟩:=f
 unfold subscriptTail
 refine ε ?_
 rw [getitemInPython_of_ne g.not_modules]
 refine ε (wpAny_specialOf g q ?_)
 have e:wpAny (model prog w) A (subscripted b false o i) (λr j=>wpAny (model prog w) A (letTemporaryGo d o r >>= λ_=>pure r) Q E j) E s₂:=by
  rw [u o i]
  exact wpAny_operating (wpAny_mono f (λr j m=>ε (wpAny_letTemporaryGo (π m))) λ_ _ x=>x)
 first
  | exact π (ε e)
  | exact ε (π (ε e))
  | exact ε e
theorem qg{X:Cx}{d:List (Addr×Obj)}{σ:St}{H:Hp}{s:Shared}{a:Addr}{y:V}{o:Option V}(I:Inv X d σ H s)(g:DGet H a y o):s.TypeIs (.ref a) "dict":=by
 rcases g with ⟨kvs,k,e,_,_⟩ | ⟨kvs,k,b,e,_,_,_⟩
 ·obtain ⟨_,_,vs,_,dd⟩:=jX I.hok e
  exact dd.typeIs
 ·obtain ⟨_,_,f,_,dd⟩:=jW I.hok e
  exact dd.typeIs
inductive XDG (Q:VK) (x y:V) (H:Hp):Prop|mk a v:x=.ref a->DGet H a y (some v)->Q v H->XDG Q x y H
def Bp(td ty:TE):TE:=fun σ H Q=>td σ H λx H1=>ty σ H1 λy H2=>XDG Q x y H2
def Cg(ty td:TE):TE:=fun σ H Q=>ty σ H λy H1=>td σ H1 λx H2=>∃a o,x=.ref a/\DGet H2 a y o/\Q (.bl o.isSome) H2
def xg(ty td:TE):TE:=fun σ H Q=>ty σ H λy H1=>td σ H1 λx H2=>∃a o,x=.ref a/\DGet H2 a y o/\Q (.bl (!o.isSome)) H2
def BE(td ty tv:TE):TS:=λD σ H=>tv σ H λv H1=>td σ H1 λx H2=>ty σ H2 λy H3=>∃a H4,x=.ref a/\DPut H3 a y v H4/\D.nx σ H4
section
variable {X:Cx}{o i e value:Expr}{pos pos' tpos:Pos}{td ty tv:TE}
theorem ie(w:X.A.units+1<cLine)(z:PE X o td)(C:PE X i ty)(D:B7 i):PE X (.Subscript o i pos) (Bp td ty):=by
 intro b s σ H Q I h
 refine xj PySem.F.slot_dict_getitem.lookup D (thn (z b s σ H _ I h) λu f ⟨x,H1,j,l,q1⟩=>thn (C b f σ H1 _ j q1) λG J ⟨y,m,e,q,a,v,ex,g,q2⟩=>?_)
 subst ex
 obtain rfl:u=Value.ref a:=l
 exact ⟨qg e g,t8 w e g q λK L r d=>⟨v,m,r,d,q2⟩⟩
theorem vh(r:X.A.units+1<cLine)(w:PE X i ty)(z:PE X o td):PC X .In i o (Cg ty td):=by
 intro b s σ H Q I h
 refine thn (w b s σ H _ I h) λC d ⟨y,H1,e,f,q1⟩=>thn (z b d σ H1 _ e q1) λu D ⟨x,j,l,m,a,ov,ex,g,q2⟩=>?_
 subst ex
 obtain rfl:u=Value.ref a:=m
 exact Cu r l g f λF q=>⟨.bl ov.isSome,j,q,ϱ,q2⟩
theorem jD(r:X.A.units+1<cLine)(w:PE X i ty)(z:PE X o td):PC X .NotIn i o (xg ty td):=by
 intro b s σ H Q I h
 refine thn (w b s σ H _ I h) λC d ⟨y,H1,e,f,q1⟩=>thn (z b d σ H1 _ e q1) λu D ⟨x,j,l,m,a,ov,ex,g,q2⟩=>?_
 subst ex
 obtain rfl:u=Value.ref a:=m
 exact yC r l g f λF q=>⟨.bl (!ov.isSome),j,q,ϱ,q2⟩
theorem hZ(G:X.A.units+1<cLine)(J:PE X o td)(K:PE X i ty)(L:PE X value tv)(O:swapsWith value (some (.Subscript o i pos')) pos.line X.env=pure false) :
  PS X (.Assign [.Subscript o i pos'] value pos) (BE td ty tv):=by
 intro b s σ H D I h
 refine wpAny_Assign_Subscript (thn (L b s σ H _ I h) λr d ⟨v,H1,e,f,q1⟩=>thn (J b d σ H1 _ e q1) λu j ⟨x,l,m,q,q2⟩=>thn (K b j σ l _ m q2) λP Q ⟨y,U,w,z,a,C,ex,g,q3⟩=>?_) O
 subst ex
 obtain rfl:u=Value.ref a:=q
 exact t7 G w g z f λW F=>⟨σ,C,F,q3⟩
end
theorem wF{P:Program}{w:World}{H:Hp}(h:Heap)(hb:sysModules<h.objs.size):ObjOk P w H (h.push {cls:=.type "dict",data:=.dict #[]}) h.objs.size (.dK []) :=
 ⟨ϖ _,beq_eq_false_iff_ne.mpr (Ne.symm (Φ hb)),[],.nil,Heap.DictOf.new h⟩
theorem wB{P:Program}{w:World}{H:Hp}(h:Heap)(hb:sysModules<h.objs.size):ObjOk P w H (h.push {cls:=.type "dict",data:=.dict #[]}) h.objs.size (.dT []) :=
 ⟨ϖ _,beq_eq_false_iff_ne.mpr (Ne.symm (Φ hb)),[],.nil,_,#[],0,ψ _ rfl,⟨ϱ,ϱ,ϱ⟩,ϱ,ϱ,List.nodup_nil⟩
def zy:TE:=λ_ H Q=>∀p,H p=none->Q (.ref p) (upd H p (.dK []))
def zv:TE:=λ_ H Q=>∀p,H p=none->Q (.ref p) (upd H p (.dT []))
section
variable {X:Cx}{pos:Pos}
theorem gT:PE X (.Dict [] [] pos) zy:=λpins s σ H Q I h =>
 wpAny_Dict_empty ⟨.ref s.heap.objs.size,_,I.laid (a:=s.heap.objs.size) (o:=.dK []) (t':=s.toks) (λ_ _ q=>ρ _ q) (ι _) (wF s.heap I.big),ϱ,h _ (I.hok.fresh (ι _))⟩
theorem eF:PE X (.Dict [] [] pos) zv:=λpins s σ H Q I h =>
 wpAny_Dict_empty ⟨.ref s.heap.objs.size,_,I.laid (a:=s.heap.objs.size) (o:=.dT []) (t':=s.toks) (λ_ _ q=>ρ _ q) (ι _) (wB s.heap I.big),ϱ,h _ (I.hok.fresh (ι _))⟩
end
def aJ(kvs more:List (Key×V)):List (Key×V):=more.foldl (λacc kv=>bx acc kv.1 kv.2) kvs
theorem KV.merge:∀{more:List (Key×V)} {d:List (Key×Value)} {b:List (Key×V)} {vs:List (Key×Value)},KV more d->KV b vs->KV (aJ b more) (merged vs d):=by
 intro more d b vs r
 unfold KV at r
 induction r generalizing b vs with
 | nil=>intro q;exact q
 | @cons p q ps qs h t ih =>
  intro f
  have e:KV (bx b p.1 p.2) (stored vs q.1 q.2):=by
   have:=f.put p.1 h.2
   rw [← h.1];exact this
  exact ih e
theorem cY:∀(more kvs:List (Key×V)),(aJ kvs more).length<=kvs.length+more.length
 | [],kvs=>by show kvs.length<=kvs.length+0;omega
 | p::r,kvs=>by
  have h1:=cY r (bx kvs p.1 p.2)
  have h2:=ce kvs p.1 p.2
  show (aJ (bx kvs p.1 p.2) r).length<=_
  rw [List.length_cons];omega
structure M1(X:Cx)(o:Expr)(m:Str)(apos:Pos)(e:Expr)(cpos:Pos):Prop where
 base:attributeBase o m X.env (eval o X.env)=eval o X.env
 few:((backTo cpos (starEach [e] X.env)).all (λx=>!x.1)&&(backToKw cpos (keywordEach [] X.env)).all (λx=>x.1.isSome)
  && decide (([e]:List Expr).length+([]:List Keyword).length+(if ([]:List Keyword).isEmpty then 0 else 1)<30))=true
 line:(apos.endLine==cpos.line)=true
 trees:backTo cpos (starEach [e] X.env)=[(false,eval e X.env)]
structure M2(X:Cx)(o:Expr)(m:Str)(apos:Pos)(e f:Expr)(cpos:Pos):Prop where
 base:attributeBase o m X.env (eval o X.env)=eval o X.env
 few:((backTo cpos (starEach [e,f] X.env)).all (λx=>!x.1)&&(backToKw cpos (keywordEach [] X.env)).all (λx=>x.1.isSome)
  && decide (([e,f]:List Expr).length+([]:List Keyword).length+(if ([]:List Keyword).isEmpty then 0 else 1)<30))=true
 line:(apos.endLine==cpos.line)=true
 trees:backTo cpos (starEach [e,f] X.env)=[(false,eval e X.env),(false,eval f X.env)]
def IsD(H:Hp)(a:Addr):Prop:=(∃kvs,Rd H a (.dK kvs))\/∃kvs,Rd H a (.dT kvs)
theorem jK{X:Cx}{f:List (Addr×Obj)}{σ:St}{H:Hp}{s:Shared}{a:Addr}(I:Inv X f σ H s)(d:IsD H a) :
  s.TypeIs (.ref a) "dict"/\(∀b,Value.ref a=.ref b->∃ob,s.heap.get? b=some ob/\ob.dict=none)/\(a==sysModules)=false:=by
 rcases d with ⟨kvs,e⟩ | ⟨kvs,e⟩
 ·obtain ⟨_,g,vs,_,dd⟩:=jX I.hok e
  refine ⟨dd.typeIs,λb q=>?_,g⟩
  cases q
  obtain ⟨ob,_,_,h1,h,_⟩:=dd
  exact ⟨ob,h1,h.2.1⟩
 ·obtain ⟨_,g,i,_,dd⟩:=jW I.hok e
  refine ⟨dd.typeIs,λb q=>?_,g⟩
  cases q
  obtain ⟨ob,_,_,h1,h,_⟩:=dd
  exact ⟨ob,h1,h.2.1⟩
section
variable {X:Cx}{pins:List (Addr×Obj)}{σ:St}{H:Hp}{s:Shared}{a:Addr}{y d:V}{u r:Value}{o:Option V}{A:Around}{E:Value->Shared->Prop}
theorem AV{Q:Value->Shared->Prop}(m:A.units+1<cLine)(I:Inv X pins σ H s)(g:DGet H a y o)(i:RelV y u)(h:∀w' s',Inv X pins σ H s'->RelV (o.getD .non) w'->Q w' s') :
  wpAny (model X.prog X.w) A (call (.builtin "dict.get") [.ref a,u]) Q E s:=by
 rcases g with ⟨kvs,k,e,ey,l⟩ | ⟨kvs,k,b,e,ey,eb,l⟩
 ·subst ey
  obtain ⟨z,f,vs,d,dd⟩:=jX I.hok e
  refine call_meetsIn PySem.F.slot_dict_get dd.typeIs PySem.F.entry_dict_get (PySem.F.args_dict_get_2 _ _) (meets_dict_get (aK X.prog X.w) a (jT i) f) ⟨_,dd.mapOf,h _ _ (I.tok _) ?_⟩
  rw [l]
  exact (d.val k).getD rfl
 ·subst ey
  cases (show u=Value.ref b from i)
  obtain ⟨z,f,j,d,dd⟩:=jW I.hok e
  refine call_meetsIn PySem.F.slot_dict_get dd.typeIs PySem.F.entry_dict_get (PySem.F.args_dict_get_2 _ _) (meetsH_dict_get (tupleKind (aK X.prog X.w)) a b f) ⟨tupleKind_room_in1 m,k,j,gh I.hok eb,dd,h _ _ (I.tok _) ?_⟩
  rw [l]
  exact (d.val k).getD rfl
theorem AU{Q:Value->Shared->Prop}(x:A.units+1<cLine)(I:Inv X pins σ H s)(g:DGet H a y o)(j:RelV y u)(m:RelV d r)(h:∀w' s',Inv X pins σ H s'->RelV (o.getD d) w'->Q w' s') :
  wpAny (model X.prog X.w) A (call (.builtin "dict.get") [.ref a,u,r]) Q E s:=by
 rcases g with ⟨kvs,k,e,ey,l⟩ | ⟨kvs,k,b,e,ey,eb,l⟩
 ·subst ey
  obtain ⟨z,i,vs,f,dd⟩:=jX I.hok e
  refine call_meetsIn PySem.F.slot_dict_get dd.typeIs PySem.F.entry_dict_get (PySem.F.args_dict_get_3 _ _ _) (meets_dict_get_default (aK X.prog X.w) a (jT j) i r) ⟨_,dd.mapOf,h _ _ (I.tok _) ?_⟩
  rw [l]
  exact (f.val k).getD m
 ·subst ey
  cases (show u=Value.ref b from j)
  obtain ⟨z,i,q,f,dd⟩:=jW I.hok e
  refine call_meetsIn PySem.F.slot_dict_get dd.typeIs PySem.F.entry_dict_get (PySem.F.args_dict_get_3 _ _ _) (meetsH_dict_get_default (tupleKind (aK X.prog X.w)) a b i r) ⟨tupleKind_room_in1 x,k,q,gh I.hok eb,dd,h _ _ (I.tok _) ?_⟩
  rw [l]
  exact (f.val k).getD m
end
def zB(td ty:TE):TE:=fun σ H Q=>td σ H λx H1=>∃a,x=.ref a/\IsD H1 a/\ty σ H1 λy H2=>∃o,DGet H2 a y o/\Q (o.getD .non) H2
def zA(td ty tx:TE):TE:=fun σ H Q=>td σ H λx H1=>∃a,x=.ref a/\IsD H1 a/\ty σ H1 λy H2=>tx σ H2 λz H3=>∃o,DGet H3 a y o/\Q (o.getD z) H3
section
variable {X:Cx}{o e f:Expr}{apos cpos:Pos}{td ty tx:TE}
theorem vf(G:X.A.units+1<cLine)(J:PE X o td)(K:PE X e ty)(m:M1 X o "get" apos e cpos):PE X (.Call (.Attribute o "get" apos) [e] [] cpos) (zB td ty):=by
 intro b s σ H Q I h
 refine wpAny_Call_method m.base m.few m.line PySem.F.plainAttrs_dict PySem.F.slot_dict_get PySem.F.type_dict_get (thn (J b s σ H _ I h) λu q ⟨x,H1,i,r,a,ex,d,q1⟩=>?_)
 subst ex
 obtain rfl:u=Value.ref a:=r
 obtain ⟨j,l,_⟩:=jK i d
 refine ⟨j,l,?_⟩
 rw [m.trees]
 refine Calls.callWith_builtin rfl (Calls.evalArgs_plain (Calls.spliced_cons (thn (K b q σ H1 _ i q1) λL O ⟨y,w,z,C,ov,g,q2⟩=>Calls.spliced_nil ?_)))
 exact AV G z g C λP U D f=>⟨_,w,D,f,q2⟩
theorem pO(U:X.A.units+1<cLine)(W:PE X o td)(Y:PE X e ty)(hf:PE X f tx)(m:M2 X o "get" apos e f cpos):PE X (.Call (.Attribute o "get" apos) [e,f] [] cpos) (zA td ty tx):=by
 intro b s σ H Q I h
 refine wpAny_Call_method m.base m.few m.line PySem.F.plainAttrs_dict PySem.F.slot_dict_get PySem.F.type_dict_get (thn (W b s σ H _ I h) λu r ⟨x,H1,j,w,a,ex,d,q1⟩=>?_)
 subst ex
 obtain rfl:u=Value.ref a:=w
 obtain ⟨l,q,_⟩:=jK j d
 refine ⟨l,q,?_⟩
 rw [m.trees]
 refine Calls.callWith_builtin rfl (Calls.evalArgs_plain (Calls.spliced_cons (thn (Y b r σ H1 _ j q1) λZ C ⟨y,D,G,J,q2⟩ =>
  Calls.spliced_cons (thn (hf b C σ D _ G q2) λfv s3 ⟨z,K,L,O,ov,g,q3⟩=>Calls.spliced_nil ?_))))
 exact AU U L g J O λw' s4 P i=>⟨_,K,P,i,q3⟩
end
end L2
namespace Lo
open PySem L2
def sPa(_:Frag)(H:Hp)(x:Pa)(v:V):Prop:=∃a,v=.ref a/\H a=some (.tup [.int x.1,.int x.2])
theorem sPa.c{K:Frag}{H:Hp}{x:Pa}{v:V}(h:sPa K H x v):cPa.rp K H x v:=by
 obtain ⟨a,rfl,e⟩:=h
 exact ⟨a,_,_,ϱ,.inl e,ϱ,ϱ⟩
theorem sPa.keep{K:Frag}{H b:Hp}{x:Pa}{v:V}(e:TSame H b)(h:sPa K H x v):sPa K b x v:=by
 obtain ⟨a,rfl,q⟩:=h
 exact ⟨a,ϱ,e _ _ q⟩
def pk(x:Pa):List Key:=[.inl x.1,.inl x.2]
theorem zV{x y:Pa}(h:pk x=pk y):x=y:=by
 unfold pk at h
 simp only [List.cons.injEq,Sum.inl.injEq,and_true] at h
 exact Prod.ext h.1 h.2
end Lo
namespace L2
open PySem PySem.Spec PyProof.Rows PySem.W Lo
def BB(mg:Str->Option Value)(h:Heap):Prop:=∃bm ob,mg "__builtins__"=some (.ref bm)/\bm≠builtinsNs/\h.get? bm=some ob/\ob.cls=.type "module"/\ob.dict=some builtinsNs/\ob.data=.plain
def eV(c:Addr)(q:Str):HO:=.ext λh=>∃o vs t,h.get? c=some o/\o.data=.fields vs/\vs[1]?=some (.str q t)
def k8(p:Pos)(c:Addr):Array Value:=#[]++#[rawInt p.line,rawInt p.col,.ref c]
theorem uz(p:Pos)(c:Addr):(k8 p c).toList=[rawInt p.line,rawInt p.col,.ref c]:=by simp [k8]
theorem uA(p:Pos)(c:Addr):codeAmong p (k8 p c).toList=some (.ref c):=by
 rw [uz]
 simp [codeAmong,rawInt]
theorem xa(p:Pos)(c:Addr):TriplesOk (k8 p c).toList:=by
 rw [uz]
 exact trivial
def Tb(H:Hp)(P:Addr)(p:Pos)(q:Str):Prop:=H P=some (.tbl #[])\/∃c,H P=some (.tbl (k8 p c))/\H c=some (eV c q)
def noT:HO->Prop
 | .tbl _=>False
 | _=>True
theorem wK{Pg:Program}{w:World}{H:Hp}{h:Heap}{c:Addr}{q:Str}{o:Obj}{vs:Array Value}{t:Tok}(e:h.get? c=some o)(d:o.data=.fields vs)(v:vs[1]?=some (.str q t)) :
  ObjOk Pg w H h c (eV c q):=⟨⟨o,vs,t,e,d,v⟩,⟨_,e⟩,λ_ _ ⟨o,vs,t,e,r⟩ k=>⟨o,vs,t,k _ e,r⟩⟩
end L2
namespace HT
open PySem PyProof.Rows
section
open PySem.SeqAt
open PySem.AutoSeq1 (wpAny_loadPart')
open PySem.MeetsSeq PySem.MeetsSeq2 PySem.MeetsSeq3
end
end HT
namespace L2
open PySem PySem.Spec PyProof.Rows PySem.W Lo
theorem Fun.okC{P:Program}{w:World}{K:Frag}{mg:Str->Option Value}{base:Heap}{x d:Str}{st:Stmt}{f:Addr}{g:FuncData}{N ps:List Str}{k:Nat}{sp:Sp}(F:Fun K x d st f g)(S:am N ps (defScope st))(len:∀vs H Q E,sp vs H Q E->vs.length=ps.length)
  (e:∀(A:Around) (b:List Env) (s:Shared) (H:Hp) (vs:List V) (Q:VK) (E:XK),Room k (A.deeper (envOfC d (defScope st) s.heap.objs.size f g.code))->sp vs H Q E ->
   ∃t,PSs (rn CX0 P w K mg base N d (defScope st) f g.code A b s H E).nox (defBody st) t/\t {nx:=λ_ H'=>Q .non H',rt:=Q} (start N vs) H):FnOk P w K mg base CX0 (k+1) f g ps sp:=by
 obtain ⟨y,od,kV,l,pm,an,m,z,o,rfl,r,i⟩:=F.ex
 refine zd r i S len λA b s H vs Q E u j=>?_
 obtain ⟨t,h,q⟩:=e A b s H vs Q E u j
 exact ⟨t,h.nox,q⟩
theorem sB{h B f:Heap}:∀{l:List Env},h.FunFrames B l->(∀b∈frs l,f.get? b=none)->h.FunFrames f l
 | [],_,_=>trivial
 | env::r,⟨k,⟨L,o,fr,_,e,d⟩,t⟩,n=>by
  have m:frs (env::r)=L::frs r:=by
   show List.filterMap _ (env::r)=_
   rw [List.filterMap_cons,fr]
   rfl
  rw [m] at n
  exact ⟨k,⟨L,o,fr,n L Ω,e,d⟩,sB t λb g=>n b (Θ _ g)⟩
def jh(l:List Env)(H:Hp)(h:Heap):Heap:=hideAll h (trk h H++frs l)
theorem jP{l:List Env}{H:Hp}{h:Heap}{b:Addr}{o:Obj}(e:h.get? b=some o)(n:H b=none)(nf:b∉frs l):(jh l H h).get? b=some o:=hideAll_get _ e λhm=>by
 rcases List.mem_append.mp hm with z | z
 ·have q:(H b).isSome=true:=(List.mem_filter.mp z).2
  rw [n] at q
  simp at q
 ·exact nf z
theorem lU{l:List Env}{H:Hp}{h:Heap}{b:Addr}{o:Obj}(e:(jh l H h).get? b=some o):h.get? b=some o/\H b=none/\b∉frs l:=by
 have d:h.get? b=some o:=of_hideAll _ e
 refine ⟨d,?_,λz=>?_⟩
 ·cases q:H b with
  | none=>rfl
  | some x =>
   have f:b∈trk h H++frs l:=List.mem_append_left _ (List.mem_filter.mpr ⟨List.mem_range.mpr (Heap.lt_size d),by simp [q]⟩)
   have z:(jh l H h).get? b=none:=hideAll_none _ f
   rw [z] at e
   cases e
 ·have z:(jh l H h).get? b=none:=hideAll_none _ (Ψ _ z)
  rw [z] at e
  cases e
def wU(pp:List (Addr×Obj))(cs:List (Addr×V))(h:Heap):Prop:=(∀p∈pp,h.get? p.1=some p.2)/\∀c∈cs,∃u,RelV c.2 u/\h.IsCell c.1 (some u)
def pB(X:Cx)(cs:List (Addr×V))(σ:St):Prop:=∀c∈cs,∃(i:Nat) (x:Str),X.N[i]?=some x/\σ[i]?=some (some c.2)/\X.env.kindOf x=some .cell/\X.env.cells.lookup x=some c.1/\X.fn x=true
section
variable {X:Cx}{pins:List (Addr×Obj)}{σ:St}{H:Hp}{s:Shared}
theorem Inv.nfr2(I:Inv X pins σ H s){b:Addr}{o:Obj}(e:X.base.get? b=some o):b∉frs X.stack:=λz=>by
 rcases ϕ.mp (I.stkSub b z) with z | z
 ·have:=η (I.ok.bs b o e).1
  rw [z] at this
  exact absurd this (Nat.not_lt.mpr I.ok.above)
 ·exact I.ok.nofr e z
theorem Inv.baseK(I:Inv X pins σ H s):∀b o,X.base.get? b=some o->(jh X.stack H s.heap).get? b=some o:=λb o e=>jP (I.bs b o e).1 (I.bs b o e).2 (I.nfr2 e)
theorem Inv.modB(I:Inv X pins σ H s):Mod X.K X.mg (jh X.stack H s.heap):=by
 obtain ⟨d,e,⟨f,g,h⟩,i⟩:=I.ok.mod
 have b:=I.baseK
 exact ⟨d.keeps b,e.keeps b,⟨f,g.keeps b,h⟩,i.keeps b⟩
theorem Inv.env0B(I:Inv X pins σ H s):Env0 X.prog X.w X.K X.mg (jh X.stack H s.heap) X.A X.stack s H:=by
 refine ⟨I.ok.frames,I.modB,λb o e=>⟨(lU e).1,(lU e).2.1⟩,Nat.le_of_eq (hideAll_size _ _),sB I.stack λb d=>?_,I.stkFree,I.hok,I.bare⟩
 cases z:(jh X.stack H s.heap).get? b with
 | none=>rfl
 | some o=>exact absurd d (lU z).2.2
theorem Inv.pinB{pp:List (Addr×Obj)}{cs:List (Addr×V)}(I:Inv X pins σ H s)(C:∀p∈pp,p∈X.pn)(D:pB X cs σ):wU pp cs (jh X.stack H s.heap):=by
 refine ⟨λp f=>?_,λc f=>?_⟩
 ·obtain ⟨e,n,h,j,_⟩:=I.pin p (List.mem_append_left _ (C p f))
  exact jP e n λz=>(ϕ.mp (I.stkSub _ z)).elim h j
 ·obtain ⟨i,x,h1,l,g,b,q⟩:=D c f
  obtain ⟨m,F,w⟩:=I.loc
  obtain ⟨u,r,y⟩:=w i x c.2 h1 l (.inr (.inl g))
  rcases y with ⟨z,_⟩ | ⟨_,c',e,o,ho,hd⟩
  ·rw [g] at z
   cases z
  ·rw [b] at e
   cases e
   refine ⟨u,r,o,jP ho (I.freeC x _ b) λz=>?_,hd⟩
   rcases ϕ.mp (I.stkSub _ z) with z | z
   ·exact I.cne x _ b z
   ·obtain ⟨_,G,d,_⟩:=I.ok.funs.mem z
    exact absurd (η d) (Nat.not_lt.mpr (I.ok.cab x _ q b))
end
structure wX(N:List Str)(x:Str)(sc:Scope)(cl:List (Str×Addr)):Prop where
 kind:sc.kind=.function
 co:sc.isCoroutine=false
 gen:sc.isGenerator=false
 nd:N.Nodup
 pre:N[0]?=some x
 par:sc.names.lookup x=some .local
 nocell:∀y∈sc.names,y.2≠.cell
 free:∀y,sc.names.lookup y=some .free->∃c,cl.lookup y=some c
 inj:∀y z c,cl.lookup y=some c->cl.lookup z=some c->y=z
def wI(CX:CXT)(P:Program)(w:World)(K:Frag)(mg:Str->Option Value)(base:Heap)(N:List Str)(qual:Str)(scope:Scope)(f:Addr)(cd:Value)(cl:List (Str×Addr))(A:Around)(outer:List Env)(s:Shared)(H:Hp)(E:XK):Cx where
 prog:=P
 w:=w
 K:=K
 mg:=mg
 base:=base
 A:=A.deeper (envX qual scope s.heap.objs.size f cd cl)
 N:=N
 s₀:=s
 H₀:=H
 env:=envX qual scope s.heap.objs.size f cd cl
 outer:=outer
 stack:=envX qual scope s.heap.objs.size f cd cl::outer
 ex:=[]
 calm:=true
 fn:=λ_=>false
 pn:=[]
 xe:=λe s'=>wpAny (model P w) (A.deeper (envX qual scope s.heap.objs.size f cd cl)) (leaving (envX qual scope s.heap.objs.size f cd cl) e) (λ_ s''=>CX outer H s E e s'') (λe' s''=>CX outer H s E e' s'') s'
end L2
namespace L2
open PySem PySem.Spec PyProof.Rows Lo
theorem sK{P:Program}{w:World}{K:Frag}{Q:Expr}(it:Addr)(lo:Int)(n:Nat):rE P w K Q (Itr lo n) [it] it (λi h=>IsLongIter h it (lo+(i:Nat)*1) ((n:Int)-(i:Nat)) 1) where
 mem:=by simp
 obj:=λi h st b hb=>by
  have e:b=it:=by simpa using hb
  subst e
  exact ⟨_,st,λv z=>by
   have z':Data.fields _=Data.cell v:=z
   cases z'⟩
 keep:=λi h h' st k=>k it (by simp) _ st
 item:=by
  intro X r u x y i d s σ H E I hf st C
  subst r u x
  obtain ⟨g,j,F,l,m,q⟩:=hf it (by simp)
  have W:=Walks.longrange (prog:=X.prog) (w:=X.w) (I.ok.hd y) it lo 1 n
  refine W.item i s _ _ C st λv h' D J f L=>?_
  obtain ⟨t,rfl⟩:=J
  have G:Inv X d σ H {s with heap:=h',toks:=D}:=I.turned (λb o hb e=>L b o (by simpa using hb) e) g j l m q
  refine ⟨_,ϱ,ny (s:={s with heap:=h',toks:=D}) (n:="longrange_iterator") f rfl rfl ζ ⟨.int (lo+i),H,G,⟨t,?_⟩,⟨ϱ,ϱ⟩,f,λb hb=>(hf b hb).1⟩⟩
  rw [Int.mul_one]
 done:=by
  intro X r u x y i d s σ H E I hf st C
  subst r u x
  obtain ⟨g,j,F,l,m,q⟩:=hf it (by simp)
  exact wpAny_pyNext_long_end (I.ok.hd y) st (by have:n<=i:=C;omega) λh' O=>⟨ϱ,I.turned (t':=s.toks) (λb o hb e=>O b o hb e) g j l m q⟩
 self:=λ_ _ _ _ _ st h=>wpAny_pyIter_longiter st h
section
variable {X:Cx}{tg:Expr}
theorem sV{f:List (Addr×Obj)}{σ:St}{H:Hp}{s:Shared}{R:It->Hp->Prop}{E:Value->Shared->Prop}{lo d:Int}{t u v:Tok}{i:Nat}(I:Inv X f σ H s)
  (q:R (Itr lo (d-lo).toNat) H):wpAny (model X.prog X.w) X.A (pyIter (.ref s.heap.objs.size)) (PIE X f σ tg R) E {s with heap:=s.heap.push {cls:=.type "range",data:=.fields #[.int lo t,.int d u,.int 1 v]},toks:=i}:=by
 have g:Inv X f σ H {s with heap:=s.heap.push {cls:=.type "range",data:=.fields #[.int lo t,.int d u,.int 1 v]},toks:=i}:=I.kept λb o e=>ρ _ e
 have j:lo+((0:Nat):Int)*1=lo:=by simp
 have l:(((d-lo).toNat:Nat):Int)-((0:Nat):Int)=Builtin.Range.rangeSize lo d 1:=by rw [rangeSize_one];split<;>omega
 have m:∀b,b∈[(s.heap.push {cls:=.type "range",data:=.fields #[.int lo t,.int d u,.int 1 v]}).objs.size]->b=(s.heap.push {cls:=.type "range",data:=.fields #[.int lo t,.int d u,.int 1 v]}).objs.size:=λb h=>by simpa using h
 cases hs:Builtin.Range.small lo d 1 with
 | true =>
  refine wpAny_pyIter_range (IsRange.new ..) hs ?_
  refine ⟨(s.heap.push {cls:=.type "range",data:=.fields #[.int lo t,.int d u,.int 1 v]}).objs.size,[(s.heap.push {cls:=.type "range",data:=.fields #[.int lo t,.int d u,.int 1 v]}).objs.size],_,_,H,ϱ,
   g.kept (t':=i) λb o e=>ρ _ e,k7 _ lo (d-lo).toNat,?_,λb h=>?_,q⟩
  ·show IsRangeIter _ _ (lo+((0:Nat):Int)*1) ((((d-lo).toNat:Nat):Int)-((0:Nat):Int)) 1
   rw [j,l]
   exact ψ _ rfl
  ·obtain rfl:=m b h
   exact g.fpOk (ι _) (g.hok.fresh (ι _))
 | false =>
  refine wpAny_pyIter_longrange (IsRange.new ..) hs ?_
  refine ⟨(s.heap.push {cls:=.type "range",data:=.fields #[.int lo t,.int d u,.int 1 v]}).objs.size,[(s.heap.push {cls:=.type "range",data:=.fields #[.int lo t,.int d u,.int 1 v]}).objs.size],_,_,H,ϱ,
   g.kept (t':=i) λb o e=>ρ _ e,sK _ lo (d-lo).toNat,?_,λb h=>?_,q⟩
  ·show IsLongIter _ _ (lo+((0:Nat):Int)*1) ((((d-lo).toNat:Nat):Int)-((0:Nat):Int)) 1
   rw [j,l]
   exact ψ _ rfl
  ·obtain rfl:=m b h
   exact g.fpOk (ι _) (g.hok.fresh (ι _))
def BY(ta:TA):TI:=fun σ H R=>ta σ H λvs H1=>∃i j:Int,vs=[.int i,.int j]/\R (Itr i (j-i).toNat) H1
theorem sY{a b:Expr}{ta:TA}{p pos:Pos}(m:Gl X "range")(o:X.mg "range"=none)(u:PA X [a,b] ta)(w:starEach [a,b] X.env=[(false,eval a X.env),(false,eval b X.env)]:=by rfl)(f:starEach [b] X.env=[(false,eval b X.env)]:=by rfl) :
  PI X tg (.Call (.Name "range" p) [a,b] [] pos) (BY ta):=by
 intro d s σ H R I h
 refine Call_ (l0 I m o boot_range (PyProof.Rows.callWith_type1 (thn (u pos d s σ H _ I h) λy z ⟨vs,H1,g,l,q1⟩=>?_) (by rw [w,f]) (by rw [f];rfl)))
 obtain ⟨i,j,e,q⟩:=q1
 subst e
 cases l with
 | cons r rr =>
  cases rr with
  | cons r' rr =>
   cases rr
   obtain ⟨t,rfl⟩:=r
   obtain ⟨x,rfl⟩:=r'
   exact call_range_2 (sV g q)
end
section
variable {H:Hp}{bl:St}{tt:TT}{te:TE}{Fin:List V->Hp->Prop}
theorem tN{lo:Int}{n:Nat}(b:Nat->List V->Hp->Prop)(h0:b 0 [] H)(g:n<=sizeLine)
  (h:∀(i:Nat) ys H,i<n->b i ys H->tt (some (.int (lo+i))::bl) H λc H2=>if c=true then te (some (.int (lo+i))::bl) H2 λy H3=>b (i+1) (ys++[y]) H3 else b (i+1) ys H2)
  (j:∀ys H,b n ys H->Fin ys H) :
  ∃(W:Nat->List V->Hp->Prop) (m:Nat),W 0 [] H/\m<=sizeLine/\∀i ys H,W i ys H->((Itr lo n).stop i H/\Fin ys H) \/
   ((Itr lo n).go i H/\i<m/\∀x H',(Itr lo n).yld i H x H'->tt (some x::bl) H' λc H2=>if c=true then te (some x::bl) H2 λy H3=>W (i+1) (ys++[y]) H3 else W (i+1) ys H2):=by
 refine ⟨λi ys H=>i<=n/\b i ys H,n,⟨ϖ _,h0⟩,g,?_⟩
 rintro i ys H ⟨l,p⟩
 by_cases hlt:i<n
 ·refine .inr ⟨hlt,hlt,λx H' y=>?_⟩
  obtain ⟨e,y⟩:=y
  subst e
  subst y
  have z:=h i ys _ hlt p
  have d:(λ(c:Bool) (H2:Hp)=>if c=true then te (some (.int (lo+i))::bl) H2 λy H3=>i+1<=n/\b (i+1) (ys++[y]) H3 else i+1<=n/\b (i+1) ys H2)=λc H2=>if c=true then te (some (.int (lo+i))::bl) H2 λy H3=>b (i+1) (ys++[y]) H3 else b (i+1) ys H2:=by
   have f:(i+1<=n)=True:=eq_true hlt
   funext c H2
   simp only [f,true_and]
  show tt _ _ _
  rw [d]
  exact z
 ·have e:i=n:=by omega
  subst e
  exact .inl ⟨ι _,j ys H p⟩
end
theorem vp{X:Cx}(n:Nat)(f:X.A.units+n<cLine):OpR X (compareOp .Eq) (λx y H Q=>qm X.K n H x y true/\Q (.bl true) H):=by
 intro b s σ H x y v u Q I d e h
 exact h.1 X.prog X.w X.A s v u f I.hok I.kIn d e X.prog X.w X.xe _ ⟨.bl true,H,I,ϱ,h.2⟩
open PySem.W
def jj(f:Addr)(q:Str)(pr:Arguments)(b:Expr)(sc:Scope)(cl:List (Str×Addr))(c:Addr):HO:=.ext λh=>∃pm ct,h.get? f=some {cls:=.type "function",data:=.func (kla_fn "<lambda>" q pr b sc cl pm (.ref c) ct)}
theorem p9{Pg:Program}{w:World}{H:Hp}{h:Heap}{f:Addr}{q:Str}{pr:Arguments}{b:Expr}{sc:Scope}{cl:List (Str×Addr)}{c:Addr}{pm ct:Value}(e:h.get? f=some {cls:=.type "function",data:=.func (kla_fn "<lambda>" q pr b sc cl pm (.ref c) ct)}) :
  ObjOk Pg w H h f (jj f q pr b sc cl c):=⟨⟨pm,ct,e⟩,⟨_,e⟩,λ_ _ ⟨pm,ct,e⟩ k=>⟨pm,ct,k _ e⟩⟩
def Bm(P:Addr)(p:Pos)(q:Str)(pr:Arguments)(b:Expr)(sc:Scope)(cl:List (Str×Addr)):TE:=λ_ H Q=>Tb H P p q/\∀f c H',Kp P H H'->H' P=some (.tbl (k8 p c))->((H P=some (.tbl #[])/\H c=none)\/H P=some (.tbl (k8 p c)))->H f=none->H' f=some (jj f q pr b sc cl c)->H' c=some (eV c q)->Q (.ref f) H'
theorem oP{X:Cx}{cl:List (Str×Addr)}{cc P:Addr}{pos:Pos}{q:Str}{J:Arguments}{b:Expr}{L:Scope}(x:X.env.code=.ref cc)(hC:codeHdIn X.K cc P=true)(hB:BB X.mg X.base)(hq:X.env.qual++"<lambda>"=q)
  (a7:closureFor L X.env=pure cl)(a8:defaultsOf J X.env=([],[])):PE X (.Lambda J b L pos) (Bm P pos q J b L cl):=by
 intro a6 s σ H Q I h
 obtain ⟨D,hQ⟩:=h
 subst hq
 refine kla_eval a8 ?_
 have hg:s.heap.Ns mainGlobals X.mg:=I.ok.mod.glob.keeps I.bk
 have C:CodeHd s.heap cc P:=codeHd_of_K I.kIn hC
 obtain ⟨bm,ob,b1,b2,b3,b4,b5,b6⟩:=hB
 have i:=I.bk _ _ b3
 have a0:bm≠mainGlobals:=λz=>by
  obtain ⟨o,es,ep,e,Y,_⟩:=hg
  rw [z,e] at i
  cases i
  rw [Y] at b6
  cases b6
 have nG:∀ps,s.heap.get? P=some (tabObj ps)->mainGlobals≠P/\bm≠P:=λps e=>by
  refine ⟨λz=>?_,λz=>?_⟩
  ·obtain ⟨o,es,ep,e',Y,_⟩:=hg
   rw [z,e] at e'
   cases e'
   cases Y
  ·rw [z,e] at i
   cases i
   cases b4
 rcases D with e | ⟨c,e,ec⟩
 ·have W:s.heap.get? P=some (tabObj #[]):=I.hok P _ e
  obtain ⟨n1,Z⟩:=nG _ W
  refine kla_makeFunction (mg:=X.mg) (clos:=cl) a7 I.ok.glob hg x C W trivial rfl n1 ⟨bm,ob,b1,b2,a0,Z,i,b4,b5,b6⟩ λc ct g tk hx j G a5 D=>?_
  obtain ⟨c₂,oc,vs,t,e2,aS,Y,hv⟩:=a5
  cases e2
  have a1:P<s.heap.objs.size:=η W
  have a2:H c=none:=I.hok.fresh j
  have w:H g.objs.size=none:=I.hok.fresh (Nat.le_of_lt (Nat.lt_of_le_of_lt j G))
  have cf:c≠g.objs.size:=Φ G
  have Pc:P≠c:=Φ (Nat.lt_of_lt_of_le a1 j)
  have Pf:P≠g.objs.size:=Φ (Nat.lt_trans (Nat.lt_of_lt_of_le a1 j) G)
  let H3:Hp:=upd (upd (upd H P (.tbl (k8 pos c))) c (eV c (X.env.qual++"<lambda>"))) g.objs.size (jj g.objs.size (X.env.qual++"<lambda>") J b L cl c)
  have O:∀d,d≠g.objs.size->d≠c->d≠P->H3 d=H d:=λd n1 Z n3=>(ao n1).trans ((ao Z).trans (ao n3))
  have a3:H3 g.objs.size=some (jj g.objs.size (X.env.qual++"<lambda>") J b L cl c):=ae
  have a4:H3 c=some (eV c (X.env.qual++"<lambda>")):=(ao cf).trans ae
  have U:H3 P=some (.tbl (k8 pos c)):=(ao Pf).trans ((ao Pc).trans ae)
  have old:∀d o,d≠P->H d=some o->H3 d=some o:=λd o n z=>(O d (aq z w) (aq z a2) n).trans z
  have kp:∀d o,d≠P->s.heap.get? d=some o->(g.push (kla_obj "<lambda>" (X.env.qual++"<lambda>") J b L cl ((X.mg "__name__").getD .none) c ct)).get? d=some o:=λd o n z=>ρ _ (hx d o n z)
  have F:∀d,H d=none->d≠P:=λd z y=>by
   rw [y,e] at z
   cases z
  have f:∀d o,noT o->H d=some o->d≠P:=λd o n z y=>by
   rw [y,e] at z
   cases z
   exact n
  have I3:Inv X a6 σ H3 {s with heap:=g.push (kla_obj "<lambda>" (X.env.qual++"<lambda>") J b L cl ((X.mg "__name__").getD .none) c ct),toks:=tk}:=by
   refine I.step (g':=s.gens) (d':=s.drawn) (t':=tk) (ch:=[]) (λ_ z=>nomatch z) (λd o _ _ _ z n=>kp d o (F d n) z) (λd o _ _ _ z n=>⟨o.slots,kp d o (F d n) z⟩) (λd o _ z n=>?_) (λd o _ z=>?_)
    (λd xs z=>old d _ (f d (.tup xs) trivial z) z) (λd o u z=>old d _ (f d (.frz o u) trivial z) z) (λd ps z=>?_) (λm hm=>?_) (λd u z=>?_) I.bare
   ·have l:=η z
    exact (O d (Φ (Nat.lt_of_lt_of_le l (Nat.le_of_lt (Nat.lt_of_le_of_lt j G)))) (Φ (Nat.lt_of_lt_of_le l j)) (F d n)).trans n
   ·by_cases y:d=P
    ·rw [y]
     exact ⟨_,ρ _ D⟩
    ·exact ⟨o,kp d o y z⟩
   ·by_cases y:d=P
    ·subst y
     rw [e] at z
     cases z
     exact ⟨#[rawInt pos.line,rawInt pos.col,.ref c],U⟩
    ·exact ⟨#[],by rw [old d _ y z];simp⟩
   ·obtain ⟨o,es,ep,ho,r⟩:=hm
    exact ⟨o,es,ep,kp _ o (F _ I.free) ho,r⟩
   ·by_cases y1:d=g.objs.size
    ·subst y1
     rw [a3] at z
     cases z
     exact p9 (ψ _ rfl)
    ·by_cases y2:d=c
     ·subst y2
      rw [a4] at z
      cases z
      exact wK (ρ _ aS) Y hv
     ·by_cases y3:d=P
      ·subst y3
       rw [U] at z
       cases z
       exact ρ _ D
      ·rw [O d y1 y2 y3] at z
       refine (I.hok d u z).stay (λa v ha q=>kp a v ?_ q) (λa q=>old a _ (f a (.own d) trivial q) q) λa xs q=>old a _ (f a (.tup xs) trivial q) q
       rcases ha with ha | ha
       ·rw [ha]
        exact y3
       ·exact f a (.own d) trivial ha
  exact ⟨.ref g.objs.size,H3,I3,ϱ,hQ _ c H3 (λd o n z=>old d o n z) U (.inl ⟨e,a2⟩) w a3 a4⟩
 ·have W:s.heap.get? P=some (tabObj (k8 pos c)):=I.hok P _ e
  obtain ⟨n1,Z⟩:=nG _ W
  refine kla_makeFunctionHit (mg:=X.mg) (clos:=cl) (cv:=.ref c) a7 I.ok.glob hg x C W (xa _ _) (uA _ _) ⟨bm,ob,b1,b2,a0,Z,i,b4,b5,b6⟩ λct g tk hk hz=>?_
  have w:H g.objs.size=none:=I.hok.fresh hz
  have sm:=ah (o:=jj g.objs.size (X.env.qual++"<lambda>") J b L cl c) w
  exact ⟨.ref g.objs.size,_,I.laid (o:=jj g.objs.size (X.env.qual++"<lambda>") J b L cl c) (t':=tk) (λd o z=>ρ _ (hk d o z)) hz (p9 (ψ _ rfl)),ϱ,
   hQ _ c _ (Kp.of sm) (sm _ _ e) (.inr e) w ae (sm _ _ ec)⟩
theorem p8{P:Program}{w:World}{K:Frag}{mg:Str->Option Value}{base:Heap}{A:Around}{d:List Env}{s:Shared}{H:Hp}{k:Nat}{f c:Addr}{q:Str}{pr:Arguments}{b:Expr}{g:Scope}{cl:List (Str×Addr)}{N:List Str}{x:Str}{fvs:List V}{cs:List (Addr×V)}{u:Value}{v:V}{Q:VK}
  (hr:Room (k+1) A)(e0:Env0 P w K mg base A d s H)(hB:wU [] cs base)(S:wX N x g cl)(U:N.length=fvs.length+1)(a5:∀y a,cl.lookup y=some a->∃v,(a,v)∈cs)
  (a6:∀(j:Nat) (y:Str) (v:V),N[j+1]?=some y->fvs[j]?=some v->g.names.lookup y=some .free/\∃a,cl.lookup y=some a/\∀v',(a,v')∈cs->v'=v)(hf:H f=some (jj f q pr b g cl c))(hc:H c=some (eV c q))(r:RelV v u)
  (hb:∀pm ct,BindsTo s (kla_fn "<lambda>" q pr b g cl pm (.ref c) ct) ⟨[u],[]⟩ [(x,u)])(G:∃t,PE (wI CX0 P w K mg base N q g f (.ref c) cl A d s H E0) b t/\t ((v::fvs).map some) H Q) :
  codeAny (model P w) A (.call (.ref f) ⟨[u],[]⟩) (CR CX0 d P w H s Q E0) s:=by
 have a1:s.heap.NoLimit:=e0.mod.nolimit.keeps λb o e=>(e0.bs b o e).1
 obtain ⟨⟨pm,ct,m⟩,_⟩:=(show ObjOk P w H s.heap f (jj f q pr b g cl c) from e0.hok f _ hf)
 obtain ⟨⟨oc,ws,t,W,X,hv⟩,_⟩:=(show ObjOk P w H s.heap c (eV c q) from e0.hok c _ hc)
 obtain ⟨_,Y⟩:=hB
 refine kla_callFunE (by have:=hr.dp;omega) m rfl S.co S.gen rfl ⟨c,oc,ws,t,ϱ,W,X,hv⟩ (hb pm ct _ _ _ _ ?_)
 refine wpAny_newFunctionEnv S.nocell (λy hy=>by obtain rfl:=ϵ.mp hy;exact S.par) (λh₁ a2 O=>⟨a1.fresh _ O,kla_codeExpr ?_⟩) S.kind
 have l:∀b o,s.heap.get? b=some o->h₁.get? b=some o:=λb o e=>O.extBut b o (Φ (η e)) (ρ _ e)
 obtain ⟨t,ht,hq⟩:=G
 have cN:∀y a,cl.lookup y=some a->∃v,(a,v)∈cs/\∃u,RelV v u/\s.heap.IsCell a (some u)/\H a=none:=λy a e=>by
  obtain ⟨v,L⟩:=a5 y a e
  obtain ⟨u,ru,o,m,X⟩:=Y _ L
  exact ⟨v,L,u,ru,⟨o,(e0.bs _ _ m).1,X⟩,(e0.bs _ _ m).2⟩
 have D:∀b:Addr,b∉(wI CX0 P w K mg base N q g f (.ref c) cl A d s H E0).ex:=λb z=>absurd (show b∈([]:List Addr) from z) (by simp)
 have I:Inv (wI CX0 P w K mg base N q g f (.ref c) cl A d s H E0) [] ((v::fvs).map some) H {s with heap:=h₁,toks:=s.toks+[(x,u)].length}:=by
  refine ⟨⟨e0.mod,S.kind,ϱ,ϱ,ι _,S.inj,λy hy=>?_,λy c h _=>absurd h (by show ¬(false=true);decide),λ_=>hr.hd,Around.frames_deeper e0.frames,.inr ⟨ϱ,ϱ⟩,λb z=>absurd z (D b),e0.bs,e0.bsz,λb _ _=>D b,λb z=>absurd z (D b),e0.funs,e0.frf⟩,
   rfl,e0.bare,Un.kept l,⟨_,a2,λi y v' h1 h2 h3=>?_⟩,λy a e=>?_,e0.hok.fresh (Nat.le_refl _),λy a e=>?_,λp hp=>absurd (show p∈([]:List (Addr×Obj)) from hp) (by simp),e0.hok.kept l,?_⟩
  ·have hy:g.names.lookup y=some .cell\/g.names.lookup y=some .free:=hy
   rcases hy with hy | hy
   ·exact absurd rfl (S.nocell _ (PySem.mem_of_lookup hy))
   ·exact S.free y hy
  ·cases i with
   | zero =>
    have e1:some x=some y:=S.pre.symm.trans h1
    cases e1
    have F:some (some v)=some (some v'):=h2
    cases F
    exact ⟨u,r,.inl ⟨S.par,by simp⟩⟩
   | succ j =>
    have F:(fvs.map some)[j]?=some (some v'):=h2
    rw [List.getElem?_map] at F
    cases e3:fvs[j]? with
    | none =>
     rw [e3] at F
     cases F
    | some v2 =>
     rw [e3] at F
     cases F
     obtain ⟨hf,a,ea,hu⟩:=a6 j y _ h1 e3
     obtain ⟨v3,L,Z,r3,⟨o,m,C⟩,_⟩:=cN y a ea
     obtain rfl:=hu _ L
     exact ⟨Z,r3,.inr ⟨.inr hf,a,ea,o,l _ _ m,C⟩⟩
  ·obtain ⟨v3,L,Z,r3,⟨o,m,C⟩,_⟩:=cN y a e
   exact ⟨_,o,l _ _ m,C⟩
  ·obtain ⟨v3,L,Z,r3,_,n⟩:=cN y a e
   exact n
  ·show _=N.length
   rw [U]
   simp
 refine wpAny_mono (ht [] _ _ H Q I hq) (λu s' hs=>?_) λe s' hs=>hs
 obtain ⟨v,H',J,rv,q⟩:=hs
 exact ⟨v,H',J.os,J.bare,J.base,J.hok,rv,q⟩
structure CloT(P:Program)(w:World)(K:Frag)(mg:Str->Option Value)(base:Heap)(k:Nat)(f:Addr)(sp:Sp)(H:Hp):Prop where
 fn:∃q pr b sc cl c,H f=some (jj f q pr b sc cl c)
 run:∀(H1:Hp) (A:Around) (outer:List Env) (s:Shared) (v:V) (u:Value) (Q:VK),Same H H1->Room k A->Env0 P w K mg base A outer s H1->RelV v u->sp [v] H1 Q E0->codeAny (model P w) A (.call (.ref f) ⟨[u],[]⟩) (CR CX0 outer P w H1 s Q E0) s
theorem CloT.keep{P:Program}{w:World}{K:Frag}{mg:Str->Option Value}{base:Heap}{k:Nat}{f:Addr}{sp:Sp}{H H':Hp}(h:CloT P w K mg base k f sp H)(e:Same H H'):CloT P w K mg base k f sp H' :=
 ⟨let ⟨q,pr,b,sc,cl,c,z⟩:=h.fn;⟨q,pr,b,sc,cl,c,e _ _ z⟩,λH1 A outer s v u Q e1 hr e0 r hs=>h.run H1 A outer s v u Q (e.trans e1) hr e0 r hs⟩
section
variable {X:Cx}{CX:CXT}{k:Nat}{f C:Addr}{fd:FuncData}{ps:List Str}{E:XK}{x m:Str}{p pos apos:Pos}{e o:Expr}{es:List Expr}{ta:TE}{t:TA}{cs:List (Addr×V)}
def zD(P:Program)(w:World)(K:Frag)(mg:Str->Option Value)(base:Heap)(k i:Nat)(sp:Sp)(t:TA):TE:=fun σ H Q=>∃f,σ[i]?=some (some (.ref f))/\(∃q pr b sc cl c,H f=some (jj f q pr b sc cl c))/\t σ H λvs H1=>∃v,vs=[v]/\CloT P w K mg base k f sp H1/\sp [v] H1 Q E0
theorem iZ{i:Nat}{sp:Sp}(P:Program)(w:World)(K:Frag)(mg:Str->Option Value)(base:Heap)(hN:X.N[i]?=some x)(hv:Vis X.env.scope x)(hr:Room k X.A)(ha:PA X [e] t)(hP:X.prog=P:=by rfl)(hw:X.w=w:=by rfl)(hK:X.K=K:=by rfl)(y:X.mg=mg:=by rfl)(C:X.base=base:=by rfl)
  (D:(x==("__debug__":Str))=false:=by decide)(F:(x==("__classdict__":Str))=false:=by decide)(he:starEach [e] X.env=(false,eval e X.env)::starEach [] X.env:=by rfl)(G:(backTo pos (starEach [] X.env)).any (·.1)=false:=by rfl) :
  PE X (.Call (.Name x p) [e] [] pos) (zD P w K mg base k i sp t):=by
 subst hP hw hK y C
 intro d s σ H Q I ⟨f,hσ,hf,h⟩
 have j:∀{σ':St} {g:Hp} {l:Shared},Inv X d σ' g l->(∃q pr b sc cl c,g f=some (jj f q pr b sc cl c))->FnAt f l.heap:=λ{σ' g l} J ⟨q,pr,b,sc,cl,c,z⟩=>by
  obtain ⟨⟨pm,ct,U⟩,_⟩:=(show ObjOk X.prog X.w g l.heap f (jj f q pr b sc cl c) from J.hok f _ z)
  exact ⟨_,_,_,_,U⟩
 refine wpAny_Call_Name_kw (thn ((qR (pos:=p) hN hv D F) d s σ H (λv g=>v=.ref f/\g=H) I ⟨_,hσ,ϱ,ϱ⟩) λu W ⟨v,H1,L,r,Y,Z⟩=>?_)
 subst Y
 subst Z
 cases r
 refine callWith_F (first:=[]) (j L hf) (thn (ha pos d W σ H1 _ L h) λus s2 ⟨vs,H2,o,r,v,ev,O,q⟩=>⟨j o O.fn,?_⟩) he G
 subst ev
 cases r with
 | cons rv rr =>
  cases rr
  refine wpAny_call (codeAny_mono (O.run H2 X.A X.stack s2 v _ Q (Same.refl _) hr o.env0 rv q) λr l m=>?_)
  cases r with
  | error e=>exact False.elim m
  | ok fl =>
   cases fl with
   | ret u=>exact o.after m
   | next=>exact False.elim m
   | brk=>exact False.elim m
   | cont=>exact False.elim m
def zq(X:Cx)(cs:List (Addr×V))(C:Addr)(m:Str)(sp:Heap->Sp)(E:XK)(ta:TE)(t:TA):TE:=fun σ H Q=>pB X cs σ/\ta σ H λx H1=>∃a dx fs,x=.ref a/\H1 a=some (.ins C dx fs)/\fs.lookup m=none /\
 t σ H1 λvs H2=>∀B,X.K.In B->wU [] cs B->sp B (x::vs) H2 Q E
theorem lQ{sp:Heap->Sp}{pl:Sem Bool}(he:PE X o ta)(c:Cls X.K C)(U:fm X.K C m f)(F:∀B:Heap,X.K.In B->FnOk X.prog X.w X.K X.mg B CX k f fd ps (sp B))(hr:Room k X.A)(hb:Binds X.K fd ps [])(hx:cV CX X E)(ha:PA X (e::es) t)
  (D:starEach (e::es) X.env=(false,eval e X.env)::starEach es X.env:=by rfl)(G:(backTo pos (starEach es X.env)).any (·.1)=false:=by rfl)
  (ht:eval (.Call (.Attribute o m apos) (e::es) [] pos) X.env=(do
   let ov ← eval o X.env
   standAt apos.atName
   let (f,first) ← holding [ov] (getMethod ov m pl)
   callWith pos f first (backTo pos (starEach (e::es) X.env)) (backToKw pos (keywordEach [] X.env))):=by rfl) :
  PE X (.Call (.Attribute o m apos) (e::es) [] pos) (zq X cs C m sp E ta t):=by
 intro b s σ H Q I ⟨hc,h⟩
 refine PySem.W.methodCall_KW (pl:=pl) (thn (he b s σ H _ I h) λu Z ⟨x,H1,O,rx,a,dx,fs,ex,ea,l,q⟩=>?_) ht
 subst ex
 obtain rfl:u=Value.ref a:=rx
 refine iJ O ea c U l ?_
 refine PySem.W.callWith_K (first:=[.ref a]) (h₀:=X.base) I.ok.mod.kin U.kp (thn (ha pos b Z σ H1 _ O q) λj y ⟨vs,P,g,r,q2⟩=>⟨g.kIn,?_⟩) D G
 have d:=q2 _ g.modB.kin (g.pinB (pp:=[]) (λp z=>nomatch z) hc)
 have J:=F _ g.modB.kin
 have L:Vals (.ref a::vs) (.ref a::j):=.cons rfl r
 have Y:((Value.ref a::j)++[]).length=ps.length:=by rw [List.append_nil,← L.length];exact J.len _ _ _ _ d
 have i:=hb y (.ref a::j) g.kIn Y
 rw [List.append_nil] at i
 refine wpAny_call (codeAny_mono (J.run X.A X.stack y P ⟨.ref a::j,[]⟩ (.ref a::j) (.ref a::vs) Q E hr g.env0B i L d) λr s' d=>?_)
 cases r with
 | error e=>exact hx b σ P y e s' g d
 | ok fl =>
  cases fl with
  | ret u=>exact g.after d
  | next=>exact False.elim d
  | brk=>exact False.elim d
  | cont=>exact False.elim d
end
theorem eR:plainId "dict.update.loop"=true:=by decide +kernel
theorem jV : entryFor table "dict.update.loop" = some Builtin.«dict.update.loop» := entryFor_of_tree (by kernel_rfl)
def rF(P:Program)(w:World)(h:Heap)(u:Value)(kv:Key×Value):Prop:=∃b key,u=.ref b/\h.IsTuple b #[key,kv.2]/\(aK P w).is kv.1 key=true
theorem rq{P:Program}{w:World}{A:Around}{R:Result->Shared->Prop}{d it t:Addr}(hh:A.in1.handled=none)(C:d≠it)(a7:d≠t)(a8:it≠t)(us:List Value)(g:List (Key×Value))(lk:us.length=g.length) :
  ∀(n i:Nat) (s:Shared) (f:List (Key×Value)) (tk:Tok),us.length-i=n->i<=us.length->s.heap.IsTupleIter it t i->s.heap.IsTuple t us.toArray->s.heap.DictOf (aK P w) d f->f.length+us.length<=sizeLine+i ->
   (∀(j:Nat) (u:Value) (h:Key×Value),us[j]?=some u->g[j]?=some h->rF P w s.heap u h/\u≠.ref d/\u≠.ref it) ->
   (∀h' tk',h'.DictOf (aK P w) d (merged f (g.drop i))->(∀b o,b≠d->b≠it->s.heap.get? b=some o->h'.get? b=some o)->R (.ok (.ret .none)) {s with heap:=h',toks:=tk'}) ->
   codeAny (model P w) A (.builtin "dict.update.loop" ⟨[.ref d,.ref it,.int i tk,.none],[]⟩) R s:=by
 intro n
 induction n with
 | zero =>
  intro i s f tk hn hi y K hd hz hp hR
  have e:i=us.length:=by omega
  subst e
  refine codeAny_builtin jV ?_
  rw [Around.under_plainId eR _]
  show wpAny _ A.in1 (pyNext (.ref it) >>= _) _ _ s
  refine wpAny_bind (wpAny_pyNext_tuple_end hh y K (by simp) λh' eb=>?_)
  have e0:g.drop us.length=[]:=by rw [lk];exact List.drop_length
  show wpAny _ _ (Builtin.Dict.addKeywords d [] >>= λ_=>ret Value.none) _ _ _
  refine ε (π (π ?_))
  refine hR h' s.toks ?_ (λb o _ nb e=>eb b o nb e)
  rw [e0]
  exact hd.extBut eb C
 | succ n ih =>
  intro i s f tk hn hi y K hd hz hp hR
  have G:i<us.length:=by omega
  have W:us[i]?=some us[i]:=ξ G
  have J:g[i]?=some (g[i]'(ω)):=ξ ω
  generalize us[i]=u at W
  generalize (g[i]'(ω))=h at J
  have ek:g.drop i=h::g.drop (i+1):=by
   rw [List.drop_eq_getElem_cons ω]
   rw [ξ ω] at J
   rw [Δ J]
  obtain ⟨⟨b,x,rfl,hb,D⟩,nd,ni⟩:=hp i u h W J
  have bd:b≠d:=λz=>nd (by rw [z])
  have X:b≠it:=λz=>ni (by rw [z])
  refine codeAny_builtin jV ?_
  rw [Around.under_plainId eR _]
  show wpAny _ A.in1 (pyNext (.ref it) >>= _) _ _ s
  refine wpAny_bind (wpAny_pyNext_tuple_item y K (by simpa using W) λh1 I l=>?_)
  have H:h1.IsTuple b #[x,h.2]:=by
   obtain ⟨o,m,r⟩:=hb
   exact ⟨o,(l.2 b X).trans m,r⟩
  have Y:h1.DictOf (aK P w) d f:=hd.sameBut l C
  have Z:h1.IsTuple t us.toArray:=by
   obtain ⟨o,m,r⟩:=K
   exact ⟨o,(l.2 t (Ne.symm a8)).trans m,r⟩
  refine ε (wpAny_holding (ε (wpAny_tryCatch ?_)))
  show wpAny _ _ (Builtin.Dict.pairItems (.ref b)) _ _ _
  unfold Builtin.Dict.pairItems
  refine ε (wpAny_typeOf H.typeIs ?_)
  rw [if_pos ζ]
  obtain ⟨ob,L,b0,nb,O⟩:=id H
  refine ε (wpAny_seqItems L O (π ?_))
  show wpAny _ _ (holding [x,h.2] (dictSet d x h.2)) _ _ _
  refine wpAny_holding (wpAny_dictSet_pairs D Y (λh2 a0 q=>?_) ω)
  refine π ⟨plainId_quiet eR _,ih (i+1) _ (stored f h.1 h.2) _ ω G ?_ ?_ a0 ?_ ?_ λh' tk' a1 kp=>?_⟩
  ·obtain ⟨o,m,r⟩:=I
   exact ⟨o,(q.2 it (Ne.symm C)).trans m,r⟩
  ·obtain ⟨o,m,r⟩:=Z
   exact ⟨o,(q.2 t (Ne.symm a7)).trans m,r⟩
  ·have:(stored f h.1 h.2).length<=f.length+1:=by
    unfold stored
    split
    ·rw [ν];omega
    ·rw [List.length_append];exact ι _
   omega
  ·intro j u2 a6 e1 e2
   obtain ⟨⟨b2,F,rfl,Q,U⟩,n1,n2⟩:=hp j u2 a6 e1 e2
   refine ⟨⟨b2,F,ϱ,?_,U⟩,n1,n2⟩
   obtain ⟨o,m,r⟩:=Q
   exact ⟨o,(q.2 b2 λz=>n1 (by rw [z])).trans ((l.2 b2 λz=>n2 (by rw [z])).trans m),r⟩
  ·refine hR h' tk' ?_ λb3 o3 x1 x2 e3=>kp b3 o3 x1 x2 ((q.2 b3 x1).trans ((l.2 b3 x2).trans e3))
   rw [ek]
   exact a1
theorem yh:typeLookup (.type "tuple") "keys"=pure none:=am_miss_of_fast (by kernel_rfl)
set_option maxRecDepth 100000 in
theorem qa{prog:Program}{w:World}{A:Around}{E:Value->Shared->Prop}{s:Shared}{a:Addr}{xs:Array Value}{k:Nat}{sl:Array (Option Value)}{Q:Option Value->Shared->Prop}
  (l:s.heap.get? a=some {cls:=.type "tuple",dict:=none,data:=.seq xs k,slots:=sl})(r:A.handled=none)
  (h:∀h' tk,(∀b o,s.heap.get? b=some o->h'.get? b=some o)->Q none {s with heap:=h',toks:=tk}) :
  wpAny (model prog w) A (getAttr? (.ref a) "keys") Q E s:=by
 obtain ⟨m,g,d,tk,q⟩:=s
 have j:∀f,(⟨m,g,d,f,q⟩:Shared).TypeIs (.ref a) "tuple":=λ_=>⟨_,l,ϱ⟩
 have z:=sub_AttributeError
 have C:=F.slot_tuple_getattribute.lookup
 have D:=F.slot_tuple_getattribute.bind (.ref a)
 have G:=am_tuple_getattr_none
 unfold getAttr? getAttrBy? getAttrBy
 repeat (any_goals (first | assumption | exact j _ | ((with_reducible show wpAny _ _ (call (Value.builtin "tuple.__getattribute__") _ _) _ _ _);refine call_meets F.slot_tuple_getattribute (j _) am_entry_tuple_getattribute (F.args_tuple_getattribute_2 _ _) (meets_getattribute_miss_tuple a xs k sl "keys" _ yh θ θ) ⟨l,r,λh' f e i=>?_⟩) | wp_step))
 obtain ⟨u,x,y⟩:=i.there
 show wpAny _ _ (getattributeRaised _ _ _ _ _ _ _) _ _ _
 unfold getattributeRaised
 repeat (any_goals (first | assumption | wp_step))
 exact h _ _ i.keeps
theorem kI{P:Program}{w:World}{A:Around}{E:Value->Shared->Prop}{s:Shared}{t:Addr}{us:List Value}{l:List (Key×Value)}{Q:Value->Shared->Prop}(hh:A.handled=none)(nd:s.heap.NoDictAt (.ref t))(ht:s.heap.IsTuple t us.toArray)(lk:us.length=l.length)(hz:us.length<=sizeLine)
  (hp:∀(j:Nat) (u:Value) (G:Key×Value),us[j]?=some u->l[j]?=some G->rF P w s.heap u G)
  (h:∀h' tk,h'.DictOf (aK P w) s.heap.objs.size (merged [] l)->(∀b o,s.heap.get? b=some o->h'.get? b=some o)->Q (.ref s.heap.objs.size) {s with heap:=h',toks:=tk}) :
  wpAny (model P w) A (call (.type "dict") [.ref t]) Q E s:=by
 refine callType_codes (Q₁:=λy s₁=>y=.ref s.heap.objs.size/\s₁={s with heap:=s.heap.push {cls:=.type "dict",data:=.dict #[]}}) F.kt_called_dict (F.kt_typeCall_dict_1 _) F.entry_dict_init (kt_code_dict_new _ ⟨ϱ,ϱ⟩) ?_
 rintro y s₁ ⟨rfl,rfl⟩
 have f:(s.heap.push {cls:=.type "dict",data:=.dict #[]}).DictOf (aK P w) s.heap.objs.size []:=Heap.DictOf.new s.heap
 obtain ⟨o,H,X,n,m⟩:=ht
 have K:=nd.of H
 have q:t<s.heap.objs.size:=η H
 refine ⟨f.typeIs,F.args_dict_init_2 _ _,?_⟩
 unfold Builtin.«dict.__init__»
 refine ε ?_
 unfold Builtin.Dict.selfAndRest
 refine ε (wpAny_notOrdered_dict f.typeIs ?_)
 show wpAny _ _ (pure (s.heap.objs.size,[Value.ref t])) _ _ _
 refine π ?_
 show wpAny _ _ (Builtin.Dict.updateFrom "dict.__init__" s.heap.objs.size (.ref t) [] .none) _ _ _
 unfold Builtin.Dict.updateFrom
 have g:(s.heap.push {cls:=.type "dict",data:=.dict #[]}).get? t=some o:=ρ _ H
 have L:({s with heap:=s.heap.push {cls:=.type "dict",data:=.dict #[]}}:Shared).TypeIs (.ref t) "tuple":=⟨o,g,X⟩
 refine ε (wpAny_typeOf L ?_)
 rw [if_pos ζ]
 obtain ⟨oc,od,I,a6⟩:=o
 cases (show oc=_ from X)
 cases (show od=_ from K)
 cases (show I=_ from m)
 refine ε (qa g hh λC a8 D=>?_)
 rw [if_pos (show (none:Option Value).isNone=true from rfl)]
 refine ε (wpAny_rule ?_)
 have x:C.DictOf (aK P w) s.heap.objs.size []:=by
  obtain ⟨o,Y,Z,e,r⟩:=f
  exact ⟨o,Y,Z,D _ _ e,r⟩
 have O:C.IsTuple t us.toArray:=⟨_,D _ _ g,ϱ,_,ϱ⟩
 refine ε (wpAny_pyIter_tuple O ?_)
 have i:s.heap.objs.size<C.objs.size:=by
  obtain ⟨o,Y,Z,e,r⟩:=x
  exact η e
 have kk:∀b o,s.heap.get? b=some o->(C.push {cls:=.type "tuple_iterator",data:=.fields #[.ref t,.int 0 0]}).get? b=some o:=λb o e=>ρ _ (D b o (ρ _ e))
 refine wpAny_pure ⟨plainId_quiet eR _,rq (A:=A.in1) (d:=s.heap.objs.size) (it:=C.objs.size) (t:=t) hh (Nat.ne_of_lt i) (Nat.ne_of_gt q) (Nat.ne_of_gt (Nat.lt_trans q i)) us l lk us.length 0 _ [] _ ω (Nat.zero_le _) ⟨_,Heap.get?_push_size _ rfl,ϱ,ϱ⟩ ?_ (x.push _) (by simp;exact hz) ?_ λh' U W kp=>?_⟩
 ·exact ⟨_,ρ _ (D _ _ g),ϱ,_,ϱ⟩
 ·intro j u G e1 e2
  obtain ⟨b,J,rfl,⟨o,hb,r⟩,hk⟩:=hp j u G e1 e2
  have lb:=η hb
  exact ⟨⟨b,J,ϱ,⟨o,kk _ _ hb,r⟩,hk⟩,λz=>absurd lb (by cases z;exact Nat.lt_irrefl _),λz=>absurd (Nat.lt_trans lb i) (by cases z;exact Nat.lt_irrefl _)⟩
 ·exact ⟨ϱ,h h' U W λb o e=>kp b o (Φ (η e)) (Φ (Nat.lt_trans (η e) i)) (kk b o e)⟩
section
variable {X:Cx}{es:List Expr}{t:TA}{pos:Pos}
def prD(H:Hp)(kv:Key×V)(u:V):Prop:=∃b,u=.ref b/\H b=some (.tup [kV kv.1,kv.2])
theorem rB(hc:X.calm=true):d0 X (.type "dict") (λxs H Q=>∃t us kvs,xs=[.ref t]/\(∀h,HOk X.prog X.w H h->∃its:List Value,Vals us its/\h.NoDictAt (.ref t)/\h.IsTuple t its.toArray)/\Paired (prD H) kvs us/\kvs.length<=1000/\∀p,H p=none->Q (.ref p) (upd H p (.dK (aJ [] kvs)))):=by
 intro D s σ H xs us Q I r h
 obtain ⟨t,vs,kvs,rfl,F,x,hl,q⟩:=h
 obtain ⟨u,rfl,G⟩:=d9 r
 cases G
 obtain ⟨its,y,nd,J⟩:=F _ I.hok
 have l1:=x.len
 have l2:=y.length
 have ex:∀{kvs:List (Key×V)} {vs:List V} {its:List Value},Paired (prD H) kvs vs->Vals vs its->∃f:List (Key×Value),KV kvs f/\its.length=f.length/\∀(j:Nat) (u:Value) (d:Key×Value),its[j]?=some u->f[j]?=some d->rF X.prog X.w s.heap u d:=by
  intro kvs vs its h
  induction h generalizing its with
  | nil=>intro r;cases r;exact ⟨[],.nil,rfl,λj u d e=>by cases e⟩
  | cons p _ ih =>
   rename_i d v kvs vs _
   intro r
   cases r with
   | cons r1 r2 =>
    obtain ⟨f,g,i,l⟩:=ih r2
    obtain ⟨b,rfl,K⟩:=p
    obtain ⟨_,L,O,P⟩:=(show ObjOk X.prog X.w H s.heap b (.tup [kV d.1,d.2]) from I.hok b _ K)
    obtain ⟨U,W,rfl,Y,m⟩:=uh O
    cases r1
    refine ⟨(d.1,W)::f,.cons ⟨ϱ,m⟩ g,congrArg (·+1) i,λj u o z C=>?_⟩
    cases j with
    | zero =>
     cases z
     cases C
     exact ⟨b,U,ϱ,P,jT Y⟩
    | succ j=>exact l j u o z C
 obtain ⟨f,g,i,l⟩:=ex x y
 have hs:(1000:Nat)<=sizeLine:=by decide
 have l3:=g.length
 refine kI (I.ok.hd hc) nd J i ω l λh' tk hd kp=>?_
 refine ⟨.ref s.heap.objs.size,_,I.laid (t':=tk) kp (ι _) ?_,ϱ,q _ (I.hok.fresh (ι _))⟩
 have Z:(aJ [] kvs).length<=sizeLine:=by
  have h1:=cY kvs []
  rw [List.length_nil] at h1
  omega
 exact rm Z (by have:=I.big;exact beq_false_of_ne (Nat.ne_of_gt this)) (g.merge .nil) hd
def TF(H:Hp)(t:Addr)(us:List V):Prop:=∃o,H t=some (.frz o (.tup us))/\o.dict=none
theorem rA(j:X.calm=true):d0 X (.type "dict") (λxs H Q=>∃t us kvs,xs=[.ref t]/\TF H t us/\Paired (prD H) kvs us/\kvs.length<=1000/\∀p,H p=none->Q (.ref p) (upd H p (.dK (aJ [] kvs)))):=by
 intro b s σ H xs us Q I r h
 obtain ⟨t,vs,kvs,rfl,⟨o,e,od⟩,q⟩:=h
 refine rB j b s σ H _ us Q I r ⟨t,vs,kvs,ϱ,λh ok=>?_,q⟩
 obtain ⟨f,z,d,g,i⟩:=(show ObjOk X.prog X.w H h t (.frz o (.tup vs)) from ok t _ e)
 exact ⟨d,g,⟨_,f,od⟩,i⟩
end
def Bo(td ty:TE):TE:=fun σ H Q=>td σ H λx H1=>∃a,x=.ref a/\IsD H1 a/\ty σ H1 λy H2=>∃b kvs more,y=.ref b/\a≠b/\H2 a=some (.dK kvs)/\H2 b=some (.dK more)/\kvs.length+more.length<=sizeLine/\Q .non (upd H2 a (.dK (aJ kvs more)))
theorem xD{X:Cx}{o e:Expr}{j l:Pos}{Z ty:TE}(ho:PE X o Z)(K:PE X e ty)(m:M1 X o "update" j e l):PE X (.Call (.Attribute o "update" j) [e] [] l) (Bo Z ty):=by
 intro i s σ H Q I h
 refine wpAny_Call_method m.base m.few m.line PySem.F.plainAttrs_dict PySem.F.slot_dict_update PySem.F.type_dict_update (thn (ho i s σ H _ I h) λu s1 ⟨x,H1,U,rx,a,ex,d,q1⟩=>?_)
 subst ex
 obtain rfl:u=Value.ref a:=rx
 obtain ⟨t1,t2,_⟩:=jK U d
 refine ⟨t1,t2,?_⟩
 rw [m.trees]
 refine Calls.callWith_builtin rfl (Calls.evalArgs_plain (Calls.spliced_cons (thn (K i s1 σ H1 _ U q1) λiv s2 ⟨y,H2,L,ry,b,O,more,ey,P,W,eb,hz,q2⟩=>Calls.spliced_nil ?_)))
 subst ey
 cases ry
 obtain ⟨z1,z,C,f,r⟩:=wE L.hok W
 obtain ⟨z2,D,G,g,J⟩:=wE L.hok eb
 refine call_meetsIn PySem.F.slot_dict_update r.typeIs PySem.F.entry_dict_update (PySem.F.args_dict_update_2 _ _) (meets_dict_update (aK X.prog X.w) a b P D) ⟨C,G,r,J,by rw [← f.length,← g.length];exact hz,λh' Y d2 hs=>?_⟩
 have K:∃q,h'.get? a=some q:=let ⟨q,_,_,hq,_⟩:=Y;⟨q,hq⟩
 refine ⟨.non,_,ii (t':=s2.toks) L (by rw [W];exact ϰ) hs K (rm ?_ z (g.merge f) Y),ϱ,q2⟩
 have:=cY more O
 omega
end L2
namespace L2
open PySem
theorem ik(P:Program)(w:World)(i:Int)(t:Tok):(intKind P w).is i (.int i t)=true:=by simp [intKind,Value.isInt]
abbrev fF:=(Int×Int)×Int
def hV(h:Heap)(k:fF)(a:Addr):Prop:=∃b t1 t2 t3,h.IsTuple a #[.ref b,.int k.2 t3]/\h.IsTuple b #[.int k.1.1 t1,.int k.1.2 t2]
theorem jk{h:Heap}{a:Addr}{xs ys:Array Value}(p:h.IsTuple a xs)(q:h.IsTuple a ys):xs=ys:=by
 obtain ⟨o,e,_,n,d⟩:=p
 obtain ⟨g,f,_,i,b⟩:=q
 cases e.symm.trans f
 rw [d] at b
 injection b
theorem jR{h h':Heap}{a d:Addr}{xs:Array Value}{o:Obj}{es ep}(p:h.IsTuple a xs)(e:h.get? d=some o)(c:o.data=.dict es ep)(j:Heap.SameBut d h h'):h'.IsTuple a xs:=by
 obtain ⟨g,f,i,n,b⟩:=p
 refine ⟨g,(j.2 a ?_).trans f,i,n,b⟩
 intro z
 subst z
 cases f.symm.trans e
 rw [c] at b
 cases b
theorem pV{h:Heap}{a:Addr}{x y:fF}(p:hV h x a)(q:hV h y a):x=y:=by
 obtain ⟨b,i,j,l,f,g⟩:=p
 obtain ⟨c,u1,m,o,q1,q2⟩:=q
 have d:=jk f q1
 simp only [Array.mk.injEq,List.cons.injEq,Value.ref.injEq,Value.int.injEq,and_true] at d
 obtain ⟨e0,d,_⟩:=d
 subst e0
 have e:=jk g q2
 simp only [Array.mk.injEq,List.cons.injEq,Value.int.injEq,and_true] at e
 exact Prod.ext (Prod.ext e.1.1 e.2.1) d
variable {prog:Program}{w:World}{A:Around}{E:Value->Shared->Prop}{s:Shared}
theorem yk{h:Heap}{b:Addr}{i j:Int}{t u:Tok}(p:h.IsTuple b #[.int i t,.int j u]):IsTupleKey (intKind prog w) h [i,j] b:=by
 obtain ⟨o,e,c,n,d⟩:=p
 exact ⟨o,_,n,e,c,d,.cons (ik prog w i t) (.cons (ik prog w j u) .nil)⟩
def lW(k:fF):Int:=reduceHash (Builtin.Tuple.tupleHashOf [reduceHash (Builtin.Tuple.tupleHashOf [hashInt k.1.1,hashInt k.1.2]),hashInt k.2])
theorem tI{k:fF}{a:Addr}{Q:Int->Shared->Prop}(r:A.units+1<cLine)(x:hV s.heap k a)(q:Q (lW k) {s with toks:=s.toks+5}) :
  wpAny (model prog w) A (pyHash (.ref a)) Q E s:=by
 obtain ⟨b,u,z,i,l,m⟩:=x
 have h:s.TypeIs (.ref a) "tuple":=let ⟨o,e,c,_⟩:=l;⟨o,e,c⟩
 obtain ⟨o,e,_,n,d⟩:=l
 unfold pyHash
 first | unfold pyHashByItsType | skip
 first | refine ε (wpAny_cRoomFor_or (.inr ω) ?_) | skip
 refine ε (wpAny_specialOf h F.slot_tuple_hash.lookup ?_)
 have j:¬((some (Value.builtin "tuple.__hash__")==some Value.none)=true):=by rw [beq_builtin_none];decide
 rw [if_neg j]
 refine ε (wpAny_specialOf h F.slot_tuple_hash.lookup ?_)
 refine ε (wpAny_callSpecialIfBoundUnlessNone?_slot h F.slot_tuple_hash (wpAny_call_entry F.slot_tuple_hash h F.entry_tuple_hash ?_ (F.args_tuple_hash_1 _)))
 show wpAny _ _ (Builtin.Tuple.tupleItemsOf (.ref a) >>= λ_=>_) _ _ s
 refine ε (wpAny_tupleItemsOf e d ?_)
 refine ε ?_
 rw [← Array.forIn_toList]
 refine wpAny_forIn_list _
  (λf (c:Array Int) g=>(f=[.ref b,.int k.2 i]/\c=#[]/\g=s)\/(f=[.int k.2 i]/\c=#[tupleKeyHash (intKind prog w) [k.1.1,k.1.2]]/\g={s with toks:=s.toks+3}) \/
   (f=[]/\c=#[tupleKeyHash (intKind prog w) [k.1.1,k.1.2],(intKind prog w).hash k.2]/\g={s with toks:=s.toks+4})) _ ?_ ?_ _ _ (.inl ⟨ϱ,ϱ,ϱ⟩)
 ·rintro y f c g (⟨e1,rfl,rfl⟩ | ⟨e1,rfl,rfl⟩ | ⟨e1,_⟩)
  ·injection e1 with e1 e2
   subst e1 e2
   refine ε (wpAny_pyHash_tuple (knd:=intKind prog w) (ks:=[k.1.1,k.1.2]) (by show A.units+1<cLine;exact r) (yk m) ?_)
   first
    | exact π (.inr (.inl ⟨rfl,rfl,rfl⟩))
    | exact ε (π (π (.inr (.inl ⟨rfl,rfl,rfl⟩))))
  ·injection e1 with e1 e2
   subst e1 e2
   refine ε ((intKind prog w).pyHash (ik prog w k.2 i) ?_)
   first
    | exact π (.inr (.inr ⟨rfl,rfl,rfl⟩))
    | exact ε (π (π (.inr (.inr ⟨rfl,rfl,rfl⟩))))
  ·cases e1
 ·rintro c g (⟨e1,_⟩ | ⟨e1,_⟩ | ⟨_,rfl,rfl⟩)
  ·cases e1
  ·cases e1
  show wpAny _ _ (retInt (Builtin.Tuple.tupleHashOf [tupleKeyHash (intKind prog w) [k.1.1,k.1.2],(intKind prog w).hash k.2])) _ _ _
  refine wpAny_ret_mkInt ?_
  have q:Q (reduceHash (Builtin.Tuple.tupleHashOf [tupleKeyHash (intKind prog w) [k.1.1,k.1.2],(intKind prog w).hash k.2])) {s with toks:=s.toks+5}:=q
  unfold reduceHash at q
  generalize Builtin.Tuple.tupleHashOf [tupleKeyHash (intKind prog w) [k.1.1,k.1.2],(intKind prog w).hash k.2]=H0 at q ⊢
  show wpAny _ _ (if (decide (-(2:Int) ^ 63<=H0)&&decide (H0<2 ^ 63))=true then _ else _) Q E _
  by_cases hr:(decide (-(2:Int) ^ 63<=H0)&&decide (H0<2 ^ 63))=true
  ·rw [if_pos hr] at q ⊢
   exact wpAny_pure (by simpa [Nat.add_assoc] using q)
  ·rw [if_neg hr] at q ⊢
   exact wpAny_bind (wpAny_rule (wpAny_pure (by simpa [Nat.add_assoc] using q)))
theorem mQ{n:Nat}{a:Addr}{b:Array Value}{Q:Bool->Shared->Prop}(p:s.heap.IsTuple a b)(y:∀v∈b.toList,∀R:Bool->Shared->Prop,R true s->wpAny (model prog w) A (eqIsQuiet n v) R E s)(q:Q true s) :
  wpAny (model prog w) A (eqIsQuiet (n+1) (.ref a)) Q E s:=by
 have x:s.TypeIs (.ref a) "tuple":=let ⟨o,e,c,_⟩:=p;⟨o,e,c⟩
 obtain ⟨o,e,_,m,d⟩:=p
 unfold eqIsQuiet
 refine ε (wpAny_specialOf x F.slot_tuple_eq.lookup ?_)
 refine ε (wpAny_isInstance x isSubtype_tuple_tuple ?_)
 simp only [Bool.not_true,Bool.false_eq_true,if_false]
 refine ε (wpAny_seqItems e d ?_)
 refine ε ?_
 show wpAny _ _ (forIn b _ _) _ _ s
 rw [← Array.forIn_toList]
 refine wpAny_forIn_list _ (λf r i=>r.1=none/\i=s/\∀v∈f,v∈b.toList) _ ?_ ?_ _ _ ⟨ϱ,ϱ,λ_ h=>h⟩
 ·rintro v f r i ⟨l,rfl,g⟩
  refine ε (y v (g v Ω) _ ?_)
  simp only [Bool.not_true,Bool.false_eq_true,if_false]
  exact π ⟨ϱ,ϱ,λu j=>g u (Θ _ j)⟩
 ·rintro ⟨z,C⟩ i ⟨l,rfl,_⟩
  simp only at l
  subst l
  exact π q
theorem jB{n:Nat}{v:Value}{R:Bool->Shared->Prop}(h:carriedByValue v=true)(q:R true s):wpAny (model prog w) A (eqIsQuiet n v) R E s:=by
 rw [eqIsQuiet_byValue n h]
 exact π q
theorem qT{k:fF}{a:Addr}{Q:Bool->Shared->Prop}(x:hV s.heap k a)(q:Q true s):wpAny (model prog w) A (eqIsQuiet 8 (.ref a)) Q E s:=by
 obtain ⟨b,g,h,i,j,l⟩:=x
 refine mQ (n:=7) j (λv f R d=>?_) q
 have hv':v∈[Value.ref b,.int k.2 i]:=f
 rcases ϕ.mp hv' with e | hv'
 ·subst e
  refine mQ (n:=6) l (λv f R d=>?_) d
  have hv':v∈[Value.int k.1.1 g,.int k.1.2 h]:=f
  rcases ϕ.mp hv' with e | hv'
  ·subst e;exact jB rfl d
  ·rcases ϕ.mp hv' with e | hv'
   ·subst e;exact jB rfl d
   ·cases hv'
 ·rcases ϕ.mp hv' with e | hv'
  ·subst e;exact jB rfl d
  ·cases hv'
theorem nX{α:Type}{a b:α}{j:Nat}(h:j<(#[a,b]:Array α).size):(j=0/\(#[a,b]:Array α)[j]=a)\/(j=1/\(#[a,b]:Array α)[j]=b):=by
 have d:j<2:=h
 match j,d with
 | 0,_=>exact .inl ⟨rfl,rfl⟩
 | 1,_=>exact .inr ⟨rfl,rfl⟩
theorem tL{b c:Addr}{i j d f:Int}{t u t' h:Tok}(o:A.units<cLine)(p:s.heap.IsTuple b #[.int i t,.int j u])(q:s.heap.IsTuple c #[.int d t',.int f h]) :
  SeqAt.EqAt A s (.ref b) (.ref c) (decide (i=d)&&decide (j=f)):=by
 by_cases e:b=c
 ·subst e
  have g:=jk p q
  simp only [Array.mk.injEq,List.cons.injEq,Value.int.injEq,and_true] at g
  rw [τ g.1.1,τ g.2.1]
  exact SeqAt.EqAt.same _
 ·refine SeqAt.EqAt.of_refs e ?_
  have z:=SeqAt.RcAt.tuples (A:=A) (s:=s) (e:=λn=>if n=0 then decide (i=d) else decide (j=f)) p q o (λn h1 m=>by
   rcases nX h1 with ⟨n0,e1⟩ | ⟨n0,e1⟩<;>rcases nX m with ⟨m0,g⟩ | ⟨m0,g⟩<;>first | (exfalso;omega) | skip
   ·rw [e1,g];subst n0;show SeqAt.EqAt _ _ _ _ (decide (i=d));rw [← Bool.beq_eq_decide_eq];exact SeqAt.EqAt.int_int _ t _ t'
   ·rw [e1,g];subst n0;show SeqAt.EqAt _ _ _ _ (decide (j=f));rw [← Bool.beq_eq_decide_eq];exact SeqAt.EqAt.int_int _ u _ h)
  have l:((List.range (min (#[Value.int i t,.int j u]:Array Value).size (#[Value.int d t',.int f h]:Array Value).size)).all (λn=>if n=0 then decide (i=d) else decide (j=f))&&(#[Value.int i t,.int j u]:Array Value).size==(#[Value.int d t',.int f h]:Array Value).size)=(decide (i=d)&&decide (j=f)):=by
   show ((decide (i=d)&&(decide (j=f)&&true))&&true)=_
   rw [Bool.and_true,Bool.and_true]
  rw [l] at z
  exact z
theorem tJ{x y:fF}{a c:Addr}(m:A.units+1<cLine)(p:hV s.heap x a)(q:hV s.heap y c):SeqAt.EqAt A s (.ref a) (.ref c) (decide (x=y)):=by
 by_cases e:a=c
 ·subst e
  rw [τ (pV p q)]
  exact SeqAt.EqAt.same _
 ·refine SeqAt.EqAt.of_refs e ?_
  obtain ⟨b,o,r,f,h,i⟩:=p
  obtain ⟨d,u1,u,g,q1,q2⟩:=q
  have z:=SeqAt.RcAt.tuples (A:=A) (s:=s) (e:=λn=>if n=0 then (decide (x.1.1=y.1.1)&&decide (x.1.2=y.1.2)) else decide (x.2=y.2)) h q1 ω (λn h1 l=>by
   rcases nX h1 with ⟨n0,e1⟩ | ⟨n0,e1⟩<;>rcases nX l with ⟨m0,e2⟩ | ⟨m0,e2⟩<;>first | (exfalso;omega) | skip
   ·rw [e1,e2];subst n0;exact tL (by show A.units+1<cLine;exact m) i q2
   ·rw [e1,e2];subst n0;show SeqAt.EqAt _ _ _ _ (decide (x.2=y.2));rw [← Bool.beq_eq_decide_eq];exact SeqAt.EqAt.int_int _ f _ g)
  have j:((List.range (min (#[Value.ref b,.int x.2 f]:Array Value).size (#[Value.ref d,.int y.2 g]:Array Value).size)).all (λn=>if n=0 then (decide (x.1.1=y.1.1)&&decide (x.1.2=y.1.2)) else decide (x.2=y.2))&&(#[Value.ref b,.int x.2 f]:Array Value).size==(#[Value.ref d,.int y.2 g]:Array Value).size)=decide (x=y):=by
   show (((decide (x.1.1=y.1.1)&&decide (x.1.2=y.1.2))&&(decide (x.2=y.2)&&true))&&true)=_
   rw [Bool.and_true,Bool.and_true,← Bool.decide_and,← Bool.decide_and]
   exact decide_eq_decide.mpr ⟨λz=>Prod.ext (Prod.ext z.1.1 z.1.2) z.2,λz=>by rw [z];exact ⟨⟨ϱ,ϱ⟩,ϱ⟩⟩
  rw [j] at z
  exact z
def lV(prog:Program)(w:World):HeapKind prog w fF where
 is:=hV
 hash:=lW
 draws:=λ_=>5
 room:=λA=>A.units+1<cLine
 inj:=λhx hy=>pV hx hy
 keeps:=λx e c hs=>let ⟨b,t1,t2,t3,p1,p2⟩:=x;⟨b,t1,t2,t3,jR p1 e c hs,jR p2 e c hs⟩
 pyHash:=λhu hk h=>tI hu hk h
 eqBool:=λhu hx hy h=>tJ hu hx hy _ _ _ _ h
 quiet:=λhk h=>qT hk h
section
variable {κ:Type} [DecidableEq κ] {knd:HeapKind prog w κ}{d a:Addr}
theorem iq{xs:List (κ×Addr×Value)}{k:κ}{v:Value}{Q:Value->Shared->Prop}(z:knd.room A)(b:knd.is s.heap k a)(H:s.heap.DictOfH knd d xs)
  (h1:∀p,atKey xs k=some p->Q p.2 {s with toks:=s.toks+knd.draws k})
  (I:atKey xs k=none->∀h',h'.DictOfH knd d (xs++[(k,a,v)])->Heap.SameBut d s.heap h'->Q v {s with heap:=h',toks:=s.toks+knd.draws k})(hsz:xs.length<=sizeLine) :
  wpAny (model prog w) A (dictSetDefault d (.ref a) v) Q E s:=by
 obtain ⟨o,J,C,g,D,f,l,h,m⟩:=H
 unfold dictSetDefault
 try with_reducible refine wpAny_holding ?_
 refine ε (knd.pyHash z b ?_)
 refine ε (wpAny_dictFind_heap (s:={s with toks:=s.toks+knd.draws k}) z b g f l h m (λi=>?_) (λj p u=>?_))
 ·have e0:=atKey_none_of_get i
  have F:k∉xs.map (·.1):=not_mem_keys_of_get i
  refine ε (wpAny_rule (ε (wpAny_updateDictKeys (hz:=by have e:=size_of_entries l;omega) (s:={s with toks:=s.toks+knd.draws k}) g f (π (I e0 _ ⟨_,_,C+1,Heap.get?_update_self _ g (Obj.isFreed_of_dict (Obj.data_mapDictKeys f _)),
   D.mapDictKeys _,Obj.data_mapDictKeys f _,?_,λx hx=>?_,?_⟩ (Heap.SameBut.update ..))))))
  ·simp [l,entryOfKey]
  ·rcases List.mem_append.mp hx with hx | hx
   ·exact knd.keeps (h x hx) g f (Heap.SameBut.update ..)
   ·have q:=ϵ.mp hx
    subst q
    exact knd.keeps b g f (Heap.SameBut.update ..)
  ·rw [List.map_append,List.nodup_append]
   refine ⟨m,by simp,λx hx y G q=>?_⟩
   have r:y=k:=by simpa using G
   exact F (r▸q▸hx)
 ·refine ε (wpAny_dictEntries (s:={s with toks:=s.toks+knd.draws k}) g f ?_)
  rw [entry_at l j,u]
  exact ε (wpAny_rule (π (h1 p (atKey_of_get m u))))
theorem i6(knd:HeapKind prog w κ)(d a:Addr)(hd:(d==sysModules)=false)(v:Value) :
  MeetsIn prog w (Builtin.«dict.setdefault» ⟨[.ref d, .ref a, v], []⟩) (fun A R s => knd.room A.in1 ∧ ∃ k xs, knd.is s.heap k a ∧ s.heap.DictOfH knd d xs ∧ xs.length ≤ sizeLine ∧
   (∀p,atKey xs k=some p->R (.ok (.ret p.2)) {s with toks:=s.toks+knd.draws k}) /\
   (atKey xs k=none->∀h',h'.DictOfH knd d (xs++[(k,a,v)])->Heap.SameBut d s.heap h'->R (.ok (.ret v)) {s with heap:=h',toks:=s.toks+knd.draws k})) :=
 .of_wp λA R s ⟨hu,k,xs,hkey,hm,hz,h1,h2⟩=>by
  unfold Builtin.«dict.setdefault»
  refine ε ?_
  unfold Builtin.Dict.keyAndDefault
  refine ε (wpAny_notOrdered_dict hm.typeIs ?_)
  show wpAny _ _ (pure (d,Value.ref a,some v)) _ _ s
  refine π ?_
  show wpAny _ _ (if (d==sysModules)=true then _ else (dictSetDefault d (.ref a) v >>= λ_=>_)) _ _ s
  have hne:¬((d==sysModules)=true):=by rw [hd];decide
  rw [if_neg hne]
  exact ε (iq hu hkey hm (λp hp=>π ⟨_,ϱ,h1 p hp⟩) (λe0 h' hm' hs'=>π ⟨_,ϱ,h2 e0 h' hm' hs'⟩) hz)
end
end L2
namespace L2
open PySem PySem.Spec PyProof.Rows
def NKeyAt(H:Hp)(k:fF)(b:Addr):Prop:=∃c,H b=some (.tup [.ref c,.int k.2])/\H c=some (.tup [.int k.1.1,.int k.1.2])
theorem NKeyAt.keep{H d:Hp}{k:fF}{b:Addr}(e:TSame H d)(h:NKeyAt H k b):NKeyAt d k b:=by
 obtain ⟨c,h1,f⟩:=h
 exact ⟨c,e _ _ h1,e _ _ f⟩
theorem NKeyAt.at{P:Program}{w:World}{H:Hp}{h:Heap}{k:fF}{b:Addr}(ok:HOk P w H h)(q:NKeyAt H k b):hV h k b:=by
 obtain ⟨c,h1,e⟩:=q
 obtain ⟨_,f,r,p⟩:=(show ObjOk P w H h b (.tup [.ref c,.int k.2]) from ok b _ h1)
 obtain ⟨_,d,g,i⟩:=(show ObjOk P w H h c (.tup [.int k.1.1,.int k.1.2]) from ok c _ e)
 obtain ⟨u1,y,rfl,j,l⟩:=r.two
 obtain ⟨z,C,rfl,m,o⟩:=g.two
 cases (show u1=Value.ref c from j)
 obtain ⟨t,rfl⟩:=l
 obtain ⟨u,rfl⟩:=m
 obtain ⟨x,rfl⟩:=o
 exact ⟨c,u,x,t,p,i⟩
abbrev eO:=fF×Addr×Addr
def kr(xs:List eO):List (fF×Addr×Value):=xs.map λx=>(x.1,x.2.1,Value.ref x.2.2)
def yj(a:Addr)(xs:List eO)(h:Heap):Prop:=(a==sysModules)=false/\∃o es ep,h.get? a=some o/\o.ExactDict/\o.data=.dict es ep/\es.toList=(kr xs).map λx=>⟨lW x.1,.ref x.2.1,x.2.2⟩
def NDt(a:Addr)(xs:List eO):HO:=.ext (yj a xs)
def NOk(H:Hp)(xs:List eO):Prop:=(∀x∈xs,NKeyAt H x.1 x.2.1)/\(xs.map (·.1)).Nodup
theorem NOk.keep{H H':Hp}{xs:List eO}(e:TSame H H')(h:NOk H xs):NOk H' xs:=⟨λx hx=>(h.1 x hx).keep e,h.2⟩
def kt(xs:List eO)(k:fF):Option Addr:=(xs.find? λx=>decide (x.1=k)).map (·.2.2)
def pS(xs:List eO)(k:fF)(b r:Addr):List eO:=if (kt xs k).isSome=true then xs.map (λx=>if x.1=k then (x.1,x.2.1,r) else x) else xs++[(k,b,r)]
theorem pU(xs:List eO)(k:fF):(atKey (kr xs) k).map (·.2)=(kt xs k).map Value.ref:=by
 unfold atKey kr kt
 rw [List.find?_map]
 cases e:List.find? ((λx:fF×Addr×Value=>decide (x.1=k))∘λx:eO=>(x.1,x.2.1,Value.ref x.2.2)) xs with
 | none =>
  have b:List.find? (λx:eO=>decide (x.1=k)) xs=none:=e
  rw [b];rfl
 | some y =>
  have b:List.find? (λx:eO=>decide (x.1=k)) xs=some y:=e
  rw [b];rfl
theorem wb(xs:List eO)(k:fF)(b r:Addr):kr (pS xs k b r)=storedH (kr xs) k b (.ref r):=by
 have e:(atKey (kr xs) k).isSome=(kt xs k).isSome:=by
  have:=congrArg Option.isSome (pU xs k)
  rw [Option.isSome_map,Option.isSome_map] at this
  exact this
 unfold pS storedH
 rw [e]
 by_cases h:(kt xs k).isSome=true
 ·rw [if_pos h,if_pos h]
  unfold kr
  rw [List.map_map,List.map_map]
  refine List.map_congr_left λx _=>?_
  show (λx:eO=>(x.1,x.2.1,Value.ref x.2.2)) (if x.1=k then (x.1,x.2.1,r) else x)=putAt k (.ref r) (x.1,x.2.1,Value.ref x.2.2)
  unfold putAt
  by_cases hx:x.1=k
  ·rw [if_pos hx,if_pos hx]
  ·rw [if_neg hx,if_neg hx]
 ·rw [if_neg h,if_neg h]
  unfold kr
  rw [List.map_append]
  rfl
theorem NOk.put{H:Hp}{xs:List eO}{k:fF}{b:Addr}(r:Addr)(h:NOk H xs)(i:NKeyAt H k b):NOk H (pS xs k b r):=by
 unfold pS
 by_cases c:(kt xs k).isSome=true
 ·rw [if_pos c]
  refine ⟨λx hx=>?_,?_⟩
  ·obtain ⟨y,d,e⟩:=ϑ.mp hx
   subst e
   by_cases hk:y.1=k
   ·rw [if_pos hk];exact h.1 y d
   ·rw [if_neg hk];exact h.1 y d
  ·rw [List.map_map]
   have:((λx:eO=>x.1)∘λx:eO=>if x.1=k then (x.1,x.2.1,r) else x)=λx=>x.1:=by
    funext x
    show (if x.1=k then (x.1,x.2.1,r) else x).1=x.1
    split<;>rfl
   rw [this]
   exact h.2
 ·rw [if_neg c]
  refine ⟨λx hx=>?_,?_⟩
  ·rcases List.mem_append.mp hx with hx | hx
   ·exact h.1 x hx
   ·have:=ϵ.mp hx
    subst this
    exact i
  ·rw [List.map_append,List.nodup_append]
   refine ⟨h.2,by simp,λx hx y d e=>c ?_⟩
   have f:y=k:=by simpa using d
   subst f
   subst e
   obtain ⟨z,g,e⟩:=ϑ.mp hx
   unfold kt
   rw [Option.isSome_map,List.find?_isSome]
   exact ⟨z,g,τ e⟩
section
variable {X:Cx}{pins:List (Addr×Obj)}{σ:St}{H:Hp}{s:Shared}{a b r:Addr}{xs:List eO}{k:fF}{A:Around}{E:Value->Shared->Prop}
theorem yW(I:Inv X pins σ H s)(e:H a=some (NDt a xs))(ok:NOk H xs):(a==sysModules)=false/\s.heap.DictOfH (lV X.prog X.w) a (kr xs):=by
 obtain ⟨⟨h0,o,d,f,h1,g,h,i⟩,_⟩:=(show ObjOk X.prog X.w H s.heap a (NDt a xs) from I.hok a _ e)
 refine ⟨h0,o,d,f,h1,g,h,i,λx b=>?_,?_⟩
 ·unfold kr at b
  obtain ⟨y,j,rfl⟩:=ϑ.mp b
  exact (ok.1 y j).at I.hok
 ·unfold kr
  rw [List.map_map]
  exact ok.2
theorem sj{a:Addr}{xs:List eO}:∀h1 h2:Heap,yj a xs h1->(∀o,h1.get? a=some o->h2.get? a=some o)->yj a xs h2:=λh1 h2 q k=>by
 obtain ⟨h0,o,es,ep,e,r⟩:=q
 exact ⟨h0,o,es,ep,k _ e,r⟩
theorem As{Q:Unit->Shared->Prop}(m:A.units+2<cLine)(I:Inv X pins σ H s)(e:H a=some (NDt a xs))(ok:NOk H xs)(u:NKeyAt H k b)(x:xs.length<=sizeLine)(q:∀s',Inv X pins σ (upd H a (NDt a (pS xs k b r))) s'->Q () s') :
  wpAny (model X.prog X.w) A (setItem (.ref a) (.ref b) (.ref r)) Q E s:=by
 obtain ⟨h0,dd⟩:=yW I e ok
 refine wpAny_setItem_heap (knd:=lV X.prog X.w) (k:=k) (hsz:=by unfold kr;rw [List.length_map];exact x) (by show A.units+1+1<cLine;exact m) (u.at I.hok) dd λy d l=>q _ ?_
 obtain ⟨o,f,g,h1,h,i,j,_,_⟩:=d
 refine ii I (by rw [e];exact ϰ) l ⟨o,h1⟩ ⟨⟨h0,o,f,g,h1,h,i,?_⟩,⟨o,h1⟩,sj⟩
 rw [j,wb]
 rfl
theorem Au{Q:Value->Shared->Prop}(d:A.units+2<cLine)(I:Inv X pins σ H s)(e:H a=some (NDt a xs))(ok:NOk H xs)(f:NKeyAt H k b)(q:∀s',Inv X pins σ H s'->Q (((kt xs k).map Value.ref).getD .none) s') :
  wpAny (model X.prog X.w) A (call (.builtin "dict.get") [.ref a,.ref b]) Q E s:=by
 obtain ⟨h0,dd⟩:=yW I e ok
 refine call_meetsIn PySem.F.slot_dict_get dd.typeIs PySem.F.entry_dict_get (PySem.F.args_dict_get_2 _ _) (meetsH_dict_get (lV X.prog X.w) a b h0) ⟨by show A.units+1+1<cLine;exact d,k,_,f.at I.hok,dd,?_⟩
 rw [pU]
 exact q _ (I.tok _)
theorem tK(I:Inv X pins σ H s)(e:H a=some (NDt a xs)):s.TypeIs (.ref a) "dict"/\∀b,Value.ref a=.ref b->∃ob,s.heap.get? b=some ob/\ob.dict=none:=by
 obtain ⟨⟨h0,o,f,g,h1,d,_⟩,_⟩:=(show ObjOk X.prog X.w H s.heap a (NDt a xs) from I.hok a _ e)
 refine ⟨⟨o,h1,d.1⟩,λb q=>?_⟩
 cases q
 exact ⟨o,h1,d.2.1⟩
end
def zx:TE:=λ_ H Q=>∀p,H p=none->Q (.ref p) (upd H p (NDt p []))
def ov:Option Addr->V
 | none=>.non
 | some r=>.ref r
def Bl(td ty:TE):TE:=fun σ H Q=>td σ H λx H1=>∃a xs,x=.ref a/\H1 a=some (NDt a xs)/\ty σ H1 λy H2=>∃b k,y=.ref b/\H2 a=some (NDt a xs)/\NOk H2 xs/\NKeyAt H2 k b/\Q (ov (kt xs k)) H2
def BD(td ty tv:TE):TS:=λD σ H=>tv σ H λv H1=>td σ H1 λx H2=>ty σ H2 λy H3=>∃a b r xs k,v=.ref r/\x=.ref a/\y=.ref b/\H3 a=some (NDt a xs)/\NOk H3 xs/\NKeyAt H3 k b/\xs.length<=sizeLine/\D.nx σ (upd H3 a (NDt a (pS xs k b r)))
def Bq(td ty tx:TE):TE:=fun σ H Q=>td σ H λx H1=>∃a,x=.ref a/\IsD H1 a/\ty σ H1 λy H2=>tx σ H2 λz H3=>∃kvs k b,H3 a=some (.dT kvs)/\y=.ref b/\H3 b=some (.tup (k.map kV))/\kvs.length<sizeLine /\
 (∀v,bE kvs k=some v->Q v H3)/\(bE kvs k=none->Q z (upd H3 a (.dT (kvs++[(k,z)]))))
section
variable {X:Cx}{o e f i value:Expr}{apos cpos pos pos':Pos}{td ty tx tv:TE}
theorem ve:PE X (.Dict [] [] pos) zx:=λpins s σ H Q I h =>
 wpAny_Dict_empty ⟨.ref s.heap.objs.size,_,I.laid (a:=s.heap.objs.size) (o:=NDt s.heap.objs.size []) (t':=s.toks) (λ_ _ q=>ρ _ q) (ι _)
  ⟨⟨beq_eq_false_iff_ne.mpr (Ne.symm (Φ I.big)),_,#[],0,ψ _ rfl,⟨ϱ,ϱ,ϱ⟩,ϱ,ϱ⟩,⟨_,ψ _ rfl⟩,sj⟩,ϱ,h _ (I.hok.fresh (ι _))⟩
theorem xx(Q:X.A.units+2<cLine)(U:PE X o td)(W:PE X i ty)(Y:PE X value tv)(Z:swapsWith value (some (.Subscript o i pos')) pos.line X.env=pure false) :
  PS X (.Assign [.Subscript o i pos'] value pos) (BD td ty tv):=by
 intro d s σ H D I h
 refine wpAny_Assign_Subscript (thn (Y d s σ H _ I h) λr e ⟨v,H1,f,g,q1⟩=>thn (U d e σ H1 _ f q1) λu j ⟨x,l,m,q,q2⟩=>thn (W d j σ l _ m q2) λw s3 ⟨y,H3,z,C,a,b,F,xs,k,G,ex,J,g1,K,L,O,q3⟩=>?_) Z
 subst G ex J
 obtain rfl:u=Value.ref a:=q
 obtain rfl:w=Value.ref b:=C
 obtain rfl:r=Value.ref F:=g
 exact As Q z g1 K L O λs4 P=>⟨σ,_,P,q3⟩
theorem xC(O:X.A.units+2<cLine)(P:PE X o td)(U:PE X e ty)(m:M1 X o "get" apos e cpos):PE X (.Call (.Attribute o "get" apos) [e] [] cpos) (Bl td ty):=by
 intro f s σ H Q I h
 refine wpAny_Call_method m.base m.few m.line PySem.F.plainAttrs_dict PySem.F.slot_dict_get PySem.F.type_dict_get (thn (P f s σ H _ I h) λu l ⟨x,H1,g,q,a,r,ex,d,q1⟩=>?_)
 subst ex
 obtain rfl:u=Value.ref a:=q
 obtain ⟨i,j⟩:=tK g d
 refine ⟨i,j,?_⟩
 rw [m.trees]
 refine Calls.callWith_builtin rfl (Calls.evalArgs_plain (Calls.spliced_cons (thn (U f l σ H1 _ g q1) λw W ⟨y,z,C,D,b,k,G,g1,J,K,q2⟩=>Calls.spliced_nil ?_)))
 subst G
 obtain rfl:w=Value.ref b:=D
 refine Au O C g1 J K λY L=>⟨_,z,L,?_,q2⟩
 cases kt r k<;>rfl
theorem rX(hu:X.A.units+1<cLine)(ho:PE X o td)(he:PE X e ty)(hf:PE X f tx)(m:M2 X o "setdefault" apos e f cpos):PE X (.Call (.Attribute o "setdefault" apos) [e,f] [] cpos) (Bq td ty tx):=by
 intro g s σ H Q I h
 refine wpAny_Call_method m.base m.few m.line PySem.F.plainAttrs_dict PySem.F.slot_dict_setdefault PySem.F.type_dict_setdefault (thn (ho g s σ H _ I h) λu s1 ⟨x,H1,U,rx,a,ex,d,q1⟩=>?_)
 subst ex
 obtain rfl:u=Value.ref a:=rx
 obtain ⟨t1,t2,_⟩:=jK U d
 refine ⟨t1,t2,?_⟩
 rw [m.trees]
 refine Calls.callWith_builtin rfl (Calls.evalArgs_plain (Calls.spliced_cons (thn (he g s1 σ H1 _ U q1) λiv s2 ⟨y,H2,I2,ry,q2⟩ =>
  Calls.spliced_cons (thn (hf g s2 σ H2 _ I2 q2) λW s3 ⟨z,Y,D,Z,r,k,b,K,ey,eb,hl,q3,q4⟩=>Calls.spliced_nil ?_))))
 subst ey
 obtain rfl:iv=Value.ref b:=ry
 obtain ⟨hz,O,G,i,dd⟩:=sD D.hok K
 have J:G.length<=sizeLine:=by rw [← Paired.length i];exact hz
 refine call_meetsIn PySem.F.slot_dict_setdefault dd.typeIs PySem.F.entry_dict_setdefault (PySem.F.args_dict_setdefault_3 _ _ _) (i6 (tupleKind (aK X.prog X.w)) a b O W) ⟨tupleKind_room_in1 hu,k,G,gh D.hok eb,dd,J,λp hp=>?_,λhn h' L hs=>?_⟩
 ·have j:=i.val k
  rw [hp] at j
  cases l:bE r k with
  | none=>rw [l] at j;exact (show False from j).elim
  | some v =>
   rw [l] at j
   exact ⟨v,Y,D.tok _,j,q3 v l⟩
 ·have j:=i.val k
  rw [hn] at j
  have l:bE r k=none:=by
   cases l:bE r k with
   | none=>rfl
   | some v=>rw [l] at j;exact (show False from j).elim
  refine ⟨z,_,?_,Z,q4 l⟩
  obtain ⟨q,es,ep,P,h2,h3,h4,_,h5⟩:=L
  have C:KT Y (r++[(k,z)]) (G++[(k,b,W)]):=Paired.snoc i ⟨ϱ,eb,Z⟩
  refine ii D (by rw [K];exact ϰ) hs ⟨q,P⟩ ⟨by rw [List.length_append];exact hl,O,_,C.keeps λc ys ec=>?_,q,es,ep,P,h2,h3,h4,h5⟩
  rw [ao (i4 ec K (λz=>nomatch z))]
  exact ec
end
section
variable {X:Cx}
theorem vk(o:X.A.units<cLine):OpR X (compareOp .NotEq) (λx y H Q=>∃a b us,x=.ref a/\y=.ref b/\SqL X.K H a us/\SqL X.K H b []/\Q (.bl (!decide (us=[]))) H):=by
 intro m s σ H x y v u Q I F G h
 obtain ⟨a,b,us,rfl,rfl,r,C,q⟩:=h
 cases F
 cases G
 obtain ⟨f,g,i,_⟩:=I.list r
 obtain ⟨J,D,l,_⟩:=I.list C
 cases D
 have l1:=g.length
 by_cases e:us=[]
 ·subst e
  cases g
  have z:=SeqAt.RcNeAt.lists (A:=X.A) (s:=s) (e:=λ_=>true) i.isList l.isList rfl o (λj h1 L=>by cases h1)
  rw [τ rfl] at q
  exact z X.prog X.w X.xe _ ⟨.bl false,H,I,ϱ,q⟩
 ·have d:(f.toArray.size != ([]:List Value).toArray.size)=true:=by
   have:f.length≠0:=λz=>e (List.length_eq_zero_iff.mp (by rw [l1];exact z))
   simpa using this
  rw [Γ e] at q
  exact SeqAt.RcNeAt.lists_lengths i.isList l.isList d o X.prog X.w X.xe _ ⟨.bl true,H,I,ϱ,q⟩
end
end L2
namespace Lo
open PySem L2
def dW(ps:List Pa):List (List Key×V):=ps.map λp=>(pk p,V.bl true)
def dE(es:List (Pa×Str)):List (List Key×V):=es.map λx=>(pk x.1,V.str x.2)
theorem wZ{α:Type}(xs:List α)(k:α->Pa)(f:α->V)(p:Pa):bE (xs.map λx=>(pk (k x),f x)) (pk p)=(xs.find? λx=>decide (k x=p)).map f:=by
 induction xs with
 | nil=>rfl
 | cons x r ih =>
  rw [List.map_cons]
  by_cases h:k x=p
  ·rw [bH (by rw [h]),List.find?_cons,τ h]
   rfl
  ·rw [bJ (λz=>h (zV z)),ih,List.find?_cons,Γ h]
def A2(ps:List Pa)(p:Pa):List Pa:=if p∈ps then ps else ps++[p]
theorem ww(ps:List Pa)(p:Pa):(ps.find? λx=>decide (x=p))=if p∈ps then some p else none:=by
 by_cases h:p∈ps
 ·rw [if_pos h]
  cases e:ps.find? λx=>decide (x=p) with
  | none=>exact absurd (τ rfl) (List.find?_eq_none.mp e p h)
  | some y =>
   have:y=p:=by simpa using List.find?_some e
   rw [this]
 ·rw [if_neg h,List.find?_eq_none]
  intro x b c
  exact h ((Ξ c)▸b)
theorem uj(ps:List Pa)(p:Pa):bE (dW ps) (pk p)=if p∈ps then some (.bl true) else none:=by
 unfold dW
 rw [wZ ps (λp=>p) (λ_=>V.bl true) p,ww]
 split<;>rfl
theorem zU(ps:List Pa)(p:Pa):bx (dW ps) (pk p) (.bl true)=dW (A2 ps p):=by
 unfold A2
 by_cases h:p∈ps
 ·rw [if_pos h]
  unfold bx
  rw [fo,uj,if_pos h,if_pos (show (some (V.bl true)).isSome=true from rfl)]
  unfold dW
  rw [List.map_map]
  refine List.map_congr_left λx _=>?_
  show (if pk x=pk p then (pk x,V.bl true) else (pk x,V.bl true))=_
  rw [ite_self]
 ·rw [if_neg h,pL _ (by rw [uj,if_neg h])]
  unfold dW
  rw [List.map_append]
  rfl
def apply(cs:List Int)(ch:List Pa):List Int:=ch.foldl (λcs c=>cs.set c.1.toNat c.2) cs
theorem jQ(ch:List Pa):∀cs:List Int,(apply cs ch).length=cs.length:=by
 induction ch with
 | nil=>intro cs;rfl
 | cons c r ih =>
  intro cs
  show (apply (cs.set c.1.toNat c.2) r).length=cs.length
  rw [ih,List.length_set]
theorem rD(cs:List Int)(ch:List Pa)(c:Pa):apply cs (ch++[c])=(apply cs ch).set c.1.toNat c.2:=by
 unfold apply
 rw [List.foldl_append]
 rfl
structure Ad where
 (l dx cl bg wk rd en wa ov:Addr)
def sf(A:Ad):List (Str×V):=au "overs" (.ref A.ov) (au "walks" (.ref A.wa) (au "ends" (.ref A.en) (au "readies" (.ref A.rd) (au "worked" (.ref A.wk) (au "begins" (.ref A.bg) (au "cells" (.ref A.cl) []))))))
theorem yN(A:Ad):(sf A).lookup ("walks":Str)=some (.ref A.wa):=by
 unfold sf
 rw [al,if_neg θ,al,if_pos rfl]
theorem uR(A:Ad):(sf A).lookup ("ends":Str)=some (.ref A.en):=by
 unfold sf
 rw [al,if_neg θ,al,if_neg θ,al,if_pos rfl]
theorem Bz(A:Ad):(sf A).lookup ("readies":Str)=some (.ref A.rd):=by
 unfold sf
 rw [al,if_neg θ,al,if_neg θ,al,if_neg θ,al,if_pos rfl]
theorem By(A:Ad):(sf A).lookup ("worked":Str)=some (.ref A.wk):=by
 unfold sf
 rw [al,if_neg θ,al,if_neg θ,al,if_neg θ,al,if_neg θ,al,if_pos rfl]
theorem rQ(A:Ad):(sf A).lookup ("cells":Str)=some (.ref A.cl):=by
 unfold sf
 rw [al,if_neg θ,al,if_neg θ,al,if_neg θ,al,if_neg θ,al,if_neg θ,al,if_neg θ,al,if_pos rfl]
theorem fq{A:Ad}{m:Str}(h:decide (m∈(["overs","walks","ends","readies","worked","begins","cells"]:List Str))=false):(sf A).lookup m=none:=by
 have b:m∉(["overs","walks","ends","readies","worked","begins","cells"]:List Str):=of_decide_eq_false h
 simp only [List.mem_cons,List.not_mem_nil,or_false,not_or] at b
 obtain ⟨h1,d,e,f,g,i,j⟩:=b
 unfold sf
 rw [al,if_neg h1,al,if_neg d,al,if_neg e,al,if_neg f,al,if_neg g,al,if_neg i,al,if_neg j]
 rfl
def cPS:Cod (Pa×Str):=cT2 cPa cStr
structure TxD(K:Frag)(CS:Addr):Prop where
 cl:Cls K CS
 nc:NoAttr K CS "cells"
 nb:NoAttr K CS "begins"
 nw:NoAttr K CS "worked"
 nr:NoAttr K CS "readies"
 ne:NoAttr K CS "ends"
 na:NoAttr K CS "walks"
 no:NoAttr K CS "overs"
theorem sy{K:Frag}{H:Hp}:∀xs:List Int,Paired (cInt.rp K H) xs (xs.map V.int)
 | []=>.nil
 | _::xs=>.cons rfl (sy xs)
theorem sA{K:Frag}{H:Hp}{p:Addr}{xs:List Int}(h:H p=some (.lst (xs.map V.int))):A5 cInt K H xs (.ref p):=⟨p,_,ϱ,SqL.of h,sy xs⟩
theorem bh{f:Str}{v:V}{fs:List (Str×V)}{n:Nat}(h:fs.length<n):(au f v fs).length<n+1:=by
 have:=dh f v fs
 omega
theorem cM{k:Nat}{A:Around}(hr:Room k A):A.units+1<cLine:=hun (c:=0) hr
theorem wn{n:Nat}{i:Int}(h0:0<=i)(h1:i<n):ixN n i=some i.toNat:=by
 unfold ixN
 rw [if_pos h0,if_pos h1]
theorem at0{x:V}{us:List V}:atI (x::us) (0:Int)=some x:=aV (j:=0) rfl
theorem at1{x y:V}{us:List V}:atI (x::y::us) (1:Int)=some y:=aV (j:=1) rfl
theorem at2{x y z:V}{us:List V}:atI (x::y::z::us) (2:Int)=some z:=aV (j:=2) rfl
end Lo
namespace L2
open PySem PySem.Spec PyProof.Rows
open PySem.W
section
variable {prog:Program}{w:World}{A:Around}{E:Value->Shared->Prop}{s:Shared}
instance:Inhabited ((Int×Int)×Str):=⟨((0,0),Str.empty)⟩
end
section
variable {prog:Program}{w:World}{A:Around}{E:Value->Shared->Prop}{s:Shared}{h₀:Heap}{L:Addr}{m:Str->Option Value}{news:List (Addr×Obj)}
theorem wx{vs:List Value}{a n:Nat}{P:PySem.Fin->Shared->Prop}(F:Fr h₀ L s.heap m)(N:News h₀ L s.heap news)(h:s.heap.get? a=some (seqObj "list" vs.toArray n))(d:a≠L)(f:h₀.get? a=none)(g:∀p∈news,p.1≠a)(u:vs.length<2)
  (q:∀h' c,Fr h₀ L h' m->News h₀ L h' ((a,PySem.W.listOf vs.toArray c)::news)->P (.done (.ret .none)) {s with heap:=h'}) :
  wpAny (model prog w) A (Builtin.«list.sort» ⟨[.ref a], []⟩) P E s := by
 have z0:vs.length<=sizeLine:=by rw [sizeLine_eq];omega
 have sb1:=Heap.SameBut.update s.heap a (Obj.mapSeq λ_=>(#[]:Array Value))
 obtain ⟨c1,o1⟩:∃c,(s.heap.update a (Obj.mapSeq λ_=>(#[]:Array Value))).get? a=some (seqObj "list" #[] c):=⟨_,get?_update_seq h λ_=>#[]⟩
 rw [list_sort_plain]
 refine ε (listItems_at h rfl (ε (listUpdate_at h rfl ?_ (by rw [List.size_toArray];exact z0) (ϖ _))))
 refine ε (seqEpoch_at o1 rfl (ε (wpAny_newTuple ?_ (by show vs.length<=_;exact z0))))
 refine ε (wpAny_newList (wpAny_holding ?_) (ϖ _))
 have lt2:vs.toArray.size<2:=by rw [List.size_toArray];exact u
 dsimp only
 rw [if_pos lt2,if_pos lt2]
 refine ε (π (ε (π ?_)))
 have o2:=ρ (seqObj "list" #[] 0) (ρ (seqObj "tuple" vs.toArray 0) o1)
 refine ε (seqEpoch_at o2 rfl ?_)
 have ez:(arrOf (SortSt.mk' general' (vs.toArray.zip vs.toArray) #[] 7 none)).map (·.2)=vs.toArray:=by
  show (vs.toArray.zip vs.toArray).map (·.2)=vs.toArray
  have o:∀l:List Value,(l.zip l).map (·.2)=l:=λl=>by
   induction l with
   | nil=>rfl
   | cons x r ih=>rw [List.zip_cons_cons,List.map_cons,ih]
  apply Array.toList_inj.mp
  simpa using o vs
 rw [ez]
 refine ε (listUpdate_at o2 rfl ?_ (ϖ _) (by rw [List.size_toArray];exact υ z0))
 simp only [bne_self_eq_false,Bool.false_eq_true,if_false]
 obtain ⟨i,j⟩:∃c,((((s.heap.update a (Obj.mapSeq λ_=>(#[]:Array Value))).push (seqObj "tuple" vs.toArray 0)).push (seqObj "list" #[] 0)).update a (Obj.mapSeq λ_=>vs.toArray)).get? a=some (seqObj "list" vs.toArray c):=⟨_,get?_update_seq o2 λ_=>vs.toArray⟩
 refine π (q _ i ?_ ?_)
 ·exact kas_fr (((kas_fr F sb1 d f).push _).push _) (Heap.SameBut.update _ _ _) d f
 ·intro p hp
  rcases ϕ.mp hp with z | hp
  ·subst z
   exact ⟨j,d,f⟩
  ·exact kas_news ((kas_news N sb1 g).grown λb x e=>ρ _ (ρ _ e)) (Heap.SameBut.update _ _ _) g p hp
end
def sPS(K:Frag)(H:Hp)(x:(Int×Int)×Str)(v:V):Prop:=∃a b,v=.ref a/\H a=some (.tup [.ref b,.str x.2])/\H b=some (.tup [.int x.1.1,.int x.1.2])
theorem sPS.keep{K:Frag}{H d:Hp}{x:(Int×Int)×Str}{v:V}(e:TSame H d)(h:sPS K H x v):sPS K d x v:=by
 obtain ⟨a,b,rfl,h1,f⟩:=h
 exact ⟨a,b,ϱ,e _ _ h1,e _ _ f⟩
abbrev gv(own:Value)(f:Bool)(d:Addr)(i n ep:Nat)(ok ov:Value):Obj:={cls:=.type "dict_itemiterator",dict:=none,data:=.fields #[own,.bool f,.ref d,.int i 0,.int n 0,.int ep 0,ok,ov],slots:=#[]}
def wW(h:Heap)(it d:Addr)(i n ep:Nat):Prop:=∃own f ok ov,h.get? it=some (gv own f d i n ep ok ov)/\(own=.none\/∃a oa,own=rawInt (a:Nat)/\a≠it/\h.get? a=some oa)
def RawD(h:Heap)(d:Addr)(es:Array DictEntry)(ep:Nat):Prop:=∃od,h.get? d=some od/\od.ExactDict/\od.data=.dict es ep
section
variable {prog:Program}{w:World}{A:Around}{E:Value->Shared->Prop}{s:Shared}{it d:Addr}{i ep:Nat}{es:Array DictEntry}
theorem RawD.at{h h':Heap}(x:RawD h d es ep)(k:∀o,h.get? d=some o->h'.get? d=some o):RawD h' d es ep:=let ⟨od,e,r⟩:=x;⟨od,k _ e,r⟩
theorem yY{own ok ov:Value}{f:Bool}{n:Nat}(hit:s.heap.get? it=some (gv own f d i n ep ok ov)):s.TypeIs (.ref it) "dict_itemiterator":=⟨_,hit,ϱ⟩
theorem oQ:Builtin.Dict_items.ownsTuple "dict_itemiterator"=true:=by decide
theorem yq{n:Nat}{y ok ov j val:Value}{f:Bool}{Q:Value->Shared->Prop}(H:s.heap.get? it=some (gv y f d i n ep ok ov))(P:y=.none\/∃a oa,y=rawInt (a:Nat)/\a≠it/\s.heap.get? a=some oa)
  (U:∀h',wW h' it d i n ep->h'.get? s.heap.objs.size=some {cls:=.type "tuple",data:=.seq #[j,val]}->h'.objs.size=s.heap.objs.size+1->(∀b o,b≠it->s.heap.get? b=some o->h'.get? b=some o)->Q (.ref s.heap.objs.size) {s with heap:=h'}) :
  wpAny (model prog w) A (Builtin.Dict_items.pairFromOwner (.ref it) 6 j val) Q E s:=by
 obtain ⟨l,g,dr,tk,os⟩:=s
 unfold Builtin.Dict_items.pairFromOwner
 refine ε (wpAny_newTuple ?_)
 have I:it<l.objs.size:=η H
 have h:(l.push {cls:=.type "tuple",data:=.seq #[j,val]}).get? it=some (gv y f d i n ep ok ov):=ρ _ H
 have m:(l.push {cls:=.type "tuple",data:=.seq #[j,val]}).get? l.objs.size=some {cls:=.type "tuple",data:=.seq #[j,val]}:=ψ _ rfl
 have r:(l.push {cls:=.type "tuple",data:=.seq #[j,val]}).objs.size=l.objs.size+1:=Heap.size_push ..
 have q:∀b o,l.get? b=some o->(l.push {cls:=.type "tuple",data:=.seq #[j,val]}).get? b=some o:=λb o e=>ρ _ e
 generalize (l.push {cls:=.type "tuple",data:=.seq #[j,val]})=G at h m r q
 have u:l.objs.size≠it:=Nat.ne_of_gt I
 unfold Builtin.Dict_items.ownedTupleIsFree
 rcases P with z | ⟨a,oa,z,na,ha⟩
 ·subst z
  refine ε (ε (wpAny_field h rfl (x:=.none) rfl (π ?_)))
  simp only [if_true]
  refine ε (wpAny_field h rfl (x:=ok) rfl (ε (wpAny_field h rfl (x:=ov) rfl ?_)))
  refine wpAny_bind (wpAny_setField_rec h (by simp) λK L F=>wpAny_bind (wpAny_setField_rec L (by simp) λh3 Z W=>wpAny_bind (wpAny_setField_rec Z (by simp) λh4 e4 X=>wpAny_bind (wpAny_setField_rec e4 (by simp) λO e5 Y=>?_))))
  have J:∀b o,b≠it->G.get? b=some o->O.get? b=some o:=λb o C e=>Y.extBut b o C (X.extBut b o C (W.extBut b o C (F.extBut b o C e)))
  refine ε (wpAny_letGo (π (U O ⟨_,_,_,_,e5,.inr ⟨l.objs.size,_,ϱ,u,J _ _ u m⟩⟩ (J _ _ u m) ?_ λb o C e=>J b o C (q b o e))))
  show O.objs.size=l.objs.size+1
  rw [Y.1,X.1,W.1,F.1]
  exact r
 ·subst z
  have D:=q _ _ ha
  refine ε (ε (wpAny_field h rfl (x:=rawInt (a:Nat)) rfl ?_))
  show wpAny _ _ (loadIfAlive ((a:Int).toNat) >>= λ_=>_) _ _ _
  rw [Int.toNat_natCast]
  refine ε (kdx_alive D ?_)
  simp only [Option.isNone_some,Bool.false_eq_true,if_false]
  refine ε (wpAny_field h rfl (x:=.bool f) rfl ?_)
  cases f with
  | true =>
   rw [if_neg (show ¬((Value.bool true != Value.bool true)=true) by decide)]
   refine π ?_
   simp only [Bool.false_eq_true,if_false]
   exact π (U G ⟨_,_,_,_,h,.inr ⟨a,oa,ϱ,na,D⟩⟩ m r λb o _ e=>q b o e)
  | false =>
   rw [if_pos (show (Value.bool false != Value.bool true)=true by decide)]
   refine wpAny_bind (wpAny_setField_rec h (by simp) λK L F=>wpAny_pure ?_)
   simp only [Bool.false_eq_true,if_false]
   exact π (U K ⟨_,_,_,_,L,.inr ⟨a,oa,ϱ,na,F.extBut _ _ na D⟩⟩ (F.extBut _ _ u m) (by show K.objs.size=_;rw [F.1];exact r) λb o C e=>F.extBut b o C (q b o e))
theorem yr{e:DictEntry}{Q:Option Value->Shared->Prop}(I:wW s.heap it d i es.size ep)(hd:RawD s.heap d es ep)(L:es[i]?=some e)
  (hQ:∀h',wW h' it d (i+1) es.size ep->h'.get? s.heap.objs.size=some {cls:=.type "tuple",data:=.seq #[e.key,e.val]}->h'.objs.size=s.heap.objs.size+1->(∀b o,b≠it->s.heap.get? b=some o->h'.get? b=some o)->Q (some (.ref s.heap.objs.size)) {s with heap:=h'}) :
  wpAny (model prog w) A (pyNext (.ref it)) Q E s:=by
 obtain ⟨g,f,ok,ov,h1,C⟩:=I
 obtain ⟨od,l,_,m⟩:=hd
 have h:=yY h1
 unfold pyNext
 refine ε (wpAny_attempt (wpAny_callSpecial?_slot (name:=Str.ofString "__next__") h PySem.F.slot_dict_itemiterator_next (wpAny_call_entry PySem.F.slot_dict_itemiterator_next h PySem.F.entry_dict_itemiterator_next ?_ (PySem.F.args_dict_itemiterator_next_1 _))))
 refine ε (π (ε (ε ?_)))
 first | refine ε (wpAny_typeNameOfWhole_itemiter h (π ?_)) | refine ε (wpAny_typeNameOf_itemiter h (π ?_))
 refine ε (wpAny_fieldsOf h1 rfl ?_)
 simp only [oQ,if_true]
 show wpAny _ _ (if (Value.ref d==Value.none)=true then _ else (_:Sem (Option (Array DictEntry×Int)))) _ _ s
 rw [if_neg (show ¬((Value.ref d==Value.none)=true) by intro z;cases z)]
 refine ε (π (ε (wpAny_dictEntries l m ?_)))
 rw [if_neg (by simp)]
 refine ε (π (ε (wpAny_dictEpoch l m ?_)))
 rw [if_neg (by simp)]
 refine π ?_
 have O:i<es.size:=(Array.getElem?_eq_some_iff.mp L).1
 simp only [show ¬((i:Int)<0) by omega,if_false,Int.toNat_natCast,L]
 refine ε ?_
 first | refine ε (wpAny_typeNameOfWhole_itemiter h (π ?_)) | refine ε (wpAny_typeNameOf_itemiter h (π ?_))
 refine ε (wpAny_isOneOf_itemiter h ?_)
 show wpAny _ _ (setField (.ref it) 3 (rawInt ((i:Int)+1)) >>= λ_=>_) _ _ s
 refine wpAny_bind (wpAny_setField_rec h1 (by simp) λj P G=>?_)
 have q:j.get? it=some (gv g f d (i+1) es.size ep ok ov):=by
  have z:((i+1:Nat):Int)=(i:Int)+1:=by omega
  unfold gv
  rw [z]
  simpa [rawInt] using P
 have r:Shared.TypeIs {s with heap:=j} (.ref it) "dict_itemiterator":=⟨_,q,ϱ⟩
 refine ε (wpAny_holding (ε (wpAny_isOneOf_itemiter r (ε (wpAny_isOneOf_itemiter r ?_)))))
 have u:g=.none\/∃a y,g=rawInt (a:Nat)/\a≠it/\j.get? a=some y:=C.imp id λ⟨a,y,U,J,H⟩=>⟨a,y,U,J,G.extBut a y J H⟩
 refine yq (s:={s with heap:=j}) q u λW X Y H Z=>π ⟨_,ϱ,π ?_⟩
 have D:j.objs.size=s.heap.objs.size:=G.1
 have q3:=hQ W X (by rw [← D];exact Y) (by rw [← D];exact H) λb o K x=>Z b o K (G.extBut b o K x)
 show Q (some (.ref j.objs.size)) _
 rw [D]
 exact q3
theorem AM{Q:Option Value->Shared->Prop}(q:A.handled=none)(j:wW s.heap it d i es.size ep)(r:RawD s.heap d es ep)(u:es.size<=i)
  (x:∀h',Heap.ExtBut it s.heap h'->Q none {s with heap:=h'}):wpAny (model prog w) A (pyNext (.ref it)) Q E s:=by
 obtain ⟨l,f,ok,ov,h1,o⟩:=j
 obtain ⟨od,g,_,h⟩:=r
 have e:=yY h1
 unfold pyNext
 refine ε (wpAny_attempt (wpAny_callSpecial?_slot (name:=Str.ofString "__next__") e PySem.F.slot_dict_itemiterator_next (wpAny_call_entry PySem.F.slot_dict_itemiterator_next e PySem.F.entry_dict_itemiterator_next ?_ (PySem.F.args_dict_itemiterator_next_1 _))))
 refine ε (π (ε (ε ?_)))
 first | refine ε (wpAny_typeNameOfWhole_itemiter e (π ?_)) | refine ε (wpAny_typeNameOf_itemiter e (π ?_))
 refine ε (wpAny_fieldsOf h1 rfl ?_)
 simp only [oQ,if_true]
 show wpAny _ _ (if (Value.ref d==Value.none)=true then _ else (_:Sem (Option (Array DictEntry×Int)))) _ _ s
 rw [if_neg (show ¬((Value.ref d==Value.none)=true) by intro z;cases z)]
 refine ε (π (ε (wpAny_dictEntries g h ?_)))
 rw [if_neg (by simp)]
 refine ε (π (ε (wpAny_dictEpoch g h ?_)))
 rw [if_neg (by simp)]
 refine π ?_
 simp only [show ¬((i:Int)<0) by omega,if_false,Int.toNat_natCast,Array.getElem?_eq_none u]
 refine ε ?_
 first | refine ε (wpAny_typeNameOfWhole_itemiter e (π ?_)) | refine ε (wpAny_typeNameOf_itemiter e (π ?_))
 show wpAny _ _ (setField (.ref it) 2 .none >>= λ_=>_) _ _ s
 refine wpAny_bind (wpAny_setField h1 rfl (by simp) ?_)
 show wpAny _ _ (newExc (.type "StopIteration") [] >>= λ_=>_) _ _ _
 refine ε ?_
 simp only [newExc,newTuple]
 refine wpAny_bind (wpAny_newObj_type (wpAny_bind (m:=firstArgMember _ _) (wpAny_of_eq (a:=Value.none) (by first | rfl | (simp only [firstArgMember];rfl)) (wpAny_newObj_type ?_ (by size_fits)))) (by size_fits))
 simp only [raiseNew]
 refine ε (wpAny_handled ?_)
 rw [show A.in1.handled=none from q]
 refine ε (π (wpAny_throw ?_));refine ε (wpAny_isInstance (T:="StopIteration") (b:=true) ⟨_,ψ _ rfl,ϱ⟩ isSubtype_stop ?_)
 exact π (x _ (((Heap.SameBut.update ..).extBut.push _).push _))
def uc(h:Heap)(es:Array DictEntry)(as:List Addr):Prop:=∀(j:Nat) (a:Addr),as[j]?=some a->∃e,es[j]?=some e/\h.get? a=some {cls:=.type "tuple",data:=.seq #[e.key,e.val]}
theorem sw{S:Addr}{R:Result->Shared->Prop}{h1:Heap}(H:A.handled=none)(m:S≠it)(C:d≠S)(D:d≠it)(P:es.size<=sizeLine)(u:Value)
  (I:∀h' r g c l,(∀b o,b≠S->b≠it->h1.get? b=some o->h'.get? b=some o)->h'.get? S=some {cls:=.type "list",dict:=none,data:=.seq g c,slots:=#[]}->l.length=es.size->uc h' es l->(∀a∈l,h1.objs.size<=a/\a≠S/\a≠it)->l.Nodup ->
   g.toList=l.map Value.ref->R (.ok (.ret u)) {s with heap:=h',toks:=r}) :
  ∀(k i:Nat) (h:Heap) (r c:Nat) (g:Array Value) (l:List Addr),es.size-i=k->i<=es.size->wW h it d i es.size ep->RawD h d es ep->(∀b o,b≠S->b≠it->h1.get? b=some o->h.get? b=some o) ->
   h.get? S=some {cls:=.type "list",dict:=none,data:=.seq g c,slots:=#[]}->g.toList=l.map Value.ref->l.length=i->uc h es l->(∀a∈l,h1.objs.size<=a/\a≠S/\a≠it/\a<h.objs.size)->l.Nodup->h1.objs.size<=h.objs.size ->
   codeAny (model prog w) A (.builtin "list.extend.loop" ⟨[.ref S,.ref it,u],[]⟩) R {s with heap:=h,toks:=r}
 | 0,i,h,r,c,g,l,hk,hi,hit,hd,kp,hS,ha,hl,tu,ab,ndp,hz=>by
  refine codeAny_builtin PySem.F.entry_extend_loop ?_
  rw [Around.under_plainId PySem.F.plain_extend_loop _]
  show wpAny _ A.in1 (pyNext (.ref it) >>= λ_=>_) _ _ _
  refine ε (AM (s:={s with heap:=h,toks:=r}) (A:=A.in1) H hit hd ω λh' xb=>?_)
  exact π (I h' r g c l (λb o n1 n2 e=>xb b o n2 (kp b o n1 n2 e)) (xb S _ m hS) ω (λj a hj=>by
   obtain ⟨e,e1,e2⟩:=tu j a hj
   exact ⟨e,e1,xb a _ (ab a (List.mem_of_getElem? hj)).2.2.1 e2⟩) (λa hm=>⟨(ab a hm).1,(ab a hm).2.1,(ab a hm).2.2.1⟩) ndp ha)
 | k+1,i,h,r,c,g,l,hk,hi,hit,hd,kp,hS,ha,hl,tu,ab,ndp,hz=>by
  have hlt:i<es.size:=by omega
  have hx:es[i]?=some es[i]:=Array.getElem?_eq_getElem hlt
  have hsz:g.size=i:=by rw [← Array.length_toList,ha,ν,hl]
  have lS:S<h.objs.size:=η hS
  have lI:it<h.objs.size:=by obtain ⟨_,_,_,_,e,_⟩:=hit;exact η e
  refine codeAny_builtin PySem.F.entry_extend_loop ?_
  rw [Around.under_plainId PySem.F.plain_extend_loop _]
  show wpAny _ A.in1 (pyNext (.ref it) >>= λ_=>_) _ _ _
  refine ε (yr (s:={s with heap:=h,toks:=r}) hit hd hx λh' hit' ht z' k'=>?_)
  have z'':h'.objs.size=h.objs.size+1:=z'
  have hS':=k' S _ m hS
  have up:∀b o,b≠S->h'.get? b=some o->(h'.update S (Obj.mapSeq (·.push (Value.ref h.objs.size)))).get? b=some o:=λb o nb e=>(Heap.get?_update_other _ _ (Ne.symm nb)).trans e
  have zu:(h'.update S (Obj.mapSeq (·.push (Value.ref h.objs.size)))).objs.size=h.objs.size+1:=by rw [Heap.size_update];exact z''
  show wpAny _ A.in1 (updateSeq S (·.push (Value.ref h.objs.size)) >>= λ_=>_) _ _ _
  refine ε (wpAny_updateSeq hS' rfl (π ⟨plainId_quiet PySem.F.plain_extend_loop _,?_⟩) (by rw [hsz];omega) (by show (g.push (Value.ref h.objs.size)).size<=sizeLine+1;rw [Array.size_push,hsz];omega))
  refine sw H m C D P u I k (i+1) _ r _ (g.push (Value.ref h.objs.size)) (l++[h.objs.size]) ω hlt ?_ (hd.at λo e=>up d o C (k' d o D e)) (λb o n1 n2 e=>up b o n1 (k' b o n2 (kp b o n1 n2 e)))
   (Heap.get?_update_self _ hS' rfl) (by rw [Array.toList_push,ha,List.map_append];rfl) (by rw [List.length_append,hl];rfl) ?_ ?_ ?_ (by rw [zu];omega)
  ·obtain ⟨own,f,ok,ov,e1,how⟩:=hit'
   refine ⟨own,f,ok,ov,up it _ (Ne.symm m) e1,how.imp id λ⟨a,oa,w1,w2,w3⟩=>?_⟩
   by_cases aS:a=S
   ·subst aS
    exact ⟨a,_,w1,w2,Heap.get?_update_self _ hS' rfl⟩
   ·exact ⟨a,oa,w1,w2,up a oa aS w3⟩
  ·intro j a hj
   by_cases hja:j<l.length
   ·rw [List.getElem?_append_left hja] at hj
    obtain ⟨e,e1,e2⟩:=tu j a hj
    obtain ⟨_,n1,n2,_⟩:=ab a (List.mem_of_getElem? hj)
    exact ⟨e,e1,up a _ n1 (k' a _ n2 e2)⟩
   ·rw [List.getElem?_append_right ω] at hj
    have hj0:j-l.length=0:=by
     cases q:j-l.length with
     | zero=>rfl
     | succ n=>rw [q] at hj;simp at hj
    rw [hj0] at hj
    have J:h.objs.size=a:=by simpa using hj
    subst J
    have K:j=i:=by omega
    subst K
    exact ⟨_,hx,up _ _ (Nat.ne_of_gt lS) ht⟩
  ·intro a hm
   rw [zu]
   rcases List.mem_append.mp hm with hm | hm
   ·obtain ⟨m1,m2,m3,m4⟩:=ab a hm
    exact ⟨m1,m2,m3,Nat.lt_succ_of_lt m4⟩
   ·have:=ϵ.mp hm
    subst this
    exact ⟨hz,Nat.ne_of_gt lS,Nat.ne_of_gt lI,Nat.lt_succ_self _⟩
  ·rw [List.nodup_append]
   refine ⟨ndp,by simp,λx G y O z=>?_⟩
   have L:y=h.objs.size:=ϵ.mp O
   exact Φ (ab x G).2.2.2 (z.trans L)
theorem yt{v:Addr}{Q:Value->Shared->Prop}(b:s.heap.IsItemsView v d)(i:RawD s.heap d es ep)(m:es.size<=sizeLine)
  (j:Q (.ref s.heap.objs.size) {s with heap:=s.heap.push (gv .none false d 0 es.size ep .none .none)}):wpAny (model prog w) A (pyIter (.ref v)) Q E s:=by
 obtain ⟨ov,g,l,h⟩:=id b
 obtain ⟨od,e,_,f⟩:=i
 refine wpAny_pyIter_slot b.typeIs PySem.F.slot_dict_items_iter (wpAny_call_entry PySem.F.slot_dict_items_iter b.typeIs PySem.F.entry_dict_items_iter ?_ (PySem.F.args_dict_items_iter_1 _))
 unfold Builtin.«dict_items.__iter__»
 refine ε (π (ε ?_))
 unfold Builtin.Dict_items.dictOf
 refine ε (wpAny_field g h (x:=.ref d) rfl (π (ε ?_)))
 unfold Builtin.Dict_items.newIterator
 refine ε (wpAny_dictEntries e f (ε (wpAny_dictEpoch e f ?_)))
 simp only [oQ,if_true]
 refine wpAny_newObj_type (wpAny_pure ⟨_,ϱ,"dict_itemiterator",_,⟨_,Heap.get?_push_size _ rfl,ϱ⟩,PySem.F.slot_dict_itemiterator_next.lookup,?_⟩) (by simp only [sizeOk,Builtin.Dict_items.ownedTupleFields,List.size_toArray,List.length_append,List.length_cons,List.length_nil,sizeLine_eq];omega)
 simpa [gv,rawInt,Builtin.Dict_items.ownedTupleFields] using j
theorem tT{v S:Addr}{J:Nat}{R:Result->Shared->Prop}(hh:A.handled=none)(C:s.heap.IsItemsView v d)(D:RawD s.heap d es ep)(K:es.size<=sizeLine)(G:S≠v)(r:d≠S)(g:Value)(L:s.heap.get? S=some {cls:=.type "list",data:=.seq #[] J})
  (hR:∀h' tk acc c as,(∀b o,b≠S->s.heap.get? b=some o->h'.get? b=some o)->h'.get? S=some {cls:=.type "list",dict:=none,data:=.seq acc c,slots:=#[]}->as.length=es.size->uc h' es as->(∀a∈as,s.heap.objs.size<=a)->as.Nodup->acc.toList=as.map Value.ref->R (.ok (.ret g)) {s with heap:=h',toks:=tk}) :
  wpAny (model prog w) A.in1 (Builtin.List.listExtendWith (.ref S) (.ref v) g) (λfin s'=>match fin with | .done f=>R (.ok f) s' | .again c'=>c'.quiet=true/\codeAny (model prog w) A c' R s') (λe s'=>R (.error e) s') s:=by
 have H:S<s.heap.objs.size:=η L
 have O:d<s.heap.objs.size:=let ⟨_,e,_⟩:=D;η e
 have I:∀(h:Heap) (c tk:Nat),(∀b o,b≠S->(s.heap.push (gv .none false d 0 es.size ep .none .none)).get? b=some o->h.get? b=some o)->h.get? S=some {cls:=.type "list",data:=.seq #[] c}->s.heap.objs.size<=h.objs.size ->
   codeAny (model prog w) A (.builtin "list.extend.loop" ⟨[.ref S,.ref s.heap.objs.size,g],[]⟩) R {s with heap:=h,toks:=tk}:=by
  intro h c tk kp eS zh
  have P:=kp s.heap.objs.size _ (Nat.ne_of_gt H) (ψ _ rfl)
  refine sw (s:=s) (it:=s.heap.objs.size) (d:=d) (ep:=ep) (es:=es) (h1:=s.heap) hh (Φ H) r (Φ O) K g (λh' x acc c' as Q y U W X Y Z=>hR h' x acc c' as (λb o l e=>Q b o l (Φ (η e)) e) y U W (λa z=>(X a z).1) Y Z)
   es.size 0 h tk c #[] [] (Nat.sub_zero _) (Nat.zero_le _) ⟨_,_,_,_,P,.inl rfl⟩ (D.at λo e=>kp d o r (Heap.get?_push_of_some _ e)) (λb o l _ e=>kp b o l (Heap.get?_push_of_some _ e)) eS rfl rfl (λj a hj=>by simp at hj) (λa z=>nomatch z) List.nodup_nil zh
 unfold Builtin.List.listExtendWith
 refine ε (wpAny_typeOf (T:="dict_items") C.typeIs ?_)
 have b1:Builtin.List.listSameRef (.ref S) (.ref v)=false:=by simp [Builtin.List.listSameRef,G]
 have b2:(Value.type "dict_items"==Value.type "list")=false/\(Value.type "dict_items"==Value.type "tuple")=false:=⟨ζ,ζ⟩
 simp only [b1,b2.1,b2.2,Bool.or_false,Bool.false_eq_true,if_false]
 have i:=ρ (gv .none false d 0 es.size ep .none .none) L
 have m:s.heap.objs.size<=(s.heap.push (gv .none false d 0 es.size ep .none .none)).objs.size:=by rw [Heap.size_push];exact Nat.le_succ _
 refine ε (yt C D K (ε (wpAny_holding (kdx_hint (let ⟨o,e,c,_⟩:=C;⟨o,ρ _ e,c⟩) ?_))))
 refine wpAny_ite_split (λ_=>?_) (λ_=>π ⟨plainId_quiet PySem.F.plain_extend_loop _,I _ J _ (λb o _ e=>e) i m⟩)
 refine ε (wpAny_rule (ε ?_))
 show wpAny _ _ (updateSeq S (·.push .none) >>= λ_=>updateSeq S (·.pop)) _ _ {s with heap:=s.heap.push (gv .none false d 0 es.size ep .none .none)}
 have q:=Heap.get?_update_self (Obj.mapSeq (·.push Value.none)) i rfl
 have u:=Heap.get?_update_self (Obj.mapSeq (·.pop)) q rfl
 refine ε (wpAny_updateSeq i rfl (wpAny_updateSeq (hz:=by seq_fits) q rfl (π ⟨plainId_quiet PySem.F.plain_extend_loop _,I _ _ _ (λb o l e=>?_) u ?_⟩)))
 ·exact (Heap.get?_update_other _ _ (Ne.symm l)).trans ((Heap.get?_update_other _ _ (Ne.symm l)).trans e)
 ·rw [Heap.size_update,Heap.size_update]
  exact m
theorem re{v:Addr}{R:List Value->Shared->Prop}(Z:A.handled=none)(P:s.heap.IsItemsView v d)(Q:RawD s.heap d es ep)(hn:es.size<=sizeLine)
  (hR:∀(h':Heap) (j:Nat) (h:List Addr),(∀b o,s.heap.get? b=some o->h'.get? b=some o)->h.length=es.size->uc h' es h->(∀a∈h,s.heap.objs.size<=a)->h.Nodup->R (h.map Value.ref) {s with heap:=h',toks:=j}) :
  wpAny (model prog w) A (collect (.ref v)) R E s:=by
 have U:v<s.heap.objs.size:=let ⟨_,e,_⟩:=P;η e
 have W:d<s.heap.objs.size:=let ⟨_,e,_⟩:=Q;η e
 unfold collect
 refine ε (wpAny_runValue (codeAny_builtin entry_proto_collect' ?_))
 rw [Around.under_plainId PySem.F.plain_proto_collect _]
 show wpAny _ A.in1 (newList [] >>= λl=>again (.builtin "list.__iadd__" (Args.mk [l,.ref v] []))) _ _ s
 refine ε (wpAny_newObj_type (π ⟨plainId_quiet PySem.F.plain_list_iadd _,codeAny_builtin entry_list_iadd' ?_⟩))
 rw [Around.under_plainId PySem.F.plain_list_iadd _]
 have X:(s.heap.push {cls:=.type "list",data:=.seq ([]:List Value).toArray}).get? s.heap.objs.size=some {cls:=.type "list",data:=.seq #[] 0}:=ψ _ rfl
 have G:=tT (prog:=prog) (w:=w) (A:=A) (s:={s with heap:=s.heap.push {cls:=.type "list",data:=.seq ([]:List Value).toArray}}) (v:=v) (S:=s.heap.objs.size) (d:=d) (es:=es) (ep:=ep)
  (R:=λ(q:Result) (z:Shared)=>∃(h':Heap) (j:Nat) (i:Array Value) (c:Nat) (h:List Addr),q=.ok (.ret (.ref s.heap.objs.size))/\z={s with heap:=h',toks:=j}/\(∀b o,s.heap.get? b=some o->h'.get? b=some o) /\
   h'.get? s.heap.objs.size=some {cls:=.type "list",dict:=none,data:=.seq i c,slots:=#[]}/\h.length=es.size/\uc h' es h/\(∀a∈h,s.heap.objs.size<=a)/\h.Nodup/\i.toList=h.map Value.ref)
  Z (let ⟨o,e,r⟩:=P;⟨o,ρ _ e,r⟩) (Q.at λo e=>ρ _ e) hn (Nat.ne_of_gt U) (Φ W) (.ref s.heap.objs.size) X
  (λh' j i c h H u I J K L O=>⟨h',j,i,c,h,ϱ,ϱ,λb o e=>H b o (Φ (η e)) (ρ _ e),u,I,J,λa Y=>Nat.le_of_succ_le (by have:=K a Y;rw [Heap.size_push] at this;exact this),L,O⟩)
 have m:∀(q:Result) (z:Shared),(∃(h':Heap) (j:Nat) (i:Array Value) (c:Nat) (h:List Addr),q=.ok (.ret (.ref s.heap.objs.size))/\z={s with heap:=h',toks:=j}/\(∀b o,s.heap.get? b=some o->h'.get? b=some o) /\
   h'.get? s.heap.objs.size=some {cls:=.type "list",dict:=none,data:=.seq i c,slots:=#[]}/\h.length=es.size/\uc h' es h/\(∀a∈h,s.heap.objs.size<=a)/\h.Nodup/\i.toList=h.map Value.ref) ->
   ∃h' j,q=.ok (.ret (.ref s.heap.objs.size))/\z={s with heap:=h',toks:=j}/\wpAny (model prog w) A (load s.heap.objs.size >>= λo=>match o.data with | .seq xs _=>pure xs.toList | _=>unsupported "internal:collect") R E {s with heap:=h',toks:=j}:=by
  rintro q z ⟨h',j,i,c,h,rfl,rfl,H,u,I,J,K,L,O⟩
  refine ⟨h',j,ϱ,ϱ,ε (wpAny_load u (π ?_))⟩
  show R i.toList _
  rw [O]
  exact hR h' j h H I J K L
 refine wpAny_mono G (λf z x=>?_) λe z x=>?_
 ·cases f with
  | done fl =>
   obtain ⟨h',j,C,D,g⟩:=m _ _ x
   cases C
   subst D
   exact g
  | again c1 =>
   refine ⟨x.1,codeAny_mono x.2 λq s2 y=>?_⟩
   obtain ⟨h',j,C,D,g⟩:=m _ _ y
   subst C D
   exact g
 ·obtain ⟨h',j,C,_⟩:=m _ _ x
  cases C
end
section
variable {prog:Program}{w:World}{A:Around}{E:Value->Shared->Prop}{s:Shared}{it d:Addr}{i ep:Nat}{es:Array DictEntry}
theorem pP:Builtin.Dict_items.ownsTuple "dict_keyiterator"=false:=by decide
theorem xr{Q:Value->Shared->Prop}(f:(d==sysModules)=false)(i:RawD s.heap d es ep)
  (j:Q (.ref s.heap.objs.size) {s with heap:=s.heap.push {cls:=.type "dict_keyiterator",data:=.fields #[.ref d,.int 0 0,.int es.size 0,.int ep 0]}}):wpAny (model prog w) A (pyIter (.ref d)) Q E s:=by
 obtain ⟨od,b,h,g⟩:=i
 have e:s.TypeIs (.ref d) "dict":=⟨od,b,h.1⟩
 refine wpAny_pyIter_slot e PySem.F.slot_dict_iter (wpAny_call_entry PySem.F.slot_dict_iter e PySem.F.entry_dict_iter ?_ (PySem.F.args_dict_iter_1 _))
 unfold Builtin.«dict.__iter__» Builtin.Dict.dictSlotNone
 refine ε (ε (wpAny_notOrdered_dict e ?_))
 refine π ?_
 show wpAny _ _ (Builtin.Dict.showsAll d >>= λ_=>_) _ _ s
 unfold Builtin.Dict.showsAll
 rw [if_neg (by rw [f];exact Bool.false_ne_true)]
 refine ε (π (ε (wpAny_dictEntries b g (ε (wpAny_dictEpoch b g ?_)))))
 refine ε (wpAny_newObj_type (π ⟨_,ϱ,"dict_keyiterator",_,⟨_,ψ _ rfl,ϱ⟩,PySem.F.slot_dict_keyiterator_next.lookup,?_⟩))
 simpa [rawInt] using j
theorem xq{e:DictEntry}{Q:Option Value->Shared->Prop}(j:s.heap.IsKeyIter it d i es.size ep)(m:RawD s.heap d es ep)(o:es[i]?=some e)
  (q:∀h',h'.IsKeyIter it d (i+1) es.size ep->Heap.SameBut it s.heap h'->Q (some e.key) {s with heap:=h'}):wpAny (model prog w) A (pyNext (.ref it)) Q E s:=by
 obtain ⟨r,h1,l,hf⟩:=id j
 obtain ⟨od,g,_,h⟩:=m
 have f:=j.typeIs
 unfold pyNext
 refine ε (wpAny_attempt (wpAny_callSpecial?_slot (name:=Str.ofString "__next__") f PySem.F.slot_dict_keyiterator_next (wpAny_call_entry PySem.F.slot_dict_keyiterator_next f PySem.F.entry_dict_keyiterator_next ?_ (PySem.F.args_dict_keyiterator_next_1 _))))
 refine ε (π (ε (ε ?_)))
 first | refine ε (wpAny_typeNameOfWhole_keyiter f (π ?_)) | refine ε (wpAny_typeNameOf_keyiter f (π ?_))
 refine ε (wpAny_fieldsOf h1 hf ?_)
 simp only [pP,Bool.false_eq_true,if_false]
 show wpAny _ _ (if (Value.ref d==Value.none)=true then _ else (_:Sem (Option (Array DictEntry×Int)))) _ _ s
 rw [if_neg (show ¬((Value.ref d==Value.none)=true) by intro z;cases z)]
 refine ε (π (ε (wpAny_dictEntries g h ?_)))
 rw [if_neg (by simp)]
 refine ε (π (ε (wpAny_dictEpoch g h ?_)))
 rw [if_neg (by simp)]
 refine π ?_
 simp only [show ¬((i:Int)<0) by omega,if_false,Int.toNat_natCast,o]
 refine ε ?_
 first | refine ε (wpAny_typeNameOfWhole_keyiter f (π ?_)) | refine ε (wpAny_typeNameOf_keyiter f (π ?_))
 refine ε (wpAny_isOneOf_keyiter f ?_)
 show wpAny _ _ (setField (.ref it) 1 (rawInt ((i:Int)+1)) >>= λ_=>_) _ _ s
 refine wpAny_bind (wpAny_setField h1 hf (by simp) ?_)
 have b:(s.heap.update it (Obj.mapFields (·.setIfInBounds 1 (rawInt ((i:Int)+1))))).IsKeyIter it d (i+1) es.size ep :=
  ⟨_,Heap.get?_update_self _ h1 (Obj.isFreed_of_fields (Obj.data_mapFields hf _)),(Obj.cls_mapFields ..).trans l,by rw [Obj.data_mapFields hf];simp [rawInt]⟩
 refine ε (wpAny_holding (ε (wpAny_isOneOf_keyiter (s:={s with heap:=s.heap.update it (Obj.mapFields (·.setIfInBounds 1 (rawInt ((i:Int)+1))))}) b.typeIs ?_)))
 show wpAny _ _ (pure e.key) _ _ _
 exact π (π ⟨_,ϱ,π (q _ b (Heap.SameBut.update ..))⟩)
theorem zR{Q:Option Value->Shared->Prop}(j:A.handled=none)(h:s.heap.IsKeyIter it d i es.size ep)(l:RawD s.heap d es ep)(o:es.size<=i)
  (q:∀h',Heap.ExtBut it s.heap h'->Q none {s with heap:=h'}):wpAny (model prog w) A (pyNext (.ref it)) Q E s:=by
 obtain ⟨r,h1,u,hf⟩:=id h
 obtain ⟨od,f,_,g⟩:=l
 have e:=h.typeIs
 unfold pyNext
 refine ε (wpAny_attempt (wpAny_callSpecial?_slot (name:=Str.ofString "__next__") e PySem.F.slot_dict_keyiterator_next (wpAny_call_entry PySem.F.slot_dict_keyiterator_next e PySem.F.entry_dict_keyiterator_next ?_ (PySem.F.args_dict_keyiterator_next_1 _))))
 refine ε (π (ε (ε ?_)))
 first | refine ε (wpAny_typeNameOfWhole_keyiter e (π ?_)) | refine ε (wpAny_typeNameOf_keyiter e (π ?_))
 refine ε (wpAny_fieldsOf h1 hf ?_)
 simp only [pP,Bool.false_eq_true,if_false]
 show wpAny _ _ (if (Value.ref d==Value.none)=true then _ else (_:Sem (Option (Array DictEntry×Int)))) _ _ s
 rw [if_neg (show ¬((Value.ref d==Value.none)=true) by intro z;cases z)]
 refine ε (π (ε (wpAny_dictEntries f g ?_)))
 rw [if_neg (by simp)]
 refine ε (π (ε (wpAny_dictEpoch f g ?_)))
 rw [if_neg (by simp)]
 refine π ?_
 simp only [show ¬((i:Int)<0) by omega,if_false,Int.toNat_natCast,Array.getElem?_eq_none o]
 refine ε ?_
 first | refine ε (wpAny_typeNameOfWhole_keyiter e (π ?_)) | refine ε (wpAny_typeNameOf_keyiter e (π ?_))
 show wpAny _ _ (setField (.ref it) 0 .none >>= λ_=>_) _ _ s
 refine wpAny_bind (wpAny_setField h1 hf (by simp) ?_)
 show wpAny _ _ (newExc (.type "StopIteration") [] >>= λ_=>_) _ _ _
 refine ε ?_
 simp only [newExc,newTuple]
 refine wpAny_bind (wpAny_newObj_type (wpAny_bind (m:=firstArgMember _ _) (wpAny_of_eq (a:=Value.none) (by first | rfl | (simp only [firstArgMember];rfl)) (wpAny_newObj_type ?_ (by size_fits)))) (by size_fits))
 simp only [raiseNew]
 refine ε (wpAny_handled ?_)
 rw [show A.in1.handled=none from j]
 refine ε (π (wpAny_throw ?_));refine ε (wpAny_isInstance (T:="StopIteration") (b:=true) ⟨_,ψ _ rfl,ϱ⟩ isSubtype_stop ?_)
 exact π (q _ (((Heap.SameBut.update ..).extBut.push _).push _))
end
def Fz(a:Addr)(o:Obj):HO:=.ext λh=>h.get? a=some o
def FzD(P:Program)(w:World)(H:Hp)(a:Addr)(o:Obj)(kvs:List (List Key×V)):Prop :=
 kvs.length<=sizeLine/\(a==sysModules)=false/\∃xs es ep,KT H kvs xs/\o.ExactDict/\o.data=.dict es ep/\es.toList=xs.map (entryOfKey (tupleKind (aK P w)))/\(xs.map (·.1)).Nodup
theorem FzD.keep{P:Program}{w:World}{H d:Hp}{a:Addr}{o:Obj}{b:List (List Key×V)}(e:TSame H d)(f:FzD P w H a o b):FzD P w d a o b:=by
 obtain ⟨z,g,h,i,j,r,q⟩:=f
 exact ⟨z,g,h,i,j,r.keeps e,q⟩
section
variable {X:Cx}{pins:List (Addr×Obj)}{σ:St}{H:Hp}{s:Shared}{a:Addr}{o:Obj}{kvs:List (List Key×V)}
theorem AQ(I:Inv X pins σ H s)(e:H a=some (.dT kvs)):∃o,Inv X pins σ (upd H a (Fz a o)) s/\FzD X.prog X.w (upd H a (Fz a o)) a o kvs/\s.heap.get? a=some o:=by
 obtain ⟨z,d,f,r,o,g,h,h1,i,j,l,m⟩:=(show ObjOk X.prog X.w H s.heap a (.dT kvs) from I.hok a _ e)
 refine ⟨o,I.write (x:=a) (e:=a) (h':=s.heap) (t':=s.toks) (by rw [e];exact ϰ) (.inl rfl) (λb u _ q=>q) ⟨_,h1⟩ ⟨h1,⟨_,h1⟩,λg1 y p k=>k _ p⟩,⟨z,d,f,g,h,KT.keeps (H:=H) r λb C q=>?_,i,j,l,m⟩,h1⟩
 rw [ao (i4 q e (λz=>nomatch z))]
 exact q
theorem zn(I:Inv X pins σ H s)(e:H a=some (Fz a o))(f:FzD X.prog X.w H a o kvs):Inv X pins σ (upd H a (.dT kvs)) s:=by
 obtain ⟨z,d,g,h,i,r,j,l,m,y⟩:=f
 obtain ⟨h1,_⟩:=(show ObjOk X.prog X.w H s.heap a (Fz a o) from I.hok a _ e)
 refine I.write (x:=a) (e:=a) (h':=s.heap) (t':=s.toks) (by rw [e];exact ϰ) (.inl rfl) (λb u _ q=>q) ⟨_,h1⟩ ⟨z,d,g,r.keeps λb C q=>?_,o,h,i,h1,j,l,m,y⟩
 rw [ao (i4 q e (λz=>nomatch z))]
 exact q
end
def Be(P:Program)(w:World)(t:TE):TE:=fun σ H Q=>t σ H λv H1=>∃a o kvs,H1 a=some (Fz a o)/\FzD P w H1 a o kvs/\Q v (upd H1 a (.dT kvs))
theorem xA{X:Cx}{e:Expr}{t:TE}(l:PE X e t):PE X e (Be X.prog X.w t):=by
 intro b s σ H Q I h
 refine thn (l b s σ H _ I h) λu m ⟨x,H1,d,g,a,o,i,j,f,q⟩=>?_
 exact ⟨x,_,zn d j f,g,q⟩
def Itk(a:Addr)(o:Obj):It :=
 ⟨λi H=>H a=some (Fz a o)/\∃es ep h b v,o.data=.dict es ep/\es[i]?=some ⟨h,.ref b,v⟩,λi H x H'=>H'=H/\∃es ep h b v,o.data=.dict es ep/\es[i]?=some ⟨h,.ref b,v⟩/\x=.ref b,
  λi H=>H a=some (Fz a o)/\∃es ep,o.data=.dict es ep/\es.size<=i⟩
theorem sM{P:Program}{w:World}{K:Frag}{tg:Expr}(a it:Addr)(o:Obj)(Q:o.ExactDict):rE P w K tg (Itk a o) [it] it (λi h=>∃es ep,o.data=.dict es ep/\h.IsKeyIter it a i es.size ep) where
 mem:=by simp
 obj:=λi h st b hb=>by
  have e:b=it:=by simpa using hb
  subst e
  obtain ⟨_,_,_,o,e,c,d⟩:=st
  exact ⟨o,e,λv z=>by rw [d] at z;cases z⟩
 keep:=λi h h' st k=>by
  obtain ⟨es,ep,d,st⟩:=st
  exact ⟨es,ep,d,st.at λo e=>k it (by simp) o e⟩
 item:=by
  intro X F G J O i j s σ H E I hf st L
  subst F G J
  obtain ⟨es,ep,g,st⟩:=st
  obtain ⟨e0,q,r,U,b,v,f,m⟩:=L
  rw [g] at f
  cases f
  obtain ⟨h1,_⟩:=(show ObjOk X.prog X.w H s.heap a (Fz a o) from I.hok a _ e0)
  obtain ⟨u,x,W,y,C,D⟩:=hf it (by simp)
  refine xq st ⟨o,h1,Q,g⟩ m λh' l sb=>?_
  have Y:Inv X j σ H {s with heap:=h'}:=I.turned (t':=s.toks) (λb o hb e=>(sb.2 b hb).trans e) u x y C D
  obtain ⟨oi,e,c,d⟩:=id l
  exact ⟨.ref b,ϱ,ny (s:={s with heap:=h'}) e c d ζ ⟨.ref b,H,Y,ϱ,⟨ϱ,es,ep,U,b,v,g,m,ϱ⟩,⟨es,ep,g,l⟩,λb hb=>(hf b hb).1⟩⟩
 done:=by
  intro X F G J O i j s σ H E I hf st L
  subst F G J
  obtain ⟨es,ep,g,st⟩:=st
  obtain ⟨e0,q,r,f,m⟩:=L
  rw [g] at f
  cases f
  obtain ⟨h1,_⟩:=(show ObjOk X.prog X.w H s.heap a (Fz a o) from I.hok a _ e0)
  obtain ⟨u,x,W,y,C,D⟩:=hf it (by simp)
  exact zR (I.ok.hd O) st ⟨o,h1,Q,g⟩ m λh' Z=>⟨ϱ,I.turned (t':=s.toks) (λb o hb e=>Z b o hb e) u x y C D⟩
 self:=λ_ _ _ _ _ st h=>by
  obtain ⟨es,ep,g,st⟩:=st
  exact wpAny_pyIter_keyiter st h
def B1(P:Program)(w:World)(tl:TE):TI:=fun σ H R=>tl σ H λx H1=>∃a kvs,x=.ref a/\H1 a=some (.dT kvs)/\∀o,FzD P w (upd H1 a (Fz a o)) a o kvs->R (Itk a o) (upd H1 a (Fz a o))
theorem xy{X:Cx}{K l:Expr}{r:TE}(L:PE X l r):PI X K l (B1 X.prog X.w r):=by
 intro d s σ H R I h
 refine thn (L d s σ H _ I h) λv g ⟨x,H1,F,G,q1⟩=>?_
 obtain ⟨a,u,e,y,q⟩:=q1
 subst e
 cases G
 obtain ⟨o,i,f,h1⟩:=AQ F y
 obtain ⟨_,z,O,C,D,_,j,m,_,_⟩:=id f
 refine xr z ⟨o,h1,j,m⟩ ?_
 refine ⟨g.heap.objs.size,[g.heap.objs.size],_,_,_,ϱ,i.kept (t':=g.toks) λb o e=>ρ _ e,sM a _ o j,⟨C,D,m,_,ψ _ rfl,ϱ,ϱ⟩,λb J=>?_,q o f⟩
 have e:b=g.heap.objs.size:=by simpa using J
 subst e
 exact i.fpOk (ι _) (i.hok.fresh (ι _))
section
variable {P:Program}{w:World}{a:Addr}{o:Obj}{kvs:List (List Key×V)}{tt:TT}{te:TE}{bl:St}{Fin:List V->Hp->Prop}{H:Hp}
theorem ym(f:FzD P w H a o kvs)(d:Nat->List V->Hp->Prop)(h0:d 0 [] H)(X:∀i ys H',i<=kvs.length->d i ys H'->H' a=some (Fz a o)/\TSame H H')
  (Y:∀i e b ys H',kvs[i]?=some e->H' b=some (.tup (e.1.map kV))->d i ys H'->tt (some (.ref b)::bl) H' λc H2=>if c=true then te (some (.ref b)::bl) H2 λy H3=>d (i+1) (ys++[y]) H3 else d (i+1) ys H2)
  (Z:∀ys H',d kvs.length ys H'->Fin ys H') :
  ∃(W:Nat->List V->Hp->Prop) (n:Nat),W 0 [] H/\n<=sizeLine/\∀i ys H,W i ys H->((Itk a o).stop i H/\Fin ys H) \/
   ((Itk a o).go i H/\i<n/\∀x H',(Itk a o).yld i H x H'->tt (some x::bl) H' λc H2=>if c=true then te (some x::bl) H2 λy H3=>W (i+1) (ys++[y]) H3 else W (i+1) ys H2):=by
 obtain ⟨D,_,xs,l,m,r,hx,g,u,_⟩:=f
 have K:l.size=kvs.length:=by rw [size_of_entries u];exact (Paired.length r).symm
 refine ⟨λi ys H'=>i<=kvs.length/\d i ys H',kvs.length,⟨ϖ _,h0⟩,D,?_⟩
 rintro i ys H' ⟨U,p⟩
 obtain ⟨q,ts⟩:=X i ys H' U p
 by_cases hlt:i<kvs.length
 ·obtain ⟨y,F,G⟩:=r.get1 (ξ hlt)
  have C:l[i]?=some (entryOfKey (tupleKind (aK P w)) y):=by rw [entry_at u,F];rfl
  refine .inr ⟨⟨q,l,m,_,y.2.1,y.2.2,g,C⟩,hlt,λx H2 z=>?_⟩
  obtain ⟨e,I,J,hh,b,v,h,j,ex⟩:=z
  subst e ex
  rw [g] at h
  cases h
  rw [C] at j
  have L:y.2.1=b:=by
   have:=congrArg DictEntry.key (Δ j)
   exact Value.ref.inj this
  subst L
  have z:=Y i kvs[i] y.2.1 ys H2 (ξ hlt) (ts _ _ G.2.1) p
  have O:(λ(c:Bool) (H2:Hp)=>if c=true then te (some (.ref y.2.1)::bl) H2 λy H3=>i+1<=kvs.length/\d (i+1) (ys++[y]) H3 else i+1<=kvs.length/\d (i+1) ys H2)=λc H2=>if c=true then te (some (.ref y.2.1)::bl) H2 λy H3=>d (i+1) (ys++[y]) H3 else d (i+1) ys H2:=by
   have Q:(i+1<=kvs.length)=True:=eq_true hlt
   funext c H2
   simp only [Q,true_and]
  show tt _ _ _
  rw [O]
  exact z
 ·have e:i=kvs.length:=by omega
  subst e
  exact .inl ⟨⟨q,l,m,g,ω⟩,Z ys H' p⟩
end
def Vw(v d:Addr):HO:=.ext λh=>h.IsItemsView v d
def zr(td:TE):TE:=fun σ H Q=>td σ H λx H1=>∃a kvs,x=.ref a/\H1 a=some (.dT kvs)/\∀v,H1 v=none->Q (.ref v) (upd H1 v (Vw v a))
theorem vd{X:Cx}{o:Expr}{b d:Pos}{y:TE}(K:PE X o y)(f:attributeBase o "items" X.env (eval o X.env)=eval o X.env:=by rfl)(g:(b.endLine==d.line)=true:=by rfl) :
  PE X (.Call (.Attribute o "items" b) [] [] d) (zr y):=by
 intro j s σ H Q I h
 refine wpAny_Call_method0_late f g (thn (K j s σ H _ I h) λu i ⟨x,H1,m,G,a,w,ex,e,q⟩=>?_)
 subst ex
 obtain rfl:u=Value.ref a:=G
 obtain ⟨l,C,D⟩:=jK m (.inr ⟨w,.inl e⟩)
 refine ⟨"dict","dict.items",PySem.F.plainAttrs_dict,PySem.F.slot_dict_items,PySem.F.type_dict_items,l,C,Calls.callWith_builtin rfl (PySem.evalArgs_none ?_)⟩
 refine wpAny_call_entry PySem.F.slot_dict_items l PySem.F.entry_dict_items ?_ (PySem.F.args_dict_items_1 _)
 unfold Builtin.«dict.items» Builtin.Dict.noArgs
 refine ε (ε (wpAny_notOrdered_dict l (π ?_)))
 show wpAny _ _ (Builtin.Dict.showsAll a >>= λ_=>_) _ _ i
 unfold Builtin.Dict.showsAll
 rw [if_neg (by rw [D];exact Bool.false_ne_true)]
 refine ε (π (ε (wpAny_newObj_type (π ⟨_,ϱ,?_⟩))))
 refine ⟨.ref i.heap.objs.size,_,m.laid (a:=i.heap.objs.size) (o:=Vw i.heap.objs.size a) (t':=i.toks) (λ_ _ z=>ρ _ z) (ι _) ⟨⟨_,ψ _ rfl,ϱ,ϱ⟩,⟨_,ψ _ rfl⟩,λg1 L ⟨J,p,r⟩ k=>⟨J,k _ p,r⟩⟩,ϱ,q _ (m.hok.fresh (ι _))⟩
theorem jE{α β:Type}{F:α->β->Prop}:∀{xs:List α} {ys:List β},xs.length=ys.length->(∀(i:Nat) x y,xs[i]?=some x->ys[i]?=some y->F x y)->Paired F xs ys
 | [],[],_,_=>.nil
 | x::xs,y::ys,h,f=>.cons (f 0 x y rfl rfl) (jE (Nat.succ.inj h) λi a b e1 e2=>f (i+1) a b e1 e2)
def ka(H:Hp)(ts:List (Addr×List V)):Hp:=λb=>match ts.find? (λp=>decide (p.1=b)) with | some p=>some (.tup p.2) | none=>H b
theorem w5{H:Hp}{ts:List (Addr×List V)}(nd:(ts.map (·.1)).Nodup){p:Addr×List V}(b:p∈ts):ka H ts p.1=some (.tup p.2):=by
 unfold ka
 have:ts.find? (λq=>decide (q.1=p.1))=some p:=by
  induction ts with
  | nil=>cases b
  | cons x r ih =>
   rw [List.map_cons,List.nodup_cons] at nd
   rw [List.find?_cons]
   by_cases e:x.1=p.1
   ·rw [τ e]
    rcases ϕ.mp b with z | z
    ·rw [z]
    ·exact absurd (ϑ.mpr ⟨p,z,e.symm⟩) nd.1
   ·rw [Γ e]
    rcases ϕ.mp b with z | z
    ·exact absurd (by rw [z]) e
    ·exact ih nd.2 z
 rw [this]
theorem rJ{H:Hp}{ts:List (Addr×List V)}{b:Addr}(h:∀p∈ts,p.1≠b):ka H ts b=H b:=by
 unfold ka
 have:ts.find? (λq=>decide (q.1=b))=none:=List.find?_eq_none.mpr λp d c=>h p d (Ξ c)
 rw [this]
theorem ul{H:Hp}{ts:List (Addr×List V)}{b:Addr}{o:HO}(h:ka H ts b=some o):(∃p∈ts,p.1=b/\o=.tup p.2)\/((∀p∈ts,p.1≠b)/\H b=some o):=by
 unfold ka at h
 cases e:ts.find? (λq=>decide (q.1=b)) with
 | none =>
  rw [e] at h
  exact .inr ⟨λp d z=>List.find?_eq_none.mp e p d (τ z),h⟩
 | some p =>
  rw [e] at h
  exact .inl ⟨p,List.mem_of_find?_eq_some e,by simpa using List.find?_some e,(Option.some.inj h).symm⟩
section
variable {X:Cx}{pins:List (Addr×Obj)}{σ:St}{H:Hp}{s:Shared}
theorem BV{h':Heap}{l:Nat}{ts:List (Addr×List V)}(I:Inv X pins σ H s)(k:∀b o,s.heap.get? b=some o->h'.get? b=some o)(new:∀p∈ts,s.heap.objs.size<=p.1)
  (ok:∀p∈ts,p.2.length<=sizeLine/\∃its,Vals p.2 its/\IsTup h' p.1 (List.toArray its)):Inv X pins σ (ka H ts) {s with heap:=h',toks:=l}:=by
 have old:∀b o,s.heap.get? b=some o->ka H ts b=H b:=λb o e=>rJ λp j z=>by
  subst z
  exact Nat.not_le_of_gt (η e) (new p j)
 have f:∀b o,H b=some o->ka H ts b=H b:=λb o e=>by
  obtain ⟨g,h⟩:=(I.hok b o e).there
  exact old b g h
 refine I.step (h':=h') (g':=s.gens) (d':=s.drawn) (t':=l) (ch:=[]) (λ_ z=>nomatch z) (λb o _ _ _ e _=>k b o e) (λb o _ _ _ e _=>⟨o.slots,k b o e⟩) (λb o _ e n=>by rw [old b o e];exact n)
  (λb o _ e=>⟨o,k b o e⟩) (λb y e=>by rw [f b _ e];exact e) (λb o u e=>by rw [f b _ e];exact e) (λb D e=>⟨#[],by rw [f b _ e,e];simp⟩) (λm C=>?_) (λb o e=>?_) I.bare
 ·obtain ⟨g,w,x,i,r⟩:=C
  exact ⟨g,w,x,k _ g i,r⟩
 ·rcases ul e with ⟨p,j,rfl,rfl⟩ | ⟨hn,h⟩
  ·exact ok p j
  ·exact (I.hok b o h).stay (λd v _ q=>k d v q) (λd q=>by rw [f d _ q];exact q) λd y q=>by rw [f d _ q];exact q
end
end L2
namespace Lo
open PySem L2
theorem sPS.c{K:Frag}{H:Hp}{x:Pa×Str}{v:V}(h:sPS K H x v):cPS.rp K H x v:=by
 obtain ⟨a,b,rfl,h1,d⟩:=h
 exact ⟨a,_,_,ϱ,.inl h1,sPa.c (K:=K) (x:=x.1) ⟨b,ϱ,d⟩,ϱ⟩
end Lo
namespace L2
open PySem PySem.Spec PyProof.Rows
theorem yy{K:Frag}{H:Hp}{a:Addr}(n:Nat):EqIs K n H (.ref a) (.ref a) true:=λP w A s u v hA hok kin r1 r2=>by
 cases r1
 cases r2
 exact SeqAt.EqAt.same _
theorem eq_int{K:Frag}{H:Hp}(n:Nat)(i:Int):EqIs K n H (.int i) (.int i) true:=by
 have z:=(cInt.eq (K:=K) (H:=H) (x:=i) (y:=i) rfl rfl).mono (ϖ n)
 rwa [τ rfl] at z
theorem eq_str{K:Frag}{H:Hp}(n:Nat)(i:Str):EqIs K n H (.str i) (.str i) true:=by
 have z:=(cStr.eq (K:=K) (H:=H) (x:=i) (y:=i) rfl rfl).mono (ϖ n)
 rwa [τ rfl] at z
theorem iK{K:Frag}{H:Hp}{a b:Addr}{n:Nat}{us vs:List V}(o:SqT K H a us)(q:SqT K H b vs)(h:Paired (λx y=>EqIs K n H x y true) us vs):EqIs K (n+1) H (.ref a) (.ref b) true/\ud K (n+1) H (.ref a) (.ref b) true:=by
 obtain ⟨d,f⟩:=ut (e:=λ_=>true) o q h.len λj x y l m=>by
  obtain ⟨v,g,i⟩:=h.get1 l
  rw [m] at g
  cases g
  exact i
 have e:((List.range us.length).all λ_=>true)=true:=by simp
 rw [e] at d f
 exact ⟨md d λ_ _ _ _ _ _=>rfl,f⟩
end L2
namespace Lo
open PySem L2
structure TxH(K:Frag)(CH:Addr):Prop where
 cl:Cls K CH
 ht:NoAttr K CH "stand"
 hw:NoAttr K CH "rows"
 hs:NoAttr K CH "sent"
 hl:NoAttr K CH "latest"
structure Ah where
 (l dx rw sn:Addr)
def hf(S:Addr)(h:Ah)(v:V):List (Str×V):=au "latest" v (au "sent" (.ref h.sn) (au "rows" (.ref h.rw) (au "stand" (.ref S) [])))
theorem lK(f:Str)(v v':V):∀fs:List (Str×V),au f v' (au f v fs)=au f v' fs
 | []=>by
  show (if f=f then _ else _)=_
  rw [if_pos rfl]
  rfl
 | (g,x)::r=>by
  by_cases e:g=f
  ·show au f v' (if g=f then _ else _)=(if g=f then _ else _)
   rw [if_pos e,if_pos e]
   show (if g=f then _ else _)=_
   rw [if_pos e]
  ·show au f v' (if g=f then _ else _)=(if g=f then _ else _)
   rw [if_neg e,if_neg e]
   show (if g=f then _ else _)=_
   rw [if_neg e,lK f v v' r]
theorem AN(S:Addr)(h:Ah)(v v':V):au "latest" v' (hf S h v)=hf S h v':=lK _ _ _ _
theorem zc(S:Addr)(h:Ah)(v:V):(hf S h v).lookup ("latest":Str)=some v:=by
 unfold hf
 rw [al,if_pos rfl]
theorem yZ(S:Addr)(h:Ah)(v:V):(hf S h v).lookup ("sent":Str)=some (.ref h.sn):=by
 unfold hf
 rw [al,if_neg θ,al,if_pos rfl]
theorem zb(S:Addr)(h:Ah)(v:V):(hf S h v).lookup ("rows":Str)=some (.ref h.rw):=by
 unfold hf
 rw [al,if_neg θ,al,if_neg θ,al,if_pos rfl]
theorem wr(S:Addr)(h:Ah)(v:V):(hf S h v).lookup ("stand":Str)=some (.ref S):=by
 unfold hf
 rw [al,if_neg θ,al,if_neg θ,al,if_neg θ,al,if_pos rfl]
theorem gu{S:Addr}{h:Ah}{v:V}{m:Str}(q:decide (m∈(["latest","sent","rows","stand"]:List Str))=false):(hf S h v).lookup m=none:=by
 have b:m∉(["latest","sent","rows","stand"]:List Str):=of_decide_eq_false q
 simp only [List.mem_cons,List.not_mem_nil,or_false,not_or] at b
 obtain ⟨h1,d,e,f⟩:=b
 unfold hf
 rw [al,if_neg h1,al,if_neg d,al,if_neg e,al,if_neg f]
 rfl
theorem AO(S:Addr)(h:Ah)(v:V):(hf S h v).length<1000:=bh (n:=999) (bh (n:=998) (bh (n:=997) (bh (n:=996) (by show 0<996;decide))))
abbrev Ws:=Int×Str×Addr×Addr
def WsAt(H:Hp)(x:Ws)(u:V):Prop:=∃t t2,u=.ref t/\H t=some (.tup [.int x.1,.ref t2])/\H t2=some (.tup [.str x.2.1,.ref x.2.2.1,.ref x.2.2.2])
theorem WsAt.keep{H b:Hp}{x:Ws}{u:V}(e:TSame H b)(h:WsAt H x u):WsAt b x u:=by
 obtain ⟨t,d,rfl,h1,f⟩:=h
 exact ⟨t,d,ϱ,e _ _ h1,e _ _ f⟩
def Im(CH CL:Addr):HO->Prop
 | .tup _=>True
 | .ins c _ fs=>fs≠[]/\c≠CH/\c≠CL
 | .ext φ=>∀a xs,φ≠yj a xs
 | .frz _ (.tup _)=>True
 | _=>False
abbrev Cs:=List (Addr×HO)
def ad(L:Cs):List Addr:=L.map (·.1)
structure Ow(CH CL:Addr)(N:List Addr)(H0 H:Hp)(L:Cs):Prop where
 co:∀x∈L,H x.1=some x.2
 nd:(ad L).Nodup
 mu:∀x∈L,∀u,H0 x.1=some u->¬Im CH CL u
 nw:∀x∈L,x.1∈N\/H0 x.1=none
 fr:∀b o,b∉N->H0 b=some o->H b=some o
 im:∀b o,H0 b=some o->Im CH CL o->H b=some o
section
variable {CH CL:Addr}{N:List Addr}{H0 H H':Hp}{L L' L2:Cs}{a b:Addr}{o o':HO}
theorem Ow.ts(g:Ow CH CL N H0 H L):TSame H0 H:=λb xs e=>g.im b _ e ϰ
theorem Ow.mk0(co:∀x∈L,H x.1=some x.2)(nd:(ad L).Nodup)(nm:∀x∈L,¬Im CH CL x.2):Ow CH CL (ad L) H H L :=
 ⟨co,nd,λx hx u e=>by rw [co x hx] at e;cases e;exact nm x hx,λx hx=>.inl (ϑ.mpr ⟨x,hx,ϱ⟩),λ_ _ _ e=>e,λ_ _ e _=>e⟩
theorem Ow.self(g:Ow CH CL N H0 H L)(nm:∀x∈L,¬Im CH CL x.2):Ow CH CL (ad L) H H L:=.mk0 g.co g.nd nm
theorem Ow.same(g:Ow CH CL N H0 H L)(e:Same H H'):Ow CH CL N H0 H' L :=
 ⟨λx hx=>e _ _ (g.co x hx),g.nd,g.mu,g.nw,λb o n z=>e _ _ (g.fr b o n z),λb o z i=>e _ _ (g.im b o z i)⟩
theorem Ow.trans(g:Ow CH CL N H0 H L)(d:Ow CH CL (ad L) H H' L'):Ow CH CL N H0 H' L':=by
 refine ⟨d.co,d.nd,λx h u e i=>d.mu x h u (g.im _ _ e i) i,λx h=>?_,λb o n e=>?_,λb o e i=>d.im b o (g.im b o e i) i⟩
 ·rcases d.nw x h with m | m
  ·obtain ⟨y,f,e⟩:=ϑ.mp m
   rw [← e]
   exact g.nw y f
  ·by_cases n:x.1∈N
   ·exact .inl n
   ·cases e:H0 x.1 with
    | none=>exact .inr rfl
    | some u=>rw [g.fr _ _ n e] at m;cases m
 ·refine d.fr b o (λj=>?_) (g.fr b o n e)
  obtain ⟨y,f,z⟩:=ϑ.mp j
  rcases g.nw y f with m | m
  ·exact n (z▸m)
  ·rw [show y.1=b from z,e] at m;cases m
theorem Ow.kp(g:Ow CH CL N H0 H L)(i:Nat)(h:L[i]?=some (a,o))(k:Kp a H H')(e:H' a=some o'):Ow CH CL N H0 H' (L.set i (a,o')):=by
 have r:=List.mem_of_getElem? h
 have C:ad (L.set i (a,o'))=ad L:=by
  unfold ad
  rw [List.map_set]
  refine List.ext_getElem? λj=>?_
  rw [List.getElem?_set]
  by_cases q:i=j
  ·rw [if_pos q,if_pos (by rw [ν];exact (List.getElem?_eq_some_iff.mp h).1),← q,List.getElem?_map,h]
   rfl
  ·rw [if_neg q]
 have D:∀x∈L.set i (a,o'),∃y∈L,y.1=x.1:=λx f=>by
  have:x.1∈ad L:=C▸ϑ.mpr ⟨x,f,ϱ⟩
  exact ϑ.mp this
 refine ⟨λx f=>?_,C▸g.nd,λx f=>?_,λx f=>?_,λb u n z=>?_,λb u z w=>k b u (λy=>g.mu _ r u (by show H0 a=some u;rw [← y];exact z) w) (g.im b u z w)⟩
 ·obtain ⟨j,d⟩:=List.mem_iff_getElem?.mp f
  rw [List.getElem?_set] at d
  by_cases q:i=j
  ·rw [if_pos q] at d
   split at d
   ·cases d
    exact e
   ·cases d
  ·rw [if_neg q] at d
   refine k _ _ (λz=>q ?_) (g.co x (List.mem_of_getElem? d))
   have F:(ad L)[i]?=some a:=by unfold ad;rw [List.getElem?_map,h];rfl
   have G:(ad L)[j]?=some a:=by unfold ad;rw [List.getElem?_map,d];show some x.1=some a;rw [z]
   exact (List.getElem?_inj (List.getElem?_eq_some_iff.mp F).1 g.nd).mp (F.trans G.symm)
 ·obtain ⟨y,l,q⟩:=D x f
  rw [← q]
  exact g.mu y l
 ·obtain ⟨y,l,q⟩:=D x f
  rw [← q]
  exact g.nw y l
 ·refine k b u (λy=>?_) (g.fr b u n z)
  rcases g.nw _ r with m | m
  ·exact n (y▸m)
  ·rw [show (a,o).1=b from y.symm,z] at m;cases m
theorem Ow.up(g:Ow CH CL N H0 H L)(i:Nat)(o':HO)(hi:L[i]?=some (a,o)):Ow CH CL N H0 (upd H a o') (L.set i (a,o')):=g.kp i hi bv ae
theorem Ow.old(g:Ow CH CL N H0 H L)(h:H b=none):b∈N\/H0 b=none:=by
 by_cases n:b∈N
 ·exact .inl n
 ·cases e:H0 b with
  | none=>exact .inr rfl
  | some u=>rw [g.fr _ _ n e] at h;cases h
theorem Ow.free(g:Ow CH CL N H0 H L)(h:H b=none):b∉ad L:=λhm=>by
 obtain ⟨y,hy,z⟩:=ϑ.mp hm
 have:=g.co y hy
 rw [show y.1=b from z,h] at this
 cases this
theorem Ow.add(g:Ow CH CL N H0 H L)(h:H a=none)(e:Same H H')(q:H' a=some o):Ow CH CL N H0 H' (L++[(a,o)]):=by
 have g1:=g.same e
 have d:=g.free h
 refine ⟨λx b=>?_,?_,λx b=>?_,λx b=>?_,g1.fr,g1.im⟩
 ·rcases List.mem_append.mp b with m | m
  ·exact g1.co x m
  ·rw [ϵ.mp m];exact q
 ·unfold ad
  rw [List.map_append,List.nodup_append]
  exact ⟨g.nd,by simp,λx b y f=>by rw [List.mem_singleton.mp f];exact λz=>d (by rw [← show x=a from z];exact b)⟩
 ·rcases List.mem_append.mp b with m | m
  ·exact g.mu x m
  ·rw [ϵ.mp m]
   exact λu z i=>by rw [g.im a u z i] at h;cases h
 ·rcases List.mem_append.mp b with m | m
  ·exact g.nw x m
  ·rw [ϵ.mp m];exact g.old h
theorem Ow.new(g:Ow CH CL N H0 H L)(h:H a=none)(o:HO):Ow CH CL N H0 (upd H a o) (L++[(a,o)]):=g.add h (ah h) ae
theorem Ow.part(g:Ow CH CL N H0 H L)(nd:(ad L').Nodup)(s:∀x∈L',x∈L):Ow CH CL N H0 H L' :=
 ⟨λx hx=>g.co x (s x hx),nd,λx hx=>g.mu x (s x hx),λx hx=>g.nw x (s x hx),g.fr,g.im⟩
theorem Ow.tail(g:Ow CH CL N H0 H (L++L')):Ow CH CL N H0 H L':=g.part (by have:=g.nd;unfold ad at this ⊢;rw [List.map_append] at this;exact (List.nodup_append.mp this).2.1) λx hx=>List.mem_append_right _ hx
theorem Ow.join(g:Ow CH CL N H0 H L)(f:Ow CH CL [] H H' L2):Ow CH CL N H0 H' (L2++L):=by
 have s:Same H H':=λb o e=>f.fr b o (λz=>nomatch z) e
 have g1:=g.same s
 have j:∀x∈L2,H x.1=none:=λx d=>(f.nw x d).resolve_left λz=>nomatch z
 refine ⟨λx d=>(List.mem_append.mp d).elim (f.co x) (g1.co x),?_,λx d=>(List.mem_append.mp d).elim (λm u e i=>?_) (g.mu x),λx d=>(List.mem_append.mp d).elim (λm=>g.old (j x m)) (g.nw x),g1.fr,g1.im⟩
 ·unfold ad
  rw [List.map_append,List.nodup_append]
  refine ⟨f.nd,g.nd,λx d y q z=>?_⟩
  obtain ⟨l,h,rfl⟩:=ϑ.mp d
  exact g.free (j l h) (z▸q)
 ·have:=j x m
  rw [g.im _ _ e i] at this
  cases this
theorem Ow.born(g:Ow CH CL [a] H H' L)(e:Same H0 H)(n:H0 a=none):Ow CH CL [] H0 H' L:=by
 have s:Same H0 H':=λb o z=>g.fr b o (λy=>by rw [ϵ.mp y,n] at z;cases z) (e _ _ z)
 have f:∀x∈L,H0 x.1=none:=λx d=>by
  rcases g.nw x d with m | m
  ·rw [ϵ.mp m];exact n
  ·cases z:H0 x.1 with
   | none=>rfl
   | some u=>rw [e _ _ z] at m;cases m
 exact ⟨g.co,g.nd,(λx d u z=>by rw [f x d] at z;cases z),λx d=>.inr (f x d),λb o _ z=>s b o z,λb o z _=>s b o z⟩
end
section
variable {CH CL:Addr}{N:List Addr}{H0 H H':Hp}{L L' R S X O:Cs}{a b l dx c:Addr}{fs fs':List (Str×V)}{o o':HO}
theorem Ow.fld(g:Ow CH CL N H0 H ((l,.ins c dx fs)::R))(n:H b=none)(o:HO)(fs':List (Str×V)):(upd H b o) l=some (.ins c dx fs)/\Ow CH CL N H0 (upd (upd H b o) l (.ins c dx fs')) ((l,.ins c dx fs')::(R++[(b,o)])) :=
 ⟨(g.new n o).co _ (.head _),(g.new n o).up 0 _ rfl⟩
theorem Ow.sub(g:Ow CH CL N H0 H L)(s:L'.Sublist L):Ow CH CL N H0 H L':=g.part ((s.map _).nodup g.nd) λ_ hx=>s.subset hx
theorem Ow.perm(g:Ow CH CL N H0 H L)(s:L'.Perm L):Ow CH CL N H0 H L':=g.part ((s.map _).nodup_iff.mpr g.nd) λ_ hx=>s.subset hx
theorem Ow.swap(g:Ow CH CL N H0 H (X++(S++O))):Ow CH CL N H0 H (S++X):=(g.sub (List.Sublist.append (.refl _) (List.sublist_append_left _ _))).perm List.perm_append_comm
theorem Ow.repl{A B:Cs}{x y:Addr×HO}(g:Ow CH CL N H0 H (A++(x::(B++[y])))):Ow CH CL N H0 H (A++(y::B)):=(g.sub (List.Sublist.append (.refl _) (.cons _ (.refl _)))).perm (.append_left _ (List.perm_append_singleton _ _).symm)
theorem Ow.two(h1:H a=none)(f:H b=none)(g:a≠b)(e:Same H H')(q1:H' a=some o)(q2:H' b=some o'):Ow CH CL [] H H' [(a,o),(b,o')]:=by
 have m:∀x∈[(a,o),(b,o')],H x.1=none/\H' x.1=some x.2:=λx d=>by
  rcases ϕ.mp d with z | z
  ·subst z;exact ⟨h1,q1⟩
  ·rw [ϵ.mp z];exact ⟨f,q2⟩
 exact ⟨λx d=>(m x d).2,by simp [ad,g],(λx d u z=>by rw [(m x d).1] at z;cases z),λx d=>.inr (m x d).1,λb o _=>e b o,λb o z _=>e b o z⟩
end
abbrev ImS(CH CL:Addr)(H H':Hp):Prop:=∀b o,H b=some o->Im CH CL o->H' b=some o
section
variable {CH CL a:Addr}{H H' H2:Hp}{o:HO}
theorem cL(k:Kp a H H')(e:H a=some o)(n:¬Im CH CL o):ImS CH CL H H':=λb u q i=>k b u (λz=>by rw [z,e] at q;cases q;exact n i) q
theorem cD(e:Same H H'):ImS CH CL H H':=λb u q _=>e b u q
theorem ImS.ts(e:ImS CH CL H H'):TSame H H':=λb xs q=>e b _ q ϰ
theorem ImS.trans(e:ImS CH CL H H')(e2:ImS CH CL H' H2):ImS CH CL H H2:=λb u q i=>e2 b u (e b u q i) i
end
theorem i5{C l dl:Addr}{H:Hp}(nl:H l=none)(nd:H dl=none):Same H (upd (upd H dl (.own l)) l (.ins C dl [])):=λb o e=>by
 rw [ao (aq e nl),ao (aq e nd)]
 exact e
theorem gG{H:Hp}{a:Addr}{o o':HO}(e:H a=some o)(n:∀xs,o≠.tup xs:=by intro xs z;cases z):TSame H (upd H a o'):=λb xs q=>by
 rw [ao (λz=>by rw [z,e] at q;exact n xs (Δ q))]
 exact q
section
variable {α:Type}{a b c d e f g h i j k l m n:α}{r:List α}
theorem j0:a∈a::r:=.head _
theorem j1:b∈a::b::r:=.tail _ j0
theorem j2:c∈a::b::c::r:=.tail _ j1
theorem j3:d∈a::b::c::d::r:=.tail _ j2
theorem j4:e∈a::b::c::d::e::r:=.tail _ j3
theorem j5:f∈a::b::c::d::e::f::r:=.tail _ j4
theorem j6:g∈a::b::c::d::e::f::g::r:=.tail _ j5
theorem j7:h∈a::b::c::d::e::f::g::h::r:=.tail _ j6
end
end Lo
namespace L2
open PySem PySem.Spec PyProof.Rows PySem.W Lo
def Bd(t:TA):TE:=fun σ H Q=>t σ H λxs H1=>xs.length<=sizeLine/\∀p o,H1 p=none->o.dict=none->Q (.ref p) (upd H1 p (.frz o (.tup xs)))
theorem kS{X:Cx}{es:List Expr}{t:TA}{pos:Pos}{x1}(h:PA X es t):PE X (.Tuple es x1 pos) (Bd t):=by
 intro d s σ H Q I l
 refine wpAny_Tuple_spliced (thn (h pos d s σ H _ I l) λg f ⟨j,H1,i,r,z,q⟩=>⟨by rw [← r.length];exact z,?_⟩)
 have hf:H1 f.heap.objs.size=none:=i.hok.fresh (ι _)
 exact ⟨.ref f.heap.objs.size,upd H1 f.heap.objs.size (.frz {cls:=.type "tuple",data:=.seq g.toArray} (.tup j)),i.laid (t':=f.toks) (λb u e=>ρ _ e) (ι _) ⟨ψ _ rfl,z,g,r,_,ψ _ rfl,ϱ,_,ϱ⟩,ϱ,q _ _ hf rfl⟩
theorem ph{CH CL c:Addr}{q:Str}:Im CH CL (eV c q):=λa xs e=>by
 have g:∀b,Heap.get? {objs:=Array.replicate (c+1) ⟨.type "code",none,.fields #[.none,.str q 0],#[]⟩} b=if b<c+1 then some ⟨.type "code",none,.fields #[.none,.str q 0],#[]⟩ else none:=λb=>by
  unfold Heap.get?
  rw [Array.getElem?_replicate]
  by_cases z:b<c+1
  ·rw [if_pos z]
  ·rw [if_neg z]
 obtain ⟨_,o,es,ep,e1,_,d,_⟩:=(congrFun e {objs:=Array.replicate (c+1) ⟨.type "code",none,.fields #[.none,.str q 0],#[]⟩}).mp ⟨_,_,0,(g c).trans (if_pos (Nat.lt_succ_self c)),ϱ,ϱ⟩
 rw [g a] at e1
 split at e1
 ·cases e1;cases d
 ·cases e1
end L2
namespace Km
open PySem PySem.NumText PyProof.Rows
def qb(c:Nat):Bool:=decide (48<=c)&&decide (c<=57)
def qS(c:Nat):Bool:=decide (32<=c)&&decide (c<=126)&&decide (c≠37)
def bq(m:Nat):List Nat:=(Nat.toDigits 10 m).map Char.toNat
def bX(n:Int):List Nat:=if n<0 then 45::bq n.natAbs else bq n.natAbs
theorem fD(m:Nat):AllDigits (bq m):=by
 intro c d
 obtain ⟨f,b,e⟩:=ϑ.mp d
 have r:=digit_range (Nat.isDigit_of_mem_toDigits ζ ζ b)
 rw [← e]
 exact r
theorem je(m:Nat):bq m≠[]:=by
 intro e
 have h:=toDigits_len_ge 10 m
 rw [List.map_eq_nil_iff.mp e] at h
 exact absurd h ζ
theorem fz(m:Nat):digitsVal (bq m)=m:=PySem.W.KIN.val_back m
theorem tY:bq 0=[48]:=rfl
theorem tZ(m:Nat)(h:m≠0):∀c r,bq m=c::r->c≠48:=by
 induction m using Nat.strongRecOn with
 | _ m ih =>
  intro c r e
  by_cases hm:m<10
  ·unfold bq at e
   rw [Nat.toDigits_of_lt_base hm] at e
   have f:(Nat.digitChar m).toNat=c:=by simpa using (List.cons.inj e).1
   have b:∀d:Nat,d<10->d≠0->(Nat.digitChar d).toNat≠48:=by decide
   rw [← f]
   exact b m hm h
  ·have t:Nat.toDigits 10 (m/10)++Nat.toDigits 10 (m%10)=Nat.toDigits 10 (10*(m/10)+m%10):=Nat.toDigits_append_toDigits ζ ω (Nat.mod_lt m ζ)
   rw [Nat.div_add_mod] at t
   have g:bq m=bq (m/10)++bq (m%10):=by unfold bq;rw [← t,List.map_append]
   cases q:bq (m/10) with
   | nil=>exact absurd q (je _)
   | cons c' r' =>
    rw [g,q] at e
    have:c'=c:=(List.cons.inj e).1
    rw [← this]
    exact ih (m/10) ω ω c' r' q
theorem mi{m k:Nat}(g:1<=k)(h:m<10 ^ k):(bq m).length<=k:=by
 induction k generalizing m with
 | zero=>omega
 | succ k ih =>
  by_cases hm:m<10
  ·unfold bq
   rw [Nat.toDigits_of_lt_base hm]
   simp
  ·have b:1<=k:=by
    cases k with
    | zero=>exfalso;simp at h;omega
    | succ k=>omega
   have t:Nat.toDigits 10 (m/10)++Nat.toDigits 10 (m%10)=Nat.toDigits 10 (10*(m/10)+m%10):=Nat.toDigits_append_toDigits ζ ω (Nat.mod_lt m ζ)
   rw [Nat.div_add_mod] at t
   have d:bq m=bq (m/10)++bq (m%10):=by unfold bq;rw [← t,List.map_append]
   have e:bq (m%10)=[(Nat.digitChar (m%10)).toNat]:=by unfold bq;rw [Nat.toDigits_of_lt_base (Nat.mod_lt m ζ)];rfl
   have f:m/10<10 ^ k:=by
    rw [Nat.pow_succ] at h
    exact Nat.div_lt_of_lt_mul (by rw [Nat.mul_comm];exact h)
   have:=ih b f
   rw [d,e,List.length_append]
   simpa using this
theorem nZ(n:Int):(Str.ofString (toString n)).cps.toList=bX n:=by
 cases n with
 | ofNat m =>
  unfold bX
  rw [if_neg (show ¬Int.ofNat m<0 from Int.not_lt.mpr (Int.natCast_nonneg m))]
  exact PySem.W.KIN.signs_num m
 | negSucc m =>
  unfold bX
  rw [if_pos ω]
  have e:toString (Int.negSucc m)="-"++Nat.repr (m+1):=rfl
  rw [e,signs_ofString,String.toList_append,List.map_append,Nat.toList_repr]
  rfl
end Km
namespace Km
open PySem PySem.NumText L2
open PyProof.Rows
def cO(c:Nat):List (List Nat)->List Nat
 | []=>[]
 | [x]=>x
 | x::y::r=>x++c::cO c (y::r)
theorem dj(c:Nat):∀ys:List Str,(Str.join ⟨#[c]⟩ ys).cps.toList=cO c (ys.map λy=>y.cps.toList)
 | []=>rfl
 | [y]=>rfl
 | y::u::ys=>by
  have ih:=dj c (u::ys)
  rw [join_cons_cons]
  show ((y.cps++#[c])++(Str.join ⟨#[c]⟩ (u::ys)).cps).toList=_
  rw [Array.toList_append,Array.toList_append,ih]
  simp [cO]
theorem t9{c:Nat}{a b d g:List Nat}(i:c∉a)(f:c∉d)(e:a++c::b=d++c::g):a=d/\b=g:=by
 induction a generalizing d with
 | nil =>
  cases d with
  | nil=>exact ⟨rfl,(List.cons.inj e).2⟩
  | cons x d=>exact absurd (ϕ.mpr (.inl (List.cons.inj e).1)) f
 | cons x a ih =>
  cases d with
  | nil=>exact absurd (ϕ.mpr (.inl (List.cons.inj e).1.symm)) i
  | cons y d =>
   obtain ⟨j,l⟩:=List.cons.inj e
   obtain ⟨m,o⟩:=ih (λh=>i (Θ _ h)) (λh=>f (Θ _ h)) l
   exact ⟨by rw [j,m],o⟩
theorem nq{c:Nat}:∀{xs ys:List (List Nat)},xs≠[]->ys≠[]->(∀x∈xs,c∉x)->(∀y∈ys,c∉y)->cO c xs=cO c ys->xs=ys
 | [],_,h,_,_,_,_=>absurd rfl h
 | _::_,[],_,h,_,_,_=>absurd rfl h
 | [x],[y],_,_,_,_,e=>by rw [show x=y from e]
 | [x],y::u::ys,_,_,hx,_,e=>by
  have e':x=y++c::cO c (u::ys):=e
  exact absurd (by rw [e'];simp) (hx x List.mem_cons_self)
 | x::u::xs,[y],_,_,_,hy,e=>by
  have e':x++c::cO c (u::xs)=y:=e
  exact absurd (by rw [← e'];simp) (hy y List.mem_cons_self)
 | x::u::xs,y::v::ys,_,_,hx,hy,e=>by
  have e':x++c::cO c (u::xs)=y++c::cO c (v::ys):=e
  obtain ⟨e1,e2⟩:=t9 (hx x Ω) (hy y Ω) e'
  rw [e1,nq (by simp) (by simp) (λz hz=>hx z (List.mem_cons_of_mem _ hz)) (λz hz=>hy z (List.mem_cons_of_mem _ hz)) e2]
theorem uD{z:Str}{c:Nat}{ps:List (List Nat)}(j:z.cps.toList=cO c ps)(h0:ps≠[])(l:∀p∈ps,c∉p):Txt.split z ⟨#[c]⟩=ps.map λp=>(⟨p.toArray⟩:Str):=by
 have d:=dj c (Txt.split z ⟨#[c]⟩)
 rw [StrLaws.join_split,j] at d
 have f:(Txt.split z ⟨#[c]⟩).map (λy=>y.cps.toList)≠[]:=by
  intro e
  have:=split_pos z ⟨#[c]⟩
  rw [List.map_eq_nil_iff.mp e] at this
  exact absurd this ζ
 have g:=nq h0 f l (λy i=>by
  obtain ⟨p,b,rfl⟩:=ϑ.mp i
  exact StrLaws.split_free z c p b) d
 rw [g,List.map_map]
 have h:((λp:List Nat=>(⟨p.toArray⟩:Str))∘λy:Str=>y.cps.toList)=id:=by
  funext y
  obtain ⟨a⟩:=y
  simp
 rw [h,List.map_id]
end Km
namespace St
open PySem L2 Lo Km PySem.NumText
inductive Wd where
 | take | mean | sum | give | add | plus | need
 deriving DecidableEq
def wS:Wd->Str
 | .take=>"take" | .mean=>"mean" | .sum=>"sum" | .give=>"give" | .add=>"add" | .plus=>"plus" | .need=>"need"
def wN:Wd->Str
 | .take=>"TakeStep" | .mean=>"MeanStep" | .sum=>"SumStep" | .give=>"GiveStep" | .add=>"AddStep" | .plus=>"PlusStep" | .need=>"NeedStep"
def inN(i:Int):Prop:=0<=i/\i<10 ^ 40
def inV(i:Int):Prop:=i.natAbs<10 ^ 40
theorem inN.v{i:Int}(h:inN i):inV i:=by
 unfold inN at h
 unfold inV
 omega
def Ar:Wd->List Int->Prop
 | .take,[h,c]=>inN h/\inN c
 | .mean,[h,c]=>inN h/\inN c
 | .give,[h,c]=>inN h/\inN c
 | .sum,[h,a,b]=>inN h/\inN a/\inN b/\a<=b
 | .add,[h,c,v]=>inN h/\inN c/\inV v
 | .plus,[v]=>inV v
 | .need,[v]=>inV v
 | _,_=>False
theorem Ar.all{w:Wd}{d:List Int}(h:Ar w d):∀i∈d,inV i:=by
 unfold Ar at h
 split at h
 ·intro i b;simp only [List.mem_cons,List.mem_nil_iff,or_false] at b;rcases b with rfl | rfl<;>first | exact h.1.v | exact h.2.v
 ·intro i b;simp only [List.mem_cons,List.mem_nil_iff,or_false] at b;rcases b with rfl | rfl<;>first | exact h.1.v | exact h.2.v
 ·intro i b;simp only [List.mem_cons,List.mem_nil_iff,or_false] at b;rcases b with rfl | rfl<;>first | exact h.1.v | exact h.2.v
 ·intro i b;simp only [List.mem_cons,List.mem_nil_iff,or_false] at b;rcases b with rfl | rfl | rfl<;>first | exact h.1.v | exact h.2.1.v | exact h.2.2.1.v
 ·intro i b;simp only [List.mem_cons,List.mem_nil_iff,or_false] at b;rcases b with rfl | rfl | rfl<;>first | exact h.1.v | exact h.2.1.v | exact h.2.2
 ·intro i b;simp only [List.mem_cons,List.mem_nil_iff,or_false] at b;rcases b with rfl;exact h
 ·intro i b;simp only [List.mem_cons,List.mem_nil_iff,or_false] at b;rcases b with rfl;exact h
 ·exact h.elim
def iS(i:Int):Str:=Str.ofString (toString i)
theorem gi{i:Int}(h:inV i):(iS i).length<=41:=by
 have e:(iS i).length=(bX i).length:=by
  unfold iS
  rw [← nZ]
  simp [Str.length]
 rw [e]
 unfold bX
 have:=mi (k:=40) ζ h
 split
 ·rw [List.length_cons];omega
 ·omega
theorem Ap(i:Int):32∉bX i:=by
 have d:∀m,32∉bq m:=λm b=>by
  have:=fD m
  have h:=this 32 b
  omega
 unfold bX
 split
 ·intro b
  rcases ϕ.mp b with e | e
  ·cases e
  ·exact d _ e
 ·exact d _
def txt(w:Wd)(ns:List Int):Str:=Str.join (Str.ofString " ") (wS w::ns.map iS)
theorem A9(w:Wd):32∉(wS w).cps.toList:=by cases w<;>decide +kernel
theorem ug(w:Wd):(wS w).length<=4:=by cases w<;>decide +kernel
theorem jo:(Str.ofString " ")=⟨#[32]⟩:=by decide +kernel
theorem jl(w:Wd)(b:List Int):Txt.split (txt w b) ⟨#[32]⟩=wS w::b.map iS:=by
 have e:=dj 32 (wS w::b.map iS)
 have d:(txt w b).cps.toList=cO 32 ((wS w::b.map iS).map λy=>y.cps.toList):=by
  unfold txt
  rw [jo]
  exact e
 rw [uD d (by simp) (λp h=>?_)]
 ·rw [List.map_map]
  have f:((λp:List Nat=>(⟨p.toArray⟩:Str))∘λy:Str=>y.cps.toList)=id:=by
   funext y
   obtain ⟨a⟩:=y
   simp
  rw [f,List.map_id]
 ·obtain ⟨y,hy,rfl⟩:=ϑ.mp h
  rcases ϕ.mp hy with e | hy
  ·rw [e];exact A9 w
  ·obtain ⟨i,_,rfl⟩:=ϑ.mp hy
   have g:(iS i).cps.toList=bX i:=nZ i
   rw [g]
   exact Ap i
theorem Ar.len{w:Wd}{b:List Int}(h:Ar w b):1<=b.length/\b.length<=3:=by
 unfold Ar at h
 split at h<;>first | exact h.elim | (constructor<;>simp)
theorem zE{ys:List Str}{k:Nat}(h:∀y∈ys,y.length<=k):(ys.map (·.length)).sum<=ys.length*k:=by
 induction ys with
 | nil=>simp
 | cons y ys ih =>
  have h1:=h y Ω
  have d:=ih λy b=>h y (Θ _ b)
  rw [List.map_cons,List.sum_cons,List.length_cons,Nat.succ_mul]
  omega
theorem ue{w:Wd}{ns:List Int}(h:Ar w ns):∀y∈wS w::ns.map iS,y.length<=41:=λy hy=>by
 rcases ϕ.mp hy with e | hy
 ·rw [e];exact Λ (ug w) ζ
 ·obtain ⟨i,hi,rfl⟩:=ϑ.mp hy
  exact gi (h.all i hi)
theorem sH{w:Wd}{b:List Int}(h:Ar w b):((wS w::b.map iS).map (·.length)).sum+(wS w::b.map iS).length*(Str.ofString " ").length<=1000:=by
 have h1:=zE (ue h)
 have f:=h.len
 have d:(Str.ofString " ").length=1:=by decide +kernel
 rw [d]
 have e:(wS w::b.map iS).length<=4:=by rw [List.length_cons,ν];omega
 have g:(wS w::b.map iS).length*41<=4*41:=Nat.mul_le_mul_right _ e
 omega
def jd:Wd->List Int->List (Str×V)
 | .take,[h,c]=>au "cell" (.int c) (au "where" (.int h) [])
 | .mean,[h,c]=>au "cell" (.int c) (au "where" (.int h) [])
 | .give,[h,c]=>au "cell" (.int c) (au "where" (.int h) [])
 | .sum,[h,a,b]=>au "high" (.int b) (au "low" (.int a) (au "where" (.int h) []))
 | .add,[h,c,v]=>au "amount" (.int v) (au "cell" (.int c) (au "where" (.int h) []))
 | .plus,[v]=>au "amount" (.int v) []
 | .need,[v]=>au "amount" (.int v) []
 | _,_=>[]
def StO(C:Wd->Addr)(H:Hp)(w:Wd)(ns:List Int)(v:V):Prop:=∃a dx,v=.ref a/\H a=some (.ins (C w) dx (jd w ns))
def i7:Wd->List Int->Option Lk
 | .take,[_,c]=>some (.read,c,c)
 | .mean,[_,c]=>some (.mean,c,c)
 | .give,[_,c]=>some (.change,c,c)
 | .sum,[_,a,b]=>some (.read,a,b)
 | .add,[_,c,_]=>some (.change,c,c)
 | _,_=>none
def orl(K:Frag)(H:Hp):Option Lk->V->Prop
 | none,v=>v=.non
 | some k,v=>∃a,v=.ref a/\H a=some (.tup [.str (kdS k.1),.int k.2.1,.int k.2.2])
end St
namespace L2
open PySem PySem.Spec PyProof.Rows
section
variable {X:Cx}{CX:CXT}{E:XK}{k:Nat}{C f:Addr}{fd:FuncData}{ps:List Str}{sp:Sp}{m:Str}{o e:Expr}{es:List Expr}{t:TA}{ty:TE}{pos apos cpos p:Pos}{mc:Value}
structure zf(K:Frag)(C:Addr)(m:Str)(f:Addr):Prop where
 ga:PySem.W.specialIn K (.ref C) "__getattribute__"=some (some (.builtin "type.__getattribute__"))
 rd:PySem.W.readsIn K C (.type "type")=true
 fc:PySem.W.findCls K (.ref C) (.type "type") m=some (.val (.ref f))
 hi:PySem.W.handedIn (.ref f)=true
 kp:PySem.W.keepIn K (.ref f)=true
theorem xE{pl:Sem Bool}(G:PE X o (tC (.ref C)))(c:zf X.K C m f)(F:FnOk X.prog X.w X.K X.mg X.base CX k f fd ps sp)(J:Room k X.A)(L:Binds X.K fd ps [])(O:cV CX X E)(P:PA X (e::es) t)
  (g:starEach (e::es) X.env=(false,eval e X.env)::starEach es X.env:=by rfl)(i:(backTo pos (starEach es X.env)).any (·.1)=false:=by rfl)
  (U:eval (.Call (.Attribute o m apos) (e::es) [] pos) X.env=(do
   let ov ← eval o X.env
   standAt apos.atName
   let (f,first) ← holding [ov] (getMethod ov m pl)
   callWith pos f first (backTo pos (starEach (e::es) X.env)) (backToKw pos (keywordEach [] X.env))):=by rfl) :
  PE X (.Call (.Attribute o m apos) (e::es) [] pos) (uC sp [] E t):=by
 intro b s σ H Q I h
 refine PySem.W.methodCall_KW (pl:=pl) (thn (G b s σ H (λx H1=>x=.ref C/\t σ H1 λvs j=>sp (vs++[]) j Q E) I ⟨ϱ,h⟩) λu l ⟨x,H1,d,D,ex,q⟩=>?_) U
 subst ex
 obtain rfl:u=Value.ref C:=D
 refine PySem.W.method_cls d.kIn c.ga (PySem.W.cls_value d.kIn c.rd c.fc c.hi ?_)
 have z:Inv X b σ H1 {l with toks:=l.toks+1}:=d.tok _
 refine PySem.W.callWith_K (first:=[]) (h₀:=X.base) I.ok.mod.kin c.kp (thn (P pos b _ σ H1 _ z q) λus Y ⟨vs,j,y,r,q2⟩=>⟨y.kIn,?_⟩) g i
 exact oM (us:=us) (vs:=vs) F J L .nil O y r q2
theorem xB{a:Addr}{D:List (Str×KTD.Dat)}(J:PE X o (tC (.ref a)))(L:PE X e ty)(d:M1 X o "get" apos e cpos)(m:TabK X.K a D) :
  PE X (.Call (.Attribute o "get" apos) [e] [] cpos) (fun σ H Q=>ty σ H λy H1=>∃k z,y=.str k/\KTD.datumAt k D=some (.flat (.str z))/\Q (.str z) H1):=by
 intro b s σ H Q I h
 refine wpAny_Call_method d.base d.few d.line PySem.F.plainAttrs_dict PySem.F.slot_dict_get PySem.F.type_dict_get (thn (J b s σ H (λx H1=>x=.ref a/\ty σ H1 λy H1=>∃k z,y=.str k/\KTD.datumAt k D=some (.flat (.str z))/\Q (.str z) H1) I ⟨ϱ,h⟩) λu f ⟨x,H1,i,q,ex,q1⟩=>?_)
 subst ex
 obtain rfl:u=Value.ref a:=q
 have g:KTD.Here f.heap f.heap a D:=⟨m.at i.kIn,λ_ _ e=>e⟩
 refine ⟨g.typeIs,g.noDict,?_⟩
 rw [d.trees]
 refine Calls.callWith_builtin rfl (Calls.evalArgs_plain (Calls.spliced_cons (thn (L b f σ H1 _ i q1) λP r ⟨y,w,j,C,k,z,G,l,q2⟩=>Calls.spliced_nil ?_)))
 subst G
 obtain ⟨O,rfl⟩:=C
 refine KTD.get1_textL (h₀:=r.heap) ⟨m.at j.kIn,λ_ _ e=>e⟩ ?_ (o9 l (KTD.opened_str λU=>⟨.str z,w,j.tok _,⟨_,ϱ⟩,q2⟩))
 rw [← KTD.isSome_datumAt,l]
 rfl
theorem qU:MtR X "str.lstrip" (λx vs H Q=>∃z y,x=.str z/\vs=[.str y]/\z.length<=sizeLine/\Q (.str (Txt.lstripChars z y)) H):=by
 intro b s σ H x i v j Q I e r h
 obtain ⟨z,y,rfl,rfl,d,q⟩:=h
 obtain ⟨t,rfl⟩:=e
 obtain ⟨u,rfl,⟨f,rfl⟩⟩:=d9 r
 exact SC.lstripChars (λg k=>⟨.str _,H,I.tok _,⟨_,ϱ⟩,q⟩) d
theorem zZ{d:TE}(h:PE X.nox e d):PEX X e (fun σ H Q _=>d σ H Q):=by
 intro b s σ H Q E I q
 exact nox (h b s σ H _ (I.wish _) q) λv g ⟨x,H1,f,r,q1⟩=>⟨x,H1,f.unwish,r,q1⟩
end
end L2
namespace St
open PySem L2 Lo Km PySem.NumText
structure TxW(K:Frag)(CW:Wd->Addr):Prop where
 cl:∀w,Cls K (CW w)
 nW:∀w,NoAttr K (CW w) "where"
 nC:∀w,NoAttr K (CW w) "cell"
 nL:∀w,NoAttr K (CW w) "low"
 nH:∀w,NoAttr K (CW w) "high"
 nA:∀w,NoAttr K (CW w) "amount"
def isC:Wd->Bool
 | .take=>true | .mean=>true | .give=>true | _=>false
theorem bu{f:Str}{v:V}{fs:List (Str×V)}:(au f v fs).lookup f=some v:=by rw [al,if_pos rfl]
theorem aO{f g:Str}{v:V}{fs:List (Str×V)}(h:¬g=f):(au f v fs).lookup g=fs.lookup g:=by rw [al,if_neg h]
section
variable (CW:Wd->Addr)
inductive fJ (w:Wd) (vs:List V) (H:Hp) (Q:VK) (E:XK):Prop|mk a dx ns:vs=.ref a::(ns:List Int).map V.int->Ar w ns->H a=some (.ins (CW w) dx [])->(∀H',H' a=some (.ins (CW w) dx (jd w ns))->Kp a H H'->Q .non H')->fJ w vs H Q E
inductive kO (vs:List V) (H:Hp) (Q:VK) (E:XK):Prop|mk a dx w h c:vs=[.ref a,.int h,.int c]->H a=some (.ins (CW w) dx [])->(∀H',H' a=some (.ins (CW w) dx (au "cell" (.int c) (au "where" (.int h) [])))->Kp a H H'->Q .non H')->kO vs H Q E
inductive cW (K:Frag) (w:Wd) (vs:List V) (H:Hp) (Q:VK) (E:XK):Prop|mk v ns:vs=[v]->Ar w ns->StO CW H w ns v->(∀u H',Same H H'->orl K H' (i7 w ns) u->Q u H')->cW K w vs H Q E
end
theorem wj{i:Int}(h:inV i):i.natAbs.log2<1920:=by
 by_cases h0:i.natAbs=0
 ·rw [h0];decide
 ·exact (Nat.log2_lt h0).mpr (Nat.lt_trans h θ)
theorem Ar.c{w:Wd}{d:List Int}(hw:isC w=true)(h:Ar w d):∃a b,d=[a,b]/\inN a/\inN b/\jd w d=au "cell" (.int b) (au "where" (.int a) []):=by
 cases w<;>first | cases hw | skip
 all_goals
  match d,h with
  | [a,b],h=>exact ⟨a,b,rfl,h.1,h.2,rfl⟩
theorem Ar.s{d:List Int}(h:Ar .sum d):∃a b c,d=[a,b,c]/\inN a/\inN b/\inN c/\b<=c:=by
 match d,h with
 | [a,b,c],h=>exact ⟨a,b,c,rfl,h⟩
theorem Ar.a{d:List Int}(h:Ar .add d):∃a b c,d=[a,b,c]/\inN a/\inN b/\inV c:=by
 match d,h with
 | [a,b,c],h=>exact ⟨a,b,c,rfl,h⟩
theorem Ar.p{b:List Int}(h:Ar .plus b):∃a,b=[a]/\inV a:=by
 match b,h with
 | [a],h=>exact ⟨a,rfl,h⟩
theorem Ar.n{b:List Int}(h:Ar .need b):∃a,b=[a]/\inV a:=by
 match b,h with
 | [a],h=>exact ⟨a,rfl,h⟩
open PySem.Spec PyProof.Rows
theorem at0{x:V}{xs:List V}:atI (x::xs) 0=some x:=aV (j:=0) rfl
theorem at1{x y:V}{xs:List V}:atI (x::y::xs) 1=some y:=aV (j:=1) rfl
theorem at2{x y z:V}{xs:List V}:atI (x::y::z::xs) 2=some z:=aV (j:=2) rfl
theorem zj{a b:Wd}(h:wS a=wS b):a=b:=by
 cases a<;>cases b<;>first | rfl | exact absurd h θ
theorem iu{a b:Wd}(c:decide (V.str (wS a)=V.str (wS b))=true):a=b:=zj (V.str.inj (Ξ c))
theorem dq{a b:Wd}(c:¬decide (V.str (wS a)=V.str (wS b))=true):a≠b:=λe=>c (by rw [e];exact τ rfl)
theorem zi{a:Wd}(h1:a≠.take)(b:a≠.mean)(d:a≠.sum)(e:a≠.give)(f:a≠.add)(g:a≠.plus):a=.need:=by
 cases a<;>first | rfl | contradiction
def shp:Wd->Str
 | .take=>"HC" | .mean=>"HC" | .sum=>"HAB" | .give=>"HC" | .add=>"HCV" | .plus=>"V" | .need=>"V"
def kR:List (Str×PyProof.Rows.KTD.Dat):=[("take",.flat (.str "HC")),("mean",.flat (.str "HC")),("sum",.flat (.str "HAB")),("give",.flat (.str "HC")),("add",.flat (.str "HCV")),("plus",.flat (.str "V")),("need",.flat (.str "V"))]
theorem uQ(w:Wd):PyProof.Rows.KTD.datumAt (wS w) kR=some (.flat (.str (shp w))):=by
 cases w<;>kernel_rfl
theorem xm{w:Wd}{b:List Int}(h:Ar w b):(shp w).length=b.length:=by
 unfold Ar at h
 split at h<;>first | exact h.elim | kernel_rfl
theorem lr(w:Wd):(shp w).length<=sizeLine:=by cases w<;>decide +kernel
theorem eG{i:Int}{p:Prop}(h:inN i):i<0->p:=λz=>absurd z (by unfold inN at h;omega)
theorem zK{w:Wd}{d:List Int}{k:Nat}{i:Int}(h:Ar w d)(b:d[k]?=some i):∃c,(shp w).cps.toList[k]?=some c/\(i<0->c=86):=by
 unfold Ar at h
 split at h
 ·rcases k with _ | _ | k
  ·cases b;exact ⟨72,θ,eG h.1⟩
  ·cases b;exact ⟨67,θ,eG h.2⟩
  ·simp at b
 ·rcases k with _ | _ | k
  ·cases b;exact ⟨72,θ,eG h.1⟩
  ·cases b;exact ⟨67,θ,eG h.2⟩
  ·simp at b
 ·rcases k with _ | _ | k
  ·cases b;exact ⟨72,θ,eG h.1⟩
  ·cases b;exact ⟨67,θ,eG h.2⟩
  ·simp at b
 ·rcases k with _ | _ | _ | k
  ·cases b;exact ⟨72,θ,eG h.1⟩
  ·cases b;exact ⟨65,θ,eG h.2.1⟩
  ·cases b;exact ⟨66,θ,eG h.2.2.1⟩
  ·simp at b
 ·rcases k with _ | _ | _ | k
  ·cases b;exact ⟨72,θ,eG h.1⟩
  ·cases b;exact ⟨67,θ,eG h.2.1⟩
  ·cases b;exact ⟨86,θ,λ_=>rfl⟩
  ·simp at b
 ·rcases k with _ | k
  ·cases b;exact ⟨86,θ,λ_=>rfl⟩
  ·simp at b
 ·rcases k with _ | k
  ·cases b;exact ⟨86,θ,λ_=>rfl⟩
  ·simp at b
 ·exact h.elim
theorem qc(i:Int):(iS i).cps.toList=bX i:=nZ i
theorem Ao{i:Int}{c:Nat}(h:c∈bX i):c=45\/(48<=c/\c<=57):=by
 have b:∀m,c∈bq m->48<=c/\c<=57:=λm d=>fD m c d
 unfold bX at h
 split at h
 ·rcases ϕ.mp h with e | e
  ·exact .inl e
  ·exact .inr (b _ e)
 ·exact .inr (b _ h)
theorem qZ{i:Int}(h:inV i):(Txt.lstripChars (iS i) (Str.ofString "-")).length<=40:=by
 have e:(Str.ofString "-")=⟨#[45]⟩:=by decide +kernel
 have b:=mi (k:=40) ζ h
 have f:(iS i).cps.size=(bX i).length:=by rw [← qc];simp
 rw [e]
 unfold Txt.lstripChars
 rw [stripBy_eq]
 generalize hL:stripLo ((⟨#[45]⟩:Str).cps.contains) true (iS i)=lo
 show ((iS i).cps.extract lo (iS i).length).size<=40
 rw [Array.size_extract]
 by_cases hi:i<0
 ·have h1:1<=lo:=by
   rw [← hL]
   show 1<=((iS i).cps.toList.takeWhile (λc=>(⟨#[45]⟩:Str).cps.contains c)).length
   rw [qc]
   unfold bX
   rw [if_pos hi,List.takeWhile_cons,if_pos θ]
   simp
  have d:(bX i).length<=41:=by
   unfold bX
   rw [if_pos hi,List.length_cons]
   omega
  omega
 ·have d:(bX i).length<=40:=by
   unfold bX
   rw [if_neg hi]
   exact b
  omega
theorem yu{i:Int}(h:inV i):(iS i).length<=100000:=Λ (gi h) ζ
theorem nj(c:Nat):∀ls:List (List Nat),(cO c ls).length<=(ls.map (·.length)).sum+ls.length
 | []=>ϖ _
 | [x]=>by simp [cO]
 | x::y::r=>by
  have h:=nj c (y::r)
  show (x++c::cO c (y::r)).length<=_
  rw [List.length_append,List.length_cons,List.map_cons,List.sum_cons,List.length_cons (a:=x)]
  omega
theorem nU{b:Wd}{d:List Int}(h:Ar b d):(txt b d).length<=1000000:=by
 have e:(txt b d).cps.toList=cO 32 ((wS b::d.map iS).map λy=>y.cps.toList):=by
  unfold txt
  rw [jo]
  exact dj 32 _
 have f:(txt b d).length=(txt b d).cps.toList.length:=by simp [Str.length]
 have h1:=nj 32 ((wS b::d.map iS).map λy=>y.cps.toList)
 have g:=sH h
 have i:((wS b::d.map iS).map λy=>y.cps.toList).map (·.length)=(wS b::d.map iS).map (·.length):=by
  rw [List.map_map]
  refine List.map_congr_left λy _=>?_
  simp [Str.length]
 have j:(Str.ofString " ").length=1:=by decide +kernel
 rw [i,ν] at h1
 rw [j,Nat.mul_one] at g
 rw [f,e]
 omega
theorem qd{m:Str}(h1:¬m="where")(b:¬m="cell")(d:¬m="low")(e:¬m="high")(f:¬m="amount")(w:Wd)(g:List Int):(jd w g).lookup m=none:=by
 unfold jd
 split<;>simp only [aO h1,aO b,aO d,aO e,aO f,List.lookup_nil]
theorem lY{H H':Hp}{x dx:Addr}{o1 o2:HO}(nx:H x=none)(nd:H dx=none)(k:Kp x (upd (upd H dx o1) x o2) H'):Same H H':=λb o e=>by
 have hx:b≠x:=λz=>by rw [z,nx] at e;cases e
 have hd:b≠dx:=λz=>by rw [z,nd] at e;cases e
 exact k b o hx (by rw [ao hx,ao hd];exact e)
structure WI(P:Program)(w:World)(K:Frag)(mg:Str->Option Value)(base:Heap)(CW:Wd->Addr)(wd:Wd) where
 fI:Addr
 dI:FuncData
 ps:List Str
 M:Mk K (CW wd) fI
 ok:FnOk P w K mg base CX0 2 fI dI ps (fJ CW wd)
 b:Binds K dI ps []
 m:mg (wN wd)=some (.ref (CW wd))
section
variable (CW:Wd->Addr)
inductive qD (vs:List V) (H:Hp) (Q:VK) (E:XK):Prop|mk wd q ns:vs=[.str (wS wd),.ref q]->H q=some (.lst ((ns:List Int).map V.int))->Ar wd ns->(∀v H',Same H H'->StO CW H' wd ns v->Q v H')->qD vs H Q E
inductive qE (vs:List V) (H:Hp) (Q:VK) (E:XK):Prop|mk x y z:vs=[.int x,.int y,.int z]->Ar .sum [x,y,z]->(∀v H',Same H H'->StO CW H' .sum [x,y,z] v->Q v H')->qE vs H Q E
inductive hW (vs:List V) (H:Hp) (Q:VK) (E:XK):Prop|mk wd ns:vs=[.str (txt wd ns)]->Ar wd ns->(∀v H',Same H H'->StO CW H' wd ns v->Q v H')->hW vs H Q E
end
inductive qA (vs:List V) (H:Hp) (Q:VK) (E:XK):Prop|mk i c:vs=[.str (iS i),.str ⟨#[c]⟩]->inV i->((i<0->c=86))->(∀H',Same H H'->Q (.int i) H')->qA vs H Q E
end St
namespace L2
open PySem PySem.Spec PyProof.Rows PySem.W Lo
section
variable {X:Cx}{pins:List (Addr×Obj)}{σ:St}{H:Hp}{s:Shared}
theorem qH{vs:List Value}{us:List V}{Q:VK}{E:Value->Shared->Prop}(I:Inv X pins σ H s)(J:Vals us vs)(h2:us.length<2)
  (q:∀l,H l=none->Q (.ref l) (upd H l (.lst us))) :
  wpAny (model X.prog X.w) X.A.in1 (newList vs >>= λl=>holding [l] (call (.builtin "list.sort") [l] []) >>= λ_=>ret l) (λfin s'=>∃v,fin=.done (.ret v)/\EP X pins σ Q v s') E s:=by
 have O:us.length=vs.length:=J.length
 have P:vs.length<=sizeLine:=by rw [sizeLine_eq];omega
 refine ε (wpAny_newList ?_ P)
 obtain ⟨m,F,_⟩:=id I.loc
 have N:News (Att.gU s.heap) X.env.locals s.heap (Att.iI s.heap X.env.locals X.env.locals):=λ⟨c,o⟩ C=>by
  obtain ⟨g,_,e⟩:=Att.mem_ledger.mp C
  exact ⟨e,g,Att.iG _ _⟩
 have x:∀c o,c≠X.env.locals->s.heap.get? c=some o->(c,o)∈Att.iI s.heap X.env.locals X.env.locals:=λc o g e=>Att.mem_ledger.mpr ⟨g,g,e⟩
 have up:∀b o,s.heap.get? b=some o->(s.heap.push (seqObj "list" vs.toArray 0)).get? b=some o:=λb o e=>ρ _ e
 have U:Fr (Att.gU s.heap) X.env.locals (s.heap.push (seqObj "list" vs.toArray 0)) m:=(Att.AR F).kept up
 have Y:News (Att.gU s.heap) X.env.locals (s.heap.push (seqObj "list" vs.toArray 0)) (Att.iI s.heap X.env.locals X.env.locals):=N.grown up
 have G:(s.heap.push (seqObj "list" vs.toArray 0)).get? s.heap.objs.size=some (seqObj "list" vs.toArray 0):=ψ _ rfl
 have Z:s.heap.objs.size≠X.env.locals:=Nat.ne_of_gt I.lt
 have na:∀p∈Att.iI s.heap X.env.locals X.env.locals,p.1≠s.heap.objs.size:=λp C=>Φ (η (N p C).1)
 have f:H s.heap.objs.size=none:=I.hok.fresh (ι _)
 have fin:∀(out:List Value) (h:List V),Vals h out->h.length<=sizeLine->Q (.ref s.heap.objs.size) (upd H s.heap.objs.size (.lst h))->∀h' c,Fr (Att.gU s.heap) X.env.locals h' m ->
   News (Att.gU s.heap) X.env.locals h' ((s.heap.objs.size,PySem.W.listOf (List.toArray out) c)::Att.iI s.heap X.env.locals X.env.locals)->EP X pins σ Q (.ref s.heap.objs.size) {s with heap:=h'}:=λout h ro hz hQ h' c j r=>by
  have keep:∀b o,b≠X.env.locals->s.heap.get? b=some o->h'.get? b=some o:=λb o g e=>(r (b,o) (Θ _ (x b o g e))).1
  have eD:h'.get? s.heap.objs.size=some (PySem.W.listOf (List.toArray out) c):=(r _ Ω).1
  refine ⟨.ref s.heap.objs.size,upd H s.heap.objs.size (.lst h),?_,ϱ,hQ⟩
  have fresh:∀b o,s.heap.get? b=some o->b≠s.heap.objs.size:=λb o e=>Φ (η e)
  show Inv X pins σ (upd H s.heap.objs.size (.lst h)) {s with heap:=h'}
  refine I.step (h':=h') (g':=s.gens) (d':=s.drawn) (t':=s.toks) (ch:=[]) (λ_ z=>nomatch z) (λb o g _ _ e _=>keep b o g e) (λb o g _ _ e _=>⟨o.slots,keep b o g e⟩) (λb o _ e n=>by rw [ao (fresh b o e)];exact n)
   (λb o _ e=>?_) (λb xs e=>by rw [ao (aq e f)];exact e) (λb o u e=>by rw [ao (aq e f)];exact e) (λb ps e=>⟨#[],by rw [ao (aq e f),e];simp⟩) (λm' D=>?_) (λb o e=>?_) I.bare
  ·by_cases hb:b=X.env.locals
   ·obtain ⟨K,_,_,L,_⟩:=j.ns
    exact ⟨K,hb▸L⟩
   ·exact ⟨o,keep b o hb e⟩
  ·have e:m'=m:=funext λi=>D.agree F i
   rw [e]
   exact j.ns
  ·by_cases hb:b=s.heap.objs.size
   ·subst hb
    rw [ae] at e
    cases e
    exact ⟨hz,out,c,ro,eD⟩
   ·rw [ao hb] at e
    have y:b≠X.env.locals:=λz=>by rw [z,I.free] at e;cases e
    refine (I.hok b o e).stay (λd v hd q=>keep d v (λz=>?_) q) (λd q=>by rw [ao (aq q f)];exact q) λd xs q=>by rw [ao (aq q f)];exact q
    rcases hd with hd | hd
    ·exact y (hd.symm.trans z)
    ·rw [z,I.free] at hd;cases hd
 refine ε (wpAny_holding (wpAny_call_entry slot_list_sort ⟨_,G,ϱ⟩ entry_list_sort ?body (args_list_sort _)))
 case body =>
  exact wx (s:={s with heap:=s.heap.push (seqObj "list" vs.toArray 0)}) U Y G Z (Att.iG _ _) na ω λh' c j r=>⟨_,ϱ,π ⟨_,ϱ,fin vs us J ω (q _ f) h' c j r⟩⟩
end
theorem pj{X:Cx}(hc:X.calm=true):d0 X (.builtin "sorted") (λxs H Q=>∃v d es,xs=[.ref v]/\H v=some (Vw v d)/\H d=some (.dT (List.map (λx:(Int×Int)×Str=>([.inl x.1.1,.inl x.1.2],V.str x.2)) es))/\es.length<=1 /\
  ∀H' l ys,Same H H'->H' l=none->Paired (sPS X.K (upd H' l (.lst ys))) es ys->Q (.ref l) (upd H' l (.lst ys))):=by
 intro O s σ H xs us Q I r h
 obtain ⟨v,d,es,rfl,hv,hd,a3,q⟩:=h
 obtain ⟨u,rfl,rx⟩:=d9 r
 cases (show u=Value.ref v from rx)
 obtain ⟨hw,_⟩:=(show ObjOk X.prog X.w H s.heap v (Vw v d) from I.hok v _ hv)
 obtain ⟨z,_,xs,D,o,en,ep,h1,h2,h3,U,h5⟩:=(show ObjOk X.prog X.w H s.heap d (.dT _) from I.hok d _ hd)
 have lx:es.length=xs.length:=by rw [← Paired.length D,ν]
 have ln:en.size=xs.length:=size_of_entries U
 refine Calls.call_function_entry kind_sorted plain_sorted entry_sorted (args_sorted1 _) ?_
 unfold Builtin.«sorted»
 refine ε (m:=checkCount "sorted" 1 1 _) (π (ε (re (A:=X.A.in1) (I.ok.hd hc) hw ⟨o,h1,h2,h3⟩ (by rw [ln,← lx,sizeLine_eq];omega) λh' tk g k' la tu ab nd=>?_)))
 let ts:List (Addr×List V):=(g.zip (es.zip xs)).map λt=>(t.1,[.ref t.2.2.2.1,.str t.2.1.2])
 have lt:(g.zip (es.zip xs)).length=g.length:=by rw [List.length_zip,List.length_zip];omega
 have G:ts.map (·.1)=g:=by
  show ((g.zip (es.zip xs)).map λt=>(t.1,([.ref t.2.2.2.1,.str t.2.1.2]:List V))).map (·.1)=g
  rw [List.map_map]
  show (g.zip (es.zip xs)).map Prod.fst=g
  rw [List.map_fst_zip]
  rw [List.length_zip]
  omega
 have J:∀(i:Nat) (a:Addr) (x:(Int×Int)×Str),g[i]?=some a->es[i]?=some x->∃y:List Key×Addr×Value,xs[i]?=some y/\(a,[V.ref y.2.1,.str x.2])∈ts/\H y.2.1=some (.tup [.int x.1.1,.int x.1.2])/\RelV (.str x.2) y.2.2:=λi a x C ex=>by
  obtain ⟨y,f,W⟩:=D.get1 (j:=i) (x:=([.inl x.1.1,.inl x.1.2],V.str x.2)) (by rw [List.getElem?_map,ex];rfl)
  refine ⟨y,f,ϑ.mpr ⟨(a,x,y),List.mem_of_getElem? (i:=i) ?_,ϱ⟩,W.2.1,W.2.2⟩
  rw [List.getElem?_zip_eq_some,List.getElem?_zip_eq_some]
  exact ⟨C,ex,f⟩
 have new:∀p∈ts,s.heap.objs.size<=p.1:=λp L=>ab p.1 (by rw [← G];exact ϑ.mpr ⟨p,L,ϱ⟩)
 have I1:Inv X O σ (ka H ts) {s with heap:=h',toks:=tk}:=BV I k' new λp L=>by
  obtain ⟨t,ht,rfl⟩:=ϑ.mp L
  obtain ⟨i,Y⟩:=List.getElem?_of_mem ht
  rw [List.getElem?_zip_eq_some,List.getElem?_zip_eq_some] at Y
  obtain ⟨C,ex,f⟩:=Y
  obtain ⟨e,ee,eh⟩:=tu i t.1 C
  obtain ⟨y,F,_,_,P⟩:=J i t.1 t.2.1 C ex
  rw [f] at F
  cases F
  have Z:en[i]?=some (entryOfKey (tupleKind (aK X.prog X.w)) t.2.2):=by rw [entry_at U,f];rfl
  rw [ee] at Z
  cases Z
  exact ⟨by show 2<=sizeLine;decide,[.ref t.2.2.2.1,t.2.2.2.2],.cons rfl (.cons P .nil),_,eh,ϱ,_,ϱ⟩
 have same:Same H (ka H ts):=λb ob e=>by
  obtain ⟨av,e'⟩:=(I.hok b ob e).there
  rw [rJ λp L z=>by subst z;exact Nat.not_le_of_gt (η e') (new p L)]
  exact e
 have pe:Paired (sPS X.K (ka H ts)) es (g.map V.ref):=jE (by rw [ν];omega) λi x y ex f=>by
  rw [List.getElem?_map] at f
  obtain ⟨a,C,rfl⟩:=Option.map_eq_some_iff.mp f
  obtain ⟨w,ew,hm,hk,_⟩:=J i a x C ex
  exact ⟨a,w.2.1,ϱ,w5 (by rw [G];exact nd) hm,same _ _ hk⟩
 have P:Vals (g.map V.ref) (g.map Value.ref):=jE (by rw [ν,ν]) λi x y ex f=>by
  rw [List.getElem?_map] at ex f
  obtain ⟨a,C,rfl⟩:=Option.map_eq_some_iff.mp ex
  rw [C] at f
  cases f
  rfl
 refine qH I1 P (by rw [ν];omega) λl hl=>q _ l _ same hl (Paired.mapP pe λ_ _ z=>z.keep λb xs e=>?_)
 rw [ao (aq e hl)]
 exact e
end L2
namespace K54
open PySem L2 Lo
def top(i:Nat):Stmt:=PySem.Challenge.pw_pactroom_k54_undone_once_or_void.main.body.getD i (.Pass ⟨0,0,0,0⟩)
abbrev hJ:Stmt:=inClass (top 4) 0
abbrev fg:Stmt:=inClass (top 4) 2
abbrev fe:Stmt:=inClass (top 4) 3
abbrev hI:Stmt:=inClass (top 4) 4
abbrev gY:Stmt:=inClass (top 5) 0
abbrev gZ:Stmt:=inClass (top 6) 0
abbrev fh:Stmt:=inClass (top 7) 0
abbrev jA:Stmt:=top 8
abbrev gf:Stmt:=inClass (top 16) 0
abbrev df:Stmt:=inClass (top 16) 1
abbrev bo:Stmt:=inClass (top 16) 2
abbrev b8:Stmt:=inClass (top 16) 3
abbrev cT:Stmt:=inClass (top 16) 7
abbrev br:Stmt:=inClass (top 16) 8
abbrev ba:Stmt:=inClass (top 16) 9
abbrev bT:Stmt:=inClass (top 16) 10
abbrev lG:Stmt:=top 26
abbrev iV:Stmt:=top 27
abbrev mM:Stmt:=top 28
abbrev ix:Stmt:=inClass (top 29) 0
abbrev gr:Stmt:=inClass (top 29) 1
abbrev eU:Stmt:=inClass (top 29) 2
abbrev dY:Stmt:=inClass (top 29) 4
abbrev c9:Stmt:=inClass (top 29) 5
abbrev dX:Stmt:=inClass (top 29) 6
abbrev gV:Stmt:=inClass (top 33) 1
abbrev gW:Stmt:=inClass (top 33) 3
abbrev dU:Stmt:=inClass (top 34) 0
abbrev dH:Stmt:=inClass (top 35) 0
abbrev bY:Stmt:=inClass (top 35) 1
abbrev dQ:Stmt:=inClass (top 36) 0
abbrev db:Stmt:=inClass (top 36) 1
abbrev eK:Stmt:=inClass (top 37) 0
abbrev eJ:Stmt:=inClass (top 37) 2
abbrev bj:Stmt:=inClass (top 37) 3
abbrev dR:Stmt:=inClass (top 38) 0
abbrev b9:Stmt:=inClass (top 38) 1
abbrev eM:Stmt:=inClass (top 39) 0
abbrev eL:Stmt:=inClass (top 39) 1
abbrev cq:Stmt:=inClass (top 39) 2
abbrev eN:Stmt:=inClass (top 39) 3
abbrev dM:Stmt:=inClass (top 40) 0
abbrev bZ:Stmt:=inClass (top 40) 1
abbrev dO:Stmt:=inClass (top 41) 0
abbrev b7:Stmt:=inClass (top 41) 1
abbrev cZ:Stmt:=top 42
abbrev eY:Stmt:=top 43
abbrev gN:Stmt:=top 44
abbrev iE:Stmt:=top 45
abbrev f6:Stmt:=inClass (top 47) 0
abbrev fY:Stmt:=inClass (top 47) 2
abbrev aN:Stmt:=inClass (top 47) 3
abbrev cR:Stmt:=inClass (top 47) 4
abbrev cS:Stmt:=inClass (top 47) 5
abbrev fb:Stmt:=inClass (top 47) 7
abbrev bM:Stmt:=inClass (top 47) 8
abbrev bO:Stmt:=inClass (top 47) 9
abbrev cn:Stmt:=inClass (top 47) 10
abbrev bK:Stmt:=inClass (top 47) 15
abbrev gc:Stmt:=inClass (top 49) 0
abbrev gX:Stmt:=inClass (top 49) 1
abbrev gb:Stmt:=inClass (top 49) 2
abbrev cK:Stmt:=inClass (top 49) 3
abbrev bf:Stmt:=inClass (top 49) 4
abbrev f9:Stmt:=inClass (top 51) 0
abbrev f8:Stmt:=inClass (top 51) 1
abbrev cE:Stmt:=inClass (top 51) 2
abbrev dL:Stmt:=inClass (top 51) 3
abbrev cG:Stmt:=inClass (top 51) 4
abbrev dJ:Stmt:=inClass (top 51) 5
abbrev f7:Stmt:=inClass (top 51) 6
abbrev cy:Stmt:=inClass (top 51) 7
abbrev cJ:Stmt:=inClass (top 51) 10
abbrev eB:Stmt:=top 53
abbrev e8:Stmt:=top 54
abbrev gP:Stmt:=top 55
abbrev gQ:Stmt:=top 56
abbrev fO:Stmt:=top 57
abbrev cr:Stmt:=top 58
abbrev gO:Stmt:=top 59
abbrev gR:Stmt:=top 60
abbrev eZ:Stmt:=top 61
abbrev iX:Stmt:=top 62
theorem oJ:am ["self","first","last"] ["self","first","last"] (defScope hJ):=⟨ϱ,ϱ,ϱ,θ,ϱ,θ,θ⟩
theorem sc_Lock_beside:am ["self","other","apart"] ["self","other"] (defScope fg):=⟨ϱ,ϱ,ϱ,θ,ϱ,θ,θ⟩
theorem sc_Lock_covers:am ["self","other","within"] ["self","other"] (defScope fe):=⟨ϱ,ϱ,ϱ,θ,ϱ,θ,θ⟩
theorem oI:am ["self"] ["self"] (defScope hI):=⟨ϱ,ϱ,ϱ,θ,ϱ,θ,θ⟩
theorem oG:am ["self"] ["self"] (defScope gY):=⟨ϱ,ϱ,ϱ,θ,ϱ,θ,θ⟩
theorem oH:am ["self"] ["self"] (defScope gZ):=⟨ϱ,ϱ,ϱ,θ,ϱ,θ,θ⟩
theorem lD:am ["self"] ["self"] (defScope fh):=⟨ϱ,ϱ,ϱ,θ,ϱ,θ,θ⟩
theorem qK:am ["told"] ["told"] (defScope jA):=⟨ϱ,ϱ,ϱ,θ,ϱ,θ,θ⟩
theorem mx:am ["self"] ["self"] (defScope gf):=⟨ϱ,ϱ,ϱ,θ,ϱ,θ,θ⟩
theorem sc_Locks_ask:am ["self","p","lock"] ["self","p","lock"] (defScope df):=⟨ϱ,ϱ,ϱ,θ,ϱ,θ,θ⟩
def ml:Scope:=match defBody df with
 | _::.If (.Call _ [.ListComp _ _ sc _] _ _) _ _ _::_=>sc
 | _=>default
theorem lF:a9 ["self","p","lock"] (defScope df) ml "pair" ["pair","p","lock"] [1,2]:=⟨θ,ϱ,θ,ϱ,θ,θ,ϱ,ϱ,θ⟩
theorem sc_Locks_free:am ["self","p","waited","still"] ["self","p"] (defScope bo):=⟨ϱ,ϱ,ϱ,θ,ϱ,θ,θ⟩
def kz:Scope:=match defBody bo with
 | _::.Assign _ (.ListComp _ _ sc _) _::_=>sc
 | _=>default
theorem kq:a9 ["self","p","waited","still"] (defScope bo) kz "pair" ["pair","p"] [1]:=⟨θ,ϱ,θ,ϱ,θ,θ,ϱ,ϱ,θ⟩
def ky:Scope:=match defBody bo with
 | _::_::.Assign _ (.ListComp _ _ sc _) _::_=>sc
 | _=>default
theorem ko:a9 ["self","p","waited","still"] (defScope bo) ky "pair" ["pair"] []:=⟨θ,ϱ,θ,ϱ,θ,θ,ϱ,ϱ,λj h=>absurd h (Nat.not_lt_zero j)⟩
def kx:Scope:=match defBody bo with
 | _::_::_::.Return (some (.ListComp _ _ sc _)) _::_=>sc
 | _=>default
theorem kn:a9 ["self","p","waited","still"] (defScope bo) kx "pair" ["pair","p","still"] [1,3]:=⟨θ,ϱ,θ,ϱ,θ,θ,ϱ,ϱ,θ⟩
theorem ki:am ["self","p","lock"] ["self","p","lock"] (defScope b8):=⟨ϱ,ϱ,ϱ,θ,ϱ,θ,θ⟩
def jf:Scope:=match defBody b8 with
 | .Return (some (.Call _ [.ListComp _ _ sc _] _ _)) _::_=>sc
 | _=>default
theorem iU:a9 ["self","p","lock"] (defScope b8) jf "pair" ["pair","p","lock"] [1,2]:=⟨θ,ϱ,θ,ϱ,θ,θ,ϱ,ϱ,θ⟩
theorem sc_Locks_hinderer:am ["self","place","pair","k","ahead"] ["self","place"] (defScope cT):=⟨ϱ,ϱ,ϱ,θ,ϱ,θ,θ⟩
theorem io:am ["self"] ["self"] (defScope br):=⟨ϱ,ϱ,ϱ,θ,ϱ,θ,θ⟩
def gE:Scope:=match defBody br with
 | .Return (some (.ListComp _ _ sc _)) _::_=>sc
 | _=>default
theorem gD:a9 ["self"] (defScope br) gE "k" ["k","self"] [0]:=⟨θ,ϱ,θ,ϱ,θ,θ,ϱ,ϱ,θ⟩
theorem fL:am ["self"] ["self"] (defScope ba):=⟨ϱ,ϱ,ϱ,θ,ϱ,θ,θ⟩
def fj:Scope:=match defBody ba with
 | .Return (some (.ListComp _ _ sc _)) _::_=>sc
 | _=>default
theorem eX:a9 ["self"] (defScope ba) fj "k" ["k","self"] [0]:=⟨θ,ϱ,θ,ϱ,θ,θ,ϱ,ϱ,θ⟩
theorem sc_Locks_waiting_place:am ["self","p","k"] ["self","p"] (defScope bT):=⟨ϱ,ϱ,ϱ,θ,ϱ,θ,θ⟩
theorem oC:am ["self"] ["self"] (defScope gV):=⟨ϱ,ϱ,ϱ,θ,ϱ,θ,θ⟩
theorem oE:am ["self","value_of"] ["self","value_of"] (defScope gW):=⟨ϱ,ϱ,ϱ,θ,ϱ,θ,θ⟩
theorem jx:am ["self","where","cell"] ["self","where","cell"] (defScope dU):=⟨ϱ,ϱ,ϱ,θ,ϱ,θ,θ⟩
theorem jp:am ["self"] ["self"] (defScope dH):=⟨ϱ,ϱ,ϱ,θ,ϱ,θ,θ⟩
theorem gw:am ["self","hand","value_of"] ["self","hand","value_of"] (defScope bY):=⟨ϱ,ϱ,ϱ,θ,ϱ,θ,θ⟩
theorem jv:am ["self"] ["self"] (defScope dQ):=⟨ϱ,ϱ,ϱ,θ,ϱ,θ,θ⟩
theorem gz:am ["self","hand","value_of"] ["self","hand","value_of"] (defScope db):=⟨ϱ,ϱ,ϱ,θ,ϱ,θ,θ⟩
theorem kh:am ["self","where","low","high"] ["self","where","low","high"] (defScope eK):=⟨ϱ,ϱ,ϱ,θ,ϱ,θ,θ⟩
theorem kg:am ["self"] ["self"] (defScope eJ):=⟨ϱ,ϱ,ϱ,θ,ϱ,θ,θ⟩
theorem gL:am ["self","hand","value_of"] ["self","hand","value_of"] (defScope bj):=⟨ϱ,ϱ,ϱ,θ,ϱ,θ,θ⟩
def gj:Scope:=match defBody bj with
 | .Return (some (.Tuple [(.Call _ [.ListComp _ _ sc _] _ _),_] _ _)) _::_=>sc
 | _=>default
theorem fM:a9 ["self","hand","value_of"] (defScope bj) gj "cell" ["cell","value_of"] [2]:=⟨θ,ϱ,θ,ϱ,θ,θ,ϱ,ϱ,θ⟩
theorem jw:am ["self"] ["self"] (defScope dR):=⟨ϱ,ϱ,ϱ,θ,ϱ,θ,θ⟩
theorem gC:am ["self","hand","value_of"] ["self","hand","value_of"] (defScope b9):=⟨ϱ,ϱ,ϱ,θ,ϱ,θ,θ⟩
theorem kl:am ["self","where","cell","amount"] ["self","where","cell","amount"] (defScope eM):=⟨ϱ,ϱ,ϱ,θ,ϱ,θ,θ⟩
theorem kj:am ["self"] ["self"] (defScope eL):=⟨ϱ,ϱ,ϱ,θ,ϱ,θ,θ⟩
theorem gM:am ["self","hand","value_of"] ["self","hand","value_of"] (defScope cq):=⟨ϱ,ϱ,ϱ,θ,ϱ,θ,θ⟩
theorem km:am ["self","value_of"] ["self","value_of"] (defScope eN):=⟨ϱ,ϱ,ϱ,θ,ϱ,θ,θ⟩
theorem js:am ["self","amount"] ["self","amount"] (defScope dM):=⟨ϱ,ϱ,ϱ,θ,ϱ,θ,θ⟩
theorem gx:am ["self","hand","value_of"] ["self","hand","value_of"] (defScope bZ):=⟨ϱ,ϱ,ϱ,θ,ϱ,θ,θ⟩
theorem ju:am ["self","amount"] ["self","amount"] (defScope dO):=⟨ϱ,ϱ,ϱ,θ,ϱ,θ,θ⟩
theorem gy:am ["self","hand","value_of"] ["self","hand","value_of"] (defScope b7):=⟨ϱ,ϱ,ϱ,θ,ϱ,θ,θ⟩
theorem sc_read_step:am ["text","words","shape"] ["text"] (defScope cZ):=⟨ϱ,ϱ,ϱ,θ,ϱ,θ,θ⟩
def mj:Scope:=match defBody cZ with
 | _::_::_::.Return (some (.Call _ [_,.ListComp _ _ sc _] _ _)) _::_=>sc
 | _=>default
theorem lE:a9 ["text","words","shape"] (defScope cZ) mj "k" ["k","words","shape"] [1,2]:=⟨θ,ϱ,θ,ϱ,θ,θ,ϱ,ϱ,θ⟩
theorem sc_read_number:am ["word","letter","number"] ["word","letter"] (defScope eY):=⟨ϱ,ϱ,ϱ,θ,ϱ,θ,θ⟩
theorem oB:am ["word","numbers"] ["word","numbers"] (defScope gN):=⟨ϱ,ϱ,ϱ,θ,ϱ,θ,θ⟩
theorem pH:am ["where","low","high"] ["where","low","high"] (defScope iE):=⟨ϱ,ϱ,ϱ,θ,ϱ,θ,θ⟩
theorem sc_Works_init:am ["self","stand","home","many","row"] ["self","stand","home","many"] (defScope f6):=⟨ϱ,ϱ,ϱ,θ,ϱ,θ,θ⟩
theorem mr:am ["self","sheet","p","i","hand","text"] ["self","sheet","p","i","hand","text"] (defScope fY):=⟨ϱ,ϱ,ϱ,θ,ϱ,θ,θ⟩
theorem sc_Works_do_step:am ["self","sheet","p","waited","behind"] ["self","sheet","p","waited"] (defScope aN):=⟨ϱ,ϱ,ϱ,θ,ϱ,θ,θ⟩
theorem sc_Works_value_at:am ["self","p","cell","draft"] ["self","p","cell"] (defScope cR):=⟨ϱ,ϱ,ϱ,θ,ϱ,θ,θ⟩
theorem iR:am ["self","sheet","p","i"] ["self","sheet","p","i"] (defScope cS):=⟨ϱ,ϱ,ϱ,θ,ϱ,θ,θ⟩
theorem sc_Works_ended:am ["self","sheet","p","freed"] ["self","sheet","p"] (defScope fb):=⟨ϱ,ϱ,ϱ,θ,ϱ,θ,θ⟩
theorem sc_Works_walk:am ["self","sheet","p","i","hand","text","row","step","behind"] ["self","sheet","p","i","hand","text"] (defScope bM):=⟨ϱ,ϱ,ϱ,θ,ϱ,θ,θ⟩
theorem sc_Works_undo:am ["self","sheet","p","i","text","row","step","changes"] ["self","sheet","p","i","text"] (defScope bO):=⟨ϱ,ϱ,ϱ,θ,ϱ,θ,θ⟩
theorem gK:am ["self","p","step"] ["self","p","step"] (defScope cn):=⟨ϱ,ϱ,ϱ,θ,ϱ,θ,θ⟩
theorem iT:am ["self","p"] ["self","p"] (defScope bK):=⟨ϱ,ϱ,ϱ,θ,ϱ,θ,θ⟩
def ir:Scope:=match defBody bK with
 | .Return (some (.Compare _ _ [.ListComp _ _ sc _] _)) _::_=>sc
 | _=>default
theorem ip:a9 ["self","p"] (defScope bK) ir "row" ["row"] []:=⟨θ,ϱ,θ,ϱ,θ,θ,ϱ,ϱ,λj h=>absurd h (Nat.not_lt_zero j)⟩
theorem mw:am ["self","stand"] ["self","stand"] (defScope gc):=⟨ϱ,ϱ,ϱ,θ,ϱ,θ,θ⟩
theorem oF:am ["self","row"] ["self","row"] (defScope gX):=⟨ϱ,ϱ,ϱ,θ,ϱ,θ,θ⟩
theorem mv:am ["self","to","word","p","more"] ["self","to","word","p","more"] (defScope gb):=⟨ϱ,ϱ,ϱ,θ,ϱ,θ,θ⟩
theorem iD:am ["self"] ["self"] (defScope cK):=⟨ϱ,ϱ,ϱ,θ,ϱ,θ,θ⟩
theorem sc_Sheet_letters_told:am ["self","news"] ["self"] (defScope bf):=⟨ϱ,ϱ,ϱ,θ,ϱ,θ,θ⟩
def fE:Scope:=match defBody bf with
 | _::.Return (some (.ListComp _ _ sc _)) _::_=>sc
 | _=>default
theorem fu:a9 ["self","news"] (defScope bf) fE "pair" ["pair","news"] [1]:=⟨θ,ϱ,θ,ϱ,θ,θ,ϱ,ϱ,θ⟩
theorem mt:am ["self","cells"] ["self","cells"] (defScope f9):=⟨ϱ,ϱ,ϱ,θ,ϱ,θ,θ⟩
theorem sc_Stand_keep:am ["self","row","change","p"] ["self","row"] (defScope f8):=⟨ϱ,ϱ,ϱ,θ,ϱ,θ,θ⟩
theorem ij:am ["self","row"] ["self","row"] (defScope cE):=⟨ϱ,ϱ,ϱ,θ,ϱ,θ,θ⟩
theorem jr:am ["self","cell"] ["self","cell"] (defScope dL):=⟨ϱ,ϱ,ϱ,θ,ϱ,θ,θ⟩
theorem il:am ["self"] ["self"] (defScope cG):=⟨ϱ,ϱ,ϱ,θ,ϱ,θ,θ⟩
theorem jq:am ["self","p"] ["self","p"] (defScope dJ):=⟨ϱ,ϱ,ϱ,θ,ϱ,θ,θ⟩
theorem ms:am ["self"] ["self"] (defScope f7):=⟨ϱ,ϱ,ϱ,θ,ϱ,θ,θ⟩
theorem lC:am ["self"] ["self"] (defScope cy):=⟨ϱ,ϱ,ϱ,θ,ϱ,θ,θ⟩
def jM:Scope:=match defBody cy with
 | .Return (some (.ListComp _ _ sc _)) _::_=>sc
 | _=>default
theorem jz:a9 ["self"] (defScope cy) jM "p" ["p","self"] [0]:=⟨θ,ϱ,θ,ϱ,θ,θ,ϱ,ϱ,θ⟩
theorem iC:am ["self","p","i"] ["self","p","i"] (defScope cJ):=⟨ϱ,ϱ,ϱ,θ,ϱ,θ,θ⟩
theorem kf:am ["_law_script","_law_k"] ["_law_script","_law_k"] (defScope eB):=⟨ϱ,ϱ,ϱ,θ,ϱ,θ,θ⟩
theorem lB:am ["_law_cell"] ["_law_cell"] (defScope e8):=⟨ϱ,ϱ,ϱ,θ,ϱ,θ,θ⟩
theorem sc__law_step:am ["_law_cell","_law_many","_law_at","_law_word","_law_text"] ["_law_cell","_law_many"] (defScope gP):=⟨ϱ,ϱ,ϱ,θ,ϱ,θ,θ⟩
theorem sc__law_lock:am ["_law_text","_law_words","_law_at"] ["_law_text"] (defScope gQ):=⟨ϱ,ϱ,ϱ,θ,ϱ,θ,θ⟩
theorem mq:am ["_law_lock_here","_law_at"] ["_law_lock_here","_law_at"] (defScope fO):=⟨ϱ,ϱ,ϱ,θ,ϱ,θ,θ⟩
theorem sc__law_undone:am ["_law_works","_law_stand","_law_told","_law_seen","_law_locks","_law_news","_law_p","_law_i","_law_text","_law_cells","_law_words","_law_at","_law_sheet","_law_rows","_law_letters","_law_change"] ["_law_works","_law_stand","_law_told","_law_seen","_law_locks","_law_news"] (defScope cr):=⟨ϱ,ϱ,ϱ,θ,ϱ,θ,θ⟩
def jL:Scope:=match defBody cr with
 | _::_::_::_::_::_::_::_::_::_::.If _ _ (.If (.BoolOp _ [_,_,(.Compare (.ListComp _ _ sc _) _ _ _)] _) _ _ _::_) _::_=>sc
 | _=>default
theorem jy:a9 ["_law_works","_law_stand","_law_told","_law_seen","_law_locks","_law_news","_law_p","_law_i","_law_text","_law_cells","_law_words","_law_at","_law_sheet","_law_rows","_law_letters","_law_change"] (defScope cr) jL "_law_lock_here" ["_law_lock_here","_law_at"] [11]:=⟨θ,ϱ,θ,ϱ,θ,θ,ϱ,ϱ,θ⟩
theorem sc__law_walk:am ["_law_works","_law_stand","_law_p","_law_texts","_law_cells","_law_seen","_law_i"] ["_law_works","_law_stand","_law_p","_law_texts","_law_cells"] (defScope gO):=⟨ϱ,ϱ,ϱ,θ,ϱ,θ,θ⟩
theorem sc__law_held:am ["_law_works","_law_stand","_law_q","_law_script","_law_many","_law_locks","_law_k","_law_text"] ["_law_works","_law_stand","_law_q","_law_script","_law_many"] (defScope gR):=⟨ϱ,ϱ,ϱ,θ,ϱ,θ,θ⟩
theorem sc__law_silent:am ["_law_works","_law_stand","_law_p","_law_i","_law_text","_law_sheet"] ["_law_works","_law_stand","_law_p","_law_i","_law_text"] (defScope eZ):=⟨ϱ,ϱ,ϱ,θ,ϱ,θ,θ⟩
theorem sc_law:am ["_law_script","_law_number_here","_law_first","_law_p","_law_q","_law_stand","_law_works","_law_cells","_law_texts","_law_seen","_law_locks","_law_news","_law_many","_law_k","_law_sheet","_law_i"] ["_law_script"] (defScope iX):=⟨ϱ,ϱ,ϱ,θ,ϱ,θ,θ⟩
def wO:Scope:=match defBody iX with
 | _::.Assign _ (.ListComp _ _ sc _) _::_=>sc
 | _=>default
theorem uU:a9 ["_law_script","_law_number_here","_law_first","_law_p","_law_q","_law_stand","_law_works","_law_cells","_law_texts","_law_seen","_law_locks","_law_news","_law_many","_law_k","_law_sheet","_law_i"] (defScope iX) wO "_law_k" ["_law_k","_law_number_here"] [1]:=⟨θ,ϱ,θ,ϱ,θ,θ,ϱ,ϱ,θ⟩
def wM:Scope:=match defBody iX with
 | _::_::_::_::_::_::_::.Assign _ (.ListComp _ _ sc _) _::_=>sc
 | _=>default
theorem uT:a9 ["_law_script","_law_number_here","_law_first","_law_p","_law_q","_law_stand","_law_works","_law_cells","_law_texts","_law_seen","_law_locks","_law_news","_law_many","_law_k","_law_sheet","_law_i"] (defScope iX) wM "_law_cell" ["_law_cell","_law_first"] [2]:=⟨θ,ϱ,θ,ϱ,θ,θ,ϱ,ϱ,θ⟩
def wL:Scope:=match defBody iX with
 | _::_::_::_::_::_::_::_::_::_::_::_::_::.Return (some (.Compare (.ListComp _ _ sc _) _ _ _)) _::_=>sc
 | _=>default
theorem uS:a9 ["_law_script","_law_number_here","_law_first","_law_p","_law_q","_law_stand","_law_works","_law_cells","_law_texts","_law_seen","_law_locks","_law_news","_law_many","_law_k","_law_sheet","_law_i"] (defScope iX) wL "_law_i" ["_law_i","_law_p","_law_stand","_law_works","_law_texts"] [3,5,6,8]:=⟨θ,ϱ,θ,ϱ,θ,θ,ϱ,ϱ,θ⟩
open St
section
variable {P:Program}{w:World}{K:Frag}{mg:Str->Option Value}{base:Heap}{f CL CS CH CV:Addr}{fd:FuncData}{C:Kd->Addr}{CW:Wd->Addr}
theorem BM(F:Fun K "kind" "Read.kind" gY f fd):FnOk P w K mg base CX0 1 f fd ["self"] (gJ .read):=by
 refine F.ok oG (λvs H Q E h=>?_) (λd A b s H vs Q E e h=>?_)
 ·obtain ⟨v,rfl,_⟩:=h
  rfl
 obtain ⟨v,rfl,q⟩:=h
 exact ⟨_,ai (aw aC),q⟩
theorem BN(F:Fun K "kind" "Mean.kind" gZ f fd):FnOk P w K mg base CX0 1 f fd ["self"] (gJ .mean):=by
 refine F.ok oH (λvs H Q E h=>?_) (λd A b s H vs Q E e h=>?_)
 ·obtain ⟨v,rfl,_⟩:=h
  rfl
 obtain ⟨v,rfl,q⟩:=h
 exact ⟨_,ai (aw aC),q⟩
theorem BO(F:Fun K "kind" "Change.kind" fh f fd):FnOk P w K mg base CX0 1 f fd ["self"] (gJ .change):=by
 refine F.ok lD (λvs H Q E h=>?_) (λd A b s H vs Q E e h=>?_)
 ·obtain ⟨v,rfl,_⟩:=h
  rfl
 obtain ⟨v,rfl,q⟩:=h
 exact ⟨_,ai (aw aC),q⟩
theorem vL(F:Fun K "__init__" "Lock.__init__" hJ f fd)(T:TxK K C):FnOk P w K mg base CX0 1 f fd ["self","first","last"] (eQ C):=by
 refine F.ok oJ (λvs H Q E h=>?_) (λg A d s H vs Q E i h=>?_)
 ·obtain ⟨a,b,k,x,y,rfl,_⟩:=h
  rfl
 obtain ⟨a,b,k,x,y,rfl,e,q⟩:=h
 refine ⟨_,af (aP (pv 0) (pv 1) rfl) (ai (aP (pv 0) (pv 2) rfl)),?_⟩
 exact ⟨_,ϱ,_,ϱ,a,C k,b,[],ϱ,e,T.cl k,T.nF k,(by show 0<1000;decide),_,ϱ,_,ϱ,a,C k,b,_,ϱ,ae,T.cl k,T.nL k,(by show 1<1000;decide),q⟩
theorem oU(F:Fun K "told" "Lock.told" hI f fd)(T:TxK K C)(l:∀k,GM P w K mg base CX0 1 (C k) "kind" ["self"] (gJ k)):FnOk P w K mg base CX0 2 f fd ["self"] (gI C):=by
 refine F.ok oI (λvs H Q E h=>?_) (λg A e s H vs Q E i h=>?_)
 ·obtain ⟨v,k,rfl,_⟩:=h
  rfl
 obtain ⟨v,k,rfl,⟨a,b,rfl,d⟩,q⟩:=h
 refine ⟨_,ai (aw (aF (ac (pm0 (l k.1) (pv 0) (T.cl k.1) i) (ac (ap (pv 0) rfl) (ac (ap (pv 0) rfl) ag))))),?_⟩
 refine ⟨_,ϱ,a,b,_,ϱ,d,gs _ _ θ θ,_,ϱ,?_⟩
 exact ⟨_,ϱ,a,_,b,_,_,ϱ,d,T.cl _,T.nF _,fx _ _,_,ϱ,a,_,b,_,_,ϱ,d,T.cl _,T.nL _,ja _ _,χ,λt j=>q t j⟩
theorem tD(F:Fun K "lock_of" "lock_of" jA f fd)(T:TxK K C)(i:∀k,mg (kdN k)=some (.ref (C k))){J:Addr}{L:FuncData}(M:∀k,Mk K (C k) J)
  (G:FnOk P w K mg base CX0 1 J L ["self","first","last"] (eQ C))(I:Binds K L ["self","first","last"] []):FnOk P w K mg base CX0 3 f fd ["told"] (iN C K):=by
 refine F.ok qK (λvs H Q E h=>?_) (λa1 A D s H vs Q E hr h=>?_)
 ·obtain ⟨v,k,rfl,_⟩:=h
  rfl
 obtain ⟨v,k,rfl,O,q⟩:=h
 obtain ⟨a,u1,U,W,rfl,d,X,Y,Z⟩:=O
 have m:u1=.str (kdS k.1):=X
 have o:U=.int k.2.1:=Y
 have u:W=.int k.2.2:=Z
 subst m o u
 have g:Room (1+1) _:=hr
 refine ⟨_,af (aH (ay bw (az (r:=bc K) aD (pv 0) aj (λ_ _=>rfl)) aC (ax _))
   (ai (aw (aX (M .read) G g rfl (i .read) I .nil aW (ac (az (r:=bc K) aD (pv 0) aj (λ_ _=>rfl)) (ac (az (r:=bc K) aD (pv 0) aj (λ_ _=>rfl)) ag))))) aA)
  (af (aH (ay bw (az (r:=bc K) aD (pv 0) aj (λ_ _=>rfl)) aC (ax _))
   (ai (aw (aX (M .mean) G g rfl (i .mean) I .nil aW (ac (az (r:=bc K) aD (pv 0) aj (λ_ _=>rfl)) (ac (az (r:=bc K) aD (pv 0) aj (λ_ _=>rfl)) ag))))) aA)
  (ai (aw (aX (M .change) G g rfl (i .change) I .nil aW (ac (az (r:=bc K) aD (pv 0) aj (λ_ _=>rfl)) (ac (az (r:=bc K) aD (pv 0) aj (λ_ _=>rfl)) ag)))))),?_⟩
 refine ⟨_,ϱ,a,_,_,_,ϱ,ϱ,d.sq,ϱ,ϱ,_,ϱ,?_⟩
 obtain ⟨kd,x,y⟩:=k
 cases kd with
 | read =>
  refine bF (λ_=>?_) (λc=>absurd (τ rfl) c)
  exact ⟨_,ϱ,a,_,_,_,ϱ,ϱ,d.sq,ϱ,_,ϱ,a,_,_,_,ϱ,ϱ,d.sq,ϱ,λz e j b l=>⟨z,e,.read,x,y,ϱ,ae,ϱ,q _ _ (eT j b) ⟨z,e,ϱ,ae⟩⟩⟩
 | mean =>
  refine bF (λc=>absurd (V.str.inj (Ξ c)).symm zO) (λ_=>?_)
  refine ⟨_,ϱ,a,_,_,_,ϱ,ϱ,d.sq,ϱ,ϱ,_,ϱ,?_⟩
  refine bF (λ_=>?_) (λc=>absurd (τ rfl) c)
  exact ⟨_,ϱ,a,_,_,_,ϱ,ϱ,d.sq,ϱ,_,ϱ,a,_,_,_,ϱ,ϱ,d.sq,ϱ,λz e j b l=>⟨z,e,.mean,x,y,ϱ,ae,ϱ,q _ _ (eT j b) ⟨z,e,ϱ,ae⟩⟩⟩
 | change =>
  refine bF (λc=>absurd (V.str.inj (Ξ c)).symm zP) (λ_=>?_)
  refine ⟨_,ϱ,a,_,_,_,ϱ,ϱ,d.sq,ϱ,ϱ,_,ϱ,?_⟩
  refine bF (λc=>absurd (V.str.inj (Ξ c)).symm zQ) (λ_=>?_)
  exact ⟨_,ϱ,a,_,_,_,ϱ,ϱ,d.sq,ϱ,_,ϱ,a,_,_,_,ϱ,ϱ,d.sq,ϱ,λz e j b l=>⟨z,e,.change,x,y,ϱ,ae,ϱ,q _ _ (eT j b) ⟨z,e,ϱ,ae⟩⟩⟩
theorem ye(F:Fun K "_law_cell_at" "_law_cell_at" eB f fd)(B:TxB mg):FnOk P w K mg base CX0 1 f fd ["_law_script","_law_k"] (ox K):=by
 refine F.ok kf (λvs H Q E h=>?_) (λl A g s H vs Q E m h=>?_)
 ·obtain ⟨a,b,k,rfl,_⟩:=h
  rfl
 obtain ⟨a,b,k,rfl,i,q⟩:=h
 refine ⟨_,af (aH (ay pQ (pv 1) (aL be rfl B.len PySem.boot_len (ac (pv 0) ag)) (ax _)) (ai (aw (az aI (pv 0) (pv 1) (λ_ _=>rfl)))) aA)
  (ai (aw aj)),?_⟩
 refine ⟨_,ϱ,_,ϱ,a,_,ϱ,.inl i,_,_,ϱ,ϱ,_,ϱ,?_⟩
 refine bF (λc=>?_) (λc=>?_)
 ·have d:(k:Int)<(((b.map V.int).length:Nat):Int):=Ξ c
  rw [ν] at d
  have j:k<b.length:=by omega
  have q1:atI (b.map V.int) ((k:Nat):Int)=some (.int b[k]):=aV (by rw [List.getElem?_map,ξ j]<;>rfl)
  have e:cN b k=b[k]:=by unfold cN;rw [List.getElem?_eq_getElem j];rfl
  rw [e] at q
  exact ⟨_,ϱ,_,ϱ,a,_,_,_,ϱ,ϱ,i,q1,q⟩
 ·have d:¬(k:Int)<(((b.map V.int).length:Nat):Int):=λz=>c (τ z)
  rw [ν] at d
  have e:cN b k=0:=by unfold cN;rw [List.getElem?_eq_none ω];rfl
  rw [e] at q
  exact q
theorem kp2{a:Addr}{H:Hp}{o1 o2:HO}:Kp a H (upd (upd H a o1) a o2):=λb o n e=>by rw [ao n,ao n];exact e
theorem v4(F:Fun K "__init__" "CellStep.__init__" dU f fd)(T:TxW K CW):FnOk P w K mg base CX0 1 f fd ["self","where","cell"] (kO CW):=by
 refine F.ok jx (λvs H Q E h=>?_) (λi A e s H vs Q E j h=>?_)
 ·obtain ⟨a,d,b,x,y,rfl,_⟩:=h
  rfl
 obtain ⟨a,d,b,x,y,rfl,g,q⟩:=h
 refine ⟨_,af (aP (pv 0) (pv 1) rfl) (ai (aP (pv 0) (pv 2) rfl)),?_⟩
 exact ⟨_,ϱ,_,ϱ,a,CW b,d,[],ϱ,g,T.cl b,T.nW b,(by show 0<1000;decide),_,ϱ,_,ϱ,a,CW b,d,_,ϱ,ae,T.cl b,T.nC b,(by show 1<1000;decide),q _ ae kp2⟩
theorem pi{b:Wd}(hw:isC b=true){vs:List V}{H:Hp}{Q:VK}{E:XK}(h:fJ CW b vs H Q E):kO CW vs H Q E:=by
 obtain ⟨a,d,l,rfl,f,g,q⟩:=h
 obtain ⟨x,y,rfl,_,_,e⟩:=f.c hw
 exact ⟨a,d,b,x,y,ϱ,g,λi h1 j=>q i (by rw [e];exact h1) j⟩
theorem vy(F:Fun K "__init__" "SumStep.__init__" eK f fd)(T:TxW K CW):FnOk P w K mg base CX0 1 f fd ["self","where","low","high"] (fJ CW .sum):=by
 refine F.ok kh (λvs H Q E h=>?_) (λm A i s H vs Q E r h=>?_)
 ·obtain ⟨a,d,j,rfl,g,_⟩:=h
  obtain ⟨x,y,z,rfl,_⟩:=g.s
  rfl
 obtain ⟨a,d,j,rfl,g,l,q⟩:=h
 obtain ⟨x,y,z,rfl,_⟩:=g.s
 refine ⟨_,af (aP (pv 0) (pv 1) rfl) (af (aP (pv 0) (pv 2) rfl) (ai (aP (pv 0) (pv 3) rfl))),?_⟩
 exact ⟨_,ϱ,_,ϱ,a,CW .sum,d,[],ϱ,l,T.cl _,T.nW _,(by show 0<1000;decide),_,ϱ,_,ϱ,a,CW .sum,d,_,ϱ,ae,T.cl _,T.nL _,(by show 1<1000;decide),_,ϱ,_,ϱ,a,CW .sum,d,_,ϱ,ae,T.cl _,T.nH _,Nat.lt_of_le_of_lt (dh _ _ _) (by show 1+1<1000;decide),q _ ae λb o n e=>by rw [ao n,ao n,ao n];exact e⟩
theorem v8{j m:Addr}{r:FuncData}(F:Fun K "__init__" "AddStep.__init__" eM f fd)(T:TxW K CW)(l:mg "CellStep"=some (.ref j))(J:zf K j "__init__" m)(L:FnOk P w K mg base CX0 1 m r ["self","where","cell"] (kO CW))(O:Binds K r ["self","where","cell"] []) :
  FnOk P w K mg base CX0 2 f fd ["self","where","cell","amount"] (fJ CW .add):=by
 refine F.ok kl (λvs H Q E h=>?_) (λD A i s H vs Q E G h=>?_)
 ·obtain ⟨a,d,u,rfl,g,_⟩:=h
  obtain ⟨x,y,z,rfl,_⟩:=g.a
  rfl
 obtain ⟨a,d,u,rfl,g,C,q⟩:=h
 obtain ⟨x,y,z,rfl,_⟩:=g.a
 refine ⟨_,af (aQ (xE (fU (v:=.ref j) rfl l rfl) J L G O aW (ac (pv 0) (ac (pv 1) (ac (pv 2) ag))))) (ai (aP (pv 0) (pv 3) rfl)),?_⟩
 refine ⟨_,ϱ,_,ϱ,_,ϱ,a,d,.add,x,y,ϱ,C,λU h1 I=>?_⟩
 exact ⟨_,ϱ,_,ϱ,a,CW .add,d,_,ϱ,h1,T.cl _,T.nA _,Nat.lt_of_le_of_lt (dh _ _ _) (by show 1+1<1000;decide),q _ ae λb o n e=>by rw [ao n];exact I b o n e⟩
theorem vC(F:Fun K "__init__" "PlusStep.__init__" dM f fd)(T:TxW K CW):FnOk P w K mg base CX0 1 f fd ["self","amount"] (fJ CW .plus):=by
 refine F.ok js (λvs H Q E h=>?_) (λj A d s H vs Q E l h=>?_)
 ·obtain ⟨a,e,g,rfl,b,_⟩:=h
  obtain ⟨x,rfl,_⟩:=b.p
  rfl
 obtain ⟨a,e,g,rfl,b,i,q⟩:=h
 obtain ⟨x,rfl,_⟩:=b.p
 refine ⟨_,ai (aP (pv 0) (pv 1) rfl),?_⟩
 exact ⟨_,ϱ,_,ϱ,a,CW .plus,e,[],ϱ,i,T.cl _,T.nA _,(by show 0<1000;decide),q _ ae bv⟩
theorem vD(F:Fun K "__init__" "NeedStep.__init__" dO f fd)(T:TxW K CW):FnOk P w K mg base CX0 1 f fd ["self","amount"] (fJ CW .need):=by
 refine F.ok ju (λvs H Q E h=>?_) (λj A d s H vs Q E l h=>?_)
 ·obtain ⟨a,e,g,rfl,b,_⟩:=h
  obtain ⟨x,rfl,_⟩:=b.n
  rfl
 obtain ⟨a,e,g,rfl,b,i,q⟩:=h
 obtain ⟨x,rfl,_⟩:=b.n
 refine ⟨_,ai (aP (pv 0) (pv 1) rfl),?_⟩
 exact ⟨_,ϱ,_,ϱ,a,CW .need,e,[],ϱ,i,T.cl _,T.nA _,(by show 0<1000;decide),q _ ae bv⟩
inductive gp (val:Int->Int) (n:Nat) (vs:List V) (H:Hp) (Q:VK) (E:XK):Prop|mk (c:Int):vs=[.int c]->0<=c->c<n->(∀H',Same H H'->Q (.int (val c)) H')->gp val n vs H Q E
def xi(val:Int->Int)(a:Int):Nat->Int
 | 0=>0
 | n+1=>xi val a n+val (a+n)
def u4(a:Int)(n:Nat):List Int:=(List.range n).map λi=>a+(i:Nat)
theorem pI(a:Int)(n:Nat):u4 a (n+1)=u4 a n++[a+n]:=by
 unfold u4
 rw [List.range_succ,List.map_append]
 rfl
theorem xh(val:Int->Int)(a:Int)(n:Nat):((u4 a n).map val).sum=xi val a n:=by
 induction n with
 | zero=>rfl
 | succ n ih =>
  rw [pI,List.map_append,List.sum_append,ih]
  simp [xi]
def dn(val:Int->Int):Wd->List Int->Int->Int×List (Int×Int)
 | .take,[_,c],_=>(val c,[])
 | .mean,[_,c],_=>(val c,[])
 | .sum,[_,a,b],_=>(xi val a (b+1-a).toNat,[])
 | .give,[_,c],h=>(h,[(c,h)])
 | .add,[_,c,v],h=>(h,[(c,val c+v)])
 | _,_,h=>(h,[])
def inC(n:Nat):Wd->List Int->Prop
 | .sum,[_,a,b]=>a<n/\b<n
 | .add,[_,c,_]=>c<n
 | .plus,_=>False
 | .need,_=>False
 | _,[_,c]=>c<n
 | _,_=>False
def chK(cs:List (Int×Int)):List (Key×V):=cs.map λx=>(Sum.inl x.1,V.int x.2)
def chN(H:Hp)(cs:List (Int×Int))(a:Addr):Prop:=∃us,TF H a us/\Paired (prD H) (chK cs) us
inductive dw (P:Program) (w:World) (K:Frag) (mg:Str->Option Value) (CW:Wd->Addr) (val:Int->Int) (n:Nat) (wd:Wd) (B:Heap) (vs:List V) (H:Hp) (Q:VK) (E:XK):Prop|mk v ns hand fv:vs=[v,.int hand,.ref fv]->Ar wd ns->inC n wd ns->StO CW H wd ns v->CloT P w K mg B 4 fv (gp val n) H->(∀t ch H',Same H H'->H' t=some (.tup [.int (dn val wd ns hand).1,.ref ch])->chN H' (dn val wd ns hand).2 ch->Q (.ref t) H')->dw P w K mg CW val n wd B vs H Q E
def bk(val:Int->Int):Wd->List Int->List (Int×Int)
 | .add,[_,c,v]=>[(c,val c-v)]
 | _,_=>[]
def chB(H:Hp)(cs:List (Int×Int))(a:Addr):Prop:=∃us,H a=some (.tup us)/\Paired (λ(x:Int×Int) u=>∃b,u=.ref b/\H b=some (.tup [.int x.1,.int x.2])) cs us
inductive jn (P:Program) (w:World) (K:Frag) (mg:Str->Option Value) (CW:Wd->Addr) (val:Int->Int) (n:Nat) (wd:Wd) (B:Heap) (vs:List V) (H:Hp) (Q:VK) (E:XK):Prop|mk v ns fv:vs=[v,.ref fv]->Ar wd ns->inC n wd ns->StO CW H wd ns v->CloT P w K mg B 4 fv (gp val n) H->(∀ch H',Same H H'->chB H' (bk val wd ns) ch->Q (.ref ch) H')->jn P w K mg CW val n wd B vs H Q E
section
variable {val:Int->Int}{n:Nat}
theorem vW{g:Wd}{st:Stmt}{q:Str}(hw:g=.take\/g=.mean)(F:Fun K "step_done" q st f fd)(S:am ["self","hand","value_of"] ["self","hand","value_of"] (defScope st)){p1 p2 p3 p4 p5 p6 p7 x1 x2}(Z:defBody st=[.Return (some (.Tuple [.Call (.Name "value_of" p1) [.Attribute (.Name "self" p2) "cell" p3] [] p4,.Tuple [] x1 p5] x2 p6)) p7])(C:defScope st=defScope bY)(T:TxW K CW) :
  FnOk P w K mg base CX0 5 f fd ["self","hand","value_of"] (dw P w K mg CW val n g base):=by
 refine F.ok S (λvs H Q E h=>?_) (λU A l s H vs Q E z h=>?_)
 ·obtain ⟨v,D,b,m,rfl,_⟩:=h
  rfl
 obtain ⟨v,D,b,m,rfl,G,I,⟨a,J,rfl,r⟩,u,q⟩:=h
 rw [Z,C]
 rw [C] at z
 obtain ⟨x,y,rfl,h1,L,e⟩:=G.c (by rcases hw with rfl | rfl<;>rfl)
 rw [e] at r
 have j:y<n:=by rcases hw with rfl | rfl<;>exact I
 have O:dn val g [x,y] b=(val y,[]):=by rcases hw with rfl | rfl<;>rfl
 rw [O] at q
 refine ⟨_,ai (aw (aF (ac (iZ (k:=4) (i:=2) (sp:=gp val n) P w K mg base rfl (.inl rfl) z (ac (ap (pv 0) rfl) ag)) (ac (kS ag) ag)))),?_⟩
 refine ⟨m,ϱ,u.fn,_,ϱ,a,CW g,J,_,_,ϱ,r,T.cl _,T.nC _,bu,_,ϱ,u,y,ϱ,L.1,j,λH1 W=>⟨χ,λt o X od=>⟨χ,λY d=>q Y t _ (W.trans ((ah X).trans (ah d))) ae ⟨[],⟨o,ah d _ _ ae,od⟩,.nil⟩⟩⟩⟩
theorem vZ(F:Fun K "step_done" "GiveStep.step_done" b9 f fd)(T:TxW K CW):FnOk P w K mg base CX0 5 f fd ["self","hand","value_of"] (dw P w K mg CW val n .give base):=by
 refine F.ok gC (λvs H Q E h=>?_) (λz A i s H vs Q E O h=>?_)
 ·obtain ⟨v,l,d,m,rfl,_⟩:=h
  rfl
 obtain ⟨v,l,d,m,rfl,r,I,⟨a,u,rfl,j⟩,J,q⟩:=h
 obtain ⟨x,y,rfl,h1,L,e⟩:=r.c rfl
 rw [e] at j
 refine ⟨_,ai (aw (aF (ac (pv 1) (ac (kS (ac (aF (ac (ap (pv 0) rfl) (ac (pv 1) ag))) ag)) ag)))),?_⟩
 refine ⟨_,ϱ,_,ϱ,a,CW .give,u,_,_,ϱ,j,T.cl _,T.nC _,bu,_,ϱ,χ,λt C=>⟨χ,λD o g od=>⟨χ,λG b=>q G D _ ((ah C).trans ((ah g).trans (ah b))) ae ⟨_,⟨o,ah b _ _ ae,od⟩,.cons ⟨t,ϱ,?_⟩ .nil⟩⟩⟩⟩
 exact ah b _ _ (ah g _ _ ae)
theorem yd(F:Fun K "step_done" "AddStep.step_done" cq f fd)(T:TxW K CW):FnOk P w K mg base CX0 5 f fd ["self","hand","value_of"] (dw P w K mg CW val n .add base):=by
 refine F.ok gM (λvs H Q E h=>?_) (λO A l s H vs Q E U h=>?_)
 ·obtain ⟨v,D,d,m,rfl,_⟩:=h
  rfl
 obtain ⟨v,D,d,m,rfl,G,I,⟨a,g,rfl,j⟩,r,q⟩:=h
 obtain ⟨x,y,z,rfl,h1,J,_⟩:=G.a
 refine ⟨_,ai (aw (aF (ac (pv 1) (ac (kS (ac (aF (ac (ap (pv 0) rfl) (ac (aG cQ (iZ (k:=4) (i:=2) (sp:=gp val n) P w K mg base rfl (.inl rfl) U (ac (ap (pv 0) rfl) ag)) (ap (pv 0) rfl)) ag))) ag)) ag)))),?_⟩
 have u:(jd .add [x,y,z]).lookup (Str.ofString "cell")=some (V.int y):=by
  show (au "amount" _ (au "cell" _ (au "where" _ []))).lookup _=_
  rw [aO θ,bu]
 have L:(jd .add [x,y,z]).lookup (Str.ofString "amount")=some (V.int z):=by
  show (au "amount" _ (au "cell" _ (au "where" _ []))).lookup _=_
  rw [bu]
 refine ⟨_,ϱ,_,ϱ,a,CW .add,g,_,_,ϱ,j,T.cl _,T.nC _,u,m,ϱ,r.fn,_,ϱ,a,CW .add,g,_,_,ϱ,j,T.cl _,T.nC _,u,_,ϱ,r,y,ϱ,J.1,I,λH1 C=>⟨_,ϱ,a,CW .add,g,_,_,ϱ,C _ _ j,T.cl _,T.nA _,L,_,_,ϱ,ϱ,
  χ,λt W=>⟨χ,λX o e od=>⟨χ,λY b=>q Y X _ (C.trans ((ah W).trans ((ah e).trans (ah b)))) ae ⟨_,⟨o,ah b _ _ ae,od⟩,.cons ⟨t,ϱ,?_⟩ .nil⟩⟩⟩⟩⟩
 exact ah b _ _ (ah e _ _ ae)
theorem yc(F:Fun K "step_done" "SumStep.step_done" bj f fd)(T:TxW K CW)(B:TxB mg)(e:mg "sum"=none)(hn:n<=1000):FnOk P w K mg base CX0 5 f fd ["self","hand","value_of"] (dw P w K mg CW val n .sum base):=by
 refine F.ok gL (λvs H Q E h=>?_) (λY A l s H vs Q E Z h=>?_)
 ·obtain ⟨v,G,b,r,rfl,_⟩:=h
  rfl
 obtain ⟨v,G,b,r,rfl,I,J,⟨a,u,rfl,C⟩,L,q⟩:=h
 obtain ⟨x,y,z,rfl,h1,O,h3,h4⟩:=I.s
 refine ⟨_,ai (aw (aF (ac (aL (mF rfl) rfl e PyProof.Rows.boot_sum (ac (c6 fM rfl (sY rfl B.range (ac (ap (pv 0) rfl) (ac (aG cQ (ap (pv 0) rfl) aj) ag))) (λ_ _ _ _=>cX)
  (λ_ _ _ _=>iZ (k:=4) (i:=1) (sp:=gp val n) P w K mg base rfl (by first | exact Or.inl rfl | exact Or.inr (Or.inl rfl) | exact Or.inr (Or.inr rfl)) Z (ac (pv 0) ag))) ag)) (ac (kS ag) ag)))),?_⟩
 have U:(jd .sum [x,y,z]).lookup (Str.ofString "low")=some (V.int y):=by
  show (au "high" _ (au "low" _ (au "where" _ []))).lookup _=_
  rw [aO θ,bu]
 have W:(jd .sum [x,y,z]).lookup (Str.ofString "high")=some (V.int z):=by
  show (au "high" _ (au "low" _ (au "where" _ []))).lookup _=_
  rw [bu]
 refine ⟨_,ϱ,a,CW .sum,u,_,_,ϱ,C,T.cl _,T.nL _,U,_,ϱ,a,CW .sum,u,_,_,ϱ,C,T.cl _,T.nH _,W,_,_,ϱ,ϱ,_,_,ϱ,?_⟩
 have y0:0<=y:=O.1
 have X:z<n:=J.2
 have hz:(z+1-y).toNat<=n:=by omega
 have j:(1000:Nat)<=sizeLine:=by decide
 refine tN (λi m H'=>Same H H'/\m=((u4 y i).map val).map V.int) ⟨Same.refl _,ϱ⟩ ω ?_ ?_
 ·rintro i m H2 hi ⟨g,rfl⟩
  have D:=L.keep g
  refine k9 ⟨r,ϱ,D.fn,_,ϱ,_,ϱ,D,y+i,ϱ,ω,ω,λH3 s3=>⟨g.trans s3,?_⟩⟩
  rw [pI,List.map_append,List.map_append]
  rfl
 ·rintro m H2 ⟨g,rfl⟩ p hp
  refine ⟨p,_,ϱ,SqL.of ae,?_⟩
  rw [xh]
  exact ⟨χ,λt o ht od=>⟨χ,λt2 d=>q t2 t _ (g.trans ((ah hp).trans ((ah ht).trans (ah d)))) ae ⟨[],⟨o,ah d _ _ ae,od⟩,.nil⟩⟩⟩
theorem yf(F:Fun K "back" "AddStep.back" eN f fd)(T:TxW K CW):FnOk P w K mg base CX0 5 f fd ["self","value_of"] (jn P w K mg CW val n .add base):=by
 refine F.ok km (λvs H Q E h=>?_) (λI A g s H vs Q E J h=>?_)
 ·obtain ⟨v,r,j,rfl,_⟩:=h
  rfl
 obtain ⟨v,r,j,rfl,u,C,⟨a,d,rfl,e⟩,l,q⟩:=h
 obtain ⟨x,y,z,rfl,h1,D,_⟩:=u.a
 refine ⟨_,ai (aw (aF (ac (aF (ac (ap (pv 0) rfl) (ac (aG fW (iZ (k:=4) (i:=1) (sp:=gp val n) P w K mg base rfl (.inl rfl) J (ac (ap (pv 0) rfl) ag)) (ap (pv 0) rfl)) ag))) ag))),?_⟩
 have m:(jd .add [x,y,z]).lookup (Str.ofString "cell")=some (V.int y):=by
  show (au "amount" _ (au "cell" _ (au "where" _ []))).lookup _=_
  rw [aO θ,bu]
 have G:(jd .add [x,y,z]).lookup (Str.ofString "amount")=some (V.int z):=by
  show (au "amount" _ (au "cell" _ (au "where" _ []))).lookup _=_
  rw [bu]
 refine ⟨_,ϱ,a,CW .add,d,_,_,ϱ,e,T.cl _,T.nC _,m,j,ϱ,l.fn,_,ϱ,a,CW .add,d,_,_,ϱ,e,T.cl _,T.nC _,m,_,ϱ,l,y,ϱ,D.1,C,λH1 o=>⟨_,ϱ,a,CW .add,d,_,_,ϱ,o _ _ e,T.cl _,T.nA _,G,_,_,ϱ,ϱ,
  χ,λt L=>⟨χ,λO b=>q O _ (o.trans ((ah L).trans (ah b))) ⟨_,ae,.cons ⟨t,ϱ,?_⟩ .nil⟩⟩⟩⟩
 exact ah b _ _ ae
theorem jG{d:Wd}(hw:d≠.add)(F:Fun K "back" "Step.back" gW f fd):FnOk P w K mg base CX0 5 f fd ["self","value_of"] (jn P w K mg CW val n d base):=by
 refine F.ok oE (λvs H Q E h=>?_) (λl A b s H vs Q E x h=>?_)
 ·obtain ⟨v,g,i,rfl,_⟩:=h
  rfl
 obtain ⟨v,g,i,rfl,o,r,j,u,q⟩:=h
 have e:bk val d g=[]:=by
  unfold bk
  split
  ·exact absurd rfl hw
  ·rfl
 rw [e] at q
 exact ⟨_,ai (aw (aF ag)),χ,λt m=>q t _ (ah m) ⟨[],ae,.nil⟩⟩
end
end
end K54
namespace K54
open PySem L2 Lo
section
variable {P:Program}{w:World}{K:Frag}{mg:Str->Option Value}{base:Heap}{f CL CS CH CV:Addr}{fd:FuncData}{C:Kd->Addr}{CW:Wd->Addr}
theorem jH(F:Fun K "beside" "Lock.beside" fg f fd)(T:TxK K C)(S:TxS K mg)(D:∀k,GM P w K mg base CX0 1 (C k) "kind" ["self"] (gJ k)):FnOk P w K mg base CX0 2 f fd ["self","other"] (iQ C):=by
 refine F.ok sc_Lock_beside (λvs H Q E h=>?_) (λY A r s H vs Q E x h=>?_)
 ·obtain ⟨v,u,k,j,rfl,_⟩:=h
  rfl
 obtain ⟨v,u,k,j,rfl,⟨a,d,rfl,g⟩,⟨b,l,rfl,m⟩,q⟩:=h
 obtain ⟨y,G,I,J,L,O,U,W,X⟩:=S.sh
 refine ⟨_,af (aB (i:=2) sc_Lock_beside.nd rfl (Or.inl rfl) (vb (bn pQ (ap (pv 0) rfl) (ap (pv 1) rfl) (ax _)) (eE (bn pQ (ap (pv 1) rfl) (ap (pv 0) rfl) (ax _)))))
  (ai (aw (vb (pv 2) (eE (bn (vo (cT2 cStr cStr) (hun x)) (aF (ac (pm0 (D k.1) (pv 0) (T.cl k.1) x) (ac (pm0 (D j.1) (pv 1) (T.cl j.1) x) ag))) (fU (v:=.ref y) rfl L rfl) rfl))))),?_⟩
 refine ⟨_,ϱ,a,_,d,_,_,ϱ,g,T.cl _,T.nL _,ja _ _,_,ϱ,b,_,l,_,_,ϱ,m,T.cl _,T.nF _,fx _ _,_,_,ϱ,ϱ,_,ϱ,?_⟩
 by_cases h1:k.2.2<j.2.1
 ·have e:aY k j=true:=by unfold aY;rw [decide_eq_true h1];rfl
  rw [e] at q
  refine bF (λ_=>?_) (λc=>absurd (τ h1) c)
  exact ⟨_,ϱ,_,ϱ,bU (q H (Same.refl H))⟩
 refine bF (λc=>absurd (Ξ c) h1) (λ_=>?_)
 refine ⟨_,ϱ,b,_,l,_,_,ϱ,m,T.cl _,T.nL _,ja _ _,_,ϱ,a,_,d,_,_,ϱ,g,T.cl _,T.nF _,fx _ _,_,_,ϱ,ϱ,?_⟩
 by_cases h2:j.2.2<k.2.1
 ·have e:aY k j=true:=by unfold aY;rw [decide_eq_true h2,Bool.or_true];rfl
  rw [e] at q
  refine ⟨_,ϱ,_,ϱ,bF (λ_=>q H (Same.refl H)) (λc=>absurd (τ h2) c)⟩
 have e:aY k j=pF k.1 j.1:=by unfold aY;rw [decide_eq_false h1,decide_eq_false h2];rfl
 rw [e] at q
 refine ⟨_,ϱ,_,ϱ,bF (λc=>absurd (Ξ c) h2) (λ_=>?_)⟩
 refine ⟨_,ϱ,a,d,_,ϱ,g,gs _ _ θ θ,_,ϱ,?_⟩
 refine ⟨_,ϱ,b,l,_,ϱ,m,gs _ _ θ θ,_,ϱ,χ,λt Z=>?_⟩
 refine ⟨(kdS k.1,kdS j.1),y,_,([("read","read"),("read","mean"),("mean","read")]:List (Str×Str)),⟨t,_,_,ϱ,.inl ae,ϱ,ϱ⟩,ϱ,.inr O.sq.sq,.cons ⟨G,_,_,ϱ,U.sq,ϱ,ϱ⟩ (.cons ⟨I,_,_,ϱ,W.sq,ϱ,ϱ⟩ (.cons ⟨J,_,_,ϱ,X.sq,ϱ,ϱ⟩ .nil)),?_⟩
 have z:=q _ (ah (o:=.tup [.str (kdS k.1),.str (kdS j.1)]) Z)
 rw [qJ]
 exact z
theorem jF(F:Fun K "covers" "Lock.covers" fe f fd)(T:TxK K C)(R:TxR K mg)(G:∀k,GM P w K mg base CX0 1 (C k) "kind" ["self"] (gJ k)):FnOk P w K mg base CX0 2 f fd ["self","other"] (iP C):=by
 refine F.ok sc_Lock_covers (λvs H Q E h=>?_) (λI A r s H vs Q E z h=>?_)
 ·obtain ⟨v,u,k,j,rfl,_⟩:=h
  rfl
 obtain ⟨v,u,k,j,rfl,⟨a,g,rfl,l⟩,⟨b,m,rfl,o⟩,q⟩:=h
 obtain ⟨d,x,y⟩:=R.rk
 refine ⟨_,af (aB (i:=2) sc_Lock_covers.nd rfl (Or.inl rfl) (fV (bn mW (ap (pv 0) rfl) (ap (pv 1) rfl) (ax _)) (eE (bn mW (ap (pv 1) rfl) (ap (pv 0) rfl) (ax _)))))
  (ai (aw (fV (pv 2) (eE (bn BK (az (so (D:=lH)) (fU (v:=.ref d) rfl x rfl) (pm0 (G k.1) (pv 0) (T.cl k.1) z) (λ_ _=>rfl)) (az (so (D:=lH)) (fU (v:=.ref d) rfl x rfl) (pm0 (G j.1) (pv 1) (T.cl j.1) z) (λ_ _=>rfl)) (ax _)))))),?_⟩
 refine ⟨_,ϱ,a,_,g,_,_,ϱ,l,T.cl _,T.nF _,fx _ _,_,ϱ,b,_,m,_,_,ϱ,o,T.cl _,T.nF _,fx _ _,_,_,ϱ,ϱ,_,ϱ,?_⟩
 by_cases h1:k.2.1<=j.2.1
 ·refine bF (λ_=>?_) (λc=>absurd (τ h1) c)
  refine ⟨_,ϱ,b,_,m,_,_,ϱ,o,T.cl _,T.nL _,ja _ _,_,ϱ,a,_,g,_,_,ϱ,l,T.cl _,T.nL _,ja _ _,_,_,ϱ,ϱ,?_⟩
  by_cases h2:j.2.2<=k.2.2
  ·have e:bQ k j=decide (qN j.1<=qN k.1):=by unfold bQ;rw [decide_eq_true h1,decide_eq_true h2];rfl
   rw [e] at q
   refine ⟨_,ϱ,_,ϱ,bF (λ_=>?_) (λc=>absurd (τ h2) c)⟩
   refine ⟨_,ϱ,a,g,_,ϱ,l,gs _ _ θ θ,_,ϱ,d,_,qN k.1,ϱ,ϱ,y,rS k.1,ϱ,?_⟩
   exact ⟨_,ϱ,b,m,_,ϱ,o,gs _ _ θ θ,_,ϱ,d,_,qN j.1,ϱ,ϱ,y,rS j.1,ϱ,_,_,ϱ,ϱ,q H (Same.refl H)⟩
  ·have e:bQ k j=false:=by unfold bQ;rw [decide_eq_false h2,Bool.and_false];rfl
   rw [e] at q
   exact ⟨_,ϱ,_,ϱ,bF (λc=>absurd (Ξ c) h2) (λ_=>q H (Same.refl H))⟩
 ·have e:bQ k j=false:=by unfold bQ;rw [decide_eq_false h1];rfl
  rw [e] at q
  refine bF (λc=>absurd (Ξ c) h1) (λ_=>?_)
  exact ⟨_,ϱ,_,ϱ,aM (q H (Same.refl H))⟩
theorem tq(F:Fun K "__init__" "Locks.__init__" gf f fd)(L:TxL K C CL):FnOk P w K mg base CX0 1 f fd ["self"] (lp CL):=by
 refine F.ok mx (λvs H Q E h=>?_) (λr A d s H vs Q E u h=>?_)
 ·obtain ⟨l,i,rfl,_⟩:=h
  rfl
 obtain ⟨l,i,rfl,j,q⟩:=h
 refine ⟨_,ai (aP (pv 0) (ck ag) rfl),?_⟩
 refine ⟨χ,λp g=>?_⟩
 have m:l≠p:=aq j g
 refine ⟨_,ϱ,l,CL,i,[],ϱ,(by rw [ao m];exact j),L.cl,L.nP,(by show 0<1000;decide),?_⟩
 exact q p _ g (by rw [ao (Ne.symm m),ae]) ae λb o n e=>by rw [ao n,ao (aq e g)];exact e
def Un(ps:List Pr):Prop:=∃x,∀y∈ps,y.1=x
theorem kX(p:Pa)(due:List Lk):∀x∈due.map (λk=>((p,k):Pr)),x.1=p:=λx hx=>by
 obtain ⟨k,_,rfl⟩:=ϑ.mp hx
 rfl
def mf(due:List Lk)(k:Lk):List Lk:=if (due.any λj=>bQ j k)=true then due else due++[k]
theorem yA(b:List Lk)(k:Lk):(mf b k).length<=b.length+1:=by
 unfold mf
 split<;>simp
theorem pwn{X:Cx}{e:Expr}:PW X e (λ_ _ _=>False):=λ_ _ _ _ _ _ _ h=>h.elim
def tNo:TE:=λ_ _ _=>False
theorem fw{X:Cx}{e:Expr}:PE X e tNo:=λ_ _ _ _ _ _ h=>h.elim
section
variable (C:Kd->Addr)(CL:Addr)(K:Frag)
inductive sR (vs:List V) (H:Hp) (Q:VK) (E:XK):Prop|mk l p ps k:vs=[.ref l,.int (k:Nat)]->LS C CL K H l p ps->k<ps.length->ps.length<=1000->Un ps->(∀H',Same H H'->Q .non H')->sR vs H Q E
inductive zH (R:Frag->Hp->Pr->V->Prop) (vs:List V) (H:Hp) (Q:VK) (E:XK):Prop|mk l p ps:vs=[.ref l]->LS C CL K H l p ps->ps.length<=1000->Un ps->(∀q H' us,Same H H'->H' q=some (.lst us)->Paired (R K H') ps us->Q (.ref q) H')->zH R vs H Q E
inductive zG (vs:List V) (H:Hp) (Q:VK) (E:XK):Prop|mk l p ps:vs=[.ref l]->LS C CL K H l p ps->ps.length<=1000->Un ps->(∀q H',Same H H'->H' q=some (.lst [])->Q (.ref q) H')->zG vs H Q E
inductive zF (vs:List V) (H:Hp) (Q:VK) (E:XK):Prop|mk l p ps v x:vs=[.ref l,v]->LS C CL K H l p ps->ps.length<=1000->Un ps->cPa.rp K H x v->(∀H',Same H H'->Q .non H')->zF vs H Q E
inductive zJ (vs:List V) (H:Hp) (Q:VK) (E:XK):Prop|mk l p due v x u k:vs=[.ref l,v,u]->(LS C CL K H l p ((due:List Lk).map λk=>((x,k):Pr)))->due.length<1000->cPa.rp K H x v->LkO C H k u->(∀H',LS C CL K H' l p ((mf due k).map λk=>((x,k):Pr))->Kp p H H'->Q (.bl true) H')->zJ vs H Q E
inductive uF (vs:List V) (H:Hp) (Q:VK) (E:XK):Prop|mk l p due v z x u k:vs=[.ref l,v,u]->(LS C CL K H l p ((due:List Lk).map λk=>((x,k):Pr)))->due.length<=1000->cPa.rp K H z v->x≠z->LkO C H k u->(∀H',Same H H'->Q (.bl (due.all λj=>aY j k)) H')->uF vs H Q E
inductive zI (vs:List V) (H:Hp) (Q:VK) (E:XK):Prop|mk l p due v x:vs=[.ref l,v]->(LS C CL K H l p ((due:List Lk).map λk=>((x,k):Pr)))->due.length<=1000->cPa.rp K H x v->(∀q p' dl H',H' l=some (.ins CL dl [("pairs",.ref p')])->H' p'=some (.lst [])->H p'=none->Kp l H H'->H' q=some (.lst [])->Q (.ref q) H')->zI vs H Q E
end
theorem ya(F:Fun K "hinderer" "Locks.hinderer" cT f fd)(B:TxB mg)(L:TxL K C CL):FnOk P w K mg base CX0 3 f fd ["self","place"] (sR C CL K):=by
 refine F.ok sc_Locks_hinderer (λvs H Q E h=>?_) (λar A G s H vs Q E hr h=>?_)
 ·obtain ⟨l,p,e,k,rfl,_⟩:=h
  rfl
 obtain ⟨l,p,e,k,rfl,ls,O,hz,⟨x,U⟩,q⟩:=h
 have nd:=sc_Locks_hinderer.nd
 obtain ⟨Y,vs,Z,hp,W⟩:=id ls
 have X:=W.len
 obtain ⟨uk,g,j⟩:=W.get1 (ξ O)
 refine ⟨_,af (aB (i:=2) nd rfl (Or.inl rfl) (az (r:=bW K) aI (ap (pv 0) rfl) (pv 1) (λ_ _=>rfl)))
  (af (gS PassesOwn.never rfl (bR rfl B.range (ac (pv 1) ag)) (cB (i:=3) nd rfl (Or.inl rfl))
   (af (aB (i:=4) nd rfl (Or.inl rfl) (az (r:=bW K) aI (ap (pv 0) rfl) (pv 3) (λ_ _=>rfl)))
   (ai (aH (PW.pt (dD (ay (vm cPa (hun hr)) (az (r:=bc K) aD (pv 4) aj (λ_ _=>rfl)) (az (r:=bc K) aD (pv 2) aj (λ_ _=>rfl)) (ax _)) pwn)) aE aA))))
  (ai (aw cj))),?_⟩
 refine ⟨_,ϱ,l,CL,Y,_,_,ϱ,Z,L.cl,L.nP,cb,_,ϱ,p,_,_,_,ϱ,ϱ,SqL.of hp,aV g,?_⟩
 refine ⟨_,ϱ,(k:Int),ϱ,(bnd ω).1,(bnd ω).2,?_⟩
 rw [Int.toNat_natCast]
 refine fy (n:=k) (λi σ H'=>Same H H'/\∃I J,σ=[some (.ref l),some (.int (k:Nat)),some uk,I,J]) ⟨Same.refl H,none,none,ϱ⟩ ?_ ?_
 ·rintro i σ H1 hi ⟨d,I,J,rfl⟩
  rw [Int.zero_add]
  obtain ⟨m,a4,o,u,y⟩:=ls.keep L.ne d
  have b:i<e.length:=by omega
  obtain ⟨ui,z,D⟩:=y.get1 (ξ b)
  obtain ⟨a1,p1,l1,rfl,t1,c1,o1⟩:=D
  obtain ⟨a2,p2,l2,rfl,t2,c2,o2⟩:=j.keep L.ne (d7 d)
  refine ⟨_,ϱ,l,CL,m,_,_,ϱ,o,L.cl,L.nP,cb,_,ϱ,p,_,_,_,ϱ,ϱ,SqL.of u,aV z,?_⟩
  refine ⟨_,ϱ,a1,_,_,_,ϱ,ϱ,t1.sq,ϱ,_,ϱ,a2,_,_,_,ϱ,ϱ,t2.sq,ϱ,e[i].1,e[k].1,c1,c2,_,ϱ,?_⟩
  rw [τ ((U _ (List.getElem_mem b)).trans (U _ (List.getElem_mem O)).symm)]
  exact aM (aM ⟨d,_,_,ϱ⟩)
 ·rintro σ H1 ⟨d,I,J,rfl⟩
  exact q H1 d
theorem vU(F:Fun K "held_pairs" "Locks.held_pairs" br f fd)(B:TxB mg)(L:TxL K C CL)(Z:GM P w K mg base CX0 3 CL "hinderer" ["self","place"] (sR C CL K)) :
  FnOk P w K mg base CX0 4 f fd ["self"] (zH C CL K (PrO C)):=by
 refine F.ok io (λvs H Q E h=>?_) (λW A u s H vs Q E X h=>?_)
 ·obtain ⟨l,p,D,rfl,_⟩:=h
  rfl
 obtain ⟨l,p,D,rfl,ls,U,un,q⟩:=h
 obtain ⟨j,vs,m,G,I⟩:=id ls
 have J:=I.len
 refine ⟨_,ai (aw (c6 gD rfl (bR rfl B.range (ac (aL be rfl B.len PySem.boot_len (ac (ap (pv 0) rfl) ag)) ag))
  (λ_ _ _ _=>fT (ay lT (pm Z (pv 1) L.cl X (ac (pv 0) ag)) cj (ax _))) (λ_ _ _ _=>az (r:=bW K) aI (pfK K 1) (pv 0) (λ_ _=>rfl)))),?_⟩
 refine ⟨_,ϱ,l,CL,j,_,_,ϱ,m,L.cl,L.nP,cb,p,_,ϱ,.inl (SqL.of G),(vs.length:Int),ϱ,(bnd ω).1,(bnd ω).2,?_⟩
 rw [Int.toNat_natCast]
 refine hU (n:=vs.length) (λi x Y=>Same H Y/\x=vs.take i) ⟨Same.refl H,ϱ⟩ (small ω) ?_ ?_
 ·rintro i x H1 O ⟨d,rfl⟩
  refine ⟨_,ϱ,l,j,_,ϱ,d _ _ m,hO θ,_,ϱ,l,p,D,i,ϱ,ls.keep L.ne d,ω,U,un,λH2 e=>⟨ϱ,_,ϱ,bU ?_⟩⟩
  have b:=d.trans e
  refine ⟨_,ϱ,l,CL,j,_,_,ϱ,b _ _ m,L.cl,L.nP,cb,_,ϱ,p,_,_,_,ϱ,ϱ,SqL.of (b _ _ G),aV (ξ O),b,?_⟩
  rw [List.take_succ,ξ O]
  rfl
 ·rintro x H1 ⟨d,rfl⟩ z y
  rw [List.take_length]
  have e:=d.trans (ah (o:=.lst vs) y)
  exact q z _ _ e ae (pp I λ_ _ g=>g.keep L.ne (d7 e))
theorem vv(F:Fun K "waiting_pairs" "Locks.waiting_pairs" ba f fd)(B:TxB mg)(L:TxL K C CL)(O:GM P w K mg base CX0 3 CL "hinderer" ["self","place"] (sR C CL K)):FnOk P w K mg base CX0 4 f fd ["self"] (zG C CL K):=by
 refine F.ok fL (λvs H Q E h=>?_) (λD A d s H vs Q E G h=>?_)
 ·obtain ⟨l,p,j,rfl,_⟩:=h
  rfl
 obtain ⟨l,p,j,rfl,ls,u,un,q⟩:=h
 obtain ⟨m,vs,o,x,y⟩:=id ls
 have r:=y.len
 refine ⟨_,ai (aw (c6 eX rfl (bR rfl B.range (ac (aL be rfl B.len PySem.boot_len (ac (ap (pv 0) rfl) ag)) ag))
  (λ_ _ _ _=>fT (ay kW (pm O (pv 1) L.cl G (ac (pv 0) ag)) cj (ax _))) (λ_ _ _ _=>fw))),?_⟩
 refine ⟨_,ϱ,l,CL,m,_,_,ϱ,o,L.cl,L.nP,cb,p,_,ϱ,.inl (SqL.of x),(vs.length:Int),ϱ,(bnd ω).1,(bnd ω).2,?_⟩
 rw [Int.toNat_natCast]
 refine hU (n:=vs.length) (λi e I=>Same H I/\e=[]) ⟨Same.refl H,ϱ⟩ (small ω) ?_ ?_
 ·rintro i e H1 W ⟨b,rfl⟩
  exact ⟨_,ϱ,l,m,_,ϱ,b _ _ o,hO θ,_,ϱ,l,p,j,i,ϱ,ls.keep L.ne b,ω,u,un,λU J=>⟨ϱ,_,ϱ,aM ⟨b.trans J,ϱ⟩⟩⟩
 ·rintro e H1 ⟨b,rfl⟩ z g
  exact q z _ (b.trans (ah g)) ae
theorem tf(F:Fun K "waiting_place" "Locks.waiting_place" bT f fd)(B:TxB mg)(L:TxL K C CL)(GH:GM P w K mg base CX0 3 CL "hinderer" ["self","place"] (sR C CL K)) :
  FnOk P w K mg base CX0 4 f fd ["self","p"] (zF C CL K):=by
 refine F.ok sc_Locks_waiting_place (λvs H Q E h=>?_) (λa5 A D s H vs Q E J h=>?_)
 ·obtain ⟨l,p,d,v,x,rfl,_⟩:=h
  rfl
 obtain ⟨l,p,d,v,x,rfl,ls,O,un,U,q⟩:=h
 have nd:=sc_Locks_waiting_place.nd
 obtain ⟨W,vs,X,Y,Z⟩:=id ls
 have I:=Z.len
 refine ⟨_,af (gS PassesOwn.never rfl (bR rfl B.range (ac (aL be rfl B.len PySem.boot_len (ac (ap (pv 0) rfl) ag)) ag)) (cB (i:=2) nd rfl (Or.inl rfl))
   (ai (aH (PW.pt (dD (ay (vq cPa (hun J)) (az (r:=bc K) aD (az (r:=bW K) aI (ap (pv 0) rfl) (pv 2) (λ_ _=>rfl)) aj (λ_ _=>rfl)) (pv 1) (ax _))
    (fR (ay kW (pm GH (pv 0) L.cl J (ac (pv 2) ag)) cj (ax _))))) aE aA)))
  (ai (aw cj)),?_⟩
 refine ⟨_,ϱ,l,CL,W,_,_,ϱ,X,L.cl,L.nP,cb,p,_,ϱ,.inl (SqL.of Y),(vs.length:Int),ϱ,(bnd ω).1,(bnd ω).2,?_⟩
 rw [Int.toNat_natCast]
 refine fy (n:=vs.length) (λi σ H'=>Same H H'/\∃G,σ=[some (.ref l),some v,G]) ⟨Same.refl H,none,ϱ⟩ ?_ ?_
 ·rintro i σ H1 hi ⟨b,G,rfl⟩
  rw [Int.zero_add]
  have j:=ls.keep L.ne b
  obtain ⟨e,a0,g,o,u⟩:=id j
  have m:i<d.length:=by omega
  obtain ⟨ui,y,z⟩:=u.get1 (ξ m)
  obtain ⟨a1,p1,l1,rfl,t1,c1,o1⟩:=z
  refine ⟨_,ϱ,l,CL,e,_,_,ϱ,g,L.cl,L.nP,cb,_,ϱ,p,_,_,_,ϱ,ϱ,SqL.of o,aV y,a1,_,_,_,ϱ,ϱ,t1.sq,ϱ,_,ϱ,d[i].1,x,c1,cPa.keep b.ts U,_,ϱ,?_⟩
  cases decide (d[i].1=x) with
  | true=>exact bU ⟨_,rfl,l,e,_,rfl,g,hO θ,_,rfl,l,p,d,i,rfl,j,m,O,un,λH2 s2=>⟨rfl,_,rfl,aM ⟨b.trans s2,_,rfl⟩⟩⟩
  | false=>exact aM (aM ⟨b,_,rfl⟩)
 ·rintro σ H1 ⟨b,G,rfl⟩
  exact q H1 b
theorem Am(F:Fun K "ask" "Locks.ask" df f fd)(B:TxB mg)(T:TxK K C)(L:TxL K C CL)(GC:∀k,GM P w K mg base CX0 2 (C k) "covers" ["self","other"] (iP C))(GH:GM P w K mg base CX0 3 CL "hinderer" ["self","place"] (sR C CL K))(GW:GM P w K mg base CX0 4 CL "waiting_place" ["self","p"] (zF C CL K)) :
  FnOk P w K mg base CX0 5 f fd ["self","p","lock"] (zJ C CL K):=by
 refine F.ok sc_Locks_ask (λvs H Q E h=>?_) (λc0 A aS s H vs Q E hr h=>?_)
 ·obtain ⟨l,p,b,v,x,u,k,rfl,_⟩:=h
  rfl
 obtain ⟨l,p,b,v,x,u,k,rfl,ls,hz,hx,hu,q⟩:=h
 have nd:=sc_Locks_ask.nd
 refine ⟨_,af (aH (ay kW (pm GW (pv 0) L.cl hr (ac (pv 1) ag)) cj (ax _)) aE aA)
  (af (aH (ci (aL (qk rfl) rfl B.any PyProof.Rows.boot_any (ac (c6 lF rfl (cH (ap (pv 0) rfl)) (λ_ _ _ _=>cX)
   (λ_ _ _ _=>fV (bn (sd K cPa (hun hr)) (az (r:=bc K) aD (pv 0) aj (λ_ _=>rfl)) (pv 1) (ax _)) (eE (PE.ex λkd:Kd=>pm (GC kd) (az (r:=bc K) aD (pv 0) aj (λ_ _=>rfl)) (T.cl kd) hr (ac (pv 2) ag))))) ag))) (ai (aw lR)) aA)
  (af (aQ (iw PySem.F.plainAttrs_list PySem.F.slot_list_append PySem.F.type_list_append ig (ap (pv 0) rfl) (ac (aF (ac (pv 1) (ac (pv 2) ag))) ag)))
  (ai (aw (bn lT (pm GH (pv 0) L.cl hr (ac (aG fW (aL be rfl B.len PySem.boot_len (ac (ap (pv 0) rfl) ag)) aj) ag)) cj (ax _)))))),?_⟩
 obtain ⟨dx,vs,hl,hp,pr⟩:=id ls
 have D:=pr.len
 rw [ν] at D
 refine ⟨_,ϱ,l,dx,_,ϱ,hl,hO θ,_,ϱ,l,p,_,v,x,ϱ,ls,by rw [ν];exact Nat.le_of_lt hz,⟨x,kX x b⟩,hx,λH1 s1=>⟨ϱ,_,ϱ,aM ?_⟩⟩
 have as:=s1 _ _ hl
 have Z:=s1 _ _ hp
 refine ⟨_,ϱ,l,CL,dx,_,_,ϱ,as,L.cl,L.nP,cb,p,ϱ,⟨_,SqL.of Z⟩,?_⟩
 refine d6 (xs:=vs) (λi ys H'=>Same H1 H'/\ys=((b.take i).map λy=>bQ y k).map V.bl) ⟨Same.refl _,ϱ⟩ (small ω) (λi ys H2 _ g=>SqL.of (g.1 _ _ Z)) ?_ ?_
 ·rintro i u0 ys H2 bb ⟨s2,rfl⟩
  obtain ⟨y0,ey,ry⟩:=pr.get bb
  rw [List.getElem?_map] at ey
  obtain ⟨y,ab,rfl⟩:=Option.map_eq_some_iff.mp ey
  have sx:=s1.trans s2
  obtain ⟨a,pu,lu,rfl,ta,cp,lo⟩:=ry.keep L.ne (d7 sx)
  obtain ⟨la,da,rfl,ha⟩:=id lo
  refine k9 ⟨_,ϱ,a,_,_,_,ϱ,ϱ,ta.sq,ϱ,_,ϱ,x,x,cp,cPa.keep sx.ts hx,_,ϱ,?_⟩
  rw [τ rfl]
  refine bU ⟨y.1,_,ϱ,a,_,_,_,ϱ,ϱ,ta.sq,ϱ,la,da,_,ϱ,ha,gs _ _ θ θ,_,ϱ,_,_,y,k,ϱ,lo,hu.keep L.ne (d7 sx),λU e=>⟨s2.trans e,?_⟩⟩
  rw [List.take_succ,ab,List.map_append,List.map_append]
  rfl
 ·rintro ys H2 ⟨s2,rfl⟩ y hy
  rw [show vs.length=b.length from D.symm,List.take_length]
  refine ⟨y,_,ϱ,SqL.of ae,_,ϱ,?_⟩
  have e:=s1.trans (s2.trans (ah (o:=.lst ((b.map λy=>bQ y k).map V.bl)) hy))
  generalize (upd H2 y (HO.lst ((b.map λy=>bQ y k).map V.bl)))=U at e ⊢
  rw [show (b.map λy=>bQ y k).any id=b.any λy=>bQ y k by rw [List.any_map];rfl]
  unfold mf at q
  cases ec:b.any λy=>bQ y k with
  | true =>
   rw [ec,if_pos rfl] at q
   exact bU (q U (ls.keep L.ne e) (Kp.of e))
  | false =>
   rw [ec,if_neg Bool.false_ne_true,List.map_append] at q
   have G:=e _ _ hl
   have d:=e _ _ hp
   refine aM ⟨_,ϱ,l,CL,dx,_,_,ϱ,G,L.cl,L.nP,cb,.inl ⟨ϱ,_,SqL.of d⟩,_,ϱ,_,ϱ,χ,λt ht=>?_⟩
   have np:p≠t:=aq d ht
   have aR:(upd U t (.tup [v,u])) p=some (.lst vs):=by rw [ao np];exact d
   refine ⟨p,vs,_,ϱ,ϱ,aR,d8 ω,?_⟩
   have I:Kp p U (upd (upd U t (.tup [v,u])) p (.lst (vs++[.ref t]))):=(Kp.of (ah ht)).trans bv
   have J:=(d7 e).trans (I.fs (CL:=CL) d)
   have j:LS C CL K (upd (upd U t (.tup [v,u])) p (.lst (vs++[.ref t]))) l p ((b.map λk=>((x,k):Pr))++[(x,k)]) :=
    ⟨dx,_,I l _ (i4 G d (by intro z;cases z)) G,ae,(pp pr λ_ _ g=>g.keep L.ne J).app (.cons ⟨t,v,u,ϱ,.inl (by rw [ao (Ne.symm np),ae]),cPa.keep J.ts hx,hu.keep L.ne J⟩ .nil)⟩
   have a0:=(Kp.of (p:=p) e).trans I
   generalize (upd (upd U t (.tup [v,u])) p (HO.lst (vs++[.ref t])))=H4 at j a0 ⊢
   obtain ⟨W,ak,X,Y,ar⟩:=id j
   have O:b.length+1=ak.length:=by have:=ar.len;rw [List.length_append,ν] at this;exact this
   refine ⟨_,ϱ,l,W,_,ϱ,X,hO θ,_,ϱ,l,CL,W,_,_,ϱ,X,L.cl,L.nP,cb,p,_,ϱ,.inl (SqL.of Y),_,_,ϱ,ϱ,?_⟩
   rw [← O]
   have ei:((b.length+1:Nat):Int)-1=(b.length:Nat):=by omega
   refine ⟨l,p,_,b.length,congrArg (λi=>[V.ref l,V.int i]) ei,j,by rw [List.length_append,ν];exact Nat.lt_succ_self _,by rw [List.length_append,ν];exact hz,⟨x,λy hy=>?_⟩,λH5 s5=>⟨ϱ,q H5 (j.keep L.ne s5) (a0.trans (Kp.of s5))⟩⟩
   rcases List.mem_append.mp hy with m | m
   ·exact kX x b y m
   ·rw [ϵ.mp m]
theorem yb(F:Fun K "free" "Locks.free" bo f fd)(L:TxL K C CL)(GP:GM P w K mg base CX0 4 CL "waiting_pairs" ["self"] (zG C CL K)) :
  FnOk P w K mg base CX0 5 f fd ["self","p"] (zI C CL K):=by
 refine F.ok sc_Locks_free (λvs H Q E h=>?_) (λbA A ar s H vs Q E hr h=>?_)
 ·obtain ⟨l,p,X,v,x,rfl,_⟩:=h
  rfl
 obtain ⟨l,p,X,v,x,rfl,ls,hz,hx,q⟩:=h
 have nd:=sc_Locks_free.nd
 refine ⟨_,af (aB (i:=2) nd rfl (Or.inl rfl) (pm0 GP (pv 0) L.cl hr))
  (af (aP (pv 0) (c6 kq rfl (cH (ap (pv 0) rfl)) (λ_ _ _ _=>fT (ay (r8 K cPa (hun hr)) (az (r:=bc K) aD (pv 0) aj (λ_ _=>rfl)) (pv 1) (ax _))) (λ_ _ _ _=>fw)) rfl)
  (af (aB (i:=3) nd rfl (Or.inr rfl) (c6 ko rfl (cH (pm0 GP (pv 0) L.cl hr)) (λ_ _ _ _=>cX) (λ_ _ _ _=>fw)))
  (ai (aw (c6 kn rfl (cH (pv 2)) (λ_ _ _ _=>fT (PW.pt (dD (ay (r8 K cPa (hun hr)) (az (r:=bc K) aD (pv 0) aj (λ_ _=>rfl)) (pv 1) (ax _)) pwn))) (λ_ _ _ _=>fw)))))),?_⟩
 obtain ⟨e,vs,hl,hp,pr⟩:=id ls
 have Y:=pr.len
 rw [ν] at Y
 refine ⟨_,ϱ,l,e,_,ϱ,hl,hO θ,l,p,_,ϱ,ls,by rw [ν];exact hz,⟨x,kX x X⟩,λw0 H1 s1 hw=>?_⟩
 have m:=s1 _ _ hl
 have Z:=s1 _ _ hp
 refine ⟨_,ϱ,l,CL,e,_,_,ϱ,m,L.cl,L.nP,cb,p,ϱ,⟨_,SqL.of Z⟩,?_⟩
 refine d6 (xs:=vs) (λi b H'=>Same H1 H'/\b=[]) ⟨Same.refl _,ϱ⟩ (small ω) (λi b j _ g=>SqL.of (g.1 _ _ Z)) ?_ ?_
 ·rintro i u b j hu ⟨I,rfl⟩
  obtain ⟨y0,ey,ry⟩:=pr.get hu
  rw [List.getElem?_map] at ey
  obtain ⟨y,ey,rfl⟩:=Option.map_eq_some_iff.mp ey
  obtain ⟨a,pu,lu,rfl,ta,cp,lo⟩:=ry.keep L.ne (d7 (s1.trans I))
  refine ⟨_,ϱ,a,_,_,_,ϱ,ϱ,ta.sq,ϱ,_,ϱ,x,x,cp,cPa.keep (s1.trans I).ts hx,_,ϱ,?_⟩
  rw [τ rfl]
  exact aM ⟨I,ϱ⟩
 rintro b j ⟨I,rfl⟩ d W
 have a0:=s1.trans I
 have np:l≠d:=aq (I _ _ m) W
 refine ⟨_,ϱ,l,CL,e,_,ϱ,(by rw [ao np];exact I _ _ m),L.cl,L.nP,(by show 1<1000;decide),?_⟩
 rw [Av]
 have a1:Kp l j (upd (upd j d (.lst [])) l (.ins CL e [("pairs",.ref d)])):=(Kp.of (ah W)).trans bv
 have D:(upd (upd j d (.lst [])) l (.ins CL e [("pairs",.ref d)])) l=some (.ins CL e [("pairs",.ref d)]):=ae
 have J:(upd (upd j d (.lst [])) l (.ins CL e [("pairs",.ref d)])) d=some (.lst []):=by rw [ao (Ne.symm np),ae]
 have ab:w0≠l:=λz=>by rw [z,m] at hw;cases hw
 have O:=a1 w0 _ ab (I _ _ hw)
 have G:=(Kp.of (p:=l) a0).trans a1
 have ak:H d=none:=a0.free W
 generalize (upd (upd j d (.lst [])) l (HO.ins CL e [("pairs",V.ref d)]))=H3 at D J O G ⊢
 refine ⟨_,ϱ,l,e,_,ϱ,D,hO θ,l,d,[],ϱ,⟨e,[],D,J,.nil⟩,(by show 0<=1000;decide),⟨x,λ_ h=>nomatch h⟩,λw1 H4 s4 a5=>⟨w1,ϱ,⟨_,SqL.of a5⟩,?_⟩⟩
 refine d6 (xs:=[]) (λi b H'=>Same H4 H'/\b=[]) ⟨Same.refl _,ϱ⟩ (ϖ _) (λi b j _ g=>SqL.of (g.1 _ _ a5)) (λi u b j hu=>by cases hu) ?_
 rintro b H5 ⟨s5,rfl⟩ st aR
 have a2:=s4.trans (s5.trans (ah (o:=.lst []) aR))
 refine ⟨_,ϱ,w0,ϱ,⟨_,SqL.of (a2 _ _ O)⟩,?_⟩
 refine d6 (xs:=[]) (λi b H'=>Same H3 H'/\b=[]) ⟨a2,ϱ⟩ (ϖ _) (λi b j _ g=>SqL.of (g.1 _ _ O)) (λi u b j hu=>by cases hu) ?_
 rintro b H7 ⟨s7,rfl⟩ z aS
 have U:=s7.trans (ah (o:=.lst []) aS)
 exact q z d e _ (U _ _ D) (U _ _ J) ak (G.trans (Kp.of U)) ae
theorem tm(F:Fun K "stands" "Locks.stands" b8 f fd)(B:TxB mg)(T:TxK K C)(L:TxL K C CL)(GP:GM P w K mg base CX0 4 CL "held_pairs" ["self"] (zH C CL K (PrO C)))(GB:∀k,GM P w K mg base CX0 2 (C k) "beside" ["self","other"] (iQ C)) :
  FnOk P w K mg base CX0 5 f fd ["self","p","lock"] (uF C CL K):=by
 refine F.ok ki (λvs H Q E h=>?_) (λab A o s H vs Q E D h=>?_)
 ·obtain ⟨l,p,b,v,z,x,u,k,rfl,_⟩:=h
  rfl
 obtain ⟨l,p,b,v,z,x,u,k,rfl,ls,Y,Z,nx,hu,q⟩:=h
 refine ⟨_,ai (aw (aL (j9 rfl) rfl B.all PyProof.Rows.boot_all (ac (c6 iU rfl (cH (pm0 GP (pv 0) L.cl D)) (λ_ _ _ _=>cX)
  (λ_ _ _ _=>vb (bn (sd K cPa (hun D)) (az (r:=bc K) aD (pv 0) aj (λ_ _=>rfl)) (pv 1) (ax _)) (eE (PE.ex λkd:Kd=>pm (GB kd) (az (r:=bc K) aD (pv 0) aj (λ_ _=>rfl)) (T.cl kd) D (ac (pv 2) ag))))) ag))),?_⟩
 obtain ⟨dx,vs,hl,hp,pr⟩:=id ls
 refine ⟨_,ϱ,l,dx,_,ϱ,hl,hO θ,l,p,_,ϱ,ls,by rw [ν];exact Y,⟨x,kX x b⟩,λw1 H1 us O U W=>⟨w1,ϱ,⟨_,SqL.of U⟩,?_⟩⟩
 have d:=W.len
 rw [ν] at d
 refine d6 (xs:=us) (λi j H'=>Same H1 H'/\j=((b.take i).map λy=>aY y k).map V.bl) ⟨Same.refl _,ϱ⟩ (small ω) (λi j X _ g=>SqL.of (g.1 _ _ U)) ?_ ?_
 ·rintro i u0 j X G ⟨e,rfl⟩
  obtain ⟨y0,I,ry⟩:=W.get G
  rw [List.getElem?_map] at I
  obtain ⟨y,m,rfl⟩:=Option.map_eq_some_iff.mp I
  obtain ⟨a,pu,lu,rfl,ta,cp,lo⟩:=ry.keep L.ne (d7 e)
  obtain ⟨la,da,rfl,ha⟩:=id lo
  have J:=O.trans e
  refine k9 ⟨_,ϱ,a,_,_,_,ϱ,ϱ,ta.sq,ϱ,_,ϱ,x,z,cp,cPa.keep J.ts Z,_,ϱ,?_⟩
  rw [Γ nx]
  refine aM ⟨y.1,_,ϱ,a,_,_,_,ϱ,ϱ,ta.sq,ϱ,la,da,_,ϱ,ha,gs _ _ θ θ,_,ϱ,_,_,y,k,ϱ,lo,hu.keep L.ne (d7 J),λH3 s3=>⟨e.trans s3,?_⟩⟩
  rw [List.take_succ,m,List.map_append,List.map_append]
  rfl
 ·rintro j X ⟨e,rfl⟩ y hy
  rw [← d,List.take_length]
  refine ⟨y,_,ϱ,SqL.of ae,?_⟩
  rw [show (b.map λy=>aY y k).all id=b.all λy=>aY y k by rw [List.all_map];rfl]
  exact q _ (O.trans (e.trans (ah hy)))
structure Wt where
 (i:Int)(wd:Bool)(b r:Addr)
structure Sx where
 (cells:List Int)(wk:Bool)(en:Option Str)(ws:List Wt)
def dOf(p:Pa):Option Addr->List (List Key×V)
 | none=>[]
 | some a=>[(pk p,.ref a)]
theorem fH(p:Pa)(x:Option Addr):bE (dOf p x) (pk p)=x.map V.ref:=by
 cases x with
 | none=>rfl
 | some a=>exact bH rfl
def dWk(p:Pa):Bool->List (List Key×V)
 | true=>[(pk p,.bl true)]
 | false=>[]
theorem rW(k:List Key)(v:V):bx [] k v=[(k,v)]:=pL _ rfl
theorem xw(p:Pa)(b:Bool):bx (dWk p b) (pk p) (.bl true)=dWk p true:=by
 cases b with
 | false=>exact rW _ _
 | true=>exact zU [p] p |>.trans (by unfold A2;rw [if_pos List.mem_cons_self];rfl)
def dEn(p:Pa)(o:Option Str):List (List Key×V):=dE (o.toList.map λs=>(p,s))
def nes(z:Pa)(ws:List Wt):List eO:=ws.map λt=>((z,t.i),t.b,t.r)
def iB(ws:List Wt)(i:Int):Option Wt:=ws.find? λt=>decide (t.i=i)
def iz(ws:List Wt)(t:Wt):List Wt:=if (iB ws t.i).isSome=true then ws.map (λx=>if x.i=t.i then ⟨x.i,t.wd,x.b,t.r⟩ else x) else ws++[t]
def wst(ws:List Wt)(i:Int):Option Bool:=(iB ws i).map Wt.wd
theorem sg(z:Pa)(d:List Wt)(i:Int):kt (nes z d) (z,i)=(iB d i).map Wt.r:=by
 unfold kt nes iB
 rw [List.find?_map,Option.map_map]
 have e:((λx:eO=>decide (x.1=((z,i):fF)))∘λt:Wt=>(((z,t.i),t.b,t.r):eO))=λt=>decide (t.i=i):=by
  funext t
  simp
 rw [e]
 rfl
theorem se(z:Pa)(d:List Wt)(t:Wt):pS (nes z d) (z,t.i) t.b t.r=nes z (iz d t):=by
 unfold pS iz
 rw [sg,Option.isSome_map]
 split
 ·unfold nes
  rw [List.map_map,List.map_map]
  refine List.map_congr_left λx _=>?_
  by_cases h:x.i=t.i
  ·simp [h]
  ·simp [h]
 ·unfold nes
  rw [List.map_append]
  rfl
theorem kJ(d:List Wt)(t:Wt)(j:Int):wst (iz d t) j=if j=t.i then some t.wd else wst d j:=by
 unfold iz
 split
 ·next h =>
  unfold wst iB
  rw [List.find?_map,Option.map_map]
  have e:((λx:Wt=>decide (x.i=j))∘λx:Wt=>if x.i=t.i then (⟨x.i,t.wd,x.b,t.r⟩:Wt) else x)=λx=>decide (x.i=j):=by
   funext x
   show decide ((if x.i=t.i then (⟨x.i,t.wd,x.b,t.r⟩:Wt) else x).i=j)=_
   split<;>rfl
  rw [e]
  by_cases ej:j=t.i
  ·subst ej
   rw [if_pos rfl]
   unfold iB at h
   cases f:d.find? λx=>decide (x.i=t.i) with
   | none=>rw [f] at h;cases h
   | some x =>
    have:=List.find?_some f
    simp only [decide_eq_true_eq] at this
    show some (if x.i=t.i then (⟨x.i,t.wd,x.b,t.r⟩:Wt) else x).wd=_
    rw [if_pos this]
  ·rw [if_neg ej]
   cases f:d.find? λx=>decide (x.i=j) with
   | none=>rfl
   | some x =>
    have:=List.find?_some f
    simp only [decide_eq_true_eq] at this
    show some (if x.i=t.i then (⟨x.i,t.wd,x.b,t.r⟩:Wt) else x).wd=_
    rw [if_neg (by rw [this];exact ej)]
    rfl
 ·next h =>
  unfold wst iB
  rw [List.find?_append]
  by_cases ej:j=t.i
  ·subst ej
   unfold iB at h
   cases f:d.find? λx=>decide (x.i=t.i) with
   | some x=>rw [f] at h;exact absurd rfl h
   | none=>rw [if_pos rfl,Option.none_or,List.find?_cons,τ rfl];rfl
  ·rw [if_neg ej,List.find?_cons,Γ (λz=>ej z.symm)]
   show Option.map Wt.wd ((d.find? _).or none)=_
   rw [Option.or_none]
theorem pC(b:List Wt)(t:Wt):(iz b t).length<=b.length+1:=by
 unfold iz
 split<;>simp
def stL(p z:Pa)(A:Ad)(d:Sx):Cs:=[(A.cl,.lst (d.cells.map V.int)),(A.wk,.dT (dWk p d.wk)),(A.rd,.dT []),(A.en,.dT (dEn p d.en)),(A.wa,NDt A.wa (nes z d.ws))]
def PaA(H:Hp)(p:Pa)(a:Addr):Prop:=H a=some (.tup [.int p.1,.int p.2])
def ChT(K:Frag)(H:Hp)(ch:List Pa)(v:V):Prop:=∃d us,v=.ref d/\(H d=some (.tup us)\/∃o,H d=some (.frz o (.tup us)))/\Paired (sPa K H) ch us
theorem ChT.keep{H b:Hp}{ch:List Pa}{v:V}(e:ImS CH CL H b)(h:ChT K H ch v):ChT K b ch v:=by
 obtain ⟨d,f,rfl,h1,g⟩:=h
 exact ⟨d,f,ϱ,h1.imp (λz=>e _ _ z ϰ) (λ⟨o,z⟩=>⟨o,e _ _ z ϰ⟩),Paired.mapP g λ_ _ z=>z.keep e.ts⟩
def B4(H:Hp)(t:Wt):Prop:=∃w us,H t.r=some (.tup (.str w::us))/\decide (w=("walked":Str))=t.wd
structure Si(CS:Addr)(K:Frag)(H:Hp)(p z:Pa)(A:Ad)(d:Sx):Prop where
 ins:H A.l=some (.ins CS A.dx (sf A))
 ok:NOk H (nes z d.ws)
 wt:∀t∈d.ws,B4 H t
structure Sa(CS:Addr)(K:Frag)(H:Hp)(p z:Pa)(A:Ad)(d:Sx):Prop extends Si CS K H p z A d where
 co:∀x∈stL p z A d,H x.1=some x.2
theorem yO(A:Ad):sf A≠[]:=λz=>by
 have:=rQ A
 rw [z] at this
 cases this
section
variable {N:List Addr}{H0 H H':Hp}{L R:Cs}{p z:Pa}{A:Ad}{d:Sx}{x y u:Addr×HO}
theorem Si.im(h:Si CS K H p z A d)(t:∀b o,H b=some o->Im CH CL o->H' b=some o)(c:CS≠CH/\CS≠CL):Si CS K H' p z A d :=
 ⟨t _ _ h.ins ⟨yO A,c⟩,h.ok.keep λb xs e=>t b _ e ϰ,λx hx=>let ⟨w,us,h1,h2⟩:=h.wt x hx;⟨w,us,t _ _ h1 ϰ,h2⟩⟩
theorem Si.keep(h:Si CS K H p z A d)(e:Same H H'):Si CS K H' p z A d:=⟨e _ _ h.ins,h.ok.keep e.ts,λx hx=>let ⟨w,us,h1,h2⟩:=h.wt x hx;⟨w,us,e _ _ h1,h2⟩⟩
theorem Sa.keep(h:Sa CS K H p z A d)(e:Same H H'):Sa CS K H' p z A d:=⟨h.toSi.keep e,λx hx=>e _ _ (h.co x hx)⟩
theorem Sa.cl(h:Sa CS K H p z A d):H A.cl=some (.lst (d.cells.map V.int)):=h.co _ j0
theorem Sa.rdd(h:Sa CS K H p z A d):H A.rd=some (.dT []):=h.co _ j2
theorem Sa.en(h:Sa CS K H p z A d):H A.en=some (.dT (dEn p d.en)):=h.co _ j3
theorem Sa.wa(h:Sa CS K H p z A d):H A.wa=some (NDt A.wa (nes z d.ws)):=h.co _ j4
theorem yU(g:Ow CH CL N H0 H (x::y::u::(stL p z A d++R)))(i:Si CS K H p z A d):Sa CS K H p z A d:=⟨i,λu hu=>g.co u (.tail _ (.tail _ (.tail _ (List.mem_append_left _ hu))))⟩
theorem z7(g:Ow CH CL N H0 H (stL p z A d++R))(i:Si CS K H p z A d):Sa CS K H p z A d:=⟨i,λu hu=>g.co u (List.mem_append_left _ hu)⟩
end
inductive Rx where
 | work | fin (o:Str) | wlk (w:Str) (i:Int) (us:List V) (ch:List Pa)
def RxAt(K:Frag)(H:Hp)(p z:Pa)(r:Addr):Rx->Prop
 | .work=>∃pa,H r=some (.tup [.str "work",.ref pa])/\PaA H p pa
 | .fin o=>∃pa e,H r=some (.tup [.str "end",.ref pa,.str o,e])/\PaA H p pa/\decide (o=("done":Str))=false
 | .wlk w i us ch=>∃za,H r=some (.tup (.str w::.ref za::.int i::us))/\PaA H z za/\((w="walked"\/w="undone")/\(∃cv us',us=cv::us'/\ChT K H ch cv)\/w="void"/\ch=[])
theorem RxAt.keep{H j:Hp}{p z:Pa}{r:Addr}{w:Rx}(e:ImS CH CL H j)(h:RxAt K H p z r w):RxAt K j p z r w:=by
 cases w with
 | work=>obtain ⟨d,h1,b⟩:=h;exact ⟨d,e _ _ h1 ϰ,e _ _ b ϰ⟩
 | fin o=>obtain ⟨d,v,h1,b,f⟩:=h;exact ⟨d,v,e _ _ h1 ϰ,e _ _ b ϰ,f⟩
 | wlk w i us ch =>
  obtain ⟨l,h1,b,f⟩:=h
  exact ⟨l,e _ _ h1 ϰ,e _ _ b ϰ,f.imp (λ⟨k,m,g,q,u⟩=>⟨k,m,g,q,u.keep e⟩) id⟩
def Rx.chs:Rx->List Pa
 | .wlk _ _ _ ch=>ch
 | _=>[]
def Sx.kp(d:Sx)(r b:Addr):Rx->Sx
 | .work=>⟨d.cells,true,d.en,d.ws⟩
 | .fin o=>⟨d.cells,d.wk,some o,d.ws⟩
 | .wlk w i _ ch=>⟨apply d.cells ch,d.wk,d.en,iz d.ws ⟨i,decide (w=("walked":Str)),b,r⟩⟩
def Sx.fits(d:Sx)(w:Rx):Prop:=(∀c∈w.chs,0<=c.1/\c.1<d.cells.length)/\(∀o,w=.fin o->d.en=none)/\d.ws.length<=900
def NwAt(K:Frag)(H:Hp)(es:List (Pa×Str))(v:V):Prop:=∃t ys,v=.ref t/\H t=some (.tup ys)/\Paired (sPS K H) es ys
theorem NwAt.keep{H b:Hp}{es:List (Pa×Str)}{v:V}(e:TSame H b)(h:NwAt K H es v):NwAt K b es v:=by
 obtain ⟨t,d,rfl,h1,f⟩:=h
 exact ⟨t,d,ϱ,e _ _ h1,Paired.mapP f λ_ _ z=>z.keep e⟩
def enl(p:Pa)(d:Sx):List (Pa×Str):=d.en.toList.map λs=>(p,s)
section
variable (CS CH CL:Addr)(K:Frag)
inductive ol (vs:List V) (H:Hp) (Q:VK) (E:XK):Prop|mk l dx c cs:vs=[.ref l,.ref c]->H l=some (.ins CS dx [])->H c=some (.lst ((cs:List Int).map V.int))->(∀A H',A.l=l->H' l=some (.ins CS A.dx (sf A))->(∀p z,Ow CH CL [l] H H' (stL p z A ⟨cs,false,none,[]⟩))->Q .non H')->ol vs H Q E
inductive uN (vs:List V) (H:Hp) (Q:VK) (E:XK):Prop|mk p z A d r w:vs=[.ref A.l,.ref r]->Sa CS K H p z A d->RxAt K H p z r w->(∀v H',Same H H'->ChT K H' w.chs v->Q v H')->uN vs H Q E
inductive qF (vs:List V) (H:Hp) (Q:VK) (E:XK):Prop|mk p z A d r w x y u R:vs=[.ref A.l,.ref r]->Ow CH CL (ad (x::y::u::(stL p z A d++R))) H H (x::y::u::(stL p z A d++R))->Si CS K H p z A d->RxAt K H p z r w->d.fits w->(∀b H',Ow CH CL (ad (x::y::u::(stL p z A d++R))) H H' (x::y::u::(stL p z A (d.kp r b w)++R))->Si CS K H' p z A (d.kp r b w)->Q .non H')->qF vs H Q E
inductive eg (vs:List V) (H:Hp) (Q:VK) (E:XK):Prop|mk A j c:∀(cs:List Int),vs=[.ref A.l,.int (j:Nat)]->H A.l=some (.ins CS A.dx (sf A))->H A.cl=some (.lst (cs.map V.int))->cs[j]?=some c->Q (.int c) H->eg vs H Q E
inductive ou (vs:List V) (H:Hp) (Q:VK) (E:XK):Prop|mk p z A d:vs=[.ref A.l]->Sa CS K H p z A d->(∀q H',Same H H'->H q=none->H' q=some (.lst (d.cells.map V.int))->Q (.ref q) H')->ou vs H Q E
inductive om (vs:List V) (H:Hp) (Q:VK) (E:XK):Prop|mk p z A d:vs=[.ref A.l]->Sa CS K H p z A d->(∀v H',Same H H'->NwAt K H' (enl p d) v->Q v H')->om vs H Q E
inductive kQ (vs:List V) (H:Hp) (Q:VK) (E:XK):Prop|mk p z A d:vs=[.ref A.l]->Sa CS K H p z A d->(∀l H',Same H H'->H l=none->H' l=some (.lst [])->Q (.ref l) H')->kQ vs H Q E
inductive qC (vs:List V) (H:Hp) (Q:VK) (E:XK):Prop|mk p z A d za:vs=[.ref A.l,.ref za]->Sa CS K H p z A d->PaA H z za->pk z≠pk p->Q .non H->qC vs H Q E
inductive rN (vs:List V) (H:Hp) (Q:VK) (E:XK):Prop|mk p z A d za i:vs=[.ref A.l,.ref za,.int i]->Sa CS K H p z A d->PaA H z za->(∀H',Same H H'->Q (ov ((iB d.ws i).map Wt.r)) H')->rN vs H Q E
end
theorem sq{t u:TS}{D:Ends}{σ:L2.St}{H:Hp}(h:∀nx,(∀σ H,u D σ H->nx σ H)->t {D with nx:=nx} σ H):Bf t u D σ H:=h _ λ_ _ z=>z
theorem eC{X:Cx}{st:List Stmt}{t u:TS}(h:PSs X st t)(hw:∀D σ H,u D σ H->t D σ H):PSs X st u:=pM u h hw
def Ca:TT:=λ_ _ _=>False
theorem ptn{X:Cx}{e:Expr}:PT X e Ca:=λ_ _ _ _ _ _ h=>h.elim
theorem tj(F:Fun K "__init__" "Stand.__init__" f9 f fd)(B:TxB mg)(D:TxD K CS):FnOk P w K mg base CX0 1 f fd ["self","cells"] (ol CS CH CL):=by
 refine F.ok mt (λvs H Q E h=>?_) (λa0 A i s H vs Q E hr h=>?_)
 ·obtain ⟨l,b,c,cs,rfl,_⟩:=h
  rfl
 obtain ⟨l,b,c,cs,rfl,o,r,q⟩:=h
 refine ⟨_,af (aP (pv 0) (bp gm rfl B.list PyProof.Rows.boot_list (ac (pv 1) ag)) rfl)
  (af (aP (pv 0) (ck ag) rfl) (af (aP (pv 0) eF rfl) (af (aP (pv 0) eF rfl) (af (aP (pv 0) eF rfl) (af (aP (pv 0) ve rfl) (ai (aP (pv 0) eF rfl))))))),?_⟩
 have g0:Ow CH CL [l] H H [(l,.ins CS b [])]:=.mk0 (L:=[(l,.ins CS b [])]) (λx j=>by rw [List.mem_singleton.mp j];exact o) (by simp [ad]) (λx j=>by rw [List.mem_singleton.mp j];exact λz=>z.1 rfl)
 refine ⟨_,ϱ,c,_,ϱ,.inl (SqL.of r),λcl n1=>?_⟩
 obtain ⟨u,g1⟩:=g0.fld n1 (.lst (cs.map V.int)) (au "cells" (.ref cl) [])
 refine ⟨_,ϱ,l,CS,b,_,ϱ,u,D.cl,D.nc,(by show 0<1000;decide),χ,λd n2=>?_⟩
 obtain ⟨y,C⟩:=g1.fld n2 (.lst []) (au "begins" (.ref d) (au "cells" (.ref cl) []))
 refine ⟨_,ϱ,l,CS,b,_,ϱ,y,D.cl,D.nb,(bh (n:=999) (by show 0<999;decide)),λe n3=>?_⟩
 obtain ⟨G,I⟩:=C.fld n3 (.dT []) (au "worked" (.ref e) (au "begins" (.ref d) (au "cells" (.ref cl) [])))
 refine ⟨_,ϱ,l,CS,b,_,ϱ,G,D.cl,D.nw,(bh (n:=999) (bh (n:=998) (by show 0<998;decide))),λg n4=>?_⟩
 obtain ⟨J,O⟩:=I.fld n4 (.dT []) (au "readies" (.ref g) (au "worked" (.ref e) (au "begins" (.ref d) (au "cells" (.ref cl) []))))
 refine ⟨_,ϱ,l,CS,b,_,ϱ,J,D.cl,D.nr,(bh (n:=999) (bh (n:=998) (bh (n:=997) (by show 0<997;decide)))),λen n5=>?_⟩
 obtain ⟨U,W⟩:=O.fld n5 (.dT []) (au "ends" (.ref en) (au "readies" (.ref g) (au "worked" (.ref e) (au "begins" (.ref d) (au "cells" (.ref cl) [])))))
 refine ⟨_,ϱ,l,CS,b,_,ϱ,U,D.cl,D.ne,(bh (n:=999) (bh (n:=998) (bh (n:=997) (bh (n:=996) (by show 0<996;decide))))),λwa n6=>?_⟩
 obtain ⟨X,Y⟩:=W.fld n6 (NDt wa []) (au "walks" (.ref wa) (au "ends" (.ref en) (au "readies" (.ref g) (au "worked" (.ref e) (au "begins" (.ref d) (au "cells" (.ref cl) []))))))
 refine ⟨_,ϱ,l,CS,b,_,ϱ,X,D.cl,D.na,(bh (n:=999) (bh (n:=998) (bh (n:=997) (bh (n:=996) (bh (n:=995) (by show 0<995;decide)))))),λov n7=>?_⟩
 obtain ⟨Z,m⟩:=Y.fld n7 (.dT []) (sf ⟨l,b,cl,d,e,g,en,wa,ov⟩)
 refine ⟨_,ϱ,l,CS,b,_,ϱ,Z,D.cl,D.no,(bh (n:=999) (bh (n:=998) (bh (n:=997) (bh (n:=996) (bh (n:=995) (bh (n:=994) (by show 0<994;decide))))))),?_⟩
 exact q ⟨l,b,cl,d,e,g,en,wa,ov⟩ _ rfl (m.co _ (.head _)) λp z=>m.sub (.cons _ (.cons₂ _ (.cons _ (.cons₂ _ (.cons₂ _ (.cons₂ _ (.cons₂ _ (.cons _ .slnil))))))))
theorem cI{a b:Str}(h:decide (a=b)=false):decide (V.str a=V.str b)=false:=Γ λz=>of_decide_eq_false h (V.str.inj z)
theorem Al(F:Fun K "changes_of" "Stand.changes_of" cE f fd)(D:TxD K CS):FnOk P w K mg base CX0 1 f fd ["self","row"] (uN CS K):=by
 refine F.ok ij (λvs H Q E h=>?_) (λJ A G s H vs Q E Y h=>?_)
 ·obtain ⟨p,z,A,d,r,w,rfl,_⟩:=h
  rfl
 obtain ⟨p,z,S,d,r,w,rfl,W,y,q⟩:=h
 refine ⟨_,af (aH (PW.pt (dD (ay bw (az (r:=bc K) aD (pv 1) aj (λ_ _=>rfl)) aC (ax _)) (dD (ay bw (az (r:=bc K) aD (pv 1) aj (λ_ _=>rfl)) aC (ax _)) pwn))) aE aA)
  (af (aH (PW.pt (pK (ay bw (az (r:=bc K) aD (pv 1) aj (λ_ _=>rfl)) aC (ax _)) (lJ (ay bw (az (r:=bc K) aD (pv 1) aj (λ_ _=>rfl)) aC (ax _))))) (ai (aw (az (r:=bc K) aD (pv 1) aj (λ_ _=>rfl)))) aA)
  (ai (aw (aF ag)))),?_⟩
 obtain ⟨wd,us,hrow,h1,h2⟩:∃wd us,H r=some (.tup (.str wd::us))/\(wd="end"->∃u e o,us=[u,.str o,e]/\decide (o=("done":Str))=false) /\
   ((wd="walked"\/wd="undone")/\(∃a b m g,us=a::b::m::g/\ChT K H w.chs m)\/decide (wd=("walked":Str))=false/\decide (wd=("undone":Str))=false/\w.chs=[]):=by
  cases w with
  | work=>obtain ⟨u,h,_⟩:=y;exact ⟨_,_,h,(λz=>absurd z θ),.inr ⟨θ,θ,rfl⟩⟩
  | fin o=>obtain ⟨u,e,h,_,C⟩:=y;exact ⟨_,_,h,(λ_=>⟨_,_,_,rfl,C⟩),.inr ⟨θ,θ,rfl⟩⟩
  | wlk w i us ch =>
   obtain ⟨X,h,_,⟨k,m,g,rfl,x⟩ | ⟨rfl,e⟩⟩:=y
   ·exact ⟨_,_,h,(λz=>absurd z (by rcases k with rfl | rfl<;>decide +kernel)),.inl ⟨k,_,_,m,g,rfl,x⟩⟩
   ·exact ⟨_,_,h,(λz=>absurd z θ),.inr ⟨θ,θ,e⟩⟩
 refine sq λL O=>?_
 have I:L [some (.ref S.l),some (.ref r)] H:=by
  refine O _ _ ⟨_,ϱ,r,_,_,_,ϱ,ϱ,SqT.of hrow,at0,ϱ,_,ϱ,?_⟩
  rcases h2 with ⟨k,a,b,m,g,rfl,x⟩ | ⟨n1,n2,e⟩
  ·rcases k with rfl | rfl
   ·exact bF (λ_=>bU ⟨_,ϱ,r,_,_,_,ϱ,ϱ,SqT.of hrow,aV (j:=3) rfl,q m H (Same.refl H) x⟩) (λc=>absurd (τ rfl) c)
   ·rw [cI θ]
    exact aM ⟨_,ϱ,r,_,_,_,ϱ,ϱ,SqT.of hrow,at0,ϱ,_,ϱ,bF (λ_=>⟨_,ϱ,r,_,_,_,ϱ,ϱ,SqT.of hrow,aV (j:=3) rfl,q m H (Same.refl H) x⟩) (λc=>absurd (τ rfl) c)⟩
  ·rw [cI n1]
   refine aM ⟨_,ϱ,r,_,_,_,ϱ,ϱ,SqT.of hrow,at0,ϱ,_,ϱ,?_⟩
   rw [cI n2]
   exact aM ⟨χ,λt U=>q _ _ (ah U) (by rw [e];exact ⟨t,[],ϱ,.inl ae,.nil⟩)⟩
 refine ⟨_,ϱ,r,_,_,_,ϱ,ϱ,SqT.of hrow,at0,ϱ,_,ϱ,bF (λc=>?_) (λ_=>aM I)⟩
 obtain ⟨u,e,o,rfl,C⟩:=h1 (V.str.inj (Ξ c))
 refine ⟨_,ϱ,r,_,_,_,ϱ,ϱ,SqT.of hrow,at2,ϱ,_,ϱ,?_⟩
 rw [cI C]
 exact aM (aM I)
theorem xW(F:Fun K "keep" "Stand.keep" f8 f fd)(D:TxD K CS)(hc:CS≠CH/\CS≠CL)(GC:GM P w K mg base CX0 1 CS "changes_of" ["self","row"] (uN CS K)):FnOk P w K mg base CX0 2 f fd ["self","row"] (qF CS CH CL K):=by
 refine F.ok sc_Stand_keep (λvs H Q E h=>?_) (λcg A bm s H vs Q E hr h=>?_)
 ·obtain ⟨p,z,A,d,r,w,x,y,u,R,rfl,_⟩:=h
  rfl
 obtain ⟨p,z,S,d,r,w,x,y,u,R,rfl,g,si,hx,⟨a2,a3,a4⟩,q⟩:=h
 have nd:=sc_Stand_keep.nd
 refine ⟨_,af (gS PassesOwn.never rfl (zW (pm GC (pv 0) D.cl hr (ac (pv 1) ag))) (cB (i:=2) nd rfl (Or.inl rfl)) (ai (qQ (az (r:=bc K) aD (pv 2) aj (λ_ _=>rfl)) (va (ap (pv 0) rfl) (az (r:=bc K) aD (pv 2) aj (λ_ _=>rfl)) pG))))
  (af (aB (i:=3) nd rfl (Or.inl rfl) (az (r:=bc K) aD (pv 1) aj (λ_ _=>rfl)))
  (ai (aH (ay bw (az (r:=bc K) aD (pv 1) aj (λ_ _=>rfl)) aC (ax _)) aE
  (ai (aH (ay bw (az (r:=bc K) aD (pv 1) aj (λ_ _=>rfl)) aC (ax _)) (ai (hZ (cM hr) (ap (pv 0) rfl) (pv 3) lR rfl))
  (ai (aH (ay bw (az (r:=bc K) aD (pv 1) aj (λ_ _=>rfl)) aC (ax _)) aE
  (ai (aH (ay bw (az (r:=bc K) aD (pv 1) aj (λ_ _=>rfl)) aC (ax _)) (ai (aQ (rX (cM hr) (ap (pv 0) rfl) (pv 3) (az (r:=bc K) aD (pv 1) aj (λ_ _=>rfl)) ⟨ϱ,ϱ,ϱ,ϱ⟩)))
  (ai (aH (ay bw (az (r:=bc K) aD (pv 1) aj (λ_ _=>rfl)) aC (ax _)) aE (ai (xx (hun hr) (ap (pv 0) rfl) (aF (ac (pv 3) (ac (az (r:=bc K) aD (pv 1) aj (λ_ _=>rfl)) ag))) (pv 1) rfl))))))))))))),?_⟩
 refine sq λnA kA=>⟨_,ϱ,S.l,S.dx,_,ϱ,si.ins,fq θ,_,ϱ,p,z,S,d,r,w,ϱ,yU g si,hx,λv H1 s1 bt=>?_⟩
 obtain ⟨dc,a5,rfl,bb,a6⟩:=bt
 have a8:∀{H'},ImS CH CL H1 H'->SqT K H' dc a5:=λe=>bb.elim (λz=>SqT.of (e _ _ z ϰ)) λ⟨o,z⟩=>.inl (.inr ⟨o,e _ _ z ϰ⟩)
 refine ⟨dc,ϱ,⟨_,a8 (cD (Same.refl _))⟩,?_⟩
 have ab:=a6.len
 have g1:=g.same s1
 refine yx (xs:=a5) (λi σ H'=>∃x2 x3,σ=[some (.ref S.l),some (.ref r),x2,x3]/\Ow CH CL (ad (x::y::u::(stL p z S d++R))) H H' (x::y::u::(stL p z S ⟨apply d.cells (w.chs.take i),d.wk,d.en,d.ws⟩++R))/\ImS CH CL H1 H') ⟨none,none,ϱ,g1,cD (Same.refl _)⟩
  (λi σ H' _ q=>by obtain ⟨_,_,_,_,k⟩:=q;exact a8 k) ?_ ?_
 ·rintro i u0 σ J hu ⟨x2,x3,rfl,I,t2⟩
  obtain ⟨c,ec,rc⟩:=a6.get hu
  obtain ⟨ca,rfl,a7⟩:=rc.keep t2.ts
  obtain ⟨f1,f2⟩:=a2 c (List.mem_of_getElem? ec)
  have bg:((apply d.cells (w.chs.take i)).map V.int).length=d.cells.length:=by rw [ν,jQ]
  refine ⟨_,ϱ,ca,_,_,_,ϱ,ϱ,SqT.of a7,ϱ,_,ϱ,S.l,CS,S.dx,_,_,ϱ,(si.im I.im hc).ins,D.cl,D.nc,rQ S,_,ϱ,ca,_,_,_,ϱ,ϱ,SqT.of a7,ϱ,S.cl,_,c.1,c.1.toNat,ϱ,ϱ,I.co _ j3,?_,?_⟩
  ·rw [bg]
   exact wn f1 f2
  ·have e:w.chs.take (i+1)=w.chs.take i++[c]:=by rw [List.take_succ,ec];rfl
   have e3:((apply d.cells (w.chs.take i)).map V.int).set c.1.toNat (.int c.2)=(apply d.cells (w.chs.take (i+1))).map V.int:=by rw [e,rD,List.map_set]
   rw [e3]
   have g3:=I.up 3 (.lst ((apply d.cells (w.chs.take (i+1))).map V.int)) rfl
   have e4:J S.cl=some (.lst _):=I.co _ j3
   exact ⟨_,_,ϱ,g3,t2.trans (cL bv e4 id)⟩
 ·rintro σ J ⟨x2,x3,rfl,I,t2⟩
  rw [← ab,List.take_length] at I
  have C:=si.im I.im hc
  have X:=hx.keep I.im
  refine kA _ _ (sq λnB kB=>?_)
  cases w with
  | work =>
   obtain ⟨pa,j,W⟩:=X
   refine ⟨_,ϱ,r,_,_,_,ϱ,ϱ,SqT.of j,at1,kB _ _ ⟨_,ϱ,r,_,_,_,ϱ,ϱ,SqT.of j,at0,ϱ,_,ϱ,?_⟩⟩
   rw [cI θ]
   refine aM ⟨_,ϱ,r,_,_,_,ϱ,ϱ,SqT.of j,at0,ϱ,_,ϱ,bF (λ_=>?_) (λc=>absurd (τ rfl) c)⟩
   have ak:J S.wk=some (.dT (dWk p d.wk)):=I.co _ j4
   refine ⟨_,ϱ,S.l,CS,S.dx,_,_,ϱ,C.ins,D.cl,D.nw,By S,_,ϱ,S.wk,_,ϱ,DPut.t (k:=pk p) ak W (d8 (by cases d.wk<;>exact Nat.le_of_ble_eq_true rfl)),?_⟩
   rw [xw]
   have g3:=I.up 4 (.dT (dWk p true)) rfl
   have bi:ImS CH CL J (upd J S.wk (.dT (dWk p true))):=cL bv ak id
   have G:=C.im bi hc
   exact q 0 _ g3 ⟨G.ins,G.ok,G.wt⟩
  | fin o =>
   obtain ⟨pa,e,j,W,_⟩:=X
   have er:=a3 o rfl
   refine ⟨_,ϱ,r,_,_,_,ϱ,ϱ,SqT.of j,at1,kB _ _ ⟨_,ϱ,r,_,_,_,ϱ,ϱ,SqT.of j,at0,ϱ,_,ϱ,?_⟩⟩
   rw [cI θ]
   refine aM ⟨_,ϱ,r,_,_,_,ϱ,ϱ,SqT.of j,at0,ϱ,_,ϱ,?_⟩
   rw [cI θ]
   refine aM ⟨_,ϱ,r,_,_,_,ϱ,ϱ,SqT.of j,at0,ϱ,_,ϱ,?_⟩
   rw [cI θ]
   refine aM ⟨_,ϱ,r,_,_,_,ϱ,ϱ,SqT.of j,at0,ϱ,_,ϱ,bF (λ_=>?_) (λc=>absurd (τ rfl) c)⟩
   have hd:J S.en=some (.dT []):=by have:=I.co _ j6;rw [er] at this;exact this
   exact ⟨_,ϱ,S.l,CS,S.dx,_,_,ϱ,C.ins,D.cl,D.ne,uR S,S.en,ϱ,.inr ⟨_,.inl hd⟩,_,ϱ,_,ϱ,r,_,_,_,ϱ,ϱ,SqT.of j,at2,_,pk p,pa,hd,ϱ,W,ζ,(λv hv=>by cases hv),λ_=>q 0 _ (I.up 6 _ rfl) (let i:=C.im (cL bv hd id) hc;⟨i.ins,i.ok,i.wt⟩)⟩
  | wlk wd i us ch =>
   obtain ⟨Z,j,bd,hk⟩:=X
   have nw:decide (wd=("begin":Str))=false/\decide (wd=("work":Str))=false/\decide (wd=("ready":Str))=false/\decide (wd=("end":Str))=false/\decide (wd=("over":Str))=false:=by
    rcases hk with ⟨rfl | rfl,_⟩ | ⟨rfl,_⟩<;>decide +kernel
   refine ⟨_,ϱ,r,_,_,_,ϱ,ϱ,SqT.of j,at1,kB _ _ ⟨_,ϱ,r,_,_,_,ϱ,ϱ,SqT.of j,at0,ϱ,_,ϱ,?_⟩⟩
   rw [cI nw.1]
   refine aM ⟨_,ϱ,r,_,_,_,ϱ,ϱ,SqT.of j,at0,ϱ,_,ϱ,?_⟩
   rw [cI nw.2.1]
   refine aM ⟨_,ϱ,r,_,_,_,ϱ,ϱ,SqT.of j,at0,ϱ,_,ϱ,?_⟩
   rw [cI nw.2.2.1]
   refine aM ⟨_,ϱ,r,_,_,_,ϱ,ϱ,SqT.of j,at0,ϱ,_,ϱ,?_⟩
   rw [cI nw.2.2.2.1]
   refine aM ⟨_,ϱ,r,_,_,_,ϱ,ϱ,SqT.of j,at0,ϱ,_,ϱ,?_⟩
   rw [cI nw.2.2.2.2]
   refine aM ⟨_,ϱ,_,ϱ,S.l,CS,S.dx,_,_,ϱ,C.ins,D.cl,D.na,yN S,_,ϱ,_,ϱ,r,_,_,_,ϱ,ϱ,SqT.of j,at2,χ,λb hb=>?_⟩
   have s3:=ah (o:=.tup [.ref Z,.int i]) hb
   have g3:=I.same s3
   have G:=C.keep s3
   have as:(upd J b (.tup [.ref Z,.int i])) S.wa=some (NDt S.wa (nes z d.ws)):=g3.co _ j7
   have U:NKeyAt (upd J b (.tup [.ref Z,.int i])) (z,i) b:=⟨Z,ae,s3 _ _ bd⟩
   have Y:ImS CH CL (upd J b (.tup [.ref Z,.int i])) (upd (upd J b (.tup [.ref Z,.int i])) S.wa (NDt S.wa (nes z (iz d.ws ⟨i,decide (wd=("walked":Str)),b,r⟩)))):=cL bv as λz=>z _ _ rfl
   have L:=G.im Y hc
   have hn:(nes z d.ws).length<=1000:=by unfold nes;rw [List.length_map];exact Nat.le_trans a4 ζ
   refine ⟨S.wa,b,r,_,(z,i),ϱ,ϱ,ϱ,as,G.ok,U,Nat.le_of_lt (d8 hn),?_⟩
   rw [se z d.ws ⟨i,decide (wd=("walked":Str)),b,r⟩]
   refine q b _ (g3.up 7 _ rfl) ⟨L.ins,?_,λt ht=>?_⟩
   ·show NOk _ (nes z (iz d.ws ⟨i,decide (wd=("walked":Str)),b,r⟩))
    have:=L.ok.put r (U.keep Y.ts)
    rw [se z d.ws ⟨i,decide (wd=("walked":Str)),b,r⟩] at this
    exact this
   ·have av:B4 _ ⟨i,decide (wd=("walked":Str)),b,r⟩:=⟨wd,_,Y _ _ (s3 _ _ j) ϰ,ϱ⟩
    have O:t∈iz d.ws ⟨i,decide (wd=("walked":Str)),b,r⟩:=ht
    unfold iz at O
    split at O
    ·obtain ⟨t0,h0,e⟩:=ϑ.mp O
     split at e
     ·rw [← e]
      exact av
     ·rw [← e]
      exact L.wt t0 h0
    ·rcases List.mem_append.mp O with m | m
     ·exact L.wt t m
     ·rw [ϵ.mp m]
      exact av
theorem tF(F:Fun K "cell_at" "Stand.cell_at" dL f fd)(D:TxD K CS):FnOk P w K mg base CX0 1 f fd ["self","cell"] (eg CS):=by
 refine F.ok jr (λvs H Q E h=>?_) (λi A b s H vs Q E m h=>?_)
 ·obtain ⟨A,j,c,cs,rfl,_⟩:=h
  rfl
 obtain ⟨S,j,c,cs,rfl,d,e,g,q⟩:=h
 refine ⟨_,ai (aw (az (r:=bW K) aI (ap (pv 0) rfl) (pv 1) (λ_ _=>rfl))),?_⟩
 exact ⟨_,ϱ,S.l,CS,S.dx,_,_,ϱ,d,D.cl,D.nc,rQ S,_,ϱ,S.cl,_,_,.int c,ϱ,ϱ,SqL.of e,aV (by rw [List.getElem?_map,g];rfl),q⟩
theorem v5(F:Fun K "cells_told" "Stand.cells_told" cG f fd)(B:TxB mg)(D:TxD K CS):FnOk P w K mg base CX0 1 f fd ["self"] (ou CS K):=by
 refine F.ok il (λvs H Q E h=>?_) (λi A b s H vs Q E j h=>?_)
 ·obtain ⟨p,z,A,d,rfl,_⟩:=h
  rfl
 obtain ⟨p,z,S,d,rfl,e,q⟩:=h
 refine ⟨_,ai (aw (bp gm rfl B.list PyProof.Rows.boot_list (ac (ap (pv 0) rfl) ag))),?_⟩
 exact ⟨_,ϱ,S.l,CS,S.dx,_,_,ϱ,e.ins,D.cl,D.nc,rQ S,S.cl,_,ϱ,.inl (SqL.of e.cl),λp g=>q p _ (ah g) g ae⟩
theorem xQ(F:Fun K "news" "Stand.news" f7 f fd)(B:TxB mg)(D:TxD K CS):FnOk P w K mg base CX0 1 f fd ["self"] (om CS K):=by
 refine F.ok ms (λvs H Q E h=>?_) (λr A g s H vs Q E I h=>?_)
 ·obtain ⟨p,z,A,d,rfl,_⟩:=h
  rfl
 obtain ⟨p,z,S,d,rfl,e,q⟩:=h
 refine ⟨_,ai (aw (bp mE rfl B.tuple PyProof.Rows.boot_tuple (ac (aL (pj rfl) rfl B.sorted PyProof.Rows.boot_sorted (ac (vd (ap (pv 0) rfl)) ag)) ag))),?_⟩
 refine ⟨_,ϱ,S.l,CS,S.dx,_,_,ϱ,e.ins,D.cl,D.ne,uR S,S.en,_,ϱ,e.en,λv u=>?_⟩
 have i:=ah (o:=Vw v S.en) u
 refine ⟨v,S.en,enl p d,ϱ,ae,i _ _ e.en,(by unfold enl;cases d.en<;>exact Nat.le_of_ble_eq_true rfl),λJ l b x y C=>?_⟩
 have m:=ah (o:=.lst b) y
 refine ⟨l,b,ϱ,.inl ⟨SqL.of ae,λt G=>?_⟩⟩
 have j:=ah (o:=.tup b) G
 exact q _ _ (i.trans (x.trans (m.trans j))) ⟨t,b,ϱ,ae,Paired.mapP C λ_ _ z=>z.keep j.ts⟩
theorem sO{H H1:Hp}{D:Addr}{o:Obj}{f:List (List Key×V)}{p:Addr}{o2:HO}(m:H D=some (.dT f))(g:Same (upd H D (Fz D o)) H1)(h:H1 p=none) :
  Same H (upd (upd H1 p o2) D (.dT f))/\(upd (upd H1 p o2) D (.dT f)) p=some o2/\(upd H1 p o2) D=some (Fz D o)/\H p=none:=by
 have i:H1 D=some (Fz D o):=g _ _ ae
 have d:p≠D:=Ne.symm (aq i h)
 refine ⟨λb l e=>?_,by rw [ao d];exact ae,by rw [ao (Ne.symm d)];exact i,?_⟩
 ·by_cases hb:b=D
  ·subst hb
   rw [ae,← e,m]
  ·rw [ao hb]
   have j:H1 b=some l:=g _ _ (by rw [ao hb];exact e)
   rw [ao (aq j h)]
   exact j
 ·cases e:H p with
  | none=>rfl
  | some u =>
   have:=g p u (by rw [ao d];exact e)
   rw [h] at this
   cases this
theorem v6(F:Fun K "bound" "Stand.bound" cy f fd)(D:TxD K CS):FnOk P w K mg base CX0 1 f fd ["self"] (kQ CS K):=by
 refine F.ok lC (λvs H Q E h=>?_) (λL A m s H vs Q E u h=>?_)
 ·obtain ⟨p,z,S,d,rfl,_⟩:=h
  rfl
 obtain ⟨p,z,S,d,rfl,x,q⟩:=h
 refine ⟨_,ai (aw (xA (c6 jz rfl (xy (ap (pv 0) rfl)) (λ_ _ _ _=>fT ptn) (λ_ _ _ _=>fw)))),?_⟩
 have g:=x.rdd
 refine ⟨_,ϱ,S.l,CS,S.dx,_,_,ϱ,x.ins,D.cl,D.nr,Bz S,S.rd,_,ϱ,g,λo f=>?_⟩
 refine ym f (λi j H1=>Same (upd H S.rd (Fz S.rd o)) H1/\j=[]) ⟨Same.refl _,ϱ⟩ (λi j O _ z=>⟨z.1 _ _ ae,z.1.ts⟩) (λi e b j O U W z=>by cases U) ?_
 rintro j H1 ⟨y,rfl⟩ r u
 obtain ⟨C,G,I,J⟩:=sO (o2:=.lst []) g y u
 exact ⟨S.rd,o,_,I,(f.keep y.ts).keep (ah u).ts,q r _ C J G⟩
theorem xP(F:Fun K "outcome" "Stand.outcome" dJ f fd)(D:TxD K CS):FnOk P w K mg base CX0 1 f fd ["self","p"] (qC CS K):=by
 refine F.ok jq (λvs H Q E h=>?_) (λr A i s H vs Q E u h=>?_)
 ·obtain ⟨p,z,S,d,j,rfl,_⟩:=h
  rfl
 obtain ⟨p,z,S,d,j,rfl,b,g,m,q⟩:=h
 refine ⟨_,ai (aw (vf (cM u) (ap (pv 0) rfl) (pv 1) ⟨ϱ,ϱ,ϱ,ϱ⟩)),?_⟩
 refine ⟨_,ϱ,S.l,CS,S.dx,_,_,ϱ,b.ins,D.cl,D.ne,uR S,S.en,ϱ,.inr ⟨_,.inl b.en⟩,_,ϱ,_,DGet.t (k:=pk z) b.en g,?_⟩
 have e:bE (dEn p d.en) (pk z)=none:=by
  cases d.en with
  | none=>rfl
  | some o=>exact bJ (Ne.symm m)
 rw [e]
 exact q
theorem z9(F:Fun K "walked_at" "Stand.walked_at" cJ f fd)(D:TxD K CS):FnOk P w K mg base CX0 1 f fd ["self","p","i"] (rN CS K):=by
 refine F.ok iC (λvs H Q E h=>?_) (λu A r s H vs Q E x h=>?_)
 ·obtain ⟨p,z,S,d,j,i,rfl,_⟩:=h
  rfl
 obtain ⟨p,z,S,d,j,i,rfl,e,m,q⟩:=h
 refine ⟨_,ai (aw (xC (hun x) (ap (pv 0) rfl) (aF (ac (pv 1) (ac (pv 2) ag))) ⟨ϱ,ϱ,ϱ,ϱ⟩)),?_⟩
 refine ⟨_,ϱ,S.l,CS,S.dx,_,_,ϱ,e.ins,D.cl,D.na,yN S,S.wa,_,ϱ,e.wa,_,ϱ,_,ϱ,χ,λb y=>?_⟩
 have g:=ah (o:=.tup [.ref j,.int i]) y
 refine ⟨b,(z,i),ϱ,g _ _ e.wa,e.ok.keep g.ts,⟨j,ae,g _ _ m⟩,?_⟩
 rw [sg]
 exact q _ g
def shL(CH S:Addr)(h:Ah)(rs:List Addr)(us:List V)(v:V):Cs:=[(h.l,.ins CH h.dx (hf S h v)),(h.rw,.lst (rs.map V.ref)),(h.sn,.lst us)]
def LtAt(K:Frag)(H:Hp)(es:List (Pa×Str))(x:Ws)(u:V):Prop:=∃t t2 nv,u=.ref t/\H t=some (.tup [.int x.1,.ref t2])/\H t2=some (.tup [.str x.2.1,.ref x.2.2.1,.ref x.2.2.2,nv])/\NwAt K H es nv
theorem LtAt.keep{H b:Hp}{es:List (Pa×Str)}{x:Ws}{u:V}(e:TSame H b)(h:LtAt K H es x u):LtAt K b es x u:=by
 obtain ⟨t,d,f,rfl,h1,g,i⟩:=h
 exact ⟨t,d,f,ϱ,e _ _ h1,e _ _ g,i.keep e⟩
section
variable (CS CH CL:Addr)(K:Frag)
inductive fK (vs:List V) (H:Hp) (Q:VK) (E:XK):Prop|mk l dx S:vs=[.ref l,.ref S]->H l=some (.ins CH dx [])->(∀h H',h.l=l->Ow CH CL [l] H H' (shL CH S h [] [] .non)->Q .non H')->fK vs H Q E
inductive jm (vs:List V) (H:Hp) (Q:VK) (E:XK):Prop|mk p z A h d rs us v r w R:vs=[.ref h.l,.ref r]->Ow CH CL (ad (shL CH A.l h rs us v++(stL p z A d++R))) H H (shL CH A.l h rs us v++(stL p z A d++R))->Si CS K H p z A d->RxAt K H p z r w->d.fits w->rs.length<=900->(∀b v' H',Ow CH CL (ad (shL CH A.l h rs us v++(stL p z A d++R))) H H' (shL CH A.l h (rs++[r]) us v'++(stL p z A (d.kp r b w)++R))->Si CS K H' p z A (d.kp r b w)->NwAt K H' (enl p (d.kp r b w)) v'->Q .non H')->jm vs H Q E
inductive iO (vs:List V) (H:Hp) (Q:VK) (E:XK):Prop|mk S h rs us v x R:vs=[.ref h.l,.int x.1,.str x.2.1,.ref x.2.2.1,.ref x.2.2.2]->Ow CH CL (ad (shL CH S h rs us v++R)) H H (shL CH S h rs us v++R)->us.length<=900->(∀u H',Ow CH CL (ad (shL CH S h rs us v++R)) H H' (shL CH S h rs (us++[u]) v++R)->WsAt H' x u->Q .non H')->iO vs H Q E
inductive kN (vs:List V) (H:Hp) (Q:VK) (E:XK):Prop|mk S h rs v:vs=[.ref h.l]->H h.l=some (.ins CH h.dx (hf S h v))->H h.rw=some (.lst ((rs:List Addr).map V.ref))->(∀q H',Same H H'->H' q=some (.lst (rs.map V.ref))->Q (.ref q) H')->kN vs H Q E
inductive oq (vs:List V) (H:Hp) (Q:VK) (E:XK):Prop|mk p z A h d us ws v:vs=[.ref h.l]->H h.l=some (.ins CH h.dx (hf A.l h v))->H h.sn=some (.lst us)->Sa CS K H p z A d->Paired (WsAt H) ws us->ws.length<=900->((v=.non\/NwAt K H (enl p d) v))->(∀q us' H',Same H H'->H' q=some (.lst us')->Paired (LtAt K H' (enl p d)) ws us'->Q (.ref q) H')->oq vs H Q E
end
theorem vR(F:Fun K "__init__" "Sheet.__init__" gc f fd)(d:TxH K CH):FnOk P w K mg base CX0 1 f fd ["self","stand"] (fK CH CL):=by
 refine F.ok mw (λvs H Q E h=>?_) (λC A g s H vs Q E I h=>?_)
 ·obtain ⟨l,b,S,rfl,_⟩:=h
  rfl
 obtain ⟨l,b,S,rfl,j,q⟩:=h
 refine ⟨_,af (aP (pv 0) (pv 1) rfl) (af (aP (pv 0) (ck ag) rfl) (af (aP (pv 0) (ck ag) rfl) (ai (aP (pv 0) cj rfl)))),?_⟩
 have g0:Ow CH CL [l] H H [(l,.ins CH b [])]:=.mk0 (L:=[(l,.ins CH b [])]) (λx i=>by rw [List.mem_singleton.mp i];exact j) (by simp [ad]) (λx i=>by rw [List.mem_singleton.mp i];exact λz=>z.1 rfl)
 have g1:Ow CH CL [l] H _ [(l,.ins CH b (au "stand" (.ref S) []))]:=g0.up 0 _ rfl
 refine ⟨_,ϱ,_,ϱ,l,CH,b,_,ϱ,j,d.cl,d.ht,(by show 0<1000;decide),χ,λe D=>?_⟩
 obtain ⟨r,u⟩:=g1.fld D (.lst []) (au "rows" (.ref e) (au "stand" (.ref S) []))
 refine ⟨_,ϱ,l,CH,b,_,ϱ,r,d.cl,d.hw,(bh (n:=999) (by show 0<999;decide)),χ,λo G=>?_⟩
 obtain ⟨y,m⟩:=u.fld G (.lst []) (au "sent" (.ref o) (au "rows" (.ref e) (au "stand" (.ref S) [])))
 exact ⟨_,ϱ,l,CH,b,_,ϱ,y,d.cl,d.hs,(bh (n:=999) (bh (n:=998) (by show 0<998;decide))),_,ϱ,l,CH,b,_,ϱ,m.co _ (.head _),d.cl,d.hl,(bh (n:=999) (bh (n:=998) (bh (n:=997) (by show 0<997;decide)))),q ⟨l,b,e,o⟩ _ rfl (m.up 0 _ rfl)⟩
theorem xY(F:Fun K "row" "Sheet.row" gX f fd)(D:TxD K CS)(i:TxH K CH)(W:CS≠CH/\CS≠CL)(GK:GM P w K mg base CX0 2 CS "keep" ["self","row"] (qF CS CH CL K))(GW:GM P w K mg base CX0 1 CS "news" ["self"] (om CS K)) :
  FnOk P w K mg base CX0 3 f fd ["self","row"] (jm CS CH CL K):=by
 refine F.ok oF (λvs H Q E h=>?_) (λa0 A C s H vs Q E O h=>?_)
 ·obtain ⟨p,z,A,h,d,e,m,v,r,w,R,rfl,_⟩:=h
  rfl
 obtain ⟨p,z,S,h,d,e,m,v,r,I,R,rfl,g,J,X,u,Y,q⟩:=h
 refine ⟨_,af (aQ (pm GK (ap (pv 0) rfl) D.cl O (ac (pv 1) ag)))
  (af (aQ (iw PySem.F.plainAttrs_list PySem.F.slot_list_append PySem.F.type_list_append ig (ap (pv 0) rfl) (ac (pv 1) ag)))
  (ai (aP (pv 0) (pm0 GW (ap (pv 0) rfl) D.cl O) rfl))),?_⟩
 refine ⟨_,ϱ,h.l,CH,h.dx,_,_,ϱ,g.co _ j0,i.cl,i.ht,wr _ _ _,S.l,S.dx,_,ϱ,J.ins,fq θ,_,ϱ,p,z,S,d,r,I,_,_,_,R,ϱ,g,J,X,u,λb H1 g1 G=>?_⟩
 have Z:H1 h.rw=some (.lst (e.map V.ref)):=g1.co _ j1
 refine ⟨_,ϱ,h.l,CH,h.dx,_,_,ϱ,g1.co _ j0,i.cl,i.hw,zb _ _ _,.inl ⟨ϱ,_,SqL.of (g1.co _ j1)⟩,_,ϱ,h.rw,_,_,ϱ,ϱ,g1.co _ j1,d8 (by rw [ν];omega),?_⟩
 have x:Ow CH CL (ad (shL CH S.l h e m v++(stL p z S d++R))) H (upd H1 h.rw (.lst ((e++[r]).map V.ref))) (shL CH S.l h (e++[r]) m v++(stL p z S (d.kp r b I)++R)):=g1.up 1 _ rfl
 rw [show e.map V.ref++[.ref r]=(e++[r]).map V.ref by rw [List.map_append];rfl]
 have j:=G.im (cL (bv (o:=.lst ((e++[r]).map V.ref))) Z id) W
 refine ⟨_,ϱ,h.l,CH,h.dx,_,_,ϱ,x.co _ j0,i.cl,i.ht,wr _ _ _,S.l,S.dx,_,ϱ,j.ins,fq θ,p,z,S,_,ϱ,yU x j,λv' H3 U nw=>?_⟩
 have L:=x.same U
 have y:H3 h.l=some (.ins CH h.dx (hf S.l h v)):=L.co _ j0
 refine ⟨_,ϱ,h.l,CH,h.dx,_,ϱ,y,i.cl,i.hl,AO _ _ _,?_⟩
 rw [AN]
 exact q b v' _ (L.up 0 _ rfl) ((j.keep U).im (cL bv y λz=>z.2.1 rfl) W) (nw.keep (gG y))
theorem vP(F:Fun K "send" "Sheet.send" gb f fd)(u:TxH K CH):FnOk P w K mg base CX0 1 f fd ["self","to","word","p","more"] (iO CH CL):=by
 refine F.ok mv (λvs H Q E h=>?_) (λC A b s H vs Q E I h=>?_)
 ·obtain ⟨S,h,y,e,v,x,R,rfl,_⟩:=h
  rfl
 obtain ⟨S,h,y,e,v,x,R,rfl,g,G,q⟩:=h
 refine ⟨_,ai (aQ (iw PySem.F.plainAttrs_list PySem.F.slot_list_append PySem.F.type_list_append ig (ap (pv 0) rfl) (ac (aF (ac (pv 1) (ac (aF (ac (pv 2) (ac (pv 3) (ac (pv 4) ag)))) ag))) ag))),?_⟩
 refine ⟨_,ϱ,h.l,CH,h.dx,_,_,ϱ,g.co _ j0,u.cl,u.hs,yZ _ _ _,.inl ⟨ϱ,_,SqL.of (g.co _ j2)⟩,_,ϱ,_,ϱ,_,ϱ,_,ϱ,χ,λr d=>⟨χ,λt D=>?_⟩⟩
 have i:=ah (o:=.tup [.int x.1,.ref r]) D
 have j:=(g.same (ah d)).same i
 have m:=j.co _ j2
 have z:WsAt _ x (.ref t):=⟨t,r,ϱ,ae,i _ _ ae⟩
 exact ⟨h.sn,e,_,ϱ,ϱ,m,d8 ω,q (.ref t) _ (j.up 2 _ rfl) (z.keep (gG m))⟩
theorem vQ(F:Fun K "rows_told" "Sheet.rows_told" cK f fd)(B:TxB mg)(d:TxH K CH):FnOk P w K mg base CX0 1 f fd ["self"] (kN CH):=by
 refine F.ok iD (λvs H Q E h=>?_) (λi A b s H vs Q E m h=>?_)
 ·obtain ⟨S,h,e,v,rfl,_⟩:=h
  rfl
 obtain ⟨S,h,e,v,rfl,h1,g,q⟩:=h
 refine ⟨_,ai (aw (bp gm rfl B.list PyProof.Rows.boot_list (ac (ap (pv 0) rfl) ag))),?_⟩
 exact ⟨_,ϱ,h.l,CH,h.dx,_,_,ϱ,h1,d.cl,d.hw,zb _ _ _,h.rw,_,ϱ,.inl (SqL.of g),λp j=>q p _ (ah j) ae⟩
inductive Ba (CH:Addr) (K:Frag) (D:Ends) (σ:L2.St) (H:Hp):Prop|mk S h us ws v nv es:σ=[some (.ref (h:Ah).l),some nv]->H h.l=some (.ins CH h.dx (hf S h v))->H h.sn=some (.lst us)->Paired (WsAt H) ws us->ws.length<=900->NwAt K H es nv->(∀p us' H',Same H H'->H' p=some (.lst us')->Paired (LtAt K H' es) ws us'->D.rt (.ref p) H')->Ba CH K D σ H
theorem xZ(F:Fun K "letters_told" "Sheet.letters_told" bf f fd)(D:TxD K CS)(j:TxH K CH)(GW:GM P w K mg base CX0 1 CS "news" ["self"] (om CS K)) :
  FnOk P w K mg base CX0 2 f fd ["self"] (oq CS CH K):=by
 refine F.ok sc_Sheet_letters_told (λvs H Q E h=>?_) (λav A a1 s H vs Q E hr h=>?_)
 ·obtain ⟨p,z,A,h,d,m,y,v,rfl,_⟩:=h
  rfl
 obtain ⟨p,z,S,h,d,m,y,v,rfl,h1,h2,sa,b,W,X,q⟩:=h
 have nd:=sc_Sheet_letters_told.nd
 refine ⟨_,af (aB (i:=1) nd rfl (Or.inr rfl) (pN (ay lT (ap (pv 0) rfl) cj (ax _)) (pm0 GW (ap (pv 0) rfl) D.cl hr) (ap (pv 0) rfl)))
  (pM (Ba CH K) (ai (aw (c6 fu rfl (cH (ap (pv 0) rfl)) (λ_ _ _ _=>cX) (λ_ _ _ _=>aF (ac (az (r:=bc K) aD (pv 0) aj (λ_ _=>rfl)) (ac (aG (r:=yT K) xF (az (r:=bc K) aD (pv 0) aj (λ_ _=>rfl)) (aF (ac (pv 1) ag))) ag)))))) ?v1),?_⟩
 case v1 =>
  rintro D0 σ H ⟨S,h,m,y,v,nv,es,rfl,h1,J,b,W,L,q⟩
  refine ⟨_,ϱ,h.l,CH,h.dx,_,_,ϱ,h1,j.cl,j.hs,yZ _ _ _,h.sn,ϱ,⟨_,SqL.of J⟩,?_⟩
  refine d6 (xs:=m) (λi C I=>Same H I/\Paired (LtAt K I es) (y.take i) C) ⟨Same.refl _,.nil⟩ (small (by rw [← b.len];omega)) (λi C I _ z=>SqL.of (z.1 _ _ J)) ?_ ?_
  ·rintro i u C H1 hu ⟨g,U⟩
   obtain ⟨x,ex,t,t2,rfl,ht,Y⟩:=b.get hu
   obtain ⟨O,rfl⟩:∃O,nv=.ref O:=by obtain ⟨t,_,e,_⟩:=L;exact ⟨t,e⟩
   have et:y.take (i+1)=y.take i++[x]:=by rw [List.take_succ,ex];rfl
   refine k9 ⟨_,ϱ,t,_,_,_,ϱ,ϱ,SqT.of (g _ _ ht),at0,_,ϱ,t,_,_,_,ϱ,ϱ,SqT.of (g _ _ ht),at1,_,ϱ,χ,λt3 a2=>?_⟩
   have Z:=ah (o:=.tup [.ref O]) a2
   refine ⟨t2,t3,_,_,ϱ,ϱ,SqT.of (Z _ _ (g _ _ Y)),SqT.of ae,(λz=>by cases z),χ,(λz=>by cases z),λ_ t4 a3=>⟨χ,λt5 a4=>?_⟩⟩
   have s4:=ah (o:=.tup ([.str x.2.1,.ref x.2.2.1,.ref x.2.2.2]++[.ref O])) a3
   have s5:=ah (o:=.tup [.int x.1,.ref t4]) a4
   have G:=g.trans (Z.trans (s4.trans s5))
   rw [et]
   exact ⟨G,(Paired.mapP U λ_ _ z=>z.keep (Z.trans (s4.trans s5)).ts).app (.cons ⟨t5,t4,_,ϱ,ae,s5 _ _ ae,L.keep G.ts⟩ .nil)⟩
  ·rintro C H1 ⟨g,U⟩ p hp
   rw [← b.len,List.take_length] at U
   have s2:=ah (o:=.lst C) hp
   exact q p C _ (g.trans s2) ae (Paired.mapP U λ_ _ z=>z.keep s2.ts)
 refine ⟨_,ϱ,h.l,CH,h.dx,_,_,ϱ,h1,j.cl,j.hl,zc _ _ _,ϱ,_,ϱ,?_⟩
 by_cases e:v=.non
 ·refine bF (λ_=>?_) (λc=>absurd (τ e) c)
  refine ⟨_,ϱ,h.l,CH,h.dx,_,_,ϱ,h1,j.cl,j.ht,wr _ _ _,S.l,S.dx,_,ϱ,sa.ins,fq θ,p,z,S,d,ϱ,sa,λnv H1 g nw=>?_⟩
  exact ⟨S.l,h,m,y,v,nv,_,ϱ,g _ _ h1,g _ _ h2,Paired.mapP b λ_ _ z=>z.keep g.ts,W,nw,λp m I s'=>q p m I (g.trans s')⟩
 ·refine bF (λc=>absurd (Ξ c) e) (λ_=>?_)
  exact ⟨_,ϱ,h.l,CH,h.dx,_,_,ϱ,h1,j.cl,j.hl,zc _ _ _,S.l,h,m,y,v,v,_,ϱ,h1,h2,b,W,X.resolve_left e,q⟩
end
open St
section
variable {P:Program}{w:World}{K:Frag}{mg:Str->Option Value}{base:Heap}{f CL CS CH CV:Addr}{fd:FuncData}{C:Kd->Addr}{CW:Wd->Addr}
theorem vI(F:Fun K "lock" "TakeStep.lock" dH f fd)(W:TxW K CW)(T:TxK K C)(l:∀k,mg (kdN k)=some (.ref (C k))){r:Addr}{u:FuncData}(M:∀k,Mk K (C k) r)
  (U:FnOk P w K mg base CX0 1 r u ["self","first","last"] (eQ C))(X:Binds K u ["self","first","last"] [])(Y:∀k,GM P w K mg base CX0 2 (C k) "told" ["self"] (gI C)):FnOk P w K mg base CX0 3 f fd ["self"] (cW CW K .take):=by
 refine F.ok jp (λvs H Q E h=>?_) (λI A g s H vs Q E o h=>?_)
 ·obtain ⟨v,D,rfl,_⟩:=h
  rfl
 obtain ⟨v,D,rfl,G,⟨a,m,rfl,b⟩,q⟩:=h
 obtain ⟨x,y,rfl,_,_,e⟩:=G.c rfl
 rw [e] at b
 have d:Room (1+1) _:=o
 refine ⟨_,ai (aw (pm0 (Y .read) (aX (M .read) U d rfl (l .read) X .nil aW (ac (ap (pv 0) rfl) (ac (ap (pv 0) rfl) ag))) (T.cl .read) o)),?_⟩
 refine ⟨_,ϱ,a,_,m,_,_,ϱ,b,W.cl _,W.nC _,bu,_,ϱ,a,_,m,_,_,ϱ,b,W.cl _,W.nC _,bu,λz i J j L=>⟨z,i,.read,y,y,ϱ,ae,ϱ,z,i,_,ϱ,ae,gs _ _ θ θ,_,(.read,y,y),ϱ,⟨z,i,ϱ,ae⟩,λt O=>?_⟩⟩
 exact q _ _ ((eT J j).trans (ah O)) ⟨t,ϱ,ae⟩
theorem vK(F:Fun K "lock" "MeanStep.lock" dQ f fd)(W:TxW K CW)(T:TxK K C)(l:∀k,mg (kdN k)=some (.ref (C k))){r:Addr}{u:FuncData}(M:∀k,Mk K (C k) r)
  (U:FnOk P w K mg base CX0 1 r u ["self","first","last"] (eQ C))(X:Binds K u ["self","first","last"] [])(Y:∀k,GM P w K mg base CX0 2 (C k) "told" ["self"] (gI C)):FnOk P w K mg base CX0 3 f fd ["self"] (cW CW K .mean):=by
 refine F.ok jv (λvs H Q E h=>?_) (λI A g s H vs Q E o h=>?_)
 ·obtain ⟨v,D,rfl,_⟩:=h
  rfl
 obtain ⟨v,D,rfl,G,⟨a,m,rfl,b⟩,q⟩:=h
 obtain ⟨x,y,rfl,_,_,e⟩:=G.c rfl
 rw [e] at b
 have d:Room (1+1) _:=o
 refine ⟨_,ai (aw (pm0 (Y .mean) (aX (M .mean) U d rfl (l .mean) X .nil aW (ac (ap (pv 0) rfl) (ac (ap (pv 0) rfl) ag))) (T.cl .mean) o)),?_⟩
 refine ⟨_,ϱ,a,_,m,_,_,ϱ,b,W.cl _,W.nC _,bu,_,ϱ,a,_,m,_,_,ϱ,b,W.cl _,W.nC _,bu,λz i J j L=>⟨z,i,.mean,y,y,ϱ,ae,ϱ,z,i,_,ϱ,ae,gs _ _ θ θ,_,(.mean,y,y),ϱ,⟨z,i,ϱ,ae⟩,λt O=>?_⟩⟩
 exact q _ _ ((eT J j).trans (ah O)) ⟨t,ϱ,ae⟩
theorem vO(F:Fun K "lock" "GiveStep.lock" dR f fd)(W:TxW K CW)(T:TxK K C)(l:∀k,mg (kdN k)=some (.ref (C k))){r:Addr}{u:FuncData}(M:∀k,Mk K (C k) r)
  (U:FnOk P w K mg base CX0 1 r u ["self","first","last"] (eQ C))(X:Binds K u ["self","first","last"] [])(Y:∀k,GM P w K mg base CX0 2 (C k) "told" ["self"] (gI C)):FnOk P w K mg base CX0 3 f fd ["self"] (cW CW K .give):=by
 refine F.ok jw (λvs H Q E h=>?_) (λI A g s H vs Q E o h=>?_)
 ·obtain ⟨v,D,rfl,_⟩:=h
  rfl
 obtain ⟨v,D,rfl,G,⟨a,m,rfl,b⟩,q⟩:=h
 obtain ⟨x,y,rfl,_,_,e⟩:=G.c rfl
 rw [e] at b
 have d:Room (1+1) _:=o
 refine ⟨_,ai (aw (pm0 (Y .change) (aX (M .change) U d rfl (l .change) X .nil aW (ac (ap (pv 0) rfl) (ac (ap (pv 0) rfl) ag))) (T.cl .change) o)),?_⟩
 refine ⟨_,ϱ,a,_,m,_,_,ϱ,b,W.cl _,W.nC _,bu,_,ϱ,a,_,m,_,_,ϱ,b,W.cl _,W.nC _,bu,λz i J j L=>⟨z,i,.change,y,y,ϱ,ae,ϱ,z,i,_,ϱ,ae,gs _ _ θ θ,_,(.change,y,y),ϱ,⟨z,i,ϱ,ae⟩,λt O=>?_⟩⟩
 exact q _ _ ((eT J j).trans (ah O)) ⟨t,ϱ,ae⟩
theorem xV(F:Fun K "lock" "AddStep.lock" eL f fd)(W:TxW K CW)(T:TxK K C)(i:∀k,mg (kdN k)=some (.ref (C k))){o:Addr}{r:FuncData}(M:∀k,Mk K (C k) o)
  (O:FnOk P w K mg base CX0 1 o r ["self","first","last"] (eQ C))(U:Binds K r ["self","first","last"] [])(X:∀k,GM P w K mg base CX0 2 (C k) "told" ["self"] (gI C)):FnOk P w K mg base CX0 3 f fd ["self"] (cW CW K .add):=by
 refine F.ok kj (λvs H Q E h=>?_) (λG A d s H vs Q E m h=>?_)
 ·obtain ⟨v,u,rfl,_⟩:=h
  rfl
 obtain ⟨v,u,rfl,D,⟨a,j,rfl,l⟩,q⟩:=h
 obtain ⟨x,y,Y,rfl,_⟩:=D.a
 have b:Room (1+1) _:=m
 refine ⟨_,ai (aw (pm0 (X .change) (aX (M .change) O b rfl (i .change) U .nil aW (ac (ap (pv 0) rfl) (ac (ap (pv 0) rfl) ag))) (T.cl .change) m)),?_⟩
 refine ⟨_,ϱ,a,_,j,_,_,ϱ,l,W.cl _,W.nC _,(by show (au "amount" _ (au "cell" _ (au "where" _ []))).lookup _=_;rw [aO θ,bu]),_,ϱ,a,_,j,_,_,ϱ,l,W.cl _,W.nC _,(by show (au "amount" _ (au "cell" _ (au "where" _ []))).lookup _=_;rw [aO θ,bu]),λz e I g J=>⟨z,e,.change,y,y,ϱ,ae,ϱ,z,e,_,ϱ,ae,gs _ _ θ θ,_,(.change,y,y),ϱ,⟨z,e,ϱ,ae⟩,λt L=>?_⟩⟩
 exact q _ _ ((eT I g).trans (ah L)) ⟨t,ϱ,ae⟩
theorem xT(F:Fun K "lock" "SumStep.lock" eJ f fd)(W:TxW K CW)(T:TxK K C)(i:∀k,mg (kdN k)=some (.ref (C k))){o:Addr}{r:FuncData}(M:∀k,Mk K (C k) o)
  (O:FnOk P w K mg base CX0 1 o r ["self","first","last"] (eQ C))(U:Binds K r ["self","first","last"] [])(X:∀k,GM P w K mg base CX0 2 (C k) "told" ["self"] (gI C)):FnOk P w K mg base CX0 3 f fd ["self"] (cW CW K .sum):=by
 refine F.ok kg (λvs H Q E h=>?_) (λG A d s H vs Q E m h=>?_)
 ·obtain ⟨v,u,rfl,_⟩:=h
  rfl
 obtain ⟨v,u,rfl,D,⟨a,j,rfl,l⟩,q⟩:=h
 obtain ⟨x,y,y2,rfl,_⟩:=D.s
 have b:Room (1+1) _:=m
 refine ⟨_,ai (aw (pm0 (X .read) (aX (M .read) O b rfl (i .read) U .nil aW (ac (ap (pv 0) rfl) (ac (ap (pv 0) rfl) ag))) (T.cl .read) m)),?_⟩
 refine ⟨_,ϱ,a,_,j,_,_,ϱ,l,W.cl _,W.nL _,(by show (au "high" _ (au "low" _ (au "where" _ []))).lookup _=_;rw [aO θ,bu]),_,ϱ,a,_,j,_,_,ϱ,l,W.cl _,W.nH _,bu,λz e I g J=>⟨z,e,.read,y,y2,ϱ,ae,ϱ,z,e,_,ϱ,ae,gs _ _ θ θ,_,(.read,y,y2),ϱ,⟨z,e,ϱ,ae⟩,λt L=>?_⟩⟩
 exact q _ _ ((eT I g).trans (ah L)) ⟨t,ϱ,ae⟩
theorem pR{b:Wd}(hw:b=.plus\/b=.need)(F:Fun K "lock" "Step.lock" gV f fd):FnOk P w K mg base CX0 1 f fd ["self"] (cW CW K b):=by
 refine F.ok oC (λvs H Q E h=>?_) (λi A d s H vs Q E m h=>?_)
 ·obtain ⟨v,g,rfl,_⟩:=h
  rfl
 obtain ⟨v,g,rfl,j,l,q⟩:=h
 refine ⟨_,ai (aw cj),?_⟩
 have e:i7 b g=none:=by rcases hw with rfl | rfl<;>rfl
 rw [e] at q
 exact q .non H (Same.refl H) rfl
end
end K54
namespace K54T
open PySem L2 Km PySem.NumText
abbrev uX:Stmt:=K54.lG
abbrev rR:Stmt:=K54.iV
abbrev yP:Stmt:=K54.mM
abbrev yR:Stmt:=K54.ix
abbrev yQ:Stmt:=K54.gr
abbrev BF:Stmt:=K54.eU
abbrev uZ:Stmt:=K54.dY
abbrev BC:Stmt:=K54.c9
abbrev uY:Stmt:=K54.dX
theorem tp:¬(("text":Str)="place"):=by decide +kernel
def rf(z:Str)(k:Int):List (Str×V):=au "place" (.int k) (au "text" (.str z) [])
theorem u5(z:Str)(k:Int):rf z k=([("text",V.str z),("place",V.int k)]:List (Str×V)):=by
 show (if ("text":Str)="place" then [(("text":Str),V.int k)] else (("text":Str),V.str z)::au "place" (V.int k) [])=([("text",V.str z),("place",V.int k)]:List (Str×V))
 rw [if_neg tp]
 all_goals rfl
theorem hX(z:Str)(k:Int):(rf z k).lookup ("text":Str)=some (.str z):=by
 unfold rf
 rw [al,if_neg tp,al,if_pos rfl]
theorem cw(z:Str)(k:Int):(rf z k).lookup ("place":Str)=some (.int k):=by
 unfold rf
 rw [al,if_pos rfl]
theorem mO(z:Str)(k:Int){m:Str}(h1:¬m="place")(b:¬m="text"):(rf z k).lookup m=none:=by
 unfold rf
 rw [al,if_neg h1,al,if_neg b]
 all_goals rfl
theorem qL(z:Str)(k j:Int):au "place" (.int j) (rf z k)=rf z j:=by
 rw [u5,u5]
 show (if ("text":Str)="place" then _ else (("text":Str),V.str z)::(if ("place":Str)="place" then [(("place":Str),V.int j)] else _))=([("text",V.str z),("place",V.int j)]:List (Str×V))
 rw [if_neg tp,if_pos rfl]
theorem qM(z:Str)(k:Int):(rf z k).length=2:=by rw [u5];rfl
structure Tx(K:Frag)(mg:Str->Option Value)(C:Addr):Prop where
 cl:Cls K C
 nT:NoAttr K C "text"
 nP:NoAttr K C "place"
 mgC:mg "Reader"=some (.ref C)
 isi:mg "isinstance"=none
 int:mg "int"=none
 bool:mg "bool"=none
 str:mg "str"=none
 len:mg "len"=none
 ord:mg "ord"=none
 all:mg "all"=none
 range:mg "range"=none
 cFig:∃t,mg "MOST_FIGURES_things"=some (.int 400 t)
 cSig:∃t,mg "MOST_SIGNS"=some (.int 2000 t)
 cDeep:∃t,mg "MOST_DEEP"=some (.int 8 t)
 cLong:∃t,mg "LONGEST"=some (.int 100000 t)
 cBl:∃t,mg "BLANK"=some (.int 32 t)
 cPc:∃t,mg "PERCENT"=some (.int 37 t)
 cTi:∃t,mg "TILDE"=some (.int 126 t)
theorem oZ{X:Cx}{x:Str}{i:Int}{pos:Pos}(b:∃t,X.mg x=some (.int i t))(d:Gl X x)(f:(x==("__debug__":Str))=false:=by decide):PE X (.Name x pos) (tC (.int i)):=by
 obtain ⟨t,e⟩:=b
 exact fU d e ⟨t,ϱ⟩ f
section
variable {K:Frag}
theorem AE:PySem.W.kitOne K (.type "int") (.type "int")=some true:=rfl
theorem AH:PySem.W.kitOne K (.type "bool") (.type "bool")=some true:=rfl
theorem AF:PySem.W.kitOne K (.type "int") (.type "bool")=some false:=by kernel_rfl
theorem AC:PySem.W.kitOne K (.type "str") (.type "int")=some false:=by kernel_rfl
theorem AG:PySem.W.kitOne K (.type "bool") (.type "int")=some true:=by kernel_rfl
theorem AD:PySem.W.kitOne K (.type "NoneType") (.type "int")=some false:=by kernel_rfl
theorem AB:PySem.W.kitOne K (.type "tuple") (.type "int")=some false:=by kernel_rfl
end
section
variable {P:Program}{w:World}{K:Frag}{mg:Str->Option Value}{base:Heap}{f C:Addr}{fd:FuncData}
def zg(H:Hp):V->Option Bool
 | .int _=>some true
 | .str _=>some false
 | .bl _=>some false
 | .non=>some false
 | .ref a=>match H a with
  | some (.tup _)=>some false
  | _=>none
 | _=>none
inductive n9 (vs:List V) (H:Hp) (Q:VK) (E:XK):Prop|mk x b:vs=[x]->zg H x=some b->Q (.bl b) H->n9 vs H Q E
theorem xo:am ["thing"] ["thing"] (defScope uX):=⟨ϱ,ϱ,ϱ,θ,ϱ,θ,θ⟩
theorem vt(F:Fun K "is_whole" "is_whole" uX f fd)(T:Tx K mg C):FnOk P w K mg base CX0 1 f fd ["thing"] n9:=by
 refine F.ok xo (λvs H Q E h=>?_) (λl A j s H vs Q E m h=>?_)
 ·obtain ⟨x,b,rfl,_⟩:=h
  rfl
 obtain ⟨x,b,rfl,g,q⟩:=h
 refine ⟨_,ai (aw (fV (aL j8 rfl T.isi PyProof.Rows.boot_isinstance (ac (pv 0) (ac (rZ (v:=.ty "int") rfl T.int PyProof.Rows.boot_int rfl) ag)))
  (eE (z4 (aL j8 rfl T.isi PyProof.Rows.boot_isinstance (ac (pv 0) (ac (rZ (v:=.ty "bool") rfl T.bool PyProof.Rows.boot_bool rfl) ag))))))),?_⟩
 cases x with
 | int i =>
  cases (Δ g)
  refine ⟨_,ϱ,_,_,_,_,ϱ,TyOf.int i,AE,_,ϱ,bU ?_⟩
  exact ⟨_,ϱ,_,_,_,_,ϱ,TyOf.int i,AF,_,ϱ,q⟩
 | str z =>
  cases (Δ g)
  exact ⟨_,ϱ,_,_,_,_,ϱ,TyOf.str z,AC,_,ϱ,aM q⟩
 | bl c =>
  cases (Δ g)
  refine ⟨_,ϱ,_,_,_,_,ϱ,TyOf.bl c,AG,_,ϱ,bU ?_⟩
  exact ⟨_,ϱ,_,_,_,_,ϱ,TyOf.bl c,AH,_,ϱ,q⟩
 | non =>
  cases (Δ g)
  exact ⟨_,ϱ,_,_,_,_,ϱ,TyOf.non,AD,_,ϱ,aM q⟩
 | ref a =>
  have d:(match H a with | some (.tup _)=>some false | _=>none)=some b:=g
  cases e:H a with
  | none=>rw [e] at d;cases d
  | some o =>
   rw [e] at d
   cases o with
   | tup xs =>
    cases (Δ d)
    exact ⟨_,ϱ,_,_,_,_,ϱ,TyOf.tup e,AB,_,ϱ,aM q⟩
   | _=>cases d
 | _=>cases g
theorem i9:1000000<=sizeLine:=by decide
inductive qy (vs:List V) (H:Hp) (Q:VK) (E:XK):Prop|mk (c:Nat):vs=[.str ⟨#[c]⟩]->Q (.bl (qS c)) H->qy vs H Q E
theorem scSign:am ["sign","number"] ["sign"] (defScope yP):=⟨ϱ,ϱ,ϱ,θ,ϱ,θ,θ⟩
theorem xK(F:Fun K "is_sign" "is_sign" yP f fd)(T:Tx K mg C):FnOk P w K mg base CX0 1 f fd ["sign"] qy:=by
 refine F.ok scSign (λvs H Q E h=>?_) (λj A e s H vs Q E l h=>?_)
 ·obtain ⟨c,rfl,_⟩:=h
  rfl
 obtain ⟨c,rfl,q⟩:=h
 refine ⟨_,af (aB (i:=1) scSign.nd rfl (Or.inl rfl) (aL wQ rfl T.ord PyProof.Rows.boot_ord (ac (pv 0) ag)))
  (ai (aw (fV (vg mW mW (oZ T.cBl rfl) (pv 1) (oZ T.cTi rfl)) (eE (bn mV (pv 1) (oZ T.cPc rfl) (ax _)))))),?_⟩
 refine ⟨_,ϱ,_,ϱ,ϱ,?_⟩
 refine ⟨_,ϱ,_,_,ϱ,ϱ,_,ϱ,?_⟩
 have e0:((({cps:=#[c]}:Str).cps.getD 0 0:Nat):Int)=(c:Int):=rfl
 unfold qS at q
 by_cases h1:32<=c
 ·have b:decide ((32:Int)<=(({cps:=#[c]}:Str).cps.getD 0 0:Nat))=true:=τ (by rw [e0];omega)
  rw [b]
  refine bU ⟨_,_,ϱ,ϱ,_,ϱ,?_⟩
  by_cases h2:c<=126
  ·have d:decide (((({cps:=#[c]}:Str).cps.getD 0 0:Nat):Int)<=126)=true:=τ (by rw [e0];omega)
   rw [d]
   refine bU ⟨_,ϱ,ϱ,?_⟩
   have g:(!decide (V.int (({cps:=#[c]}:Str).cps.getD 0 0:Nat)=V.int 37))=(decide (32<=c)&&decide (c<=126)&&decide (c≠37)):=by
    rw [τ h1,τ h2,pf,e0]
    by_cases h3:c=37
    ·subst h3;rfl
    ·have:((c:Int)==37)=false:=beq_eq_false_iff_ne.mpr ω
     rw [this,τ h3];rfl
   rw [g]
   exact q
  ·have d:decide (((({cps:=#[c]}:Str).cps.getD 0 0:Nat):Int)<=126)=false:=Γ (by rw [e0];omega)
   rw [d]
   refine aM ?_
   rw [Γ h2,Bool.and_false,Bool.false_and] at q
   exact q
 ·have b:decide ((32:Int)<=(({cps:=#[c]}:Str).cps.getD 0 0:Nat))=false:=Γ (by rw [e0];omega)
  rw [b]
  refine aM ⟨_,ϱ,aM ?_⟩
  rw [Γ h1,Bool.false_and,Bool.false_and] at q
  exact q
inductive qG (C:Addr) (vs:List V) (H:Hp) (Q:VK) (E:XK):Prop|mk p dx z:vs=[.ref p,.str z]->H p=some (.ins C dx [])->Q .non (upd (upd H p (.ins C dx (au "text" (.str z) []))) p (.ins C dx (rf z 0)))->qG C vs H Q E
theorem zM:am ["self","text"] ["self","text"] (defScope yR):=⟨ϱ,ϱ,ϱ,θ,ϱ,θ,θ⟩
theorem xX(F:Fun K "__init__" "Reader.__init__" yR f fd)(T:Tx K mg C):FnOk P w K mg base CX0 1 f fd ["self","text"] (qG C):=by
 refine F.ok zM (λvs H Q E h=>?_) (λg A d s H vs Q E i h=>?_)
 ·obtain ⟨p,b,z,rfl,_⟩:=h
  rfl
 obtain ⟨p,b,z,rfl,e,q⟩:=h
 refine ⟨_,af (aP (pv 0) (pv 1) rfl) (ai (aP (pv 0) aj rfl)),?_⟩
 exact ⟨_,ϱ,_,ϱ,p,C,b,[],ϱ,e,T.cl,T.nT,(by show 0<1000;decide),_,ϱ,p,C,b,_,ϱ,ae,T.cl,T.nP,(by show 1<1000;decide),q⟩
theorem lj(z:Str)(c k:Nat):Txt.startswith3 z ⟨#[c]⟩ (k:Int)=decide (z.cps.toList[k]?=some c):=by
 have f:fromIndex z.length (k:Int)=k:=by
  unfold fromIndex
  rw [if_neg ω]
  omega
 unfold Txt.startswith3
 rw [f]
 have e:(({cps:=#[c]}:Str)).length=1:=rfl
 rw [e]
 by_cases h:k<z.length
 ·have g:k<z.cps.size:=h
  have j:Builtin.Str.subAt z ⟨#[c]⟩ k=(z.cps[k]==c):=by
   unfold Builtin.Str.subAt
   rw [e]
   have l:z.cps.extract k (k+1)=#[z.cps[k]]:=by
    apply Array.ext
    ·simp;omega
    ·intro i h1 m
     have:i=0:=by simp at m;omega
     subst this
     simp
   rw [l]
   simp
  rw [j]
  have b:decide (k+1<=z.length)=true:=τ h
  rw [b,Bool.true_and]
  have d:z.cps.toList[k]?=some z.cps[k]:=by rw [Array.getElem?_toList];exact Array.getElem?_eq_getElem g
  rw [d]
  simp [Bool.beq_eq_decide_eq]
 ·have b:decide (k+1<=z.length)=false:=Γ ω
  rw [b,Bool.false_and]
  have d:z.cps.toList[k]?=none:=by rw [Array.getElem?_toList];exact Array.getElem?_eq_none (by show z.length<=k;omega)
  rw [d]
  simp
inductive qB (C:Addr) (vs:List V) (H:Hp) (Q:VK) (E:XK):Prop|mk p dx z c:∀(k:Nat),vs=[.ref p,.str ⟨#[c]⟩]->H p=some (.ins C dx (rf z k))->((if z.cps.toList[k]?=some c then Q (.bl true) (upd H p (.ins C dx (rf z ((k+1:Nat):Int)))) else Q (.bl false) H))->qB C vs H Q E
theorem zL:am ["self","sign"] ["self","sign"] (defScope yQ):=⟨ϱ,ϱ,ϱ,θ,ϱ,θ,θ⟩
theorem xO(F:Fun K "passes" "Reader.passes" yQ f fd)(T:Tx K mg C):FnOk P w K mg base CX0 1 f fd ["self","sign"] (qB C):=by
 refine F.ok zL (λvs H Q E h=>?_) (λi A g s H vs Q E j h=>?_)
 ·obtain ⟨p,b,z,c,k,rfl,_⟩:=h
  rfl
 obtain ⟨p,b,z,c,k,rfl,d,q⟩:=h
 refine ⟨_,af (aH (iF (ci (iw PySem.F.plainAttrs_str PySem.F.slot_str_startswith PySem.F.type_str_startswith lX (ap (pv 0) rfl) (ac (pv 1) (ac (ap (pv 0) rfl) ag))))) (ai (aw lR)) aA)
  (af (mT (pv 0) aj wp) (ai (aw lR))),?_⟩
 refine ⟨_,ϱ,p,C,b,_,_,ϱ,d,T.cl,T.nT,hX _ _,ϱ,_,ϱ,_,ϱ,p,C,b,_,_,ϱ,d,T.cl,T.nP,cw _ _,_,_,_,ϱ,ϱ,_,ϱ,?_⟩
 rw [lj]
 by_cases hk:z.cps.toList[k]?=some c
 ·rw [if_pos hk] at q
  rw [τ hk]
  refine aM ?_
  refine ⟨_,ϱ,p,C,b,_,_,ϱ,d,T.cl,T.nP,cw _ _,_,_,ϱ,ϱ,b,_,d,(by rw [qM];decide),?_⟩
  rw [qL]
  have e:((k:Int)+1)=((k+1:Nat):Int):=by omega
  rw [e]
  exact q
 ·rw [if_neg hk] at q
  rw [Γ hk]
  exact bU q
end
theorem kK{x y:Str}(h:x.cps.toList=y.cps.toList):x=y:=by
 obtain ⟨a⟩:=x
 obtain ⟨b⟩:=y
 have:a=b:=Array.toList_inj.mp h
 rw [this]
theorem jb(z:Str):z.length=z.cps.toList.length:=by simp [Str.length]
theorem mL{z:Str}{pre d b:List Nat}(e:z.cps.toList=pre++d++b):Txt.slice z (some ((pre.length:Nat):Int)) (some (((pre.length+d.length:Nat)):Int))=⟨d.toArray⟩:=by
 have h:z.cps.toList.length=pre.length+d.length+b.length:=by rw [e];simp;omega
 have q:=PyProof.Rows.slice_closes (x:=z) (i:=((pre.length:Nat):Int)) (j:=((pre.length+d.length:Nat):Int)) ⟨ω,ω,ω⟩
 rw [eq_of_beq q]
 refine kK ?_
 have f:(((pre.length+d.length:Nat):Int)-((pre.length:Nat):Int)).toNat=d.length:=by omega
 have g:(((pre.length:Nat):Int)).toNat=pre.length:=by omega
 rw [f,g,e,List.append_assoc,List.drop_left,List.take_left]
theorem qI{z:Str}{pre d b:List Nat}{i j:Int}(e:z.cps.toList=pre++d++b)(f:i=((pre.length:Nat):Int))(g:j=((pre.length+d.length:Nat):Int)):Txt.slice z (some i) (some j)=⟨d.toArray⟩:=by
 subst f g
 exact mL e
theorem w8:∀c:Nat,c<128->Unicode.isDigit c=qb c:=by decide +kernel
theorem jU{c:Nat}(h:c<128):Txt.isdigit ⟨#[c]⟩=qb c:=by
 rw [← w8 c h]
 unfold Txt.isdigit
 simp [Str.length]
def wV(ds:List Nat):Prop:=AllDigits ds/\ds≠[]/\ds.length<=400/\(ds=[48]\/∀c r,ds=c::r->c≠48)
def sG(post:List Nat):Prop:=∀c r,post=c::r->c<128/\qb c=false
def But(p:Addr)(H H':Hp):Prop:=∀b o,H b=some o->b≠p->H' b=some o
theorem But.refl(p:Addr)(H:Hp):But p H H:=λ_ _ e _=>e
theorem But.upd{p:Addr}{H H':Hp}(h:But p H H')(o:HO):But p H (L2.upd H' p o):=λb u e n=>by rw [ao n];exact h b u e n
theorem But.trans{p:Addr}{H H1 H2:Hp}(a:But p H H1)(b:But p H1 H2):But p H H2:=λc o e n=>b c o (a c o e n) n
theorem xk(x y:Str):Txt.startswith x y=Txt.startswith3 x y ((0:Nat):Int):=by
 unfold Txt.startswith Txt.startswith3
 have e:fromIndex x.length ((0:Nat):Int)=0:=by unfold fromIndex;simp
 rw [e]
section
variable {P:Program}{w:World}{K:Frag}{mg:Str->Option Value}{base:Heap}{f C:Addr}{fd:FuncData}
inductive rO (C:Addr) (vs:List V) (H:Hp) (Q:VK) (E:XK):Prop|mk p dx z pre ds post:vs=[.ref p]->z.cps.toList=pre++ds++post->H p=some (.ins C dx (rf z (pre.length:Nat)))->z.length<=100000->wV ds->sG post->(∀H',H' p=some (.ins C dx (rf z ((pre.length+ds.length:Nat):Int)))->But p H H'->Q (.int (digitsVal ds:Nat)) H')->rO C vs H Q E
theorem scNum:am ["self","start","figures"] ["self"] (defScope BC):=⟨ϱ,ϱ,ϱ,θ,ϱ,θ,θ⟩
theorem yz:(Str.ofString "")=⟨#[]⟩:=by decide +kernel
theorem wA:(Str.ofString "0")=⟨#[48]⟩:=by decide +kernel
def pE(K:Frag):TT:=Bu (yK (tOp (rI0 λi j=>.bl (decide (i<j))) (sP K (qt 0) "place") (tCB (λxs H Q=>∃z,xs=[.str z]/\z.length<=sizeLine/\Q (.int z.length) H) (yM (sP K (qt 0) "text") uB))))
 (tB (Br K "str" (λx vs H Q=>∃z,x=.str z/\vs=[]/\Q (.bl (Txt.isdigit z)) H) (tOp BH (sP K (qt 0) "text") (sP K (qt 0) "place"))))
theorem v9{p l:Addr}{z:Str}{pre d b:List Nat}{j:Nat}{σ:St}{H1:Hp}{R:Bool->Hp->Prop}(T:Tx K mg C)(q:z.cps.toList=pre++d++b)(hz:z.length<=100000)(y:AllDigits d)(u:sG b)(G:j<=d.length)
  (e0:σ[0]?=some (some (.ref p)))(e:H1 p=some (.ins C l (rf z ((pre.length+j:Nat):Int))))(h:R (decide (j<d.length)) H1):pE K σ H1 R:=by
 have D:=i9
 have F:z.length=pre.length+d.length+b.length:=by rw [jb,q];simp;omega
 refine ⟨_,e0,p,C,l,_,_,ϱ,e,T.cl,T.nP,cw _ _,_,e0,p,C,l,_,_,ϱ,e,T.cl,T.nT,hX _ _,_,ϱ,ω,_,_,ϱ,ϱ,_,ϱ,?_⟩
 by_cases hlt:(pre.length+j:Nat)<z.length
 ·rw [τ (show (((pre.length+j:Nat)):Int)<((z.length:Nat):Int) by omega)]
  have g:pre.length+j<z.cps.toList.length:=by rw [← jb];exact hlt
  obtain ⟨c,f⟩:∃c,z.cps.toList[pre.length+j]?=some c:=⟨_,ξ g⟩
  refine bU ⟨_,e0,p,C,l,_,_,ϱ,e,T.cl,T.nT,hX _ _,_,e0,p,C,l,_,_,ϱ,e,T.cl,T.nP,cw _ _,z,_,c,ϱ,ϱ,ω,aV f,ϱ,_,ϱ,ϱ,_,ϱ,?_⟩
  by_cases hjd:j<d.length
  ·have m:d[j]?=some c:=by
    rw [q,List.append_assoc,List.getElem?_append_right ω,List.getElem?_append_left ω] at f
    rw [← f];congr 1;omega
   have w:48<=c/\c<=57:=y c (List.mem_of_getElem? m)
   have o:Txt.isdigit ⟨#[c]⟩=true:=by rw [jU ω];unfold qb;rw [decide_eq_true w.1,decide_eq_true w.2];rfl
   rw [τ hjd] at h
   rw [o]
   exact h
  ·have x:j=d.length:=by omega
   have m:b[0]?=some c:=by
    rw [q,List.getElem?_append_right (by rw [List.length_append];omega)] at f
    rw [← f];congr 1;rw [List.length_append];omega
   have i:c<128/\qb c=false:=by
    cases b with
    | nil=>cases m
    | cons a r=>exact u c r (by rw [show a=c by simpa using m])
   have o:Txt.isdigit ⟨#[c]⟩=false:=by rw [jU i.1];exact i.2
   rw [Γ hjd] at h
   rw [o]
   exact h
 ·rw [Γ (show ¬(((pre.length+j:Nat)):Int)<((z.length:Nat):Int) by omega)]
  rw [Γ (show ¬j<d.length by omega)] at h
  exact aM h
theorem Ab(F:Fun K "read_number" "Reader.read_number" BC f fd)(T:Tx K mg C):FnOk P w K mg base CX0 1 f fd ["self"] (rO C):=by
 refine F.ok scNum (λvs H Q E h=>?_) (λa5 A J s H vs Q E hr h=>?_)
 ·obtain ⟨p,o,z,g,b,l,rfl,_⟩:=h
  rfl
 obtain ⟨p,o,z,g,b,l,rfl,y,O,Y,D,G,q⟩:=h
 obtain ⟨U,I,d3,Z⟩:=D
 have hu:=i9
 have lz:z.length=g.length+b.length+l.length:=by rw [jb,y];simp;omega
 refine ⟨_,af (aB (i:=1) scNum.nd rfl (Or.inl rfl) (ap (pv 0) rfl))
  (af (u9 (tc:=pE K) PassesOwn.never (PW.pt (dD (ay pQ (ap (pv 0) rfl) (aL bD rfl T.len PySem.boot_len (ac (ap (pv 0) rfl) ag)) (ax _))
    (fR (ci (z5 PySem.F.plainAttrs_str PySem.F.slot_str_isdigit PySem.F.type_str_isdigit qV (az wm (ap (pv 0) rfl) (ap (pv 0) rfl) (λ_ _=>rfl)))))))
   (ai (mT (pv 0) aj wp)))
  (af (aB (i:=2) scNum.nd rfl (Or.inl rfl) (lP uP (ap (pv 0) rfl) (h9 (pv 1)) (h9 (ap (pv 0) rfl))))
  (af (aH (ay bw (pv 2) aC (ax _)) aE aA)
  (af (aH (ay mY (aL bD rfl T.len PySem.boot_len (ac (pv 2) ag)) (oZ T.cFig rfl) (ax _)) aE aA)
  (af (aH (PW.pt (dD (ci (iw PySem.F.plainAttrs_str PySem.F.slot_str_startswith PySem.F.type_str_startswith mz (pv 2) (ac aC ag))) (fR (ay mV (pv 2) aC (ax _))))) aE aA)
  (ai (aw (bp cA rfl T.int PyProof.Rows.boot_int (ac (pv 2) ag))))))))),?_⟩
 refine ⟨_,ϱ,p,C,o,_,_,ϱ,O,T.cl,T.nP,cw _ _,?_⟩
 refine ⟨λm σ H1=>∃j,m=b.length-j/\j<=b.length/\σ=[some (.ref p),some (.int (g.length:Nat)),none]/\H1 p=some (.ins C o (rf z ((g.length+j:Nat):Int)))/\But p H H1,
  ⟨b.length,0,ϱ,ϖ _,ϱ,O,But.refl p H⟩,?_⟩
 rintro m σ H1 ⟨j,rfl,hj,rfl,d,L⟩
 refine v9 T y Y U G hj rfl d ?_
 by_cases hjd:j<b.length
 ·rw [τ hjd]
  refine bU ⟨_,fun σ' H' h=>h,?_⟩
  refine ⟨_,ϱ,p,C,o,_,_,ϱ,d,T.cl,T.nP,cw _ _,_,_,ϱ,ϱ,o,_,d,(by rw [qM];decide),?_⟩
  refine ⟨b.length-(j+1),ω,j+1,ϱ,hjd,ϱ,?_,L.upd _⟩
  rw [ae,qL]
  have e:(((g.length+j:Nat)):Int)+1=((g.length+(j+1):Nat):Int):=by omega
  rw [e]
 ·rw [Γ hjd]
  obtain rfl:j=b.length:=by omega
  refine aM ?_
  refine ⟨_,ϱ,p,C,o,_,_,ϱ,d,T.cl,T.nT,hX _ _,_,ϱ,_,ϱ,_,ϱ,p,C,o,_,_,ϱ,d,T.cl,T.nP,cw _ _,_,ϱ,z,ϱ,ω,?_⟩
  rw [mL y]
  have u:(({cps:=b.toArray}:Str)).length=b.length:=by simp [Str.length]
  refine ⟨_,ϱ,ϱ,_,ϱ,?_⟩
  have n1:¬(V.str ({cps:=b.toArray}:Str)=V.str (Str.ofString "")):=by
   intro e
   have W:(({cps:=b.toArray}:Str))=Str.ofString "":=by injection e
   rw [yz] at W
   have e2:=congrArg (λs:Str=>s.cps.toList) W
   exact I (by simpa using e2)
  rw [Γ n1]
  refine aM ?_
  refine ⟨_,ϱ,_,ϱ,ω,_,_,ϱ,ϱ,_,ϱ,?_⟩
  rw [Γ (show ¬((400:Int)<((({cps:=b.toArray}:Str)).length:Nat)) by rw [u];omega)]
  refine aM ?_
  have X:PySem.intText? ({cps:=b.toArray}:Str)=some ((digitsVal b:Nat):Int):=by
   have:=intText_digits (x:=({cps:=b.toArray}:Str)) (by simpa using U) (by simpa using I) (by rw [u];omega)
   simpa using this
  refine ⟨_,ϱ,ϱ,_,_,ϱ,ϱ,_,ϱ,?_⟩
  have hs:Txt.startswith ({cps:=b.toArray}:Str) (Str.ofString "0")=decide (b[0]?=some 48):=by
   rw [wA,xk,lj]
  rw [hs]
  rcases Z with e4 | h4
  ·subst e4
   refine bU ⟨_,ϱ,ϱ,_,ϱ,?_⟩
   have n3:V.str ({cps:=([48]:List Nat).toArray}:Str)=V.str (Str.ofString "0"):=by rw [wA]
   rw [τ n3]
   exact aM ⟨_,ϱ,_,_,ϱ,X,by rw [u];omega,q H1 d L⟩
  ·have n4:¬b[0]?=some 48:=by
    cases b with
    | nil=>exact absurd rfl I
    | cons c r=>intro e;exact h4 c r rfl (by simpa using e)
   rw [Γ n4]
   exact aM (aM ⟨_,ϱ,_,_,ϱ,X,by rw [u];omega,q H1 d L⟩)
inductive oj (C:Addr) (vs:List V) (H:Hp) (Q:VK) (E:XK):Prop|mk p dx z pre ws post:vs=[.ref p,.int ((ws:List Nat).length:Nat)]->z.cps.toList=pre++ws++post->H p=some (.ins C dx (rf z (pre.length:Nat)))->z.length<=100000->ws.length<=2000->(∀H',H' p=some (.ins C dx (rf z ((pre.length+ws.length:Nat):Int)))->But p H H'->Q (.str ⟨ws.toArray⟩) H')->oj C vs H Q E
theorem scSigns:am ["self","many","behind","signs"] ["self","many"] (defScope uY):=⟨ϱ,ϱ,ϱ,θ,ϱ,θ,θ⟩
theorem vz(F:Fun K "read_signs" "Reader.read_signs" uY f fd)(T:Tx K mg C):FnOk P w K mg base CX0 1 f fd ["self","many"] (oj C):=by
 refine F.ok scSigns (λvs H Q E h=>?_) (λx A o s H vs Q E J h=>?_)
 ·obtain ⟨p,e,z,b,g,d,rfl,_⟩:=h
  rfl
 obtain ⟨p,e,z,b,g,d,rfl,r,j,y,D,q⟩:=h
 have G:=i9
 have I:z.length=b.length+g.length+d.length:=by rw [jb,r];simp;omega
 refine ⟨_,af (aB (i:=2) scSigns.nd rfl (Or.inl rfl) (aG cQ (ap (pv 0) rfl) (pv 1)))
  (af (aH (ay mY (pv 1) (oZ T.cSig rfl) (ax _)) aE aA)
  (af (aH (ay mY (pv 2) (aL bD rfl T.len PySem.boot_len (ac (ap (pv 0) rfl) ag)) (ax _)) aE aA)
  (af (aB (i:=3) scSigns.nd rfl (Or.inl rfl) (lP uP (ap (pv 0) rfl) (h9 (ap (pv 0) rfl)) (h9 (pv 2))))
  (af (aP (pv 0) (pv 2) rfl)
  (ai (aw (pv 3))))))),?_⟩
 refine ⟨_,ϱ,p,C,e,_,_,ϱ,j,T.cl,T.nP,cw _ _,_,ϱ,_,_,ϱ,ϱ,?_⟩
 refine ⟨_,ϱ,_,_,ϱ,ϱ,_,ϱ,?_⟩
 rw [Γ (show ¬((2000:Int)<((g.length:Nat):Int)) by omega)]
 refine aM ⟨_,ϱ,_,ϱ,p,C,e,_,_,ϱ,j,T.cl,T.nT,hX _ _,z,ϱ,ω,_,_,ϱ,ϱ,_,ϱ,?_⟩
 have m:((b.length:Nat):Int)+((g.length:Nat):Int)=((b.length+g.length:Nat):Int):=by omega
 rw [m]
 rw [Γ (show ¬(((z.length:Nat):Int)<((b.length+g.length:Nat):Int)) by omega)]
 refine aM ⟨_,ϱ,p,C,e,_,_,ϱ,j,T.cl,T.nT,hX _ _,_,ϱ,p,C,e,_,_,ϱ,j,T.cl,T.nP,cw _ _,_,ϱ,_,ϱ,_,ϱ,z,ϱ,ω,?_⟩
 have u:=qI r rfl m
 rw [m] at u
 rw [u]
 refine ⟨_,ϱ,_,ϱ,p,C,e,_,ϱ,j,T.cl,T.nP,(by rw [qM];decide),_,ϱ,?_⟩
 refine q _ ?_ ((But.refl p H).upd _)
 rw [ae,← m]
 exact congrArg (λl=>some (HO.ins C e l)) (qL z _ _)
inductive oy (C:Addr) (vs:List V) (H:Hp) (Q:VK) (E:XK):Prop|mk p dx z pre ds post:vs=[.ref p]->z.cps.toList=pre++ds++post->H p=some (.ins C dx (rf z (pre.length:Nat)))->z.length<=100000->wV ds->sG post->digitsVal ds≠0->(∀H',H' p=some (.ins C dx (rf z ((pre.length+ds.length:Nat):Int)))->But p H H'->Q (.int (-((digitsVal ds:Nat):Int))) H')->oy C vs H Q E
theorem scBelow:am ["self","number"] ["self"] (defScope uZ):=⟨ϱ,ϱ,ϱ,θ,ϱ,θ,θ⟩
theorem v7{x:Addr}{y:FuncData}(F:Fun K "read_below" "Reader.read_below" uZ f fd)(T:Tx K mg C)(W:FnOk P w K mg base CX0 1 x y ["self"] (rO C))(X:Binds K y ["self"] [])(Y:fm K C "read_number" x) :
  FnOk P w K mg base CX0 2 f fd ["self"] (oy C):=by
 refine F.ok scBelow (λvs H Q E h=>?_) (λL A o s H vs Q E O h=>?_)
 ·obtain ⟨p,g,z,d,j,b,rfl,_⟩:=h
  rfl
 obtain ⟨p,g,z,d,j,b,rfl,D,u,G,l,m,I,q⟩:=h
 refine ⟨_,af (aB (i:=1) scBelow.nd rfl (Or.inl rfl) (iY (pv 0) T.cl Y W O X .nil aW))
  (af (aH (ay bw (pv 1) aj (ax _)) aE aA)
  (ai (aw (BJ zk (pv 1))))),?_⟩
 refine ⟨_,ϱ,p,g,_,ϱ,u,mO _ _ θ θ,p,g,z,d,j,b,ϱ,D,u,G,l,m,λH1 r U=>?_⟩
 refine ⟨_,ϱ,ϱ,_,ϱ,?_⟩
 have J:¬(V.int ((digitsVal j:Nat):Int)=V.int 0):=by intro e;injection e with e;omega
 rw [Γ J]
 exact aM ⟨_,ϱ,_,ϱ,q H1 r U⟩
end
inductive yJ:List Nat->V->Prop where
 | num (n:Int) (h:n.natAbs<10 ^ 400):yJ (bX n) (.int n)
 | txt (ws:List Nat) (h:ws.length<=2000):yJ (bq ws.length++58::ws) (.str ⟨ws.toArray⟩)
def Ends(post:List Nat):Prop:=∀c r,post=c::r->c=32\/c=41
theorem mh(m:Nat)(h:m<10 ^ 400):wV (bq m):=by
 refine ⟨fD m,je m,mi ζ h,?_⟩
 by_cases h0:m=0
 ·subst h0;exact .inl tY
 ·exact .inr (tZ m h0)
theorem Ends.stops{post:List Nat}(h:Ends post):sG post:=λc r e=>by
 rcases h c r e with rfl | rfl<;>exact ⟨ζ,ζ⟩
theorem rj:(Str.ofString "(")=⟨#[40]⟩:=by decide +kernel
theorem pd:(Str.ofString "-")=⟨#[45]⟩:=by decide +kernel
theorem sC:(Str.ofString ":")=⟨#[58]⟩:=by decide +kernel
theorem rC{z:Str}{pre rest:List Nat}(e:z.cps.toList=pre++rest):z.cps.toList[pre.length]?=rest[0]?:=by
 rw [e,List.getElem?_append_right (ι _),Nat.sub_self]
theorem nI(m:Nat):∃c r,bq m=c::r/\48<=c/\c<=57:=by
 cases e:bq m with
 | nil=>exact absurd e (je m)
 | cons c r =>
  have h:=fD m
  rw [e] at h
  exact ⟨c,r,ϱ,h.head⟩
section
variable {P:Program}{w:World}{K:Frag}{mg:Str->Option Value}{base:Heap}{f C:Addr}{fd:FuncData}
inductive uO (C:Addr) (vs:List V) (H:Hp) (Q:VK) (E:XK):Prop|mk p dx z pre it post v d:vs=[.ref p,d]->z.cps.toList=pre++it++post->H p=some (.ins C dx (rf z ((pre:List Nat).length:Nat)))->z.length<=100000->yJ it v->Ends post->(∀H',H' p=some (.ins C dx (rf z ((pre.length+it.length:Nat):Int)))->But p H H'->Q v H')->uO C vs H Q E
theorem scAny:am ["self","deep","number"] ["self","deep"] (defScope BF):=⟨ϱ,ϱ,ϱ,θ,ϱ,θ,θ⟩
theorem An{fP fB fN fS:Addr}{dP dB dN dS:FuncData}(F:Fun K "read_any" "Reader.read_any" BF f fd)(T:Tx K mg C)
  (GP:FnOk P w K mg base CX0 1 fP dP ["self","sign"] (qB C))(bP:Binds K dP ["self","sign"] [])(mP:fm K C "passes" fP)
  (GB:FnOk P w K mg base CX0 2 fB dB ["self"] (oy C))(bB:Binds K dB ["self"] [])(mB:fm K C "read_below" fB)
  (GN:FnOk P w K mg base CX0 1 fN dN ["self"] (rO C))(bN:Binds K dN ["self"] [])(mN:fm K C "read_number" fN)
  (GS:FnOk P w K mg base CX0 1 fS dS ["self","many"] (oj C))(bS:Binds K dS ["self","many"] [])(mS:fm K C "read_signs" fS) :
  FnOk P w K mg base CX0 3 f fd ["self","deep"] (uO C):=by
 refine F.ok scAny (λvs H Q E h=>?_) (λbi A X s H vs Q E hr h=>?_)
 ·obtain ⟨p,g,z,pre,it,b,v,d,rfl,_⟩:=h
  rfl
 obtain ⟨p,g,z,pre,it,b,v,d,rfl,x,l,J,L,y,q⟩:=h
 have o:=hr.mono (show 1<=2 by decide)
 have u:∀(k:Int),(rf z k).lookup ("passes":Str)=none:=λk=>mO _ _ θ θ
 have nn:∀(k:Int),(rf z k).lookup ("read_number":Str)=none:=λk=>mO _ _ θ θ
 have nb:∀(k:Int),(rf z k).lookup ("read_below":Str)=none:=λk=>mO _ _ θ θ
 have ns:∀(k:Int),(rf z k).lookup ("read_signs":Str)=none:=λk=>mO _ _ θ θ
 refine ⟨_,af (aH (ci (ib (pv 0) T.cl mP GP o bP .nil aW (ac aC ag))) aE aA)
  (af (aH (ci (ib (pv 0) T.cl mP GP o bP .nil aW (ac aC ag))) (ai (aw (iY (pv 0) T.cl mB GB hr bB .nil aW))) aA)
  (af (aB (i:=2) scAny.nd rfl (Or.inl rfl) (iY (pv 0) T.cl mN GN o bN .nil aW))
  (af (aH (ci (ib (pv 0) T.cl mP GP o bP .nil aW (ac aC ag))) (ai (aw (ib (pv 0) T.cl mS GS o bS .nil aW (ac (pv 2) ag)))) aA)
  (ai (aw (pv 2)))))),?_⟩
 have D:z.cps.toList=pre++(it++b):=by rw [x,List.append_assoc]
 have h0:=rC D
 cases L with
 | num n hn =>
  by_cases hneg:n<0
  ·have en:bX n=45::bq n.natAbs:=by unfold bX;rw [if_pos hneg]
   rw [en] at x D q h0
   have j:z.cps.toList[pre.length]?=some 45:=h0
   refine ⟨_,ϱ,p,g,_,ϱ,l,u _,p,g,z,40,pre.length,(by rw [rj];rfl),l,?_⟩
   rw [if_neg (by rw [j];decide)]
   refine ⟨_,ϱ,aM ?_⟩
   refine ⟨_,ϱ,p,g,_,ϱ,l,u _,p,g,z,45,pre.length,(by rw [pd];rfl),l,?_⟩
   rw [if_pos j]
   refine ⟨_,ϱ,bU ?_⟩
   refine ⟨_,ϱ,p,g,_,ϱ,ae,nb _,p,g,z,pre++[45],bq n.natAbs,b,ϱ,(by rw [x];simp),(by rw [ae];simp),J,mh _ hn,y.stops,(by rw [fz];omega),λH' Y I=>?_⟩
   have U:(-((digitsVal (bq n.natAbs):Nat):Int))=n:=by rw [fz];omega
   rw [U]
   refine q H' ?_ (((But.refl p H).upd _).trans I)
   rw [Y]
   have W:(pre++[45]).length+(bq n.natAbs).length=pre.length+(45::bq n.natAbs).length:=by simp;omega
   rw [W]
  ·have en:bX n=bq n.natAbs:=by unfold bX;rw [if_neg hneg]
   rw [en] at x D q h0
   obtain ⟨c,r,O,hc⟩:=nI n.natAbs
   have j:z.cps.toList[pre.length]?=some c:=by rw [h0,O];rfl
   refine ⟨_,ϱ,p,g,_,ϱ,l,u _,p,g,z,40,pre.length,(by rw [rj];rfl),l,?_⟩
   rw [if_neg (by rw [j];intro e;injection e with e;omega)]
   refine ⟨_,ϱ,aM ?_⟩
   refine ⟨_,ϱ,p,g,_,ϱ,l,u _,p,g,z,45,pre.length,(by rw [pd];rfl),l,?_⟩
   rw [if_neg (by rw [j];intro e;injection e with e;omega)]
   refine ⟨_,ϱ,aM ?_⟩
   refine ⟨_,ϱ,p,g,_,ϱ,l,nn _,p,g,z,pre,bq n.natAbs,b,ϱ,x,l,J,mh _ hn,y.stops,λH1 m I=>?_⟩
   have h1:z.cps.toList[pre.length+(bq n.natAbs).length]?=b[0]?:=by
    have:=rC (z:=z) (pre:=pre++bq n.natAbs) (rest:=b) x
    rw [List.length_append] at this
    exact this
   refine ⟨_,ϱ,p,g,_,ϱ,m,u _,p,g,z,58,pre.length+(bq n.natAbs).length,(by rw [sC];rfl),m,?_⟩
   rw [if_neg (by
    rw [h1]
    intro e
    cases b with
    | nil=>cases e
    | cons a r' =>
     have:=y a r' rfl
     have ea:a=58:=by simpa using e
     omega)]
   refine ⟨_,ϱ,aM ⟨_,ϱ,?_⟩⟩
   have U:((digitsVal (bq n.natAbs):Nat):Int)=n:=by rw [fz];omega
   rw [U]
   exact q H1 m I
 | txt ws hw =>
  obtain ⟨c,r,O,hc⟩:=nI ws.length
  have j:z.cps.toList[pre.length]?=some c:=by rw [h0,O];rfl
  refine ⟨_,ϱ,p,g,_,ϱ,l,u _,p,g,z,40,pre.length,(by rw [rj];rfl),l,?_⟩
  rw [if_neg (by rw [j];intro e;injection e with e;omega)]
  refine ⟨_,ϱ,aM ?_⟩
  refine ⟨_,ϱ,p,g,_,ϱ,l,u _,p,g,z,45,pre.length,(by rw [pd];rfl),l,?_⟩
  rw [if_neg (by rw [j];intro e;injection e with e;omega)]
  refine ⟨_,ϱ,aM ?_⟩
  have hl:ws.length<10 ^ 400:=Nat.lt_of_le_of_lt hw θ
  have G:z.cps.toList=pre++bq ws.length++(58::(ws++b)):=by rw [x];simp
  refine ⟨_,ϱ,p,g,_,ϱ,l,nn _,p,g,z,pre,bq ws.length,58::(ws++b),ϱ,G,l,J,mh _ hl,λc' r' e=>(by cases e;exact ⟨ζ,ζ⟩),λH1 m I=>?_⟩
  have h1:z.cps.toList[pre.length+(bq ws.length).length]?=some 58:=by
   have:=rC (z:=z) (pre:=pre++bq ws.length) (rest:=58::(ws++b)) G
   rw [List.length_append] at this
   exact this
  refine ⟨_,ϱ,p,g,_,ϱ,m,u _,p,g,z,58,pre.length+(bq ws.length).length,(by rw [sC];rfl),m,?_⟩
  rw [if_pos h1]
  refine ⟨_,ϱ,bU ?_⟩
  have el:(pre++bq ws.length++[58]).length=pre.length+(bq ws.length).length+1:=by simp;omega
  refine ⟨_,ϱ,p,g,_,ϱ,ae,ns _,_,ϱ,p,g,z,pre++bq ws.length++[58],ws,b,(by rw [fz];rfl),(by rw [G];simp),(by rw [ae,el]),J,hw,λH2 Z a0=>?_⟩
  refine q H2 ?_ ((I.upd _).trans a0)
  rw [Z]
  have W:(pre++bq ws.length++[58]).length+ws.length=pre.length+(bq ws.length++58::ws).length:=by simp;omega
  rw [W]
inductive qz (vs:List V) (H:Hp) (Q:VK) (E:XK):Prop|mk z v:vs=[.str z]->yJ z.cps.toList v->((∀c∈z.cps.toList,qS c=true))->z.length<=100000->(∀H',Same H H'->Q v H')->qz vs H Q E
theorem scRead:am ["text","reader","thing"] ["text"] (defScope rR):=⟨ϱ,ϱ,ϱ,θ,ϱ,θ,θ⟩
def u6:Scope:=match defBody rR with
 | _::.If (.UnaryOp _ (.Call _ [.ListComp _ _ sc _] _ _) _) _ _ _::_=>sc
 | _=>default
theorem zN:a9 ["text","reader","thing"] (defScope rR) u6 "sign" ["sign"] []:=⟨θ,ϱ,θ,ϱ,θ,θ,ϱ,ϱ,λj h=>absurd h (Nat.not_lt_zero j)⟩
theorem xM{X Z fA:Addr}{dG dI dA:FuncData}(F:Fun K "read_thing" "read_thing" rR f fd)(T:Tx K mg C)(M:Mk K C Z)
  (GG:FnOk P w K mg base CX0 1 X dG ["sign"] qy)(bG:Binds K dG ["sign"] [])(kG:PySem.W.keepIn K (.ref X)=true)(mG:mg "is_sign"=some (.ref X))
  (GI:FnOk P w K mg base CX0 1 Z dI ["self","text"] (qG C))(bI:Binds K dI ["self","text"] [])
  (GA:FnOk P w K mg base CX0 3 fA dA ["self","deep"] (uO C))(bA:Binds K dA ["self","deep"] [])(mA:fm K C "read_any" fA) :
  FnOk P w K mg base CX0 4 f fd ["text"] qz:=by
 refine F.ok scRead (λvs H Q E h=>?_) (λa7 A I s H vs Q E J h=>?_)
 ·obtain ⟨z,v,rfl,_⟩:=h
  rfl
 obtain ⟨z,v,rfl,j,m,hz,q⟩:=h
 have u:=J.mono (show 1<=3 by decide)
 have y:=J.mono (show 2<=3 by decide)
 have hu:=i9
 refine ⟨_,af (aH (ay mY (aL bD rfl T.len PySem.boot_len (ac (pv 0) ag)) (oZ T.cLong rfl) (ax _)) aE aA)
  (af (aH (iF (ci (aL (j9 rfl) rfl T.all PyProof.Rows.boot_all (ac (c6 zN rfl (zX (pv 0)) (λ_ _ _ _=>cX) (λ_ _ _ _=>rY GG u rfl mG kG bG .nil aW (ac (pv 0) ag))) ag)))) aE aA)
  (af (aB (i:=1) scRead.nd rfl (Or.inl rfl) (aX M GI y rfl T.mgC bI .nil aW (ac (pv 0) ag)))
  (af (aB (i:=2) scRead.nd rfl (Or.inl rfl) (ib (pv 1) T.cl mA GA J bA .nil aW (ac (oZ T.cDeep rfl) ag)))
  (af (aH (ay mV (ap (pv 1) rfl) (aL bD rfl T.len PySem.boot_len (ac (pv 0) ag)) (ax _)) aE aA)
  (ai (aw (pv 2))))))),?_⟩
 refine ⟨_,ϱ,z,ϱ,ω,_,_,ϱ,ϱ,_,ϱ,?_⟩
 rw [Γ (show ¬((100000:Int)<((z.length:Nat):Int)) by omega)]
 refine aM ?_
 refine ⟨_,ϱ,z,ϱ,λi Y H1=>i<=z.length/\Y=List.replicate i (V.bl true)/\H1=H,z.length,⟨ϖ _,ϱ,ϱ⟩,ω,?_⟩
 rintro i Y H1 ⟨hi,rfl,rfl⟩
 by_cases hlt:i<z.length
 ·refine .inr ⟨hlt,hlt,?_⟩
  rintro x H2 ⟨rfl,c,hc,rfl⟩
  refine ⟨_,ϱ,c,ϱ,hlt,?_,ϱ⟩
  rw [m c (List.mem_of_getElem? hc),List.replicate_succ']
 refine .inl ⟨by show z.length<=i;omega,λl hl=>?_⟩
 have e0:List.replicate i (V.bl true)=(List.replicate i true).map V.bl:=by simp
 refine ⟨l,List.replicate i true,ϱ,SqL.of (by rw [ae,e0]),_,ϱ,?_⟩
 have e1:(List.replicate i true).all id=true:=by simp
 rw [e1]
 refine aM ?_
 have sl:Same H1 (upd H1 l (.lst (List.replicate i (V.bl true)))):=λb o e=>by rw [ao (aq e hl)];exact e
 refine ⟨_,ϱ,λx g nx L ak=>⟨x,g,z,ϱ,ae,ϱ,?_⟩⟩
 refine ⟨_,ϱ,x,g,_,ϱ,ae,mO _ _ θ θ,x,g,z,[],z.cps.toList,[],v,_,ϱ,(by simp),ae,hz,j,(λc r e=>nomatch e),λH3 O U=>?_⟩
 refine ⟨_,ϱ,x,C,g,_,_,ϱ,O,T.cl,T.nP,cw _ _,_,ϱ,z,ϱ,ω,ϱ,_,ϱ,?_⟩
 have e2:V.int ((([]:List Nat).length+z.cps.toList.length:Nat):Int)=V.int ((z.length:Nat):Int):=by rw [jb];simp
 rw [τ e2]
 refine aM ⟨_,ϱ,q H3 λb o e=>?_⟩
 have D:=sl b o e
 have d:b≠x:=aq D nx
 have G:b≠g:=aq D L
 refine U b o ?_ d
 rw [ao d,ao d,ao d,ao G]
 exact D
end
end K54T
namespace K54
open PySem L2 Lo St
section
variable {P:Program}{w:World}{K:Frag}{mg:Str->Option Value}{base:Heap}{f CL CS CH CV:Addr}{fd:FuncData}{C:Kd->Addr}{CW:Wd->Addr}
theorem xR(F:Fun K "made_sum" "made_sum" iE f fd)(I:WI P w K mg base CW .sum):FnOk P w K mg base CX0 4 f fd ["where","low","high"] (qE CW):=by
 refine F.ok pH (λvs H Q E h=>?_) (λo A e s H vs Q E r h=>?_)
 ·obtain ⟨x,y,z,rfl,_⟩:=h
  rfl
 obtain ⟨x,y,z,rfl,i,q⟩:=h
 have d:Room (2+1) _:=r
 refine ⟨_,af (aH (ay mY (pv 1) (pv 2) (ax _)) aE aA) (ai (aw (aX I.M I.ok d rfl I.m I.b .nil aW (ac (pv 0) (ac (pv 1) (ac (pv 2) ag)))))),?_⟩
 have l:y<=z:=i.2.2.2
 refine ⟨_,ϱ,_,ϱ,_,_,ϱ,ϱ,_,ϱ,bF (λc=>absurd (Ξ c) (show ¬z<y by omega)) (λ_=>?_)⟩
 exact ⟨_,ϱ,_,ϱ,_,ϱ,λp j u g C=>⟨p,j,[x,y,z],ϱ,i,ae,λD h1 G=>⟨ϱ,q _ D (lY u g G) ⟨p,j,ϱ,h1⟩⟩⟩⟩
theorem vG(F:Fun K "made_step" "made_step" gN f fd)(I:∀wd,WI P w K mg base CW wd)(GS:GF P w K mg base CX0 4 "made_sum" ["where","low","high"] (qE CW)):FnOk P w K mg base CX0 5 f fd ["word","numbers"] (qD CW):=by
 refine F.ok oB (λvs H Q E h=>?_) (λL A D s H vs Q E G h=>?_)
 ·obtain ⟨wd,b,J,rfl,_⟩:=h
  rfl
 obtain ⟨wd,b,J,rfl,g,i,q⟩:=h
 have j:Room (2+1) _:=G.mono ζ
 refine ⟨_,(af (aH (ay bw (pv 0) aC (ax _)) (ai (aw (aX (I .take).M (I .take).ok j rfl (I .take).m (I .take).b .nil aW (ac (az (r:=bW K) aI (pv 1) aj (λ_ _=>rfl)) (ac (az (r:=bW K) aI (pv 1) aj (λ_ _=>rfl)) ag))))) aA)
  (af (aH (ay bw (pv 0) aC (ax _)) (ai (aw (aX (I .mean).M (I .mean).ok j rfl (I .mean).m (I .mean).b .nil aW (ac (az (r:=bW K) aI (pv 1) aj (λ_ _=>rfl)) (ac (az (r:=bW K) aI (pv 1) aj (λ_ _=>rfl)) ag))))) aA)
  (af (aH (ay bw (pv 0) aC (ax _)) (ai (aw (pc GS G (ac (az (r:=bW K) aI (pv 1) aj (λ_ _=>rfl)) (ac (az (r:=bW K) aI (pv 1) aj (λ_ _=>rfl)) (ac (az (r:=bW K) aI (pv 1) aj (λ_ _=>rfl)) ag)))))) aA)
  (af (aH (ay bw (pv 0) aC (ax _)) (ai (aw (aX (I .give).M (I .give).ok j rfl (I .give).m (I .give).b .nil aW (ac (az (r:=bW K) aI (pv 1) aj (λ_ _=>rfl)) (ac (az (r:=bW K) aI (pv 1) aj (λ_ _=>rfl)) ag))))) aA)
  (af (aH (ay bw (pv 0) aC (ax _)) (ai (aw (aX (I .add).M (I .add).ok j rfl (I .add).m (I .add).b .nil aW (ac (az (r:=bW K) aI (pv 1) aj (λ_ _=>rfl)) (ac (az (r:=bW K) aI (pv 1) aj (λ_ _=>rfl)) (ac (az (r:=bW K) aI (pv 1) aj (λ_ _=>rfl)) ag)))))) aA)
  (af (aH (ay bw (pv 0) aC (ax _)) (ai (aw (aX (I .plus).M (I .plus).ok j rfl (I .plus).m (I .plus).b .nil aW (ac (az (r:=bW K) aI (pv 1) aj (λ_ _=>rfl)) ag)))) aA)
  (ai (aw (aX (I .need).M (I .need).ok j rfl (I .need).m (I .need).b .nil aW (ac (az (r:=bW K) aI (pv 1) aj (λ_ _=>rfl)) ag)))))))))),?_⟩
 refine ⟨_,ϱ,ϱ,_,ϱ,bF (λc=>?_) (λO=>?_)⟩
 ·obtain rfl:wd=.take:=iu c
  obtain ⟨x,y,rfl,_⟩:=i.c rfl
  exact ⟨_,ϱ,b,_,_,_,ϱ,ϱ,SqL.of g,ϱ,_,ϱ,b,_,_,_,ϱ,ϱ,SqL.of g,ϱ,λp e l d o=>⟨p,e,[x,y],ϱ,i,ae,λu h1 C=>⟨ϱ,q _ u (lY l d C) ⟨p,e,ϱ,h1⟩⟩⟩⟩
 refine ⟨_,ϱ,ϱ,_,ϱ,bF (λc=>?_) (λU=>?_)⟩
 ·obtain rfl:wd=.mean:=iu c
  obtain ⟨x,y,rfl,_⟩:=i.c rfl
  exact ⟨_,ϱ,b,_,_,_,ϱ,ϱ,SqL.of g,ϱ,_,ϱ,b,_,_,_,ϱ,ϱ,SqL.of g,ϱ,λp e l d o=>⟨p,e,[x,y],ϱ,i,ae,λu h1 C=>⟨ϱ,q _ u (lY l d C) ⟨p,e,ϱ,h1⟩⟩⟩⟩
 refine ⟨_,ϱ,ϱ,_,ϱ,bF (λc=>?_) (λW=>?_)⟩
 ·obtain rfl:wd=.sum:=iu c
  obtain ⟨x,y,z,rfl,_⟩:=i.s
  exact ⟨_,ϱ,b,_,_,_,ϱ,ϱ,SqL.of g,ϱ,_,ϱ,b,_,_,_,ϱ,ϱ,SqL.of g,ϱ,_,ϱ,b,_,_,_,ϱ,ϱ,SqL.of g,ϱ,x,y,z,ϱ,i,q⟩
 refine ⟨_,ϱ,ϱ,_,ϱ,bF (λc=>?_) (λX=>?_)⟩
 ·obtain rfl:wd=.give:=iu c
  obtain ⟨x,y,rfl,_⟩:=i.c rfl
  exact ⟨_,ϱ,b,_,_,_,ϱ,ϱ,SqL.of g,ϱ,_,ϱ,b,_,_,_,ϱ,ϱ,SqL.of g,ϱ,λp e l d o=>⟨p,e,[x,y],ϱ,i,ae,λu h1 C=>⟨ϱ,q _ u (lY l d C) ⟨p,e,ϱ,h1⟩⟩⟩⟩
 refine ⟨_,ϱ,ϱ,_,ϱ,bF (λc=>?_) (λY=>?_)⟩
 ·obtain rfl:wd=.add:=iu c
  obtain ⟨x,y,z,rfl,_⟩:=i.a
  exact ⟨_,ϱ,b,_,_,_,ϱ,ϱ,SqL.of g,ϱ,_,ϱ,b,_,_,_,ϱ,ϱ,SqL.of g,ϱ,_,ϱ,b,_,_,_,ϱ,ϱ,SqL.of g,ϱ,λp e l d o=>⟨p,e,[x,y,z],ϱ,i,ae,λu h1 C=>⟨ϱ,q _ u (lY l d C) ⟨p,e,ϱ,h1⟩⟩⟩⟩
 refine ⟨_,ϱ,ϱ,_,ϱ,bF (λc=>?_) (λZ=>?_)⟩
 ·obtain rfl:wd=.plus:=iu c
  obtain ⟨x,rfl,_⟩:=i.p
  exact ⟨_,ϱ,b,_,_,_,ϱ,ϱ,SqL.of g,ϱ,λp e l d o=>⟨p,e,[x],ϱ,i,ae,λu h1 C=>⟨ϱ,q _ u (lY l d C) ⟨p,e,ϱ,h1⟩⟩⟩⟩
 obtain rfl:wd=.need:=zi (dq (b:=.take) O) (dq (b:=.mean) U) (dq (b:=.sum) W) (dq (b:=.give) X) (dq (b:=.add) Y) (dq (b:=.plus) Z)
 obtain ⟨x,rfl,_⟩:=i.n
 exact ⟨_,ϱ,b,_,_,_,ϱ,ϱ,SqL.of g,ϱ,λp e l d o=>⟨p,e,[x],ϱ,i,ae,λu h1 C=>⟨ϱ,q _ u (lY l d C) ⟨p,e,ϱ,h1⟩⟩⟩⟩
theorem xL{l:Addr}{u:List Value}{new:String}(F:Fun K "read_number" "read_number" eY f fd)(B:TxB mg)(x:mg "NoThing"=some (.ref l))(L:PySem.W.excIn K l u new=true)(O:u.contains (.type "BaseException")=true)
  (U:∃t,mg "MOST_FIGURES_steps"=some (.int 40 t))(X:GF P w K mg base CX0 4 "read_thing" ["text"] K54T.qz)(Y:GF P w K mg base CX0 1 "is_whole" ["thing"] K54T.n9):FnOk P w K mg base CX0 5 f fd ["word","letter"] qA:=by
 refine F.ok sc_read_number (λvs H Q E h=>?_) (λI A g s H vs Q E m h=>?_)
 ·obtain ⟨i,c,rfl,_⟩:=h
  rfl
 obtain ⟨i,c,rfl,e,b,q⟩:=h
 have nd:=sc_read_number.nd
 refine ⟨_,af (sW (j:=2) (C:=l) rfl rfl rfl nd rfl (Or.inl rfl) (zZ (pc X m (ac (pv 0) ag))) rfl x (qr x L O) (λ_=>aE))
  (af (aH (PW.pt (pK (iF (ci (pc Y m (ac (pv 2) ag)))) (lJ (ay mY (aL bD rfl B.len PySem.boot_len (ac (iw PySem.F.plainAttrs_str PySem.F.slot_str_lstrip PySem.F.type_str_lstrip qU (pv 0) (ac aC ag)) ag)) (oZ U rfl) (ax _))))) aE aA)
  (af (aH (PW.pt (dD (ay pQ (pv 2) aj (ax _)) (fR (ay mV (pv 1) aC (ax _))))) aE aA)
  (ai (aw (pv 2))))),?_⟩
 have y:=yu e
 have h1:(100000:Nat)<=sizeLine:=by decide
 have D:=qZ e
 refine ⟨_,ϱ,iS i,.int i,ϱ,(by rw [qc];exact .num i (Nat.lt_trans e θ)),(λd o=>?_),y,λH1 r=>?_⟩
 ·rw [qc] at o
  rcases Ao o with rfl | ⟨a1,a2⟩
  ·decide
  ·show (decide _&&decide _&&_)=true
   simp
   omega
 refine ⟨_,ϱ,_,_,ϱ,ϱ,_,ϱ,aM ?_⟩
 refine ⟨_,ϱ,ϱ,iS i,_,ϱ,ϱ,ω,_,ϱ,Λ D ζ,_,_,ϱ,ϱ,_,ϱ,bF (λc=>absurd (Ξ c) (λz=>?_)) (λ_=>?_)⟩
 ·have Z:(40:Int)<(((Txt.lstripChars (iS i) (Str.ofString "-")).length:Nat):Int):=z
  omega
 refine ⟨_,ϱ,_,_,ϱ,ϱ,_,ϱ,bF (λJ=>?_) (λ_=>⟨_,ϱ,q H1 r⟩)⟩
 have G:c=86:=b (Ξ J)
 subst G
 exact ⟨_,ϱ,ϱ,_,ϱ,yX (congrArg V.str θ) ⟨_,ϱ,q H1 r⟩⟩
theorem vA(F:Fun K "read_step" "read_step" cZ f fd)(B:TxB mg){J:Addr}(mS:mg "SHAPES"=some (.ref J))(tS:TabK K J kR)(GN:GF P w K mg base CX0 5 "read_number" ["word","letter"] qA)
  (GS:GF P w K mg base CX0 5 "made_step" ["word","numbers"] (qD CW)):FnOk P w K mg base CX0 6 f fd ["text"] (hW CW):=by
 refine F.ok sc_read_step (λvs H Q E h=>?_) (λa0 A y s H vs Q E O h=>?_)
 ·obtain ⟨d,b,rfl,_⟩:=h
  rfl
 obtain ⟨d,b,rfl,g,q⟩:=h
 have nd:=sc_read_step.nd
 have m:=g.len
 have u:=xm g
 refine ⟨_,af (aB (i:=1) nd rfl (Or.inr rfl) (iw PySem.F.plainAttrs_str PySem.F.slot_str_split PySem.F.type_str_split jI (pv 0) (ac aC ag)))
  (af (aB (i:=2) nd rfl (Or.inr rfl) (xB (D:=kR) (fU (v:=.ref J) rfl mS rfl) (az (r:=bW K) aI (pv 1) aj (λ_ _=>rfl)) ⟨ϱ,ϱ,ϱ,ϱ⟩ tS))
  (af (aH (PW.pt (pK (ay lT (pv 2) cj (ax _)) (lJ (ay mV (aL be rfl B.len PySem.boot_len (ac (pv 1) ag)) (aG cQ (aL bD rfl B.len PySem.boot_len (ac (pv 2) ag)) aj) (ax _))))) aE aA)
  (ai (aw (pc GS O (ac (az (r:=bW K) aI (pv 1) aj (λ_ _=>rfl)) (ac (c6 lE rfl (bR rfl B.range (ac (aL bD rfl B.len PySem.boot_len (ac (pv 2) ag)) ag)) (λ_ _ _ _=>cX)
   (λ_ _ _ _=>pc GN O (ac (az (r:=bW K) aI (pv 1) (aG cQ (pv 0) aj) (λ_ _=>rfl)) (ac (az wm (pv 2) (pv 0) (λ_ _=>rfl)) ag)))) ag))))))),?_⟩
 refine ⟨_,ϱ,ϱ,txt d b,32,ϱ,congrArg (λz=>[V.str z]) jo,nU g,λp hp=>?_⟩
 rw [jl]
 have L:Same H _:=ah (o:=.lst ((wS d::b.map iS).map V.str)) hp
 have e:(upd H p (.lst ((wS d::b.map iS).map V.str))) p=some (.lst ((wS d::b.map iS).map V.str)):=ae
 generalize (upd H p _)=H1 at L e ⊢
 refine ⟨_,ϱ,p,_,_,_,ϱ,ϱ,SqL.of e,St.at0,wS d,shp d,ϱ,uQ d,?_⟩
 refine ⟨_,ϱ,ϱ,_,ϱ,bF (λc=>absurd (Ξ c) (by intro z;cases z)) (λ_=>?_)⟩
 refine ⟨_,ϱ,p,_,ϱ,.inl (SqL.of e),_,ϱ,_,ϱ,lr d,_,_,ϱ,ϱ,ϱ,_,ϱ,yX ?_ ?_⟩
 ·rw [u]
  simp
 refine ⟨_,ϱ,p,_,_,_,ϱ,ϱ,SqL.of e,St.at0,?_⟩
 refine ⟨_,ϱ,_,ϱ,lr d,_,ϱ,ω,by rw [u];omega,?_⟩
 have e0:(((shp d).length:Nat):Int).toNat=b.length:=by rw [u];rfl
 rw [e0]
 refine hU (n:=b.length) (λi C H'=>Same H1 H'/\C=(b.take i).map V.int) ⟨Same.refl _,ϱ⟩ (Λ m.2 ζ) ?_ ?_
 ·rintro i C H2 W ⟨l,rfl⟩
  have x:b[i]?=some b[i]:=ξ W
  obtain ⟨c,X,j⟩:=zK g x
  refine k9 ⟨_,ϱ,_,ϱ,_,_,ϱ,ϱ,p,_,_,_,ϱ,ϱ,SqL.of (l _ _ e),?_,_,ϱ,_,ϱ,_,_,_,ϱ,ϱ,lr d,aV X,b[i],c,ϱ,g.all _ (List.getElem_mem W),j,λU G=>⟨l.trans G,?_⟩⟩
  ·have Y:((i:Nat):Int)+1=((i+1:Nat):Int):=rfl
   rw [Y]
   refine aV ?_
   rw [List.map_cons,List.getElem?_cons_succ,List.map_map,List.getElem?_map,x]
   rfl
  ·have Z:b.take (i+1)=b.take i++[b[i]]:=by
    rw [List.take_add_one,x]
    rfl
   rw [Z,List.map_append]
   rfl
 ·rintro C H2 ⟨l,rfl⟩ p2 I
  rw [List.take_length]
  exact ⟨d,p2,b,ϱ,ae,g,λv U G st=>q v U (L.trans (l.trans ((ah I).trans G))) st⟩
structure Aw where
 (l dx lk pl dr an pe:Addr)
def wf(S:Addr)(home many:Int)(W:Aw):List (Str×V):=au "pending" (.ref W.pe) (au "answers" (.ref W.an) (au "drafts" (.ref W.dr) (au "locks" (.ref W.lk) (au "many" (.int many) (au "home" (.int home) (au "stand" (.ref S) []))))))
section
variable {S:Addr}{home many:Int}{W:Aw}
theorem rG:(wf S home many W).lookup ("pending":Str)=some (.ref W.pe):=bu
theorem kZ:(wf S home many W).lookup ("answers":Str)=some (.ref W.an):=by unfold wf;rw [aO θ,bu]
theorem rH:(wf S home many W).lookup ("drafts":Str)=some (.ref W.dr):=by unfold wf;rw [aO θ,aO θ,bu]
theorem uf:(wf S home many W).lookup ("locks":Str)=some (.ref W.lk):=by unfold wf;rw [aO θ,aO θ,aO θ,bu]
theorem mH:(wf S home many W).lookup ("stand":Str)=some (.ref S):=by unfold wf;rw [aO θ,aO θ,aO θ,aO θ,aO θ,aO θ,bu]
theorem gF{m:Str}(h:decide (m∈(["pending","answers","drafts","locks","many","home","stand"]:List Str))=false):(wf S home many W).lookup m=none:=by
 have b:m∉(["pending","answers","drafts","locks","many","home","stand"]:List Str):=of_decide_eq_false h
 simp only [List.mem_cons,List.not_mem_nil,or_false,not_or] at b
 obtain ⟨h1,d,e,f,g,i,j⟩:=b
 unfold wf
 rw [aO h1,aO d,aO e,aO f,aO g,aO i,aO j]
 rfl
end
structure TxV(K:Frag)(CV:Addr):Prop where
 cl:Cls K CV
 st:NoAttr K CV "stand"
 ho:NoAttr K CV "home"
 mn:NoAttr K CV "many"
 lk:NoAttr K CV "locks"
 dr:NoAttr K CV "drafts"
 an:NoAttr K CV "answers"
 pe:NoAttr K CV "pending"
def ef(dk:List (Key×V))(cells:List Int)(c:Int):Int:=match bE dk (.inl c) with | some (.int v)=>v | _=>cells.getD c.toNat 0
def DrI(dk:List (Key×V)):Prop:=∀(c:Int) (v:V),bE dk (.inl c)=some v->∃i,v=.int i
inductive iM (CS CV:Addr) (vs:List V) (H:Hp) (Q:VK) (E:XK):Prop|mk W home many A cs p pa o dk c:vs=[.ref (W:Aw).l,.ref pa,.int c]->H W.l=some (.ins CV W.dx (wf (A:Ad).l home many W))->H W.dr=some (.dT (dOf p o))->((∀x,o=some x->H x=some (.dK dk)))->((o=none->dk=[]))->DrI dk->H A.l=some (.ins CS A.dx (sf A))->H A.cl=some (.lst ((cs:List Int).map V.int))->PaA H p pa->0<=c->c<cs.length->(∀H',Same H H'->Q (.int (ef dk cs c)) H')->iM CS CV vs H Q E
theorem vx(F:Fun K "value_at" "Works.value_at" cR f fd)(D:TxD K CS)(T:TxV K CV)(GC:GM P w K mg base CX0 1 CS "cell_at" ["self","cell"] (eg CS)):FnOk P w K mg base CX0 2 f fd ["self","p","cell"] (iM CS CV):=by
 refine F.ok sc_Works_value_at (λvs H Q E h=>?_) (λa2 A I s H vs Q E z h=>?_)
 ·obtain ⟨W,m,r,A,cs,p,U,o,d,c,rfl,_⟩:=h
  rfl
 obtain ⟨W,m,r,A,cs,p,U,o,d,c,rfl,J,L,X,Y,Z,O,C,hp,c0,c1,q⟩:=h
 have nd:=sc_Works_value_at.nd
 refine ⟨_,af (aB (i:=3) nd rfl (Or.inl rfl) (pO (cM z) (ap (pv 0) rfl) (pv 1) gT ⟨ϱ,ϱ,ϱ,ϱ⟩))
  (ai (aw (pN (lM (vh (cM z) (pv 2) (pv 3))) (ie (cM z) (pv 3) (pv 2) (λ_ _=>rfl)) (pm GC (ap (pv 0) rfl) D.cl z (ac (pv 2) ag))))),?_⟩
 refine ⟨_,ϱ,W.l,CV,W.dx,_,_,ϱ,J,T.cl,T.dr,rH,W.dr,ϱ,.inr ⟨_,.inl L⟩,_,ϱ,λq0 j=>⟨_,DGet.t (k:=pk p) (ah j _ _ L) (ah j _ _ hp),?_⟩⟩
 have g:=ah (o:=.dK []) j
 rw [fH]
 obtain ⟨x,hx,u⟩:∃x,(Option.map V.ref o).getD (.ref q0)=.ref x/\(upd H q0 (.dK [])) x=some (.dK d):=by
  cases o with
  | none=>exact ⟨q0,rfl,by rw [Y rfl];exact ae⟩
  | some x=>exact ⟨x,rfl,g _ _ (X x rfl)⟩
 rw [hx]
 refine ⟨_,ϱ,_,ϱ,x,_,ϱ,DGet.k (k:=.inl c) u,_,ϱ,bF (λe=>?_) (λe=>?_)⟩
 ·cases b:bE d (.inl c) with
  | none=>rw [b] at e;cases e
  | some v =>
   obtain ⟨i,rfl⟩:=Z c v b
   have G:ef d cs c=i:=by unfold ef;rw [b]
   rw [G] at q
   refine ⟨_,ϱ,_,ϱ,x,.int i,ϱ,?_,q _ g⟩
   have:=DGet.k (k:=.inl c) u
   rw [b] at this
   exact this
 ·have b:bE d (.inl c)=none:=by
   cases b:bE d (.inl c) with
   | none=>rfl
   | some v=>exact absurd (by rw [b];rfl) e
  obtain ⟨n,rfl⟩:∃n:Nat,c=(n:Int):=⟨c.toNat,ω⟩
  have y:n<cs.length:=by omega
  have G:ef d cs (n:Int)=cs[n]:=by
   unfold ef
   rw [b]
   show cs.getD n 0=_
   rw [List.getD_eq_getElem?_getD,ξ y]
   rfl
  rw [G] at q
  exact ⟨_,ϱ,W.l,CV,W.dx,_,_,ϱ,g _ _ J,T.cl,T.st,mH,A.l,A.dx,_,ϱ,g _ _ O,fq θ,_,ϱ,A,n,_,cs,ϱ,g _ _ O,g _ _ C,ξ y,q _ g⟩
abbrev oK:Expr:=match (defBody aN).getD 0 (.Pass default) with | .Assign _ (.Call _ [_,l] _ _) _=>l | _=>.Name "" default
abbrev uV:Expr:=match (defBody bM).getD 4 (.Pass default) with | .Assign _ (.Call _ [_,l] _ _) _=>l | _=>.Name "" default
abbrev uW:Expr:=match (defBody bO).getD 1 (.Pass default) with | .If _ _ [.If _ (_::.Assign _ (.Call _ [l] _ _) _::_) _ _] _=>l | _=>.Name "" default
abbrev xu:Str:="Works.do_step.<locals>.<lambda>"
abbrev zS:Str:="Works.walk.<locals>.<lambda>"
abbrev zT:Str:="Works.undo.<locals>.<lambda>"
def yo:Pos:=match oK with | .Lambda _ _ _ p=>p | _=>default
def wY:Pos:=match uV with | .Lambda _ _ _ p=>p | _=>default
def w9:Pos:=match uW with | .Lambda _ _ _ p=>p | _=>default
def mD(p:Pos):Option Addr->Array Value
 | none=>#[]
 | some c=>k8 p c
abbrev Odb:=Option Addr×Option Addr
structure Bx where
 (home many:Int)(p:Pa)(pa:Addr)(z:Pa)(za:Addr)(A:Ad)(Pt Pw Pu:Addr)
structure Cz where
 (d w u:Option Addr)
structure Wx where
 (W:Aw)(dl:Addr)(vs:List V)(o:Odb)(dk ak:List (Key×V))(due:List Lk)(cz:Cz)
def odc(x:Wx):Cs:=(x.o.1.toList.map λd=>(d,HO.dK x.dk))++x.o.2.toList.map λa=>(a,HO.dK x.ak)
def wkL(CL:Addr)(b:Bx)(x:Wx):Cs:=(x.W.lk,.ins CL x.dl [("pairs",.ref x.W.pl)])::(x.W.pl,.lst x.vs)::(x.W.dr,.dT (dOf b.p x.o.1))::(x.W.an,.dT (dOf b.p x.o.2))::(x.W.pe,.dT [])::odc x
def wtL(CL:Addr)(b:Bx)(x:Wx):Cs:=(b.Pt,.tbl (mD yo x.cz.d))::(b.Pw,.tbl (mD wY x.cz.w))::(b.Pu,.tbl (mD w9 x.cz.u))::wkL CL b x
structure Nq(C:Kd->Addr)(CS CH CL CV:Addr):Prop where
 s:CS≠CH/\CS≠CL
 v:CV≠CH/\CV≠CL
 k:∀k,C k≠CH/\C k≠CL
def CzOk(H:Hp)(c:Cz):Prop:=(∀a,c.d=some a->H a=some (eV a xu))/\(∀a,c.w=some a->H a=some (eV a zS))/\∀a,c.u=some a->H a=some (eV a zT)
theorem CzOk.im{H H':Hp}{c:Cz}(e:ImS CH CL H H')(h:CzOk H c):CzOk H' c:=⟨λa z=>e _ _ (h.1 a z) ph,λa z=>e _ _ (h.2.1 a z) ph,λa z=>e _ _ (h.2.2 a z) ph⟩
structure Wo(C:Kd->Addr)(CS CV:Addr)(K:Frag)(H:Hp)(b:Bx)(d:Sx)(x:Wx):Prop where
 si:Si CS K H b.p b.z b.A d
 wi:H x.W.l=some (.ins CV x.W.dx (wf b.A.l b.home b.many x.W))
 ps:Paired (PrO C K H) (x.due.map λk=>((b.p,k):Pr)) x.vs
 cz:CzOk H x.cz
 pa:PaA H b.p b.pa
 za:PaA H b.z b.za
 n1:x.o.1=none->x.dk=[]/\x.o.2=none
 n2:x.o.2=none->x.ak=[]
 ne:b.p≠b.z
theorem A7(S:Addr)(home many:Int)(W:Aw):wf S home many W≠[]:=λz=>by
 have:=rG (S:=S) (home:=home) (many:=many) (W:=W)
 rw [z] at this
 cases this
theorem BS(f l:Int):lf f l≠[]:=λz=>by
 have:=fx f l
 rw [z] at this
 cases this
theorem PrO.im{H d:Hp}{y:Pr}{v:V}(n:∀k,C k≠CH/\C k≠CL)(e:ImS CH CL H d)(h:PrO C K H y v):PrO C K d y v:=by
 have t:TSame H d:=λb w q=>e b _ q ϰ
 obtain ⟨a,u,l,g,i,j,f,m,o,r⟩:=h
 exact ⟨a,u,l,g,i.keep t,cPa.keep t j,f,m,o,e f _ r ⟨BS _ _,n _⟩⟩
section
variable {N N':List Addr}{H0 H H':Hp}{b:Bx}{S S':Cs}{d d':Sx}{x x':Wx}
theorem Wo.im(g:Wo C CS CV K H b d x)(n:Nq C CS CH CL CV)(t:ImS CH CL H H'):Wo C CS CV K H' b d x :=
 ⟨g.si.im t n.s,t _ _ g.wi ⟨A7 _ _ _ _,n.v⟩,pp g.ps λ_ _ z=>PrO.im n.k t z,g.cz.im t,t _ _ g.pa ϰ,t _ _ g.za ϰ,g.n1,g.n2,g.ne⟩
structure Gd(C:Kd->Addr)(CS CH CL CV:Addr)(K:Frag)(N:List Addr)(H0 H:Hp)(b:Bx)(S:Cs)(d:Sx)(x:Wx):Prop where
 ow:Ow CH CL N H0 H (S++(stL b.p b.z b.A d++wtL CL b x))
 wo:Wo C CS CV K H b d x
theorem Gd.same(g:Gd C CS CH CL CV K N H0 H b S d x)(n:Nq C CS CH CL CV)(e:Same H H'):Gd C CS CH CL CV K N H0 H' b S d x:=⟨g.ow.same e,g.wo.im n (cD e)⟩
theorem Gd.trans(g:Gd C CS CH CL CV K N H0 H b S d x)(g2:Gd C CS CH CL CV K (ad (S++(stL b.p b.z b.A d++wtL CL b x))) H H' b S' d' x'):Gd C CS CH CL CV K N H0 H' b S' d' x':=⟨g.ow.trans g2.ow,g2.wo⟩
theorem BQ{p z:Pa}{A:Ad}:∀u∈stL p z A d,¬Im CH CL u.2:=by
 intro u b
 simp only [stL,List.mem_cons,List.not_mem_nil,or_false] at b
 rcases b with e | e | e | e | e<;>subst e<;>first | exact id | exact λz=>z _ _ rfl
theorem BP:∀u∈wtL CL b x,¬Im CH CL u.2:=by
 intro u d
 simp only [wtL,wkL,odc,List.mem_cons,List.mem_append,List.mem_map] at d
 rcases d with e | e | e | e | e | e | e | e | ⟨y,_,e⟩ | ⟨y,_,e⟩<;>subst e<;>first | exact id | exact λz=>z.2.2 rfl
theorem c7{A:Addr}{h:Ah}{d:List Addr}{us:List V}{v:V}:∀u∈shL CH A h d us v,¬Im CH CL u.2:=by
 intro u b
 simp only [shL,List.mem_cons,List.not_mem_nil,or_false] at b
 rcases b with e | e | e<;>subst e<;>first | exact id | exact λz=>z.2.1 rfl
theorem Aq(hS:∀u∈S,¬Im CH CL u.2):∀u∈S++(stL b.p b.z b.A d++wtL CL b x),¬Im CH CL u.2:=λu hu =>
 (List.mem_append.mp hu).elim (hS u) λh=>(List.mem_append.mp h).elim (BQ u) (BP u)
theorem Gd.self(g:Gd C CS CH CL CV K N H0 H b S d x)(hS:∀u∈S,¬Im CH CL u.2):Gd C CS CH CL CV K (ad (S++(stL b.p b.z b.A d++wtL CL b x))) H H b S d x:=⟨g.ow.self (Aq hS),g.wo⟩
theorem Gd.co(g:Gd C CS CH CL CV K N H0 H b S d x){u:Addr×HO}(hu:u∈wtL CL b x):H u.1=some u.2:=g.ow.co u (Ψ _ (Ψ _ hu))
theorem Gd.sa(g:Gd C CS CH CL CV K N H0 H b S d x):Sa CS K H b.p b.z b.A d:=⟨g.wo.si,λu hu=>g.ow.co u (Ψ _ (List.mem_append_left _ hu))⟩
theorem Gd.ls(g:Gd C CS CH CL CV K N H0 H b S d x):LS C CL K H x.W.lk x.W.pl (x.due.map λk=>((b.p,k):Pr)):=⟨x.dl,x.vs,g.co j3,g.co j4,g.wo.ps⟩
theorem Gd.dr(g:Gd C CS CH CL CV K N H0 H b S d x):H x.W.dr=some (.dT (dOf b.p x.o.1)):=g.co j5
theorem Gd.an(g:Gd C CS CH CL CV K N H0 H b S d x):H x.W.an=some (.dT (dOf b.p x.o.2)):=g.co j6
theorem Gd.pe(g:Gd C CS CH CL CV K N H0 H b S d x):H x.W.pe=some (.dT []):=g.co j7
theorem Gd.dd{a:Addr}(g:Gd C CS CH CL CV K N H0 H b S d x)(e:x.o.1=some a):H a=some (.dK x.dk):=g.co (u:=(a,.dK x.dk)) (by simp [wtL,wkL,odc,e])
theorem Gd.aa{a:Addr}(g:Gd C CS CH CL CV K N H0 H b S d x)(e:x.o.2=some a):H a=some (.dK x.ak):=g.co (u:=(a,.dK x.ak)) (by simp [wtL,wkL,odc,e])
theorem uw{pos:Pos}{q:Str}{b:Addr}{c:Option Addr}(e:H b=some (.tbl (mD pos c)))(h:∀a,c=some a->H a=some (eV a q)):Tb H b pos q:=by
 cases c with
 | none=>exact .inl e
 | some a=>exact .inr ⟨a,e,h a rfl⟩
theorem Gd.tb(g:Gd C CS CH CL CV K N H0 H b S d x):Tb H b.Pt yo xu:=uw (g.co (u:=(b.Pt,_)) j0) g.wo.cz.1
theorem Gd.tw(g:Gd C CS CH CL CV K N H0 H b S d x):Tb H b.Pw wY zS:=uw (g.co (u:=(b.Pw,_)) j1) g.wo.cz.2.1
theorem Gd.tu(g:Gd C CS CH CL CV K N H0 H b S d x):Tb H b.Pu w9 zT:=uw (g.co (u:=(b.Pu,_)) j2) g.wo.cz.2.2
theorem Gd.kp{a:Addr}{o o':HO}(g:Gd C CS CH CL CV K N H0 H b S d x)(n:Nq C CS CH CL CV)(i:Nat)(hi:(S++(stL b.p b.z b.A d++wtL CL b x))[i]?=some (a,o))(k:Kp a H H')(e:H' a=some o')(hn:¬Im CH CL o)(wo:Wo C CS CV K H b d' x')(el:(S++(stL b.p b.z b.A d++wtL CL b x)).set i (a,o')=S'++(stL b.p b.z b.A d'++wtL CL b x'):=by rfl):Gd C CS CH CL CV K N H0 H' b S' d' x' :=
 ⟨el▸g.ow.kp i hi k e,wo.im n (cL k (g.ow.co _ (List.mem_of_getElem? hi)) hn)⟩
theorem Gd.sh{h:Ah}{rs:List Addr}{us:List V}{v:V}{S:Addr}(g:Gd C CS CH CL CV K N H0 H b (shL CH S h rs us v) d x):H h.l=some (.ins CH h.dx (hf S h v)):=g.ow.co _ (List.mem_append_left _ j0)
end
inductive uK (CS CV:Addr) (K:Frag) (vs:List V) (H:Hp) (Q:VK) (E:XK):Prop|mk W home many A d pa p z:vs=[.ref (W:Aw).l,.ref pa]->H W.l=some (.ins CV W.dx (wf (A:Ad).l home many W))->Sa CS K H p z A d->PaA H p pa->(∀H',Same H H'->Q (.bl false) H')->uK CS CV K vs H Q E
theorem Aj(F:Fun K "is_bound" "Works.is_bound" bK f fd)(D:TxD K CS)(T:TxV K CV)(GB:GM P w K mg base CX0 1 CS "bound" ["self"] (kQ CS K)):FnOk P w K mg base CX0 2 f fd ["self","p"] (uK CS CV K):=by
 refine F.ok iT (λvs H Q E h=>?_) (λO A j s H vs Q E y h=>?_)
 ·obtain ⟨W,b,e,A,d,I,p,z,rfl,_⟩:=h
  rfl
 obtain ⟨W,b,e,A,d,I,p,z,rfl,J,r,L,q⟩:=h
 refine ⟨_,ai (aw (bn (vo cPa (hun y)) (pv 1) (c6 ip rfl (cH (pm0 GB (ap (pv 0) rfl) D.cl y)) (λ_ _ _ _=>cX) (λ_ _ _ _=>fw)) rfl)),?_⟩
 refine ⟨_,ϱ,_,ϱ,W.l,CV,W.dx,_,_,ϱ,J,T.cl,T.st,mH,A.l,A.dx,_,ϱ,r.ins,fq θ,p,z,A,d,ϱ,r,λl H1 U n1 C=>⟨l,ϱ,⟨_,SqL.of C⟩,?_⟩⟩
 refine d6 (xs:=[]) (λi g G=>Same H1 G/\g=[]) ⟨Same.refl _,ϱ⟩ (ϖ _) (λi g G _ z=>SqL.of (z.1 _ _ C)) (λi u g X Y=>by cases Y) ?_
 rintro g X ⟨Z,rfl⟩ p2 m
 have x:=U.trans (Z.trans (ah (o:=.lst []) m))
 exact ⟨p,p2,[],[],jO (k:=p) (x _ _ L),ϱ,.inl (SqL.of ae),.nil,q _ x⟩
inductive oh (CS CH CL CV:Addr) (K:Frag) (vs:List V) (H:Hp) (Q:VK) (E:XK):Prop|mk l dx b d:vs=[.ref l,.ref (b:Bx).A.l,.int b.home,.int b.many]->H l=some (.ins CV dx [])->Sa CS K H b.p b.z b.A d->(∀W dl H',(W:Aw).l=l->Ow CH CL [l] H H' (wkL CL b ⟨W,dl,[],(none,none),[],[],[],⟨none,none,none⟩⟩)->H' l=some (.ins CV W.dx (wf b.A.l b.home b.many W))->Q .non H')->oh CS CH CL CV K vs H Q E
theorem vw{fI:Addr}{dI:FuncData}(F:Fun K "__init__" "Works.__init__" f6 f fd)(D:TxD K CS)(T:TxV K CV)(n:Nq C CS CH CL CV)(ML:L2.Mk K CL fI)(as:mg "Locks"=some (.ref CL))(av:FnOk P w K mg base CX0 1 fI dI ["self"] (lp CL))(aR:Binds K dI ["self"] [])(GB:GM P w K mg base CX0 1 CS "bound" ["self"] (kQ CS K)) :
  FnOk P w K mg base CX0 3 f fd ["self","stand","home","many"] (oh CS CH CL CV K):=by
 refine F.ok sc_Works_init (λvs H Q E h=>?_) (λc2 A a5 s H vs Q E hr h=>?_)
 ·obtain ⟨l,g,b,d,rfl,_⟩:=h
  rfl
 obtain ⟨l,g,b,d,rfl,hl,sa,q⟩:=h
 have nd:=sc_Works_init.nd
 have a3:Room (1+1) _:=hr.mono ζ
 refine ⟨_,af (aP (pv 0) (pv 1) rfl) (af (aP (pv 0) (pv 2) rfl) (af (aP (pv 0) (pv 3) rfl)
  (af (aP (pv 0) (vc ML av a3 rfl as aR .nil aW) rfl)
  (af (aP (pv 0) eF rfl) (af (aP (pv 0) eF rfl) (af (aP (pv 0) eF rfl)
  (ai (gS PassesOwn.never rfl (cH (pm0 GB (pv 1) D.cl hr)) (cB (i:=4) nd rfl (Or.inl rfl)) aE)))))))),?_⟩
 have g0:Ow CH CL [l] H H [(l,.ins CV g [])]:=.mk0 (L:=[(l,.ins CV g [])]) (λx W=>by rw [List.mem_singleton.mp W];exact hl) (by simp [ad]) (λx W=>by rw [List.mem_singleton.mp W];exact λz=>z.1 rfl)
 have g1:Ow CH CL [l] H _ [(l,.ins CV g (au "stand" (.ref b.A.l) []))]:=g0.up 0 _ rfl
 have g2:Ow CH CL [l] H _ [(l,.ins CV g (au "home" (.int b.home) (au "stand" (.ref b.A.l) [])))]:=g1.up 0 _ rfl
 have g3:Ow CH CL [l] H _ [(l,.ins CV g (au "many" (.int b.many) (au "home" (.int b.home) (au "stand" (.ref b.A.l) []))))]:=g2.up 0 _ rfl
 refine ⟨_,ϱ,_,ϱ,l,CV,g,_,ϱ,hl,T.cl,T.st,(by show 0<1000;decide),_,ϱ,_,ϱ,l,CV,g,_,ϱ,ae,T.cl,T.ho,(bh (n:=999) (by show 0<999;decide)),_,ϱ,_,ϱ,l,CV,g,_,ϱ,ae,T.cl,T.mn,(bh (n:=999) (bh (n:=998) (by show 0<998;decide))),?_⟩
 generalize (upd (upd (upd H l _) l _) l _)=H3 at g3 ⊢
 intro r m Z a0 ar
 refine ⟨r,m,ϱ,ae,λy H4 j G I ab=>⟨ϱ,?_⟩⟩
 have s4:Same H3 H4:=tH Z a0 ab
 have J:H3 y=none:=by
  cases e:H3 y with
  | none=>rfl
  | some o =>
   have n1:y≠r:=i4 G I (by intro z;cases z)
   have n2:y≠m:=λz=>by rw [z] at j;rw [ao ar,ae] at j;cases j
   rw [ao n1,ao n2,e] at j
   cases j
 have g4:=(g3.join (Ow.two Z J (i4 I G (by intro z;cases z)) s4 I G)).perm List.perm_append_comm
 have a4:H4 l=some (.ins CV g (au "many" (.int b.many) (au "home" (.int b.home) (au "stand" (.ref b.A.l) [])))):=g4.co _ (.head _)
 have g5:Ow CH CL [l] H _ ((l,.ins CV g (au "locks" (.ref r) (au "many" (.int b.many) (au "home" (.int b.home) (au "stand" (.ref b.A.l) [])))))::[(r,.ins CL m [("pairs",.ref y)]),(y,.lst [])]):=g4.up 0 _ rfl
 refine ⟨_,ϱ,l,CV,g,_,ϱ,a4,T.cl,T.lk,(bh (n:=999) (bh (n:=998) (bh (n:=997) (by show 0<997;decide)))),λdr n6=>?_⟩
 obtain ⟨a6,g6⟩:=g5.fld n6 (.dT []) (au "drafts" (.ref dr) (au "locks" (.ref r) (au "many" (.int b.many) (au "home" (.int b.home) (au "stand" (.ref b.A.l) [])))))
 refine ⟨_,ϱ,l,CV,g,_,ϱ,a6,T.cl,T.dr,(bh (n:=999) (bh (n:=998) (bh (n:=997) (bh (n:=996) (by show 0<996;decide))))),λan n7=>?_⟩
 obtain ⟨a7,g7⟩:=g6.fld n7 (.dT []) (au "answers" (.ref an) (au "drafts" (.ref dr) (au "locks" (.ref r) (au "many" (.int b.many) (au "home" (.int b.home) (au "stand" (.ref b.A.l) []))))))
 refine ⟨_,ϱ,l,CV,g,_,ϱ,a7,T.cl,T.an,(bh (n:=999) (bh (n:=998) (bh (n:=997) (bh (n:=996) (bh (n:=995) (by show 0<995;decide)))))),λpe n8=>?_⟩
 obtain ⟨a8,g8⟩:=g7.fld n8 (.dT []) (au "pending" (.ref pe) (au "answers" (.ref an) (au "drafts" (.ref dr) (au "locks" (.ref r) (au "many" (.int b.many) (au "home" (.int b.home) (au "stand" (.ref b.A.l) [])))))))
 refine ⟨_,ϱ,l,CV,g,_,ϱ,a8,T.cl,T.pe,(bh (n:=999) (bh (n:=998) (bh (n:=997) (bh (n:=996) (bh (n:=995) (bh (n:=994) (by show 0<994;decide))))))),?_⟩
 have i8:=g8.co _ (.head _)
 have O:Ow CH CL [l] H _ (wkL CL b ⟨⟨l,g,r,y,dr,an,pe⟩,m,[],(none,none),[],[],[],⟨none,none,none⟩⟩):=g8.sub (.cons _ (.refl _))
 generalize (upd (upd _ pe _) l _)=H9 at i8 O ⊢
 have U:Sa CS K H9 b.p b.z b.A d:=by
  have nl:∀{c o},H c=some o->(∀g,o≠.ins CV g [])->H9 c=some o:=λ{c o} e ne=>O.fr c o (λz=>by rw [ϵ.mp z,hl] at e;exact ne _ (Δ e).symm) e
  refine ⟨⟨nl sa.ins (λ_ z=>by injection z with _ _ z;exact yO _ z),sa.ok.keep O.ts,λx W=>let ⟨w,us,h1,h2⟩:=sa.wt x W;⟨w,us,O.ts _ _ h1,h2⟩⟩,λu hu=>nl (sa.co u hu) λg z=>?_⟩
  simp only [stL,List.mem_cons,List.not_mem_nil,or_false] at hu
  rcases hu with e | e | e | e | e<;>subst e<;>cases z
 refine ⟨_,ϱ,b.A.l,b.A.dx,_,ϱ,U.ins,fq θ,b.p,b.z,b.A,d,ϱ,U,λlb X Y nb hb=>⟨lb,ϱ,⟨_,SqL.of hb⟩,?_⟩⟩
 exact qf (xs:=[]) (λi σ H'=>H'=X) rfl (λi σ H' _ z=>by rw [z];exact SqL.of hb) (λi x σ H' e=>by cases e) fun σ H' z=>by rw [z];exact q ⟨l,g,r,y,dr,an,pe⟩ m X rfl (O.same Y) (Y _ _ i8)
abbrev BX:Arguments:=match oK with | .Lambda a _ _ _=>a | _=>defArgs aN
abbrev BW:Expr:=match oK with | .Lambda _ b _ _=>b | _=>.Name "" default
abbrev lScope:Scope:=match oK with | .Lambda _ _ s _=>s | _=>defScope aN
theorem yl{b d y:Str}{f g a:Addr}(h:[(b,f),(d,g)].lookup y=some a):(y=b/\a=f)\/(y=d/\a=g):=by
 rw [List.lookup_cons] at h
 cases e:y==b with
 | true =>
  rw [e] at h
  exact .inl ⟨by simpa using e,(Option.some.inj h).symm⟩
 | false =>
  rw [e,List.lookup_cons] at h
  cases e2:y==d with
  | true =>
   rw [e2] at h
   exact .inr ⟨by simpa using e2,(Option.some.inj h).symm⟩
  | false =>
   rw [e2] at h
   cases h
theorem yn{G c f g:Addr}{W:Aw}{home many:Int}{S:Ad}{cs:List Int}{p:Pa}{m:Addr}{o:Option Addr}{dk:List (Key×V)}{H:Hp}(C:g≠f)(hB:wU [] [(g,.ref m),(f,.ref W.l)] base)(hf:H G=some (jj G xu BX BW lScope [("self",f),("p",g)] c))(hc:H c=some (eV c xu))
  (T:TxV K CV)(GV:GM P w K mg base CX0 2 CV "value_at" ["self","p","cell"] (iM CS CV))(L:H W.l=some (.ins CV W.dx (wf S.l home many W)))(hd:H W.dr=some (.dT (dOf p o)))(hs:∀x,o=some x->H x=some (.dK dk))(hn:o=none->dk=[])(di:DrI dk)(st:H S.l=some (.ins CS S.dx (sf S)))(I:H S.cl=some (.lst (cs.map V.int)))(sp:PaA H p m) :
  CloT P w K mg base 4 G (gp (ef dk cs) cs.length) H:=by
 refine ⟨⟨_,_,_,_,_,_,hf⟩,λH1 A D s v u Q b J e0 r h=>?_⟩
 obtain ⟨i,O,U,X,q⟩:=h
 cases O
 refine p8 (k:=3) (N:=["cell","p","self"]) (x:="cell") (fvs:=[.ref m,.ref W.l]) J e0 hB ⟨ϱ,ϱ,ϱ,θ,ϱ,ϱ,θ,λy Y=>?_,λy z a h1 d=>?_⟩ rfl (λy a h=>?_) (λj y v h1 d=>?_) (b _ _ hf) (b _ _ hc) r (λpm ct=>.of_eq rfl) ⟨_,pm GV (pv 2) T.cl (J.deeper _) (ac (pv 1) (ac (pv 0) ag)),?_⟩
 ·have e:y="p"\/y="self":=(by decide +kernel:∀p∈lScope.names,p.2=NameKind.free->p.1=("p":Str)\/p.1=("self":Str)) _ (PySem.mem_of_lookup Y) rfl
  rcases e with e | e
  ·subst e
   exact ⟨g,ϱ⟩
  ·subst e
   exact ⟨f,ϱ⟩
 ·rcases yl h1 with ⟨rfl,rfl⟩ | ⟨rfl,rfl⟩
  ·rcases yl d with ⟨rfl,e⟩ | ⟨_,e⟩
   ·rfl
   ·exact absurd e.symm C
  ·rcases yl d with ⟨_,e⟩ | ⟨rfl,e⟩
   ·exact absurd e C
   ·rfl
 ·rcases yl h with ⟨_,rfl⟩ | ⟨_,rfl⟩
  ·exact ⟨_,Θ _ Ω⟩
  ·exact ⟨_,Ω⟩
 ·cases j with
  | zero =>
   cases h1
   cases d
   refine ⟨ϱ,g,ϱ,λZ F=>?_⟩
   rcases ϕ.mp F with e | e
   ·cases e
    rfl
   ·cases ϵ.mp e
    exact absurd rfl C
  | succ j =>
   cases j with
   | zero =>
    cases h1
    cases d
    refine ⟨ϱ,f,ϱ,λZ F=>?_⟩
    rcases ϕ.mp F with e | e
    ·cases e
     exact absurd rfl C
    ·cases ϵ.mp e
     rfl
   | succ j=>cases d
 ·exact ⟨_,ϱ,W.l,W.dx,_,ϱ,b _ _ L,gF θ,_,ϱ,_,ϱ,W,home,many,S,cs,p,m,o,dk,i,ϱ,b _ _ L,b _ _ hd,λx hx=>b _ _ (hs x hx),hn,di,b _ _ st,b _ _ I,b _ _ sp,U,X,q⟩
theorem Az{b y:Str}{d a:Addr}(h:[(b,d)].lookup y=some a):y=b/\a=d:=by
 rw [List.lookup_cons] at h
 cases e:y==b with
 | true =>
  rw [e] at h
  exact ⟨by simpa using e,(Option.some.inj h).symm⟩
 | false =>
  rw [e] at h
  cases h
def aU(cs:List Int)(c:Int):Int:=cs.getD c.toNat 0
abbrev sLm:Bool->Expr
 | true=>uV
 | false=>uW
abbrev qLm:Bool->Str
 | true=>zS
 | false=>zT
abbrev Ay(bb:Bool):Arguments:=match sLm bb with | .Lambda a _ _ _=>a | _=>defArgs aN
abbrev Ax(bb:Bool):Expr:=match sLm bb with | .Lambda _ b _ _=>b | _=>.Name "" default
abbrev sk(bb:Bool):Scope:=match sLm bb with | .Lambda _ _ s _=>s | _=>defScope aN
theorem wl(e:Bool){C c g:Addr}{W:Aw}{home many:Int}{S:Ad}{cs:List Int}{H:Hp}(U:wU [] [(g,.ref W.l)] base)(hf:H C=some (jj C (qLm e) (Ay e) (Ax e) (sk e) [("self",g)] c))(X:H c=some (eV c (qLm e)))
  (D:TxD K CS)(T:TxV K CV)(Y:GM P w K mg base CX0 1 CS "cell_at" ["self","cell"] (eg CS))(Z:H W.l=some (.ins CV W.dx (wf S.l home many W)))(st:H S.l=some (.ins CS S.dx (sf S)))(F:H S.cl=some (.lst (cs.map V.int))) :
  CloT P w K mg base 4 C (gp (aU cs) cs.length) H:=by
 refine ⟨⟨_,_,_,_,_,_,hf⟩,λH1 A o s v u Q b G e0 r h=>?_⟩
 obtain ⟨i,I,i0,i1,q⟩:=h
 cases I
 have J:∀(j:Nat) (y:Str) (v:V),(["cell","self"]:List Str)[j+1]?=some y->([.ref W.l]:List V)[j]?=some v->y="self"/\v=.ref W.l:=λj y v h1 d=>by
  cases j with
  | zero=>cases h1;cases d;exact ⟨rfl,rfl⟩
  | succ j=>cases d
 have f:∃n:Nat,i=(n:Int)/\cs[n]?=some (aU cs i):=by
  obtain ⟨n,rfl⟩:∃n:Nat,i=(n:Int):=⟨i.toNat,ω⟩
  have m:n<cs.length:=by omega
  refine ⟨n,ϱ,?_⟩
  unfold aU
  rw [Int.toNat_natCast,List.getD_eq_getElem?_getD,ξ m]
  rfl
 obtain ⟨n,rfl,en⟩:=f
 cases e <;>
 exact p8 (k:=3) (N:=["cell","self"]) (x:="cell") (fvs:=[.ref W.l]) G e0 U ⟨ϱ,ϱ,ϱ,θ,ϱ,ϱ,θ,λy L=>⟨g,by rw [show y=("self":Str) from (by decide +kernel:∀p∈(sk _).names,p.2=NameKind.free->p.1=("self":Str)) _ (PySem.mem_of_lookup L) rfl];rfl⟩,λy z a h1 d=>by rw [(Az h1).1,(Az d).1]⟩ rfl (λy a h=>by rw [(Az h).2];exact ⟨_,Ω⟩)
  (λj y v h1 d=>by obtain ⟨rfl,rfl⟩:=J j y v h1 d;exact ⟨rfl,g,rfl,λv' O=>by cases ϵ.mp O;rfl⟩) (b _ _ hf) (b _ _ X) r (λpm ct=>.of_eq rfl) ⟨_,pm Y (ap (pv 1) rfl) D.cl (G.deeper _) (ac (pv 0) ag),⟨_,rfl,W.l,CV,W.dx,_,_,rfl,b _ _ Z,T.cl,T.st,mH,S.l,S.dx,_,rfl,b _ _ st,fq θ,_,rfl,S,n,_,cs,rfl,b _ _ st,b _ _ F,en,q _ (Same.refl _)⟩⟩
abbrev Gs(C:Kd->Addr)(CS CH CL CV:Addr)(K:Frag)(H:Hp)(b:Bx)(S:Cs)(d:Sx)(x:Wx)(H':Hp)(S':Cs)(d':Sx)(x':Wx):Prop:=Gd C CS CH CL CV K (ad (S++(stL b.p b.z b.A d++wtL CL b x))) H H' b S' d' x'
inductive uM (C:Kd->Addr) (CS CH CL CV:Addr) (K:Frag) (vs:List V) (H:Hp) (Q:VK) (E:XK):Prop|mk b h rs us v d x i aa hv:vs=[.ref (x:Wx).W.l,.ref (h:Ah).l,.ref (b:Bx).pa,.int i]->Gs C CS CH CL CV K H b (shL CH b.A.l h rs us v) d x H (shL CH b.A.l h rs us v) d x->x.o.2=some aa->bE x.ak (.inl i)=some (.int hv)->us.length<=900->(∀u H',Gs C CS CH CL CV K H b (shL CH b.A.l h rs us v) d x H' (shL CH b.A.l h rs (us++[u]) v) d x->Q .non H')->uM C CS CH CL CV K vs H Q E
theorem Ak(F:Fun K "send_did" "Works.send_did" cS f fd)(DH:TxH K CH)(T:TxV K CV)(n:Nq C CS CH CL CV)(GS:GM P w K mg base CX0 1 CH "send" ["self","to","word","p","more"] (iO CH CL)):FnOk P w K mg base CX0 2 f fd ["self","sheet","p","i"] (uM C CS CH CL CV K):=by
 refine F.ok iR (λvs H Q E h=>?_) (λY A y s H vs Q E D h=>?_)
 ·obtain ⟨b,h,G,I,v,d,x,i,aa,e,rfl,_⟩:=h
  rfl
 obtain ⟨b,h,G,I,v,d,x,i,aa,e,rfl,g,J,j,O,q⟩:=h
 refine ⟨_,ai (aQ (pm GS (pv 1) DH.cl D (ac (az (r:=bc K) aD (pv 2) aj (λ_ _=>rfl)) (ac aC (ac (pv 2) (ac (aF (ac (pv 3) (ac (ie (cM D) (ie (cM D) (ap (pv 0) rfl) (pv 2) (λ_ _=>rfl)) (pv 3) (λ_ _=>rfl)) ag))) ag)))))),?_⟩
 have g1:DGet H x.W.an (.ref b.pa) (some (.ref aa)):=by
  have:=DGet.t (k:=pk b.p) g.an g.wo.pa
  rw [fH,J] at this
  exact this
 have U:DGet H aa (.int i) (some (.int e)):=by
  have:=DGet.k (k:=.inl i) (g.aa J)
  rw [j] at this
  exact this
 refine ⟨_,ϱ,h.l,h.dx,_,ϱ,g.sh,gu θ,_,ϱ,b.pa,_,_,_,ϱ,ϱ,SqT.of g.wo.pa,St.at0,_,ϱ,_,ϱ,_,ϱ,x.W.l,CV,x.W.dx,_,_,ϱ,g.wo.wi,T.cl,T.an,kZ,_,ϱ,x.W.an,_,ϱ,g1,_,ϱ,aa,_,ϱ,U,χ,λt Z=>?_⟩
 have X:=ah (o:=.tup [.int i,.int e]) Z
 have m:=g.same n X
 exact ⟨b.A.l,h,G,I,v,(b.p.1,"did",b.pa,t),stL b.p b.z b.A d++wtL CL b x,ϱ,(m.self c7).ow,O,λu H' L _=>q u H' (m.trans ⟨L,m.wo.im n L.im⟩)⟩
theorem AW{X:Cx}{b c:Addr}{u v:V}{σ:L2.St}(i j:Nat)(x y:Str)(h1:X.N[i]?=some x/\σ[i]?=some (some u)/\X.env.kindOf x=some .cell/\X.env.cells.lookup x=some b/\X.fn x=true)(h2:X.N[j]?=some y/\σ[j]?=some (some v)/\X.env.kindOf y=some .cell/\X.env.cells.lookup y=some c/\X.fn y=true):pB X [(b,u),(c,v)] σ:=λp hm=>by
 rcases ϕ.mp hm with e | e
 ·cases e
  exact ⟨i,x,h1⟩
 ·cases ϵ.mp e
  exact ⟨j,y,h2⟩
section
variable {H:Hp}{b:Bx}{d:Sx}{x:Wx}
theorem Wo.wsi{d':Sx}(g:Wo C CS CV K H b d x)(e:Si CS K H b.p b.z b.A d'):Wo C CS CV K H b d' x:=⟨e,g.wi,g.ps,g.cz,g.pa,g.za,g.n1,g.n2,g.ne⟩
theorem Wo.od{o:Odb}{dk ak:List (Key×V)}(g:Wo C CS CV K H b d x)(n1:o.1=none->dk=[]/\o.2=none)(n2:o.2=none->ak=[]):Wo C CS CV K H b d ⟨x.W,x.dl,x.vs,o,dk,ak,x.due,x.cz⟩:=⟨g.si,g.wi,g.ps,g.cz,g.pa,g.za,n1,n2,g.ne⟩
end
inductive uL (C:Kd->Addr) (CS CH CL CV:Addr) (K:Frag) (Pt:Addr) (vs:List V) (H:Hp) (Q:VK) (E:XK):Prop|mk b h d rs us v wt i hand wd ns x:vs=[.ref (x:Wx).W.l,.ref (h:Ah).l,.ref (b:Bx).pa,.ref wt]->b.Pt=Pt->Gs C CS CH CL CV K H b (shL CH b.A.l h rs us v) d x H (shL CH b.A.l h rs us v) d x->H wt=some (.tup [.int i,.int hand,.str (txt wd ns)])->Ar wd ns->inC d.cells.length wd ns->d.cells.length<=900->d.ws.length<=900->DrI x.dk->x.dk.length<=100->x.ak.length<=100->rs.length<=100->us.length<=100->(∀dd aa c us' d' rs' v' H',Gs C CS CH CL CV K H b (shL CH b.A.l h rs us v) d x H' (shL CH b.A.l h rs' us' v') d' ⟨x.W,x.dl,x.vs,(some dd,some aa),aJ x.dk (aJ [] (chK (dn (ef x.dk d.cells) wd ns hand).2)),bx x.ak (.inl i) (.int (dn (ef x.dk d.cells) wd ns hand).1),x.due,⟨some c,x.cz.w,x.cz.u⟩⟩->d'=d\/d'=d.kp 0 0 .work->Q .non H')->uL C CS CH CL CV K Pt vs H Q E
theorem wD(val:Int->Int)(b:Wd)(d:List Int)(h:Int):(dn val b d h).2.length<=1:=by
 unfold dn
 split<;>simp
theorem tE{cc Pt:Addr}{fS:Wd->Addr}{dS:Wd->FuncData}(F:Fun K "do_step" "Works.do_step" aN f fd)(bI:mg "dict"=none)(TW:TxW K CW)(T:TxV K CV)(DH:TxH K CH)(n:Nq C CS CH CL CV)(dy:BB mg base)(dz:fd.code=.ref cc)(dA:PySem.W.codeHdIn K cc Pt=true)
  (GR:GF P w K mg base CX0 6 "read_step" ["text"] (hW CW))(HV:∀Bh:Heap,K.In Bh->GM P w K mg Bh CX0 2 CV "value_at" ["self","p","cell"] (iM CS CV))
  (HS:∀(y:Wd) (val:Int->Int) (n:Nat) (Bh:Heap),n<=1000->K.In Bh->FnOk P w K mg Bh CX0 5 (fS y) (dS y) ["self","hand","value_of"] (dw P w K mg CW val n y Bh))(mS:∀y,fm K (CW y) "step_done" (fS y))(bS:∀y,Binds K (dS y) ["self","hand","value_of"] [])
  (cf:GM P w K mg base CX0 3 CH "row" ["self","row"] (jm CS CH CL K))(GD:GM P w K mg base CX0 2 CV "send_did" ["self","sheet","p","i"] (uM C CS CH CL CV K)):FnOk P w K mg base CX0 7 f fd ["self","sheet","p","waited"] (uL C CS CH CL CV K Pt):=by
 refine F.okC sc_Works_do_step (λvs H Q E h=>?_) (λA0 d4 s H vs Q E hr h=>?_)
 ·obtain ⟨b,h,d,L,G,v,wt,i,I,y,ns,x,rfl,_⟩:=h
  rfl
 obtain ⟨b,h,d,L,G,v,wt,i,I,y,ns,⟨W,J,vs,o,dk,ak,j,m⟩,rfl,rfl,g0,bm,ar,ic,hn,cv,di,cx,cF,e4,e5,q⟩:=h
 have nd:=sc_Works_do_step.nd
 have d2:Room 5 _:=hr.mono ζ
 have ne:s.heap.objs.size+2≠s.heap.objs.size+1:=by omega
 have hz:(1000:Nat)<=sizeLine:=by decide
 simp only [] at di cx cF
 generalize er:dn (ef dk d.cells) y ns I=r at q
 refine ⟨_,af (aB (i:=4) nd rfl (Or.inl rfl) (lQ (cs:=[(s.heap.objs.size+2,.ref b.pa),(s.heap.objs.size+1,.ref W.l)]) (sp:=λBh=>dw P w K mg CW (ef dk d.cells) d.cells.length y Bh) (pc GR hr (ac (az (r:=bc K) aD (pv 3) aj (λ_ _=>rfl)) ag)) (TW.cl y) (mS y)
   (λBh bB=>HS y (ef dk d.cells) d.cells.length Bh ω bB) d2 (bS y) aW (ac (az (r:=bc K) aD (pv 3) aj (λ_ _=>rfl)) (ac (oP (P:=b.Pt) (cl:=[("self",s.heap.objs.size+1),("p",s.heap.objs.size+2)]) dz dA dy rfl rfl rfl) ag))))
  (eC (u:=λD σ H1=>∃t U c,σ=[some (.ref W.l),some (.ref h.l),some (.ref b.pa),some (.ref wt),some (.ref t)]/\Gs C CS CH CL CV K H b (shL CH b.A.l h L G v) d ⟨W,J,vs,o,dk,ak,j,m⟩ H1 (shL CH b.A.l h L G v) d ⟨W,J,vs,o,dk,ak,j,⟨some c,m.w,m.u⟩⟩/\H1 t=some (.tup [.int r.1,.ref U])/\chN H1 r.2 U/\H1 wt=some (.tup [.int i,.int I,.str (txt y ns)])/\∀σ' H',Q .non H'->D.nx σ' H')
   (af (aQ (xD (rX (cM hr) (ap (pv 0) rfl) (pv 2) gT ⟨ϱ,ϱ,ϱ,ϱ⟩) (bp (rA rfl) rfl bI PyProof.Rows.boot_dict (ac (az (r:=bc K) aD (pv 4) aj (λ_ _=>rfl)) ag)) ⟨ϱ,ϱ,ϱ,ϱ⟩))
  (eC (u:=λD σ H1=>∃t U c dd,σ=[some (.ref W.l),some (.ref h.l),some (.ref b.pa),some (.ref wt),some (.ref t)]/\Gs C CS CH CL CV K H b (shL CH b.A.l h L G v) d ⟨W,J,vs,o,dk,ak,j,m⟩ H1 (shL CH b.A.l h L G v) d ⟨W,J,vs,(some dd,o.2),aJ dk (aJ [] (chK r.2)),ak,j,⟨some c,m.w,m.u⟩⟩/\H1 t=some (.tup [.int r.1,.ref U])/\H1 wt=some (.tup [.int i,.int I,.str (txt y ns)])/\∀σ' H',Q .non H'->D.nx σ' H')
   (af (aH (lM (jD (cM hr) (pv 2) (ap (pv 0) rfl))) (af (hZ (cM hr) (ap (pv 0) rfl) (pv 2) gT rfl) (ai (aQ (pm cf (pv 1) DH.cl hr (ac (aF (ac aC (ac (pv 2) ag))) ag))))) aA)
  (eC (u:=λD σ H1=>∃t U c dd aa d' ab v',σ=[some (.ref W.l),some (.ref h.l),some (.ref b.pa),some (.ref wt),some (.ref t)]/\Gs C CS CH CL CV K H b (shL CH b.A.l h L G v) d ⟨W,J,vs,o,dk,ak,j,m⟩ H1 (shL CH b.A.l h ab G v') d' ⟨W,J,vs,(some dd,some aa),aJ dk (aJ [] (chK r.2)),ak,j,⟨some c,m.w,m.u⟩⟩/\H1 t=some (.tup [.int r.1,.ref U])/\H1 wt=some (.tup [.int i,.int I,.str (txt y ns)])/\(d'=d\/d'=d.kp 0 0 .work)/\∀σ' H',Q .non H'->D.nx σ' H')
   (af (hZ (cM hr) (ie (cM hr) (ap (pv 0) rfl) (pv 2) (λ_ _=>rfl)) (az (r:=bc K) aD (pv 3) aj (λ_ _=>rfl)) (az (r:=bc K) aD (pv 4) aj (λ_ _=>rfl)) rfl)
   (ai (aQ (pm GD (pv 0) T.cl hr (ac (pv 1) (ac (pv 2) (ac (az (r:=bc K) aD (pv 3) aj (λ_ _=>rfl)) ag))))))) ?s4)) ?s3)) ?s2),?_⟩
 case s4 =>
  rintro D σ H1 ⟨t,U,c,dd,aa,d',ab,v',rfl,g,ht,X,e1,nx⟩
  have g1:DGet H1 W.an (.ref b.pa) (some (.ref aa)):=by
   have:=DGet.t (k:=pk b.p) g.an g.wo.pa
   rw [fH] at this
   exact this
  have ha:=g.aa rfl
  refine ⟨_,ϱ,t,_,_,_,ϱ,ϱ,SqT.of ht,St.at0,_,ϱ,W.l,CV,W.dx,_,_,ϱ,g.wo.wi,T.cl,T.an,kZ,_,ϱ,W.an,_,ϱ,g1,_,ϱ,wt,_,_,_,ϱ,ϱ,SqT.of X,St.at0,aa,_,ϱ,DPut.k (k:=.inl i) ha (by show ak.length<_;omega),?_⟩
  have Y:=g.kp n 17 (a:=aa) (o':=.dK (bx ak (.inl i) (.int r.1))) (S':=shL CH b.A.l h ab G v') (x':=⟨W,J,vs,(some dd,some aa),aJ dk (aJ [] (chK r.2)),bx ak (.inl i) (.int r.1),j,⟨some c,m.w,m.u⟩⟩) rfl bv ae id (g.wo.od (λz=>by cases z) (λz=>by cases z))
  have av:bE (bx ak (.inl i) (.int r.1)) (.inl i)=some (.int r.1):=by rw [iL,if_pos rfl]
  exact ⟨_,ϱ,W.l,W.dx,_,ϱ,Y.wo.wi,gF θ,_,ϱ,_,ϱ,_,ϱ,wt,_,_,_,ϱ,ϱ,SqT.of ((gG ha) _ _ X),St.at0,b,h,ab,G,v',d',⟨W,J,vs,(some dd,some aa),aJ dk (aJ [] (chK r.2)),bx ak (.inl i) (.int r.1),j,⟨some c,m.w,m.u⟩⟩,i,aa,r.1,ϱ,Y.self c7,ϱ,av,ω,λu H2 g3=>nx _ H2 (q dd aa c _ d' ab v' H2 (Y.trans g3) e1)⟩
 case s3 =>
  rintro D σ H1 ⟨t,U,c,dd,rfl,g,ht,X,nx⟩
  have g1:=DGet.t (k:=pk b.p) g.an g.wo.pa
  rw [fH] at g1
  refine ⟨_,ϱ,_,ϱ,W.l,CV,W.dx,_,_,ϱ,g.wo.wi,T.cl,T.an,kZ,W.an,_,ϱ,g1,_,ϱ,?_⟩
  obtain ⟨od,oa⟩:=o
  cases oa with
  | some aa=>exact aM ⟨t,U,c,dd,aa,d,L,v,rfl,g,ht,X,.inl rfl,nx⟩
  | none =>
   refine bU λaa a4=>⟨_,ϱ,W.l,CV,W.dx,_,_,ϱ,ah a4 _ _ g.wo.wi,T.cl,T.an,kZ,_,ϱ,W.an,_,ϱ,DPut.t (k:=pk b.p) (ah a4 _ _ g.an) (ah a4 _ _ g.wo.pa) (by show 0<sizeLine;decide),?_⟩
   rw [show dOf b.p none=[] from rfl,rW]
   have ea:ak=[]:=g.wo.n2 rfl
   subst ea
   have a0:ImS CH CL H1 (upd (upd H1 aa (.dK [])) W.an (.dT [(pk b.p,.ref aa)])):=(cD (ah a4)).trans (cL bv (ah a4 _ _ g.an) id)
   have Y:Gs C CS CH CL CV K H b (shL CH b.A.l h L G v) d ⟨W,J,vs,(od,none),dk,[],j,m⟩ (upd (upd H1 aa (.dK [])) W.an (.dT [(pk b.p,.ref aa)])) (shL CH b.A.l h L G v) d ⟨W,J,vs,(some dd,some aa),aJ dk (aJ [] (chK r.2)),[],j,⟨some c,m.w,m.u⟩⟩:=⟨(g.ow.new a4 (.dK [])).up 14 _ rfl,(g.wo.od (λz=>by cases z) (λz=>by cases z)).im n a0⟩
   generalize (upd (upd H1 aa (.dK [])) W.an (.dT [(pk b.p,.ref aa)]))=H2 at Y a0 ⊢
   refine ⟨_,ϱ,h.l,h.dx,_,ϱ,Y.sh,gu θ,_,ϱ,χ,λrr da=>?_⟩
   have s3:=ah (o:=.tup [.str "work",.ref b.pa]) da
   have g3:=Y.same n s3
   have d3:RxAt K (upd H2 rr (.tup [.str "work",.ref b.pa])) b.p b.z rr .work:=⟨b.pa,ae,g3.wo.pa⟩
   refine ⟨b.p,b.z,b.A,h,d,L,G,v,rr,.work,wtL CL b ⟨W,J,vs,(some dd,some aa),aJ dk (aJ [] (chK r.2)),[],j,⟨some c,m.w,m.u⟩⟩,ϱ,(g3.self c7).ow,g3.wo.si,d3,⟨(λc hc=>by cases hc),(λ_ z=>by cases z),cv⟩,ω,λb' v' H4 o4 dg _=>?_⟩
   have c2:=(a0.ts).trans (s3.ts.trans (ImS.ts o4.im))
   exact ⟨t,U,c,dd,aa,_,_,v',ϱ,g3.trans ⟨o4,(g3.wo.im n o4.im).wsi dg⟩,c2 _ _ ht,c2 _ _ X,.inr rfl,nx⟩
 case s2 =>
  rintro D σ H1 ⟨t,U,c,rfl,g,ht,⟨bG,⟨o1,a8,cd⟩,pch⟩,X,nx⟩
  refine ⟨_,ϱ,W.l,CV,W.dx,_,_,ϱ,g.wo.wi,T.cl,T.dr,rH,W.dr,ϱ,.inr ⟨_,.inl g.dr⟩,_,ϱ,λq0 ca=>?_⟩
  have s1:=ah (o:=.dK []) ca
  have l1:r.2.length<=1:=by rw [← er];exact wD _ _ _ _
  have lc:(chK r.2).length<=1:=by unfold chK;rw [List.length_map];exact l1
  have lm:(aJ [] (chK r.2)).length<=1:=by have:=cY (chK r.2) [];simp at this;omega
  have c3:∀(dd p2:Addr) (H4:Hp),Gs C CS CH CL CV K H b (shL CH b.A.l h L G v) d ⟨W,J,vs,o,dk,ak,j,m⟩ H4 (shL CH b.A.l h L G v) d ⟨W,J,vs,(some dd,o.2),dk,ak,j,⟨some c,m.w,m.u⟩⟩->TSame H1 H4->H4 p2=none ->
    Gs C CS CH CL CV K H b (shL CH b.A.l h L G v) d ⟨W,J,vs,o,dk,ak,j,m⟩ (upd (upd H4 p2 (.dK (aJ [] (chK r.2)))) dd (.dK (aJ dk (aJ [] (chK r.2))))) (shL CH b.A.l h L G v) d ⟨W,J,vs,(some dd,o.2),aJ dk (aJ [] (chK r.2)),ak,j,⟨some c,m.w,m.u⟩⟩/\TSame H1 (upd (upd H4 p2 (.dK (aJ [] (chK r.2)))) dd (.dK (aJ dk (aJ [] (chK r.2))))):=λdd p2 H4 g4 t4 O=>by
   have s5:=ah (o:=.dK (aJ [] (chK r.2))) O
   have g5:=g4.same n s5
   exact ⟨g5.kp n 16 (a:=dd) (o':=.dK (aJ dk (aJ [] (chK r.2)))) (S':=shL CH b.A.l h L G v) (x':=⟨W,J,vs,(some dd,o.2),aJ dk (aJ [] (chK r.2)),ak,j,⟨some c,m.w,m.u⟩⟩) rfl bv ae id (g5.wo.od (λz=>by cases z) g5.wo.n2),t4.trans (s5.ts.trans (gG (g5.dd rfl)))⟩
  have c4:∀{H4:Hp},TSame H1 H4->Paired (prD H4) (chK r.2) bG:=λt4=>Paired.mapP pch λ_ _ ⟨b,e,hb⟩=>⟨b,e,t4 _ _ hb⟩
  refine ⟨_,pk b.p,b.pa,s1 _ _ g.dr,ϱ,s1 _ _ g.wo.pa,?_,λv' ev=>?_,λev=>?_⟩
  ·have:(dOf b.p o.1).length<=1:=by cases o.1<;>simp [dOf]
   show (dOf b.p o.1).length<_
   omega
  ·rw [fH] at ev
   obtain ⟨od,oa⟩:=o
   cases od with
   | none=>cases ev
   | some dd =>
    cases ev
    have g4:=g.same n s1
    have Z:=g4.dd (a:=dd) rfl
    refine ⟨dd,ϱ,.inl ⟨_,.inl Z⟩,_,ϱ,t,_,_,_,ϱ,ϱ,SqT.of (s1 _ _ ht),St.at1,U,bG,chK r.2,ϱ,⟨o1,s1 _ _ a8,cd⟩,c4 s1.ts,ω,λp2 O=>⟨p2,dk,aJ [] (chK r.2),ϱ,aq Z O,ah O _ _ Z,ae,ω,?_⟩⟩
    obtain ⟨g6,t6⟩:=c3 dd p2 _ g4 s1.ts O
    exact ⟨t,U,c,dd,ϱ,g6,t6 _ _ ht,t6 _ _ X,nx⟩
  ·rw [fH] at ev
   obtain ⟨od,oa⟩:=o
   cases od with
   | some dd=>cases ev
   | none =>
    obtain ⟨ed,eo⟩:=g.wo.n1 rfl
    cases (show dk=[] from ed)
    cases (show oa=none from eo)
    have a7:ImS CH CL H1 (upd (upd H1 q0 (.dK [])) W.dr (.dT [(pk b.p,.ref q0)])):=(cD s1).trans (cL bv (s1 _ _ g.dr) id)
    have g4:Gs C CS CH CL CV K H b (shL CH b.A.l h L G v) d ⟨W,J,vs,(none,none),[],ak,j,m⟩ (upd (upd H1 q0 (.dK [])) W.dr (.dT [(pk b.p,.ref q0)])) (shL CH b.A.l h L G v) d ⟨W,J,vs,(some q0,none),[],ak,j,⟨some c,m.w,m.u⟩⟩:=⟨(g.ow.new ca (.dK [])).up 13 _ rfl,(g.wo.od (o:=(some q0,none)) (dk:=[]) (ak:=ak) (λz=>by cases z) (λ_=>g.wo.n2 rfl)).im n a7⟩
    have Z:=g4.dd (a:=q0) rfl
    show (_:Prop)
    refine ⟨q0,ϱ,.inl ⟨_,.inl Z⟩,_,ϱ,t,_,_,_,ϱ,ϱ,SqT.of (a7.ts _ _ ht),St.at1,U,bG,chK r.2,ϱ,⟨o1,a7 _ _ a8 True.intro,cd⟩,c4 a7.ts,ω,λp2 O=>⟨p2,[],aJ [] (chK r.2),ϱ,aq Z O,ah O _ _ Z,ae,by simp;omega,?_⟩⟩
    obtain ⟨g6,t6⟩:=c3 q0 p2 _ g4 a7.ts O
    exact ⟨t,U,c,q0,ϱ,g6,t6 _ _ ht,t6 _ _ X,nx⟩
 have hf:(jd y ns).lookup ("step_done":Str)=none:=qd θ θ θ θ θ y ns
 refine ⟨AW 2 0 "p" "self" ⟨ϱ,ϱ,ϱ,ϱ,ϱ⟩ ⟨ϱ,ϱ,ϱ,ϱ,ϱ⟩,_,ϱ,wt,_,_,_,ϱ,ϱ,SqT.of bm,St.at2,y,ns,ϱ,ar,λv1 H1 s1 ds=>?_⟩
 obtain ⟨a1,c1,rfl,b0⟩:=id ds
 have g1:=g0.same n s1
 refine ⟨a1,c1,_,ϱ,b0,hf,_,ϱ,wt,_,_,_,ϱ,ϱ,SqT.of (s1 _ _ bm),St.at1,g1.tb,λfv c H2 k2 du ej ek dv bl Bh bB pb=>?_⟩
 have c5:H1 b.Pt=some (.tbl (mD yo m.d)):=g1.co j0
 have a0:ImS CH CL H1 H2:=cL k2 c5 id
 have w2:=g1.wo.im n a0
 have Y:Gs C CS CH CL CV K H b (shL CH b.A.l h L G v) d ⟨W,J,vs,o,dk,ak,j,m⟩ H2 (shL CH b.A.l h L G v) d ⟨W,J,vs,o,dk,ak,j,⟨some c,m.w,m.u⟩⟩:=⟨g1.ow.kp 8 rfl k2 du,w2.si,w2.wi,w2.ps,⟨λz e=>by cases e;exact bl,w2.cz.2.1,w2.cz.2.2⟩,w2.pa,w2.za,w2.n1,w2.n2,w2.ne⟩
 have c8:StO CW H2 y ns (.ref a1):=⟨a1,c1,ϱ,k2 _ _ (λz=>by rw [z,c5] at b0;cases b0) b0⟩
 have ct:CloT P w K mg Bh 4 fv (gp (ef dk d.cells) d.cells.length) H2:=yn ne pb dv bl T (HV Bh bB) Y.wo.wi Y.dr (λx hx=>Y.dd hx) (λz=>(Y.wo.n1 z).1) di Y.wo.si.ins Y.sa.cl Y.wo.pa
 refine ⟨.ref a1,ns,I,fv,ϱ,ar,ic,c8,ct,λt U H3 s3 ht a8=>?_⟩
 rw [er] at ht a8
 exact ⟨t,U,c,ϱ,Y.same n s3,ht,a8,s3 _ _ (a0.ts _ _ (s1 _ _ bm)),λ_ H' z=>z⟩
end
end K54
namespace L2
open PySem PySem.Spec PyProof.Rows PySem.W
section
variable {prog:Program}{w:World}{A:Around}{E:Value->Shared->Prop}{s:Shared}{κ:Type} [DecidableEq κ] {knd:HeapKind prog w κ}{d a:Addr}
theorem jS{k:κ}{b:Addr}{v:Value}{Q:Option DictEntry->Shared->Prop}(u:knd.room A)(e:knd.is s.heap k a)(H:s.heap.DictOfH knd d [(k,b,v)])
  (h:∀h',h'.DictOfH knd d []->Heap.SameBut d s.heap h'->Q (some (entryOfKey knd (k,b,v))) {s with heap:=h',toks:=s.toks+knd.draws k}):wpAny (model prog w) A (Builtin.Dict.takeOut d (.ref a)) Q E s:=by
 obtain ⟨o,r,y,g,z,f,i,l,C⟩:=H
 unfold Builtin.Dict.takeOut
 refine wpAny_holding (ε (knd.pyHash u e ?_))
 have m:r.size=1:=size_of_entries i
 refine ε (wpAny_dictFind_heap (s:={s with toks:=s.toks+knd.draws k}) u e g f i l C (λq=>absurd rfl (q 0 (b,v))) (λj p F=>?_))
 cases j with
 | succ j=>cases F
 | zero =>
  refine ε (wpAny_dictEntries (s:={s with toks:=s.toks+knd.draws k}) g f ?_)
  rw [entry_at i 0]
  refine wpAny_bind (wpAny_updateDictKeys (hz:=by rw [m];decide) (hf:=by simp [Array.eraseIdxIfInBounds];split<;>simp<;>omega) (s:={s with toks:=s.toks+knd.draws k}) g f (wpAny_pure (h _ ⟨_,_,y+1,Heap.get?_update_self _ g (Obj.isFreed_of_dict (Obj.data_mapDictKeys f _)),z.mapDictKeys _,Obj.data_mapDictKeys f _,?_,(λx G=>nomatch G),List.nodup_nil⟩ (Heap.SameBut.update ..))))
  have D:r=#[entryOfKey knd (k,b,v)]:=Array.toList_inj.mp i
  rw [D]
  simp [Array.eraseIdxIfInBounds]
theorem pY(knd:HeapKind prog w κ)(d a:Addr)(more:List Value)(hm:more=[]\/∃x,more=[x]) :
  MeetsIn prog w (Builtin.«dict.pop» ⟨.ref d :: .ref a :: more, []⟩) (fun A R s => knd.room A.in1 ∧ ∃ k b v, knd.is s.heap k a ∧ s.heap.DictOfH knd d [(k, b, v)] ∧ ∀ h', h'.DictOfH knd d [] → Heap.SameBut d s.heap h' → R (.ok (.ret v)) { s with heap := h', toks := s.toks + knd.draws k }) :=
 .of_wp λA R s ⟨hu,k,b,v,hkey,hd,h⟩=>by
  have hd2:=hd
  obtain ⟨o,es,ep,ho,hc,hdd,he,his,hn⟩:=hd2
  have e1:es=#[entryOfKey knd (k,b,v)]:=Array.toList_inj.mp he
  unfold Builtin.«dict.pop»
  refine ε ?_
  unfold Builtin.Dict.keyAndDefault
  refine ε (wpAny_notOrdered_dict hd.typeIs ?_)
  rcases hm with rfl | ⟨x,rfl⟩
  ·show wpAny _ _ (pure (d,Value.ref a,none)) _ _ s
   refine π ?_
   show wpAny _ _ (dictEntries d >>= λes=>(pure es.isEmpty >>= λ_=>_)) _ _ s
   refine ε (wpAny_dictEntries ho hdd (ε (π ?_)))
   subst e1
   show wpAny _ _ (Builtin.Dict.takeOut d (.ref a) >>= λ_=>_) _ _ s
   exact ε (jS hu hkey hd λh' d' sb=>ε (wpAny_letGo (π ⟨_,ϱ,h h' d' sb⟩)))
  ·show wpAny _ _ (pure (d,Value.ref a,some x)) _ _ s
   refine π ?_
   show wpAny _ _ (dictEntries d >>= λes=>(pure es.isEmpty >>= λ_=>_)) _ _ s
   refine ε (wpAny_dictEntries ho hdd (ε (π ?_)))
   subst e1
   show wpAny _ _ (Builtin.Dict.takeOut d (.ref a) >>= λ_=>_) _ _ s
   exact ε (jS hu hkey hd λh' d' sb=>ε (wpAny_letGo (π ⟨_,ϱ,h h' d' sb⟩)))
theorem pZ(knd:HeapKind prog w κ)(d a:Addr)(hs:(d==sysModules)=false)(x:Value) :
  MeetsIn prog w (Builtin.«dict.pop» ⟨[.ref d, .ref a, x], []⟩) (fun A R s => s.heap.DictOfH knd d [] ∧ R (.ok (.ret x)) s) :=
 .of_wp λA R s ⟨hd,h⟩=>by
  have hd2:=hd
  obtain ⟨o,es,ep,ho,hc,hdd,he,his,hn⟩:=hd2
  have e1:es=#[]:=Array.toList_inj.mp he
  unfold Builtin.«dict.pop»
  refine ε ?_
  unfold Builtin.Dict.keyAndDefault
  refine ε (wpAny_notOrdered_dict hd.typeIs ?_)
  show wpAny _ _ (pure (d,Value.ref a,some x)) _ _ s
  refine π ?_
  show wpAny _ _ (dictEntries d >>= λes=>(pure es.isEmpty >>= λ_=>_)) _ _ s
  refine ε (wpAny_dictEntries ho hdd (ε (π ?_)))
  subst e1
  show wpAny _ _ (rule "dict.pop.empty" >>= λ_=>(pure none >>= λ_=>_)) _ _ s
  refine ε (wpAny_rule (ε (π ?_)))
  show wpAny _ _ (Builtin.Dict.missedRemoval d (.ref a) >>= λ_=>_) _ _ s
  refine ε ?_
  unfold Builtin.Dict.missedRemoval
  have hne:¬((d==sysModules)=true):=by rw [hs];decide
  rw [if_neg hne]
  exact π (ε (wpAny_rule (π ⟨_,ϱ,h⟩)))
end
def xf(td ty tx:TE):TE:=fun σ H Q=>td σ H λx H1=>∃a,x=.ref a/\IsD H1 a/\ty σ H1 λy H2=>tx σ H2 λz H3=>∃k b,y=.ref b/\H3 b=some (.tup (List.map kV k))/\((∃v,H3 a=some (.dT [(k,v)])/\Q v (upd H3 a (.dT [])))\/(H3 a=some (.dT [])/\Q z H3))
section
variable {X:Cx}{pins:List (Addr×Obj)}{σ:St}{H:Hp}{s:Shared}{a b:Addr}{k:List Key}{v:V}{o e f:Expr}{apos cpos:Pos}{td ty tx:TE}{Q:Value->Shared->Prop}
theorem AS(W:X.A.units+1<cLine)(I:Inv X pins σ H s)(i:H a=some (.dT [(k,v)]))(Y:H b=some (.tup (List.map kV k)))(more:List Value)(l:more=[]\/∃x,more=[x])(h:∀w' s',Inv X pins σ (upd H a (.dT [])) s'->RelV v w'->Q w' s') :
  wpAny (model X.prog X.w) X.A (call (.builtin "dict.pop") (.ref a::.ref b::more)) Q X.xe s:=by
 obtain ⟨Z,m,e,d,dd⟩:=sD I.hok i
 obtain ⟨x,rfl⟩:∃x,e=[x]:=by
  have:=Paired.length d
  match e,this with
  | [x],_=>exact ⟨x,rfl⟩
 obtain ⟨o,b2,f⟩:=x
 have O:=Paired.get1 d (j:=0) rfl
 obtain ⟨y,r,u,e2,z⟩:=O
 cases r
 cases (show k=o from u)
 have P:argsOk "dict.pop" ⟨.ref a::.ref b::more,[]⟩:=by
  rcases l with q | ⟨x,q⟩
  ·subst q;exact PySem.F.args_dict_pop_2 _ _
  ·subst q;exact PySem.F.args_dict_pop_3 _ _ _
 refine call_meetsIn PySem.F.slot_dict_pop dd.typeIs PySem.F.entry_dict_pop P (pY (tupleKind (aK X.prog X.w)) a b more l) ⟨tupleKind_room_in1 W,k,b2,f,gh I.hok Y,dd,λh' U sb=>h f _ ?_ z⟩
 obtain ⟨q,C,D,g,G,J,K,_,L⟩:=U
 exact ii I (by rw [i];exact ϰ) sb ⟨q,g⟩ ⟨ϖ _,m,[],.nil,q,C,D,g,G,J,K,L⟩
theorem jC(hu:X.A.units+1<cLine)(ho:PE X o td)(he:PE X e ty)(hf:PE X f tx)(m:M2 X o "pop" apos e f cpos):PE X (.Call (.Attribute o "pop" apos) [e,f] [] cpos) (xf td ty tx):=by
 intro pins s σ H Q I h
 refine wpAny_Call_method m.base m.few m.line PySem.F.plainAttrs_dict PySem.F.slot_dict_pop PySem.F.type_dict_pop (thn (ho pins s σ H _ I h) λu G ⟨x,H1,q,J,a,ex,d,q1⟩=>?_)
 subst ex
 obtain rfl:u=Value.ref a:=J
 obtain ⟨r,C,_⟩:=jK q d
 refine ⟨r,C,?_⟩
 rw [m.trees]
 refine Calls.callWith_builtin rfl (Calls.evalArgs_plain (Calls.spliced_cons (thn (he pins G σ H1 _ q q1) λK L ⟨y,O,P,U,q2⟩ =>
  Calls.spliced_cons (thn (hf pins L σ O _ P q2) λj W ⟨z,Y,g,Z,k,b,ey,eb,q3⟩=>Calls.spliced_nil ?_))))
 subst ey
 obtain rfl:K=Value.ref b:=U
 rcases q3 with ⟨v,ea,q3⟩ | ⟨ea,q3⟩
 ·exact AS hu g ea eb [j] (.inr ⟨j,ϱ⟩) λw' W g l=>⟨v,_,g,l,q3⟩
 ·obtain ⟨hz,D,xs,i,dd⟩:=sD g.hok ea
  cases i
  exact call_meetsIn PySem.F.slot_dict_pop dd.typeIs PySem.F.entry_dict_pop (PySem.F.args_dict_pop_3 _ _ _) (pZ (tupleKind (aK X.prog X.w)) a b D j) ⟨dd,z,Y,g,Z,q3⟩
end
end L2
namespace K54
open PySem L2 Lo St
section
variable {P:Program}{w:World}{K:Frag}{mg:Str->Option Value}{base:Heap}{f CL CS CH CV:Addr}{fd:FuncData}{C:Kd->Addr}{CW:Wd->Addr}
theorem oY{n:Nat}{e:Wd}{f:List Int}(d:Ar e f)(g:inC n e f):∃k,i7 e f=some k:=by
 cases e with
 | take=>obtain ⟨a,b,rfl,_⟩:=d.c rfl;exact ⟨_,rfl⟩
 | mean=>obtain ⟨a,b,rfl,_⟩:=d.c rfl;exact ⟨_,rfl⟩
 | give=>obtain ⟨a,b,rfl,_⟩:=d.c rfl;exact ⟨_,rfl⟩
 | sum=>obtain ⟨a,b,c,rfl,_⟩:=d.s;exact ⟨_,rfl⟩
 | add=>obtain ⟨a,b,c,rfl,_⟩:=d.a;exact ⟨_,rfl⟩
 | plus=>exact g.elim
 | need=>exact g.elim
inductive qu (C:Kd->Addr) (CS CH CL CV:Addr) (K:Frag) (Pt:Addr) (vs:List V) (H:Hp) (Q:VK) (E:XK):Prop|mk b h d rs us v i hand wd ns x:vs=[.ref (x:Wx).W.l,.ref (h:Ah).l,.ref (b:Bx).pa,.int i,.int hand,.str (txt wd ns)]->b.Pt=Pt->Gs C CS CH CL CV K H b (shL CH b.A.l h rs us v) d x H (shL CH b.A.l h rs us v) d x->Ar wd ns->inC d.cells.length wd ns->d.cells.length<=900->d.ws.length<=900->DrI x.dk->x.dk.length<=100->x.ak.length<=100->rs.length<=100->us.length<=100->x.due.length<=900->bE x.ak (.inl i)=none->(∀lk dd aa c vs' us' d' rs' v' H',i7 wd ns=some lk->Gs C CS CH CL CV K H b (shL CH b.A.l h rs us v) d x H' (shL CH b.A.l h rs' us' v') d' ⟨x.W,x.dl,vs',(some dd,some aa),aJ x.dk (aJ [] (chK (dn (ef x.dk d.cells) wd ns hand).2)),bx x.ak (.inl i) (.int (dn (ef x.dk d.cells) wd ns hand).1),mf x.due lk,⟨some c,x.cz.w,x.cz.u⟩⟩->d'=d\/d'=d.kp 0 0 .work->Q .non H')->qu C CS CH CL CV K Pt vs H Q E
theorem xH{Pt:Addr}(F:Fun K "work" "Works.work" fY f fd)(TW:TxW K CW)(T:TxV K CV)(L:TxL K C CL)(n:Nq C CS CH CL CV)
  (GB:GM P w K mg base CX0 2 CV "is_bound" ["self","p"] (uK CS CV K))(GK:GM P w K mg base CX0 5 CL "ask" ["self","p","lock"] (zJ C CL K))(GO:GF P w K mg base CX0 3 "lock_of" ["told"] (iN C K))
  (GR:GF P w K mg base CX0 6 "read_step" ["text"] (hW CW))(GL:∀wd,GM P w K mg base CX0 3 (CW wd) "lock" ["self"] (cW CW K wd))(GS:GM P w K mg base CX0 7 CV "do_step" ["self","sheet","p","waited"] (uL C CS CH CL CV K Pt)):FnOk P w K mg base CX0 8 f fd ["self","sheet","p","i","hand","text"] (qu C CS CH CL CV K Pt):=by
 refine F.ok mr (λvs H Q E h=>?_) (λc5 A0 bd s H vs Q E g h=>?_)
 ·obtain ⟨b,h,d,rs,us,v,i,e,wd,I,x,rfl,_⟩:=h
  rfl
 obtain ⟨b,h,d,rs,us,v,i,e,wd,I,⟨W,dl,vs,o,dk,J,q,cz⟩,rfl,a8,g0,ar,ic,hn,ab,di,O,U,as,av,X,ev,q2⟩:=h
 simp only [] at q2 di O U X ev
 refine ⟨_,af (aH (ci (pm GB (pv 0) T.cl g (ac (pv 2) ag))) (ai oO) aA)
  (ai (aH (lM (vh (cM g) (pv 3) (pO (cM g) (ap (pv 0) rfl) (pv 2) gT ⟨ϱ,ϱ,ϱ,ϱ⟩))) aE
   (ai (aH (lM (jD (cM g) (pv 2) (ap (pv 0) rfl))) (ai (aH (ci (pm GK (ap (pv 0) rfl) L.cl g (ac (pv 2) (ac (pc GO g (ac (pm0 (GL wd) (pc GR g (ac (pv 5) ag)) (TW.cl wd) g) ag)) ag))))
    (ai (aQ (pm GS (pv 0) T.cl g (ac (pv 1) (ac (pv 2) (ac (aF (ac (pv 3) (ac (pv 4) (ac (pv 5) ag)))) ag)))))) aE)) aA)))),?_⟩
 refine ⟨_,ϱ,W.l,W.dx,_,ϱ,g0.wo.wi,gF θ,_,ϱ,W,b.home,b.many,b.A,d,_,b.p,b.z,ϱ,g0.wo.wi,g0.sa,g0.wo.pa,λH1 s1=>⟨_,ϱ,?_⟩⟩
 obtain ⟨Y,Z⟩:=oY ar ic
 refine aM ?_
 have g1:=g0.same n s1
 refine ⟨_,ϱ,_,ϱ,W.l,CV,W.dx,_,_,ϱ,g1.wo.wi,T.cl,T.an,kZ,W.an,ϱ,.inr ⟨_,.inl g1.an⟩,_,ϱ,λq0 G=>⟨_,DGet.t (k:=pk b.p) (ah G _ _ g1.an) (ah G _ _ g1.wo.pa),?_⟩⟩
 have s2:=ah (o:=.dK []) G
 have D:=g1.same n s2
 rw [fH]
 obtain ⟨y,hy,aR⟩:∃y,(Option.map V.ref o.2).getD (.ref q0)=.ref y/\(upd H1 q0 (.dK [])) y=some (.dK J):=by
  obtain ⟨od,oa⟩:=o
  cases oa with
  | none=>exact ⟨q0,rfl,by rw [show J=[] from g0.wo.n2 rfl];exact ae⟩
  | some x=>exact ⟨x,rfl,D.aa rfl⟩
 rw [hy]
 refine ⟨y,_,ϱ,DGet.k (k:=.inl i) aR,_,ϱ,?_⟩
 rw [show bE J (.inl i)=none from ev]
 refine aM ⟨_,ϱ,_,ϱ,W.l,CV,W.dx,_,_,ϱ,D.wo.wi,T.cl,T.pe,rG,W.pe,_,ϱ,DGet.t (k:=pk b.p) D.pe D.wo.pa,_,ϱ,bU ?_⟩
 refine ⟨_,ϱ,W.l,CV,W.dx,_,_,ϱ,D.wo.wi,T.cl,T.lk,uf,W.lk,dl,_,ϱ,D.co j3,hO θ,_,ϱ,_,ϱ,wd,I,ϱ,ar,λsv H3 s3 a1=>?_⟩
 obtain ⟨sa,aS,rfl,aZ⟩:=id a1
 have fl:=qd (m:="lock") θ θ θ θ θ wd I
 refine ⟨sa,aS,_,ϱ,aZ,fl,_,I,ϱ,ar,a1,λu H4 s4 lo=>?_⟩
 rw [Z] at lo
 obtain ⟨la,rfl,b0⟩:=lo
 refine ⟨_,Y,ϱ,wR b0,λu2 H5 s5 bg=>?_⟩
 have g5:=D.same n (s3.trans (s4.trans s5))
 refine ⟨W.lk,W.pl,_,_,b.p,u2,Y,ϱ,g5.ls,Nat.lt_of_le_of_lt X ζ,jO (k:=b.p) g5.wo.pa,bg,λH6 bi k6=>?_⟩
 obtain ⟨c2,r,_,e6,bb⟩:=bi
 have j:=g5.wo.im n (cL k6 (g5.co j4) id)
 have g6:Gs C CS CH CL CV K H b (shL CH b.A.l h rs us v) d ⟨W,dl,vs,o,dk,J,q,cz⟩ H6 (shL CH b.A.l h rs us v) d ⟨W,dl,r,o,dk,J,mf q Y,cz⟩:=⟨g5.ow.kp 12 rfl k6 e6,j.si,j.wi,bb,j.cz,j.pa,j.za,j.n1,j.n2,j.ne⟩
 refine ⟨_,ϱ,bU ⟨_,ϱ,W.l,W.dx,_,ϱ,g6.wo.wi,gF θ,_,ϱ,_,ϱ,_,ϱ,_,ϱ,_,ϱ,χ,λwt bl=>?_⟩⟩
 have g7:=g6.same n (ah (o:=.tup [.int i,.int e,.str (txt wd I)]) bl)
 exact ⟨b,h,d,rs,us,v,wt,i,e,wd,I,⟨W,dl,r,o,dk,J,mf q Y,cz⟩,ϱ,a8,g7.self c7,ae,ar,ic,hn,ab,di,O,U,as,av,λdd aa c bm d' bt v' H8 g8 ed=>q2 Y dd aa c r bm d' bt v' H8 Z (g7.trans g8) ed⟩
abbrev Wx.off(x:Wx)(W:Aw)(dl:Addr):Wx:=⟨W,dl,[],(none,none),[],[],[],x.cz⟩
inductive ot (C:Kd->Addr) (CS CH CL CV:Addr) (K:Frag) (vs:List V) (H:Hp) (Q:VK) (E:XK):Prop|mk b h d rs us v x:vs=[.ref (x:Wx).W.l,.ref (h:Ah).l,.ref (b:Bx).pa]->Gs C CS CH CL CV K H b (shL CH b.A.l h rs us v) d x H (shL CH b.A.l h rs us v) d x->((x.o=(none,none)\/∃dd aa,x.o=(some dd,some aa)))->x.due.length<=900->(∀W' dl H',(W':Aw).l=x.W.l->Gs C CS CH CL CV K H b (shL CH b.A.l h rs us v) d x H' (shL CH b.A.l h rs us v) d (x.off W' dl)->Q .non H')->ot C CS CH CL CV K vs H Q E
theorem vV(F:Fun K "ended" "Works.ended" fb f fd)(T:TxV K CV)(L:TxL K C CL)(n:Nq C CS CH CL CV)(a6:GM P w K mg base CX0 5 CL "free" ["self","p"] (zI C CL K)):FnOk P w K mg base CX0 6 f fd ["self","sheet","p"] (ot C CS CH CL CV K):=by
 refine F.ok sc_Works_ended (λvs H Q E h=>?_) (λb0 A0 a5 s H vs Q E hr h=>?_)
 ·obtain ⟨b,h,d,m,r,v,x,rfl,_⟩:=h
  rfl
 obtain ⟨b,h,d,m,r,v,⟨W,I,vs,o,dk,ak,g,j⟩,rfl,g0,eo,a2,q⟩:=h
 have nd:=sc_Works_ended.nd
 refine ⟨_,af (aQ (jC (cM hr) (ap (pv 0) rfl) (pv 2) cj ⟨ϱ,ϱ,ϱ,ϱ⟩)) (af (aQ (jC (cM hr) (ap (pv 0) rfl) (pv 2) cj ⟨ϱ,ϱ,ϱ,ϱ⟩)) (af (aQ (jC (cM hr) (ap (pv 0) rfl) (pv 2) cj ⟨ϱ,ϱ,ϱ,ϱ⟩))
  (eC (u:=λD σ H1=>σ=[some (.ref W.l),some (.ref h.l),some (.ref b.pa),none]/\Gs C CS CH CL CV K H b (shL CH b.A.l h m r v) d ⟨W,I,vs,o,dk,ak,g,j⟩ H1 (shL CH b.A.l h m r v) d ⟨W,I,vs,(none,none),[],[],g,j⟩/\∀σ' U,Q .non U->D.nx σ' U)
   (ai (gS PassesOwn.never rfl (cH (pm a6 (ap (pv 0) rfl) L.cl hr (ac (pv 2) ag))) (cB (i:=3) nd rfl (Or.inl rfl)) aE)) ?s))),?_⟩
 case s =>
  rintro D σ H1 ⟨rfl,g1,nx⟩
  refine ⟨_,ϱ,W.l,CV,W.dx,_,_,ϱ,g1.wo.wi,T.cl,T.lk,uf,W.lk,I,_,ϱ,g1.co j3,hO θ,_,ϱ,W.lk,W.pl,_,_,b.p,ϱ,g1.ls,Λ a2 ζ,jO (k:=b.p) g1.wo.pa,λq2 X O H2 e1 e2 np k2 hq=>⟨q2,ϱ,⟨_,SqL.of hq⟩,?_⟩⟩
  have k3:Kp W.lk (upd H1 X (.lst [])) H2:=λc o nc e=>by
   by_cases z:c=X
   ·subst z
    rw [ae] at e
    cases e
    exact e2
   ·rw [ao z] at e
    exact k2 c o nc e
  have a3:H1 W.lk=some (.ins CL I [("pairs",.ref W.pl)]):=g1.co j3
  have o3:=((g1.ow.new np (.lst [])).kp 11 rfl k3 e1).repl (A:=shL CH b.A.l h m r v++(stL b.p b.z b.A d++[(b.Pt,.tbl (mD yo j.d)),(b.Pw,.tbl (mD wY j.w)),(b.Pu,.tbl (mD w9 j.u)),(W.lk,.ins CL O [("pairs",.ref X)])])) (B:=[(W.dr,.dT []),(W.an,.dT []),(W.pe,.dT [])]) (x:=(W.pl,.lst vs)) (y:=(X,.lst []))
  have G:=g1.wo.im n (cL k2 a3 (λz=>z.2.2 rfl))
  have g3:Gs C CS CH CL CV K H b (shL CH b.A.l h m r v) d ⟨W,I,vs,o,dk,ak,g,j⟩ H2 (shL CH b.A.l h m r v) d ⟨⟨W.l,W.dx,W.lk,X,W.dr,W.an,W.pe⟩,O,[],(none,none),[],[],[],j⟩:=⟨o3,G.si,G.wi,.nil,G.cz,G.pa,G.za,G.n1,G.n2,G.ne⟩
  exact qf (xs:=[]) (λi σ U=>U=H2) rfl (λi σ U _ z=>by rw [z];exact SqL.of hq) (λi x σ U e=>by cases e) fun σ U z=>by rw [z];exact nx _ _ (q ⟨W.l,W.dx,W.lk,X,W.dr,W.an,W.pe⟩ O H2 rfl g3)
 rcases eo with e | ⟨dd,aa,e⟩
 ·cases (show o=(none,none) from e)
  cases (show dk=[] from (g0.wo.n1 rfl).1)
  cases (show ak=[] from g0.wo.n2 rfl)
  exact ⟨_,ϱ,W.l,CV,W.dx,_,_,ϱ,g0.wo.wi,T.cl,T.dr,rH,W.dr,ϱ,.inr ⟨_,.inl g0.dr⟩,_,ϱ,pk b.p,b.pa,ϱ,g0.wo.pa,.inr ⟨g0.dr,_,ϱ,W.l,CV,W.dx,_,_,ϱ,g0.wo.wi,T.cl,T.an,kZ,W.an,ϱ,.inr ⟨_,.inl g0.an⟩,_,ϱ,pk b.p,b.pa,ϱ,g0.wo.pa,.inr ⟨g0.an,
   _,ϱ,W.l,CV,W.dx,_,_,ϱ,g0.wo.wi,T.cl,T.pe,rG,W.pe,ϱ,.inr ⟨_,.inl g0.pe⟩,_,ϱ,pk b.p,b.pa,ϱ,g0.wo.pa,.inr ⟨g0.pe,ϱ,g0,λ_ _ z=>z⟩⟩⟩⟩
 ·cases (show o=(some dd,some aa) from e)
  have o1:=g0.ow.up 13 (.dT []) rfl
  have Y:ImS CH CL H (upd H W.dr (.dT [])):=cL bv g0.dr id
  have w1:=g0.wo.im n Y
  have J:(upd H W.dr (.dT [])) W.an=some (.dT (dOf b.p (some aa))):=o1.co (W.an,_) (List.mem_of_getElem? (i:=14) rfl)
  have o2:=o1.up 14 (.dT []) rfl
  have a4:ImS CH CL H (upd (upd H W.dr (.dT [])) W.an (.dT [])):=Y.trans (cL bv J id)
  have Z:Gs C CS CH CL CV K H b (shL CH b.A.l h m r v) d ⟨W,I,vs,(some dd,some aa),dk,ak,g,j⟩ (upd (upd H W.dr (.dT [])) W.an (.dT [])) (shL CH b.A.l h m r v) d ⟨W,I,vs,(none,none),[],[],g,j⟩ :=
   ⟨o2.sub (List.sublist_append_left _ [(dd,HO.dK dk),(aa,HO.dK ak)]),(g0.wo.od (o:=(none,none)) (dk:=[]) (ak:=[]) (λ_=>⟨ϱ,ϱ⟩) (λ_=>rfl)).im n a4⟩
  exact ⟨_,ϱ,W.l,CV,W.dx,_,_,ϱ,g0.wo.wi,T.cl,T.dr,rH,W.dr,ϱ,.inr ⟨_,.inl g0.dr⟩,_,ϱ,pk b.p,b.pa,ϱ,g0.wo.pa,.inl ⟨.ref dd,g0.dr,_,ϱ,W.l,CV,W.dx,_,_,ϱ,w1.wi,T.cl,T.an,kZ,W.an,ϱ,.inr ⟨_,.inl J⟩,_,ϱ,pk b.p,b.pa,ϱ,w1.pa,.inl ⟨.ref aa,J,
   _,ϱ,W.l,CV,W.dx,_,_,ϱ,Z.wo.wi,T.cl,T.pe,rG,W.pe,ϱ,.inr ⟨_,.inl Z.pe⟩,_,ϱ,pk b.p,b.pa,ϱ,Z.wo.pa,.inr ⟨Z.pe,ϱ,Z,λ_ _ z=>z⟩⟩⟩⟩
inductive rP (C:Kd->Addr) (CW:Wd->Addr) (CS CH CL CV:Addr) (K:Frag) (vs:List V) (H:Hp) (Q:VK) (E:XK):Prop|mk b S d x v wd ns lk:vs=[.ref (x:Wx).W.l,.ref (b:Bx).za,v]->Gs C CS CH CL CV K H b S d x H S d x->StO CW H wd ns v->Ar wd ns->i7 wd ns=some lk->x.due.length<=900->(∀H',Same H H'->Q (.bl (x.due.all λj=>aY j lk)) H')->rP C CW CS CH CL CV K vs H Q E
theorem Ae(F:Fun K "lock_stands" "Works.lock_stands" cn f fd)(TW:TxW K CW)(T:TxV K CV)(L:TxL K C CL)(n:Nq C CS CH CL CV)(GT:GM P w K mg base CX0 5 CL "stands" ["self","p","lock"] (uF C CL K))(GO:GF P w K mg base CX0 3 "lock_of" ["told"] (iN C K))
  (GL:∀wd,GM P w K mg base CX0 3 (CW wd) "lock" ["self"] (cW CW K wd)):FnOk P w K mg base CX0 6 f fd ["self","p","step"] (rP C CW CS CH CL CV K):=by
 refine F.ok gK (λvs H Q E h=>?_) (λZ A0 J s H vs Q E O h=>?_)
 ·obtain ⟨b,S,d,x,v,wd,j,o,rfl,_⟩:=h
  rfl
 obtain ⟨b,S,d,x,v,wd,j,o,rfl,g,e,Y,r,y,q⟩:=h
 refine ⟨_,ai (aw (pm GT (ap (pv 0) rfl) L.cl O (ac (pv 1) (ac (pc GO O (ac (pm0 (GL wd) (pv 2) (TW.cl wd) O) ag)) ag)))),?_⟩
 obtain ⟨sa,D,rfl,G⟩:=id e
 have fl:=qd (m:="lock") θ θ θ θ θ wd j
 refine ⟨_,ϱ,x.W.l,CV,x.W.dx,_,_,ϱ,g.wo.wi,T.cl,T.lk,uf,x.W.lk,x.dl,_,ϱ,g.co j3,hO θ,_,ϱ,_,ϱ,sa,D,_,ϱ,G,fl,_,j,ϱ,Y,e,λu H4 s4 lo=>?_⟩
 rw [r] at lo
 obtain ⟨la,rfl,I⟩:=lo
 refine ⟨_,o,ϱ,wR I,λu2 H5 s5 U=>?_⟩
 have i:=s4.trans s5
 have X:=g.same n i
 exact ⟨x.W.lk,x.W.pl,x.due,_,b.z,b.p,u2,o,ϱ,X.ls,Λ y ζ,jO (k:=b.z) X.wo.za,g.wo.ne,U,λH6 s6=>q H6 (i.trans s6)⟩
theorem wP{X:Cx}{b:Addr}{u:V}{σ:L2.St}(i:Nat)(x:Str)(h1:X.N[i]?=some x/\σ[i]?=some (some u)/\X.env.kindOf x=some .cell/\X.env.cells.lookup x=some b/\X.fn x=true):pB X [(b,u)] σ:=λp hm=>by
 cases ϵ.mp hm
 exact ⟨i,x,h1⟩
theorem ze{H:Hp}:∀{ch:List Pa} {us:List V},Paired (prD H) (chK ch) us->Paired (sPa K H) ch us
 | [],_,.nil=>.nil
 | _::_,_,.cons ⟨a,e,h⟩ t=>.cons ⟨a,e,h⟩ (ze t)
theorem AT{n:Nat}{val:Int->Int}{e:Wd}{j:List Int}{b:Int}(d:Ar e j)(f:inC n e j):∀c∈(dn val e j b).2,0<=c.1/\c.1<n:=by
 cases e with
 | give=>obtain ⟨a,c,rfl,_,g,_⟩:=d.c rfl;intro y i;rw [ϵ.mp i];exact ⟨g.1,f⟩
 | add=>obtain ⟨a,c,v,rfl,_,g,_⟩:=d.a;intro y i;rw [ϵ.mp i];exact ⟨g.1,f⟩
 | take=>obtain ⟨a,c,rfl,_⟩:=d.c rfl;exact λ_ h=>nomatch h
 | mean=>obtain ⟨a,c,rfl,_⟩:=d.c rfl;exact λ_ h=>nomatch h
 | sum=>obtain ⟨a,c,v,rfl,_⟩:=d.s;exact λ_ h=>nomatch h
 | plus=>exact f.elim
 | need=>exact f.elim
theorem AX{n:Nat}{val:Int->Int}{b:Wd}{d:List Int}(i:Ar b d)(j:inC n b d):∀c∈bk val b d,0<=c.1/\c.1<n:=by
 by_cases e:b=.add
 ·subst e
  obtain ⟨a,c,v,rfl,_,f,_⟩:=i.a
  intro y g
  rw [ϵ.mp g]
  exact ⟨f.1,j⟩
 ·have:bk val b d=[]:=by
   unfold bk
   split
   ·exact absurd rfl e
   ·rfl
  rw [this]
  exact λ_ h=>nomatch h
theorem BI{p z:Pa}(h:p≠z):pk z≠pk p:=λe=>h (by
 simp only [pk,List.cons.injEq,Sum.inl.injEq,and_true] at e
 exact (Prod.ext e.1 e.2).symm)
def LtW(w:Str)(us:List V)(H:Hp)(b:Bx)(u:V):Prop:=∃t,WsAt H (b.z.1,w,b.za,t) u/\H t=some (.tup us)
inductive og (C:Kd->Addr) (CS CH CL CV:Addr) (K:Frag) (Pw:Addr) (vs:List V) (H:Hp) (Q:VK) (E:XK):Prop|mk b h d i hand wd ns x:vs=[.ref (x:Wx).W.l,.ref (h:Ah).l,.ref (b:Bx).za,.int i,.int hand,.str (txt wd ns)]->b.Pw=Pw->Gs C CS CH CL CV K H b (shL CH b.A.l h [] [] .non) d x H (shL CH b.A.l h [] [] .non) d x->d.cells.length<=900->(((∃t,iB d.ws i=some t/\t.wd=false/\∀H',Same H H'->Q .non H')\/(iB d.ws i=none/\x.due=[]/\Ar wd ns/\inC d.cells.length wd ns/\d.ws.length<=900/\∀c r b' u v' us H',Gs C CS CH CL CV K H b (shL CH b.A.l h [] [] .non) d x H' (shL CH b.A.l h [r] [u] v') (d.kp r b' (.wlk "walked" i us (dn (aU d.cells) wd ns hand).2)) ⟨x.W,x.dl,x.vs,x.o,x.dk,x.ak,x.due,⟨x.cz.d,some c,x.cz.u⟩⟩->Q .non H')))->og C CS CH CL CV K Pw vs H Q E
theorem xI{cc Pw:Addr}{fS:Wd->Addr}{dS:Wd->FuncData}(F:Fun K "walk" "Works.walk" bM f fd)(TW:TxW K CW)(D:TxD K CS)(T:TxV K CV)(DH:TxH K CH)(n:Nq C CS CH CL CV)(cd:BB mg base)(cf:fd.code=.ref cc)(cg:PySem.W.codeHdIn K cc Pw=true)
  (GR:GF P w K mg base CX0 6 "read_step" ["text"] (hW CW))(HC:∀G:Heap,GM P w K mg G CX0 1 CS "cell_at" ["self","cell"] (eg CS))
  (HS:∀(g:Wd) (val:Int->Int) (n:Nat) (G:Heap),n<=1000->K.In G->FnOk P w K mg G CX0 5 (fS g) (dS g) ["self","hand","value_of"] (dw P w K mg CW val n g G))(mS:∀g,fm K (CW g) "step_done" (fS g))(bS:∀g,Binds K (dS g) ["self","hand","value_of"] [])
  (cp:GM P w K mg base CX0 1 CS "walked_at" ["self","p","i"] (rN CS K))(cu:GM P w K mg base CX0 1 CS "outcome" ["self","p"] (qC CS K))(cv:GM P w K mg base CX0 6 CV "lock_stands" ["self","p","step"] (rP C CW CS CH CL CV K))
  (ab:GM P w K mg base CX0 3 CH "row" ["self","row"] (jm CS CH CL K))(GS:GM P w K mg base CX0 1 CH "send" ["self","to","word","p","more"] (iO CH CL)):FnOk P w K mg base CX0 7 f fd ["self","sheet","p","i","hand","text"] (og C CS CH CL CV K Pw):=by
 refine F.okC sc_Works_walk (λvs H Q E h=>?_) (λA0 bI s H vs Q E X h=>?_)
 ·obtain ⟨b,h,d,i,j,g,y,x,rfl,_⟩:=h
  rfl
 obtain ⟨b,h,d,i,j,g,y,⟨W,Y,vs,o,Z,ak,m,J⟩,rfl,rfl,g0,hn,two⟩:=h
 have nd:=sc_Works_walk.nd
 have bi:Room 5 _:=X.mono ζ
 refine ⟨_,af (aB (i:=6) nd rfl (Or.inl rfl) (pm cp (ap (pv 0) rfl) D.cl X (ac (pv 2) (ac (pv 3) ag))))
  (af (aH (ay kW (pv 6) cj (ax _)) (af (aH (ay bw (az (r:=bc K) aD (pv 6) aj (λ_ _=>rfl)) aC (ax _)) aE aA) (ai oO)) aA)
  (af (aB (i:=7) nd rfl (Or.inl rfl) (pc GR X (ac (pv 5) ag)))
  (af (aH (PW.pt (pK (ay bw (pm cu (ap (pv 0) rfl) D.cl X (ac (pv 2) ag)) aC (ax _)) (lJ (iF (ci (pm cv (pv 0) T.cl X (ac (pv 2) (ac (pv 7) ag)))))))) aE aA)
  (af (aB (i:=8) nd rfl (Or.inl rfl) (lQ (cs:=[(s.heap.objs.size+1,.ref W.l)]) (sp:=λG=>dw P w K mg CW (aU d.cells) d.cells.length g G) (pv 7) (TW.cl g) (mS g)
   (λG a7=>HS g (aU d.cells) d.cells.length G (Λ hn ζ) a7) bi (bS g) aW (ac (pv 4) (ac (oP (P:=b.Pw) (cl:=[("self",s.heap.objs.size+1)]) cf cg cd rfl rfl rfl) ag))))
  (af (aQ (pm ab (pv 1) DH.cl X (ac (aF (ac aC (ac (pv 2) (ac (pv 3) (ac (az (r:=bc K) aD (pv 8) aj (λ_ _=>rfl)) (ac (az (r:=bc K) aD (pv 8) aj (λ_ _=>rfl)) ag)))))) ag)))
  (ai (aQ (pm GS (pv 1) DH.cl X (ac (az (r:=bc K) aD (pv 2) aj (λ_ _=>rfl)) (ac aC (ac (pv 2) (ac (aF (ac (pv 3) (ac (az (r:=bc K) aD (pv 8) aj (λ_ _=>rfl)) ag))) ag)))))))))))),?_⟩
 refine sq λnA kA=>⟨_,ϱ,W.l,CV,W.dx,_,_,ϱ,g0.wo.wi,T.cl,T.st,mH,b.A.l,b.A.dx,_,ϱ,g0.sa.ins,fq θ,_,ϱ,_,ϱ,b.p,b.z,b.A,d,b.za,i,ϱ,g0.sa,g0.wo.za,λH1 s1=>kA _ _ (sq λnB kB=>?_)⟩
 have g1:=g0.same n s1
 rcases two with ⟨t,et,ew,q⟩ | ⟨et,edu,ar,ic,lws,q⟩
 ·rw [et]
  obtain ⟨w',di,bb,a2⟩:=g1.wo.si.wt t (List.mem_of_find?_eq_some et)
  rw [ew] at a2
  refine ⟨_,ϱ,ϱ,_,ϱ,bU ⟨_,ϱ,t.r,_,_,_,ϱ,ϱ,SqT.of bb,St.at0,ϱ,_,ϱ,?_⟩⟩
  rw [cI a2]
  exact aM (q H1 s1)
 rw [et]
 obtain ⟨lk,bd⟩:=oY ar ic
 refine ⟨_,ϱ,ϱ,_,ϱ,aM (kB _ _ (sq λnC kC=>⟨_,ϱ,g,y,ϱ,ar,λv1 H2 s2 a8=>kC _ _ (sq λnD kD=>?_)⟩))⟩
 have L:=g1.same n s2
 refine ⟨_,ϱ,W.l,CV,W.dx,_,_,ϱ,L.wo.wi,T.cl,T.st,mH,b.A.l,b.A.dx,_,ϱ,L.sa.ins,fq θ,_,ϱ,b.p,b.z,b.A,d,b.za,ϱ,L.sa,L.wo.za,BI L.wo.ne,ϱ,_,ϱ,aM ?_⟩
 refine ⟨_,ϱ,W.l,W.dx,_,ϱ,L.wo.wi,gF θ,_,ϱ,_,ϱ,b,shL CH b.A.l h [] [] .non,d,⟨W,Y,vs,o,Z,ak,m,J⟩,v1,g,y,lk,ϱ,L.self c7,a8,ar,bd,(by rw [edu];show 0<=900;decide),λH3 s3=>⟨_,ϱ,?_⟩⟩
 rw [show m=[] from edu]
 refine aM (kD _ _ (sq λnE kE=>?_))
 have g3:=L.same n s3
 obtain ⟨a1,a3,rfl,U⟩:=id a8
 have hf:(jd g y).lookup ("step_done":Str)=none:=qd θ θ θ θ θ g y
 refine ⟨wP 0 "self" ⟨ϱ,ϱ,ϱ,ϱ,ϱ⟩,_,ϱ,a1,a3,_,ϱ,s3 _ _ U,hf,_,ϱ,g3.tw,λfv c H4 k4 bP dK dN c0 O G a7 pb=>?_⟩
 have a4:H3 b.Pw=some (.tbl (mD wY J.w)):=g3.co j1
 have bl:ImS CH CL H3 H4:=cL k4 a4 id
 have I:=g3.wo.im n bl
 have g4:Gs C CS CH CL CV K H b (shL CH b.A.l h [] [] .non) d ⟨W,Y,vs,o,Z,ak,m,J⟩ H4 (shL CH b.A.l h [] [] .non) d ⟨W,Y,vs,o,Z,ak,m,⟨J.d,some c,J.u⟩⟩:=⟨g3.ow.kp 9 rfl k4 bP,I.si,I.wi,I.ps,⟨I.cz.1,(λz e=>by cases e;exact O),I.cz.2.2⟩,I.pa,I.za,I.n1,I.n2,I.ne⟩
 have a5:StO CW H4 g y (.ref a1):=⟨a1,a3,ϱ,k4 _ _ (λz=>by have:=s3 _ _ U;rw [z,a4] at this;cases this) (s3 _ _ U)⟩
 have ct:CloT P w K mg G 4 fv (gp (aU d.cells) d.cells.length) H4:=wl true pb c0 O D T (HC G) g4.wo.wi g4.wo.si.ins g4.sa.cl
 refine ⟨.ref a1,y,j,fv,ϱ,ar,ic,a5,ct,λt ch H5 s5 ht c2=>kE _ _ (sq λnF kF=>?_)⟩
 have g5:=g4.same n s5
 obtain ⟨bg,⟨o1,h1,_⟩,h2⟩:=c2
 have bm:ChT K H5 (dn (aU d.cells) g y j).2 (.ref ch):=⟨ch,bg,ϱ,.inr ⟨o1,h1⟩,ze h2⟩
 refine ⟨_,ϱ,h.l,h.dx,_,ϱ,g5.sh,gu θ,_,ϱ,_,ϱ,_,ϱ,t,_,_,_,ϱ,ϱ,SqT.of ht,St.at1,_,ϱ,t,_,_,_,ϱ,ϱ,SqT.of ht,St.at0,χ,λr c3=>?_⟩
 have s6:=ah (o:=.tup [.str "walked",.ref b.za,.int i,.ref ch,.int (dn (aU d.cells) g y j).1]) c3
 have g6:=g5.same n s6
 have bA:RxAt K _ b.p b.z r (.wlk "walked" i [.ref ch,.int (dn (aU d.cells) g y j).1] (dn (aU d.cells) g y j).2):=⟨b.za,ae,g6.wo.za,.inl ⟨.inl rfl,_,_,ϱ,bm.keep (CH:=CH) (CL:=CL) (cD s6)⟩⟩
 refine ⟨b.p,b.z,b.A,h,d,[],[],.non,r,_,wtL CL b ⟨W,Y,vs,o,Z,ak,m,⟨J.d,some c,J.u⟩⟩,ϱ,(g6.self c7).ow,g6.wo.si,bA,⟨AT ar ic,(λ_ z=>by cases z),lws⟩,(by show 0<=900;decide),λb' v' H7 o7 c8 nw=>kF _ _ ?_⟩
 have g7:=g6.trans (S':=shL CH b.A.l h [r] [] v') ⟨o7,(g6.wo.im n o7.im).wsi c8⟩
 have bC:=ImS.ts o7.im _ _ (s6 _ _ ht)
 refine ⟨_,ϱ,h.l,h.dx,_,ϱ,g7.sh,gu θ,_,ϱ,b.za,_,_,_,ϱ,ϱ,SqT.of g7.wo.za,St.at0,_,ϱ,_,ϱ,_,ϱ,t,_,_,_,ϱ,ϱ,SqT.of bC,St.at0,χ,λt2 ca=>?_⟩
 have s8:=ah (o:=.tup [.int i,.int (dn (aU d.cells) g y j).1]) ca
 have g8:=g7.same n s8
 exact ⟨b.A.l,h,[r],[],v',(b.z.1,"went",b.za,t2),stL b.p b.z b.A _++wtL CL b ⟨W,Y,vs,o,Z,ak,m,⟨J.d,some c,J.u⟩⟩,ϱ,(g8.self c7).ow,(by show 0<=900;decide),λu H' o' hw=>q c r b' u v' _ H' (g8.trans ⟨o',g8.wo.im n o'.im⟩)⟩
def UnA(C:Kd->Addr)(CS CH CL CV:Addr)(K:Frag)(H:Hp)(b:Bx)(h:Ah)(d:Sx)(x:Wx)(i:Int)(cu:Option Addr)(r b':Addr)(w:Rx)(u v':V)(H':Hp):Prop :=
 Gs C CS CH CL CV K H b (shL CH b.A.l h [] [] .non) d x H' (shL CH b.A.l h [r] [u] v') (d.kp r b' w) ⟨x.W,x.dl,x.vs,x.o,x.dk,x.ak,x.due,⟨x.cz.d,x.cz.w,cu⟩⟩/\RxAt K H' b.p b.z r w/\LtW "undid" [.int i] H' b u/\NwAt K H' (enl b.p (d.kp r b' w)) v'
inductive qw (C:Kd->Addr) (CS CH CL CV:Addr) (K:Frag) (Pu:Addr) (vs:List V) (H:Hp) (Q:VK) (E:XK):Prop|mk b h d i wd ns x lk:vs=[.ref (x:Wx).W.l,.ref (h:Ah).l,.ref (b:Bx).za,.int i,.str (txt wd ns)]->b.Pu=Pu->Gs C CS CH CL CV K H b (shL CH b.A.l h [] [] .non) d x H (shL CH b.A.l h [] [] .non) d x->d.cells.length<=900->d.ws.length<=900->x.due.length<=900->Ar wd ns->inC d.cells.length wd ns->i7 wd ns=some lk->((iB d.ws i=none->∀r b' u v' H',UnA C CS CH CL CV K H b h d x i x.cz.u r b' (.wlk "void" i [] []) u v' H'->Q .non H'))->((wst d.ws i=some false->∀u H',Gs C CS CH CL CV K H b (shL CH b.A.l h [] [] .non) d x H' (shL CH b.A.l h [] [u] .non) d x->LtW "undid" [.int i] H' b u->Q .non H'))->((wst d.ws i=some true->bk (aU d.cells) wd ns≠[]->(x.due.all λj=>aY j lk)=false->∀c H',Gs C CS CH CL CV K H b (shL CH b.A.l h [] [] .non) d x H' (shL CH b.A.l h [] [] .non) d ⟨x.W,x.dl,x.vs,x.o,x.dk,x.ak,x.due,⟨x.cz.d,x.cz.w,some c⟩⟩->Q .non H'))->((wst d.ws i=some true->(bk (aU d.cells) wd ns=[]\/(x.due.all λj=>aY j lk)=true)->∀c r b' cv u v' H',UnA C CS CH CL CV K H b h d x i (some c) r b' (.wlk "undone" i [cv] (bk (aU d.cells) wd ns)) u v' H'->Q .non H'))->qw C CS CH CL CV K Pu vs H Q E
theorem xJ{cc Pu:Addr}{fS:Wd->Addr}{dS:Wd->FuncData}(F:Fun K "undo" "Works.undo" bO f fd)(TW:TxW K CW)(D:TxD K CS)(T:TxV K CV)(DH:TxH K CH)(n:Nq C CS CH CL CV)(du:BB mg base)(dv:fd.code=.ref cc)(dy:PySem.W.codeHdIn K cc Pu=true)
  (GR:GF P w K mg base CX0 6 "read_step" ["text"] (hW CW))(HC:∀L:Heap,GM P w K mg L CX0 1 CS "cell_at" ["self","cell"] (eg CS))
  (HS:∀(m:Wd) (val:Int->Int) (n:Nat) (L:Heap),K.In L->FnOk P w K mg L CX0 5 (fS m) (dS m) ["self","value_of"] (jn P w K mg CW val n m L))(mS:∀m,fm K (CW m) "back" (fS m))(bS:∀m,Binds K (dS m) ["self","value_of"] [])
  (dz:GM P w K mg base CX0 1 CS "walked_at" ["self","p","i"] (rN CS K))(dA:GM P w K mg base CX0 6 CV "lock_stands" ["self","p","step"] (rP C CW CS CH CL CV K))
  (ab:GM P w K mg base CX0 3 CH "row" ["self","row"] (jm CS CH CL K))(GS:GM P w K mg base CX0 1 CH "send" ["self","to","word","p","more"] (iO CH CL)):FnOk P w K mg base CX0 7 f fd ["self","sheet","p","i","text"] (qw C CS CH CL CV K Pu):=by
 refine F.okC sc_Works_undo (λvs H Q E h=>?_) (λA0 cv s H vs Q E hr h=>?_)
 ·obtain ⟨b,h,d,i,m,y,x,lk,rfl,_⟩:=h
  rfl
 obtain ⟨b,h,d,i,m,y,⟨W,Z,vs,o,dk,ak,q,G⟩,lk,rfl,rfl,g0,hn,bd,c4,ar,ic,c5,q1,q2,q3,q4⟩:=h
 have nd:=sc_Works_undo.nd
 have cd:Room 5 _:=hr.mono ζ
 refine ⟨_,af (aB (i:=5) nd rfl (Or.inl rfl) (pm dz (ap (pv 0) rfl) D.cl hr (ac (pv 2) (ac (pv 3) ag))))
  (af (aH (ay lT (pv 5) cj (ax _)) (ai (aQ (pm ab (pv 1) DH.cl hr (ac (aF (ac aC (ac (pv 2) (ac (pv 3) ag)))) ag))))
   (ai (aH (ay bw (az (r:=bc K) aD (pv 5) aj (λ_ _=>rfl)) aC (ax _))
    (af (aB (i:=6) nd rfl (Or.inl rfl) (pc GR hr (ac (pv 4) ag)))
    (af (aB (i:=7) nd rfl (Or.inl rfl) (lQ (cs:=[(s.heap.objs.size+1,.ref W.l)]) (sp:=λL=>jn P w K mg CW (aU d.cells) d.cells.length m L) (pv 6) (TW.cl m) (mS m)
     (λL bA=>HS m (aU d.cells) d.cells.length L bA) cd (bS m) aW (ac (oP (P:=b.Pu) (cl:=[("self",s.heap.objs.size+1)]) dv dy du rfl rfl rfl) ag)))
    (af (aH (PW.pt (dD (lL (pv 7) (λ_=>rfl)) (fR (iF (ci (pm dA (pv 0) T.cl hr (ac (pv 2) (ac (pv 6) ag)))))))) (ai oO) aA)
    (ai (aQ (pm ab (pv 1) DH.cl hr (ac (aF (ac aC (ac (pv 2) (ac (pv 3) (ac (pv 7) ag))))) ag)))))))
    aA)))
  (eC (u:=λD σ H1=>∃x5 x6 x7 a5 U d' x',σ=[some (.ref W.l),some (.ref h.l),some (.ref b.za),some (.int i),some (.str (txt m y)),x5,x6,x7]/\Gs C CS CH CL CV K H b (shL CH b.A.l h [] [] .non) d ⟨W,Z,vs,o,dk,ak,q,G⟩ H1 (shL CH b.A.l h a5 [] U) d' x'/\∀u O,Gs C CS CH CL CV K H b (shL CH b.A.l h [] [] .non) d ⟨W,Z,vs,o,dk,ak,q,G⟩ O (shL CH b.A.l h a5 [u] U) d' x'->ImS CH CL H1 O->LtW "undid" [.int i] O b u->∀σ',D.nx σ' O)
   (ai (aQ (pm GS (pv 1) DH.cl hr (ac (az (r:=bc K) aD (pv 2) aj (λ_ _=>rfl)) (ac aC (ac (pv 2) (ac (aF (ac (pv 3) ag)) ag))))))) ?s)),?_⟩
 case s =>
  rintro D σ H1 ⟨x5,x6,x7,a5,U,d',x',rfl,g,nx⟩
  refine ⟨_,ϱ,h.l,h.dx,_,ϱ,g.sh,gu θ,_,ϱ,b.za,_,_,_,ϱ,ϱ,SqT.of g.wo.za,St.at0,_,ϱ,_,ϱ,χ,λt ht=>?_⟩
  have s2:=ah (o:=.tup [.int i]) ht
  have I:=g.same n s2
  exact ⟨b.A.l,h,a5,[],U,(b.z.1,"undid",b.za,t),stL b.p b.z b.A d'++wtL CL b x',ϱ,(I.self c7).ow,(by show 0<=900;decide),λu O o' hw=>nx u O (I.trans ⟨o',I.wo.im n o'.im⟩) ((cD s2).trans o'.im) ⟨t,hw,ImS.ts o'.im _ _ ae⟩ _⟩
 refine sq λnA kA=>⟨_,ϱ,W.l,CV,W.dx,_,_,ϱ,g0.wo.wi,T.cl,T.st,mH,b.A.l,b.A.dx,_,ϱ,g0.sa.ins,fq θ,_,ϱ,_,ϱ,b.p,b.z,b.A,d,b.za,i,ϱ,g0.sa,g0.wo.za,λH1 s1=>kA _ _ (sq λnB kB=>?_)⟩
 have g1:=g0.same n s1
 cases et:iB d.ws i with
 | none =>
  refine ⟨_,ϱ,ϱ,_,ϱ,bU ⟨_,ϱ,h.l,h.dx,_,ϱ,g1.sh,gu θ,_,ϱ,_,ϱ,χ,λr aR=>?_⟩⟩
  have s2:=ah (o:=.tup [.str "void",.ref b.za,.int i]) aR
  have I:=g1.same n s2
  have X:RxAt K (upd H1 r (.tup [.str "void",.ref b.za,.int i])) b.p b.z r (.wlk "void" i [] []):=⟨b.za,ae,I.wo.za,.inr ⟨ϱ,ϱ⟩⟩
  refine ⟨b.p,b.z,b.A,h,d,[],[],.non,r,_,wtL CL b ⟨W,Z,vs,o,dk,ak,q,G⟩,ϱ,(I.self c7).ow,I.wo.si,X,⟨(λ_ h=>nomatch h),(λ_ z=>by cases z),bd⟩,(by show 0<=900;decide),λb' U H3 o3 d2 nw=>kB _ _ ?_⟩
  have g3:=I.trans (S':=shL CH b.A.l h [r] [] U) ⟨o3,(I.wo.im n o3.im).wsi d2⟩
  exact ⟨_,_,_,[r],U,_,_,ϱ,g3,λu O g' im lt σ'=>q1 et r b' u U O ⟨g',(X.keep o3.im).keep im,lt,nw.keep im.ts⟩⟩
 | some t =>
  obtain ⟨w',e4,c8,ca⟩:=g1.wo.si.wt t (List.mem_of_find?_eq_some et)
  have es:wst d.ws i=some t.wd:=by unfold wst;rw [et];rfl
  rw [← ca] at es
  refine ⟨_,ϱ,ϱ,_,ϱ,aM ⟨_,ϱ,t.r,_,_,_,ϱ,ϱ,SqT.of c8,St.at0,ϱ,_,ϱ,?_⟩⟩
  by_cases ew:w'="walked"
  rotate_left
  ·rw [Γ ew] at es
   exact bF (λc=>absurd (V.str.inj (Ξ c)) ew) λ_=>kB _ _ ⟨_,_,_,[],.non,d,_,ϱ,g1,λu O g' im lt σ'=>q2 es u O g' lt⟩
  rw [τ ew] at es
  refine bF (λ_=>sq λnC kC=>?_) λc=>absurd (τ (congrArg V.str ew)) c
  refine ⟨_,ϱ,m,y,ϱ,ar,λv1 H2 s2 d4=>kC _ _ (sq λnD kD=>?_)⟩
  have I:=g1.same n s2
  obtain ⟨a1,bg,rfl,a3⟩:=id d4
  have hf:(jd m y).lookup ("back":Str)=none:=qd θ θ θ θ θ m y
  refine ⟨wP 0 "self" ⟨ϱ,ϱ,ϱ,ϱ,ϱ⟩,_,ϱ,a1,bg,_,ϱ,a3,hf,I.tu,λfv c H4 k4 da ek el dc a8 L bA pb=>?_⟩
  have bi:H2 b.Pu=some (.tbl (mD w9 G.u)):=I.co j2
  have cf:ImS CH CL H2 H4:=cL k4 bi id
  have Y:=I.wo.im n cf
  have g4:Gs C CS CH CL CV K H b (shL CH b.A.l h [] [] .non) d ⟨W,Z,vs,o,dk,ak,q,G⟩ H4 (shL CH b.A.l h [] [] .non) d ⟨W,Z,vs,o,dk,ak,q,⟨G.d,G.w,some c⟩⟩:=⟨I.ow.kp 10 rfl k4 da,Y.si,Y.wi,Y.ps,⟨Y.cz.1,Y.cz.2.1,λz e=>by cases e;exact a8⟩,Y.pa,Y.za,Y.n1,Y.n2,Y.ne⟩
  have a6:StO CW H4 m y (.ref a1):=⟨a1,bg,ϱ,k4 _ _ (λz=>by rw [z,bi] at a3;cases a3) a3⟩
  have ct:CloT P w K mg L 4 fv (gp (aU d.cells) d.cells.length) H4:=wl false pb dc a8 D T (HC L) g4.wo.wi g4.wo.si.ins g4.sa.cl
  refine ⟨.ref a1,y,fv,ϱ,ar,ic,a6,ct,λch H5 s5 di=>kD _ _ (sq λnE kE=>?_)⟩
  have g5:=g4.same n s5
  obtain ⟨J,h1,h2⟩:=di
  have bl:StO CW H5 m y (.ref a1):=by obtain ⟨a,dx,e,h⟩:=a6;exact ⟨a,dx,e,s5 _ _ h⟩
  have l2:=h2.len
  have a7:∀H6,Gs C CS CH CL CV K H b (shL CH b.A.l h [] [] .non) d ⟨W,Z,vs,o,dk,ak,q,G⟩ H6 (shL CH b.A.l h [] [] .non) d ⟨W,Z,vs,o,dk,ak,q,⟨G.d,G.w,some c⟩⟩->Same H5 H6->(bk (aU d.cells) m y=[]\/(q.all λj=>aY j lk)=true)->nE [some (.ref W.l),some (.ref h.l),some (.ref b.za),some (.int i),some (.str (txt m y)),some (.ref t.r),some (.ref a1),some (.ref ch)] H6:=λH6 g6 s6 ok=>by
   have cp:ChT K H6 (bk (aU d.cells) m y) (.ref ch):=⟨ch,J,ϱ,.inl (s6 _ _ h1),Paired.mapP h2 λ_ _ ⟨b,e,z⟩=>⟨b,e,s6 _ _ z⟩⟩
   refine kE _ _ ⟨_,ϱ,h.l,h.dx,_,ϱ,g6.sh,gu θ,_,ϱ,_,ϱ,_,ϱ,χ,λr aR=>?_⟩
   have s7:=ah (o:=.tup [.str "undone",.ref b.za,.int i,.ref ch]) aR
   have g7:=g6.same n s7
   have X:RxAt K (upd H6 r (.tup [.str "undone",.ref b.za,.int i,.ref ch])) b.p b.z r (.wlk "undone" i [.ref ch] (bk (aU d.cells) m y)):=⟨b.za,ae,g7.wo.za,.inl ⟨.inr rfl,_,_,ϱ,cp.keep (CH:=CH) (CL:=CL) (cD s7)⟩⟩
   refine ⟨b.p,b.z,b.A,h,d,[],[],.non,r,_,wtL CL b ⟨W,Z,vs,o,dk,ak,q,⟨G.d,G.w,some c⟩⟩,ϱ,(g7.self c7).ow,g7.wo.si,X,⟨AX ar ic,(λ_ z=>by cases z),bd⟩,(by show 0<=900;decide),λb' U H8 o8 ds nw=>kB _ _ ?_⟩
   have g8:=g7.trans (S':=shL CH b.A.l h [r] [] U) ⟨o8,(g7.wo.im n o8.im).wsi ds⟩
   exact ⟨_,_,_,[r],U,_,_,ϱ,g8,λu O g' im lt σ'=>q4 es ok c r b' _ u U O ⟨g',(X.keep o8.im).keep im,lt,nw.keep im.ts⟩⟩
  refine ⟨_,ϱ,!J.isEmpty,.inr (.inl ⟨J,SqT.of h1,ϱ⟩),?_⟩
  by_cases eb:bk (aU d.cells) m y=[]
  ·have eu:J=[]:=by rw [eb] at l2;exact List.length_eq_zero_iff.mp l2.symm
   rw [eu]
   exact aM (aM (a7 H5 g5 (Same.refl _) (.inl eb)))
  ·have eu:(!J.isEmpty)=true:=by
    cases J with
    | nil=>exact absurd (List.length_eq_zero_iff.mp l2) eb
    | cons a r=>rfl
   rw [eu]
   refine bU ⟨_,ϱ,W.l,W.dx,_,ϱ,g5.wo.wi,gF θ,_,ϱ,_,ϱ,b,shL CH b.A.l h [] [] .non,d,⟨W,Z,vs,o,dk,ak,q,⟨G.d,G.w,some c⟩⟩,.ref a1,m,y,lk,ϱ,g5.self c7,bl,ar,c5,c4,λH6 s6=>⟨_,ϱ,?_⟩⟩
   have g6:=g5.same n s6
   show if (!(q.all λj=>aY j lk))=true then _ else _
   cases ea:q.all λj=>aY j lk with
   | false=>exact bU (q3 es eb ea c H6 g6)
   | true=>exact aM (a7 H6 g6 s6 (.inr ea))
section
variable {X:Cx}
theorem wc{us:List V}{d:List Value}(h:Vals us d):((List.range (min d.toArray.size ([]:List Value).toArray.size)).all (λ_=>true)&&d.toArray.size==([]:List Value).toArray.size)=us.isEmpty:=by
 have l:=h.length
 cases us with
 | nil =>
  have e:d=[]:=List.length_eq_zero_iff.mp l.symm
  rw [e]
  rfl
 | cons a r =>
  cases d with
  | nil=>cases l
  | cons b t=>simp
theorem mU(F:X.A.units<cLine):OpR X (compareOp .NotEq) (λx y H Q=>∃a b us,x=.ref a/\y=.ref b/\SqT X.K H a us/\SqT X.K H b []/\Q (.bl (!us.isEmpty)) H):=by
 intro d s σ H x y v u Q I C D h
 obtain ⟨a,b,us,rfl,rfl,f,g,q⟩:=h
 cases C
 cases D
 obtain ⟨G,i,l,_⟩:=I.tuple f
 obtain ⟨J,m,o,_⟩:=I.tuple g
 cases m
 have z:=SeqAt.RcNeAt.tuples (A:=X.A) (s:=s) (e:=λ_=>true) l o F (λj h1 r=>by cases r)
 rw [wc i] at z
 exact z X.prog X.w X.xe _ ⟨.bl _,H,I,ϱ,q⟩
theorem sZ(F:X.A.units<cLine):OpR X (compareOp .Eq) (λx y H Q=>∃a b us,x=.ref a/\y=.ref b/\SqT X.K H a us/\SqT X.K H b []/\Q (.bl us.isEmpty) H):=by
 intro d s σ H x y v u Q I C D h
 obtain ⟨a,b,us,rfl,rfl,f,g,q⟩:=h
 cases C
 cases D
 obtain ⟨G,i,l,_⟩:=I.tuple f
 obtain ⟨J,m,o,_⟩:=I.tuple g
 cases m
 have z:=SeqAt.RcAt.tuples (A:=X.A) (s:=s) (e:=λ_=>true) l o F (λj h1 r=>by cases r)
 rw [wc i] at z
 exact z X.prog X.w X.xe _ ⟨.bl _,H,I,ϱ,q⟩
end
theorem u7{H:Hp}{a b:Addr}{n:Nat}{us vs:List V}(ha:H a=some (.lst us))(hb:H b=some (.lst vs))(h:Paired (λx y=>EqIs K n H x y true) us vs):qm K (n+1) H (.ref a) (.ref b) true:=by
 intro P w A s u v hA d m Z r2
 cases Z
 cases r2
 obtain ⟨_,f,n1,o,G⟩:=(show ObjOk P w H s.heap a (.lst us) from d a _ ha)
 obtain ⟨_,g,n2,r,I⟩:=(show ObjOk P w H s.heap b (.lst vs) from d b _ hb)
 have l1:=o.length
 have l2:=r.length
 have l3:=h.len
 have q1:s.heap.IsList a f.toArray:=⟨_,G,ϱ,_,ϱ⟩
 have q2:s.heap.IsList b g.toArray:=⟨_,I,ϱ,_,ϱ⟩
 have z:=PySem.SeqAt.RcAt.lists (A:=A) (s:=s) (e:=λ_=>true) q1 q2 (by simp;omega) ω (λj h1 Y=>by
  have i:j<f.length:=by simpa using h1
  have l:j<g.length:=by simpa using Y
  have F:us[j]?=some us[j]:=ξ ω
  obtain ⟨y,J,L⟩:=h.get1 F
  obtain ⟨u,C,O⟩:=o.get F
  obtain ⟨v,D,Q⟩:=r.get J
  have q:=L P w A.in1 s u v (by show A.units+1+n<cLine;omega) d m O Q
  have U:f.toArray[j]=u:=by
   rw [ξ i] at C
   simpa using Option.some.inj C
  have W:g.toArray[j]=v:=by
   rw [ξ l] at D
   simpa using Option.some.inj D
  rw [U,W]
  exact q)
 have X:((List.range f.toArray.size).all λ_=>true)=true:=by simp
 rw [X] at z
 exact z
inductive oo (vs:List V) (H:Hp) (Q:VK) (E:XK):Prop|mk c:vs=[.int c]->(∀r,inV r->Q (.int r) H)->oo vs H Q E
theorem xU(F:Fun K "_law_number" "_law_number" e8 f fd):FnOk P w K mg base CX0 1 f fd ["_law_cell"] oo:=by
 refine F.ok lB (λvs H Q E h=>?_) (λd A b s H vs Q E e h=>?_)
 ·obtain ⟨c,rfl,_⟩:=h
  rfl
 obtain ⟨c,rfl,q⟩:=h
 refine ⟨_,af (aH (ay bw (aG cm (pv 0) aj) aj (ax _)) (ai (aw (aG cQ (aG fW (aG cm (aG cC (pv 0) aj) (aG fW (aG oR aj (aG vj aj aj)) aj)) (aG vj aj aj)) aj))) aA)
  (ai (aw (aG fW (aG cm (aG cC (pv 0) aj) aj) aj))),?_⟩
 refine ⟨_,ϱ,_,_,ϱ,ϱ,(by show (0:Int)<3;decide),ϱ,_,ϱ,bF (λ_=>?_) (λ_=>?_)⟩
 ·refine ⟨_,ϱ,_,_,ϱ,ϱ,⟨ζ,ζ⟩,_,_,ϱ,ϱ,⟨ζ,ζ,ζ⟩,_,_,ϱ,ϱ,.inl ⟨ζ,ζ⟩,_,_,ϱ,ϱ,_,_,ϱ,ϱ,(by show (0:Int)<2*10 ^ 40-1;decide +kernel),_,_,ϱ,ϱ,⟨ζ,ζ,ζ⟩,_,_,ϱ,ϱ,_,_,ϱ,ϱ,q _ ?_⟩
  show (c/3%(2*10 ^ 40-1)-10 ^ 40+1:Int).natAbs<10 ^ 40
  have h0:0<=c/3%(2*10 ^ 40-1:Int):=Int.emod_nonneg _ θ
  have h1:c/3%(2*10 ^ 40-1:Int)<2*10 ^ 40-1:=Int.emod_lt_of_pos _ θ
  generalize c/3%(2*10 ^ 40-1:Int)=m at h0 h1 ⊢
  omega
 ·refine ⟨_,ϱ,_,_,ϱ,ϱ,⟨ζ,ζ⟩,_,_,ϱ,ϱ,(by show (0:Int)<25;decide),_,_,ϱ,ϱ,q _ ?_⟩
  show (c/3%25-9:Int).natAbs<10 ^ 40
  omega
theorem A1(a b:Str):(a++b).length=a.length+b.length:=by
 show (a.cps++b.cps).size=_
 rw [Array.size_append]
 rfl
theorem acs(a b:Str):(a++b).cps.toList=a.cps.toList++b.cps.toList:=by
 show (a.cps++b.cps).toList=_
 rw [Array.toList_append]
theorem kK{a b:Str}(h:a.cps.toList=b.cps.toList):a=b:=by
 obtain ⟨a⟩:=a
 obtain ⟨b⟩:=b
 have:a=b:=Array.toList_inj.mp h
 rw [this]
theorem Bw:(Str.ofString " ").cps.toList=[32]:=by decide +kernel
theorem uo(b:Wd)(d:List Int):(txt b d).cps.toList=Km.cO 32 ((wS b::d.map iS).map λy=>y.cps.toList):=by
 unfold txt
 rw [jo]
 exact Km.dj 32 _
theorem Bc(d:Wd)(b:Int):wS d++Str.ofString " 3 "++iS b=txt d [3,b]:=by
 refine kK ?_
 rw [uo]
 have e:(Str.ofString " 3 ").cps.toList=[32]++(iS 3).cps.toList++[32]:=by decide +kernel
 simp only [acs,e,List.map_cons,List.map_nil,Km.cO]
 simp
theorem Bb(d:Wd)(a b c:Int):txt d [a,b]++Str.ofString " "++iS c=txt d [a,b,c]:=by
 refine kK ?_
 simp only [acs,uo,Bw,List.map_cons,List.map_nil,Km.cO]
 simp
theorem A8(i:Int)(h0:0<=i)(b:i<4):∃w,w≠.plus/\w≠.need/\atI ([.str "take",.str "mean",.str "sum",.str "add"]:List V) i=some (.str (wS w)):=by
 have:i=0\/i=1\/i=2\/i=3:=by omega
 rcases this with rfl | rfl | rfl | rfl
 ·exact ⟨.take,ζ,ζ,ϱ⟩
 ·exact ⟨.mean,ζ,ζ,ϱ⟩
 ·exact ⟨.sum,ζ,ζ,ϱ⟩
 ·exact ⟨.add,ζ,ζ,ϱ⟩
inductive kM (vs:List V) (H:Hp) (Q:VK) (E:XK):Prop|mk c m:vs=[.int c,.int (m:Nat)]->1<=m->m<=8->(∀wd ns H',Same H H'->Ar wd ns->inC m wd ns->Q (.str (txt wd ns)) H')->kM vs H Q E
theorem vJ(F:Fun K "_law_step" "_law_step" gP f fd)(B:TxB mg)(GN:GF P w K mg base CX0 1 "_law_number" ["_law_cell"] oo):FnOk P w K mg base CX0 2 f fd ["_law_cell","_law_many"] kM:=by
 refine F.ok sc__law_step (λvs H Q E h=>?_) (λa6 A J s H vs Q E j h=>?_)
 ·obtain ⟨c,m,rfl,_⟩:=h
  rfl
 obtain ⟨c,m,rfl,m1,m8,q⟩:=h
 have nd:=sc__law_step.nd
 obtain ⟨d,w1,w2,Z⟩:=A8 (c%4) (Int.emod_nonneg _ ζ) (Int.emod_lt_of_pos _ ζ)
 have O:(0:Int)<(m:Int):=by omega
 refine ⟨_,af (aB (i:=2) nd rfl (Or.inl rfl) (aG cm (aG cC (pv 0) aj) (pv 1)))
  (af (aB (i:=3) nd rfl (Or.inl rfl) (az (r:=bW K) aI (ck (ac aC (ac aC (ac aC (ac aC ag))))) (aG cm (pv 0) aj) (λ_ _=>rfl)))
  (af (aB (i:=4) nd rfl (Or.inl rfl) (aG cP (aG cP (pv 3) aC) (bp gl rfl B.str PyProof.Rows.boot_str (ac (pv 2) ag))))
  (af (aH (ay bw (pv 3) aC (ax _)) (ai (aw (aG cP (aG cP (pv 4) aC) (bp gl rfl B.str PyProof.Rows.boot_str (ac (aG cQ (pv 2) (aG cm (aG cC (pv 0) aj) (aG fW (pv 1) (pv 2)))) ag))))) aA)
  (af (aH (ay bw (pv 3) aC (ax _)) (ai (aw (aG cP (aG cP (pv 4) aC) (bp gl rfl B.str PyProof.Rows.boot_str (ac (pc GN j (ac (aG cC (pv 0) aj) ag)) ag))))) aA)
  (ai (aw (pv 4))))))),?_⟩
 refine ⟨_,ϱ,_,_,ϱ,ϱ,⟨ζ,ζ⟩,_,ϱ,_,_,ϱ,ϱ,O,?_⟩
 have U:0<=c/4%(m:Int):=Int.emod_nonneg _ ω
 have C:c/4%(m:Int)<m:=Int.emod_lt_of_pos _ O
 obtain ⟨a,u⟩:∃a,c/4%(m:Int)=a:=⟨_,ϱ⟩
 rw [u] at U C
 have D:inN 3:=⟨ζ,ζ⟩
 have e:inN a:=⟨U,ω⟩
 refine ⟨χ,λl hl=>?_⟩
 have y:Same H _:=ah (o:=.lst [.str "take",.str "mean",.str "sum",.str "add"]) hl
 refine ⟨_,ϱ,_,_,ϱ,ϱ,(by show (0:Int)<4;decide),l,_,_,_,ϱ,ϱ,SqL.of ae,Z,?_⟩
 generalize (upd H l _)=H1 at y ⊢
 have hz:(1000:Nat)<=sizeLine:=by decide
 have l1:=ug d
 have l3:=gi e.v
 have ls:(Str.ofString " ").length=1:=by decide +kernel
 have l2:(Str.ofString " 3 ").length=3:=by decide +kernel
 have lt:(txt d [3,a]).length<=100:=by rw [← Bc];simp only [A1];omega
 refine ⟨_,ϱ,_,_,ϱ,ϱ,?_,_,ϱ,a,congrArg (λz=>[V.int z]) u,wj e.v,_,_,ϱ,ϱ,?_,?_⟩
 ·show (wS d).length+(Str.ofString " 3 ").length<=sizeLine
  omega
 ·show (wS d++Str.ofString " 3 ").length+(iS a).length<=sizeLine
  simp only [A1];omega
 have et:=Bc d a
 have g:∀(x:Int),inV x->(txt d [3,a]++Str.ofString " ").length+(iS x).length<=sizeLine:=λx hx=>by
  have:=gi hx
  simp only [A1]
  omega
 erw [et]
 refine ⟨_,ϱ,ϱ,_,ϱ,bF (λk=>?_) (λX=>⟨_,ϱ,ϱ,_,ϱ,bF (λk=>?_) (λY=>?_)⟩)⟩
 ·obtain rfl:d=.sum:=iu k
  have W:(0:Int)<(m:Int)-a:=by omega
  refine ⟨_,ϱ,_,_,ϱ,ϱ,(by show (txt .sum [3,a]).length+(Str.ofString " ").length<=sizeLine;omega),_,ϱ,_,ϱ,_,_,ϱ,ϱ,⟨ζ,ζ⟩,_,ϱ,_,ϱ,_,a,ϱ,congrArg V.int u,_,_,ϱ,ϱ,W,a,_,congrArg V.int u,ϱ,?_⟩
  have b0:0<=c/32%((m:Int)-a):=Int.emod_nonneg _ ω
  have b1:c/32%((m:Int)-a)<m-a:=Int.emod_lt_of_pos _ W
  obtain ⟨b,L⟩:∃b,c/32%((m:Int)-a)=b:=⟨_,ϱ⟩
  rw [L] at b0 b1
  have G:inN (a+b):=⟨ω,ω⟩
  refine ⟨a+b,congrArg (λz=>[V.int (a+z)]) L,wj G.v,_,_,ϱ,ϱ,g _ G.v,?_⟩
  have I:=Bb .sum 3 a (a+b)
  erw [I]
  exact q .sum [3,a,a+b] H1 y ⟨D,e,G,ω⟩ ⟨ω,ω⟩
 ·obtain rfl:d=.add:=iu k
  refine ⟨_,ϱ,_,_,ϱ,ϱ,(by show (txt .add [3,a]).length+(Str.ofString " ").length<=sizeLine;omega),_,ϱ,_,_,ϱ,ϱ,⟨ζ,ζ⟩,_,ϱ,λr j=>⟨_,ϱ,wj j,_,_,ϱ,ϱ,g _ j,?_⟩⟩
  have I:=Bb .add 3 a r
  erw [I]
  exact q .add [3,a,r] H1 y ⟨D,e,j⟩ C
 ·refine ⟨_,ϱ,q d [3,a] H1 y ?_ ?_⟩
  ·have n3:=dq (b:=.sum) X
   have n4:=dq (b:=.add) Y
   cases d<;>first | contradiction | exact ⟨D,e⟩
  ·have n3:=dq (b:=.sum) X
   have n4:=dq (b:=.add) Y
   cases d<;>first | contradiction | exact C
theorem oX{i:Int}(h:inV i):PySem.intText? (iS i)=some i:=by
 have b:(iS i).length<=4300:=Λ (gi h) ζ
 have e:=qc i
 unfold Km.bX at e
 split at e
 ·rename_i hn
  have:=PySem.intText_neg e (Km.fD _) (Km.je _) b
  rw [Km.fz] at this
  rw [this]
  congr 1
  omega
 ·have:=PySem.intText_digits (x:=iS i) (by rw [e];exact Km.fD _) (by rw [e];exact Km.je _) b
  rw [e,Km.fz] at this
  rw [this]
  congr 1
  omega
theorem yV{n:Nat}{f:Wd}{g:List Int}(e:Ar f g)(d:inC n f g):∃x a r,g=x::a::r/\inN a/\a<n:=by
 cases f with
 | take=>obtain ⟨a,b,rfl,_,h,_⟩:=e.c rfl;exact ⟨_,_,_,rfl,h,d⟩
 | mean=>obtain ⟨a,b,rfl,_,h,_⟩:=e.c rfl;exact ⟨_,_,_,rfl,h,d⟩
 | give=>obtain ⟨a,b,rfl,_,h,_⟩:=e.c rfl;exact ⟨_,_,_,rfl,h,d⟩
 | sum=>obtain ⟨a,b,c,rfl,_,h,_⟩:=e.s;exact ⟨_,_,_,rfl,h,d.1⟩
 | add=>obtain ⟨a,b,c,rfl,_,h,_⟩:=e.a;exact ⟨_,_,_,rfl,h,d⟩
 | plus=>exact d.elim
 | need=>exact d.elim
def LkB(H:Hp)(lk:Lk)(v:V):Prop:=∃a s,v=.ref a/\H a=some (.tup [s,.int lk.2.1,.int lk.2.2])
theorem LkB.keep{H H':Hp}{lk:Lk}{v:V}(e:TSame H H')(h:LkB H lk v):LkB H' lk v:=let ⟨a,s,h1,h2⟩:=h;⟨a,s,h1,e _ _ h2⟩
inductive uI (vs:List V) (H:Hp) (Q:VK) (E:XK):Prop|mk n wd ns:vs=[.str (txt wd ns)]->Ar wd ns->inC n wd ns->(∀lk v H',i7 wd ns=some lk->Same H H'->LkB H' lk v->Q v H')->uI vs H Q E
theorem Af(F:Fun K "_law_lock" "_law_lock" gQ f fd)(B:TxB mg):FnOk P w K mg base CX0 1 f fd ["_law_text"] uI:=by
 refine F.ok sc__law_lock (λvs H Q E h=>?_) (λZ A L s H vs Q E hr h=>?_)
 ·obtain ⟨n,g,C,rfl,_⟩:=h
  rfl
 obtain ⟨n,g,C,rfl,m,G,q⟩:=h
 have nd:=sc__law_lock.nd
 refine ⟨_,af (aB (i:=1) nd rfl (Or.inl rfl) (iw PySem.F.plainAttrs_str PySem.F.slot_str_split PySem.F.type_str_split jI (pv 0) (ac aC ag)))
  (af (aB (i:=2) nd rfl (Or.inl rfl) (bp cA rfl B.int PyProof.Rows.boot_int (ac (az (r:=bW K) aI (pv 1) aj (λ_ _=>rfl)) ag)))
  (af (aH (ay bw (az (r:=bW K) aI (pv 1) aj (λ_ _=>rfl)) aC (ax _)) (ai (aw (aF (ac aC (ac (pv 2) (ac (bp cA rfl B.int PyProof.Rows.boot_int (ac (az (r:=bW K) aI (pv 1) aj (λ_ _=>rfl)) ag)) ag)))))) aA)
  (af (aH (ay bw (az (r:=bW K) aI (pv 1) aj (λ_ _=>rfl)) aC (ax _)) (ai (aw (aF (ac aC (ac (pv 2) (ac (pv 2) ag)))))) aA)
  (ai (aw (aF (ac aC (ac (pv 2) (ac (pv 2) ag))))))))),?_⟩
 refine ⟨_,ϱ,ϱ,txt g C,32,ϱ,congrArg (λz=>[V.str z]) jo,nU m,λt ht=>?_⟩
 rw [jl]
 have X:Same H _:=ah (o:=.lst ((wS g::C.map iS).map V.str)) ht
 have d:(upd H t (.lst ((wS g::C.map iS).map V.str))) t=some (.lst ((wS g::C.map iS).map V.str)):=ae
 generalize (upd H t _)=H1 at X d ⊢
 obtain ⟨x,a,r,rfl,O,_⟩:=yV m G
 have u:∀(l:Lk) (c:Addr) (k:V),i7 g (x::a::r)=some l->H1 c=none->Q (.ref c) (upd H1 c (.tup [k,.int l.2.1,.int l.2.2])):=λl c k e y=>q l _ _ e (X.trans (ah y)) ⟨c,k,ϱ,ae⟩
 have J:g≠.sum->∃l,i7 g (x::a::r)=some l/\l.2=(a,a):=λne=>by
  cases g with
  | take=>obtain ⟨_,_,e,_⟩:=m.c rfl;cases e;exact ⟨_,rfl,rfl⟩
  | mean=>obtain ⟨_,_,e,_⟩:=m.c rfl;cases e;exact ⟨_,rfl,rfl⟩
  | sum=>exact absurd rfl ne
  | give=>obtain ⟨_,_,e,_⟩:=m.c rfl;cases e;exact ⟨_,rfl,rfl⟩
  | add=>obtain ⟨_,_,_,e,_⟩:=m.a;cases e;exact ⟨_,rfl,rfl⟩
  | plus=>exact G.elim
  | need=>exact G.elim
 refine ⟨_,ϱ,t,_,_,_,ϱ,ϱ,SqL.of d,St.at2,iS a,a,ϱ,oX O.v,Λ (gi O.v) ζ,?_⟩
 refine ⟨_,ϱ,t,_,_,_,ϱ,ϱ,SqL.of d,St.at0,ϱ,_,ϱ,bF (λk=>?_) (λk1=>?_)⟩
 ·obtain rfl:g=.sum:=iu k
  obtain ⟨_,_,v,e,_,_,U,av⟩:=m.s
  cases e
  exact ⟨_,ϱ,_,ϱ,t,_,_,_,ϱ,ϱ,SqL.of d,aV (j:=3) rfl,iS v,v,ϱ,oX U.v,Λ (gi U.v) ζ,χ,λc y=>u (.read,a,v) c _ rfl y⟩
 ·obtain ⟨⟨D,I⟩,W,Y⟩:=J (dq (b:=.sum) k1)
  cases (show I=(a,a) from Y)
  exact ⟨_,ϱ,t,_,_,_,ϱ,ϱ,SqL.of d,St.at0,ϱ,_,ϱ,bF (λk=>⟨_,ϱ,_,ϱ,χ,λc y=>u (D,a,a) c _ W y⟩) (λk=>⟨_,ϱ,_,ϱ,χ,λc y=>u (D,a,a) c _ W y⟩)⟩
def bL(lk:Lk)(c:Int):Bool:=decide (lk.2.1<=c)&&decide (c<=lk.2.2)
inductive on (K:Frag) (vs:List V) (H:Hp) (Q:VK) (E:XK):Prop|mk v lk c:vs=[v,.int c]->LkB H lk v->Q (.bl (bL lk c)) H->on K vs H Q E
theorem vH(F:Fun K "_law_meets" "_law_meets" fO f fd):FnOk P w K mg base CX0 1 f fd ["_law_lock_here","_law_at"] (on K):=by
 refine F.ok mq (λvs H Q E h=>?_) (λi A b s H vs Q E j h=>?_)
 ·obtain ⟨v,d,c,rfl,_⟩:=h
  rfl
 obtain ⟨v,d,c,rfl,⟨a,k,rfl,g⟩,q⟩:=h
 refine ⟨_,ai (aw (fV (bn mW (az (r:=bc K) aD (pv 0) aj (λ_ _=>rfl)) (pv 1) (ax _)) (eE (bn mW (pv 1) (az (r:=bc K) aD (pv 0) aj (λ_ _=>rfl)) (ax _))))),?_⟩
 refine ⟨_,ϱ,a,_,_,_,ϱ,ϱ,SqT.of g,St.at1,_,ϱ,_,_,ϱ,ϱ,_,ϱ,?_⟩
 unfold bL at q
 cases e:decide (d.2.1<=c) with
 | true =>
  rw [e] at q
  exact bU ⟨_,ϱ,_,ϱ,a,_,_,_,ϱ,ϱ,SqT.of g,St.at2,_,_,ϱ,ϱ,q⟩
 | false =>
  rw [e] at q
  exact aM q
section
variable {N:List Addr}{H0 H H':Hp}{b:Bx}{d:Sx}{x:Wx}{h:Ah}{rs:List Addr}{us:List V}{v:V}
theorem dF:∀u∈([]:Cs),¬Im CH CL u.2:=λ_ h=>nomatch h
theorem Gd.sheet(g:Gd C CS CH CL CV K N H0 H b [] d x)(n:Nq C CS CH CL CV)(o:Ow CH CL [] H H' (shL CH b.A.l h [] [] .non)):Gd C CS CH CL CV K N H0 H' b (shL CH b.A.l h [] [] .non) d x:=⟨g.ow.join o,g.wo.im n o.im⟩
theorem Gd.drop{S:Cs}(g:Gd C CS CH CL CV K N H0 H b S d x):Gd C CS CH CL CV K N H0 H b [] d x:=⟨g.ow.tail,g.wo⟩
end
theorem wy{α:Type} [DecidableEq α]{c:Cod α}{H:Hp}:∀{xs:List α} {us vs:List V},Paired (c.rp K H) xs us->Paired (c.rp K H) xs vs->Paired (λx y=>EqIs K c.n H x y true) us vs
 | [],_,_,.nil,.nil=>.nil
 | x::_,_,_,.cons h t,.cons h2 t2=>.cons (by have:=c.eq h h2;rw [τ rfl] at this;exact this) (wy t t2)
theorem yi{H:Hp}{es:List (Pa×Str)}{u v:V}(h1:NwAt K H es u)(m:NwAt K H es v):EqIs K 3 H u v true:=by
 obtain ⟨t,o,rfl,g,h⟩:=h1
 obtain ⟨q,i,rfl,d,j⟩:=m
 refine (iK (n:=2) (SqT.of g) (SqT.of d) ?_).1
 have l:∀{e:List (Pa×Str)} {f vs:List V},Paired (sPS K H) e f->Paired (sPS K H) e vs->Paired (λx y=>EqIs K 2 H x y true) f vs:=by
  intro e f vs q1
  induction q1 generalizing vs with
  | nil=>intro q2;cases q2;exact .nil
  | cons a t ih =>
   intro q2
   cases q2 with
   | cons b r =>
    refine .cons ?_ (ih r)
    have z:=(cPS.eq (sPS.c a) (sPS.c b)).mono (show cPS.n<=2 by decide)
    rwa [τ rfl] at z
 exact l h j
theorem z8{N:List Addr}{H0 H H':Hp}{L:Cs}{a:Addr}{o:HO}(g:Ow CH CL N H0 H L)(k:Kp a H H')(e:H a=some o)(i:¬Im CH CL o)(n:a∉ad L)(h:a∈N\/H0 a=none):Ow CH CL N H0 H' L :=
 ⟨λx hx=>k _ _ (λz=>n (z▸ϑ.mpr ⟨x,hx,ϱ⟩)) (g.co x hx),g.nd,g.mu,g.nw,λb u nb z=>k b u (λy=>by
  rcases h with m | m
  ·exact nb (y▸m)
  ·rw [y,m] at z;cases z) (g.fr b u nb z),λb u z w=>k b u (λy=>by
  have:=g.im b u z w
  rw [y,e] at this
  cases this
  exact i w) (g.im b u z w)⟩
theorem Gd.ext{N:List Addr}{H0 H H':Hp}{b:Bx}{S:Cs}{d:Sx}{x:Wx}{a:Addr}{o:HO}(g:Gd C CS CH CL CV K N H0 H b S d x)(n:Nq C CS CH CL CV)(k:Kp a H H')(e:H a=some o)(i:¬Im CH CL o)(na:a∉ad (S++(stL b.p b.z b.A d++wtL CL b x)))(h:a∈N\/H0 a=none):Gd C CS CH CL CV K N H0 H' b S d x:=⟨z8 g.ow k e i na h,g.wo.im n (cL k e i)⟩
theorem Gd.out{N:List Addr}{H0 H:Hp}{b:Bx}{S:Cs}{d:Sx}{x:Wx}{a:Addr}{o:HO}(g:Gd C CS CH CL CV K N H0 H b S d x)(e:H0 a=some o)(n:a∉N):H a=some o/\a∉ad (S++(stL b.p b.z b.A d++wtL CL b x)) :=
 ⟨g.ow.fr a o n e,λhm=>by
  obtain ⟨y,hy,z⟩:=ϑ.mp hm
  rcases g.ow.nw y hy with m | m
  ·exact n (z▸m)
  ·rw [show y.1=a from z,e] at m;cases m⟩
theorem Gd.more{N:List Addr}{H0 H:Hp}{b:Bx}{S:Cs}{d:Sx}{x:Wx}{a:Addr}(g:Gd C CS CH CL CV K N H0 H b S d x):Gd C CS CH CL CV K (a::N) H0 H b S d x :=
 ⟨⟨g.ow.co,g.ow.nd,g.ow.mu,λu hu=>(g.ow.nw u hu).imp (λz=>Θ _ z) id,λc u nc e=>g.ow.fr c u (λz=>nc (Θ _ z)) e,g.ow.im⟩,g.wo⟩
def Seen(sn:List (Key×V))(ws:List Wt):Prop:=∀i:Int,bE sn (.inl i)=(wst ws i).map V.bl
theorem Seen.put{sn:List (Key×V)}{ws:List Wt}(h:Seen sn ws)(t:Wt):Seen (bx sn (.inl t.i) (.bl t.wd)) (iz ws t):=λj=>by
 rw [iL,kJ,h j]
 by_cases e:j=t.i
 ·rw [if_pos (by rw [e]),if_pos e];rfl
 ·rw [if_neg (λz=>e (Sum.inl.inj z)),if_neg e]
theorem ua(j:Lk)(a:Int):aY j (.change,a,a)=!bL j a:=by
 unfold aY bL
 have:pF j.1 .change=false:=by cases j.1<;>rfl
 rw [this,Bool.or_false]
 by_cases h1:j.2.1<=a
 ·by_cases h2:a<=j.2.2
  ·rw [τ h1,τ h2,Γ (show ¬j.2.2<a by omega),Γ (show ¬a<j.2.1 by omega)];rfl
  ·rw [τ h1,Γ h2,τ (show j.2.2<a by omega)];rfl
 ·rw [Γ h1,τ (show a<j.2.1 by omega),Bool.or_true];rfl
theorem AZ(b:List Lk)(a:Int):(b.all λj=>aY j (.change,a,a))=!b.any λj=>bL j a:=by
 rw [List.not_any_eq_all_not]
 exact congrArg _ (funext λj=>ua j a)
theorem LtW.keep{w:Str}{us:List V}{H H':Hp}{b:Bx}{u:V}(e:TSame H H')(h:LtW w us H b u):LtW w us H' b u:=let ⟨t,h1,h2⟩:=h;⟨t,h1.keep e,e _ _ h2⟩
def OutU(K:Frag)(H:Hp)(b:Bx)(d:Sx)(due:List Lk)(i:Int)(wd:Wd)(ns:List Int)(lk:Lk)(rs:List Addr)(us:List V)(d':Sx):Prop :=
 (iB d.ws i=none/\∃r b' u,rs=[r]/\us=[u]/\d'=d.kp r b' (.wlk "void" i [] [])/\RxAt K H b.p b.z r (.wlk "void" i [] [])/\LtW "undid" [.int i] H b u) \/
 (wst d.ws i=some false/\rs=[]/\d'=d/\∃u,us=[u]/\LtW "undid" [.int i] H b u) \/
 (wst d.ws i=some true/\bk (aU d.cells) wd ns≠[]/\(due.all λj=>aY j lk)=false/\rs=[]/\us=[]/\d'=d) \/
 (wst d.ws i=some true/\(bk (aU d.cells) wd ns=[]\/(due.all λj=>aY j lk)=true)/\∃r b' cv u,rs=[r]/\us=[u]/\d'=d.kp r b' (.wlk "undone" i [cv] (bk (aU d.cells) wd ns))/\RxAt K H b.p b.z r (.wlk "undone" i [cv] (bk (aU d.cells) wd ns))/\LtW "undid" [.int i] H b u)
theorem OutU.keep{H g:Hp}{b:Bx}{d:Sx}{f:List Lk}{i:Int}{j:Wd}{l:List Int}{m:Lk}{o:List Addr}{us:List V}{d':Sx}(e:Same H g)(h:OutU K H b d f i j l m o us d'):OutU K g b d f i j l m o us d':=by
 rcases h with ⟨h1,r,b',u,h2,h3,h4,h5,h6⟩ | ⟨h1,h2,h3,u,h4,h5⟩ | h | ⟨h1,h0,r,b',cv,u,h2,h3,h4,h5,h6⟩
 ·exact .inl ⟨h1,r,b',u,h2,h3,h4,h5.keep (CH:=0) (CL:=0) (cD e),h6.keep e.ts⟩
 ·exact .inr (.inl ⟨h1,h2,h3,u,h4,h5.keep e.ts⟩)
 ·exact .inr (.inr (.inl h))
 ·exact .inr (.inr (.inr ⟨h1,h0,r,b',cv,u,h2,h3,h4,h5.keep (CH:=0) (CL:=0) (cD e),h6.keep e.ts⟩))
def RwU(K:Frag)(H:Hp)(z:Pa)(rs:List Addr)(ys:List V):Prop:=(rs=[]/\ys=[])\/∃r r2 a a',rs=[r]/\ys=[.ref r2]/\PaA H z a/\PaA H z a'/\((∃c,H r=some (.tup [.str "void",.ref a,.int c])/\H r2=some (.tup [.str "void",.ref a',.int c])) \/
 ∃c cv t2 us2 ch,H r=some (.tup [.str "undone",.ref a,.int c,cv])/\ChT K H ch cv/\H r2=some (.tup [.str "undone",.ref a',.int c,.ref t2])/\H t2=some (.tup us2)/\Paired (sPa K H) ch us2)
theorem RwU.keepI{H b:Hp}{z:Pa}{d:List Addr}{ys:List V}(e:ImS CH CL H b)(h:RwU K H z d ys):RwU K b z d ys:=by
 rcases h with h | ⟨r,r2,a,a',h1,h2,p1,p2,⟨c,h3,h4⟩ | ⟨c,cv,t2,us2,ch,h3,h4,h5,h6,h7⟩⟩
 ·exact .inl h
 ·exact .inr ⟨r,r2,a,a',h1,h2,e.ts _ _ p1,e.ts _ _ p2,.inl ⟨c,e.ts _ _ h3,e.ts _ _ h4⟩⟩
 ·exact .inr ⟨r,r2,a,a',h1,h2,e.ts _ _ p1,e.ts _ _ p2,.inr ⟨c,cv,t2,us2,ch,e.ts _ _ h3,h4.keep e,e.ts _ _ h5,e.ts _ _ h6,Paired.mapP h7 λ_ _ z=>z.keep e.ts⟩⟩
theorem RwU.keep{H H':Hp}{z:Pa}{rs:List Addr}{ys:List V}(e:Same H H')(h:RwU K H z rs ys):RwU K H' z rs ys:=h.keepI (CH:=0) (CL:=0) (cD e)
theorem RwU.eq{H:Hp}{z:Pa}{d:List Addr}{ys:List V}(h:RwU K H z d ys):Paired (λx y=>EqIs K 3 H x y true) (d.map V.ref) ys:=by
 rcases h with ⟨rfl,rfl⟩ | ⟨r,r2,a,a',rfl,rfl,p1,p2,h⟩
 ·exact .nil
 have e:EqIs K 1 H (.ref a) (.ref a') true:=by have:=cPa.eq (jO (K:=K) (k:=z) p1) (jO (K:=K) (k:=z) p2);rw [τ rfl] at this;exact this
 have b:=e.mono (show 1<=2 by decide)
 rcases h with ⟨c,h3,h4⟩ | ⟨c,cv,t2,us2,ch,h3,⟨dv,us1,rfl,h4,h5⟩,h6,h7,h8⟩
 ·exact .cons (iK (K:=K) (n:=2) (SqT.of h3) (SqT.of h4) (.cons (eq_str 2 _) (.cons b (.cons (eq_int 2 _) .nil)))).1 .nil
 ·have f:SqT K H dv us1:=h4.elim SqT.of λ⟨o,z⟩=>.inl (.inr ⟨o,z⟩)
  have g:=(iK (K:=K) (n:=1) f (SqT.of h7) (wy (c:=cPa) (Paired.mapP h5 λ_ _ z=>z.c) (Paired.mapP h8 λ_ _ z=>z.c))).1
  exact .cons (iK (K:=K) (n:=2) (SqT.of h3) (SqT.of h6) (.cons (eq_str 2 _) (.cons b (.cons (eq_int 2 _) (.cons g .nil))))).1 .nil
theorem ifq{c:TT}{t u:TS}{D:Ends}{σ:L2.St}{H:Hp}(h:∀ub:L2.St->Hp->Prop,(∀σ H,u D σ H->ub σ H)->c σ H λb H1=>if b=true then t D σ H1 else ub σ H1):zt c t u D σ H:=h _ λ_ _ z=>z
def ZsU(H:Hp)(b:Bx)(i:Int)(nv:V)(ws:List Ws)(zs:List V):Prop:=(ws=[]/\zs=[])\/∃t a2 a3 a4,ws=[((b.z.1,("undid":Str),b.za,t):Ws)]/\H t=some (.tup [.int i])/\zs=[.ref a4]/\H a4=some (.tup [.int b.z.1,.ref a3])/\H a3=some (.tup [.str "undid",.ref b.za,.ref a2,nv])/\H a2=some (.tup [.int i])
theorem ZsU.keep{H d:Hp}{b:Bx}{i:Int}{f:V}{g:List Ws}{j:List V}(e:TSame H d)(h:ZsU H b i f g j):ZsU d b i f g j:=by
 rcases h with h | ⟨t,a2,a3,a4,h1,h2,h3,h4,h5,h6⟩
 ·exact .inl h
 ·exact .inr ⟨t,a2,a3,a4,h1,e _ _ h2,h3,e _ _ h4,e _ _ h5,e _ _ h6⟩
theorem ZsU.eq{H:Hp}{b:Bx}{i:Int}{e:V}{f:List Ws}{g d:List V}{es:List (Pa×Str)}(h:ZsU H b i e f g)(u:NwAt K H es e)(p:Paired (LtAt K H es) f d):Paired (λx y=>EqIs K 5 H x y true) d g:=by
 rcases h with ⟨rfl,rfl⟩ | ⟨t,a2,a3,a4,rfl,h2,rfl,h4,h5,h6⟩
 ·cases p;exact .nil
 ·cases p with
  | cons a c =>
   cases c
   obtain ⟨w,z,j,rfl,l,m,o⟩:=a
   have q:=((iK (K:=K) (n:=0) (SqT.of h2) (SqT.of h6) (.cons (eq_int 0 _) .nil)).1).mono (show 1<=3 by decide)
   have r:=(iK (K:=K) (n:=3) (SqT.of m) (SqT.of h5) (.cons (eq_str 3 _) (.cons (yy 3) (.cons q (.cons (yi o u) .nil))))).1
   exact .cons (iK (K:=K) (n:=4) (SqT.of l) (SqT.of h4) (.cons (eq_int 4 _) (.cons r .nil))).1 .nil
def su(W A ta sa la:Addr)(nv:V)(za:Addr)(i:Int)(tx:Str)(y9 y10 y11 y12 y13 y14 y15:Option V):L2.St:=[some (.ref W),some (.ref A),some (.ref ta),some (.ref sa),some (.ref la),some nv,some (.ref za),some (.int i),some (.str tx),y9,y10,y11,y12,y13,y14,y15]
structure Um(C:Kd->Addr)(CS CH CL CV:Addr)(K:Frag)(H:Hp)(b:Bx)(d:Sx)(x:Wx)(i:Int)(wd:Wd)(ns:List Int)(lk:Lk)(h:Ah)(cl t:Addr)(rs:List Addr)(us:List V)(v':V)(d':Sx)(x':Wx)(H1:Hp):Prop where
 g:Gd C CS CH CL CV K (ad (stL b.p b.z b.A d++wtL CL b x)) H H1 b (shL CH b.A.l h rs us v') d' x'
 ex:∃cz,x'=⟨x.W,x.dl,x.vs,x.o,x.dk,x.ak,x.due,cz⟩
 hc:H1 cl=some (.lst (d.cells.map V.int))
 nc:cl∉ad (shL CH b.A.l h rs us v'++(stL b.p b.z b.A d'++wtL CL b x'))
 fc:H cl=none
 ht:H1 t=some (.lst ((wS wd::ns.map iS).map V.str))
 lat:v'=.non\/NwAt K H1 (enl b.p d') v'
 en:d'.en=d.en
 out:OutU K H1 b d x.due i wd ns lk rs us d'
theorem Um.same{H:Hp}{b:Bx}{d:Sx}{x:Wx}{i:Int}{wd:Wd}{ns:List Int}{lk:Lk}{h:Ah}{cl t:Addr}{rs:List Addr}{us:List V}{v':V}{d':Sx}{x':Wx}{H1 H2:Hp}(m:Um C CS CH CL CV K H b d x i wd ns lk h cl t rs us v' d' x' H1)(n:Nq C CS CH CL CV)(e:Same H1 H2):Um C CS CH CL CV K H b d x i wd ns lk h cl t rs us v' d' x' H2 :=
 ⟨m.g.same n e,m.ex,e _ _ m.hc,m.nc,m.fc,e _ _ m.ht,m.lat.imp id λz=>z.keep e.ts,m.en,m.out.keep e⟩
structure Pg(d d':Sx)(x x':Wx)(i:Int)(sn sn':List (Key×V)):Prop where
 ex:∃cz,x'=⟨x.W,x.dl,x.vs,x.o,x.dk,x.ak,x.due,cz⟩
 ln:d'.cells.length=d.cells.length
 en:d'.en=d.en
 lw:d'.ws.length<=d.ws.length+1
 ls:sn'.length<=sn.length+1
 sn:Seen sn' d'.ws
 st:∀j,wst d.ws j=some false->wst d'.ws j=some false
 ed:x.due=[]->wst d'.ws i=some false
structure Lx(CL:Addr)(H:Hp)(b:Bx)(d:Sx)(x:Wx)(la:Addr)(ls:List V)(lks:List Lk):Prop where
 h:H la=some (.lst ls)
 n:la∉ad (stL b.p b.z b.A d++wtL CL b x)
 p:Paired (LkB H) lks ls
 l:lks.length<=100
 m:∀c,(lks.any λj=>bL j c)=x.due.any λj=>bL j c
inductive uE (C:Kd->Addr) (CS CH CL CV:Addr) (K:Frag) (Pu:Addr) (vs:List V) (H:Hp) (Q:VK) (E:XK):Prop|mk b d x ta i wd ns sa sn la ls lks nv:vs=[.ref (x:Wx).W.l,.ref (b:Bx).A.l,.ref ta,.ref sa,.ref la,nv]->b.Pu=Pu->Gs C CS CH CL CV K H b [] d x H [] d x->H ta=some (.tup [.ref b.za,.int i,.str (txt wd ns)])->Ar wd ns->inC d.cells.length wd ns->d.cells.length<=8->d.ws.length<=100->x.due.length<=100->H sa=some (.dK sn)->sa∉ad (stL b.p b.z b.A d++wtL CL b x)->sn.length<=100->Seen sn d.ws->Lx CL H b d x la ls lks->NwAt K H (enl b.p d) nv->(∀d' x' sn' H',Gd C CS CH CL CV K (sa::ad (stL b.p b.z b.A d++wtL CL b x)) H H' b [] d' x'->sa∉ad (stL b.p b.z b.A d'++wtL CL b x')->H' sa=some (.dK sn')->Pg d d' x x' i sn sn'->Q (.bl true) H')->uE C CS CH CL CV K Pu vs H Q E
theorem xS{Pu fI:Addr}{dI:FuncData}(F:Fun K "_law_undone" "_law_undone" cr f fd)(B:TxB mg)(D:TxD K CS)(T:TxV K CV)(DH:TxH K CH)(n:Nq C CS CH CL CV)(MH:L2.Mk K CH fI)(hY:mg "Sheet"=some (.ref CH))(i0:FnOk P w K mg base CX0 1 fI dI ["self","stand"] (fK CH CL))(i1:Binds K dI ["self","stand"] [])
  (i2:GM P w K mg base CX0 7 CV "undo" ["self","sheet","p","i","text"] (qw C CS CH CL CV K Pu))(i3:GM P w K mg base CX0 1 CH "rows_told" ["self"] (kN CH))(i8:GM P w K mg base CX0 2 CH "letters_told" ["self"] (oq CS CH K))(GC:GM P w K mg base CX0 1 CS "cells_told" ["self"] (ou CS K))(ia:GF P w K mg base CX0 1 "_law_meets" ["_law_lock_here","_law_at"] (on K)) :
  FnOk P w K mg base CX0 8 f fd ["_law_works","_law_stand","_law_told","_law_seen","_law_locks","_law_news"] (uE C CS CH CL CV K Pu):=by
 refine F.ok sc__law_undone (λvs H Q E h=>?_) (λlu A0 hE s H vs Q E hr h=>?_)
 ·obtain ⟨b,d,x,ta,i,O,ns,sa,sn,la,ls,cp,nv,rfl,_⟩:=h
  rfl
 obtain ⟨b,d,x,ta,i,O,ns,sa,sn,la,ls,cp,nv,rfl,ha,g0,hb,ar,ic,he,hg,hh,hi,hk,hl,c4,L,hm,q⟩:=h
 have nd:=sc__law_undone.nd
 have hp:Room (1+1) _:=hr.mono ζ
 obtain ⟨lk,f5⟩:=oY ar ic
 obtain ⟨y,a,r,bG,na,a1⟩:=yV ar ic
 refine ⟨_,(af (qQ (pv 2) (zY (n:=3) rfl (lO (cB (i:=6) nd rfl (Or.inl rfl)) (lO (cB (i:=7) nd rfl (Or.inl rfl)) (lO (cB (i:=8) nd rfl (Or.inl rfl)) xz)))))
  (af (aB (i:=9) nd rfl (Or.inl rfl) (pm0 GC (pv 1) D.cl hr))
  (af (aB (i:=10) nd rfl (Or.inl rfl) (iw PySem.F.plainAttrs_str PySem.F.slot_str_split PySem.F.type_str_split jI (pv 8) (ac aC ag)))
  (af (aB (i:=11) nd rfl (Or.inr rfl) (bp cA rfl B.int PyProof.Rows.boot_int (ac (az (r:=bW K) aI (pv 10) aj (λ_ _=>rfl)) ag)))
  (af (aB (i:=12) nd rfl (Or.inl rfl) (aX MH i0 hp rfl hY i1 .nil aW (ac (pv 1) ag)))
  (af (aQ (pm i2 (pv 0) T.cl hr (ac (pv 12) (ac (pv 6) (ac (pv 7) (ac (pv 8) ag))))))
  (eC (u:=λD σ H1=>∃h cl t rs us Z J x',σ=su x.W.l b.A.l ta sa la nv b.za i (txt O ns) (some (.ref cl)) (some (.ref t)) (some (.int a)) (some (.ref (h:Ah).l)) none none none/\Um C CS CH CL CV K H b d x i O ns lk h cl t rs us Z J x' H1/\∀v H',Q v H'->D.rt v H')
  (af (aB (i:=13) nd rfl (Or.inl rfl) (ck ag))
  (af (aB (i:=14) nd rfl (Or.inl rfl) (ck (ac (aF (ac (az (r:=bc K) aD (pv 6) aj (λ_ _=>rfl)) (ac (aF (ac aC (ac (pv 6) (ac (aF (ac (pv 7) ag)) (ac (pv 5) ag))))) ag))) ag)))
  (af (aB (i:=15) nd rfl (Or.inl rfl) (aF ag))
  (af (aH (ay bw (az (r:=bW K) aI (pv 10) aj (λ_ _=>rfl)) aC (ax _)) (ai (aB (i:=15) nd rfl (Or.inl rfl) (aF (ac (aF (ac (pv 11) (ac (aG fW (az (r:=bW K) aI (pv 9) (pv 11) (λ_ _=>rfl)) (bp cA rfl B.int PyProof.Rows.boot_int (ac (az (r:=bW K) aI (pv 10) aj (λ_ _=>rfl)) ag))) ag))) ag)))) aA)
  (eC (u:=λD σ H1=>∃h cl t rs us Z J x' rl ll cg bA a2 a3 a4,σ=su x.W.l b.A.l ta sa la nv b.za i (txt O ns) (some (.ref cl)) (some (.ref t)) (some (.int a)) (some (.ref (h:Ah).l)) (some (.ref rl)) (some (.ref ll)) (some (.ref cg))/\Um C CS CH CL CV K H b d x i O ns lk h cl t rs us Z J x' H1/\H1 rl=some (.lst [])/\H1 ll=some (.lst [.ref a4])/\ll≠cl/\H1 a4=some (.tup [.int b.z.1,.ref a3])/\H1 a3=some (.tup [.str "undid",.ref b.za,.ref a2,nv])/\H1 a2=some (.tup [.int i])/\H1 cg=some (.tup bA)/\Paired (sPa K H1) (bk (aU d.cells) O ns) bA/\∀v H',Q v H'->D.rt v H')
  (af (aH (lM (jD (cM hr) (pv 7) (pv 3))) (af (aB (i:=13) nd rfl (Or.inl rfl) (ck (ac (aF (ac aC (ac (pv 6) (ac (pv 7) ag)))) ag)))
  (ai (hZ (cM hr) (pv 3) (pv 7) lR rfl))) (ai (aH (PW.pt (dD (lL (ie (cM hr) (pv 3) (pv 7) (λ_ _=>rfl)) (λ_=>rfl)) (dD (ay (mU (Nat.lt_of_succ_lt (cM hr))) (pv 15) (aF ag) (ax _)) (fR (ay (vk (Nat.lt_of_succ_lt (cM hr))) (c6 jy rfl (cH (pv 4)) (λ_ _ _ _=>fT (ci (pc ia hr (ac (pv 0) (ac (pv 1) ag))))) (λ_ _ _ _=>pv 0)) (ck ag) (ax _)))))) (ai (aB (i:=14) nd rfl (Or.inl rfl) (ck ag))) (ai (aH (lL (ie (cM hr) (pv 3) (pv 7) (λ_ _=>rfl)) (λ_=>rfl)) (af (aB (i:=13) nd rfl (Or.inl rfl) (ck (ac (aF (ac aC (ac (pv 6) (ac (pv 7) (ac (pv 15) ag))))) ag)))
  (af (hZ (cM hr) (pv 3) (pv 7) lR rfl)
  (ai (aH (ay (mU (Nat.lt_of_succ_lt (cM hr))) (pv 15) (aF ag) (ax _)) (ai (qQ (az (r:=bc K) aD (az (r:=bc K) aD (pv 15) aj (λ_ _=>rfl)) aj (λ_ _=>rfl)) (va (pv 9) (pv 11) pG))) aA)))) aA)))))
  (eC (u:=λD σ H1=>∃h cl y10 y15 rs us ws Z J x' rl ll ys zs b0,σ=su x.W.l b.A.l ta sa la nv b.za i (txt O ns) (some (.ref cl)) y10 (some (.int a)) (some (.ref (h:Ah).l)) (some (.ref rl)) (some (.ref ll)) y15/\Gd C CS CH CL CV K (sa::ad (stL b.p b.z b.A d++wtL CL b x)) H H1 b (shL CH b.A.l h rs us Z) J x'/\sa∉ad (shL CH b.A.l h rs us Z++(stL b.p b.z b.A J++wtL CL b x'))/\H1 sa=some (.dK b0)/\Pg d J x x' i sn b0/\RwU K H1 b.z rs ys/\H1 rl=some (.lst ys)/\H1 ll=some (.lst zs)/\Paired (WsAt H1) ws us/\ws.length<=900/\ZsU H1 b i nv ws zs/\(Z=.non\/NwAt K H1 (enl b.p J) Z)/\H1 cl=some (.lst (J.cells.map V.int))/\∀v H',Q v H'->D.rt v H')
  (ai (aw (fV (bn (vp 4 (hun (c:=3) hr)) (pm0 i3 (pv 12) DH.cl hr) (pv 13) (ax _)) (fV (bn (vp 6 (hun (c:=5) hr)) (pm0 i8 (pv 12) DH.cl hr) (pv 14) (ax _)) (eE (bn (oT cInt (hun hr)) (pm0 GC (pv 1) D.cl hr) (pv 9) (ax _))))))) ?vE)) ?vN))))) ?vM))))))),?_⟩
 case vM =>
  rintro D σ H1 ⟨h,cl,t,rs,us,Z,J,x',rfl,m,nx⟩
  refine sq λnA kA=>⟨χ,λrl n1=>kA _ _ (sq λnB kB=>?_)⟩
  have s1:=ah (o:=.lst []) n1
  have m1:=m.same n s1
  have dC:(upd H1 rl (.lst [])) rl=some (.lst []):=ae
  generalize (upd H1 rl (HO.lst []))=X at m1 dC ⊢
  refine ⟨_,ϱ,b.za,_,_,_,ϱ,ϱ,SqT.of m1.g.wo.za,St.at0,_,ϱ,_,ϱ,χ,λa2 n2=>⟨_,ϱ,χ,λa3 n3=>⟨χ,λa4 n4=>⟨χ,λll n5=>kB _ _ (sq λnC kC=>⟨χ,λc0 n6=>kC _ _ (sq λnD kD=>?_)⟩)⟩⟩⟩⟩
  have I:=ah (o:=.tup [.int i]) n2
  have s3:=ah (o:=.tup [.str "undid",.ref b.za,.ref a2,nv]) n3
  have s4:=ah (o:=.tup [.int b.z.1,.ref a3]) n4
  have s5:=ah (o:=.lst [.ref a4]) n5
  have s6:=ah (o:=.tup []) n6
  have di:ll≠cl:=Ne.symm (aq ((I.trans (s3.trans s4)) _ _ m1.hc) n5)
  have m2:=m1.same n (I.trans (s3.trans (s4.trans (s5.trans s6))))
  have e1:=(I.trans (s3.trans (s4.trans (s5.trans s6)))) _ _ dC
  have e2:=(s3.trans (s4.trans (s5.trans s6))) _ _ (ae (H:=X) (a:=a2) (o:=.tup [.int i]))
  have e3:=(s4.trans (s5.trans s6)) _ _ (ae (H:=upd X a2 (.tup [.int i])) (a:=a3) (o:=.tup [.str "undid",.ref b.za,.ref a2,nv]))
  have e4:=(s5.trans s6) _ _ (ae (H:=upd (upd X a2 (.tup [.int i])) a3 (.tup [.str "undid",.ref b.za,.ref a2,nv])) (a:=a4) (o:=.tup [.int b.z.1,.ref a3]))
  have e5:=s6 _ _ (ae (H:=upd (upd (upd X a2 (.tup [.int i])) a3 (.tup [.str "undid",.ref b.za,.ref a2,nv])) a4 (.tup [.int b.z.1,.ref a3])) (a:=ll) (o:=.lst [.ref a4]))
  have e6:=ae (H:=upd (upd (upd (upd X a2 (.tup [.int i])) a3 (.tup [.str "undid",.ref b.za,.ref a2,nv])) a4 (.tup [.int b.z.1,.ref a3])) ll (.lst [.ref a4])) (a:=c0) (o:=.tup [])
  generalize (upd (upd (upd (upd (upd X a2 _) a3 _) a4 _) ll _) c0 _)=H3 at m2 e1 e2 e3 e4 e5 e6 ⊢
  refine ⟨_,ϱ,t,_,_,_,ϱ,ϱ,SqL.of m2.ht,St.at0,ϱ,_,ϱ,bF (λk=>?_) (λk=>?_)⟩
  ·obtain rfl:O=.add:=iu k
   obtain ⟨_,_,v,e,_,_,hv⟩:=ar.a
   rw [e] at bG
   cases bG
   subst e
   obtain ⟨c,rfl⟩:∃c:Nat,a=(c:Int):=⟨a.toNat,by have:=na.1;omega⟩
   have hc:c<d.cells.length:=by omega
   have ev:aU d.cells (c:Int)=d.cells[c]:=by
    unfold aU
    rw [Int.toNat_natCast,List.getD_eq_getElem?_getD,ξ hc]
    rfl
   refine ⟨_,ϱ,_,ϱ,_,ϱ,cl,_,_,_,ϱ,ϱ,SqL.of m2.hc,aV (by rw [List.getElem?_map,ξ hc];rfl),_,ϱ,t,_,_,_,ϱ,ϱ,SqL.of m2.ht,aV (j:=3) rfl,iS v,v,ϱ,oX hv,Λ (gi hv) ζ,_,_,ϱ,ϱ,χ,λp1 n7=>⟨χ,λp2 n8=>?_⟩⟩
   have s7:=ah (o:=.tup [.int (c:Int),.int (d.cells[c]-v)]) n7
   have s8:=ah (o:=.tup [.ref p1]) n8
   have cd:=s7.trans s8
   refine kD _ _ ⟨h,cl,t,rs,us,Z,J,x',rl,ll,p2,_,a2,a3,a4,ϱ,m2.same n cd,cd _ _ e1,cd _ _ e5,di,cd _ _ e4,cd _ _ e3,cd _ _ e2,ae,?_,nx⟩
   show Paired _ [((c:Int),aU d.cells (c:Int)-v)] _
   rw [ev]
   exact .cons ⟨p1,ϱ,s8 _ _ ae⟩ .nil
  ·have fp:=dq (b:=.add) k
   refine kD _ _ ⟨h,cl,t,rs,us,Z,J,x',rl,ll,c0,[],a2,a3,a4,ϱ,m2,e1,e5,di,e4,e3,e2,e6,?_,nx⟩
   have:bk (aU d.cells) O ns=[]:=by
    unfold bk
    split
    ·exact absurd rfl fp
    ·rfl
   rw [this]
   exact .nil
 case vN =>
  rintro D σ H1 ⟨h,cl,t,rs,us,Z,J,x',rl,ll,cg,bA,a2,a3,a4,rfl,m,dv,d3,di,h4,h3,h2,dy,eI,nx⟩
  obtain ⟨G,dA⟩:=m.g.out hi hk
  have bN:=eI.len
  have e0:=c4 i
  have lz:sn.length<sizeLine:=Nat.lt_of_le_of_lt hl ζ
  have put:∀(X:Hp) (t0:Wt),t0.i=i->t0.wd=false->Same H1 X->J.ws=iz d.ws t0->J.cells.length=d.cells.length->Gd C CS CH CL CV K (sa::ad (stL b.p b.z b.A d++wtL CL b x)) H (upd X sa (.dK (bx sn (.inl i) (.bl false)))) b (shL CH b.A.l h rs us Z) J x'/\Pg d J x x' i sn (bx sn (.inl i) (.bl false)):=λX t0 ei ew I ed ln=>by
   refine ⟨(m.g.same n I).more.ext n bv (I _ _ G) id dA (.inl Ω),m.ex,ln,m.en,by rw [ed];exact pC _ _,ce _ _ _,?_,λj hj=>?_,λ_=>?_⟩
   ·rw [ed,← ei,← ew]
    exact c4.put t0
   ·rw [ed,kJ,ew]
    split
    ·rfl
    ·exact hj
   ·rw [ed,kJ,ew,if_pos ei.symm]
  refine sq λnA kA=>?_
  have av:∀(H3:Hp) (y15:Option V) (Y du:Addr) (ys zs:List V) (ws:List Ws) (b0:List (Key×V)),Gd C CS CH CL CV K (sa::ad (stL b.p b.z b.A d++wtL CL b x)) H H3 b (shL CH b.A.l h rs us Z) J x'->TSame H1 H3->H3 sa=some (.dK b0)->Pg d J x x' i sn b0->RwU K H3 b.z rs ys->H3 Y=some (.lst ys)->H3 du=some (.lst zs)->Paired (WsAt H3) ws us->ws.length<=900->ZsU H3 b i nv ws zs->H3 cl=some (.lst (J.cells.map V.int))->nA (su x.W.l b.A.l ta sa la nv b.za i (txt O ns) (some (.ref cl)) (some (.ref t)) (some (.int a)) (some (.ref h.l)) (some (.ref Y)) (some (.ref du)) y15) H3 :=
   λH3 y15 Y du ys zs ws b0 g3 ts hL pg hM k1 k2 k3 k4 k5 k6=>kA _ _ ⟨h,cl,_,y15,rs,us,ws,Z,J,x',Y,du,ys,zs,b0,ϱ,g3,dA,hL,pg,hM,k1,k2,k3,k4,k5,m.lat.imp id λz=>z.keep ts,k6,nx⟩
  have one:∀(H3:Hp) {u1:V},TSame H1 H3->LtW "undid" [.int i] H1 b u1->∃ws,Paired (WsAt H3) ws [u1]/\ws.length<=900/\ZsU H3 b i nv ws [.ref a4]:=λH3 u1 ts lt=>by
   obtain ⟨tt,w1,w2⟩:=lt.keep ts
   exact ⟨[_],.cons w1 .nil,(by show 1<=900;decide),.inr ⟨tt,a2,a3,a4,ϱ,w2,ϱ,ts _ _ h4,ts _ _ h3,ts _ _ h2⟩⟩
  have cf:∀{X:Hp} {c:Addr} {ys:List V},Same H1 X->X c=some (.lst ys)->(upd X sa (.dK (bx sn (.inl i) (.bl false)))) c=some (.lst ys):=λ{X c ys} I e=>by rw [ao (i4 e (I _ _ G) (by intro z;cases z))];exact e
  refine ⟨_,ϱ,_,ϱ,sa,_,ϱ,DGet.k (k:=.inl i) G,_,ϱ,?_⟩
  rw [e0]
  rcases m.out with ⟨c1,r1,b1,u1,rfl,rfl,ed,rx,lt⟩ | ⟨c1,rfl,ed,u1,rfl,lt⟩ | two
  ·have ew:wst d.ws i=none:=by unfold wst;rw [c1];rfl
   rw [ew]
   refine bU (sq λnB kB=>⟨_,ϱ,_,ϱ,χ,λr2 n1=>⟨χ,λY n2=>kB _ _ ?_⟩⟩)
   have s1:=ah (o:=.tup [.str "void",.ref b.za,.int i]) n1
   have I:=ah (o:=.lst [.ref r2]) n2
   have aR:=s1.trans I
   have cu:=I _ _ (ae (H:=H1) (a:=r2) (o:=.tup [.str "void",.ref b.za,.int i]))
   have bt:=ae (H:=upd H1 r2 (.tup [.str "void",.ref b.za,.int i])) (a:=Y) (o:=.lst [.ref r2])
   generalize (upd (upd H1 r2 _) Y _)=X at aR cu bt ⊢
   refine ⟨_,ϱ,_,ϱ,sa,_,ϱ,DPut.k (k:=.inl i) (aR _ _ G) lz,?_⟩
   have hu:=gG (o':=.dK (bx sn (.inl i) (.bl false))) (aR _ _ G)
   have ts:=aR.ts.trans hu
   obtain ⟨g3,pg⟩:=put X ⟨i,false,b1,r1⟩ rfl rfl aR (by rw [ed];rfl) (by rw [ed];rfl)
   obtain ⟨ws,w1,w2,w3⟩:=one (upd X sa (.dK (bx sn (.inl i) (.bl false)))) ts lt
   obtain ⟨dZ,k1,k2,_⟩:=rx
   exact av _ _ Y ll _ _ ws _ g3 ts ae pg (.inr ⟨r1,r2,dZ,b.za,ϱ,ϱ,ts _ _ k2,ts _ _ m.g.wo.za,.inl ⟨i,ts _ _ k1,hu _ _ cu⟩⟩) (cf aR bt) (cf aR (aR _ _ d3)) w1 w2 w3 (by rw [ed];exact cf aR (aR _ _ m.hc))
  ·have dg:=DGet.k (k:=.inl i) G
   rw [e0,c1] at dg
   rw [c1]
   obtain ⟨ws,w1,w2,w3⟩:=one H1 (λ_ _ z=>z) lt
   subst ed
   exact aM ⟨_,ϱ,_,ϱ,sa,_,ϱ,dg,false,ϱ,aM (aM ⟨_,ϱ,_,ϱ,sa,_,ϱ,dg,false,ϱ,aM (av H1 _ rl ll _ _ ws sn m.g.more (λ_ _ z=>z) G ⟨m.ex,ϱ,ϱ,Nat.le_succ _,Nat.le_succ _,c4,λ_ z=>z,λ_=>c1⟩ (.inl ⟨ϱ,ϱ⟩) dv d3 w1 w2 w3 m.hc)⟩)⟩
  have c1:wst d.ws i=some true:=two.elim (·.1) (·.1)
  have dg:=DGet.k (k:=.inl i) G
  rw [e0,c1] at dg
  rw [c1]
  refine aM (ifq λub kU=>⟨_,ϱ,_,ϱ,sa,_,ϱ,dg,true,ϱ,bU ⟨_,ϱ,χ,λe1 n1=>⟨cg,e1,bA,ϱ,ϱ,SqT.of (ah n1 _ _ dy),SqT.of ae,_,ϱ,?_⟩⟩⟩)
  have s1:=ah (o:=.tup []) n1
  have ft:∀X,Same H1 X->(bk (aU d.cells) O ns=[]\/(x.due.all λj=>aY j lk)=true)->ub (su x.W.l b.A.l ta sa la nv b.za i (txt O ns) (some (.ref cl)) (some (.ref t)) (some (.int a)) (some (.ref h.l)) (some (.ref rl)) (some (.ref ll)) (some (.ref cg))) X:=λX I ok=>by
   obtain ⟨r1,b1,cv,u1,rfl,rfl,ed,rx,lt⟩:∃r b' cv u,rs=[r]/\us=[u]/\J=d.kp r b' (.wlk "undone" i [cv] (bk (aU d.cells) O ns))/\RxAt K H1 b.p b.z r (.wlk "undone" i [cv] (bk (aU d.cells) O ns))/\LtW "undid" [.int i] H1 b u:=by
    rcases two with ⟨_,k2,k3,_⟩ | ⟨_,_,k⟩
    ·rcases ok with z | z
     ·exact absurd z k2
     ·rw [k3] at z;cases z
    ·exact k
   have fv:=DGet.k (k:=.inl i) (I _ _ G)
   rw [e0,c1] at fv
   refine kU _ _ ⟨_,ϱ,_,ϱ,sa,_,ϱ,fv,true,ϱ,bU (sq λnB kB=>⟨_,ϱ,_,ϱ,_,ϱ,χ,λr2 n1=>⟨χ,λY n2=>kB _ _ (sq λnC kC=>?_)⟩⟩)⟩
   have s3:=ah (o:=.tup [.str "undone",.ref b.za,.int i,.ref cg]) n1
   have s4:=ah (o:=.lst [.ref r2]) n2
   have U:=I.trans (s3.trans s4)
   have cu:=s4 _ _ (ae (H:=X) (a:=r2) (o:=.tup [.str "undone",.ref b.za,.int i,.ref cg]))
   have bt:=ae (H:=upd X r2 (.tup [.str "undone",.ref b.za,.int i,.ref cg])) (a:=Y) (o:=.lst [.ref r2])
   have hs:cl≠Y:=aq ((I.trans s3) _ _ m.hc) n2
   generalize (upd (upd X r2 _) Y _)=H3 at U cu bt ⊢
   refine ⟨_,ϱ,_,ϱ,sa,_,ϱ,DPut.k (k:=.inl i) (U _ _ G) lz,kC _ _ ?_⟩
   have hu:=gG (o':=.dK (bx sn (.inl i) (.bl false))) (U _ _ G)
   have ej:ImS CH CL H1 (upd H3 sa (.dK (bx sn (.inl i) (.bl false)))):=(cD U).trans (cL bv (U _ _ G) id)
   obtain ⟨g4,pg⟩:=put H3 ⟨i,false,b1,r1⟩ rfl rfl U (by rw [ed];rfl) (by rw [ed];exact jQ _ _)
   have fA:(upd H3 sa (.dK (bx sn (.inl i) (.bl false)))) sa=some (.dK (bx sn (.inl i) (.bl false))):=ae
   have l1:=cf U bt
   have l2:=cf U (U _ _ d3)
   have l3:=cf U (U _ _ m.hc)
   have fB:=hu _ _ cu
   generalize (upd H3 sa (HO.dK (bx sn (.inl i) (V.bl false))))=H4 at ej g4 fA l1 l2 l3 fB ⊢
   have ts:=ej.ts
   obtain ⟨dZ,k1,k2,k3⟩:=rx
   have hw:ChT K H1 (bk (aU d.cells) O ns) cv:=by
    rcases k3 with ⟨_,cv',us',e,z⟩ | ⟨e,_⟩
    ·cases e;exact z
    ·exact absurd e θ
   have hx:RwU K H4 b.z [r1] [.ref r2]:=.inr ⟨r1,r2,dZ,b.za,ϱ,ϱ,ts _ _ k2,ts _ _ m.g.wo.za,.inr ⟨i,cv,cg,bA,_,ts _ _ k1,hw.keep ej,fB,ts _ _ dy,Paired.mapP eI λ_ _ z=>z.keep ts⟩⟩
   refine ⟨_,ϱ,χ,λe5 n5=>⟨cg,e5,bA,ϱ,ϱ,SqT.of (ah n5 _ _ (ts _ _ dy)),SqT.of ae,_,ϱ,?_⟩⟩
   have s5:=ah (o:=.tup []) n5
   have ds:=s5 _ _ fA
   have el:=s5 _ _ l1
   have em:=s5 _ _ l2
   have bP:=s5 _ _ l3
   have ch:=ts.trans s5.ts
   have g5:=g4.same n s5
   have eo:=hx.keep s5
   generalize (upd H4 e5 (HO.tup []))=H5 at ds el em bP ch g5 eo ⊢
   cases bA with
   | nil =>
    have eb:bk (aU d.cells) O ns=[]:=List.length_eq_zero_iff.mp bN
    obtain ⟨ws,w1,w2,w3⟩:=one H5 ch lt
    refine aM (av _ _ Y ll _ _ ws _ g5 ch ds pg eo el em w1 w2 w3 ?_)
    rw [ed,eb]
    exact bP
   | cons u0 ur =>
    have ea:O=.add:=by
     by_cases z:O=.add
     ·exact z
     ·have:bk (aU d.cells) O ns=[]:=by
       unfold bk
       split
       ·exact absurd rfl z
       ·rfl
      rw [this] at bN
      cases bN
    subst ea
    obtain ⟨_,a',v,e,_⟩:=ar.a
    rw [e] at bG
    cases bG
    subst e
    have fC:Paired (sPa K H1) [(a,aU d.cells a-v)] (u0::ur):=eI
    cases fC with
    | cons p0 pr =>
     cases pr
     obtain ⟨p1,rfl,hn⟩:=p0
     have a0:=na.1
     have hz:(d.cells.map V.int).length=d.cells.length:=ν _
     refine bU ⟨_,ϱ,cg,_,_,_,ϱ,ϱ,SqT.of (ch _ _ dy),St.at0,p1,_,_,_,ϱ,ϱ,SqT.of (ch _ _ hn),St.at1,_,ϱ,_,ϱ,cl,_,a,a.toNat,ϱ,ϱ,bP,(by rw [hz];exact wn a0 a1),?_⟩
     have hA:cl≠sa:=i4 bP ds (by intro z;cases z)
     have tu:=gG (o':=.lst ((d.cells.map V.int).set a.toNat (.int (aU d.cells a-v)))) bP
     have fG:=ch.trans tu
     have g6:=g5.ext n (bv (o:=.lst ((d.cells.map V.int).set a.toNat (.int (aU d.cells a-v))))) bP id m.nc (.inr m.fc)
     obtain ⟨ws,w1,w2,w3⟩:=one _ fG lt
     refine av _ _ Y ll _ _ ws _ g6 fG (by rw [ao (Ne.symm hA)];exact ds) pg (eo.keepI (CH:=CH) (CL:=CL) (cL bv bP id)) (by rw [ao (Ne.symm hs)];exact el) (by rw [ao di];exact em) w1 w2 w3 ?_
     rw [ed]
     show _=some (HO.lst ((d.cells.set a.toNat (aU d.cells a-v)).map V.int))
     rw [List.map_set]
     exact ae
  cases ecu:bA with
  | nil =>
   rw [ecu] at bN
   exact aM (aM (ft _ s1 (.inl (List.length_eq_zero_iff.mp bN))))
  | cons u0 ur =>
   have fN:bk (aU d.cells) O ns≠[]:=λz=>by rw [z,ecu] at bN;cases bN
   have ea:O=.add:=by
    by_cases z:O=.add
    ·exact z
    ·exact absurd (by unfold bk;split<;>first | exact absurd rfl z | rfl) fN
   subst ea
   obtain ⟨_,a',v,e,_⟩:=ar.a
   rw [e] at bG
   cases bG
   subst e
   cases f5
   have fP:=L.m a
   have cx:=L.p.len
   obtain ⟨dB,_⟩:=m.g.out L.h L.n
   have fS:Paired (LkB H1) cp ls:=Paired.mapP L.p λ_ _ z=>z.keep m.g.ow.ts
   refine bU ⟨_,ϱ,la,ϱ,⟨_,SqL.of (s1 _ _ dB)⟩,?_⟩
   refine d6 (xs:=ls) (λj ys H'=>Same (upd H1 e1 (.tup [])) H'/\decide (ys=[])=!((cp.take j).any λl=>bL l a)) ⟨Same.refl _,ϱ⟩ (Λ (by rw [← cx];exact L.l) ζ) (λj ys H' _ z=>SqL.of (z.1 _ _ (s1 _ _ dB))) ?_ ?_
   ·rintro j u ys X hj ⟨I,ey⟩
    obtain ⟨k,ek,rk⟩:=fS.get hj
    refine ⟨_,ϱ,_,ϱ,u,k,a,ϱ,(rk.keep s1.ts).keep I.ts,_,ϱ,?_⟩
    have et:((cp.take (j+1)).any λl=>bL l a)=(((cp.take j).any λl=>bL l a)||bL k a):=by
     rw [List.take_succ,ek,List.any_append]
     simp
    rw [et]
    cases emk:bL k a with
    | true=>exact bU ⟨_,rfl,I,by rw [Bool.or_true];exact decide_eq_false (by simp)⟩
    | false=>exact aM ⟨I,by rw [Bool.or_false];exact ey⟩
   ·rintro ys X ⟨I,ey⟩ p2 n2
    rw [← cx,List.take_length,fP] at ey
    have s3:=ah (o:=.lst ys) n2
    refine ⟨χ,λp3 n3=>⟨p2,p3,ys,ϱ,ϱ,SqL.of (ah n3 _ _ ae),SqL.of ae,_,ϱ,?_⟩⟩
    have s4:=ah (o:=.lst []) n3
    have U:=s1.trans (I.trans (s3.trans s4))
    rw [ey,Bool.not_not]
    have dt:=AZ x.due a
    cases eq:x.due.any λj=>bL j a with
    | false =>
     rw [eq] at dt
     exact aM (ft _ U (.inr dt))
    | true =>
     rw [eq] at dt
     rcases two with ⟨_,_,_,rfl,rfl,ed⟩ | ⟨_,c2,_⟩
     ·refine bU ⟨χ,λl5 n5=>?_⟩
      have s5:=ah (o:=.lst []) n5
      have cF:=U.trans s5
      subst ed
      exact av _ _ rl l5 _ [] [] sn (m.g.same n cF).more cF.ts (cF _ _ G) ⟨m.ex,ϱ,ϱ,Nat.le_succ _,Nat.le_succ _,c4,λ_ z=>z,λz=>by rw [z] at eq;cases eq⟩ (.inl ⟨ϱ,ϱ⟩) (cF _ _ dv) ae .nil (ϖ _) (.inl ⟨ϱ,ϱ⟩) (cF _ _ m.hc)
     ·rcases c2 with z | z
      ·exact absurd z fN
      ·rw [dt] at z;cases z
 case vE =>
  rintro D σ H1 ⟨h,cl,y10,y15,rs,us,ws,Z,J,x',rl,ll,ys,zs,b0,rfl,g,gk,go,pg,hS,dv,d3,hT,lw,zw,eH,eD,nx⟩
  have hB:H1 h.rw=some (.lst (rs.map V.ref)):=g.ow.co _ (List.mem_append_left _ j1)
  have hC:H1 h.sn=some (.lst us):=g.ow.co _ (List.mem_append_left _ j2)
  have fZ:NwAt K H1 (enl b.p J) nv:=by unfold enl;rw [pg.en];exact hm.keep g.ow.ts
  refine ⟨_,ϱ,h.l,h.dx,_,ϱ,g.sh,gu θ,b.A.l,h,rs,Z,ϱ,g.sh,hB,λq1 X I hN=>⟨_,ϱ,u7 hN (I _ _ dv) ((hS.keep I).eq),_,ϱ,bU ?_⟩⟩
  have g2:=g.same n I
  refine ⟨_,ϱ,h.l,h.dx,_,ϱ,g2.sh,gu θ,b.p,b.z,b.A,h,J,us,ws,Z,ϱ,g2.sh,I _ _ hC,g2.sa,Paired.mapP hT λ_ _ z=>z.keep I.ts,lw,eH.imp id λz=>z.keep I.ts,λq3 mn H3 s3 hP p3=>⟨_,ϱ,u7 hP (s3 _ _ (I _ _ d3)) ((zw.keep (I.trans s3).ts).eq (fZ.keep (I.trans s3).ts) p3),_,ϱ,bU ?_⟩⟩
  have er:=I.trans s3
  have g3:=g.same n er
  refine ⟨_,ϱ,b.A.l,b.A.dx,_,ϱ,g3.wo.si.ins,fq θ,b.p,b.z,b.A,J,ϱ,g3.sa,λq4 H4 s4 _ hQ=>⟨_,ϱ,_,_,sA hQ,sA (s4 _ _ (er _ _ eD)),?_⟩⟩
  rw [τ rfl]
  have g7:=er.trans s4
  exact nx _ _ (q J x' b0 H4 (g.same n g7).drop (λm=>gk (by unfold ad at m ⊢;rw [List.map_append];exact List.mem_append_right _ m)) (g7 _ _ go) pg)
 refine sq λnA kA=>⟨_,ϱ,ta,_,ϱ,SqT.of hb,ϱ,_,_,ϱ,_,_,ϱ,_,_,ϱ,ϱ,kA _ _ (sq λnB kB=>?_)⟩
 refine ⟨_,ϱ,b.A.l,b.A.dx,_,ϱ,g0.wo.si.ins,fq θ,b.p,b.z,b.A,d,ϱ,g0.sa,λcl H1 s1 ge eD=>kB _ _ (sq λnC kC=>?_)⟩
 refine ⟨_,ϱ,ϱ,txt O ns,32,ϱ,congrArg (λz=>[V.str z]) jo,nU ar,λt nt=>?_⟩
 rw [jl]
 have I:=ah (o:=.lst ((wS O::ns.map iS).map V.str)) nt
 have es:(upd H1 t (.lst ((wS O::ns.map iS).map V.str))) t=some (.lst ((wS O::ns.map iS).map V.str)):=ae
 have dG:=I _ _ eD
 have g1:=g0.same n s1
 have eu:=g1.ow.free nt
 have g2:=g1.same n I
 generalize (upd H1 t (HO.lst ((wS O::ns.map iS).map V.str)))=X at es dG g2 ⊢
 refine kC _ _ (sq λnD kD=>⟨_,ϱ,t,_,_,_,ϱ,ϱ,SqL.of es,(by rw [bG];exact St.at2),iS a,a,ϱ,oX na.v,Λ (gi na.v) ζ,kD _ _ (sq λnE kE=>?_)⟩)
 refine ⟨_,ϱ,λl dx nl hR mB=>⟨l,dx,b.A.l,ϱ,ae,λh H3 eh o3=>⟨ϱ,kE _ _ (sq λnF kF=>?_)⟩⟩⟩
 have ob:=o3.born (i5 nl hR) nl
 subst eh
 have g3:=g2.sheet n ob
 have hD:=(g2.self dF).sheet n ob
 have av:∀(H5:Hp) (rs:List Addr) (us:List V) (Z:V) (J:Sx) (x':Wx),Gs C CS CH CL CV K H3 b (shL CH b.A.l h [] [] .non) d x H5 (shL CH b.A.l h rs us Z) J x'->(∃cz,x'=⟨x.W,x.dl,x.vs,x.o,x.dk,x.ak,x.due,cz⟩)->(Z=.non\/NwAt K H5 (enl b.p J) Z)->J.en=d.en->OutU K H5 b d x.due i O ns lk rs us J->nF (su x.W.l b.A.l ta sa la nv b.za i (txt O ns) (some (.ref cl)) (some (.ref t)) (some (.int a)) (some (.ref h.l)) none none none) H5:=λH5 rs us Z J x' g5 ex eH en out=>by
  have gB:=hD.trans g5
  obtain ⟨p1,p2⟩:=gB.out dG (g0.ow.free ge)
  have p3:=(gB.out es eu).1
  exact kF _ _ ⟨h,cl,t,rs,us,Z,J,x',ϱ,⟨g3.trans g5,ex,p1,p2,ge,p3,eH,en,out⟩,λ_ _ z=>z⟩
 refine ⟨_,ϱ,x.W.l,x.W.dx,_,ϱ,g3.wo.wi,gF θ,_,ϱ,_,ϱ,_,ϱ,_,ϱ,b,h,d,i,O,ns,x,lk,ϱ,ha,g3.self c7,Λ he ζ,Λ hg ζ,Λ hh ζ,ar,ic,f5,λe r b' u Z H5 z=>?_,λe u H5 g5 lt=>?_,λe e2 e3 c H5 g5=>?_,λe e2 c r b' cv u Z H5 z=>?_⟩
 ·obtain ⟨g5,rx,lt,nw⟩:=z
  exact av H5 _ _ _ _ _ g5 ⟨_,ϱ⟩ (.inr nw) rfl (.inl ⟨e,r,b',u,ϱ,ϱ,ϱ,rx,lt⟩)
 ·exact av H5 _ _ _ _ _ g5 ⟨_,ϱ⟩ (.inl rfl) rfl (.inr (.inl ⟨e,ϱ,ϱ,u,ϱ,lt⟩))
 ·exact av H5 _ _ _ _ _ g5 ⟨_,ϱ⟩ (.inl rfl) rfl (.inr (.inr (.inl ⟨e,e2,e3,ϱ,ϱ,ϱ⟩)))
 ·obtain ⟨g5,rx,lt,nw⟩:=z
  exact av H5 _ _ _ _ _ g5 ⟨_,ϱ⟩ (.inr nw) rfl (.inr (.inr (.inr ⟨e,e2,r,b',cv,u,ϱ,ϱ,ϱ,rx,lt⟩)))
def yH(n:Nat)(u:V):Prop:=∃wd ns,u=.str (txt wd ns)/\Ar wd ns/\inC n wd ns
theorem sI{ws:List Wt}{i:Int}(h:wst ws i=none):iB ws i=none:=Option.map_eq_none_iff.mp h
abbrev Wx.cs(x:Wx)(z:Cz):Wx:=⟨x.W,x.dl,x.vs,x.o,x.dk,x.ak,x.due,z⟩
inductive uH (C:Kd->Addr) (CS CH CL CV:Addr) (K:Frag) (Pw:Addr) (vs:List V) (H:Hp) (Q:VK) (E:XK):Prop|mk b d x ta tx ca cs:vs=[.ref (x:Wx).W.l,.ref (b:Bx).A.l,.ref b.za,.ref ta,.ref ca]->b.Pw=Pw->Gs C CS CH CL CV K H b [] d x H [] d x->x.due=[]->d.ws=[]->d.cells.length<=8->H ta=some (.lst tx)->ta∉ad (stL b.p b.z b.A d++wtL CL b x)->((∀u∈tx,yH d.cells.length u))->H ca=some (.lst ((cs:List Int).map V.int))->ca∉ad (stL b.p b.z b.A d++wtL CL b x)->tx.length<=8->tx.length=cs.length->(∀d' z sa sn H',Gs C CS CH CL CV K H b [] d x H' [] d' (x.cs z)->H sa=none->H' sa=some (.dK sn)->sa∉ad (stL b.p b.z b.A d'++wtL CL b (x.cs z))->Seen sn d'.ws->sn.length<=8->d'.ws.length<=8->d'.cells.length=d.cells.length->d'.en=d.en->Q (.ref sa) H')->uH C CS CH CL CV K Pw vs H Q E
theorem Ac{Pw fI:Addr}{dI:FuncData}(F:Fun K "_law_walk" "_law_walk" gO f fd)(B:TxB mg)(T:TxV K CV)(n:Nq C CS CH CL CV)(MH:L2.Mk K CH fI)(bm:mg "Sheet"=some (.ref CH))(bt:FnOk P w K mg base CX0 1 fI dI ["self","stand"] (fK CH CL))(bA:Binds K dI ["self","stand"] [])
  (bB:GM P w K mg base CX0 7 CV "walk" ["self","sheet","p","i","hand","text"] (og C CS CH CL CV K Pw)):FnOk P w K mg base CX0 8 f fd ["_law_works","_law_stand","_law_p","_law_texts","_law_cells"] (uH C CS CH CL CV K Pw):=by
 refine F.ok sc__law_walk (λvs H Q E h=>?_) (λcp A0 bd s H vs Q E hr h=>?_)
 ·obtain ⟨b,d,x,ta,Z,ca,cs,rfl,_⟩:=h
  rfl
 obtain ⟨b,d,x,ta,Z,ca,cs,rfl,ab,g0,ak,U,c4,a0,as,av,aR,aS,l8,lc,q⟩:=h
 have nd:=sc__law_walk.nd
 have aZ:Room (1+1) _:=hr.mono ζ
 refine ⟨_,af (aB (i:=5) nd rfl (Or.inl rfl) gT)
  (af (gS PassesOwn.never rfl (bR rfl B.range (ac (aL be rfl B.len PySem.boot_len (ac (pv 3) ag)) ag)) (cB (i:=6) nd rfl (Or.inl rfl))
   (ai (aH (ay mV (aG cm (az (r:=bW K) aI (pv 4) (pv 6) (λ_ _=>rfl)) aj) aj (ax _))
    (af (aQ (pm bB (pv 0) T.cl hr (ac (aX MH bt aZ rfl bm bA .nil aW (ac (pv 1) ag)) (ac (pv 2) (ac (pv 6) (ac aj (ac (az (r:=bW K) aI (pv 3) (pv 6) (λ_ _=>rfl)) ag))))))) (ai (hZ (cM hr) (pv 5) (pv 6) lR rfl))) aA)))
  (ai (aw (pv 5)))),?_⟩
 refine sq λnA kA sa n1=>kA _ _ (sq λnB kB=>?_)
 have s1:=ah (o:=.dK []) n1
 refine ⟨_,ϱ,ta,_,ϱ,.inl (SqL.of (s1 _ _ a0)),(Z.length:Int),ϱ,ω,ω,?_⟩
 rw [Int.toNat_natCast]
 refine fy (n:=Z.length) (λi σ H'=>∃y6 e z O,σ=[some (.ref x.W.l),some (.ref b.A.l),some (.ref b.za),some (.ref ta),some (.ref ca),some (.ref sa),y6]/\Gs C CS CH CL CV K H b [] d x H' [] e (x.cs z)/\H' sa=some (.dK O)/\sa∉ad (stL b.p b.z b.A e++wtL CL b (x.cs z))/\Seen O e.ws/\O.length<=i/\e.ws.length<=i/\e.cells.length=d.cells.length/\e.en=d.en/\∀j:Int,i<=j->wst e.ws j=none)
  ⟨_,d,x.cz,[],ϱ,g0.same n s1,ae,g0.ow.free n1,(by rw [U];exact λ_=>rfl),ι _,(by rw [U];exact ι _),ϱ,ϱ,by rw [U];exact λ_ _=>rfl⟩ ?_ ?_
 ·rintro i σ H1 hi ⟨y6,e,z,O,rfl,g,D,G,m,X,a5,y,I,Y⟩
  rw [Int.zero_add]
  have hu:Z[i]?=some Z[i]:=ξ hi
  obtain ⟨wd,ns,eu,ar,ic⟩:=av _ (List.mem_of_getElem? hu)
  rw [eu] at hu
  have bb:i<cs.length:=by omega
  obtain ⟨a1,a2⟩:=g.out a0 as
  obtain ⟨a3,bC⟩:=g.out aR aS
  refine ⟨_,ϱ,_,ϱ,ca,_,_,_,ϱ,ϱ,SqL.of a3,aV (by rw [List.getElem?_map,ξ bb];rfl),_,_,ϱ,ϱ,(by show (0:Int)<3;decide),ϱ,_,ϱ,bF (λ_=>sq λnC kC=>?_) (λ_=>⟨_,e,z,O,ϱ,g,D,G,m,υ X,υ a5,y,I,λj hj=>Y j ω⟩)⟩
  refine ⟨_,ϱ,x.W.l,x.W.dx,_,ϱ,g.wo.wi,gF θ,_,ϱ,λl dx nl bi d1=>⟨l,dx,b.A.l,ϱ,ae,λh H3 eh o3=>⟨ϱ,?_⟩⟩⟩
  have ob:=o3.born (i5 nl bi) nl
  subst eh
  have g3:=g.sheet n ob
  have a4:=(g.self dF).sheet n ob
  refine ⟨_,ϱ,_,ϱ,_,ϱ,_,ϱ,ta,_,_,_,ϱ,ϱ,SqL.of (a4.out a1 a2).1,aV hu,b,h,e,i,5,wd,ns,x.cs z,ϱ,ab,g3.self c7,by rw [y];omega,.inr ⟨sI (Y i (Int.le_refl _)),ak,ar,by rw [y];exact ic,ω,λc r b' u v' us H5 g5=>kC _ _ ?_⟩⟩
  have gA:=(g3.trans g5).drop
  have gB:=(a4.trans g5).drop
  obtain ⟨J,L⟩:=gB.out D G
  refine ⟨_,ϱ,_,ϱ,sa,_,ϱ,DPut.k (k:=.inl (i:Int)) J (Nat.lt_of_le_of_lt X (by have:(1000:Nat)<sizeLine:=(ζ);omega)),?_⟩
  refine ⟨_,_,⟨z.d,some c,z.u⟩,_,ϱ,gA.ext n bv J id L (.inr n1),ae,L,m.put ⟨i,true,b',r⟩,?_,?_,?_,I,λj hj=>?_⟩
  ·have:=ce O (.inl (i:Int)) (.bl true);omega
  ·have:=pC e.ws ⟨i,decide (("walked":Str)="walked"),b',r⟩
   show (iz e.ws ⟨i,decide (("walked":Str)="walked"),b',r⟩).length<=i+1
   omega
  ·show (apply e.cells _).length=_
   rw [jQ,y]
  ·show wst (iz e.ws ⟨i,decide (("walked":Str)="walked"),b',r⟩) j=none
   rw [kJ,if_neg (by show ¬j=(i:Int);omega)]
   exact Y j ω
 ·rintro σ H1 ⟨y6,e,z,O,rfl,g,D,G,m,X,a5,y,I,_⟩
  exact kB _ _ ⟨_,ϱ,q e z sa O H1 g n1 D G m ω ω y I⟩
theorem yG(b:List Lk)(k:Lk)(c:Int):((mf b k).any λj=>bL j c)=((b.any λj=>bL j c)||bL k c):=by
 unfold mf
 split
 ·next h =>
  cases e:bL k c with
  | false=>rw [Bool.or_false]
  | true =>
   rw [Bool.or_true]
   obtain ⟨j,f,d⟩:=List.any_eq_true.mp h
   refine List.any_eq_true.mpr ⟨j,f,?_⟩
   unfold bQ at d
   unfold bL at e ⊢
   simp only [Bool.and_eq_true,decide_eq_true_eq] at d e ⊢
   omega
 ·rw [List.any_append]
  simp
theorem wC{dk:List (Key×V)}{ch:List (Int×Int)}(h:DrI dk)(l:ch.length<=1):DrI (aJ dk (aJ [] (chK ch)))/\(aJ dk (aJ [] (chK ch))).length<=dk.length+1:=by
 match ch,l with
 | [],_=>exact ⟨h,Nat.le_succ _⟩
 | [(c,v)],_ =>
  show DrI (bx dk (.inl c) (.int v))/\(bx dk (.inl c) (.int v)).length<=_
  refine ⟨λb d e=>?_,ce _ _ _⟩
  rw [iL] at e
  split at e
  ·cases e;exact ⟨_,ϱ⟩
  ·exact h b d e
inductive uJ (C:Kd->Addr) (CS CH CL CV:Addr) (K:Frag) (Pt:Addr) (vs:List V) (H:Hp) (Q:VK) (E:XK):Prop|mk b d x sc ns Es:vs=[.ref (x:Wx).W.l,.ref (b:Bx).A.l,.ref b.pa,.ref sc,.int (d.cells.length:Nat)]->b.Pt=Pt->Gs C CS CH CL CV K H b [] d x H [] d x->x.o=(none,none)->x.due=[]->d.ws.length<=100->1<=d.cells.length->d.cells.length<=8->((∀u∈(Es:Cs),H u.1=some u.2/\u.1∉ad (stL b.p b.z b.A d++wtL CL b x)))->((∀H',(∀u∈Es,H' u.1=some u.2)->SqL K H' sc ((ns:List Int).map V.int)))->(∀d' x' la ls lks H',Gs C CS CH CL CV K H b [] d x H' [] d' x'->H la=none->Lx CL H' b d' x' la ls lks->d'.cells=d.cells->d'.ws=d.ws->d'.en=d.en->(x'.o=(none,none)\/∃dd aa,x'.o=(some dd,some aa))->x'.due.length<=2->x'.W=x.W->Q (.ref la) H')->uJ C CS CH CL CV K Pt vs H Q E
theorem Ag{Pt fI:Addr}{dI:FuncData}(F:Fun K "_law_held" "_law_held" gR f fd)(B:TxB mg)(T:TxV K CV)(n:Nq C CS CH CL CV)(MH:L2.Mk K CH fI)(c1:mg "Sheet"=some (.ref CH))(c2:FnOk P w K mg base CX0 1 fI dI ["self","stand"] (fK CH CL))(c3:Binds K dI ["self","stand"] [])
  (GA:GF P w K mg base CX0 1 "_law_cell_at" ["_law_script","_law_k"] (ox K))(c4:GF P w K mg base CX0 2 "_law_step" ["_law_cell","_law_many"] kM)(c5:GF P w K mg base CX0 1 "_law_lock" ["_law_text"] uI)
  (c8:GM P w K mg base CX0 8 CV "work" ["self","sheet","p","i","hand","text"] (qu C CS CH CL CV K Pt)):FnOk P w K mg base CX0 9 f fd ["_law_works","_law_stand","_law_q","_law_script","_law_many"] (uJ C CS CH CL CV K Pt):=by
 refine F.ok sc__law_held (λvs H Q E h=>?_) (λdz A0 bt s H vs Q E hr h=>?_)
 ·obtain ⟨b,d,x,sc,X,E1,rfl,_⟩:=h
  rfl
 obtain ⟨b,d,x,sc,X,E1,rfl,aZ,g0,eo,a2,dc,l1,l8,hE,a3,q⟩:=h
 have nd:=sc__law_held.nd
 have bd:Room (1+1) _:=hr.mono ζ
 refine ⟨_,af (aB (i:=5) nd rfl (Or.inl rfl) (ck ag))
  (af (gS PassesOwn.never rfl (bR rfl B.range (ac (aG cm (pc GA hr (ac (pv 3) (ac aj ag))) aj) ag)) (cB (i:=6) nd rfl (Or.inl rfl))
   (af (aB (i:=7) nd rfl (Or.inl rfl) (pc c4 hr (ac (pc GA hr (ac (pv 3) (ac (aG cQ aj (pv 6)) ag))) (ac (pv 4) ag))))
   (af (aQ (pm c8 (pv 0) T.cl hr (ac (aX MH c2 bd rfl c1 c3 .nil aW (ac (pv 1) ag)) (ac (pv 2) (ac (pv 6) (ac aj (ac (pv 7) ag)))))))
   (ai (aQ (iw PySem.F.plainAttrs_list PySem.F.slot_list_append PySem.F.type_list_append ig (pv 5) (ac (pc c5 hr (ac (pv 7) ag)) ag)))))))
  (ai (aw (pv 5)))),?_⟩
 have a4:x.dk=[]:=(g0.wo.n1 (by rw [eo])).1
 have a5:x.ak=[]:=g0.wo.n2 (by rw [eo])
 refine sq λnA kA=>⟨χ,λla n1=>kA _ _ (sq λnB kB=>?_)⟩
 have s1:=ah (o:=.lst []) n1
 have bg:=a3 _ λu hu=>s1 _ _ (hE u hu).1
 obtain ⟨M,hM,dp⟩:∃M:Nat,cN X 1%3=(M:Int)/\M<=2:=by
  have h0:0<=cN X 1%3:=Int.emod_nonneg _ ζ
  have h3:cN X 1%3<3:=Int.emod_lt_of_pos _ ζ
  exact ⟨(cN X 1%3).toNat,ω,ω⟩
 refine ⟨_,ϱ,sc,X,1,ϱ,bg,_,_,ϱ,ϱ,(by show (0:Int)<3;decide),(M:Int),congrArg (λz=>[V.int z]) hM,ω,ω,?_⟩
 rw [Int.toNat_natCast]
 refine fy (n:=M) (λi σ H'=>∃y6 y7 I e ls r,σ=[some (.ref x.W.l),some (.ref b.A.l),some (.ref b.pa),some (.ref sc),some (.int (d.cells.length:Nat)),some (.ref la),y6,y7]/\Gs C CS CH CL CV K H b [] d x H' [] I e/\Lx CL H' b I e la ls r/\r.length<=i/\I.cells=d.cells/\I.ws=d.ws/\I.en=d.en/\(e.o=(none,none)\/∃dd aa,e.o=(some dd,some aa))/\e.due.length<=i/\e.W=x.W/\DrI e.dk/\e.dk.length<=i/\e.ak.length<=i/\∀j:Int,i<=j->bE e.ak (.inl j)=none)
  ⟨_,_,d,x,[],[],ϱ,g0.same n s1,⟨ae,g0.ow.free n1,.nil,ϖ _,λc=>by rw [a2]⟩,ι _,ϱ,ϱ,ϱ,.inl eo,(by rw [a2];exact ι _),ϱ,(by rw [a4];exact λ_ _ z=>by cases z),(by rw [a4];exact ι _),(by rw [a5];exact ι _),by rw [a5];exact λ_ _=>rfl⟩ ?_ ?_
 ·rintro i σ H1 hi ⟨y6,y7,I,e,ls,r,rfl,g,U,bN,y,G,J,a6,bP,eW,di,bS,c0,a8⟩
  rw [Int.zero_add]
  have bi:=a3 H1 λu hu=>(g.out (hE u hu).1 (hE u hu).2).1
  refine sq λnC kC=>⟨_,ϱ,_,ϱ,_,_,ϱ,ϱ,sc,X,2+i,congrArg (λz:Int=>[V.ref sc,V.int z]) ω,bi,_,ϱ,_,_,ϱ,l1,l8,λwd Z H2 s2 ar ic=>kC _ _ (sq λnD kD=>?_)⟩
  have g2:=g.same n s2
  refine ⟨_,ϱ,e.W.l,e.W.dx,_,(by rw [eW]),g2.wo.wi,gF θ,_,ϱ,λl dx nl bC dN=>⟨l,dx,b.A.l,ϱ,ae,λh H3 eh o3=>⟨ϱ,?_⟩⟩⟩
  have ob:=o3.born (i5 nl bC) nl
  subst eh
  have g3:=g2.sheet n ob
  have bm:=(g2.self dF).sheet n ob
  refine ⟨_,ϱ,_,ϱ,_,ϱ,b,h,I,[],[],.non,i,0,wd,Z,e,(by rw [eW];rfl),aZ,g3.self c7,ar,by rw [y];exact ic,by rw [y];omega,by rw [G];omega,di,ω,ω,(by show 0<=100;decide),(by show 0<=100;decide),ω,a8 i (Int.le_refl _),λlk dd aa c dT dV d2 dZ v' H5 bG g5 ed=>kD _ _ ?_⟩
  have gA:=(g3.trans g5).drop
  have gB:=(bm.trans g5).drop
  obtain ⟨L,O⟩:=gB.out (s2 _ _ U.h) U.n
  have Y:d2.cells=d.cells/\d2.ws=d.ws/\d2.en=d.en:=by
   rcases ed with rfl | rfl
   ·exact ⟨y,G,J⟩
   ·exact ⟨y,G,J⟩
  have p5:Paired (LkB H5) r ls:=Paired.mapP U.p λ_ _ z=>(z.keep s2.ts).keep gB.ow.ts
  refine ⟨_,ϱ,.inl ⟨ϱ,_,SqL.of L⟩,_,ϱ,_,wd,Z,ϱ,ar,ic,λe3 v2 H6 e6 s6 r6=>?_⟩
  rw [bG] at e6
  cases e6
  have D:=s6 _ _ L
  have g6:=gA.same n s6
  refine ⟨la,ls,_,ϱ,ϱ,D,Nat.lt_of_le_of_lt (by rw [← U.p.len];exact U.l) ζ,?_⟩
  obtain ⟨k1,k2⟩:=wC di (wD (ef e.dk I.cells) wd Z 0)
  have tu:=gG (o':=.lst (ls++[v2])) D
  refine ⟨_,_,d2,_,ls++[v2],r++[lk],ϱ,g6.ext n bv D id O (.inr n1),⟨ae,O,(Paired.mapP p5 λ_ _ z=>(z.keep s6.ts).keep tu).app (.cons (r6.keep tu) .nil),?_,λc'=>?_⟩,?_,Y.1,Y.2.1,Y.2.2,.inr ⟨dd,aa,ϱ⟩,?_,eW,k1,?_,?_,λj hj=>?_⟩
  ·rw [List.length_append];show r.length+1<=100;omega
  ·show _=((mf e.due lk).any λj=>bL j c')
   rw [yG,List.any_append,U.m c']
   simp
  ·rw [List.length_append];show r.length+1<=i+1;omega
  ·have:=yA e.due lk;show (mf e.due lk).length<=i+1;omega
  ·exact Λ k2 (Nat.succ_le_succ bS)
  ·exact Λ (ce _ _ _) (Nat.succ_le_succ c0)
  ·show bE (bx e.ak (.inl (i:Int)) _) _=none
   rw [iL,if_neg (λz=>by cases z;omega)]
   exact a8 j ω
 ·rintro σ H1 ⟨y6,y7,I,e,ls,r,rfl,g,U,bN,y,G,J,a6,bP,eW,_⟩
  exact kB _ _ ⟨_,ϱ,q I e la ls r H1 g n1 U y G J a6 ω eW⟩
inductive uG (C:Kd->Addr) (CS CH CL CV:Addr) (K:Frag) (Pw:Addr) (vs:List V) (H:Hp) (Q:VK) (E:XK):Prop|mk b d x i wd ns:vs=[.ref (x:Wx).W.l,.ref (b:Bx).A.l,.ref b.za,.int i,.str (txt wd ns)]->b.Pw=Pw->Gs C CS CH CL CV K H b [] d x H [] d x->d.cells.length<=8->wst d.ws i=some false->(∀H',Gs C CS CH CL CV K H b [] d x H' [] d x->Q (.bl true) H')->uG C CS CH CL CV K Pw vs H Q E
theorem Aa{Pw fI:Addr}{dI:FuncData}(F:Fun K "_law_silent" "_law_silent" eZ f fd)(T:TxV K CV)(DH:TxH K CH)(n:Nq C CS CH CL CV)(MH:L2.Mk K CH fI)(Z:mg "Sheet"=some (.ref CH))(a0:FnOk P w K mg base CX0 1 fI dI ["self","stand"] (fK CH CL))(a1:Binds K dI ["self","stand"] [])
  (a2:GM P w K mg base CX0 7 CV "walk" ["self","sheet","p","i","hand","text"] (og C CS CH CL CV K Pw))(a3:GM P w K mg base CX0 1 CH "rows_told" ["self"] (kN CH))(a4:GM P w K mg base CX0 2 CH "letters_told" ["self"] (oq CS CH K)) :
  FnOk P w K mg base CX0 8 f fd ["_law_works","_law_stand","_law_p","_law_i","_law_text"] (uG C CS CH CL CV K Pw):=by
 refine F.ok sc__law_silent (λvs H Q E h=>?_) (λb0 A0 J s H vs Q E e h=>?_)
 ·obtain ⟨b,d,x,i,wd,ns,rfl,_⟩:=h
  rfl
 obtain ⟨b,d,x,i,wd,ns,rfl,r,g0,u,ew,q⟩:=h
 have nd:=sc__law_silent.nd
 have D:Room (1+1) _:=e.mono ζ
 obtain ⟨t,et,y⟩:=Option.map_eq_some_iff.mp ew
 refine ⟨_,af (aB (i:=5) nd rfl (Or.inl rfl) (aX MH a0 D rfl Z a1 .nil aW (ac (pv 1) ag)))
  (af (aQ (pm a2 (pv 0) T.cl e (ac (pv 5) (ac (pv 2) (ac (pv 3) (ac aj (ac (pv 4) ag)))))))
  (ai (aw (fV (bn (oT cInt (hun e)) (pm0 a3 (pv 5) DH.cl e) (ck ag) (ax _)) (eE (bn (oT cInt (hun e)) (pm0 a4 (pv 5) DH.cl e) (ck ag) (ax _))))))),?_⟩
 refine sq λnA kA=>⟨_,ϱ,λl dx nl L bg=>⟨l,dx,b.A.l,ϱ,ae,λh H1 eh o1=>⟨ϱ,kA _ _ (sq λnB kB=>?_)⟩⟩⟩
 subst eh
 have g1:=g0.sheet n (o1.born (i5 nl L) nl)
 refine ⟨_,ϱ,x.W.l,x.W.dx,_,ϱ,g1.wo.wi,gF θ,_,ϱ,_,ϱ,_,ϱ,_,ϱ,b,h,d,i,5,wd,ns,x,ϱ,r,g1.self c7,Λ u ζ,.inl ⟨t,et,y,λH2 s2=>kB _ _ ?_⟩⟩
 have g:=g1.same n s2
 have G:H2 h.sn=some (.lst []):=g.ow.co _ (List.mem_append_left _ j2)
 have I:H2 h.rw=some (.lst []):=g.ow.co _ (List.mem_append_left _ j1)
 refine ⟨_,ϱ,h.l,h.dx,_,ϱ,g.sh,gu θ,b.A.l,h,[],.non,ϱ,g.sh,I,λq1 H3 s3 O=>⟨χ,λl2 U=>?_⟩⟩
 have s4:=ah (o:=.lst []) U
 refine ⟨[],[],⟨q1,[],ϱ,SqL.of (s4 _ _ O),.nil⟩,⟨l2,[],ϱ,SqL.of ae,.nil⟩,_,ϱ,bU ?_⟩
 have j:=s3.trans s4
 have m:=g.same n j
 refine ⟨_,ϱ,h.l,h.dx,_,ϱ,m.sh,gu θ,b.p,b.z,b.A,h,d,[],[],.non,ϱ,m.sh,j _ _ G,m.sa,.nil,(by show 0<=900;decide),.inl rfl,λq4 bC H5 s5 X p4=>⟨χ,λl6 Y=>?_⟩⟩
 cases p4
 have s6:=ah (o:=.lst []) Y
 exact ⟨[],[],⟨q4,[],ϱ,SqL.of (s6 _ _ X),.nil⟩,⟨l6,[],ϱ,SqL.of ae,.nil⟩,q _ (m.same n (s5.trans s6)).drop⟩
theorem Cn{c:TT}{t u:TS}{D:Ends}{σ:L2.St}{H:Hp}(h:∀tb ub:L2.St->Hp->Prop,(∀σ H,t D σ H->tb σ H)->(∀σ H,u D σ H->ub σ H)->c σ H λb H1=>if b=true then tb σ H1 else ub σ H1):zt c t u D σ H:=h _ _ (λ_ _ z=>z) λ_ _ z=>z
theorem B3{α:Type}{p:α->Prop}{a b c:α}(h1:p a)(h2:p b)(h3:p c):∀t∈[a,b,c],p t:=λt ht=>by
 simp only [List.mem_cons,List.not_mem_nil,or_false] at ht
 rcases ht with e | e | e<;>subst e<;>assumption
theorem gn{i:Nat}{x:V}{σ σ':L2.St}{H:Hp}{Q:L2.St->Hp->Prop}(e:σ.set i (some x)=σ')(h:Q σ' H):wv i x σ H Q:=by subst e;exact h
theorem qp{N:List Addr}{l:Addr}{H0 H H1 H2:Hp}{b:Bx}{d:Sx}{R:Cs}{W:Aw}{dl:Addr}(g:Ow CH CL N H0 H (stL b.p b.z b.A d++((b.Pt,.tbl #[])::(b.Pw,.tbl #[])::(b.Pu,.tbl #[])::R)))(s:Same H H1)(nl:H l=none)(ow:Ow CH CL [l] H1 H2 (wkL CL b ⟨W,dl,[],(none,none),[],[],[],⟨none,none,none⟩⟩)) :
  Ow CH CL N H0 H2 (stL b.p b.z b.A d++wtL CL b ⟨W,dl,[],(none,none),[],[],[],⟨none,none,none⟩⟩)/\Same H H2 :=
 have ob:=ow.born s nl
 ⟨(g.join ob).swap (S:=stL b.p b.z b.A d++[(b.Pt,.tbl #[]),(b.Pw,.tbl #[]),(b.Pu,.tbl #[])]) (X:=wkL CL b ⟨W,dl,[],(none,none),[],[],[],⟨none,none,none⟩⟩) (O:=R),λc u e=>ob.fr c u (λz=>nomatch z) e⟩
def sl(sc:Addr)(m:Int)(fa za pa A W ca ta sa la:Addr)(nv:V)(M:Nat)(y13 y14 y15:Option V):L2.St:=[some (.ref sc),some (.int m),some (.ref fa),some (.ref za),some (.ref pa),some (.ref A),some (.ref W),some (.ref ca),some (.ref ta),some (.ref sa),some (.ref la),some nv,some (.int (M:Nat)),y13,y14,y15]
structure LI(C:Kd->Addr)(CS CH CL CV:Addr)(K:Frag)(b:Bx)(W0:Addr)(E:Cs)(n M:Nat)(sa:Addr)(k:Nat)(H:Hp)(d:Sx)(x:Wx)(sn:List (Key×V))(la:Addr)(ls:List V)(lks:List Lk)(nv:V):Prop where
 g:Gs C CS CH CL CV K H b [] d x H [] d x
 e:∀u∈E,H u.1=some u.2/\u.1∉ad (stL b.p b.z b.A d++wtL CL b x)
 ek:∀u∈E,∀kvs,u.2≠.dK kvs
 hsa:H sa=some (.dK sn)
 nsa:sa∉ad (stL b.p b.z b.A d++wtL CL b x)
 seen:Seen sn d.ws
 lsn:sn.length<=8+k
 lws:d.ws.length<=8+k
 lx:Lx CL H b d x la ls lks
 nw:NwAt K H (enl b.p d) nv
 cl:d.cells.length=n
 o:x.o=(none,none)\/∃dd aa,x.o=(some dd,some aa)
 du:x.due.length<=2
 en:d.en=none\/d.en=some "broken"/\x.due=[]
 eW:x.W.l=W0
 sec:∀j:Int,2*M-k<=j->j<M->wst d.ws j=some false
section
variable {b:Bx}{W0:Addr}{E:Cs}{n M:Nat}{sa:Addr}{k:Nat}{H H':Hp}{d:Sx}{x:Wx}{sn:List (Key×V)}{la:Addr}{ls:List V}{lks:List Lk}{nv:V}
theorem Lx.keep(l:Lx CL H b d x la ls lks)(e:Same H H'):Lx CL H' b d x la ls lks:=⟨e _ _ l.h,l.n,Paired.mapP l.p λ_ _ z=>z.keep e.ts,l.l,l.m⟩
theorem LI.same(i:LI C CS CH CL CV K b W0 E n M sa k H d x sn la ls lks nv)(nn:Nq C CS CH CL CV)(e:Same H H'):LI C CS CH CL CV K b W0 E n M sa k H' d x sn la ls lks nv :=
 ⟨(i.g.same nn e).self dF,λu hu=>⟨e _ _ (i.e u hu).1,(i.e u hu).2⟩,i.ek,e _ _ i.hsa,i.nsa,i.seen,i.lsn,i.lws,i.lx.keep e,i.nw.keep e.ts,i.cl,i.o,i.du,i.en,i.eW,i.sec⟩
end
inductive lq (K:Frag) (Ps:List Addr) (vs:List V) (H:Hp) (Q:VK) (E:XK):Prop|mk a ns:vs=[.ref a]->SqL K H a ((ns:List Int).map V.int)->ns.length<=63->((∀b∈Ps,H b=some (.tbl #[])))->(∀H',Q (.bl true) H')->lq K Ps vs H Q E
theorem Cv(b:List Int):(qi (b.map V.int) (some 4) (some 12)).length<=8:=by
 unfold qi
 rw [List.length_take]
 show min (min 12 _-min 4 _) _<=8
 omega
theorem Ai{Pt Pw Pu f1 f2 f3:Addr}{f4 f5 fc:FuncData}(F:Fun K "law" "law" iX f fd)(B:TxB mg)(D:TxD K CS)(T:TxV K CV)(DH:TxH K CH)(n:Nq C CS CH CL CV)(nP:[Pt,Pw,Pu].Nodup)(MS:Mk K CS f1)(i8:mg "Stand"=some (.ref CS))(ia:FnOk P w K mg base CX0 1 f1 f4 ["self","cells"] (ol CS CH CL))(ih:Binds K f4 ["self","cells"] [])
  (MV:Mk K CV f2)(is:mg "Works"=some (.ref CV))(it:FnOk P w K mg base CX0 3 f2 f5 ["self","stand","home","many"] (oh CS CH CL CV K))(iv:Binds K f5 ["self","stand","home","many"] [])(MH:Mk K CH f3)(ji:mg "Sheet"=some (.ref CH))(jt:FnOk P w K mg base CX0 1 f3 fc ["self","stand"] (fK CH CL))(jZ:Binds K fc ["self","stand"] [])
  (GA:GF P w K mg base CX0 1 "_law_cell_at" ["_law_script","_law_k"] (ox K))(GN:GF P w K mg base CX0 1 "_law_number" ["_law_cell"] oo)(k0:GF P w K mg base CX0 2 "_law_step" ["_law_cell","_law_many"] kM)(k5:GF P w K mg base CX0 8 "_law_walk" ["_law_works","_law_stand","_law_p","_law_texts","_law_cells"] (uH C CS CH CL CV K Pw))
  (k6:GF P w K mg base CX0 9 "_law_held" ["_law_works","_law_stand","_law_q","_law_script","_law_many"] (uJ C CS CH CL CV K Pt))(GU:GF P w K mg base CX0 8 "_law_undone" ["_law_works","_law_stand","_law_told","_law_seen","_law_locks","_law_news"] (uE C CS CH CL CV K Pu))(kb:GF P w K mg base CX0 8 "_law_silent" ["_law_works","_law_stand","_law_p","_law_i","_law_text"] (uG C CS CH CL CV K Pw))
  (ff:GM P w K mg base CX0 3 CH "row" ["self","row"] (jm CS CH CL K))(kc:GM P w K mg base CX0 6 CV "ended" ["self","sheet","p"] (ot C CS CH CL CV K)):FnOk P w K mg base CX0 10 f fd ["_law_script"] (lq K [Pt,Pw,Pu]):=by
 refine F.ok sc_law (λvs H Q E h=>?_) (λmG A hm s H vs Q E hr h=>?_)
 ·obtain ⟨a,ns,rfl,_⟩:=h
  rfl
 obtain ⟨a,ns,rfl,hS,hl,hP,q⟩:=h
 have nd:=sc_law.nd
 have dS:Room (1+1) _:=hr.mono ζ
 have gB:Room (3+1) _:=hr.mono ζ
 refine ⟨_,(af (aB (i:=1) nd rfl (Or.inr rfl) (pc GA hr (ac (pv 0) (ac aj ag))))
  (af (aB (i:=2) nd rfl (Or.inr rfl) (c6 uU rfl (bR rfl B.range (ac (aG cQ aj (aG cm (pv 1) aj)) ag)) (λ_ _ _ _=>cX) (λ_ _ _ _=>pc GN hr (ac (aG cQ (aG cC (pv 1) (aG cQ (pv 0) aj)) (aG oR aj (pv 0))) ag))))
  (af (aB (i:=3) nd rfl (Or.inr rfl) (aF (ac (aG cm (aG cC (pv 1) aj) aj) (ac (aG cm (aG cC (pv 1) aj) aj) ag))))
  (af (aB (i:=4) nd rfl (Or.inl rfl) (aF (ac (aG cm (aG cQ (aG cQ (az (r:=bc K) aD (pv 3) aj (λ_ _=>rfl)) aj) (aG cm (aG cC (pv 1) aj) aj)) aj) (ac (aG cm (aG cC (pv 1) aj) aj) ag))))
  (af (aB (i:=5) nd rfl (Or.inr rfl) (aX MS ia dS rfl i8 ih .nil aW (ac (pv 2) ag)))
  (af (aB (i:=6) nd rfl (Or.inr rfl) (aX MV it gB rfl is iv .nil aW (ac (pv 5) (ac aj (ac aj ag)))))
  (eC (u:=λD σ H1=>∃(m:Int) (U:Addr) (b:Bx) (d:Sx) (x:Wx) (E1:Cs),σ=[some (.ref a),some (.int m),some (.ref U),some (.ref b.za),some (.ref b.pa),some (.ref b.A.l),some (.ref x.W.l),none,none,none,none,none,none,none,none,none]/\Gs C CS CH CL CV K H1 b [] d x H1 [] d x/\x.o=(none,none)/\x.due=[]/\d.ws=[]/\d.en=none/\1<=d.cells.length/\d.cells.length<=8/\(∀u∈(U,.lst (d.cells.map V.int))::E1,H1 u.1=some u.2/\u.1∉ad (stL b.p b.z b.A d++wtL CL b x))/\(∀u∈E1,∀a4,u.2≠.dK a4)/\(∀J,(∀u∈E1,J u.1=some u.2)->SqL K J a (ns.map V.int))/\b.Pt=Pt/\b.Pw=Pw/\b.Pu=Pu/\∀v J,Q v J->D.rt v J)
  (af (aB (i:=7) nd rfl (Or.inl rfl) (lP xl (pv 0) (h9 aj) (h9 aj)))
  (af (aB (i:=8) nd rfl (Or.inr rfl) (c6 uT rfl (cH (pv 7)) (λ_ _ _ _=>cX) (λ_ _ _ _=>pc k0 hr (ac (aG cC (pv 0) aj) (ac (aL (r:=λxs H Q=>∃p ys,xs=[.ref p]/\(SqL K H p ys\/SqT K H p ys)/\Q (.int ((ys.length:Nat):Int)) H) be rfl B.len PySem.boot_len (ac (pv 1) ag)) ag)))))
  (af (aB (i:=9) nd rfl (Or.inl rfl) (pc k5 hr (ac (pv 6) (ac (pv 5) (ac (pv 3) (ac (pv 8) (ac (pv 7) ag)))))))
  (af (aB (i:=10) nd rfl (Or.inl rfl) (pc k6 hr (ac (pv 6) (ac (pv 5) (ac (pv 4) (ac (pv 0) (ac (aL be rfl B.len PySem.boot_len (ac (pv 2) ag)) ag)))))))
  (af (aB (i:=11) nd rfl (Or.inl rfl) (aF ag))
  (af (aB (i:=12) nd rfl (Or.inl rfl) (aL be rfl B.len PySem.boot_len (ac (pv 8) ag)))
  (eC (u:=λD σ H1=>∃(m:Int) (U:Addr) (b:Bx) (W0 ca ta sa:Addr) (Y:List V) (E1:Cs) (N M:Nat) (d:Sx) (x:Wx) (sn:List (Key×V)) (X:Addr) (ls:List V) (O:List Lk) (nv:V),σ=sl a m U b.za b.pa b.A.l W0 ca ta sa X nv M none none none/\LI C CS CH CL CV K b W0 ((ta,.lst Y)::E1) N M sa 0 H1 d x sn X ls O nv/\b.Pw=Pw/\b.Pu=Pu/\Y.length=M/\M<=8/\N<=8/\(∀u∈Y,yH N u)/\(∀J,(∀u∈E1,J u.1=some u.2)->SqL K J a (ns.map V.int))/\∀v J,Q v J->D.rt v J)
  (af (gS PassesOwn.never rfl (bR rfl B.range (ac (aG oR aj (pv 12)) ag)) (cB (i:=13) nd rfl (Or.inl rfl))
   (af (aH (PW.pt (dD (ay (sZ (Nat.lt_of_succ_lt (cM hr))) (pv 11) (aF ag) (ax _)) (fR (PW.pt (pK (ay bw (pv 13) (aG cm (aG cC (pc GA hr (ac (pv 0) (ac aj ag))) aj) aj) (ax _)) (lJ (ay bw (pv 13) (pv 12) (ax _)))))))) (af (aB (i:=14) nd rfl (Or.inl rfl) (aX MH jt dS rfl ji jZ .nil aW (ac (pv 5) ag)))
  (af (aQ (pm ff (pv 14) DH.cl hr (ac (aF (ac aC (ac (pv 4) (ac aC (ac (aF ag) ag))))) ag)))
  (af (aQ (pm kc (pv 6) T.cl hr (ac (pv 14) (ac (pv 4) ag))))
  (af (aB (i:=11) nd rfl (Or.inl rfl) (aF (ac (aF (ac (pv 4) (ac aC ag))) ag)))
  (ai (aB (i:=10) nd rfl (Or.inl rfl) (ck ag))))))) aA)
   (eC (u:=λD σ H1=>∃(m:Int) (U:Addr) (b:Bx) (W0 ca ta sa:Addr) (Y:List V) (E1:Cs) (N M k:Nat) (y14 y15:Option V) (d:Sx) (x:Wx) (sn:List (Key×V)) (X:Addr) (ls:List V) (O:List Lk) (nv:V),σ=sl a m U b.za b.pa b.A.l W0 ca ta sa X nv M (some (.int (k:Nat))) y14 y15/\LI C CS CH CL CV K b W0 ((ta,.lst Y)::E1) N M sa k H1 d x sn X ls O nv/\(M<=k->d.en=some "broken")/\k<2*M/\b.Pu=Pu/\Y.length=M/\M<=8/\N<=8/\(∀u∈Y,yH N u)/\∀σ' J,(λk σ J=>∃y13 y14 y15 d x sn X ls O nv,σ=sl a m U b.za b.pa b.A.l W0 ca ta sa X nv M y13 y14 y15/\LI C CS CH CL CV K b W0 ((ta,.lst Y)::E1) N M sa k J d x sn X ls O nv/\(M<k->d.en=some "broken")) (k+1) σ' J->D.nx σ' J)
    (af (aB (i:=15) nd rfl (Or.inl rfl) (aG cm (aG fW (aG fW (aG oR aj (pv 12)) aj) (pv 13)) (pv 12)))
  (ai (aH (iF (ci (pc GU hr (ac (pv 6) (ac (pv 5) (ac (aF (ac (pv 3) (ac (pv 15) (ac (az (r:=bW K) aI (pv 8) (pv 15) (λ_ _=>rfl)) ag)))) (ac (pv 9) (ac (pv 10) (ac (pv 11) ag))))))))) aE aA))) ?vB)))
  (ai (aw (bn (oT cInt (hun hr)) (c6 uS rfl (bR rfl B.range (ac (pv 12) ag)) (λ_ _ _ _=>fT (iF (ci (pc kb hr (ac (pv 3) (ac (pv 2) (ac (pv 1) (ac (pv 0) (ac (az (r:=bW K) aI (pv 4) (pv 0) (λ_ _=>rfl)) ag))))))))) (λ_ _ _ _=>pv 0)) (ck ag) (ax _))))) ?v2))))))) ?v1))))))),?_⟩
 case v1 =>
  rintro D0 σ H1 ⟨m,U,b,d,x,E1,rfl,g0,eo,b0,hR,hT,l1,l8,he,ct,aR,i1,c1,bi,nx⟩
  refine sq λnA kA=>⟨_,ϱ,_,ϱ,_,ϱ,a,_,ϱ,aR _ (λu I=>(he u (.tail _ I)).1),λca ee=>?_⟩
  have c8:=Cv ns
  obtain ⟨zs,fS,_⟩:=wJ ns (some 4) (some 12)
  rw [fS] at c8 ⊢
  rw [ν] at c8
  have s1:=ah (o:=.lst (zs.map V.int)) ee
  have bS:(upd H1 ca (.lst (zs.map V.int))) ca=some (.lst (zs.map V.int)):=ae
  have h5:=g0.ow.free ee
  have g1:=(g0.same n s1).self dF
  have c0:∀u∈(U,HO.lst (d.cells.map V.int))::E1,(upd H1 ca (.lst (zs.map V.int))) u.1=some u.2/\u.1∉ad (stL b.p b.z b.A d++wtL CL b x):=λu I=>⟨s1 _ _ (he u I).1,(he u I).2⟩
  generalize (upd H1 ca (HO.lst (zs.map V.int)))=H2 at bS g1 c0 ⊢
  refine kA _ _ (sq λnB kB=>⟨_,ϱ,ca,ϱ,⟨_,SqL.of bS⟩,?_⟩)
  refine d6 (xs:=zs.map V.int) (λi ys J=>Same H2 J/\ys.length=i/\∀u∈ys,yH d.cells.length u) ⟨Same.refl _,ϱ,λ_ h=>nomatch h⟩ (Λ (by rw [ν];exact c8) ζ) (λi ys J _ z=>SqL.of (z.1 _ _ bS)) ?_ ?_
  ·rintro i u ys H3 I ⟨s2,ly,hy⟩
   rw [List.getElem?_map] at I
   obtain ⟨z,ez,rfl⟩:=Option.map_eq_some_iff.mp I
   refine k9 ⟨_,ϱ,_,_,ϱ,ϱ,⟨ζ,ζ⟩,_,ϱ,U,_,ϱ,.inl (SqL.of (s2 _ _ (c0 _ (.head _)).1)),_,_,ϱ,(by rw [ν];exact l1),(by rw [ν];exact l8),λwd av H4 s3 ar ic=>⟨s2.trans s3,by rw [List.length_append,ly];rfl,λu I=>?_⟩⟩
   rcases List.mem_append.mp I with mm | mm
   ·exact hy u mm
   ·rw [ν] at ic
    rw [ϵ.mp mm]
    exact ⟨wd,av,ϱ,ar,ic⟩
  ·rintro Y H3 ⟨s2,ly,hy⟩ ta eS
   rw [ν] at ly
   have s3:=ah (o:=.lst Y) eS
   have cu:=s2.trans s3
   have ab:(upd H3 ta (.lst Y)) ta=some (.lst Y):=ae
   have g2:=g1.same n s2
   have dT:=g2.ow.free eS
   have g3:=(g1.same n cu).self dF
   have dV:=cu _ _ bS
   have aS:∀u∈(U,HO.lst (d.cells.map V.int))::E1,(upd H3 ta (.lst Y)) u.1=some u.2/\u.1∉ad (stL b.p b.z b.A d++wtL CL b x):=λu I=>⟨cu _ _ (c0 u I).1,(c0 u I).2⟩
   generalize (upd H3 ta (HO.lst Y))=H4 at ab g3 dV aS ⊢
   refine kB _ _ (sq λnC kC=>⟨_,ϱ,_,ϱ,_,ϱ,_,ϱ,_,ϱ,b,d,x,ta,Y,ca,zs,ϱ,c1,g3,b0,hR,l8,ab,dT,hy,dV,h5,ω,ω,λd' z sa sn H5 g5 l6 hp hq ej mP mR el em=>kC _ _ (sq λnD kD=>?_)⟩)
   have e5:∀{c o},H4 c=some o->c∉ad (stL b.p b.z b.A d++wtL CL b x)->H5 c=some o/\c∉ad (stL b.p b.z b.A d'++wtL CL b (x.cs z)):=λ{c o} e nc=>g5.out e nc
   obtain ⟨fZ,_⟩:=e5 (aS _ (.head _)).1 (aS _ (.head _)).2
   refine ⟨_,ϱ,_,ϱ,_,ϱ,_,ϱ,_,ϱ,U,_,ϱ,.inl (SqL.of fZ),b,d',x.cs z,a,ns,E1,(congrArg (λk:Nat=>[V.ref x.W.l,V.ref b.A.l,V.ref b.pa,V.ref a,V.int (k:Int)]) (by rw [ν,el])),i1,g5.self dF,eo,b0,ω,ω,ω,(λu I=>e5 (aS u (.tail _ I)).1 (aS u (.tail _ I)).2),aR,λd2 x2 X ls O H6 g6 n0 lx ep cf er hv hw eW=>kD _ _ (sq λnE kE=>?_)⟩
   refine ⟨χ,λt0 hA=>kE _ _ (sq λnF kF=>?_)⟩
   have s7:=ah (o:=.tup []) hA
   have e6:∀{c o},H5 c=some o->c∉ad (stL b.p b.z b.A d'++wtL CL b (x.cs z))->H6 c=some o/\c∉ad (stL b.p b.z b.A d2++wtL CL b x2):=λ{c o} e nc=>g6.out e nc
   obtain ⟨p1,p2⟩:=e5 ab dT
   obtain ⟨p3,p4⟩:=e6 p1 p2
   obtain ⟨p5,p6⟩:=e6 hp hq
   have c2:d2.en=none:=by rw [er,em,hT]
   refine ⟨_,ϱ,ta,_,ϱ,.inl (SqL.of (s7 _ _ p3)),kF _ _ ⟨m,U,b,x.W.l,ca,ta,sa,Y,E1,d.cells.length,Y.length,d2,x2,sn,X,ls,O,.ref t0,ϱ,⟨(g6.same n s7).self dF,λu I=>?_,λu I a4=>?_,s7 _ _ p5,p6,by rw [cf];exact ej,ω,by rw [cf];omega,lx.keep s7,?_,by rw [ep,el],hv,hw,.inl c2,by rw [eW],λj h1 h2=>absurd h1 ω⟩,c1,bi,ϱ,ω,l8,hy,aR,nx⟩⟩
   ·rcases ϕ.mp I with z | z
    ·rw [z];exact ⟨s7 _ _ p3,p4⟩
    ·obtain ⟨k1,k2⟩:=e5 (aS u (.tail _ z)).1 (aS u (.tail _ z)).2
     obtain ⟨k3,k4⟩:=e6 k1 k2
     exact ⟨s7 _ _ k3,k4⟩
   ·rcases ϕ.mp I with z | z
    ·rw [z];intro y;cases y
    ·exact ct u z a4
   ·have:enl b.p d2=[]:=by unfold enl;rw [c2];rfl
    rw [this]
    exact ⟨t0,[],ϱ,ae,.nil⟩
 case v2 =>
  rintro D0 σ H1 ⟨m,U,b,W0,ca,ta,sa,Y,E1,N,M,d,x,sn,X,ls,O,nv,rfl,G,c1,bi,lt,m8,n8,bB,aR,nx⟩
  refine sq λnA kA=>⟨_,ϱ,_,_,ϱ,ϱ,.inl ⟨ζ,ζ⟩,((2*M:Nat):Int),congrArg (λz=>[V.int z]) ω,ω,ω,?_⟩
  rw [Int.toNat_natCast]
  refine fy (n:=2*M) (λk σ J=>∃y13 y14 y15 d x sn X ls O nv,σ=sl a m U b.za b.pa b.A.l W0 ca ta sa X nv M y13 y14 y15/\LI C CS CH CL CV K b W0 ((ta,.lst Y)::E1) N M sa k J d x sn X ls O nv/\(M<k->d.en=some "broken")) ⟨none,none,none,d,x,sn,X,ls,O,nv,ϱ,G,λz=>absurd z ω⟩ ?_ ?_
  ·rintro k σ H2 hk ⟨y13,y14,y15,d,x,sn,X,ls,O,nv,rfl,G,bG⟩
   rw [Int.zero_add]
   obtain ⟨t,ys,rfl,ht,py⟩:=id G.nw
   refine gn (σ':=sl a m U b.za b.pa b.A.l W0 ca ta sa X (.ref t) M (some (.int (k:Nat))) y14 y15) rfl ?_
   refine sq λnB kB=>?_
   refine Cn λtb ub kT kU=>?_
   have c3:∀H3,Same H2 H3->(M<=k->d.en=some "broken")->ub (sl a m U b.za b.pa b.A.l W0 ca ta sa X (.ref t) M (some (.int (k:Nat))) y14 y15) H3:=λH3 s3 h=>kU _ _ (kB _ _ ⟨m,U,b,W0,ca,ta,sa,Y,E1,N,M,k,y14,y15,d,x,sn,X,ls,O,.ref t,ϱ,G.same n s3,h,hk,bi,lt,m8,n8,bB,λ_ _ z=>z⟩)
   refine ⟨_,ϱ,χ,λe1 n1=>⟨t,e1,ys,ϱ,ϱ,SqT.of (ah n1 _ _ ht),SqT.of ae,_,ϱ,?_⟩⟩
   have s1:=ah (o:=.tup []) n1
   rcases G.en with en | ⟨en,b0⟩
   rotate_left
   ·have ey:ys.isEmpty=false:=by
     have e:enl b.p d=[(b.p,("broken":Str))]:=by unfold enl;rw [en];rfl
     rw [e] at py
     have l:=py.len
     cases ys with
     | nil=>cases l
     | cons u r=>rfl
    rw [ey]
    exact aM (aM (c3 _ s1 λ_=>en))
   have ey:ys=[]:=by
    have e:enl b.p d=[]:=by unfold enl;rw [en];rfl
    rw [e] at py
    cases (show Paired (sPS K H2) [] ys from py)
    rfl
   subst ey
   have dZ:∀H3,Same H2 H3->tb (sl a m U b.za b.pa b.A.l W0 ca ta sa X (.ref t) M (some (.int (k:Nat))) y14 y15) H3:=λH3 s3=>by
    have aZ:=G.same n s3
    have g3:=aZ.g
    refine kT _ _ (sq λn1 k1=>⟨_,ϱ,λl dx nl hC ni=>⟨l,dx,b.A.l,ϱ,ae,λh H4 eh o4=>⟨ϱ,k1 _ _ (sq λn2 k2=>?_)⟩⟩⟩)
    have ob:=o4.born (i5 nl hC) nl
    subst eh
    have g4:=g3.sheet n ob
    refine ⟨_,ϱ,h.l,h.dx,_,ϱ,g4.sh,gu θ,_,ϱ,χ,λte hD=>⟨χ,λr hE=>?_⟩⟩
    have s5:=ah (o:=.tup []) hD
    have s6:=ah (o:=.tup [.str "end",.ref b.pa,.str "broken",.ref te]) hE
    have g6:=g4.same n (s5.trans s6)
    have h8:RxAt K (upd (upd H4 te (.tup [])) r (.tup [.str "end",.ref b.pa,.str "broken",.ref te])) b.p b.z r (.fin "broken"):=⟨b.pa,.ref te,ae,g6.wo.pa,θ⟩
    refine ⟨b.p,b.z,b.A,h,d,[],[],.non,r,.fin "broken",wtL CL b x,ϱ,(g6.self c7).ow,g6.wo.si,h8,⟨(λ_ h=>nomatch h),(λ_ _=>en),by have:=G.lws;omega⟩,(by show 0<=900;decide),λb' v' H7 o7 hF nw=>k2 _ _ (sq λn3 k3=>?_)⟩
    have g7:=g6.trans (S':=shL CH b.A.l h [r] [] v') ⟨o7,(g6.wo.im n o7.im).wsi hF⟩
    refine ⟨_,ϱ,x.W.l,x.W.dx,_,(by rw [G.eW]),g7.wo.wi,gF θ,_,ϱ,_,ϱ,b,h,_,[r],[],v',x,(by rw [G.eW];rfl),g7.self c7,G.o,by have:=G.du;omega,λW' dl H8 eW g8=>k3 _ _ (sq λn4 k4=>?_)⟩
    have g9:=(g7.trans g8).drop
    refine ⟨_,ϱ,χ,λp1 m1=>⟨χ,λp2 m2=>k4 _ _ ⟨χ,λds m3=>kB _ _ ?_⟩⟩⟩
    have s9:=ah (o:=.tup [.ref b.pa,.str "broken"]) m1
    have cx:=ah (o:=.tup [.ref p1]) m2
    have cF:=ah (o:=.lst []) m3
    have e2:=s9.trans (cx.trans cF)
    have bg:=g9.same n e2
    have hc:=g9.same n (s9.trans cx)
    have e3:=(cx.trans cF) _ _ (ae (H:=H8) (a:=p1) (o:=.tup [.ref b.pa,.str "broken"]))
    have e4:=cF _ _ (ae (H:=upd H8 p1 (.tup [.ref b.pa,.str "broken"])) (a:=p2) (o:=.tup [.ref p1]))
    have c5:=ae (H:=upd (upd H8 p1 (.tup [.ref b.pa,.str "broken"])) p2 (.tup [.ref p1])) (a:=ds) (o:=.lst [])
    have e7:=hc.ow.free m3
    generalize (upd (upd (upd H8 p1 _) p2 _) ds _)=H9 at bg e3 e4 c5 ⊢
    refine ⟨m,U,b,W0,ca,ta,sa,Y,E1,N,M,k,_,y15,_,_,sn,ds,[],[],.ref p2,ϱ,⟨bg.self dF,λu I=>bg.out (aZ.e u I).1 (aZ.e u I).2,G.ek,(bg.out aZ.hsa aZ.nsa).1,(bg.out aZ.hsa aZ.nsa).2,G.seen,G.lsn,G.lws,⟨c5,e7,.nil,ϖ _,λ_=>rfl⟩,⟨p2,[.ref p1],ϱ,e4,.cons ⟨p1,b.pa,ϱ,e3,bg.wo.pa⟩ .nil⟩,G.cl,.inl rfl,(by show 0<=2;decide),.inr ⟨ϱ,ϱ⟩,(by show W'.l=W0;rw [eW];exact G.eW),G.sec⟩,λ_=>rfl,hk,bi,lt,m8,n8,bB,λ_ _ z=>z⟩
   have hd:=aR (upd H2 e1 (.tup [])) λu I=>s1 _ _ (G.e u (.tail _ I)).1
   refine bU ⟨_,ϱ,_,ϱ,a,ns,1,ϱ,hd,_,_,ϱ,ϱ,⟨ζ,ζ⟩,_,_,ϱ,ϱ,(by show (0:Int)<9;decide),ϱ,_,ϱ,bF (λ_=>bU (dZ _ s1)) (λ_=>⟨_,ϱ,_,ϱ,ϱ,_,ϱ,bF (λ_=>dZ _ s1) (λc=>c3 _ s1 λz=>?_)⟩)⟩
   have mA:k≠M:=λe=>c (by rw [e];exact τ rfl)
   exact bG ω
  ·rintro σ H2 ⟨y13,y14,y15,d,x,sn,X,ls,O,nv,rfl,G,bG⟩
   refine kA _ _ ⟨_,ϱ,(M:Int),ϱ,ω,ω,?_⟩
   rw [Int.toNat_natCast]
   have ab:=(G.e _ (.head _))
   refine hU (n:=M) (λj ys J=>ys=[]/\Gs C CS CH CL CV K H2 b [] d x J [] d x) ⟨ϱ,G.g⟩ (small ω) (λj ys H3 hj z=>?_) (λys H3 z=>?_)
   ·obtain ⟨rfl,g3⟩:=z
    have I:Y[j]?=some Y[j]:=ξ ω
    obtain ⟨wd,av,eu,ar,ic⟩:=bB _ (List.mem_of_getElem? I)
    rw [eu] at I
    refine ⟨_,ϱ,_,ϱ,_,ϱ,_,ϱ,_,ϱ,_,ϱ,ta,_,_,_,ϱ,ϱ,SqL.of (g3.out ab.1 ab.2).1,aV I,b,d,x,(j:Int),wd,av,(by rw [G.eW];rfl),c1,g3.self dF,by rw [G.cl];exact n8,G.sec j ω ω,λH4 g4=>⟨_,ϱ,aM ⟨ϱ,g3.trans g4⟩⟩⟩
   ·obtain ⟨rfl,g3⟩:=z
    intro p2 m2
    refine ⟨χ,λp3 m3=>⟨[],[],⟨p2,[],ϱ,SqL.of (ah m3 _ _ ae),.nil⟩,⟨p3,[],ϱ,SqL.of ae,.nil⟩,nx _ _ (q _)⟩⟩
 case vB =>
  rintro D0 σ H1 ⟨m,U,b,W0,ca,ta,sa,Y,E1,N,M,k,y14,y15,d,x,sn,X,ls,O,nv,rfl,G,bG,hk,bi,lt,m8,n8,bB,nx⟩
  have hM:(0:Int)<(M:Int):=by omega
  obtain ⟨i,ei,hi,gt⟩:∃i:Nat,(2*(M:Int)-1-(k:Int))%(M:Int)=(i:Int)/\i<M/\(M<=k->(i:Int)=2*M-1-k):=by
   have h0:0<=(2*(M:Int)-1-(k:Int))%(M:Int):=Int.emod_nonneg _ ω
   have h1:(2*(M:Int)-1-(k:Int))%(M:Int)<M:=Int.emod_lt_of_pos _ hM
   refine ⟨((2*(M:Int)-1-(k:Int))%(M:Int)).toNat,ω,ω,λz=>?_⟩
   have e:(2*(M:Int)-1-(k:Int))%(M:Int)=2*(M:Int)-1-(k:Int):=Int.emod_eq_of_lt ω ω
   rw [e]
   omega
  refine sq λnA kA=>⟨_,ϱ,_,_,ϱ,ϱ,.inl ⟨ζ,ζ⟩,_,_,ϱ,ϱ,_,ϱ,_,_,ϱ,ϱ,_,ϱ,_,_,ϱ,ϱ,hM,gn (σ':=sl a m U b.za b.pa b.A.l W0 ca ta sa X nv M (some (.int (k:Nat))) y14 (some (.int (i:Nat)))) (congrArg (λz=>(sl a m U b.za b.pa b.A.l W0 ca ta sa X nv M (some (.int (k:Nat))) y14 y15).set 15 (some (V.int z))) ei) (kA _ _ ?_)⟩
  have ab:=(G.e _ (.head _))
  have I:Y[i]?=some Y[i]:=ξ ω
  obtain ⟨wd,av,eu,ar,ic⟩:=bB _ (List.mem_of_getElem? I)
  rw [eu] at I
  refine ⟨_,ϱ,_,ϱ,_,ϱ,_,ϱ,_,ϱ,_,ϱ,ta,_,_,_,ϱ,ϱ,SqL.of ab.1,aV I,χ,λtt hH=>?_⟩
  have s1:=ah (o:=.tup [.ref b.za,.int (i:Int),.str (txt wd av)]) hH
  have Z:=G.same n s1
  refine ⟨_,ϱ,_,ϱ,_,ϱ,b,d,x,tt,i,wd,av,sa,sn,X,ls,O,nv,(by rw [G.eW];rfl),bi,Z.g,ae,ar,by rw [G.cl];exact ic,by rw [G.cl];exact n8,by have:=G.lws;omega,by have:=G.du;omega,Z.hsa,Z.nsa,by have:=G.lsn;omega,G.seen,Z.lx,Z.nw,λd' x' hL H5 g5 et ev pg=>⟨_,ϱ,aM ?_⟩⟩
  obtain ⟨cz,ex⟩:=pg.ex
  have out:∀{c o},(upd H1 tt (.tup [.ref b.za,.int (i:Int),.str (txt wd av)])) c=some o->(∀a4,o≠.dK a4)->c∉ad (stL b.p b.z b.A d++wtL CL b x)->H5 c=some o/\c∉ad (stL b.p b.z b.A d'++wtL CL b x'):=λ{c o} e ne nc=>g5.out e λz=>by
   rcases ϕ.mp z with y | y
   ·rw [y,Z.hsa] at e
    exact ne _ (Δ e).symm
   ·exact nc y
  have ts:=g5.ow.ts
  obtain ⟨l1,l2⟩:=out Z.lx.h (λ_ z=>by cases z) Z.lx.n
  have b0:x'.due=x.due:=by rw [ex]
  refine nx _ _ ⟨_,_,_,d',x',hL,X,ls,O,nv,ϱ,⟨g5.self dF,λu I=>out (Z.e u I).1 (G.ek u I) (Z.e u I).2,G.ek,ev,et,pg.sn,?_,?_,⟨l1,l2,Paired.mapP Z.lx.p λ_ _ z=>z.keep ts,G.lx.l,λc=>by rw [b0];exact G.lx.m c⟩,?_,by rw [pg.ln,G.cl],?_,by rw [b0];exact G.du,?_,?_,λj h1 h2=>?_⟩,λz=>by rw [pg.en];exact bG ω⟩
  ·have:=pg.ls;have:=G.lsn;omega
  ·have:=pg.lw;have:=G.lws;omega
  ·have e:enl b.p d'=enl b.p d:=by unfold enl;rw [pg.en]
   rw [e]
   exact Z.nw.keep ts
  ·rw [ex];exact G.o
  ·rw [pg.en,b0];exact G.en
  ·rw [ex];exact G.eW
  ·by_cases z:M<=k
   ·by_cases y:j=2*(M:Int)-1-k
    ·rw [y,← gt z]
     refine pg.ed ?_
     rcases G.en with e | e
     ·rw [bG z] at e;cases e
     ·exact e.2
    ·exact pg.st j (G.sec j ω h2)
   ·exact absurd h1 ω
 obtain ⟨E0,dN,ct,aR⟩:∃E0:Cs,(∀u∈E0,H u.1=some u.2/\u.1∉[Pt,Pw,Pu])/\(∀u∈E0,∀a4,u.2≠.dK a4)/\∀J,(∀u∈E0,J u.1=some u.2)->SqL K J a (ns.map V.int):=by
  have np:∀{o:HO},H a=some o->(∀t,o≠.tbl t)->a∉[Pt,Pw,Pu]:=λ{o} e ne m=>ne _ (Δ (e.symm.trans (hP a m)))
  rcases id hS with (h | ⟨o,h⟩) | h
  ·exact ⟨[(a,.lst (ns.map V.int))],(λu I=>by rw [ϵ.mp I];exact ⟨h,np h (λ_ z=>by cases z)⟩),(λu I a4 z=>by rw [ϵ.mp I] at z;cases z),λJ e=>.inl (.inl (e _ (.head _)))⟩
  ·exact ⟨[(a,.frz o (.lst (ns.map V.int)))],(λu I=>by rw [ϵ.mp I];exact ⟨h,np h (λ_ z=>by cases z)⟩),(λu I a4 z=>by rw [ϵ.mp I] at z;cases z),λJ e=>.inl (.inr ⟨o,e _ (.head _)⟩)⟩
  ·exact ⟨[],(λ_ h=>nomatch h),(λ_ h=>nomatch h),λJ _=>.inr h⟩
 refine sq λnA kA=>⟨_,ϱ,a,ns,0,ϱ,hS,kA _ _ (sq λnB kB=>?_)⟩
 generalize cN ns 0=m
 obtain ⟨M,hM,mc,me⟩:∃M:Nat,1+m%8=(M:Int)/\1<=M/\M<=8:=by
  have h0:0<=m%8:=Int.emod_nonneg _ ζ
  have h3:m%8<8:=Int.emod_lt_of_pos _ ζ
  exact ⟨(1+m%8).toNat,ω,ω,ω⟩
 refine ⟨_,ϱ,_,_,ϱ,ϱ,(by show (0:Int)<8;decide),_,_,ϱ,ϱ,(M:Int),congrArg (λz=>[V.int z]) hM,ω,ω,?_⟩
 rw [Int.toNat_natCast]
 refine hU (n:=M) (λi ys J=>J=H/\∃vs:List Int,ys=vs.map V.int/\vs.length=i) ⟨ϱ,[],ϱ,ϱ⟩ (small ω) (λi ys J hi z=>k9 ?_) (λys J z=>?_)
 ·obtain ⟨rfl,vs,rfl,gA⟩:=z
  exact ⟨_,ϱ,_,ϱ,_,_,ϱ,ϱ,_,_,ϱ,ϱ,⟨ω,ω⟩,_,ϱ,_,_,ϱ,ϱ,.inl ⟨ζ,ζ⟩,_,_,ϱ,ϱ,_,ϱ,λr _=>⟨ϱ,vs++[r],by rw [List.map_append];rfl,by rw [List.length_append];show vs.length+1=i+1;omega⟩⟩
 obtain ⟨rfl,cs,rfl,gA⟩:=z
 intro U dz
 have s1:=ah (o:=.lst (cs.map V.int)) dz
 have e9:(upd J U (.lst (cs.map V.int))) U=some (.lst (cs.map V.int)):=ae
 have hg:U∉[Pt,Pw,Pu]:=λz=>by rw [hP U z] at dz;cases dz
 generalize (upd J U (HO.lst (cs.map V.int)))=H1 at s1 e9 ⊢
 refine kB _ _ (sq λnC kC=>⟨_,ϱ,_,_,ϱ,ϱ,⟨ζ,ζ⟩,_,_,ϱ,ϱ,(by show (0:Int)<5;decide),_,ϱ,_,_,ϱ,ϱ,⟨ζ,ζ⟩,_,_,ϱ,ϱ,(by show (0:Int)<19;decide),χ,λza hN=>kC _ _ (sq λnD kD=>?_)⟩)
 have s2:=ah (o:=.tup [.int (m/8%5),.int (m/40%19)]) hN
 have d1:PaA (upd H1 za (.tup [.int (m/8%5),.int (m/40%19)])) (m/8%5,m/40%19) za:=ae
 have ea:=s1.trans s2
 have eb:=s2 _ _ e9
 generalize (upd H1 za _)=H2 at d1 ea eb ⊢
 refine ⟨_,ϱ,za,_,_,_,ϱ,ϱ,SqT.of d1,St.at0,_,_,ϱ,ϱ,_,ϱ,_,_,ϱ,ϱ,⟨ζ,ζ⟩,_,_,ϱ,ϱ,(by show (0:Int)<4;decide),_,_,ϱ,ϱ,_,_,ϱ,ϱ,(by show (0:Int)<5;decide),_,ϱ,_,_,ϱ,ϱ,⟨ζ,ζ⟩,_,_,ϱ,ϱ,(by show (0:Int)<19;decide),χ,λpa hQ=>kD _ _ (sq λnE kE=>?_)⟩
 have s3:=ah (o:=.tup [.int ((m/8%5+1+m/16%4)%5),.int (m/80%19)]) hQ
 have d3:PaA (upd H2 pa (.tup [.int ((m/8%5+1+m/16%4)%5),.int (m/80%19)])) ((m/8%5+1+m/16%4)%5,m/80%19) pa:=ae
 have da:=ea.trans s3
 have dc:=s3 _ _ eb
 have dg:=s3 _ _ d1
 have bA:(((m/8%5+1+m/16%4)%5,m/80%19):Pa)≠(m/8%5,m/40%19):=λz=>by
  have z1:=congrArg Prod.fst z
  have z2:(m/8%5+1+m/16%4)%5=m/8%5:=z1
  have h0:0<=m/8%5:=Int.emod_nonneg _ ζ
  have h1:m/8%5<5:=Int.emod_lt_of_pos _ ζ
  have h2:0<=m/16%4:=Int.emod_nonneg _ ζ
  have h3:m/16%4<4:=Int.emod_lt_of_pos _ ζ
  generalize m/8%5=p at z2 h0 h1
  generalize m/16%4=r at z2 h2 h3
  omega
 generalize (upd H2 pa _)=H3 at d3 da dc dg ⊢
 generalize (((m/8%5+1+m/16%4)%5,m/80%19):Pa)=Q1 at d3 bA
 generalize ((m/8%5,m/40%19):Pa)=P1 at dg bA
 have di:∀b∈[Pt,Pw,Pu],H3 b=some (.tbl #[]):=λb hb=>da _ _ (hP b hb)
 have g0:Ow CH CL [Pt,Pw,Pu] H3 H3 [(Pt,.tbl #[]),(Pw,.tbl #[]),(Pu,.tbl #[])]:=.mk0 (L:=[(Pt,.tbl #[]),(Pw,.tbl #[]),(Pu,.tbl #[])]) (λx hx=>by
   simp only [List.mem_cons,List.not_mem_nil,or_false] at hx
   rcases hx with e | e | e<;>subst e
   ·exact di _ j0
   ·exact di _ j1
   ·exact di _ j2) nP (λx hx=>by
   simp only [List.mem_cons,List.not_mem_nil,or_false] at hx
   rcases hx with e | e | e<;>subst e<;>exact id)
 refine ⟨_,ϱ,λl4 d4 dv eD nG=>⟨l4,d4,U,cs,ϱ,ae,i5 dv eD _ _ dc,λA4 H4 eA iA oA=>⟨ϱ,kE _ _ (sq λnF kF=>?_)⟩⟩⟩
 subst eA
 have ob:=(oA Q1 P1).born (i5 dv eD) dv
 have g4:=g0.join ob
 have s4:Same H3 H4:=λb u e=>ob.fr b u (λz=>nomatch z) e
 have ec:Si CS K H4 Q1 P1 A4 ⟨cs,false,none,[]⟩:=⟨iA,⟨(λ_ h=>nomatch h),List.nodup_nil⟩,λ_ h=>nomatch h⟩
 refine ⟨_,ϱ,λl5 d5 dy eI nT=>⟨l5,d5,⟨3,5,Q1,pa,P1,za,A4,Pt,Pw,Pu⟩,⟨cs,false,none,[]⟩,ϱ,ae,(z7 g4 ec).keep (i5 dy eI),λW dl H5 eW oW iW=>⟨ϱ,?_⟩⟩⟩
 subst eW
 obtain ⟨o5,s5⟩:=qp (b:=⟨3,5,Q1,pa,P1,za,A4,Pt,Pw,Pu⟩) (d:=⟨cs,false,none,[]⟩) (R:=[]) g4 (i5 dy eI) dy oW
 have gd:Gd C CS CH CL CV K [Pt,Pw,Pu] H3 H5 ⟨3,5,Q1,pa,P1,za,A4,Pt,Pw,Pu⟩ [] ⟨cs,false,none,[]⟩ ⟨W,dl,[],(none,none),[],[],[],⟨none,none,none⟩⟩:=⟨o5,ec.keep s5,iW,.nil,⟨(λ_ z=>by cases z),(λ_ z=>by cases z),λ_ z=>by cases z⟩,s5 _ _ (s4 _ _ d3),s5 _ _ (s4 _ _ dg),(λ_=>⟨ϱ,ϱ⟩),(λ_=>rfl),bA⟩
 refine kF _ _ ⟨m,U,⟨3,5,Q1,pa,P1,za,A4,Pt,Pw,Pu⟩,⟨cs,false,none,[]⟩,⟨W,dl,[],(none,none),[],[],[],⟨none,none,none⟩⟩,E0,ϱ,gd.self dF,ϱ,ϱ,ϱ,ϱ,(by show 1<=cs.length;omega),(by show cs.length<=8;omega),λu I=>?_,ct,aR,ϱ,ϱ,ϱ,λ_ _ z=>z⟩
 rcases ϕ.mp I with z | z
 ·rw [z];exact gd.out dc hg
 ·exact gd.out (da _ _ (dN u z).1) (dN u z).2
theorem vX{val:Int->Int}{n:Nat}(F:Fun K "step_done" "PlusStep.step_done" bZ f fd):FnOk P w K mg base CX0 5 f fd ["self","hand","value_of"] (dw P w K mg CW val n .plus base):=by
 refine F.ok gx (λvs H Q E h=>?_) (λl A e s H vs Q E m h=>?_)
 ·obtain ⟨v,g,b,i,_,j,d,_⟩:=h
  exact d.elim
 ·obtain ⟨v,g,b,i,_,j,d,_⟩:=h
  exact d.elim
theorem vY{val:Int->Int}{n:Nat}(F:Fun K "step_done" "NeedStep.step_done" b7 f fd):FnOk P w K mg base CX0 5 f fd ["self","hand","value_of"] (dw P w K mg CW val n .need base):=by
 refine F.ok gy (λvs H Q E h=>?_) (λl A e s H vs Q E m h=>?_)
 ·obtain ⟨v,g,b,i,_,j,d,_⟩:=h
  exact d.elim
 ·obtain ⟨v,g,b,i,_,j,d,_⟩:=h
  exact d.elim
end
end K54
namespace L2
open PySem PySem.Spec PyProof.Rows PySem.W Lo
theorem ra{P:Program}{w:World}{K:Frag}{mg mb:Str->Option Value}{CX:CXT}{k:Nat}{fa a:Addr}{j:List (Addr×Addr)}{fd:FuncData}{x:Str}{sp:Sp}{f:Shared}{vs:List Value}{Z:List Int}
  (KX:K.In f.heap)(aR:f.heap.Ns mainGlobals mg)(i:f.heap.Ns builtinsNs mb)(aS:∀x:Str,x≠"__name__"->mb x=bootBuiltins x)(a0:f.heap.NoLimit)(hg:f.gens=#[])
  (L:f.heap.get? a=some {cls:=.type "list",data:=.seq vs.toArray})(hi:IntsAre vs Z)(hl:Z.length<=sizeLine)(hr:Room k callerA)
  (hC:∀t∈j,codeHdIn K t.1 t.2=true)(hT1:∀t∈j,f.heap.get? t.2=some (tabObj #[]))(hK:noTabs K=true)(hB:BB mg f.heap)
  (F:∀base:Heap,K.In base->BB mg base->FnOk P w K mg base CX k fa fd [x] sp)(O:∀(s:Shared) (u:Value),BindsTo s fd ⟨[u],[]⟩ [(x,u)])
  (aZ:∀H:Hp,SqL K H a (Z.map V.int)->(∀b∈j.map Prod.snd,H b=some (.tbl #[]))->sp [.ref a] H (λv _=>v=.bl true) λ_ _ _=>False)
  (b0:∀H e s',CX [] H f (λ_ _ _=>False) e s'->False) :
  codeAny (model P w) callerA (.call (.ref fa) ⟨[.ref a],[]⟩) (λr s'=>r=.ok (.ret (.bool true))/\OldK f.heap s'.heap/\s'.os=f.os/\AllBare s'.gens) f:=by
 have rv:=mJ hi
 have U:=hi.length
 have I:∀{b:Addr},b∈j.map Prod.snd->f.heap.get? b=some (tabObj #[]):=λ{b} z=>by
  obtain ⟨t,ht,e⟩:=ϑ.mp z
  rw [← e]
  exact hT1 t ht
 have C:¬(a∈j.map Prod.snd):=λz=>by
  rw [I z] at L
  cases L
 have kP:∀{b:Addr},b∈j.map Prod.snd->K.lookup b=none:=λ{b} z=>by
  cases q:K.lookup b with
  | none=>rfl
  | some o =>
   have h2:=List.all_eq_true.mp hK (b,o) (mem_of_lookupK q)
   have e:=KX _ _ q
   rw [I z] at e
   cases e
   exact absurd (show false=true from h2) Bool.false_ne_true
 have W:∀{b:Addr},b∈j.map Prod.snd->∃cc,f.heap.TableAt cc b #[]:=λ{b} z=>by
  obtain ⟨t,ht,e⟩:=ϑ.mp z
  rw [← e]
  exact ⟨t.1,(codeHd_of_K KX (hC t ht)).tab (hT1 t ht)⟩
 have G:∀H:Hp,SqL K H a (Z.map V.int)->(∀b,b∈j.map Prod.snd->H b=some (.tbl #[]))->HOk P w H f.heap->(∀b,H b≠none->b=a\/(b∈j.map Prod.snd))->(H a≠none->K.lookup a=none)->(∀u,H a=some u->∃o xs,u=.frz o (.lst xs)) ->
   codeAny (model P w) callerA (.call (.ref fa) ⟨[.ref a],[]⟩) (λr s'=>r=.ok (.ret (.bool true))/\OldK f.heap s'.heap/\s'.os=f.os/\AllBare s'.gens) f:=by
  intro H hS hP Y hA ak ar
  have g:∀{b:Addr} {o:Obj},f.heap.get? b=some o->H b=none->(mC f.heap H).get? b=some o:=λe n=>wq e n
  have a7:∀{b:Addr} {o:Obj},f.heap.get? b=some o->(o.cls≠.type "list")->o.cls≠.none->H b=none:=λ{b o} e d1 d2=>by
   cases q:H b with
   | none=>rfl
   | some u =>
    rcases hA b (by rw [q];simp) with e' | e'
    ·subst e'
     rw [L] at e
     cases e
     exact absurd rfl d1
    ·rw [I e'] at e
     cases e
     exact absurd rfl d2
  have a8:∀{b:Addr} {o:Obj} {es:Array DictEntry} {ep:Nat},f.heap.get? b=some o->o.data=.dict es ep->H b=none:=λ{b o es ep} e d=>by
   cases q:H b with
   | none=>rfl
   | some u =>
    rcases hA b (by rw [q];simp) with e' | e'
    ·subst e'
     rw [L] at e
     cases e
     cases (show Data.seq vs.toArray _=Data.dict es ep from d)
    ·rw [I e'] at e
     cases e
     cases (show Data.fields #[]=Data.dict es ep from d)
  have J:∀{b:Addr} {m:Str->Option Value},f.heap.Ns b m->(mC f.heap H).Ns b m:=λ{b m} ⟨o,es,ep,e,d,r⟩=>⟨o,es,ep,g e (a8 e d),d,r⟩
  have X:K.In (mC f.heap H):=λb o e=>g (KX b o e) (by
   cases q:H b with
   | none=>rfl
   | some u =>
    rcases hA b (by rw [q];simp) with e' | e'
    ·subst e'
     rw [ak (by rw [q];simp)] at e
     cases e
    ·rw [kP e'] at e
     cases e)
  have hM:Mod K mg (mC f.heap H):=⟨X,J aR,⟨mb,J i,aS⟩,let ⟨mc,h1,h2⟩:=a0;⟨mc,J h1,h2⟩⟩
  have ab:BB mg (mC f.heap H):=by
   obtain ⟨bm,ob,b1,b2,b3,b4,b5,b6⟩:=hB
   exact ⟨bm,ob,b1,b2,g b3 (a7 b3 (by rw [b4];decide) (by rw [b4];nofun)),b4,b5,b6⟩
  have e0:Env0 P w K mg (mC f.heap H) callerA [] f H:=⟨ϱ,hM,λb o e=>yg e,Nat.le_of_eq (tW _ _),trivial,λb i=>absurd (show b∈([]:List Addr) from i) (by simp),Y,.of_eq hg⟩
  refine codeAny_mono ((F _ X ab).run callerA [] f H ⟨[.ref a],[]⟩ [.ref a] [.ref a] _ _ hr e0 (O f (.ref a)) (.cons rfl .nil) (aZ H hS hP)) λr s' h=>?_
  cases r with
  | error e=>exact (b0 H e s' h).elim
  | ok fl =>
   cases fl with
   | next=>exact False.elim h
   | brk=>exact False.elim h
   | cont=>exact False.elim h
   | ret u =>
    obtain ⟨v,H',os,Q,un,D,r',q⟩:=h
    have q':v=.bl true:=q
    subst q'
    obtain rfl:u=Value.bool true:=r'
    have l:∀b o,f.heap.get? b=some o->¬(b∈j.map Prod.snd)->s'.heap.get? b=some o:=λb o e nP=>by
     cases q:H b with
     | none=>exact un.keep b o e q (by intro z;exact absurd (show b∈([]:List Addr) from z) (by simp)) (by simp)
     | some u =>
      rcases hA b (by rw [q];simp) with e' | e'
      ·subst e'
       obtain ⟨ob,xs,rfl⟩:=ar u q
       have z2:=un.frzs b ob _ q
       obtain ⟨e1,_⟩:=Y b _ q
       obtain ⟨e2,_⟩:=D b _ z2
       rw [e] at e1
       cases e1
       exact e2
      ·exact absurd e' nP
    have tP:∀{b:Addr},b∈j.map Prod.snd->∃more,s'.heap.get? b=some {cls:=.none,data:=.fields (#[]++more)}:=λ{b} z=>by
     obtain ⟨more,eP⟩:=un.tbls b #[] (hP b z)
     exact ⟨more,D b _ eP⟩
    refine ⟨ϱ,⟨λb o e=>?_,λb o e=>?_⟩,os,Q⟩
    ·by_cases z:b∈j.map Prod.snd
     ·rw [I z] at e
      cases e
      obtain ⟨more,t⟩:=tP z
      obtain ⟨_,tc⟩:=W z
      exact .inr (.inl ⟨tc.isCodeTable,ϱ,#[],more,ϱ,t⟩)
     ·exact .inl (l b o e z)
    ·by_cases z:b∈j.map Prod.snd
     ·obtain ⟨more,t⟩:=tP z
      exact ⟨_,t⟩
     ·exact ⟨o,l b o e z⟩
 cases hk:K.lookup a with
 | some o =>
  have e:=KX a o hk
  rw [L] at e
  cases e
  refine G (λb=>if b∈j.map Prod.snd then some (.tbl #[]) else none) (.inr ⟨_,vs.toArray,_,hk,ϱ,ϱ,ϱ,by rw [List.size_toArray,U];exact hl,by simpa using rv⟩) (λb z=>if_pos z) (λb u z=>?_) (λb z=>?_) (λz=>absurd (if_neg C) z) λu z=>?_
  ·by_cases i:b∈j.map Prod.snd
   ·have y:=(if_pos i).symm.trans z
    cases y
    exact I i
   ·have y:=(if_neg i).symm.trans z
    cases y
  ·by_cases i:b∈j.map Prod.snd
   ·exact .inr i
   ·exact absurd (if_neg i) z
  ·have y:=(if_neg C).symm.trans z
   cases y
 | none =>
  refine G (λb=>if b∈j.map Prod.snd then some (.tbl #[]) else if b=a then some (.frz {cls:=.type "list",data:=.seq vs.toArray} (.lst (Z.map V.int))) else none) (.inl (.inr ⟨{cls:=.type "list",data:=.seq vs.toArray},(if_neg C).trans (if_pos rfl)⟩)) (λb z=>if_pos z) (λb u z=>?_) (λb z=>?_) (λ_=>hk) λu z=>?_
  ·by_cases i:b∈j.map Prod.snd
   ·have y:=(if_pos i).symm.trans z
    cases y
    exact I i
   ·have z1:=(if_neg i).symm.trans z
    by_cases i:b=a
    ·have y:=(if_pos i).symm.trans z1
     cases y
     subst i
     exact ⟨L,by rw [ν];exact hl,vs,_,rv,L⟩
    ·have y:=(if_neg i).symm.trans z1
     cases y
  ·by_cases i:b∈j.map Prod.snd
   ·exact .inr i
   ·by_cases hb':b=a
    ·exact .inl hb'
    ·exact absurd ((if_neg i).trans (if_neg hb')) z
  ·have z1:=((if_neg C).trans (if_pos rfl)).symm.trans z
   cases z1
   exact ⟨_,_,ϱ⟩
theorem sJ{l:OpenLaw}{n k:Nat}{q:Program}{loose:List Str}{XP:(Str->Option Value)->Heap->Prop}{YP:World->Heap->Prop}{d:DefRec}{K:Params->Frag}{sp:World->List Addr->Sp}{x:Str}
  (hn:l.most=some n)(L:n<=sizeLine)(O:d.params.defaults=[])(hr:Room k callerA)(hY:∀(w:World) (h:Heap),YP w h->(K w.params).In h)
  (F:∀(w:World) (mg:Str->Option Value) (y:Addr) (h:Heap),YP w h->(K w.params).In h->h.Ns mainGlobals mg->mg d.name=some (.ref y) ->
   ∃(D:FuncData) (r:List (Addr×Addr)),(∀(s:Shared) (u:Value),BindsTo s D ⟨[u],[]⟩ [(x,u)])/\(∀t∈r,codeHdIn (K w.params) t.1 t.2=true)/\(∀t∈r,h.get? t.2=some (tabObj #[]))/\noTabs (K w.params)=true /\
    ∀base:Heap,(K w.params).In base->BB mg base->FnOk l.prog w (K w.params) mg base CX0 k y D [x] (sp w (r.map Prod.snd)))
  (P:∀(w:World) (U:List Addr) (H:Hp) (a:Addr) (C:List Int),C.length<=n->SqL (K w.params) H a (C.map V.int)->(∀b∈U,H b=some (.tbl #[]))->sp w U [.ref a] H (λv _=>v=.bl true) λ_ _ _=>False) :
  WalkO q loose XP YP l.row.toRowW d [] (λf vs=>PySem.call f vs):=by
 refine Att.ql hn O λw s₀ s₁ mg mb y o pm cd a1 a vs C G Y ho hd a2 J m j i hg=>?_
 have Q:=hY w _ Y
 obtain ⟨D,r,W,X,I,Z,hF⟩:=F w mg y _ Y Q G.T.g J
 exact ra Q G.T.g G.T.b G.T.builtins G.T.nolimit hg m j (Λ i L) hr X I Z G.T.bmain hF W (λH hS h1=>P w _ H a C i hS h1) λH e s' z=>z
end L2
namespace K54
open PySem L2 Lo St
def kmk(a b c:Addr):Kd->Addr
 | .read=>a
 | .mean=>b
 | .change=>c
def wmk(a b c d e f g:Addr):Wd->Addr
 | .take=>a
 | .mean=>b
 | .sum=>c
 | .give=>d
 | .add=>e
 | .plus=>f
 | .need=>g
abbrev bmV:List Value:=[.type "ValueError",.type "Exception",.type "BaseException",.type "object"]
def FnX(K:Frag)(f:Addr)(x q:Str)(st:Stmt):Prop:=PySem.W.isFn K (.ref f)=true/\∃fd,Fun K x q st f fd
theorem fnx{K:Frag}{f:Addr}{x q:Str}{st:Stmt}{oc kV dc pm cd ct:Value}{od an:Option Addr}{sl:Array (Option Value)}(l:K.lookup f=some ⟨oc,od,.func (PySem.W.fnOf x q (defArgs st) (defBody st) (defScope st) .none kV dc pm an cd ct),sl⟩)(c:PySem.W.codeIn K cd q=true)(k:PySem.W.keepIn K (.ref f)=true)(j:PySem.W.isFn K (.ref f)=true):FnX K f x q st:=⟨j,_,o6 l c k⟩
section
variable {K:Frag}{f:Addr}{x q:Str}{st:Stmt}{fd:FuncData}
abbrev BdF(x q:Str)(st:Stmt)(us:List Value)(ps:List Str):Prop:=∀(kV doc pm:Value) (an:Option Addr) (cdv ct:Value),bindArgs (PySem.W.fnOf x q (defArgs st) (defBody st) (defScope st) .none kV doc pm an cdv ct) ⟨us,[]⟩=pure (ps.zip us)
theorem _root_.L2.Fun.b1(F:Fun K x q st f fd)(p:Str)(h:∀u,BdF x q st [u] [p]):Binds K fd [p] []:=F.binds λa b c d e g us hl=>match us,hl with | [u],_=>h u a b c d e g
theorem _root_.L2.Fun.b2(F:Fun K x q st f fd)(p r:Str)(h:∀u v,BdF x q st [u,v] [p,r]):Binds K fd [p,r] []:=F.binds λa b c d e g us hl=>match us,hl with | [u,v],_=>h u v a b c d e g
theorem _root_.L2.Fun.b3(F:Fun K x q st f fd)(p r s:Str)(h:∀u v w,BdF x q st [u,v,w] [p,r,s]):Binds K fd [p,r,s] []:=F.binds λa b c d e g us hl=>match us,hl with | [u,v,w],_=>h u v w a b c d e g
theorem _root_.L2.Fun.b4(F:Fun K x q st f fd)(p r s t:Str)(h:∀u v w y,BdF x q st [u,v,w,y] [p,r,s,t]):Binds K fd [p,r,s,t] []:=F.binds λa b c d e g us hl=>match us,hl with | [u,v,w,y],_=>h u v w y a b c d e g
theorem _root_.L2.Fun.b5(F:Fun K x q st f fd)(p r s t m:Str)(h:∀u v w y z,BdF x q st [u,v,w,y,z] [p,r,s,t,m]):Binds K fd [p,r,s,t,m] []:=F.binds λa b c d e g us hl=>match us,hl with | [u,v,w,y,z],_=>h u v w y z a b c d e g
theorem _root_.L2.Fun.b6(F:Fun K x q st f fd)(p r s t m n:Str)(h:∀u v w y z j,BdF x q st [u,v,w,y,z,j] [p,r,s,t,m,n]):Binds K fd [p,r,s,t,m,n] []:=F.binds λa b c d e g us hl=>match us,hl with | [u,v,w,y,z,j],_=>h u v w y z j a b c d e g
end
open PySem.W (readsIn findCls fnOf codeIn handedIn findIn nsIn keepIn isFn plainGet hasDictIn plainOver makesIn mroIn kitOne specialIn takesIn excIn mg_of mg_none_of codeHdIn tabObj noTabs)
abbrev XF(K:Frag)(C:Addr)(m:Str)(f:Addr):Prop:=PySem.W.findIn K (.ref C) m=some (some (.ref f))
abbrev X0(K:Frag)(C:Addr)(m:Str):Prop:=PySem.W.findIn K (.ref C) m=some none
abbrev XN(K:Frag)(m:Str)(f:Addr):Prop:=PySem.W.nsIn K mainGlobals m=some (some (.ref f))
abbrev Xn(K:Frag)(m:Str):Prop:=PySem.W.nsIn K mainGlobals m=some none
theorem my{K:Frag}{C D f:Addr}{m:Str}(a:XF K C m f)(b:X0 K D m):C≠D:=λe=>by
 subst e
 have:=(show _=_ from a).symm.trans (show _=_ from b)
 cases this
structure Ck(K:Frag)(C:Addr):Prop where
 c:Cls K C
 m:PySem.W.makesIn K C=true
 k:PySem.W.keepIn K (.ref C)=true
section
variable {P:Program}{w:World}{K:Frag}{mg:Str->Option Value}{base:Heap}{k:Nat}{C f:Addr}{x:Str}{ps:List Str}{sp:Sp}{fd:FuncData}
def gmk(a:XF K C x f)(j:PySem.W.isFn K (.ref f)=true)(e:PySem.W.keepIn K (.ref f)=true)(b:Binds K fd ps [])(o:FnOk P w K mg base CX0 k f fd ps sp):GM P w K mg base CX0 k C x ps sp:=⟨f,fd,o,b,⟨a,j,e⟩⟩
def gfk(e:PySem.W.keepIn K (.ref f)=true)(m:mg x=some (.ref f))(b:Binds K fd ps [])(o:FnOk P w K mg base CX0 k f fd ps sp):GF P w K mg base CX0 k x ps sp:=⟨f,fd,o,b,e,m⟩
end
theorem all_mk {l : PySem.W.OpenLaw} {w : World} {K : Frag} {h : Heap} {mg : Str → Option Value} {fa CR kP U kT Y kU fi ft H I r za l3 l4 l5 l6 l8 WA x eo c4 b WB ep c5 WD er es c8 WE et ca WF eu ev cd cf WG ew bd cg WN ey ch CY CL ho hp hq hr hs ht hu hv J hw hx hy ez hz hA hC hD hE CH hF hG hK hL hM O hP hQ cp eA hR hS hT hY cu cv la lb lc ld le lh ll lm ln lu lv lw lx ly lz lI ma fZ mb g4 aS b0 b1 b2 zh eD eH eI eP eS eW : Addr} (X : K.In h) (G : h.Ns mainGlobals mg) (Gf : mg "law" = some (.ref fa))
     {mc me mk mm mn mp:Option Addr} {mu mA mB:Array (Option Value)} {mG mN mP mR bB mX n0 n1 n2 n3 bC n4 n5 n6 n7 n8 bG na:Value} {g Z ak bI f0 bN f1 o:Tok} {zl:Array DictEntry} {Gg:Nat} {zs:Array DictEntry} {Gh:Nat} {oS o0 o1 o2:Option Addr} {sS s0 s1 s2:Array (Option Value)} {vS v0 v1 v2:Nat} {t0 t1 t2 t3 t4 t5:Tok} {zu:Option Addr} {zw:Array (Option Value)} {i0:Array Value} {zz:Option Addr} {A0:Array (Option Value)} {i1:Array Value} {A4:Option Addr} {At:Array (Option Value)} {i2:Array Value}
  (nR:XN K "Read" CR)
 (nb:Ck K CR)
  (Gi:X0 K CR "first")
  (Gj:X0 K CR "last")
  (nc:XF K CR "kind" kP)
  (Gk:FnX K kP "kind" "Read.kind" gY)
  (nM:XN K "Mean" U)
 (nf:Ck K U)
  (Gm:X0 K U "first")
  (Gn:X0 K U "last")
  (nh:XF K U "kind" kT)
  (Go:FnX K kT "kind" "Mean.kind" gZ)
  (nC:XN K "Change" Y)
 (ni:Ck K Y)
  (Gp:X0 K Y "first")
  (Gq:X0 K Y "last")
  (nk:XF K Y "kind" kU)
  (Gr:FnX K kU "kind" "Change.kind" fh)
  (Gu:XF K CR "__init__" fi)
  (Gv:XF K U "__init__" fi)
  (Gw:XF K Y "__init__" fi)
  (li:FnX K fi "__init__" "Lock.__init__" hJ)
  (Gx:XF K CR "told" ft)
  (Gy:XF K U "told" ft)
  (Gz:XF K Y "told" ft)
  (lt:FnX K ft "told" "Lock.told" hI)
  (nl:XF K CR "beside" H)
  (nm:XF K U "beside" H)
  (nn:XF K Y "beside" H)
  (BT:FnX K H "beside" "Lock.beside" fg)
  (no:XF K CR "covers" I)
  (np:XF K U "covers" I)
  (nr:XF K Y "covers" I)
  (C0:FnX K I "covers" "Lock.covers" fe)
  (GA:XN K "Reader" r)
 (f2:Ck K r)
  (GB:X0 K r "text")
  (GC:X0 K r "place")
  (GD:XF K r "__init__" za)
  (GE:FnX K za "__init__" "Reader.__init__" ix)
  (GG:XF K r "passes" l3)
  (GH:FnX K l3 "passes" "Reader.passes" gr)
  (GJ:XF K r "read_any" l4)
  (GL:FnX K l4 "read_any" "Reader.read_any" eU)
  (GN:XF K r "read_below" l5)
  (GO:FnX K l5 "read_below" "Reader.read_below" dY)
  (GP:XF K r "read_number" l6)
  (GQ:FnX K l6 "read_number" "Reader.read_number" c9)
  (GR:XF K r "read_signs" l8)
  (GS:FnX K l8 "read_signs" "Reader.read_signs" dX)
  (GT:XN K "TakeStep" WA)
 (f3:Ck K WA)
  (C1:X0 K WA "where")
  (C2:X0 K WA "cell")
  (C3:X0 K WA "low")
  (C4:X0 K WA "high")
  (C5:X0 K WA "amount")
  (ns:XF K WA "__init__" x)
  (C6:FnX K x "__init__" "CellStep.__init__" dU)
  (nt:XF K WA "lock" eo)
  (C7:FnX K eo "lock" "TakeStep.lock" dH)
  (nv:XF K WA "step_done" c4)
  (C8:FnX K c4 "step_done" "TakeStep.step_done" bY)
  (nw:XF K WA "back" b)
  (C9:FnX K b "back" "Step.back" gW)
  (GU:XN K "MeanStep" WB)
 (f4:Ck K WB)
  (CB:X0 K WB "where")
  (CI:X0 K WB "cell")
  (CJ:X0 K WB "low")
  (CK:X0 K WB "high")
  (CN:X0 K WB "amount")
  (nx:XF K WB "__init__" x)
  (nz:XF K WB "lock" ep)
  (CO:FnX K ep "lock" "MeanStep.lock" dQ)
  (nA:XF K WB "step_done" c5)
  (CP:FnX K c5 "step_done" "MeanStep.step_done" db)
  (nB:XF K WB "back" b)
  (GV:XN K "SumStep" WD)
 (f5:Ck K WD)
  (CQ:X0 K WD "where")
  (CT:X0 K WD "cell")
  (CU:X0 K WD "low")
  (CW:X0 K WD "high")
  (CX:X0 K WD "amount")
  (nD:XF K WD "__init__" er)
  (CZ:FnX K er "__init__" "SumStep.__init__" eK)
  (nE:XF K WD "lock" es)
  (D0:FnX K es "lock" "SumStep.lock" eJ)
  (nF:XF K WD "step_done" c8)
  (D1:FnX K c8 "step_done" "SumStep.step_done" bj)
  (nG:XF K WD "back" b)
  (GW:XN K "GiveStep" WE)
 (fc:Ck K WE)
  (D2:X0 K WE "where")
  (D3:X0 K WE "cell")
  (D4:X0 K WE "low")
  (D5:X0 K WE "high")
  (D6:X0 K WE "amount")
  (nT:XF K WE "__init__" x)
  (nW:XF K WE "lock" et)
  (D7:FnX K et "lock" "GiveStep.lock" dR)
  (o3:XF K WE "step_done" ca)
  (D8:FnX K ca "step_done" "GiveStep.step_done" b9)
  (o4:XF K WE "back" b)
  (GX:XN K "AddStep" WF)
 (ff:Ck K WF)
  (D9:X0 K WF "where")
  (Da:X0 K WF "cell")
  (Db:X0 K WF "low")
  (Dc:X0 K WF "high")
  (Dd:X0 K WF "amount")
  (o5:XF K WF "__init__" eu)
  (De:FnX K eu "__init__" "AddStep.__init__" eM)
  (o7:XF K WF "lock" ev)
  (Df:FnX K ev "lock" "AddStep.lock" eL)
  (o8:XF K WF "step_done" cd)
  (Dg:FnX K cd "step_done" "AddStep.step_done" cq)
  (oa:XF K WF "back" cf)
  (Dh:FnX K cf "back" "AddStep.back" eN)
  (GY:XN K "PlusStep" WG)
 (fn:Ck K WG)
  (Di:X0 K WG "where")
  (Dj:X0 K WG "cell")
  (Dk:X0 K WG "low")
  (Dl:X0 K WG "high")
  (Dm:X0 K WG "amount")
  (ob:XF K WG "__init__" ew)
  (Dn:FnX K ew "__init__" "PlusStep.__init__" dM)
  (oe:XF K WG "lock" bd)
  (Do:FnX K bd "lock" "Step.lock" gV)
  (oi:XF K WG "step_done" cg)
  (Dp:FnX K cg "step_done" "PlusStep.step_done" bZ)
  (op:XF K WG "back" b)
  (GZ:XN K "NeedStep" WN)
 (fp:Ck K WN)
  (Dq:X0 K WN "where")
  (Dr:X0 K WN "cell")
  (Ds:X0 K WN "low")
  (Dt:X0 K WN "high")
  (Du:X0 K WN "amount")
  (or:XF K WN "__init__" ey)
  (Dv:FnX K ey "__init__" "NeedStep.__init__" dO)
  (os:XF K WN "lock" bd)
  (ow:XF K WN "step_done" ch)
  (Dw:FnX K ch "step_done" "NeedStep.step_done" b7)
  (oA:XF K WN "back" b)
  (H0:XN K "CellStep" CY)
  (H2:specialIn K (.ref CY) "__getattribute__"=some (some (.builtin "type.__getattribute__")))
  (H3:readsIn K CY (.type "type")=true)
  (H4:findCls K (.ref CY) (.type "type") "__init__"=some (.val (.ref x)))
  (H5:handedIn (.ref x)=true)
  (nL:XN K "Locks" CL)
 (oD:Ck K CL)
  (nP:X0 K CL "pairs")
  (oL:X0 K CL "kind")
  (Dx:X0 K CL "keep")
  (Dy:X0 K CL "value_at")
  (Dz:XF K CL "__init__" ho)
  (DA:FnX K ho "__init__" "Locks.__init__" gf)
  (DB:XF K CL "ask" hp)
  (DC:FnX K hp "ask" "Locks.ask" df)
  (DD:XF K CL "hinderer" hq)
  (DE:FnX K hq "hinderer" "Locks.hinderer" cT)
  (DF:XF K CL "waiting_pairs" hr)
  (DG:FnX K hr "waiting_pairs" "Locks.waiting_pairs" ba)
  (DI:XF K CL "waiting_place" hs)
  (DJ:FnX K hs "waiting_place" "Locks.waiting_place" bT)
  (DK:XF K CL "free" ht)
  (DL:FnX K ht "free" "Locks.free" bo)
  (DM:XF K CL "held_pairs" hu)
  (DN:FnX K hu "held_pairs" "Locks.held_pairs" br)
  (DO:XF K CL "stands" hv)
  (DP:FnX K hv "stands" "Locks.stands" b8)
  (nS:XN K "Stand" J)
 (oW:Ck K J)
  (H6:X0 K J "cells")
  (H7:X0 K J "begins")
  (H8:X0 K J "worked")
  (H9:X0 K J "readies")
  (Hc:X0 K J "ends")
  (Hd:X0 K J "walks")
  (He:X0 K J "overs")
  (DQ:XF K J "__init__" hw)
  (DR:FnX K hw "__init__" "Stand.__init__" f9)
  (fr:XF K J "keep" hx)
  (DS:FnX K hx "keep" "Stand.keep" f8)
  (DT:XF K J "changes_of" hy)
  (DU:FnX K hy "changes_of" "Stand.changes_of" cE)
  (DV:XF K J "cell_at" ez)
  (DW:FnX K ez "cell_at" "Stand.cell_at" dL)
  (DX:XF K J "cells_told" hz)
  (DY:FnX K hz "cells_told" "Stand.cells_told" cG)
  (DZ:XF K J "news" hA)
  (E1:FnX K hA "news" "Stand.news" f7)
  (E2:XF K J "bound" hC)
  (E3:FnX K hC "bound" "Stand.bound" cy)
  (E4:XF K J "outcome" hD)
  (E5:FnX K hD "outcome" "Stand.outcome" dJ)
  (E6:XF K J "walked_at" hE)
  (E7:FnX K hE "walked_at" "Stand.walked_at" cJ)
  (nH:XN K "Sheet" CH)
 (Q:Ck K CH)
  (Hf:X0 K CH "stand")
  (Hg:X0 K CH "rows")
  (Hh:X0 K CH "sent")
  (Hj:X0 K CH "latest")
  (p1:X0 K CH "kind")
  (E9:X0 K CH "keep")
  (Ea:X0 K CH "value_at")
  (bg:XF K CH "__init__" hF)
  (Eb:FnX K hF "__init__" "Sheet.__init__" gc)
  (Ec:XF K CH "row" hG)
  (Ed:FnX K hG "row" "Sheet.row" gX)
  (Ee:XF K CH "send" hK)
  (Ef:FnX K hK "send" "Sheet.send" gb)
  (Eg:XF K CH "rows_told" hL)
  (Eh:FnX K hL "rows_told" "Sheet.rows_told" cK)
  (Ei:XF K CH "letters_told" hM)
  (Ej:FnX K hM "letters_told" "Sheet.letters_told" bf)
  (nV:XN K "Works" O)
 (p2:Ck K O)
  (Hk:X0 K O "stand")
  (Hl:X0 K O "home")
  (Hm:X0 K O "many")
  (Ho:X0 K O "locks")
  (Hq:X0 K O "drafts")
  (Hr:X0 K O "answers")
  (Hs:X0 K O "pending")
  (Ek:XF K O "__init__" hP)
  (El:FnX K hP "__init__" "Works.__init__" f6)
  (Em:XF K O "work" hQ)
  (En:FnX K hQ "work" "Works.work" fY)
  (Eo:XF K O "do_step" cp)
  (Ep:isFn K (.ref cp)=true)
  (Eq:K.lookup cp=some ⟨mG,mc,.func (fnOf "do_step" "Works.do_step" (defArgs aN) (defBody aN) (defScope aN) .none mN mP mR me bB mX),mu⟩)
  (Er:codeIn K bB "Works.do_step"=true)
  (i3:keepIn K (.ref cp)=true)
  (fv:XF K O "value_at" eA)
  (Es:FnX K eA "value_at" "Works.value_at" cR)
  (Et:XF K O "send_did" hR)
  (Eu:FnX K hR "send_did" "Works.send_did" cS)
  (Ev:XF K O "is_bound" hS)
  (Ew:FnX K hS "is_bound" "Works.is_bound" bK)
  (Ex:XF K O "ended" hT)
  (Ey:FnX K hT "ended" "Works.ended" fb)
  (Ez:XF K O "lock_stands" hY)
  (EA:FnX K hY "lock_stands" "Works.lock_stands" cn)
  (EB:XF K O "walk" cu)
  (EC:isFn K (.ref cu)=true)
  (ED:K.lookup cu=some ⟨n0,mk,.func (fnOf "walk" "Works.walk" (defArgs bM) (defBody bM) (defScope bM) .none n1 n2 n3 mm bC n4),mA⟩)
  (EE:codeIn K bC "Works.walk"=true)
  (i8:keepIn K (.ref cu)=true)
  (EF:XF K O "undo" cv)
  (EG:isFn K (.ref cv)=true)
  (EH:K.lookup cv=some ⟨n5,mn,.func (fnOf "undo" "Works.undo" (defArgs bO) (defBody bO) (defScope bO) .none n6 n7 n8 mp bG na),mB⟩)
  (EI:codeIn K bG "Works.undo"=true)
  (ia:keepIn K (.ref cv)=true)
  (Ht:XN K "lock_of" la)
  (Hu:FnX K la "lock_of" "lock_of" jA)
  (Hv:XN K "is_whole" lb)
  (Hw:FnX K lb "is_whole" "is_whole" lG)
  (Hy:XN K "read_thing" lc)
  (Hz:FnX K lc "read_thing" "read_thing" iV)
  (HA:XN K "is_sign" ld)
  (HB:FnX K ld "is_sign" "is_sign" mM)
  (HC:XN K "read_step" le)
  (HD:FnX K le "read_step" "read_step" cZ)
  (HE:XN K "read_number" lh)
  (HF:FnX K lh "read_number" "read_number" eY)
  (HH:XN K "made_step" ll)
  (HI:FnX K ll "made_step" "made_step" gN)
  (HJ:XN K "made_sum" lm)
  (HL:FnX K lm "made_sum" "made_sum" iE)
  (HM:XN K "_law_cell_at" ln)
  (HN:FnX K ln "_law_cell_at" "_law_cell_at" eB)
  (HP:XN K "_law_number" lu)
  (HQ:FnX K lu "_law_number" "_law_number" e8)
  (HR:XN K "_law_step" lv)
  (HT:FnX K lv "_law_step" "_law_step" gP)
  (HU:XN K "_law_lock" lw)
  (HX:FnX K lw "_law_lock" "_law_lock" gQ)
  (HY:XN K "_law_meets" lx)
  (HZ:FnX K lx "_law_meets" "_law_meets" fO)
  (I0:XN K "_law_undone" ly)
  (I1:FnX K ly "_law_undone" "_law_undone" cr)
  (I2:XN K "_law_walk" lz)
  (I3:FnX K lz "_law_walk" "_law_walk" gO)
  (I4:XN K "_law_held" lI)
  (I5:FnX K lI "_law_held" "_law_held" gR)
  (I6:XN K "_law_silent" ma)
  (I7:FnX K ma "_law_silent" "_law_silent" eZ)
  (aZ:XN K "law" fZ)
  (lZ:FnX K fZ "law" "law" iX)
  (u:Xn K "isinstance")
  (fA:Xn K "int")
  (cx:Xn K "bool")
  (fB:Xn K "str")
  (fC:Xn K "len")
  (bl:Xn K "range")
  (fG:Xn K "tuple")
  (g5:Xn K "list")
  (p3:Xn K "any")
  (fI:Xn K "all")
  (p4:Xn K "max")
  (cF:Xn K "sorted")
  (p5:Xn K "sum")
  (g6:Xn K "dict")
  (p6:Xn K "ord")
  (i:nsIn K mainGlobals "MOST_FIGURES_things"=some (some (.int 400 g)))
  (a0:nsIn K mainGlobals "MOST_SIGNS"=some (some (.int 2000 Z)))
  (ar:nsIn K mainGlobals "MOST_DEEP"=some (some (.int 8 ak)))
  (bP:nsIn K mainGlobals "LONGEST"=some (some (.int 100000 bI)))
  (fN:nsIn K mainGlobals "BLANK"=some (some (.int 32 f0)))
  (c0:nsIn K mainGlobals "PERCENT"=some (some (.int 37 bN)))
  (fP:nsIn K mainGlobals "TILDE"=some (some (.int 126 f1)))
  (q:nsIn K mainGlobals "MOST_FIGURES_steps"=some (some (.int 40 o)))
  (I8:XN K "SHAPES" mb)
  (I9:K.lookup mb=some ⟨.type "dict",none,.dict zl Gg,#[]⟩)
  (Ia:(mb==sysModules)=false)
  (Ib:PyProof.Rows.KTD.rowsLook wH zl.toList kR=true)
  (Ic:XN K "RANKS" g4)
  (Id:K.lookup g4=some ⟨.type "dict",none,.dict zs Gh,#[]⟩)
  (Ie:(g4==sysModules)=false)
  (If:PyProof.Rows.KTD.rowsLook wH zs.toList lH=true)
  (EJ:XN K "SHARING" aS)
  (lS:K.lookup aS=some ⟨.type "tuple",oS,.seq #[.ref b0,.ref b1,.ref b2] vS,sS⟩)
  (EK:K.lookup b0=some ⟨.type "tuple",o0,.seq #[.str "read" t0,.str "read" t1] v0,s0⟩)
  (EL:K.lookup b1=some ⟨.type "tuple",o1,.seq #[.str "read" t2,.str "mean" t3] v1,s1⟩)
  (EM:K.lookup b2=some ⟨.type "tuple",o2,.seq #[.str "mean" t4,.str "read" t5] v2,s2⟩)
  (Ig:XN K "NoThing" zh)
  (Ih:excIn K zh bmV "ValueError.__new__"=true)
  (hcc1:bB=.ref eD)
  (Kz:K.lookup eD=some ⟨.type "code",zu,.fields i0,zw⟩)
  (hPt1:i0[11]?=some (.ref eH))
  (EN:codeHdIn K eD eH=true)
  (hT1:h.get? eH=some (tabObj #[]))
  (hcc2:bC=.ref eI)
  (KA:K.lookup eI=some ⟨.type "code",zz,.fields i1,A0⟩)
  (hPt2:i1[11]?=some (.ref eP))
  (EO:codeHdIn K eI eP=true)
  (hT2:h.get? eP=some (tabObj #[]))
  (hcc3:bG=.ref eS)
  (KB:K.lookup eS=some ⟨.type "code",A4,.fields i2,At⟩)
  (hPt3:i2[11]?=some (.ref eW))
  (EQ:codeHdIn K eS eW=true)
  (hT3:h.get? eW=some (tabObj #[]))
  (hNe:[eH,eP,eW].Nodup)
  (hN:noTabs K=true) :
  ∃(fd:FuncData) (Ts:List (Addr×Addr)),(∀(s:Shared) (v:Value),BindsTo s fd ⟨[v],[]⟩ [("_law_script",v)])/\(∀t∈Ts,PySem.W.codeHdIn K t.1 t.2=true)/\(∀t∈Ts,h.get? t.2=some (PySem.W.tabObj #[]))/\PySem.W.noTabs K=true/\∀base:Heap,K.In base->BB mg base->FnOk l.prog w K mg base CX0 10 fa fd ["_law_script"] (lq K (Ts.map Prod.snd)):=by
 have e:=Gf.symm.trans (PySem.W.mg_of X G aZ)
 cases e
 obtain ⟨ES,Jb,ic⟩:=Gk
 have F3:=ic.b1 "self" λ_ _ _ _ _ _ _=>rfl
 obtain ⟨ET,Jc,ih⟩:=Go
 have F4:=ih.b1 "self" λ_ _ _ _ _ _ _=>rfl
 obtain ⟨EU,Jd,is⟩:=Gr
 have F5:=is.b1 "self" λ_ _ _ _ _ _ _=>rfl
 obtain ⟨ji,di,Fi⟩:=li
 have bi:=Fi.b3 "self" "first" "last" λ_ _ _ _ _ _ _ _ _=>rfl
 obtain ⟨jt,dt,Ft⟩:=lt
 have bt:=Ft.b1 "self" λ_ _ _ _ _ _ _=>rfl
 have T:TxK K (kmk CR U Y):=⟨λk=>match k with | .read=>nb.c | .mean=>nf.c | .change=>ni.c,λk=>match k with | .read=>Gi | .mean=>Gm | .change=>Gp,λk=>match k with | .read=>Gj | .mean=>Gn | .change=>Gq⟩
 have cz:∀k,mg (kdN k)=some (.ref (kmk CR U Y k)):=λk=>match k with | .read=>mg_of X G nR | .mean=>mg_of X G nM | .change=>mg_of X G nC
 obtain ⟨d2,Ik,C⟩:=BT
 have ej:=C.b2 "self" "other" λ_ _ _ _ _ _ _ _=>rfl
 obtain ⟨d3,Il,F⟩:=C0
 have ek:=F.b2 "self" "other" λ_ _ _ _ _ _ _ _=>rfl
 obtain ⟨EX,Je,pb⟩:=GE
 have F7:=pb.b2 "self" "text" λ_ _ _ _ _ _ _ _=>rfl
 obtain ⟨EY,Jf,iv⟩:=GH
 have F8:=iv.b2 "self" "sign" λ_ _ _ _ _ _ _ _=>rfl
 obtain ⟨EZ,Jg,iA⟩:=GL
 have F9:=iA.b2 "self" "deep" λ_ _ _ _ _ _ _ _=>rfl
 obtain ⟨F0,Jh,iW⟩:=GO
 have Fa:=iW.b1 "self" λ_ _ _ _ _ _ _=>rfl
 obtain ⟨F1,Ji,k0⟩:=GQ
 have si:=k0.b1 "self" λ_ _ _ _ _ _ _=>rfl
 obtain ⟨F2,Jj,k1⟩:=GS
 have Fb:=k1.b2 "self" "many" λ_ _ _ _ _ _ _ _=>rfl
 obtain ⟨d4,Io,d5⟩:=C6
 have c1:=d5.b3 "self" "where" "cell" λ_ _ _ _ _ _ _ _ _=>rfl
 obtain ⟨pg,Ip,da⟩:=C7
 have sm:=da.b1 "self" λ_ _ _ _ _ _ _=>rfl
 obtain ⟨pl,g7,dc⟩:=C8
 have sn:=dc.b3 "self" "hand" "value_of" λ_ _ _ _ _ _ _ _ _=>rfl
 obtain ⟨a1,j,f⟩:=C9
 have a2:=f.b2 "self" "value_of" λ_ _ _ _ _ _ _ _=>rfl
 obtain ⟨pn,Iq,dg⟩:=CO
 have sp:=dg.b1 "self" λ_ _ _ _ _ _ _=>rfl
 obtain ⟨po,g8,dk⟩:=CP
 have sv:=dk.b3 "self" "hand" "value_of" λ_ _ _ _ _ _ _ _ _=>rfl
 obtain ⟨pr,Ir,g9⟩:=CZ
 have sx:=g9.b4 "self" "where" "low" "high" λ_ _ _ _ _ _ _ _ _ _=>rfl
 obtain ⟨pu,Is,dl⟩:=D0
 have t6:=dl.b1 "self" λ_ _ _ _ _ _ _=>rfl
 obtain ⟨pw,ga,dp⟩:=D1
 have tc:=dp.b3 "self" "hand" "value_of" λ_ _ _ _ _ _ _ _ _=>rfl
 obtain ⟨px,Iu,ds⟩:=D7
 have td:=ds.b1 "self" λ_ _ _ _ _ _ _=>rfl
 obtain ⟨py,gd,du⟩:=D8
 have te:=du.b3 "self" "hand" "value_of" λ_ _ _ _ _ _ _ _ _=>rfl
 obtain ⟨qn,Iv,ge⟩:=De
 have tg:=ge.b4 "self" "where" "cell" "amount" λ_ _ _ _ _ _ _ _ _ _=>rfl
 obtain ⟨qs,Iw,dv⟩:=Df
 have th:=dv.b1 "self" λ_ _ _ _ _ _ _=>rfl
 obtain ⟨qx,go,dx⟩:=Dg
 have ti:=dx.b3 "self" "hand" "value_of" λ_ _ _ _ _ _ _ _ _=>rfl
 obtain ⟨r0,gt,dy⟩:=Dh
 have tk:=dy.b2 "self" "value_of" λ_ _ _ _ _ _ _ _=>rfl
 obtain ⟨r1,Ix,gA⟩:=Dn
 have tl:=gA.b2 "self" "amount" λ_ _ _ _ _ _ _ _=>rfl
 obtain ⟨gB,Iy,as⟩:=Do
 have ha:=as.b1 "self" λ_ _ _ _ _ _ _=>rfl
 obtain ⟨r2,h2,dz⟩:=Dp
 have tn:=dz.b3 "self" "hand" "value_of" λ_ _ _ _ _ _ _ _ _=>rfl
 obtain ⟨r3,Iz,h3⟩:=Dv
 have to:=h3.b2 "self" "amount" λ_ _ _ _ _ _ _ _=>rfl
 obtain ⟨r4,h4,dA⟩:=Dw
 have tr:=dA.b3 "self" "hand" "value_of" λ_ _ _ _ _ _ _ _ _=>rfl
 have W:TxW K (wmk WA WB WD WE WF WG WN):=⟨λk=>match k with | .take=>f3.c | .mean=>f4.c | .sum=>f5.c | .give=>fc.c | .add=>ff.c | .plus=>fn.c | .need=>fp.c,λk=>match k with | .take=>C1 | .mean=>CB | .sum=>CQ | .give=>D2 | .add=>D9 | .plus=>Di | .need=>Dq,λk=>match k with | .take=>C2 | .mean=>CI | .sum=>CT | .give=>D3 | .add=>Da | .plus=>Dj | .need=>Dr,λk=>match k with | .take=>C3 | .mean=>CJ | .sum=>CU | .give=>D4 | .add=>Db | .plus=>Dk | .need=>Ds,λk=>match k with | .take=>C4 | .mean=>CK | .sum=>CW | .give=>D5 | .add=>Dc | .plus=>Dl | .need=>Dt,λk=>match k with | .take=>C5 | .mean=>CN | .sum=>CX | .give=>D6 | .add=>Dd | .plus=>Dm | .need=>Du⟩
 obtain ⟨r5,IA,h5⟩:=DA
 have tt:=h5.b1 "self" λ_ _ _ _ _ _ _=>rfl
 obtain ⟨r6,IB,dB⟩:=DC
 have tv:=dB.b3 "self" "p" "lock" λ_ _ _ _ _ _ _ _ _=>rfl
 obtain ⟨r7,IC,dC⟩:=DE
 have tx:=dC.b2 "self" "place" λ_ _ _ _ _ _ _ _=>rfl
 obtain ⟨r9,ID,dG⟩:=DG
 have ty:=dG.b1 "self" λ_ _ _ _ _ _ _=>rfl
 obtain ⟨rb,IE,dI⟩:=DJ
 have tA:=dI.b2 "self" "p" λ_ _ _ _ _ _ _ _=>rfl
 obtain ⟨rc,IF,dK⟩:=DL
 have tP:=dK.b2 "self" "p" λ_ _ _ _ _ _ _ _=>rfl
 obtain ⟨rd,IG,dN⟩:=DN
 have tR:=dN.b1 "self" λ_ _ _ _ _ _ _=>rfl
 obtain ⟨ri,IH,dP⟩:=DP
 have tS:=dP.b3 "self" "p" "lock" λ_ _ _ _ _ _ _ _ _=>rfl
 obtain ⟨rk,II,h6⟩:=DR
 have u2:=h6.b2 "self" "cells" λ_ _ _ _ _ _ _ _=>rfl
 obtain ⟨rl,IJ,dS⟩:=DS
 have u3:=dS.b2 "self" "row" λ_ _ _ _ _ _ _ _=>rfl
 obtain ⟨ro,IK,dT⟩:=DU
 have ub:=dT.b2 "self" "row" λ_ _ _ _ _ _ _ _=>rfl
 obtain ⟨rp,IL,dV⟩:=DW
 have ui:=dV.b2 "self" "cell" λ_ _ _ _ _ _ _ _=>rfl
 obtain ⟨rr,IM,e1⟩:=DY
 have uk:=e1.b1 "self" λ_ _ _ _ _ _ _=>rfl
 obtain ⟨rs,IN,e2⟩:=E1
 have ur:=e2.b1 "self" λ_ _ _ _ _ _ _=>rfl
 obtain ⟨rt,IO,e3⟩:=E3
 have uv:=e3.b1 "self" λ_ _ _ _ _ _ _=>rfl
 obtain ⟨ru,IP,e4⟩:=E5
 have ux:=e4.b2 "self" "p" λ_ _ _ _ _ _ _ _=>rfl
 obtain ⟨rv,IQ,e5⟩:=E7
 have v3:=e5.b3 "self" "p" "i" λ_ _ _ _ _ _ _ _ _=>rfl
 obtain ⟨av,IR,h7⟩:=Eb
 have aR:=h7.b2 "self" "stand" λ_ _ _ _ _ _ _ _=>rfl
 obtain ⟨rx,IS,e6⟩:=Ed
 have vl:=e6.b2 "self" "row" λ_ _ _ _ _ _ _ _=>rfl
 obtain ⟨ry,IT,e7⟩:=Ef
 have vu:=e7.b5 "self" "to" "word" "p" "more" λ_ _ _ _ _ _ _ _ _ _ _=>rfl
 obtain ⟨rz,IU,e9⟩:=Eh
 have vB:=e9.b1 "self" λ_ _ _ _ _ _ _=>rfl
 obtain ⟨s3,IV,ea⟩:=Ej
 have vE:=ea.b1 "self" λ_ _ _ _ _ _ _=>rfl
 obtain ⟨s4,IW,h8⟩:=El
 have vM:=h8.b4 "self" "stand" "home" "many" λ_ _ _ _ _ _ _ _ _ _=>rfl
 obtain ⟨s5,IX,eb⟩:=En
 have vN:=eb.b6 "self" "sheet" "p" "i" "hand" "text" λ_ _ _ _ _ _ _ _ _ _ _ _=>rfl
 have hb:=o6 (st:=aN) Eq Er i3
 have w0:=hb.binds (ps:=["self","sheet","p","waited"]) λ_ _ _ _ _ _ us hl=>match us,hl with | [_,_,_,_],_=>rfl
 obtain ⟨s6,IY,ec⟩:=Es
 have w1:=ec.b3 "self" "p" "cell" λ_ _ _ _ _ _ _ _ _=>rfl
 obtain ⟨s7,IZ,ed⟩:=Eu
 have w2:=ed.b4 "self" "sheet" "p" "i" λ_ _ _ _ _ _ _ _ _ _=>rfl
 obtain ⟨s8,J0,ee⟩:=Ew
 have w3:=ee.b2 "self" "p" λ_ _ _ _ _ _ _ _=>rfl
 obtain ⟨s9,J1,eh⟩:=Ey
 have w4:=eh.b3 "self" "sheet" "p" λ_ _ _ _ _ _ _ _ _=>rfl
 obtain ⟨sc,J2,ei⟩:=EA
 have w6:=ei.b3 "self" "p" "step" λ_ _ _ _ _ _ _ _ _=>rfl
 have hc:=o6 (st:=bM) ED EE i8
 have w7:=hc.binds (ps:=["self","sheet","p","i","hand","text"]) λ_ _ _ _ _ _ us hl=>match us,hl with | [_,_,_,_,_,_],_=>rfl
 have hd:=o6 (st:=bO) EH EI ia
 have wh:=hd.binds (ps:=["self","sheet","p","i","text"]) λ_ _ _ _ _ _ us hl=>match us,hl with | [_,_,_,_,_],_=>rfl
 have L:TxL K (kmk CR U Y) CL:=⟨oD.c,nP,λk=>match k with | .read=>my nc oL | .mean=>my nh oL | .change=>my nk oL⟩
 have hH:∀k,kmk CR U Y k≠CH:=λk=>match k with | .read=>my nc p1 | .mean=>my nh p1 | .change=>my nk p1
 have n:Nq (kmk CR U Y) J CH CL O:=⟨⟨my fr E9,my fr Dx⟩,⟨my fv Ea,my fv Dy⟩,λk=>⟨hH k,L.ne k⟩⟩
 have D:TxD K J:=⟨oW.c,H6,H7,H8,H9,Hc,Hd,He⟩
 have DH:TxH K CH:=⟨Q.c,Hf,Hg,Hh,Hj⟩
 have TV:TxV K O:=⟨p2.c,Hk,Hl,Hm,Ho,Hq,Hr,Hs⟩
 obtain ⟨Jk,Jl,k2⟩:=Hu
 have Fc:=k2.b1 "told" λ_ _ _ _ _ _ _=>rfl
 have Fd:mg "lock_of"=some (.ref la):=mg_of X G Ht
 obtain ⟨Jm,Jn,k3⟩:=Hw
 have Fe:=k3.b1 "thing" λ_ _ _ _ _ _ _=>rfl
 have Ff:mg "is_whole"=some (.ref lb):=mg_of X G Hv
 obtain ⟨Jo,Jp,k4⟩:=Hz
 have Fg:=k4.b1 "text" λ_ _ _ _ _ _ _=>rfl
 have Fh:mg "read_thing"=some (.ref lc):=mg_of X G Hy
 obtain ⟨Jq,Jr,k5⟩:=HB
 have Fj:=k5.b1 "sign" λ_ _ _ _ _ _ _=>rfl
 have Fk:mg "is_sign"=some (.ref ld):=mg_of X G HA
 obtain ⟨Js,Jt,k6⟩:=HD
 have Fl:=k6.b1 "text" λ_ _ _ _ _ _ _=>rfl
 have Fm:mg "read_step"=some (.ref le):=mg_of X G HC
 obtain ⟨Ju,Jv,kb⟩:=HF
 have Fn:=kb.b2 "word" "letter" λ_ _ _ _ _ _ _ _=>rfl
 have Fo:mg "read_number"=some (.ref lh):=mg_of X G HE
 obtain ⟨Jw,Jx,kc⟩:=HI
 have Fp:=kc.b2 "word" "numbers" λ_ _ _ _ _ _ _ _=>rfl
 have Fq:mg "made_step"=some (.ref ll):=mg_of X G HH
 obtain ⟨Jy,Jz,kd⟩:=HL
 have Fr:=kd.b3 "where" "low" "high" λ_ _ _ _ _ _ _ _ _=>rfl
 have Fs:mg "made_sum"=some (.ref lm):=mg_of X G HJ
 obtain ⟨JA,JB,kk⟩:=HN
 have Fu:=kk.b2 "_law_script" "_law_k" λ_ _ _ _ _ _ _ _=>rfl
 have Fv:mg "_law_cell_at"=some (.ref ln):=mg_of X G HM
 obtain ⟨JC,JD,ks⟩:=HQ
 have Fw:=ks.b1 "_law_cell" λ_ _ _ _ _ _ _=>rfl
 have Fx:mg "_law_number"=some (.ref lu):=mg_of X G HP
 obtain ⟨JE,JF,kv⟩:=HT
 have Fy:=kv.b2 "_law_cell" "_law_many" λ_ _ _ _ _ _ _ _=>rfl
 have FA:mg "_law_step"=some (.ref lv):=mg_of X G HR
 obtain ⟨JG,JH,kw⟩:=HX
 have FB:=kw.b1 "_law_text" λ_ _ _ _ _ _ _=>rfl
 have FC:mg "_law_lock"=some (.ref lw):=mg_of X G HU
 obtain ⟨JI,JJ,kA⟩:=HZ
 have FD:=kA.b2 "_law_lock_here" "_law_at" λ_ _ _ _ _ _ _ _=>rfl
 have FE:mg "_law_meets"=some (.ref lx):=mg_of X G HY
 obtain ⟨JK,JL,kB⟩:=I1
 have FF:=kB.b6 "_law_works" "_law_stand" "_law_told" "_law_seen" "_law_locks" "_law_news" λ_ _ _ _ _ _ _ _ _ _ _ _=>rfl
 have FG:mg "_law_undone"=some (.ref ly):=mg_of X G I0
 obtain ⟨JM,JN,kC⟩:=I3
 have FH:=kC.b5 "_law_works" "_law_stand" "_law_p" "_law_texts" "_law_cells" λ_ _ _ _ _ _ _ _ _ _ _=>rfl
 have FI:mg "_law_walk"=some (.ref lz):=mg_of X G I2
 obtain ⟨JO,JP,kD⟩:=I5
 have FJ:=kD.b5 "_law_works" "_law_stand" "_law_q" "_law_script" "_law_many" λ_ _ _ _ _ _ _ _ _ _ _=>rfl
 have FK:mg "_law_held"=some (.ref lI):=mg_of X G I4
 obtain ⟨JQ,JR,kE⟩:=I7
 have FL:=kE.b5 "_law_works" "_law_stand" "_law_p" "_law_i" "_law_text" λ_ _ _ _ _ _ _ _ _ _ _=>rfl
 have FM:mg "_law_silent"=some (.ref ma):=mg_of X G I6
 obtain ⟨jZ,dZ,FZ⟩:=lZ
 have B:TxB mg:=⟨mg_none_of X G u,mg_none_of X G fA,mg_none_of X G cx,mg_none_of X G fB,mg_none_of X G fC,mg_none_of X G bl,mg_none_of X G fG,mg_none_of X G g5,mg_none_of X G p3,mg_none_of X G fI,mg_none_of X G p4,mg_none_of X G cF⟩
 have SS:TxS K mg:=⟨⟨aS,b0,b1,b2,mg_of X G EJ,BR lS,we EK,we EL,we EM⟩⟩
 have RR:TxR K mg:=⟨⟨g4,mg_of X G Ic,uy Id Ie If⟩⟩
 have TT:K54T.Tx K mg r:=⟨f2.c,GB,GC,mg_of X G GA,mg_none_of X G u,mg_none_of X G fA,mg_none_of X G cx,mg_none_of X G fB,mg_none_of X G fC,mg_none_of X G p6,mg_none_of X G fI,mg_none_of X G bl,⟨_,mg_of X G i⟩,⟨_,mg_of X G a0⟩,⟨_,mg_of X G ar⟩,⟨_,mg_of X G bP⟩,⟨_,mg_of X G fN⟩,⟨_,mg_of X G c0⟩,⟨_,mg_of X G fP⟩⟩
 refine ⟨dZ,[(eD,eH),(eI,eP),(eS,eW)],(by obtain ⟨oc,od,kV,JT,pm,an,JU,ct,JV,rfl,lk,JW⟩:=FZ.ex;exact λs v=>.of_eq rfl),B3 EN EO EQ,B3 hT1 hT2 hT3,hN,λbase _ hB=>?_⟩
 have GK:∀k,GM l.prog w K mg base CX0 1 (kmk CR U Y k) "kind" ["self"] (gJ k):=λk=>match k with | .read=>⟨kP,_,BM ic,F3,⟨nc,ES,ic.kp⟩⟩ | .mean=>⟨kT,_,BN ih,F4,⟨nh,ET,ih.kp⟩⟩ | .change=>⟨kU,_,BO is,F5,⟨nk,EU,is.kp⟩⟩
 have Mk:∀k,Mk K (kmk CR U Y k) fi:=λk=>match k with | .read=>⟨nb.m,Gu,ji,nb.k⟩ | .mean=>⟨nf.m,Gv,ji,nf.k⟩ | .change=>⟨ni.m,Gw,ji,ni.k⟩
 have Gt:∀k,GM l.prog w K mg base CX0 2 (kmk CR U Y k) "told" ["self"] (gI (kmk CR U Y)):=λk=>match k with | .read=>⟨ft,_,oU Ft T GK,bt,⟨Gx,jt,Ft.kp⟩⟩ | .mean=>⟨ft,_,oU Ft T GK,bt,⟨Gy,jt,Ft.kp⟩⟩ | .change=>⟨ft,_,oU Ft T GK,bt,⟨Gz,jt,Ft.kp⟩⟩
 have GI:=vL (P:=l.prog) (w:=w) (mg:=mg) (base:=base) Fi T
 have g2:=v4 (P:=l.prog) (w:=w) (mg:=mg) (base:=base) d5 W
 have WI:∀d,WI l.prog w K mg base (wmk WA WB WD WE WF WG WN) d:=λd=>match d with | .take=>⟨x,_,_,⟨f3.m,ns,d4,f3.k⟩,(g2.imp λ_ _ _ _ z=>pi rfl z).mono ζ,c1,mg_of X G GT⟩ | .mean=>⟨x,_,_,⟨f4.m,nx,d4,f4.k⟩,(g2.imp λ_ _ _ _ z=>pi rfl z).mono ζ,c1,mg_of X G GU⟩ | .sum=>⟨er,_,_,⟨f5.m,nD,pr,f5.k⟩,(vy g9 W).mono ζ,sx,mg_of X G GV⟩ | .give=>⟨x,_,_,⟨fc.m,nT,d4,fc.k⟩,(g2.imp λ_ _ _ _ z=>pi rfl z).mono ζ,c1,mg_of X G GW⟩ | .add=>⟨eu,_,_,⟨ff.m,o5,qn,ff.k⟩,v8 ge W (mg_of X G H0) ⟨H2,H3,H4,H5,d5.kp⟩ g2 c1,tg,mg_of X G GX⟩ | .plus=>⟨ew,_,_,⟨fn.m,ob,r1,fn.k⟩,(vC gA W).mono ζ,tl,mg_of X G GY⟩ | .need=>⟨ey,_,_,⟨fp.m,or,r3,fp.k⟩,(vD h3 W).mono ζ,to,mg_of X G GZ⟩
 have wk:∀k,GM l.prog w K mg base CX0 2 ((kmk CR U Y) k) "beside" ["self","other"] (iQ (kmk CR U Y)):=λk=>match k with | .read=>⟨H,_,jH C T SS GK,ej,⟨nl,d2,C.kp⟩⟩ | .mean=>⟨H,_,jH C T SS GK,ej,⟨nm,d2,C.kp⟩⟩ | .change=>⟨H,_,jH C T SS GK,ej,⟨nn,d2,C.kp⟩⟩
 have wo:∀k,GM l.prog w K mg base CX0 2 ((kmk CR U Y) k) "covers" ["self","other"] (iP (kmk CR U Y)):=λk=>match k with | .read=>⟨I,_,jF F T RR GK,ek,⟨no,d3,F.kp⟩⟩ | .mean=>⟨I,_,jF F T RR GK,ek,⟨np,d3,F.kp⟩⟩ | .change=>⟨I,_,jF F T RR GK,ek,⟨nr,d3,F.kp⟩⟩
 have Hi:=K54T.xX (P:=l.prog) (w:=w) (mg:=mg) (base:=base) pb TT
 have Hp:=K54T.xO (P:=l.prog) (w:=w) (mg:=mg) (base:=base) iv TT
 have Hn:=K54T.Ab (P:=l.prog) (w:=w) (mg:=mg) (base:=base) k0 TT
 have Hx:=K54T.vz (P:=l.prog) (w:=w) (mg:=mg) (base:=base) k1 TT
 have ws:fm K r "read_number" l6:=⟨GP,F1,k0.kp⟩
 have FP:fm K r "passes" l3:=⟨GG,EY,iv.kp⟩
 have FQ:fm K r "read_below" l5:=⟨GN,F0,iW.kp⟩
 have FR:fm K r "read_signs" l8:=⟨GR,F2,k1.kp⟩
 have FS:fm K r "read_any" l4:=⟨GJ,EZ,iA.kp⟩
 have Hb:=K54T.v7 iW TT Hn si ws
 have Ha:=K54T.An iA TT Hp F8 FP Hb Fa FQ Hn si ws Hx Fb FR
 have HG:=K54T.xK (P:=l.prog) (w:=w) (mg:=mg) (base:=base) k5 TT
 have HW:=K54T.vt (P:=l.prog) (w:=w) (mg:=mg) (base:=base) k3 TT
 have y:=@gmk l.prog w K mg base
 have gg:=@gfk l.prog w K mg base
 have FT:=gg k3.kp Ff Fe (HW)
 have FU:=gg k4.kp Fh Fg (K54T.xM k4 TT ⟨f2.m,GD,EX,f2.k⟩ HG Fj k5.kp Fk Hi F7 Ha F9 FS)
 have FV:=gg kd.kp Fs Fr (xR kd (WI .sum))
 have FW:=gg kc.kp Fq Fp (vG kc WI FV)
 have FX:=gg kb.kp Fo Fn (xL kb B (mg_of X G Ig) Ih θ ⟨_,mg_of X G q⟩ FU FT)
 have g3:=gg k6.kp Fm Fl (vA k6 B (mg_of X G I8) (uy I9 Ia Ib) FX FW)
 have wt:=gg k2.kp Fd Fc (tD k2 T cz Mk GI bi)
 have Gl:∀d,GM l.prog w K mg base CX0 3 ((wmk WA WB WD WE WF WG WN) d) "lock" ["self"] (cW (wmk WA WB WD WE WF WG WN) K d):=λd=>match d with | .take=>⟨eo,_,vI da W T cz Mk GI bi Gt,sm,⟨nt,pg,da.kp⟩⟩ | .mean=>⟨ep,_,vK dg W T cz Mk GI bi Gt,sp,⟨nz,pn,dg.kp⟩⟩ | .sum=>⟨es,_,xT dl W T cz Mk GI bi Gt,t6,⟨nE,pu,dl.kp⟩⟩ | .give=>⟨et,_,vO ds W T cz Mk GI bi Gt,td,⟨nW,px,ds.kp⟩⟩ | .add=>⟨ev,_,xV dv W T cz Mk GI bi Gt,th,⟨o7,qs,dv.kp⟩⟩ | .plus=>⟨bd,_,(pR (.inl rfl) as).mono ζ,ha,⟨oe,gB,as.kp⟩⟩ | .need=>⟨bd,_,(pR (.inr rfl) as).mono ζ,ha,⟨os,gB,as.kp⟩⟩
 have FY:=tq (P:=l.prog) (w:=w) (mg:=mg) (base:=base) h5 L
 have c2:=y DD r7 dC.kp tx (ya dC B L)
 have x0:=y DF r9 dG.kp ty (vv dG B L c2)
 have x1:=y DI rb dI.kp tA (tf dI B L c2)
 have x2:=y DB r6 dB.kp tv (Am dB B T L wo c2 x1)
 have x3:=y DK rc dK.kp tP (yb dK L x0)
 have x4:=y DM rd dN.kp tR (vU dN B L c2)
 have x5:=y DO ri dP.kp tS (tm dP B T L x4 wk)
 have G0:=tj (P:=l.prog) (w:=w) (mg:=mg) (base:=base) (CH:=CH) (CL:=CL) h6 B D
 have el:=vR (P:=l.prog) (w:=w) (mg:=mg) (base:=base) (CL:=CL) h7 DH
 have x6:=y DT ro dT.kp ub (Al dT D)
 have x7:=y fr rl dS.kp u3 (xW dS D n.s x6)
 have x8:=y DX rr e1.kp uk (v5 e1 B D)
 have he:=y DZ rs e2.kp ur (xQ e2 B D)
 have hg:=y E2 rt e3.kp uv (v6 e3 D)
 have x9:=y E4 ru e4.kp ux (xP e4 D)
 have hh:=y E6 rv e5.kp v3 (z9 e5 D)
 have c3:=y Ec rx e6.kp vl (xY e6 D DH n.s x7 he)
 have em:=y Ee ry e7.kp vu (vP (CL:=CL) e7 DH)
 have hi:=y Eg rz e9.kp vB (vQ e9 B DH)
 have hj:=y Ei s3 ea.kp vE (xZ ea D DH he)
 have kG:∀Bh:Heap,GM l.prog w K mg Bh CX0 1 J "cell_at" ["self","cell"] (eg J):=λBh=>⟨ez,_,tF dV D,ui,⟨DV,rp,dV.kp⟩⟩
 have HV:∀Bh:Heap,K.In Bh->GM l.prog w K mg Bh CX0 2 O "value_at" ["self","p","cell"] (iM J O):=λBh _=>⟨eA,_,vx ec D TV (kG Bh),w1,⟨fv,s6,ec.kp⟩⟩
 have HS:∀(d:Wd) (val:Int->Int) (n:Nat) (Bh:Heap),n<=1000->K.In Bh->FnOk l.prog w K mg Bh CX0 5 ((wmk c4 c5 c8 ca cd cg ch) d) ((λd:Wd=>match d with | .take=>g7 | .mean=>g8 | .sum=>ga | .give=>gd | .add=>go | .plus=>h2 | .need=>h4) d) ["self","hand","value_of"] (dw l.prog w K mg (wmk WA WB WD WE WF WG WN) val n d Bh):=λd val n Bh hn _=>match d with | .take=>vW (.inl rfl) dc gw rfl rfl W | .mean=>vW (.inr rfl) dk gz rfl rfl W | .sum=>yc dp W B (mg_none_of X G p5) hn | .give=>vZ du W | .add=>yd dx W | .plus=>vX dz | .need=>vY dA
 have mS:∀d,fm K ((wmk WA WB WD WE WF WG WN) d) "step_done" ((wmk c4 c5 c8 ca cd cg ch) d):=λd=>match d with | .take=>⟨nv,pl,dc.kp⟩ | .mean=>⟨nA,po,dk.kp⟩ | .sum=>⟨nF,pw,dp.kp⟩ | .give=>⟨o3,py,du.kp⟩ | .add=>⟨o8,qx,dx.kp⟩ | .plus=>⟨oi,r2,dz.kp⟩ | .need=>⟨ow,r4,dA.kp⟩
 have bS:∀d,Binds K ((λd:Wd=>match d with | .take=>g7 | .mean=>g8 | .sum=>ga | .give=>gd | .add=>go | .plus=>h2 | .need=>h4) d) ["self","hand","value_of"] []:=λd=>match d with | .take=>sn | .mean=>sv | .sum=>tc | .give=>te | .add=>ti | .plus=>tn | .need=>tr
 have G1:∀(d:Wd) (val:Int->Int) (n:Nat) (Bh:Heap),K.In Bh->FnOk l.prog w K mg Bh CX0 5 ((wmk b b b b cf b b) d) ((λd:Wd=>match d with | .take=>j | .mean=>j | .sum=>j | .give=>j | .add=>gt | .plus=>j | .need=>j) d) ["self","value_of"] (jn l.prog w K mg (wmk WA WB WD WE WF WG WN) val n d Bh):=λd val n Bh _=>match d with | .take=>jG ζ f | .mean=>jG ζ f | .sum=>jG ζ f | .give=>jG ζ f | .add=>yf dy W | .plus=>jG ζ f | .need=>jG ζ f
 have G2:∀d,fm K ((wmk WA WB WD WE WF WG WN) d) "back" ((wmk b b b b cf b b) d):=λd=>match d with | .take=>⟨nw,a1,f.kp⟩ | .mean=>⟨nB,a1,f.kp⟩ | .sum=>⟨nG,a1,f.kp⟩ | .give=>⟨o4,a1,f.kp⟩ | .add=>⟨oa,r0,dy.kp⟩ | .plus=>⟨op,a1,f.kp⟩ | .need=>⟨oA,a1,f.kp⟩
 have G3:∀d,Binds K ((λd:Wd=>match d with | .take=>j | .mean=>j | .sum=>j | .give=>j | .add=>gt | .plus=>j | .need=>j) d) ["self","value_of"] []:=λd=>match d with | .take=>a2 | .mean=>a2 | .sum=>a2 | .give=>a2 | .add=>tk | .plus=>a2 | .need=>a2
 have G4:=vw h8 D TV n ⟨oD.m,Dz,r5,oD.k⟩ (mg_of X G nL) FY tt hg
 have xb:=y Ev s8 ee.kp w3 (Aj ee D TV hg)
 have xd:=y Et s7 ed.kp w2 (Ak ed DH TV n em)
 have xe:=y Eo Ep i3 w0 (tE (cc:=eD) hb (mg_none_of X G g6) W TV DH n hB hcc1 EN g3 HV HS mS bS c3 xd)
 have xs:=y Em s5 eb.kp vN (xH eb W TV L n xb x2 wt g3 Gl xe)
 have xv:=y Ex s9 eh.kp w4 (vV eh TV L n x3)
 have hk:=y Ez sc ei.kp w6 (Ae ei W TV L n x5 wt Gl)
 have hm:=y EB EC i8 w7 (xI (cc:=eI) hc W D TV DH n hB hcc2 EO g3 kG HS mS bS hh x9 hk c3 em)
 have xN:=y EF EG ia wh (xJ (cc:=eS) hd W D TV DH n hB hcc3 EQ g3 kG G1 G2 G3 hh hk c3 em)
 have ys:=gg kk.kp Fv Fu (ye kk B)
 have yv:=gg ks.kp Fx Fw (xU ks)
 have z0:=gg kv.kp FA Fy (vJ kv B yv)
 have G5:=gg kw.kp FC FB (Af kw B)
 have G6:=gg kA.kp FE FD (vH kA)
 have G7:=gg kB.kp FG FF (xS kB B D TV DH n ⟨Q.m,bg,av,Q.k⟩ (mg_of X G nH) el aR xN hi hj x8 G6)
 have G8:=gg kC.kp FI FH (Ac kC B TV n ⟨Q.m,bg,av,Q.k⟩ (mg_of X G nH) el aR hm)
 have G9:=gg kD.kp FK FJ (Ag kD B TV n ⟨Q.m,bg,av,Q.k⟩ (mg_of X G nH) el aR ys z0 G5 xs)
 have Ga:=gg kE.kp FM FL (Aa kE TV DH n ⟨Q.m,bg,av,Q.k⟩ (mg_of X G nH) el aR hm hi hj)
 exact Ai FZ B D TV DH n hNe ⟨oW.m,DQ,rk,oW.k⟩ (mg_of X G nS) G0 u2 ⟨p2.m,Ek,s4,p2.k⟩ (mg_of X G nV) G4 vM ⟨Q.m,bg,av,Q.k⟩ (mg_of X G nH) el aR ys yv z0 G8 G9 G7 Ga c3 xv
theorem walk{l:PySem.W.OpenLaw}{q:Program}{loose:List Str}{XP:(Str->Option Value)->Heap->Prop}{YP:World->Heap->Prop}{d:DefRec}{K:Params->Frag}(hn:l.most=some 63)(hdf:d.params.defaults=[])
  (hY:∀(w:World) (h:Heap),YP w h->(K w.params).In h)
  (F:∀(w:World) (mg:Str->Option Value) (fa:Addr) (h:Heap),YP w h->(K w.params).In h->h.Ns mainGlobals mg->mg d.name=some (.ref fa) ->
   ∃(fd:FuncData) (Ts:List (Addr×Addr)),(∀(s:Shared) (u:Value),BindsTo s fd ⟨[u],[]⟩ [("_law_script",u)])/\(∀t∈Ts,PySem.W.codeHdIn (K w.params) t.1 t.2=true)/\(∀t∈Ts,h.get? t.2=some (PySem.W.tabObj #[]))/\PySem.W.noTabs (K w.params)=true /\
    ∀base:Heap,(K w.params).In base->BB mg base->FnOk l.prog w (K w.params) mg base CX0 10 fa fd ["_law_script"] (lq (K w.params) (Ts.map Prod.snd))) :
  PySem.W.WalkO q loose XP YP l.row.toRowW d [] (λf vs=>PySem.call f vs) :=
 L2.sJ (n:=63) (k:=10) (x:="_law_script") (sp:=λw Ps=>lq (K w.params) Ps) hn ζ hdf ⟨ϱ,ζ,ζ⟩ hY F λw Ps H a ns hl hS hP=>⟨a,ns,ϱ,hS,hl,hP,λ_=>rfl⟩
end K54
open PySem PySem.W PyProof.Rows
set_option maxRecDepth 100000 in
set_option maxHeartbeats 0 in
theorem PySem.Challenge.cw_pactroom_k54_undone_once_or_void_holds : PySem.Challenge.rw_pactroom_k54_undone_once_or_void.Holds := by
 w_on;o_law
 refine holds_open (q:=Q.qv) (loose:=Q.lo) (Xt:=Q.Xt) (XP:=XL Q.qv Q.lvv) (Yf:=Hook.obs (kmHook Q.Kf Q.Ka Q.ke [811,804,771])) (Ya:=Hook.val (kmHook Q.Kf Q.Ka Q.ke [811,804,771])) (YP:=Hook.says (kmHook Q.Kf Q.Ka Q.ke [811,804,771])) (N:=17534) Q.left (Hook.of (kmHook Q.Kf Q.Ka Q.ke [811,804,771])) (Hook.keeps (kmHook Q.Kf Q.Ka Q.ke [811,804,771])) (λs e=>xl_of s (Bool.and_eq_true_iff.mp e).1) XL.keeps (by rfl) (by rfl) (by rfl) (λs e=>recFacts_of (Bool.and_eq_true_iff.mp e).2) (by rfl) (by first | assumption | decide +kernel) (by decide +kernel) ⟨rfl,rfl,rfl,rfl,rfl,by decide +kernel⟩ ?hw ?hc
 (case hw=>w_witness2)
 k_fill
 refine K54.walk (l:=PySem.Challenge.rw_pactroom_k54_undone_once_or_void) rfl rfl (λw h Y=>PySem.W.km_in_of Y) ?F
 case F =>
  intro w f g h Y d G b
  apply K54.all_mk d G b
  all_goals first | (delta K54.XF;k_is) | (delta K54.X0;k_is) | (delta K54.XN;k_is) | (delta K54.Xn;k_is) | exact ⟨⟨by k_is,by k_is,by k_is,by k_is⟩,by k_is,by k_is⟩ | (case hcc1=>exact rfl) | (case hPt1=>exact rfl) | (case hT1=>exact PySem.W.km_tabs_of Y _ (by k_mem)) | (case hcc2=>exact rfl) | (case hPt2=>exact rfl) | (case hT2=>exact PySem.W.km_tabs_of Y _ (by k_mem)) | (case hcc3=>exact rfl) | (case hPt3=>exact rfl) | (case hT3=>exact PySem.W.km_tabs_of Y _ (by k_mem)) | (case hNe=>decide) | k_is | exact K54.fnx (by k_is) (by k_is) (by k_is) (by k_is) | kit_is | k_exc | kernel_rfl | skip
