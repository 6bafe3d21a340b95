import PyProof.Rows.All
import Wide.All
import OpenK.AllK
import Wide.FinOn
import Lean
import PyProof.EqAt
import PyProof.EqKinds
import PyProof.TupleCall
import KE.KNestM
import PyProof.DictRoadsH
import PyProof.MeetsDict
import KE.KLam
import KE.KMinKey
import KE.KRevSl
import KE.KRevIter
import KE.KDictList
import KE.KDictOf
import PyProof.DictUpdate
import PyProof.AttrMissHeap
import PySem.Challenge.RW_pactroom_k51_work_on_a_draft
set_option Elab.async false
set_option linter.all false
set_option genSizeOf false
set_option maxHeartbeats 4000000
set_option maxRecDepth 100000
theorem θ{p:Prop}(h:p:=by decide +kernel):p:=h
theorem ζ{p:Prop}(h:p:=by decide):p:=h
theorem ω{p:Prop}(h:p:=by omega):p:=h
theorem χ{a b:Nat}(h:a.ble b=true:=by rfl):a<=b:=Nat.le_of_ble_eq_true h
abbrev ε:=@PySem.wpAny_bind
abbrev π:=@PySem.wpAny_pure
abbrev ρ:=@PySem.Heap.get?_push_of_some
abbrev ξ:=@List.getElem?_eq_getElem
abbrev τ:=@decide_eq_true
abbrev υ:=@Nat.le_succ_of_le
abbrev ι:=@Nat.le_refl
abbrev η:=@PySem.Heap.lt_size
abbrev ψ:=@PySem.Heap.get?_push_size
abbrev Γ:=@decide_eq_false
abbrev Δ:=@Option.some.inj
abbrev Θ:=@List.mem_cons_of_mem
abbrev Λ:=@Nat.le_trans
abbrev Ξ:=@of_decide_eq_true
abbrev Φ:=@Nat.ne_of_lt
abbrev Ψ:=@List.mem_append_right
abbrev Ω:=@List.mem_cons_self
open PySem.W (Frag)
namespace L2
open PySem PySem.Spec PyProof.Rows
abbrev Key:=Sum Int Str
def l8:Key->Value->Bool
 | .inl k,v=>Value.isInt k v
 | .inr x,v=>Value.isStrOf x v
def Bs(w:World):Key->Int
 | .inl k=>hashInt k
 | .inr x=>hashStr w x
theorem bq:∀{k:Key} {v:Value},l8 k v=true->(∃i t,k=Sum.inl i/\v=Value.int i t)\/(∃x t,k=Sum.inr x/\v=Value.str x t)
 | .inl i,v,h=>by
  obtain ⟨t,e⟩:=Value.isInt_shape (k:=i) (v:=v) h
  exact .inl ⟨i,t,rfl,e⟩
 | .inr x,v,h=>by
  obtain ⟨t,e⟩:=Value.isStrOf_shape (x:=x) (v:=v) h
  exact .inr ⟨x,t,rfl,e⟩
theorem sV(i:Int)(t:Tok):l8 (.inl i) (.int i t)=true:=by simp [l8,Value.isInt]
theorem sU(x:Str)(t:Tok):l8 (.inr x) (.str x t)=true:=by simp [l8,Value.isStrOf]
theorem zS(a b:Int):decide ((Sum.inl a:Key)=Sum.inl b)=(a==b):=by
 by_cases e:a=b
 ·subst e;simp
 ·have h:¬(Sum.inl a:Key)=Sum.inl b:=λq=>e (Sum.inl.inj q)
  rw [Γ h]
  exact (beq_eq_false_iff_ne.mpr e).symm
theorem zP(a b:Str):decide ((Sum.inr a:Key)=Sum.inr b)=decide (a=b):=by
 by_cases e:a=b
 ·subst e;simp
 ·have h:¬(Sum.inr a:Key)=Sum.inr b:=λq=>e (Sum.inr.inj q)
  rw [Γ h,Γ e]
theorem zR(a:Int)(b:Str):decide ((Sum.inl a:Key)=Sum.inr b)=false:=Γ (λq=>nomatch q)
theorem zQ(a:Str)(b:Int):decide ((Sum.inr a:Key)=Sum.inl b)=false:=Γ (λq=>nomatch q)
def aL(prog:Program)(w:World):PySem.KeyKind prog w Key where
 is:=l8
 hash:=Bs w
 inj:=λv a b ha hb=>by
  rcases bq ha with ⟨i,t,rfl,rfl⟩ | ⟨x,t,rfl,rfl⟩
  ·rcases bq hb with ⟨j,u,rfl,e⟩ | ⟨y,u,rfl,e⟩
   ·injection e with e1 _;rw [e1]
   ·exact nomatch e
  ·rcases bq hb with ⟨j,u,rfl,e⟩ | ⟨y,u,rfl,e⟩
   ·exact nomatch e
   ·injection e with e1 _;rw [e1]
 byValue:=λk v h=>by
  rcases bq h with ⟨i,t,rfl,rfl⟩ | ⟨x,t,rfl,rfl⟩<;>rfl
 pyHash:=λhv h=>by
  rcases bq hv with ⟨i,t,rfl,rfl⟩ | ⟨x,t,rfl,rfl⟩
  ·exact wpAny_pyHash_int h
  ·exact wpAny_pyHash_str h
 eqBool:=λhu hv h=>by
  rcases bq hu with ⟨i,t,rfl,rfl⟩ | ⟨x,t,rfl,rfl⟩
  ·rcases bq hv with ⟨j,u,rfl,rfl⟩ | ⟨y,u,rfl,rfl⟩
   ·rw [zS] at h;exact wpAny_eqBool_int h
   ·rw [zR] at h;exact SeqAt.EqAt.int_str i t y u _ _ _ _ h
  ·rcases bq hv with ⟨j,u,rfl,rfl⟩ | ⟨y,u,rfl,rfl⟩
   ·rw [zQ] at h;exact SeqAt.EqAt.str_int x t j u _ _ _ _ h
   ·rw [zP] at h;exact wpAny_eqBool_str h
 «strs» := fun k x t v h => by
  rcases bq h with ⟨i,u,rfl,e⟩ | ⟨y,u,rfl,e⟩
  ·exact nomatch e
  ·injection e with e1 _
   subst e1
   cases v<;>rfl
theorem oY(prog:Program)(w:World)(i:Int)(t:Tok):(aL prog w).is (.inl i) (.int i t)=true:=sV i t
theorem oX(prog:Program)(w:World)(x:Str)(t:Tok):(aL prog w).is (.inr x) (.str x t)=true:=sU x t
end L2
namespace L2
open PySem PySem.Spec PyProof.Rows
inductive V where
 | non | bl (b:Bool) | int (i:Int) | str (x:Str) | byt (b:Array UInt8) | flt (b:UInt64) | ref (a:Addr) | ty (n:String)
 deriving DecidableEq
def RelV:V->Value->Prop
 | .non,u=>u=Value.none
 | .bl b,u=>u=Value.bool b
 | .int i,u=>∃t,u=Value.int i t
 | .str x,u=>∃t,u=Value.str x t
 | .byt b,u=>∃t,u=Value.bytes b t
 | .flt b,u=>∃t,u=Value.float b t
 | .ref a,u=>u=Value.ref a
 | .ty n,u=>u=Value.type n
abbrev Vals:List V->List Value->Prop:=Paired RelV
theorem Vals.length{xs:List V}{us:List Value}(r:Vals xs us):xs.length=us.length:=Paired.length r
theorem Vals.get:∀{xs:List V} {us:List Value} {i:Nat} {x:V},Vals xs us->xs[i]?=some x->∃u,us[i]?=some u/\RelV x u
 | _,_,_,_,.nil,e=>by simp at e
 | _,_,0,_,.cons r _,e=>by simp at e;subst e;exact ⟨_,rfl,r⟩
 | _,_,i+1,x,.cons _ t,e=>by
  obtain ⟨u,h1,h2⟩:=Vals.get (i:=i) (x:=x) t (by simpa using e)
  exact ⟨u,by simpa using h1,h2⟩
theorem Vals.set{x:V}{u:Value}(r:RelV x u):∀{xs:List V} {us:List Value} (i:Nat),Vals xs us->Vals (xs.set i x) (us.set i u)
 | _,_,_,.nil=>.nil
 | _,_,0,.cons _ t=>.cons r t
 | _,_,i+1,.cons q t=>.cons q (Vals.set r i t)
theorem Vals.append:∀{xs ys:List V} {us ws:List Value},Vals xs us->Vals ys ws->Vals (xs++ys) (us++ws)
 | _,_,_,_,.nil,s=>s
 | _,_,_,_,.cons r t,s=>.cons r (Vals.append t s)
theorem Vals.take:∀{xs:List V} {us:List Value} (n:Nat),Vals xs us->Vals (xs.take n) (us.take n)
 | _,_,0,_=>.nil
 | _,_,_+1,.nil=>.nil
 | _,_,n+1,.cons r t=>.cons r (Vals.take n t)
theorem Vals.drop:∀{xs:List V} {us:List Value} (n:Nat),Vals xs us->Vals (xs.drop n) (us.drop n)
 | _,_,0,r=>r
 | _,_,_+1,.nil=>.nil
 | _,_,n+1,.cons _ t=>Vals.drop n t
def RelO:Option V->Option Value->Prop
 | some v,some u=>RelV v u
 | none,none=>True
 | _,_=>False
def KV{κ:Type}:List (κ×V)->List (κ×Value)->Prop:=Paired λ(p:κ×V) (q:κ×Value)=>p.1=q.1/\RelV p.2 q.2
def kV:Key->V
 | .inl i=>.int i
 | .inr x=>.str x
inductive HO where
 | lst (xs:List V)
 | tup (xs:List V)
 | dK (kvs:List (Key×V)) | dT (kvs:List (List Key×V))
 | set (S:Int->Bool) (n:Nat)
 | ins (C dx:Addr) (fs:List (Str×V))
 | own (x:Addr)
 | xd (fs:List (Str×V))
 | met (f x:Addr)
 | rng (lo hi:Int)
 | frz (o:Obj) (u:HO)
 | tbl (ps:Array Value)
 | ext (φ:Heap->Prop)
abbrev Hp:=Addr->Option HO
def upd(H:Hp)(a:Addr)(o:HO):Hp:=λb=>if b=a then some o else H b
theorem ad{H:Hp}{a:Addr}{o:HO}:upd H a o a=some o:=by unfold upd;rw [if_pos rfl]
theorem am{H:Hp}{a b:Addr}{o:HO}(h:b≠a):upd H a o b=H b:=by unfold upd;rw [if_neg h]
theorem bU{H:Hp}{a b:Addr}{o u:HO}(h:H a=some o)(h':H b=some u)(d:o≠u):a≠b:=by
 intro e;subst e;rw [h] at h';exact d (Δ h')
theorem ae{H:Hp}{a b:Addr}{o:HO}(h:H a=some o)(h':H b=none):a≠b:=by
 intro e;subst e;rw [h] at h';cases h'
section
variable (P:Program)(w:World)
def ObjOk(H:Hp)(h:Heap)(a:Addr):HO->Prop
 | .lst xs=>xs.length<=sizeLine/\∃(its:List Value) (n:Nat),Vals xs its/\h.get? a=some {cls:=.type "list",data:=.seq its.toArray n}
 | .tup xs=>xs.length<=sizeLine/\∃its:List Value,Vals xs its/\IsTup h a its.toArray
 | .dK kvs=>kvs.length<=sizeLine/\(a==sysModules)=false/\∃vs,KV kvs vs/\h.DictOf (aL P w) a vs
 | .dT kvs=>kvs.length<=sizeLine/\(a==sysModules)=false/\∃xs:List (List Key×Addr×Value),
   Paired (λ(p:List Key×V) (q:List Key×Addr×Value)=>p.1=q.1/\H q.2.1=some (.tup (p.1.map kV))/\RelV p.2 q.2.2) kvs xs /\
   ∃o es ep,h.get? a=some o/\o.ExactDict/\o.data=.dict es ep/\es.toList=xs.map (entryOfKey (tupleKind (aL P w)))/\(xs.map (·.1)).Nodup
 | .set S n=>h.SetOf (intKind P w) a S n
 | .ins C dx fs=>H dx=some (.own a)/\fs.length<=1000/\dx≠a/\h.get? a=some (PySem.W.instObj C dx) /\
   ∃mA,h.Ns1 dx mA/\(∀f,RelO (fs.lookup f) (mA f))/\PySem.Within mA (fs.map (·.1))
 | .own _=>∃o,h.get? a=some o
 | .xd fs=>∃mA,h.Ns1 a mA/\∀f,RelO (fs.lookup f) (mA f)
 | .rng lo hi=>∃t u v,h.get? a=some {cls:=.type "range",data:=.fields #[.int lo t,.int hi u,.int 1 v]}
 | .frz o u=>h.get? a=some o/\ObjOk H h a u
 | .tbl ps=>h.get? a=some {cls:=.none,data:=.fields ps}
 | .met f x=>h.get? a=some (PySem.W.methodObj (.ref f) (.ref x))
 | .ext φ=>φ h/\(∃o,h.get? a=some o)/\∀h1 h2:Heap,φ h1->(∀o,h1.get? a=some o->h2.get? a=some o)->φ h2
def HOk(H:Hp)(h:Heap):Prop:=∀a o,H a=some o->ObjOk P w H h a o
end
section
variable {P:Program}{w:World}{H H':Hp}{h h':Heap}{a:Addr}{o:HO}
theorem ObjOk.lt(x:ObjOk P w H h a o):a<h.objs.size:=by
 cases o with
 | lst xs=>obtain ⟨_,_,_,_,e⟩:=x;exact η e
 | tup xs=>obtain ⟨_,_,_,p⟩:=x;exact p.lt
 | dK kvs=>obtain ⟨_,_,_,_,o,_,_,e,_⟩:=x;exact η e
 | dT kvs=>obtain ⟨_,_,_,_,o,_,_,e,_⟩:=x;exact η e
 | set S n=>obtain ⟨o,_,_,_,e,_⟩:=x;exact η e
 | ins C dx fs=>obtain ⟨_,_,_,e,_⟩:=x;exact η e
 | own y=>obtain ⟨_,e⟩:=x;exact η e
 | xd fs=>obtain ⟨_,⟨_,_,_,e,_⟩,_⟩:=x;exact η e
 | rng lo hi=>obtain ⟨_,_,_,e⟩:=x;exact η e
 | frz ob u=>obtain ⟨e,_⟩:=x;exact η e
 | tbl ps=>exact η (show h.get? a=some _ from x)
 | met f y=>exact η (show h.get? a=some _ from x)
 | ext φ=>obtain ⟨_,⟨_,e⟩,_⟩:=x;exact η e
theorem Paired.mapP{α β:Type}{F G:α->β->Prop}:∀{l₁:List α} {l₂:List β},Paired F l₁ l₂->(∀a b,F a b->G a b)->Paired G l₁ l₂
 | _,_,.nil,_=>.nil
 | _,_,.cons r t,f=>.cons (f _ _ r) (Paired.mapP t f)
theorem ObjOk.stay(x:ObjOk P w H h a o)(k:∀b u,(b=a\/H b=some (.own a))->h.get? b=some u->h'.get? b=some u)
  (ho:∀b,H b=some (.own a)->H' b=some (.own a))(ht:∀b xs,H b=some (.tup xs)->H' b=some (.tup xs)):ObjOk P w H' h' a o:=by
 induction o with
 | lst xs=>obtain ⟨z,its,n,r,e⟩:=x;exact ⟨z,its,n,r,k _ _ (.inl rfl) e⟩
 | tup xs=>obtain ⟨z,its,r,ob,e,c⟩:=x;exact ⟨z,its,r,ob,k _ _ (.inl rfl) e,c⟩
 | dK kvs=>obtain ⟨z,y,vs,r,ob,es,ep,e,c⟩:=x;exact ⟨z,y,vs,r,ob,es,ep,k _ _ (.inl rfl) e,c⟩
 | dT kvs =>
  obtain ⟨z,y,xs,r,ob,es,ep,e,c⟩:=x
  exact ⟨z,y,xs,Paired.mapP r λp q z=>⟨z.1,ht _ _ z.2.1,z.2.2⟩,ob,es,ep,k _ _ (.inl rfl) e,c⟩
 | set S n=>obtain ⟨ob,es,ep,t,e,c⟩:=x;exact ⟨ob,es,ep,t,k _ _ (.inl rfl) e,c⟩
 | ins C dx fs =>
  obtain ⟨d,z,ne,e,mA,⟨od,es,ep,e2,c⟩,r⟩:=x
  exact ⟨ho _ d,z,ne,k _ _ (.inl rfl) e,mA,⟨od,es,ep,k _ _ (.inr d) e2,c⟩,r⟩
 | own y=>obtain ⟨ob,e⟩:=x;exact ⟨ob,k _ _ (.inl rfl) e⟩
 | xd fs=>obtain ⟨mA,⟨od,es,ep,e,c⟩,r⟩:=x;exact ⟨mA,⟨od,es,ep,k _ _ (.inl rfl) e,c⟩,r⟩
 | rng lo hi=>obtain ⟨t,u,v,e⟩:=x;exact ⟨t,u,v,k _ _ (.inl rfl) e⟩
 | frz ob u ih=>obtain ⟨e,q⟩:=x;exact ⟨k _ _ (.inl rfl) e,ih q⟩
 | tbl ps =>
  have e:h.get? a=some {cls:=.none,data:=.fields ps}:=x
  show h'.get? a=some {cls:=.none,data:=.fields ps}
  exact k a _ (.inl rfl) e
 | met f y =>
  have e:h.get? a=some (PySem.W.methodObj (.ref f) (.ref y)):=x
  show h'.get? a=some (PySem.W.methodObj (.ref f) (.ref y))
  exact k a _ (.inl rfl) e
 | ext φ=>obtain ⟨p,⟨o,e⟩,st⟩:=x;exact ⟨st _ _ p λo q=>k _ _ (.inl rfl) q,⟨o,k _ _ (.inl rfl) e⟩,st⟩
theorem HOk.lt(x:HOk P w H h)(e:H a=some o):a<h.objs.size:=(x a o e).lt
theorem HOk.fresh(x:HOk P w H h)(e:h.objs.size<=a):H a=none:=by
 cases q:H a with
 | none=>rfl
 | some u=>exact absurd (Nat.lt_of_lt_of_le (x.lt q) e) (Nat.lt_irrefl _)
theorem HOk.kept(x:HOk P w H h)(k:∀b u,h.get? b=some u->h'.get? b=some u):HOk P w H h':=λa o e =>
 (x a o e).stay (λb u _ q=>k b u q) (λ_ q=>q) λ_ _ q=>q
theorem HOk.laid(x:HOk P w H h)(k:∀b u,h.get? b=some u->h'.get? b=some u)(hp:h.objs.size<=a)(new:ObjOk P w (upd H a o) h' a o):HOk P w (upd H a o) h':=λb u e=>by
 have hn:=x.fresh hp
 by_cases hb:b=a
 ·subst hb;rw [ad] at e;cases e;exact new
 ·rw [am hb] at e
  exact (x b u e).stay (λc v _ q=>k c v q) (λc q=>by rw [am (ae q hn)];exact q) λc xs q=>by rw [am (ae q hn)];exact q
end
def Rd(H:Hp)(a:Addr)(u:HO):Prop:=H a=some u\/∃o,H a=some (.frz o u)
theorem Rd.ok{P:Program}{w:World}{H:Hp}{h:Heap}{a:Addr}{u:HO}(r:Rd H a u)(x:HOk P w H h):ObjOk P w H h a u:=by
 rcases r with r | ⟨o,r⟩
 ·exact x a u r
 ·obtain ⟨_,q⟩:=x a _ r
  exact q
def Mut:Option HO->Prop
 | some (.lst _)=>True
 | some (.dK _)=>True
 | some (.dT _)=>True
 | some (.set _ _)=>True
 | some (.ins _ _ _)=>True
 | some (.ext _)=>True
 | _=>False
section
variable {P:Program}{w:World}{H:Hp}{h h':Heap}{x e:Addr}{o':HO}
theorem HOk.write(ok:HOk P w H h)(mu:Mut (H x))(he:e=x\/H e=some (.own x))(k:∀b u,b≠e->h.get? b=some u->h'.get? b=some u)(heo:∃u,h'.get? e=some u)
  (new:ObjOk P w (upd H x o') h' x o'):HOk P w (upd H x o') h':=λb u q=>by
 have nown:∀c y,H c=some (.own y)->c≠x:=λc y r z=>by subst z;rw [r] at mu;exact mu
 have ntup:∀c xs,H c=some (.tup xs)->c≠x:=λc xs r z=>by subst z;rw [r] at mu;exact mu
 by_cases hb:b=x
 ·subst hb;rw [ad] at q;cases q;exact new
 ·rw [am hb] at q
  by_cases hbe:b=e
  ·have q':H b=some (.own x):=by
    rcases he with z | z
    ·exact absurd (hbe.trans z) hb
    ·rw [hbe];exact z
   rw [q] at q';cases q'
   obtain ⟨v,hv⟩:=heo
   exact ⟨v,by rw [hbe];exact hv⟩
  ·refine (ok b u q).stay (λc v hc r=>k c v ?_ r) (λc r=>by rw [am (nown c b r)];exact r) λc xs r=>by rw [am (ntup c xs r)];exact r
   rcases hc with rfl | hc
   ·exact hbe
   ·rintro rfl
    rcases he with z | z
    ·exact nown c b hc z
    ·rw [hc] at z;cases z;exact hb rfl
end
structure Un(fs ex:List Addr)(H H':Hp)(h h':Heap):Prop where
 keep:∀b o,h.get? b=some o->H b=none->b∉fs->b∉ex->h'.get? b=some o
 slot:∀b o,h.get? b=some o->H b=none->b∈fs->b∉ex->∃sl,h'.get? b=some {o with slots:=sl}
 free:∀b o,h.get? b=some o->H b=none->b∉ex->H' b=none
 there:∀b o,h.get? b=some o->b∉ex->∃o',h'.get? b=some o'
 tups:∀b xs,H b=some (.tup xs)->H' b=some (.tup xs)
 frzs:∀b o u,H b=some (.frz o u)->H' b=some (.frz o u)
 tbls:∀b ps,H b=some (.tbl ps)->∃more,H' b=some (.tbl (ps++more))
section
variable {fs fs' ex ex':List Addr}{H H1 H2:Hp}{h h1 h2 h':Heap}{a x e:Addr}{o:HO}
theorem Un.any(u:Un fs ex H H1 h h1){b:Addr}{ob:Obj}(q:h.get? b=some ob)(n:H b=none)(hx:b∉ex):∃sl,h1.get? b=some {ob with slots:=sl}:=by
 by_cases hb:b∈fs
 ·exact u.slot b ob q n hb hx
 ·exact ⟨ob.slots,u.keep b ob q n hb hx⟩
theorem Un.kept(k:∀b u,h.get? b=some u->h'.get? b=some u):Un fs ex H H h h' :=
 ⟨λb ob q _ _ _=>k b ob q,λb ob q _ _ _=>⟨ob.slots,k b ob q⟩,λ_ _ _ n _=>n,λb ob q _=>⟨ob,k b ob q⟩,λ_ _ q=>q,λ_ _ _ q=>q,λ_ ps q=>⟨#[],by rw [q];simp⟩⟩
theorem Un.refl:Un fs ex H H h h:=Un.kept λ_ _ q=>q
theorem Un.laid(k:∀b u,h.get? b=some u->h'.get? b=some u)(hp:h.objs.size<=a)(hn:H a=none):Un fs ex H (upd H a o) h h' where
 keep:=λb u q _ _ _=>k b u q
 slot:=λb u q _ _ _=>⟨u.slots,k b u q⟩
 free:=λb u q n _=>by rw [am (Φ (Nat.lt_of_lt_of_le (η q) hp))];exact n
 there:=λb u q _=>⟨u,k b u q⟩
 tups:=λb xs q=>by rw [am (ae q hn)];exact q
 frzs:=λb u xs q=>by rw [am (ae q hn)];exact q
 tbls:=λb ps q=>⟨#[],by rw [am (ae q hn),q];simp⟩
theorem Un.write(mu:Mut (H x))(he:e=x\/H e=some (.own x))(k:∀b u,b≠e->h.get? b=some u->h'.get? b=some u)(heo:∃u,h'.get? e=some u):Un fs ex H (upd H x o) h h':=by
 have hx:∀b,H b=none->b≠x:=λb n z=>by subst z;rw [n] at mu;exact mu
 have hb:∀b,H b=none->b≠e:=λb n z=>by
  subst z
  rcases he with r | r
  ·exact hx b n r
  ·rw [n] at r;cases r
 have hm:∀b u,H b=some u->¬Mut (some u)->b≠x:=λb u q nm z=>by subst z;rw [q] at mu;exact nm mu
 refine ⟨λb u q n _ _=>k b u (hb b n) q,λb u q n _ _=>⟨u.slots,k b u (hb b n) q⟩,λb u q n _=>by rw [am (hx b n)];exact n,λb u q _=>?_,
  λb xs q=>by rw [am (hm b _ q λz=>z)];exact q,λb u xs q=>by rw [am (hm b _ q λz=>z)];exact q,λb ps q=>⟨#[],by rw [am (hm b _ q λz=>z),q];simp⟩⟩
 by_cases hbe:b=e
 ·subst hbe;exact heo
 ·exact ⟨u,k b u hbe q⟩
end
def trk(h:Heap)(H:Hp):List Addr:=(List.range h.objs.size).filter λa=>(H a).isSome
def lJ(h:Heap)(H:Hp):Heap:=PySem.W.hideAll h (trk h H)
theorem tf(h:Heap)(H:Hp):(lJ h H).objs.size=h.objs.size:=PySem.W.hideAll_size _ _
theorem vX{h:Heap}{H:Hp}{b:Addr}{o:Obj}(e:h.get? b=some o)(n:H b=none):(lJ h H).get? b=some o :=
 PySem.W.hideAll_get _ e λhm=>by
  have q:(H b).isSome=true:=(List.mem_filter.mp hm).2
  rw [n] at q;simp at q
theorem xE{h:Heap}{H:Hp}{b:Addr}{o:Obj}(e:(lJ h H).get? b=some o):h.get? b=some o/\H b=none:=by
 have e':h.get? b=some o:=PySem.W.of_hideAll (trk h H) e
 refine ⟨e',?_⟩
 cases q:H b with
 | none=>rfl
 | some x =>
  have hm:b∈trk h H:=List.mem_filter.mpr ⟨List.mem_range.mpr (Heap.lt_size e'),by simp [q]⟩
  have z:(lJ h H).get? b=none:=PySem.W.hideAll_none (trk h H) hm
  rw [z] at e;cases e
end L2
namespace L2
open PySem PySem.Spec PyProof.Rows
structure Mod(K:Frag)(mg:Str->Option Value)(base:Heap):Prop where
 kin:K.In base
 glob:base.Ns mainGlobals mg
 blt:∃mb,base.Ns builtinsNs mb/\∀x:Str,x≠"__name__"->mb x=bootBuiltins x
 nolimit:base.NoLimit
structure Cx where
 prog:Program
 w:World
 K:Frag
 mg:Str->Option Value
 base:Heap
 A:Around
 N:List Str
 s₀:Shared
 H₀:Hp
 env:Env
 outer:List Env
 stack:List Env
 ex:List Addr
 fn:Str->Bool
 calm:Bool
 pn:List (Addr×Obj)
 xe:Value->Shared->Prop
def frs(l:List Env):List Addr:=l.filterMap (·.frame)
abbrev Cx.fs(X:Cx):List Addr:=frs X.outer
def Vis(sc:Scope)(x:Str):Prop:=sc.names.lookup x=some .local\/sc.names.lookup x=some .cell\/sc.names.lookup x=some .free
def Loc(sc:Scope)(x:Str):Prop:=sc.names.lookup x=some .local\/sc.names.lookup x=some .cell
def BA(env:Env)(h:Heap)(m:Str->Option Value)(x:Str)(u:Value):Prop :=
 (env.kindOf x=some .local/\m x=some u)\/((env.kindOf x=some .cell\/env.kindOf x=some .free)/\∃c,env.cells.lookup x=some c/\h.IsCell c (some u))
structure Cx.Ok(X:Cx):Prop where
 mod:Mod X.K X.mg X.base
 kind:X.env.scope.kind=.function
 glob:X.env.globals=mainGlobals
 blt:X.env.builtins=builtinsNs
 above:X.s₀.heap.objs.size<=X.env.locals
 inj:∀x y c,X.env.cells.lookup x=some c->X.env.cells.lookup y=some c->x=y
 has:∀x,(X.env.kindOf x=some .cell\/X.env.kindOf x=some .free)->∃c,X.env.cells.lookup x=some c
 cab:∀x c,X.fn x=true->X.env.cells.lookup x=some c->X.s₀.heap.objs.size<=c
 hd:X.calm=true->X.A.handled=none
 frames:X.A.frames=some X.stack
 stk:X.stack=X.outer\/(X.stack=X.env::X.outer/\X.env.frame=some X.env.locals)
 exf:∀b∈X.ex,b≠X.env.locals/\∀x c,X.env.cells.lookup x=some c->c≠b
 bs:∀b o,X.base.get? b=some o->X.s₀.heap.get? b=some o/\X.H₀ b=none
 bsz:X.base.objs.size<=X.s₀.heap.objs.size
 noex:∀b o,X.base.get? b=some o->b∉X.ex
 exfs:∀b∈X.ex,b∉X.fs
 funs:X.s₀.heap.FunFrames X.base X.outer
 frf:∀b∈X.fs,X.H₀ b=none
structure Inv(X:Cx)(pins:List (Addr×Obj))(σ:List (Option V))(H:Hp)(s:Shared):Prop where
 ok:X.Ok
 os:s.os=X.s₀.os
 bare:AllBare s.gens
 base:Un X.fs X.ex X.H₀ H X.s₀.heap s.heap
 loc:∃m,s.heap.Ns X.env.locals m/\∀(i:Nat) (x:Str) (v:V),X.N[i]?=some x->σ[i]?=some (some v)->Vis X.env.scope x->∃u,RelV v u/\BA X.env s.heap m x u
 cell:∀x c,X.env.cells.lookup x=some c->∃v,s.heap.IsCell c v
 free:H X.env.locals=none
 freeC:∀x c,X.env.cells.lookup x=some c->H c=none
 pin:∀p∈X.pn++pins,s.heap.get? p.1=some p.2/\H p.1=none/\p.1≠X.env.locals/\p.1∉X.fs/\∀v,p.2.data≠.cell v
 hok:HOk X.prog X.w H s.heap
 len:σ.length=X.N.length
section
variable {X:Cx}{pins:List (Addr×Obj)}{σ:List (Option V)}{H H':Hp}{s:Shared}{h':Heap}
theorem Cx.Ok.nofr(ok:X.Ok){b:Addr}{o:Obj}(e:X.base.get? b=some o):b∉X.fs:=λhb=>by
 have:=(ok.funs.mem hb).1
 rw [e] at this;cases this
theorem Inv.bs(I:Inv X pins σ H s):∀b o,X.base.get? b=some o->s.heap.get? b=some o/\H b=none:=λb o e =>
 ⟨I.base.keep b o (I.ok.bs b o e).1 (I.ok.bs b o e).2 (I.ok.nofr e) (I.ok.noex b o e),I.base.free b o (I.ok.bs b o e).1 (I.ok.bs b o e).2 (I.ok.noex b o e)⟩
theorem Inv.bk(I:Inv X pins σ H s):∀b o,X.base.get? b=some o->s.heap.get? b=some o:=λb o e=>(I.bs b o e).1
theorem Inv.mod(I:Inv X pins σ H s):Mod X.K X.mg X.base:=I.ok.mod
theorem Inv.kIn(I:Inv X pins σ H s):X.K.In s.heap:=I.ok.mod.kin.keeps I.bk
theorem Inv.lt(I:Inv X pins σ H s):X.env.locals<s.heap.objs.size:=let ⟨_,hn,_⟩:=I.loc;hn.lt
theorem Inv.sz(I:Inv X pins σ H s):X.s₀.heap.objs.size<=s.heap.objs.size:=Λ I.ok.above (Nat.le_of_lt I.lt)
theorem Inv.nofs(I:Inv X pins σ H s){a:Addr}(h:s.heap.objs.size<=a):a∉X.fs:=λhb=>by
 obtain ⟨_,o,ho,_⟩:=I.ok.funs.mem hb
 exact absurd (Nat.lt_of_lt_of_le (η ho) (Λ I.sz h)) (Nat.lt_irrefl _)
theorem Inv.cne(I:Inv X pins σ H s):∀x c,X.env.cells.lookup x=some c->c≠X.env.locals:=λx c e z=>by
 obtain ⟨v,o,ho,hd⟩:=I.cell x c e
 obtain ⟨m,⟨o',es,ep,ho',hd',_⟩,_⟩:=I.loc
 rw [z,ho'] at ho;cases ho;rw [hd'] at hd;cases hd
theorem Inv.funs(I:Inv X pins σ H s):s.heap.FunFrames X.base X.outer:=by
 have all:∀(l:List Env),(∀b∈frs l,b∈X.fs)->X.s₀.heap.FunFrames X.base l->s.heap.FunFrames X.base l:=by
  intro l
  induction l with
  | nil=>intro _ _;trivial
  | cons env r ih =>
   intro hs hl
   obtain ⟨hk,⟨L,o,hf,hn,ho,hd⟩,hr⟩:=hl
   have hL:L∈X.fs:=hs L (by unfold frs;rw [List.filterMap_cons,hf];exact List.mem_cons_self)
   obtain ⟨sl,e⟩:=I.base.slot L o ho (I.ok.frf L hL) hL λz=>I.ok.exfs L z hL
   exact ⟨hk,⟨L,_,hf,hn,e,hd⟩,ih (λb hb=>hs b (by unfold frs;rw [List.filterMap_cons,hf];exact List.mem_cons_of_mem _ hb)) hr⟩
 exact all X.outer (λ_ hb=>hb) I.ok.funs
theorem Inv.stack(I:Inv X pins σ H s):s.heap.FunFrames X.base X.stack:=by
 rcases I.ok.stk with e | ⟨e,hf⟩
 ·rw [e];exact I.funs
 ·rw [e]
  obtain ⟨m,hn,_⟩:=I.loc
  refine .cons (by rw [I.ok.kind];decide) hf hn ?_ I.funs
  exact Heap.get?_none_of_le (Λ I.ok.bsz I.ok.above)
theorem Inv.stkSub(I:Inv X pins σ H s):∀b∈frs X.stack,b∈X.env.locals::X.fs:=λb hb=>by
 rcases I.ok.stk with e | ⟨e,hf⟩
 ·rw [e] at hb;exact Θ _ hb
 ·rw [e] at hb
  unfold frs at hb
  rw [List.filterMap_cons,hf] at hb
  exact hb
theorem Inv.stkFree(I:Inv X pins σ H s):∀b∈frs X.stack,H b=none:=λb hb=>by
 rcases List.mem_cons.mp (I.stkSub b hb) with e | hb
 ·rw [e];exact I.free
 ·obtain ⟨_,o,ho,_⟩:=I.ok.funs.mem hb
  exact I.base.free b o ho (I.ok.frf b hb) λz=>I.ok.exfs b z hb
theorem Inv.step{g':Array GenState}{t':Nat}{d':Drawn}{ch:List Addr}(I:Inv X pins σ H s)
  (hch:∀b∈ch,(b∈X.ex\/X.s₀.heap.objs.size<=b)/\b≠X.env.locals/\(∀x c,X.env.cells.lookup x=some c->c≠b)/\∀p∈X.pn++pins,p.1≠b)
  (keep:∀b o,b≠X.env.locals->b∉X.fs->b∉ch->s.heap.get? b=some o->H b=none->h'.get? b=some o)
  (slot:∀b o,b≠X.env.locals->b∈X.fs->b∉ch->s.heap.get? b=some o->H b=none->∃sl,h'.get? b=some {o with slots:=sl})(free:∀b o,b∉ch->s.heap.get? b=some o->H b=none->H' b=none)
  (there:∀b o,b∉ch->s.heap.get? b=some o->∃o',h'.get? b=some o')
  (tups:∀b xs,H b=some (.tup xs)->H' b=some (.tup xs))(frzs:∀b o u,H b=some (.frz o u)->H' b=some (.frz o u))(tbls:∀b ps,H b=some (.tbl ps)->∃more,H' b=some (.tbl (ps++more)))
  (ns:∀m,s.heap.Ns X.env.locals m->h'.Ns X.env.locals m)(hok:HOk X.prog X.w H' h')(hg:AllBare g') :
  Inv X pins σ H' {s with heap:=h',gens:=g',drawn:=d',toks:=t'}:=by
 have neL:∀b o,X.s₀.heap.get? b=some o->b≠X.env.locals:=λb o e=>Φ (Nat.lt_of_lt_of_le (η e) I.ok.above)
 have neC:∀b o,X.s₀.heap.get? b=some o->b∉X.ex->b∉ch:=λb o e hx hb=>by
  rcases (hch b hb).1 with z | z
  ·exact hx z
  ·exact absurd (Nat.lt_of_lt_of_le (η e) z) (Nat.lt_irrefl _)
 have cellK:∀x c,X.env.cells.lookup x=some c->∀v,s.heap.IsCell c v->h'.IsCell c v:=λx c e v ⟨o,ho,hd⟩=>by
  have nch:c∉ch:=λz=>(hch c z).2.2.1 x c e rfl
  by_cases hc:c∈X.fs
  ·obtain ⟨sl,q⟩:=slot c o (I.cne x c e) hc nch ho (I.freeC x c e)
   exact ⟨_,q,hd⟩
  ·exact ⟨o,keep c o (I.cne x c e) hc nch ho (I.freeC x c e),hd⟩
 refine ⟨I.ok,I.os,hg,⟨λb o e n hb hx=>?_,λb o e n hb hx=>?_,λb o e n hx=>?_,λb o e hx=>?_,λb xs e=>tups b xs (I.base.tups b xs e),λb o xs e=>frzs b o xs (I.base.frzs b o xs e),λb ps e=>?_⟩,?_,λx c e=>?_,?_,λx c e=>?_,λp hp=>?_,hok,I.len⟩
 ·exact keep b o (neL b o e) hb (neC b o e hx) (I.base.keep b o e n hb hx) (I.base.free b o e n hx)
 ·obtain ⟨sl,e1⟩:=I.base.slot b o e n hb hx
  obtain ⟨sl',e2⟩:=slot b _ (neL b o e) hb (neC b o e hx) e1 (I.base.free b o e n hx)
  exact ⟨sl',e2⟩
 ·obtain ⟨o',e1⟩:=I.base.there b o e hx
  exact free b o' (neC b o e hx) e1 (I.base.free b o e n hx)
 ·obtain ⟨o',e1⟩:=I.base.there b o e hx
  exact there b o' (neC b o e hx) e1
 ·obtain ⟨m1,e1⟩:=I.base.tbls b ps e
  obtain ⟨m2,e2⟩:=tbls b _ e1
  exact ⟨m1++m2,by rw [e2,Array.append_assoc]⟩
 ·obtain ⟨m,hn,hl⟩:=I.loc
  refine ⟨m,ns m hn,λi x v e1 e2 e3=>?_⟩
  obtain ⟨u,r,l⟩:=hl i x v e1 e2 e3
  refine ⟨u,r,?_⟩
  rcases l with l | ⟨k,c,e,z⟩
  ·exact .inl l
  ·exact .inr ⟨k,c,e,cellK x c e _ z⟩
 ·obtain ⟨v,z⟩:=I.cell x c e
  exact ⟨v,cellK x c e v z⟩
 ·obtain ⟨m,⟨o,_,_,ho,_⟩,_⟩:=I.loc
  exact free _ o (λz=>(hch _ z).2.1 rfl) ho I.free
 ·obtain ⟨v,o,ho,hd⟩:=I.cell x c e
  exact free c o (λz=>(hch c z).2.2.1 x c e rfl) ho (I.freeC x c e)
 ·obtain ⟨e,n,ne,nf,d⟩:=I.pin p hp
  have nch:p.1∉ch:=λz=>(hch p.1 z).2.2.2 p hp rfl
  exact ⟨keep p.1 p.2 ne nf nch e n,free p.1 p.2 nch e n,ne,nf,d⟩
theorem Inv.un{t':Nat}(I:Inv X pins σ H s)(u:Un X.fs [] H H' s.heap h')(hok:HOk X.prog X.w H' h'):Inv X pins σ H' {s with heap:=h',toks:=t'}:=by
 obtain ⟨m,⟨o,es,ep,ho,r⟩,_⟩:=id I.loc
 obtain ⟨sl,hL⟩:=u.any ho I.free (by simp)
 exact I.step (g':=s.gens) (d':=s.drawn) (ch:=[]) (λ_ z=>nomatch z) (λb o _ hb _ e n=>u.keep b o e n hb (by simp)) (λb o _ hb _ e n=>u.slot b o e n hb (by simp)) (λb o _ e n=>u.free b o e n (by simp)) (λb o _ e=>u.there b o e (by simp)) u.tups u.frzs u.tbls (λm' hm=>by
  obtain ⟨o',es',ep',ho',r'⟩:=hm
  rw [ho] at ho';cases ho'
  exact ⟨_,es',ep',hL,r'⟩) hok I.bare
theorem Inv.call{g':Array GenState}{t':Nat}{d':Drawn}{ch:List Addr}(I:Inv X pins σ H s)(u:Un (frs X.stack) ch H H' s.heap h')(hok:HOk X.prog X.w H' h')(hg:AllBare g')
  (hch:∀b∈ch,(b∈X.ex\/X.s₀.heap.objs.size<=b)/\b≠X.env.locals/\(∀x c,X.env.cells.lookup x=some c->c≠b)/\∀p∈X.pn++pins,p.1≠b) :
  Inv X pins σ H' {s with heap:=h',gens:=g',drawn:=d',toks:=t'}:=by
 obtain ⟨m,⟨o,es,ep,ho,r⟩,_⟩:=id I.loc
 obtain ⟨sl,hL⟩:=u.any ho I.free λz=>(hch _ z).2.1 rfl
 exact I.step (ch:=ch) hch (λb o hL hb hc e n=>u.keep b o e n (λz=>(List.mem_cons.mp (I.stkSub b z)).elim hL hb) hc) (λb o _ _ hc e n=>u.any e n hc) (λb o hc e n=>u.free b o e n hc) (λb o hc e=>u.there b o e hc) u.tups u.frzs u.tbls (λm' hm=>by
  obtain ⟨o',es',ep',ho',r'⟩:=hm
  rw [ho] at ho';cases ho'
  exact ⟨_,es',ep',hL,r'⟩) hok hg
theorem Inv.turned{t':Nat}{it:Addr}(I:Inv X pins σ H s)(k:∀b o,b≠it->s.heap.get? b=some o->h'.get? b=some o)(hn:H it=none)(hL:it≠X.env.locals)
  (h1:it∈X.ex\/X.s₀.heap.objs.size<=it)(h2:∀x c,X.env.cells.lookup x=some c->c≠it)(h3:∀p∈X.pn++pins,p.1≠it):Inv X pins σ H {s with heap:=h',toks:=t'}:=by
 have nit:∀b u,H b=some u->b≠it:=λb u e z=>by rw [z,hn] at e;cases e
 refine I.step (g':=s.gens) (d':=s.drawn) (ch:=[it]) (λb hb=>?_) (λb o _ _ hc e _=>k b o (λz=>hc (by simp [z])) e) (λb o _ _ hc e _=>⟨o.slots,k b o (λz=>hc (by simp [z])) e⟩) (λ_ _ _ _ n=>n)
  (λb o hc e=>⟨o,k b o (λz=>hc (by simp [z])) e⟩) (λ_ _ e=>e) (λ_ _ _ e=>e) (λb ps e=>⟨#[],by rw [e];simp⟩) (λm hm=>?_) (λb u e=>?_) I.bare
 ·have e:b=it:=by simpa using hb
  subst e
  exact ⟨h1,hL,h2,h3⟩
 ·obtain ⟨o,es,ep,ho,r⟩:=hm
  exact ⟨o,es,ep,k _ o (Ne.symm hL) ho,r⟩
 ·refine (I.hok b u e).stay (λc v hc q=>k c v ?_ q) (λ_ q=>q) λ_ _ q=>q
  rcases hc with z | z
  ·rw [z];exact nit b u e
  ·exact nit c _ z
theorem Inv.tok(I:Inv X pins σ H s)(t:Nat):Inv X pins σ H {s with toks:=t}:=I.un (h':=s.heap) (t':=t) Un.refl I.hok
theorem Inv.kept{t':Nat}(I:Inv X pins σ H s)(k:∀b u,s.heap.get? b=some u->h'.get? b=some u):Inv X pins σ H {s with heap:=h',toks:=t'}:=I.un (Un.kept k) (I.hok.kept k)
theorem Inv.laid{a:Addr}{o:HO}{t':Nat}(I:Inv X pins σ H s)(k:∀b u,s.heap.get? b=some u->h'.get? b=some u)(hp:s.heap.objs.size<=a)(new:ObjOk X.prog X.w (upd H a o) h' a o) :
  Inv X pins σ (upd H a o) {s with heap:=h',toks:=t'}:=I.un (Un.laid k hp (I.hok.fresh hp)) (I.hok.laid k hp new)
theorem Inv.write{x e:Addr}{o:HO}{t':Nat}(I:Inv X pins σ H s)(mu:Mut (H x))(he:e=x\/H e=some (.own x))(k:∀b u,b≠e->s.heap.get? b=some u->h'.get? b=some u)(heo:∃u,h'.get? e=some u)
  (new:ObjOk X.prog X.w (upd H x o) h' x o):Inv X pins σ (upd H x o) {s with heap:=h',toks:=t'}:=I.un (Un.write mu he k heo) (I.hok.write mu he k heo new)
theorem Inv.weak{σ':List (Option V)}(I:Inv X pins σ H s)(hl:σ'.length=σ.length)(w:∀(i:Nat) v,σ'[i]?=some (some v)->σ[i]?=some (some v)):Inv X pins σ' H s :=
 ⟨I.ok,I.os,I.bare,I.base,let ⟨m,hn,hl'⟩:=I.loc;⟨m,hn,λi x v e1 e2 e3=>hl' i x v e1 (w i v e2) e3⟩,I.cell,I.free,I.freeC,I.pin,I.hok,hl.trans I.len⟩
theorem Inv.pins_of{pins':List (Addr×Obj)}(I:Inv X pins σ H s)(h:∀p∈pins',s.heap.get? p.1=some p.2/\H p.1=none/\p.1≠X.env.locals/\p.1∉X.fs/\∀v,p.2.data≠.cell v):Inv X pins' σ H s :=
 ⟨I.ok,I.os,I.bare,I.base,I.loc,I.cell,I.free,I.freeC,λp hp=>(List.mem_append.mp hp).elim (λz=>I.pin p (List.mem_append_left _ z)) (h p),I.hok,I.len⟩
theorem oU{N:List Str}(hN:N.Nodup){i j:Nat}{x:Str}(a:N[i]?=some x)(b:N[j]?=some x):i=j:=by
 obtain ⟨h1,e1⟩:=List.getElem?_eq_some_iff.mp a
 obtain ⟨h2,e2⟩:=List.getElem?_eq_some_iff.mp b
 exact (List.getElem_inj hN).mp (e1.trans e2.symm)
theorem lR{M:Model}{A:Around}{E:Value->Shared->Prop}{i:Nat}{x:Str}{v:V}{u:Value}{Q:Unit->Shared->Prop}(I:Inv X pins σ H s)(hN:X.N.Nodup)(hi:X.N[i]?=some x)(hx:Loc X.env.scope x)(r:RelV v u)
  (h:∀s',Inv X pins (σ.set i (some v)) H s'->(∃a,Heap.SameBut a s.heap s'.heap/\(a=X.env.locals\/X.env.cells.lookup x=some a))->Q () s')(hf:X.fn x=true\/X.env.scope.names.lookup x=some .local:=by first | exact .inl rfl | exact .inr rfl | assumption):wpAny M A (storeName X.env x u) Q E s:=by
 obtain ⟨m,hn,hl⟩:=id I.loc
 have hcls:(X.env.scope.kind==.class||(X.env.scope.kind==.module&&X.env.locals != X.env.globals))=false:=by rw [I.ok.kind];rfl
 have hiσ:i<σ.length:=by rw [I.len];exact (List.getElem?_eq_some_iff.mp hi).1
 have cne:=I.cne
 have tracked:∀{a:Addr} {h':Heap},(∃o,s.heap.get? a=some o/\H a=none)->Heap.SameBut a s.heap h'->HOk X.prog X.w H h':=λ{a h'} ha hs b ob e=>by
  obtain ⟨_,_,hfree⟩:=ha
  refine (I.hok b ob e).stay (λc w' hc q=>(hs.2 c ?_).trans q) (λ_ q=>q) λ_ _ q=>q
  rintro rfl
  rcases hc with rfl | hc
  ·rw [hfree] at e;cases e
  ·rw [hfree] at hc;cases hc
 rcases hx with hk | hk
 ·refine wpAny_storeName_local hk hn (λh' hn' hs=>?_) hcls
  obtain ⟨oL,_,_,hoL,_⟩:=id hn
  refine h _ ⟨I.ok,I.os,I.bare,⟨λb o e n hb hx=>?_,λb o e n hb hx=>?_,I.base.free,λb o e hx=>?_,I.base.tups,I.base.frzs,I.base.tbls⟩,⟨_,hn',λj y v' e1 e2 e3=>?_⟩,λy c e=>?_,I.free,I.freeC,λp hp=>?_,tracked ⟨oL,hoL,I.free⟩ hs,by simpa using I.len⟩ ⟨_,hs,.inl rfl⟩
  ·exact (hs.2 b (Φ (Nat.lt_of_lt_of_le (η e) I.ok.above))).trans (I.base.keep b o e n hb hx)
  ·obtain ⟨sl,e1⟩:=I.base.slot b o e n hb hx
   exact ⟨sl,(hs.2 b (Φ (Nat.lt_of_lt_of_le (η e) I.ok.above))).trans e1⟩
  ·obtain ⟨o',e1⟩:=I.base.there b o e hx
   exact ⟨o',(hs.2 b (Φ (Nat.lt_of_lt_of_le (η e) I.ok.above))).trans e1⟩
  ·by_cases hj:j=i
   ·subst hj
    rw [hi] at e1;cases e1
    rw [List.getElem?_set_self hiσ] at e2
    cases e2
    exact ⟨u,r,.inl ⟨hk,by simp⟩⟩
   ·rw [List.getElem?_set_ne (Ne.symm hj)] at e2
    obtain ⟨u',r',q⟩:=hl j y v' e1 e2 e3
    refine ⟨u',r',?_⟩
    rcases q with ⟨k,e⟩ | ⟨k,c,e,z⟩
    ·refine .inl ⟨k,?_⟩
     have:y≠x:=λe=>hj (oU hN e1 (e▸hi))
     simp [this,e]
    ·exact .inr ⟨k,c,e,z.sameBut hs (cne y c e)⟩
  ·obtain ⟨w',z⟩:=I.cell y c e
   exact ⟨w',z.sameBut hs (cne y c e)⟩
  ·obtain ⟨e,n,ne,nf,d⟩:=I.pin p hp
   exact ⟨(hs.2 p.1 ne).trans e,n,ne,nf,d⟩
 ·have hfn:X.fn x=true:=by
   rcases hf with z | z
   ·exact z
   ·rw [z] at hk;cases hk
  obtain ⟨c,hc⟩:=I.ok.has x (.inl hk)
  obtain ⟨w',z⟩:=I.cell x c hc
  refine wpAny_storeName_cell I.ok.kind hk hc z (λh' hc' hs=>?_)
  obtain ⟨oc,hoc,hocd⟩:=id z
  refine h {s with heap:=h'} ⟨I.ok,I.os,I.bare,⟨λb o e n hb hx=>?_,λb o e n hb hx=>?_,I.base.free,λb o e hx=>?_,I.base.tups,I.base.frzs,I.base.tbls⟩,⟨m,hn.sameBut hs (Ne.symm (cne x c hc)),λj y v' e1 e2 e3=>?_⟩,λy c' e=>?_,I.free,I.freeC,λp hp=>?_,tracked ⟨oc,hoc,I.freeC x c hc⟩ hs,by simpa using I.len⟩ ⟨c,hs,.inr hc⟩
  ·exact (hs.2 b (Φ (Nat.lt_of_lt_of_le (η e) (I.ok.cab x c hfn hc)))).trans (I.base.keep b o e n hb hx)
  ·obtain ⟨sl,e1⟩:=I.base.slot b o e n hb hx
   exact ⟨sl,(hs.2 b (Φ (Nat.lt_of_lt_of_le (η e) (I.ok.cab x c hfn hc)))).trans e1⟩
  ·obtain ⟨o',e1⟩:=I.base.there b o e hx
   exact ⟨o',(hs.2 b (Φ (Nat.lt_of_lt_of_le (η e) (I.ok.cab x c hfn hc)))).trans e1⟩
  ·by_cases hj:j=i
   ·subst hj
    rw [hi] at e1;cases e1
    rw [List.getElem?_set_self hiσ] at e2
    cases e2
    exact ⟨u,r,.inr ⟨.inl hk,c,hc,hc'⟩⟩
   ·rw [List.getElem?_set_ne (Ne.symm hj)] at e2
    obtain ⟨u',r',q⟩:=hl j y v' e1 e2 e3
    refine ⟨u',r',?_⟩
    rcases q with q | ⟨k,c',e,z'⟩
    ·exact .inl q
    ·refine .inr ⟨k,c',e,z'.sameBut hs ?_⟩
     rintro rfl
     exact hj (oU hN e1 (I.ok.inj _ _ _ e hc▸hi))
  ·by_cases hcc:c'=c
   ·subst hcc;exact ⟨_,hc'⟩
   ·obtain ⟨w2,z2⟩:=I.cell y c' e
    exact ⟨w2,z2.sameBut hs hcc⟩
  ·obtain ⟨e,n,ne,nf,d⟩:=I.pin p hp
   refine ⟨(hs.2 p.1 ?_).trans e,n,ne,nf,d⟩
   intro q
   rw [q,hoc] at e
   have q':oc=p.2:=Δ e
   exact d w' (by rw [← q'];exact hocd)
theorem jW{M:Model}{A:Around}{E:Value->Shared->Prop}{i:Nat}{x:Str}{v:V}{u:Value}{Q:Unit->Shared->Prop}(I:Inv X pins σ H s)(hN:X.N.Nodup)(hi:X.N[i]?=some x)(hx:Loc X.env.scope x)(r:RelV v u)
  (h:∀s',Inv X pins (σ.set i (some v)) H s'->Q () s')(hf:X.fn x=true\/X.env.scope.names.lookup x=some .local:=by first | exact .inl rfl | exact .inr rfl | assumption):wpAny M A (storeName X.env x u) Q E s :=
 lR I hN hi hx r (λs' I' _=>h s' I') hf
theorem Inv.call'{s':Shared}{ch:List Addr}(I:Inv X pins σ H s)(ho:s'.os=s.os)(u:Un (frs X.stack) ch H H' s.heap s'.heap)(hok:HOk X.prog X.w H' s'.heap)(hg:AllBare s'.gens)
  (hch:∀b∈ch,(b∈X.ex\/X.s₀.heap.objs.size<=b)/\b≠X.env.locals/\(∀x c,X.env.cells.lookup x=some c->c≠b)/\∀p∈X.pn++pins,p.1≠b):Inv X pins σ H' s':=by
 obtain ⟨h',g',d',t',o'⟩:=s'
 have e:o'=s.os:=ho
 subst e
 exact I.call (g':=g') (t':=t') (d':=d') u hok hg hch
end
abbrev XK:=Value->Option Addr->Hp->Prop
abbrev St:=List (Option V)
abbrev VK:=V->Hp->Prop
abbrev TE:=St->Hp->VK->Prop
abbrev TT:=St->Hp->(Bool->Hp->Prop)->Prop
abbrev TA:=St->Hp->(List V->Hp->Prop)->Prop
structure Ends where
 nx:St->Hp->Prop
 rt:VK
 bk:St->Hp->Prop:=λ_ _=>False
 ct:St->Hp->Prop:=λ_ _=>False
abbrev TS:=Ends->St->Hp->Prop
def EP(X:Cx)(pins:List (Addr×Obj))(σ:St)(Q:VK)(u:Value)(s':Shared):Prop:=∃v H',Inv X pins σ H' s'/\RelV v u/\Q v H'
def TP(X:Cx)(pins:List (Addr×Obj))(σ:St)(Q:Bool->Hp->Prop)(b:Bool)(s':Shared):Prop:=∃H',Inv X pins σ H' s'/\Q b H'
def AP(X:Cx)(pins:List (Addr×Obj))(σ:St)(Q:List V->Hp->Prop)(us:List Value)(s':Shared):Prop:=∃vs H',Inv X pins σ H' s'/\Vals vs us/\Q vs H'
def SP(X:Cx)(pins:List (Addr×Obj))(D:Ends)(f:Flow)(s':Shared):Prop :=
 match f with
 | .next=>∃σ' H',Inv X pins σ' H' s'/\D.nx σ' H'
 | .brk=>∃σ' H',Inv X pins σ' H' s'/\D.bk σ' H'
 | .cont=>∃σ' H',Inv X pins σ' H' s'/\D.ct σ' H'
 | .ret u=>∃v σ' H',Inv X pins σ' H' s'/\RelV v u/\D.rt v H'
def PE(X:Cx)(e:Expr)(t:TE):Prop :=
 ∀(pins:List (Addr×Obj)) (s:Shared) (σ:St) (H:Hp) (Q:VK),Inv X pins σ H s->t σ H Q->wpAny (model X.prog X.w) X.A (eval e X.env) (EP X pins σ Q) X.xe s
def PT(X:Cx)(e:Expr)(t:TT):Prop :=
 ∀(pins:List (Addr×Obj)) (s:Shared) (σ:St) (H:Hp) (Q:Bool->Hp->Prop),Inv X pins σ H s->t σ H Q->wpAny (model X.prog X.w) X.A (isTrue e X.env (eval e X.env)) (TP X pins σ Q) X.xe s
def PW(X:Cx)(e:Expr)(t:TT):Prop :=
 ∀(whole:Sem Value) (pins:List (Addr×Obj)) (s:Shared) (σ:St) (H:Hp) (Q:Bool->Hp->Prop),Inv X pins σ H s->t σ H Q->wpAny (model X.prog X.w) X.A (isTrue e X.env whole) (TP X pins σ Q) X.xe s
theorem PW.pt{X:Cx}{e:Expr}{t:TT}(h:PW X e t):PT X e t:=h _
def PA(X:Cx)(es:List Expr)(t:TA):Prop :=
 ∀(pos:Pos) (pins:List (Addr×Obj)) (s:Shared) (σ:St) (H:Hp) (Q:List V->Hp->Prop),Inv X pins σ H s->t σ H Q->wpAny (model X.prog X.w) X.A (spliced (backTo pos (starEach es X.env))) (AP X pins σ Q) X.xe s
def PS(X:Cx)(st:Stmt)(t:TS):Prop :=
 ∀(pins:List (Addr×Obj)) (s:Shared) (σ:St) (H:Hp) (D:Ends),Inv X pins σ H s->t D σ H->wpAny (model X.prog X.w) X.A (exec st X.env) (SP X pins D) X.xe s
def PSs(X:Cx)(st:List Stmt)(t:TS):Prop :=
 ∀(pins:List (Addr×Obj)) (s:Shared) (σ:St) (H:Hp) (D:Ends),Inv X pins σ H s->t D σ H->wpAny (model X.prog X.w) X.A (execs st X.env) (SP X pins D) X.xe s
theorem thn{α:Type}{t:Sem α}{Q Q':α->Shared->Prop}{M:Model}{A:Around}{E:Value->Shared->Prop}{s:Shared}(h:wpAny M A t Q E s)(hQ:∀a s,Q a s->Q' a s):wpAny M A t Q' E s:=wpAny_mono h hQ λ_ _ x=>x
end L2
namespace L2
open PySem PySem.Spec PyProof.Rows
section
variable {X:Cx}
def pL(i:Nat):TE:=fun σ H Q=>∃v,σ[i]?=some (some v)/\Q v H
def tC(v:V):TE:=λ_ H Q=>Q v H
theorem qf{i:Nat}{x:Str}{pos:Pos}(hN:X.N[i]?=some x)(hv:Vis X.env.scope x)(hd:(x==("__debug__":Str))=false:=by decide)(hcd:(x==("__classdict__":Str))=false:=by decide):PE X (.Name x pos) (pL i):=by
 intro pins s σ H Q I h
 obtain ⟨v,e,h⟩:=h
 obtain ⟨m,hn,hl⟩:=I.loc
 obtain ⟨u,r,l⟩:=hl i x v hN e hv
 have fin:EP X pins σ Q u s:=⟨v,H,I,r,h⟩
 rcases l with ⟨hk,hm⟩ | ⟨hk,c,hc,hcell⟩
 ·exact wpAny_Name (wpAny_loadName_local I.ok.kind hk hn hm fin) hd
 ·rcases hk with hk | hk
  ·exact wpAny_Name (wpAny_loadName_cell I.ok.kind hk hc hcell fin) hd
  ·exact wpAny_Name (wpAny_loadName_free I.ok.kind hk hc hcell fin hcd) hd
theorem ao{i j pos}:PE X (.Constant (.int i) j pos) (tC (.int i)):=λ_ _ _ H _ I h=>wpAny_Constant_int ⟨.int i,H,I.tok _,⟨_,rfl⟩,h⟩
theorem oO{b j pos}:PE X (.Constant (.bool b) j pos) (tC (.bl b)):=λ_ _ _ H _ I h=>Constant_bool ⟨.bl b,H,I,rfl,h⟩
theorem eN{j pos}:PE X (.Constant .none j pos) (tC .non):=λ_ _ _ H _ I h=>Constant_none ⟨.non,H,I,rfl,h⟩
theorem aD{x j pos}:PE X (.Constant (.str x) j pos) (tC (.str x)):=λ_ _ _ H _ I h=>Calls.Constant_str ⟨.str x,H,I.tok _,⟨_,rfl⟩,h⟩
def Gl(X:Cx)(x:Str):Prop:=X.env.kindOf x=some .globalImplicit
theorem iG{E:Value->Shared->Prop}{pins:List (Addr×Obj)}{s:Shared}{σ:St}{H:Hp}{x:Str}{u:Value}{pos:Pos}{Q:Value->Shared->Prop}(I:Inv X pins σ H s)(hg:Gl X x)(hm:X.mg x=some u)(h:Q u s)
  (hd:(x==("__debug__":Str))=false:=by decide):wpAny (model X.prog X.w) X.A (eval (.Name x pos) X.env) Q E s :=
 Calls.Name_function_global I.ok.kind hg (Calls.loadGlobal_global (by rw [I.ok.glob];exact I.mod.glob.keeps I.bk) hm h) hd
theorem kO{E:Value->Shared->Prop}{pins:List (Addr×Obj)}{s:Shared}{σ:St}{H:Hp}{x:Str}{u:Value}{pos:Pos}{Q:Value->Shared->Prop}(I:Inv X pins σ H s)(hg:Gl X x)(hm:X.mg x=none)(hv:bootBuiltins x=some u)(h:Q u s)
  (hn:x≠"__name__":=by decide)(hd:(x==("__debug__":Str))=false:=by decide):wpAny (model X.prog X.w) X.A (eval (.Name x pos) X.env) Q E s:=by
 obtain ⟨mb,h1,h2⟩:=I.mod.blt
 exact Calls.Name_function_global I.ok.kind hg (Calls.loadGlobal_builtin (by rw [I.ok.glob];exact I.mod.glob.keeps I.bk) hm (by rw [I.ok.blt];exact h1.keeps I.bk) ((h2 x hn).trans hv) h) hd
theorem fL{x:Str}{v:V}{u:Value}{pos:Pos}(hg:Gl X x)(hm:X.mg x=some u)(r:RelV v u)(hd:(x==("__debug__":Str))=false:=by decide):PE X (.Name x pos) (tC v) :=
 λ_ _ _ H _ I h=>iG I hg hm ⟨v,H,I,r,h⟩ hd
theorem iz{x:Str}{v:V}{u:Value}{pos:Pos}(hg:Gl X x)(hm:X.mg x=none)(hv:bootBuiltins x=some u)(r:RelV v u)(hn:x≠"__name__":=by decide)(hd:(x==("__debug__":Str))=false:=by decide):PE X (.Name x pos) (tC v) :=
 λ_ _ _ H _ I h=>kO I hg hm hv ⟨v,H,I,r,h⟩ hn hd
variable {a b:Expr}{ta tb:TE}{pos:Pos}
def PC(X:Cx)(op:CmpOp)(a b:Expr)(t:TE):Prop :=
 ∀(pins:List (Addr×Obj)) (s:Shared) (σ:St) (H:Hp) (Q:VK),Inv X pins σ H s->t σ H Q ->
  wpAny (model X.prog X.w) X.A (eval a X.env) (λv s₁=>wpAny (model X.prog X.w) X.A (eval b X.env) (λu s₂=>wpAny (model X.prog X.w) X.A (compareOp op v u) (EP X pins σ Q) X.xe s₂) X.xe s₁) X.xe s
def tB(t:TE):TT:=fun σ H Q=>t σ H λx H1=>∃c,x=.bl c/\Q c H1
theorem jb{op:CmpOp}{t:TE}(h:PC X op a b t)(h1:behindInMarks op b=false:=by first | exact nobehind _ ζ ζ | rfl):PT X (.Compare a [op] [b] pos) (tB t):=by
 intro pins s σ H Q I hw
 refine wpAny_isTrue_Compare1 (thn (h pins s σ H _ I hw) λv s1 h1=>thn h1 λu s2 h2=>thn h2 λc s3 ⟨x,H1,I1,r1,q1⟩=>?_) h1
 obtain ⟨d,rfl,q⟩:=q1
 cases r1
 exact wpAny_truthy_bool ⟨H1,I1,q⟩
theorem cu{e:Expr}{t:TE}(h:PE X e t)(he:∀whole,isTrue e X.env whole=(do let v ← whole;standAt e.pos;holding [v] (truthy v)):=by intro _;rfl):PT X e (tB t):=by
 intro pins s σ H Q I hw
 refine isTrue_plain (thn (h pins s σ H _ I hw) λv s1 ⟨x,H1,I1,r1,q1⟩=>?_) (he _)
 obtain ⟨d,rfl,q⟩:=q1
 cases r1
 exact wpAny_truthy_bool ⟨H1,I1,q⟩
variable {tA tB':TT}{rest:List Expr}
def AD(t u:TT):TT:=fun σ H Q=>t σ H λc H1=>if c=true then u σ H1 Q else Q false H1
def tOr(t u:TT):TT:=fun σ H Q=>t σ H λc H1=>if c=true then Q true H1 else u σ H1 Q
def Bj(t:TT):TT:=fun σ H Q=>t σ H λc H1=>Q (!c) H1
theorem fJ(ha:PT X a tA):PW X (.BoolOp .And [a] pos) tA:=by
 intro wh pins s σ H Q I h
 refine isTrue_and (thn (ha pins s σ H Q I h) λc s1 e=>?_)
 cases c with
 | true=>exact isTrue_and_nil e
 | false=>exact e
theorem nB(ha:PT X a tA):PW X (.BoolOp .Or [a] pos) tA:=by
 intro wh pins s σ H Q I h
 refine isTrue_or (thn (ha pins s σ H Q I h) λc s1 e=>?_)
 cases c with
 | false=>exact isTrue_or_nil e
 | true=>exact e
theorem gz(ha:PT X a tA)(hb:PW X (.BoolOp .And (b::rest) pos) tB'):PW X (.BoolOp .And (a::b::rest) pos) (AD tA tB'):=by
 intro wh pins s σ H Q I h
 refine isTrue_and (thn (ha pins s σ H _ I h) λc s1 ⟨H1,I1,q1⟩=>?_)
 cases c with
 | true=>exact hb wh pins s1 σ H1 Q I1 q1
 | false=>exact ⟨H1,I1,q1⟩
theorem rB(ha:PT X a tA)(hb:PW X (.BoolOp .Or (b::rest) pos) tB'):PW X (.BoolOp .Or (a::b::rest) pos) (tOr tA tB'):=by
 intro wh pins s σ H Q I h
 refine isTrue_or (thn (ha pins s σ H _ I h) λc s1 ⟨H1,I1,q1⟩=>?_)
 cases c with
 | true=>exact ⟨H1,I1,q1⟩
 | false=>exact hb wh pins s1 σ H1 Q I1 q1
theorem ja(ha:PT X a tA):PT X (.UnaryOp .Not a pos) (Bj tA):=by
 intro pins s σ H Q I h
 exact isTrue_not (ha pins s σ H (λc H1=>Q (!c) H1) I h)
def AC(ta tb:TE):TE:=fun σ H Q=>ta σ H λx H1=>∃c,x=.bl c/\if c=true then tb σ H1 Q else Q (.bl false) H1
def Bi(ta tb:TE):TE:=fun σ H Q=>ta σ H λx H1=>∃c,x=.bl c/\if c=true then Q (.bl true) H1 else tb σ H1 Q
def As(ta:TE):TE:=fun σ H Q=>ta σ H λx H1=>∃c,x=.bl c/\Q (.bl (!c)) H1
theorem eM{op}{t:TE}(h:PE X a t):PE X (.BoolOp op [a] pos) t:=λpins s σ H Q I hw=>BoolOp_one (h pins s σ H Q I hw)
theorem fM(ha:PE X a ta)(hb:PE X (.BoolOp .And (b::rest) pos) tb):PE X (.BoolOp .And (a::b::rest) pos) (AC ta tb):=by
 intro pins s σ H Q I h
 refine BoolOp_and (thn (ha pins s σ H _ I h) λv s1 ⟨x,H1,I1,r1,q1⟩=>?_)
 obtain ⟨c,rfl,q1⟩:=q1
 cases r1
 refine wpAny_truthy_bool ?_
 cases c with
 | true=>exact hb pins s1 σ H1 Q I1 q1
 | false=>exact ⟨.bl false,H1,I1,rfl,q1⟩
theorem yA(ha:PE X a ta)(hb:PE X (.BoolOp .Or (b::rest) pos) tb):PE X (.BoolOp .Or (a::b::rest) pos) (Bi ta tb):=by
 intro pins s σ H Q I h
 refine BoolOp_or (thn (ha pins s σ H _ I h) λv s1 ⟨x,H1,I1,r1,q1⟩=>?_)
 obtain ⟨c,rfl,q1⟩:=q1
 cases r1
 refine wpAny_truthy_bool ?_
 cases c with
 | false=>exact hb pins s1 σ H1 Q I1 q1
 | true=>exact ⟨.bl true,H1,I1,rfl,q1⟩
theorem uP(ha:PE X a ta):PE X (.UnaryOp .Not a pos) (As ta):=by
 intro pins s σ H Q I h
 refine UnaryOp_ (thn (ha pins s σ H _ I h) λv s1 ⟨x,H1,I1,r1,q1⟩=>?_)
 obtain ⟨c,rfl,q1⟩:=q1
 cases r1
 exact not_of (wpAny_truthy_bool ⟨.bl (!c),H1,I1,rfl,q1⟩)
def tIf(t:TT)(ta tb:TE):TE:=fun σ H Q=>t σ H λc H1=>if c=true then ta σ H1 Q else tb σ H1 Q
theorem oM{c:Expr}(hc:PT X c tA)(ha:PE X a ta)(hb:PE X b tb):PE X (.IfExp c a b pos) (tIf tA ta tb):=by
 intro pins s σ H Q I h
 refine wpAny_IfExp (thn (hc pins s σ H _ I h) λd s1 ⟨H1,I1,q1⟩=>?_)
 cases d with
 | true=>exact ha pins s1 σ H1 Q I1 q1
 | false=>exact hb pins s1 σ H1 Q I1 q1
end
end L2
namespace L2
open PySem PySem.Spec PyProof.Rows
def SqL(K:Frag)(H:Hp)(a:Addr)(xs:List V):Prop :=
 Rd H a (.lst xs) \/
  ∃(o:Obj) (its:Array Value) (n:Nat),K.lookup a=some o/\o.cls=.type "list"/\o.dict=none/\o.data=.seq its n/\its.size<=sizeLine/\Vals xs its.toList
def SqT(K:Frag)(H:Hp)(a:Addr)(xs:List V):Prop :=
 Rd H a (.tup xs) \/
  ∃(o:Obj) (its:Array Value) (n:Nat),K.lookup a=some o/\o.cls=.type "tuple"/\o.data=.seq its n/\its.size<=sizeLine/\Vals xs its.toList
def Bz:Value->Option V
 | .none=>some .non
 | .bool b=>some (.bl b)
 | .int i _=>some (.int i)
 | .str x _=>some (.str x)
 | .bytes b _=>some (.byt b)
 | .float b _=>some (.flt b)
 | .ref a=>some (.ref a)
 | .type n=>some (.ty n)
 | _=>none
theorem RelV.abs{x:V}{u:Value}(r:RelV x u):Bz u=some x:=by
 cases x with
 | non=>cases r;rfl
 | bl _=>cases r;rfl
 | int _=>obtain ⟨t,rfl⟩:=r;rfl
 | str _=>obtain ⟨t,rfl⟩:=r;rfl
 | byt _=>obtain ⟨t,rfl⟩:=r;rfl
 | flt _=>obtain ⟨t,rfl⟩:=r;rfl
 | ref _=>cases r;rfl
 | ty _=>cases r;rfl
theorem RelV.inj{x y:V}{u:Value}(r:RelV x u)(q:RelV y u):x=y:=Δ (r.abs.symm.trans q.abs)
theorem Vals.inj:∀{xs ys:List V} {us:List Value},Vals xs us->Vals ys us->xs=ys
 | _,_,_,.nil,.nil=>rfl
 | _,_,_,.cons r t,.cons r' t'=>by rw [r.inj r',Vals.inj t t']
section
variable {X:Cx}{pins:List (Addr×Obj)}{σ:St}{H:Hp}{s:Shared}{a:Addr}{xs ys:List V}
theorem SqL.of{K:Frag}(h:H a=some (.lst xs)):SqL K H a xs:=.inl (.inl h)
theorem SqT.of{K:Frag}(h:H a=some (.tup xs)):SqT K H a xs:=.inl (.inl h)
theorem Inv.list(I:Inv X pins σ H s)(h:SqL X.K H a xs):∃its:List Value,Vals xs its/\PlainL s.heap a its.toArray/\xs.length<=sizeLine:=by
 rcases h with h | ⟨o,its,n,hk,hc,hd,hs,hz,r⟩
 ·obtain ⟨z,its,n,r,e⟩:=h.ok I.hok
  exact ⟨its,r,⟨_,n,e,rfl,rfl,rfl⟩,z⟩
 ·refine ⟨its.toList,r,⟨o,n,I.kIn a o hk,hc,hd,by simpa using hs⟩,?_⟩
  have e:=r.length
  simp only [Array.length_toList] at e
  omega
theorem Inv.tuple(I:Inv X pins σ H s)(h:SqT X.K H a xs):∃its:List Value,Vals xs its/\IsTup s.heap a its.toArray/\xs.length<=sizeLine:=by
 rcases h with h | ⟨o,its,n,hk,hc,hs,hz,r⟩
 ·obtain ⟨z,its,r,p⟩:=h.ok I.hok
  exact ⟨its,r,p,z⟩
 ·refine ⟨its.toList,r,⟨o,I.kIn a o hk,hc,n,by simpa using hs⟩,?_⟩
  have e:=r.length
  simp only [Array.length_toList] at e
  omega
theorem Inv.list_inj(I:Inv X pins σ H s)(h:SqL X.K H a xs)(h':SqL X.K H a ys):xs=ys:=by
 obtain ⟨its,r,⟨o,n,e,_,_,d⟩,_⟩:=I.list h
 obtain ⟨its',r',⟨o',n',e',_,_,d'⟩,_⟩:=I.list h'
 rw [e] at e';cases e'
 rw [d] at d'
 injection d' with d1 _
 have:its=its':=by simpa using congrArg Array.toList d1
 subst this
 exact r.inj r'
theorem Inv.tuple_inj(I:Inv X pins σ H s)(h:SqT X.K H a xs)(h':SqT X.K H a ys):xs=ys:=by
 obtain ⟨its,r,⟨o,e,_,n,d⟩,_⟩:=I.tuple h
 obtain ⟨its',r',⟨o',e',_,n',d'⟩,_⟩:=I.tuple h'
 rw [e] at e';cases e'
 rw [d] at d'
 injection d' with d1 _
 have:its=its':=by simpa using congrArg Array.toList d1
 subst this
 exact r.inj r'
end
abbrev Cx.wish(X:Cx)(E:Value->Shared->Prop):Cx:={X with xe:=E}
abbrev Cx.nox(X:Cx):Cx:=X.wish λ_ _=>False
theorem Cx.Ok.wish{X:Cx}(ok:X.Ok)(E:Value->Shared->Prop):(X.wish E).Ok :=
 ⟨ok.mod,ok.kind,ok.glob,ok.blt,ok.above,ok.inj,ok.has,ok.cab,ok.hd,ok.frames,ok.stk,ok.exf,ok.bs,ok.bsz,ok.noex,ok.exfs,ok.funs,ok.frf⟩
theorem Cx.Ok.unwish{X:Cx}{E:Value->Shared->Prop}(ok:(X.wish E).Ok):X.Ok :=
 ⟨ok.mod,ok.kind,ok.glob,ok.blt,ok.above,ok.inj,ok.has,ok.cab,ok.hd,ok.frames,ok.stk,ok.exf,ok.bs,ok.bsz,ok.noex,ok.exfs,ok.funs,ok.frf⟩
section
variable {X:Cx}{pins:List (Addr×Obj)}{σ:St}{H:Hp}{s:Shared}{E:Value->Shared->Prop}
theorem Inv.wish(I:Inv X pins σ H s)(E:Value->Shared->Prop):Inv (X.wish E) pins σ H s:=⟨I.ok.wish E,I.os,I.bare,I.base,I.loc,I.cell,I.free,I.freeC,I.pin,I.hok,I.len⟩
theorem Inv.unwish(I:Inv (X.wish E) pins σ H s):Inv X pins σ H s:=⟨I.ok.unwish,I.os,I.bare,I.base,I.loc,I.cell,I.free,I.freeC,I.pin,I.hok,I.len⟩
theorem SP.unwish{D:Ends}{f:Flow}{s':Shared}(h:SP (X.wish E) pins D f s'):SP X pins D f s':=by
 cases f with
 | next=>obtain ⟨σ',H',I,q⟩:=h;exact ⟨σ',H',I.unwish,q⟩
 | brk=>obtain ⟨σ',H',I,q⟩:=h;exact ⟨σ',H',I.unwish,q⟩
 | cont=>obtain ⟨σ',H',I,q⟩:=h;exact ⟨σ',H',I.unwish,q⟩
 | ret u=>obtain ⟨v,σ',H',I,r,q⟩:=h;exact ⟨v,σ',H',I.unwish,r,q⟩
theorem PSs.nox{st:List Stmt}{t:TS}(h:PSs X.nox st t):PSs X st t:=λpins s σ H D I hw =>
 wpAny_mono (h pins s σ H D (I.wish _) hw) (λ_ _ q=>q.unwish) λ_ _ z=>False.elim z
end
section
variable {X:Cx}{st:Stmt}{rest:List Stmt}{t u:TS}{e:Expr}{te:TE}{pos:Pos}
def Au:TS:=λD σ H=>D.nx σ H
def Bf(t u:TS):TS:=λD σ H=>t {D with nx:=u D} σ H
theorem aC:PSs X [] Au:=λ_ _ σ H _ I h=>wpAny_execs_nil ⟨σ,H,I,h⟩
theorem af(h1:PS X st t)(h2:PSs X rest u):PSs X (st::rest) (Bf t u):=by
 intro pins s σ H D I h
 refine wpAny_execs_cons (thn (h1 pins s σ H {D with nx:=u D} I h) λf s1 q=>?_)
 cases f with
 | next =>
  obtain ⟨σ',H',I',q⟩:=q
  exact h2 pins s1 σ' H' D I' q
 | ret v=>exact q
 | brk=>exact q
 | cont=>exact q
theorem aj(h1:PS X st t):PSs X [st] t:=by
 intro pins s σ H D I h
 refine wpAny_execs_cons (thn (h1 pins s σ H D I h) λf s1 q=>?_)
 cases f with
 | next=>exact wpAny_execs_nil q
 | ret v=>exact q
 | brk=>exact q
 | cont=>exact q
theorem Inv.quiet{pins:List (Addr×Obj)}{σ:St}{H:Hp}{s:Shared}(I:Inv X pins σ H s):interactive X.env=false:=by simp [interactive,I.ok.kind]
def Ax(te:TE):TS:=λD σ H=>te σ H λ_ H1=>D.nx σ H1
theorem bw(he:PE X e te)(hs:swapsWith e none pos.line X.env=pure false:=by rfl):PS X (.Expr e pos) (Ax te):=by
 intro pins s σ H D I h
 exact wpAny_Expr_any (thn (he pins s σ H _ I h) λv s1 ⟨x,H1,I1,r1,q1⟩=>⟨σ,H1,I1,q1⟩) I.quiet hs
def Bg(te:TE):TS:=λD σ H=>te σ H D.rt
theorem ax(he:PE X e te):PS X (.Return (some e) pos) (Bg te):=by
 intro pins s σ H D I h
 exact wpAny_Return_some (thn (he pins s σ H _ I h) λv s1 ⟨x,H1,I1,r1,q1⟩=>⟨x,σ,H1,I1,r1,q1⟩)
def Bl(c:TT)(t u:TS):TS:=λD σ H=>c σ H λb H1=>if b=true then t D σ H1 else u D σ H1
theorem aI{c:Expr}{a b:List Stmt}{tc:TT}(hc:PT X c tc)(ha:PSs X a t)(hb:PSs X b u):PS X (.If c a b pos) (Bl tc t u):=by
 intro pins s σ H D I h
 refine wpAny_If (thn (hc pins s σ H _ I h) λd s1 ⟨H1,I1,q1⟩=>?_)
 cases d with
 | true=>exact ha pins s1 σ H1 D I1 q1
 | false=>exact hb pins s1 σ H1 D I1 q1
def yO:TS:=λ_ _ _=>False
theorem aJ{sts:List Stmt}:PSs X sts yO:=λ_ _ _ _ _ _ h=>h.elim
end
abbrev TG:=V->St->Hp->(St->Hp->Prop)->Prop
def PG(X:Cx)(target:Expr)(t:TG):Prop :=
 ∀(pins:List (Addr×Obj)) (s:Shared) (σ:St) (H:Hp) (v:V) (u:Value) (Q:St->Hp->Prop),Inv X pins σ H s->RelV v u->t v σ H Q ->
  wpAny (model X.prog X.w) X.A (assign target X.env u) (λ_ s'=>∃σ' H',Inv X pins σ' H' s'/\Q σ' H') X.xe s
abbrev Ag:=V->V->V->Hp->(Hp->Prop)->Prop
def Bb(X:Cx)(t:Ag):Prop :=
 ∀(pins:List (Addr×Obj)) (s:Shared) (σ:St) (H:Hp) (o i v:V) (ov iv u:Value) (Q:Hp->Prop),Inv X pins σ H s->RelV o ov->RelV i iv->RelV v u->t o i v H Q ->
  wpAny (model X.prog X.w) X.A (setItem ov iv u) (λ_ s'=>∃H',Inv X pins σ H' s'/\Q H') X.xe s
section
variable {X:Cx}{pos:Pos}
def v4(i:Nat):TG:=λv σ H Q=>Q (σ.set i (some v)) H
theorem fK{i:Nat}{x:Str}(hN:X.N.Nodup)(hi:X.N[i]?=some x)(hx:Loc X.env.scope x)(hf:X.fn x=true\/X.env.scope.names.lookup x=some .local:=by first | exact .inl rfl | exact .inr rfl | assumption):PG X (.Name x pos) (v4 i):=by
 intro pins s σ H v u Q I r h
 exact wpAny_assign_Name (jW I hN hi hx r (λs' I'=>⟨_,H,I',h⟩) hf)
def Bw(to ti:TE)(t:Ag):TG:=λv σ H Q=>to σ H λo H1=>ti σ H1 λi H2=>t o i v H2 λH3=>Q σ H3
theorem qe{o i:Expr}{to ti:TE}{t:Ag}(ho:PE X o to)(hi:PE X i ti)(hs:Bb X t)
  (ha:∀v,assign (.Subscript o i pos) X.env v=(do
   let ov ← holding [v] (eval o X.env)
   let iv ← holding [v,ov] (eval i X.env)
   standAt pos
   holding [v,ov,iv] (setItem ov iv v)
   release [v,ov,iv] []):=by intro _;rfl):PG X (.Subscript o i pos) (Bw to ti t):=by
 intro pins s σ H v u Q I r h
 rw [ha]
 refine ε (wpAny_holding (thn (ho pins s σ H _ I h) λov s1 ⟨x,H1,I1,r1,q1⟩=>?_))
 refine ε (wpAny_holding (thn (hi pins s1 σ H1 _ I1 q1) λiv s2 ⟨y,H2,I2,r2,q2⟩=>?_))
 refine ε (wpAny_standAt (ε (wpAny_holding (thn (hs pins s2 σ H2 x y v ov iv u _ I2 r1 r2 r q2) λ_ s3 ⟨H3,I3,q3⟩=>?_))))
 exact wpAny_release ⟨σ,H3,I3,q3⟩
def yX(te:TE)(g:TG):TS:=λD σ H=>te σ H λx H1=>g x σ H1 D.nx
theorem qd{tg e:Expr}{te:TE}{g:TG}(he:PE X e te)(hg:PG X tg g)(hs:swapsWithSole [tg] e pos.line X.env=pure false:=by rfl)(hw:swappedStores [tg] e X.env=pure none:=by rfl)
  (h1:(assignEach [tg] X.env).map (·.2)=[assign tg X.env]:=by rfl):PS X (.Assign [tg] e pos) (yX te g):=by
 intro pins s σ H D I h
 refine wpAny_Assign_stores (thn (he pins s σ H _ I h) λv s1 ⟨x,H1,I1,r1,q1⟩=>?_) hs hw
 rw [h1]
 exact thn (hg pins s1 σ H1 x v _ I1 r1 q1) λ_ s2 q=>q
theorem aH{i:Nat}{x:Str}{e:Expr}{te:TE}{pos':Pos}(hN:X.N.Nodup)(hi:X.N[i]?=some x)(hx:Loc X.env.scope x)(he:PE X e te)(hs:swapsWith e (some (.Name x pos')) pos.line X.env=pure false:=by rfl)(hf:X.fn x=true\/X.env.scope.names.lookup x=some .local:=by first | exact .inl rfl | exact .inr rfl | assumption) :
  PS X (.Assign [.Name x pos'] e pos) (yX te (v4 i)):=by
 intro pins s σ H D I h
 refine wpAny_Assign_Name (thn (he pins s σ H _ I h) λv s1 ⟨y,H1,I1,r1,q1⟩=>?_) hs
 exact jW I1 hN hi hx r1 (λs2 I2=>⟨_,H1,I2,q1⟩) hf
end
section
variable {X:Cx}{pos:Pos}
def yN(c:TT)(tb:TS):TS:=λD σ H=>∃W:Nat->St->Hp->Prop,(∃m,W m σ H)/\∀m σ H,W m σ H ->
 c σ H λb H1=>if b=true then ∃N:St->Hp->Prop,(∀σ' H',N σ' H'->∃m',m'<m/\W m' σ' H')/\tb {D with nx:=N,ct:=N,bk:=D.nx} σ H1 else D.nx σ H1
theorem uM{c:Expr}{body:List Stmt}{tc:TT}{tb:TS}(hp:PassesOwn (model X.prog X.w) X.A X.env X.xe)(hc:PT X c tc)(hb:PSs X body tb):PS X (.While c body [] pos) (yN tc tb):=by
 intro pins s σ H D I h
 obtain ⟨W,⟨m0,w0⟩,turn⟩:=h
 refine wpAny_While (codeAny_whileLoop (λn s'=>∃σ' H',Inv X pins σ' H' s'/\W n σ' H') ?_ m0 ⟨σ,H,I,w0⟩)
 rintro n s1 ⟨σ1,H1,I1,w1⟩
 refine wpAny_passesOwn hp (thn (hc pins s1 σ1 H1 _ I1 (turn n σ1 H1 w1)) λb s2 ⟨H2,I2,q2⟩=>?_)
 cases b with
 | true =>
  obtain ⟨N,hN,q2⟩:=q2
  rw [if_pos rfl]
  refine wpAny_passesOwn hp (thn (hb pins s2 σ1 H2 _ I2 q2) λf s3 q3=>?_)
  cases f with
  | next =>
   obtain ⟨σ3,H3,I3,n3⟩:=q3
   obtain ⟨m',hm,w3⟩:=hN σ3 H3 n3
   exact ⟨m',hm,σ3,H3,I3,w3⟩
  | cont =>
   obtain ⟨σ3,H3,I3,n3⟩:=q3
   obtain ⟨m',hm,w3⟩:=hN σ3 H3 n3
   exact ⟨m',hm,σ3,H3,I3,w3⟩
  | brk=>exact q3
  | ret v=>exact q3
 | false =>
  rw [if_neg Bool.false_ne_true]
  exact wpAny_execs_nil ⟨σ1,H2,I2,q2⟩
end
structure It where
 go:Nat->Hp->Prop
 yld:Nat->Hp->V->Hp->Prop
 stop:Nat->Hp->Prop
def om(X:Cx)(pins:List (Addr×Obj))(H:Hp)(b:Addr):Prop :=
 H b=none/\b≠X.env.locals/\b∉X.fs/\(b∈X.ex\/X.s₀.heap.objs.size<=b)/\(∀x c,X.env.cells.lookup x=some c->c≠b)/\∀p∈X.pn++pins,p.1≠b
theorem Inv.fpOk{X:Cx}{pins:List (Addr×Obj)}{σ:St}{H H':Hp}{s:Shared}{b:Addr}(I:Inv X pins σ H s)(hb:s.heap.objs.size<=b)(hn:H' b=none):om X pins H' b:=by
 refine ⟨hn,Nat.ne_of_gt (Nat.lt_of_lt_of_le I.lt hb),I.nofs hb,.inr (Λ I.sz hb),λx c e z=>?_,λp hp z=>?_⟩
 ·obtain ⟨v,q⟩:=I.cell x c e
  exact absurd (Nat.lt_of_lt_of_le q.lt (by rw [z];exact hb)) (Nat.lt_irrefl _)
 ·exact absurd (Nat.lt_of_lt_of_le (η (I.pin p hp).1) (by rw [z];exact hb)) (Nat.lt_irrefl _)
structure qL(P:Program)(w:World)(K:Frag)(tg:Expr)(J:It)(fp:List Addr)(it:Addr)(tn:Nat->Heap->Prop):Prop where
 mem:it∈fp
 obj:∀i h,tn i h->∀b∈fp,∃o,h.get? b=some o/\∀v,o.data≠.cell v
 keep:∀i h h',tn i h->(∀b∈fp,∀o,h.get? b=some o->h'.get? b=some o)->tn i h'
 item:∀(X:Cx),X.prog=P->X.w=w->X.K=K->X.calm=true->∀(i:Nat) (pins:List (Addr×Obj)) (s:Shared) (σ:St) (H:Hp) (E:Value->Shared->Prop),Inv X pins σ H s->(∀b∈fp,om X pins H b)->tn i s.heap->J.go i H ->
  wpAny (model P w) X.A (pyNext (.ref it)) (λr s1=>∃u,r=some u /\
   wpAny (model P w) X.A (letOwnedTupleGo tg (.ref it) u) (λ_ s2=>∃x H',Inv X pins σ H' s2/\RelV x u/\J.yld i H x H'/\tn (i+1) s2.heap/\∀b∈fp,H' b=none) E s1) E s
 done:∀(X:Cx),X.prog=P->X.w=w->X.K=K->X.calm=true->∀(i:Nat) (pins:List (Addr×Obj)) (s:Shared) (σ:St) (H:Hp) (E:Value->Shared->Prop),Inv X pins σ H s->(∀b∈fp,om X pins H b)->tn i s.heap->J.stop i H ->
  wpAny (model P w) X.A (pyNext (.ref it)) (λr s1=>r=none/\Inv X pins σ H s1) E s
 self:∀(A:Around) (i:Nat) (s:Shared) (Q:Value->Shared->Prop) (E:Value->Shared->Prop),tn i s.heap->Q (.ref it) s->wpAny (model P w) A (pyIter (.ref it)) Q E s
abbrev TI:=St->Hp->(It->Hp->Prop)->Prop
def PIE(X:Cx)(pins:List (Addr×Obj))(σ:St)(tg:Expr)(R:It->Hp->Prop)(itv:Value)(s2:Shared):Prop :=
 ∃(it:Addr) (fp:List Addr) (tn:Nat->Heap->Prop) (J:It) (H':Hp),itv=.ref it/\Inv X pins σ H' s2/\qL X.prog X.w X.K tg J fp it tn/\tn 0 s2.heap/\(∀b∈fp,om X pins H' b)/\R J H'
def PI(X:Cx)(tg iter:Expr)(wi:TI):Prop :=
 ∀(pins:List (Addr×Obj)) (s:Shared) (σ:St) (H:Hp) (R:It->Hp->Prop),Inv X pins σ H s->wi σ H R ->
  wpAny (model X.prog X.w) X.A (eval iter X.env) (λv s1=>wpAny (model X.prog X.w) X.A (pyIter v) (PIE X pins σ tg R) X.xe s1) X.xe s
theorem mj{M:Model}{A:Around}{E:Value->Shared->Prop}{s:Shared}{tg:Expr}{it:Addr}{u:Value}{o:Obj}{n:String}{vs:Array Value}{Q:Unit->Shared->Prop}(ho:s.heap.get? it=some o)(hc:o.cls=.type n)(hd:o.data=.fields vs)
  (hn:["enumerate","zip","dict_itemiterator","dict_reverseitemiterator","odict_iterator","itertools.zip_longest","itertools.pairwise"].contains n=false)(hQ:Q () s):wpAny M A (letOwnedTupleGo tg (.ref it) u) Q E s:=by
 unfold letOwnedTupleGo
 cases tg<;>first
  | exact π hQ
  | (cases u<;>first
    | exact π hQ
    | (refine ε (wpAny_load ho ?_)
       rw [hc,hd]
       show wpAny M A (if (["enumerate","zip","dict_itemiterator","dict_reverseitemiterator","odict_iterator","itertools.zip_longest","itertools.pairwise"].contains n&&vs[0]?==some (rawInt _))=true then _ else _) Q E s
       rw [if_neg (by intro h;rw [hn,Bool.false_and] at h;cases h)]
       exact π hQ))
def Itl(K:Frag)(a:Addr):It :=
 ⟨λi H=>∃xs x,SqL K H a xs/\xs[i]?=some x,λi H x H'=>H'=H/\∀xs,SqL K H a xs->xs[i]?=some x,λi H=>∃xs,SqL K H a xs/\xs.length<=i⟩
def Itt(K:Frag)(a:Addr):It :=
 ⟨λi H=>∃xs x,SqT K H a xs/\xs[i]?=some x,λi H x H'=>H'=H/\∀xs,SqT K H a xs->xs[i]?=some x,λi H=>∃xs,SqT K H a xs/\xs.length<=i⟩
def Itr(lo:Int)(n:Nat):It:=⟨λi _=>i<n,λi H x H'=>H'=H/\x=.int (lo+i),λi _=>n<=i⟩
theorem sj{P:Program}{w:World}{K:Frag}{tg:Expr}(a it:Addr):qL P w K tg (Itl K a) [it] it (λi h=>h.IsListIter it a i) where
 mem:=by simp
 obj:=λi h st b hb=>by
  have e:b=it:=by simpa using hb
  subst e
  obtain ⟨o,e,c,d⟩:=st
  exact ⟨o,e,λv z=>by rw [d] at z;cases z⟩
 keep:=λi h h' st k=>st.at λo e=>k it (by simp) o e
 item:=by
  intro X hP hw hK hc i pins s σ H E I hf st hg
  subst hP hw hK
  obtain ⟨xs,x,hq,hx⟩:=hg
  obtain ⟨its,rv,p,hz⟩:=I.list hq
  obtain ⟨u,hu,ru⟩:=rv.get hx
  obtain ⟨f0,f1,f2,f3,f4,f5⟩:=hf it (by simp)
  refine wpAny_pyNext_list_item st p.isList (x:=u) (by simpa using hu) λh' st' sb=>?_
  have I1:Inv X pins σ H {s with heap:=h'}:=I.turned (t':=s.toks) (λb o hb e=>(sb.2 b hb).trans e) f0 f1 f3 f4 f5
  obtain ⟨o,e,c,d⟩:=id st'
  exact ⟨u,rfl,mj (s:={s with heap:=h'}) e c d ζ ⟨x,H,I1,ru,⟨rfl,λys hy=>by rw [I.list_inj hy hq];exact hx⟩,st',λb hb=>(hf b hb).1⟩⟩
 done:=by
  intro X hP hw hK hc i pins s σ H E I hf st hg
  subst hP hw hK
  obtain ⟨xs,hq,hx⟩:=hg
  obtain ⟨its,rv,p,hz⟩:=I.list hq
  obtain ⟨f0,f1,f2,f3,f4,f5⟩:=hf it (by simp)
  have hl:=rv.length
  exact wpAny_pyNext_list_end (I.ok.hd hc) st p.isList (by simp;omega) λh' eb=>⟨rfl,I.turned (t':=s.toks) (λb o hb e=>eb b o hb e) f0 f1 f3 f4 f5⟩
 self:=λ_ _ _ _ _ st h=>wpAny_pyIter_listiter st h
theorem pJ{P:Program}{w:World}{K:Frag}{tg:Expr}(a it:Addr):qL P w K tg (Itt K a) [it] it (λi h=>h.IsTupleIter it a i) where
 mem:=by simp
 obj:=λi h st b hb=>by
  have e:b=it:=by simpa using hb
  subst e
  obtain ⟨o,e,c,d⟩:=st
  exact ⟨o,e,λv z=>by rw [d] at z;cases z⟩
 keep:=λi h h' st k=>st.at λo e=>k it (by simp) o e
 item:=by
  intro X hP hw hK hc i pins s σ H E I hf st hg
  subst hP hw hK
  obtain ⟨xs,x,hq,hx⟩:=hg
  obtain ⟨its,rv,p,hz⟩:=I.tuple hq
  obtain ⟨u,hu,ru⟩:=rv.get hx
  obtain ⟨f0,f1,f2,f3,f4,f5⟩:=hf it (by simp)
  refine wpAny_pyNext_tuple_item st (show s.heap.IsTuple a its.toArray from p) (x:=u) (by simpa using hu) λh' st' sb=>?_
  have I1:Inv X pins σ H {s with heap:=h'}:=I.turned (t':=s.toks) (λb o hb e=>(sb.2 b hb).trans e) f0 f1 f3 f4 f5
  obtain ⟨o,e,c,d⟩:=id st'
  exact ⟨u,rfl,mj (s:={s with heap:=h'}) e c d ζ ⟨x,H,I1,ru,⟨rfl,λys hy=>by rw [I.tuple_inj hy hq];exact hx⟩,st',λb hb=>(hf b hb).1⟩⟩
 done:=by
  intro X hP hw hK hc i pins s σ H E I hf st hg
  subst hP hw hK
  obtain ⟨xs,hq,hx⟩:=hg
  obtain ⟨its,rv,p,hz⟩:=I.tuple hq
  obtain ⟨f0,f1,f2,f3,f4,f5⟩:=hf it (by simp)
  have hl:=rv.length
  exact wpAny_pyNext_tuple_end (I.ok.hd hc) st (show s.heap.IsTuple a its.toArray from p) (by simp;omega) λh' eb=>⟨rfl,I.turned (t':=s.toks) (λb o hb e=>eb b o hb e) f0 f1 f3 f4 f5⟩
 self:=λ_ _ _ _ _ st h=>wpAny_pyIter_tupleiter st h
theorem jU{P:Program}{w:World}{K:Frag}{tg:Expr}(it:Addr)(lo:Int)(n:Nat):qL P w K tg (Itr lo n) [it] it (λi h=>IsRangeIter h it (lo+(i:Nat)*1) ((n:Int)-(i:Nat)) 1) where
 mem:=by simp
 obj:=λi h st b hb=>by
  have e:b=it:=by simpa using hb
  subst e
  exact ⟨_,st,λv z=>by
   have z':Data.fields _=Data.cell v:=z
   cases z'⟩
 keep:=λi h h' st k=>k it (by simp) _ st
 item:=by
  intro X hP hw hK hc i pins s σ H E I hf st hg
  subst hP hw hK
  obtain ⟨f0,f1,f2,f3,f4,f5⟩:=hf it (by simp)
  have W:=Walks.range (prog:=X.prog) (w:=X.w) (I.ok.hd hc) it lo 1 n
  refine W.item i s _ _ hg st λv h' tk hv st' kk=>?_
  obtain ⟨t,rfl⟩:=hv
  have I1:Inv X pins σ H {s with heap:=h',toks:=tk}:=I.turned (λb o hb e=>kk b o (by simpa using hb) e) f0 f1 f3 f4 f5
  refine ⟨_,rfl,mj (s:={s with heap:=h',toks:=tk}) (n:="range_iterator") st' rfl rfl ζ ⟨.int (lo+i),H,I1,⟨t,?_⟩,⟨rfl,rfl⟩,st',λb hb=>(hf b hb).1⟩⟩
  rw [Int.mul_one]
 done:=by
  intro X hP hw hK hc i pins s σ H E I hf st hg
  subst hP hw hK
  obtain ⟨f0,f1,f2,f3,f4,f5⟩:=hf it (by simp)
  exact wpAny_pyNext_range_end (I.ok.hd hc) st (by have:n<=i:=hg;omega) λh' eb=>⟨rfl,I.turned (t':=s.toks) (λb o hb e=>eb b o hb e) f0 f1 f3 f4 f5⟩
 self:=λ_ _ _ _ _ st h=>wpAny_pyIter_rangeiter st h
end L2
namespace L2
open PySem PySem.Spec PyProof.Rows
section
variable {X:Cx}{tg:Expr}
def A6(K:Frag)(tl:TE):TI:=fun σ H R=>tl σ H λx H1=>∃a,x=.ref a/\(∃xs,SqL K H1 a xs)/\R (Itl K a) H1
def Bt(K:Frag)(tl:TE):TI:=fun σ H R=>tl σ H λx H1=>∃a,x=.ref a/\(∃xs,SqT K H1 a xs)/\R (Itt K a) H1
theorem gM{l:Expr}{tl:TE}(hl:PE X l tl):PI X tg l (A6 X.K tl):=by
 intro pins s σ H R I h
 refine thn (hl pins s σ H _ I h) λv s1 ⟨x,H1,I1,r1,q1⟩=>?_
 obtain ⟨a,e,⟨xs,hq⟩,q⟩:=q1
 subst e
 cases r1
 obtain ⟨its,rv,p,hz⟩:=I1.list hq
 refine wpAny_pyIter_list p.isList ?_
 refine ⟨s1.heap.objs.size,[s1.heap.objs.size],_,_,H1,rfl,I1.kept (t':=s1.toks) λb o e=>ρ _ e,sj a _,⟨_,ψ _ rfl,rfl,rfl⟩,λb hb=>?_,q⟩
 have e:b=s1.heap.objs.size:=by simpa using hb
 subst e
 exact I1.fpOk (ι _) (I1.hok.fresh (ι _))
theorem zm{l:Expr}{tl:TE}(hl:PE X l tl):PI X tg l (Bt X.K tl):=by
 intro pins s σ H R I h
 refine thn (hl pins s σ H _ I h) λv s1 ⟨x,H1,I1,r1,q1⟩=>?_
 obtain ⟨a,e,⟨xs,hq⟩,q⟩:=q1
 subst e
 cases r1
 obtain ⟨its,rv,p,hz⟩:=I1.tuple hq
 refine wpAny_pyIter_tuple (show s1.heap.IsTuple a its.toArray from p) ?_
 refine ⟨s1.heap.objs.size,[s1.heap.objs.size],_,_,H1,rfl,I1.kept (t':=s1.toks) λb o e=>ρ _ e,pJ a _,⟨_,ψ _ rfl,rfl,rfl⟩,λb hb=>?_,q⟩
 have e:b=s1.heap.objs.size:=by simpa using hb
 subst e
 exact I1.fpOk (ι _) (I1.hok.fresh (ι _))
theorem uK{pins:List (Addr×Obj)}{σ:St}{H:Hp}{s:Shared}{R:It->Hp->Prop}{E:Value->Shared->Prop}{lo hi:Int}{t u v:Tok}{tk:Nat}(I:Inv X pins σ H s)(h1:-(2 ^ 62)<=lo)(h2:lo<2 ^ 62)(h3:-(2 ^ 62)<=hi)(h4:hi<2 ^ 62)
  (q:R (Itr lo (hi-lo).toNat) H):wpAny (model X.prog X.w) X.A (pyIter (.ref s.heap.objs.size)) (PIE X pins σ tg R) E {s with heap:=s.heap.push {cls:=.type "range",data:=.fields #[.int lo t,.int hi u,.int 1 v]},toks:=tk}:=by
 refine wpAny_pyIter_range (IsRange.new ..) (small_one h1 h2 h3 h4) ?_
 have I1:Inv X pins σ H {s with heap:=s.heap.push {cls:=.type "range",data:=.fields #[.int lo t,.int hi u,.int 1 v]},toks:=tk}:=I.kept λb o e=>ρ _ e
 refine ⟨(s.heap.push {cls:=.type "range",data:=.fields #[.int lo t,.int hi u,.int 1 v]}).objs.size,[(s.heap.push {cls:=.type "range",data:=.fields #[.int lo t,.int hi u,.int 1 v]}).objs.size],_,_,H,rfl,
  I1.kept (t':=tk) λb o e=>ρ _ e,jU _ lo (hi-lo).toNat,?_,λb hb=>?_,q⟩
 ·have e1:lo+((0:Nat):Int)*1=lo:=by simp
  have e2:(((hi-lo).toNat:Nat):Int)-((0:Nat):Int)=Builtin.Range.rangeSize lo hi 1:=by rw [rangeSize_one];split<;>omega
  show IsRangeIter _ _ (lo+((0:Nat):Int)*1) ((((hi-lo).toNat:Nat):Int)-((0:Nat):Int)) 1
  rw [e1,e2]
  exact ψ _ rfl
 ·have e:b=(s.heap.push {cls:=.type "range",data:=.fields #[.int lo t,.int hi u,.int 1 v]}).objs.size:=by simpa using hb
  subst e
  exact I1.fpOk (ι _) (I1.hok.fresh (ι _))
def A5(ta:TA):TI:=fun σ H R=>ta σ H λvs H1=>∃j:Int,vs=[.int j]/\-(2 ^ 62)<=j/\j<2 ^ 62/\R (Itr 0 j.toNat) H1
theorem e8{a:Expr}{ta:TA}{p pos:Pos}(hg:Gl X "range")(hm:X.mg "range"=none)(ha:PA X [a] ta)(hs:starEach [a] X.env=[(false,eval a X.env)]:=by rfl):PI X tg (.Call (.Name "range" p) [a] [] pos) (A5 ta):=by
 intro pins s σ H R I h
 refine Call_ (kO I hg hm boot_range (PyProof.Rows.callWith_type1 (thn (ha pos pins s σ H _ I h) λus s1 ⟨vs,H1,I1,r1,q1⟩=>?_) hs rfl))
 obtain ⟨j,e,q1,q2,q⟩:=q1
 subst e
 cases r1 with
 | cons r rr =>
  cases rr
  obtain ⟨t,rfl⟩:=r
  exact call_range_1 (uK I1 ω ω q1 q2 (by simpa using q))
def Bm(wi:TI)(g:TG)(tb:TS):TS:=λD σ H=>wi σ H λJ H1=>∃W:Nat->Nat->St->Hp->Prop,(∃m,W 0 m σ H1)/\∀i m σ H,W i m σ H ->
 (J.stop i H/\D.nx σ H)\/(J.go i H/\∃N:St->Hp->Prop,(∀σ' H',N σ' H'->∃m',m'<m/\W (i+1) m' σ' H')/\∀x H',J.yld i H x H'->g x σ H' fun σ2 H2=>tb {D with nx:=N,ct:=N,bk:=D.nx} σ2 H2)
def jc(fp:List Addr)(h:Heap):List (Addr×Obj):=fp.filterMap λb=>(h.get? b).map λo=>(b,o)
theorem cD{fp:List Addr}{h:Heap}{b:Addr}{o:Obj}(hb:b∈fp)(e:h.get? b=some o):(b,o)∈jc fp h:=List.mem_filterMap.mpr ⟨b,hb,by rw [e];rfl⟩
theorem sM{fp:List Addr}{h:Heap}{p:Addr×Obj}(hp:p∈jc fp h):p.1∈fp/\h.get? p.1=some p.2:=by
 obtain ⟨b,hb,e⟩:=List.mem_filterMap.mp hp
 cases q:h.get? b with
 | none=>rw [q] at e;cases e
 | some o =>
  rw [q] at e
  have e':(b,o)=p:=Δ e
  subst e'
  exact ⟨hb,q⟩
theorem Inv.pinned{pins:List (Addr×Obj)}{σ:St}{H:Hp}{s:Shared}{fp:List Addr}(I:Inv X pins σ H s)(hf:∀b∈fp,om X pins H b)(ho:∀b∈fp,∃o,s.heap.get? b=some o/\∀v,o.data≠.cell v):Inv X (pins++jc fp s.heap) σ H s :=
 I.pins_of λp hp=>(List.mem_append.mp hp).elim (λz=>I.pin p (Ψ _ z)) λz=>by
  obtain ⟨hb,e⟩:=sM z
  obtain ⟨f0,f1,f2,_⟩:=hf p.1 hb
  obtain ⟨o,e',d⟩:=ho p.1 hb
  rw [e] at e';cases e'
  exact ⟨e,f0,f1,f2,d⟩
theorem Inv.unpinned{pins pl:List (Addr×Obj)}{σ:St}{H:Hp}{s:Shared}(I:Inv X (pins++pl) σ H s):Inv X pins σ H s:=I.pins_of λp hp=>I.pin p (Ψ _ (List.mem_append_left _ hp))
theorem kz{iter:Expr}{body:List Stmt}{wi:TI}{g:TG}{tb:TS}{pos:Pos}(hp:PassesOwn (model X.prog X.w) X.A X.env X.xe)(hc:X.calm=true)(hi:PI X tg iter wi)(hg:PG X tg g)(hb:PSs X body tb)
  (hs:∀x,foldedSetIterable iter X.env x=pure x:=by intro _;rfl):PS X (.For tg iter body [] pos) (Bm wi g tb):=by
 intro pins s σ H D I h
 refine wpAny_For (thn (hi pins s σ H _ I h) λv s1 h1=>thn h1 λitv s2 h2=>?_) hs
 obtain ⟨it,fp,tn,J,H2,e,I2,T,st2,f2,W,⟨m0,w0⟩,turn⟩:=h2
 subst e
 have stat:∀{H':Hp},(∀b∈fp,H' b=none)->∀b∈fp,om X pins H' b:=λhn b hb=>⟨hn b hb,(f2 b hb).2⟩
 refine codeAny_forLoop_any (λn s'=>∃i σ' H',Inv X pins σ' H' s'/\tn i s'.heap/\(∀b∈fp,H' b=none)/\W i n σ' H') ?_ m0 ⟨0,σ,H2,I2,st2,λb hb=>(f2 b hb).1,w0⟩
 rintro n s3 ⟨i,σ3,H3,I3,st3,fr3,w3⟩
 rcases turn i n σ3 H3 w3 with ⟨stop,qn⟩ | ⟨go,N,hN,step⟩
 ·refine wpAny_passesOwn hp (thn (T.done X rfl rfl rfl hc i pins s3 σ3 H3 X.xe I3 (stat fr3) st3 stop) λr s4 ⟨hr,I4⟩=>?_)
  subst hr
  exact wpAny_execs_nil ⟨σ3,H3,I4,qn⟩
 ·refine wpAny_passesOwn hp (thn (T.item X rfl rfl rfl hc i pins s3 σ3 H3 X.xe I3 (stat fr3) st3 go) λr s4 ⟨u,hr,h4⟩=>?_)
  subst hr
  refine wpAny_passesOwn hp (thn h4 λ_ s5 ⟨x,H5,I5,r5,y5,st5,fr5⟩=>?_)
  have I5':=I5.pinned (stat fr5) (T.obj _ _ st5)
  refine wpAny_passesOwn hp (thn (hg _ s5 σ3 H5 x u _ I5' r5 (step x H5 y5)) λ_ s6 ⟨σ6,H6,I6,q6⟩=>?_)
  refine wpAny_passesOwn hp (thn (hb _ s6 σ6 H6 _ I6 q6) λf s7 q7=>?_)
  have again:∀{σ7:St} {H7:Hp},Inv X (pins++jc fp s5.heap) σ7 H7 s7->N σ7 H7->∃m,m<n/\∃i σ' H',Inv X pins σ' H' s7/\tn i s7.heap/\(∀b∈fp,H' b=none)/\W i m σ' H':=λ{σ7 H7} I7 n7=>by
   obtain ⟨m',hm,w7⟩:=hN σ7 H7 n7
   refine ⟨m',hm,i+1,σ7,H7,I7.unpinned,T.keep _ _ _ st5 λb hb o e=>(I7.pin (b,o) (Ψ _ (Ψ _ (cD hb e)))).1,λb hb=>?_,w7⟩
   obtain ⟨o,e,d⟩:=T.obj _ _ st5 b hb
   exact (I7.pin (b,o) (Ψ _ (Ψ _ (cD hb e)))).2.1
  cases f with
  | next=>obtain ⟨σ7,H7,I7,n7⟩:=q7;exact again I7 n7
  | cont=>obtain ⟨σ7,H7,I7,n7⟩:=q7;exact again I7 n7
  | brk=>obtain ⟨σ7,H7,I7,q7⟩:=q7;exact ⟨σ7,H7,I7.unpinned,q7⟩
  | ret v=>obtain ⟨x7,σ7,H7,I7,r7,q7⟩:=q7;exact ⟨x7,σ7,H7,I7.unpinned,r7,q7⟩
end
theorem pd{K:Frag}{a:Addr}{xs:List V}{g:TG}{tb:TS}{D:Ends}{σ:St}{H:Hp}(Pv:Nat->St->Hp->Prop)(h0:Pv 0 σ H)(hl:∀i σ H,i<=xs.length->Pv i σ H->SqL K H a xs)
  (hs:∀i x σ H,xs[i]?=some x->Pv i σ H->g x σ H fun σ2 H2=>tb {D with nx:=Pv (i+1),ct:=Pv (i+1),bk:=D.nx} σ2 H2)(hd:∀σ H,Pv xs.length σ H->D.nx σ H) :
  ∃W:Nat->Nat->St->Hp->Prop,(∃m,W 0 m σ H)/\∀i m σ H,W i m σ H ->
   ((Itl K a).stop i H/\D.nx σ H)\/((Itl K a).go i H/\∃N:St->Hp->Prop,(∀σ' H',N σ' H'->∃m',m'<m/\W (i+1) m' σ' H')/\∀x H',(Itl K a).yld i H x H'->g x σ H' fun σ2 H2=>tb {D with nx:=N,ct:=N,bk:=D.nx} σ2 H2):=by
 refine ⟨λi m σ H=>m=xs.length-i/\i<=xs.length/\Pv i σ H,⟨xs.length,by simp,Nat.zero_le _,h0⟩,?_⟩
 rintro i m σ H ⟨rfl,hi,p⟩
 have q:=hl i σ H hi p
 by_cases hlt:i<xs.length
 ·refine .inr ⟨⟨xs,xs[i],q,by simp [hlt]⟩,Pv (i+1),fun σ' H' p'=>⟨xs.length-(i+1),ω,rfl,hlt,p'⟩,λx H' y=>?_⟩
  obtain ⟨e,y⟩:=y
  subst e
  exact hs i x σ _ (y xs q) p
 ·have e:i=xs.length:=by omega
  subst e
  exact .inl ⟨⟨xs,q,ι _⟩,hd σ H p⟩
theorem xW{K:Frag}{a:Addr}{xs:List V}{g:TG}{tb:TS}{D:Ends}{σ:St}{H:Hp}(Pv:Nat->St->Hp->Prop)(h0:Pv 0 σ H)(hl:∀i σ H,i<=xs.length->Pv i σ H->SqT K H a xs)
  (hs:∀i x σ H,xs[i]?=some x->Pv i σ H->g x σ H fun σ2 H2=>tb {D with nx:=Pv (i+1),ct:=Pv (i+1),bk:=D.nx} σ2 H2)(hd:∀σ H,Pv xs.length σ H->D.nx σ H) :
  ∃W:Nat->Nat->St->Hp->Prop,(∃m,W 0 m σ H)/\∀i m σ H,W i m σ H ->
   ((Itt K a).stop i H/\D.nx σ H)\/((Itt K a).go i H/\∃N:St->Hp->Prop,(∀σ' H',N σ' H'->∃m',m'<m/\W (i+1) m' σ' H')/\∀x H',(Itt K a).yld i H x H'->g x σ H' fun σ2 H2=>tb {D with nx:=N,ct:=N,bk:=D.nx} σ2 H2):=by
 refine ⟨λi m σ H=>m=xs.length-i/\i<=xs.length/\Pv i σ H,⟨xs.length,by simp,Nat.zero_le _,h0⟩,?_⟩
 rintro i m σ H ⟨rfl,hi,p⟩
 have q:=hl i σ H hi p
 by_cases hlt:i<xs.length
 ·refine .inr ⟨⟨xs,xs[i],q,by simp [hlt]⟩,Pv (i+1),fun σ' H' p'=>⟨xs.length-(i+1),ω,rfl,hlt,p'⟩,λx H' y=>?_⟩
  obtain ⟨e,y⟩:=y
  subst e
  exact hs i x σ _ (y xs q) p
 ·have e:i=xs.length:=by omega
  subst e
  exact .inl ⟨⟨xs,q,ι _⟩,hd σ H p⟩
theorem ml{lo:Int}{n:Nat}{g:TG}{tb:TS}{D:Ends}{σ:St}{H:Hp}(Pv:Nat->St->Hp->Prop)(h0:Pv 0 σ H)
  (hs:∀i σ H,i<n->Pv i σ H->g (.int (lo+i)) σ H fun σ2 H2=>tb {D with nx:=Pv (i+1),ct:=Pv (i+1),bk:=D.nx} σ2 H2)(hd:∀σ H,Pv n σ H->D.nx σ H) :
  ∃W:Nat->Nat->St->Hp->Prop,(∃m,W 0 m σ H)/\∀i m σ H,W i m σ H ->
   ((Itr lo n).stop i H/\D.nx σ H)\/((Itr lo n).go i H/\∃N:St->Hp->Prop,(∀σ' H',N σ' H'->∃m',m'<m/\W (i+1) m' σ' H')/\∀x H',(Itr lo n).yld i H x H'->g x σ H' fun σ2 H2=>tb {D with nx:=N,ct:=N,bk:=D.nx} σ2 H2):=by
 refine ⟨λi m σ H=>m=n-i/\i<=n/\Pv i σ H,⟨n,by simp,Nat.zero_le _,h0⟩,?_⟩
 rintro i m σ H ⟨rfl,hi,p⟩
 by_cases hlt:i<n
 ·refine .inr ⟨hlt,Pv (i+1),fun σ' H' p'=>⟨n-(i+1),ω,rfl,hlt,p'⟩,λx H' y=>?_⟩
  obtain ⟨e,y⟩:=y
  subst e y
  exact hs i σ _ hlt p
 ·have e:i=n:=by omega
  subst e
  exact .inl ⟨ι _,hd σ H p⟩
end L2
namespace L2
open PySem PySem.Spec PyProof.Rows
abbrev R2:=V->V->Hp->VK->Prop
def OpR(X:Cx)(f:Value->Value->Sem Value)(r:R2):Prop :=
 ∀(pins:List (Addr×Obj)) (s:Shared) (σ:St) (H:Hp) (x y:V) (v u:Value) (Q:VK),Inv X pins σ H s->RelV x v->RelV y u->r x y H Q ->
  wpAny (model X.prog X.w) X.A (f v u) (EP X pins σ Q) X.xe s
def UnR(X:Cx)(f:Value->Sem Value)(r:V->Hp->VK->Prop):Prop :=
 ∀(pins:List (Addr×Obj)) (s:Shared) (σ:St) (H:Hp) (x:V) (v:Value) (Q:VK),Inv X pins σ H s->RelV x v->r x H Q ->
  wpAny (model X.prog X.w) X.A (f v) (EP X pins σ Q) X.xe s
def dX(X:Cx)(f:Value)(r:List V->Hp->VK->Prop):Prop :=
 ∀(pins:List (Addr×Obj)) (s:Shared) (σ:St) (H:Hp) (xs:List V) (us:List Value) (Q:VK),Inv X pins σ H s->Vals xs us->r xs H Q ->
  wpAny (model X.prog X.w) X.A (call f us) (EP X pins σ Q) X.xe s
def tOp(r:R2)(ta tb:TE):TE:=fun σ H Q=>ta σ H λx H1=>tb σ H1 λy H2=>r x y H2 Q
def tUn(r:V->Hp->VK->Prop)(ta:TE):TE:=fun σ H Q=>ta σ H λx H1=>r x H1 Q
def rI(C:Int->Int->Prop)(g:Int->Int->V):R2:=λx y H Q=>∃i j,x=.int i/\y=.int j/\C i j/\Q (g i j) H
def rI0(g:Int->Int->V):R2:=λx y H Q=>∃i j,x=.int i/\y=.int j/\Q (g i j) H
def rU(g:Int->V):V->Hp->VK->Prop:=λx H Q=>∃i,x=.int i/\Q (g i) H
section
variable {X:Cx}{a b c:Expr}{ta tb tc:TE}{pos:Pos}
theorem Af(ha:PE X a ta)(hb:PE X b tb){pins:List (Addr×Obj)}{s:Shared}{σ:St}{H:Hp}{R:V->V->Hp->Prop}(I:Inv X pins σ H s)
  (h:ta σ H λx H1=>tb σ H1 λy H2=>R x y H2){Q:Value->Shared->Prop}{f:Value->Value->Sem Value}
  (hf:∀v u s2 x y H2,Inv X pins σ H2 s2->RelV x v->RelV y u->R x y H2->wpAny (model X.prog X.w) X.A (f v u) Q X.xe s2) :
  wpAny (model X.prog X.w) X.A (eval a X.env) (λv s₁=>wpAny (model X.prog X.w) X.A (eval b X.env) (λu s₂=>wpAny (model X.prog X.w) X.A (f v u) Q X.xe s₂) X.xe s₁) X.xe s:=by
 refine thn (ha pins s σ H _ I h) λv s1 ⟨x,H1,I1,r1,q1⟩=>?_
 refine thn (hb pins s1 σ H1 _ I1 q1) λu s2 ⟨y,H2,I2,r2,q2⟩=>?_
 exact hf v u s2 x y H2 I2 r1 r2 q2
theorem aG{op:Operator}{r:R2}(ho:OpR X (binaryOp op) r)(ha:PE X a ta)(hb:PE X b tb):PE X (.BinOp a op b pos) (tOp r ta tb):=by
 intro pins s σ H Q I h
 exact wpAny_BinOp (Af ha hb I h λv u s2 x y H2 I2 rx ry q=>ho pins s2 σ H2 x y v u Q I2 rx ry q)
theorem AR{op:UnaryOp}{r:V->Hp->VK->Prop}(ho:UnR X (unaryOp op) r)(ha:PE X a ta):PE X (.UnaryOp op a pos) (tUn r ta):=by
 intro pins s σ H Q I h
 exact UnaryOp_ (thn (ha pins s σ H _ I h) λv s1 ⟨x,H1,I1,r1,q1⟩=>ho pins s1 σ H1 x v Q I1 r1 q1)
theorem opI{f:Value->Value->Sem Value}{C:Int->Int->Prop}{g:Int->Int->Int}
  (rule:∀(i j:Int) (t u:Tok) (s:Shared) (Q:Value->Shared->Prop) (E:Value->Shared->Prop),C i j->Q (.int (g i j) s.toks) {s with toks:=s.toks+1}->wpAny (model X.prog X.w) X.A (f (.int i t) (.int j u)) Q E s) :
  OpR X f (rI C λi j=>.int (g i j)):=by
 intro pins s σ H x y v u Q I rx ry h
 obtain ⟨i,j,rfl,rfl,hc,q⟩:=h
 obtain ⟨t,rfl⟩:=rx
 obtain ⟨t',rfl⟩:=ry
 exact rule i j t t' s _ _ hc ⟨.int (g i j),H,I.tok _,⟨_,rfl⟩,q⟩
theorem AT{f:Value->Value->Sem Value}{g:Int->Int->Int}
  (rule:∀(i j:Int) (t u:Tok) (s:Shared) (Q:Value->Shared->Prop) (E:Value->Shared->Prop),Q (.int (g i j) s.toks) {s with toks:=s.toks+1}->wpAny (model X.prog X.w) X.A (f (.int i t) (.int j u)) Q E s) :
  OpR X f (rI0 λi j=>.int (g i j)):=by
 intro pins s σ H x y v u Q I rx ry h
 obtain ⟨i,j,rfl,rfl,q⟩:=h
 obtain ⟨t,rfl⟩:=rx
 obtain ⟨t',rfl⟩:=ry
 exact rule i j t t' s _ _ ⟨.int (g i j),H,I.tok _,⟨_,rfl⟩,q⟩
theorem xh{f:Value->Value->Sem Value}{g:Int->Int->Bool}
  (rule:∀(i j:Int) (t u:Tok) (s:Shared) (Q:Value->Shared->Prop) (E:Value->Shared->Prop),Q (.bool (g i j)) s->wpAny (model X.prog X.w) X.A (f (.int i t) (.int j u)) Q E s) :
  OpR X f (rI0 λi j=>.bl (g i j)):=by
 intro pins s σ H x y v u Q I rx ry h
 obtain ⟨i,j,rfl,rfl,q⟩:=h
 obtain ⟨t,rfl⟩:=rx
 obtain ⟨t',rfl⟩:=ry
 exact rule i j t t' s _ _ ⟨.bl (g i j),H,I,rfl,q⟩
def BD(i j:Int):Prop:=0<j/\j<1073741824
def BC(i j:Int):Prop:=0<=j/\j<=1000000/\i.natAbs<2 ^ 64
def CMul(i j:Int):Prop:=(-(2 ^ 64)<i/\i<2 ^ 64)\/(-(2 ^ 64)<j/\j<2 ^ 64)
theorem CMul.ok{i j:Int}(h:CMul i j):IntMulOk i j:=by
 rcases h with ⟨h1,h2⟩ | ⟨h1,h2⟩
 ·exact .of_left (intBits_le_64 h1 h2)
 ·exact .of_right (intBits_le_64 h1 h2)
theorem cZ:OpR X (binaryOp .Add) (rI0 λi j=>.int (i+j)):=AT λ_ _ _ _ _ _ _ q=>add_int q
theorem kC:OpR X (binaryOp .Sub) (rI0 λi j=>.int (i-j)):=AT λ_ _ _ _ _ _ _ q=>sub_int q
theorem uY:OpR X (binaryOp .Mult) (rI CMul λi j=>.int (i*j)):=opI λ_ _ _ _ _ _ _ hc q=>mul_int q hc.ok
theorem cj:OpR X (binaryOp .FloorDiv) (rI BD λi j=>.int (i/j)):=opI λi j _ _ _ _ _ hc q=>by
 have h1:(0:Int)<j:=hc.1
 have h2:j<1073741824:=hc.2
 exact floordiv_int ω (by rw [Int.fdiv_eq_ediv_of_nonneg i ω];exact q) (.inl (PyProof.noPylong_small ω))
theorem cY:OpR X (binaryOp .Mod) (rI (λ_ j=>0<j) λi j=>.int (i%j)):=opI λi j _ _ _ _ _ hc q=>by
 have h1:(0:Int)<j:=hc
 exact mod_int' ω (by rw [Int.fmod_eq_emod_of_nonneg i ω];exact q)
theorem uW:OpR X (binaryOp .Pow) (rI BC λi j=>.int (i ^ j.toNat)):=opI λ_ _ _ _ _ _ _ hc q=>pow_int_small hc.1 hc.2.1 hc.2.2 q
theorem unI{f:Value->Sem Value}{g:Int->Int}
  (rule:∀(i:Int) (t:Tok) (s:Shared) (Q:Value->Shared->Prop) (E:Value->Shared->Prop),Q (.int (g i) s.toks) {s with toks:=s.toks+1}->wpAny (model X.prog X.w) X.A (f (.int i t)) Q E s) :
  UnR X f (rU λi=>.int (g i)):=by
 intro pins s σ H x v Q I rx h
 obtain ⟨i,rfl,q⟩:=h
 obtain ⟨t,rfl⟩:=rx
 exact rule i t s _ _ ⟨.int (g i),H,I.tok _,⟨_,rfl⟩,q⟩
theorem yM:UnR X (unaryOp .USub) (rU λi=>.int (-i)):=unI λ_ _ _ _ _ q=>neg_int q
end
def AJ:V->V->Bool
 | .non,.non=>true | .non,.int _=>true | .int _,.non=>true | .non,.bl _=>true | .bl _,.non=>true | .non,.str _=>true | .str _,.non=>true
 | .int _,.int _=>true | .bl _,.bl _=>true | .str _,.str _=>true | .byt _,.byt _=>true
 | .int _,.str _=>true | .str _,.int _=>true | .bl _,.str _=>true | .str _,.bl _=>true
 | _,_=>false
def rEq:R2:=λx y H Q=>AJ x y=true/\Q (.bl (decide (x=y))) H
def rNe:R2:=λx y H Q=>AJ x y=true/\Q (.bl (!decide (x=y))) H
theorem nZ{i j:Int}:decide (V.int i=V.int j)=(i==j):=by
 rw [Bool.eq_iff_iff]
 simp
theorem wq{i j:Bool}:decide (V.bl i=V.bl j)=(i==j):=by
 rw [Bool.eq_iff_iff]
 simp
theorem rT{i j:Str}:decide (V.str i=V.str j)=(i==j):=by
 rw [Bool.eq_iff_iff]
 simp
theorem rV{i j:Array UInt8}:decide (V.byt i=V.byt j)=(i.toList==j.toList):=by
 rw [Bool.eq_iff_iff]
 cases i
 cases j
 simp
section
variable {X:Cx}{a b c:Expr}{ta tb tc:TE}{pos:Pos}
theorem aN{pins:List (Addr×Obj)}{σ:St}{H:Hp}{s:Shared}{Q:VK}{k k':Bool}(I:Inv X pins σ H s)(q:Q (.bl k) H)(e:k=k'):EP X pins σ Q (.bool k') s:=by
 subst e
 exact ⟨.bl k,H,I,rfl,q⟩
theorem bH:OpR X (compareOp .Eq) rEq:=by
 intro pins s σ H x y v u Q I rx ry h
 obtain ⟨hs,q⟩:=h
 cases x with
 | non =>
  cases rx
  cases y with
  | non=>cases ry;exact PySem.EqNone.eq_none_none (aN I q (by simp))
  | bl j=>cases ry;exact PySem.EqNone.eq_none_bool (aN I q (by simp))
  | int j=>obtain ⟨t',rfl⟩:=ry;exact PySem.EqNone.eq_none_int (aN I q (by simp))
  | str j=>obtain ⟨t',rfl⟩:=ry;exact PySem.EqNone.eq_none_str (aN I q (by simp))
  | _=>exact absurd (show false=true from hs) Bool.false_ne_true
 | bl i =>
  cases rx
  cases y with
  | non=>cases ry;exact PySem.EqNone.eq_bool_none (aN I q (by simp))
  | bl j=>cases ry;exact eq_bool (aN I q wq)
  | str j=>obtain ⟨t',rfl⟩:=ry;exact PySem.EqMixed.eq_bool_str (aN I q (by simp))
  | _=>exact absurd (show false=true from hs) Bool.false_ne_true
 | int i =>
  obtain ⟨t,rfl⟩:=rx
  cases y with
  | non=>cases ry;exact PySem.EqNone.eq_int_none (aN I q (by simp))
  | int j=>obtain ⟨t',rfl⟩:=ry;exact eq_int (aN I q nZ)
  | str j=>obtain ⟨t',rfl⟩:=ry;exact PySem.EqMixed.eq_int_str (aN I q (by simp))
  | _=>exact absurd (show false=true from hs) Bool.false_ne_true
 | str i =>
  obtain ⟨t,rfl⟩:=rx
  cases y with
  | non=>cases ry;exact PySem.EqNone.eq_str_none (aN I q (by simp))
  | bl j=>cases ry;exact PySem.EqMixed.eq_str_bool (aN I q (by simp))
  | int j=>obtain ⟨t',rfl⟩:=ry;exact PySem.EqMixed.eq_str_int (aN I q (by simp))
  | str j=>obtain ⟨t',rfl⟩:=ry;exact eq_str (aN I q rT)
  | _=>exact absurd (show false=true from hs) Bool.false_ne_true
 | byt i =>
  obtain ⟨t,rfl⟩:=rx
  cases y with
  | byt j=>obtain ⟨t',rfl⟩:=ry;exact PySem.W.eq_bytes (aN I q rV)
  | _=>exact absurd (show false=true from hs) Bool.false_ne_true
 | _=>cases y<;>exact absurd (show false=true from hs) Bool.false_ne_true
theorem oQ:OpR X (compareOp .NotEq) rNe:=by
 intro pins s σ H x y v u Q I rx ry h
 obtain ⟨hs,q⟩:=h
 cases x with
 | non =>
  cases rx
  cases y with
  | non=>cases ry;exact PySem.EqNone.ne_none_none (aN I q (by simp))
  | bl j=>cases ry;exact PySem.EqNone.ne_none_bool (aN I q (by simp))
  | int j=>obtain ⟨t',rfl⟩:=ry;exact PySem.EqNone.ne_none_int (aN I q (by simp))
  | str j=>obtain ⟨t',rfl⟩:=ry;exact PySem.EqNone.ne_none_str (aN I q (by simp))
  | _=>exact absurd (show false=true from hs) Bool.false_ne_true
 | bl i =>
  cases rx
  cases y with
  | non=>cases ry;exact PySem.EqNone.ne_bool_none (aN I q (by simp))
  | bl j=>cases ry;exact ne_bool (aN I q (congrArg not wq))
  | str j=>obtain ⟨t',rfl⟩:=ry;exact PySem.EqMixed.ne_bool_str (aN I q (by simp))
  | _=>exact absurd (show false=true from hs) Bool.false_ne_true
 | int i =>
  obtain ⟨t,rfl⟩:=rx
  cases y with
  | non=>cases ry;exact PySem.EqNone.ne_int_none (aN I q (by simp))
  | int j=>obtain ⟨t',rfl⟩:=ry;exact ne_int (aN I q (congrArg not nZ))
  | str j=>obtain ⟨t',rfl⟩:=ry;exact PySem.EqMixed.ne_int_str (aN I q (by simp))
  | _=>exact absurd (show false=true from hs) Bool.false_ne_true
 | str i =>
  obtain ⟨t,rfl⟩:=rx
  cases y with
  | non=>cases ry;exact PySem.EqNone.ne_str_none (aN I q (by simp))
  | bl j=>cases ry;exact PySem.EqMixed.ne_str_bool (aN I q (by simp))
  | int j=>obtain ⟨t',rfl⟩:=ry;exact PySem.EqMixed.ne_str_int (aN I q (by simp))
  | str j=>obtain ⟨t',rfl⟩:=ry;exact ne_str (aN I q (congrArg not rT))
  | _=>exact absurd (show false=true from hs) Bool.false_ne_true
 | byt i =>
  obtain ⟨t,rfl⟩:=rx
  cases y with
  | byt j=>obtain ⟨t',rfl⟩:=ry;exact PySem.W.ne_bytes (aN I q (congrArg not rV))
  | _=>exact absurd (show false=true from hs) Bool.false_ne_true
 | _=>cases y<;>exact absurd (show false=true from hs) Bool.false_ne_true
theorem oR:OpR X (compareOp .Lt) (rI0 λi j=>.bl (decide (i<j))):=xh λ_ _ _ _ _ _ _ q=>lt_int q
theorem rG:OpR X (compareOp .LtE) (rI0 λi j=>.bl (decide (i<=j))):=xh λ_ _ _ _ _ _ _ q=>le_int q
theorem kD:OpR X (compareOp .Gt) (rI0 λi j=>.bl (decide (j<i))):=xh λ_ _ _ _ _ _ _ q=>gt_int q
theorem AS:OpR X (compareOp .GtE) (rI0 λi j=>.bl (decide (j<=i))):=xh λ_ _ _ _ _ _ _ q=>ge_int q
theorem qh:OpR X (compareOp .Is) (λx y H Q=>y=.non/\Q (.bl (decide (x=.non))) H):=by
 intro pins s σ H x y v u Q I rx ry h
 obtain ⟨rfl,q⟩:=h
 cases ry
 refine is_none_gen (aN I q ?_)
 cases x<;>first
  | (cases rx;rfl)
  | (obtain ⟨t,rfl⟩:=rx;rfl)
theorem nJ:OpR X (compareOp .IsNot) (λx y H Q=>y=.non/\Q (.bl (!decide (x=.non))) H):=by
 intro pins s σ H x y v u Q I rx ry h
 obtain ⟨rfl,q⟩:=h
 cases ry
 refine isnot_none_gen (aN I q ?_)
 cases x<;>first
  | (cases rx;rfl)
  | (obtain ⟨t,rfl⟩:=rx;rfl)
theorem aA(b:Expr){op:CmpOp}(h:op≠.In:=by decide)(h2:op≠.NotIn:=by decide):behindInMarks op b=false:=by
 have e1:(op==CmpOp.In)=false:=by cases op<;>first | rfl | exact absurd rfl h
 have e2:(op==CmpOp.NotIn)=false:=by cases op<;>first | rfl | exact absurd rfl h2
 cases b<;>simp [behindInMarks,e1,e2]
theorem ci{op:CmpOp}{r:R2}(ho:OpR X (compareOp op) r)(ha:PE X a ta)(hb:PE X b tb)(hm:behindInMarks op b=false):PE X (.Compare a [op] [b] pos) (tOp r ta tb):=by
 intro pins s σ H Q I h
 exact wpAny_Compare1 (Af ha hb I h λv u s2 x y H2 I2 rx ry q=>ho pins s2 σ H2 x y v u Q I2 rx ry q) hm
def yn(t:TE):TT:=fun σ H Q=>t σ H λx H'=>∃k,x=.bl k/\Q k H'
theorem az{op:CmpOp}{r:R2}(ho:OpR X (compareOp op) r)(ha:PE X a ta)(hb:PE X b tb)(hm:behindInMarks op b=false):PT X (.Compare a [op] [b] pos) (yn (tOp r ta tb)):=by
 intro pins s σ H Q I h
 refine wpAny_isTrue_Compare1 (thn (ha pins s σ H _ I h) λv s1 ⟨x,H1,I1,r1,q1⟩=>thn (hb pins s1 σ H1 _ I1 q1) λu s2 ⟨y,H2,I2,r2,q2⟩ =>
  thn (ho pins s2 σ H2 x y v u _ I2 r1 r2 q2) λc s3 ⟨z,H3,I3,r3,k,e,q3⟩=>?_) hm
 subst e
 cases r3
 exact wpAny_truthy_bool ⟨H3,I3,q3⟩
def yV(r r':R2)(ta tb tc:TE):TE:=fun σ H Q=>ta σ H λx H1=>tb σ H1 λy H2=>r x y H2 λz H3=>∃k,z=.bl k /\
 (if k=true then tc σ H3 λw' H4=>r' y w' H4 Q else Q (.bl false) H3)
theorem uV{op op':CmpOp}{r r':R2}(ho:OpR X (compareOp op) r)(ho':OpR X (compareOp op') r')(ha:PE X a ta)(hb:PE X b tb)(hc:PE X c tc)
  (hm:lastMarks [op,op'] [b,c]=false:=by with_unfolding_all rfl):PE X (.Compare a [op,op'] [b,c] pos) (yV r r' ta tb tc):=by
 intro pins s σ H Q I h
 refine Compare_chain (thn (ha pins s σ H _ I h) λv s1 ⟨x,H1,I1,r1,q1⟩=>chain_link (thn (hb pins s1 σ H1 _ I1 q1) λu s2 ⟨y,H2,I2,r2,q2⟩ =>
  thn (ho pins s2 σ H2 x y v u _ I2 r1 r2 q2) λd s3 ⟨z,H3,I3,r3,k,e,q3⟩=>?_)) hm
 subst e
 cases r3
 refine wpAny_truthy_bool ?_
 cases k with
 | false=>exact ite_ff ⟨.bl false,H3,I3,rfl,q3⟩
 | true=>exact ite_tt (chain_last (thn (hc pins s3 σ H3 _ I3 q3) λw' s4 ⟨z',H4,I4,r4,q4⟩=>ho' pins s4 σ H4 y z' u w' Q I4 r2 r4 q4))
theorem jh:(sizeLine:Nat)<2 ^ 63:=by rw [sizeLine_eq];decide
theorem bR:OpR X (binaryOp .Add) (λx y H Q=>∃i j,x=.str i/\y=.str j/\i.length+j.length<=sizeLine/\Q (.str (i++j)) H):=by
 intro pins s σ H x y v u Q I rx ry h
 obtain ⟨i,j,rfl,rfl,hz,q⟩:=h
 obtain ⟨t,rfl⟩:=rx
 obtain ⟨t',rfl⟩:=ry
 exact add_str (λt' tk=>⟨.str (i++j),H,I.tok _,⟨_,rfl⟩,q⟩) hz
theorem dF{x:V}{us:List Value}(r:Vals [x] us):∃u,us=[u]/\RelV x u:=by
 cases r with
 | cons r1 r2=>cases r2;exact ⟨_,rfl,r1⟩
theorem tT{x y:V}{us:List Value}(r:Vals [x,y] us):∃u w',us=[u,w']/\RelV x u/\RelV y w':=by
 cases r with
 | cons r1 r2 =>
  cases r2 with
  | cons r3 r4=>cases r4;exact ⟨_,_,rfl,r1,r3⟩
theorem dw:dX X (.type "str") (λxs H Q=>∃i,xs=[.int i]/\i.natAbs.log2<1920/\Q (.str (toString i)) H):=by
 intro pins s σ H xs us Q I r h
 obtain ⟨i,rfl,hz,q⟩:=h
 obtain ⟨u,rfl,t,rfl⟩:=dF r
 exact PySem.P.str_of_int hz ⟨.str _,H,I.tok _,⟨_,rfl⟩,q⟩
theorem wz:dX X (.builtin "ord") (λxs H Q=>∃x,xs=[.str x]/\x.length=1/\Q (.int (x.cps.getD 0 0:Nat)) H):=by
 intro pins s σ H xs us Q I r h
 obtain ⟨x,rfl,hz,q⟩:=h
 obtain ⟨u,rfl,t,rfl⟩:=dF r
 exact ord_of_one hz ⟨.int _,H,I.tok _,⟨_,rfl⟩,q⟩
end
end L2
namespace L2
open PySem PySem.Spec PyProof.Rows
structure ObjM(h:Heap)(x dx C:Addr)(mA:Str->Option Value):Prop where
 obj:h.get? x=some (PySem.W.instObj C dx)
 ns:h.Ns1 dx mA
 ne:dx≠x
theorem sQ{h:Heap}{dx:Addr}{mA:Str->Option Value}(n:h.Ns1 dx mA):∃od,h.get? dx=some od/\∀name,PySem.W.lookIn name od=some (mA name):=by
 obtain ⟨o,es,ep,ho,hd,hk,_,hm⟩:=n
 refine ⟨o,ho,λname=>?_⟩
 have e:=hm name
 unfold nsFind findBy at e
 rw [← Array.find?_toList] at e
 unfold PySem.W.lookIn
 rw [hd]
 dsimp only
 split
 ·rename_i y q
  rw [q] at e
  exact congrArg some e
 ·rename_i q
  rw [q] at e
  have a:es.toList.any (·.refKey)=false:=by
   rw [List.any_eq_false]
   intro y hy
   obtain ⟨z,t,hkey⟩:=hk y (Array.mem_toList_iff.mp hy)
   simp [DictEntry.refKey,hkey]
  have a':¬es.toList.any (·.refKey)=true:=by rw [a];exact Bool.false_ne_true
  rw [if_neg a']
  exact congrArg some e
theorem ObjM.look{h:Heap}{x dx C:Addr}{mA:Str->Option Value}(I:ObjM h x dx C mA):∃od,PySem.W.InstAt h x (PySem.W.instObj C dx) C (some od)/\∀name,PySem.W.lookIn name od=some (mA name) :=
 let ⟨od,ho,hl⟩:=sQ I.ns
 ⟨od,⟨I.obj,rfl,rfl,ho⟩,hl⟩
section
variable {prog:Program}{w:World}{A:Around}{E:Value->Shared->Prop}{s:Shared}{K:Frag}{x dx C f:Addr}{mA:Str->Option Value}{name:Str}{v:Value}
theorem xU{expr:Bool}{Q:Value->Shared->Prop}(X:K.In s.heap)(I:ObjM s.heap x dx C mA)(hg:PySem.W.plainGet K C name=true)(hh:PySem.W.hasDictIn K C=true)
  (ha:PySem.W.findIn K (.ref C) name=some none)(hv:mA name=some v)(hv':PySem.W.handedIn v=true)(h:Q v {s with toks:=s.toks+1}) :
  wpAny (model prog w) A (getAttr (.ref x) name expr) Q E s:=by
 obtain ⟨od,J,hl⟩:=I.look
 exact PySem.W.get_value X J (PySem.W.plainGet_of hg).1 (PySem.W.findObj_own hh ha rfl (by rw [hl,hv])) hv' h
theorem vZ{pl:Sem Bool}{Q:Value×List Value->Shared->Prop}(X:K.In s.heap)(I:ObjM s.heap x dx C mA)(hg:PySem.W.plainGet K C name=true)
  (hf:PySem.W.findIn K (.ref C) name=some (some (.ref f)))(ht:PySem.W.isFn K (.ref f)=true)(hv:mA name=none)(h:Q (.ref f,[.ref x]) s) :
  wpAny (model prog w) A (getMethod (.ref x) name pl) Q E s:=by
 obtain ⟨od,J,hl⟩:=I.look
 exact PySem.W.method_fn X J (PySem.W.plainGet_of hg).1 (PySem.W.plainGet_of hg).2 hf (beq_iff_eq.mp ht) (by show (PySem.W.lookIn name od).map (·.isSome)=some false;rw [hl,hv];rfl) h
theorem jP{ns:List Str}{Q:Unit->Shared->Prop}(X:K.In s.heap)(I:ObjM s.heap x dx C mA)
  (hs:PySem.W.findIn K (.ref C) "__setattr__"=some (some (.builtin "object.__setattr__")))(hp:PySem.W.plainOver K C=true)(ht:PySem.W.takerIn K C name=some none)(hh:PySem.W.hasDictIn K C=true)
  (hw:PySem.Within mA ns)(hsz:ns.length<=sizeLine)
  (h:∀h',ObjM h' x dx C (λy=>if y=name then some v else mA y)->Heap.SameBut dx s.heap h'->Q () {s with heap:=h',toks:=s.toks+2}) :
  wpAny (model prog w) A (setAttr (.ref x) name v) Q E s:=by
 obtain ⟨od,J,hl⟩:=I.look
 refine PySem.W.set_plain X J hs (PySem.W.osa_open (s:={s with toks:=s.toks+1}) (r:=none) X J hp ht λb=>?_)
 obtain ⟨cd,hc,hd'⟩:=PySem.W.any_some hh
 have hx:s.heap.get? x=some ⟨.ref C,some dx,.plain,#[]⟩:=I.obj
 refine ε (π (ε (ε (wpAny_loadPart hx (ε (PySem.W.Looks.here (s:={s with toks:=s.toks+1}) (PySem.W.looks_clsIn X hc) ?_))))))
 rw [hd']
 refine π (a:=some dx) (ε (π (ε ?_)))
 refine wpAny_nsSet1 (s:={s with toks:=s.toks+1}) I.ns λh' hn2 hs2=>?_
 obtain ⟨oD,esD,epD,hoD,hdD,hcD⟩:=hn2.count (PySem.Within.cons name v hw)
 refine ε (wpAny_lookBehind hoD (by rw [hdD];exact pastItsLine_dict (Λ hcD (by rw [List.length_cons];omega))) ?_)
 exact π (h _ ⟨(hs2.2 _ (Ne.symm I.ne)).trans I.obj,hn2,I.ne⟩ hs2)
theorem vO{R:Result->Shared->Prop}{vs:List Value}{kw:List (Str×Value)}(X:K.In s.heap)(hm:PySem.W.makesIn K C=true)
  (hi:PySem.W.findIn K (.ref C) "__init__"=some (some (.ref f)))(hf:PySem.W.typeIn K (.ref f)=some (.type "function"))
  (h:codeAny (model prog w) (A.under (.builtin "type.__call__" ⟨.ref C::vs,kw⟩)) (.call (.ref f) ⟨.ref (s.heap.objs.size+1)::vs,kw⟩) (PySem.W.InitBack (s.heap.objs.size+1) R)
   {s with heap:=(s.heap.push PySem.W.emptyDict).push (PySem.W.instObj C s.heap.objs.size)}) :
  codeAny (model prog w) A (.call (.ref C) ⟨vs,kw⟩) R s:=by
 obtain ⟨hh,g,d,t,os⟩:=s
 exact PySem.W.make_core (PySem.W.makes_of X hm) (PySem.W.looks_findIn X hi) (λself=>PySem.W.bind_fn X self hf) (.inl rfl) h
end
def aq(f:Str)(v:V):List (Str×V)->List (Str×V)
 | []=>[(f,v)]
 | (g,x)::r=>if g=f then (g,v)::r else (g,x)::aq f v r
theorem ah(f g:Str)(v:V):∀fs:List (Str×V),(aq f v fs).lookup g=if g=f then some v else fs.lookup g
 | []=>by
  show List.lookup g [(f,v)]=_
  by_cases h:g=f
  ·have hb:(g==f)=true:=beq_iff_eq.mpr h
   simp only [List.lookup,hb,if_pos h]
  ·have hb:(g==f)=false:=beq_eq_false_iff_ne.mpr h
   simp only [List.lookup,hb,if_neg h]
 | (k,x)::r=>by
  have ih:=ah f g v r
  rw [show aq f v ((k,x)::r)=(if k=f then (k,v)::r else (k,x)::aq f v r) from rfl]
  by_cases hk:k=f
  ·rw [if_pos hk]
   by_cases h:g=k
   ·have hb:(g==k)=true:=beq_iff_eq.mpr h
    simp only [List.lookup,hb,if_pos (h.trans hk)]
   ·have hb:(g==k)=false:=beq_eq_false_iff_ne.mpr h
    simp only [List.lookup,hb,if_neg (λe:g=f=>h (e.trans hk.symm))]
  ·rw [if_neg hk]
   by_cases h:g=k
   ·have hb:(g==k)=true:=beq_iff_eq.mpr h
    simp only [List.lookup,hb,if_neg (λe:g=f=>hk (h.symm.trans e))]
   ·have hb:(g==k)=false:=beq_eq_false_iff_ne.mpr h
    simp only [List.lookup,hb]
    exact ih
theorem jj(f:Str)(v:V):∀fs:List (Str×V),f∈(aq f v fs).map (·.1)/\∀g,g∈fs.map (·.1)->g∈(aq f v fs).map (·.1)
 | []=>⟨by simp [aq],λg h=>by simp at h⟩
 | (k,x)::r=>by
  obtain ⟨i1,i2⟩:=jj f v r
  rw [show aq f v ((k,x)::r)=(if k=f then (k,v)::r else (k,x)::aq f v r) from rfl]
  by_cases hk:k=f
  ·rw [if_pos hk]
   subst hk
   exact ⟨by simp,λg h=>by simpa using h⟩
  ·rw [if_neg hk]
   refine ⟨?_,λg h=>?_⟩
   ·rw [List.map_cons]
    exact Θ _ i1
   ·rw [List.map_cons] at h ⊢
    rcases List.mem_cons.mp h with e | e
    ·exact List.mem_cons.mpr (.inl e)
    ·exact Θ _ (i2 g e)
theorem cS(f:Str)(v:V):∀fs:List (Str×V),(aq f v fs).length<=fs.length+1
 | []=>by simp [aq]
 | (k,x)::r=>by
  have ih:=cS f v r
  rw [show aq f v ((k,x)::r)=(if k=f then (k,v)::r else (k,x)::aq f v r) from rfl]
  by_cases hk:k=f
  ·rw [if_pos hk,List.length_cons,List.length_cons];omega
  ·rw [if_neg hk,List.length_cons,List.length_cons];omega
theorem RelO.some_of{v:V}{o:Option Value}(r:RelO (some v) o):∃u,o=some u/\RelV v u:=by
 cases o with
 | none=>exact (show False from r).elim
 | some u=>exact ⟨u,rfl,r⟩
theorem RelO.none_of{o:Option Value}(r:RelO none o):o=none:=by
 cases o with
 | none=>rfl
 | some u=>exact (show False from r).elim
theorem tj{v:V}{u:Value}(r:RelV v u):PySem.W.handedIn u=true:=by
 cases v with
 | non=>cases (show u=Value.none from r);rfl
 | bl b=>cases (show u=Value.bool b from r);rfl
 | int i=>obtain ⟨t,e⟩:=(show ∃t,u=Value.int i t from r);cases e;rfl
 | str x=>obtain ⟨t,e⟩:=(show ∃t,u=Value.str x t from r);cases e;rfl
 | byt b=>obtain ⟨t,e⟩:=(show ∃t,u=Value.bytes b t from r);cases e;rfl
 | flt b=>obtain ⟨t,e⟩:=(show ∃t,u=Value.float b t from r);cases e;rfl
 | ref a=>cases (show u=Value.ref a from r);rfl
 | ty n=>cases (show u=Value.type n from r);rfl
section
variable {P:Program}{w:World}{H H':Hp}{h h':Heap}{a C dx:Addr}{fs fs':List (Str×V)}
theorem jS(hok:HOk P w H h)(e:H a=some (.ins C dx fs)):∃mA,ObjM h a dx C mA/\(∀f,RelO (fs.lookup f) (mA f))/\PySem.Within mA (fs.map (·.1))/\fs.length<=1000/\H dx=some (.own a):=by
 obtain ⟨d,z,ne,ob,mA,n,r,q⟩:=(show ObjOk P w H h a (.ins C dx fs) from hok a _ e)
 exact ⟨mA,⟨ob,n,ne⟩,r,q,z,d⟩
end
structure Cls(K:Frag)(C:Addr):Prop where
 pg:PySem.W.plainGet K C Str.empty=true
 hd:PySem.W.hasDictIn K C=true
 po:PySem.W.plainOver K C=true
 sa:PySem.W.findIn K (.ref C) "__setattr__"=some (some (.builtin "object.__setattr__"))
theorem Cls.get{K:Frag}{C:Addr}(c:Cls K C)(f:Str):PySem.W.plainGet K C f=true:=c.pg
def NoAttr(K:Frag)(C:Addr)(f:Str):Prop:=PySem.W.findIn K (.ref C) f=some none
theorem NoAttr.taker{K:Frag}{C:Addr}{f:Str}(n:NoAttr K C f):PySem.W.takerIn K C f=some none:=by
 unfold PySem.W.takerIn
 rw [show PySem.W.findIn K (.ref C) f=some none from n]
 rfl
structure gr(K:Frag)(C:Addr)(m:Str)(f:Addr):Prop where
 at_:PySem.W.findIn K (.ref C) m=some (some (.ref f))
 fn:PySem.W.isFn K (.ref f)=true
 kp:PySem.W.keepIn K (.ref f)=true
section
variable {X:Cx}{pins:List (Addr×Obj)}{σ:St}{H:Hp}{s:Shared}{a C dx:Addr}{fs:List (Str×V)}{f:Str}{v:V}{A:Around}{E:Value->Shared->Prop}
theorem kT{b:Bool}{Q:Value->Shared->Prop}(I:Inv X pins σ H s)(e:H a=some (.ins C dx fs))(c:Cls X.K C)(n:NoAttr X.K C f)(l:fs.lookup f=some v)
  (h:∀u s',Inv X pins σ H s'->RelV v u->Q u s'):wpAny (model X.prog X.w) A (getAttr (.ref a) f b) Q E s:=by
 obtain ⟨mA,O,r,_,_,_⟩:=jS I.hok e
 obtain ⟨u,hu,ru⟩:=RelO.some_of (v:=v) (o:=mA f) (by rw [← l];exact r f)
 exact xU I.kIn O (c.get f) c.hd n hu (tj ru) (h u _ (I.tok _) ru)
theorem hZ{m:Str}{g:Addr}{pl:Sem Bool}{Q:Value×List Value->Shared->Prop}(I:Inv X pins σ H s)(e:H a=some (.ins C dx fs))(c:Cls X.K C)(k:gr X.K C m g)(l:fs.lookup m=none)
  (h:Q (.ref g,[.ref a]) s):wpAny (model X.prog X.w) A (getMethod (.ref a) m pl) Q E s:=by
 obtain ⟨mA,O,r,_,_,_⟩:=jS I.hok e
 have hn:mA m=none:=RelO.none_of (by rw [← l];exact r m)
 exact vZ I.kIn O (c.get m) k.at_ k.fn hn h
theorem ka{y:V}{u:Value}{Q:Unit->Shared->Prop}(I:Inv X pins σ H s)(e:H a=some (.ins C dx fs))(c:Cls X.K C)(n:NoAttr X.K C f)(hl:fs.length<1000)(ry:RelV y u)
  (h:∀s',Inv X pins σ (upd H a (.ins C dx (aq f y fs))) s'->Q () s'):wpAny (model X.prog X.w) A (setAttr (.ref a) f u) Q E s:=by
 obtain ⟨mA,O,r,wi,_,ho⟩:=jS I.hok e
 have hz:(fs.map (·.1)).length<=sizeLine:=by rw [List.length_map,sizeLine_eq];omega
 refine jP I.kIn O c.sa c.po n.taker c.hd wi hz λh' O' sb=>h _ ?_
 have hd:∃o,h'.get? dx=some o:=let ⟨o,_,_,e',_⟩:=O'.ns;⟨o,e'⟩
 refine I.write (x:=a) (e:=dx) (by rw [e];exact True.intro) (.inr ho) (λb q hb z=>(sb.2 b hb).trans z) hd ?_
 refine ⟨by rw [am O.ne];exact ho,?_,O.ne,O'.obj,_,O'.ns,λg=>?_,λg hg=>?_⟩
 ·have:=cS f y fs;omega
 ·show RelO ((aq f y fs).lookup g) (if g=f then some u else mA g)
  rw [ah]
  by_cases q:g=f
  ·rw [if_pos q,if_pos q];exact ry
  ·rw [if_neg q,if_neg q];exact r g
 ·by_cases q:g=f
  ·rw [q];exact (jj f y fs).1
  ·refine (jj f y fs).2 g (wi g λz=>hg ?_)
   show (if g=f then some u else mA g)=none
   rw [if_neg q];exact z
theorem Inv.made(I:Inv X pins σ H s):Inv X pins σ (upd (upd H s.heap.objs.size (.own (s.heap.objs.size+1))) (s.heap.objs.size+1) (.ins C s.heap.objs.size []))
  {s with heap:=(s.heap.push PySem.W.emptyDict).push (PySem.W.instObj C s.heap.objs.size)}:=by
 have e1:(s.heap.push PySem.W.emptyDict).get? s.heap.objs.size=some PySem.W.emptyDict:=ψ s.heap rfl
 have e2:((s.heap.push PySem.W.emptyDict).push (PySem.W.instObj C s.heap.objs.size)).get? (s.heap.objs.size+1)=some (PySem.W.instObj C s.heap.objs.size):=by
  have:=ψ (s.heap.push PySem.W.emptyDict) (o:=PySem.W.instObj C s.heap.objs.size) rfl
  rwa [Heap.size_push] at this
 have e3:(s.heap.push PySem.W.emptyDict).Ns s.heap.objs.size (λ_=>none):=⟨PySem.W.emptyDict,#[],_,e1,rfl,(λe he=>absurd he (by simp)),λ_=>rfl⟩
 have I1:=I.laid (a:=s.heap.objs.size) (o:=.own (s.heap.objs.size+1)) (h':=s.heap.push PySem.W.emptyDict) (t':=s.toks) (λb u q=>ρ _ q) (ι _) ⟨_,e1⟩
 refine I1.laid (a:=s.heap.objs.size+1) (o:=.ins C s.heap.objs.size []) (t':=s.toks) (λb u q=>ρ _ q) (Nat.le_of_eq (Heap.size_push _ _)) ?_
 have ne:s.heap.objs.size≠s.heap.objs.size+1:=Φ (Nat.lt_succ_self _)
 refine ⟨by rw [am ne,ad],Nat.zero_le _,ne,e2,λ_=>none,(Heap.Ns1.of_empty e3).at λo q=>ρ _ q,λ_=>True.intro,λy hy=>absurd rfl hy⟩
theorem ye{prog:Program}{w:World}{env:Env}{e:Expr}{f:Str}{pos:Pos}{s:Shared}{Q:Value->Shared->Prop}(hb:attributeBase e f env (eval e env)=eval e env)
  (h:wpAny (model prog w) A (eval e env) (λo s₁=>wpAny (model prog w) A (getAttr o f true) Q E s₁) E s):wpAny (model prog w) A (eval (.Attribute e f pos) env) Q E s :=
 Attribute_any_ h (by rw [arm_eval_Attribute,hb])
end
def su(K:Frag)(ta:TE)(f:Str):TE:=fun σ H Q=>ta σ H λx H1=>∃a C dx fs v,x=.ref a/\H1 a=some (.ins C dx fs)/\Cls K C/\NoAttr K C f/\fs.lookup f=some v/\Q v H1
def Bo(K:Frag)(ta tv:TE)(f:Str):TS:=λD σ H=>tv σ H λy H1=>ta σ H1 λx H2=>∃a C dx fs,x=.ref a/\H2 a=some (.ins C dx fs)/\Cls K C/\NoAttr K C f/\fs.length<1000 /\
 D.nx σ (upd H2 a (.ins C dx (aq f y fs)))
def Bc(X:Cx)(op:Operator)(rd:V->V->Hp->VK->Prop):Prop :=
 ∀(pins:List (Addr×Obj)) (s:Shared) (σ:St) (H:Hp) (x y:V) (u v:Value) (Q:VK),Inv X pins σ H s->RelV x u->RelV y v->rd x y H Q->wpAny (model X.prog X.w) X.A (inplaceOp op u v) (EP X pins σ Q) X.xe s
def wV(K:Frag)(ta tv:TE)(rd:V->V->Hp->VK->Prop)(f:Str):TS:=λD σ H=>ta σ H λx H1=>∃a C dx fs v,x=.ref a/\H1 a=some (.ins C dx fs)/\Cls K C/\NoAttr K C f/\fs.lookup f=some v /\
 tv σ H1 λy H2=>rd v y H2 λz H3=>∃dx' fs',H3 a=some (.ins C dx' fs')/\fs'.length<1000/\D.nx σ (upd H3 a (.ins C dx' (aq f z fs')))
section
variable {X:Cx}{o e value:Expr}{f:Str}{pos pos' tpos:Pos}{ta tv:TE}
theorem aw(he:PE X e ta)(hb:attributeBase e f X.env (eval e X.env)=eval e X.env):PE X (.Attribute e f pos) (su X.K ta f):=by
 intro pins s σ H Q I h
 refine ye hb (thn (he pins s σ H _ I h) λu s1 ⟨x,H1,I1,rx,a,C,dx,fs,v,ex,ea,c,n,l,q⟩=>?_)
 subst ex
 obtain rfl:u=Value.ref a:=rx
 exact kT I1 ea c n l λu' s2 I2 ru=>⟨v,H1,I2,ru,q⟩
theorem aM(ha:PE X o ta)(hv:PE X value tv)(hs:swapsWith value (some (.Attribute o f pos')) pos.line X.env=pure false):PS X (.Assign [.Attribute o f pos'] value pos) (Bo X.K ta tv f):=by
 intro pins s σ H D I h
 refine plainObj_wpAny_Assign_Attribute (thn (hv pins s σ H _ I h) λu s1 ⟨y,H1,I1,ry,q⟩=>thn (ha pins s1 σ H1 _ I1 q) λov s2 ⟨x,H2,I2,rx,a,C,dx,fs,ex,ea,c,n,l,q2⟩=>?_) hs
 subst ex
 obtain rfl:ov=Value.ref a:=rx
 exact ka I2 ea c n l ry λs3 I3=>⟨σ,_,I3,q2⟩
theorem l4{op:Operator}{rd:V->V->Hp->VK->Prop}(ha:PE X o ta)(hv:PE X value tv)(hop:Bc X op rd):PS X (.AugAssign (.Attribute o f tpos) op value pos) (wV X.K ta tv rd f):=by
 intro pins s σ H D I h
 refine wpAny_AugAssign_AttributeAny (thn (ha pins s σ H _ I h) λov s1 ⟨x,H1,I1,rx,a,C,dx,fs,v,ex,ea,c,n,l,q⟩=>?_)
 subst ex
 obtain rfl:ov=Value.ref a:=rx
 refine kT I1 ea c n l λu s2 I2 ru=>thn (hv pins s2 σ H1 _ I2 q) λw3 s3 ⟨y,H2,I3,ry,q3⟩=>thn (hop pins s3 σ H2 v y u w3 _ I3 ru ry q3) λw4 s4 ⟨z,H3,I4,rz,dx',fs',ea',l',q4⟩=>?_
 exact ka I4 ea' c n l' rz λs5 I5=>⟨σ,_,I5,q4⟩
def Br:V->V->Hp->VK->Prop:=λx y H Q=>∃i j,x=.int i/\y=.int j/\Q (.int (i+j)) H
theorem vW:Bc X .Add Br:=by
 rintro pins s σ H x y u v Q I rx ry ⟨i,j,rfl,rfl,q⟩
 obtain ⟨t,rfl⟩:=(show ∃t,u=Value.int i t from rx)
 obtain ⟨t',rfl⟩:=(show ∃t',v=Value.int j t' from ry)
 exact PyProof.Rows.iadd_int ⟨.int (i+j),H,I.tok _,⟨_,rfl⟩,q⟩
end
section
variable {X:Cx}{pins:List (Addr×Obj)}{σ:St}{H:Hp}{s:Shared}{A:Around}{E:Value->Shared->Prop}{Q:Value->Shared->Prop}{c:Value}{b:Bool}
inductive TyOf (K:Frag) (H:Hp):V->Value->Prop where
 | non:TyOf K H .non (.type "NoneType")
 | bl (x:Bool):TyOf K H (.bl x) (.type "bool")
 | int (i:Int):TyOf K H (.int i) (.type "int")
 | str (x:Str):TyOf K H (.str x) (.type "str")
 | flt (x:UInt64):TyOf K H (.flt x) (.type "float")
 | lst {a:Addr} {xs:List V} (e:H a=some (.lst xs)):TyOf K H (.ref a) (.type "list")
 | frz {a:Addr} {o:Obj} {xs:List V} (e:H a=some (.frz o (.lst xs))):TyOf K H (.ref a) (.type "list")
 | tup {a:Addr} {xs:List V} (e:H a=some (.tup xs)):TyOf K H (.ref a) (.type "tuple")
 | dK {a:Addr} {kvs:List (Key×V)} (e:H a=some (.dK kvs)):TyOf K H (.ref a) (.type "dict")
 | dT {a:Addr} {kvs:List (List Key×V)} (e:H a=some (.dT kvs)):TyOf K H (.ref a) (.type "dict")
 | ins {a C dx:Addr} {fs:List (Str×V)} (e:H a=some (.ins C dx fs)) (cl:Cls K C) (ha:PySem.W.findIn K (.ref C) "__class__"=some (some (.builtin "object.__class__")))
   (hn:PySem.W.specialIn K (.builtin "object.__class__") "__get__"=some (some (.builtin "getset_descriptor.__get__"))) (htk:PySem.W.takesIn K (.builtin "object.__class__")=some true)
   (hm:PySem.W.mroIn K C (.type "object")=some true):TyOf K H (.ref a) (.ref C)
theorem sX{x:V}{u t:Value}(I:Inv X pins σ H s)(rx:RelV x u)(ty:TyOf X.K H x t)(e:PySem.W.kitOne X.K t c=some b)(h:∀tk,Q (.bool b) {s with toks:=tk}) :
  wpAny (model X.prog X.w) A (call (.builtin "isinstance") [u,c]) Q E s:=by
 cases ty with
 | non=>cases (show u=Value.none from rx);exact PySem.W.kia_one PySem.W.kitx_none I.kIn True.intro e (λz=>nomatch z) h
 | bl y=>cases (show u=Value.bool y from rx);exact PySem.W.kia_one PySem.W.kitx_bool I.kIn True.intro e (λz=>nomatch z) h
 | int i=>obtain ⟨t,q⟩:=(show ∃t,u=Value.int i t from rx);cases q;exact PySem.W.kia_one PySem.W.kitx_int I.kIn True.intro e (λz=>nomatch z) h
 | str y=>obtain ⟨t,q⟩:=(show ∃t,u=Value.str y t from rx);cases q;exact PySem.W.kia_one PySem.W.kitx_str I.kIn True.intro e (λz=>nomatch z) h
 | flt y=>obtain ⟨t,q⟩:=(show ∃t,u=Value.float y t from rx);cases q;exact PySem.W.kia_one PySem.W.kitx_float I.kIn True.intro e (λz=>nomatch z) h
 | @lst a xs ea =>
  cases (show u=Value.ref a from rx)
  obtain ⟨_,_,n,_,h1⟩:=(show ObjOk X.prog X.w H s.heap a (.lst xs) from I.hok a _ ea)
  exact PySem.W.kia_one PySem.W.kitx_list I.kIn ⟨_,h1,rfl⟩ e (λz=>nomatch z) h
 | @frz a ob xs ea =>
  cases (show u=Value.ref a from rx)
  obtain ⟨_,_,_,n,_,h1⟩:=(show ObjOk X.prog X.w H s.heap a (.frz ob (.lst xs)) from I.hok a _ ea)
  exact PySem.W.kia_one PySem.W.kitx_list I.kIn ⟨_,h1,rfl⟩ e (λz=>nomatch z) h
 | @tup a xs ea =>
  cases (show u=Value.ref a from rx)
  obtain ⟨_,_,_,p⟩:=(show ObjOk X.prog X.w H s.heap a (.tup xs) from I.hok a _ ea)
  obtain ⟨o,h1,h2,_⟩:=p
  exact PySem.W.kia_one PySem.W.kitx_tuple I.kIn ⟨o,h1,h2⟩ e (λz=>nomatch z) h
 | @dK a kvs ea =>
  cases (show u=Value.ref a from rx)
  obtain ⟨_,_,vs,_,p⟩:=(show ObjOk X.prog X.w H s.heap a (.dK kvs) from I.hok a _ ea)
  obtain ⟨o,es,ep,h1,h2,_⟩:=p
  exact PySem.W.kia_one PySem.W.kitx_dict I.kIn ⟨o,h1,h2.1⟩ e (λz=>nomatch z) h
 | @dT a kvs ea =>
  cases (show u=Value.ref a from rx)
  obtain ⟨_,_,xs,_,o,es,ep,h1,h2,_⟩:=(show ObjOk X.prog X.w H s.heap a (.dT kvs) from I.hok a _ ea)
  exact PySem.W.kia_one PySem.W.kitx_dict I.kIn ⟨o,h1,h2.1⟩ e (λz=>nomatch z) h
 | @ins a C dx fs ea cl ha hn htk hm =>
  cases (show u=Value.ref a from rx)
  obtain ⟨mA,O,_⟩:=jS I.hok ea
  obtain ⟨od,J,_⟩:=O.look
  exact PySem.W.kia_one (PySem.W.kitx_own (cl.get _) cl.hd ha hn htk hm) I.kIn J e (λz=>nomatch z) h
end
end L2
namespace L2
open PySem PySem.Spec PyProof.Rows
structure Room(k:Nat)(A:Around):Prop where
 hd:A.handled=none
 dp:A.depth+3*k+5<recursionLimit
 un:A.units+16*k+200<cLine
theorem Room.mono{j k:Nat}{A:Around}(r:Room k A)(h:j<=k):Room j A:=⟨r.hd,by have:=r.dp;omega,by have:=r.un;omega⟩
theorem Room.deeper{k:Nat}{A:Around}(r:Room (k+1) A)(env:Env):Room k (A.deeper env) :=
 ⟨r.hd,by have:=r.dp;show A.depth+1+3*k+5<_;omega,by have:=r.un;show A.units+3+16*k+200<_;omega⟩
theorem qr{A:Around}{C:Addr}{us:List Value}{kw:List (Str×Value)}:(A.under (.builtin "type.__call__" ⟨.ref C::us,kw⟩)).depth=A.depth+1:=by
 first | rfl | simp [Around.under,Code.weight,Code.isCreation,Code.isGuard,Code.isCaller,Code.frames,Code.isFrame,guardIds]
theorem qq{A:Around}{C:Addr}{us:List Value}{kw:List (Str×Value)}:(A.under (.builtin "type.__call__" ⟨.ref C::us,kw⟩)).units=A.units+1:=by
 first | rfl | simp [Around.under,Code.cUnits,Code.frames,Code.isFrame]
theorem Room.make{k:Nat}{A:Around}(r:Room (k+1) A)(C:Addr)(us:List Value)(kw:List (Str×Value)):Room k (A.under (.builtin "type.__call__" ⟨.ref C::us,kw⟩)) :=
 ⟨r.hd,by have:=r.dp;rw [qr];omega,by have:=r.un;rw [qq];omega⟩
theorem Room.depth{k:Nat}{A:Around}(r:Room k A):A.depth<recursionLimit:=by have:=r.dp;omega
theorem Room.units{k:Nat}{A:Around}(r:Room k A):A.units+64<cLine:=by have:=r.un;omega
def uf:TA:=λ_ H Q=>Q [] H
def yp(ta:TE)(tr:TA):TA:=fun σ H Q=>ta σ H λx H1=>tr σ H1 λxs H2=>Q (x::xs) H2
section
variable {X:Cx}{e:Expr}{es:List Expr}{te:TE}{t:TA}{pos:Pos}
theorem ag:PA X [] uf:=λ_ _ _ _ H Q I h=>Calls.spliced_nil ⟨[],H,I,.nil,h⟩
theorem ac(ha:PE X e te)(hr:PA X es t)(hs:starEach (e::es) X.env=(false,eval e X.env)::starEach es X.env:=by rfl):PA X (e::es) (yp te t):=by
 intro pos pins s σ H Q I h
 rw [hs]
 show wpAny _ _ (spliced ((false,eval e X.env)::backTo pos (starEach es X.env))) _ _ s
 refine Calls.spliced_cons (thn (ha pins s σ H _ I h) λu s1 ⟨x,H1,I1,r1,q1⟩=>?_)
 exact thn (hr pos pins s1 σ H1 _ I1 q1) λus s2 ⟨xs,H2,I2,r2,q2⟩=>⟨x::xs,H2,I2,.cons r1 r2,q2⟩
def Be(t:TA):TE:=fun σ H Q=>t σ H λxs H1=>xs.length<=sizeLine/\∀p,H1 p=none->Q (.ref p) (upd H1 p (.tup xs))
def Bk(t:TA):TE:=fun σ H Q=>t σ H λxs H1=>xs.length<=sizeLine/\∀p,H1 p=none->Q (.ref p) (upd H1 p (.lst xs))
theorem aY{x1}(h:PA X es t):PE X (.Tuple es x1 pos) (Be t):=by
 intro pins s σ H Q I hq
 refine wpAny_Tuple_spliced (thn (h pos pins s σ H _ I hq) λus s1 ⟨xs,H1,I1,r,z,q⟩=>⟨by rw [← r.length];exact z,?_⟩)
 have hf:H1 s1.heap.objs.size=none:=I1.hok.fresh (ι _)
 refine ⟨.ref s1.heap.objs.size,upd H1 s1.heap.objs.size (.tup xs),I1.laid (t':=s1.toks) (λb u e=>ρ _ e) (ι _) ?_,rfl,q _ hf⟩
 exact ⟨z,us,r,⟨_,ψ _ rfl,rfl,_,rfl⟩⟩
theorem cX(h:PA X es t):PE X (.List es pos) (Bk t):=by
 intro pins s σ H Q I hq
 refine wpAny_List_spliced (thn (h pos pins s σ H _ I hq) λus s1 ⟨xs,H1,I1,r,z,q⟩=>⟨by rw [← r.length];exact z,?_⟩)
 have hf:H1 s1.heap.objs.size=none:=I1.hok.fresh (ι _)
 refine ⟨.ref s1.heap.objs.size,upd H1 s1.heap.objs.size (.lst xs),I1.laid (t':=s1.toks) (λb u e=>ρ _ e) (ι _) ?_,rfl,q _ hf⟩
 exact ⟨z,us,0,r,ψ _ rfl⟩
end
abbrev Sp:=List V->Hp->VK->XK->Prop
abbrev CXT:=List Env->Hp->Shared->XK->Value->Shared->Prop
structure Env0(P:Program)(w:World)(K:Frag)(mg:Str->Option Value)(base:Heap)(A:Around)(outer:List Env)(s:Shared)(H:Hp):Prop where
 frames:A.frames=some outer
 mod:Mod K mg base
 bs:∀b o,base.get? b=some o->s.heap.get? b=some o/\H b=none
 bsz:base.objs.size<=s.heap.objs.size
 funs:s.heap.FunFrames base outer
 frf:∀b∈frs outer,H b=none
 hok:HOk P w H s.heap
 bare:AllBare s.gens
def CE(outer:List Env)(P:Program)(w:World)(H:Hp)(s:Shared)(Q:VK)(u:Value)(s':Shared):Prop :=
 ∃v H',s'.os=s.os/\AllBare s'.gens/\Un (frs outer) [] H H' s.heap s'.heap/\HOk P w H' s'.heap/\RelV v u/\Q v H'
def CR(CX:CXT)(outer:List Env)(P:Program)(w:World)(H:Hp)(s:Shared)(Q:VK)(E:XK)(r:Result)(s':Shared):Prop :=
 match r with
 | .ok (.ret u)=>CE outer P w H s Q u s'
 | .ok _=>False
 | .error e=>CX outer H s E e s'
structure FnOk(P:Program)(w:World)(K:Frag)(mg:Str->Option Value)(base:Heap)(CX:CXT)(k:Nat)(f:Addr)(fd:FuncData)(ps:List Str)(sp:Sp):Prop where
 len:∀vs H Q E,sp vs H Q E->vs.length=ps.length
 run:∀(A:Around) (outer:List Env) (s:Shared) (H:Hp) (args:Args) (us:List Value) (vs:List V) (Q:VK) (E:XK),Room k A->Env0 P w K mg base A outer s H->BindsTo s fd args (ps.zip us)->Vals vs us->sp vs H Q E ->
  codeAny (model P w) A (.call (.ref f) args) (CR CX outer P w H s Q E) s
theorem FnOk.mono{P:Program}{w:World}{K:Frag}{mg:Str->Option Value}{base:Heap}{CX:CXT}{j k:Nat}{f:Addr}{fd:FuncData}{ps:List Str}{sp:Sp}(F:FnOk P w K mg base CX j f fd ps sp)(h:j<=k) :
  FnOk P w K mg base CX k f fd ps sp:=⟨F.len,λA outer s H args us vs Q E hr=>F.run A outer s H args us vs Q E (hr.mono h)⟩
theorem FnOk.imp{P:Program}{w:World}{K:Frag}{mg:Str->Option Value}{base:Heap}{CX:CXT}{k:Nat}{f:Addr}{fd:FuncData}{ps:List Str}{sp sp':Sp}(F:FnOk P w K mg base CX k f fd ps sp)
  (h:∀vs H Q E,sp' vs H Q E->sp vs H Q E):FnOk P w K mg base CX k f fd ps sp' :=
 ⟨λvs H Q E q=>F.len vs H Q E (h _ _ _ _ q),λA outer s H args us vs Q E hr he hb hv hs=>F.run A outer s H args us vs Q E hr he hb hv (h _ _ _ _ hs)⟩
theorem Env0.make{P:Program}{w:World}{K:Frag}{mg:Str->Option Value}{base:Heap}{A:Around}{outer:List Env}{s:Shared}{H:Hp}(e:Env0 P w K mg base A outer s H)(C:Addr)(us:List Value)(kw:List (Str×Value)) :
  Env0 P w K mg base (A.under (.builtin "type.__call__" ⟨.ref C::us,kw⟩)) outer s H:=⟨by first | exact e.frames | (simpa [Around.under,Code.envs,Code.isFrame,pushEnvs] using e.frames),e.mod,e.bs,e.bsz,e.funs,e.frf,e.hok,e.bare⟩
section
variable {X:Cx}{pins:List (Addr×Obj)}{σ:St}{H:Hp}{s s':Shared}
theorem Inv.env0(I:Inv X pins σ H s):Env0 X.prog X.w X.K X.mg X.base X.A X.stack s H :=
 ⟨I.ok.frames,I.ok.mod,I.bs,Λ I.ok.bsz I.sz,I.stack,I.stkFree,I.hok,I.bare⟩
theorem Inv.after{Q:VK}{u:Value}(I:Inv X pins σ H s)(h:CE X.stack X.prog X.w H s Q u s'):EP X pins σ Q u s':=by
 obtain ⟨v,H',os,bare,un,hok,r,q⟩:=h
 obtain ⟨hh,g,d,t,os'⟩:=s'
 obtain rfl:os'=s.os:=os
 exact ⟨v,H',I.call (h':=hh) (g':=g) (d':=d) (t':=t) (ch:=[]) un hok bare (λb z=>absurd z (by simp)),r,q⟩
end
def uh(sp:Sp)(dvs:List V)(E:XK)(t:TA):TE:=fun σ H Q=>t σ H λvs H1=>sp (vs++dvs) H1 Q E
def qQ(C:Addr)(m:Str)(sp:Sp)(dvs:List V)(E:XK)(ta:TE)(t:TA):TE:=fun σ H Q=>ta σ H λx H1=>∃a dx fs,x=.ref a/\H1 a=some (.ins C dx fs)/\fs.lookup m=none /\
 t σ H1 λvs H2=>sp (x::(vs++dvs)) H2 Q E
def yo(C:Addr)(sp:Sp)(dvs:List V)(E:XK)(t:TA):TE:=fun σ H Q=>t σ H λvs H1=>∀x dx,H1 x=none->H1 dx=none->dx≠x ->
 sp (.ref x::(vs++dvs)) (upd (upd H1 dx (.own x)) x (.ins C dx [])) (λv H2=>v=.non/\Q (.ref x) H2) E
def Binds(K:Frag)(fd:FuncData)(ps:List Str)(ds:List Value):Prop :=
 ∀(s:Shared) (us:List Value),K.In s.heap->(us++ds).length=ps.length->BindsTo s fd ⟨us,[]⟩ (ps.zip (us++ds))
theorem Binds.all{K:Frag}{fd:FuncData}{ps:List Str}(h:∀us:List Value,us.length=ps.length->bindArgs fd ⟨us,[]⟩=pure (ps.zip us)):Binds K fd ps []:=λs us _ hl=>by
 rw [List.append_nil] at hl ⊢
 exact .of_eq (h us hl)
def cJ(CX:CXT)(X:Cx)(E:XK):Prop:=∀(pins:List (Addr×Obj)) (σ:St) (H:Hp) (s:Shared) (e:Value) (s':Shared),Inv X pins σ H s->CX X.stack H s E e s'->X.xe e s'
section
variable {X:Cx}{CX:CXT}{k:Nat}{f C:Addr}{fd:FuncData}{ps:List Str}{sp:Sp}{dvs:List V}{ds:List Value}{E:XK}{x m:Str}{p pos apos:Pos}{e o:Expr}{es:List Expr}{ta:TE}{t:TA}
theorem nt{pins:List (Addr×Obj)}{σ:St}{H:Hp}{s:Shared}{Q:VK}{us:List Value}{vs:List V}(F:FnOk X.prog X.w X.K X.mg X.base CX k f fd ps sp)(hr:Room k X.A)(hb:Binds X.K fd ps ds)(hd:Vals dvs ds)(hx:cJ CX X E)
  (I:Inv X pins σ H s)(r:Vals vs us)(h:sp (vs++dvs) H Q E):wpAny (model X.prog X.w) X.A (call (.ref f) us) (EP X pins σ Q) X.xe s:=by
 have r2:Vals (vs++dvs) (us++ds):=r.append hd
 have hl:(us++ds).length=ps.length:=by rw [← r2.length];exact F.len _ _ _ _ h
 refine wpAny_call (codeAny_mono (F.run X.A X.stack s H ⟨us,[]⟩ (us++ds) (vs++dvs) Q E hr I.env0 (hb s us I.kIn hl) r2 h) λr s' hq=>?_)
 cases r with
 | error e=>exact hx pins σ H s e s' I hq
 | ok fl =>
  cases fl with
  | ret u=>exact I.after hq
  | next=>exact False.elim hq
  | brk=>exact False.elim hq
  | cont=>exact False.elim hq
theorem rE(F:FnOk X.prog X.w X.K X.mg X.base CX k f fd ps sp)(hr:Room k X.A)(hg:Gl X x)(hm:X.mg x=some (.ref f))(hk:PySem.W.keepIn X.K (.ref f)=true)(hb:Binds X.K fd ps ds)(hd:Vals dvs ds)(hx:cJ CX X E)
  (ha:PA X (e::es) t)(hdb:(x==("__debug__":Str))=false:=by decide)(he:starEach (e::es) X.env=(false,eval e X.env)::starEach es X.env:=by rfl)(hpl:(backTo pos (starEach es X.env)).any (·.1)=false:=by rfl) :
  PE X (.Call (.Name x p) (e::es) [] pos) (uh sp dvs E t):=by
 intro pins s σ H Q I h
 refine wpAny_Call_Name_kw (iG I hg hm ?_ hdb)
 refine PySem.W.callWith_K (h₀:=X.base) I.ok.mod.kin hk (thn (ha pos pins s σ H _ I h) λus s1 ⟨vs,H1,I1,r,q⟩=>⟨I1.kIn,?_⟩) he hpl
 exact nt F hr hb hd hx I1 r q
theorem gN{pl:Sem Bool}(he:PE X o ta)(c:Cls X.K C)(hm:gr X.K C m f)(F:FnOk X.prog X.w X.K X.mg X.base CX k f fd ps sp)(hr:Room k X.A)(hb:Binds X.K fd ps ds)(hd:Vals dvs ds)(hx:cJ CX X E)(ha:PA X (e::es) t)
  (hst:starEach (e::es) X.env=(false,eval e X.env)::starEach es X.env:=by rfl)(hpl:(backTo pos (starEach es X.env)).any (·.1)=false:=by rfl)
  (ht:eval (.Call (.Attribute o m apos) (e::es) [] pos) X.env=(do
   let ov ← eval o X.env
   standAt apos.atName
   let (f,first) ← holding [ov] (getMethod ov m pl)
   callWith pos f first (backTo pos (starEach (e::es) X.env)) (backToKw pos (keywordEach [] X.env))):=by rfl) :
  PE X (.Call (.Attribute o m apos) (e::es) [] pos) (qQ C m sp dvs E ta t):=by
 intro pins s σ H Q I h
 refine PySem.W.methodCall_KW (pl:=pl) (thn (he pins s σ H _ I h) λu s1 ⟨x,H1,I1,rx,a,dx,fs,ex,ea,l,q⟩=>?_) ht
 subst ex
 obtain rfl:u=Value.ref a:=rx
 refine hZ I1 ea c hm l ?_
 refine PySem.W.callWith_K (first:=[.ref a]) (h₀:=X.base) I.ok.mod.kin hm.kp (thn (ha pos pins s1 σ H1 _ I1 q) λus s2 ⟨vs,H2,I2,r,q2⟩=>⟨I2.kIn,?_⟩) hst hpl
 exact nt (us:=.ref a::us) (vs:=.ref a::vs) F hr hb hd hx I2 (.cons rfl r) q2
theorem ip{pl:Sem Bool}(he:PE X o ta)(c:Cls X.K C)(hm:gr X.K C m f)(F:FnOk X.prog X.w X.K X.mg X.base CX k f fd ps sp)(hr:Room k X.A)(hb:Binds X.K fd ps ds)(hd:Vals dvs ds)(hx:cJ CX X E)
  (ht:eval (.Call (.Attribute o m apos) [] [] pos) X.env=(do
   let ov ← eval o X.env
   standAt apos.atName
   let (f,first) ← holding [ov] (getMethod ov m pl)
   callWith pos f first (backTo pos (starEach [] X.env)) (backToKw pos (keywordEach [] X.env))):=by rfl) :
  PE X (.Call (.Attribute o m apos) [] [] pos) (qQ C m sp dvs E ta uf):=by
 intro pins s σ H Q I h
 refine PySem.W.methodCall_KW (pl:=pl) (thn (he pins s σ H _ I h) λu s1 ⟨x,H1,I1,rx,a,dx,fs,ex,ea,l,q⟩=>?_) ht
 subst ex
 obtain rfl:u=Value.ref a:=rx
 refine hZ I1 ea c hm l ?_
 exact PySem.W.callWith_K0 (first:=[.ref a]) I1.kIn hm.kp (nt (us:=[.ref a]) (vs:=[.ref a]) F hr hb hd hx I1 (.cons rfl .nil) q)
structure Mk(K:Frag)(C f:Addr):Prop where
 makes:PySem.W.makesIn K C=true
 init:PySem.W.findIn K (.ref C) "__init__"=some (some (.ref f))
 fn:PySem.W.isFn K (.ref f)=true
 kp:PySem.W.keepIn K (.ref C)=true
theorem oE{pins:List (Addr×Obj)}{σ:St}{H:Hp}{s:Shared}{Q:VK}{us:List Value}{vs:List V}(M:Mk X.K C f)(F:FnOk X.prog X.w X.K X.mg X.base CX k f fd ps sp)(hr:Room (k+1) X.A)(hb:Binds X.K fd ps ds)(hd:Vals dvs ds)
  (hx:cJ CX X E)(I:Inv X pins σ H s)(r:Vals vs us)
  (h:∀x dx,H x=none->H dx=none->dx≠x->sp (.ref x::(vs++dvs)) (upd (upd H dx (.own x)) x (.ins C dx [])) (λv H2=>v=.non/\Q (.ref x) H2) E) :
  wpAny (model X.prog X.w) X.A (call (.ref C) us) (EP X pins σ Q) X.xe s:=by
 have hq:=h (s.heap.objs.size+1) s.heap.objs.size (I.hok.fresh (Nat.le_succ _)) (I.hok.fresh (ι _)) (Φ (Nat.lt_succ_self _))
 have I2:=Inv.made (C:=C) I
 have r2:Vals (V.ref (s.heap.objs.size+1)::(vs++dvs)) (Value.ref (s.heap.objs.size+1)::(us++ds)):=.cons rfl (r.append hd)
 have hl:(Value.ref (s.heap.objs.size+1)::us++ds).length=ps.length:=by
  have e:=r2.length
  rw [F.len _ _ _ _ hq] at e
  exact e.symm
 refine wpAny_call (vO (f:=f) I.kIn M.makes M.init (beq_iff_eq.mp M.fn) (codeAny_mono (F.run _ X.stack _ _ ⟨Value.ref (s.heap.objs.size+1)::us,[]⟩ (Value.ref (s.heap.objs.size+1)::(us++ds)) _ _ E (hr.make C us [])
  (I2.env0.make C us []) (hb _ (Value.ref (s.heap.objs.size+1)::us) I2.kIn hl) r2 hq) λr s' hq'=>?_))
 cases r with
 | error e=>exact hx pins σ _ _ e s' I2 hq'
 | ok fl =>
  cases fl with
  | ret u =>
   obtain ⟨v,H',I3,rv,ev,q3⟩:=I2.after hq'
   subst ev
   exact ⟨rv,⟨V.ref (s.heap.objs.size+1),H',I3,rfl,q3⟩⟩
  | next=>exact False.elim hq'
  | brk=>exact False.elim hq'
  | cont=>exact False.elim hq'
theorem bh(M:Mk X.K C f)(F:FnOk X.prog X.w X.K X.mg X.base CX k f fd ps sp)(hr:Room (k+1) X.A)(hg:Gl X x)(hm:X.mg x=some (.ref C))(hb:Binds X.K fd ps ds)(hd:Vals dvs ds)(hx:cJ CX X E)
  (ha:PA X (e::es) t)(hdb:(x==("__debug__":Str))=false:=by decide)(he:starEach (e::es) X.env=(false,eval e X.env)::starEach es X.env:=by rfl)(hpl:(backTo pos (starEach es X.env)).any (·.1)=false:=by rfl) :
  PE X (.Call (.Name x p) (e::es) [] pos) (yo C sp dvs E t):=by
 intro pins s σ H Q I h
 refine wpAny_Call_Name_kw (iG I hg hm ?_ hdb)
 refine PySem.W.callWith_K (h₀:=X.base) I.ok.mod.kin M.kp (thn (ha pos pins s σ H _ I h) λus s1 ⟨vs,H1,I1,r,q⟩=>⟨I1.kIn,?_⟩) he hpl
 exact oE M F hr hb hd hx I1 r q
theorem uR(M:Mk X.K C f)(F:FnOk X.prog X.w X.K X.mg X.base CX k f fd ps sp)(hr:Room (k+1) X.A)(hg:Gl X x)(hm:X.mg x=some (.ref C))(hb:Binds X.K fd ps ds)(hd:Vals dvs ds)(hx:cJ CX X E)
  (hdb:(x==("__debug__":Str))=false:=by decide):PE X (.Call (.Name x p) [] [] pos) (yo C sp dvs E uf):=by
 intro pins s σ H Q I h
 refine wpAny_Call_Name_kw (iG I hg hm ?_ hdb)
 exact PySem.W.callWith_K0 I.kIn M.kp (oE (us:=[]) M F hr hb hd hx I .nil h)
end
section
variable {X:Cx}{CX:CXT}{k:Nat}{f C:Addr}{fd:FuncData}{ps ks:List Str}{sp:Sp}{E:XK}{x m:Str}{p pos apos kpos:Pos}{e o:Expr}{es:List Expr}{kws:List Keyword}{te ta:TE}{t tk:TA}{nm:Option Str}
variable {g:List Value->List Value->List Value}{gV:List V->List V->List V}
end
structure au(N P:List Str)(sc:Scope):Prop where
 kind:sc.kind=.function
 co:sc.isCoroutine=false
 gen:sc.isGenerator=false
 nd:N.Nodup
 pre:N.take P.length=P
 par:∀x∈P,sc.names.lookup x=some .local\/sc.names.lookup x=some .cell
 nofree:∀y∈sc.names,y.2≠.free
theorem mr{kindOf:Str->Option NameKind}{x:Str}:∀{binds:List (Str×Value)} {m:Str->Option Value},(∀v,(x,v)∉binds)->bindL kindOf binds m x=m x
 | [],_,_=>rfl
 | (n,v)::r,m,h=>by
  unfold bindL
  rw [mr λw hw=>h w (Θ _ hw)]
  split
  ·have:x≠n:=by rintro rfl;exact h v Ω
   simp [this]
  ·rfl
theorem mv{kindOf:Str->Option NameKind}{x:Str}:∀{binds:List (Str×Value)} {m:Str->Option Value},(∀v,(x,v)∉binds)->bindC kindOf binds m x=m x
 | [],_,_=>rfl
 | (n,v)::r,m,h=>by
  unfold bindC
  rw [mv λw hw=>h w (Θ _ hw)]
  split
  ·rfl
  ·have:x≠n:=by rintro rfl;exact h v Ω
   simp [this]
theorem mt{kindOf:Str->Option NameKind}{x:Str}{v:Value}:∀{P:List Str} {vs:List Value} {i:Nat} {m:Str->Option Value},P.Nodup->P[i]?=some x->vs[i]?=some v->kindOf x=some .local ->
  bindL kindOf (P.zip vs) m x=some v
 | [],_,_,_,_,h,_,_=>by simp at h
 | _::_,[],_,_,_,_,h,_=>by simp at h
 | p::P,w::vs,0,m,nd,h1,h2,hk=>by
  simp at h1 h2;subst h1;subst h2
  show bindL kindOf ((p,w)::P.zip vs) m p=_
  unfold bindL
  rw [mr λv hv=>(List.nodup_cons.mp nd).1 (List.of_mem_zip hv).1,if_pos hk]
  simp
 | p::P,w::vs,i+1,m,nd,h1,h2,hk=>by
  show bindL kindOf ((p,w)::P.zip vs) m x=_
  unfold bindL
  exact mt (i:=i) (List.nodup_cons.mp nd).2 (by simpa using h1) (by simpa using h2) hk
theorem mw{kindOf:Str->Option NameKind}{x:Str}{v:Value}:∀{P:List Str} {vs:List Value} {i:Nat} {m:Str->Option Value},P.Nodup->P[i]?=some x->vs[i]?=some v->kindOf x≠some .local ->
  bindC kindOf (P.zip vs) m x=some v
 | [],_,_,_,_,h,_,_=>by simp at h
 | _::_,[],_,_,_,_,h,_=>by simp at h
 | p::P,w::vs,0,m,nd,h1,h2,hk=>by
  simp at h1 h2;subst h1;subst h2
  show bindC kindOf ((p,w)::P.zip vs) m p=_
  unfold bindC
  rw [mv λv hv=>(List.nodup_cons.mp nd).1 (List.of_mem_zip hv).1,if_neg hk]
  simp
 | p::P,w::vs,i+1,m,nd,h1,h2,hk=>by
  show bindC kindOf ((p,w)::P.zip vs) m x=_
  unfold bindC
  exact mw (i:=i) (List.nodup_cons.mp nd).2 (by simpa using h1) (by simpa using h2) hk
def start(N:List Str)(vs:List V):St:=vs.map some++List.replicate (N.length-vs.length) none
def qF(CX:CXT)(P:Program)(w:World)(K:Frag)(mg:Str->Option Value)(base:Heap)(N:List Str)(qual:Str)(scope:Scope)(f:Addr)(cd:Value)(A:Around)(outer:List Env)(s:Shared)(H:Hp)(E:XK):Cx where
 prog:=P
 w:=w
 K:=K
 mg:=mg
 base:=base
 A:=A.deeper (envOfC qual scope s.heap.objs.size f cd)
 N:=N
 s₀:=s
 H₀:=H
 env:=envOfC qual scope s.heap.objs.size f cd
 outer:=outer
 stack:=envOfC qual scope s.heap.objs.size f cd::outer
 ex:=[]
 calm:=true
 fn:=λ_=>true
 pn:=[]
 xe:=λe s'=>wpAny (model P w) (A.deeper (envOfC qual scope s.heap.objs.size f cd)) (leaving (envOfC qual scope s.heap.objs.size f cd) e) (λ_ s''=>CX outer H s E e s'') (λe' s''=>CX outer H s E e' s'') s'
theorem pi{sc:Scope}{n:Nat}{x:Str}(h:sc.names.lookup x=some .cell):∃c,(cellsFrom n sc.names []).lookup x=some c:=by
 have q:=PySem.W.cellsFrom_some sc.names n [] (.inl h)
 exact Option.isSome_iff_exists.mp q
theorem sY{CX:CXT}{P:Program}{w:World}{K:Frag}{mg:Str->Option Value}{base:Heap}{N ps:List Str}{qual:Str}{scope:Scope}{f:Addr}{cd:Value}{A:Around}{outer:List Env}{s s1:Shared}{H:Hp}{E:XK}{us:List Value}{vs:List V}
  (S:au N ps scope)(hd:A.handled=none)(e0:Env0 P w K mg base A outer s H)(hl:vs.length=ps.length)(r:Vals vs us)
  (x:InCallC s s.heap.objs.size (bindL (envOfC qual scope s.heap.objs.size f cd).kindOf (ps.zip us) λ_=>none) (cellsFrom (s.heap.objs.size+1) scope.names []) (bindC (envOfC qual scope s.heap.objs.size f cd).kindOf (ps.zip us) λ_=>none) s1) :
  Inv (qF CX P w K mg base N qual scope f cd A outer s H E) [] (start N vs) H s1:=by
 have hpl:ps.length<=N.length:=by have:=congrArg List.length S.pre;rw [List.length_take] at this;omega
 obtain ⟨h1,tk,rfl,hk⟩:=x.done
 have noA:∀b:Addr,b∉(qF CX P w K mg base N qual scope f cd A outer s H E).ex:=λb z=>absurd (show b∈([]:List Addr) from z) (by simp)
 refine ⟨⟨e0.mod,S.kind,rfl,rfl,ι _,λy z c h1 h2=>?_,λy hy=>?_,λy c _ h=>?_,λ_=>hd,Around.frames_deeper e0.frames,.inr ⟨rfl,rfl⟩,λb z=>absurd z (noA b),e0.bs,e0.bsz,λb _ _=>noA b,λb z=>absurd z (noA b),e0.funs,e0.frf⟩,
  rfl,e0.bare,Un.kept hk,⟨_,x.toInCall.ns,λi y v h1 h2 h3=>?_⟩,λy c h=>⟨_,x.cell y c h⟩,e0.hok.fresh (Nat.le_refl _),λy c h=>?_,λp hp=>absurd (show p∈([]:List (Addr×Obj)) from hp) (by simp),e0.hok.kept hk,?_⟩
 ·exact name_of_addr x.apart (PySem.mem_of_lookup h1) (PySem.mem_of_lookup h2)
 ·have hy:scope.names.lookup y=some .cell\/scope.names.lookup y=some .free:=hy
  rcases hy with hy | hy
  ·exact pi hy
  ·exact absurd rfl (S.nofree _ (PySem.mem_of_lookup hy))
 ·exact Nat.le_of_lt (x.above y c (PySem.mem_of_lookup h))
 ·have hi:i<vs.length:=by
   unfold start at h2
   by_cases hi:i<vs.length
   ·exact hi
   ·rw [List.getElem?_append_right (by simpa using hi)] at h2
    rw [List.getElem?_replicate] at h2
    split at h2<;>cases h2
  have ha:vs[i]?=some v:=by
   unfold start at h2
   rw [List.getElem?_append_left (by simpa using hi),List.getElem?_map] at h2
   cases e:vs[i]? with
   | none=>rw [e] at h2;cases h2
   | some a=>rw [e] at h2;cases h2;rfl
  obtain ⟨u,hu,rv⟩:=r.get ha
  have hp:ps[i]?=some y:=by
   rw [← S.pre,List.getElem?_take_of_lt ω];exact h1
  have ndP:ps.Nodup:=by rw [← S.pre];exact S.nd.sublist (List.take_sublist _ _)
  refine ⟨u,rv,?_⟩
  rcases S.par y (List.mem_of_getElem? hp) with k | k
  ·exact .inl ⟨k,mt ndP hp hu k⟩
  ·obtain ⟨c,e⟩:=pi (n:=s.heap.objs.size+1) k
   refine .inr ⟨.inl k,c,e,?_⟩
   have q:=x.cell y c e
   rw [mw ndP hp hu (by show scope.names.lookup y≠_;rw [k];decide)] at q
   exact q
 ·exact e0.hok.fresh (Nat.le_of_lt (x.above y c (PySem.mem_of_lookup h)))
 ·unfold start
  show _=N.length
  rw [List.length_append,List.length_map,List.length_replicate]
  omega
theorem yH{CX:CXT}{P:Program}{w:World}{K:Frag}{mg:Str->Option Value}{base:Heap}{k:Nat}{f:Addr}{name qual:Str}{params:Arguments}{body:List Stmt}{scope:Scope}{dV kV doc pm cdv ct oc:Value}{an od:Option Addr}
  {osl:Array (Option Value)}{N ps:List Str}{sp:Sp}(lk:K.lookup f=some ⟨oc,od,.func (PySem.W.fnOf name qual params body scope dV kV doc pm an cdv ct),osl⟩)(hcd:PySem.W.codeIn K cdv qual=true)(S:au N ps scope)
  (len:∀vs H Q E,sp vs H Q E->vs.length=ps.length)
  (hbody:∀(A:Around) (outer:List Env) (s:Shared) (H:Hp) (vs:List V) (Q:VK) (E:XK),Room k (A.deeper (envOfC qual scope s.heap.objs.size f cdv))->sp vs H Q E ->
   ∃t,PSs (qF CX P w K mg base N qual scope f cdv A outer s H E) body t/\t {nx:=λ_ H'=>Q .non H',rt:=Q} (start N vs) H) :
  FnOk P w K mg base CX (k+1) f (PySem.W.fnOf name qual params body scope dV kV doc pm an cdv ct) ps sp:=by
 refine ⟨len,λA outer s H args us vs Q E hr e0 hb r hsp=>?_⟩
 have hl:=len _ _ _ _ hsp
 have KX:K.In s.heap:=e0.mod.kin.keeps λb o e=>(e0.bs b o e).1
 have lim:s.heap.NoLimit:=e0.mod.nolimit.keeps λb o e=>(e0.bs b o e).1
 have hkind:∀y∈ps.zip us,scope.names.lookup y.1=some .local\/(scope.names.lookup y.1=some .cell/\((cellsFrom (s.heap.objs.size+1) scope.names []).lookup y.1).isSome=true):=λ⟨n,v⟩ hy=>by
  rcases S.par n (List.of_mem_zip hy).1 with q | q
  ·exact .inl q
  ·exact .inr ⟨q,PySem.W.cellsFrom_some _ _ _ (.inl q)⟩
 refine codeAny_call_function hr.depth (KX _ _ lk) rfl S.co S.gen rfl (PySem.W.codeRec_of KX hcd) (hb _ _ _ _ ?_)
 refine wpAny_newFunctionEnv_cells S.kind hkind λenv he s1 x=>?_
 subst he
 refine ⟨lim.keeps x.toInCall.keep,codeAny_func ?_⟩
 obtain ⟨t,ht,hq⟩:=hbody A outer s H vs Q E (hr.deeper _) hsp
 have I:Inv (qF CX P w K mg base N qual scope f cdv A outer s H E) [] (start N vs) H s1:=sY S hr.hd e0 hl r x
 refine wpAny_mono (ht [] s1 (start N vs) H _ I hq) (λfl s' hs=>?_) λe s' hs=>hs
 have fin:∀{σ':St} {H':Hp} {v:V} {u:Value},Inv (qF CX P w K mg base N qual scope f cdv A outer s H E) [] σ' H' s'->RelV v u->Q v H'->CE outer P w H s Q u s' :=
  λ{σ' H' v u} J rv q=>⟨v,H',J.os,J.bare,J.base,J.hok,rv,q⟩
 cases fl with
 | ret u =>
  obtain ⟨v,σ',H',J,rv,q⟩:=hs
  exact fin J rv q
 | next =>
  obtain ⟨σ',H',J,q⟩:=hs
  exact fin (v:=V.non) (u:=Value.none) J rfl q
 | brk =>
  obtain ⟨_,_,_,q⟩:=hs
  exact False.elim q
 | cont =>
  obtain ⟨_,_,_,q⟩:=hs
  exact False.elim q
end L2
namespace L2
open PySem PySem.Spec PyProof.Rows
section
variable {X:Cx}{x:Str}{p pos:Pos}{e:Expr}{es:List Expr}{t:TA}{id T:String}{r:List V->Hp->VK->Prop}
def tCB(r:List V->Hp->VK->Prop)(t:TA):TE:=fun σ H Q=>t σ H λvs H1=>r vs H1 Q
theorem aF(hc:dX X (.builtin id) r)(hg:Gl X x)(hm:X.mg x=none)(hv:bootBuiltins x=some (.builtin id))(ha:PA X (e::es) t)(hn:x≠"__name__":=by decide)(hdb:(x==("__debug__":Str))=false:=by decide)
  (he:starEach (e::es) X.env=(false,eval e X.env)::starEach es X.env:=by rfl)(hpl:(backTo pos (starEach es X.env)).any (·.1)=false:=by rfl):PE X (.Call (.Name x p) (e::es) [] pos) (tCB r t):=by
 intro pins s σ H Q I h
 refine wpAny_Call_Name_kw (kO I hg hm hv ?_ hn hdb)
 exact PyProof.Rows.callWith_builtin1 (thn (ha pos pins s σ H _ I h) λus s1 ⟨vs,H1,I1,r1,q1⟩=>hc pins s1 σ H1 vs us Q I1 r1 q1) he hpl
theorem bc(hc:dX X (.type T) r)(hg:Gl X x)(hm:X.mg x=none)(hv:bootBuiltins x=some (.type T))(ha:PA X (e::es) t)(hn:x≠"__name__":=by decide)(hdb:(x==("__debug__":Str))=false:=by decide)
  (he:starEach (e::es) X.env=(false,eval e X.env)::starEach es X.env:=by rfl)(hpl:(backTo pos (starEach es X.env)).any (·.1)=false:=by rfl):PE X (.Call (.Name x p) (e::es) [] pos) (tCB r t):=by
 intro pins s σ H Q I h
 refine wpAny_Call_Name_kw (kO I hg hm hv ?_ hn hdb)
 exact PyProof.Rows.callWith_type1 (thn (ha pos pins s σ H _ I h) λus s1 ⟨vs,H1,I1,r1,q1⟩=>hc pins s1 σ H1 vs us Q I1 r1 q1) he hpl
end
end L2
namespace HT
open PySem PyProof.Rows
def fg:List Int->List Int->Bool
 | [],[]=>false
 | [],_::_=>true
 | _::_,[]=>false
 | x::xs,y::ys=>if x=y then fg xs ys else decide (x<y)
theorem qw(x y:Int)(xs ys:List Int):fg (x::xs) (y::ys)=if x=y then fg xs ys else decide (x<y):=rfl
theorem lH:fg [] []=false:=rfl
theorem kM(y:Int)(ys:List Int):fg [] (y::ys)=true:=rfl
theorem kN(x:Int)(xs:List Int):fg (x::xs) []=false:=rfl
theorem v9(A:Around)(s:Shared)(a:Int)(t:Tok)(c:Int)(u:Tok):∃e,SeqAt.EqAt A s (.int a t) (.int c u) e/\(e=true↔a=c) :=
 ⟨(a==c),SeqAt.EqAt.int_int a t c u,by simp⟩
theorem uJ(A:Around)(s:Shared)(a:Int)(t:Tok)(c:Int)(u:Tok)(prog:Program)(w:World)(E:Value->Shared->Prop)(Q:Value->Shared->Prop)(h:Q (.bool (decide (a<c))) s) :
  wpAny (model prog w) A (richCompare .Lt (.int a t) (.int c u)) Q E s :=
 (PyProof.Rows.lt_int h:wpAny (model prog w) A (compareOp .Lt (.int a t) (.int c u)) Q E s)
section
open PySem.SeqAt
open PySem.AutoSeq1 (wpAny_loadPart')
open PySem.MeetsSeq PySem.MeetsSeq2 PySem.MeetsSeq3
theorem lp(l b:Addr)(items items2:Array Value)(n n2:Nat)(dd dd2:Option Addr)(sl sl2:Array (Option Value))(ns ms:List Int)(hi:IntsAre items.toList ns)(hj:IntsAre items2.toList ms) :
  Meets (Builtin.«tuple.__lt__» ⟨[.ref l, .ref b], []⟩)
   (λ_ R s=>s.heap.get? l=some {cls:=.type "tuple",dict:=dd,data:=.seq items n,slots:=sl}/\s.heap.get? b=some {cls:=.type "tuple",dict:=dd2,data:=.seq items2 n2,slots:=sl2} /\
    R (.ok (.ret (.bool (fg ns ms)))) s) :=
 .of_wp λprog w A R s h=>by
  obtain ⟨hp,g,d,tk,os⟩:=s;obtain ⟨hl,hb,h⟩:=h
  have f2:=AutoSeq1.sub_tuple_tuple
  have z1:items.size=ns.length:=by rw [← hi.length];simp
  have z2:items2.size=ms.length:=by rw [← hj.length];simp
  wp_walk using wpAny_loadPart' hl,wpAny_loadPart' hb,wpAny_forIn_list _ (λrest b s'=>b.1=none/\s'=⟨hp,g,d,tk,os⟩/\∃(vs ws:List Value) (ns' ms':List Int),rest=vs.zip ws /\
   IntsAre vs ns'/\IntsAre ws ms'/\ns'.length+items2.size=ms'.length+items.size/\R (.ok (.ret (.bool (fg ns' ms')))) ⟨hp,g,d,tk,os⟩) _
  case turn =>
   rintro ⟨y,x⟩ rest b s' ⟨hb',rfl,vs,ws,ns',ms',hz,hvi,hwi,hlen,hR⟩
   cases hvi with
   | nil=>rw [List.zip_nil_left] at hz;cases hz
   | cons a t hvi' =>
    cases hwi with
    | nil=>rw [List.zip_nil_right] at hz;cases hz
    | cons c u hwi' =>
     rw [List.zip_cons_cons] at hz
     injection hz with hyx hrest
     injection hyx with hy hx
     subst hy hx
     rw [qw] at hR
     simp only [List.length_cons] at hlen
     obtain ⟨e,he,hiff⟩:=v9 A.in1 ⟨hp,g,d,tk,os⟩ a t c u
     refine ε (he prog w _ _ ?_)
     cases e with
     | true =>
      rw [if_pos (hiff.mp rfl)] at hR
      wp_walk
      exact ⟨rfl,rfl,_,_,_,_,hrest,hvi',hwi',ω,hR⟩
     | false =>
      rw [if_neg (λq=>absurd (hiff.mpr q) Bool.false_ne_true)] at hR
      have hri:=uJ A.in1 ⟨hp,g,d,tk,os⟩ a t c u prog w
      wp_walk using hri
      exact ⟨_,rfl,by simpa using hR⟩
  case fin =>
   rintro ⟨b1,b2⟩ s' ⟨hb',rfl,vs,ws,ns',ms',hz,hvi,hwi,hlen,hR⟩
   simp only at hb'
   subst hb'
   have hv:fg ns' ms'=decide (items.size<items2.size):=by
    cases hvi with
    | nil =>
     cases hwi with
     | nil =>
      simp only [List.length_nil] at hlen
      rw [lH]
      exact (Γ ω).symm
     | cons c u hw =>
      simp only [List.length_nil,List.length_cons] at hlen
      rw [kM]
      exact (τ ω).symm
    | cons a t hv =>
     cases hwi with
     | nil =>
      simp only [List.length_nil,List.length_cons] at hlen
      rw [kN]
      exact (Γ ω).symm
     | cons c u hw =>
      rw [List.zip_cons_cons] at hz
      cases hz
   rw [hv] at hR
   wp_walk
   exact ⟨_,rfl,by simpa [Builtin.Tuple.tupleCompareSizes] using hR⟩
  case h =>
   exact ⟨rfl,rfl,items.toList,items2.toList,ns,ms,rfl,hi,hj,ω,h⟩
end
section
variable {prog:Program}{w:World}{A:Around}{E:Value->Shared->Prop}{s:Shared}
theorem qt{l b:Addr}{items items2:Array Value}{ns ms:List Int}{Q:Value->Shared->Prop}(hl:IsTup s.heap l items)(hb:IsTup s.heap b items2)(hi:IntsAre items.toList ns)(hj:IntsAre items2.toList ms)
  (hu:A.units<cLine)(h:Q (.bool (fg ns ms)) s):wpAny (model prog w) A (compareOp .Lt (.ref l) (.ref b)) Q E s:=by
 obtain ⟨⟨cls,dd,data,sl⟩,ho,hc,n,hd⟩:=id hl
 obtain ⟨⟨cls2,dd2,data2,sl2⟩,ho2,hc2,n2,hd2⟩:=id hb
 simp only at hc hd hc2 hd2
 subst hc hd hc2 hd2
 exact richCompare_meets_room (op:=.Lt) ⟨_,ho,rfl⟩ ⟨_,ho2,rfl⟩ PySem.F.slot_tuple_lt PySem.F.entry_tuple_lt (PySem.F.args_tuple_lt_2 _ _) (lp l b items items2 n n2 dd dd2 sl sl2 ns ms hi hj)
  ⟨ho,ho2,show Value.bool (fg ns ms)≠Value.notImplemented/\Q (.bool (fg ns ms)) s from ⟨(λx=>nomatch x),h⟩⟩ hu
theorem yd{t b:Addr}{vs ws:List Value}{Q:Value->Shared->Prop}(ht:IsTup s.heap t vs.toArray)(hb:IsTup s.heap b ws.toArray)(hv:vs≠[])
  (h1:ws=[]->Q (.ref t) s)(h2:ws≠[]->Q (.ref s.heap.objs.size) {s with heap:=s.heap.push {cls:=.type "tuple",data:=.seq (vs++ws).toArray}})
  (hsz:vs.length+ws.length<=sizeLine):wpAny (model prog w) A (binaryOp .Add (.ref t) (.ref b)) Q E s:=by
 obtain ⟨⟨cls,dd,data,sl⟩,ho,hc,n,hd⟩:=id ht
 obtain ⟨⟨cls2,dd2,data2,sl2⟩,ho2,hc2,n2,hd2⟩:=id hb
 simp only at hc hd hc2 hd2
 subst hc hd hc2 hd2
 have e:vs.toArray++ws.toArray=(vs++ws).toArray:=by simp
 by_cases hw:ws=[]
 ·exact concat_meets ⟨_,ho,rfl⟩ ⟨_,ho2,rfl⟩ noFill_tuple_add seq_tuple_add PySem.F.slot_tuple_add PySem.F.entry_tuple_add (PySem.F.args_tuple_add_2 _ _)
   (tuple_addW1 t b vs.toArray ws.toArray n n2 dd dd2 sl sl2 (by simpa using hv) (by simp [hw])) ⟨ho,ho2,h1 hw⟩
 ·refine concat_meets ⟨_,ho,rfl⟩ ⟨_,ho2,rfl⟩ noFill_tuple_add seq_tuple_add PySem.F.slot_tuple_add PySem.F.entry_tuple_add (PySem.F.args_tuple_add_2 _ _)
   (tuple_addW2 t b vs.toArray ws.toArray n n2 dd dd2 sl sl2 (by simpa using hv) (by simpa using hw) (by rw [List.size_toArray,List.size_toArray];exact hsz)) ⟨ho,ho2,?_⟩
  rw [e]
  exact h2 hw
def sIx(n d:Nat):Option Int->Nat
 | none=>d
 | some v=>if v<0 then (v+(n:Int)).toNat else min v.toNat n
theorem rm(n d k:Nat):sIx n d (some (k:Int))=min k n:=by
 show (if (k:Int)<0 then ((k:Int)+(n:Int)).toNat else min (k:Int).toNat n)=min k n
 rw [if_neg ω,Int.toNat_natCast]
end
end HT
namespace L2
open PySem PySem.Spec PyProof.Rows
abbrev TO:=St->Hp->(Option Int->Hp->Prop)->Prop
def PO(X:Cx)(e:Option Expr)(t:TO):Prop :=
 ∀(pins:List (Addr×Obj)) (s:Shared) (σ:St) (H:Hp) (Q:Option Int->Hp->Prop),Inv X pins σ H s->t σ H Q ->
  wpAny (model X.prog X.w) X.A (evalPart e X.env) (λu s'=>∃o H',Inv X pins σ H' s'/\IsPart u o/\Q o H') X.xe s
def Aq(t:TE):TO:=fun σ H Q=>t σ H λx H1=>∃i,x=.int i/\Q (some i) H1
theorem qB{ns:List Int}:∀{us:List Value},Vals (ns.map V.int) us->IntsAre us ns:=by
 induction ns with
 | nil=>intro us r;rw [List.map_nil] at r;cases r;exact .nil
 | cons n ns ih =>
  intro us r
  rw [List.map_cons] at r
  cases r with
  | cons r1 r2 =>
   obtain ⟨t,e⟩:=r1
   subst e
   exact .cons n t (ih r2)
section
variable {X:Cx}{e:Expr}{te:TE}{lo hi:Option Expr}{tl th:TO}{pos p2:Pos}
theorem eA(h:PE X e te):PO X (some e) (Aq te):=by
 intro pins s σ H Q I hw
 rw [evalPart_some]
 refine thn (h pins s σ H _ I hw) λu s1 ⟨x,H1,I1,r1,q1⟩=>?_
 obtain ⟨i,rfl,q⟩:=q1
 obtain ⟨t,rfl⟩:=r1
 exact ⟨some i,H1,I1,.int i t,q⟩
def SlR(X:Cx)(r:V->Option Int->Option Int->Hp->VK->Prop):Prop :=
 ∀(pins:List (Addr×Obj)) (s:Shared) (σ:St) (H:Hp) (x:V) (v vl vu:Value) (lo hi:Option Int) (sl:Addr) (Q:VK),Inv X pins σ H s->RelV x v->s.heap.IsSliceOf sl vl vu .none->IsPart vl lo->IsPart vu hi->r x lo hi H Q ->
  ∃T id,typeLookup (.type T) "__getitem__"=pure (some (.builtin id))/\s.TypeIs v T/\wpAny (model X.prog X.w) X.A (getItem v (.ref sl)) (EP X pins σ Q) X.xe s
def tSl(r:V->Option Int->Option Int->Hp->VK->Prop)(te:TE)(tl th:TO):TE:=fun σ H Q=>te σ H λx H1=>tl σ H1 λl H2=>th σ H2 λu H3=>r x l u H3 Q
theorem io{r:V->Option Int->Option Int->Hp->VK->Prop}(hr:SlR X r)(he:PE X e te)(hl:PO X lo tl)(hu:PO X hi th):PE X (.Subscript e (.Slice lo hi none p2) pos) (tSl r te tl th):=by
 intro pins s σ H Q I h
 refine Subscript_ (thn (he pins s σ H _ I h) λv s1 ⟨x,H1,I1,r1,q1⟩=>?_)
 refine wpAny_Slice (thn (hl pins s1 σ H1 _ I1 q1) λvl s2 ⟨l,H2,I2,pl,q2⟩=>thn (hu pins s2 σ H2 _ I2 q2) λvu s3 ⟨u,H3,I3,pu,q3⟩=>?_)
 rw [evalPart_none]
 refine π ?_
 have I4:Inv X pins σ H3 {s3 with heap:=s3.heap.push {cls:=.type "slice",data:=.fields #[vl,vu,.none]}}:=I3.kept (t':=s3.toks) λb ob q=>ρ _ q
 obtain ⟨T,id,hT,ht,hg⟩:=hr pins {s3 with heap:=s3.heap.push {cls:=.type "slice",data:=.fields #[vl,vu,.none]}} σ H3 x v vl vu l u s3.heap.objs.size Q I4 r1 (Heap.IsSliceOf.new ..) pl pu q3
 show wpAny (model X.prog X.w) X.A (subscriptTail e (.Slice lo hi none p2) v (.ref s3.heap.objs.size)) (EP X pins σ Q) X.xe {s3 with heap:=s3.heap.push {cls:=.type "slice",data:=.fields #[vl,vu,.none]}}
 exact tail_any (ops:=[.ref s3.heap.objs.size,v]) ht hT hg (by with_unfolding_all rfl)
def lL(xs:List V)(lo hi:Option Int):List V:=(xs.drop (HT.sIx xs.length 0 lo)).take (HT.sIx xs.length xs.length hi-HT.sIx xs.length 0 lo)
theorem ph(xs:List V)(lo hi:Option Int):(lL xs lo hi).length<=xs.length:=by
 unfold lL
 rw [List.length_take,List.length_drop]
 omega
def yz(K:Frag):R2:=λx y H Q=>∃a b xs ys,x=.ref a/\y=.ref b/\SqT K H a xs/\SqT K H b ys/\xs≠[]/\xs.length+ys.length<=sizeLine /\
 (ys=[]->Q (.ref a) H)/\(ys≠[]->∀p,H p=none->Q (.ref p) (upd H p (.tup (xs++ys))))
theorem Vals.nil_iff{xs:List V}{us:List Value}(r:Vals xs us):us=[]↔xs=[]:=by
 cases r with
 | nil=>simp
 | cons _ _=>simp
theorem xg:OpR X (binaryOp .Add) (yz X.K):=by
 intro pins s σ H x y v u Q I rx ry h
 obtain ⟨a,b,xs,ys,rfl,rfl,ha,hb,hx,hz,q1,q2⟩:=h
 cases rx
 cases ry
 obtain ⟨its,r1,p1,_⟩:=I.tuple ha
 obtain ⟨its2,r2,p2,_⟩:=I.tuple hb
 refine HT.yd p1 p2 (λz=>hx (r1.nil_iff.mp z)) (λz=>⟨.ref a,H,I,rfl,q1 (r2.nil_iff.mp z)⟩) (λz=>?_) (by rw [← r1.length,← r2.length];exact hz)
 refine ⟨.ref s.heap.objs.size,_,I.laid (t':=s.toks) (o:=.tup (xs++ys)) (λb ob q=>ρ _ q) (ι _) ?_,rfl,q2 (λw=>z (r2.nil_iff.mpr w)) _ (I.hok.fresh (ι _))⟩
 exact ⟨by rw [List.length_append];exact hz,_,r1.append r2,IsTup.new _ _⟩
end
end L2
namespace L2
open PySem PySem.Spec PyProof.Rows
def ixN(n:Nat)(i:Int):Option Nat:=if 0<=i then (if i<n then some i.toNat else none) else if -(n:Int)<=i then some (i+n).toNat else none
def atI{α:Type}(xs:List α)(i:Int):Option α:=(ixN xs.length i).bind λj=>xs[j]?
theorem rL{n:Nat}{i:Int}{j:Nat}(h:ixN n i=some j):seqIndex? i n=some j/\j<n/\-(n:Int)<=i/\i<n:=by
 unfold ixN at h
 by_cases h0:0<=i
 ·rw [if_pos h0] at h
  by_cases h1:i<n
  ·rw [if_pos h1] at h
   have e:i.toNat=j:=Δ h
   exact ⟨by rw [seqIndex_of h0 h1,e],ω,ω,h1⟩
  ·rw [if_neg h1] at h;cases h
 ·rw [if_neg h0] at h
  by_cases h1:-(n:Int)<=i
  ·rw [if_pos h1] at h
   have e:(i+n).toNat=j:=Δ h
   exact ⟨by rw [seqIndex_neg ω h1,e],ω,h1,ω⟩
  ·rw [if_neg h1] at h;cases h
theorem oh{α:Type}{xs:List α}{i:Int}{v:α}(h:atI xs i=some v):∃j,seqIndex? i xs.length=some j/\xs[j]?=some v/\j<xs.length/\-(xs.length:Int)<=i/\i<xs.length:=by
 unfold atI at h
 cases e:ixN xs.length i with
 | none=>rw [e] at h;cases h
 | some j =>
  rw [e] at h
  obtain ⟨h1,h2,h3,h4⟩:=rL e
  exact ⟨j,h1,h,h2,h3,h4⟩
theorem bp{α:Type}{xs:List α}{j:Nat}{v:α}(h:xs[j]?=some v):atI xs (j:Int)=some v:=by
 have hj:j<xs.length:=(List.getElem?_eq_some_iff.mp h).1
 have e:ixN xs.length (j:Int)=some j:=by
  unfold ixN
  rw [if_pos ω,if_pos ω];simp
 unfold atI;rw [e];exact h
def yg(b:Expr):Prop:=∀o i,subscripted b false o i=operate [o,i] (getItem o i)
def IxR(X:Cx)(r:R2):Prop :=
 ∀(value slice:Expr) (pins:List (Addr×Obj)) (s:Shared) (σ:St) (H:Hp) (x y:V) (v u:Value) (Q:VK),Inv X pins σ H s->RelV x v->RelV y u->r x y H Q ->
  subscripted slice false v u=operate [v,u] (getItem v u)->wpAny (model X.prog X.w) X.A (subscriptTail value slice v u) (EP X pins σ Q) X.xe s
def MtR(X:Cx)(id:String)(r:V->List V->Hp->VK->Prop):Prop :=
 ∀(pins:List (Addr×Obj)) (s:Shared) (σ:St) (H:Hp) (x:V) (xs:List V) (v:Value) (us:List Value) (Q:VK),Inv X pins σ H s->RelV x v->Vals xs us->r x xs H Q ->
  wpAny (model X.prog X.w) X.A (call (.builtin id) (v::us)) (EP X pins σ Q) X.xe s
section
variable {X:Cx}{a b:Expr}{ta tb:TE}{pos:Pos}
theorem ay{r:R2}(hr:IxR X r)(ha:PE X a ta)(hb:PE X b tb)(hs:yg b):PE X (.Subscript a b pos) (tOp r ta tb):=by
 intro pins s σ H Q I h
 exact Subscript_ (Af ha hb I h λv u s2 x y H2 I2 rx ry q=>hr a b pins s2 σ H2 x y v u Q I2 rx ry q (hs _ _))
def bQ(K:Frag):R2:=λx y H Q=>∃p xs i v,x=.ref p/\y=.int i/\SqL K H p xs/\atI xs i=some v/\Q v H
def aW(K:Frag):R2:=λx y H Q=>∃p xs i v,x=.ref p/\y=.int i/\SqT K H p xs/\atI xs i=some v/\Q v H
def AQ:R2:=λx y H Q=>∃z i c,x=.str z/\y=.int i/\z.length<=sizeLine/\atI z.cps.toList i=some c/\Q (.str ⟨#[c]⟩) H
theorem aE:IxR X (bQ X.K):=by
 intro value slice pins s σ H x y v u Q I rx ry h hs
 obtain ⟨p,xs,i,z,rfl,rfl,hq,he,q⟩:=h
 cases rx
 obtain ⟨t,rfl⟩:=ry
 obtain ⟨its,r,pl,hz⟩:=I.list hq
 obtain ⟨j,h1,h2,h3,h4,h5⟩:=oh he
 obtain ⟨w,ew,rw'⟩:=r.get h2
 have hl:=r.length
 have hn:=jh
 have fin:EP X pins σ Q w s:=⟨z,H,I,rw',q⟩
 by_cases h0:0<=i
 ·have hj:i.toNat=j:=by
   rw [seqIndex_of h0 h5] at h1
   exact Δ h1
  exact item_listR pl.isList h0 ω (by rw [hj];simpa using ew) fin hs
 ·have hj:(i+(its.toArray.size:Int)).toNat=j:=by
   rw [seqIndex_neg ω h4] at h1
   rw [List.size_toArray,← hl]
   exact Δ h1
  exact subscriptTail_builtinR (x:=w) pl.isList.typeIs slot_list_getitem.lookup
   (wpAny_getItem_list_neg (Q:=λr s'=>r=w/\EP X pins σ Q r s') pl.isList ω (by rw [List.size_toArray]<;>omega) ω (by rw [hj];simpa using ew) ⟨rfl,fin⟩) hs
theorem aB:IxR X (aW X.K):=by
 intro value slice pins s σ H x y v u Q I rx ry h hs
 obtain ⟨p,xs,i,z,rfl,rfl,hq,he,q⟩:=h
 cases rx
 obtain ⟨t,rfl⟩:=ry
 obtain ⟨its,r,pl,hz⟩:=I.tuple hq
 obtain ⟨j,h1,h2,h3,h4,h5⟩:=oh he
 obtain ⟨w,ew,rw'⟩:=r.get h2
 have hl:=r.length
 have hn:=jh
 have fin:EP X pins σ Q w s:=⟨z,H,I,rw',q⟩
 exact subscriptTail_builtinR (x:=w) pl.typeIs slot_tuple_getitem.lookup
  (getItem_tuple (j:=j) (Q:=λr s'=>r=w/\EP X pins σ Q r s') pl ω ω (by rw [List.size_toArray,← hl];exact h1) (by simpa using ew) ⟨rfl,fin⟩) hs
theorem vV:IxR X AQ:=by
 intro value slice pins s σ H x y v u Q I rx ry h hs
 obtain ⟨z,i,c,rfl,rfl,hz,he,q⟩:=h
 obtain ⟨t,rfl⟩:=rx
 obtain ⟨t',rfl⟩:=ry
 obtain ⟨j,h1,h2,h3,h4,h5⟩:=oh he
 have hl:z.cps.toList.length=z.length:=by simp [Str.length]
 rw [hl] at h1 h4 h5
 have hn:=jh
 exact tail_any (typeIs_str s z t) slot_str_getitem.lookup (getItem_str (c:=c) (by
  have e1:decide (i < -(2 ^ 63:Int))=false:=Γ ω
  have e2:decide (i≥2 ^ 63)=false:=Γ ω
  rw [e1,e2,Bool.or_false]) (by rw [h1];simpa using h2) ⟨.str ⟨#[c]⟩,H,I.tok _,⟨_,rfl⟩,q⟩) hs
theorem qp(its:List Value)(n j:Nat)(u:Value):Obj.mapSeq (·.setIfInBounds j u) {cls:=.type "list",data:=.seq its.toArray n}={cls:=.type "list",data:=.seq (its.set j u).toArray n}:=by
 simp [Obj.mapSeq]
theorem Inv.lst{pins:List (Addr×Obj)}{σ:St}{H:Hp}{s:Shared}{p:Addr}{xs:List V}(I:Inv X pins σ H s)(h:H p=some (.lst xs)) :
  ∃(its:List Value) (n:Nat),Vals xs its/\s.heap.get? p=some {cls:=.type "list",data:=.seq its.toArray n}/\xs.length<=sizeLine:=by
 obtain ⟨z,its,n,r,e⟩:=I.hok p _ h
 exact ⟨its,n,r,e,z⟩
theorem Inv.lstUpd{pins:List (Addr×Obj)}{σ:St}{H:Hp}{s:Shared}{p:Addr}{xs ys:List V}{its its':List Value}{n n':Nat}{f:Obj->Obj}(I:Inv X pins σ H s)(h:H p=some (.lst xs))
  (ho:s.heap.get? p=some {cls:=.type "list",data:=.seq its.toArray n})(hf:f {cls:=.type "list",data:=.seq its.toArray n}={cls:=.type "list",data:=.seq its'.toArray n'})(r:Vals ys its')(hz:ys.length<=sizeLine)(t:Nat) :
  Inv X pins σ (upd H p (.lst ys)) {s with heap:=s.heap.update p f,toks:=t}:=by
 have e:(s.heap.update p f).get? p=some {cls:=.type "list",data:=.seq its'.toArray n'}:=by
  rw [Heap.get?_update_self f ho (by rw [hf]<;>rfl),hf]
 refine I.write (x:=p) (e:=p) (by rw [h];trivial) (.inl rfl) (λb u hb q=>(Heap.get?_update_other _ _ (Ne.symm hb)).trans q) ⟨_,e⟩ ?_
 exact ⟨hz,its',n',r,e⟩
def AO:V->V->V->Hp->(Hp->Prop)->Prop:=λo i v H Q=>∃p xs k j,o=.ref p/\i=.int k/\H p=some (.lst xs)/\ixN xs.length k=some j/\Q (upd H p (.lst (xs.set j v)))
theorem kg:Bb X AO:=by
 intro pins s σ H o i v ov iv u Q I ro ri rv h
 obtain ⟨p,xs,k,j,rfl,rfl,hp,hj,q⟩:=h
 cases ro
 obtain ⟨t,rfl⟩:=ri
 obtain ⟨its,n,r,ho,hz⟩:=I.lst hp
 obtain ⟨h1,h2,h3,h4⟩:=rL hj
 have hl:=r.length
 have hn:=jh
 have I':Inv X pins σ (upd H p (.lst (xs.set j v))) {s with heap:=s.heap.update p (Obj.mapSeq (·.setIfInBounds j u))} :=
  I.lstUpd hp ho (qp its n j u) (r.set rv j) (by rw [List.length_set];exact hz) s.toks
 by_cases h0:0<=k
 ·have hk:k.toNat=j:=by
   rw [seqIndex_of h0 h4] at h1
   exact Δ h1
  exact PySem.W.ki_setAt ho h0 ω (by rw [List.size_toArray,← hl];exact h4) (by rw [hk];exact ⟨_,I',q⟩)
 ·have hk:(k+(its.toArray.size:Int)).toNat=j:=by
   rw [seqIndex_neg ω h3] at h1
   rw [List.size_toArray,← hl]
   exact Δ h1
  exact PySem.W.ki_setBack ho ω (by rw [List.size_toArray,← hl];exact h3) ω (by rw [hk];exact ⟨_,I',q⟩)
theorem mT(lo hi:Option Int)(n:Nat):(sliceBounds lo hi none n).1=((HT.sIx n 0 lo:Nat):Int)/\(sliceBounds lo hi none n).2.1=((HT.sIx n n hi:Nat):Int)/\(sliceBounds lo hi none n).2.2=1:=by
 refine ⟨?_,?_,rfl⟩
 ·cases lo with
  | none=>simp [sliceBounds,HT.sIx]
  | some i =>
   simp only [sliceBounds,HT.sIx,Option.getD_none,show (1:Int)>0 by decide,if_true]
   by_cases h:i<0
   ·simp only [h,if_true]<;>omega
   ·simp only [h,if_false]<;>omega
 ·cases hi with
  | none=>simp [sliceBounds,HT.sIx]
  | some i =>
   simp only [sliceBounds,HT.sIx,Option.getD_none,show (1:Int)>0 by decide,if_true]
   by_cases h:i<0
   ·simp only [h,if_true]<;>omega
   ·simp only [h,if_false]<;>omega
theorem lr(its:List Value)(lo hi:Option Int):slicePick its.toArray lo hi none=((its.drop (HT.sIx its.length 0 lo)).take (HT.sIx its.length its.length hi-HT.sIx its.length 0 lo)).toArray:=by
 obtain ⟨h1,h2,h3⟩:=mT lo hi its.toArray.size
 unfold slicePick
 rw [h1,h2,h3]
 simp only [sliceRange_one,pick_run,List.size_toArray]<;>rfl
def Bp(K:Frag):V->Option Int->Option Int->Hp->VK->Prop:=λx lo hi H Q=>∃a xs,x=.ref a/\SqL K H a xs/\∀p,H p=none->Q (.ref p) (upd H p (.lst (lL xs lo hi)))
theorem re:SlR X (Bp X.K):=by
 intro pins s σ H x v vl vu lo hi sl Q I rx hs pl pu h
 obtain ⟨a,xs,rfl,hx,q⟩:=h
 cases rx
 obtain ⟨its,r,ht,hz⟩:=I.list hx
 have hlen:=r.length
 refine ⟨"list",_,slot_list_getitem.lookup,ht.isList.typeIs,?_⟩
 refine wpAny_getItem_list_slice ht.isList hs pl pu .none (by simp) ?_ (by rw [List.size_toArray]<;>omega)
 rw [lr,← hlen]
 refine ⟨.ref s.heap.objs.size,_,I.laid (t':=s.toks) (o:=.lst (lL xs lo hi)) (λb ob q=>ρ _ q) (ι _) ?_,rfl,q _ (I.hok.fresh (ι _))⟩
 exact ⟨Λ (ph xs lo hi) hz,_,0,(r.drop (HT.sIx xs.length 0 lo)).take (HT.sIx xs.length xs.length hi-HT.sIx xs.length 0 lo),ψ _ rfl⟩
theorem bu:dX X (.builtin "len") (λxs H Q=>∃p ys,xs=[.ref p]/\(SqL X.K H p ys\/SqT X.K H p ys)/\Q (.int ys.length) H):=by
 intro pins s σ H xs us Q I r h
 obtain ⟨p,ys,rfl,hq,q⟩:=h
 obtain ⟨u,rfl,rx⟩:=dF r
 cases rx
 have hn:=jh
 rcases hq with hq | hq
 ·obtain ⟨its,r',pl,hz⟩:=I.list hq
  have hlen:=r'.length
  exact Calls.call_len_list pl.isList (by simp only [List.size_toArray]<;>omega) ⟨.int ys.length,H,I.tok _,⟨s.toks+1,by rw [List.size_toArray,hlen]⟩,q⟩
 ·obtain ⟨its,r',pl,hz⟩:=I.tuple hq
  have hlen:=r'.length
  exact len_tuple pl (by simp only [List.size_toArray]<;>omega) ⟨.int ys.length,H,I.tok _,⟨s.toks+1,by rw [List.size_toArray,hlen]⟩,q⟩
theorem br:dX X (.builtin "len") (λxs H Q=>∃z,xs=[.str z]/\z.length<=sizeLine/\Q (.int z.length) H):=by
 intro pins s σ H xs us Q I r h
 obtain ⟨z,rfl,hz,q⟩:=h
 obtain ⟨u,rfl,t,rfl⟩:=dF r
 have hn:=jh
 exact len_str ω ⟨.int z.length,H,I.tok _,⟨_,rfl⟩,q⟩
theorem dD:dX X (.type "list") (λxs H Q=>∃p ys,xs=[.ref p]/\(SqL X.K H p ys\/SqT X.K H p ys)/\∀l,H l=none->Q (.ref l) (upd H l (.lst ys))):=by
 intro pins s σ H xs us Q I r h
 obtain ⟨p,ys,rfl,hq,q⟩:=h
 obtain ⟨u,rfl,rx⟩:=dF r
 cases rx
 have fin:∀(its:List Value),Vals ys its->ys.length<=sizeLine->∀(h':Heap) (c':Nat),(∀b o',s.heap.get? b=some o'->h'.get? b=some o') ->
   h'.get? s.heap.objs.size=some {cls:=.type "list",dict:=none,data:=.seq its.toArray c',slots:=#[]}->EP X pins σ Q (.ref s.heap.objs.size) {s with heap:=h'}:=λits r' hz h' c' kp e =>
  ⟨.ref s.heap.objs.size,_,I.laid (t':=s.toks) kp (ι _) (show ObjOk X.prog X.w _ h' _ (.lst ys) from ⟨hz,its,c',r',e⟩),rfl,q _ (I.hok.fresh (ι _))⟩
 rcases hq with hq | hq
 ·obtain ⟨its,r',pl,hz⟩:=I.list hq
  have hlen:=r'.length
  obtain ⟨o,ho,hc,n,hd⟩:=pl.isList
  exact call_list_seq p (.inl rfl) ho hc hd (λh' c' kp e=>fin its r' hz h' c' kp e) (by simp only [List.size_toArray]<;>omega)
 ·obtain ⟨its,r',pl,hz⟩:=I.tuple hq
  have hlen:=r'.length
  obtain ⟨o,ho,hc,n,hd⟩:=pl
  exact call_list_seq p (.inr rfl) ho hc hd (λh' c' kp e=>fin its r' hz h' c' kp e) (by simp only [List.size_toArray]<;>omega)
theorem lM:dX X (.type "tuple") (λxs H Q=>∃p ys,xs=[.ref p]/\((SqL X.K H p ys/\∀l,H l=none->Q (.ref l) (upd H l (.tup ys)))\/(SqT X.K H p ys/\Q (.ref p) H))):=by
 intro pins s σ H xs us Q I r h
 obtain ⟨p,ys,rfl,h⟩:=h
 obtain ⟨u,rfl,rx⟩:=dF r
 cases rx
 rcases h with ⟨hq,q⟩ | ⟨hq,q⟩
 ·obtain ⟨its,r',pl,hz⟩:=I.list hq
  have hlen:=r'.length
  refine call_tuple_list pl.isList (λh' kp=>?_) (by simp only [List.size_toArray]<;>omega)
  have I1:Inv X pins σ H {s with heap:=h'}:=I.kept (t':=s.toks) kp
  have I2:Inv X pins σ (upd H h'.objs.size (.tup ys)) {s with heap:=h'.push {cls:=.type "tuple",data:=.seq its.toArray}} :=
   I1.laid (t':=s.toks) (λb o e=>ρ _ e) (ι _) (show ObjOk X.prog X.w _ _ _ (.tup ys) from ⟨hz,its,r',IsTup.new _ _⟩)
  exact ⟨.ref h'.objs.size,_,I2,rfl,q _ (I1.hok.fresh (ι _))⟩
 ·obtain ⟨its,r',pl,hz⟩:=I.tuple hq
  exact call_tuple_same pl ⟨.ref p,H,I,rfl,q⟩
def tyV(K:Frag)(T:String)(x:V)(H:Hp):Prop:=match x with
 | .str _=>T="str"
 | .int _=>T="int"
 | .ref p=>(T="list"/\∃xs,SqL K H p xs)\/(T="tuple"/\∃o,K.lookup p=some o/\o.cls=.type "tuple"/\o.dict=none) \/
   (T="dict"/\((∃kvs,H p=some (.dK kvs))\/∃kvs,H p=some (.dT kvs)))\/(T="set"/\∃S n,H p=some (.set S n))
 | _=>False
theorem tY{pins:List (Addr×Obj)}{σ:St}{H:Hp}{s:Shared}{T:String}{x:V}{v:Value}(I:Inv X pins σ H s)(r:RelV x v)(ty:tyV X.K T x H) :
  s.TypeIs v T/\∀a,v=.ref a->∃ob,s.heap.get? a=some ob/\ob.dict=none:=by
 cases x with
 | str z =>
  obtain ⟨t,rfl⟩:=r
  cases (show T="str" from ty)
  exact ⟨typeIs_str s z t,λ_ e=>nomatch e⟩
 | int i =>
  obtain ⟨t,rfl⟩:=r
  cases (show T="int" from ty)
  exact ⟨typeIs_int s i t,λ_ e=>nomatch e⟩
 | ref p =>
  cases r
  rcases ty with ⟨rfl,xs,hq⟩ | ⟨rfl,o,hk,hc,hd⟩ | ⟨rfl,hk⟩ | ⟨rfl,S,n,hk⟩
  ·obtain ⟨its,_,pl,_⟩:=I.list hq
   refine ⟨pl.isList.typeIs,λa e=>?_⟩
   cases e
   obtain ⟨o,n,e,c,hd,_⟩:=pl
   exact ⟨o,e,hd⟩
  ·refine ⟨⟨o,I.kIn p o hk,hc⟩,λa e=>?_⟩
   cases e
   exact ⟨o,I.kIn _ o hk,hd⟩
  ·have z:∃o,s.heap.get? p=some o/\o.ExactDict:=by
    rcases hk with ⟨kvs,hk⟩ | ⟨kvs,hk⟩
    ·obtain ⟨_,_,_,_,o,_,_,e,ex,_⟩:=I.hok p _ hk
     exact ⟨o,e,ex⟩
    ·obtain ⟨_,_,_,_,o,_,_,e,ex,_⟩:=I.hok p _ hk
     exact ⟨o,e,ex⟩
   obtain ⟨o,e,ex⟩:=z
   refine ⟨⟨o,e,ex.1⟩,λa e2=>?_⟩
   cases e2
   exact ⟨o,e,ex.2.1⟩
  ·obtain ⟨o,_,_,_,e,ex,_⟩:=I.hok p _ hk
   refine ⟨⟨o,e,ex.1⟩,λa e2=>?_⟩
   cases e2
   exact ⟨o,e,ex.2.1⟩
 | _=>exact False.elim ty
def AB(K:Frag)(T:String)(r:V->List V->Hp->VK->Prop)(to:TE):TE:=fun σ H Q=>to σ H λx H1=>tyV K T x H1/\r x [] H1 Q
def tBM(K:Frag)(T:String)(r:V->List V->Hp->VK->Prop)(to:TE)(t:TA):TE:=fun σ H Q=>to σ H λx H1=>tyV K T x H1/\t σ H1 λxs H2=>r x xs H2 Q
variable {o e:Expr}{es:List Expr}{to:TE}{t:TA}{name:Str}{apos cpos:Pos}{T id:String}{r:V->List V->Hp->VK->Prop}
theorem zq(pa:PlainAttrs T)(slot:Slot T name id)(hty:typeOf (.builtin id)=pure (.type "method_descriptor"))(hm:MtR X id r)(ho:PE X o to)
  (hbase:attributeBase o name X.env (eval o X.env)=eval o X.env:=by rfl)(hline:(apos.endLine==cpos.line)=true:=by rfl):PE X (.Call (.Attribute o name apos) [] [] cpos) (AB X.K T r to):=by
 intro pins s σ H Q I h
 refine wpAny_Call_method0_late hbase hline (thn (ho pins s σ H _ I h) λv s1 ⟨x,H1,I1,r1,ty,q1⟩=>?_)
 obtain ⟨h1,h2⟩:=tY I1 r1 ty
 exact ⟨T,id,pa,slot,hty,h1,h2,Calls.callWith_builtin rfl (PySem.evalArgs_none (hm pins s1 σ H1 x [] v [] Q I1 r1 .nil q1))⟩
theorem gW(pa:PlainAttrs T)(slot:Slot T name id)(hty:typeOf (.builtin id)=pure (.type "method_descriptor"))(hm:MtR X id r)(ho:PE X o to)(ha:PA X (e::es) t)
  (hbase:attributeBase o name X.env (eval o X.env)=eval o X.env:=by rfl)
  (hfew:((backTo cpos (starEach (e::es) X.env)).all (λx=>!x.1)&&(backToKw cpos (keywordEach [] X.env)).all (λx=>x.1.isSome)
   && decide ((e::es).length+([]:List Keyword).length+(if ([]:List Keyword).isEmpty then 0 else 1)<30))=true:=by rfl)
  (hline:(apos.endLine==cpos.line)=true:=by rfl) (hs:starEach (e::es) X.env=(false,eval e X.env)::starEach es X.env:=by rfl) (hplain:(backTo cpos (starEach es X.env)).any (·.1)=false:=by rfl) :
  PE X (.Call (.Attribute o name apos) (e::es) [] cpos) (tBM X.K T r to t):=by
 intro pins s σ H Q I h
 refine wpAny_Call_method_late hbase hfew hline rfl (thn (ho pins s σ H _ I h) λv s1 ⟨x,H1,I1,r1,ty,q1⟩=>?_)
 obtain ⟨h1,h2⟩:=tY I1 r1 ty
 refine ⟨T,id,pa,slot,hty,h1,h2,?_⟩
 have hA:=ha cpos pins s1 σ H1 _ I1 q1
 rw [hs] at hA ⊢
 refine Calls.callWith_builtin (by show (false||(backTo cpos (starEach es X.env)).any (·.1))=false;rw [hplain]<;>rfl) (Calls.evalArgs_plain ?_)
 exact thn hA λus s2 ⟨vs,H2,I2,r2,q2⟩=>hm pins s2 σ H2 x vs v us Q I2 r1 r2 q2
end
end L2
namespace L2
open PySem PySem.Spec PyProof.Rows
def MtM(X:Cx)(id:String)(r:V->List V->Hp->VK->Prop):Prop :=
 ∀(pins:List (Addr×Obj)) (s:Shared) (σ:St) (H:Hp) (x:V) (xs:List V) (v:Value) (us:List Value) (Q:VK),Inv X pins σ H s->RelV x v->Vals xs us->r x xs H Q ->
  wpAny (model X.prog X.w) X.A (call (.builtin id) (v::us)) (EP X pins σ Q) X.xe s
theorem Vals.one:∀{x:V} {us:List Value},Vals [x] us->∃u,us=[u]/\RelV x u
 | _,_,.cons r .nil=>⟨_,rfl,r⟩
theorem Vals.two:∀{x y:V} {us:List Value},Vals [x,y] us->∃u v,us=[u,v]/\RelV x u/\RelV y v
 | _,_,_,.cons r (.cons q .nil)=>⟨_,_,rfl,r,q⟩
section
variable {X:Cx}{pins:List (Addr×Obj)}{σ:St}{H:Hp}{s:Shared}{l b:Addr}{xs ys zs:List V}
theorem Inv.lset{its its':List Value}{n:Nat}{f:Array Value->Array Value}{t':Nat}(I:Inv X pins σ H s)(hH:H l=some (.lst xs))
  (e:s.heap.get? l=some {cls:=.type "list",data:=.seq its.toArray n})(hf:f its.toArray=its'.toArray)(hv:Vals ys its')(hz:ys.length<=sizeLine) :
  Inv X pins σ (upd H l (.lst ys)) {s with heap:=s.heap.update l (Obj.mapSeq f),toks:=t'}:=by
 have q:=PySem.IsL.update e f
 rw [hf] at q
 refine I.write (x:=l) (e:=l) (by rw [hH];exact trivial) (.inl rfl) (λb' u hb hu=>(Heap.get?_update_other s.heap (Obj.mapSeq f) (Ne.symm hb)).trans hu) ⟨_,q⟩ ?_
 exact ⟨hz,its',_,hv,q⟩
theorem Inv.lstM(I:Inv X pins σ H s)(hH:H l=some (.lst xs)):xs.length<=sizeLine/\∃(its:List Value) (n:Nat),Vals xs its/\xs.length=its.length/\s.heap.get? l=some {cls:=.type "list",data:=.seq its.toArray n}:=by
 obtain ⟨z,its,n,r,e⟩:=I.hok l _ hH
 exact ⟨z,its,n,r,r.length,e⟩
end
section
variable {X:Cx}
def wY:V->List V->Hp->VK->Prop:=λx vs H Q=>∃l xs y,x=.ref l/\vs=[y]/\H l=some (.lst xs)/\xs.length<sizeLine/\Q .non (upd H l (.lst (xs++[y])))
theorem fb:MtM X "list.append" wY:=by
 intro pins s σ H x vs v us Q I rx rv h
 obtain ⟨l,xs,y,rfl,rfl,hH,hz,q⟩:=h
 cases rx
 obtain ⟨u,rfl,ru⟩:=rv.one
 obtain ⟨z,its,n,r,hl,e⟩:=I.lstM hH
 refine call_meets F.slot_list_append ⟨_,e,rfl⟩ F.entry_list_append (F.args_list_append_2 _ _) (PySem.list_append l its.toArray n u (by rw [List.size_toArray];omega)) ⟨e,?_⟩
 refine ⟨.non,_,I.lset (its':=its++[u]) hH e (by simp) (r.append (.cons ru .nil)) ?_,rfl,q⟩
 rw [List.length_append,List.length_singleton]
 omega
end
section
variable {prog:Program}{w:World}{A:Around}{E:Value->Shared->Prop}{s:Shared}
end
section
variable {X:Cx}
end
end L2
namespace Att
open PySem PySem.W PySem.Calls PyProof.Rows
theorem jH{P:Params}{h:Heap}:∀(ns:List Int) (vs:List Value),WellAll P h vs (ns.map WData.int)->IntsAre vs ns:=by
 intro ns
 induction ns with
 | nil =>
  intro vs w
  rw [List.map_nil] at w
  cases w
  exact .nil
 | cons n ns ih =>
  intro vs w
  rw [List.map_cons] at w
  cases w with
  | cons a b =>
   cases a
   exact .cons _ _ (ih _ b)
theorem sy{l:OpenLaw}{n:Nat}(hn:l.most=some n){P:Params}{h:Heap}{args:List WData}{vals:List Value}
  (hpre:l.row.toRowW.claim.pre args=true)(hwl:WellAll P h vals args) :
  ∃a vs ns,vals=[Value.ref a]/\args=[WData.list (ns.map WData.int)]/\h.get? a=some {cls:=.type "list",data:=.seq vs.toArray}/\IntsAre vs ns/\ns.length<=n:=by
 have hsh:WShape.hasAll [] args [.list .int]=true:=(pre_splitW hpre).1
 have hc:l.pre.holds [] {args:=args}=true:=(pre_splitW hpre).2
 obtain ⟨d,r,rfl,h1,h2⟩:=hasAllW_cons hsh
 obtain rfl:=hasAllW_nil h2
 obtain ⟨xs,rfl,h3⟩:=hasW_list h1
 obtain ⟨ns,rfl⟩:=items_int h3
 have hlen:ns.length<=n:=by
  unfold OpenLaw.pre at hc
  have h4:(WTm.not (.lt (.lit (.int (n:Int))) (.len (.arg 0)))).holds [] {args:=[.list (ns.map .int)]}=true:=by
   have h4:=(holds_andW hc).1
   rw [hn] at h4
   exact h4
  have h5:=condW_of h4 (w_not (w_lt w_lit (w_len_list (w_arg rfl))))
  rw [List.length_map] at h5
  refine Nat.le_of_not_lt λq=>?_
  have q':(n:Int)<((ns.length:Nat):Int):=by omega
  first
   | (rw [τ q'] at h5;exact absurd h5 ζ)
   | (simp at h5;omega)
 cases hwl with
 | cons w1 w2 =>
  cases w2
  cases w1 with
  | list ho hall=>exact ⟨_,_,ns,rfl,rfl,ho,jH ns _ hall,hlen⟩
theorem sC(l:OpenLaw)(args:List WData):l.row.toRowW.claim.post args (.bool true) args=true :=
 postW_of (r:=l.row.toRowW) (X:=(true==true))
  (show WShape.has [] (.bool true) .bool=true by first | rfl | decide | simp [WShape.has,WShape.arms,WShape.armsAll])
  (show (WTm.eq .res (.lit (.bool true))).value [] {args:=args,res:=some (.bool true),after:=args}=some (.bool (true==true)) from w_eq_bool (w_res rfl) w_lit) rfl
theorem pA{l:OpenLaw}{n:Nat}{q:Program}{loose:List Str}{XP:(Str->Option Value)->Heap->Prop}{YP:World->Heap->Prop}{d:DefRec}
  (hn:l.most=some n)(hdf:d.params.defaults=[])
  (call:∀(w:World) (s₀ s₁:Shared) (mg mb:Str->Option Value) (fa:Addr) (o:Obj) (pm cd doc:Value) (a:Addr) (vs:List Value) (ns:List Int),
   Ground q loose [] XP w s₀ mg mb s₁.heap->YP w s₁.heap ->
   s₁.heap.get? fa=some o->o.data=.func (docDef d.name d.params d.body d.scope pm cd doc)->s₁.heap.CodeRec cd d.name->mg d.name=some (.ref fa) ->
   s₁.heap.get? a=some {cls:=.type "list",data:=.seq vs.toArray}->IntsAre vs ns->ns.length<=n->s₁.gens=#[] ->
   codeAny (model l.prog w) callerA (.call (.ref fa) ⟨[.ref a],[]⟩) (λr s'=>r=.ok (.ret (.bool true))/\OldK s₁.heap s'.heap/\s'.os=s₁.os/\AllBare s'.gens) s₁) :
  WalkO q loose XP YP l.row.toRowW d [] (λf vs=>PySem.call f vs):=by
 intro w s₀ s₁ mg mb G Y fa o pm cd doc dV kV ho hd hcd hD hmg hg args vals as hpre hlay hrd hwl hlo
 obtain rfl:dV=.none:=Dflts.none hD hdf
 obtain rfl:kV=.none:=Dflts.noKw hD
 obtain ⟨a,vs,ns,rfl,rfl,hobj,hints,hlen⟩:=sy hn hpre hwl
 refine enter_call (codeAny_mono (call w s₀ s₁ mg mb fa o pm cd doc a vs ns G Y ho (fd_plain hd) hcd hmg hobj hints hlen hg) λr s' hq=>?_)
 obtain ⟨rfl,h2,h3,h4⟩:=hq
 exact ⟨.inl ⟨.bool true,.bool true,[],rfl,λ_=>rfl,.bool true,sC l _,λ_=>⟨List.Pairwise.nil,λ_ hm=>(nomatch hm)⟩⟩,h2,h3,h4⟩
section
variable {prog:Program}{w:World}{A:Around}{E:Value->Shared->Prop}{s:Shared}{K:Frag}
def gA(h:Heap):Heap:={h with objs:=#[]}
theorem fO(h:Heap)(b:Addr):(gA h).get? b=none:=by
 cases e:(gA h).get? b with
 | none=>rfl
 | some o=>exact absurd (η e) (Nat.not_lt_zero _)
def hX(h:Heap)(L d:Addr):List (Addr×Obj):=(List.range h.objs.size).filterMap λa=>if a=L\/a=d then none else (h.get? a).map λo=>(a,o)
theorem mem_ledger{h:Heap}{L d a:Addr}{o:Obj}:(a,o)∈hX h L d↔a≠L/\a≠d/\h.get? a=some o:=by
 unfold hX
 rw [List.mem_filterMap]
 constructor
 ·rintro ⟨b,_,e⟩
  split at e
  ·cases e
  ·rename_i hb
   obtain ⟨o',ho,e'⟩:=Option.map_eq_some_iff.mp e
   cases e'
   exact ⟨λq=>hb (.inl q),λq=>hb (.inr q),ho⟩
 ·rintro ⟨n1,n2,ho⟩
  refine ⟨a,List.mem_range.mpr (η ho),?_⟩
  rw [if_neg (show ¬(a=L\/a=d) from λq=>q.elim n1 n2),ho]<;>rfl
theorem zZ{h:Heap}{L:Addr}{m:Str->Option Value}(n:h.Ns L m):Fr (gA h) L h m :=
 ⟨n,λb o e=>(by rw [fO] at e;cases e),Nat.zero_le _⟩
end
end Att
namespace L2
open PySem PySem.Spec PyProof.Rows
theorem lO:∀{vs:List Value} {ns:List Int},IntsAre vs ns->Vals (ns.map V.int) vs
 | _,_,.nil=>.nil
 | _,_,.cons n t h=>.cons ⟨t,rfl⟩ (lO h)
end L2
namespace L2
open PySem PySem.Spec PyProof.Rows
end L2
namespace L2
open PySem PySem.Spec PyProof.Rows
def inClass(s:Stmt)(j:Nat):Stmt:=match s with
 | .ClassDef _ _ _ body _ _ _ _ _ _ _=>body.getD j (.Pass ⟨0,0,0,0⟩)
 | _=>.Pass ⟨0,0,0,0⟩
def defArgs(s:Stmt):Arguments:=match s with
 | .FunctionDef _ a _ _ _ _ _ _ _ _=>a
 | _=>{posonlyargs:=[],args:=[],vararg:=none,kwonlyargs:=[],kw_defaults:=[],kwarg:=none,defaults:=[]}
def defBody(s:Stmt):List Stmt:=match s with
 | .FunctionDef _ _ b _ _ _ _ _ _ _=>b
 | _=>[]
def defScope(s:Stmt):Scope:=match s with
 | .FunctionDef _ _ _ _ _ _ sc _ _ _=>sc
 | _=>{kind:=.function,names:=[],isGenerator:=false,isCoroutine:=false}
abbrev CX0:CXT:=λ_ _ _ _ _ _=>False
abbrev E0:XK:=λ_ _ _=>False
theorem be{X:Cx}:cJ CX0 X E0:=λ_ _ _ _ _ _ _ h=>h.elim
structure Fun(K:Frag)(x qual:Str)(st:Stmt)(f:Addr)(fd:FuncData):Prop where
 ex:∃(oc:Value) (od:Option Addr) (kV doc pm:Value) (an:Option Addr) (cdv ct:Value) (osl:Array (Option Value)),
  fd=PySem.W.fnOf x qual (defArgs st) (defBody st) (defScope st) .none kV doc pm an cdv ct/\K.lookup f=some ⟨oc,od,.func fd,osl⟩/\PySem.W.codeIn K cdv qual=true
 kp:PySem.W.keepIn K (.ref f)=true
section
variable {P:Program}{w:World}{K:Frag}{mg:Str->Option Value}{base:Heap}
theorem Fun.ok{x qual:Str}{st:Stmt}{f:Addr}{fd:FuncData}{N ps:List Str}{k:Nat}{sp:Sp}(F:Fun K x qual st f fd)(S:au N ps (defScope st))(len:∀vs H Q E,sp vs H Q E->vs.length=ps.length)
  (hbody:∀(cdv:Value) (A:Around) (outer:List Env) (s:Shared) (H:Hp) (vs:List V) (Q:VK) (E:XK),Room k (A.deeper (envOfC qual (defScope st) s.heap.objs.size f cdv))->sp vs H Q E ->
   ∃t,PSs (qF CX0 P w K mg base N qual (defScope st) f cdv A outer s H E).nox (defBody st) t/\t {nx:=λ_ H'=>Q .non H',rt:=Q} (start N vs) H):FnOk P w K mg base CX0 (k+1) f fd ps sp:=by
 obtain ⟨oc,od,kV,doc,pm,an,cdv,ct,osl,rfl,lk,hcd⟩:=F.ex
 refine yH lk hcd S len λA outer s H vs Q E hr hsp=>?_
 obtain ⟨t,h,q⟩:=hbody cdv A outer s H vs Q E hr hsp
 exact ⟨t,h.nox,q⟩
theorem Fun.binds{x qual:Str}{st:Stmt}{f:Addr}{fd:FuncData}{ps:List Str}(F:Fun K x qual st f fd)
  (h:∀(kV doc pm:Value) (an:Option Addr) (cdv ct:Value) (us:List Value),us.length=ps.length->bindArgs (PySem.W.fnOf x qual (defArgs st) (defBody st) (defScope st) .none kV doc pm an cdv ct) ⟨us,[]⟩=pure (ps.zip us)):Binds K fd ps []:=by
 obtain ⟨oc,od,kV,doc,pm,an,cdv,ct,osl,rfl,lk,hcd⟩:=F.ex
 exact .all (h kV doc pm an cdv ct)
theorem v5{x qual:Str}{st:Stmt}{f:Addr}{oc:Value}{od an:Option Addr}{osl:Array (Option Value)}{kV doc pm cdv ct:Value}(l:K.lookup f=some ⟨oc,od,.func (PySem.W.fnOf x qual (defArgs st) (defBody st) (defScope st) .none kV doc pm an cdv ct),osl⟩)
  (c:PySem.W.codeIn K cdv qual=true)(k:PySem.W.keepIn K (.ref f)=true):Fun K x qual st f (PySem.W.fnOf x qual (defArgs st) (defBody st) (defScope st) .none kV doc pm an cdv ct):=⟨⟨oc,od,kV,doc,pm,an,cdv,ct,osl,rfl,l,c⟩,k⟩
end
theorem bM{n:Nat}(h:n<=1000):n<sizeLine:=Nat.lt_of_le_of_lt h ζ
section
variable {X:Cx}
theorem pv(i:Nat){x:Str}{pos:Pos}(hN:X.N[i]?=some x:=by rfl)(hv:Vis X.env.scope x:=by first | exact Or.inl rfl | exact Or.inr (Or.inl rfl) | exact Or.inr (Or.inr rfl))(hd:(x==("__debug__":Str))=false:=by decide)
  (hcd:(x==("__classdict__":Str))=false:=by decide):PE X (.Name x pos) (pL i):=qf hN hv hd hcd
end
theorem bj{A B:Prop}(h:B):if false=true then A else B:=by
 rw [if_neg Bool.false_ne_true]
 exact h
theorem cI{A B:Prop}(h:A):if true=true then A else B:=by
 rw [if_pos rfl]
 exact h
theorem aU{c A B:Prop} [Decidable c](h1:c->A)(h2:¬c->B):if c then A else B:=by
 by_cases h:c
 ·rw [if_pos h]
  exact h1 h
 ·rw [if_neg h]
  exact h2 h
theorem yB{c A B:Prop} [Decidable c](hc:c)(h:B):if (!decide c)=true then A else B:=by
 rw [τ hc]
 exact bj h
def Same(H H':Hp):Prop:=∀b o,H b=some o->H' b=some o
theorem Same.refl(H:Hp):Same H H:=λ_ _ h=>h
theorem Same.trans{H H1 H2:Hp}(a:Same H H1)(b:Same H1 H2):Same H H2:=λc o h=>b c o (a c o h)
theorem Same.free{H H':Hp}(e:Same H H'){l:Addr}(h:H' l=Option.none):H l=Option.none:=by
 cases q:H l with
 | none=>rfl
 | some o =>
  rw [e l o q] at h
  cases h
theorem Same.seq{K:Frag}{H H':Hp}{a:Addr}{xs:List V}(e:Same H H')(h:SqL K H a xs):SqL K H' a xs:=by
 rcases h with (h | ⟨o,h⟩) | h
 ·exact .inl (.inl (e _ _ h))
 ·exact .inl (.inr ⟨o,e _ _ h⟩)
 ·exact .inr h
end L2
section
set_option maxHeartbeats 0
open PySem PySem.W PyProof.Rows
lay_quick PySem.Challenge.pw_pactroom_k51_work_on_a_draft
namespace Q
noncomputable section
noncomputable abbrev vT:Value:=Value.bool true
noncomputable abbrev vF:Value:=Value.bool false
noncomputable abbrev A{α:Type}(l:List α):Array α:=Array.mk l
noncomputable abbrev E{α:Type}:Array α:=Array.mk []
noncomputable abbrev vn:Value:=Value.none
noncomputable abbrev vr(n:Nat):Value:=Value.ref n
noncomputable abbrev sr(n:Nat):Option Value:=some (Value.ref n)
noncomputable abbrev vi(a:Int)(n:Nat):Value:=Value.int a n
noncomputable abbrev vs(q:Str)(n:Nat):Value:=Value.str q n
noncomputable abbrev de(P:Params)(q:Str)(n:Nat)(v:Value):DictEntry:=DictEntry.mk (PyData.keyHash P q) (Value.str q n) v
noncomputable abbrev nd(o:Obj)(a b:BT):BT:=.node o a b
noncomputable abbrev l1(o:Obj):BT:=.node o .nil .nil
noncomputable abbrev S(l:List Nat):Str:=@Str.mk (Array.mk l)
abbrev q0:=S [60,109,111,100,117,108,101,62]
abbrev q1:=S [47,99,108,97,105,109,47,99,117,116,46,112,121]
abbrev q2:=S [95,95,109,97,105,110,95,95]
abbrev q3:=S [95,95,110,97,109,101,95,95]
abbrev q4:=S [112,97,99,116,114,111,111,109,46,115,116,101,112,115]
abbrev q5:=S [95,95,100,111,99,95,95]
abbrev q6:=S [95,95,112,97,99,107,97,103,101,95,95]
abbrev q7:=S [95,95,108,111,97,100,101,114,95,95]
abbrev q8:=S [95,95,115,112,101,99,95,95]
abbrev q9:=S [95,95,97,110,110,111,116,97,116,105,111,110,115,95,95]
abbrev q10:=S [95,95,98,117,105,108,116,105,110,115,95,95]
abbrev q11:=S [95,95,102,105,108,101,95,95]
abbrev q12:=S [95,95,99,97,99,104,101,100,95,95]
abbrev q13:=S [95,119,97,108,108]
abbrev q14:=S [82,65,78,75,83]
abbrev q15:=S [83,72,65,82,73,78,71]
abbrev q16:=S [76,111,99,107]
abbrev q17:=S [82,101,97,100]
abbrev q18:=S [77,101,97,110]
abbrev q19:=S [67,104,97,110,103,101]
abbrev q20:=S [108,111,99,107,95,111,102]
abbrev q21:=S [80,97,99,116,69,114,114,111,114]
abbrev q22:=S [78,111,84,104,105,110,103]
abbrev q23:=S [78,111,78,101,101,100]
abbrev q24:=S [87,97,105,116,105,110,103]
abbrev q25:=S [78,111,84,101,120,116]
abbrev q26:=S [76,111,99,107,115]
abbrev q27:=S [77,79,83,84,95,70,73,71,85,82,69,83,95,116,104,105,110,103,115]
abbrev q28:=S [77,79,83,84,95,83,73,71,78,83]
abbrev q29:=S [77,79,83,84,95,80,65,82,84,83]
abbrev q30:=S [77,79,83,84,95,68,69,69,80]
abbrev q31:=S [76,79,78,71,69,83,84]
abbrev q32:=S [66,76,65,78,75]
abbrev q33:=S [80,69,82,67,69,78,84]
abbrev q34:=S [84,73,76,68,69]
abbrev q35:=S [105,115,95,119,104,111,108,101]
abbrev q36:=S [114,101,97,100,95,116,104,105,110,103]
abbrev q37:=S [105,115,95,115,105,103,110]
abbrev q38:=S [82,101,97,100,101,114]
abbrev q39:=S [77,79,83,84,95,70,73,71,85,82,69,83,95,115,116,101,112,115]
abbrev q40:=S [83,72,65,80,69,83]
abbrev q41:=S [83,116,101,112]
abbrev q42:=S [67,101,108,108,83,116,101,112]
abbrev q43:=S [84,97,107,101,83,116,101,112]
abbrev q44:=S [77,101,97,110,83,116,101,112]
abbrev q45:=S [83,117,109,83,116,101,112]
abbrev q46:=S [71,105,118,101,83,116,101,112]
abbrev q47:=S [65,100,100,83,116,101,112]
abbrev q48:=S [107]
abbrev q49:=S [114,101,97,100]
abbrev q50:=S [109,101,97,110]
abbrev q51:=S [99,104,97,110,103,101]
abbrev q52:=S [95,95,109,111,100,117,108,101,95,95]
abbrev q53:=S [112,97,99,116,114,111,111,109,46,107,105,110,100,115]
abbrev q54:=S [95,95,113,117,97,108,110,97,109,101,95,95]
abbrev q55:=S [95,95,102,105,114,115,116,108,105,110,101,110,111,95,95]
abbrev q56:=S [95,95,105,110,105,116,95,95]
abbrev q57:=S [107,105,110,100]
abbrev q58:=S [98,101,115,105,100,101]
abbrev q59:=S [99,111,118,101,114,115]
abbrev q60:=S [116,111,108,100]
abbrev q61:=S [95,95,115,116,97,116,105,99,95,97,116,116,114,105,98,117,116,101,115,95,95]
abbrev q62:=S [115,101,108,102]
abbrev q63:=S [102,105,114,115,116]
abbrev q64:=S [108,97,115,116]
abbrev q65:=S [76,111,99,107,46,95,95,105,110,105,116,95,95]
abbrev q66:=S [76,111,99,107,46,107,105,110,100]
abbrev q67:=S [111,116,104,101,114]
abbrev q68:=S [97,112,97,114,116]
abbrev q69:=S [76,111,99,107,46,98,101,115,105,100,101]
abbrev q70:=S [119,105,116,104,105,110]
abbrev q71:=S [76,111,99,107,46,99,111,118,101,114,115]
abbrev q72:=S [76,111,99,107,46,116,111,108,100]
abbrev q73:=S [95,95,100,105,99,116,95,95]
abbrev q74:=S [95,95,119,101,97,107,114,101,102,95,95]
abbrev q75:=S [82,101,97,100,46,107,105,110,100]
abbrev q76:=S [77,101,97,110,46,107,105,110,100]
abbrev q77:=S [67,104,97,110,103,101,46,107,105,110,100]
abbrev q78:=S [112,97,99,116,114,111,111,109,46,101,114,114,111,114,115]
abbrev q79:=S [97,116]
abbrev q80:=S [78,111,84,101,120,116,46,95,95,105,110,105,116,95,95]
abbrev q81:=S [112,97,99,116,114,111,111,109,46,108,111,99,107,115]
abbrev q82:=S [97,115,107]
abbrev q83:=S [102,114,101,101]
abbrev q84:=S [115,116,97,110,100,115]
abbrev q85:=S [98,101,104,105,110,100]
abbrev q86:=S [104,101,108,100]
abbrev q87:=S [119,97,105,116,105,110,103]
abbrev q88:=S [104,105,110,100,101,114,101,114]
abbrev q89:=S [104,101,108,100,95,112,97,105,114,115]
abbrev q90:=S [119,97,105,116,105,110,103,95,112,97,105,114,115]
abbrev q91:=S [119,97,105,116,105,110,103,95,112,108,97,99,101]
abbrev q92:=S [76,111,99,107,115,46,95,95,105,110,105,116,95,95]
abbrev q93:=S [76,111,99,107,115,46,97,115,107]
abbrev q94:=S [112]
abbrev q95:=S [76,111,99,107,115,46,102,114,101,101]
abbrev q96:=S [108,111,99,107]
abbrev q97:=S [76,111,99,107,115,46,115,116,97,110,100,115]
abbrev q98:=S [112,108,97,99,101]
abbrev q99:=S [76,111,99,107,115,46,98,101,104,105,110,100]
abbrev q100:=S [76,111,99,107,115,46,104,101,108,100]
abbrev q101:=S [76,111,99,107,115,46,119,97,105,116,105,110,103]
abbrev q102:=S [112,97,105,114]
abbrev q103:=S [97,104,101,97,100]
abbrev q104:=S [76,111,99,107,115,46,104,105,110,100,101,114,101,114]
abbrev q105:=S [76,111,99,107,115,46,104,101,108,100,95,112,97,105,114,115]
abbrev q106:=S [76,111,99,107,115,46,119,97,105,116,105,110,103,95,112,97,105,114,115]
abbrev q107:=S [76,111,99,107,115,46,119,97,105,116,105,110,103,95,112,108,97,99,101]
abbrev q108:=S [112,97,105,114,115]
abbrev q109:=S [116,104,105,110,103]
abbrev q110:=S [112,97,99,116,114,111,111,109,46,116,104,105,110,103,115]
abbrev q111:=S [115,105,103,110]
abbrev q112:=S [110,117,109,98,101,114]
abbrev q113:=S [112,97,115,115,101,115]
abbrev q114:=S [114,101,97,100,95,97,110,121]
abbrev q115:=S [114,101,97,100,95,112,97,114,116,115]
abbrev q116:=S [114,101,97,100,95,98,101,108,111,119]
abbrev q117:=S [114,101,97,100,95,110,117,109,98,101,114]
abbrev q118:=S [114,101,97,100,95,115,105,103,110,115]
abbrev q119:=S [116,101,120,116]
abbrev q120:=S [82,101,97,100,101,114,46,95,95,105,110,105,116,95,95]
abbrev q121:=S [82,101,97,100,101,114,46,112,97,115,115,101,115]
abbrev q122:=S [100,101,101,112]
abbrev q123:=S [82,101,97,100,101,114,46,114,101,97,100,95,97,110,121]
abbrev q124:=S [112,97,114,116,115]
abbrev q125:=S [82,101,97,100,101,114,46,114,101,97,100,95,112,97,114,116,115]
abbrev q126:=S [82,101,97,100,101,114,46,114,101,97,100,95,98,101,108,111,119]
abbrev q127:=S [115,116,97,114,116]
abbrev q128:=S [102,105,103,117,114,101,115]
abbrev q129:=S [82,101,97,100,101,114,46,114,101,97,100,95,110,117,109,98,101,114]
abbrev q130:=S [109,97,110,121]
abbrev q131:=S [115,105,103,110,115]
abbrev q132:=S [82,101,97,100,101,114,46,114,101,97,100,95,115,105,103,110,115]
abbrev q133:=S [116,97,107,101]
abbrev q134:=S [72,67]
abbrev q135:=S [115,117,109]
abbrev q136:=S [72,65,66]
abbrev q137:=S [103,105,118,101]
abbrev q138:=S [97,100,100]
abbrev q139:=S [72,67,86]
abbrev q140:=S [112,108,117,115]
abbrev q141:=S [86]
abbrev q142:=S [110,101,101,100]
abbrev q143:=S [104,111,117,115,101]
abbrev q144:=S [115,116,101,112,95,100,111,110,101]
abbrev q145:=S [98,97,99,107]
abbrev q146:=S [115,117,114,101]
abbrev q147:=S [115,112,101,108,108,101,100]
abbrev q148:=S [83,116,101,112,46,104,111,117,115,101]
abbrev q149:=S [83,116,101,112,46,108,111,99,107]
abbrev q150:=S [104,97,110,100]
abbrev q151:=S [118,97,108,117,101,95,111,102]
abbrev q152:=S [83,116,101,112,46,115,116,101,112,95,100,111,110,101]
abbrev q153:=S [83,116,101,112,46,98,97,99,107]
abbrev q154:=S [83,116,101,112,46,115,117,114,101]
abbrev q155:=S [83,116,101,112,46,115,112,101,108,108,101,100]
abbrev q156:=S [119,104,101,114,101]
abbrev q157:=S [99,101,108,108]
abbrev q158:=S [67,101,108,108,83,116,101,112,46,95,95,105,110,105,116,95,95]
abbrev q159:=S [67,101,108,108,83,116,101,112,46,104,111,117,115,101]
abbrev q160:=S [84,97,107,101,83,116,101,112,46,108,111,99,107]
abbrev q161:=S [84,97,107,101,83,116,101,112,46,115,116,101,112,95,100,111,110,101]
abbrev q162:=S [84,97,107,101,83,116,101,112,46,115,112,101,108,108,101,100]
abbrev q163:=S [77,101,97,110,83,116,101,112,46,108,111,99,107]
abbrev q164:=S [77,101,97,110,83,116,101,112,46,115,116,101,112,95,100,111,110,101]
abbrev q165:=S [77,101,97,110,83,116,101,112,46,115,112,101,108,108,101,100]
abbrev q166:=S [108,111,119]
abbrev q167:=S [104,105,103,104]
abbrev q168:=S [83,117,109,83,116,101,112,46,95,95,105,110,105,116,95,95]
abbrev q169:=S [83,117,109,83,116,101,112,46,104,111,117,115,101]
abbrev q170:=S [83,117,109,83,116,101,112,46,108,111,99,107]
abbrev q171:=S [83,117,109,83,116,101,112,46,115,116,101,112,95,100,111,110,101]
abbrev q172:=S [83,117,109,83,116,101,112,46,115,112,101,108,108,101,100]
abbrev q173:=S [71,105,118,101,83,116,101,112,46,108,111,99,107]
abbrev q174:=S [71,105,118,101,83,116,101,112,46,115,116,101,112,95,100,111,110,101]
abbrev q175:=S [71,105,118,101,83,116,101,112,46,115,117,114,101]
abbrev q176:=S [71,105,118,101,83,116,101,112,46,115,112,101,108,108,101,100]
abbrev q177:=S [97,109,111,117,110,116]
abbrev q178:=S [65,100,100,83,116,101,112,46,95,95,105,110,105,116,95,95]
abbrev q179:=S [65,100,100,83,116,101,112,46,108,111,99,107]
abbrev q180:=S [65,100,100,83,116,101,112,46,115,116,101,112,95,100,111,110,101]
abbrev q181:=S [65,100,100,83,116,101,112,46,98,97,99,107]
abbrev q182:=S [65,100,100,83,116,101,112,46,115,112,101,108,108,101,100]
abbrev q183:=S [108,97,119,95,112,97,99,116,114,111,111,109,95,107,53,49,95,119,111,114,107,95,111,110,95,97,95,100,114,97,102,116]
abbrev q184:=S [80,108,117,115,83,116,101,112]
abbrev q185:=S [78,101,101,100,83,116,101,112]
abbrev q186:=S [114,101,97,100,95,115,116,101,112]
abbrev q187:=S [109,97,100,101,95,115,116,101,112]
abbrev q188:=S [109,97,100,101,95,115,117,109]
abbrev q189:=S [87,111,114,107,115]
abbrev q190:=S [83,104,101,101,116]
abbrev q191:=S [83,116,97,110,100]
abbrev q192:=S [95,108,97,119,95,99,101,108,108,95,97,116]
abbrev q193:=S [95,108,97,119,95,119,104,111,108,101]
abbrev q194:=S [95,108,97,119,95,110,117,109,98,101,114]
abbrev q195:=S [95,108,97,119,95,115,116,101,112]
abbrev q196:=S [95,108,97,119,95,112,108,97,121,101,100]
abbrev q197:=S [95,108,97,119,95,114,105,103,104,116]
abbrev q198:=S [108,97,119]
abbrev q199:=S [80,108,117,115,83,116,101,112,46,95,95,105,110,105,116,95,95]
abbrev q200:=S [80,108,117,115,83,116,101,112,46,115,116,101,112,95,100,111,110,101]
abbrev q201:=S [80,108,117,115,83,116,101,112,46,115,112,101,108,108,101,100]
abbrev q202:=S [78,101,101,100,83,116,101,112,46,95,95,105,110,105,116,95,95]
abbrev q203:=S [78,101,101,100,83,116,101,112,46,115,116,101,112,95,100,111,110,101]
abbrev q204:=S [78,101,101,100,83,116,101,112,46,115,112,101,108,108,101,100]
abbrev q205:=S [119,111,114,100]
abbrev q206:=S [108,101,116,116,101,114]
abbrev q207:=S [110,117,109,98,101,114,115]
abbrev q208:=S [112,97,99,116,114,111,111,109,46,119,111,114,107,115]
abbrev q209:=S [116,97,107,101,95,117,112]
abbrev q210:=S [119,111,114,107]
abbrev q211:=S [100,111,95,115,116,101,112]
abbrev q212:=S [118,97,108,117,101,95,97,116]
abbrev q213:=S [115,101,110,100,95,100,105,100]
abbrev q214:=S [114,101,97,100,121]
abbrev q215:=S [101,110,100,101,100]
abbrev q216:=S [119,97,108,107]
abbrev q217:=S [117,110,100,111]
abbrev q218:=S [108,111,99,107,95,115,116,97,110,100,115]
abbrev q219:=S [116,117,114,110]
abbrev q220:=S [99,104,97,115,101]
abbrev q221:=S [105,115,95,98,111,117,110,100]
abbrev q222:=S [115,116,97,110,100]
abbrev q223:=S [104,111,109,101]
abbrev q224:=S [114,111,119]
abbrev q225:=S [87,111,114,107,115,46,95,95,105,110,105,116,95,95]
abbrev q226:=S [87,111,114,107,115,46,116,97,107,101,95,117,112]
abbrev q227:=S [115,104,101,101,116]
abbrev q228:=S [105]
abbrev q229:=S [87,111,114,107,115,46,119,111,114,107]
abbrev q230:=S [119,97,105,116,101,100]
abbrev q231:=S [87,111,114,107,115,46,100,111,95,115,116,101,112]
abbrev q232:=S [100,114,97,102,116]
abbrev q233:=S [87,111,114,107,115,46,118,97,108,117,101,95,97,116]
abbrev q234:=S [87,111,114,107,115,46,115,101,110,100,95,100,105,100]
abbrev q235:=S [87,111,114,107,115,46,114,101,97,100,121]
abbrev q236:=S [87,111,114,107,115,46,101,110,100,101,100]
abbrev q237:=S [87,111,114,107,115,46,119,97,108,107]
abbrev q238:=S [87,111,114,107,115,46,117,110,100,111]
abbrev q239:=S [115,116,101,112]
abbrev q240:=S [87,111,114,107,115,46,108,111,99,107,95,115,116,97,110,100,115]
abbrev q241:=S [87,111,114,107,115,46,116,117,114,110]
abbrev q242:=S [112,97,116,104]
abbrev q243:=S [87,111,114,107,115,46,99,104,97,115,101]
abbrev q244:=S [87,111,114,107,115,46,104,101,108,100]
abbrev q245:=S [87,111,114,107,115,46,119,97,105,116,105,110,103]
abbrev q246:=S [87,111,114,107,115,46,105,115,95,98,111,117,110,100]
abbrev q247:=S [97,110,115,119,101,114,115]
abbrev q248:=S [100,114,97,102,116,115]
abbrev q249:=S [108,111,99,107,115]
abbrev q250:=S [112,101,110,100,105,110,103]
abbrev q251:=S [112,97,99,116,114,111,111,109,46,115,104,101,101,116,115]
abbrev q252:=S [115,101,110,100]
abbrev q253:=S [114,111,119,115,95,116,111,108,100]
abbrev q254:=S [108,101,116,116,101,114,115,95,116,111,108,100]
abbrev q255:=S [83,104,101,101,116,46,95,95,105,110,105,116,95,95]
abbrev q256:=S [83,104,101,101,116,46,114,111,119]
abbrev q257:=S [116,111]
abbrev q258:=S [109,111,114,101]
abbrev q259:=S [83,104,101,101,116,46,115,101,110,100]
abbrev q260:=S [83,104,101,101,116,46,114,111,119,115,95,116,111,108,100]
abbrev q261:=S [83,104,101,101,116,46,108,101,116,116,101,114,115,95,116,111,108,100]
abbrev q262:=S [108,97,116,101,115,116]
abbrev q263:=S [114,111,119,115]
abbrev q264:=S [115,101,110,116]
abbrev q265:=S [112,97,99,116,114,111,111,109,46,115,116,97,110,100,115]
abbrev q266:=S [107,101,101,112]
abbrev q267:=S [99,104,97,110,103,101,115,95,111,102]
abbrev q268:=S [99,101,108,108,95,97,116]
abbrev q269:=S [99,101,108,108,115,95,116,111,108,100]
abbrev q270:=S [111,117,116,99,111,109,101]
abbrev q271:=S [110,101,119,115]
abbrev q272:=S [98,111,117,110,100]
abbrev q273:=S [108,111,115,116]
abbrev q274:=S [98,101,103,117,110]
abbrev q275:=S [119,97,108,107,101,100,95,97,116]
abbrev q276:=S [105,115,95,111,118,101,114]
abbrev q277:=S [99,101,108,108,115]
abbrev q278:=S [83,116,97,110,100,46,95,95,105,110,105,116,95,95]
abbrev q279:=S [83,116,97,110,100,46,107,101,101,112]
abbrev q280:=S [83,116,97,110,100,46,99,104,97,110,103,101,115,95,111,102]
abbrev q281:=S [83,116,97,110,100,46,99,101,108,108,95,97,116]
abbrev q282:=S [83,116,97,110,100,46,99,101,108,108,115,95,116,111,108,100]
abbrev q283:=S [83,116,97,110,100,46,111,117,116,99,111,109,101]
abbrev q284:=S [83,116,97,110,100,46,110,101,119,115]
abbrev q285:=S [83,116,97,110,100,46,98,111,117,110,100]
abbrev q286:=S [83,116,97,110,100,46,108,111,115,116]
abbrev q287:=S [83,116,97,110,100,46,98,101,103,117,110]
abbrev q288:=S [83,116,97,110,100,46,119,97,108,107,101,100,95,97,116]
abbrev q289:=S [83,116,97,110,100,46,105,115,95,111,118,101,114]
abbrev q290:=S [98,101,103,105,110,115]
abbrev q291:=S [101,110,100,115]
abbrev q292:=S [111,118,101,114,115]
abbrev q293:=S [114,101,97,100,105,101,115]
abbrev q294:=S [119,97,108,107,115]
abbrev q295:=S [119,111,114,107,101,100]
abbrev q296:=S [95,108,97,119,95,115,99,114,105,112,116]
abbrev q297:=S [95,108,97,119,95,107]
abbrev q298:=S [95,108,97,119,95,102,111,117,110,100]
abbrev q299:=S [95,108,97,119,95,99,101,108,108]
abbrev q300:=S [95,108,97,119,95,104,111,109,101]
abbrev q301:=S [95,108,97,119,95,109,97,110,121]
abbrev q302:=S [95,108,97,119,95,97,116]
abbrev q303:=S [95,108,97,119,95,119,111,114,100]
abbrev q304:=S [95,108,97,119,95,116,101,120,116]
abbrev q305:=S [95,108,97,119,95,99,101,108,108,115]
abbrev q306:=S [95,108,97,119,95,104,97,110,100]
abbrev q307:=S [95,108,97,119,95,119,111,114,100,115]
abbrev q308:=S [95,108,97,119,95,115,104,101,101,116]
abbrev q309:=S [95,108,97,119,95,112]
abbrev q310:=S [95,108,97,119,95,114,111,119,115]
abbrev q311:=S [95,108,97,119,95,105]
noncomputable abbrev y0:Value:=(@Value.type SL.s2766695959194262286x5)
noncomputable abbrev y1:Value:=(@Value.type SL.s5856160107412720595x4)
noncomputable abbrev y2:Value:=(@Value.type SL.s658472552662922059x5)
noncomputable abbrev y3:Value:=(@Value.type SL.s14018661285674007319x4)
noncomputable abbrev y4:Value:=(@Value.builtin SL.s7097527257260152453x26)
noncomputable abbrev y5:Value:=(@Value.type SL.s7174869446012820540x8)
noncomputable abbrev y6:Value:=(@Value.type SL.s11030030927630378310x26)
noncomputable abbrev y7:Value:=(@Value.builtin SL.s10062305145149207511x16)
noncomputable abbrev y8:Value:=(@Value.type SL.s17162191345867700912x4)
noncomputable abbrev y9:Value:=(@Value.type SL.s2742458400755230247x6)
noncomputable abbrev y10:Value:=(@Value.builtin SL.s11443829558043349243x14)
noncomputable abbrev y11:Value:=(@Value.type SL.s14755015743595814543x17)
noncomputable abbrev y12:Value:=(@Value.builtin SL.s6511155373996960695x17)
noncomputable abbrev y13:Value:=(@Value.builtin SL.s12411053484034534018x21)
noncomputable abbrev y14:Value:=(@Value.builtin SL.s10220274742760427390x26)
noncomputable abbrev y15:Value:=(@Value.type SL.s4290257624100764138x5)
noncomputable abbrev y16:Value:=(@Value.builtin SL.s4860613602091757760x24)
noncomputable abbrev y17:Value:=(@Value.type SL.s6070975301684473832x10)
noncomputable abbrev y18:Value:=(@Value.type SL.s5946037652744460706x9)
noncomputable abbrev y19:Value:=(@Value.type SL.s4278001404047624695x13)
noncomputable abbrev y20:Value:=(@Value.builtin SL.s4209523147560561109x18)
noncomputable abbrev p0:Program:=PySem.Challenge.pw_pactroom_k51_work_on_a_draft
noncomputable abbrev pq:Program:=PySem.W.Fast.tw10241908194014267430
theorem pe:p0=pq:=PySem.W.Fast.te10241908194014267430
noncomputable def B(i:Nat):Stmt:=pq.main.body.getD i (.Pass ⟨0,0,0,0⟩)
noncomputable def T(i:Nat):Stmt:=p0.main.body.getD i (.Pass ⟨0,0,0,0⟩)
noncomputable def M(k j:Nat):Stmt:=L2.inClass (B k) j
noncomputable def N(k j:Nat):Stmt:=L2.inClass (T k) j
noncomputable abbrev fk(a b:Str)(s:Stmt):=FuncData.mk a b (L2.defArgs s) (.stmts (L2.defBody s)) (L2.defScope s)
section
variable (P:Params)
def a11:=Obj.mk y0 none (Data.seq E 0) E
def a12:=Obj.mk vn none (Data.fields E) E
def m0(x0:Str)(x1:Nat)(x2:Nat)(x3:Nat)(x4:Int)(x5:Nat)(x6:Nat)(x7:Int)(x8:Nat):=Obj.mk y1 none (Data.fields (A [vs x0 x1,vs x0 x2,vs q1 x3,vi x4 0,vi 0 0,vi 0 0,vi 0 0,vi 0 0,vr x5,vF,vi 181 0,vr x6,vn,vn,vn,vn,vi x7 0,vi x4 0,vs q1 x8])) E
def a13:=m0 q0 182 183 184 1 11 12 185 186
def m1(x0:Nat)(x1:Nat)(x2:Str)(x3:Nat):=Obj.mk y2 none Data.plain (A [sr x0,sr 3,sr x1,none,some (vs x2 x3),none,sr 0])
def a14:=m1 13 3 q2 164
def u0:=nd (boot_o_0 P) (nd (boot_o_1 P) (nd (boot_o_3 P) (l1 (boot_o_7 P)) (l1 a11)) (nd (boot_o_5 P) (l1 (boot_o_9 P)) (l1 a13))) (nd (boot_o_2 P) (nd (boot_o_4 P) (l1 (boot_o_8 P)) (l1 a12)) (nd (boot_o_6 P) (l1 (boot_o_10 P)) (l1 a14)))
def ta:=u0 P
def tb:=u0 P
def c0_3:=Obj.mk y3 none (Data.dict (A [de P q3 165 (vs q4 673),de P q5 166 vn,de P q6 167 vn,de P q7 168 y4,de P q8 169 vn,de P q9 170 (vr 6),de P q10 171 (vr 4),de P q11 173 (vs q1 172),de P q12 174 vn,de P q13 193 (vr 21),de P q14 205 (vr 22),de P q15 212 (vr 26),de P q16 275 (vr 71),de P q17 298 (vr 92),de P q18 321 (vr 111),de P q19 344 (vr 130),de P q20 351 (vr 139),de P q21 371 (vr 149),de P q22 387 (vr 162),de P q23 403 (vr 174),de P q24 419 (vr 186),de P q25 444 (vr 205),de P q26 550 (vr 284),de P q27 554 (vi 400 553),de P q28 556 (vi 2000 555),de P q29 558 (vi 2000 557),de P q30 560 (vi 8 559),de P q31 562 (vi 100000 561),de P q32 564 (vi 32 563),de P q33 566 (vi 37 565),de P q34 568 (vi 126 567),de P q35 575 (vr 295),de P q36 581 (vr 300),de P q37 589 (vr 307),de P q38 672 (vr 366),de P q39 676 (vi 40 675),de P q40 698 (vr 371),de P q41 763 (vr 423),de P q42 797 (vr 451),de P q43 836 (vr 484),de P q44 875 (vr 517),de P q45 931 (vr 562),de P q46 977 (vr 602),de P q47 1035 (vr 649)]) 44) E
def c0_12:=Obj.mk vn none (Data.fields (A [vi 1 0,vi 0 0,vr 20,vi 7 0,vi 0 0,vr 32,vi 26 0,vi 0 0,vr 81,vi 30 0,vi 0 0,vr 100,vi 34 0,vi 0 0,vr 119,vi 38 0,vi 0 0,vr 138,vi 45 0,vi 0 0,vr 145,vi 47 0,vi 0 0,vr 158,vi 49 0,vi 0 0,vr 170,vi 51 0,vi 0 0,vr 182,vi 53 0,vi 0 0,vr 194,vi 58 0,vi 0 0,vr 213,vi 117 0,vi 0 0,vr 294,vi 119 0,vi 0 0,vr 299,vi 129 0,vi 0 0,vr 306,vi 132 0,vi 0 0,vr 313,vi 199 0,vi 0 0,vr 377,vi 218 0,vi 0 0,vr 433,vi 226 0,vi 0 0,vr 459,vi 236 0,vi 0 0,vr 492,vi 246 0,vi 0 0,vr 525,vi 264 0,vi 0 0,vr 570,vi 277 0,vi 0 0,vr 610])) E
def m2(x0:Str)(x1:Nat):=Obj.mk y0 none (Data.seq (A [vs x0 x1]) 0) E
def c0_17:=m2 q48 190
def m3(x0:Str)(x1:Str)(x2:Stmt):=Obj.mk vn none (Data.func (fk x0 x1 x2 0 [] vn vn vn vn none vn vn 0)) E
def c0_19:=m3 q13 q13 (B 0)
def m4(x0:Str)(x1:Nat)(x2:Str)(x3:Nat)(x4:Nat)(x5:Int)(x6:Int)(x7:Nat)(x8:Nat)(x9:Nat)(x10:Nat)(x11:Nat)(x12:Int)(x13:Nat):=Obj.mk y1 none (Data.fields (A [vs x0 x1,vs x2 x3,vs q1 x4,vi x5 0,vi x6 0,vi 0 0,vi 0 0,vi 3 0,vr x7,vT,vi 181 0,vr x8,vn,vr x9,vr x10,vr x11,vi x12 0,vi x5 0,vs q1 x13])) E
def c0_20:=m4 q13 187 q13 188 189 1 1 15 16 17 18 19 191 192
def m5(x0:Str)(x1:Str)(x2:Stmt)(x3:Str)(x4:Nat)(x5:Nat):=Obj.mk y5 none (Data.func (fk x0 x1 x2 3 [] vn vn vn (vs x3 x4) none (vr x5) vn 0)) E
def c0_21:=m5 q13 q13 (B 0) q2 164 20
def c0_22:=Obj.mk y3 none (Data.dict (A [de P q49 196 (vi 0 197),de P q50 198 (vi 1 199),de P q51 200 (vi 2 201)]) 3) E
def m6(x0:Str)(x1:Nat)(x2:Str)(x3:Nat):=Obj.mk y0 none (Data.seq (A [vs x0 x1,vs x2 x3]) 0) E
def c0_23:=m6 q49 206 q49 207
def c0_24:=m6 q49 208 q50 209
def c0_25:=m6 q50 210 q49 211
def c0_26:=Obj.mk y0 none (Data.seq (A [vr 23,vr 24,vr 25]) 0) E
def c0_28:=Obj.mk y6 none (Data.fields (A [y7,y8])) E
def m7(x0:Nat)(x1:Str)(x2:Nat)(x3:Nat)(x4:Str)(x5:Nat)(x6:Nat)(x7:Int)(x8:Nat)(x9:Nat)(x10:Nat)(x11:Str)(x12:Nat)(x13:Nat)(x14:Str)(x15:Nat)(x16:Nat)(x17:Str)(x18:Nat)(x19:Nat)(x20:Str)(x21:Nat)(x22:Nat)(x23:Nat)(x24:Nat):=Obj.mk y3 none (Data.dict (A [de P q52 x0 (vs x1 x2),de P q54 x3 (vs x4 x5),de P q55 x6 (vi x7 x8),de P q56 x9 (vr x10),de P x11 x12 (vr x13),de P x14 x15 (vr x16),de P x17 x18 (vr x19),de P x20 x21 (vr x22),de P q61 x23 (vr x24)]) 9) E
def c0_29:=m7 P 220 q53 194 222 q16 221 224 7 223 233 40 q57 240 47 q58 249 54 q59 258 61 q60 265 68 268 69
def m8(x0:Int)(x1:Nat)(x2:Int)(x3:Nat)(x4:Int)(x5:Nat)(x6:Int)(x7:Nat)(x8:Int)(x9:Nat):=Obj.mk vn none (Data.fields (A [vi x0 0,vi 4 0,vr x1,vi x2 0,vi 4 0,vr x3,vi x4 0,vi 4 0,vr x5,vi x6 0,vi 4 0,vr x7,vi x8 0,vi 4 0,vr x9])) E
def c0_31:=m8 9 39 13 46 16 53 20 60 24 67
def c0_32:=m0 q16 215 216 217 7 30 31 218 219
def c0_33:=m1 32 29 q53 194
def m9(x0:Str)(x1:Nat)(x2:Str)(x3:Nat)(x4:Str)(x5:Nat):=Obj.mk y0 none (Data.seq (A [vs x0 x1,vs x2 x3,vs x4 x5]) 0) E
def c0_36:=m9 q62 228 q63 229 q64 230
def c0_38:=m3 q56 q65 (M 4 0)
def c0_39:=m4 q56 225 q65 226 227 9 3 34 35 36 37 38 231 232
def c0_40:=m5 q56 q65 (M 4 0) q53 194 39
def c0_43:=m2 q62 237
def c0_45:=m3 q57 q66 (M 4 1)
def c0_46:=m4 q57 234 q66 235 236 13 1 41 42 43 44 45 238 239
def c0_47:=m5 q57 q66 (M 4 1) q53 194 46
def c0_50:=m9 q62 244 q67 245 q68 246
def c0_52:=m3 q58 q69 (M 4 2)
def c0_53:=m4 q58 241 q69 242 243 16 2 48 49 50 51 52 247 248
def c0_54:=m5 q58 q69 (M 4 2) q53 194 53
def c0_57:=m9 q62 253 q67 254 q70 255
def c0_59:=m3 q59 q71 (M 4 3)
def c0_60:=m4 q59 250 q71 251 252 20 2 55 56 57 58 59 256 257
def c0_61:=m5 q59 q71 (M 4 3) q53 194 60
def c0_64:=m2 q62 262
def c0_66:=m3 q60 q72 (M 4 4)
def c0_67:=m4 q60 259 q72 260 261 24 1 62 63 64 65 66 263 264
def c0_68:=m5 q60 q72 (M 4 4) q53 194 67
def c0_69:=m6 q63 266 q64 267
def c0_70:=Obj.mk y3 none (Data.dict (A [de P q52 220 (vs q53 194),de P q55 224 (vi 7 223),de P q56 233 (vr 40),de P q57 240 (vr 47),de P q58 249 (vr 54),de P q59 258 (vr 61),de P q60 265 (vr 68),de P q61 268 (vr 69),de P q73 270 (vr 72),de P q74 272 (vr 73),de P q5 273 vn]) 4) E
def c0_71:=Obj.mk y8 none (Data.cls (ClassData.mk q16 [y9] [vr 71,y9] 70 q16 true [] [vr 92,vr 111,vr 130] false none false)) (A [none,none,some (vs q16 213),some (vs q16 221),some y10,some vT])
def m10(x0:Nat)(x1:Nat):=Obj.mk y11 none (Data.fields (A [vs q73 x0,vr x1,y12,y13])) E
def c0_72:=m10 269 71
def m11(x0:Nat)(x1:Nat):=Obj.mk y11 none (Data.fields (A [vs q74 x0,vr x1,y14,vn])) E
def c0_73:=m11 271 71
def m12(x0:Nat):=Obj.mk y15 none (Data.fields (A [vr x0,vr x0,vr x0])) E
def c0_74:=m12 71
def m13(x0:Nat):=Obj.mk y6 none (Data.fields (A [y16,vr x0])) E
def c0_75:=m13 71
def m14(x0:Nat):=Obj.mk y0 none (Data.seq (A [vr x0]) 0) E
def c0_76:=m14 71
def m15(x0:Nat)(x1:Str)(x2:Nat)(x3:Nat)(x4:Str)(x5:Nat)(x6:Nat)(x7:Int)(x8:Nat)(x9:Str)(x10:Nat)(x11:Nat)(x12:Nat)(x13:Nat):=Obj.mk y3 none (Data.dict (A [de P q52 x0 (vs x1 x2),de P q54 x3 (vs x4 x5),de P q55 x6 (vi x7 x8),de P x9 x10 (vr x11),de P q61 x12 (vr x13)]) 5) E
def c0_78:=m15 P 283 q53 194 285 q17 284 287 26 286 q57 294 89 295 90
def m16(x0:Int)(x1:Nat):=Obj.mk vn none (Data.fields (A [vi x0 0,vi 4 0,vr x1])) E
def c0_80:=m16 28 88
def c0_81:=m0 q17 278 279 280 26 79 80 281 282
def c0_82:=m1 81 78 q53 194
def c0_85:=m2 q62 291
def c0_87:=m3 q57 q75 (M 5 0)
def c0_88:=m4 q57 288 q75 289 290 28 1 83 84 85 86 87 292 293
def c0_89:=m5 q57 q75 (M 5 0) q53 194 88
def m17(x0:Nat)(x1:Str)(x2:Nat)(x3:Nat)(x4:Int)(x5:Nat)(x6:Str)(x7:Nat)(x8:Nat)(x9:Nat)(x10:Nat)(x11:Nat):=Obj.mk y3 none (Data.dict (A [de P q52 x0 (vs x1 x2),de P q55 x3 (vi x4 x5),de P x6 x7 (vr x8),de P q61 x9 (vr x10),de P q5 x11 vn]) 2) E
def c0_91:=m17 P 283 q53 194 287 26 286 q57 294 89 295 90 296
def c0_92:=Obj.mk y8 none (Data.cls (ClassData.mk q17 [vr 71] [vr 92,vr 71,y9] 91 q17 true [] [] false none false)) (A [sr 76,none,some (vs q17 276),some (vs q17 284),some y10,some vT])
def c0_93:=m12 92
def c0_94:=m13 92
def c0_97:=m15 P 306 q53 194 308 q18 307 310 30 309 q57 317 108 318 109
def c0_99:=m16 32 107
def c0_100:=m0 q18 301 302 303 30 98 99 304 305
def c0_101:=m1 100 97 q53 194
def c0_104:=m2 q62 314
def c0_106:=m3 q57 q76 (M 6 0)
def c0_107:=m4 q57 311 q76 312 313 32 1 102 103 104 105 106 315 316
def c0_108:=m5 q57 q76 (M 6 0) q53 194 107
def c0_110:=m17 P 306 q53 194 310 30 309 q57 317 108 318 109 319
def c0_111:=Obj.mk y8 none (Data.cls (ClassData.mk q18 [vr 71] [vr 111,vr 71,y9] 110 q18 true [] [] false none false)) (A [sr 95,none,some (vs q18 299),some (vs q18 307),some y10,some vT])
def c0_112:=m12 111
def c0_113:=m13 111
def c0_116:=m15 P 329 q53 194 331 q19 330 333 34 332 q57 340 127 341 128
def c0_118:=m16 36 126
def c0_119:=m0 q19 324 325 326 34 117 118 327 328
def c0_120:=m1 119 116 q53 194
def c0_123:=m2 q62 337
def c0_125:=m3 q57 q77 (M 7 0)
def c0_126:=m4 q57 334 q77 335 336 36 1 121 122 123 124 125 338 339
def c0_127:=m5 q57 q77 (M 7 0) q53 194 126
def c0_129:=m17 P 329 q53 194 333 34 332 q57 340 127 341 128 342
def c0_130:=Obj.mk y8 none (Data.cls (ClassData.mk q19 [vr 71] [vr 130,vr 71,y9] 129 q19 true [] [] false none false)) (A [sr 114,none,some (vs q19 322),some (vs q19 330),some y10,some vT])
def c0_131:=m12 130
def c0_132:=m13 130
def c0_135:=m2 q60 348
def c0_137:=m3 q20 q20 (B 8)
def c0_138:=m4 q20 345 q20 346 347 38 1 133 134 135 136 137 349 350
def c0_139:=m5 q20 q20 (B 8) q53 194 138
def c0_140:=Obj.mk y0 none (Data.seq (A [y17]) 0) E
def m18(x0:Nat)(x1:Nat)(x2:Str)(x3:Nat)(x4:Nat)(x5:Int)(x6:Nat)(x7:Nat)(x8:Nat):=Obj.mk y3 none (Data.dict (A [de P q52 x0 (vs q78 352),de P q54 x1 (vs x2 x3),de P q55 x4 (vi x5 x6),de P q61 x7 (vr x8)]) 4) E
def c0_142:=m18 P 361 363 q21 362 365 45 364 366 147
def c0_145:=m0 q21 356 357 358 45 143 144 359 360
def c0_146:=m1 145 142 q78 352
def c0_148:=Obj.mk y3 none (Data.dict (A [de P q52 361 (vs q78 352),de P q55 365 (vi 45 364),de P q61 366 (vr 147),de P q74 368 (vr 150),de P q5 369 vn]) 3) E
def c0_149:=Obj.mk y8 none (Data.cls (ClassData.mk q21 [y17] [vr 149,y17,y18,y19,y9] 148 q21 true [] [vr 162,vr 174,vr 186,vr 205] false none false)) (A [sr 140,none,some (vs q21 354),some (vs q21 362),some y20,some vT])
def c0_150:=m11 367 149
def c0_151:=m12 149
def c0_152:=m13 149
def c0_153:=m14 149
def c0_155:=m18 P 379 381 q22 380 383 47 382 384 160
def c0_158:=m0 q22 374 375 376 47 156 157 377 378
def c0_159:=m1 158 155 q78 352
def m19(x0:Nat)(x1:Nat)(x2:Int)(x3:Nat)(x4:Nat)(x5:Nat)(x6:Nat):=Obj.mk y3 none (Data.dict (A [de P q52 x0 (vs q78 352),de P q55 x1 (vi x2 x3),de P q61 x4 (vr x5),de P q5 x6 vn]) 2) E
def c0_161:=m19 P 379 383 47 382 384 160 385
def c0_162:=Obj.mk y8 none (Data.cls (ClassData.mk q22 [vr 149] [vr 162,vr 149,y17,y18,y19,y9] 161 q22 true [] [] false none false)) (A [sr 153,none,some (vs q22 372),some (vs q22 380),some y20,some vT])
def c0_163:=m12 162
def c0_164:=m13 162
def c0_167:=m18 P 395 397 q23 396 399 49 398 400 172
def c0_170:=m0 q23 390 391 392 49 168 169 393 394
def c0_171:=m1 170 167 q78 352
def c0_173:=m19 P 395 399 49 398 400 172 401
def c0_174:=Obj.mk y8 none (Data.cls (ClassData.mk q23 [vr 149] [vr 174,vr 149,y17,y18,y19,y9] 173 q23 true [] [] false none false)) (A [sr 165,none,some (vs q23 388),some (vs q23 396),some y20,some vT])
def c0_175:=m12 174
def c0_176:=m13 174
def c0_179:=m18 P 411 413 q24 412 415 51 414 416 184
def c0_182:=m0 q24 406 407 408 51 180 181 409 410
def c0_183:=m1 182 179 q78 352
def c0_185:=m19 P 411 415 51 414 416 184 417
def c0_186:=Obj.mk y8 none (Data.cls (ClassData.mk q24 [vr 149] [vr 186,vr 149,y17,y18,y19,y9] 185 q24 true [] [] false none false)) (A [sr 177,none,some (vs q24 404),some (vs q24 412),some y20,some vT])
def c0_187:=m12 186
def c0_188:=m13 186
def c0_191:=m15 P 427 q78 352 429 q25 428 431 53 430 q56 439 202 441 203
def c0_193:=m16 55 201
def c0_194:=m0 q25 422 423 424 53 192 193 425 426
def c0_195:=m1 194 191 q78 352
def c0_198:=m6 q62 435 q79 436
def c0_200:=m3 q56 q80 (M 14 0)
def c0_201:=m4 q56 432 q80 433 434 55 2 196 197 198 199 200 437 438
def c0_202:=m5 q56 q80 (M 14 0) q78 352 201
def c0_203:=m2 q79 440
def c0_204:=m17 P 427 q78 352 431 53 430 q56 439 202 441 203 442
def c0_205:=Obj.mk y8 none (Data.cls (ClassData.mk q25 [vr 149] [vr 205,vr 149,y17,y18,y19,y9] 204 q25 true [] [] false none false)) (A [sr 189,none,some (vs q25 420),some (vs q25 428),some y20,some vT])
def c0_206:=m12 205
def c0_207:=m13 205
def c0_210:=Obj.mk y3 none (Data.dict (A [de P q52 454 (vs q81 445),de P q54 456 (vs q26 455),de P q55 458 (vi 58 457),de P q56 465 (vr 221),de P q82 471 (vr 226),de P q83 479 (vr 233),de P q84 488 (vr 240),de P q85 497 (vr 247),de P q86 503 (vr 252),de P q87 509 (vr 257),de P q88 520 (vr 264),de P q89 526 (vr 269),de P q90 532 (vr 274),de P q91 541 (vr 281),de P q61 543 (vr 282)]) 15) E
def c0_212:=Obj.mk vn none (Data.fields (A [vi 60 0,vi 4 0,vr 220,vi 63 0,vi 4 0,vr 225,vi 71 0,vi 4 0,vr 232,vi 74 0,vi 4 0,vr 239,vi 77 0,vi 4 0,vr 246,vi 83 0,vi 4 0,vr 251,vi 86 0,vi 4 0,vr 256,vi 89 0,vi 4 0,vr 263,vi 97 0,vi 4 0,vr 268,vi 100 0,vi 4 0,vr 273,vi 103 0,vi 4 0,vr 280])) E
def c0_213:=m0 q26 449 450 451 58 211 212 452 453
def c0_214:=m1 213 210 q81 445
def c0_217:=m2 q62 462
def c0_219:=m3 q56 q92 (M 16 0)
def c0_220:=m4 q56 459 q92 460 461 60 1 215 216 217 218 219 463 464
def c0_221:=m5 q56 q92 (M 16 0) q81 445 220
def c0_224:=m3 q82 q93 (M 16 1)
def m20(x0:Str)(x1:Nat)(x2:Str)(x3:Nat)(x4:Nat)(x5:Int)(x6:Int)(x7:Nat)(x8:Nat)(x9:Nat)(x10:Int)(x11:Nat):=Obj.mk y1 none (Data.fields (A [vs x0 x1,vs x2 x3,vs q1 x4,vi x5 0,vi x6 0,vi 0 0,vi 0 0,vi 3 0,vr x7,vT,vi 181 0,vr x8,vn,vn,vn,vr x9,vi x10 0,vi x5 0,vs q1 x11])) E
def c0_225:=m20 q82 466 q93 467 468 63 3 222 223 224 469 470
def c0_226:=m5 q82 q93 (M 16 1) q81 445 225
def c0_229:=m6 q62 475 q94 476
def c0_231:=m3 q83 q95 (M 16 2)
def c0_232:=m4 q83 472 q95 473 474 71 2 227 228 229 230 231 477 478
def c0_233:=m5 q83 q95 (M 16 2) q81 445 232
def c0_236:=m9 q62 483 q94 484 q96 485
def c0_238:=m3 q84 q97 (M 16 3)
def c0_239:=m4 q84 480 q97 481 482 74 3 234 235 236 237 238 486 487
def c0_240:=m5 q84 q97 (M 16 3) q81 445 239
def c0_243:=m9 q62 492 q94 493 q98 494
def c0_245:=m3 q85 q99 (M 16 4)
def c0_246:=m4 q85 489 q99 490 491 77 2 241 242 243 244 245 495 496
def c0_247:=m5 q85 q99 (M 16 4) q81 445 246
def c0_250:=m3 q86 q100 (M 16 5)
def c0_251:=m20 q86 498 q100 499 500 83 1 248 249 250 501 502
def c0_252:=m5 q86 q100 (M 16 5) q81 445 251
def c0_255:=m3 q87 q101 (M 16 6)
def c0_256:=m20 q87 504 q101 505 506 86 1 253 254 255 507 508
def c0_257:=m5 q87 q101 (M 16 6) q81 445 256
def m21(x0:Str)(x1:Nat)(x2:Str)(x3:Nat)(x4:Str)(x5:Nat)(x6:Str)(x7:Nat)(x8:Str)(x9:Nat):=Obj.mk y0 none (Data.seq (A [vs x0 x1,vs x2 x3,vs x4 x5,vs x6 x7,vs x8 x9]) 0) E
def c0_260:=m21 q62 513 q98 514 q102 515 q48 516 q103 517
def c0_262:=m3 q88 q104 (M 16 7)
def c0_263:=m4 q88 510 q104 511 512 89 2 258 259 260 261 262 518 519
def c0_264:=m5 q88 q104 (M 16 7) q81 445 263
def c0_267:=m3 q89 q105 (M 16 8)
def c0_268:=m20 q89 521 q105 522 523 97 1 265 266 267 524 525
def c0_269:=m5 q89 q105 (M 16 8) q81 445 268
def c0_272:=m3 q90 q106 (M 16 9)
def c0_273:=m20 q90 527 q106 528 529 100 1 270 271 272 530 531
def c0_274:=m5 q90 q106 (M 16 9) q81 445 273
def c0_277:=m9 q62 536 q94 537 q48 538
def c0_279:=m3 q91 q107 (M 16 10)
def c0_280:=m4 q91 533 q107 534 535 103 2 275 276 277 278 279 539 540
def c0_281:=m5 q91 q107 (M 16 10) q81 445 280
def c0_282:=m2 q108 542
def c0_283:=Obj.mk y3 none (Data.dict (A [de P q52 454 (vs q81 445),de P q55 458 (vi 58 457),de P q56 465 (vr 221),de P q82 471 (vr 226),de P q83 479 (vr 233),de P q84 488 (vr 240),de P q85 497 (vr 247),de P q86 503 (vr 252),de P q87 509 (vr 257),de P q88 520 (vr 264),de P q89 526 (vr 269),de P q90 532 (vr 274),de P q91 541 (vr 281),de P q61 543 (vr 282),de P q73 545 (vr 285),de P q74 547 (vr 286),de P q5 548 vn]) 4) E
def c0_284:=Obj.mk y8 none (Data.cls (ClassData.mk q26 [y9] [vr 284,y9] 283 q26 true [] [] false none false)) (A [none,none,some (vs q26 447),some (vs q26 455),some y10,some vT])
def c0_285:=m10 544 284
def c0_286:=m11 546 284
def c0_287:=m12 284
def c0_288:=m13 284
def c0_291:=m2 q109 572
def c0_293:=m3 q35 q35 (B 26)
def c0_294:=m4 q35 569 q35 570 571 117 1 289 290 291 292 293 573 574
def c0_295:=m5 q35 q35 (B 26) q110 551 294
def c0_298:=m3 q36 q36 (B 27)
def c0_299:=m20 q36 576 q36 577 578 119 1 296 297 298 579 580
def c0_300:=m5 q36 q36 (B 27) q110 551 299
def c0_303:=m6 q111 585 q112 586
def c0_305:=m3 q37 q37 (B 28)
def c0_306:=m4 q37 582 q37 583 584 129 1 301 302 303 304 305 587 588
def c0_307:=m5 q37 q37 (B 28) q110 551 306
def c0_310:=Obj.mk y3 none (Data.dict (A [de P q52 597 (vs q110 551),de P q54 599 (vs q38 598),de P q55 601 (vi 132 600),de P q56 609 (vr 321),de P q113 617 (vr 328),de P q114 626 (vr 335),de P q115 635 (vr 342),de P q116 643 (vr 349),de P q117 652 (vr 356),de P q118 662 (vr 363),de P q61 665 (vr 364)]) 11) E
def c0_312:=Obj.mk vn none (Data.fields (A [vi 134 0,vi 4 0,vr 320,vi 138 0,vi 4 0,vr 327,vi 144 0,vi 4 0,vr 334,vi 154 0,vi 4 0,vr 341,vi 168 0,vi 4 0,vr 348,vi 174 0,vi 4 0,vr 355,vi 187 0,vi 4 0,vr 362])) E
def c0_313:=m0 q38 592 593 594 132 311 312 595 596
def c0_314:=m1 313 310 q110 551
def c0_317:=m6 q62 605 q119 606
def c0_319:=m3 q56 q120 (M 29 0)
def c0_320:=m4 q56 602 q120 603 604 134 2 315 316 317 318 319 607 608
def c0_321:=m5 q56 q120 (M 29 0) q110 551 320
def c0_324:=m6 q62 613 q111 614
def c0_326:=m3 q113 q121 (M 29 1)
def c0_327:=m4 q113 610 q121 611 612 138 2 322 323 324 325 326 615 616
def c0_328:=m5 q113 q121 (M 29 1) q110 551 327
def c0_331:=m9 q62 621 q122 622 q112 623
def c0_333:=m3 q114 q123 (M 29 2)
def c0_334:=m4 q114 618 q123 619 620 144 2 329 330 331 332 333 624 625
def c0_335:=m5 q114 q123 (M 29 2) q110 551 334
def c0_338:=m9 q62 630 q122 631 q124 632
def c0_340:=m3 q115 q125 (M 29 3)
def c0_341:=m4 q115 627 q125 628 629 154 2 336 337 338 339 340 633 634
def c0_342:=m5 q115 q125 (M 29 3) q110 551 341
def c0_345:=m6 q62 639 q112 640
def c0_347:=m3 q116 q126 (M 29 4)
def c0_348:=m4 q116 636 q126 637 638 168 1 343 344 345 346 347 641 642
def c0_349:=m5 q116 q126 (M 29 4) q110 551 348
def c0_352:=m9 q62 647 q127 648 q128 649
def c0_354:=m3 q117 q129 (M 29 5)
def c0_355:=m4 q117 644 q129 645 646 174 1 350 351 352 353 354 650 651
def c0_356:=m5 q117 q129 (M 29 5) q110 551 355
def m22(x0:Str)(x1:Nat)(x2:Str)(x3:Nat)(x4:Str)(x5:Nat)(x6:Str)(x7:Nat):=Obj.mk y0 none (Data.seq (A [vs x0 x1,vs x2 x3,vs x4 x5,vs x6 x7]) 0) E
def c0_359:=m22 q62 656 q130 657 q85 658 q131 659
def c0_361:=m3 q118 q132 (M 29 6)
def c0_362:=m4 q118 653 q132 654 655 187 2 357 358 359 360 361 660 661
def c0_363:=m5 q118 q132 (M 29 6) q110 551 362
def c0_364:=m6 q98 663 q119 664
def c0_365:=Obj.mk y3 none (Data.dict (A [de P q52 597 (vs q110 551),de P q55 601 (vi 132 600),de P q56 609 (vr 321),de P q113 617 (vr 328),de P q114 626 (vr 335),de P q115 635 (vr 342),de P q116 643 (vr 349),de P q117 652 (vr 356),de P q118 662 (vr 363),de P q61 665 (vr 364),de P q73 667 (vr 367),de P q74 669 (vr 368),de P q5 670 vn]) 4) E
def c0_366:=Obj.mk y8 none (Data.cls (ClassData.mk q38 [y9] [vr 366,y9] 365 q38 true [] [] false none false)) (A [none,none,some (vs q38 590),some (vs q38 598),some y10,some vT])
def c0_367:=m10 666 366
def c0_368:=m11 668 366
def c0_369:=m12 366
def c0_370:=m13 366
def c0_371:=Obj.mk y3 none (Data.dict (A [de P q133 677 (vs q134 678),de P q50 679 (vs q134 680),de P q135 681 (vs q136 682),de P q137 683 (vs q134 684),de P q138 685 (vs q139 686),de P q140 687 (vs q141 688),de P q142 689 (vs q141 690)]) 7) E
def c0_374:=Obj.mk y3 none (Data.dict (A [de P q52 706 (vs q4 673),de P q54 708 (vs q41 707),de P q55 710 (vi 199 709),de P q143 717 (vr 385),de P q96 724 (vr 392),de P q144 733 (vr 399),de P q145 741 (vr 406),de P q146 748 (vr 413),de P q147 755 (vr 420),de P q61 756 (vr 421)]) 10) E
def c0_376:=Obj.mk vn none (Data.fields (A [vi 201 0,vi 4 0,vr 384,vi 204 0,vi 4 0,vr 391,vi 207 0,vi 4 0,vr 398,vi 210 0,vi 4 0,vr 405,vi 213 0,vi 4 0,vr 412,vi 216 0,vi 4 0,vr 419])) E
def c0_377:=m0 q41 701 702 703 199 375 376 704 705
def c0_378:=m1 377 374 q4 673
def c0_381:=m2 q62 714
def c0_383:=m3 q143 q148 (M 33 0)
def c0_384:=m4 q143 711 q148 712 713 201 1 379 380 381 382 383 715 716
def c0_385:=m5 q143 q148 (M 33 0) q4 673 384
def c0_388:=m2 q62 721
def c0_390:=m3 q96 q149 (M 33 1)
def c0_391:=m4 q96 718 q149 719 720 204 1 386 387 388 389 390 722 723
def c0_392:=m5 q96 q149 (M 33 1) q4 673 391
def c0_395:=m9 q62 728 q150 729 q151 730
def c0_397:=m3 q144 q152 (M 33 2)
def c0_398:=m4 q144 725 q152 726 727 207 3 393 394 395 396 397 731 732
def c0_399:=m5 q144 q152 (M 33 2) q4 673 398
def c0_402:=m6 q62 737 q151 738
def c0_404:=m3 q145 q153 (M 33 3)
def c0_405:=m4 q145 734 q153 735 736 210 2 400 401 402 403 404 739 740
def c0_406:=m5 q145 q153 (M 33 3) q4 673 405
def c0_409:=m2 q62 745
def c0_411:=m3 q146 q154 (M 33 4)
def c0_412:=m4 q146 742 q154 743 744 213 1 407 408 409 410 411 746 747
def c0_413:=m5 q146 q154 (M 33 4) q4 673 412
def c0_416:=m2 q62 752
def c0_418:=m3 q147 q155 (M 33 5)
def c0_419:=m4 q147 749 q155 750 751 216 1 414 415 416 417 418 753 754
def c0_420:=m5 q147 q155 (M 33 5) q4 673 419
def c0_422:=Obj.mk y3 none (Data.dict (A [de P q52 706 (vs q4 673),de P q55 710 (vi 199 709),de P q143 717 (vr 385),de P q96 724 (vr 392),de P q144 733 (vr 399),de P q145 741 (vr 406),de P q146 748 (vr 413),de P q147 755 (vr 420),de P q61 756 (vr 421),de P q73 758 (vr 424),de P q74 760 (vr 425),de P q5 761 vn]) 4) E
def c0_423:=Obj.mk y8 none (Data.cls (ClassData.mk q41 [y9] [vr 423,y9] 422 q41 true [] [vr 451,vr 562] false none false)) (A [none,none,some (vs q41 699),some (vs q41 707),some y10,some vT])
def c0_424:=m10 757 423
def c0_425:=m11 759 423
def c0_426:=m12 423
def c0_427:=m13 423
def c0_428:=m14 423
def c0_430:=Obj.mk y3 none (Data.dict (A [de P q52 771 (vs q4 673),de P q54 773 (vs q42 772),de P q55 775 (vi 218 774),de P q56 784 (vr 441),de P q143 791 (vr 448),de P q61 794 (vr 449)]) 6) E
def c0_432:=Obj.mk vn none (Data.fields (A [vi 220 0,vi 4 0,vr 440,vi 224 0,vi 4 0,vr 447])) E
def c0_433:=m0 q42 766 767 768 218 431 432 769 770
def c0_434:=m1 433 430 q4 673
def c0_437:=m9 q62 779 q156 780 q157 781
def c0_439:=m3 q56 q158 (M 34 0)
def c0_440:=m4 q56 776 q158 777 778 220 3 435 436 437 438 439 782 783
def c0_441:=m5 q56 q158 (M 34 0) q4 673 440
def c0_444:=m2 q62 788
def c0_446:=m3 q143 q159 (M 34 1)
def c0_447:=m4 q143 785 q159 786 787 224 1 442 443 444 445 446 789 790
def c0_448:=m5 q143 q159 (M 34 1) q4 673 447
def c0_449:=m6 q157 792 q156 793
def c0_450:=Obj.mk y3 none (Data.dict (A [de P q52 771 (vs q4 673),de P q55 775 (vi 218 774),de P q56 784 (vr 441),de P q143 791 (vr 448),de P q61 794 (vr 449),de P q5 795 vn]) 2) E
def c0_451:=Obj.mk y8 none (Data.cls (ClassData.mk q42 [vr 423] [vr 451,vr 423,y9] 450 q42 true [] [vr 484,vr 517,vr 602,vr 649] false none false)) (A [sr 428,none,some (vs q42 764),some (vs q42 772),some y10,some vT])
def c0_452:=m12 451
def c0_453:=m13 451
def c0_454:=m14 451
def m23(x0:Nat)(x1:Nat)(x2:Str)(x3:Nat)(x4:Nat)(x5:Int)(x6:Nat)(x7:Str)(x8:Nat)(x9:Nat)(x10:Nat)(x11:Nat)(x12:Nat)(x13:Nat)(x14:Nat)(x15:Nat):=Obj.mk y3 none (Data.dict (A [de P q52 x0 (vs q4 673),de P q54 x1 (vs x2 x3),de P q55 x4 (vi x5 x6),de P x7 x8 (vr x9),de P q144 x10 (vr x11),de P q147 x12 (vr x13),de P q61 x14 (vr x15)]) 7) E
def c0_456:=m23 P 805 807 q43 806 809 226 808 q96 816 467 825 474 832 481 833 482
def m24(x0:Int)(x1:Nat)(x2:Int)(x3:Nat)(x4:Int)(x5:Nat):=Obj.mk vn none (Data.fields (A [vi x0 0,vi 4 0,vr x1,vi x2 0,vi 4 0,vr x3,vi x4 0,vi 4 0,vr x5])) E
def c0_458:=m24 228 466 231 473 234 480
def c0_459:=m0 q43 800 801 802 226 457 458 803 804
def c0_460:=m1 459 456 q4 673
def c0_463:=m2 q62 813
def c0_465:=m3 q96 q160 (M 35 0)
def c0_466:=m4 q96 810 q160 811 812 228 1 461 462 463 464 465 814 815
def c0_467:=m5 q96 q160 (M 35 0) q4 673 466
def c0_470:=m9 q62 820 q150 821 q151 822
def c0_472:=m3 q144 q161 (M 35 1)
def c0_473:=m4 q144 817 q161 818 819 231 3 468 469 470 471 472 823 824
def c0_474:=m5 q144 q161 (M 35 1) q4 673 473
def c0_477:=m2 q62 829
def c0_479:=m3 q147 q162 (M 35 2)
def c0_480:=m4 q147 826 q162 827 828 234 1 475 476 477 478 479 830 831
def c0_481:=m5 q147 q162 (M 35 2) q4 673 480
def m25(x0:Nat)(x1:Nat)(x2:Int)(x3:Nat)(x4:Str)(x5:Nat)(x6:Nat)(x7:Nat)(x8:Nat)(x9:Nat)(x10:Nat)(x11:Nat)(x12:Nat)(x13:Nat):=Obj.mk y3 none (Data.dict (A [de P q52 x0 (vs q4 673),de P q55 x1 (vi x2 x3),de P x4 x5 (vr x6),de P q144 x7 (vr x8),de P q147 x9 (vr x10),de P q61 x11 (vr x12),de P q5 x13 vn]) 2) E
def c0_483:=m25 P 805 809 226 808 q96 816 467 825 474 832 481 833 482 834
def c0_484:=Obj.mk y8 none (Data.cls (ClassData.mk q43 [vr 451] [vr 484,vr 451,vr 423,y9] 483 q43 true [] [] false none false)) (A [sr 454,none,some (vs q43 798),some (vs q43 806),some y10,some vT])
def c0_485:=m12 484
def c0_486:=m13 484
def c0_489:=m23 P 844 846 q44 845 848 236 847 q96 855 500 864 507 871 514 872 515
def c0_491:=m24 238 499 241 506 244 513
def c0_492:=m0 q44 839 840 841 236 490 491 842 843
def c0_493:=m1 492 489 q4 673
def c0_496:=m2 q62 852
def c0_498:=m3 q96 q163 (M 36 0)
def c0_499:=m4 q96 849 q163 850 851 238 1 494 495 496 497 498 853 854
def c0_500:=m5 q96 q163 (M 36 0) q4 673 499
def c0_503:=m9 q62 859 q150 860 q151 861
def c0_505:=m3 q144 q164 (M 36 1)
def c0_506:=m4 q144 856 q164 857 858 241 3 501 502 503 504 505 862 863
def c0_507:=m5 q144 q164 (M 36 1) q4 673 506
def c0_510:=m2 q62 868
def c0_512:=m3 q147 q165 (M 36 2)
def c0_513:=m4 q147 865 q165 866 867 244 1 508 509 510 511 512 869 870
def c0_514:=m5 q147 q165 (M 36 2) q4 673 513
def c0_516:=m25 P 844 848 236 847 q96 855 500 864 507 871 514 872 515 873
def c0_517:=Obj.mk y8 none (Data.cls (ClassData.mk q44 [vr 451] [vr 517,vr 451,vr 423,y9] 516 q44 true [] [] false none false)) (A [sr 487,none,some (vs q44 837),some (vs q44 845),some y10,some vT])
def c0_518:=m12 517
def c0_519:=m13 517
def c0_522:=m7 P 883 q4 673 885 q45 884 887 246 886 897 533 q143 904 540 q96 911 547 q144 917 552 q147 924 559 928 560
def c0_524:=m8 248 532 253 539 256 546 259 551 262 558
def c0_525:=m0 q45 878 879 880 246 523 524 881 882
def c0_526:=m1 525 522 q4 673
def c0_529:=m22 q62 891 q156 892 q166 893 q167 894
def c0_531:=m3 q56 q168 (M 37 0)
def c0_532:=m4 q56 888 q168 889 890 248 4 527 528 529 530 531 895 896
def c0_533:=m5 q56 q168 (M 37 0) q4 673 532
def c0_536:=m2 q62 901
def c0_538:=m3 q143 q169 (M 37 1)
def c0_539:=m4 q143 898 q169 899 900 253 1 534 535 536 537 538 902 903
def c0_540:=m5 q143 q169 (M 37 1) q4 673 539
def c0_543:=m2 q62 908
def c0_545:=m3 q96 q170 (M 37 2)
def c0_546:=m4 q96 905 q170 906 907 256 1 541 542 543 544 545 909 910
def c0_547:=m5 q96 q170 (M 37 2) q4 673 546
def c0_550:=m3 q144 q171 (M 37 3)
def c0_551:=m20 q144 912 q171 913 914 259 3 548 549 550 915 916
def c0_552:=m5 q144 q171 (M 37 3) q4 673 551
def c0_555:=m2 q62 921
def c0_557:=m3 q147 q172 (M 37 4)
def c0_558:=m4 q147 918 q172 919 920 262 1 553 554 555 556 557 922 923
def c0_559:=m5 q147 q172 (M 37 4) q4 673 558
def c0_560:=m9 q167 925 q166 926 q156 927
def c0_561:=Obj.mk y3 none (Data.dict (A [de P q52 883 (vs q4 673),de P q55 887 (vi 246 886),de P q56 897 (vr 533),de P q143 904 (vr 540),de P q96 911 (vr 547),de P q144 917 (vr 552),de P q147 924 (vr 559),de P q61 928 (vr 560),de P q5 929 vn]) 2) E
def c0_562:=Obj.mk y8 none (Data.cls (ClassData.mk q45 [vr 423] [vr 562,vr 423,y9] 561 q45 true [] [] false none false)) (A [sr 520,none,some (vs q45 876),some (vs q45 884),some y10,some vT])
def c0_563:=m12 562
def c0_564:=m13 562
def c0_567:=Obj.mk y3 none (Data.dict (A [de P q52 939 (vs q4 673),de P q54 941 (vs q46 940),de P q55 943 (vi 264 942),de P q96 950 (vr 578),de P q144 959 (vr 585),de P q146 966 (vr 592),de P q147 973 (vr 599),de P q61 974 (vr 600)]) 8) E
def c0_569:=Obj.mk vn none (Data.fields (A [vi 266 0,vi 4 0,vr 577,vi 269 0,vi 4 0,vr 584,vi 272 0,vi 4 0,vr 591,vi 275 0,vi 4 0,vr 598])) E
def c0_570:=m0 q46 934 935 936 264 568 569 937 938
def c0_571:=m1 570 567 q4 673
def c0_574:=m2 q62 947
def c0_576:=m3 q96 q173 (M 38 0)
def c0_577:=m4 q96 944 q173 945 946 266 1 572 573 574 575 576 948 949
def c0_578:=m5 q96 q173 (M 38 0) q4 673 577
def c0_581:=m9 q62 954 q150 955 q151 956
def c0_583:=m3 q144 q174 (M 38 1)
def c0_584:=m4 q144 951 q174 952 953 269 3 579 580 581 582 583 957 958
def c0_585:=m5 q144 q174 (M 38 1) q4 673 584
def c0_588:=m2 q62 963
def c0_590:=m3 q146 q175 (M 38 2)
def c0_591:=m4 q146 960 q175 961 962 272 1 586 587 588 589 590 964 965
def c0_592:=m5 q146 q175 (M 38 2) q4 673 591
def c0_595:=m2 q62 970
def c0_597:=m3 q147 q176 (M 38 3)
def c0_598:=m4 q147 967 q176 968 969 275 1 593 594 595 596 597 971 972
def c0_599:=m5 q147 q176 (M 38 3) q4 673 598
def c0_601:=Obj.mk y3 none (Data.dict (A [de P q52 939 (vs q4 673),de P q55 943 (vi 264 942),de P q96 950 (vr 578),de P q144 959 (vr 585),de P q146 966 (vr 592),de P q147 973 (vr 599),de P q61 974 (vr 600),de P q5 975 vn]) 2) E
def c0_602:=Obj.mk y8 none (Data.cls (ClassData.mk q46 [vr 451] [vr 602,vr 451,vr 423,y9] 601 q46 true [] [] false none false)) (A [sr 565,none,some (vs q46 932),some (vs q46 940),some y10,some vT])
def c0_603:=m12 602
def c0_604:=m13 602
def c0_607:=m7 P 985 q4 673 987 q47 986 989 277 988 999 618 q96 1006 625 q144 1015 632 q145 1023 639 q147 1030 646 1032 647
def c0_609:=m8 279 617 283 624 286 631 289 638 292 645
def c0_610:=m0 q47 980 981 982 277 608 609 983 984
def c0_611:=m1 610 607 q4 673
def c0_614:=m22 q62 993 q156 994 q157 995 q177 996
def c0_616:=m3 q56 q178 (M 39 0)
def c0_617:=m4 q56 990 q178 991 992 279 4 612 613 614 615 616 997 998
def c0_618:=m5 q56 q178 (M 39 0) q4 673 617
def c0_621:=m2 q62 1003
def c0_623:=m3 q96 q179 (M 39 1)
def c0_624:=m4 q96 1000 q179 1001 1002 283 1 619 620 621 622 623 1004 1005
def c0_625:=m5 q96 q179 (M 39 1) q4 673 624
def c0_628:=m9 q62 1010 q150 1011 q151 1012
def c0_630:=m3 q144 q180 (M 39 2)
def c0_631:=m4 q144 1007 q180 1008 1009 286 3 626 627 628 629 630 1013 1014
def c0_632:=m5 q144 q180 (M 39 2) q4 673 631
def c0_635:=m6 q62 1019 q151 1020
def c0_637:=m3 q145 q181 (M 39 3)
def c0_638:=m4 q145 1016 q181 1017 1018 289 2 633 634 635 636 637 1021 1022
def c0_639:=m5 q145 q181 (M 39 3) q4 673 638
def c0_642:=m2 q62 1027
def c0_644:=m3 q147 q182 (M 39 4)
def c0_645:=m4 q147 1024 q182 1025 1026 292 1 640 641 642 643 644 1028 1029
def c0_646:=m5 q147 q182 (M 39 4) q4 673 645
def c0_647:=m2 q177 1031
def c0_648:=Obj.mk y3 none (Data.dict (A [de P q52 985 (vs q4 673),de P q55 989 (vi 277 988),de P q56 999 (vr 618),de P q96 1006 (vr 625),de P q144 1015 (vr 632),de P q145 1023 (vr 639),de P q147 1030 (vr 646),de P q61 1032 (vr 647),de P q5 1033 vn]) 2) E
def c0_649:=Obj.mk y8 none (Data.cls (ClassData.mk q47 [vr 451] [vr 649,vr 451,vr 423,y9] 648 q47 true [] [] false none false)) (A [sr 605,none,some (vs q47 978),some (vs q47 986),some y10,some vT])
def c0_650:=m12 649
def c0_651:=m13 649
def tc0_:=nd (boot_o_0 P) (nd (boot_o_1 P) (nd (c0_3 P) (nd (boot_o_7 P) (nd a11 (nd c0_31 (nd a12 (nd c0_127 (nd c0_255 (l1 a11) .nil) (nd c0_383 (l1 c0_639) .nil)) (nd (c0_191 P) (nd c0_319 (l1 a11) .nil) (l1 c0_447))) (nd c0_76 (nd c0_159 (nd c0_287 (l1 c0_543) .nil) (l1 a12)) (nd a12 (nd a12 (l1 (c0_607 P)) .nil) (l1 c0_479)))) (nd c0_47 (nd a11 (nd a11 (nd a12 (l1 a11) .nil) (l1 c0_399)) (nd c0_207 (nd c0_335 (l1 c0_591) .nil) (l1 c0_463))) (nd c0_111 (nd c0_175 (nd c0_303 (l1 c0_559) .nil) (l1 a11)) (nd c0_239 (nd c0_367 (l1 c0_623) .nil) (l1 a12))))) (nd c0_23 (nd c0_39 (nd c0_71 (nd c0_135 (nd c0_263 (l1 c0_519) .nil) (nd c0_391 (l1 c0_647) .nil)) (nd a11 (nd c0_327 (l1 c0_583) .nil) (l1 c0_28))) (nd a12 (nd (c0_167 P) (nd c0_295 (l1 c0_551) .nil) (l1 c0_423)) (nd c0_231 (nd c0_359 (l1 a11) .nil) (l1 c0_454)))) (nd a11 (nd c0_87 (nd c0_151 (nd c0_279 (l1 a12) .nil) (l1 a11)) (nd a11 (nd a11 (l1 c0_599) .nil) (l1 a11))) (nd c0_119 (nd c0_183 (nd a11 (l1 (c0_567 P)) .nil) (l1 c0_439)) (nd c0_247 (nd a11 (l1 c0_631) .nil) (l1 c0_503)))))) (nd a11 (nd c0_19 (nd a12 (nd c0_67 (nd c0_131 (nd a12 (l1 a11) .nil) (nd a12 (l1 a11) .nil)) (nd c0_195 (nd a12 (l1 a11) .nil) (l1 c0_451))) (nd c0_99 (nd c0_163 (nd c0_291 (l1 c0_547) .nil) (l1 c0_419)) (nd a11 (nd c0_355 (l1 c0_611) .nil) (l1 (c0_483 P))))) (nd a11 (nd a11 (nd a11 (nd a11 (l1 c0_531) .nil) (l1 a11)) (nd a11 (nd a11 (l1 c0_595) .nil) (l1 c0_467))) (nd c0_28 (nd (c0_179 P) (nd c0_307 (l1 c0_563) .nil) (l1 a11)) (nd c0_243 (nd (c0_371 P) (l1 a12) .nil) (l1 c0_499))))) (nd a11 (nd c0_43 (nd c0_75 (nd c0_139 (nd c0_267 (l1 a11) .nil) (nd c0_395 (l1 c0_651) .nil)) (nd c0_203 (nd c0_331 (l1 a12) .nil) (l1 c0_459))) (nd c0_107 (nd c0_171 (nd c0_299 (l1 c0_555) .nil) (l1 c0_427)) (nd a12 (nd c0_363 (l1 a11) .nil) (l1 c0_491)))) (nd c0_59 (nd (c0_91 P) (nd (c0_155 P) (nd (c0_283 P) (l1 c0_539) .nil) (l1 c0_411)) (nd c0_219 (nd c0_347 (l1 c0_603) .nil) (l1 a11))) (nd c0_123 (nd c0_187 (nd a11 (l1 c0_571) .nil) (l1 a12)) (nd c0_251 (nd a11 (l1 c0_635) .nil) (l1 c0_507))))))) (nd (boot_o_5 P) (nd (boot_o_9 P) (nd c0_17 (nd c0_33 (nd a11 (nd (c0_129 P) (nd c0_257 (l1 c0_513) .nil) (nd c0_385 (l1 a12) .nil)) (nd c0_193 (nd c0_321 (l1 c0_577) .nil) (l1 c0_449))) (nd (c0_97 P) (nd (c0_161 P) (nd a11 (l1 c0_545) .nil) (l1 a11)) (nd c0_225 (nd a11 (l1 c0_609) .nil) (l1 c0_481)))) (nd a12 (nd c0_81 (nd c0_145 (nd c0_273 (l1 c0_529) .nil) (l1 a12)) (nd c0_28 (nd a12 (l1 a11) .nil) (l1 c0_465))) (nd c0_113 (nd c0_153 (nd c0_305 (l1 (c0_561 P)) .nil) (l1 c0_433)) (nd a11 (nd c0_369 (l1 c0_625) .nil) (l1 a11))))) (nd c0_25 (nd a11 (nd c0_73 (nd c0_137 (nd a11 (l1 c0_28) .nil) (nd a11 (l1 c0_649) .nil)) (nd c0_201 (nd a11 (l1 c0_585) .nil) (l1 a11))) (nd a11 (nd a12 (nd a12 (l1 a11) .nil) (l1 c0_425)) (nd c0_233 (nd c0_361 (l1 c0_617) .nil) (l1 (c0_489 P))))) (nd c0_57 (nd c0_89 (nd c0_153 (nd c0_281 (l1 a11) .nil) (l1 c0_409)) (nd c0_217 (nd c0_345 (l1 (c0_601 P)) .nil) (l1 c0_473))) (nd a11 (nd (c0_185 P) (nd c0_313 (l1 c0_569) .nil) (l1 c0_441)) (nd a12 (nd c0_377 (l1 a11) .nil) (l1 c0_505)))))) (nd a13 (nd c0_21 (nd a11 (nd c0_69 (nd a11 (nd a11 (l1 c0_517) .nil) (nd a11 (l1 c0_645) .nil)) (nd a12 (nd a11 (l1 c0_581) .nil) (l1 c0_453))) (nd c0_101 (nd c0_153 (nd c0_293 (l1 a12) .nil) (l1 a11)) (nd c0_229 (nd a11 (l1 a12) .nil) (l1 c0_485)))) (nd c0_53 (nd c0_85 (nd c0_149 (nd c0_277 (l1 c0_533) .nil) (l1 c0_405)) (nd c0_213 (nd c0_341 (l1 c0_597) .nil) (l1 a12))) (nd a11 (nd a12 (nd c0_28 (l1 c0_454) .nil) (l1 c0_437)) (nd c0_245 (nd c0_28 (l1 a11) .nil) (l1 a11))))) (nd (c0_29 P) (nd c0_45 (nd c0_28 (nd c0_28 (nd c0_269 (l1 c0_525) .nil) (l1 c0_397)) (nd c0_205 (nd c0_333 (l1 a11) .nil) (l1 a11))) (nd a11 (nd (c0_173 P) (nd a11 (l1 c0_557) .nil) (l1 c0_28)) (nd a11 (nd (c0_365 P) (l1 c0_621) .nil) (l1 c0_493)))) (nd c0_61 (nd c0_93 (nd a12 (nd c0_285 (l1 a11) .nil) (l1 c0_413)) (nd c0_221 (nd c0_349 (l1 c0_454) .nil) (l1 c0_477))) (nd c0_125 (nd c0_153 (nd c0_317 (l1 a12) .nil) (l1 a11)) (nd a11 (nd c0_381 (l1 c0_637) .nil) (l1 a12)))))))) (nd (boot_o_2 P) (nd (boot_o_4 P) (nd (boot_o_8 P) (nd a12 (nd c0_32 (nd c0_64 (nd a11 (nd c0_256 (l1 c0_512) .nil) (nd c0_384 (l1 a11) .nil)) (nd a11 (nd c0_320 (l1 c0_576) .nil) (l1 c0_448))) (nd c0_28 (nd a11 (nd c0_288 (l1 a11) .nil) (l1 c0_416)) (nd c0_224 (nd c0_352 (l1 a11) .nil) (l1 c0_480)))) (nd a11 (nd c0_80 (nd a12 (nd c0_272 (l1 a12) .nil) (l1 a11)) (nd a11 (nd a11 (l1 c0_592) .nil) (l1 a11))) (nd c0_112 (nd c0_176 (nd a11 (l1 c0_560) .nil) (l1 c0_432)) (nd c0_240 (nd c0_368 (l1 c0_624) .nil) (l1 c0_496))))) (nd c0_24 (nd c0_40 (nd c0_72 (nd a11 (nd c0_264 (l1 c0_428) .nil) (nd c0_392 (l1 (c0_648 P)) .nil)) (nd c0_200 (nd c0_328 (l1 c0_584) .nil) (l1 (c0_456 P)))) (nd c0_104 (nd a11 (nd a11 (l1 c0_552) .nil) (l1 c0_424)) (nd c0_232 (nd a11 (l1 c0_616) .nil) (l1 c0_28)))) (nd a12 (nd c0_88 (nd c0_152 (nd c0_280 (l1 c0_536) .nil) (l1 a12)) (nd a12 (nd a12 (l1 a11) .nil) (l1 c0_472))) (nd c0_120 (nd a11 (nd c0_312 (l1 a11) .nil) (l1 c0_440)) (nd a11 (nd c0_376 (l1 c0_632) .nil) (l1 a11)))))) (nd c0_12 (nd c0_20 (nd c0_36 (nd c0_68 (nd c0_132 (nd c0_260 (l1 (c0_516 P)) .nil) (nd c0_388 (l1 c0_644) .nil)) (nd a11 (nd c0_324 (l1 a12) .nil) (l1 c0_452))) (nd c0_100 (nd c0_164 (nd a11 (l1 a11) .nil) (l1 c0_420)) (nd a12 (nd c0_356 (l1 a11) .nil) (l1 c0_484)))) (nd c0_52 (nd a12 (nd (c0_148 P) (nd a12 (l1 c0_532) .nil) (l1 c0_404)) (nd c0_212 (nd c0_340 (l1 a11) .nil) (l1 a11))) (nd (c0_116 P) (nd a11 (nd a11 (l1 c0_564) .nil) (l1 a12)) (nd a11 (nd a11 (l1 c0_628) .nil) (l1 c0_500))))) (nd c0_28 (nd a11 (nd c0_76 (nd c0_140 (nd c0_268 (l1 c0_524) .nil) (l1 a11)) (nd (c0_204 P) (nd a11 (l1 c0_588) .nil) (l1 c0_460))) (nd c0_108 (nd a11 (nd c0_300 (l1 a11) .nil) (l1 c0_428)) (nd c0_236 (nd c0_364 (l1 a12) .nil) (l1 c0_492)))) (nd c0_60 (nd c0_92 (nd a11 (nd c0_284 (l1 c0_540) .nil) (l1 c0_412)) (nd c0_220 (nd c0_348 (l1 c0_604) .nil) (l1 a12))) (nd a11 (nd c0_188 (nd a12 (l1 a11) .nil) (l1 c0_444)) (nd c0_252 (nd a12 (l1 a11) .nil) (l1 a11))))))) (nd (boot_o_6 P) (nd (boot_o_10 P) (nd a11 (nd a11 (nd c0_66 (nd c0_130 (nd a11 (l1 c0_514) .nil) (nd a11 (l1 c0_642) .nil)) (nd c0_194 (nd a11 (l1 c0_578) .nil) (l1 (c0_450 P)))) (nd a11 (nd c0_162 (nd a12 (l1 c0_546) .nil) (l1 c0_418)) (nd c0_226 (nd c0_354 (l1 c0_610) .nil) (l1 a11)))) (nd c0_50 (nd c0_82 (nd c0_146 (nd c0_274 (l1 a11) .nil) (l1 c0_402)) (nd (c0_210 P) (nd c0_338 (l1 a12) .nil) (l1 c0_466))) (nd c0_76 (nd c0_28 (nd c0_306 (l1 c0_562) .nil) (l1 c0_434)) (nd a12 (nd c0_370 (l1 a11) .nil) (l1 c0_498))))) (nd c0_26 (nd a12 (nd c0_74 (nd c0_138 (nd a12 (l1 (c0_522 P)) .nil) (nd a12 (l1 c0_650) .nil)) (nd c0_202 (nd a12 (l1 a11) .nil) (l1 c0_458))) (nd c0_106 (nd c0_170 (nd c0_298 (l1 a12) .nil) (l1 c0_426)) (nd a11 (nd c0_362 (l1 c0_618) .nil) (l1 a11)))) (nd a11 (nd a11 (nd c0_28 (nd c0_282 (l1 c0_538) .nil) (l1 a11)) (nd a11 (nd a11 (l1 c0_602) .nil) (l1 c0_474))) (nd a12 (nd c0_186 (nd c0_314 (l1 c0_570) .nil) (l1 a11)) (nd c0_250 (nd c0_378 (l1 a12) .nil) (l1 c0_506)))))) (nd a14 (nd (c0_22 P) (nd c0_38 (nd (c0_70 P) (nd a12 (nd c0_262 (l1 c0_518) .nil) (nd c0_390 (l1 c0_646) .nil)) (nd c0_198 (nd c0_326 (l1 a11) .nil) (l1 c0_454))) (nd a11 (nd c0_28 (nd c0_294 (l1 c0_550) .nil) (l1 (c0_422 P))) (nd a11 (nd a12 (l1 c0_614) .nil) (l1 c0_486)))) (nd c0_54 (nd a11 (nd c0_150 (nd a11 (l1 a11) .nil) (l1 c0_406)) (nd c0_214 (nd c0_342 (l1 c0_598) .nil) (l1 c0_470))) (nd c0_118 (nd c0_182 (nd (c0_310 P) (l1 c0_28) .nil) (l1 a11)) (nd c0_246 (nd (c0_374 P) (l1 c0_630) .nil) (l1 a12))))) (nd a11 (nd c0_46 (nd (c0_78 P) (nd (c0_142 P) (nd a11 (l1 c0_526) .nil) (l1 c0_398)) (nd c0_206 (nd c0_334 (l1 c0_590) .nil) (l1 a12))) (nd (c0_110 P) (nd c0_174 (nd a12 (l1 c0_558) .nil) (l1 (c0_430 P))) (nd c0_238 (nd c0_366 (l1 a11) .nil) (l1 a11)))) (nd a11 (nd c0_94 (nd c0_158 (nd c0_286 (l1 a12) .nil) (l1 a11)) (nd a11 (nd a11 (l1 c0_28) .nil) (l1 a11))) (nd c0_126 (nd c0_28 (nd a11 (l1 c0_574) .nil) (l1 c0_446)) (nd a12 (nd a11 (l1 c0_638) .nil) (l1 c0_510))))))))
def c1_3:=Obj.mk y3 none (Data.dict (A [de P q3 165 (vs q183 1517),de P q5 166 vn,de P q6 167 vn,de P q7 168 y4,de P q8 169 vn,de P q9 170 (vr 6),de P q10 171 (vr 4),de P q11 173 (vs q1 172),de P q12 174 vn,de P q13 193 (vr 21),de P q14 205 (vr 22),de P q15 212 (vr 26),de P q16 275 (vr 71),de P q17 298 (vr 92),de P q18 321 (vr 111),de P q19 344 (vr 130),de P q20 351 (vr 139),de P q21 371 (vr 149),de P q22 387 (vr 162),de P q23 403 (vr 174),de P q24 419 (vr 186),de P q25 444 (vr 205),de P q26 550 (vr 284),de P q27 554 (vi 400 553),de P q28 556 (vi 2000 555),de P q29 558 (vi 2000 557),de P q30 560 (vi 8 559),de P q31 562 (vi 100000 561),de P q32 564 (vi 32 563),de P q33 566 (vi 37 565),de P q34 568 (vi 126 567),de P q35 575 (vr 295),de P q36 581 (vr 300),de P q37 589 (vr 307),de P q38 672 (vr 366),de P q39 676 (vi 40 675),de P q40 698 (vr 371),de P q41 763 (vr 423),de P q42 797 (vr 451),de P q43 836 (vr 484),de P q44 875 (vr 517),de P q45 931 (vr 562),de P q46 977 (vr 602),de P q47 1035 (vr 649),de P q184 1076 (vr 682),de P q185 1117 (vr 715),de P q186 1123 (vr 722),de P q117 1132 (vr 729),de P q187 1140 (vr 736),de P q188 1149 (vr 743),de P q189 1328 (vr 861),de P q190 1394 (vr 908),de P q191 1516 (vr 1004),de P q192 1526 (vr 1015),de P q193 1533 (vr 1022),de P q194 1540 (vr 1029),de P q195 1552 (vr 1036),de P q196 1563 (vr 1043),de P q197 1575 (vr 1050),de P q198 1581 (vr 1055)]) 60) E
def c1_12:=Obj.mk vn none (Data.fields (A [vi 1 0,vi 0 0,vr 20,vi 7 0,vi 0 0,vr 32,vi 26 0,vi 0 0,vr 81,vi 30 0,vi 0 0,vr 100,vi 34 0,vi 0 0,vr 119,vi 38 0,vi 0 0,vr 138,vi 45 0,vi 0 0,vr 145,vi 47 0,vi 0 0,vr 158,vi 49 0,vi 0 0,vr 170,vi 51 0,vi 0 0,vr 182,vi 53 0,vi 0 0,vr 194,vi 58 0,vi 0 0,vr 213,vi 117 0,vi 0 0,vr 294,vi 119 0,vi 0 0,vr 299,vi 129 0,vi 0 0,vr 306,vi 132 0,vi 0 0,vr 313,vi 199 0,vi 0 0,vr 377,vi 218 0,vi 0 0,vr 433,vi 226 0,vi 0 0,vr 459,vi 236 0,vi 0 0,vr 492,vi 246 0,vi 0 0,vr 525,vi 264 0,vi 0 0,vr 570,vi 277 0,vi 0 0,vr 610,vi 294 0,vi 0 0,vr 657,vi 304 0,vi 0 0,vr 690,vi 316 0,vi 0 0,vr 721,vi 322 0,vi 0 0,vr 728,vi 332 0,vi 0 0,vr 735,vi 346 0,vi 0 0,vr 742,vi 351 0,vi 0 0,vr 749,vi 432 0,vi 0 0,vr 871,vi 455 0,vi 0 0,vr 918,vi 517 0,vi 0 0,vr 1014,vi 521 0,vi 0 0,vr 1021,vi 523 0,vi 0 0,vr 1028,vi 527 0,vi 0 0,vr 1035,vi 536 0,vi 0 0,vr 1042,vi 548 0,vi 0 0,vr 1049,vi 553 0,vi 0 0,vr 1054])) E
def c1_423:=Obj.mk y8 none (Data.cls (ClassData.mk q41 [y9] [vr 423,y9] 422 q41 true [] [vr 451,vr 562,vr 682,vr 715] false none false)) (A [none,none,some (vs q41 699),some (vs q41 707),some y10,some vT])
def c1_654:=m23 P 1043 1045 q184 1044 1047 294 1046 q56 1055 665 1064 672 1071 679 1073 680
def c1_656:=m24 296 664 299 671 302 678
def c1_657:=m0 q184 1038 1039 1040 294 655 656 1041 1042
def c1_658:=m1 657 654 q4 673
def c1_661:=m6 q62 1051 q177 1052
def c1_663:=m3 q56 q199 (M 40 0)
def c1_664:=m4 q56 1048 q199 1049 1050 296 2 659 660 661 662 663 1053 1054
def c1_665:=m5 q56 q199 (M 40 0) q4 673 664
def c1_668:=m9 q62 1059 q150 1060 q151 1061
def c1_670:=m3 q144 q200 (M 40 1)
def c1_671:=m4 q144 1056 q200 1057 1058 299 3 666 667 668 669 670 1062 1063
def c1_672:=m5 q144 q200 (M 40 1) q4 673 671
def c1_675:=m2 q62 1068
def c1_677:=m3 q147 q201 (M 40 2)
def c1_678:=m4 q147 1065 q201 1066 1067 302 1 673 674 675 676 677 1069 1070
def c1_679:=m5 q147 q201 (M 40 2) q4 673 678
def c1_680:=m2 q177 1072
def c1_681:=m25 P 1043 1047 294 1046 q56 1055 665 1064 672 1071 679 1073 680 1074
def c1_682:=Obj.mk y8 none (Data.cls (ClassData.mk q184 [vr 423] [vr 682,vr 423,y9] 681 q184 true [] [] false none false)) (A [sr 652,none,some (vs q184 1036),some (vs q184 1044),some y10,some vT])
def c1_683:=m12 682
def c1_684:=m13 682
def c1_687:=m23 P 1084 1086 q185 1085 1088 304 1087 q56 1096 698 1105 705 1112 712 1114 713
def c1_689:=m24 306 697 309 704 314 711
def c1_690:=m0 q185 1079 1080 1081 304 688 689 1082 1083
def c1_691:=m1 690 687 q4 673
def c1_694:=m6 q62 1092 q177 1093
def c1_696:=m3 q56 q202 (M 41 0)
def c1_697:=m4 q56 1089 q202 1090 1091 306 2 692 693 694 695 696 1094 1095
def c1_698:=m5 q56 q202 (M 41 0) q4 673 697
def c1_701:=m9 q62 1100 q150 1101 q151 1102
def c1_703:=m3 q144 q203 (M 41 1)
def c1_704:=m4 q144 1097 q203 1098 1099 309 3 699 700 701 702 703 1103 1104
def c1_705:=m5 q144 q203 (M 41 1) q4 673 704
def c1_708:=m2 q62 1109
def c1_710:=m3 q147 q204 (M 41 2)
def c1_711:=m4 q147 1106 q204 1107 1108 314 1 706 707 708 709 710 1110 1111
def c1_712:=m5 q147 q204 (M 41 2) q4 673 711
def c1_713:=m2 q177 1113
def c1_714:=m25 P 1084 1088 304 1087 q56 1096 698 1105 705 1112 712 1114 713 1115
def c1_715:=Obj.mk y8 none (Data.cls (ClassData.mk q185 [vr 423] [vr 715,vr 423,y9] 714 q185 true [] [] false none false)) (A [sr 685,none,some (vs q185 1077),some (vs q185 1085),some y10,some vT])
def c1_716:=m12 715
def c1_717:=m13 715
def c1_720:=m3 q186 q186 (B 42)
def c1_721:=m20 q186 1118 q186 1119 1120 316 1 718 719 720 1121 1122
def c1_722:=m5 q186 q186 (B 42) q4 673 721
def c1_725:=m9 q205 1127 q206 1128 q112 1129
def c1_727:=m3 q117 q117 (B 43)
def c1_728:=m4 q117 1124 q117 1125 1126 322 2 723 724 725 726 727 1130 1131
def c1_729:=m5 q117 q117 (B 43) q4 673 728
def c1_732:=m6 q205 1136 q207 1137
def c1_734:=m3 q187 q187 (B 44)
def c1_735:=m4 q187 1133 q187 1134 1135 332 2 730 731 732 733 734 1138 1139
def c1_736:=m5 q187 q187 (B 44) q4 673 735
def c1_739:=m9 q156 1144 q166 1145 q167 1146
def c1_741:=m3 q188 q188 (B 45)
def c1_742:=m4 q188 1141 q188 1142 1143 346 3 737 738 739 740 741 1147 1148
def c1_743:=m5 q188 q188 (B 45) q4 673 742
def c1_746:=Obj.mk y3 none (Data.dict (A [de P q52 1159 (vs q208 1150),de P q54 1161 (vs q189 1160),de P q55 1163 (vi 351 1162),de P q56 1174 (vr 757),de P q209 1183 (vr 764),de P q210 1195 (vr 771),de P q211 1208 (vr 778),de P q212 1218 (vr 785),de P q213 1228 (vr 792),de P q214 1234 (vr 797),de P q215 1243 (vr 804),de P q216 1255 (vr 811),de P q217 1266 (vr 818),de P q218 1275 (vr 825),de P q219 1283 (vr 832),de P q220 1293 (vr 839),de P q86 1300 (vr 846),de P q87 1307 (vr 853),de P q221 1313 (vr 858),de P q61 1321 (vr 859)]) 20) E
def c1_748:=Obj.mk vn none (Data.fields (A [vi 353 0,vi 4 0,vr 756,vi 364 0,vi 4 0,vr 763,vi 369 0,vi 4 0,vr 770,vi 380 0,vi 4 0,vr 777,vi 389 0,vi 4 0,vr 784,vi 393 0,vi 4 0,vr 791,vi 396 0,vi 4 0,vr 796,vi 405 0,vi 4 0,vr 803,vi 408 0,vi 4 0,vr 810,vi 411 0,vi 4 0,vr 817,vi 414 0,vi 4 0,vr 824,vi 417 0,vi 4 0,vr 831,vi 420 0,vi 4 0,vr 838,vi 423 0,vi 4 0,vr 845,vi 426 0,vi 4 0,vr 852,vi 429 0,vi 4 0,vr 857])) E
def c1_749:=m0 q189 1154 1155 1156 351 747 748 1157 1158
def c1_750:=m1 749 746 q208 1150
def c1_753:=m21 q62 1167 q222 1168 q223 1169 q130 1170 q224 1171
def c1_755:=m3 q56 q225 (M 47 0)
def c1_756:=m4 q56 1164 q225 1165 1166 353 4 751 752 753 754 755 1172 1173
def c1_757:=m5 q56 q225 (M 47 0) q208 1150 756
def c1_760:=m9 q62 1178 q224 1179 q60 1180
def c1_762:=m3 q209 q226 (M 47 1)
def c1_763:=m4 q209 1175 q226 1176 1177 364 2 758 759 760 761 762 1181 1182
def c1_764:=m5 q209 q226 (M 47 1) q208 1150 763
def c1_767:=Obj.mk y0 none (Data.seq (A [vs q62 1187,vs q227 1188,vs q94 1189,vs q228 1190,vs q150 1191,vs q119 1192]) 0) E
def c1_769:=m3 q210 q229 (M 47 2)
def c1_770:=m4 q210 1184 q229 1185 1186 369 6 765 766 767 768 769 1193 1194
def c1_771:=m5 q210 q229 (M 47 2) q208 1150 770
def c1_774:=m21 q62 1199 q227 1200 q94 1201 q230 1202 q85 1203
def c1_775:=m6 q62 1204 q94 1205
def c1_776:=m3 q211 q231 (M 47 3)
def c1_777:=m4 q211 1196 q231 1197 1198 380 4 772 773 774 775 776 1206 1207
def c1_778:=m5 q211 q231 (M 47 3) q208 1150 777
def c1_781:=m22 q62 1212 q94 1213 q157 1214 q232 1215
def c1_783:=m3 q212 q233 (M 47 4)
def c1_784:=m4 q212 1209 q233 1210 1211 389 3 779 780 781 782 783 1216 1217
def c1_785:=m5 q212 q233 (M 47 4) q208 1150 784
def c1_788:=m22 q62 1222 q227 1223 q94 1224 q228 1225
def c1_790:=m3 q213 q234 (M 47 5)
def c1_791:=m4 q213 1219 q234 1220 1221 393 4 786 787 788 789 790 1226 1227
def c1_792:=m5 q213 q234 (M 47 5) q208 1150 791
def c1_795:=m3 q214 q235 (M 47 6)
def c1_796:=m20 q214 1229 q235 1230 1231 396 4 793 794 795 1232 1233
def c1_797:=m5 q214 q235 (M 47 6) q208 1150 796
def c1_800:=m9 q62 1238 q227 1239 q94 1240
def c1_802:=m3 q215 q236 (M 47 7)
def c1_803:=m4 q215 1235 q236 1236 1237 405 3 798 799 800 801 802 1241 1242
def c1_804:=m5 q215 q236 (M 47 7) q208 1150 803
def c1_807:=Obj.mk y0 none (Data.seq (A [vs q62 1247,vs q227 1248,vs q94 1249,vs q228 1250,vs q150 1251,vs q119 1252]) 0) E
def c1_809:=m3 q216 q237 (M 47 8)
def c1_810:=m4 q216 1244 q237 1245 1246 408 6 805 806 807 808 809 1253 1254
def c1_811:=m5 q216 q237 (M 47 8) q208 1150 810
def c1_814:=m21 q62 1259 q227 1260 q94 1261 q228 1262 q119 1263
def c1_816:=m3 q217 q238 (M 47 9)
def c1_817:=m4 q217 1256 q238 1257 1258 411 5 812 813 814 815 816 1264 1265
def c1_818:=m5 q217 q238 (M 47 9) q208 1150 817
def c1_821:=m9 q62 1270 q94 1271 q239 1272
def c1_823:=m3 q218 q240 (M 47 10)
def c1_824:=m4 q218 1267 q240 1268 1269 414 3 819 820 821 822 823 1273 1274
def c1_825:=m5 q218 q240 (M 47 10) q208 1150 824
def c1_828:=m6 q62 1279 q227 1280
def c1_830:=m3 q219 q241 (M 47 11)
def c1_831:=m4 q219 1276 q241 1277 1278 417 2 826 827 828 829 830 1281 1282
def c1_832:=m5 q219 q241 (M 47 11) q208 1150 831
def c1_835:=m22 q62 1287 q227 1288 q94 1289 q242 1290
def c1_837:=m3 q220 q243 (M 47 12)
def c1_838:=m4 q220 1284 q243 1285 1286 420 4 833 834 835 836 837 1291 1292
def c1_839:=m5 q220 q243 (M 47 12) q208 1150 838
def c1_842:=m2 q62 1297
def c1_844:=m3 q86 q244 (M 47 13)
def c1_845:=m4 q86 1294 q244 1295 1296 423 1 840 841 842 843 844 1298 1299
def c1_846:=m5 q86 q244 (M 47 13) q208 1150 845
def c1_849:=m2 q62 1304
def c1_851:=m3 q87 q245 (M 47 14)
def c1_852:=m4 q87 1301 q245 1302 1303 426 1 847 848 849 850 851 1305 1306
def c1_853:=m5 q87 q245 (M 47 14) q208 1150 852
def c1_856:=m3 q221 q246 (M 47 15)
def c1_857:=m20 q221 1308 q246 1309 1310 429 2 854 855 856 1311 1312
def c1_858:=m5 q221 q246 (M 47 15) q208 1150 857
def c1_859:=Obj.mk y0 none (Data.seq (A [vs q247 1314,vs q248 1315,vs q223 1316,vs q249 1317,vs q130 1318,vs q250 1319,vs q222 1320]) 0) E
def c1_860:=Obj.mk y3 none (Data.dict (A [de P q52 1159 (vs q208 1150),de P q55 1163 (vi 351 1162),de P q56 1174 (vr 757),de P q209 1183 (vr 764),de P q210 1195 (vr 771),de P q211 1208 (vr 778),de P q212 1218 (vr 785),de P q213 1228 (vr 792),de P q214 1234 (vr 797),de P q215 1243 (vr 804),de P q216 1255 (vr 811),de P q217 1266 (vr 818),de P q218 1275 (vr 825),de P q219 1283 (vr 832),de P q220 1293 (vr 839),de P q86 1300 (vr 846),de P q87 1307 (vr 853),de P q221 1313 (vr 858),de P q61 1321 (vr 859),de P q73 1323 (vr 862),de P q74 1325 (vr 863),de P q5 1326 vn]) 4) E
def c1_861:=Obj.mk y8 none (Data.cls (ClassData.mk q189 [y9] [vr 861,y9] 860 q189 true [] [] false none false)) (A [none,none,some (vs q189 1152),some (vs q189 1160),some y10,some vT])
def c1_862:=m10 1322 861
def c1_863:=m11 1324 861
def c1_864:=m12 861
def c1_865:=m13 861
def c1_868:=m7 P 1338 q251 1329 1340 q190 1339 1342 432 1341 1350 879 q224 1358 886 q252 1369 893 q253 1376 900 q254 1382 905 1387 906
def c1_870:=m8 434 878 440 885 445 892 448 899 451 904
def c1_871:=m0 q190 1333 1334 1335 432 869 870 1336 1337
def c1_872:=m1 871 868 q251 1329
def c1_875:=m6 q62 1346 q222 1347
def c1_877:=m3 q56 q255 (M 49 0)
def c1_878:=m4 q56 1343 q255 1344 1345 434 2 873 874 875 876 877 1348 1349
def c1_879:=m5 q56 q255 (M 49 0) q251 1329 878
def c1_882:=m6 q62 1354 q224 1355
def c1_884:=m3 q224 q256 (M 49 1)
def c1_885:=m4 q224 1351 q256 1352 1353 440 2 880 881 882 883 884 1356 1357
def c1_886:=m5 q224 q256 (M 49 1) q251 1329 885
def c1_889:=m21 q62 1362 q257 1363 q205 1364 q94 1365 q258 1366
def c1_891:=m3 q252 q259 (M 49 2)
def c1_892:=m4 q252 1359 q259 1360 1361 445 5 887 888 889 890 891 1367 1368
def c1_893:=m5 q252 q259 (M 49 2) q251 1329 892
def c1_896:=m2 q62 1373
def c1_898:=m3 q253 q260 (M 49 3)
def c1_899:=m4 q253 1370 q260 1371 1372 448 1 894 895 896 897 898 1374 1375
def c1_900:=m5 q253 q260 (M 49 3) q251 1329 899
def c1_903:=m3 q254 q261 (M 49 4)
def c1_904:=m20 q254 1377 q261 1378 1379 451 1 901 902 903 1380 1381
def c1_905:=m5 q254 q261 (M 49 4) q251 1329 904
def c1_906:=m22 q262 1383 q263 1384 q264 1385 q222 1386
def c1_907:=Obj.mk y3 none (Data.dict (A [de P q52 1338 (vs q251 1329),de P q55 1342 (vi 432 1341),de P q56 1350 (vr 879),de P q224 1358 (vr 886),de P q252 1369 (vr 893),de P q253 1376 (vr 900),de P q254 1382 (vr 905),de P q61 1387 (vr 906),de P q73 1389 (vr 909),de P q74 1391 (vr 910),de P q5 1392 vn]) 4) E
def c1_908:=Obj.mk y8 none (Data.cls (ClassData.mk q190 [y9] [vr 908,y9] 907 q190 true [] [] false none false)) (A [none,none,some (vs q190 1331),some (vs q190 1339),some y10,some vT])
def c1_909:=m10 1388 908
def c1_910:=m11 1390 908
def c1_911:=m12 908
def c1_912:=m13 908
def c1_915:=Obj.mk y3 none (Data.dict (A [de P q52 1404 (vs q265 1395),de P q54 1406 (vs q191 1405),de P q55 1408 (vi 455 1407),de P q56 1416 (vr 926),de P q266 1426 (vr 933),de P q267 1434 (vr 940),de P q268 1442 (vr 947),de P q269 1449 (vr 954),de P q270 1457 (vr 961),de P q271 1464 (vr 968),de P q272 1470 (vr 973),de P q273 1477 (vr 980),de P q274 1484 (vr 987),de P q275 1493 (vr 994),de P q276 1501 (vr 1001),de P q61 1509 (vr 1002)]) 16) E
def c1_917:=Obj.mk vn none (Data.fields (A [vi 457 0,vi 4 0,vr 925,vi 466 0,vi 4 0,vr 932,vi 483 0,vi 4 0,vr 939,vi 490 0,vi 4 0,vr 946,vi 493 0,vi 4 0,vr 953,vi 496 0,vi 4 0,vr 960,vi 499 0,vi 4 0,vr 967,vi 502 0,vi 4 0,vr 972,vi 505 0,vi 4 0,vr 979,vi 508 0,vi 4 0,vr 986,vi 511 0,vi 4 0,vr 993,vi 514 0,vi 4 0,vr 1000])) E
def c1_918:=m0 q191 1399 1400 1401 455 916 917 1402 1403
def c1_919:=m1 918 915 q265 1395
def c1_922:=m6 q62 1412 q277 1413
def c1_924:=m3 q56 q278 (M 51 0)
def c1_925:=m4 q56 1409 q278 1410 1411 457 2 920 921 922 923 924 1414 1415
def c1_926:=m5 q56 q278 (M 51 0) q265 1395 925
def c1_929:=m22 q62 1420 q224 1421 q51 1422 q94 1423
def c1_931:=m3 q266 q279 (M 51 1)
def c1_932:=m4 q266 1417 q279 1418 1419 466 2 927 928 929 930 931 1424 1425
def c1_933:=m5 q266 q279 (M 51 1) q265 1395 932
def c1_936:=m6 q62 1430 q224 1431
def c1_938:=m3 q267 q280 (M 51 2)
def c1_939:=m4 q267 1427 q280 1428 1429 483 2 934 935 936 937 938 1432 1433
def c1_940:=m5 q267 q280 (M 51 2) q265 1395 939
def c1_943:=m6 q62 1438 q157 1439
def c1_945:=m3 q268 q281 (M 51 3)
def c1_946:=m4 q268 1435 q281 1436 1437 490 2 941 942 943 944 945 1440 1441
def c1_947:=m5 q268 q281 (M 51 3) q265 1395 946
def c1_950:=m2 q62 1446
def c1_952:=m3 q269 q282 (M 51 4)
def c1_953:=m4 q269 1443 q282 1444 1445 493 1 948 949 950 951 952 1447 1448
def c1_954:=m5 q269 q282 (M 51 4) q265 1395 953
def c1_957:=m6 q62 1453 q94 1454
def c1_959:=m3 q270 q283 (M 51 5)
def c1_960:=m4 q270 1450 q283 1451 1452 496 2 955 956 957 958 959 1455 1456
def c1_961:=m5 q270 q283 (M 51 5) q265 1395 960
def c1_964:=m2 q62 1461
def c1_966:=m3 q271 q284 (M 51 6)
def c1_967:=m4 q271 1458 q284 1459 1460 499 1 962 963 964 965 966 1462 1463
def c1_968:=m5 q271 q284 (M 51 6) q265 1395 967
def c1_971:=m3 q272 q285 (M 51 7)
def c1_972:=m20 q272 1465 q285 1466 1467 502 1 969 970 971 1468 1469
def c1_973:=m5 q272 q285 (M 51 7) q265 1395 972
def c1_976:=m2 q62 1474
def c1_978:=m3 q273 q286 (M 51 8)
def c1_979:=m4 q273 1471 q286 1472 1473 505 1 974 975 976 977 978 1475 1476
def c1_980:=m5 q273 q286 (M 51 8) q265 1395 979
def c1_983:=m2 q62 1481
def c1_985:=m3 q274 q287 (M 51 9)
def c1_986:=m4 q274 1478 q287 1479 1480 508 1 981 982 983 984 985 1482 1483
def c1_987:=m5 q274 q287 (M 51 9) q265 1395 986
def c1_990:=m9 q62 1488 q94 1489 q228 1490
def c1_992:=m3 q275 q288 (M 51 10)
def c1_993:=m4 q275 1485 q288 1486 1487 511 3 988 989 990 991 992 1491 1492
def c1_994:=m5 q275 q288 (M 51 10) q265 1395 993
def c1_997:=m6 q62 1497 q94 1498
def c1_999:=m3 q276 q289 (M 51 11)
def c1_1000:=m4 q276 1494 q289 1495 1496 514 2 995 996 997 998 999 1499 1500
def c1_1001:=m5 q276 q289 (M 51 11) q265 1395 1000
def c1_1002:=Obj.mk y0 none (Data.seq (A [vs q290 1502,vs q277 1503,vs q291 1504,vs q292 1505,vs q293 1506,vs q294 1507,vs q295 1508]) 0) E
def c1_1003:=Obj.mk y3 none (Data.dict (A [de P q52 1404 (vs q265 1395),de P q55 1408 (vi 455 1407),de P q56 1416 (vr 926),de P q266 1426 (vr 933),de P q267 1434 (vr 940),de P q268 1442 (vr 947),de P q269 1449 (vr 954),de P q270 1457 (vr 961),de P q271 1464 (vr 968),de P q272 1470 (vr 973),de P q273 1477 (vr 980),de P q274 1484 (vr 987),de P q275 1493 (vr 994),de P q276 1501 (vr 1001),de P q61 1509 (vr 1002),de P q73 1511 (vr 1005),de P q74 1513 (vr 1006),de P q5 1514 vn]) 4) E
def c1_1004:=Obj.mk y8 none (Data.cls (ClassData.mk q191 [y9] [vr 1004,y9] 1003 q191 true [] [] false none false)) (A [none,none,some (vs q191 1397),some (vs q191 1405),some y10,some vT])
def c1_1005:=m10 1510 1004
def c1_1006:=m11 1512 1004
def c1_1007:=m12 1004
def c1_1008:=m13 1004
def c1_1011:=m6 q296 1522 q297 1523
def c1_1013:=m3 q192 q192 (B 53)
def c1_1014:=m4 q192 1519 q192 1520 1521 517 2 1009 1010 1011 1012 1013 1524 1525
def c1_1015:=m5 q192 q192 (B 53) q183 1517 1014
def c1_1018:=m2 q298 1530
def c1_1020:=m3 q193 q193 (B 54)
def c1_1021:=m4 q193 1527 q193 1528 1529 521 1 1016 1017 1018 1019 1020 1531 1532
def c1_1022:=m5 q193 q193 (B 54) q183 1517 1021
def c1_1025:=m2 q299 1537
def c1_1027:=m3 q194 q194 (B 55)
def c1_1028:=m4 q194 1534 q194 1535 1536 523 1 1023 1024 1025 1026 1027 1538 1539
def c1_1029:=m5 q194 q194 (B 55) q183 1517 1028
def c1_1032:=Obj.mk y0 none (Data.seq (A [vs q299 1544,vs q300 1545,vs q301 1546,vs q302 1547,vs q303 1548,vs q304 1549]) 0) E
def c1_1034:=m3 q195 q195 (B 56)
def c1_1035:=m4 q195 1541 q195 1542 1543 527 3 1030 1031 1032 1033 1034 1550 1551
def c1_1036:=m5 q195 q195 (B 56) q183 1517 1035
def c1_1039:=m21 q305 1556 q306 1557 q304 1558 q307 1559 q302 1560
def c1_1041:=m3 q196 q196 (B 57)
def c1_1042:=m4 q196 1553 q196 1554 1555 536 3 1037 1038 1039 1040 1041 1561 1562
def c1_1043:=m5 q196 q196 (B 57) q183 1517 1042
def c1_1046:=Obj.mk y0 none (Data.seq (A [vs q308 1567,vs q309 1568,vs q310 1569,vs q311 1570,vs q306 1571,vs q298 1572]) 0) E
def c1_1048:=m3 q197 q197 (B 58)
def c1_1049:=m4 q197 1564 q197 1565 1566 548 5 1044 1045 1046 1047 1048 1573 1574
def c1_1050:=m5 q197 q197 (B 58) q183 1517 1049
def c1_1053:=m3 q198 q198 (B 59)
def c1_1054:=m20 q198 1576 q198 1577 1578 553 1 1051 1052 1053 1579 1580
def c1_1055:=m5 q198 q198 (B 59) q183 1517 1054
def u1:=nd (boot_o_0 P) (nd (boot_o_1 P) (nd (c1_3 P) (nd (boot_o_7 P) (nd a11 (nd c0_31 (nd a12 (nd c0_127 (nd c0_255 (nd a11 (l1 a11) .nil) (l1 c1_767)) (nd c0_383 (l1 c0_639) (l1 a12))) (nd (c0_191 P) (nd c0_319 (l1 a11) (l1 c1_831)) (nd c0_447 (l1 c1_703) (l1 c1_959)))) (nd c0_76 (nd c0_159 (nd c0_287 (nd c0_543 (l1 c1_1055) .nil) (l1 a12)) (nd a12 (l1 c1_671) (l1 a11))) (nd a12 (nd a12 (l1 (c0_607 P)) (l1 c1_863)) (nd c0_479 (l1 c1_735) (l1 a11))))) (nd c0_47 (nd a11 (nd a11 (nd a12 (nd a11 (l1 c1_1039) .nil) (l1 c1_783)) (nd c0_399 (l1 a11) (l1 c1_911))) (nd c0_207 (nd c0_335 (l1 c0_591) (l1 a11)) (nd c0_463 (l1 a12) (l1 a12)))) (nd c0_111 (nd c0_175 (nd c0_303 (l1 c0_559) (l1 a11)) (nd a11 (l1 (c1_687 P)) (l1 c1_943))) (nd c0_239 (nd c0_367 (l1 c0_623) (l1 c1_879)) (nd a12 (l1 a11) (l1 c1_1007)))))) (nd c0_23 (nd c0_39 (nd c0_71 (nd c0_135 (nd c0_263 (nd c0_519 (l1 a12) .nil) (l1 c1_775)) (nd c0_391 (l1 c0_647) (l1 c1_903))) (nd a11 (nd c0_327 (l1 c0_583) (l1 c1_839)) (nd c0_28 (l1 c1_711) (l1 c1_967)))) (nd a12 (nd (c0_167 P) (nd c0_295 (l1 c0_551) (l1 c1_807)) (nd c1_423 (l1 c1_679) (l1 a12))) (nd c0_231 (nd c0_359 (l1 a11) (l1 c1_871)) (nd c0_454 (l1 c1_743) (l1 c1_999))))) (nd a11 (nd c0_87 (nd c0_151 (nd c0_279 (nd a12 (l1 a11) .nil) (l1 c1_791)) (nd a11 (l1 c1_663) (l1 c1_919))) (nd a11 (nd a11 (l1 c0_599) (l1 a12)) (nd a11 (l1 c1_727) (l1 c1_983)))) (nd c0_119 (nd c0_183 (nd a11 (l1 (c0_567 P)) (l1 c1_823)) (nd c0_439 (l1 a11) (l1 a11))) (nd c0_247 (nd a11 (l1 c0_631) (l1 a11)) (nd c0_503 (l1 a12) (l1 c1_1015))))))) (nd a11 (nd c0_19 (nd a12 (nd c0_67 (nd c0_131 (nd a12 (nd a11 (l1 c1_1027) .nil) (l1 c1_771)) (nd a12 (l1 a11) (l1 c1_899))) (nd c0_195 (nd a12 (l1 a11) (l1 c1_835)) (nd c0_451 (l1 a12) (l1 a12)))) (nd c0_99 (nd c0_163 (nd c0_291 (l1 c0_547) (l1 c1_803)) (nd c0_419 (l1 c1_675) (l1 c1_931))) (nd a11 (nd c0_355 (l1 c0_611) (l1 c0_28)) (nd (c0_483 P) (l1 c1_739) (l1 a11))))) (nd a11 (nd a11 (nd a11 (nd a11 (nd c0_531 (l1 c1_1043) .nil) (l1 a12)) (nd a11 (l1 a11) (l1 (c1_915 P)))) (nd a11 (nd a11 (l1 c0_595) (l1 c1_851)) (nd c0_467 (l1 a11) (l1 c1_979)))) (nd c0_28 (nd (c0_179 P) (nd c0_307 (l1 c0_563) (l1 a11)) (nd a11 (l1 c1_691) (l1 c1_947))) (nd c0_243 (nd (c0_371 P) (l1 a12) (l1 a11)) (nd c0_499 (l1 c1_755) (l1 c1_1011)))))) (nd a11 (nd c0_43 (nd c0_75 (nd c0_139 (nd c0_267 (nd a11 (l1 c1_1035) .nil) (l1 a11)) (nd c0_395 (l1 c0_651) (l1 (c1_907 P)))) (nd c0_203 (nd c0_331 (l1 a12) (l1 a11)) (nd c0_459 (l1 c1_715) (l1 c1_971)))) (nd c0_107 (nd c0_171 (nd c0_299 (l1 c0_555) (l1 c1_811)) (nd c0_427 (l1 c1_683) (l1 c1_939))) (nd a12 (nd c0_363 (l1 a11) (l1 c1_875)) (nd c0_491 (l1 a11) (l1 (c1_1003 P)))))) (nd c0_59 (nd (c0_91 P) (nd (c0_155 P) (nd (c0_283 P) (nd c0_539 (l1 a11) .nil) (l1 c1_795)) (nd c0_411 (l1 a12) (l1 a11))) (nd c0_219 (nd c0_347 (l1 c0_603) (l1 c1_859)) (nd a11 (l1 a12) (l1 c1_987)))) (nd c0_123 (nd c0_187 (nd a11 (l1 c0_571) (l1 a12)) (nd a12 (l1 a11) (l1 a11))) (nd c0_251 (nd a11 (l1 c0_635) (l1 c1_891)) (nd c0_507 (l1 c1_763) (l1 a11)))))))) (nd (boot_o_5 P) (nd (boot_o_9 P) (nd c0_17 (nd c0_33 (nd a11 (nd (c0_129 P) (nd c0_257 (nd c0_513 (l1 c1_1025) .nil) (l1 c1_769)) (nd c0_385 (l1 a12) (l1 a11))) (nd c0_193 (nd c0_321 (l1 c0_577) (l1 a11)) (nd c0_449 (l1 c1_705) (l1 c1_961)))) (nd (c0_97 P) (nd (c0_161 P) (nd a11 (l1 c0_545) (l1 a11)) (nd a11 (l1 a11) (l1 c1_929))) (nd c0_225 (nd a11 (l1 c0_609) (l1 c1_865)) (nd c0_481 (l1 a11) (l1 c1_993))))) (nd a12 (nd c0_81 (nd c0_145 (nd c0_273 (nd c0_529 (l1 c1_1041) .nil) (l1 c1_785)) (nd a12 (l1 c1_657) (l1 a11))) (nd c0_28 (nd a12 (l1 a11) (l1 c1_849)) (nd c0_465 (l1 c1_721) (l1 a11)))) (nd c0_113 (nd c0_153 (nd c0_305 (l1 (c0_561 P)) (l1 c1_817)) (nd c0_433 (l1 c1_689) (l1 c1_945))) (nd a11 (nd c0_369 (l1 c0_625) (l1 a12)) (nd a11 (l1 c1_753) (l1 a11)))))) (nd c0_25 (nd a11 (nd c0_73 (nd c0_137 (nd a11 (nd c0_28 (l1 a11) .nil) (l1 c1_777)) (nd a11 (l1 c0_649) (l1 c1_905))) (nd c0_201 (nd a11 (l1 c0_585) (l1 a12)) (nd a11 (l1 c1_713) (l1 a11)))) (nd a11 (nd a12 (nd a12 (l1 a11) (l1 c1_809)) (nd c0_425 (l1 (c1_681 P)) (l1 a11))) (nd c0_233 (nd c0_361 (l1 c0_617) (l1 a11)) (nd (c0_489 P) (l1 c0_28) (l1 c1_1001))))) (nd c0_57 (nd c0_89 (nd c0_153 (nd c0_281 (nd a11 (l1 c1_1049) .nil) (l1 a11)) (nd c0_409 (l1 c1_665) (l1 a12))) (nd c0_217 (nd c0_345 (l1 (c0_601 P)) (l1 c1_857)) (nd c0_473 (l1 c1_729) (l1 c1_985)))) (nd a11 (nd (c0_185 P) (nd c0_313 (l1 c0_569) (l1 c1_825)) (nd c0_441 (l1 c1_697) (l1 c1_953))) (nd a12 (nd c0_377 (l1 a11) (l1 c1_889)) (nd c0_505 (l1 a11) (l1 a12))))))) (nd a13 (nd c0_21 (nd a11 (nd c0_69 (nd a11 (nd a11 (nd c0_517 (l1 c1_1029) .nil) (l1 a12)) (nd a11 (l1 c0_645) (l1 a11))) (nd a12 (nd a11 (l1 c0_581) (l1 c1_837)) (nd c0_453 (l1 a11) (l1 a11)))) (nd c0_101 (nd c0_153 (nd c0_293 (l1 a12) (l1 a11)) (nd a11 (l1 c1_677) (l1 c1_933))) (nd c0_229 (nd a11 (l1 a12) (l1 a11)) (nd c0_485 (l1 c1_741) (l1 c1_997))))) (nd c0_53 (nd c0_85 (nd c0_149 (nd c0_277 (nd c0_533 (l1 a12) .nil) (l1 a11)) (nd c0_405 (l1 c1_661) (l1 c1_917))) (nd c0_213 (nd c0_341 (l1 c0_597) (l1 c1_853)) (nd a12 (l1 c1_725) (l1 a11)))) (nd a11 (nd a12 (nd c0_28 (l1 c0_454) (l1 c1_821)) (nd c0_437 (l1 a12) (l1 a12))) (nd c0_245 (nd c0_28 (l1 a11) (l1 c1_885)) (nd a11 (l1 c1_757) (l1 c1_1013)))))) (nd (c0_29 P) (nd c0_45 (nd c0_28 (nd c0_28 (nd c0_269 (nd c0_525 (l1 a11) .nil) (l1 c1_781)) (nd c0_397 (l1 c0_28) (l1 c1_909))) (nd c0_205 (nd c0_333 (l1 a11) (l1 c1_845)) (nd a11 (l1 c1_717) (l1 c1_973)))) (nd a11 (nd (c0_173 P) (nd a11 (l1 c0_557) (l1 a12)) (nd c0_28 (l1 c0_428) (l1 a11))) (nd a11 (nd (c0_365 P) (l1 c0_621) (l1 c1_877)) (nd c0_493 (l1 c1_749) (l1 c1_1005))))) (nd c0_61 (nd c0_93 (nd a12 (nd c0_285 (nd a11 (l1 c1_1053) .nil) (l1 c1_797)) (nd c0_413 (l1 a11) (l1 c1_925))) (nd c0_221 (nd c0_349 (l1 c0_454) (l1 c1_861)) (nd c0_477 (l1 a11) (l1 a12)))) (nd c0_125 (nd c0_153 (nd c0_317 (l1 a12) (l1 a11)) (nd a11 (l1 c1_701) (l1 c1_957))) (nd a11 (nd c0_381 (l1 c0_637) (l1 c1_893)) (nd a12 (l1 a11) (l1 c1_1021))))))))) (nd (boot_o_2 P) (nd (boot_o_4 P) (nd (boot_o_8 P) (nd a12 (nd c0_32 (nd c0_64 (nd a11 (nd c0_256 (nd c0_512 (l1 a12) .nil) (l1 a11)) (nd c0_384 (l1 a11) (l1 c1_896))) (nd a11 (nd c0_320 (l1 c0_576) (l1 c1_832)) (nd c0_448 (l1 c1_704) (l1 c1_960)))) (nd c0_28 (nd a11 (nd c0_288 (l1 a11) (l1 c1_800)) (nd c0_416 (l1 c1_672) (l1 a12))) (nd c0_224 (nd c0_352 (l1 a11) (l1 c1_864)) (nd c0_480 (l1 c1_736) (l1 c1_992))))) (nd a11 (nd c0_80 (nd a12 (nd c0_272 (nd a12 (l1 a11) .nil) (l1 c1_784)) (nd a11 (l1 c1_656) (l1 c1_912))) (nd a11 (nd a11 (l1 c0_592) (l1 a12)) (nd a11 (l1 c1_720) (l1 c1_976)))) (nd c0_112 (nd c0_176 (nd a11 (l1 c0_560) (l1 c1_816)) (nd c0_432 (l1 a11) (l1 a11))) (nd c0_240 (nd c0_368 (l1 c0_624) (l1 a11)) (nd c0_496 (l1 a12) (l1 c1_1008)))))) (nd c0_24 (nd c0_40 (nd c0_72 (nd a11 (nd c0_264 (nd c0_428 (l1 c1_1032) .nil) (l1 c1_776)) (nd c0_392 (l1 (c0_648 P)) (l1 c1_904))) (nd c0_200 (nd c0_328 (l1 c0_584) (l1 a11)) (nd (c0_456 P) (l1 c1_712) (l1 c1_968)))) (nd c0_104 (nd a11 (nd a11 (l1 c0_552) (l1 a11)) (nd c0_424 (l1 c1_680) (l1 c1_936))) (nd c0_232 (nd a11 (l1 c0_616) (l1 c1_872)) (nd c0_28 (l1 a11) (l1 c1_1000))))) (nd a12 (nd c0_88 (nd c0_152 (nd c0_280 (nd c0_536 (l1 c1_1048) .nil) (l1 c1_792)) (nd a12 (l1 c1_664) (l1 a11))) (nd a12 (nd a12 (l1 a11) (l1 c1_856)) (nd c0_472 (l1 c1_728) (l1 a11)))) (nd c0_120 (nd a11 (nd c0_312 (l1 a11) (l1 c1_824)) (nd c0_440 (l1 c1_696) (l1 c1_952))) (nd a11 (nd c0_376 (l1 c0_632) (l1 a12)) (nd a11 (l1 c1_760) (l1 a11))))))) (nd c1_12 (nd c0_20 (nd c0_36 (nd c0_68 (nd c0_132 (nd c0_260 (nd (c0_516 P) (l1 c1_1028) .nil) (l1 a11)) (nd c0_388 (l1 c0_644) (l1 c1_900))) (nd a11 (nd c0_324 (l1 a12) (l1 a11)) (nd c0_452 (l1 c1_708) (l1 c1_964)))) (nd c0_100 (nd c0_164 (nd a11 (l1 a11) (l1 c1_804)) (nd c0_420 (l1 a11) (l1 c1_932))) (nd a12 (nd c0_356 (l1 a11) (l1 (c1_868 P))) (nd c0_484 (l1 a11) (l1 a12))))) (nd c0_52 (nd a12 (nd (c0_148 P) (nd a12 (nd c0_532 (l1 a11) .nil) (l1 c1_788)) (nd c0_404 (l1 a12) (l1 a11))) (nd c0_212 (nd c0_340 (l1 a11) (l1 c1_852)) (nd a11 (l1 a12) (l1 c1_980)))) (nd (c0_116 P) (nd a11 (nd a11 (l1 c0_564) (l1 a12)) (nd a12 (l1 a11) (l1 a11))) (nd a11 (nd a11 (l1 c0_628) (l1 c1_884)) (nd c0_500 (l1 c1_756) (l1 a11)))))) (nd c0_28 (nd a11 (nd c0_76 (nd c0_140 (nd c0_268 (nd c0_524 (l1 c1_1036) .nil) (l1 a12)) (nd a11 (l1 c0_428) (l1 c1_908))) (nd (c0_204 P) (nd a11 (l1 c0_588) (l1 c1_844)) (nd c0_460 (l1 c1_716) (l1 c1_972)))) (nd c0_108 (nd a11 (nd c0_300 (l1 a11) (l1 a11)) (nd c0_428 (l1 c1_684) (l1 c1_940))) (nd c0_236 (nd c0_364 (l1 a12) (l1 a11)) (nd c0_492 (l1 c1_748) (l1 c1_1004))))) (nd c0_60 (nd c0_92 (nd a11 (nd c0_284 (nd c0_540 (l1 a12) .nil) (l1 c1_796)) (nd c0_412 (l1 c1_668) (l1 c1_924))) (nd c0_220 (nd c0_348 (l1 c0_604) (l1 (c1_860 P))) (nd a12 (l1 c1_732) (l1 a11)))) (nd a11 (nd c0_188 (nd a12 (l1 a11) (l1 c1_828)) (nd c0_444 (l1 a12) (l1 a12))) (nd c0_252 (nd a12 (l1 a11) (l1 c1_892)) (nd a11 (l1 c1_764) (l1 c1_1020)))))))) (nd (boot_o_6 P) (nd (boot_o_10 P) (nd a11 (nd a11 (nd c0_66 (nd c0_130 (nd a11 (nd c0_514 (l1 a11) .nil) (l1 c1_770)) (nd a11 (l1 c0_642) (l1 c1_898))) (nd c0_194 (nd a11 (l1 c0_578) (l1 a12)) (nd (c0_450 P) (l1 a11) (l1 a11)))) (nd a11 (nd c0_162 (nd a12 (l1 c0_546) (l1 c1_802)) (nd c0_418 (l1 a12) (l1 a11))) (nd c0_226 (nd c0_354 (l1 c0_610) (l1 a11)) (nd a11 (l1 a12) (l1 c1_994))))) (nd c0_50 (nd c0_82 (nd c0_146 (nd c0_274 (nd a11 (l1 c1_1042) .nil) (l1 a11)) (nd c0_402 (l1 c1_658) (l1 c0_28))) (nd (c0_210 P) (nd c0_338 (l1 a12) (l1 a11)) (nd c0_466 (l1 c1_722) (l1 c1_978)))) (nd c0_76 (nd c0_28 (nd c0_306 (l1 c0_562) (l1 c1_818)) (nd c0_434 (l1 c1_690) (l1 c1_946))) (nd a12 (nd c0_370 (l1 a11) (l1 c1_882)) (nd c0_498 (l1 a11) (l1 a12)))))) (nd c0_26 (nd a12 (nd c0_74 (nd c0_138 (nd a12 (nd (c0_522 P) (l1 c1_1034) .nil) (l1 c1_778)) (nd a12 (l1 c0_650) (l1 c1_906))) (nd c0_202 (nd a12 (l1 a11) (l1 c1_842)) (nd c0_458 (l1 (c1_714 P)) (l1 a12)))) (nd c0_106 (nd c0_170 (nd c0_298 (l1 a12) (l1 c1_810)) (nd c0_426 (l1 c1_682) (l1 c1_938))) (nd a11 (nd c0_362 (l1 c0_618) (l1 a12)) (nd a11 (l1 (c1_746 P)) (l1 c1_1002))))) (nd a11 (nd a11 (nd c0_28 (nd c0_282 (nd c0_538 (l1 c1_1050) .nil) (l1 a12)) (nd a11 (l1 a11) (l1 c1_922))) (nd a11 (nd a11 (l1 c0_602) (l1 c1_858)) (nd c0_474 (l1 a11) (l1 c1_986)))) (nd a12 (nd c0_186 (nd c0_314 (l1 c0_570) (l1 a11)) (nd a11 (l1 c1_698) (l1 c1_954))) (nd c0_250 (nd c0_378 (l1 a12) (l1 a11)) (nd c0_506 (l1 c1_762) (l1 c1_1018))))))) (nd a14 (nd (c0_22 P) (nd c0_38 (nd (c0_70 P) (nd a12 (nd c0_262 (nd c0_518 (l1 a11) .nil) (l1 c1_774)) (nd c0_390 (l1 c0_646) (l1 a12))) (nd c0_198 (nd c0_326 (l1 a11) (l1 c1_838)) (nd c0_454 (l1 c1_710) (l1 c1_966)))) (nd a11 (nd c0_28 (nd c0_294 (l1 c0_550) (l1 a12)) (nd (c0_422 P) (l1 c1_678) (l1 a11))) (nd a11 (nd a12 (l1 c0_614) (l1 c1_870)) (nd c0_486 (l1 c1_742) (l1 a11))))) (nd c0_54 (nd a11 (nd c0_150 (nd a11 (nd a11 (l1 c1_1046) .nil) (l1 c1_790)) (nd c0_406 (l1 a11) (l1 c1_918))) (nd c0_214 (nd c0_342 (l1 c0_598) (l1 a11)) (nd c0_470 (l1 a11) (l1 a12)))) (nd c0_118 (nd c0_182 (nd (c0_310 P) (l1 c0_28) (l1 a11)) (nd a11 (l1 c1_694) (l1 c1_950))) (nd c0_246 (nd (c0_374 P) (l1 c0_630) (l1 c1_886)) (nd a12 (l1 a11) (l1 c1_1014)))))) (nd a11 (nd c0_46 (nd (c0_78 P) (nd (c0_142 P) (nd a11 (nd c0_526 (l1 a12) .nil) (l1 a11)) (nd c0_398 (l1 (c1_654 P)) (l1 c1_910))) (nd c0_206 (nd c0_334 (l1 c0_590) (l1 c1_846)) (nd a12 (l1 a11) (l1 a11)))) (nd (c0_110 P) (nd c0_174 (nd a12 (l1 c0_558) (l1 c1_814)) (nd (c0_430 P) (l1 c0_28) (l1 a12))) (nd c0_238 (nd c0_366 (l1 a11) (l1 c1_878)) (nd a11 (l1 c1_750) (l1 c1_1006))))) (nd a11 (nd c0_94 (nd c0_158 (nd c0_286 (nd a12 (l1 c1_1054) .nil) (l1 a11)) (nd a11 (l1 c1_670) (l1 c1_926))) (nd a11 (nd a11 (l1 c0_28) (l1 c1_862)) (nd a11 (l1 c1_734) (l1 c1_990)))) (nd c0_126 (nd c0_28 (nd a11 (l1 c0_574) (l1 c1_830)) (nd c0_446 (l1 a11) (l1 a11))) (nd a12 (nd a11 (l1 c0_638) (l1 a11)) (nd c0_510 (l1 a12) (l1 c1_1022)))))))))
def tc1_:=u1 P
def tz:=u1 P
end
noncomputable def sa(w:World)(os:OsState):SharedT:=SharedT.mk (ta w.params) 15 (@Life.mk [] [] [] 0 [] [] false E [] 0 false false false 0 [2000,10,10] false 0 true [] [] 0 false) E (@Drawn.mk 0 0 0 0) 187 os
noncomputable def sb(w:World)(os:OsState):SharedT:=SharedT.mk (tb w.params) 15 (@Life.mk [] [] [] 0 [] [] false E [] 0 false false false 0 [2000,10,10] false 0 true [] [] 0 false) E (@Drawn.mk 0 0 0 0) 187 os
noncomputable def sc0_(w:World)(os:OsState):SharedT:=SharedT.mk (tc0_ w.params) 652 (@Life.mk [] [] [] 0 [] [] false E [] 0 false false false 0 [2000,10,10] false 0 true [] [] 0 false) E (@Drawn.mk 0 0 0 0) 1036 os
noncomputable def sc1_(w:World)(os:OsState):SharedT:=SharedT.mk (tc1_ w.params) 1056 (@Life.mk [] [] [] 0 [] [] false E [] 0 false false false 0 [2000,10,10] false 0 true [] [] 0 false) E (@Drawn.mk 0 0 0 0) 1582 os
noncomputable def sz(w:World)(os:OsState):SharedT:=SharedT.mk (tz w.params) 1056 (@Life.mk [] [] [] 0 [] [] false E [] 0 false false false 0 [2000,10,10] false 0 true [] [] 0 false) E (@Drawn.mk 0 0 0 0) 1582 os
noncomputable abbrev e0:Env:={scope:=p0.main.scope,locals:=mainNs,globals:=mainNs,cells:=[],code:=(vr 13),frame:=some 14}
noncomputable abbrev en:Env:={scope:=pq.main.scope,locals:=mainNs,globals:=mainNs,cells:=[],code:=(vr 13),frame:=some 14}
theorem bs:behindTheImports p0=((p0.main.body.drop 0).take 40++((p0.main.body.drop 40).take 20++[])):=by kernel_rfl
theorem pre_l(w:World)(os:OsState):topGo treeTable p0 w 11 (sr 6) 12 ⟨boot_heap w.params,Array.mk [],boot_drawn,boot_toks,os⟩ (topStub p0)=some ((sa w os).abs,⟨denote treeTable (Code.body (behindTheImports p0) e0),Code.body (behindTheImports p0) e0,(@Pos.mk 0 0 0 0),[topFrame (@Pos.mk 0 0 0 0)]⟩):=by
 rw [PySem.W.Fast.te15667345088766844465,PySem.W.Fast.te14364793385576792824,PySem.W.Fast.te11892475500146522536,pe]
 kernel_rfl
theorem blk_l(w:World)(os:OsState):segRun treeTable p0 w 11 (sr 6) 1 1 (sa w os).abs (blockOf (behindTheImports p0) e0 (Code.body (behindTheImports p0) e0) (@Pos.mk 0 0 0 0) [topFrame (@Pos.mk 0 0 0 0)])=some (Flow.next,(sb w os).abs,Code.body (behindTheImports p0) e0,(@Pos.mk 0 0 0 0)):=by
 refine segRun_of ?_
 rw [PySem.W.Fast.te10110043849684766642,PySem.W.Fast.te14364793385576792824,pe]
 kernel_rfl
theorem g0(p:Program)(b:List Stmt):∀w:World,(λos=>PySem.W.Fast.tw10110043849684766642 PySem.W.Fast.tw14364793385576792824 p w 11 (sr 6) 1 5968 (sb w os) (piecesOf ((pq.main.body.drop 0).take 40) en (Code.body b en) (@Pos.mk 0 0 0 0) [topFrame (@Pos.mk 0 0 0 0)]))=(λos=>some (Flow.next,sc0_ w os,Code.body b en,(@Pos.mk 277 0 293 17))):=byRow2 "special-get-raises" (P:=λw=>(λos=>PySem.W.Fast.tw10110043849684766642 PySem.W.Fast.tw14364793385576792824 p w 11 (sr 6) 1 5968 (sb w os) (piecesOf ((pq.main.body.drop 0).take 40) en (Code.body b en) (@Pos.mk 0 0 0 0) [topFrame (@Pos.mk 0 0 0 0)]))=(λos=>some (Flow.next,sc0_ w os,Code.body b en,(@Pos.mk 277 0 293 17)))) (λw=>by kernel_rfl) (λw=>by kernel_rfl)
theorem h0(b:List Stmt)(w:World)(os:OsState):segRun treeTable p0 w 11 (sr 6) 1 5968 (sb w os).abs (piecesOf ((p0.main.body.drop 0).take 40) e0 (Code.body b e0) (@Pos.mk 0 0 0 0) [topFrame (@Pos.mk 0 0 0 0)])=some (Flow.next,(sc0_ w os).abs,Code.body b e0,(@Pos.mk 277 0 293 17)):=by
 refine segRun_of ?_
 rw [PySem.W.Fast.te10110043849684766642,PySem.W.Fast.te14364793385576792824,pe]
 exact congrFun (g0 pq b w) os
theorem g1(p:Program)(b:List Stmt):∀w:World,(λos=>PySem.W.Fast.tw10110043849684766642 PySem.W.Fast.tw14364793385576792824 p w 11 (sr 6) 1 2640 (sc0_ w os) (piecesOf ((pq.main.body.drop 40).take 20) en (Code.body b en) (@Pos.mk 277 0 293 17) [topFrame (@Pos.mk 0 0 0 0)]))=(λos=>some (Flow.next,sc1_ w os,Code.body b en,(@Pos.mk 553 0 581 79))):=λw=>by kernel_rfl
theorem h1(b:List Stmt)(w:World)(os:OsState):segRun treeTable p0 w 11 (sr 6) 1 2640 (sc0_ w os).abs (piecesOf ((p0.main.body.drop 40).take 20) e0 (Code.body b e0) (@Pos.mk 277 0 293 17) [topFrame (@Pos.mk 0 0 0 0)])=some (Flow.next,(sc1_ w os).abs,Code.body b e0,(@Pos.mk 553 0 581 79)):=by
 refine segRun_of ?_
 rw [PySem.W.Fast.te10110043849684766642,PySem.W.Fast.te14364793385576792824,pe]
 exact congrFun (g1 pq b w) os
noncomputable abbrev H1:Params->Heap:=λP=>absHeap (tz P) 1056 (@Life.mk [] [] [] 0 [] [] false E [] 0 false false false 0 [2000,10,10] false 0 true [] [] 0 false)
theorem fin_l(b:List Stmt)(w:World)(os:OsState):topRun treeTable p0 w 11 (sr 6) 2 (sc1_ w os).abs ⟨doneF .next,Code.body b e0,(@Pos.mk 553 0 581 79),[topFrame (@Pos.mk 0 0 0 0)]⟩=some ⟨H1 w.params,Array.mk [],(@Drawn.mk 0 0 0 0),1582,os⟩:=by
 rw [PySem.W.Fast.te14082659384304107361,PySem.W.Fast.te14364793385576792824,pe]
 kernel_rfl
theorem run_l(w:World)(os:OsState):topRun treeTable p0 w 11 (sr 6) (12+(1+(5968+(2640+2)))) ⟨boot_heap w.params,Array.mk [],boot_drawn,boot_toks,os⟩ (topStub p0)=some ⟨H1 w.params,Array.mk [],(@Drawn.mk 0 0 0 0),1582,os⟩:=by
 refine go_top (pre_l w os) (piece_block (blk_l w os) ?k)
 rw [bs]
 exact piece_app (h0 _ w os) (piece_app (h1 _ w os) (piece_nil (fin_l _ w os)))
abbrev kF(a b:String)(s:Stmt)(m:String)(n v:Nat):Params->Obj:=λP=>(Obj.mk (@Value.type "function") none (Data.func (fk (@Str.ofString a) (@Str.ofString b) s 3 [] vn vn vn (@Value.str (@Str.ofString m) n) none (vr v) vn 0)) E)
abbrev k21:=kF "_wall" "_wall" (T 0) "__main__" 164 20
abbrev k40:=kF "__init__" "Lock.__init__" (N 4 0) "pactroom.kinds" 194 39
abbrev k47:=kF "kind" "Lock.kind" (N 4 1) "pactroom.kinds" 194 46
abbrev k54:=kF "beside" "Lock.beside" (N 4 2) "pactroom.kinds" 194 53
abbrev k61:=kF "covers" "Lock.covers" (N 4 3) "pactroom.kinds" 194 60
abbrev k68:=kF "told" "Lock.told" (N 4 4) "pactroom.kinds" 194 67
abbrev k89:=kF "kind" "Read.kind" (N 5 0) "pactroom.kinds" 194 88
abbrev k108:=kF "kind" "Mean.kind" (N 6 0) "pactroom.kinds" 194 107
abbrev k127:=kF "kind" "Change.kind" (N 7 0) "pactroom.kinds" 194 126
abbrev k139:=kF "lock_of" "lock_of" (T 8) "pactroom.kinds" 194 138
abbrev k202:=kF "__init__" "NoText.__init__" (N 14 0) "pactroom.errors" 352 201
abbrev k221:=kF "__init__" "Locks.__init__" (N 16 0) "pactroom.locks" 445 220
abbrev k226:=kF "ask" "Locks.ask" (N 16 1) "pactroom.locks" 445 225
abbrev k233:=kF "free" "Locks.free" (N 16 2) "pactroom.locks" 445 232
abbrev k240:=kF "stands" "Locks.stands" (N 16 3) "pactroom.locks" 445 239
abbrev k247:=kF "behind" "Locks.behind" (N 16 4) "pactroom.locks" 445 246
abbrev k252:=kF "held" "Locks.held" (N 16 5) "pactroom.locks" 445 251
abbrev k257:=kF "waiting" "Locks.waiting" (N 16 6) "pactroom.locks" 445 256
abbrev k264:=kF "hinderer" "Locks.hinderer" (N 16 7) "pactroom.locks" 445 263
abbrev k269:=kF "held_pairs" "Locks.held_pairs" (N 16 8) "pactroom.locks" 445 268
abbrev k274:=kF "waiting_pairs" "Locks.waiting_pairs" (N 16 9) "pactroom.locks" 445 273
abbrev k281:=kF "waiting_place" "Locks.waiting_place" (N 16 10) "pactroom.locks" 445 280
abbrev k295:=kF "is_whole" "is_whole" (T 26) "pactroom.things" 551 294
abbrev k300:=kF "read_thing" "read_thing" (T 27) "pactroom.things" 551 299
abbrev k307:=kF "is_sign" "is_sign" (T 28) "pactroom.things" 551 306
abbrev k321:=kF "__init__" "Reader.__init__" (N 29 0) "pactroom.things" 551 320
abbrev k328:=kF "passes" "Reader.passes" (N 29 1) "pactroom.things" 551 327
abbrev k335:=kF "read_any" "Reader.read_any" (N 29 2) "pactroom.things" 551 334
abbrev k342:=kF "read_parts" "Reader.read_parts" (N 29 3) "pactroom.things" 551 341
abbrev k349:=kF "read_below" "Reader.read_below" (N 29 4) "pactroom.things" 551 348
abbrev k356:=kF "read_number" "Reader.read_number" (N 29 5) "pactroom.things" 551 355
abbrev k363:=kF "read_signs" "Reader.read_signs" (N 29 6) "pactroom.things" 551 362
abbrev k385:=kF "house" "Step.house" (N 33 0) "pactroom.steps" 673 384
abbrev k392:=kF "lock" "Step.lock" (N 33 1) "pactroom.steps" 673 391
abbrev k399:=kF "step_done" "Step.step_done" (N 33 2) "pactroom.steps" 673 398
abbrev k406:=kF "back" "Step.back" (N 33 3) "pactroom.steps" 673 405
abbrev k413:=kF "sure" "Step.sure" (N 33 4) "pactroom.steps" 673 412
abbrev k420:=kF "spelled" "Step.spelled" (N 33 5) "pactroom.steps" 673 419
abbrev k441:=kF "__init__" "CellStep.__init__" (N 34 0) "pactroom.steps" 673 440
abbrev k448:=kF "house" "CellStep.house" (N 34 1) "pactroom.steps" 673 447
abbrev k467:=kF "lock" "TakeStep.lock" (N 35 0) "pactroom.steps" 673 466
abbrev k474:=kF "step_done" "TakeStep.step_done" (N 35 1) "pactroom.steps" 673 473
abbrev k481:=kF "spelled" "TakeStep.spelled" (N 35 2) "pactroom.steps" 673 480
abbrev k500:=kF "lock" "MeanStep.lock" (N 36 0) "pactroom.steps" 673 499
abbrev k507:=kF "step_done" "MeanStep.step_done" (N 36 1) "pactroom.steps" 673 506
abbrev k514:=kF "spelled" "MeanStep.spelled" (N 36 2) "pactroom.steps" 673 513
abbrev k533:=kF "__init__" "SumStep.__init__" (N 37 0) "pactroom.steps" 673 532
abbrev k540:=kF "house" "SumStep.house" (N 37 1) "pactroom.steps" 673 539
abbrev k547:=kF "lock" "SumStep.lock" (N 37 2) "pactroom.steps" 673 546
abbrev k552:=kF "step_done" "SumStep.step_done" (N 37 3) "pactroom.steps" 673 551
abbrev k559:=kF "spelled" "SumStep.spelled" (N 37 4) "pactroom.steps" 673 558
abbrev k578:=kF "lock" "GiveStep.lock" (N 38 0) "pactroom.steps" 673 577
abbrev k585:=kF "step_done" "GiveStep.step_done" (N 38 1) "pactroom.steps" 673 584
abbrev k592:=kF "sure" "GiveStep.sure" (N 38 2) "pactroom.steps" 673 591
abbrev k599:=kF "spelled" "GiveStep.spelled" (N 38 3) "pactroom.steps" 673 598
abbrev k618:=kF "__init__" "AddStep.__init__" (N 39 0) "pactroom.steps" 673 617
abbrev k625:=kF "lock" "AddStep.lock" (N 39 1) "pactroom.steps" 673 624
abbrev k632:=kF "step_done" "AddStep.step_done" (N 39 2) "pactroom.steps" 673 631
abbrev k639:=kF "back" "AddStep.back" (N 39 3) "pactroom.steps" 673 638
abbrev k646:=kF "spelled" "AddStep.spelled" (N 39 4) "pactroom.steps" 673 645
abbrev k665:=kF "__init__" "PlusStep.__init__" (N 40 0) "pactroom.steps" 673 664
abbrev k672:=kF "step_done" "PlusStep.step_done" (N 40 1) "pactroom.steps" 673 671
abbrev k679:=kF "spelled" "PlusStep.spelled" (N 40 2) "pactroom.steps" 673 678
abbrev k698:=kF "__init__" "NeedStep.__init__" (N 41 0) "pactroom.steps" 673 697
abbrev k705:=kF "step_done" "NeedStep.step_done" (N 41 1) "pactroom.steps" 673 704
abbrev k712:=kF "spelled" "NeedStep.spelled" (N 41 2) "pactroom.steps" 673 711
abbrev k722:=kF "read_step" "read_step" (T 42) "pactroom.steps" 673 721
abbrev k729:=kF "read_number" "read_number" (T 43) "pactroom.steps" 673 728
abbrev k736:=kF "made_step" "made_step" (T 44) "pactroom.steps" 673 735
abbrev k743:=kF "made_sum" "made_sum" (T 45) "pactroom.steps" 673 742
abbrev k757:=kF "__init__" "Works.__init__" (N 47 0) "pactroom.works" 1150 756
abbrev k764:=kF "take_up" "Works.take_up" (N 47 1) "pactroom.works" 1150 763
abbrev k771:=kF "work" "Works.work" (N 47 2) "pactroom.works" 1150 770
abbrev k778:=kF "do_step" "Works.do_step" (N 47 3) "pactroom.works" 1150 777
abbrev k785:=kF "value_at" "Works.value_at" (N 47 4) "pactroom.works" 1150 784
abbrev k792:=kF "send_did" "Works.send_did" (N 47 5) "pactroom.works" 1150 791
abbrev k797:=kF "ready" "Works.ready" (N 47 6) "pactroom.works" 1150 796
abbrev k804:=kF "ended" "Works.ended" (N 47 7) "pactroom.works" 1150 803
abbrev k811:=kF "walk" "Works.walk" (N 47 8) "pactroom.works" 1150 810
abbrev k818:=kF "undo" "Works.undo" (N 47 9) "pactroom.works" 1150 817
abbrev k825:=kF "lock_stands" "Works.lock_stands" (N 47 10) "pactroom.works" 1150 824
abbrev k832:=kF "turn" "Works.turn" (N 47 11) "pactroom.works" 1150 831
abbrev k839:=kF "chase" "Works.chase" (N 47 12) "pactroom.works" 1150 838
abbrev k846:=kF "held" "Works.held" (N 47 13) "pactroom.works" 1150 845
abbrev k853:=kF "waiting" "Works.waiting" (N 47 14) "pactroom.works" 1150 852
abbrev k858:=kF "is_bound" "Works.is_bound" (N 47 15) "pactroom.works" 1150 857
abbrev k879:=kF "__init__" "Sheet.__init__" (N 49 0) "pactroom.sheets" 1329 878
abbrev k886:=kF "row" "Sheet.row" (N 49 1) "pactroom.sheets" 1329 885
abbrev k893:=kF "send" "Sheet.send" (N 49 2) "pactroom.sheets" 1329 892
abbrev k900:=kF "rows_told" "Sheet.rows_told" (N 49 3) "pactroom.sheets" 1329 899
abbrev k905:=kF "letters_told" "Sheet.letters_told" (N 49 4) "pactroom.sheets" 1329 904
abbrev k926:=kF "__init__" "Stand.__init__" (N 51 0) "pactroom.stands" 1395 925
abbrev k933:=kF "keep" "Stand.keep" (N 51 1) "pactroom.stands" 1395 932
abbrev k940:=kF "changes_of" "Stand.changes_of" (N 51 2) "pactroom.stands" 1395 939
abbrev k947:=kF "cell_at" "Stand.cell_at" (N 51 3) "pactroom.stands" 1395 946
abbrev k954:=kF "cells_told" "Stand.cells_told" (N 51 4) "pactroom.stands" 1395 953
abbrev k961:=kF "outcome" "Stand.outcome" (N 51 5) "pactroom.stands" 1395 960
abbrev k968:=kF "news" "Stand.news" (N 51 6) "pactroom.stands" 1395 967
abbrev k973:=kF "bound" "Stand.bound" (N 51 7) "pactroom.stands" 1395 972
abbrev k980:=kF "lost" "Stand.lost" (N 51 8) "pactroom.stands" 1395 979
abbrev k987:=kF "begun" "Stand.begun" (N 51 9) "pactroom.stands" 1395 986
abbrev k994:=kF "walked_at" "Stand.walked_at" (N 51 10) "pactroom.stands" 1395 993
abbrev k1001:=kF "is_over" "Stand.is_over" (N 51 11) "pactroom.stands" 1395 1000
abbrev k1015:=kF "_law_cell_at" "_law_cell_at" (T 53) "law_pactroom_k51_work_on_a_draft" 1517 1014
abbrev k1022:=kF "_law_whole" "_law_whole" (T 54) "law_pactroom_k51_work_on_a_draft" 1517 1021
abbrev k1029:=kF "_law_number" "_law_number" (T 55) "law_pactroom_k51_work_on_a_draft" 1517 1028
abbrev k1036:=kF "_law_step" "_law_step" (T 56) "law_pactroom_k51_work_on_a_draft" 1517 1035
abbrev k1043:=kF "_law_played" "_law_played" (T 57) "law_pactroom_k51_work_on_a_draft" 1517 1042
abbrev k1050:=kF "_law_right" "_law_right" (T 58) "law_pactroom_k51_work_on_a_draft" 1517 1049
abbrev k1055:=kF "law" "law" (T 59) "law_pactroom_k51_work_on_a_draft" 1517 1054
noncomputable def Kf:Params->Frag:=λP=>(nat_lit 2,boot_o_2 P)::(nat_lit 3,c1_3 P)::(nat_lit 15,a11)::(nat_lit 17,c0_17)::(nat_lit 18,a11)::(nat_lit 20,c0_20)::(nat_lit 21,k21 P)::(nat_lit 22,c0_22 P)::(nat_lit 23,c0_23)::(nat_lit 24,c0_24)::(nat_lit 25,c0_25)::(nat_lit 26,c0_26)::(nat_lit 34,a11)::(nat_lit 36,c0_36)::(nat_lit 37,a11)::(nat_lit 39,c0_39)::(nat_lit 40,k40 P)::(nat_lit 41,a11)::(nat_lit 43,c0_43)::(nat_lit 44,a11)::(nat_lit 46,c0_46)::(nat_lit 47,k47 P)::(nat_lit 48,a11)::(nat_lit 50,c0_50)::(nat_lit 51,a11)::(nat_lit 53,c0_53)::(nat_lit 54,k54 P)::(nat_lit 55,a11)::(nat_lit 57,c0_57)::(nat_lit 58,a11)::(nat_lit 60,c0_60)::(nat_lit 61,k61 P)::(nat_lit 62,a11)::(nat_lit 64,c0_64)::(nat_lit 65,a11)::(nat_lit 67,c0_67)::(nat_lit 68,k68 P)::(nat_lit 69,c0_69)::(nat_lit 70,c0_70 P)::(nat_lit 71,c0_71)::(nat_lit 72,c0_72)::(nat_lit 73,c0_73)::(nat_lit 76,c0_76)::(nat_lit 83,a11)::(nat_lit 85,c0_85)::(nat_lit 86,a11)::(nat_lit 88,c0_88)::(nat_lit 89,k89 P)::(nat_lit 90,a11)::(nat_lit 91,c0_91 P)::(nat_lit 92,c0_92)::(nat_lit 95,c0_76)::(nat_lit 102,a11)::(nat_lit 104,c0_104)::(nat_lit 105,a11)::(nat_lit 107,c0_107)::(nat_lit 108,k108 P)::(nat_lit 109,a11)::(nat_lit 110,c0_110 P)::(nat_lit 111,c0_111)::(nat_lit 114,c0_76)::(nat_lit 121,a11)::(nat_lit 123,c0_123)::(nat_lit 124,a11)::(nat_lit 126,c0_126)::(nat_lit 127,k127 P)::(nat_lit 128,a11)::(nat_lit 129,c0_129 P)::(nat_lit 130,c0_130)::(nat_lit 133,a11)::(nat_lit 135,c0_135)::(nat_lit 136,a11)::(nat_lit 138,c0_138)::(nat_lit 139,k139 P)::(nat_lit 140,c0_140)::(nat_lit 147,a11)::(nat_lit 148,c0_148 P)::(nat_lit 149,c0_149)::(nat_lit 150,c0_150)::(nat_lit 153,c0_153)::(nat_lit 160,a11)::(nat_lit 161,c0_161 P)::(nat_lit 162,c0_162)::(nat_lit 165,c0_153)::(nat_lit 172,a11)::(nat_lit 173,c0_173 P)::(nat_lit 174,c0_174)::(nat_lit 177,c0_153)::(nat_lit 184,a11)::(nat_lit 185,c0_185 P)::(nat_lit 186,c0_186)::(nat_lit 189,c0_153)::(nat_lit 196,a11)::(nat_lit 198,c0_198)::(nat_lit 199,a11)::(nat_lit 201,c0_201)::(nat_lit 202,k202 P)::(nat_lit 203,c0_203)::(nat_lit 204,c0_204 P)::(nat_lit 205,c0_205)::(nat_lit 215,a11)::(nat_lit 217,c0_217)::(nat_lit 218,a11)::(nat_lit 220,c0_220)::(nat_lit 221,k221 P)::(nat_lit 222,a11)::(nat_lit 225,c0_225)::(nat_lit 226,k226 P)::(nat_lit 227,a11)::(nat_lit 229,c0_229)::(nat_lit 230,a11)::(nat_lit 232,c0_232)::(nat_lit 233,k233 P)::(nat_lit 234,a11)::(nat_lit 236,c0_236)::(nat_lit 237,a11)::(nat_lit 239,c0_239)::(nat_lit 240,k240 P)::(nat_lit 241,a11)::(nat_lit 243,c0_243)::(nat_lit 244,a11)::(nat_lit 246,c0_246)::(nat_lit 247,k247 P)::(nat_lit 248,a11)::(nat_lit 251,c0_251)::(nat_lit 252,k252 P)::(nat_lit 253,a11)::(nat_lit 256,c0_256)::(nat_lit 257,k257 P)::(nat_lit 258,a11)::(nat_lit 260,c0_260)::(nat_lit 261,a11)::(nat_lit 263,c0_263)::(nat_lit 264,k264 P)::(nat_lit 265,a11)::(nat_lit 268,c0_268)::(nat_lit 269,k269 P)::(nat_lit 270,a11)::(nat_lit 273,c0_273)::(nat_lit 274,k274 P)::(nat_lit 275,a11)::(nat_lit 277,c0_277)::(nat_lit 278,a11)::(nat_lit 280,c0_280)::(nat_lit 281,k281 P)::(nat_lit 282,c0_282)::(nat_lit 283,c0_283 P)::(nat_lit 284,c0_284)::(nat_lit 285,c0_285)::(nat_lit 286,c0_286)::(nat_lit 289,a11)::(nat_lit 291,c0_291)::(nat_lit 292,a11)::(nat_lit 294,c0_294)::(nat_lit 295,k295 P)::(nat_lit 296,a11)::(nat_lit 299,c0_299)::(nat_lit 300,k300 P)::(nat_lit 301,a11)::(nat_lit 303,c0_303)::(nat_lit 304,a11)::(nat_lit 306,c0_306)::(nat_lit 307,k307 P)::(nat_lit 315,a11)::(nat_lit 317,c0_317)::(nat_lit 318,a11)::(nat_lit 320,c0_320)::(nat_lit 321,k321 P)::(nat_lit 322,a11)::(nat_lit 324,c0_324)::(nat_lit 325,a11)::(nat_lit 327,c0_327)::(nat_lit 328,k328 P)::(nat_lit 329,a11)::(nat_lit 331,c0_331)::(nat_lit 332,a11)::(nat_lit 334,c0_334)::(nat_lit 335,k335 P)::(nat_lit 336,a11)::(nat_lit 338,c0_338)::(nat_lit 339,a11)::(nat_lit 341,c0_341)::(nat_lit 342,k342 P)::(nat_lit 343,a11)::(nat_lit 345,c0_345)::(nat_lit 346,a11)::(nat_lit 348,c0_348)::(nat_lit 349,k349 P)::(nat_lit 350,a11)::(nat_lit 352,c0_352)::(nat_lit 353,a11)::(nat_lit 355,c0_355)::(nat_lit 356,k356 P)::(nat_lit 357,a11)::(nat_lit 359,c0_359)::(nat_lit 360,a11)::(nat_lit 362,c0_362)::(nat_lit 363,k363 P)::(nat_lit 364,c0_364)::(nat_lit 365,c0_365 P)::(nat_lit 366,c0_366)::(nat_lit 367,c0_367)::(nat_lit 368,c0_368)::(nat_lit 371,c0_371 P)::(nat_lit 379,a11)::(nat_lit 381,c0_381)::(nat_lit 382,a11)::(nat_lit 384,c0_384)::(nat_lit 385,k385 P)::(nat_lit 386,a11)::(nat_lit 388,c0_388)::(nat_lit 389,a11)::(nat_lit 391,c0_391)::(nat_lit 392,k392 P)::(nat_lit 393,a11)::(nat_lit 395,c0_395)::(nat_lit 396,a11)::(nat_lit 398,c0_398)::(nat_lit 399,k399 P)::(nat_lit 400,a11)::(nat_lit 402,c0_402)::(nat_lit 403,a11)::(nat_lit 405,c0_405)::(nat_lit 406,k406 P)::(nat_lit 407,a11)::(nat_lit 409,c0_409)::(nat_lit 410,a11)::(nat_lit 412,c0_412)::(nat_lit 413,k413 P)::(nat_lit 414,a11)::(nat_lit 416,c0_416)::(nat_lit 417,a11)::(nat_lit 419,c0_419)::(nat_lit 420,k420 P)::(nat_lit 421,a11)::(nat_lit 422,c0_422 P)::(nat_lit 423,c1_423)::(nat_lit 424,c0_424)::(nat_lit 425,c0_425)::(nat_lit 428,c0_428)::(nat_lit 435,a11)::(nat_lit 437,c0_437)::(nat_lit 438,a11)::(nat_lit 440,c0_440)::(nat_lit 441,k441 P)::(nat_lit 442,a11)::(nat_lit 444,c0_444)::(nat_lit 445,a11)::(nat_lit 447,c0_447)::(nat_lit 448,k448 P)::(nat_lit 449,c0_449)::(nat_lit 450,c0_450 P)::(nat_lit 451,c0_451)::(nat_lit 454,c0_454)::(nat_lit 461,a11)::(nat_lit 463,c0_463)::(nat_lit 464,a11)::(nat_lit 466,c0_466)::(nat_lit 467,k467 P)::(nat_lit 468,a11)::(nat_lit 470,c0_470)::(nat_lit 471,a11)::(nat_lit 473,c0_473)::(nat_lit 474,k474 P)::(nat_lit 475,a11)::(nat_lit 477,c0_477)::(nat_lit 478,a11)::(nat_lit 480,c0_480)::(nat_lit 481,k481 P)::(nat_lit 482,a11)::(nat_lit 483,c0_483 P)::(nat_lit 484,c0_484)::(nat_lit 487,c0_454)::(nat_lit 494,a11)::(nat_lit 496,c0_496)::(nat_lit 497,a11)::(nat_lit 499,c0_499)::(nat_lit 500,k500 P)::(nat_lit 501,a11)::(nat_lit 503,c0_503)::(nat_lit 504,a11)::(nat_lit 506,c0_506)::(nat_lit 507,k507 P)::(nat_lit 508,a11)::(nat_lit 510,c0_510)::(nat_lit 511,a11)::(nat_lit 513,c0_513)::(nat_lit 514,k514 P)::(nat_lit 515,a11)::(nat_lit 516,c0_516 P)::(nat_lit 517,c0_517)::(nat_lit 520,c0_428)::(nat_lit 527,a11)::(nat_lit 529,c0_529)::(nat_lit 530,a11)::(nat_lit 532,c0_532)::(nat_lit 533,k533 P)::(nat_lit 534,a11)::(nat_lit 536,c0_536)::(nat_lit 537,a11)::(nat_lit 539,c0_539)::(nat_lit 540,k540 P)::(nat_lit 541,a11)::(nat_lit 543,c0_543)::(nat_lit 544,a11)::(nat_lit 546,c0_546)::(nat_lit 547,k547 P)::(nat_lit 548,a11)::(nat_lit 551,c0_551)::(nat_lit 552,k552 P)::(nat_lit 553,a11)::(nat_lit 555,c0_555)::(nat_lit 556,a11)::(nat_lit 558,c0_558)::(nat_lit 559,k559 P)::(nat_lit 560,c0_560)::(nat_lit 561,c0_561 P)::(nat_lit 562,c0_562)::(nat_lit 565,c0_454)::(nat_lit 572,a11)::(nat_lit 574,c0_574)::(nat_lit 575,a11)::(nat_lit 577,c0_577)::(nat_lit 578,k578 P)::(nat_lit 579,a11)::(nat_lit 581,c0_581)::(nat_lit 582,a11)::(nat_lit 584,c0_584)::(nat_lit 585,k585 P)::(nat_lit 586,a11)::(nat_lit 588,c0_588)::(nat_lit 589,a11)::(nat_lit 591,c0_591)::(nat_lit 592,k592 P)::(nat_lit 593,a11)::(nat_lit 595,c0_595)::(nat_lit 596,a11)::(nat_lit 598,c0_598)::(nat_lit 599,k599 P)::(nat_lit 600,a11)::(nat_lit 601,c0_601 P)::(nat_lit 602,c0_602)::(nat_lit 605,c0_454)::(nat_lit 612,a11)::(nat_lit 614,c0_614)::(nat_lit 615,a11)::(nat_lit 617,c0_617)::(nat_lit 618,k618 P)::(nat_lit 619,a11)::(nat_lit 621,c0_621)::(nat_lit 622,a11)::(nat_lit 624,c0_624)::(nat_lit 625,k625 P)::(nat_lit 626,a11)::(nat_lit 628,c0_628)::(nat_lit 629,a11)::(nat_lit 631,c0_631)::(nat_lit 632,k632 P)::(nat_lit 633,a11)::(nat_lit 635,c0_635)::(nat_lit 636,a11)::(nat_lit 638,c0_638)::(nat_lit 639,k639 P)::(nat_lit 640,a11)::(nat_lit 642,c0_642)::(nat_lit 643,a11)::(nat_lit 645,c0_645)::(nat_lit 646,k646 P)::(nat_lit 647,c0_647)::(nat_lit 648,c0_648 P)::(nat_lit 649,c0_649)::(nat_lit 652,c0_428)::(nat_lit 659,a11)::(nat_lit 661,c1_661)::(nat_lit 662,a11)::(nat_lit 664,c1_664)::(nat_lit 665,k665 P)::(nat_lit 666,a11)::(nat_lit 668,c1_668)::(nat_lit 669,a11)::(nat_lit 671,c1_671)::(nat_lit 672,k672 P)::(nat_lit 673,a11)::(nat_lit 675,c1_675)::(nat_lit 676,a11)::(nat_lit 678,c1_678)::(nat_lit 679,k679 P)::(nat_lit 680,c1_680)::(nat_lit 681,c1_681 P)::(nat_lit 682,c1_682)::(nat_lit 685,c0_428)::(nat_lit 692,a11)::(nat_lit 694,c1_694)::(nat_lit 695,a11)::(nat_lit 697,c1_697)::(nat_lit 698,k698 P)::(nat_lit 699,a11)::(nat_lit 701,c1_701)::(nat_lit 702,a11)::(nat_lit 704,c1_704)::(nat_lit 705,k705 P)::(nat_lit 706,a11)::(nat_lit 708,c1_708)::(nat_lit 709,a11)::(nat_lit 711,c1_711)::(nat_lit 712,k712 P)::(nat_lit 713,c1_713)::(nat_lit 714,c1_714 P)::(nat_lit 715,c1_715)::(nat_lit 718,a11)::(nat_lit 721,c1_721)::(nat_lit 722,k722 P)::(nat_lit 723,a11)::(nat_lit 725,c1_725)::(nat_lit 726,a11)::(nat_lit 728,c1_728)::(nat_lit 729,k729 P)::(nat_lit 730,a11)::(nat_lit 732,c1_732)::(nat_lit 733,a11)::(nat_lit 735,c1_735)::(nat_lit 736,k736 P)::(nat_lit 737,a11)::(nat_lit 739,c1_739)::(nat_lit 740,a11)::(nat_lit 742,c1_742)::(nat_lit 743,k743 P)::(nat_lit 751,a11)::(nat_lit 753,c1_753)::(nat_lit 754,a11)::(nat_lit 756,c1_756)::(nat_lit 757,k757 P)::(nat_lit 758,a11)::(nat_lit 760,c1_760)::(nat_lit 761,a11)::(nat_lit 763,c1_763)::(nat_lit 764,k764 P)::(nat_lit 765,a11)::(nat_lit 767,c1_767)::(nat_lit 768,a11)::(nat_lit 770,c1_770)::(nat_lit 771,k771 P)::(nat_lit 772,a11)::(nat_lit 774,c1_774)::(nat_lit 775,c1_775)::(nat_lit 777,c1_777)::(nat_lit 778,k778 P)::(nat_lit 779,a11)::(nat_lit 781,c1_781)::(nat_lit 782,a11)::(nat_lit 784,c1_784)::(nat_lit 785,k785 P)::(nat_lit 786,a11)::(nat_lit 788,c1_788)::(nat_lit 789,a11)::(nat_lit 791,c1_791)::(nat_lit 792,k792 P)::(nat_lit 793,a11)::(nat_lit 796,c1_796)::(nat_lit 797,k797 P)::(nat_lit 798,a11)::(nat_lit 800,c1_800)::(nat_lit 801,a11)::(nat_lit 803,c1_803)::(nat_lit 804,k804 P)::(nat_lit 805,a11)::(nat_lit 807,c1_807)::(nat_lit 808,a11)::(nat_lit 810,c1_810)::(nat_lit 811,k811 P)::(nat_lit 812,a11)::(nat_lit 814,c1_814)::(nat_lit 815,a11)::(nat_lit 817,c1_817)::(nat_lit 818,k818 P)::(nat_lit 819,a11)::(nat_lit 821,c1_821)::(nat_lit 822,a11)::(nat_lit 824,c1_824)::(nat_lit 825,k825 P)::(nat_lit 826,a11)::(nat_lit 828,c1_828)::(nat_lit 829,a11)::(nat_lit 831,c1_831)::(nat_lit 832,k832 P)::(nat_lit 833,a11)::(nat_lit 835,c1_835)::(nat_lit 836,a11)::(nat_lit 838,c1_838)::(nat_lit 839,k839 P)::(nat_lit 840,a11)::(nat_lit 842,c1_842)::(nat_lit 843,a11)::(nat_lit 845,c1_845)::(nat_lit 846,k846 P)::(nat_lit 847,a11)::(nat_lit 849,c1_849)::(nat_lit 850,a11)::(nat_lit 852,c1_852)::(nat_lit 853,k853 P)::(nat_lit 854,a11)::(nat_lit 857,c1_857)::(nat_lit 858,k858 P)::(nat_lit 859,c1_859)::(nat_lit 860,c1_860 P)::(nat_lit 861,c1_861)::(nat_lit 862,c1_862)::(nat_lit 863,c1_863)::(nat_lit 873,a11)::(nat_lit 875,c1_875)::(nat_lit 876,a11)::(nat_lit 878,c1_878)::(nat_lit 879,k879 P)::(nat_lit 880,a11)::(nat_lit 882,c1_882)::(nat_lit 883,a11)::(nat_lit 885,c1_885)::(nat_lit 886,k886 P)::(nat_lit 887,a11)::(nat_lit 889,c1_889)::(nat_lit 890,a11)::(nat_lit 892,c1_892)::(nat_lit 893,k893 P)::(nat_lit 894,a11)::(nat_lit 896,c1_896)::(nat_lit 897,a11)::(nat_lit 899,c1_899)::(nat_lit 900,k900 P)::(nat_lit 901,a11)::(nat_lit 904,c1_904)::(nat_lit 905,k905 P)::(nat_lit 906,c1_906)::(nat_lit 907,c1_907 P)::(nat_lit 908,c1_908)::(nat_lit 909,c1_909)::(nat_lit 910,c1_910)::(nat_lit 920,a11)::(nat_lit 922,c1_922)::(nat_lit 923,a11)::(nat_lit 925,c1_925)::(nat_lit 926,k926 P)::(nat_lit 927,a11)::(nat_lit 929,c1_929)::(nat_lit 930,a11)::(nat_lit 932,c1_932)::(nat_lit 933,k933 P)::(nat_lit 934,a11)::(nat_lit 936,c1_936)::(nat_lit 937,a11)::(nat_lit 939,c1_939)::(nat_lit 940,k940 P)::(nat_lit 941,a11)::(nat_lit 943,c1_943)::(nat_lit 944,a11)::(nat_lit 946,c1_946)::(nat_lit 947,k947 P)::(nat_lit 948,a11)::(nat_lit 950,c1_950)::(nat_lit 951,a11)::(nat_lit 953,c1_953)::(nat_lit 954,k954 P)::(nat_lit 955,a11)::(nat_lit 957,c1_957)::(nat_lit 958,a11)::(nat_lit 960,c1_960)::(nat_lit 961,k961 P)::(nat_lit 962,a11)::(nat_lit 964,c1_964)::(nat_lit 965,a11)::(nat_lit 967,c1_967)::(nat_lit 968,k968 P)::(nat_lit 969,a11)::(nat_lit 972,c1_972)::(nat_lit 973,k973 P)::(nat_lit 974,a11)::(nat_lit 976,c1_976)::(nat_lit 977,a11)::(nat_lit 979,c1_979)::(nat_lit 980,k980 P)::(nat_lit 981,a11)::(nat_lit 983,c1_983)::(nat_lit 984,a11)::(nat_lit 986,c1_986)::(nat_lit 987,k987 P)::(nat_lit 988,a11)::(nat_lit 990,c1_990)::(nat_lit 991,a11)::(nat_lit 993,c1_993)::(nat_lit 994,k994 P)::(nat_lit 995,a11)::(nat_lit 997,c1_997)::(nat_lit 998,a11)::(nat_lit 1000,c1_1000)::(nat_lit 1001,k1001 P)::(nat_lit 1002,c1_1002)::(nat_lit 1003,c1_1003 P)::(nat_lit 1004,c1_1004)::(nat_lit 1005,c1_1005)::(nat_lit 1006,c1_1006)::(nat_lit 1009,a11)::(nat_lit 1011,c1_1011)::(nat_lit 1012,a11)::(nat_lit 1014,c1_1014)::(nat_lit 1015,k1015 P)::(nat_lit 1016,a11)::(nat_lit 1018,c1_1018)::(nat_lit 1019,a11)::(nat_lit 1021,c1_1021)::(nat_lit 1022,k1022 P)::(nat_lit 1023,a11)::(nat_lit 1025,c1_1025)::(nat_lit 1026,a11)::(nat_lit 1028,c1_1028)::(nat_lit 1029,k1029 P)::(nat_lit 1030,a11)::(nat_lit 1032,c1_1032)::(nat_lit 1033,a11)::(nat_lit 1035,c1_1035)::(nat_lit 1036,k1036 P)::(nat_lit 1037,a11)::(nat_lit 1039,c1_1039)::(nat_lit 1040,a11)::(nat_lit 1042,c1_1042)::(nat_lit 1043,k1043 P)::(nat_lit 1044,a11)::(nat_lit 1046,c1_1046)::(nat_lit 1047,a11)::(nat_lit 1049,c1_1049)::(nat_lit 1050,k1050 P)::(nat_lit 1051,a11)::(nat_lit 1054,c1_1054)::(nat_lit 1055,k1055 P)::[]
noncomputable def Ka:List Addr:=[2,3,15,17,18,20,21,22,23,24,25,26,34,36,37,39,40,41,43,44,46,47,48,50,51,53,54,55,57,58,60,61,62,64,65,67,68,69,70,71,72,73,76,83,85,86,88,89,90,91,92,95,102,104,105,107,108,109,110,111,114,121,123,124,126,127,128,129,130,133,135,136,138,139,140,147,148,149,150,153,160,161,162,165,172,173,174,177,184,185,186,189,196,198,199,201,202,203,204,205,215,217,218,220,221,222,225,226,227,229,230,232,233,234,236,237,239,240,241,243,244,246,247,248,251,252,253,256,257,258,260,261,263,264,265,268,269,270,273,274,275,277,278,280,281,282,283,284,285,286,289,291,292,294,295,296,299,300,301,303,304,306,307,315,317,318,320,321,322,324,325,327,328,329,331,332,334,335,336,338,339,341,342,343,345,346,348,349,350,352,353,355,356,357,359,360,362,363,364,365,366,367,368,371,379,381,382,384,385,386,388,389,391,392,393,395,396,398,399,400,402,403,405,406,407,409,410,412,413,414,416,417,419,420,421,422,423,424,425,428,435,437,438,440,441,442,444,445,447,448,449,450,451,454,461,463,464,466,467,468,470,471,473,474,475,477,478,480,481,482,483,484,487,494,496,497,499,500,501,503,504,506,507,508,510,511,513,514,515,516,517,520,527,529,530,532,533,534,536,537,539,540,541,543,544,546,547,548,551,552,553,555,556,558,559,560,561,562,565,572,574,575,577,578,579,581,582,584,585,586,588,589,591,592,593,595,596,598,599,600,601,602,605,612,614,615,617,618,619,621,622,624,625,626,628,629,631,632,633,635,636,638,639,640,642,643,645,646,647,648,649,652,659,661,662,664,665,666,668,669,671,672,673,675,676,678,679,680,681,682,685,692,694,695,697,698,699,701,702,704,705,706,708,709,711,712,713,714,715,718,721,722,723,725,726,728,729,730,732,733,735,736,737,739,740,742,743,751,753,754,756,757,758,760,761,763,764,765,767,768,770,771,772,774,775,777,778,779,781,782,784,785,786,788,789,791,792,793,796,797,798,800,801,803,804,805,807,808,810,811,812,814,815,817,818,819,821,822,824,825,826,828,829,831,832,833,835,836,838,839,840,842,843,845,846,847,849,850,852,853,854,857,858,859,860,861,862,863,873,875,876,878,879,880,882,883,885,886,887,889,890,892,893,894,896,897,899,900,901,904,905,906,907,908,909,910,920,922,923,925,926,927,929,930,932,933,934,936,937,939,940,941,943,944,946,947,948,950,951,953,954,955,957,958,960,961,962,964,965,967,968,969,972,973,974,976,977,979,980,981,983,984,986,987,988,990,991,993,994,995,997,998,1000,1001,1002,1003,1004,1005,1006,1009,1011,1012,1014,1015,1016,1018,1019,1021,1022,1023,1025,1026,1028,1029,1030,1032,1033,1035,1036,1037,1039,1040,1042,1043,1044,1046,1047,1049,1050,1051,1054,1055]
theorem ke(P:Params):Ka=(Kf P).map (·.1):=by kernel_rfl
noncomputable abbrev HK:Hook:=kmHook Kf Ka ke [773]
noncomputable abbrev R:RowW:=PySem.Challenge.rw_pactroom_k51_work_on_a_draft.row.toRowW
noncomputable abbrev lo:List Str:=[Str.ofString "RANKS",Str.ofString "SHAPES"]
noncomputable abbrev lvv:List (Str×WData):=[]
noncomputable def qv:Program:={p0 with main:={p0.main with body:=[T 0,T 2,T 3,T 4,T 5,T 6,T 7,T 8,T 10,T 11,T 12,T 13,T 14,T 16,T 18,T 19,T 20,T 21,T 22,T 23,T 24,T 25,T 26,T 27,T 28,T 29,T 31,T 32,T 33,T 34,T 35,T 36,T 37,T 38,T 39,T 40,T 41,T 42,T 43,T 44,T 45,T 47,T 49,T 51,T 53,T 54,T 55,T 56,T 57,T 58,T 59]}}
noncomputable abbrev Xt:Shared->Bool:=λs=>xlAt qv lvv s&&recOk (RowW.records R) s
theorem size_l(w:World):((boot_heap w.params).isNs mainGlobals&&(A []:Array GenState).size==0,(boot_heap w.params).objs.size,(boot_heap w.params).nsMap mainGlobals "__annotations__")=(true,11,(sr 6)):=by kernel_rfl
theorem look1(w:World)(os:OsState):(staticsOk (importedModules p0.main.body) (boot_heap w.params) (H1 w.params)&&namesBound p0 (H1 w.params)&&gensDone ⟨H1 w.params,Array.mk [],(@Drawn.mk 0 0 0 0),1582,os⟩&&laidKept (boot_heap w.params) (H1 w.params))=true:=by kernel_rfl
theorem look2(w:World)(os:OsState):openSeen qv lo (importedModules p0.main.body) Xt true ⟨H1 w.params,Array.mk [],(@Drawn.mk 0 0 0 0),1582,os⟩=openGood qv lo:=by kernel_rfl
theorem look3(w:World)(os:OsState):Hook.obs HK ⟨H1 w.params,Array.mk [],(@Drawn.mk 0 0 0 0),1582,os⟩=Hook.val HK w:=by kernel_rfl
theorem left:LeftO p0 qv lo Xt (Hook.obs HK) (Hook.val HK) 17338:=LeftO.of_pieces (boot_open (by kernel_rfl) (by kernel_rfl) (λs=>by kernel_rfl)) size_l run_l (by decide) λw=>funext λos=>looks_pair (look1 w os) (looks_pair (look2 w os) (look3 w os))
end
end Q
end
namespace L2
open PySem PySem.Spec PyProof.Rows
section
variable {X:Cx}
theorem cW:dX X (.builtin "isinstance") (λxs H Q=>∃x t n b,xs=[x,.ty n]/\TyOf X.K H x t/\PySem.W.kitOne X.K t (.type n)=some b/\Q (.bl b) H):=by
 intro pins s σ H xs us Q I r h
 obtain ⟨x,t,n,b,rfl,ty,e,q⟩:=h
 obtain ⟨u,u2,rfl,rx,r2⟩:=tT r
 cases (show u2=Value.type n from r2)
 exact sX I rx ty e λtk=>⟨.bl b,H,I.tok _,rfl,q⟩
theorem kJ:MtR X "str.startswith" (λx vs H Q=>∃z y i,x=.str z/\vs=[.str y,.int i]/\Q (.bl (Txt.startswith3 z y i)) H):=by
 intro pins s σ H x xs v us Q I rx r h
 obtain ⟨z,y,i,rfl,rfl,q⟩:=h
 obtain ⟨t,rfl⟩:=rx
 obtain ⟨u,u2,rfl,⟨t1,rfl⟩,⟨t2,rfl⟩⟩:=tT r
 exact SC.startswith3 ⟨.bl _,H,I,rfl,q⟩
theorem lG:MtR X "str.startswith" (λx vs H Q=>∃z y,x=.str z/\vs=[.str y]/\Q (.bl (Txt.startswith z y)) H):=by
 intro pins s σ H x xs v us Q I rx r h
 obtain ⟨z,y,rfl,rfl,q⟩:=h
 obtain ⟨t,rfl⟩:=rx
 obtain ⟨u,rfl,⟨t1,rfl⟩⟩:=dF r
 exact SC.startswith ⟨.bl _,H,I,rfl,q⟩
theorem qo:MtR X "str.isdigit" (λx vs H Q=>∃z,x=.str z/\vs=[]/\Q (.bl (Txt.isdigit z)) H):=by
 intro pins s σ H x xs v us Q I rx r h
 obtain ⟨z,rfl,rfl,q⟩:=h
 obtain ⟨t,rfl⟩:=rx
 cases r
 exact SC.isdigit ⟨.bl _,H,I,rfl,q⟩
theorem cL:dX X (.type "int") (λxs H Q=>∃z n,xs=[.str z]/\PySem.intText? z=some n/\z.length<=640/\Q (.int n) H):=by
 intro pins s σ H xs us Q I r h
 obtain ⟨z,n,rfl,e,hl,q⟩:=h
 obtain ⟨u,rfl,⟨t,rfl⟩⟩:=dF r
 exact PySem.W.KIN.call_text e hl ⟨.int n,H,I.tok _,⟨_,rfl⟩,q⟩
theorem uy:SlR X (λx lo hi H Q=>∃z,x=.str z/\z.length<=sizeLine/\Q (.str (Txt.slice z lo hi)) H):=by
 intro pins s σ H x v vl vu lo hi sl Q I rx hs pl pu h
 obtain ⟨z,rfl,hz,q⟩:=h
 obtain ⟨t,rfl⟩:=rx
 refine ⟨"str",_,F.slot_str_getitem.lookup,typeIs_str _ _ _,?_⟩
 cases pl<;>cases pu
 ·exact wpAny_getItem_str_slice (l:=none) (u:=none) (st:=none) hs rfl (post_val_or_str ⟨Λ (Txt.slice_le z _ _) hz,λt' k=>⟨.str _,H,I.tok _,⟨_,rfl⟩,q⟩⟩)
 ·exact wpAny_getItem_str_slice (l:=none) (u:=some (_,_)) (st:=none) hs rfl (post_val_or_str ⟨Λ (Txt.slice_le z _ _) hz,λt' k=>⟨.str _,H,I.tok _,⟨_,rfl⟩,q⟩⟩)
 ·exact wpAny_getItem_str_slice (l:=some (_,_)) (u:=none) (st:=none) hs rfl (post_val_or_str ⟨Λ (Txt.slice_le z _ _) hz,λt' k=>⟨.str _,H,I.tok _,⟨_,rfl⟩,q⟩⟩)
 ·exact wpAny_getItem_str_slice (l:=some (_,_)) (u:=some (_,_)) (st:=none) hs rfl (post_val_or_str ⟨Λ (Txt.slice_le z _ _) hz,λt' k=>⟨.str _,H,I.tok _,⟨_,rfl⟩,q⟩⟩)
theorem pw(hc:X.calm=true):dX X (.builtin "all") (λxs H Q=>∃(p:Addr) (bs:List Bool),xs=[.ref p]/\SqL X.K H p (bs.map V.bl)/\Q (.bl (bs.all id)) H):=by
 intro pins s σ H xs us Q I r h
 obtain ⟨p,bs,rfl,hq,q⟩:=h
 obtain ⟨u,rfl,rx⟩:=dF r
 cases (show u=Value.ref p from rx)
 obtain ⟨its,rv,pl,hz⟩:=I.list hq
 have hl:=pl.isList
 have hlt:p<s.heap.objs.size:=by obtain ⟨_,e,_⟩:=hl;exact η e
 have hh:X.A.handled=none:=I.ok.hd hc
 have hlen:bs.length=its.length:=by have:=rv.length;rw [List.length_map] at this;exact this
 refine call_all_walk (wpAny_pyIter_list hl ?_)
 refine ⟨s.heap.objs.size,[s.heap.objs.size,p],[s.heap.objs.size],its.toArray.size,_,_,λi=>(bs[i]?).getD true,rfl,Walks.list (A:=X.A.in1) hh _ p (Φ hlt) its.toArray,
  ⟨⟨_,ψ _ rfl,rfl,rfl⟩,hl.push _⟩,λi v s' Q' E' hP hQ=>?_,λh' tk hk=>?_⟩
 ·have hP':its[i]?=some v:=by simpa using hP
  have hi:i<its.length:=(List.getElem?_eq_some_iff.mp hP').1
  have hb:(bs.map V.bl)[i]?=some (V.bl (bs[i]'(ω))):=by rw [List.getElem?_map,ξ ω];rfl
  obtain ⟨u',e1,e2⟩:=rv.get hb
  rw [hP'] at e1
  cases e1
  cases (show v=Value.bool _ from e2)
  have hQ':Q' ((bs[i]?).getD true) s':=hQ
  rw [ξ ω] at hQ'
  exact wpAny_truthy_bool hQ'
 ·have e:((List.range its.toArray.size).all λi=>(bs[i]?).getD true)=bs.all id:=by
   rw [List.size_toArray,← hlen];exact LSm.range_all bs
  rw [e]
  exact ⟨.bl _,H,I.kept (LSm.kept_iter hk),rfl,q⟩
end
end L2
namespace L2
open PySem PySem.Spec PyProof.Rows
def cV(env:Env):List (Str×NameKind)->List (Str×Addr)->List (Str×Addr)
 | [],cs=>cs
 | (n,k)::r,cs=>cV env r (if k==.free then match env.cells.lookup n with | some a=>(n,a)::cs | none=>cs else cs)
theorem gj{scope:Scope}{env:Env}(h:∀y∈scope.names,y.2=.free->∃c,env.cells.lookup y.1=some c):closureFor scope env=pure (cV env scope.names []):=by
 have key:∀(l:List (Str×NameKind)) (cs:List (Str×Addr)),(∀y∈l,y.2=.free->∃c,env.cells.lookup y.1=some c) ->
   (forIn l cs (λ(x:Str×NameKind) (r:List (Str×Addr))=>(if (x.2==NameKind.free)=true then (do let a ← cellOf env x.1;pure (ForInStep.yield ((x.1,a)::r))) else pure (ForInStep.yield r):Sem (ForInStep (List (Str×Addr))))))=(pure (cV env l cs):Sem _):=by
  intro l
  induction l with
  | nil=>intro cs _;rfl
  | cons y r ih =>
   intro cs hy
   obtain ⟨n,k⟩:=y
   have hr:∀z∈r,z.2=.free->∃c,env.cells.lookup z.1=some c:=λz hz=>hy z (Θ _ hz)
   rw [List.forIn_cons]
   by_cases hk:(k==NameKind.free)=true
   ·obtain ⟨c,hc⟩:=hy (n,k) List.mem_cons_self (by simpa using hk)
    have e:cellOf env n=pure c:=by unfold cellOf;rw [hc]
    simp only [hk,if_true,e,pure_bind,cV,hc]
    exact ih _ hr
   ·have hk':(k==NameKind.free)=false:=by simpa using hk
    simp only [hk',Bool.false_eq_true,if_false,pure_bind,cV]
    exact ih _ hr
 have e:closureFor scope env=(forIn scope.names ([]:List (Str×Addr)) (λ(x:Str×NameKind) (r:List (Str×Addr))=>(if (x.2==NameKind.free)=true then (do let a ← cellOf env x.1;pure (ForInStep.yield ((x.1,a)::r))) else pure (ForInStep.yield r):Sem (ForInStep (List (Str×Addr))))) >>= λcs=>pure cs):=by
  unfold closureFor
  rfl
 rw [e,key scope.names [] h]
 all_goals rfl
theorem jl{env:Env}:∀(l:List (Str×NameKind)) (cs:List (Str×Addr)),(∀p∈cs,env.cells.lookup p.1=some p.2)->∀p∈cV env l cs,env.cells.lookup p.1=some p.2
 | [],cs,h,p,hp=>h p hp
 | (n,k)::r,cs,h,p,hp=>by
  unfold cV at hp
  refine jl r _ ?_ p hp
  split
  ·split
   ·rename_i a ea
    intro q hq
    rcases List.mem_cons.mp hq with e | hq
    ·rw [e];exact ea
    ·exact h q hq
   ·exact h
  ·exact h
theorem jy{env:Env}:∀(l:List (Str×NameKind)) (cs:List (Str×Addr)) {y:Str},(∃p∈cs,p.1=y)->∃p∈cV env l cs,p.1=y
 | [],cs,y,h=>h
 | (n,k)::r,cs,y,⟨p,hp,e⟩=>by
  unfold cV
  refine jy r _ ?_
  split
  ·split
   ·exact ⟨p,Θ _ hp,e⟩
   ·exact ⟨p,hp,e⟩
  ·exact ⟨p,hp,e⟩
theorem mq{env:Env}:∀(l:List (Str×NameKind)) (cs:List (Str×Addr)) {y:Str} {c:Addr},(y,NameKind.free)∈l->env.cells.lookup y=some c->∃p∈cV env l cs,p.1=y
 | (n,k)::r,cs,y,c,hm,hc=>by
  unfold cV
  rcases List.mem_cons.mp hm with e | hm
  ·cases e
   refine jy r _ ?_
   rw [if_pos (by rfl),hc]
   exact ⟨_,Ω,rfl⟩
  ·exact mq r _ hm hc
theorem gY{α:Type}:∀{l:List (Str×α)} {p:Str×α},p∈l->∃c,l.lookup p.1=some c
 | q::l,p,h=>by
  obtain ⟨n,a⟩:=q
  rw [List.lookup_cons]
  split
  ·exact ⟨_,rfl⟩
  ·rename_i hne
   rcases List.mem_cons.mp h with e | h
   ·subst e;simp at hne
   ·exact gY h
theorem iK{env:Env}{l:List (Str×NameKind)}{y:Str}{c:Addr}(hm:(y,NameKind.free)∈l)(hc:env.cells.lookup y=some c):(cV env l []).lookup y=some c:=by
 obtain ⟨p,hp,e⟩:=mq l [] hm hc
 obtain ⟨c',e'⟩:=gY hp
 rw [e] at e'
 have q:=jl l [] (λ_ z=>nomatch z) _ (PySem.mem_of_lookup e')
 rw [hc] at q
 rw [e']
 exact q.symm
theorem bE{env:Env}{l:List (Str×NameKind)}{y:Str}{c:Addr}(h:(cV env l []).lookup y=some c):env.cells.lookup y=some c :=
 jl l [] (λ_ z=>nomatch z) _ (PySem.mem_of_lookup h)
theorem fH{env:Env}:∀{names:List (Str×NameKind)} {x:Str} {k:NameKind},(names.map λ(n,k)=>if (k==NameKind.free&&env.scope.kind==.function&&env.kindOf n==some .cell) then (n,NameKind.cell) else (n,k)).lookup x=some k ->
  ∃k',names.lookup x=some k'/\(k'=k\/k'=.free)
 | [],_,_,h=>by simp at h
 | (n,k0)::r,x,k,h=>by
  have ih:=@fH env r x k
  have h:List.lookup x ((if (k0==NameKind.free&&env.scope.kind==.function&&env.kindOf n==some .cell)=true then (n,NameKind.cell) else (n,k0))::_)=some k:=h
  cases hx:x==n with
  | true =>
   refine ⟨k0,by simp only [List.lookup_cons,hx],?_⟩
   by_cases hc:(k0==NameKind.free&&env.scope.kind==.function&&env.kindOf n==some .cell)=true
   ·refine .inr ?_
    simp only [Bool.and_eq_true] at hc
    exact beq_iff_eq.mp hc.1.1
   ·rw [if_neg hc] at h
    simp only [List.lookup_cons,hx] at h
    exact .inl (Δ h)
  | false =>
   have h2:List.lookup x (r.map λ(n,k)=>if (k==NameKind.free&&env.scope.kind==.function&&env.kindOf n==some .cell) then (n,NameKind.cell) else (n,k))=some k:=by
    by_cases hc:(k0==NameKind.free&&env.scope.kind==.function&&env.kindOf n==some .cell)=true
    ·rw [if_pos hc] at h;simp only [List.lookup_cons,hx] at h;exact h
    ·rw [if_neg hc] at h;simp only [List.lookup_cons,hx] at h;exact h
   obtain ⟨k',e1,e2⟩:=ih h2
   exact ⟨k',by simp only [List.lookup_cons,hx];exact e1,e2⟩
theorem gh{env:Env}:∀{names:List (Str×NameKind)} {x:Str},names.lookup x=some .free ->
  (names.map λ(n,k)=>if (k==NameKind.free&&env.scope.kind==.function&&env.kindOf n==some .cell) then (n,NameKind.cell) else (n,k)).lookup x=some .cell \/
  (names.map λ(n,k)=>if (k==NameKind.free&&env.scope.kind==.function&&env.kindOf n==some .cell) then (n,NameKind.cell) else (n,k)).lookup x=some .free
 | [],_,h=>by simp at h
 | (n,k0)::r,x,h=>by
  have ih:=@gh env r x
  show List.lookup x ((if (k0==NameKind.free&&env.scope.kind==.function&&env.kindOf n==some .cell)=true then (n,NameKind.cell) else (n,k0))::_)=some .cell\/List.lookup x ((if (k0==NameKind.free&&env.scope.kind==.function&&env.kindOf n==some .cell)=true then (n,NameKind.cell) else (n,k0))::_)=some .free
  cases hx:x==n with
  | true =>
   simp only [List.lookup_cons,hx] at h
   by_cases hc:(k0==NameKind.free&&env.scope.kind==.function&&env.kindOf n==some .cell)=true
   ·rw [if_pos hc];simp only [List.lookup_cons,hx];simp
   ·rw [if_neg hc];simp only [List.lookup_cons,hx];exact .inr (by rw [Option.some.inj h])
  | false =>
   simp only [List.lookup_cons,hx] at h
   by_cases hc:(k0==NameKind.free&&env.scope.kind==.function&&env.kindOf n==some .cell)=true
   ·rw [if_pos hc];simp only [List.lookup_cons,hx];exact ih h
   ·rw [if_neg hc];simp only [List.lookup_cons,hx];exact ih h
def Its(z:Str):It:=⟨λi _=>i<z.length,λi H x H'=>H'=H/\∃c,z.cps.toList[i]?=some c/\x=.str ⟨#[c]⟩,λi _=>z.length<=i⟩
structure StrIt(P:Program)(w:World)(it:Addr)(ty:String)(z:Str)(t:Tok):Prop where
 W:∀A':Around,A'.handled=none->Walks P w A' it [it] [it] z.cps.size (SignAt z) (λi h=>h.IsStrIter it ty z t i)
 en:∀(A:Around) (i:Nat) (s:Shared) (Q:Option Value->Shared->Prop) (E:Value->Shared->Prop),A.handled=none->s.heap.IsStrIter it ty z t i->z.cps[i]?=none ->
  (∀h',Heap.ExtBut it s.heap h'->Q none {s with heap:=h'})->wpAny (model P w) A (pyNext (.ref it)) Q E s
 me:∀(A:Around) (i:Nat) (s:Shared) (Q:Value->Shared->Prop) (E:Value->Shared->Prop),s.heap.IsStrIter it ty z t i->Q (.ref it) s->wpAny (model P w) A (pyIter (.ref it)) Q E s
 ne:["enumerate","zip","dict_itemiterator","dict_reverseitemiterator","odict_iterator","itertools.zip_longest","itertools.pairwise"].contains ty=false
theorem StrIt.ascii{P:Program}{w:World}(it:Addr)(z:Str)(t:Tok):StrIt P w it "str_ascii_iterator" z t :=
 ⟨λ_ hA=>Walks.strAscii hA it z t,λ_ _ _ _ _ hA st hx hQ=>wpAny_pyNext_ascii_end hA st hx hQ,λ_ _ _ _ _ st h=>wpAny_pyIter_striter_ascii st h,ζ⟩
theorem StrIt.wide{P:Program}{w:World}(it:Addr)(z:Str)(t:Tok):StrIt P w it "str_iterator" z t :=
 ⟨λ_ hA=>Walks.strWide hA it z t,λ_ _ _ _ _ hA st hx hQ=>wpAny_pyNext_wide_end hA st hx hQ,λ_ _ _ _ _ st h=>wpAny_pyIter_striter_wide st h,ζ⟩
theorem t7{P:Program}{w:World}{K:Frag}{tg:Expr}{z:Str}{t:Tok}{it:Addr}{ty:String}(S:StrIt P w it ty z t) :
  qL P w K tg (Its z) [it] it (λi h=>h.IsStrIter it ty z t i) where
 mem:=by simp
 obj:=λi h st b hb=>by
  have e:b=it:=by simpa using hb
  subst e
  obtain ⟨o,e,c,d⟩:=st
  exact ⟨o,e,λv q=>by rw [d] at q;cases q⟩
 keep:=λi h h' st k=>by
  obtain ⟨o,e,r⟩:=st
  exact ⟨o,k it (by simp) o e,r⟩
 item:=by
  intro X hP hw hK hc i pins s σ H E I hf st hg
  subst hP hw hK
  obtain ⟨f0,f1,f2,f3,f4,f5⟩:=hf it (by simp)
  refine (S.W X.A (I.ok.hd hc)).item i s _ _ hg st λv h' tk hv st' kk=>?_
  obtain ⟨c,u,hc',rfl⟩:=hv
  have I1:Inv X pins σ H {s with heap:=h',toks:=tk}:=I.turned (λb o hb e=>kk b o (by simpa using hb) e) f0 f1 f3 f4 f5
  obtain ⟨o,e,c1,d1⟩:=id st'
  exact ⟨_,rfl,mj (s:={s with heap:=h',toks:=tk}) e c1 d1 S.ne ⟨.str ⟨#[c]⟩,H,I1,⟨u,rfl⟩,⟨rfl,c,by rw [Array.getElem?_toList];exact hc',rfl⟩,st',λb hb=>(hf b hb).1⟩⟩
 done:=by
  intro X hP hw hK hc i pins s σ H E I hf st hg
  subst hP hw hK
  obtain ⟨f0,f1,f2,f3,f4,f5⟩:=hf it (by simp)
  refine S.en X.A i s _ _ (I.ok.hd hc) st ?_ λh' eb=>⟨rfl,I.turned (t':=s.toks) (λb o hb e=>eb b o hb e) f0 f1 f3 f4 f5⟩
  exact Array.getElem?_eq_none hg
 self:=λA i s Q E st h=>S.me A i s Q E st h
def Bu(tl:TE):TI:=fun σ H R=>tl σ H λx H1=>∃z,x=.str z/\R (Its z) H1
theorem zn{X:Cx}{tg l:Expr}{tl:TE}(hl:PE X l tl):PI X tg l (Bu tl):=by
 intro pins s σ H R I h
 refine thn (hl pins s σ H _ I h) λv s1 ⟨x,H1,I1,r1,q1⟩=>?_
 obtain ⟨z,rfl,q⟩:=q1
 obtain ⟨t,rfl⟩:=r1
 have fin:∀(o:Obj) (ty:String),StrIt X.prog X.w s1.heap.objs.size ty z t->(s1.heap.push o).IsStrIter s1.heap.objs.size ty z t 0->PIE X pins σ tg R (.ref s1.heap.objs.size) {s1 with heap:=s1.heap.push o}:=λo ty S st=>by
  refine ⟨s1.heap.objs.size,[s1.heap.objs.size],_,Its z,H1,rfl,I1.kept (t':=s1.toks) λb o e=>ρ _ e,t7 S,st,λb hb=>?_,q⟩
  have e:b=s1.heap.objs.size:=by simpa using hb
  subst e
  exact I1.fpOk (ι _) (I1.hok.fresh (ι _))
 cases ha:z.cps.all (·<128)
 ·exact wpAny_pyIter_wide ha (fin _ _ (.wide _ z t) ⟨_,ψ _ rfl,rfl,rfl⟩)
 ·exact wpAny_pyIter_ascii ha (fin _ _ (.ascii _ z t) ⟨_,ψ _ rfl,rfl,rfl⟩)
def Cx.blk(X:Cx)(N':List Str)(scope:Scope)(C:Addr)(fp:List Addr)(s:Shared)(H:Hp):Cx :=
 {X with N:=N',s₀:=s,H₀:=H,env:=compEnvC scope (cV X.env scope.names []) C X.env,outer:=X.stack,ex:=fp,fn:=λ_=>false,pn:=[],xe:=λ_ _=>False}
structure bF(N:List Str)(sc scope:Scope)(x:Str)(N':List Str)(fv:List Nat):Prop where
 nocell:∀y∈scope.names,y.2≠.cell
 kind:scope.kind=.function
 names:∀y∈scope.names,y.2=.local->scope.names.lookup y.1=some .local
 loc:scope.names.lookup x=some .local
 free:∀y∈scope.names,y.2=.free->sc.names.lookup y.1=some .cell\/sc.names.lookup y.1=some .free
 nd:N'.Nodup
 hd:N'[0]?=some x
 len:N'.length=fv.length+1
 at_:∀j,j<fv.length->(N'[j+1]?).isSome=true/\N'[j+1]?=(fv[j]?).bind (λi=>N[i]?)/\(N'[j+1]?).bind (λy=>scope.names.lookup y)=some .free
def aX(fv:List Nat)(σ:St):St:=fv.map λk=>(σ[k]?).join
abbrev mz(ifs:List Expr)(env:Env):Sem Bool:=forIn ifs true λc r=>if r=true then do let ok ← isTrue c env (eval c env);pure (ForInStep.yield ok) else pure (ForInStep.yield r)
def PTs(X:Cx)(ifs:List Expr)(t:TT):Prop :=
 ∀(pins:List (Addr×Obj)) (s:Shared) (σ:St) (H:Hp) (Q:Bool->Hp->Prop),Inv X pins σ H s->t σ H Q->wpAny (model X.prog X.w) X.A (mz ifs X.env) (TP X pins σ Q) X.xe s
def AE:TT:=λ_ H Q=>Q true H
theorem eg{X:Cx}:PTs X [] AE:=λpins s σ H Q I h=>π ⟨H,I,h⟩
theorem rC{X:Cx}{c:Expr}{t:TT}(hc:PT X c t):PTs X [c] t:=by
 intro pins s σ H Q I h
 have e:mz [c] X.env=(isTrue c X.env (eval c X.env) >>= λok=>pure ok):=by
  unfold mz
  rw [List.forIn_cons]
  simp
 rw [e]
 exact ε (thn (hc pins s σ H Q I h) λb s1 q=>π q)
def tLC(wi:TI)(fv:List Nat)(tt:TT)(te:TE):TE:=fun σ H Q=>wi σ H λJ H1=>∃(W:Nat->List V->Hp->Prop) (n:Nat),W 0 [] H1/\n<=sizeLine/\∀i ys H,W i ys H ->
 (J.stop i H/\∀p,H p=none->Q (.ref p) (upd H p (.lst ys))) \/
 (J.go i H/\i<n/\∀x H',J.yld i H x H'->tt (some x::aX fv σ) H' λc H2=>if c=true then te (some x::aX fv σ) H2 λy H3=>W (i+1) (ys++[y]) H3 else W (i+1) ys H2)
section
variable {X:Cx}{N':List Str}{scope:Scope}{x:Str}{fv:List Nat}
theorem rW{pins:List (Addr×Obj)}{σ:St}{H:Hp}{s:Shared}{fp:List Addr}{C:Addr}{h1:Heap}{m:Str->Option Value}{tk:Nat}{pl:List (Addr×Obj)}(S:bF X.N X.env.scope scope x N' fv)(I:Inv X pins σ H s)
  (hf:∀b∈fp,om X pins H b)(hfo:∀b∈fp,b<s.heap.objs.size)(hC:s.heap.objs.size<=C)(kp:∀b o,s.heap.get? b=some o->h1.get? b=some o)(hn:h1.Ns C m)
  (hpl:∀p∈pl,h1.get? p.1=some p.2/\s.heap.objs.size<=p.1/\p.1≠C/\∀v,p.2.data≠.cell v) :
  Inv (X.blk N' scope C fp s H) pl (none::aX fv σ) H {s with heap:=h1,toks:=tk}:=by
 have clo:∀y c,(cV X.env scope.names []).lookup y=some c->X.env.cells.lookup y=some c:=λy c e=>bE e
 have cell:∀y c,(cV X.env scope.names []).lookup y=some c->∃v,s.heap.IsCell c v:=λy c e=>I.cell y c (clo y c e)
 have lt:∀y c,(cV X.env scope.names []).lookup y=some c->c<s.heap.objs.size:=λy c e=>by obtain ⟨v,q⟩:=cell y c e;exact q.lt
 have kc:∀c v,s.heap.IsCell c v->h1.IsCell c v:=λc v q=>by obtain ⟨o,e,d⟩:=q;exact ⟨o,kp _ _ e,d⟩
 refine ⟨⟨I.ok.mod,S.kind,I.ok.glob,I.ok.blt,hC,λy z c e1 e2=>I.ok.inj y z c (clo y c e1) (clo z c e2),λy hy=>?_,λy c e=>?_,I.ok.hd,I.ok.frames,.inl rfl,λb hb=>⟨?_,λy c e z=>(hf b hb).2.2.2.2.1 y c (clo y c e) z⟩,λb o e=>I.bs b o e,Λ I.ok.bsz I.sz,λb o e hb=>?_,λb hb hb2=>?_,I.stack,I.stkFree⟩,
  rfl,I.bare,Un.kept kp,⟨m,hn,λi y v h1' h2 h3=>?_⟩,λy c e=>?_,I.hok.fresh hC,λy c e=>I.freeC y c (clo y c e),λp hp=>?_,I.hok.kept kp,?_⟩
 ·have hy':∃k,scope.names.lookup y=some k/\k=.free:=by
   rcases hy with hy | hy
   ·obtain ⟨k',e1,e2⟩:=fH (env:=X.env) (names:=scope.names) (x:=y) (k:=.cell) hy
    rcases e2 with e2 | e2
    ·exact absurd e2 (S.nocell _ (PySem.mem_of_lookup e1))
    ·exact ⟨k',e1,e2⟩
   ·obtain ⟨k',e1,e2⟩:=fH (env:=X.env) (names:=scope.names) (x:=y) (k:=.free) hy
    rcases e2 with e2 | e2
    ·exact ⟨k',e1,e2⟩
    ·exact ⟨k',e1,e2⟩
  obtain ⟨k,e,rfl⟩:=hy'
  have hm:=PySem.mem_of_lookup e
  obtain ⟨c,hc⟩:=I.ok.has y (S.free _ hm rfl)
  exact ⟨c,iK hm hc⟩
 ·exact (Bool.false_ne_true (show false=true from e)).elim
 ·exact Φ (Nat.lt_of_lt_of_le (hfo b hb) hC)
 ·have e':=e
  rcases (hf b hb).2.2.2.1 with z | z
  ·exact I.ok.noex b o e z
  ·exact absurd (Nat.lt_of_lt_of_le (η e) (Λ I.ok.bsz z)) (Nat.lt_irrefl _)
 ·have q:=I.stkSub b hb2
  rcases List.mem_cons.mp q with z | z
  ·exact (hf b hb).2.1 z
  ·exact (hf b hb).2.2.1 z
 ·cases i with
  | zero =>
   have z:(none:Option V)=some v:=Δ h2
   cases z
  | succ j =>
   have h2':(aX fv σ)[j]?=some (some v):=h2
   unfold aX at h2'
   rw [List.getElem?_map] at h2'
   cases ej:fv[j]? with
   | none=>rw [ej] at h2';cases h2'
   | some k =>
    rw [ej] at h2'
    have h4:(σ[k]?).join=some v:=Δ h2'
    have h5:σ[k]?=some (some v):=by
     cases es:σ[k]? with
     | none=>rw [es] at h4;cases h4
     | some w'=>rw [es] at h4;rw [show w'=some v from h4]
    have hj:j<fv.length:=(List.getElem?_eq_some_iff.mp ej).1
    obtain ⟨_,a1,a2⟩:=S.at_ j hj
    have h1'':N'[j+1]?=some y:=h1'
    rw [h1''] at a1 a2
    rw [ej] at a1
    have a3:X.N[k]?=some y:=a1.symm
    have a4:scope.names.lookup y=some .free:=a2
    have hm:=PySem.mem_of_lookup a4
    have kd:X.env.kindOf y=some .cell\/X.env.kindOf y=some .free:=S.free _ hm rfl
    obtain ⟨mX,_,hlX⟩:=I.loc
    obtain ⟨u,ru,lk⟩:=hlX k y v a3 h5 (kd.elim (λz=>.inr (.inl z)) λz=>.inr (.inr z))
    refine ⟨u,ru,.inr ?_⟩
    rcases lk with ⟨z,_⟩ | ⟨_,c,hc,hcell⟩
    ·rcases kd with z' | z'<;>rw [z'] at z<;>cases z
    ·exact ⟨gh (env:=X.env) a4,c,iK hm hc,kc _ _ hcell⟩
 ·obtain ⟨v,q⟩:=cell y c e
  exact ⟨v,kc _ _ q⟩
 ·have hp':p∈pl:=hp
  obtain ⟨e,l1,l2,d⟩:=hpl p hp'
  exact ⟨e,I.hok.fresh l1,l2,λz=>absurd (I.stkSub _ z) (λq=>by
   rcases List.mem_cons.mp q with q | q
   ·exact absurd I.lt (by rw [← q];exact Nat.not_lt.mpr l1)
   ·exact I.nofs l1 q),d⟩
 ·show (none::aX fv σ).length=N'.length
  rw [S.len]
  unfold aX
  simp
end
end L2
namespace L2
open PySem PySem.Spec PyProof.Rows
theorem nox{α:Type}{t:Sem α}{Q Q':α->Shared->Prop}{M:Model}{A:Around}{E:Value->Shared->Prop}{s:Shared}(h:wpAny M A t Q (λ_ _=>False) s)(hQ:∀a s,Q a s->Q' a s):wpAny M A t Q' E s:=wpAny_mono h hQ λ_ _ f=>f.elim
set_option maxHeartbeats 1600000 in
theorem iq{X:Cx}{elt iter:Expr}{x:Str}{px:Pos}{ifs:List Expr}{scope:Scope}{pos:Pos}{N':List Str}{fv:List Nat}{wi:TI}{tt:TT}{te:TE}
  (S:bF X.N X.env.scope scope x N' fv)(hc:X.calm=true)(hi:PI X (.Name x px) iter wi)
  (ht:∀C fp s H,PTs (X.blk N' scope C fp s H) ifs tt)(he:∀C fp s H,PE (X.blk N' scope C fp s H) elt te)
  (hs:∀x,foldedSetIterable iter X.env x=pure x:=by intro _;rfl) :
  PE X (.ListComp elt [⟨.Name x px,iter,ifs,0⟩] scope pos) (tLC wi fv tt te):=by
 intro pins s σ H Q I h
 rw [eval_ListComp]
 refine wpAny_comprehension_free (use:=none) rfl hs (gj λy hy hk=>I.ok.has y.1 (S.free y hy hk)) S.kind S.names
  (wpAny_mono (hi pins s σ H _ I h) (λxv s1 h1=>wpAny_mono h1 (λitv s2 h2=>?_) λ_ _ e=>e) λ_ _ e=>e)
 obtain ⟨it,fp,tn,J,H2,rfl,I2,T,st2,f2,W,n,w0,hn,turn⟩:=h2
 refine wpAny_newObj_type (wpAny_newFunctionEnv S.nocell (by intro y hy;simp at hy) (λh1 hns hsb=>?_) S.kind)
 dsimp only at hns hsb ⊢
 generalize hH:s2.heap.push {cls:=.type "list",dict:=none,data:=.seq ([]:List Value).toArray}=G at hns hsb ⊢
 have hG:G.objs.size=s2.heap.objs.size+1:=by rw [← hH,Heap.size_push]
 have kpG:∀b o,s2.heap.get? b=some o->G.get? b=some o:=λb o e=>hH▸ρ _ e
 have kp1:∀b o,b<G.objs.size->G.get? b=some o->h1.get? b=some o:=λb o lt e=>hsb.extBut b o (Φ lt) (ρ _ e)
 have kp:∀b o,s2.heap.get? b=some o->h1.get? b=some o:=λb o e=>kp1 b o (by rw [hG];exact Nat.lt_succ_of_lt (η e)) (kpG b o e)
 have hD:h1.PlainList s2.heap.objs.size #[]:=⟨_,kp1 _ _ (by rw [hG];exact Nat.lt_succ_self _) (hH▸ψ _ rfl)⟩
 have hDC:s2.heap.objs.size≠G.objs.size:=by rw [hG];exact Φ (Nat.lt_succ_self _)
 have hC:s2.heap.objs.size<=G.objs.size:=by rw [hG];exact Nat.le_succ _
 have hfo:∀b∈fp,b<s2.heap.objs.size:=λb hb=>by obtain ⟨o,e,_⟩:=T.obj 0 _ st2 b hb;exact η e
 have stat:∀{H':Hp} {pl:List (Addr×Obj)},(∀b∈fp,H' b=none)->(∀p∈pl,p.1∉fp)->∀b∈fp,om (X.blk N' scope G.objs.size fp s2 H2) pl H' b:=λ{H' pl} hn hpl b hb=>by
  obtain ⟨_,g1,g2,g3,g4,g5⟩:=f2 b hb
  refine ⟨hn b hb,Φ (Nat.lt_of_lt_of_le (hfo b hb) hC),λz=>?_,.inl hb,λy c e=>g4 y c (bE e),λp hp e=>?_⟩
  ·rcases List.mem_cons.mp (I2.stkSub b z) with q | q
   ·exact g1 q
   ·exact g2 q
  ·exact hpl p hp (e▸hb)
 have hDf:s2.heap.objs.size∉fp:=λz=>absurd (hfo _ z) (Nat.lt_irrefl _)
 have hlc:(X.blk N' scope G.objs.size fp s2 H2).env.scope.names.lookup x=some .local:=lookup_relabel_local S.loc
 have hcl:∀y c,(X.blk N' scope G.objs.size fp s2 H2).env.cells.lookup y=some c->c≠s2.heap.objs.size:=λy c e z=>by
  obtain ⟨v,q⟩:=I2.cell y c (bE e)
  exact absurd q.lt (by rw [z];exact Nat.lt_irrefl _)
 have pin1:∀{s':Shared} {H':Hp} {ob:Obj} {i:Nat} {ys:List V},Inv (X.blk N' scope G.objs.size fp s2 H2) [] (none::aX fv σ) H' s'->s'.heap.get? s2.heap.objs.size=some ob->(∀v,ob.data≠.cell v)->H' s2.heap.objs.size=none ->
   Inv (X.blk N' scope G.objs.size fp s2 H2) [(s2.heap.objs.size,ob)] (none::aX fv σ) H' s':=λ{s' H' ob i ys} J1 e d f=>J1.pins_of λp hp=>by
  have z:p=(s2.heap.objs.size,ob):=by simpa using hp
  subst z
  refine ⟨e,f,hDC,λz=>?_,d⟩
  rcases List.mem_cons.mp (I2.stkSub _ z) with q | q
  ·exact absurd I2.lt (by rw [← q];exact Nat.lt_irrefl _)
  ·exact I2.nofs (ι _) q
 have loop:∀s3:Shared,s3={s2 with heap:=h1,toks:=s2.toks+([]:List (Str×Value)).length} ->
   codeAny (model X.prog X.w) X.A (.compLoop (.ListComp elt [⟨.Name x px,iter,ifs,0⟩] scope pos) 0 (.ref it) (.ref s2.heap.objs.size) (X.blk N' scope G.objs.size fp s2 H2).env)
    (compPost (model X.prog X.w) X.A X.xe none (EP X pins σ Q) (.ref s2.heap.objs.size) G.objs.size) s3:=by
  rintro s3 rfl
  refine codeAny_compLoop_tests (λk s'=>∃i ys H' its,k=n+1-i/\i<=n/\ys.length<=i/\Vals ys its/\s'.heap.PlainList s2.heap.objs.size its.toArray /\
   Inv (X.blk N' scope G.objs.size fp s2 H2) [] (none::aX fv σ) H' s'/\H' s2.heap.objs.size=none/\tn i s'.heap/\(∀b∈fp,H' b=none)/\W i ys H') ?_ (n+1)
   ⟨0,[],H2,[],rfl,Nat.zero_le _,ι _,.nil,hD,rW S I2 f2 hfo hC kp hns (λp hp=>nomatch hp),I2.hok.fresh (ι _),T.keep _ _ _ st2 λb _ o e=>kp b o e,λb hb=>(f2 b hb).1,w0⟩
  rintro k s4 ⟨i,ys,H4,its,rfl,hin,hyi,rv,pl4,I4,fD4,st4,ff4,w4⟩
  obtain ⟨cnt,eD⟩:=id pl4
  have I4p:=pin1 (i:=i) (ys:=ys) I4 eD (λv z=>by cases z) fD4
  have np:∀p∈[(s2.heap.objs.size,({cls:=.type "list",data:=.seq its.toArray cnt}:Obj))],p.1∉fp:=λp hp=>by
   have z:p=(s2.heap.objs.size,({cls:=.type "list",data:=.seq its.toArray cnt}:Obj)):=by simpa using hp
   subst z;exact hDf
  rcases turn i ys H4 w4 with ⟨stop,fin⟩ | ⟨go,hi2,step⟩
  ·refine wpAny_mono (T.done (X.blk N' scope G.objs.size fp s2 H2) rfl rfl rfl hc i _ s4 _ H4 _ I4p (stat ff4 np) st4 stop) (λr s5 ⟨hr,I5⟩=>?_) λ_ _ e=>e
   subst hr
   obtain ⟨m5,hm5,_⟩:=I5.loc
   have eD5:s5.heap.get? s2.heap.objs.size=some {cls:=.type "list",data:=.seq its.toArray cnt}:=(I5.pin _ (Ψ _ Ω)).1
   refine ⟨m5,hm5,λh' sb=>⟨.ref s2.heap.objs.size,upd H4 s2.heap.objs.size (.lst ys),?_,rfl,fin _ fD4⟩⟩
   have ltC:∀{b:Addr} {o:Obj},s2.heap.get? b=some o->b≠G.objs.size:=λ{b o} e=>Φ (Nat.lt_of_lt_of_le (η e) hC)
   have fD2:H2 s2.heap.objs.size=none:=I2.hok.fresh (ι _)
   have ltD:∀{b:Addr} {o:Obj},s2.heap.get? b=some o->b≠s2.heap.objs.size:=λ{b o} e=>Φ (η e)
   have B:=I5.base
   refine I2.call' (s':={s5 with heap:=h'}) (ch:=fp) I5.os ⟨λb o e nb hb hx=>?_,λb o e nb hb hx=>?_,λb o e nb hx=>?_,λb o e hx=>?_,λb xs e=>?_,λb o u e=>?_,λb ps e=>?_⟩ ?_ I5.bare λb hb=>?_
   ·exact sb.extBut b o (ltC e) (B.keep b o e nb hb hx)
   ·obtain ⟨sl,q⟩:=B.slot b o e nb hb hx
    exact ⟨sl,sb.extBut b _ (ltC e) q⟩
   ·rw [am (ltD e)];exact B.free b o e nb hx
   ·obtain ⟨o',q⟩:=B.there b o e hx
    exact ⟨o',sb.extBut b o' (ltC e) q⟩
   ·have e':H2 b=some (.tup xs):=e
    rw [am (ae e' fD2)];exact B.tups b xs e
   ·have e':H2 b=some (.frz o u):=e
    rw [am (ae e' fD2)];exact B.frzs b o u e
   ·have e':H2 b=some (.tbl ps):=e
    rw [am (ae e' fD2)];exact B.tbls b ps e
   ·intro b u e
    by_cases hb:b=s2.heap.objs.size
    ·subst hb
     rw [ad] at e
     cases e
     exact ⟨Λ hyi (Λ hin hn),its,cnt,rv,sb.extBut _ _ hDC eD5⟩
    ·rw [am hb] at e
     have fC:H4 G.objs.size=none:=I5.free
     refine (I5.hok b u e).stay (λc v hc' q=>sb.extBut c v ?_ q) (λc q=>by rw [am (ae q fD4)];exact q) λc xs q=>by rw [am (ae q fD4)];exact q
     rcases hc' with z | z
     ·subst z;exact ae e fC
     ·exact ae z fC
   ·obtain ⟨_,g1,g2,g3,g4,g5⟩:=f2 b hb
    exact ⟨g3,g1,g4,g5⟩
  ·refine wpAny_mono (T.item (X.blk N' scope G.objs.size fp s2 H2) rfl rfl rfl hc i _ s4 _ H4 _ I4p (stat ff4 np) st4 go) (λr s5 ⟨u,hr,h5⟩=>?_) λ_ _ e=>e
   subst hr
   show wpAny _ _ (letOwnedTupleGo (.Name x px) (.ref it) u >>= λ_=>assign (.Name x px) (X.blk N' scope G.objs.size fp s2 H2).env u) _ _ s5
   refine ε (wpAny_mono h5 (λ_ s6 ⟨xv,H6,I6,r6,y6,st6,ff6⟩=>?_) λ_ _ e=>e)
   have I6':=I6.pinned (stat ff6 np) (T.obj _ _ st6)
   have out:∀{σ':St} {H':Hp} {s':Shared},Inv (X.blk N' scope G.objs.size fp s2 H2) ([(s2.heap.objs.size,({cls:=.type "list",data:=.seq its.toArray cnt}:Obj))]++jc fp s6.heap) σ' H' s' ->
     s'.heap.PlainList s2.heap.objs.size its.toArray/\H' s2.heap.objs.size=none/\(∀b∈fp,H' b=none)/\(∀b∈fp,∀o,s6.heap.get? b=some o->s'.heap.get? b=some o):=λ{σ' H' s'} J1=>by
    have q:=J1.pin (s2.heap.objs.size,({cls:=.type "list",data:=.seq its.toArray cnt}:Obj)) (Ψ _ (List.mem_append_left _ Ω))
    refine ⟨⟨cnt,q.1⟩,q.2.1,λb hb=>?_,λb hb o e=>(J1.pin (b,o) (Ψ _ (Ψ _ (cD hb e)))).1⟩
    obtain ⟨o,e,d⟩:=T.obj _ _ st6 b hb
    exact (J1.pin (b,o) (Ψ _ (Ψ _ (cD hb e)))).2.1
   refine nox ((fK (X:=X.blk N' scope G.objs.size fp s2 H2) (i:=0) S.nd S.hd (.inl hlc) (.inr hlc)) _ s6 _ H6 xv u (fun σ' H'=>σ'=some xv::aX fv σ/\H'=H6) I6' r6 ⟨rfl,rfl⟩) λ_ s7 ⟨σ7,H7,I7,e7,e7'⟩=>?_
   subst e7 e7'
   refine nox (ht _ _ _ _ _ s7 _ H7 _ I7 (step xv H7 y6)) λok s8 ⟨H8,I8,q8⟩=>?_
   cases ok with
   | false =>
    obtain ⟨o1,o2,o3,o4⟩:=out I8
    exact ⟨n+1-(i+1),ω,i+1,ys,H8,its,rfl,hi2,υ hyi,rv,o1,(I8.pins_of (pins':=[]) λp hp=>nomatch hp).weak (σ':=none::aX fv σ) rfl (λj v e=>by
     cases j with
     | zero=>cases (show (none:Option V)=some v from Δ e)
     | succ j=>exact e),o2,T.keep _ _ _ st6 o4,o3,q8⟩
   | true =>
    refine nox (he _ _ _ _ _ s8 _ H8 _ I8 q8) λyv s9 ⟨y,H9,I9,r9,q9⟩=>?_
    obtain ⟨o1,o2,o3,o4⟩:=out I9
    have hlen:=rv.length
    refine wpAny_list_append_plain (hsz:=by rw [List.size_toArray,← hlen];exact Λ hyi (Λ hin hn)) o1 λh' pl' sb'=>?_
    have I9':Inv (X.blk N' scope G.objs.size fp s2 H2) [] (some xv::aX fv σ) H9 {s9 with heap:=h'} :=
     (I9.pins_of (pins':=[]) λp hp=>nomatch hp).turned (t':=s9.toks) (it:=s2.heap.objs.size) (λb o hb e=>sb'.extBut b o hb e) o2 hDC (.inr (ι _)) hcl (λp hp=>nomatch hp)
    refine ⟨n+1-(i+1),ω,i+1,ys++[y],H9,its++[yv],rfl,hi2,by rw [List.length_append];exact Nat.succ_le_succ hyi,rv.append (.cons r9 .nil),?_,I9'.weak (σ':=none::aX fv σ) rfl (λj v e=>by
     cases j with
     | zero=>cases (show (none:Option V)=some v from Δ e)
     | succ j=>exact e),o2,T.keep _ _ _ st6 λb hb o e=>sb'.extBut b o (λz=>hDf (z▸hb)) (o4 b hb o e),o3,q9⟩
    have e9:(its++[yv]).toArray=its.toArray.push yv:=by simp
    rw [e9]
    exact pl'
 exact codeAny_compStart_list (loop _ rfl) (T.self _ 0 _ _ _ (T.keep _ _ _ st2 λb _ o e=>kp b o e) (loop _ rfl))
end L2
namespace L2
open PySem PySem.Spec PyProof.Rows
end L2
namespace L2
open PySem PySem.Spec PyProof.Rows
end L2
namespace L2
open PySem PySem.Spec PyProof.Rows
open Builtin Builtin.Str
theorem l9(c:Nat):∀ys:List Str,ys.length<=(Str.join ⟨#[c]⟩ ys).length+1
 | []=>Nat.zero_le _
 | [y]=>by simp
 | y::u::ys=>by
  have ih:=l9 c (u::ys)
  rw [join_cons_cons]
  have e:(y++(⟨#[c]⟩:Str)++Str.join ⟨#[c]⟩ (u::ys)).length=y.length+1+(Str.join ⟨#[c]⟩ (u::ys)).length:=by
   show ((y.cps++#[c])++(Str.join ⟨#[c]⟩ (u::ys)).cps).size=_
   rw [Array.size_append,Array.size_append]
   rfl
  rw [e,List.length_cons]
  omega
theorem lN:∀(l:List (Str×Tok)),Vals ((l.map (·.1)).map V.str) (strValues l)
 | []=>.nil
 | p::l=>.cons ⟨p.2,rfl⟩ (lN l)
section
variable {X:Cx}
theorem g9(hc:X.calm=true):dX X (.builtin "sum") (λxs H Q=>∃(p:Addr) (ns:List Int),xs=[.ref p]/\SqL X.K H p (ns.map V.int)/\Q (.int ns.sum) H):=by
 intro pins s σ H xs us Q I r h
 obtain ⟨p,ns,rfl,hq,q⟩:=h
 obtain ⟨u,rfl,rx⟩:=dF r
 cases (show u=Value.ref p from rx)
 obtain ⟨its,rv,pl,hz⟩:=I.list hq
 have ia:IntsAre its ns:=qB rv
 obtain ⟨zs,ez⟩:=ia.allInts.items
 have hl:s.heap.IsList p (intItems zs):=ez▸pl.isList
 refine sum_intListG (I.ok.hd hc) hl λh' tk t' hk=>⟨.int ns.sum,H,I.kept hk,⟨t',?_⟩,q⟩
 have en:ns=zs.toList.map (·.1):=(show numsOf its.toArray.toList=ns from ia.numsOf).symm.trans (by rw [ez,nums_intItems])
 rw [preSum_eq,List.take_of_length_le (by simp),en]
theorem l7:MtR X "str.split" (λx vs H Q=>∃(z:Str) (c:Nat),x=.str z/\vs=[.str ⟨#[c]⟩]/\z.length<=1000000/\∀p,H p=none->Q (.ref p) (upd H p (.lst ((Txt.split z ⟨#[c]⟩).map V.str)))):=by
 intro pins s σ H x xs v us Q I rx r h
 obtain ⟨z,c,rfl,rfl,hz,q⟩:=h
 obtain ⟨t,rfl⟩:=rx
 obtain ⟨u,rfl,⟨t1,rfl⟩⟩:=dF r
 have hs:(1000002:Nat)<=sizeLine:=by decide
 have many:(Txt.split z ⟨#[c]⟩).length<=sizeLine:=by
  have:=l9 c (Txt.split z ⟨#[c]⟩)
  rw [StrLaws.join_split] at this
  omega
 have fin:∀(l:List (Str×Tok)) (k:Nat),l.map (·.1)=Txt.split z ⟨#[c]⟩->EP X pins σ Q (.ref s.heap.objs.size) {s with toks:=k,heap:=s.heap.push {cls:=.type "list",data:=.seq (strValues l).toArray}}:=λl k el =>
  ⟨.ref s.heap.objs.size,_,I.laid (t':=k) (o:=.lst ((Txt.split z ⟨#[c]⟩).map V.str)) (λb o e=>ρ _ e) (ι _)
   (show ObjOk X.prog X.w _ _ _ (.lst ((Txt.split z ⟨#[c]⟩).map V.str)) from ⟨by rw [List.length_map];exact many,strValues l,0,el▸lN l,ψ _ rfl⟩),rfl,q _ (I.hok.fresh (ι _))⟩
 have hy:((⟨#[c]⟩:Str).length==0)=false:=rfl
 cases h1:(decide (z.length<(⟨#[c]⟩:Str).length)||decide (strKind z<strKind ⟨#[c]⟩)) with
 | true =>
  have es:Txt.split z ⟨#[c]⟩=[z]:=by unfold Txt.split;rw [if_pos h1]
  exact call_meets F.slot_str_split (typeIs_str _ _ _) F.entry_str_split (F.args_str_split_2 _ _) (meets_str_split_cannot_occur z ⟨#[c]⟩ t t1 h1) (fin [(z,t)] s.toks es.symm)
 | false =>
  cases hf:(occurrences z ⟨#[c]⟩ 0 z.length (z.length+1)).isEmpty with
  | true =>
   have es:Txt.split z ⟨#[c]⟩=[z]:=by unfold Txt.split;rw [if_neg (by rw [h1];decide),if_pos hf]
   exact call_meets F.slot_str_split (typeIs_str _ _ _) F.entry_str_split (F.args_str_split_2 _ _) (meets_str_split_not_found z ⟨#[c]⟩ t t1 h1 hy hf) (fin [(z,t)] s.toks es.symm)
  | false =>
   have es:Txt.split z ⟨#[c]⟩=partsBetween z (occurrences z ⟨#[c]⟩ 0 z.length (z.length+1)) (⟨#[c]⟩:Str).length:=by unfold Txt.split;rw [if_neg (by rw [h1];decide),if_neg (by rw [hf];decide)]
   refine call_meets F.slot_str_split (typeIs_str _ _ _) F.entry_str_split (F.args_str_split_2 _ _) (meets_str_split_sep z ⟨#[c]⟩ t t1 h1 hy hf ω (by rw [← es];exact many)) ?_
   rw [strsFrom_eq]
   exact fin _ _ ((numbered_texts _ _).trans es.symm)
end
end L2
namespace L2
open PySem PySem.Spec PyProof.Rows
def Cov(l:List Env)(h0:Heap)(H:Hp)(B h:Heap):Prop:=∀b o,h.get? b=some o->b∉frs l->(H b≠none\/∃o0,h0.get? b=some o0)->B.get? b=some o
def Fly(l:List Env)(h0:Heap)(H:Hp)(ea C:Addr)(h:Heap):Prop:=∃B a0,Heap.FlyingW B l ea (.ref C) a0 h/\Cov l h0 H B h
theorem ObjOk.there{P:Program}{w:World}{H:Hp}{h:Heap}{a:Addr}{o:HO}(x:ObjOk P w H h a o):∃ob,h.get? a=some ob:=by
 cases o with
 | lst xs=>obtain ⟨_,_,_,_,e⟩:=x;exact ⟨_,e⟩
 | tup xs=>obtain ⟨_,_,_,o,e,_⟩:=x;exact ⟨_,e⟩
 | dK kvs=>obtain ⟨_,_,_,_,o,_,_,e,_⟩:=x;exact ⟨_,e⟩
 | dT kvs=>obtain ⟨_,_,_,_,o,_,_,e,_⟩:=x;exact ⟨_,e⟩
 | set S n=>obtain ⟨o,_,_,_,e,_⟩:=x;exact ⟨_,e⟩
 | ins C dx fs=>obtain ⟨_,_,_,e,_⟩:=x;exact ⟨_,e⟩
 | own y=>obtain ⟨_,e⟩:=x;exact ⟨_,e⟩
 | xd fs=>obtain ⟨_,⟨_,_,_,e,_⟩,_⟩:=x;exact ⟨_,e⟩
 | rng lo hi=>obtain ⟨_,_,_,e⟩:=x;exact ⟨_,e⟩
 | frz ob u=>obtain ⟨e,_⟩:=x;exact ⟨_,e⟩
 | tbl ps=>exact ⟨_,(show h.get? a=some _ from x)⟩
 | met f y=>exact ⟨_,(show h.get? a=some _ from x)⟩
 | ext φ=>obtain ⟨_,⟨_,e⟩,_⟩:=x;exact ⟨_,e⟩
section
variable {l:List Env}{H:Hp}{B h h' hc:Heap}{P:Program}{w:World}
theorem Cov.stay(c:Cov l hc H B h)(st:B.StaysIn h'):∀b o,h.get? b=some o->b∉frs l->(H b≠none\/∃o0,hc.get? b=some o0)->h'.get? b=some o:=λb o e nb hb=>st b o (c b o e nb hb)
theorem HOk.moved(x:HOk P w H h)(c:Cov l hc H B h)(st:B.StaysIn h')(fr:∀b∈frs l,H b=none):HOk P w H h':=λa o e=>by
 refine (x a o e).stay (λb u hb q=>?_) (λb q=>q) λb xs q=>q
 have tr:H b≠none:=by
  rcases hb with rfl | hb
  ·rw [e];intro z;cases z
  ·rw [hb];intro z;cases z
 exact c.stay st b u q (λz=>tr (fr b z)) (.inl tr)
theorem Un.moved{fs:List Addr}{H0:Hp}{h0:Heap}(u:Un fs [] H0 H h0 h)(c:Cov l hc H B h)(st:B.StaysIn h')(sm:h.UpToSlots h')(ff:h.FunFrames B l)(hn:∀b o,h0.get? b=some o->∃o',hc.get? b=some o')
  (hf:∀b∈fs,b∈frs l)(hl:∀b o,h0.get? b=some o->b∈frs l->b∈fs):Un fs [] H0 H h0 h':=by
 have kp:∀b o0 o,h0.get? b=some o0->b∉fs->h.get? b=some o->h'.get? b=some o:=λb o0 o e0 nb e=>c.stay st b o e (λz=>nb (hl b o0 e0 z)) (.inr (hn b o0 e0))
 have sl:∀b o,b∈fs->h.get? b=some o->∃sl,h'.get? b=some {o with slots:=sl}:=λb o hb e=>by
  obtain ⟨_,o',e',d⟩:=ff.mem (show b∈l.filterMap (·.frame) from hf b hb)
  rw [e] at e'
  cases e'
  exact sm b o e d
 refine ⟨λb o e z nb hx=>kp b o o e nb (u.keep b o e z nb hx),λb o e z hb hx=>?_,u.free,λb o e hx=>?_,u.tups,u.frzs,u.tbls⟩
 ·obtain ⟨s1,q⟩:=u.slot b o e z hb hx
  obtain ⟨s2,q2⟩:=sl b _ hb q
  exact ⟨s2,q2⟩
 ·obtain ⟨o1,q⟩:=u.there b o e hx
  by_cases hb:b∈fs
  ·obtain ⟨s2,q2⟩:=sl b _ hb q
   exact ⟨_,q2⟩
  ·exact ⟨o1,kp b o o1 e hb q⟩
end
section
variable {X:Cx}{E:XK}{pins:List (Addr×Obj)}{σ:St}{H H':Hp}{s s':Shared}
theorem o9(D:X.stack=X.env::X.outer)(fr:X.env.frame=some X.env.locals):frs X.stack=X.env.locals::frs X.outer:=by
 rw [D]
 show List.filterMap _ (X.env::X.outer)=_
 rw [List.filterMap_cons,fr]
 rfl
end
section
variable {P:Program}{w:World}{K:Frag}{mg:Str->Option Value}{base:Heap}
end
end L2
namespace L2
open PySem PySem.Spec PyProof.Rows
theorem zr{K:Frag}{h:Heap}{mg:Str->Option Value}{x:Str}{C:Addr}{bm:List Value}{new:String}(kin:K.In h)(hm:mg x=some (.ref C))(q:PySem.W.excIn K C bm new=true):OwnCls x C bm new mg h:=by
 have key:∀o,K.lookup C=some o->∃tl N nm qn bs hdct sn sub ab col dd k0 k1 k2 k3 k5 mN,h.get? C=some (excClassObj nm qn C N bs tl hdct sn sub ab col dd k0 k1 k2 k3 k5 new)/\h.Ns N mN/\mN "__init__"=none/\OwnTail h bm tl:=λo lk=>by
  unfold PySem.W.excIn at q
  rw [lk] at q
  obtain ⟨oc,od,odt,osl⟩:=o
  split at q
  ·rename_i dd cd sl e0
   cases (Δ e0)
   obtain ⟨nm,bs,mro,ns,qn,hd,sn,sub,ab,col,del⟩:=cd
   split at q
   ·rename_i C2 tl k0 k1 k2 k3 n2 k5 em es
    dsimp only at em q
    simp only [Bool.and_eq_true,beq_iff_eq,Bool.not_eq_true'] at q
    obtain ⟨⟨⟨⟨⟨q1,q2⟩,q3⟩,q4⟩,q5⟩,q6⟩:=q
    subst q1 q2 q3 em
    have esl:osl=#[k0,k1,k2,k3,some (.builtin n2),k5]:=Array.toList_inj.mp es
    subst esl
    exact ⟨tl,ns,nm,qn,bs,hd,sn,sub,ab,col,od,k0,k1,k2,k3,k5,_,kin _ _ lk,.of_isNs (PySem.W.isNs_of_in kin q5),PySem.W.nsMap_none_of_in kin q5 q6,PySem.W.tail_of_in kin q4⟩
   ·cases q
  ·cases q
 refine ⟨hm,?_⟩
 cases lk:K.lookup C with
 | none=>unfold PySem.W.excIn at q;rw [lk] at q;cases q
 | some o=>exact key o lk
section
variable {X:Cx}{E:XK}
end
end L2
namespace L2
open PySem PySem.Spec PyProof.Rows
def Ai(ea C:Addr):HO:=.ext λh=>∃o,h.get? ea=some o/\o.cls=.ref C
abbrev Cx.hnd(X:Cx)(ev:Value):Cx:={X with A:=X.A.mark (some ev),calm:=false,xe:=λ_ _=>False}
section
variable {X:Cx}{pins:List (Addr×Obj)}{σ:St}{H H1:Hp}{s s1:Shared}{ev:Value}
theorem Cx.Ok.hnd(ok:X.Ok)(ev:Value):(X.hnd ev).Ok :=
 ⟨ok.mod,ok.kind,ok.glob,ok.blt,ok.above,ok.inj,ok.has,ok.cab,λh=>(by cases h),ok.frames,ok.stk,ok.exf,ok.bs,ok.bsz,ok.noex,ok.exfs,ok.funs,ok.frf⟩
theorem Inv.hnd(I:Inv X pins σ H s)(ev:Value):Inv (X.hnd ev) pins σ H s:=⟨I.ok.hnd ev,I.os,I.bare,I.base,I.loc,I.cell,I.free,I.freeC,I.pin,I.hok,I.len⟩
theorem Inv.unhnd(ok:X.Ok)(I:Inv (X.hnd ev) pins σ H s):Inv X pins σ H s:=⟨ok,I.os,I.bare,I.base,I.loc,I.cell,I.free,I.freeC,I.pin,I.hok,I.len⟩
theorem SP.unhnd{D:Ends}{f:Flow}{s':Shared}(ok:X.Ok)(h:SP (X.hnd ev) pins D f s'):SP X pins D f s':=by
 cases f with
 | next=>obtain ⟨σ',H',I',q⟩:=h;exact ⟨σ',H',I'.unhnd ok,q⟩
 | brk=>obtain ⟨σ',H',I',q⟩:=h;exact ⟨σ',H',I'.unhnd ok,q⟩
 | cont=>obtain ⟨σ',H',I',q⟩:=h;exact ⟨σ',H',I'.unhnd ok,q⟩
 | ret v=>obtain ⟨x,σ',H',I',r,q⟩:=h;exact ⟨x,σ',H',I'.unhnd ok,r,q⟩
theorem UpToSlots.isCell{h h':Heap}{c:Addr}{v:Option Value}(sm:h.UpToSlots h')(x:h.IsCell c v):h'.IsCell c v:=by
 obtain ⟨o,e,d⟩:=x
 obtain ⟨sl,e2⟩:=sm c o e λvs q=>by rw [d] at q;cases q
 exact ⟨_,e2,d⟩
theorem Inv.moved{B h2:Heap}(I1:Inv X pins σ H1 s1)(I:Inv X pins σ H s)(hst:X.stack=X.env::X.outer)(fr:X.env.frame=some X.env.locals)(hex:X.ex=[])(c:Cov X.stack s1.heap H B s.heap)(st:B.StaysIn h2)(sm:s.heap.UpToSlots h2)
  (ff:s.heap.FunFrames B X.stack):Inv X pins σ H {s with heap:=h2}:=by
 have fc:=o9 hst fr
 have b0:Un X.fs [] X.H₀ H X.s₀.heap s.heap:=by have:=I.base;rw [hex] at this;exact this
 have sub:∀b o,X.s₀.heap.get? b=some o->∃o',s1.heap.get? b=some o':=λb o e=>I1.base.there b o e (by rw [hex];simp)
 have nL:∀b o,X.s₀.heap.get? b=some o->b≠X.env.locals:=λb o e z=>absurd (η e) (by rw [z];exact Nat.not_lt.mpr I.ok.above)
 refine ⟨I.ok,I.os,I.bare,?_,?_,λx cc e=>?_,I.free,I.freeC,λp hp=>?_,I.hok.moved c st I.stkFree,I.len⟩
 ·rw [hex]
  refine b0.moved c st sm ff sub (λb hb=>by rw [fc];exact Θ _ hb) λb o e hb=>?_
  rw [fc] at hb
  rcases List.mem_cons.mp hb with z | z
  ·exact absurd z (nL b o e)
  ·exact z
 ·obtain ⟨m,hn,hl⟩:=I.loc
  refine ⟨m,sm.ns hn,λi x v a b cc=>?_⟩
  obtain ⟨u,r,lk⟩:=hl i x v a b cc
  refine ⟨u,r,?_⟩
  rcases lk with z | ⟨z,cl,e,ic⟩
  ·exact .inl z
  ·exact .inr ⟨z,cl,e,UpToSlots.isCell sm ic⟩
 ·obtain ⟨v,q⟩:=I.cell x cc e
  exact ⟨v,UpToSlots.isCell sm q⟩
 ·obtain ⟨e,f,nl,nf,d⟩:=I.pin p hp
  refine ⟨c.stay st p.1 p.2 e (λz=>?_) (.inr ⟨_,(I1.pin p hp).1⟩),f,nl,nf,d⟩
  rw [fc] at z
  rcases List.mem_cons.mp z with z | z
  ·exact nl z
  ·exact nf z
theorem Inv.exc{ea C:Addr}{oe:Obj}(I:Inv X pins σ H s)(hx:H ea=none)(ho:s.heap.get? ea=some oe)(hc:oe.cls=.ref C)(h0:X.s₀.heap.get? ea=none)(hL:ea≠X.env.locals)(hcl:∀y c,X.env.cells.lookup y=some c->c≠ea)
  (hp:∀p∈X.pn++pins,p.1≠ea):Inv X pins σ (upd H ea (Ai ea C)) s:=by
 refine ⟨I.ok,I.os,I.bare,⟨I.base.keep,I.base.slot,λb o e z nx=>?_,I.base.there,λb xs e=>?_,λb o u e=>?_,λb ps e=>?_⟩,I.loc,I.cell,?_,λy c e=>?_,λp hp'=>?_,λb u e=>?_,I.len⟩
 ·rw [am (λz2=>by rw [z2,h0] at e;cases e)];exact I.base.free b o e z nx
 ·have q:=I.base.tups b xs e
  rw [am (ae q hx)];exact q
 ·have q:=I.base.frzs b o u e
  rw [am (ae q hx)];exact q
 ·obtain ⟨more,q⟩:=I.base.tbls b ps e
  exact ⟨more,by rw [am (ae q hx)];exact q⟩
 ·rw [am hL.symm];exact I.free
 ·rw [am (hcl y c e)];exact I.freeC y c e
 ·obtain ⟨e,f,r⟩:=I.pin p hp'
  exact ⟨e,by rw [am (hp p hp')];exact f,r⟩
 ·by_cases hb:b=ea
  ·subst hb
   rw [ad] at e
   cases e
   exact ⟨⟨oe,ho,hc⟩,⟨oe,ho⟩,λh1 h2 ⟨o,e,c⟩ k=>⟨o,k o e,c⟩⟩
  ·rw [am hb] at e
   exact (I.hok b u e).stay (λc v _ q=>q) (λc q=>by rw [am (ae q hx)];exact q) λc xs q=>by rw [am (ae q hx)];exact q
def wE(X:Cx)(C CB:Addr):Prop:=∀(A:Around) (s:Shared) (ea:Addr) (ob:Obj) (Q:Bool->Shared->Prop) (E:Value->Shared->Prop),X.K.In s.heap->s.heap.get? ea=some ob->ob.cls=.ref C->Q true s->wpAny (model X.prog X.w) A (excMatches (.ref ea) (.ref CB)) Q E s
theorem pK{x:Str}{C:Addr}{bm:List Value}{new:String}(hm:X.mg x=some (.ref C))(qx:PySem.W.excIn X.K C bm new=true)(hb:bm.contains (.type "BaseException")=true):wE X C C:=by
 intro A s ea ob Q E k ho hc q
 obtain ⟨tl,N,nm,q',bs,hdct,sn,sub,ab,col,dd,k0,k1,k2,k3,k5,mN,hC,hN,hni,T⟩:=(zr k hm qx).obj
 obtain ⟨h,g,d,t,os⟩:=s
 exact wpAny_excMatches_sub_self hC ho hc (T.hasType hb) q
theorem AZ{ea C CB:Addr}{cx:Str}{np hpos:Pos}{b₀:Stmt}{suite:List Stmt}{rest:List ExceptHandler}{D:Ends}{th:TS}{E:Value->Shared->Prop}(I1:Inv X pins σ H1 s1)(I:Inv X pins σ H s)(hst:X.stack=X.env::X.outer)(fr:X.env.frame=some X.env.locals)(hex:X.ex=[])
  (fly:Fly X.stack s1.heap H ea C s.heap)(hg:Gl X cx)(hm:X.mg cx=some (.ref CB))(tk:wE X C CB)(hs:∀ev,PSs (X.hnd ev) (b₀::suite) th)(q:H ea=none->th D σ (upd H ea (Ai ea C)))(hd:(cx==("__debug__":Str))=false) :
  wpAny (model X.prog X.w) X.A (noteFrame (.ref ea) X.env) (λ_ s₂=>wpAny (model X.prog X.w) X.A (setFlight (.ref ea) none) (λ_ s₃ =>
   wpAny (model X.prog X.w) X.A (handleBy (.ref ea) X.env (.ExceptHandler (some (.Name cx np)) none (b₀::suite) hpos::rest)) (SP X pins D) E s₃) E s₂) E s:=by
 obtain ⟨B,a0,fl,c⟩:=fly
 have hfr:X.A.frames=some (X.env::X.outer):=by rw [I.ok.frames,hst]
 have ff:=fl.2.2.1
 have fl':Heap.FlyingW B (X.env::X.outer) ea (.ref C) a0 s.heap:=by rw [← hst];exact fl
 refine wpAny_looks_onW hfr fr fl' λh₄ held₄ sm₄=>?_
 refine wpAny_landsW held₄ λh₅ fl₅ sm₅=>?_
 have I5:=Inv.moved I1 I hst fr hex c fl₅.1 (sm₄.trans sm₅) ff
 obtain ⟨ob,hob,hobc⟩:=fl₅.there
 refine wpAny_handleBy_cons (codeAny_handlers_test (iG (X:=X.hnd (.ref ea)) (I5.hnd (.ref ea)) hg hm ?_ hd)) (by intro z;cases z)
 refine tk _ _ ea ob _ _ I5.kIn hob hobc (codeAny_handlers_suite ?_)
 refine lands_againW (s:={s with heap:=h₅}) fl₅ λh₆ fl₆ sm₆=>?_
 have I6:=Inv.moved I1 I hst fr hex c fl₆.1 ((sm₄.trans sm₅).trans sm₆) ff
 obtain ⟨oe,ws,hoe,hoec,hoed,hoe0⟩:=fl₆.first
 have nfr:ea∉frs X.stack:=λz=>by
  have ff6:=fl₆.2.2.1
  rw [← hst] at ff6
  obtain ⟨_,o',e',d'⟩:=ff6.mem (show ea∈X.stack.filterMap (·.frame) from z)
  rw [hoe] at e'
  cases e'
  exact d' ws hoed
 obtain ⟨o1,e1,_⟩:=fl.there
 have hB:=fl.2.1
 have hHe:H ea=none:=by
  cases z:H ea with
  | none=>rfl
  | some u =>
   have:=c ea o1 e1 nfr (.inl (by rw [z];intro y;cases y))
   rw [hB] at this;cases this
 have h1e:s1.heap.get? ea=none:=by
  cases z:s1.heap.get? ea with
  | none=>rfl
  | some u =>
   have:=c ea o1 e1 nfr (.inr ⟨u,z⟩)
   rw [hB] at this;cases this
 have h0e:X.s₀.heap.get? ea=none:=by
  cases z:X.s₀.heap.get? ea with
  | none=>rfl
  | some u =>
   obtain ⟨o',e'⟩:=I1.base.there ea u z (by rw [hex];simp)
   rw [h1e] at e';cases e'
 have I6x:=I6.exc hHe hoe hoec h0e (λz=>nfr (by rw [o9 hst fr,z];exact Ω)) (λy cc e z=>by
  obtain ⟨v,o,e',_⟩:=I1.cell y cc e
  rw [z,h1e] at e';cases e') λp hp z=>by
   have:=(I1.pin p hp).1
   rw [z,h1e] at this;cases this
 exact wpAny_mono (hs (.ref ea) pins _ σ _ D (I6x.hnd _) (q hHe)) (λf s7 h7=>SP.unhnd I.ok h7) λ_ _ z=>z.elim
abbrev TX:=St->Hp->VK->XK->Prop
def XP(X:Cx)(pins:List (Addr×Obj))(σ:St)(E:XK)(ev:Value)(s':Shared):Prop:=∃s1 H1 ea C H',Inv X pins σ H1 s1/\ev=.ref ea/\Inv X pins σ H' s'/\Fly X.stack s1.heap H' ea C s'.heap/\E ev (some C) H'
def PEX(X:Cx)(e:Expr)(t:TX):Prop :=
 ∀(pins:List (Addr×Obj)) (s:Shared) (σ:St) (H:Hp) (Q:VK) (E:XK),Inv X pins σ H s->t σ H Q E->wpAny (model X.prog X.w) X.A (eval e X.env) (EP X pins σ Q) (XP X pins σ E) s
end
section
variable {X:Cx}{k:Nat}{f C:Addr}{fd:FuncData}{ps:List Str}{sp:Sp}{dvs:List V}{ds:List Value}{x:Str}{p pos:Pos}{e:Expr}{es:List Expr}{t:TA}
end
section
variable {X:Cx}{e:Expr}{t:TX}{C CB:Addr}{cx y:Str}{np hpos pos py apos:Pos}{b₀:Stmt}{suite:List Stmt}{th:TS}{j:Nat}
def wO(j:Nat)(C:Addr)(t:TX)(th:TS):TS:=λD σ H=>t σ H (λv H1=>D.nx (σ.set j (some v)) H1) λev c H1=>∃ea,ev=.ref ea/\c=some C/\(H1 ea=none->th D σ (upd H1 ea (Ai ea C)))
theorem sB(hst:X.stack=X.env::X.outer)(fr:X.env.frame=some X.env.locals)(hex:X.ex=[])(hN:X.N.Nodup)(hj:X.N[j]?=some y)(hy:Loc X.env.scope y)(he:PEX X e t)(hg:Gl X cx)(hm:X.mg cx=some (.ref CB))(tk:wE X C CB)
  (hs:∀ev,PSs (X.hnd ev) (b₀::suite) th)(hd:(cx==("__debug__":Str))=false:=by decide)(hsw:swapsWith e (some (.Name y py)) apos.line X.env=pure false:=by rfl)
  (hf:X.fn y=true\/X.env.scope.names.lookup y=some .local:=by first | exact .inl rfl | exact .inr rfl | assumption) :
  PS X (.Try [.Assign [.Name y py] e apos] [.ExceptHandler (some (.Name cx np)) none (b₀::suite) hpos] [] [] pos) (wO j C t th):=by
 intro pins s σ H D I h
 refine wpAny_Try_except (wpAny_execs_cons (wpAny_mono (wpAny_Assign_Name (Q:=λf s1=>f=.next/\SP X pins D .next s1) (wpAny_mono (he pins s σ H _ _ I h) (λv s1 ⟨y1,H1,I1,r1,q1⟩=>?_) λev s1 hx=>?_) hsw) (λf s1 hq=>?_) λ_ _ z=>z))
 ·exact jW I1 hN hj hy r1 (λs2 I2=>⟨rfl,_,H1,I2,q1⟩) hf
 ·obtain ⟨s0,H0,ea,C',H',I0,rfl,I',fl,ea2,e2,rfl',q⟩:=hx
  cases e2
  obtain rfl:C'=C:=Δ rfl'
  exact AZ I0 I' hst fr hex fl hg hm tk hs q hd
 ·obtain ⟨rfl,hq⟩:=hq
  exact wpAny_execs_nil (wpAny_execs_nil hq)
end
end L2
namespace L2
open PySem PySem.Spec PyProof.Rows PySem.Builtin PySem.Builtin.ObjectAttr PySem.Builtin.Getset_descriptor
section
variable {prog:Program}{w:World}{A:Around}{E:Value->Shared->Prop}{s:Shared}{K:Frag}{x D:Addr}{ox:Obj}
end
end L2
namespace L2
open PySem PySem.Spec PyProof.Rows
section
variable {K:Frag}{x D:Addr}
end
section
variable {X:Cx}
end
section
variable {X:Cx}{pins:List (Addr×Obj)}{σ:St}{H H1:Hp}{s s1:Shared}{ev:Value}
end
section
variable {X:Cx}{e:Expr}{t:TX}{C CB:Addr}{cx n:Str}{np hpos pos epos:Pos}{b₀:Stmt}{suite:List Stmt}{th:TS}{i:Nat}
end
end L2
namespace L2
open PySem PySem.Spec PyProof.Rows
theorem PE.ex{X:Cx}{α:Type}{e:Expr}{t:α->TE}(h:∀a,PE X e (t a)):PE X e (fun σ H Q=>∃a,t a σ H Q):=by
 intro pins s σ H Q I q
 obtain ⟨a,q⟩:=q
 exact h a pins s σ H Q I q
section
variable {P:Program}{w:World}{K:Frag}{H:Hp}{h:Heap}{a b:Addr}{xs ys:List V}
theorem qU(hok:HOk P w H h)(kin:K.In h)(q:SqL K H a xs):∃its:List Value,Vals xs its/\PlainL h a its.toArray/\xs.length<=sizeLine:=by
 rcases q with q | ⟨o,its,n,hk,hc,hd,hs,hz,r⟩
 ·obtain ⟨z,its,n,r,e⟩:=q.ok hok
  exact ⟨its,r,⟨_,n,e,rfl,rfl,rfl⟩,z⟩
 ·refine ⟨its.toList,r,⟨o,n,kin a o hk,hc,hd,by simpa using hs⟩,?_⟩
  have e:=r.length
  simp only [Array.length_toList] at e
  omega
theorem jK(hok:HOk P w H h)(kin:K.In h)(q:SqT K H a xs):∃its:List Value,Vals xs its/\IsTup h a its.toArray/\xs.length<=sizeLine:=by
 rcases q with q | ⟨o,its,n,hk,hc,hs,hz,r⟩
 ·obtain ⟨z,its,r,p⟩:=q.ok hok
  exact ⟨its,r,p,z⟩
 ·refine ⟨its.toList,r,⟨o,kin a o hk,hc,n,by simpa using hs⟩,?_⟩
  have e:=r.length
  simp only [Array.length_toList] at e
  omega
theorem qT(hok:HOk P w H h)(kin:K.In h)(q:SqT K H a xs)(q':SqT K H a ys):xs=ys:=by
 obtain ⟨its,r,⟨o,e,_,n,d⟩,_⟩:=jK hok kin q
 obtain ⟨its',r',⟨o',e',_,n',d'⟩,_⟩:=jK hok kin q'
 rw [e] at e';cases e'
 rw [d] at d'
 injection d' with d1 _
 have:its=its':=by simpa using congrArg Array.toList d1
 subst this
 exact r.inj r'
def SqU(K:Frag)(H:Hp)(a:Addr)(xs:List V):Prop :=
 H a=some (.tup xs)\/∃(o:Obj) (its:Array Value) (n:Nat),K.lookup a=some o/\o.cls=.type "tuple"/\o.data=.seq its n/\its.size<=sizeLine/\Vals xs its.toList
theorem SqU.sq(q:SqU K H a xs):SqT K H a xs:=q.elim (λz=>.inl (.inl z)) .inr
def aT(H H':Hp):Prop:=∀b xs,H b=some (.tup xs)->H' b=some (.tup xs)
theorem Same.ts{H H':Hp}(e:Same H H'):aT H H':=λb xs h=>e b _ h
theorem SqU.keep{H':Hp}(e:aT H H')(q:SqU K H a xs):SqU K H' a xs:=q.elim (λz=>.inl (e _ _ z)) .inr
end
def EqIs(K:Frag)(n:Nat)(H:Hp)(x y:V)(b:Bool):Prop :=
 ∀(P:Program) (w:World) (A:Around) (s:Shared) (u v:Value),A.units+n<cLine->HOk P w H s.heap->K.In s.heap->RelV x u->RelV y v->SeqAt.EqAt A s u v b
def tK(K:Frag)(n:Nat)(H:Hp)(x y:V)(b:Bool):Prop :=
 ∀(P:Program) (w:World) (A:Around) (s:Shared) (u v:Value),A.units+n<cLine->HOk P w H s.heap->K.In s.heap->RelV x u->RelV y v->SeqAt.RcAt A s u v b
def tL(K:Frag)(n:Nat)(H:Hp)(x y:V)(b:Bool):Prop :=
 ∀(P:Program) (w:World) (A:Around) (s:Shared) (u v:Value),A.units+n<cLine->HOk P w H s.heap->K.In s.heap->RelV x u->RelV y v->SeqAt.RcNeAt A s u v (!b)
section
variable {K:Frag}{H:Hp}{a b:Addr}{n m:Nat}{x y:V}{r:Bool}
theorem EqIs.mono(h:EqIs K n H x y r)(le:n<=m):EqIs K m H x y r:=λP w A s u v hA=>h P w A s u v ω
theorem t9{us vs:List V}{e:Nat->Bool}(ha:SqT K H a us)(hb:SqT K H b vs)(hl:us.length=vs.length)(he:∀(j:Nat) x y,us[j]?=some x->vs[j]?=some y->EqIs K n H x y (e j)) :
  tK K (n+1) H (.ref a) (.ref b) ((List.range us.length).all e)/\tL K (n+1) H (.ref a) (.ref b) ((List.range us.length).all e):=by
 have main:∀(P:Program) (w:World) (A:Around) (s:Shared) (u v:Value),A.units+(n+1)<cLine->HOk P w H s.heap->K.In s.heap->RelV (.ref a) u->RelV (.ref b) v ->
   SeqAt.RcAt A s u v ((List.range us.length).all e)/\SeqAt.RcNeAt A s u v (!(List.range us.length).all e):=by
  intro P w A s u v hA hok kin r1 r2
  cases r1
  cases r2
  obtain ⟨i1,v1,p1,_⟩:=jK hok kin ha
  obtain ⟨i2,v2,p2,_⟩:=jK hok kin hb
  have l1:=v1.length
  have l2:=v2.length
  have items:∀j (h1:j<i1.toArray.size) (h2:j<i2.toArray.size),SeqAt.EqAt A.in1 s i1.toArray[j] i2.toArray[j] (e j):=λj h1 h2=>by
   have h1':j<i1.length:=by simpa using h1
   have h2':j<i2.length:=by simpa using h2
   have e1:us[j]?=some us[j]:=ξ ω
   have e2:vs[j]?=some vs[j]:=ξ ω
   obtain ⟨u,eu,ru⟩:=v1.get e1
   obtain ⟨v,ev,rv⟩:=v2.get e2
   have q:=he j _ _ e1 e2 P w A.in1 s u v (by show A.units+1+n<cLine;omega) hok kin ru rv
   have z1:i1.toArray[j]=u:=by
    rw [ξ h1'] at eu
    simpa using Option.some.inj eu
   have z2:i2.toArray[j]=v:=by
    rw [ξ h2'] at ev
    simpa using Option.some.inj ev
   rw [z1,z2]
   exact q
  have ez:((List.range (min i1.toArray.size i2.toArray.size)).all e&&i1.toArray.size==i2.toArray.size)=(List.range us.length).all e:=by
   have s1:i1.toArray.size=us.length:=by simp [l1]
   have s2:i2.toArray.size=us.length:=by simp [← l2,hl]
   rw [s1,s2,Nat.min_self]
   simp
  constructor
  ·have q:=SeqAt.RcAt.tuples (A:=A) (s:=s) (e:=e) p1 p2 ω items
   rw [ez] at q
   exact q
  ·have q:=SeqAt.RcNeAt.tuples (A:=A) (s:=s) (e:=e) p1 p2 ω items
   rw [ez] at q
   exact q
 exact ⟨λP w A s u v h1 h2 h3 h4 h5=>(main P w A s u v h1 h2 h3 h4 h5).1,λP w A s u v h1 h2 h3 h4 h5=>(main P w A s u v h1 h2 h3 h4 h5).2⟩
theorem kW(h:tK K n H (.ref a) (.ref b) r)(hs:∀(P:Program) (w:World) (h:Heap),HOk P w H h->K.In h->a=b->r=true):EqIs K n H (.ref a) (.ref b) r:=by
 intro P w A s u v hA hok kin r1 r2
 have q:=h P w A s u v hA hok kin r1 r2
 cases r1
 cases r2
 by_cases e:a=b
 ·rw [hs P w s.heap hok kin e,e]
  exact SeqAt.EqAt.same _
 ·exact SeqAt.EqAt.of_refs e q
end
structure Cod(α:Type) [DecidableEq α] where
 n:Nat
 rp:Frag->Hp->α->V->Prop
 inj:∀{P:Program} {w:World} {K:Frag} {H:Hp} {h:Heap} {x y:α} {v:V},HOk P w H h->K.In h->rp K H x v->rp K H y v->x=y
 eq:∀{K:Frag} {H:Hp} {x y:α} {u v:V},rp K H x u->rp K H y v->EqIs K n H u v (decide (x=y))
 rc:∀{K:Frag} {H:Hp} {x y:α} {u v:V},rp K H x u->rp K H y v->tK K n H u v (decide (x=y))
 ne:∀{K:Frag} {H:Hp} {x y:α} {u v:V},rp K H x u->rp K H y v->tL K n H u v (decide (x=y))
 keep:∀{K:Frag} {H H':Hp} {x:α} {v:V},aT H H'->rp K H x v->rp K H' x v
def cInt:Cod Int where
 n:=0
 rp _ _ i v:=v=.int i
 inj _ _ h1 h2:=by
  rw [h1] at h2
  exact V.int.inj h2
 eq h1 h2:=by
  intro P w A s u v _ _ _ r1 r2
  subst h1 h2
  obtain ⟨t,rfl⟩:=r1
  obtain ⟨t',rfl⟩:=r2
  rw [← Bool.beq_eq_decide_eq]
  exact SeqAt.EqAt.int_int _ t _ t'
 rc h1 h2:=by
  intro P w A s u v _ _ _ r1 r2
  subst h1 h2
  obtain ⟨t,rfl⟩:=r1
  obtain ⟨t',rfl⟩:=r2
  rw [← Bool.beq_eq_decide_eq]
  exact SeqAt.RcAt.int_int _ t _ t'
 ne h1 h2:=by
  intro P w A s u v _ _ _ r1 r2
  subst h1 h2
  obtain ⟨t,rfl⟩:=r1
  obtain ⟨t',rfl⟩:=r2
  rw [← Bool.beq_eq_decide_eq]
  exact SeqAt.RcNeAt.int_int _ t _ t'
 keep _ h:=h
theorem cM(x y:Str):decide (x=y)=(x==y):=by
 rw [Bool.eq_iff_iff]
 simp
def cStr:Cod Str where
 n:=0
 rp _ _ i v:=v=.str i
 inj _ _ h1 h2:=by
  rw [h1] at h2
  exact V.str.inj h2
 eq h1 h2:=by
  intro P w A s u v _ _ _ r1 r2
  subst h1 h2
  obtain ⟨t,rfl⟩:=r1
  obtain ⟨t',rfl⟩:=r2
  rw [cM]
  exact SeqAt.EqAt.str_str _ t _ t'
 rc h1 h2:=by
  intro P w A s u v _ _ _ r1 r2
  subst h1 h2
  obtain ⟨t,rfl⟩:=r1
  obtain ⟨t',rfl⟩:=r2
  rw [cM]
  exact SeqAt.RcAt.str_str _ t _ t'
 ne h1 h2:=by
  intro P w A s u v _ _ _ r1 r2
  subst h1 h2
  obtain ⟨t,rfl⟩:=r1
  obtain ⟨t',rfl⟩:=r2
  rw [cM]
  exact SeqAt.RcNeAt.str_str _ t _ t'
 keep _ h:=h
section
variable {α β γ:Type} [DecidableEq α] [DecidableEq β] [DecidableEq γ]
def By(f:β->α)(hf:∀x y,f x=f y->x=y)(c:Cod α):Cod β where
 n:=c.n
 rp K H x v:=c.rp K H (f x) v
 inj h1 h2 h3 h4:=hf _ _ (c.inj h1 h2 h3 h4)
 eq {K H x y u v} h1 h2:=by
  have e:decide (x=y)=decide (f x=f y):=decide_eq_decide.mpr ⟨λz=>by rw [z],λz=>hf _ _ z⟩
  rw [e]
  exact c.eq h1 h2
 rc {K H x y u v} h1 h2:=by
  have e:decide (x=y)=decide (f x=f y):=decide_eq_decide.mpr ⟨λz=>by rw [z],λz=>hf _ _ z⟩
  rw [e]
  exact c.rc h1 h2
 ne {K H x y u v} h1 h2:=by
  have e:decide (x=y)=decide (f x=f y):=decide_eq_decide.mpr ⟨λz=>by rw [z],λz=>hf _ _ z⟩
  rw [e]
  exact c.ne h1 h2
 keep h1 h2:=c.keep h1 h2
def rT2(c:Cod α)(d:Cod β)(K:Frag)(H:Hp)(x:α×β)(v:V):Prop:=∃a u w,v=.ref a/\SqU K H a [u,w]/\c.rp K H x.1 u/\d.rp K H x.2 w
theorem rA{c:Cod α}{d:Cod β}{P:Program}{w:World}{K:Frag}{H:Hp}{h:Heap}{x y:α×β}{v:V}(hok:HOk P w H h)(kin:K.In h)(h1:rT2 c d K H x v)(h2:rT2 c d K H y v):x=y:=by
 obtain ⟨a,u,t,rfl,ha,hu,ht⟩:=h1
 obtain ⟨b,u',t',e,hb,hu',ht'⟩:=h2
 cases e
 have z:=qT hok kin ha.sq hb.sq
 cases z
 exact Prod.ext (c.inj hok kin hu hu') (d.inj hok kin ht ht')
theorem qc{c:Cod α}{d:Cod β}{K:Frag}{H:Hp}{x y:α×β}{u v:V}(h1:rT2 c d K H x u)(h2:rT2 c d K H y v) :
  tK K (max c.n d.n+1) H u v (decide (x=y))/\tL K (max c.n d.n+1) H u v (decide (x=y)):=by
 obtain ⟨a,u,t,rfl,ha,hu,ht⟩:=h1
 obtain ⟨b,u',t',rfl,hb,hu',ht'⟩:=h2
 have T:=t9 (n:=max c.n d.n) (e:=λj=>if j=0 then decide (x.1=y.1) else decide (x.2=y.2)) ha.sq hb.sq rfl (λj p q e1 e2=>by
  match j,e1,e2 with
  | 0,e1,e2=>cases e1;cases e2;exact (c.eq hu hu').mono (Nat.le_max_left _ _)
  | 1,e1,e2=>cases e1;cases e2;exact (d.eq ht ht').mono (Nat.le_max_right _ _))
 have e:((List.range ([u,t]:List V).length).all λj=>if j=0 then decide (x.1=y.1) else decide (x.2=y.2))=decide (x=y):=by
  show (decide (x.1=y.1)&&(decide (x.2=y.2)&&true))=decide (x=y)
  rw [Bool.and_true,← Bool.decide_and]
  exact decide_eq_decide.mpr (Prod.ext_iff (x:=x) (y:=y)).symm
 rw [e] at T
 exact T
def cT2(c:Cod α)(d:Cod β):Cod (α×β) where
 n:=max c.n d.n+1
 rp:=rT2 c d
 inj:=rA
 rc h1 h2:=(qc h1 h2).1
 ne h1 h2:=(qc h1 h2).2
 eq {K H x y u v} h1 h2:=by
  have r:=(qc h1 h2).1
  have i:=λP w h hok kin=>rA (c:=c) (d:=d) (P:=P) (w:=w) (K:=K) (H:=H) (h:=h) (x:=x) (y:=y) (v:=v) hok kin
  obtain ⟨a,_,_,rfl,_⟩:=id h1
  obtain ⟨b,_,_,rfl,_⟩:=id h2
  refine kW r λP w h hok kin e=>?_
  subst e
  exact τ (i P w h hok kin h1 h2)
 keep e h:=let ⟨a,u,w,h1,h2,h3,h4⟩:=h;⟨a,u,w,h1,h2.keep e,c.keep e h3,d.keep e h4⟩
def rT3(c:Cod α)(d:Cod β)(f:Cod γ)(K:Frag)(H:Hp)(x:α×β×γ)(v:V):Prop:=∃a u w z,v=.ref a/\SqU K H a [u,w,z]/\c.rp K H x.1 u/\d.rp K H x.2.1 w/\f.rp K H x.2.2 z
theorem rq{c:Cod α}{d:Cod β}{f:Cod γ}{P:Program}{w:World}{K:Frag}{H:Hp}{h:Heap}{x y:α×β×γ}{v:V}(hok:HOk P w H h)(kin:K.In h)(h1:rT3 c d f K H x v)(h2:rT3 c d f K H y v):x=y:=by
 obtain ⟨a,u,t,z,rfl,ha,hu,ht,hz⟩:=h1
 obtain ⟨b,u',t',z',e,hb,hu',ht',hz'⟩:=h2
 cases e
 have q:=qT hok kin ha.sq hb.sq
 cases q
 exact Prod.ext (c.inj hok kin hu hu') (Prod.ext (d.inj hok kin ht ht') (f.inj hok kin hz hz'))
theorem qb{c:Cod α}{d:Cod β}{f:Cod γ}{K:Frag}{H:Hp}{x y:α×β×γ}{u v:V}(h1:rT3 c d f K H x u)(h2:rT3 c d f K H y v) :
  tK K (max c.n (max d.n f.n)+1) H u v (decide (x=y))/\tL K (max c.n (max d.n f.n)+1) H u v (decide (x=y)):=by
 obtain ⟨a,u,t,z,rfl,ha,hu,ht,hz⟩:=h1
 obtain ⟨b,u',t',z',rfl,hb,hu',ht',hz'⟩:=h2
 have T:=t9 (n:=max c.n (max d.n f.n)) (e:=λj=>if j=0 then decide (x.1=y.1) else if j=1 then decide (x.2.1=y.2.1) else decide (x.2.2=y.2.2)) ha.sq hb.sq rfl (λj p q e1 e2=>by
  match j,e1,e2 with
  | 0,e1,e2=>cases e1;cases e2;exact (c.eq hu hu').mono (Nat.le_max_left _ _)
  | 1,e1,e2=>cases e1;cases e2;exact (d.eq ht ht').mono (Λ (Nat.le_max_left _ _) (Nat.le_max_right _ _))
  | 2,e1,e2=>cases e1;cases e2;exact (f.eq hz hz').mono (Λ (Nat.le_max_right _ _) (Nat.le_max_right _ _)))
 have e:((List.range ([u,t,z]:List V).length).all λj=>if j=0 then decide (x.1=y.1) else if j=1 then decide (x.2.1=y.2.1) else decide (x.2.2=y.2.2))=decide (x=y):=by
  show (decide (x.1=y.1)&&(decide (x.2.1=y.2.1)&&(decide (x.2.2=y.2.2)&&true)))=decide (x=y)
  rw [Bool.and_true,← Bool.decide_and,← Bool.decide_and]
  refine decide_eq_decide.mpr ⟨λz=>Prod.ext z.1 (Prod.ext z.2.1 z.2.2),λz=>?_⟩
  rw [z]
  exact ⟨rfl,rfl,rfl⟩
 rw [e] at T
 exact T
def cT3(c:Cod α)(d:Cod β)(f:Cod γ):Cod (α×β×γ) where
 n:=max c.n (max d.n f.n)+1
 rp:=rT3 c d f
 inj:=rq
 rc h1 h2:=(qb h1 h2).1
 ne h1 h2:=(qb h1 h2).2
 eq {K H x y u v} h1 h2:=by
  have r:=(qb h1 h2).1
  have i:=λP w h hok kin=>rq (c:=c) (d:=d) (f:=f) (P:=P) (w:=w) (K:=K) (H:=H) (h:=h) (x:=x) (y:=y) (v:=v) hok kin
  obtain ⟨a,_,_,_,rfl,_⟩:=id h1
  obtain ⟨b,_,_,_,rfl,_⟩:=id h2
  refine kW r λP w h hok kin e=>?_
  subst e
  exact τ (i P w h hok kin h1 h2)
 keep e h:=let ⟨a,u,w,z,h1,h2,h3,h4,h5⟩:=h;⟨a,u,w,z,h1,h2.keep e,c.keep e h3,d.keep e h4,f.keep e h5⟩
end
section
variable {α:Type} [DecidableEq α] {K:Frag}{H:Hp}
theorem _root_.PySem.Paired.get{β γ:Type}{R:β->γ->Prop}:∀{xs:List β} {us:List γ},Paired R xs us->∀{j:Nat} {u:γ},us[j]?=some u->∃x,xs[j]?=some x/\R x u
 | _,_,.nil,j,u,e=>by simp at e
 | _,_,.cons r t,0,u,e=>by simp at e;subst e;exact ⟨_,rfl,r⟩
 | _,_,.cons r t,j+1,u,e=>PySem.Paired.get t (j:=j) (by simpa using e)
theorem _root_.PySem.Paired.get1{β γ:Type}{R:β->γ->Prop}:∀{xs:List β} {us:List γ},Paired R xs us->∀{j:Nat} {x:β},xs[j]?=some x->∃u,us[j]?=some u/\R x u
 | _,_,.nil,j,u,e=>by simp at e
 | _,_,.cons r t,0,u,e=>by simp at e;subst e;exact ⟨_,rfl,r⟩
 | _,_,.cons r t,j+1,u,e=>PySem.Paired.get1 t (j:=j) (by simpa using e)
theorem _root_.PySem.Paired.len{β γ:Type}{R:β->γ->Prop}:∀{xs:List β} {us:List γ},Paired R xs us->xs.length=us.length
 | _,_,.nil=>rfl
 | _,_,.cons r t=>by simp [PySem.Paired.len t]
theorem _root_.PySem.Paired.app{β γ:Type}{R:β->γ->Prop}:∀{xs ys:List β} {us vs:List γ},Paired R xs us->Paired R ys vs->Paired R (xs++ys) (us++vs)
 | _,_,_,_,.nil,s=>s
 | _,_,_,_,.cons r t,s=>.cons r (PySem.Paired.app t s)
theorem nu{xs ys:List α}{n:Nat}(h1:xs.length=n)(h2:ys.length=n):((List.range n).all λj=>decide (xs[j]?=ys[j]?))=decide (xs=ys):=by
 rw [Bool.eq_iff_iff,List.all_eq_true,decide_eq_true_eq]
 constructor
 ·intro h
  apply List.ext_getElem?
  intro i
  by_cases hi:i<n
  ·exact Ξ (h i (List.mem_range.mpr hi))
  ·rw [List.getElem?_eq_none ω,List.getElem?_eq_none ω]
 ·intro h i _
  rw [h]
  exact τ rfl
theorem vQ{c:Cod α}{a b:Addr}{us vs:List V}{xs ys:List α}(ha:SqL K H a us)(hb:SqL K H b vs)(px:Paired (c.rp K H) xs us)(py:Paired (c.rp K H) ys vs) :
  tK K (c.n+1) H (.ref a) (.ref b) (decide (xs=ys))/\tL K (c.n+1) H (.ref a) (.ref b) (decide (xs=ys)):=by
 have main:∀(P:Program) (w:World) (A:Around) (s:Shared) (u v:Value),A.units+(c.n+1)<cLine->HOk P w H s.heap->K.In s.heap->RelV (.ref a) u->RelV (.ref b) v ->
   SeqAt.RcAt A s u v (decide (xs=ys))/\SeqAt.RcNeAt A s u v (!decide (xs=ys)):=by
  intro P w A s u v hA hok kin r1 r2
  cases r1
  cases r2
  obtain ⟨i1,v1,p1,_⟩:=qU hok kin ha
  obtain ⟨i2,v2,p2,_⟩:=qU hok kin hb
  have l1:=v1.length
  have l2:=v2.length
  have m1:=px.len
  have m2:=py.len
  by_cases hl:i1.length=i2.length
  ·have items:∀j (h1:j<i1.toArray.size) (h2:j<i2.toArray.size),SeqAt.EqAt A.in1 s i1.toArray[j] i2.toArray[j] (decide (xs[j]?=ys[j]?)):=λj h1 h2=>by
    have h1':j<i1.length:=by simpa using h1
    have h2':j<i2.length:=by simpa using h2
    have e1:us[j]?=some us[j]:=ξ ω
    have e2:vs[j]?=some vs[j]:=ξ ω
    obtain ⟨u,eu,ru⟩:=v1.get e1
    obtain ⟨v,ev,rv⟩:=v2.get e2
    obtain ⟨x,ex,rx⟩:=px.get e1
    obtain ⟨y,ey,ry⟩:=py.get e2
    have q:=c.eq rx ry P w A.in1 s u v (by show A.units+1+c.n<cLine;omega) hok kin ru rv
    have z1:i1.toArray[j]=u:=by
     rw [ξ h1'] at eu
     simpa using Option.some.inj eu
    have z2:i2.toArray[j]=v:=by
     rw [ξ h2'] at ev
     simpa using Option.some.inj ev
    rw [z1,z2,ex,ey]
    have e:decide ((some x:Option α)=some y)=decide (x=y):=decide_eq_decide.mpr ⟨λz=>Δ z,λz=>by rw [z]⟩
    rw [e]
    exact q
   have ez:(List.range i1.toArray.size).all (λj=>decide (xs[j]?=ys[j]?))=decide (xs=ys):=nu (by rw [List.size_toArray];omega) (by rw [List.size_toArray];omega)
   constructor
   ·have q:=SeqAt.RcAt.lists (A:=A) (s:=s) p1.isList p2.isList (by simpa using hl) ω items
    rw [ez] at q
    exact q
   ·have q:=SeqAt.RcNeAt.lists (A:=A) (s:=s) p1.isList p2.isList (by simpa using hl) ω items
    rw [ez] at q
    exact q
  ·have hsz:(i1.toArray.size != i2.toArray.size)=true:=by simpa using hl
   have e:decide (xs=ys)=false:=Γ λz=>hl (by rw [← l1,← l2,← m1,← m2,z])
   rw [e]
   exact ⟨SeqAt.RcAt.lists_lengths p1.isList p2.isList hsz ω,SeqAt.RcNeAt.lists_lengths p1.isList p2.isList hsz ω⟩
 exact ⟨λP w A s u v h1 h2 h3 h4 h5=>(main P w A s u v h1 h2 h3 h4 h5).1,λP w A s u v h1 h2 h3 h4 h5=>(main P w A s u v h1 h2 h3 h4 h5).2⟩
end
section
variable {X:Cx}{α:Type} [DecidableEq α]
theorem hun{c:Nat}{k:Nat}{A:Around}(hr:Room k A)(h:c<=60:=by decide):A.units+c+1<cLine:=by
 have:=hr.units
 omega
theorem u5(c:Cod α)(hu:X.A.units+c.n+1<cLine):OpR X (compareOp .Eq) (λx y H Q=>∃a b,c.rp X.K H a x/\c.rp X.K H b y/\Q (.bl (decide (a=b))) H):=by
 intro pins s σ H x y v u Q I rx ry h
 obtain ⟨a,b,ha,hb,q⟩:=h
 exact c.rc ha hb X.prog X.w X.A s v u ω I.hok I.kIn rx ry X.prog X.w X.xe _ ⟨.bl _,H,I,rfl,q⟩
theorem zw(c:Cod α)(hu:X.A.units+c.n+1<cLine):OpR X (compareOp .NotEq) (λx y H Q=>∃a b,c.rp X.K H a x/\c.rp X.K H b y/\Q (.bl (!decide (a=b))) H):=by
 intro pins s σ H x y v u Q I rx ry h
 obtain ⟨a,b,ha,hb,q⟩:=h
 exact c.ne ha hb X.prog X.w X.A s v u ω I.hok I.kIn rx ry X.prog X.w X.xe _ ⟨.bl _,H,I,rfl,q⟩
def wG(c:Cod α)(K:Frag)(H:Hp)(xs:List α)(v:V):Prop:=∃a us,v=.ref a/\SqL K H a us/\Paired (c.rp K H) xs us
theorem u4(c:Cod α)(hu:X.A.units+c.n+1<cLine):OpR X (compareOp .Eq) (λx y H Q=>∃xs ys,wG c X.K H xs x/\wG c X.K H ys y/\Q (.bl (decide (xs=ys))) H):=by
 intro pins s σ H x y v u Q I rx ry h
 obtain ⟨xs,ys,⟨a,us,rfl,ha,px⟩,⟨b,vs,rfl,hb,py⟩,q⟩:=h
 exact (vQ ha hb px py).1 X.prog X.w X.A s v u ω I.hok I.kIn rx ry X.prog X.w X.xe _ ⟨.bl _,H,I,rfl,q⟩
theorem zv(c:Cod α)(hu:X.A.units+c.n+1<cLine):OpR X (compareOp .NotEq) (λx y H Q=>∃xs ys,wG c X.K H xs x/\wG c X.K H ys y/\Q (.bl (!decide (xs=ys))) H):=by
 intro pins s σ H x y v u Q I rx ry h
 obtain ⟨xs,ys,⟨a,us,rfl,ha,px⟩,⟨b,vs,rfl,hb,py⟩,q⟩:=h
 exact (vQ ha hb px py).2 X.prog X.w X.A s v u ω I.hok I.kIn rx ry X.prog X.w X.xe _ ⟨.bl _,H,I,rfl,q⟩
noncomputable def eqR(c:Cod α)(K:Frag)(H:Hp)(a:α)(u:Value):Bool:=@decide (∃v,RelV v u/\c.rp K H a v) (Classical.propDecidable _)
theorem v8{c:Cod α}{P:Program}{w:World}{K:Frag}{H:Hp}{h:Heap}{a z:α}{v:V}{u:Value}(hok:HOk P w H h)(kin:K.In h)(r:RelV v u)(q:c.rp K H z v):eqR c K H a u=decide (z=a):=by
 unfold eqR
 by_cases e:z=a
 ·subst e
  rw [τ (show z=z from rfl)]
  exact @decide_eq_true _ (Classical.propDecidable _) ⟨v,r,q⟩
 ·rw [Γ e]
  refine @decide_eq_false _ (Classical.propDecidable _) λ⟨v',r',q'⟩=>e ?_
  have:=r.inj r'
  subst this
  exact c.inj hok kin q q'
theorem oj{c:Cod α}{P:Program}{w:World}{K:Frag}{H:Hp}{h:Heap}{a:α}(hok:HOk P w H h)(kin:K.In h):∀{xs:List α} {us:List V} {its:List Value},Paired (c.rp K H) xs us->Vals us its->its.any (eqR c K H a)=decide (a∈xs)
 | _,_,_,.nil,.nil=>by simp
 | x::xs,_,_,.cons p t,.cons r s=>by
  rw [List.any_cons,v8 hok kin r p,oj hok kin t s,Bool.eq_iff_iff]
  simp only [Bool.or_eq_true,decide_eq_true_eq,List.mem_cons]
  exact ⟨λz=>z.elim (λe=>.inl e.symm) .inr,λz=>z.elim (λe=>.inl e.symm) .inr⟩
theorem nN{c:Cod α}{P:Program}{w:World}{A:Around}{s:Shared}{K:Frag}{H:Hp}{a:α}{x:V}{v:Value}(hok:HOk P w H s.heap)(kin:K.In s.heap)(hA:A.units+c.n<cLine)(rx:RelV x v)(qx:c.rp K H a x) :
  ∀{xs:List α} {us:List V} {its:List Value},Paired (c.rp K H) xs us->Vals us its->∀u∈its,SeqAt.EqAt A s u v (eqR c K H a u)
 | _,_,_,.nil,.nil=>λu hu=>by cases hu
 | _,_,_,.cons p t,.cons r q=>λu' hu=>by
  rcases List.mem_cons.mp hu with rfl | hu
  ·rw [v8 hok kin r p]
   exact c.eq p qx P w A s _ v hA hok kin r rx
  ·exact nN hok kin hA rx qx t q u' hu
def Bq(c:Cod α)(K:Frag):R2:=λx y H Q=>∃a p us xs,c.rp K H a x/\y=.ref p/\(SqL K H p us\/SqT K H p us)/\Paired (c.rp K H) xs us/\Q (.bl (decide (a∈xs))) H
theorem uZ(c:Cod α)(hu:X.A.units+c.n+1<cLine):OpR X (compareOp .In) (Bq c X.K):=by
 intro pins s σ H x y v u Q I rx ry h
 obtain ⟨a,p,us,xs,ha,rfl,hq,px,q⟩:=h
 cases ry
 rcases hq with hq | hq
 ·obtain ⟨its,r,pl,hz⟩:=I.list hq
  refine SeqAt.in_listAt (eqR c X.K H a) pl.isList (λw hw=>nN I.hok I.kIn (by show X.A.units+1+c.n<cLine;omega) rx ha px r w (by simpa using hw)) ⟨.bl _,H,I,rfl,?_⟩
  rw [show its.toArray.any (eqR c X.K H a)=its.any (eqR c X.K H a) by simp,oj I.hok I.kIn px r]
  exact q
 ·obtain ⟨its,r,pl,hz⟩:=I.tuple hq
  refine SeqAt.in_tupleAt (eqR c X.K H a) pl (λw hw=>nN I.hok I.kIn (by show X.A.units+1+c.n<cLine;omega) rx ha px r w (by simpa using hw)) ⟨.bl _,H,I,rfl,?_⟩
  rw [show its.toArray.any (eqR c X.K H a)=its.any (eqR c X.K H a) by simp,oj I.hok I.kIn px r]
  exact q
end
end L2
namespace L2
open PySem PySem.Spec PyProof.Rows
section
variable {prog:Program}{w:World}{A:Around}{R:Result->Shared->Prop}{s:Shared}
end
section
variable {X:Cx}{N':List Str}{scope:Scope}{mm:Nat}{fv:List Nat}
end
end L2
namespace L2
open PySem PySem.Spec PyProof.Rows
section
variable {X:Cx}
theorem pj(hc:X.calm=true):dX X (.builtin "any") (λxs H Q=>∃(p:Addr) (bs:List Bool),xs=[.ref p]/\SqL X.K H p (bs.map V.bl)/\Q (.bl (bs.any id)) H):=by
 intro pins s σ H xs us Q I r h
 obtain ⟨p,bs,rfl,hq,q⟩:=h
 obtain ⟨u,rfl,rx⟩:=dF r
 cases (show u=Value.ref p from rx)
 obtain ⟨its,rv,pl,hz⟩:=I.list hq
 have hl:=pl.isList
 have hlt:p<s.heap.objs.size:=by obtain ⟨_,e,_⟩:=hl;exact η e
 have hh:X.A.handled=none:=I.ok.hd hc
 have hlen:bs.length=its.length:=by have:=rv.length;rw [List.length_map] at this;exact this
 refine call_any_walk (wpAny_pyIter_list hl ?_)
 refine ⟨s.heap.objs.size,[s.heap.objs.size,p],[s.heap.objs.size],its.toArray.size,_,_,λi=>(bs[i]?).getD false,rfl,Walks.list (A:=X.A.in1) hh _ p (Φ hlt) its.toArray,
  ⟨⟨_,ψ _ rfl,rfl,rfl⟩,hl.push _⟩,λi v s' Q' E' hP hQ=>?_,λh' tk hk=>?_⟩
 ·have hP':its[i]?=some v:=by simpa using hP
  have hi:i<its.length:=(List.getElem?_eq_some_iff.mp hP').1
  have hb:(bs.map V.bl)[i]?=some (V.bl (bs[i]'(ω))):=by rw [List.getElem?_map,ξ ω];rfl
  obtain ⟨u',e1,e2⟩:=rv.get hb
  rw [hP'] at e1
  cases e1
  cases (show v=Value.bool _ from e2)
  have hQ':Q' ((bs[i]?).getD false) s':=hQ
  rw [ξ ω] at hQ'
  exact wpAny_truthy_bool hQ'
 ·have e:((List.range its.toArray.size).any λi=>(bs[i]?).getD false)=bs.any id:=by
   rw [List.size_toArray,← hlen,Bool.eq_iff_iff,List.any_eq_true,List.any_eq_true]
   constructor
   ·rintro ⟨i,hi,hb⟩
    have hi':=List.mem_range.mp hi
    rw [ξ hi'] at hb
    exact ⟨bs[i],List.getElem_mem hi',hb⟩
   ·rintro ⟨b,hb,hb'⟩
    obtain ⟨i,hi,e⟩:=List.getElem_of_mem hb
    refine ⟨i,List.mem_range.mpr hi,?_⟩
    rw [ξ hi,e]
    exact hb'
  rw [e]
  exact ⟨.bl _,H,I.kept (LSm.kept_iter hk),rfl,q⟩
def wu:KTD.Dat->Value->Bool
 | .flat d,v=>KTD.flatLooks d v
 | _,_=>false
theorem xZ{h:Heap}:∀(d:KTD.Dat) (v:Value),wu d v=true->d.At h v
 | .flat d,v,e=>KTD.flat_of_looks (d:=d) e
 | .float _,_,e=>by cases e
 | .nums _,_,e=>by cases e
 | .words _,_,e=>by cases e
 | .tup _,_,e=>by cases e
 | .tab _,_,e=>by cases e
def TabK(K:Frag)(a:Addr)(D:List (Str×KTD.Dat)):Prop:=KTD.tabLook wu (λb=>K.lookup b) a D=true
theorem TabK.at{K:Frag}{a:Addr}{D:List (Str×KTD.Dat)}{h:Heap}(t:TabK K a D)(kin:K.In h):KTD.TextTab h a D:=KTD.tab_of_look xZ (λa o e=>kin a o e) t
theorem nX{h₀:Heap}{k:Str}{Pr:Value->Prop}:∀{D:List (Str×KTD.Dat)} {d:KTD.Dat},KTD.datumAt k D=some d->KTD.Opened h₀ Pr d->KTD.EachL h₀ k Pr D
 | [],_,e,_=>by cases e
 | (x,d')::D,d,e,o=>by
  have e':(if decide (k=x)=true then some d' else KTD.datumAt k D)=some d:=e
  by_cases hx:k=x
  ·rw [if_pos (τ hx)] at e'
   cases e'
   exact KTD.eachL_hit hx o
  ·rw [if_neg (by simp [hx])] at e'
   exact KTD.eachL_miss hx (nX e' o)
theorem rK{D:List (Str×KTD.Dat)}:IxR X (λx y H Q=>∃a k i,x=.ref a/\y=.str k/\TabK X.K a D/\KTD.datumAt k D=some (.flat (.int i))/\(D.all λp=>KTD.plain p.2)=true/\Q (.int i) H):=by
 intro value slice pins s σ H x y v u Q I rx ry h hs
 obtain ⟨a,k,i,rfl,rfl,ht,hd,hp,q⟩:=h
 cases rx
 obtain ⟨t,rfl⟩:=ry
 refine KTD.item_textA (h₀:=s.heap) ⟨ht.at I.kIn,λ_ _ e=>e⟩ hp ?_ ?_ hs
 ·rw [← KTD.isSome_datumAt,hd];rfl
 ·exact nX hd (KTD.opened_int λt'=>⟨.int i,H,I.tok _,⟨_,rfl⟩,q⟩)
end
section
variable {X:Cx}{α:Type} [DecidableEq α]
theorem pfK(K:Frag)(i:Nat){x f:Str}{px pos:Pos}(hK:X.K=K:=by rfl)(hN:X.N[i]?=some x:=by rfl)(hv:Vis X.env.scope x:=by first | exact Or.inl rfl | exact Or.inr (Or.inl rfl) | exact Or.inr (Or.inr rfl))(hd:(x==("__debug__":Str))=false:=by decide)
  (hcd:(x==("__classdict__":Str))=false:=by decide)(hb:attributeBase (.Name x px) f X.env (eval (.Name x px) X.env)=eval (.Name x px) X.env:=by rfl):PE X (.Attribute (.Name x px) f pos) (su K (pL i) f):=by
 subst hK
 exact aw (qf hN hv hd hcd) hb
theorem xf(K:Frag)(c:Cod α)(hu:X.A.units+c.n+1<cLine)(hK:X.K=K:=by rfl):OpR X (compareOp .Eq) (λx y H Q=>∃a b,c.rp K H a x/\c.rp K H b y/\Q (.bl (decide (a=b))) H):=by
 subst hK
 exact u5 c hu
end
structure GF(P:Program)(w:World)(K:Frag)(mg:Str->Option Value)(base:Heap)(CX:CXT)(k:Nat)(x:Str)(ps:List Str)(sp:Sp) where
 f:Addr
 fd:FuncData
 ok:FnOk P w K mg base CX k f fd ps sp
 bd:Binds K fd ps []
 kp:PySem.W.keepIn K (.ref f)=true
 mgx:mg x=some (.ref f)
structure GM(P:Program)(w:World)(K:Frag)(mg:Str->Option Value)(base:Heap)(CX:CXT)(k:Nat)(C:Addr)(m:Str)(ps:List Str)(sp:Sp) where
 f:Addr
 fd:FuncData
 ok:FnOk P w K mg base CX k f fd ps sp
 bd:Binds K fd ps []
 me:gr K C m f
section
variable {X:Cx}{CX:CXT}{j k:Nat}{x m:Str}{ps:List Str}{sp:Sp}{E:XK}{p pos apos:Pos}{e o:Expr}{es:List Expr}{t:TA}{ta:TE}{C:Addr}
theorem pc(G:GF X.prog X.w X.K X.mg X.base CX j x ps sp)(hr:Room k X.A)(ha:PA X (e::es) t)(hx:cJ CX X E:=by exact be)(hk:j<=k:=by decide)(hg:Gl X x:=by rfl)
  (hdb:(x==("__debug__":Str))=false:=by decide)(he:starEach (e::es) X.env=(false,eval e X.env)::starEach es X.env:=by rfl)(hpl:(backTo pos (starEach es X.env)).any (·.1)=false:=by rfl) :
  PE X (.Call (.Name x p) (e::es) [] pos) (uh sp [] E t):=rE G.ok (hr.mono hk) hg G.mgx G.kp G.bd .nil hx ha hdb he hpl
theorem pm{pl:Sem Bool}(G:GM X.prog X.w X.K X.mg X.base CX j C m ps sp)(ho:PE X o ta)(cl:Cls X.K C)(hr:Room k X.A)(ha:PA X (e::es) t)(hx:cJ CX X E:=by exact be)(hk:j<=k:=by decide)
  (hst:starEach (e::es) X.env=(false,eval e X.env)::starEach es X.env:=by rfl)(hpl:(backTo pos (starEach es X.env)).any (·.1)=false:=by rfl)
  (ht:eval (.Call (.Attribute o m apos) (e::es) [] pos) X.env=(do
   let ov ← eval o X.env
   standAt apos.atName
   let (f,first) ← holding [ov] (getMethod ov m pl)
   callWith pos f first (backTo pos (starEach (e::es) X.env)) (backToKw pos (keywordEach [] X.env))):=by rfl) :
  PE X (.Call (.Attribute o m apos) (e::es) [] pos) (qQ C m sp [] E ta t):=gN ho cl G.me G.ok (hr.mono hk) G.bd .nil hx ha hst hpl ht
theorem pm0{pl:Sem Bool}(G:GM X.prog X.w X.K X.mg X.base CX j C m ps sp)(ho:PE X o ta)(cl:Cls X.K C)(hr:Room k X.A)(hx:cJ CX X E:=by exact be)(hk:j<=k:=by decide)
  (ht:eval (.Call (.Attribute o m apos) [] [] pos) X.env=(do
   let ov ← eval o X.env
   standAt apos.atName
   let (f,first) ← holding [ov] (getMethod ov m pl)
   callWith pos f first (backTo pos (starEach [] X.env)) (backToKw pos (keywordEach [] X.env))):=by rfl) :
  PE X (.Call (.Attribute o m apos) [] [] pos) (qQ C m sp [] E ta uf):=ip ho cl G.me G.ok (hr.mono hk) G.bd .nil hx ht
end
end L2
namespace L2
open PySem PySem.Spec PyProof.Rows
section
variable {K:Frag}{a:Addr}{xs:List V}{tt:TT}{te:TE}{bl:St}{Fin:List V->Hp->Prop}{H:Hp}
theorem jR(Pv:Nat->List V->Hp->Prop)(h0:Pv 0 [] H)(hn:xs.length<=sizeLine)(hl:∀i ys H,i<=xs.length->Pv i ys H->SqL K H a xs)
  (hs:∀i x ys H,xs[i]?=some x->Pv i ys H->tt (some x::bl) H λc H2=>if c=true then te (some x::bl) H2 λy H3=>Pv (i+1) (ys++[y]) H3 else Pv (i+1) ys H2)
  (hd:∀ys H,Pv xs.length ys H->Fin ys H) :
  ∃(W:Nat->List V->Hp->Prop) (n:Nat),W 0 [] H/\n<=sizeLine/\∀i ys H,W i ys H->((Itl K a).stop i H/\Fin ys H) \/
   ((Itl K a).go i H/\i<n/\∀x H',(Itl K a).yld i H x H'->tt (some x::bl) H' λc H2=>if c=true then te (some x::bl) H2 λy H3=>W (i+1) (ys++[y]) H3 else W (i+1) ys H2):=by
 refine ⟨λi ys H=>i<=xs.length/\Pv i ys H,xs.length,⟨Nat.zero_le _,h0⟩,hn,?_⟩
 rintro i ys H ⟨hi,p⟩
 have q:=hl i ys H hi p
 by_cases hlt:i<xs.length
 ·refine .inr ⟨⟨xs,xs[i],q,by simp [hlt]⟩,hlt,λx H' y=>?_⟩
  obtain ⟨e,y⟩:=y
  subst e
  have z:=hs i x ys _ (y xs q) p
  have e1:(λ(c:Bool) (H2:Hp)=>if c=true then te (some x::bl) H2 λy H3=>i+1<=xs.length/\Pv (i+1) (ys++[y]) H3 else i+1<=xs.length/\Pv (i+1) ys H2)=λc H2=>if c=true then te (some x::bl) H2 λy H3=>Pv (i+1) (ys++[y]) H3 else Pv (i+1) ys H2:=by
   have e2:(i+1<=xs.length)=True:=eq_true hlt
   funext c H2
   simp only [e2,true_and]
  show tt _ _ _
  rw [e1]
  exact z
 ·have e:i=xs.length:=by omega
  subst e
  exact .inl ⟨⟨xs,q,ι _⟩,hd ys H p⟩
theorem lQ{σ:St}{A B:Hp->Prop}(h:A H):AE σ H (λc H2=>if c=true then A H2 else B H2):=by
 show if true=true then A H else B H
 exact @cI (A H) (B H) h
theorem kQ{n:Nat}(Pv:Nat->List V->Hp->Prop)(h0:Pv 0 [] H)(hn:n<=sizeLine)
  (hs:∀(i:Nat) ys H,i<n->Pv i ys H->tt (some (.int i)::bl) H λc H2=>if c=true then te (some (.int i)::bl) H2 λy H3=>Pv (i+1) (ys++[y]) H3 else Pv (i+1) ys H2)
  (hd:∀ys H,Pv n ys H->Fin ys H) :
  ∃(W:Nat->List V->Hp->Prop) (m:Nat),W 0 [] H/\m<=sizeLine/\∀i ys H,W i ys H->((Itr 0 n).stop i H/\Fin ys H) \/
   ((Itr 0 n).go i H/\i<m/\∀x H',(Itr 0 n).yld i H x H'->tt (some x::bl) H' λc H2=>if c=true then te (some x::bl) H2 λy H3=>W (i+1) (ys++[y]) H3 else W (i+1) ys H2):=by
 refine ⟨λi ys H=>i<=n/\Pv i ys H,n,⟨Nat.zero_le _,h0⟩,hn,?_⟩
 rintro i ys H ⟨hi,p⟩
 by_cases hlt:i<n
 ·refine .inr ⟨hlt,hlt,λx H' y=>?_⟩
  obtain ⟨e,y⟩:=y
  subst e
  rw [Int.zero_add] at y
  subst y
  have z:=hs i ys _ hlt p
  have e1:(λ(c:Bool) (H2:Hp)=>if c=true then te (some (.int i)::bl) H2 λy H3=>i+1<=n/\Pv (i+1) (ys++[y]) H3 else i+1<=n/\Pv (i+1) ys H2)=λc H2=>if c=true then te (some (.int i)::bl) H2 λy H3=>Pv (i+1) (ys++[y]) H3 else Pv (i+1) ys H2:=by
   have e2:(i+1<=n)=True:=eq_true hlt
   funext c H2
   simp only [e2,true_and]
  show tt _ _ _
  rw [e1]
  exact z
 ·have e:i=n:=by omega
  subst e
  exact .inl ⟨ι _,hd ys H p⟩
end
end L2
namespace Lo
open PySem L2
inductive Kd where
 | read | mean | change
 deriving DecidableEq
def kdS:Kd->Str
 | .read=>"read"
 | .mean=>"mean"
 | .change=>"change"
theorem zd:¬(("read":Str)="mean"):=by decide +kernel
theorem ze:¬(("read":Str)="change"):=by decide +kernel
theorem zf:¬(("mean":Str)="change"):=by decide +kernel
theorem xL:∀x y,kdS x=kdS y->x=y
 | .read,.read,_=>rfl
 | .mean,.mean,_=>rfl
 | .change,.change,_=>rfl
 | .read,.mean,h=>absurd h zd
 | .read,.change,h=>absurd h ze
 | .mean,.change,h=>absurd h zf
 | .mean,.read,h=>absurd h.symm zd
 | .change,.read,h=>absurd h.symm ze
 | .change,.mean,h=>absurd h.symm zf
def qa:Kd->Int
 | .read=>0
 | .mean=>1
 | .change=>2
abbrev Lk:=Kd×Int×Int
abbrev Pa:=Int×Int
abbrev Pr:=Pa×Lk
def rg:Kd->Kd->Bool
 | .read,.read=>true
 | .read,.mean=>true
 | .mean,.read=>true
 | _,_=>false
def cA(a b:Lk):Bool:=(decide (a.2.2<b.2.1)||decide (b.2.2<a.2.1))||rg a.1 b.1
def bx(a b:Lk):Bool:=(decide (a.2.1<=b.2.1)&&decide (b.2.2<=a.2.2))&&decide (qa b.1<=qa a.1)
theorem sw(a b:Kd):decide ((kdS a,kdS b)∈([("read","read"),("read","mean"),("mean","read")]:List (Str×Str)))=rg a b:=by
 cases a<;>cases b<;>decide +kernel
theorem pY(a b:Kd)(i:Decidable ((kdS a,kdS b)∈([("read","read"),("read","mean"),("mean","read")]:List (Str×Str)))):@decide _ i=rg a b:=(decide_eq_decide.mpr Iff.rfl).trans (sw a b)
def ua(k:Lk):Str×Int×Int:=(kdS k.1,k.2)
theorem so:∀x y,ua x=ua y->x=y:=λx y h=>by
 obtain ⟨a,b⟩:=x
 obtain ⟨c,d⟩:=y
 have h1:=congrArg Prod.fst h
 have h2:=congrArg Prod.snd h
 exact Prod.ext (xL _ _ h1) h2
def cLk:Cod Lk:=By ua so (cT3 cStr cInt cInt)
def cPa:Cod Pa:=cT2 cInt cInt
def cPr:Cod Pr:=cT2 cPa cLk
theorem wA{K:Frag}{H:Hp}{a:Addr}{k:Lk}(h:H a=some (.tup [.str (kdS k.1),.int k.2.1,.int k.2.2])):cLk.rp K H k (.ref a):=⟨a,_,_,_,rfl,.inl h,rfl,rfl,rfl⟩
theorem Ae{K:Frag}{H:Hp}{a:Addr}{u v:V}{k:Pr}(h:H a=some (.tup [u,v]))(h1:cPa.rp K H k.1 u)(h2:cLk.rp K H k.2 v):cPr.rp K H k (.ref a):=⟨a,u,v,rfl,.inl h,h1,h2⟩
def Fix(CL:Addr):HO->Prop
 | .tup _=>True
 | .ins C _ _=>C≠CL
 | _=>False
def FSame(CL:Addr)(H H':Hp):Prop:=∀b o,H b=some o->Fix CL o->H' b=some o
theorem FSame.ts{CL:Addr}{H H':Hp}(h:FSame CL H H'):aT H H':=λb xs e=>h b _ e True.intro
theorem eF{CL:Addr}{H H':Hp}(h:Same H H'):FSame CL H H':=λb o e _=>h b o e
theorem FSame.trans{CL:Addr}{H H1 H2:Hp}(a:FSame CL H H1)(b:FSame CL H1 H2):FSame CL H H2:=λc o e f=>b c o (a c o e f) f
theorem al{H:Hp}{p:Addr}{o:HO}(h:H p=none):Same H (upd H p o):=λb u e=>by
 rw [am (ae e h)]
 exact e
def Kp(p:Addr)(H H':Hp):Prop:=∀b o,b≠p->H b=some o->H' b=some o
theorem Kp.of{p:Addr}{H H':Hp}(h:Same H H'):Kp p H H':=λb o _ e=>h b o e
theorem Kp.trans{p:Addr}{H H1 H2:Hp}(a:Kp p H H1)(b:Kp p H1 H2):Kp p H H2:=λc o n e=>b c o n (a c o n e)
theorem cq{p:Addr}{H:Hp}{o:HO}:Kp p H (upd H p o):=λb u n e=>by
 rw [am n]
 exact e
theorem Kp.fs{CL p:Addr}{H H':Hp}{xs:List V}(h:Kp p H H')(e:H p=some (.lst xs)):FSame CL H H':=λb o q f=>h b o (λz=>by rw [z,e] at q;cases q;exact f) q
theorem fl:¬(("first":Str)="last"):=by decide +kernel
def lf(f l:Int):List (Str×V):=aq "last" (.int l) (aq "first" (.int f) [])
theorem gH(f l:Int):(lf f l).lookup ("first":Str)=some (.int f):=by
 unfold lf
 rw [ah,if_neg fl,ah,if_pos rfl]
theorem iE(f l:Int):(lf f l).lookup ("last":Str)=some (.int l):=by
 unfold lf
 rw [ah,if_pos rfl]
theorem fe(f l:Int){m:Str}(h1:¬m="last")(h2:¬m="first"):(lf f l).lookup m=none:=by
 unfold lf
 rw [ah,if_neg h1,ah,if_neg h2]
 rfl
def LkO(C:Kd->Addr)(H:Hp)(k:Lk)(v:V):Prop:=∃a dx,v=.ref a/\H a=some (.ins (C k.1) dx (lf k.2.1 k.2.2))
theorem LkO.keep{C:Kd->Addr}{CL:Addr}{H H':Hp}{k:Lk}{v:V}(hC:∀k,C k≠CL)(e:FSame CL H H')(h:LkO C H k v):LkO C H' k v:=by
 obtain ⟨a,dx,e1,e2⟩:=h
 exact ⟨a,dx,e1,e a _ e2 (hC _)⟩
def PrO(C:Kd->Addr)(K:Frag)(H:Hp)(x:Pr)(v:V):Prop:=∃a u l,v=.ref a/\SqU K H a [u,l]/\cPa.rp K H x.1 u/\LkO C H x.2 l
theorem PrO.keep{C:Kd->Addr}{CL:Addr}{K:Frag}{H H':Hp}{x:Pr}{v:V}(hC:∀k,C k≠CL)(e:FSame CL H H')(h:PrO C K H x v):PrO C K H' x v:=by
 obtain ⟨a,u,l,e1,e2,e3,e4⟩:=h
 exact ⟨a,u,l,e1,e2.keep e.ts,cPa.keep e.ts e3,e4.keep hC e⟩
def LS(C:Kd->Addr)(CL:Addr)(K:Frag)(H:Hp)(l p:Addr)(ps:List Pr):Prop :=
 ∃dx vs,H l=some (.ins CL dx [("pairs",.ref p)])/\H p=some (.lst vs)/\Paired (PrO C K H) ps vs
theorem pp{F:α->β->Prop}{G:α->β->Prop}{xs:List α}{ys:List β}(h:Paired F xs ys)(f:∀a b,F a b->G a b):Paired G xs ys:=Paired.mapP h f
theorem LS.keep{C:Kd->Addr}{CL:Addr}{K:Frag}{H H':Hp}{l p:Addr}{ps:List Pr}(hC:∀k,C k≠CL)(e:Same H H')(h:LS C CL K H l p ps):LS C CL K H' l p ps:=by
 obtain ⟨dx,vs,e1,e2,e3⟩:=h
 exact ⟨dx,vs,e l _ e1,e p _ e2,pp e3 λ_ _ q=>q.keep hC (eF e)⟩
def hb(ps:List Pr)(k j:Nat):Bool:=match ps[j]?,ps[k]? with
 | some a,some b=>!decide (a.1=b.1)&&!cA a.2 b.2
 | _,_=>false
def gb(ps:List Pr)(k:Nat):Option Nat:=(List.range k).find? (hb ps k)
def zt:Option Nat->V
 | none=>.non
 | some j=>.int j
theorem sZ{ps:List Pr}{k i:Nat}(hi:i<k)(h:hb ps k i=true)(h0:∀j,j<i->hb ps k j=false):gb ps k=some i:=by
 unfold gb
 rw [List.find?_range_eq_some]
 exact ⟨h,List.mem_range.mpr hi,λj hj=>by rw [h0 j hj];rfl⟩
theorem mi{ps:List Pr}{k:Nat}(h0:∀j,j<k->hb ps k j=false):gb ps k=none:=by
 unfold gb
 rw [List.find?_range_eq_none]
 exact λj hj=>by rw [h0 j hj];rfl
def jF{α:Type}(xs:List α)(ix:List Nat):List α:=ix.filterMap (xs[·]?)
theorem sD{α:Type}(xs:List α)(ix:List Nat)(k:Nat):jF xs (ix++[k])=jF xs ix++(xs[k]?).toList:=by
 unfold jF
 rw [List.filterMap_append]
 congr 1
theorem l5{α β:Type}{R:α->β->Prop}{xs:List α}{us:List β}(h:Paired R xs us):∀ix:List Nat,Paired R (jF xs ix) (jF us ix)
 | []=>.nil
 | k::ix=>by
  have ih:=l5 h ix
  unfold jF at ih ⊢
  rw [List.filterMap_cons,List.filterMap_cons]
  cases e:us[k]? with
  | none =>
   have e':xs[k]?=none:=by
    have:=h.len
    rw [List.getElem?_eq_none_iff] at e ⊢
    omega
   rw [e']
   exact ih
  | some u =>
   obtain ⟨x,e',r⟩:=h.get e
   rw [e']
   exact .cons r ih
def iN(ps:List Pr):List Nat:=(List.range ps.length).filter λk=>(gb ps k).isSome
def dY(ps:List Pr):List Pr:=jF ps (iN ps)
def wpl(ps:List Pr)(p:Pa)(k:Nat):Bool:=match ps[k]? with
 | some a=>decide (a.1=p)&&(gb ps k).isSome
 | none=>false
def hE(ps:List Pr)(p:Pa):Option Nat:=(List.range ps.length).find? (wpl ps p)
def gc(ps:List Pr)(p:Pa)(k:Lk):Bool:=ps.any λx=>decide (x.1=p)&&bx x.2 k
def pB(ps:List Pr)(p:Pa)(k:Lk):List Pr:=if gc ps p k=true then ps else ps++[(p,k)]
def wC(ps:List Pr)(p:Pa)(k:Lk):Bool:=gc ps p k||(gb (ps++[(p,k)]) ps.length).isNone
theorem ef{f:Nat->Bool}(i:Nat):(List.range (i+1)).filter f=(List.range i).filter f++(if f i=true then [i] else []):=by
 rw [List.range_succ,List.filter_append]
 congr 1
 rw [List.filter_cons]
 rfl
end Lo
namespace Lo
open PySem L2
theorem nU{X:Cx}{x:Str}{i:Int}{pos:Pos}(hm:∃t,X.mg x=some (.int i t))(hg:Gl X x)(hd:(x==("__debug__":Str))=false:=by decide):PE X (.Name x pos) (tC (.int i)):=by
 obtain ⟨t,e⟩:=hm
 exact fL hg e ⟨t,rfl⟩ hd
def ModT(K:Frag)(a:Addr)(xs:List V):Prop:=∃(o:Obj) (its:Array Value) (n:Nat),K.lookup a=some o/\o.cls=.type "tuple"/\o.data=.seq its n/\its.size<=sizeLine/\Vals xs its.toList
theorem ModT.sq{K:Frag}{a:Addr}{xs:List V}{H:Hp}(h:ModT K a xs):SqU K H a xs:=.inr h
theorem vN{K:Frag}{a:Addr}{x y:Str}{t t':Tok}{od:Option Addr}{n:Nat}{sl:Array (Option Value)}(h:K.lookup a=some ⟨.type "tuple",od,.seq #[.str x t,.str y t'] n,sl⟩):ModT K a [.str x,.str y] :=
 ⟨_,_,n,h,rfl,rfl,by show 2<=sizeLine;decide,.cons ⟨_,rfl⟩ (.cons ⟨_,rfl⟩ .nil)⟩
theorem AY{K:Frag}{a b c d:Addr}{od:Option Addr}{n:Nat}{sl:Array (Option Value)}(h:K.lookup a=some ⟨.type "tuple",od,.seq #[.ref b,.ref c,.ref d] n,sl⟩):ModT K a [.ref b,.ref c,.ref d] :=
 ⟨_,_,n,h,rfl,rfl,by show 3<=sizeLine;decide,.cons rfl (.cons rfl (.cons rfl .nil))⟩
structure TxB(mg:Str->Option Value):Prop where
 isi:mg "isinstance"=none
 int:mg "int"=none
 bool:mg "bool"=none
 str:mg "str"=none
 len:mg "len"=none
 range:mg "range"=none
 tuple:mg "tuple"=none
 list:mg "list"=none
 any:mg "any"=none
 all:mg "all"=none
 max:mg "max"=none
 sorted:mg "sorted"=none
structure TxK(K:Frag)(C:Kd->Addr):Prop where
 cl:∀k,Cls K (C k)
 nF:∀k,NoAttr K (C k) "first"
 nL:∀k,NoAttr K (C k) "last"
def ku:List (Str×PyProof.Rows.KTD.Dat):=[("read",.flat (.int 0)),("mean",.flat (.int 1)),("change",.flat (.int 2))]
theorem rn(k:Kd):PyProof.Rows.KTD.datumAt (kdS k) ku=some (.flat (.int (qa k))):=by
 cases k<;>kernel_rfl
structure TxS(K:Frag)(mg:Str->Option Value):Prop where
 sh:∃aS a0 a1 a2,mg "SHARING"=some (.ref aS)/\ModT K aS [.ref a0,.ref a1,.ref a2]/\ModT K a0 [.str "read",.str "read"]/\ModT K a1 [.str "read",.str "mean"]/\ModT K a2 [.str "mean",.str "read"]
structure TxR(K:Frag)(mg:Str->Option Value):Prop where
 rk:∃aR,mg "RANKS"=some (.ref aR)/\TabK K aR ku
structure TxL(K:Frag)(C:Kd->Addr)(CL:Addr):Prop where
 cl:Cls K CL
 nP:NoAttr K CL "pairs"
 ne:∀k,C k≠CL
theorem uc{K:Frag}{a:Addr}{es:Array DictEntry}{n:Nat}{D:List (Str×PyProof.Rows.KTD.Dat)}(h:K.lookup a=some ⟨.type "dict",none,.dict es n,#[]⟩)(z:(a==sysModules)=false)(r:PyProof.Rows.KTD.rowsLook wu es.toList D=true):TabK K a D:=by
 unfold TabK PyProof.Rows.KTD.tabLook
 rw [z]
 show (true&&(match K.lookup a with | some o=>_ | none=>false))=true
 rw [h]
 simp [r]
def kdN:Kd->Str
 | .read=>"Read"
 | .mean=>"Mean"
 | .change=>"Change"
def hI(k:Kd):Sp:=λvs H Q _=>∃v,vs=[v]/\Q (.str (kdS k)) H
def fx(C:Kd->Addr):Sp:=λvs H Q _=>∃a dx k f l,vs=[.ref a,.int f,.int l]/\H a=some (.ins (C k) dx [])/\Q .non (upd (upd H a (.ins (C k) dx (aq "first" (.int f) []))) a (.ins (C k) dx (lf f l)))
def gs(C:Kd->Addr):Sp:=λvs H Q _=>∃v k,vs=[v]/\LkO C H k v/\∀a,H a=none->Q (.ref a) (upd H a (.tup [.str (kdS k.1),.int k.2.1,.int k.2.2]))
def j8(C:Kd->Addr):Sp:=λvs H Q _=>∃v u k j,vs=[v,u]/\LkO C H k v/\LkO C H j u/\∀H',Same H H'->Q (.bl (cA k j)) H'
def j6(C:Kd->Addr):Sp:=λvs H Q _=>∃v u k j,vs=[v,u]/\LkO C H k v/\LkO C H j u/\∀H',Same H H'->Q (.bl (bx k j)) H'
def jZ(C:Kd->Addr)(K:Frag):Sp:=λvs H Q _=>∃v k,vs=[v]/\cLk.rp K H k v/\∀u H',Same H H'->LkO C H' k u->Q u H'
theorem eC{H:Hp}{x dx:Addr}{o1 o2 o3 o4:HO}(nx:H x=none)(nd:H dx=none):Same H (upd (upd (upd (upd H dx o1) x o2) x o3) x o4):=λb o e=>by
 have n1:b≠x:=ae e nx
 have n2:b≠dx:=ae e nd
 rw [am n1,am n1,am n1,am n2]
 exact e
theorem cy{v:V}:([("pairs",v)]:List (Str×V)).lookup ("pairs":Str)=some v:=by
 show (aq "pairs" v []).lookup ("pairs":Str)=some v
 rw [ah,if_pos rfl]
theorem kL{v:V}{m:Str}(h:¬m="pairs"):([("pairs",v)]:List (Str×V)).lookup m=none:=by
 show (aq "pairs" v []).lookup m=none
 rw [ah,if_neg h]
 rfl
section
variable (C:Kd->Addr)(CL:Addr)(K:Frag)
def ow:Sp:=λvs H Q _=>∃l dx,vs=[.ref l]/\H l=some (.ins CL dx [])/\∀p H',H p=none->H' p=some (.lst [])->H' l=some (.ins CL dx [("pairs",.ref p)])->Kp l H H'->Q .non H'
def j5:Sp:=λvs H Q _=>∃l p ps k,vs=[.ref l,.int (k:Nat)]/\LS C CL K H l p ps/\k<ps.length/\ps.length<=1000/\∀H',Same H H'->Q (zt (gb ps k)) H'
def mF(f:List Pr->List Pr):Sp:=λvs H Q _=>∃l p ps,vs=[.ref l]/\LS C CL K H l p ps/\ps.length<=1000/\∀q H' us,Same H H'->H q=none->H' q=some (.lst us)->Paired (PrO C K H') (f ps) us->Q (.ref q) H'
def mD(f:List Pr->List Pr):Sp:=λvs H Q _=>∃l p ps,vs=[.ref l]/\LS C CL K H l p ps/\ps.length<=1000/\∀q H' us,Same H H'->H q=none->H' q=some (.lst us)->Paired (cPr.rp K H') (f ps) us->Q (.ref q) H'
def jY:Sp:=λvs H Q _=>∃l p ps v x,vs=[.ref l,v]/\LS C CL K H l p ps/\ps.length<=1000/\cPa.rp K H x v/\∀H',Same H H'->Q (zt (hE ps x)) H'
def uw:Sp:=λvs H Q _=>∃l p ps v x u k,vs=[.ref l,v,u]/\LS C CL K H l p ps/\ps.length<1000/\cPa.rp K H x v/\LkO C H k u/\hE ps x=none/\∀H',LS C CL K H' l p (pB ps x k)->Kp p H H'->Q (.bl (wC ps x k)) H'
end
theorem on{ps:List Pr}{p:Pa}{i:Nat}(hi:i<ps.length)(h:wpl ps p i=true)(h0:∀j,j<i->wpl ps p j=false):hE ps p=some i:=by
 unfold hE
 rw [List.find?_range_eq_some]
 exact ⟨h,List.mem_range.mpr hi,λj hj=>by rw [h0 j hj];rfl⟩
theorem jp{ps:List Pr}{p:Pa}(h0:∀j,j<ps.length->wpl ps p j=false):hE ps p=none:=by
 unfold hE
 rw [List.find?_range_eq_none]
 exact λj hj=>by rw [h0 j hj];rfl
theorem bnd{n:Nat}(h:n<=1000):-(2 ^ 62)<=(n:Int)/\(n:Int)<2 ^ 62:=by
 constructor<;>omega
theorem small{n:Nat}(h:n<=1000):n<=sizeLine:=Nat.le_of_lt (bM h)
def aQ(ns:List Int)(k:Nat):Int:=(ns[k]?).getD 0
def pW(K:Frag):Sp:=λvs H Q _=>∃a ns k,vs=[.ref a,.int (k:Nat)]/\SqL K H a ((ns:List Int).map V.int)/\Q (.int (aQ ns k)) H
end Lo
namespace Lo
open PySem L2
theorem uO{α:Type}(xs:List α)(ix:List Nat):(jF xs ix).length<=ix.length:=List.length_filterMap_le _ _
theorem se(ps:List Pr):(dY ps).length<=ps.length:=by
 refine Λ (uO _ _) ?_
 unfold iN
 exact Λ (List.length_filter_le _ _) (Nat.le_of_eq List.length_range)
end Lo
namespace Lo
open PySem L2
section
variable {K:Frag}
theorem qy:PySem.W.kitOne K (.type "int") (.type "int")=some true:=rfl
theorem zM:PySem.W.kitOne K (.type "list") (.type "list")=some true:=rfl
theorem qz:PySem.W.kitOne K (.type "int") (.type "bool")=some false:=by kernel_rfl
end
def fw:Sp:=λvs H Q _=>∃i,vs=[.int i]/\Q (.bl true) H
end Lo
namespace Lo
open PySem L2
theorem oK{X:Cx}{st:List Stmt}{t:TS}(u:TS)(h:PSs X st t)(hw:∀D σ H,u D σ H->t D σ H):PSs X st u:=λpins s σ H D I q=>h pins s σ H D I (hw D σ H q)
end Lo
namespace Lo
open PySem L2
section
variable {K:Frag}{a:Addr}{tt:TT}{te:TE}{bl:St}{Fin:List V->Hp->Prop}{H:Hp}
end
theorem kS{ps:List Pr}{p:Pa}(h:∀x∈ps,x.1=p)(k:Nat):gb ps k=none:=by
 refine mi λj _=>?_
 unfold hb
 cases e1:ps[j]? with
 | none=>rfl
 | some x =>
  cases e2:ps[k]? with
  | none=>rfl
  | some y =>
   have h1:=h x (List.mem_of_getElem? e1)
   have h2:=h y (List.mem_of_getElem? e2)
   show (!decide (x.1=y.1)&&!cA x.2 y.2)=false
   rw [τ (h1.trans h2.symm)]
   rfl
theorem tO{ps:List Pr}{p:Pa}(h:∀x∈ps,x.1=p):dY ps=[]:=by
 unfold dY iN
 have e:(List.range ps.length).filter (λk=>(gb ps k).isSome)=[]:=List.filter_eq_nil_iff.mpr λk _=>by rw [kS h];decide
 rw [e]
 rfl
theorem pH{ps:List Pr}{p:Pa}(h:∀x∈ps,x.1=p)(y:Pa):hE ps y=none:=by
 refine jp λj _=>?_
 unfold wpl
 cases ps[j]? with
 | none=>rfl
 | some a =>
  show (decide (a.1=y)&&(gb ps j).isSome)=false
  rw [kS h]
  simp
end Lo
namespace Lo
open PySem L2
end Lo
namespace Lo
open PySem L2
theorem ww(ns:List Int)(lo hi:Option Int):∃cs:List Int,lL (ns.map V.int) lo hi=cs.map V.int/\cs.length<=ns.length:=by
 refine ⟨(ns.drop (HT.sIx (ns.map V.int).length 0 lo)).take (HT.sIx (ns.map V.int).length (ns.map V.int).length hi-HT.sIx (ns.map V.int).length 0 lo),?_,?_⟩
 ·unfold lL
  rw [List.map_take,List.map_drop]
 ·rw [List.length_take,List.length_drop]
  omega
theorem zV{cs:List Int}{i:Nat}{x:V}(h:(cs.map V.int)[i]?=some x):∃c,x=.int c:=by
 rw [List.getElem?_map] at h
 cases e:cs[i]? with
 | none=>rw [e] at h;cases h
 | some c=>rw [e] at h;exact ⟨c,(Δ h).symm⟩
theorem sN{CL l dl:Addr}{H H1:Hp}(nl:H l=none)(nd:H dl=none)(k:Kp l (upd (upd H dl (.own l)) l (.ins CL dl [])) H1):Same H H1:=λb o e=>by
 have n1:b≠l:=ae e nl
 have n2:b≠dl:=ae e nd
 refine k b o n1 ?_
 rw [am n1,am n2]
 exact e
end Lo
namespace Lo
open PySem L2
section
variable {X:Cx}
end
end Lo
namespace Lo
open PySem L2
section
variable {C:Kd->Addr}{CL:Addr}{K:Frag}{H H':Hp}{l pl pl' d:Addr}{ps ps':List Pr}{own:List (Addr×List V)}{xs ys:List V}
end
end Lo
namespace Lo
open PySem L2
section
variable {X:Cx}
end
end Lo
namespace Lo
open PySem L2
theorem xM{n j:Nat}(h:j<n):ixN n (j:Int)=some j:=by
 unfold ixN
 rw [if_pos ω,if_pos ω,Int.toNat_natCast]
end Lo
namespace Lo
open PySem L2
section
variable {C:Kd->Addr}{CL:Addr}{K:Frag}{H H':Hp}{l pl:Addr}{ps:List Pr}{own:List (Addr×List V)}
end
end Lo
namespace L2
open PySem PySem.Spec PyProof.Rows
section
variable {κ:Type} [DecidableEq κ]
def bo(kvs:List (κ×V))(k:κ):Option V:=(kvs.find? λkv=>decide (kv.1=k)).map (·.2)
def bZ(kvs:List (κ×V))(k:κ)(v:V):List (κ×V) :=
 if (kvs.any λkv=>decide (kv.1=k))=true then kvs.map (λkv=>if kv.1=k then (kv.1,v) else kv) else kvs++[(k,v)]
theorem bz{p:κ×V}{r:List (κ×V)}{k:κ}(e:p.1=k):bo (p::r) k=some p.2:=by simp [bo,List.find?_cons,e]
theorem bK{p:κ×V}{r:List (κ×V)}{k:κ}(e:¬p.1=k):bo (p::r) k=bo r k:=by simp [bo,List.find?_cons,e]
theorem eX(k:κ):∀kvs:List (κ×V),(kvs.any λkv=>decide (kv.1=k))=(bo kvs k).isSome
 | []=>rfl
 | p::r=>by
  rw [List.any_cons]
  by_cases e:p.1=k
  ·simp only [bz e,decide_eq_true e,Bool.true_or,Option.isSome_some]
  ·rw [bK e,Γ e,Bool.false_or];exact eX k r
theorem ot(k j:κ)(y:V):∀kvs:List (κ×V),bo (kvs.map λkv=>if kv.1=k then (kv.1,y) else kv) j=(bo kvs j).map λx=>if j=k then y else x
 | []=>rfl
 | p::r=>by
  have ih:=ot k j y r
  rw [List.map_cons]
  by_cases h:p.1=k
  ·rw [if_pos h]
   by_cases e:p.1=j
   ·rw [bz (p:=(p.1,y)) e,bz e,Option.map_some,if_pos (e.symm.trans h)]
   ·rw [bK (p:=(p.1,y)) e,bK e,ih]
  ·rw [if_neg h]
   by_cases e:p.1=j
   ·rw [bz (p:=p) e,bz e,Option.map_some,if_neg (λz=>h (e.trans z))]
   ·rw [bK (p:=p) e,bK e,ih]
theorem lP(k j:κ)(y:V):∀kvs:List (κ×V),bo kvs k=none->bo (kvs++[(k,y)]) j=if j=k then some y else bo kvs j
 | [],_=>by
  by_cases e:k=j
  ·rw [if_pos e.symm];exact bz (p:=(k,y)) e
  ·rw [if_neg (λz=>e z.symm)];exact bK (p:=(k,y)) e
 | p::r,hn=>by
  rw [List.cons_append]
  have hk:¬p.1=k:=λz=>by rw [bz z] at hn;cases hn
  rw [bK hk] at hn
  have ih:=lP k j y r hn
  by_cases e:p.1=j
  ·rw [bz e,bz e,if_neg (λz=>hk (e.trans z))]
  ·rw [bK e,bK e,ih]
theorem ie(kvs:List (κ×V))(k j:κ)(y:V):bo (bZ kvs k y) j=if j=k then some y else bo kvs j:=by
 unfold bZ
 by_cases a:(kvs.any λkv=>decide (kv.1=k))=true
 ·rw [if_pos a,ot]
  rw [eX] at a
  by_cases e:j=k
  ·obtain ⟨x,hx⟩:=Option.isSome_iff_exists.mp a
   rw [if_pos e,e,hx,Option.map_some,if_pos rfl]
  ·rw [if_neg e]
   cases bo kvs j with
   | none=>rfl
   | some x=>rw [Option.map_some,if_neg e]
 ·rw [if_neg a]
  refine lP k j y kvs ?_
  rw [eX] at a
  cases q:bo kvs k with
  | none=>rfl
  | some x=>rw [q] at a;exact (a rfl).elim
theorem cR(kvs:List (κ×V))(k:κ)(v:V):(bZ kvs k v).length<=kvs.length+1:=by
 unfold bZ
 split
 ·rw [List.length_map];omega
 ·rw [List.length_append,List.length_cons,List.length_nil];omega
theorem oJ{kvs:List (κ×V)}{k:κ}(v:V)(h:bo kvs k=none):bZ kvs k v=kvs++[(k,v)]:=by
 unfold bZ
 rw [eX,h]
 exact if_neg ζ
theorem RelO.isSome_eq{o:Option V}{u:Option Value}(r:RelO o u):o.isSome=u.isSome:=by
 cases o with
 | none=>cases u with
  | none=>rfl
  | some _=>exact (show False from r).elim
 | some _=>cases u with
  | none=>exact (show False from r).elim
  | some _=>rfl
theorem RelO.getD{o:Option V}{u:Option Value}{d:V}{d':Value}(r:RelO o u)(rd:RelV d d'):RelV (o.getD d) (u.getD d'):=by
 cases o with
 | none=>cases u with
  | none=>exact rd
  | some _=>exact (show False from r).elim
 | some _=>cases u with
  | none=>exact (show False from r).elim
  | some _=>exact r
theorem KV.val{kvs:List (κ×V)}{vs:List (κ×Value)}(r:KV kvs vs)(k:κ):RelO (bo kvs k) (valueAt vs k):=by
 unfold KV at r
 induction r with
 | nil=>exact True.intro
 | @cons p q ps qs h t ih =>
  obtain ⟨h1,h2⟩:=h
  by_cases e:p.1=k
  ·have e':q.1=k:=h1.symm.trans e
   have b:valueAt (q::qs) k=some q.2:=by simp [valueAt,List.find?_cons,e']
   rw [bz e,b];exact h2
  ·have e':¬q.1=k:=λz=>e (h1.trans z)
   have b:valueAt (q::qs) k=valueAt qs k:=by simp [valueAt,List.find?_cons,e']
   rw [bK e,b];exact ih
theorem KV.any{kvs:List (κ×V)}{vs:List (κ×Value)}(r:KV kvs vs)(k:κ):(kvs.any λkv=>decide (kv.1=k))=vs.any λkv=>decide (kv.1=k):=by
 unfold KV at r
 induction r with
 | nil=>rfl
 | cons h t ih=>rw [List.any_cons,List.any_cons,ih,h.1]
theorem KV.repl{kvs:List (κ×V)}{vs:List (κ×Value)}(r:KV kvs vs)(k:κ){y:V}{u:Value}(ry:RelV y u) :
  KV (kvs.map λkv=>if kv.1=k then (kv.1,y) else kv) (vs.map λkv=>if kv.1=k then (kv.1,u) else kv):=by
 unfold KV at r ⊢
 induction r with
 | nil=>exact .nil
 | @cons p q ps qs h t ih =>
  rw [List.map_cons,List.map_cons]
  refine .cons ?_ ih
  obtain ⟨h1,h2⟩:=h
  by_cases e:p.1=k
  ·rw [if_pos e,if_pos (h1.symm.trans e)];exact ⟨h1,ry⟩
  ·rw [if_neg e,if_neg (λz=>e (h1.trans z))];exact ⟨h1,h2⟩
theorem KV.put{kvs:List (κ×V)}{vs:List (κ×Value)}(r:KV kvs vs)(k:κ){y:V}{u:Value}(ry:RelV y u):KV (bZ kvs k y) (stored vs k u):=by
 unfold bZ stored
 rw [r.any k]
 by_cases e:(vs.any λkv=>decide (kv.1=k))=true
 ·rw [if_pos e,if_pos e];exact r.repl k ry
 ·rw [if_neg e,if_neg e];exact Paired.snoc r ⟨rfl,ry⟩
theorem KV.length{kvs:List (κ×V)}{vs:List (κ×Value)}(r:KV kvs vs):kvs.length=vs.length:=Paired.length r
end
theorem kR{P:Program}{w:World}{k:Key}{u:Value}(r:RelV (kV k) u):(aL P w).is k u=true:=by
 cases k with
 | inl i=>obtain ⟨t,e⟩:=(show ∃t,u=Value.int i t from r);subst e;exact oY P w i t
 | inr x=>obtain ⟨t,e⟩:=(show ∃t,u=Value.str x t from r);subst e;exact oX P w x t
theorem mh{P:Program}{w:World}:∀{ks:List Key} {us:List Value},Vals (ks.map kV) us->ItemsAre (aL P w) ks us
 | [],_,r=>by rw [List.map_nil] at r;cases r;exact .nil
 | k::ks,_,r=>by
  rw [List.map_cons] at r
  cases r with
  | cons h t=>exact .cons (kR h) (mh t)
abbrev KT(H:Hp):List (List Key×V)->List (List Key×Addr×Value)->Prop:=Paired λp q=>p.1=q.1/\H q.2.1=some (.tup (p.1.map kV))/\RelV p.2 q.2.2
theorem KT.val{H:Hp}{kvs:List (List Key×V)}{xs:List (List Key×Addr×Value)}(r:KT H kvs xs)(k:List Key):RelO (bo kvs k) ((atKey xs k).map (·.2)):=by
 induction r with
 | nil=>exact True.intro
 | @cons p q ps qs h t ih =>
  obtain ⟨h1,_,h2⟩:=h
  by_cases e:p.1=k
  ·have e':q.1=k:=h1.symm.trans e
   have b:atKey (q::qs) k=some q.2:=by simp [atKey,List.find?_cons,e']
   rw [bz e,b];exact h2
  ·have e':¬q.1=k:=λz=>e (h1.trans z)
   have b:atKey (q::qs) k=atKey qs k:=by simp [atKey,List.find?_cons,e']
   rw [bK e,b];exact ih
theorem KT.repl{H:Hp}{kvs:List (List Key×V)}{xs:List (List Key×Addr×Value)}(r:KT H kvs xs)(k:List Key){y:V}{u:Value}(ry:RelV y u) :
  KT H (kvs.map λkv=>if kv.1=k then (kv.1,y) else kv) (xs.map (putAt k u)):=by
 induction r with
 | nil=>exact .nil
 | @cons p q ps qs h t ih =>
  rw [List.map_cons,List.map_cons]
  refine .cons ?_ ih
  obtain ⟨h1,h2,h3⟩:=h
  unfold putAt
  by_cases e:p.1=k
  ·rw [if_pos e,if_pos (h1.symm.trans e)];exact ⟨h1,h2,ry⟩
  ·rw [if_neg e,if_neg (λz=>e (h1.trans z))];exact ⟨h1,h2,h3⟩
theorem KT.put{H:Hp}{kvs:List (List Key×V)}{xs:List (List Key×Addr×Value)}(r:KT H kvs xs)(k:List Key){b:Addr}{y:V}{u:Value}(hb:H b=some (.tup (k.map kV)))(ry:RelV y u) :
  KT H (bZ kvs k y) (storedH xs k b u):=by
 have e:(kvs.any λkv=>decide (kv.1=k))=(atKey xs k).isSome:=by
  rw [eX,(r.val k).isSome_eq,Option.isSome_map]
 unfold bZ storedH
 rw [e]
 by_cases q:(atKey xs k).isSome=true
 ·rw [if_pos q,if_pos q];exact r.repl k ry
 ·rw [if_neg q,if_neg q];exact Paired.snoc r ⟨rfl,hb,ry⟩
theorem KT.keeps{H H':Hp}{kvs:List (List Key×V)}{xs:List (List Key×Addr×Value)}(r:KT H kvs xs)(ht:∀b ys,H b=some (.tup ys)->H' b=some (.tup ys)):KT H' kvs xs :=
 Paired.mapP r λ_ _ z=>⟨z.1,ht _ _ z.2.1,z.2.2⟩
section
variable {P:Program}{w:World}{H:Hp}{h:Heap}{a:Addr}
theorem yy{u:HO}(ok:HOk P w H h)(e:Rd H a u):ObjOk P w H h a u:=e.ok ok
theorem kY{kvs:List (Key×V)}(ok:HOk P w H h)(e:Rd H a (.dK kvs)):kvs.length<=sizeLine/\(a==sysModules)=false/\∃vs,KV kvs vs/\h.DictOf (aL P w) a vs :=
 show ObjOk P w H h a (.dK kvs) from yy ok e
theorem wn{kvs:List (Key×V)}(ok:HOk P w H h)(e:H a=some (.dK kvs)):kvs.length<=sizeLine/\(a==sysModules)=false/\∃vs,KV kvs vs/\h.DictOf (aL P w) a vs:=kY ok (.inl e)
theorem gI{ks:List Key}(ok:HOk P w H h)(e:H a=some (.tup (ks.map kV))):(tupleKind (aL P w)).is h ks a:=by
 obtain ⟨_,its,r,o,h1,h2,n,h3⟩:=(show ObjOk P w H h a (.tup (ks.map kV)) from ok a _ e)
 exact ⟨o,its.toArray,n,h1,h2,h3,by simpa using mh r⟩
theorem kX{kvs:List (List Key×V)}(ok:HOk P w H h)(e:Rd H a (.dT kvs)):kvs.length<=sizeLine/\(a==sysModules)=false /\
  ∃xs,KT H kvs xs/\h.DictOfH (tupleKind (aL P w)) a xs:=by
 obtain ⟨z,y,xs,r,o,es,ep,h1,h2,h3,h4,h5⟩:=(show ObjOk P w H h a (.dT kvs) from yy ok e)
 refine ⟨z,y,xs,r,o,es,ep,h1,h2,h3,h4,λx hx=>?_,h5⟩
 have all:∀{l:List (List Key×V)} {m:List (List Key×Addr×Value)},KT H l m->∀x∈m,(tupleKind (aL P w)).is h x.1 x.2.1:=by
  intro l m q
  induction q with
  | nil=>intro x hx;exact nomatch hx
  | @cons p q ps qs hq t ih =>
   intro x hx
   rcases List.mem_cons.mp hx with e | hx
   ·subst e
    exact gI ok (by rw [← hq.1];exact hq.2.1)
   ·exact ih x hx
 exact all r x hx
theorem wj{kvs:List (List Key×V)}(ok:HOk P w H h)(e:H a=some (.dT kvs)):kvs.length<=sizeLine/\(a==sysModules)=false /\
  ∃xs,KT H kvs xs/\h.DictOfH (tupleKind (aL P w)) a xs:=kX ok (.inl e)
end
def DGet(H:Hp)(a:Addr)(y:V)(r:Option V):Prop :=
 (∃kvs k,Rd H a (.dK kvs)/\y=kV k/\r=bo kvs k)\/∃kvs k b,Rd H a (.dT kvs)/\y=.ref b/\H b=some (.tup (k.map kV))/\r=bo kvs k
def DPut(H:Hp)(a:Addr)(y v:V)(H':Hp):Prop :=
 (∃kvs k,H a=some (.dK kvs)/\y=kV k/\kvs.length<sizeLine/\H'=upd H a (.dK (bZ kvs k v))) \/
 ∃kvs k b,H a=some (.dT kvs)/\y=.ref b/\H b=some (.tup (k.map kV))/\kvs.length<sizeLine/\H'=upd H a (.dT (bZ kvs k v))
theorem DGet.k{H:Hp}{a:Addr}{kvs:List (Key×V)}{k:Key}(e:H a=some (.dK kvs)):DGet H a (kV k) (bo kvs k):=.inl ⟨kvs,k,.inl e,rfl,rfl⟩
theorem DGet.t{H:Hp}{a b:Addr}{kvs:List (List Key×V)}{k:List Key}(e:H a=some (.dT kvs))(eb:H b=some (.tup (k.map kV))):DGet H a (.ref b) (bo kvs k):=.inr ⟨kvs,k,b,.inl e,rfl,eb,rfl⟩
theorem DPut.k{H:Hp}{a:Addr}{kvs:List (Key×V)}{k:Key}{v:V}(e:H a=some (.dK kvs))(hl:kvs.length<sizeLine):DPut H a (kV k) v (upd H a (.dK (bZ kvs k v))):=.inl ⟨kvs,k,e,rfl,hl,rfl⟩
theorem DPut.t{H:Hp}{a b:Addr}{kvs:List (List Key×V)}{k:List Key}{v:V}(e:H a=some (.dT kvs))(eb:H b=some (.tup (k.map kV)))(hl:kvs.length<sizeLine) :
  DPut H a (.ref b) v (upd H a (.dT (bZ kvs k v))):=.inr ⟨kvs,k,b,e,rfl,eb,hl,rfl⟩
section
variable {X:Cx}{pins:List (Addr×Obj)}{σ:St}{H:Hp}{s:Shared}{a:Addr}{y v:V}{u r:Value}{o:Option V}{A:Around}{E:Value->Shared->Prop}
theorem Inv.big(I:Inv X pins σ H s):sysModules<s.heap.objs.size:=by
 have h:mainGlobals<s.heap.objs.size:=(I.mod.glob.keeps I.bk).lt
 exact Nat.lt_trans ζ h
theorem tE{Q:Value->Shared->Prop}(hu:A.units+1<cLine)(I:Inv X pins σ H s)(g:DGet H a y (some v))(ry:RelV y u)(h:∀w' s',Inv X pins σ H s'->RelV v w'->Q w' s') :
  wpAny (model X.prog X.w) A (getItem (.ref a) u) Q E s:=by
 rcases g with ⟨kvs,k,e,ey,l⟩ | ⟨kvs,k,b,e,ey,eb,l⟩
 ·subst ey
  obtain ⟨z,hd,vs,rel,dd⟩:=kY I.hok e
  obtain ⟨w',hw,rw'⟩:=RelO.some_of (v:=v) (o:=valueAt vs k) (by rw [l];exact rel.val k)
  exact wpAny_getItem_of (kR ry) dd.mapOf hw (h w' _ (I.tok _) rw')
 ·subst ey
  cases (show u=Value.ref b from ry)
  obtain ⟨z,hd,xs,rel,dd⟩:=kX I.hok e
  obtain ⟨w',hw,rw'⟩:=RelO.some_of (v:=v) (o:=(atKey xs k).map (·.2)) (by rw [l];exact rel.val k)
  obtain ⟨p,hp,hp2⟩:=Option.map_eq_some_iff.mp hw
  refine wpAny_getItem_heap (tupleKind_room_in1 hu) (gI I.hok eb) dd hp ?_
  rw [hp2]
  exact h w' _ (I.tok _) rw'
theorem Bx{Q:Value->Shared->Prop}(hu:A.units+1<cLine)(I:Inv X pins σ H s)(g:DGet H a y o)(ry:RelV y u)(h:∀s',Inv X pins σ H s'->Q (.bool o.isSome) s') :
  wpAny (model X.prog X.w) A (compareOp .In u (.ref a)) Q E s:=by
 rcases g with ⟨kvs,k,e,ey,l⟩ | ⟨kvs,k,b,e,ey,eb,l⟩
 ·subst ey
  obtain ⟨z,hd,vs,rel,dd⟩:=kY I.hok e
  refine wpAny_in_of (kR ry) hd dd.mapOf ?_
  rw [← (rel.val k).isSome_eq,← l]
  exact h _ (I.tok _)
 ·subst ey
  cases (show u=Value.ref b from ry)
  obtain ⟨z,hd,xs,rel,dd⟩:=kX I.hok e
  refine wpAny_in_heap (tupleKind_room_in1 hu) (gI I.hok eb) hd dd ?_
  have q:=(rel.val k).isSome_eq
  rw [Option.isSome_map] at q
  rw [← q,← l]
  exact h _ (I.tok _)
theorem ya{Q:Value->Shared->Prop}(hu:A.units+1<cLine)(I:Inv X pins σ H s)(g:DGet H a y o)(ry:RelV y u)(h:∀s',Inv X pins σ H s'->Q (.bool (!o.isSome)) s') :
  wpAny (model X.prog X.w) A (compareOp .NotIn u (.ref a)) Q E s:=by
 rcases g with ⟨kvs,k,e,ey,l⟩ | ⟨kvs,k,b,e,ey,eb,l⟩
 ·subst ey
  obtain ⟨z,hd,vs,rel,dd⟩:=kY I.hok e
  refine wpAny_notIn_of (kR ry) hd dd.mapOf ?_
  rw [← (rel.val k).isSome_eq,← l]
  exact h _ (I.tok _)
 ·subst ey
  cases (show u=Value.ref b from ry)
  obtain ⟨z,hd,xs,rel,dd⟩:=kX I.hok e
  refine wpAny_notIn_heap (tupleKind_room_in1 hu) (gI I.hok eb) hd dd ?_
  have q:=(rel.val k).isSome_eq
  rw [Option.isSome_map] at q
  rw [← q,← l]
  exact h _ (I.tok _)
theorem iJ{h':Heap}{t':Nat}{ob:HO}(I:Inv X pins σ H s)(mu:Mut (H a))(hs:Heap.SameBut a s.heap h')(he:∃q,h'.get? a=some q)(new:ObjOk X.prog X.w (upd H a ob) h' a ob) :
  Inv X pins σ (upd H a ob) {s with heap:=h',toks:=t'} :=
 I.write (x:=a) (e:=a) mu (.inl rfl) (λb q hb z=>(hs.2 b hb).trans z) he new
theorem qE{P:Program}{w:World}{H':Hp}{h':Heap}{kvs:List (Key×V)}{vs:List (Key×Value)}(z:kvs.length<=sizeLine)(hd:(a==sysModules)=false)(rel:KV kvs vs)(dd:h'.DictOf (aL P w) a vs) :
  ObjOk P w H' h' a (.dK kvs):=⟨z,hd,vs,rel,dd⟩
theorem tD{H':Hp}{Q:Unit->Shared->Prop}(hu:A.units+1<cLine)(I:Inv X pins σ H s)(g:DPut H a y v H')(ry:RelV y u)(rv:RelV v r)(h:∀s',Inv X pins σ H' s'->Q () s') :
  wpAny (model X.prog X.w) A (setItem (.ref a) u r) Q E s:=by
 rcases g with ⟨kvs,k,e,ey,l,eH⟩ | ⟨kvs,k,b,e,ey,eb,l,eH⟩
 ·subst ey eH
  obtain ⟨z,hd,vs,rel,dd⟩:=wn I.hok e
  have hz:vs.length<=sizeLine:=by rw [← rel.length];exact z
  have hl:(bZ kvs k v).length<=sizeLine:=by have:=cR kvs k v;omega
  refine wpAny_setItem_pairs (hsz:=hz) (kR ry) dd λh' dd' hs=>h _ ?_
  have he:∃q,h'.get? a=some q:=let ⟨q,_,_,hq,_⟩:=dd';⟨q,hq⟩
  exact iJ I (by rw [e];exact True.intro) hs he (qE hl hd (rel.put k rv) dd')
 ·subst ey eH
  cases (show u=Value.ref b from ry)
  obtain ⟨z,hd,xs,rel,dd⟩:=wj I.hok e
  have hz:xs.length<=sizeLine:=by rw [← Paired.length rel];exact z
  have hl:(bZ kvs k v).length<=sizeLine:=by have:=cR kvs k v;omega
  refine wpAny_setItem_heap (hsz:=hz) (tupleKind_room_in1 hu) (gI I.hok eb) dd λh' dd' hs=>h _ ?_
  obtain ⟨q,es,ep,hq,h2,h3,h4,_,h5⟩:=dd'
  refine iJ I (by rw [e];exact True.intro) hs ⟨q,hq⟩ ⟨hl,hd,_,(rel.put k eb rv).keeps λc ys ec=>?_,q,es,ep,hq,h2,h3,h4,h5⟩
  rw [am (bU ec e (λz=>nomatch z))]
  exact ec
end
section
variable {X:Cx}{pins:List (Addr×Obj)}{σ:St}{H:Hp}{s:Shared}{a:Addr}{kvs:List (Key×V)}{k:Key}{u:Value}{A:Around}{E:Value->Shared->Prop}
end
def yi(i:Expr):Prop:=∀ov iv,subscripted i false ov iv=operate [ov,iv] (getItem ov iv)
theorem qS{prog:Program}{w:World}{A:Around}{E:Value->Shared->Prop}{s:Shared}{env:Env}{value slice:Expr}{pos:Pos}{T id:String}{Q:Value->Shared->Prop}
  (hl:typeLookup (.type T) "__getitem__"=pure (some (.builtin id)))(hs:yi slice)
  (h:wpAny (model prog w) A (eval value env) (λo s₁=>wpAny (model prog w) A (eval slice env) (λi s₂=>s₂.TypeIs o T/\wpAny (model prog w) A (getItem o i) Q E s₂) E s₁) E s) :
  wpAny (model prog w) A (eval (.Subscript value slice pos) env) Q E s:=by
 refine Subscript_ (wpAny_mono h (λo s₁ h₁=>wpAny_mono h₁ (λi s₂ h₂=>?_) λ_ _ x=>x) λ_ _ x=>x)
 obtain ⟨hT,h₂⟩:=h₂
 unfold subscriptTail
 refine ε ?_
 rw [getitemInPython_of_ne hT.not_modules]
 refine ε (wpAny_specialOf hT hl ?_)
 have fin:wpAny (model prog w) A (subscripted slice false o i) (λr s₃=>wpAny (model prog w) A (letTemporaryGo value o r >>= λ_=>pure r) Q E s₃) E s₂:=by
  rw [hs o i]
  exact wpAny_operating (wpAny_mono h₂ (λr s₃ h₃=>ε (wpAny_letTemporaryGo (π h₃))) λ_ _ x=>x)
 first
  | exact π (ε fin)
  | exact ε (π (ε fin))
  | exact ε fin
theorem pf{X:Cx}{pins:List (Addr×Obj)}{σ:St}{H:Hp}{s:Shared}{a:Addr}{y:V}{o:Option V}(I:Inv X pins σ H s)(g:DGet H a y o):s.TypeIs (.ref a) "dict":=by
 rcases g with ⟨kvs,k,e,_,_⟩ | ⟨kvs,k,b,e,_,_,_⟩
 ·obtain ⟨_,_,vs,_,dd⟩:=kY I.hok e
  exact dd.typeIs
 ·obtain ⟨_,_,xs,_,dd⟩:=kX I.hok e
  exact dd.typeIs
def Az(td ty:TE):TE:=fun σ H Q=>td σ H λx H1=>ty σ H1 λy H2=>∃a v,x=.ref a/\DGet H2 a y (some v)/\Q v H2
def Bn(ty td:TE):TE:=fun σ H Q=>ty σ H λy H1=>td σ H1 λx H2=>∃a o,x=.ref a/\DGet H2 a y o/\Q (.bl o.isSome) H2
def wP(ty td:TE):TE:=fun σ H Q=>ty σ H λy H1=>td σ H1 λx H2=>∃a o,x=.ref a/\DGet H2 a y o/\Q (.bl (!o.isSome)) H2
def AM(td ty tv:TE):TS:=λD σ H=>tv σ H λv H1=>td σ H1 λx H2=>ty σ H2 λy H3=>∃a H4,x=.ref a/\DPut H3 a y v H4/\D.nx σ H4
section
variable {X:Cx}{o i e value:Expr}{pos pos' tpos:Pos}{td ty tv:TE}
theorem iw(hu:X.A.units+1<cLine)(ho:PE X o td)(hi:PE X i ty)(hs:yi i):PE X (.Subscript o i pos) (Az td ty):=by
 intro pins s σ H Q I h
 refine qS PySem.F.slot_dict_getitem.lookup hs (thn (ho pins s σ H _ I h) λu s1 ⟨x,H1,I1,rx,q1⟩=>thn (hi pins s1 σ H1 _ I1 q1) λiv s2 ⟨y,H2,I2,ry,a,v,ex,g,q2⟩=>?_)
 subst ex
 obtain rfl:u=Value.ref a:=rx
 exact ⟨pf I2 g,tE hu I2 g ry λw' s3 I3 rw'=>⟨v,H2,I3,rw',q2⟩⟩
theorem qg(hu:X.A.units+1<cLine)(hi:PE X i ty)(ho:PE X o td):PC X .In i o (Bn ty td):=by
 intro pins s σ H Q I h
 refine thn (hi pins s σ H _ I h) λiv s1 ⟨y,H1,I1,ry,q1⟩=>thn (ho pins s1 σ H1 _ I1 q1) λu s2 ⟨x,H2,I2,rx,a,ov,ex,g,q2⟩=>?_
 subst ex
 obtain rfl:u=Value.ref a:=rx
 exact Bx hu I2 g ry λs3 I3=>⟨.bl ov.isSome,H2,I3,rfl,q2⟩
theorem jd(hu:X.A.units+1<cLine)(hi:PE X i ty)(ho:PE X o td):PC X .NotIn i o (wP ty td):=by
 intro pins s σ H Q I h
 refine thn (hi pins s σ H _ I h) λiv s1 ⟨y,H1,I1,ry,q1⟩=>thn (ho pins s1 σ H1 _ I1 q1) λu s2 ⟨x,H2,I2,rx,a,ov,ex,g,q2⟩=>?_
 subst ex
 obtain rfl:u=Value.ref a:=rx
 exact ya hu I2 g ry λs3 I3=>⟨.bl (!ov.isSome),H2,I3,rfl,q2⟩
theorem il(hu:X.A.units+1<cLine)(ho:PE X o td)(hi:PE X i ty)(hv:PE X value tv)(hs:swapsWith value (some (.Subscript o i pos')) pos.line X.env=pure false) :
  PS X (.Assign [.Subscript o i pos'] value pos) (AM td ty tv):=by
 intro pins s σ H D I h
 refine wpAny_Assign_Subscript (thn (hv pins s σ H _ I h) λr s1 ⟨v,H1,I1,rv,q1⟩=>thn (ho pins s1 σ H1 _ I1 q1) λu s2 ⟨x,H2,I2,rx,q2⟩=>thn (hi pins s2 σ H2 _ I2 q2) λiv s3 ⟨y,H3,I3,ry,a,H4,ex,g,q3⟩=>?_) hs
 subst ex
 obtain rfl:u=Value.ref a:=rx
 exact tD hu I3 g ry rv λs4 I4=>⟨σ,H4,I4,q3⟩
end
theorem wo{P:Program}{w:World}{H:Hp}(h:Heap)(hb:sysModules<h.objs.size):ObjOk P w H (h.push {cls:=.type "dict",data:=.dict #[]}) h.objs.size (.dK []) :=
 ⟨Nat.zero_le _,beq_eq_false_iff_ne.mpr (Ne.symm (Φ hb)),[],.nil,Heap.DictOf.new h⟩
theorem wl{P:Program}{w:World}{H:Hp}(h:Heap)(hb:sysModules<h.objs.size):ObjOk P w H (h.push {cls:=.type "dict",data:=.dict #[]}) h.objs.size (.dT []) :=
 ⟨Nat.zero_le _,beq_eq_false_iff_ne.mpr (Ne.symm (Φ hb)),[],.nil,_,#[],0,ψ _ rfl,⟨rfl,rfl,rfl⟩,rfl,rfl,List.nodup_nil⟩
def yT:TE:=λ_ H Q=>∀p,H p=none->Q (.ref p) (upd H p (.dK []))
def yR:TE:=λ_ H Q=>∀p,H p=none->Q (.ref p) (upd H p (.dT []))
section
variable {X:Cx}{pos:Pos}
theorem ir:PE X (.Dict [] [] pos) yT:=λpins s σ H Q I h =>
 wpAny_Dict_empty ⟨.ref s.heap.objs.size,_,I.laid (a:=s.heap.objs.size) (o:=.dK []) (t':=s.toks) (λ_ _ q=>ρ _ q) (ι _) (wo s.heap I.big),rfl,h _ (I.hok.fresh (ι _))⟩
theorem dJ:PE X (.Dict [] [] pos) yR:=λpins s σ H Q I h =>
 wpAny_Dict_empty ⟨.ref s.heap.objs.size,_,I.laid (a:=s.heap.objs.size) (o:=.dT []) (t':=s.toks) (λ_ _ q=>ρ _ q) (ι _) (wl s.heap I.big),rfl,h _ (I.hok.fresh (ι _))⟩
end
def aP(kvs more:List (Key×V)):List (Key×V):=more.foldl (λacc kv=>bZ acc kv.1 kv.2) kvs
theorem KV.merge:∀{more:List (Key×V)} {rs:List (Key×Value)} {kvs:List (Key×V)} {vs:List (Key×Value)},KV more rs->KV kvs vs->KV (aP kvs more) (merged vs rs):=by
 intro more rs kvs vs r
 unfold KV at r
 induction r generalizing kvs vs with
 | nil=>intro q;exact q
 | @cons p q ps qs h t ih =>
  intro r0
  have e:KV (bZ kvs p.1 p.2) (stored vs q.1 q.2):=by
   have:=r0.put p.1 h.2
   rw [← h.1];exact this
  exact ih e
theorem cK:∀(more kvs:List (Key×V)),(aP kvs more).length<=kvs.length+more.length
 | [],kvs=>by show kvs.length<=kvs.length+0;omega
 | p::r,kvs=>by
  have h1:=cK r (bZ kvs p.1 p.2)
  have h2:=cR kvs p.1 p.2
  show (aP (bZ kvs p.1 p.2) r).length<=_
  rw [List.length_cons];omega
structure M1(X:Cx)(o:Expr)(m:Str)(apos:Pos)(e:Expr)(cpos:Pos):Prop where
 base:attributeBase o m X.env (eval o X.env)=eval o X.env
 few:((backTo cpos (starEach [e] X.env)).all (λx=>!x.1)&&(backToKw cpos (keywordEach [] X.env)).all (λx=>x.1.isSome)
  && decide (([e]:List Expr).length+([]:List Keyword).length+(if ([]:List Keyword).isEmpty then 0 else 1)<30))=true
 line:(apos.endLine==cpos.line)=true
 trees:backTo cpos (starEach [e] X.env)=[(false,eval e X.env)]
structure M2(X:Cx)(o:Expr)(m:Str)(apos:Pos)(e f:Expr)(cpos:Pos):Prop where
 base:attributeBase o m X.env (eval o X.env)=eval o X.env
 few:((backTo cpos (starEach [e,f] X.env)).all (λx=>!x.1)&&(backToKw cpos (keywordEach [] X.env)).all (λx=>x.1.isSome)
  && decide (([e,f]:List Expr).length+([]:List Keyword).length+(if ([]:List Keyword).isEmpty then 0 else 1)<30))=true
 line:(apos.endLine==cpos.line)=true
 trees:backTo cpos (starEach [e,f] X.env)=[(false,eval e X.env),(false,eval f X.env)]
def IsD(H:Hp)(a:Addr):Prop:=(∃kvs,Rd H a (.dK kvs))\/∃kvs,Rd H a (.dT kvs)
theorem nQ{X:Cx}{pins:List (Addr×Obj)}{σ:St}{H:Hp}{s:Shared}{a:Addr}(I:Inv X pins σ H s)(d:IsD H a) :
  s.TypeIs (.ref a) "dict"/\(∀b,Value.ref a=.ref b->∃ob,s.heap.get? b=some ob/\ob.dict=none)/\(a==sysModules)=false:=by
 rcases d with ⟨kvs,e⟩ | ⟨kvs,e⟩
 ·obtain ⟨_,hd,vs,_,dd⟩:=kY I.hok e
  refine ⟨dd.typeIs,λb q=>?_,hd⟩
  cases q
  obtain ⟨ob,_,_,h1,h2,_⟩:=dd
  exact ⟨ob,h1,h2.2.1⟩
 ·obtain ⟨_,hd,xs,_,dd⟩:=kX I.hok e
  refine ⟨dd.typeIs,λb q=>?_,hd⟩
  cases q
  obtain ⟨ob,_,_,h1,h2,_⟩:=dd
  exact ⟨ob,h1,h2.2.1⟩
section
variable {X:Cx}{pins:List (Addr×Obj)}{σ:St}{H:Hp}{s:Shared}{a:Addr}{y d:V}{u r:Value}{o:Option V}{A:Around}{E:Value->Shared->Prop}
theorem Ab{Q:Value->Shared->Prop}(hu:A.units+1<cLine)(I:Inv X pins σ H s)(g:DGet H a y o)(ry:RelV y u)(rd:RelV d r)(h:∀w' s',Inv X pins σ H s'->RelV (o.getD d) w'->Q w' s') :
  wpAny (model X.prog X.w) A (call (.builtin "dict.get") [.ref a,u,r]) Q E s:=by
 rcases g with ⟨kvs,k,e,ey,l⟩ | ⟨kvs,k,b,e,ey,eb,l⟩
 ·subst ey
  obtain ⟨z,hd,vs,rel,dd⟩:=kY I.hok e
  refine call_meetsIn PySem.F.slot_dict_get dd.typeIs PySem.F.entry_dict_get (PySem.F.args_dict_get_3 _ _ _) (meets_dict_get_default (aL X.prog X.w) a (kR ry) hd r) ⟨_,dd.mapOf,h _ _ (I.tok _) ?_⟩
  rw [l]
  exact (rel.val k).getD rd
 ·subst ey
  cases (show u=Value.ref b from ry)
  obtain ⟨z,hd,xs,rel,dd⟩:=kX I.hok e
  refine call_meetsIn PySem.F.slot_dict_get dd.typeIs PySem.F.entry_dict_get (PySem.F.args_dict_get_3 _ _ _) (meetsH_dict_get_default (tupleKind (aL X.prog X.w)) a b hd r) ⟨tupleKind_room_in1 hu,k,xs,gI I.hok eb,dd,h _ _ (I.tok _) ?_⟩
  rw [l]
  exact (rel.val k).getD rd
end
def yU(td ty tx:TE):TE:=fun σ H Q=>td σ H λx H1=>∃a,x=.ref a/\IsD H1 a/\ty σ H1 λy H2=>tx σ H2 λz H3=>∃o,DGet H3 a y o/\Q (o.getD z) H3
section
variable {X:Cx}{o e f:Expr}{apos cpos:Pos}{td ty tx:TE}
theorem oN(hu:X.A.units+1<cLine)(ho:PE X o td)(he:PE X e ty)(hf:PE X f tx)(m:M2 X o "get" apos e f cpos):PE X (.Call (.Attribute o "get" apos) [e,f] [] cpos) (yU td ty tx):=by
 intro pins s σ H Q I h
 refine wpAny_Call_method m.base m.few m.line PySem.F.plainAttrs_dict PySem.F.slot_dict_get PySem.F.type_dict_get (thn (ho pins s σ H _ I h) λu s1 ⟨x,H1,I1,rx,a,ex,d,q1⟩=>?_)
 subst ex
 obtain rfl:u=Value.ref a:=rx
 obtain ⟨t1,t2,_⟩:=nQ I1 d
 refine ⟨t1,t2,?_⟩
 rw [m.trees]
 refine Calls.callWith_builtin rfl (Calls.evalArgs_plain (Calls.spliced_cons (thn (he pins s1 σ H1 _ I1 q1) λiv s2 ⟨y,H2,I2,ry,q2⟩ =>
  Calls.spliced_cons (thn (hf pins s2 σ H2 _ I2 q2) λfv s3 ⟨z,H3,I3,rz,ov,g,q3⟩=>Calls.spliced_nil ?_))))
 exact Ab hu I3 g ry rz λw' s4 I4 rw'=>⟨_,H3,I4,rw',q3⟩
end
end L2
namespace Lo
open PySem L2
def sPa(_:Frag)(H:Hp)(x:Pa)(v:V):Prop:=∃a,v=.ref a/\H a=some (.tup [.int x.1,.int x.2])
theorem sPa.c{K:Frag}{H:Hp}{x:Pa}{v:V}(h:sPa K H x v):cPa.rp K H x v:=by
 obtain ⟨a,rfl,e⟩:=h
 exact ⟨a,_,_,rfl,.inl e,rfl,rfl⟩
theorem sPa.keep{K:Frag}{H H':Hp}{x:Pa}{v:V}(e:aT H H')(h:sPa K H x v):sPa K H' x v:=by
 obtain ⟨a,rfl,q⟩:=h
 exact ⟨a,rfl,e _ _ q⟩
def pk(x:Pa):List Key:=[.inl x.1,.inl x.2]
theorem zj{x y:Pa}(h:pk x=pk y):x=y:=by
 unfold pk at h
 simp only [List.cons.injEq,Sum.inl.injEq,and_true] at h
 exact Prod.ext h.1 h.2
theorem sPa.key{K:Frag}{H:Hp}{x:Pa}{v:V}(h:sPa K H x v):∃a,v=.ref a/\H a=some (.tup ((pk x).map kV)):=h
section
variable {C:Kd->Addr}{CL:Addr}{K:Frag}{H H':Hp}
variable {l0 pl0 q0 l1 pl1 q1:Addr}{ps0 ps1:List Pr}{us0 us1:List V}{own:List (Addr×List V)}
end
section
variable {X:Cx}
end
end Lo
namespace L2
open PySem
theorem ik(P:Program)(w:World)(i:Int)(t:Tok):(intKind P w).is i (.int i t)=true:=by simp [intKind,Value.isInt]
abbrev fo:=(Int×Int)×Int
def gJ(h:Heap)(k:fo)(a:Addr):Prop:=∃b t1 t2 t3,h.IsTuple a #[.ref b,.int k.2 t3]/\h.IsTuple b #[.int k.1.1 t1,.int k.1.2 t2]
theorem iO{h:Heap}{a:Addr}{xs ys:Array Value}(p:h.IsTuple a xs)(q:h.IsTuple a ys):xs=ys:=by
 obtain ⟨o,e,_,n,d⟩:=p
 obtain ⟨o',e',_,n',d'⟩:=q
 cases e.symm.trans e'
 rw [d] at d'
 injection d'
theorem js{h h':Heap}{a d:Addr}{xs:Array Value}{o:Obj}{es ep}(p:h.IsTuple a xs)(e:h.get? d=some o)(c:o.data=.dict es ep)(hs:Heap.SameBut d h h'):h'.IsTuple a xs:=by
 obtain ⟨o',e',c',n,d'⟩:=p
 refine ⟨o',(hs.2 a ?_).trans e',c',n,d'⟩
 intro z
 subst z
 cases e'.symm.trans e
 rw [c] at d'
 cases d'
theorem oV{h:Heap}{a:Addr}{x y:fo}(p:gJ h x a)(q:gJ h y a):x=y:=by
 obtain ⟨b,t1,t2,t3,p1,p2⟩:=p
 obtain ⟨c,u1,u2,u3,q1,q2⟩:=q
 have e1:=iO p1 q1
 simp only [Array.mk.injEq,List.cons.injEq,Value.ref.injEq,Value.int.injEq,and_true] at e1
 obtain ⟨e0,e1,_⟩:=e1
 subst e0
 have e2:=iO p2 q2
 simp only [Array.mk.injEq,List.cons.injEq,Value.int.injEq,and_true] at e2
 exact Prod.ext (Prod.ext e2.1.1 e2.2.1) e1
variable {prog:Program}{w:World}{A:Around}{E:Value->Shared->Prop}{s:Shared}
theorem xG{h:Heap}{b:Addr}{i j:Int}{t u:Tok}(p:h.IsTuple b #[.int i t,.int j u]):IsTupleKey (intKind prog w) h [i,j] b:=by
 obtain ⟨o,e,c,n,d⟩:=p
 exact ⟨o,_,n,e,c,d,.cons (ik prog w i t) (.cons (ik prog w j u) .nil)⟩
def kI(k:fo):Int:=reduceHash (Builtin.Tuple.tupleHashOf [reduceHash (Builtin.Tuple.tupleHashOf [hashInt k.1.1,hashInt k.1.2]),hashInt k.2])
theorem sO{k:fo}{a:Addr}{Q:Int->Shared->Prop}(hu:A.units+1<cLine)(x:gJ s.heap k a)(q:Q (kI k) {s with toks:=s.toks+5}) :
  wpAny (model prog w) A (pyHash (.ref a)) Q E s:=by
 obtain ⟨b,t1,t2,t3,p1,p2⟩:=x
 have ty:s.TypeIs (.ref a) "tuple":=let ⟨o,e,c,_⟩:=p1;⟨o,e,c⟩
 obtain ⟨o,e,_,n,d⟩:=p1
 unfold pyHash
 first | unfold pyHashByItsType | skip
 first | refine ε (wpAny_cRoomFor_or (.inr ω) ?_) | skip
 refine ε (wpAny_specialOf ty F.slot_tuple_hash.lookup ?_)
 have hne:¬((some (Value.builtin "tuple.__hash__")==some Value.none)=true):=by rw [beq_builtin_none];decide
 rw [if_neg hne]
 refine ε (wpAny_specialOf ty F.slot_tuple_hash.lookup ?_)
 refine ε (wpAny_callSpecialIfBoundUnlessNone?_slot ty F.slot_tuple_hash (wpAny_call_entry F.slot_tuple_hash ty F.entry_tuple_hash ?_ (F.args_tuple_hash_1 _)))
 show wpAny _ _ (Builtin.Tuple.tupleItemsOf (.ref a) >>= λ_=>_) _ _ s
 refine ε (wpAny_tupleItemsOf e d ?_)
 refine ε ?_
 rw [← Array.forIn_toList]
 refine wpAny_forIn_list _
  (λrest (c:Array Int) s'=>(rest=[.ref b,.int k.2 t3]/\c=#[]/\s'=s)\/(rest=[.int k.2 t3]/\c=#[tupleKeyHash (intKind prog w) [k.1.1,k.1.2]]/\s'={s with toks:=s.toks+3}) \/
   (rest=[]/\c=#[tupleKeyHash (intKind prog w) [k.1.1,k.1.2],(intKind prog w).hash k.2]/\s'={s with toks:=s.toks+4})) _ ?_ ?_ _ _ (.inl ⟨rfl,rfl,rfl⟩)
 ·rintro y rest c s' (⟨e1,rfl,rfl⟩ | ⟨e1,rfl,rfl⟩ | ⟨e1,_⟩)
  ·injection e1 with e1 e2
   subst e1 e2
   refine ε (wpAny_pyHash_tuple (knd:=intKind prog w) (ks:=[k.1.1,k.1.2]) (by show A.units+1<cLine;exact hu) (xG p2) ?_)
   first
    | exact π (.inr (.inl ⟨rfl,rfl,rfl⟩))
    | exact ε (π (π (.inr (.inl ⟨rfl,rfl,rfl⟩))))
  ·injection e1 with e1 e2
   subst e1 e2
   refine ε ((intKind prog w).pyHash (ik prog w k.2 t3) ?_)
   first
    | exact π (.inr (.inr ⟨rfl,rfl,rfl⟩))
    | exact ε (π (π (.inr (.inr ⟨rfl,rfl,rfl⟩))))
  ·cases e1
 ·rintro c s' (⟨e1,_⟩ | ⟨e1,_⟩ | ⟨_,rfl,rfl⟩)
  ·cases e1
  ·cases e1
  show wpAny _ _ (retInt (Builtin.Tuple.tupleHashOf [tupleKeyHash (intKind prog w) [k.1.1,k.1.2],(intKind prog w).hash k.2])) _ _ _
  refine wpAny_ret_mkInt ?_
  have q:Q (reduceHash (Builtin.Tuple.tupleHashOf [tupleKeyHash (intKind prog w) [k.1.1,k.1.2],(intKind prog w).hash k.2])) {s with toks:=s.toks+5}:=q
  unfold reduceHash at q
  generalize Builtin.Tuple.tupleHashOf [tupleKeyHash (intKind prog w) [k.1.1,k.1.2],(intKind prog w).hash k.2]=H0 at q ⊢
  show wpAny _ _ (if (decide (-(2:Int) ^ 63<=H0)&&decide (H0<2 ^ 63))=true then _ else _) Q E _
  by_cases hr:(decide (-(2:Int) ^ 63<=H0)&&decide (H0<2 ^ 63))=true
  ·rw [if_pos hr] at q ⊢
   exact wpAny_pure (by simpa [Nat.add_assoc] using q)
  ·rw [if_neg hr] at q ⊢
   exact wpAny_bind (wpAny_rule (wpAny_pure (by simpa [Nat.add_assoc] using q)))
theorem lY{n:Nat}{a:Addr}{its:Array Value}{Q:Bool->Shared->Prop}(p:s.heap.IsTuple a its)(hi:∀v∈its.toList,∀R:Bool->Shared->Prop,R true s->wpAny (model prog w) A (eqIsQuiet n v) R E s)(q:Q true s) :
  wpAny (model prog w) A (eqIsQuiet (n+1) (.ref a)) Q E s:=by
 have ty:s.TypeIs (.ref a) "tuple":=let ⟨o,e,c,_⟩:=p;⟨o,e,c⟩
 obtain ⟨o,e,_,m,d⟩:=p
 unfold eqIsQuiet
 refine ε (wpAny_specialOf ty F.slot_tuple_eq.lookup ?_)
 refine ε (wpAny_isInstance ty isSubtype_tuple_tuple ?_)
 simp only [Bool.not_true,Bool.false_eq_true,if_false]
 refine ε (wpAny_seqItems e d ?_)
 refine ε ?_
 show wpAny _ _ (forIn its _ _) _ _ s
 rw [← Array.forIn_toList]
 refine wpAny_forIn_list _ (λrest r s'=>r.1=none/\s'=s/\∀v∈rest,v∈its.toList) _ ?_ ?_ _ _ ⟨rfl,rfl,λ_ h=>h⟩
 ·rintro v rest r s' ⟨hr,rfl,hall⟩
  refine ε (hi v (hall v Ω) _ ?_)
  simp only [Bool.not_true,Bool.false_eq_true,if_false]
  exact π ⟨rfl,rfl,λu hu'=>hall u (Θ _ hu')⟩
 ·rintro ⟨r1,r2⟩ s' ⟨hr,rfl,_⟩
  simp only at hr
  subst hr
  exact π q
theorem i9{n:Nat}{v:Value}{R:Bool->Shared->Prop}(h:carriedByValue v=true)(q:R true s):wpAny (model prog w) A (eqIsQuiet n v) R E s:=by
 rw [eqIsQuiet_byValue n h]
 exact π q
theorem ql{k:fo}{a:Addr}{Q:Bool->Shared->Prop}(x:gJ s.heap k a)(q:Q true s):wpAny (model prog w) A (eqIsQuiet 8 (.ref a)) Q E s:=by
 obtain ⟨b,t1,t2,t3,p1,p2⟩:=x
 refine lY (n:=7) p1 (λv hv R hR=>?_) q
 have hv':v∈[Value.ref b,.int k.2 t3]:=hv
 rcases List.mem_cons.mp hv' with e | hv'
 ·subst e
  refine lY (n:=6) p2 (λv hv R hR=>?_) hR
  have hv':v∈[Value.int k.1.1 t1,.int k.1.2 t2]:=hv
  rcases List.mem_cons.mp hv' with e | hv'
  ·subst e;exact i9 rfl hR
  ·rcases List.mem_cons.mp hv' with e | hv'
   ·subst e;exact i9 rfl hR
   ·cases hv'
 ·rcases List.mem_cons.mp hv' with e | hv'
  ·subst e;exact i9 rfl hR
  ·cases hv'
theorem my{α:Type}{a b:α}{j:Nat}(h:j<(#[a,b]:Array α).size):(j=0/\(#[a,b]:Array α)[j]=a)\/(j=1/\(#[a,b]:Array α)[j]=b):=by
 have h':j<2:=h
 match j,h' with
 | 0,_=>exact .inl ⟨rfl,rfl⟩
 | 1,_=>exact .inr ⟨rfl,rfl⟩
theorem l6{b c:Addr}{i j i' j':Int}{t u t' u':Tok}(hu:A.units<cLine)(p:s.heap.IsTuple b #[.int i t,.int j u])(q:s.heap.IsTuple c #[.int i' t',.int j' u']) :
  SeqAt.EqAt A s (.ref b) (.ref c) (decide (i=i')&&decide (j=j')):=by
 by_cases e:b=c
 ·subst e
  have e2:=iO p q
  simp only [Array.mk.injEq,List.cons.injEq,Value.int.injEq,and_true] at e2
  rw [τ e2.1.1,τ e2.2.1]
  exact SeqAt.EqAt.same _
 ·refine SeqAt.EqAt.of_refs e ?_
  have z:=SeqAt.RcAt.tuples (A:=A) (s:=s) (e:=λn=>if n=0 then decide (i=i') else decide (j=j')) p q hu (λn h1 h2=>by
   rcases my h1 with ⟨n0,e1⟩ | ⟨n0,e1⟩<;>rcases my h2 with ⟨m0,e2⟩ | ⟨m0,e2⟩<;>first | (exfalso;omega) | skip
   ·rw [e1,e2];subst n0;show SeqAt.EqAt _ _ _ _ (decide (i=i'));rw [← Bool.beq_eq_decide_eq];exact SeqAt.EqAt.int_int _ t _ t'
   ·rw [e1,e2];subst n0;show SeqAt.EqAt _ _ _ _ (decide (j=j'));rw [← Bool.beq_eq_decide_eq];exact SeqAt.EqAt.int_int _ u _ u')
  have ez:((List.range (min (#[Value.int i t,.int j u]:Array Value).size (#[Value.int i' t',.int j' u']:Array Value).size)).all (λn=>if n=0 then decide (i=i') else decide (j=j'))&&(#[Value.int i t,.int j u]:Array Value).size==(#[Value.int i' t',.int j' u']:Array Value).size)=(decide (i=i')&&decide (j=j')):=by
   show ((decide (i=i')&&(decide (j=j')&&true))&&true)=_
   rw [Bool.and_true,Bool.and_true]
  rw [ez] at z
  exact z
theorem sP{x y:fo}{a c:Addr}(hu:A.units+1<cLine)(p:gJ s.heap x a)(q:gJ s.heap y c):SeqAt.EqAt A s (.ref a) (.ref c) (decide (x=y)):=by
 by_cases e:a=c
 ·subst e
  rw [τ (oV p q)]
  exact SeqAt.EqAt.same _
 ·refine SeqAt.EqAt.of_refs e ?_
  obtain ⟨b,t1,t2,t3,p1,p2⟩:=p
  obtain ⟨d,u1,u2,u3,q1,q2⟩:=q
  have z:=SeqAt.RcAt.tuples (A:=A) (s:=s) (e:=λn=>if n=0 then (decide (x.1.1=y.1.1)&&decide (x.1.2=y.1.2)) else decide (x.2=y.2)) p1 q1 ω (λn h1 h2=>by
   rcases my h1 with ⟨n0,e1⟩ | ⟨n0,e1⟩<;>rcases my h2 with ⟨m0,e2⟩ | ⟨m0,e2⟩<;>first | (exfalso;omega) | skip
   ·rw [e1,e2];subst n0;exact l6 (by show A.units+1<cLine;exact hu) p2 q2
   ·rw [e1,e2];subst n0;show SeqAt.EqAt _ _ _ _ (decide (x.2=y.2));rw [← Bool.beq_eq_decide_eq];exact SeqAt.EqAt.int_int _ t3 _ u3)
  have ez:((List.range (min (#[Value.ref b,.int x.2 t3]:Array Value).size (#[Value.ref d,.int y.2 u3]:Array Value).size)).all (λn=>if n=0 then (decide (x.1.1=y.1.1)&&decide (x.1.2=y.1.2)) else decide (x.2=y.2))&&(#[Value.ref b,.int x.2 t3]:Array Value).size==(#[Value.ref d,.int y.2 u3]:Array Value).size)=decide (x=y):=by
   show (((decide (x.1.1=y.1.1)&&decide (x.1.2=y.1.2))&&(decide (x.2=y.2)&&true))&&true)=_
   rw [Bool.and_true,Bool.and_true,← Bool.decide_and,← Bool.decide_and]
   exact decide_eq_decide.mpr ⟨λz=>Prod.ext (Prod.ext z.1.1 z.1.2) z.2,λz=>by rw [z];exact ⟨⟨rfl,rfl⟩,rfl⟩⟩
  rw [ez] at z
  exact z
def oW(prog:Program)(w:World):HeapKind prog w fo where
 is:=gJ
 hash:=kI
 draws:=λ_=>5
 room:=λA=>A.units+1<cLine
 inj:=λhx hy=>oV hx hy
 keeps:=λx e c hs=>let ⟨b,t1,t2,t3,p1,p2⟩:=x;⟨b,t1,t2,t3,js p1 e c hs,js p2 e c hs⟩
 pyHash:=λhu hk h=>sO hu hk h
 eqBool:=λhu hx hy h=>sP hu hx hy _ _ _ _ h
 quiet:=λhk h=>ql hk h
section
variable {κ:Type} [DecidableEq κ] {knd:HeapKind prog w κ}{d a:Addr}
theorem gT{xs:List (κ×Addr×Value)}{k:κ}{v:Value}{Q:Value->Shared->Prop}(hu:knd.room A)(hkey:knd.is s.heap k a)(hm:s.heap.DictOfH knd d xs)
  (h1:∀p,atKey xs k=some p->Q p.2 {s with toks:=s.toks+knd.draws k})
  (h2:atKey xs k=none->∀h',h'.DictOfH knd d (xs++[(k,a,v)])->Heap.SameBut d s.heap h'->Q v {s with heap:=h',toks:=s.toks+knd.draws k})(hsz:xs.length<=sizeLine) :
  wpAny (model prog w) A (dictSetDefault d (.ref a) v) Q E s:=by
 obtain ⟨o,es,ep,ho,hc,hd,he,his,hn⟩:=hm
 unfold dictSetDefault
 try with_reducible refine wpAny_holding ?_
 refine ε (knd.pyHash hu hkey ?_)
 refine ε (wpAny_dictFind_heap (s:={s with toks:=s.toks+knd.draws k}) hu hkey ho hd he his hn (λhno=>?_) (λj p hj=>?_))
 ·have e0:=atKey_none_of_get hno
  have nk:k∉xs.map (·.1):=not_mem_keys_of_get hno
  refine ε (wpAny_rule (ε (wpAny_updateDictKeys (hz:=by have e:=size_of_entries he;omega) (s:={s with toks:=s.toks+knd.draws k}) ho hd (π (h2 e0 _ ⟨_,_,ep+1,Heap.get?_update_self _ ho (Obj.isFreed_of_dict (Obj.data_mapDictKeys hd _)),
   hc.mapDictKeys _,Obj.data_mapDictKeys hd _,?_,λx hx=>?_,?_⟩ (Heap.SameBut.update ..))))))
  ·simp [he,entryOfKey]
  ·rcases List.mem_append.mp hx with hx | hx
   ·exact knd.keeps (his x hx) ho hd (Heap.SameBut.update ..)
   ·have e1:=List.mem_singleton.mp hx
    subst e1
    exact knd.keeps hkey ho hd (Heap.SameBut.update ..)
  ·rw [List.map_append,List.nodup_append]
   refine ⟨hn,by simp,λx hx y hy e1=>?_⟩
   have hy':y=k:=by simpa using hy
   exact nk (hy'▸e1▸hx)
 ·refine ε (wpAny_dictEntries (s:={s with toks:=s.toks+knd.draws k}) ho hd ?_)
  rw [entry_at he j,hj]
  exact ε (wpAny_rule (π (h1 p (atKey_of_get hn hj))))
theorem iC(knd:HeapKind prog w κ)(d a:Addr)(hd:(d==sysModules)=false)(v:Value) :
  MeetsIn prog w (Builtin.«dict.setdefault» ⟨[.ref d, .ref a, v], []⟩) (fun A R s => knd.room A.in1 ∧ ∃ k xs, knd.is s.heap k a ∧ s.heap.DictOfH knd d xs ∧ xs.length ≤ sizeLine ∧
   (∀p,atKey xs k=some p->R (.ok (.ret p.2)) {s with toks:=s.toks+knd.draws k}) /\
   (atKey xs k=none->∀h',h'.DictOfH knd d (xs++[(k,a,v)])->Heap.SameBut d s.heap h'->R (.ok (.ret v)) {s with heap:=h',toks:=s.toks+knd.draws k})) :=
 .of_wp λA R s ⟨hu,k,xs,hkey,hm,hz,h1,h2⟩=>by
  unfold Builtin.«dict.setdefault»
  refine ε ?_
  unfold Builtin.Dict.keyAndDefault
  refine ε (wpAny_notOrdered_dict hm.typeIs ?_)
  show wpAny _ _ (pure (d,Value.ref a,some v)) _ _ s
  refine π ?_
  show wpAny _ _ (if (d==sysModules)=true then _ else (dictSetDefault d (.ref a) v >>= λ_=>_)) _ _ s
  have hne:¬((d==sysModules)=true):=by rw [hd];decide
  rw [if_neg hne]
  exact ε (gT hu hkey hm (λp hp=>π ⟨_,rfl,h1 p hp⟩) (λe0 h' hm' hs'=>π ⟨_,rfl,h2 e0 h' hm' hs'⟩) hz)
end
end L2
namespace L2
open PySem PySem.Spec PyProof.Rows
def NKeyAt(H:Hp)(k:fo)(b:Addr):Prop:=∃c,H b=some (.tup [.ref c,.int k.2])/\H c=some (.tup [.int k.1.1,.int k.1.2])
theorem NKeyAt.keep{H H':Hp}{k:fo}{b:Addr}(e:aT H H')(h:NKeyAt H k b):NKeyAt H' k b:=by
 obtain ⟨c,h1,h2⟩:=h
 exact ⟨c,e _ _ h1,e _ _ h2⟩
theorem NKeyAt.at{P:Program}{w:World}{H:Hp}{h:Heap}{k:fo}{b:Addr}(ok:HOk P w H h)(q:NKeyAt H k b):gJ h k b:=by
 obtain ⟨c,h1,h2⟩:=q
 obtain ⟨_,its,r,p⟩:=(show ObjOk P w H h b (.tup [.ref c,.int k.2]) from ok b _ h1)
 obtain ⟨_,its',r',p'⟩:=(show ObjOk P w H h c (.tup [.int k.1.1,.int k.1.2]) from ok c _ h2)
 obtain ⟨u1,u2,rfl,e1,e2⟩:=r.two
 obtain ⟨v1,v2,rfl,e3,e4⟩:=r'.two
 cases (show u1=Value.ref c from e1)
 obtain ⟨t,rfl⟩:=e2
 obtain ⟨t1,rfl⟩:=e3
 obtain ⟨t2,rfl⟩:=e4
 exact ⟨c,t1,t2,t,p,p'⟩
abbrev eV:=fo×Addr×Addr
def jG(xs:List eV):List (fo×Addr×Value):=xs.map λx=>(x.1,x.2.1,Value.ref x.2.2)
def zI(a:Addr)(xs:List eV)(h:Heap):Prop:=(a==sysModules)=false/\∃o es ep,h.get? a=some o/\o.ExactDict/\o.data=.dict es ep/\es.toList=(jG xs).map λx=>⟨kI x.1,.ref x.2.1,x.2.2⟩
def NDt(a:Addr)(xs:List eV):HO:=.ext (zI a xs)
def NOk(H:Hp)(xs:List eV):Prop:=(∀x∈xs,NKeyAt H x.1 x.2.1)/\(xs.map (·.1)).Nodup
theorem NOk.keep{H H':Hp}{xs:List eV}(e:aT H H')(h:NOk H xs):NOk H' xs:=⟨λx hx=>(h.1 x hx).keep e,h.2⟩
def qk(xs:List eV)(k:fo):Option Addr:=(xs.find? λx=>decide (x.1=k)).map (·.2.2)
def iB(xs:List eV)(k:fo)(b r:Addr):List eV:=if (qk xs k).isSome=true then xs.map (λx=>if x.1=k then (x.1,x.2.1,r) else x) else xs++[(k,b,r)]
theorem vM(xs:List eV)(k:fo):(atKey (jG xs) k).map (·.2)=(qk xs k).map Value.ref:=by
 unfold atKey jG qk
 rw [List.find?_map]
 cases e:List.find? ((λx:fo×Addr×Value=>decide (x.1=k))∘λx:eV=>(x.1,x.2.1,Value.ref x.2.2)) xs with
 | none =>
  have e':List.find? (λx:eV=>decide (x.1=k)) xs=none:=e
  rw [e'];rfl
 | some y =>
  have e':List.find? (λx:eV=>decide (x.1=k)) xs=some y:=e
  rw [e'];rfl
theorem vK(xs:List eV)(k:fo)(b r:Addr):jG (iB xs k b r)=storedH (jG xs) k b (.ref r):=by
 have e:(atKey (jG xs) k).isSome=(qk xs k).isSome:=by
  have:=congrArg Option.isSome (vM xs k)
  rw [Option.isSome_map,Option.isSome_map] at this
  exact this
 unfold iB storedH
 rw [e]
 by_cases h:(qk xs k).isSome=true
 ·rw [if_pos h,if_pos h]
  unfold jG
  rw [List.map_map,List.map_map]
  refine List.map_congr_left λx _=>?_
  show (λx:eV=>(x.1,x.2.1,Value.ref x.2.2)) (if x.1=k then (x.1,x.2.1,r) else x)=putAt k (.ref r) (x.1,x.2.1,Value.ref x.2.2)
  unfold putAt
  by_cases hx:x.1=k
  ·rw [if_pos hx,if_pos hx]
  ·rw [if_neg hx,if_neg hx]
 ·rw [if_neg h,if_neg h]
  unfold jG
  rw [List.map_append]
  rfl
theorem vL(xs:List eV)(k:fo)(b r:Addr):(iB xs k b r).length<=xs.length+1:=by
 unfold iB
 split
 ·rw [List.length_map];omega
 ·rw [List.length_append];exact ι _
theorem NOk.put{H:Hp}{xs:List eV}{k:fo}{b:Addr}(r:Addr)(h:NOk H xs)(hb:NKeyAt H k b):NOk H (iB xs k b r):=by
 unfold iB
 by_cases c:(qk xs k).isSome=true
 ·rw [if_pos c]
  refine ⟨λx hx=>?_,?_⟩
  ·obtain ⟨y,hy,e⟩:=List.mem_map.mp hx
   subst e
   by_cases hk:y.1=k
   ·rw [if_pos hk];exact h.1 y hy
   ·rw [if_neg hk];exact h.1 y hy
  ·rw [List.map_map]
   have:((λx:eV=>x.1)∘λx:eV=>if x.1=k then (x.1,x.2.1,r) else x)=λx=>x.1:=by
    funext x
    show (if x.1=k then (x.1,x.2.1,r) else x).1=x.1
    split<;>rfl
   rw [this]
   exact h.2
 ·rw [if_neg c]
  refine ⟨λx hx=>?_,?_⟩
  ·rcases List.mem_append.mp hx with hx | hx
   ·exact h.1 x hx
   ·have:=List.mem_singleton.mp hx
    subst this
    exact hb
  ·rw [List.map_append,List.nodup_append]
   refine ⟨h.2,by simp,λx hx y hy e=>c ?_⟩
   have hy':y=k:=by simpa using hy
   subst hy'
   subst e
   obtain ⟨z,hz,e⟩:=List.mem_map.mp hx
   unfold qk
   rw [Option.isSome_map,List.find?_isSome]
   exact ⟨z,hz,τ e⟩
section
variable {X:Cx}{pins:List (Addr×Obj)}{σ:St}{H:Hp}{s:Shared}{a b r:Addr}{xs:List eV}{k:fo}{A:Around}{E:Value->Shared->Prop}
theorem AX(I:Inv X pins σ H s)(e:H a=some (NDt a xs))(ok:NOk H xs):(a==sysModules)=false/\s.heap.DictOfH (oW X.prog X.w) a (jG xs):=by
 obtain ⟨⟨h0,o,es,ep,h1,h2,h3,h4⟩,_⟩:=(show ObjOk X.prog X.w H s.heap a (NDt a xs) from I.hok a _ e)
 refine ⟨h0,o,es,ep,h1,h2,h3,h4,λx hx=>?_,?_⟩
 ·unfold jG at hx
  obtain ⟨y,hy,rfl⟩:=List.mem_map.mp hx
  exact (ok.1 y hy).at I.hok
 ·unfold jG
  rw [List.map_map]
  exact ok.2
theorem rH{a:Addr}{xs:List eV}:∀h1 h2:Heap,zI a xs h1->(∀o,h1.get? a=some o->h2.get? a=some o)->zI a xs h2:=λh1 h2 q k=>by
 obtain ⟨h0,o,es,ep,e,r⟩:=q
 exact ⟨h0,o,es,ep,k _ e,r⟩
theorem zH{Q:Unit->Shared->Prop}(hu:A.units+2<cLine)(I:Inv X pins σ H s)(e:H a=some (NDt a xs))(ok:NOk H xs)(hb:NKeyAt H k b)(hl:xs.length<=sizeLine)(q:∀s',Inv X pins σ (upd H a (NDt a (iB xs k b r))) s'->Q () s') :
  wpAny (model X.prog X.w) A (setItem (.ref a) (.ref b) (.ref r)) Q E s:=by
 obtain ⟨h0,dd⟩:=AX I e ok
 refine wpAny_setItem_heap (knd:=oW X.prog X.w) (k:=k) (hsz:=by unfold jG;rw [List.length_map];exact hl) (by show A.units+1+1<cLine;exact hu) (hb.at I.hok) dd λh' dd' hs=>q _ ?_
 obtain ⟨o,es,ep,h1,h2,h3,h4,_,_⟩:=dd'
 refine iJ I (by rw [e];exact True.intro) hs ⟨o,h1⟩ ⟨⟨h0,o,es,ep,h1,h2,h3,?_⟩,⟨o,h1⟩,rH⟩
 rw [h4,vK]
 rfl
end
def yS:TE:=λ_ H Q=>∀p,H p=none->Q (.ref p) (upd H p (NDt p []))
def AL(td ty tv:TE):TS:=λD σ H=>tv σ H λv H1=>td σ H1 λx H2=>ty σ H2 λy H3=>∃a b r xs k,v=.ref r/\x=.ref a/\y=.ref b/\H3 a=some (NDt a xs)/\NOk H3 xs/\NKeyAt H3 k b/\xs.length<=sizeLine/\D.nx σ (upd H3 a (NDt a (iB xs k b r)))
def AA(td ty tx:TE):TE:=fun σ H Q=>td σ H λx H1=>∃a,x=.ref a/\IsD H1 a/\ty σ H1 λy H2=>tx σ H2 λz H3=>∃kvs k b,H3 a=some (.dT kvs)/\y=.ref b/\H3 b=some (.tup (k.map kV))/\kvs.length<sizeLine /\
 (∀v,bo kvs k=some v->Q v H3)/\(bo kvs k=none->Q z (upd H3 a (.dT (kvs++[(k,z)]))))
section
variable {X:Cx}{o e f i value:Expr}{apos cpos pos pos':Pos}{td ty tx tv:TE}
theorem uT:PE X (.Dict [] [] pos) yS:=λpins s σ H Q I h =>
 wpAny_Dict_empty ⟨.ref s.heap.objs.size,_,I.laid (a:=s.heap.objs.size) (o:=NDt s.heap.objs.size []) (t':=s.toks) (λ_ _ q=>ρ _ q) (ι _)
  ⟨⟨beq_eq_false_iff_ne.mpr (Ne.symm (Φ I.big)),_,#[],0,ψ _ rfl,⟨rfl,rfl,rfl⟩,rfl,rfl⟩,⟨_,ψ _ rfl⟩,rH⟩,rfl,h _ (I.hok.fresh (ι _))⟩
theorem wZ(hu:X.A.units+2<cLine)(ho:PE X o td)(hi:PE X i ty)(hv:PE X value tv)(hs:swapsWith value (some (.Subscript o i pos')) pos.line X.env=pure false) :
  PS X (.Assign [.Subscript o i pos'] value pos) (AL td ty tv):=by
 intro pins s σ H D I h
 refine wpAny_Assign_Subscript (thn (hv pins s σ H _ I h) λr s1 ⟨v,H1,I1,rv,q1⟩=>thn (ho pins s1 σ H1 _ I1 q1) λu s2 ⟨x,H2,I2,rx,q2⟩=>thn (hi pins s2 σ H2 _ I2 q2) λiv s3 ⟨y,H3,I3,ry,a,b,r',xs,k,ev,ex,ey,g1,g2,g3,g4,q3⟩=>?_) hs
 subst ev ex ey
 obtain rfl:u=Value.ref a:=rx
 obtain rfl:iv=Value.ref b:=ry
 obtain rfl:r=Value.ref r':=rv
 exact zH hu I3 g1 g2 g3 g4 λs4 I4=>⟨σ,_,I4,q3⟩
theorem rD(hu:X.A.units+1<cLine)(ho:PE X o td)(he:PE X e ty)(hf:PE X f tx)(m:M2 X o "setdefault" apos e f cpos):PE X (.Call (.Attribute o "setdefault" apos) [e,f] [] cpos) (AA td ty tx):=by
 intro pins s σ H Q I h
 refine wpAny_Call_method m.base m.few m.line PySem.F.plainAttrs_dict PySem.F.slot_dict_setdefault PySem.F.type_dict_setdefault (thn (ho pins s σ H _ I h) λu s1 ⟨x,H1,I1,rx,a,ex,d,q1⟩=>?_)
 subst ex
 obtain rfl:u=Value.ref a:=rx
 obtain ⟨t1,t2,_⟩:=nQ I1 d
 refine ⟨t1,t2,?_⟩
 rw [m.trees]
 refine Calls.callWith_builtin rfl (Calls.evalArgs_plain (Calls.spliced_cons (thn (he pins s1 σ H1 _ I1 q1) λiv s2 ⟨y,H2,I2,ry,q2⟩ =>
  Calls.spliced_cons (thn (hf pins s2 σ H2 _ I2 q2) λfv s3 ⟨z,H3,I3,rz,kvs,k,b,ea,ey,eb,hl,q3,q4⟩=>Calls.spliced_nil ?_))))
 subst ey
 obtain rfl:iv=Value.ref b:=ry
 obtain ⟨hz,hd,xs,rel,dd⟩:=wj I3.hok ea
 have hz':xs.length<=sizeLine:=by rw [← Paired.length rel];exact hz
 refine call_meetsIn PySem.F.slot_dict_setdefault dd.typeIs PySem.F.entry_dict_setdefault (PySem.F.args_dict_setdefault_3 _ _ _) (iC (tupleKind (aL X.prog X.w)) a b hd fv) ⟨tupleKind_room_in1 hu,k,xs,gI I3.hok eb,dd,hz',λp hp=>?_,λhn h' dd' hs=>?_⟩
 ·have rv:=rel.val k
  rw [hp] at rv
  cases l:bo kvs k with
  | none=>rw [l] at rv;exact (show False from rv).elim
  | some v =>
   rw [l] at rv
   exact ⟨v,H3,I3.tok _,rv,q3 v l⟩
 ·have rv:=rel.val k
  rw [hn] at rv
  have l:bo kvs k=none:=by
   cases l:bo kvs k with
   | none=>rfl
   | some v=>rw [l] at rv;exact (show False from rv).elim
  refine ⟨z,_,?_,rz,q4 l⟩
  obtain ⟨q,es,ep,hq,h2,h3,h4,_,h5⟩:=dd'
  have rel':KT H3 (kvs++[(k,z)]) (xs++[(k,b,fv)]):=Paired.snoc rel ⟨rfl,eb,rz⟩
  refine iJ I3 (by rw [ea];exact True.intro) hs ⟨q,hq⟩ ⟨by rw [List.length_append];exact hl,hd,_,rel'.keeps λc ys ec=>?_,q,es,ep,hq,h2,h3,h4,h5⟩
  rw [am (bU ec ea (λz=>nomatch z))]
  exact ec
end
section
variable {X:Cx}
end
end L2
namespace Lo
open PySem L2
def ChAt(K:Frag)(H:Hp)(ch:List Pa)(v:V):Prop:=∃d us,v=.ref d/\SqU K H d us/\Paired (cPa.rp K H) ch us
theorem ChAt.keep{K:Frag}{H H':Hp}{ch:List Pa}{v:V}(e:aT H H')(h:ChAt K H ch v):ChAt K H' ch v:=by
 obtain ⟨d,us,rfl,h1,h2⟩:=h
 exact ⟨d,us,rfl,h1.keep e,pp h2 λ_ _ z=>cPa.keep e z⟩
inductive Rw where
 | beg (p:Pa) (t:Str) | work (p:Pa) | ready (p:Pa) (ch:List Pa) | fin (p:Pa) (o:Str) | over (p:Pa)
 | walk (p:Pa) (i:Int) (ch:List Pa) | undo (p:Pa) (i:Int) (ch:List Pa) | void (p:Pa) (i:Int)
def Rw.nm:Rw->Pa
 | .beg p _=>p
 | .work p=>p
 | .ready p _=>p
 | .fin p _=>p
 | .over p=>p
 | .walk p _ _=>p
 | .undo p _ _=>p
 | .void p _=>p
def Rw.wd:Rw->Str
 | .beg _ _=>"begin"
 | .work _=>"work"
 | .ready _ _=>"ready"
 | .fin _ _=>"end"
 | .over _=>"over"
 | .walk _ _ _=>"walked"
 | .undo _ _ _=>"undone"
 | .void _ _=>"void"
def Rw.more(K:Frag)(H:Hp):Rw->List V->Prop
 | .beg _ t,us=>us=[.str t]
 | .work _,us=>us=[]
 | .ready _ ch,us=>∃a b d,us=[a,b,d]/\ChAt K H ch d
 | .fin _ o,us=>∃a,us=[.str o,a]
 | .over _,us=>us=[]
 | .walk _ i ch,us=>∃c h,us=[.int i,c,h]/\ChAt K H ch c
 | .undo _ i ch,us=>∃c,us=[.int i,c]/\ChAt K H ch c
 | .void _ i,us=>us=[.int i]
def RwAt(K:Frag)(H:Hp)(w:Rw)(r:Addr):Prop:=∃pv us,H r=some (.tup (.str w.wd::pv::us))/\sPa K H w.nm pv/\w.more K H us
theorem RwAt.keep{K:Frag}{H H':Hp}{w:Rw}{r:Addr}(e:aT H H')(h:RwAt K H w r):RwAt K H' w r:=by
 obtain ⟨pv,us,h1,h2,h3⟩:=h
 refine ⟨pv,us,e _ _ h1,h2.keep e,?_⟩
 cases w with
 | beg p t=>exact h3
 | work p=>exact h3
 | ready p ch=>obtain ⟨a,b,d,e1,e2⟩:=h3;exact ⟨a,b,d,e1,e2.keep e⟩
 | fin p o=>exact h3
 | over p=>exact h3
 | walk p i ch=>obtain ⟨a,b,e1,e2⟩:=h3;exact ⟨a,b,e1,e2.keep e⟩
 | undo p i ch=>obtain ⟨a,e1,e2⟩:=h3;exact ⟨a,e1,e2.keep e⟩
 | void p i=>exact h3
structure Sd where
 cells:List Int
 begins:List (Pa×Str)
 worked:List Pa
 ready:List (Pa×Addr×List Pa)
 ends:List (Pa×Str)
 walks:List eV
 overs:List Pa
def Sd.new(cs:List Int):Sd:=⟨cs,[],[],[],[],[],[]⟩
def dW(ps:List Pa):List (List Key×V):=ps.map λp=>(pk p,V.bl true)
def dR(rs:List (Pa×Addr×List Pa)):List (List Key×V):=rs.map λx=>(pk x.1,V.ref x.2.1)
def dE(es:List (Pa×Str)):List (List Key×V):=es.map λx=>(pk x.1,V.str x.2)
theorem mx{α:Type}(xs:List α)(k:α->Pa)(f:α->V)(p:Pa):bo (xs.map λx=>(pk (k x),f x)) (pk p)=(xs.find? λx=>decide (k x=p)).map f:=by
 induction xs with
 | nil=>rfl
 | cons x r ih =>
  rw [List.map_cons]
  by_cases h:k x=p
  ·rw [bz (by rw [h]),List.find?_cons,τ h]
   rfl
  ·rw [bK (λz=>h (zj z)),ih,List.find?_cons,Γ h]
def pG(ps:List Pa)(p:Pa):List Pa:=if p∈ps then ps else ps++[p]
theorem v6(ps:List Pa)(p:Pa):(ps.find? λx=>decide (x=p))=if p∈ps then some p else none:=by
 by_cases h:p∈ps
 ·rw [if_pos h]
  cases e:ps.find? λx=>decide (x=p) with
  | none=>exact absurd (τ rfl) (List.find?_eq_none.mp e p h)
  | some y =>
   have:y=p:=by simpa using List.find?_some e
   rw [this]
 ·rw [if_neg h,List.find?_eq_none]
  intro x hx c
  exact h ((Ξ c)▸hx)
theorem tU(ps:List Pa)(p:Pa):bo (dW ps) (pk p)=if p∈ps then some (.bl true) else none:=by
 unfold dW
 rw [mx ps (λp=>p) (λ_=>V.bl true) p,v6]
 split<;>rfl
theorem uL(ps:List Pa)(p:Pa):bZ (dW ps) (pk p) (.bl true)=dW (pG ps p):=by
 unfold pG
 by_cases h:p∈ps
 ·rw [if_pos h]
  unfold bZ
  rw [eX,tU,if_pos h,if_pos (show (some (V.bl true)).isSome=true from rfl)]
  unfold dW
  rw [List.map_map]
  refine List.map_congr_left λx _=>?_
  show (if pk x=pk p then (pk x,V.bl true) else (pk x,V.bl true))=_
  rw [ite_self]
 ·rw [if_neg h,oJ _ (by rw [tU,if_neg h])]
  unfold dW
  rw [List.map_append]
  rfl
def oH(rs:List (Pa×Addr×List Pa))(p:Pa):Option (Pa×Addr×List Pa):=rs.find? λx=>decide (x.1=p)
theorem pI(rs:List (Pa×Addr×List Pa))(p:Pa):bo (dR rs) (pk p)=(oH rs p).map λx=>V.ref x.2.1:=mx rs (λx=>x.1) (λx=>V.ref x.2.1) p
theorem zi(rs:List (Pa×Addr×List Pa))(p:Pa)(r:Addr)(ch:List Pa)(h:oH rs p=none):bZ (dR rs) (pk p) (.ref r)=dR (rs++[(p,r,ch)]):=by
 rw [oJ _ (by rw [pI,h];rfl)]
 unfold dR
 rw [List.map_append]
 rfl
def iH(es:List (Pa×Str))(p:Pa):Option Str:=(es.find? λx=>decide (x.1=p)).map (·.2)
theorem tV(es:List (Pa×Str))(p:Pa):bo (dE es) (pk p)=(iH es p).map V.str:=by
 unfold dE iH
 rw [mx es (λx=>x.1) (λx=>V.str x.2) p,Option.map_map]
 rfl
def oz(es:List (Pa×Str))(p:Pa)(o:Str):List (Pa×Str):=if (iH es p).isSome=true then es else es++[(p,o)]
def apply(cs:List Int)(ch:List Pa):List Int:=ch.foldl (λcs c=>cs.set c.1.toNat c.2) cs
theorem tG(ch:List Pa):∀cs:List Int,(apply cs ch).length=cs.length:=by
 induction ch with
 | nil=>intro cs;rfl
 | cons c r ih =>
  intro cs
  show (apply (cs.set c.1.toNat c.2) r).length=cs.length
  rw [ih,List.length_set]
theorem qK(cs:List Int)(ch:List Pa)(c:Pa):apply cs (ch++[c])=(apply cs ch).set c.1.toNat c.2:=by
 unfold apply
 rw [List.foldl_append]
 rfl
def Sd.chs(d:Sd):Rw->List Pa
 | .fin p o=>if o="done" then ((oH d.ready p).map λx=>x.2.2).getD [] else []
 | .walk _ _ ch=>ch
 | .undo _ _ ch=>ch
 | _=>[]
def Sd.keep(d:Sd)(r b:Addr)(w:Rw):Sd :=
 let cs:=apply d.cells (d.chs w)
 match w with
 | .beg p t=>{d with cells:=cs,begins:=d.begins++[(p,t)]}
 | .work p=>{d with cells:=cs,worked:=pG d.worked p}
 | .ready p ch=>{d with cells:=cs,ready:=d.ready++[(p,r,ch)]}
 | .fin p o=>{d with cells:=cs,ends:=oz d.ends p o}
 | .over p=>{d with cells:=cs,overs:=pG d.overs p}
 | .walk p i _=>{d with cells:=cs,walks:=iB d.walks (p,i) b r}
 | .undo p i _=>{d with cells:=cs,walks:=iB d.walks (p,i) b r}
 | .void p i=>{d with cells:=cs,walks:=iB d.walks (p,i) b r}
def Sd.fits(d:Sd)(w:Rw):Prop:=(∀c∈d.chs w,0<=c.1/\c.1<d.cells.length)/\∀p ch,w=.ready p ch->oH d.ready p=none
structure Sd.Small(d:Sd)(n:Nat):Prop where
 bg:d.begins.length<=n
 wk:d.worked.length<=n
 rd:d.ready.length<=n
 en:d.ends.length<=n
 wa:d.walks.length<=n
 ov:d.overs.length<=n
theorem pF(ps:List Pa)(p:Pa):(pG ps p).length<=ps.length+1:=by
 unfold pG
 split
 ·omega
 ·rw [List.length_append];exact ι _
theorem uB(ps:List (Pa×Str))(p:Pa)(o:Str):(oz ps p o).length<=ps.length+1:=by
 unfold oz
 split
 ·omega
 ·rw [List.length_append];exact ι _
theorem Sd.Small.keep{d:Sd}{n:Nat}(r b:Addr)(w:Rw)(h:d.Small n):(d.keep r b w).Small (n+1):=by
 obtain ⟨h1,h2,h3,h4,h5,h6⟩:=h
 have a1:=λp=>pF d.worked p
 have a2:=λp=>pF d.overs p
 have a3:=λp o=>uB d.ends p o
 have a4:=λk=>vL d.walks k b r
 cases w with
 | beg p t=>exact ⟨by show (d.begins++[(p,t)]).length<=n+1;rw [List.length_append];show d.begins.length+1<=n+1;omega,υ h2,υ h3,υ h4,υ h5,υ h6⟩
 | work p=>exact ⟨υ h1,Λ (a1 p) ω,υ h3,υ h4,υ h5,υ h6⟩
 | ready p ch=>exact ⟨υ h1,υ h2,by show (d.ready++[(p,r,ch)]).length<=n+1;rw [List.length_append];show d.ready.length+1<=n+1;omega,υ h4,υ h5,υ h6⟩
 | fin p o=>exact ⟨υ h1,υ h2,υ h3,Λ (a3 p o) ω,υ h5,υ h6⟩
 | over p=>exact ⟨υ h1,υ h2,υ h3,υ h4,υ h5,Λ (a2 p) ω⟩
 | walk p i ch=>exact ⟨υ h1,υ h2,υ h3,υ h4,Λ (a4 (p,i)) ω,υ h6⟩
 | undo p i ch=>exact ⟨υ h1,υ h2,υ h3,υ h4,Λ (a4 (p,i)) ω,υ h6⟩
 | void p i=>exact ⟨υ h1,υ h2,υ h3,υ h4,Λ (a4 (p,i)) ω,υ h6⟩
structure Ad where
 (l dx cl bg wk rd en wa ov:Addr)
def Ad.own(A:Ad):List Addr:=[A.cl,A.bg,A.wk,A.rd,A.en,A.wa,A.ov]
def sf(A:Ad):List (Str×V):=aq "overs" (.ref A.ov) (aq "walks" (.ref A.wa) (aq "ends" (.ref A.en) (aq "readies" (.ref A.rd) (aq "worked" (.ref A.wk) (aq "begins" (.ref A.bg) (aq "cells" (.ref A.cl) []))))))
theorem AH(A:Ad):(sf A).lookup ("overs":Str)=some (.ref A.ov):=by
 unfold sf
 rw [ah,if_pos rfl]
theorem AG(A:Ad):(sf A).lookup ("walks":Str)=some (.ref A.wa):=by
 unfold sf
 rw [ah,if_neg θ,ah,if_pos rfl]
theorem yt(A:Ad):(sf A).lookup ("ends":Str)=some (.ref A.en):=by
 unfold sf
 rw [ah,if_neg θ,ah,if_neg θ,ah,if_pos rfl]
theorem rh(A:Ad):(sf A).lookup ("readies":Str)=some (.ref A.rd):=by
 unfold sf
 rw [ah,if_neg θ,ah,if_neg θ,ah,if_neg θ,ah,if_pos rfl]
theorem AF(A:Ad):(sf A).lookup ("worked":Str)=some (.ref A.wk):=by
 unfold sf
 rw [ah,if_neg θ,ah,if_neg θ,ah,if_neg θ,ah,if_neg θ,ah,if_pos rfl]
theorem AI(A:Ad):(sf A).lookup ("begins":Str)=some (.ref A.bg):=by
 unfold sf
 rw [ah,if_neg θ,ah,if_neg θ,ah,if_neg θ,ah,if_neg θ,ah,if_neg θ,ah,if_pos rfl]
theorem uA(A:Ad):(sf A).lookup ("cells":Str)=some (.ref A.cl):=by
 unfold sf
 rw [ah,if_neg θ,ah,if_neg θ,ah,if_neg θ,ah,if_neg θ,ah,if_neg θ,ah,if_neg θ,ah,if_pos rfl]
theorem jv{A:Ad}{m:Str}(h:decide (m∈(["overs","walks","ends","readies","worked","begins","cells"]:List Str))=false):(sf A).lookup m=none:=by
 have h':m∉(["overs","walks","ends","readies","worked","begins","cells"]:List Str):=of_decide_eq_false h
 simp only [List.mem_cons,List.not_mem_nil,or_false,not_or] at h'
 obtain ⟨h1,h2,h3,h4,h5,h6,h7⟩:=h'
 unfold sf
 rw [ah,if_neg h1,ah,if_neg h2,ah,if_neg h3,ah,if_neg h4,ah,if_neg h5,ah,if_neg h6,ah,if_neg h7]
 rfl
def sPB(_:Frag)(H:Hp)(x:Pa×Str)(v:V):Prop:=∃a b,v=.ref a/\H a=some (.tup [.ref b,.str x.2])/\H b=some (.tup [.int x.1.1,.int x.1.2])
theorem sPB.keep{K:Frag}{H H':Hp}{x:Pa×Str}{v:V}(e:aT H H')(h:sPB K H x v):sPB K H' x v:=by
 obtain ⟨a,b,rfl,h1,h2⟩:=h
 exact ⟨a,b,rfl,e _ _ h1,e _ _ h2⟩
def cU(A:Ad)(us:List V)(d:Sd):List (Addr×HO):=[(A.cl,.lst (d.cells.map V.int)),(A.bg,.lst us),(A.wk,.dT (dW d.worked)),(A.rd,.dT (dR d.ready)),(A.en,.dT (dE d.ends)),(A.wa,NDt A.wa d.walks),(A.ov,.dT (dW d.overs))]
structure StU(CS:Addr)(K:Frag)(H:Hp)(A:Ad)(d:Sd)(us:List V):Prop where
 ins:H A.l=some (.ins CS A.dx (sf A))
 co:∀x∈cU A us d,H x.1=some x.2
 bg:Paired (sPB K H) d.begins us
 rd:∀x∈d.ready,RwAt K H (.ready x.1 x.2.2) x.2.1
 wa:NOk H d.walks
 nd:A.own.Nodup
def St(CS:Addr)(K:Frag)(H:Hp)(A:Ad)(d:Sd):Prop:=∃us,StU CS K H A d us
def KpS(A:Ad)(H H':Hp):Prop:=∀b o,b∉A.own->H b=some o->H' b=some o
theorem KpS.of{A:Ad}{H H':Hp}(h:Same H H'):KpS A H H':=λb o _ e=>h b o e
theorem KpS.trans{A:Ad}{H H1 H2:Hp}(a:KpS A H H1)(b:KpS A H1 H2):KpS A H H2:=λc o n e=>b c o n (a c o n e)
theorem xK{A:Ad}{H:Hp}{a:Addr}{o:HO}(h:a∈A.own):KpS A H (upd H a o):=λb u n e=>by
 rw [am (λ(z:b=a)=>n (by rw [z];exact h))]
 exact e
section
variable {CS:Addr}{K:Frag}{H H':Hp}{A:Ad}{d:Sd}{us:List V}
theorem StU.cl(h:StU CS K H A d us):H A.cl=some (.lst (d.cells.map V.int)):=h.co (A.cl,_) (by simp [cU])
theorem StU.bgl(h:StU CS K H A d us):H A.bg=some (.lst us):=h.co (A.bg,_) (by simp [cU])
theorem StU.wk(h:StU CS K H A d us):H A.wk=some (.dT (dW d.worked)):=h.co (A.wk,_) (by simp [cU])
theorem StU.rdd(h:StU CS K H A d us):H A.rd=some (.dT (dR d.ready)):=h.co (A.rd,_) (by simp [cU])
theorem StU.en(h:StU CS K H A d us):H A.en=some (.dT (dE d.ends)):=h.co (A.en,_) (by simp [cU])
theorem StU.wad(h:StU CS K H A d us):H A.wa=some (NDt A.wa d.walks):=h.co (A.wa,NDt A.wa d.walks) (by unfold cU;exact List.mem_cons_of_mem _ (List.mem_cons_of_mem _ (List.mem_cons_of_mem _ (List.mem_cons_of_mem _ (List.mem_cons_of_mem _ List.mem_cons_self)))))
theorem StU.ov(h:StU CS K H A d us):H A.ov=some (.dT (dW d.overs)):=h.co (A.ov,_) (by simp [cU])
theorem StU.own(h:StU CS K H A d us){b:Addr}(hb:b∈A.own):∃o,H b=some o/\(∀xs,o≠.tup xs)/\(∀C dx fs,o≠.ins C dx fs):=by
 have hb':b∈(cU A us d).map (·.1):=hb
 obtain ⟨x,hx,rfl⟩:=List.mem_map.mp hb'
 refine ⟨_,h.co x hx,λxs=>?_,λC dx fs=>?_⟩
 ·simp only [cU,List.mem_cons,List.not_mem_nil,or_false] at hx
  rcases hx with e | e | e | e | e | e | e<;>subst e<;>exact λz=>nomatch z
 ·simp only [cU,List.mem_cons,List.not_mem_nil,or_false] at hx
  rcases hx with e | e | e | e | e | e | e<;>subst e<;>exact λz=>nomatch z
theorem StU.ts(h:StU CS K H A d us)(k:KpS A H H'):aT H H':=λb xs e=>k b _ (λhb=>by
 obtain ⟨o,e1,n,_⟩:=h.own hb
 rw [e] at e1
 exact n xs (Δ e1).symm) e
theorem StU.nl(h:StU CS K H A d us):A.l∉A.own:=λhb=>by
 obtain ⟨o,e1,_,n⟩:=h.own hb
 rw [h.ins] at e1
 exact n _ _ _ (Δ e1).symm
theorem StU.keep(h:StU CS K H A d us)(e:Same H H'):StU CS K H' A d us :=
 ⟨e _ _ h.ins,λx hx=>e _ _ (h.co x hx),pp h.bg λ_ _ z=>z.keep e.ts,λx hx=>(h.rd x hx).keep e.ts,h.wa.keep e.ts,h.nd⟩
theorem St.keep(h:St CS K H A d)(e:Same H H'):St CS K H' A d:=let ⟨us,q⟩:=h;⟨us,q.keep e⟩
theorem St.ts(h:St CS K H A d)(k:KpS A H H'):aT H H':=let ⟨_,q⟩:=h;q.ts k
theorem St.ins(h:St CS K H A d):H A.l=some (.ins CS A.dx (sf A)):=let ⟨_,q⟩:=h;q.ins
theorem iA{own:List (Addr×HO)}(nd:(own.map (·.1)).Nodup)(h:∀x∈own,H x.1=some x.2){i:Nat}{a:Addr}{o o':HO}(hi:own[i]?=some (a,o)):∀x∈own.set i (a,o'),upd H a o' x.1=some x.2:=by
 intro x hx
 obtain ⟨j,hj⟩:=List.mem_iff_getElem?.mp hx
 rw [List.getElem?_set] at hj
 by_cases e:i=j
 ·rw [if_pos e] at hj
  split at hj
  ·cases hj
   exact ad
  ·cases hj
 ·rw [if_neg e] at hj
  have hm:=List.mem_of_getElem? hj
  have ne:x.1≠a:=λz=>e (by
   have e1:(own.map (·.1))[i]?=some a:=by rw [List.getElem?_map,hi];rfl
   have e2:(own.map (·.1))[j]?=some a:=by rw [List.getElem?_map,hj];show some x.1=some a;rw [z]
   exact (List.getElem?_inj (List.getElem?_eq_some_iff.mp e1).1 nd).mp (e1.trans e2.symm))
  rw [am ne]
  exact h x hm
theorem StU.put(h:StU CS K H A d us)(i:Nat){a:Addr}{o o':HO}{d':Sd}{us':List V}(hi:(cU A us d)[i]?=some (a,o))(hc:(cU A us d).set i (a,o')=cU A us' d')(hb:Paired (sPB K H) d'.begins us')
  (hr:∀x∈d'.ready,RwAt K H (.ready x.1 x.2.2) x.2.1)(hw:NOk H d'.walks):StU CS K (upd H a o') A d' us'/\KpS A H (upd H a o'):=by
 have ha:a∈A.own:=by
  have:a∈(cU A us d).map (·.1):=List.mem_map.mpr ⟨_,List.mem_of_getElem? hi,rfl⟩
  exact this
 have k:KpS A H (upd H a o'):=xK ha
 have t:=h.ts k
 refine ⟨⟨k _ _ h.nl h.ins,?_,pp hb λ_ _ z=>z.keep t,λx hx=>(hr x hx).keep t,hw.keep t,h.nd⟩,k⟩
 rw [← hc]
 exact iA (own:=cU A us d) h.nd h.co hi
end
structure TxD(K:Frag)(CS:Addr):Prop where
 cl:Cls K CS
 nc:NoAttr K CS "cells"
 nb:NoAttr K CS "begins"
 nw:NoAttr K CS "worked"
 nr:NoAttr K CS "readies"
 ne:NoAttr K CS "ends"
 na:NoAttr K CS "walks"
 no:NoAttr K CS "overs"
section
variable (CS:Addr)(K:Frag)
def qX:Sp:=λvs H Q _=>∃l dx c cs,vs=[.ref l,.ref c]/\H l=some (.ins CS dx [])/\H c=some (.lst ((cs:List Int).map V.int))/\cs.length<=1000 /\
 ∀A H',A.l=l->St CS K H' A (Sd.new cs)->(∀b∈A.own,H b=none)->Kp l H H'->Q .non H'
def uu:Sp:=λvs H Q _=>∃A d r w,vs=[.ref A.l,.ref r]/\St CS K H A d/\RwAt K H w r/\∀v H',Same H H'->ChAt K H' (d.chs w) v->Q v H'
def pT:Sp:=λvs H Q _=>∃A d r w,vs=[.ref A.l,.ref r]/\St CS K H A d/\RwAt K H w r/\d.Small 900/\d.cells.length<=900/\d.fits w /\
 ∀b H',St CS K H' A (d.keep r b w)->KpS A H H'->Q .non H'
def j7:Sp:=λvs H Q _=>∃A d j c,vs=[.ref A.l,.int (j:Nat)]/\St CS K H A d/\d.cells[j]?=some c/\Q (.int c) H
def mO:Sp:=λvs H Q _=>∃A d,vs=[.ref A.l]/\St CS K H A d/\∀p H',Same H H'->H p=none->H' p=some (.lst (d.cells.map V.int))->Q (.ref p) H'
end
theorem Sd.Small.mono{d:Sd}{n m:Nat}(h:d.Small n)(le:n<=m):d.Small m:=⟨Λ h.bg le,Λ h.wk le,Λ h.rd le,Λ h.en le,Λ h.wa le,Λ h.ov le⟩
theorem St.kp{CS q:Addr}{K:Frag}{H H':Hp}{A:Ad}{d:Sd}(h:St CS K H A d)(k:Kp q H H')(n:q∉A.own)(t:aT H H')(nl:A.l≠q):St CS K H' A d:=by
 obtain ⟨us,h⟩:=h
 refine ⟨us,k _ _ nl h.ins,λx hx=>k _ _ (λz=>n ?_) (h.co x hx),pp h.bg λ_ _ z=>z.keep t,λx hx=>(h.rd x hx).keep t,h.wa.keep t,h.nd⟩
 rw [← z]
 exact List.mem_map.mpr ⟨x,hx,rfl⟩
section
variable {K:Frag}{H H':Hp}{a q:Addr}{xs:List V}{N:List Addr}
end
theorem rN{K:Frag}{H:Hp}:∀xs:List Int,Paired (cInt.rp K H) xs (xs.map V.int)
 | []=>.nil
 | _::xs=>.cons rfl (rN xs)
theorem gO{K:Frag}{H:Hp}{p:Addr}{xs:List Int}(h:H p=some (.lst (xs.map V.int))):wG cInt K H xs (.ref p):=⟨p,_,rfl,SqL.of h,rN xs⟩
theorem bb{f:Str}{v:V}{fs:List (Str×V)}{n:Nat}(h:fs.length<n):(aq f v fs).length<n+1:=by
 have:=cS f v fs
 omega
theorem ck{H:Hp}{l p dx C:Addr}{fs fs':List (Str×V)}{o:HO}(hl:H l=some (.ins C dx fs))(hp:H p=none) :
  (upd H p o) l=some (.ins C dx fs)/\(upd (upd H p o) l (.ins C dx fs')) l=some (.ins C dx fs')/\(upd (upd H p o) l (.ins C dx fs')) p=some o/\Kp l H (upd (upd H p o) l (.ins C dx fs')):=by
 have n:l≠p:=ae hl hp
 exact ⟨by rw [am n];exact hl,ad,by rw [am (Ne.symm n),ad],λb u hb e=>by rw [am hb,am (ae e hp)];exact e⟩
theorem cr{H H':Hp}{l b:Addr}{o:HO}(k:Kp l H H')(hl:H' l=some o)(hb:H' b=none):H b=none:=by
 cases e:H b with
 | none=>rfl
 | some u =>
  have n:b≠l:=λz=>by rw [z,hl] at hb;cases hb
  rw [k b u n e] at hb
  cases hb
theorem eT{k:Nat}{A:Around}(hr:Room k A):A.units+1<cLine:=hun (c:=0) hr
theorem Bv{k:Nat}{A:Around}(hr:Room k A):A.units+2<cLine:=hun (c:=1) hr
theorem zT{n:Nat}{i:Int}(h0:0<=i)(h1:i<n):ixN n i=some i.toNat:=by
 unfold ixN
 rw [if_pos h0,if_pos h1]
theorem at0{x:V}{us:List V}:atI (x::us) (0:Int)=some x:=bp (j:=0) rfl
theorem at1{x y:V}{us:List V}:atI (x::y::us) (1:Int)=some y:=bp (j:=1) rfl
theorem at2{x y z:V}{us:List V}:atI (x::y::z::us) (2:Int)=some z:=bp (j:=2) rfl
end Lo
namespace L2
open PySem PySem.Spec PyProof.Rows
set_option maxHeartbeats 1600000 in
theorem uN{X:Cx}{iy:Nat}{y:Str}{py spos:Pos}{elt iter:Expr}{x:Str}{px:Pos}{ifs:List Expr}{scope:Scope}{pos:Pos}{N':List Str}{fv:List Nat}{wi:TI}{tt:TT}{te:TE}
  (S:bF X.N X.env.scope scope x N' fv)(hc:X.calm=true)(hi:PI X (.Name x px) iter wi)
  (ht:∀C fp s H,PTs (X.blk N' scope C fp s H) ifs tt)(he:∀C fp s H,PE (X.blk N' scope C fp s H) elt te)
  (hN:X.N.Nodup)(hiy:X.N[iy]?=some y)(hxl:Loc X.env.scope y)(hsw:swapsWith (.ListComp elt [⟨.Name x px,iter,ifs,0⟩] scope pos) (some (.Name y py)) spos.line X.env=pure true:=by rfl)
  (hs:∀x,foldedSetIterable iter X.env x=pure x:=by intro _;rfl)(hf:X.fn y=true\/X.env.scope.names.lookup y=some .local:=by first | exact .inl rfl | exact .inr rfl | assumption) :
  PS X (.Assign [.Name y py] (.ListComp elt [⟨.Name x px,iter,ifs,0⟩] scope pos) spos) (yX (tLC wi fv tt te) (v4 iy)):=by
 intro pins s σ H DE I h
 rw [exec_Assign_Name_used _ _ _ _ hsw]
 refine ε (wpAny_standAt (ε ?_))
 show wpAny _ X.A (do let _ ← comprehension (.ListComp elt [⟨.Name x px,iter,ifs,0⟩] scope pos) scope X.env _ (newList []) false (eval iter X.env) (some (assign (.Name y py) X.env))) _ _ s
 refine ε (wpAny_mono (wpAny_comprehension_free (use:=some (assign (.Name y py) X.env)) (Q:=λ_ s'=>SP X pins DE .next s') rfl hs (gj λy hy hk=>I.ok.has y.1 (S.free y hy hk)) S.kind S.names
  (wpAny_mono (hi pins s σ H _ I h) (λxv s1 h1=>wpAny_mono h1 (λitv s2 h2=>?_) λ_ _ e=>e) λ_ _ e=>e)) (λ_ s' hq=>π (π hq)) λ_ _ e=>e)
 obtain ⟨it,fp,tn,J,H2,rfl,I2,T,st2,f2,W,n,w0,hn,turn⟩:=h2
 refine wpAny_newObj_type (wpAny_newFunctionEnv S.nocell (by intro y hy;simp at hy) (λh1 hns hsb=>?_) S.kind)
 dsimp only at hns hsb ⊢
 generalize hH:s2.heap.push {cls:=.type "list",dict:=none,data:=.seq ([]:List Value).toArray}=G at hns hsb ⊢
 have hG:G.objs.size=s2.heap.objs.size+1:=by rw [← hH,Heap.size_push]
 have kpG:∀b o,s2.heap.get? b=some o->G.get? b=some o:=λb o e=>hH▸ρ _ e
 have kp1:∀b o,b<G.objs.size->G.get? b=some o->h1.get? b=some o:=λb o lt e=>hsb.extBut b o (Φ lt) (ρ _ e)
 have kp:∀b o,s2.heap.get? b=some o->h1.get? b=some o:=λb o e=>kp1 b o (by rw [hG];exact Nat.lt_succ_of_lt (η e)) (kpG b o e)
 have hD:h1.PlainList s2.heap.objs.size #[]:=⟨_,kp1 _ _ (by rw [hG];exact Nat.lt_succ_self _) (hH▸ψ _ rfl)⟩
 have hDC:s2.heap.objs.size≠G.objs.size:=by rw [hG];exact Φ (Nat.lt_succ_self _)
 have hC:s2.heap.objs.size<=G.objs.size:=by rw [hG];exact Nat.le_succ _
 have hfo:∀b∈fp,b<s2.heap.objs.size:=λb hb=>by obtain ⟨o,e,_⟩:=T.obj 0 _ st2 b hb;exact η e
 have stat:∀{H':Hp} {pl:List (Addr×Obj)},(∀b∈fp,H' b=none)->(∀p∈pl,p.1∉fp)->∀b∈fp,om (X.blk N' scope G.objs.size fp s2 H2) pl H' b:=λ{H' pl} hn hpl b hb=>by
  obtain ⟨_,g1,g2,g3,g4,g5⟩:=f2 b hb
  refine ⟨hn b hb,Φ (Nat.lt_of_lt_of_le (hfo b hb) hC),λz=>?_,.inl hb,λy c e=>g4 y c (bE e),λp hp e=>?_⟩
  ·rcases List.mem_cons.mp (I2.stkSub b z) with q | q
   ·exact g1 q
   ·exact g2 q
  ·exact hpl p hp (e▸hb)
 have hDf:s2.heap.objs.size∉fp:=λz=>absurd (hfo _ z) (Nat.lt_irrefl _)
 have hlc:(X.blk N' scope G.objs.size fp s2 H2).env.scope.names.lookup x=some .local:=lookup_relabel_local S.loc
 have hcl:∀y c,(X.blk N' scope G.objs.size fp s2 H2).env.cells.lookup y=some c->c≠s2.heap.objs.size:=λy c e z=>by
  obtain ⟨v,q⟩:=I2.cell y c (bE e)
  exact absurd q.lt (by rw [z];exact Nat.lt_irrefl _)
 have pin1:∀{s':Shared} {H':Hp} {ob:Obj} {i:Nat} {ys:List V},Inv (X.blk N' scope G.objs.size fp s2 H2) [] (none::aX fv σ) H' s'->s'.heap.get? s2.heap.objs.size=some ob->(∀v,ob.data≠.cell v)->H' s2.heap.objs.size=none ->
   Inv (X.blk N' scope G.objs.size fp s2 H2) [(s2.heap.objs.size,ob)] (none::aX fv σ) H' s':=λ{s' H' ob i ys} J1 e d f=>J1.pins_of λp hp=>by
  have z:p=(s2.heap.objs.size,ob):=by simpa using hp
  subst z
  refine ⟨e,f,hDC,λz=>?_,d⟩
  rcases List.mem_cons.mp (I2.stkSub _ z) with q | q
  ·exact absurd I2.lt (by rw [← q];exact Nat.lt_irrefl _)
  ·exact I2.nofs (ι _) q
 have loop:∀s3:Shared,s3={s2 with heap:=h1,toks:=s2.toks+([]:List (Str×Value)).length} ->
   codeAny (model X.prog X.w) X.A (.compLoop (.ListComp elt [⟨.Name x px,iter,ifs,0⟩] scope pos) 0 (.ref it) (.ref s2.heap.objs.size) (X.blk N' scope G.objs.size fp s2 H2).env)
    (compPost (model X.prog X.w) X.A X.xe (some (assign (.Name y py) X.env)) (λ_ s'=>SP X pins DE .next s') (.ref s2.heap.objs.size) G.objs.size) s3:=by
  rintro s3 rfl
  refine codeAny_compLoop_tests (λk s'=>∃i ys H' its,k=n+1-i/\i<=n/\ys.length<=i/\Vals ys its/\s'.heap.PlainList s2.heap.objs.size its.toArray /\
   Inv (X.blk N' scope G.objs.size fp s2 H2) [] (none::aX fv σ) H' s'/\H' s2.heap.objs.size=none/\tn i s'.heap/\(∀b∈fp,H' b=none)/\W i ys H') ?_ (n+1)
   ⟨0,[],H2,[],rfl,Nat.zero_le _,ι _,.nil,hD,rW S I2 f2 hfo hC kp hns (λp hp=>nomatch hp),I2.hok.fresh (ι _),T.keep _ _ _ st2 λb _ o e=>kp b o e,λb hb=>(f2 b hb).1,w0⟩
  rintro k s4 ⟨i,ys,H4,its,rfl,hin,hyi,rv,pl4,I4,fD4,st4,ff4,w4⟩
  obtain ⟨cnt,eD⟩:=id pl4
  have I4p:=pin1 (i:=i) (ys:=ys) I4 eD (λv z=>by cases z) fD4
  have np:∀p∈[(s2.heap.objs.size,({cls:=.type "list",data:=.seq its.toArray cnt}:Obj))],p.1∉fp:=λp hp=>by
   have z:p=(s2.heap.objs.size,({cls:=.type "list",data:=.seq its.toArray cnt}:Obj)):=by simpa using hp
   subst z;exact hDf
  rcases turn i ys H4 w4 with ⟨stop,fin⟩ | ⟨go,hi2,step⟩
  ·refine wpAny_mono (T.done (X.blk N' scope G.objs.size fp s2 H2) rfl rfl rfl hc i _ s4 _ H4 _ I4p (stat ff4 np) st4 stop) (λr s5 ⟨hr,I5⟩=>?_) λ_ _ e=>e
   subst hr
   obtain ⟨m5,hm5,_⟩:=I5.loc
   have eD5:s5.heap.get? s2.heap.objs.size=some {cls:=.type "list",data:=.seq its.toArray cnt}:=(I5.pin _ (Ψ _ Ω)).1
   have IF:Inv X pins σ (upd H4 s2.heap.objs.size (.lst ys)) s5:=by
    have sb:Heap.SameBut G.objs.size s5.heap s5.heap:=⟨rfl,λ_ _=>rfl⟩
    have ltC:∀{b:Addr} {o:Obj},s2.heap.get? b=some o->b≠G.objs.size:=λ{b o} e=>Φ (Nat.lt_of_lt_of_le (η e) hC)
    have fD2:H2 s2.heap.objs.size=none:=I2.hok.fresh (ι _)
    have ltD:∀{b:Addr} {o:Obj},s2.heap.get? b=some o->b≠s2.heap.objs.size:=λ{b o} e=>Φ (η e)
    have B:=I5.base
    refine I2.call' (s':=s5) (ch:=fp) I5.os ⟨λb o e nb hb hx=>?_,λb o e nb hb hx=>?_,λb o e nb hx=>?_,λb o e hx=>?_,λb xs e=>?_,λb o u e=>?_,λb ps e=>?_⟩ ?_ I5.bare λb hb=>?_
    ·exact sb.extBut b o (ltC e) (B.keep b o e nb hb hx)
    ·obtain ⟨sl,q⟩:=B.slot b o e nb hb hx
     exact ⟨sl,sb.extBut b _ (ltC e) q⟩
    ·rw [am (ltD e)];exact B.free b o e nb hx
    ·obtain ⟨o',q⟩:=B.there b o e hx
     exact ⟨o',sb.extBut b o' (ltC e) q⟩
    ·have e':H2 b=some (.tup xs):=e
     rw [am (ae e' fD2)];exact B.tups b xs e
    ·have e':H2 b=some (.frz o u):=e
     rw [am (ae e' fD2)];exact B.frzs b o u e
    ·have e':H2 b=some (.tbl ps):=e
     rw [am (ae e' fD2)];exact B.tbls b ps e
    ·intro b u e
     by_cases hb:b=s2.heap.objs.size
     ·subst hb
      rw [ad] at e
      cases e
      exact ⟨Λ hyi (Λ hin hn),its,cnt,rv,sb.extBut _ _ hDC eD5⟩
     ·rw [am hb] at e
      have fC:H4 G.objs.size=none:=I5.free
      refine (I5.hok b u e).stay (λc v hc' q=>sb.extBut c v ?_ q) (λc q=>by rw [am (ae q fD4)];exact q) λc xs q=>by rw [am (ae q fD4)];exact q
      rcases hc' with z | z
      ·subst z;exact ae e fC
      ·exact ae z fC
    ·obtain ⟨_,g1,g2,g3,g4,g5⟩:=f2 b hb
     exact ⟨g3,g1,g4,g5⟩
   obtain ⟨f0,f1,f2',f3,f4,f5⟩:=I2.fpOk (H':=H2) hC (I2.hok.fresh hC)
   show wpAny _ _ (assign (.Name y py) X.env (.ref s2.heap.objs.size)) _ _ s5
   refine wpAny_assign_Name (lR IF hN hiy hxl (v:=.ref s2.heap.objs.size) rfl (λs6 I6 ⟨a6,sb6,ha6⟩=>?_) hf)
   have nC:G.objs.size≠a6:=λz=>by
    rcases ha6 with e | e
    ·exact f1 (z.trans e)
    ·exact f4 _ _ e z.symm
   have fC:(upd H4 s2.heap.objs.size (.lst ys)) G.objs.size=none:=by
    rw [am (Ne.symm hDC)]
    exact I5.free
   exact ⟨m5,hm5.sameBut sb6 nC,λh' sb'=>⟨_,_,I6.turned (t':=s6.toks) (it:=G.objs.size) (λb o hb e=>(sb'.2 b hb).trans e) fC f1 f3 f4 f5,fin _ fD4⟩⟩
  ·refine wpAny_mono (T.item (X.blk N' scope G.objs.size fp s2 H2) rfl rfl rfl hc i _ s4 _ H4 _ I4p (stat ff4 np) st4 go) (λr s5 ⟨u,hr,h5⟩=>?_) λ_ _ e=>e
   subst hr
   show wpAny _ _ (letOwnedTupleGo (.Name x px) (.ref it) u >>= λ_=>assign (.Name x px) (X.blk N' scope G.objs.size fp s2 H2).env u) _ _ s5
   refine ε (wpAny_mono h5 (λ_ s6 ⟨xv,H6,I6,r6,y6,st6,ff6⟩=>?_) λ_ _ e=>e)
   have I6':=I6.pinned (stat ff6 np) (T.obj _ _ st6)
   have out:∀{σ':St} {H':Hp} {s':Shared},Inv (X.blk N' scope G.objs.size fp s2 H2) ([(s2.heap.objs.size,({cls:=.type "list",data:=.seq its.toArray cnt}:Obj))]++jc fp s6.heap) σ' H' s' ->
     s'.heap.PlainList s2.heap.objs.size its.toArray/\H' s2.heap.objs.size=none/\(∀b∈fp,H' b=none)/\(∀b∈fp,∀o,s6.heap.get? b=some o->s'.heap.get? b=some o):=λ{σ' H' s'} J1=>by
    have q:=J1.pin (s2.heap.objs.size,({cls:=.type "list",data:=.seq its.toArray cnt}:Obj)) (Ψ _ (List.mem_append_left _ Ω))
    refine ⟨⟨cnt,q.1⟩,q.2.1,λb hb=>?_,λb hb o e=>(J1.pin (b,o) (Ψ _ (Ψ _ (cD hb e)))).1⟩
    obtain ⟨o,e,d⟩:=T.obj _ _ st6 b hb
    exact (J1.pin (b,o) (Ψ _ (Ψ _ (cD hb e)))).2.1
   refine nox ((fK (X:=X.blk N' scope G.objs.size fp s2 H2) (i:=0) S.nd S.hd (.inl hlc) (.inr hlc)) _ s6 _ H6 xv u (fun σ' H'=>σ'=some xv::aX fv σ/\H'=H6) I6' r6 ⟨rfl,rfl⟩) λ_ s7 ⟨σ7,H7,I7,e7,e7'⟩=>?_
   subst e7 e7'
   refine nox (ht _ _ _ _ _ s7 _ H7 _ I7 (step xv H7 y6)) λok s8 ⟨H8,I8,q8⟩=>?_
   cases ok with
   | false =>
    obtain ⟨o1,o2,o3,o4⟩:=out I8
    exact ⟨n+1-(i+1),ω,i+1,ys,H8,its,rfl,hi2,υ hyi,rv,o1,(I8.pins_of (pins':=[]) λp hp=>nomatch hp).weak (σ':=none::aX fv σ) rfl (λj v e=>by
     cases j with
     | zero=>cases (show (none:Option V)=some v from Δ e)
     | succ j=>exact e),o2,T.keep _ _ _ st6 o4,o3,q8⟩
   | true =>
    refine nox (he _ _ _ _ _ s8 _ H8 _ I8 q8) λyv s9 ⟨y,H9,I9,r9,q9⟩=>?_
    obtain ⟨o1,o2,o3,o4⟩:=out I9
    have hlen:=rv.length
    refine wpAny_list_append_plain (hsz:=by rw [List.size_toArray,← hlen];exact Λ hyi (Λ hin hn)) o1 λh' pl' sb'=>?_
    have I9':Inv (X.blk N' scope G.objs.size fp s2 H2) [] (some xv::aX fv σ) H9 {s9 with heap:=h'} :=
     (I9.pins_of (pins':=[]) λp hp=>nomatch hp).turned (t':=s9.toks) (it:=s2.heap.objs.size) (λb o hb e=>sb'.extBut b o hb e) o2 hDC (.inr (ι _)) hcl (λp hp=>nomatch hp)
    refine ⟨n+1-(i+1),ω,i+1,ys++[y],H9,its++[yv],rfl,hi2,by rw [List.length_append];exact Nat.succ_le_succ hyi,rv.append (.cons r9 .nil),?_,I9'.weak (σ':=none::aX fv σ) rfl (λj v e=>by
     cases j with
     | zero=>cases (show (none:Option V)=some v from Δ e)
     | succ j=>exact e),o2,T.keep _ _ _ st6 λb hb o e=>sb'.extBut b o (λz=>hDf (z▸hb)) (o4 b hb o e),o3,q9⟩
    have e9:(its++[yv]).toArray=its.toArray.push yv:=by simp
    rw [e9]
    exact pl'
 exact codeAny_compStart_list (loop _ rfl) (T.self _ 0 _ _ _ (T.keep _ _ _ st2 λb _ o e=>kp b o e) (loop _ rfl))
end L2
namespace L2
open PySem PySem.Spec PyProof.Rows PySem.W
inductive KAll (n:Nat) {α:Type} (P:α->Prop):KasT α->Prop
 | ret {a:α}:P a->KAll n P (.ret a)
 | ask {i j:Nat} {k:Bool->KasT α}:i<n->j<n->(∀b,KAll n P (k b))->KAll n P (.ask i j k)
def oF{α:Type}(lt:Nat->Nat->Bool):KasT α->α
 | .ret a=>a
 | .ask i j k=>oF lt (k (lt i j))
theorem KAll.bind{n:Nat}{α β:Type}{P:α->Prop}{R:β->Prop}{f:α->KasT β}:∀{t:KasT α},KAll n P t->(∀a,P a->KAll n R (f a))->KAll n R (t.bind f)
 | _,.ret h,g=>g _ h
 | _,.ask h1 h2 h3,g=>.ask h1 h2 λb=>KAll.bind (h3 b) g
theorem KAll.wp{n:Nat}{α:Type}{P:α->Prop}{cmp:Nat->Nat->(Bool->Shared->Prop)->Shared->Prop}{lt:Nat->Nat->Bool}{s:Shared}(hc:∀i j (C:Bool->Shared->Prop),i<n->j<n->C (lt i j) s->cmp i j C s){Q:α->Shared->Prop} :
  ∀{t:KasT α},KAll n P t->(P (oF lt t)->Q (oF lt t) s)->t.kasWp cmp Q s
 | _,.ret h,q=>q h
 | _,.ask (i:=i) (j:=j) h1 h2 h3,q=>hc i j _ h1 h2 (KAll.wp hc (h3 (lt i j)) q)
def InP(n:Nat)(p:Array Nat):Prop:=p.size=n/\∀x∈p,x<n
theorem InP.get{n:Nat}{p:Array Nat}(h:InP n p)(h0:0<n)(i:Nat):p.getD i 0<n:=by
 rw [Array.getD_eq_getD_getElem?]
 cases e:p[i]? with
 | none=>exact h0
 | some x=>exact h.2 x (Array.mem_of_getElem? e)
theorem InP.perm{n:Nat}{p q:Array Nat}(h:InP n p)(e:q.Perm p):InP n q:=⟨e.size_eq.trans h.1,λx hx=>h.2 x (e.mem_iff.mp hx)⟩
theorem InP.rev{n:Nat}{p:Array Nat}(h:InP n p)(i j:Nat):InP n (kas_rev p i j):=h.perm (mirror_perm _ _ _ _)
theorem ol{n:Nat}{p:Array Nat}(h:InP n p)(h0:0<n):∀f m,KAll n (λ_=>True) (kas_asc p f m)
 | 0,_=>.ret trivial
 | f+1,m=>.ask (h.get h0 _) (h.get h0 _) λb=>by
  cases b with
  | true=>exact .ret trivial
  | false=>exact ol h h0 f (m+1)
theorem iM{n:Nat}(h0:0<n):∀f (p:Array Nat) m q,InP n p->KAll n (λr=>InP n r.1) (kas_desc f p m q)
 | 0,_,_,_,h=>.ret h
 | f+1,p,m,q,h=>.ask (h.get h0 _) (h.get h0 _) λb=>by
  cases b with
  | true =>
   show KAll n _ (if q>0 then kas_desc f (kas_rev p (m-(q+1)) m) (m+1) 0 else kas_desc f p (m+1) 0)
   split
   ·exact iM h0 f _ _ _ (h.rev _ _)
   ·exact iM h0 f _ _ _ h
  | false =>
   refine .ask (h.get h0 _) (h.get h0 _) λc=>?_
   cases c with
   | true=>exact .ret h
   | false=>exact iM h0 f _ _ _ h
theorem pC{n:Nat}{p:Array Nat}(h:InP n p)(h0:0<n)(m k:Nat):KAll n (λr=>InP n r.2) (kas_tail3 m k p):=(ol (h.rev 0 m) h0 _ _).bind λ_ _=>.ret (h.rev 0 m)
theorem pE{n:Nat}{p:Array Nat}(h:InP n p)(h0:0<n)(m k:Nat):KAll n (λr=>InP n r.2) (kas_descPart m k p):=(iM h0 _ _ _ _ h).bind λr hr=>by
 split
 ·exact pC (hr.rev _ _) h0 _ _
 ·exact pC hr h0 _ _
theorem tH{n:Nat}{p:Array Nat}(h:InP n p)(h0:0<n)(k:Nat):KAll n (λr=>InP n r.2) (kas_count k p):=(ol h h0 _ _).bind λm _=>by
 split
 ·exact .ret h
 ·split
  ·refine .ask (h.get h0 _) (h.get h0 _) λc=>?_
   cases c with
   | true=>exact .ret h
   | false=>exact pE (h.rev _ _) h0 _ _
  ·exact pE h h0 _ _
theorem jn{n:Nat}{p:Array Nat}(h:InP n p)(h0:0<n)(k:Nat):∀f l r,KAll n (λ_=>True) (kas_place p k f l r)
 | 0,_,_=>.ret trivial
 | f+1,l,r=>by
  show KAll n _ (if l≥r then .ret l else .ask (p.getD k 0) (p.getD ((l+r)/2) 0) λc=>if c=true then kas_place p k f l ((l+r)/2) else kas_place p k f ((l+r)/2+1) r)
  split
  ·exact .ret trivial
  ·refine .ask (h.get h0 _) (h.get h0 _) λc=>?_
   cases c with
   | true=>exact jn h h0 k f _ _
   | false=>exact jn h h0 k f _ _
theorem rY{n:Nat}(h0:0<n):∀f (p:Array Nat) k,InP n p->KAll n (InP n) (kas_bin f p k)
 | 0,_,_,h=>.ret h
 | f+1,p,k,h=>(jn h h0 k k 0 k).bind λl _=>rY h0 f _ _ (h.perm (bubble_perm _ _ _))
theorem pD{n:Nat}(h0:0<n):KAll n (InP n) (kas_sort n):=by
 have h:InP n (List.toArray (List.range n)):=⟨by simp,λx hx=>by simpa using hx⟩
 refine (tH h h0 n).bind λr hr=>?_
 split
 ·exact rY h0 _ _ _ hr
 ·exact .ret hr
def r8(h:Heap)(x:(Int×Int)×Str)(v:Value):Prop:=∃a b t1 t2 t3,v=.ref a/\h.IsTuple a #[.ref b,.str x.2 t3]/\h.IsTuple b #[.int x.1.1 t1,.int x.1.2 t2]
def ltE(x y:(Int×Int)×Str):Bool:=if x.1=y.1 then (if x.2=y.2 then false else decide (x.2.cps.toList<y.2.cps.toList)) else HT.fg [x.1.1,x.1.2] [y.1.1,y.1.2]
section
variable {prog:Program}{w:World}{A:Around}{E:Value->Shared->Prop}{s:Shared}
theorem z9{x y:(Int×Int)×Str}{u v:Value}{Q:Bool->Shared->Prop}(hu:A.units+1<cLine)(h1:r8 s.heap x u)(h2:r8 s.heap y v)(q:Q (ltE x y) s):wpAny (model prog w) A (keyLt' (tuples' false) u v) Q E s:=by
 obtain ⟨a,b,t1,t2,t3,rfl,p1,p2⟩:=h1
 obtain ⟨c,d,u1,u2,u3,rfl,q1,q2⟩:=h2
 obtain ⟨o1,e1,_,n1,d1⟩:=id p1
 obtain ⟨o2,e2,_,n2,d2⟩:=id q1
 refine kat_lt e1 d1 e2 d2 (kat_cons (l6 ω p2 q2 _ _ _ _ ?_))
 have dn:(decide (x.1.1=y.1.1)&&decide (x.1.2=y.1.2))=decide (x.1=y.1):=by
  rw [← Bool.decide_and]
  exact decide_eq_decide.mpr ⟨λz=>Prod.ext z.1 z.2,λz=>by rw [z];exact ⟨rfl,rfl⟩⟩
 rw [dn]
 unfold ltE at q
 by_cases en:x.1=y.1
 ·rw [if_pos en] at q
  rw [τ en]
  refine kat_yes (kat_cons (SeqAt.EqAt.str_str _ t3 _ u3 _ _ _ _ ?_))
  by_cases es:x.2=y.2
  ·rw [if_pos es] at q
   rw [← cM,τ es]
   exact kat_yes (kat_nil q)
  ·rw [if_neg es] at q
   rw [← cM,Γ es]
   exact kat_no (kat_one _ _ (lt_str q))
 ·rw [if_neg en] at q
  rw [Γ en]
  exact kat_no (kat_one _ _ (HT.qt p2 q2 (.cons _ _ (.cons _ _ .nil)) (.cons _ _ (.cons _ _ .nil)) ω q))
abbrev Ents(h:Heap)(es:List ((Int×Int)×Str))(vs:List Value):Prop:=Paired (r8 h) es vs
theorem Ents.tups{h:Heap}:∀{es:List ((Int×Int)×Str)} {vs:List Value},Ents h es vs->∃fs,KatTups h vs fs/\fs.length=vs.length/\∀v∈fs,∀M:Model,Looks M h (typeOf v) (.type "tuple")
 | _,_,.nil=>⟨[],KatTups.nil,rfl,λ_ hv=>nomatch hv⟩
 | _,_,.cons r t=>by
  obtain ⟨fs,k,l,ty⟩:=Ents.tups t
  obtain ⟨a,b,t1,t2,t3,rfl,⟨o,e,c,n,d⟩,⟨o',e',c',_⟩⟩:=r
  refine ⟨.ref b::fs,KatTups.cons e c d rfl k,by rw [List.length_cons,List.length_cons,l],λv hv M=>?_⟩
  rcases List.mem_cons.mp hv with z | hv
  ·subst z
   rw [← c']
   exact (Looks.ld e').andThen .now
  ·exact ty v hv M
def ju{α:Type} [Inhabited α](lt:α->α->Bool)(xs:List α):List α:=((oF (λi j=>lt (xs.getD i default) (xs.getD j default)) (kas_sort xs.length)).toList).map λi=>xs.getD i default
theorem nE{α β:Type}{R:α->β->Prop}{xs:List α}{ys:List β}(h:Paired R xs ys){i:Nat}(hi:i<xs.length)(a:α)(b:β):R (xs.getD i a) (ys.getD i b):=by
 have hi':i<ys.length:=by rw [← h.len];exact hi
 obtain ⟨u,eu,ru⟩:=h.get1 (ξ hi)
 rw [ξ hi'] at eu
 cases eu
 rw [List.getD_eq_getElem?_getD,List.getD_eq_getElem?_getD,ξ hi,ξ hi']
 exact ru
theorem nD{α β:Type}{R:α->β->Prop}{xs:List α}{ys:List β}(h:Paired R xs ys)(a:α)(b:β):∀{p:List Nat},(∀i∈p,i<xs.length)->Paired R (p.map λi=>xs.getD i a) (p.map λi=>ys.getD i b)
 | [],_=>.nil
 | i::p,hp=>.cons (nE h (hp i Ω) a b) (nD h a b λj hj=>hp j (Θ _ hj))
instance:Inhabited ((Int×Int)×Str):=⟨((0,0),Str.empty)⟩
theorem wR{α:Type} [Inhabited α](lt:α->α->Bool)(xs:List α)(h:0<xs.length):(ju lt xs).length=xs.length/\∀i∈(oF (λi j=>lt (xs.getD i default) (xs.getD j default)) (kas_sort xs.length)).toList,i<xs.length:=by
 have:InP xs.length (oF (λi j=>lt (xs.getD i default) (xs.getD j default)) (kas_sort xs.length)):=by
  have g:∀{t:KasT (Array Nat)},KAll xs.length (InP xs.length) t->InP xs.length (oF (λi j=>lt (xs.getD i default) (xs.getD j default)) t):=by
   intro t k
   induction k with
   | ret h=>exact h
   | ask _ _ _ ih=>exact ih _
  exact g (pD h)
 refine ⟨?_,λi hi=>this.2 i (Array.mem_toList_iff.mp hi)⟩
 unfold ju
 rw [List.length_map,Array.length_toList]
 exact this.1
section
variable {prog:Program}{w:World}{A:Around}{E:Value->Shared->Prop}{s:Shared}{h₀:Heap}{L:Addr}{m:Str->Option Value}{news:List (Addr×Obj)}
theorem tm{es:List ((Int×Int)×Str)}{vs:List Value}{a n:Nat}{P:PySem.Fin->Shared->Prop}(hu:A.units+1<cLine)(F:Fr h₀ L s.heap m)(N:News h₀ L s.heap news)(ho:s.heap.get? a=some (seqObj "list" vs.toArray n))(haL:a≠L)(ha0:h₀.get? a=none)(hna:∀p∈news,p.1≠a)
  (he:∀h',(∀b o,(b,o)∈news->h'.get? b=some o)->Ents h' es vs)(h2:2<=vs.length)(h64:vs.length<64)
  (q:∀h' c,Fr h₀ L h' m->News h₀ L h' ((a,PySem.W.listOf (List.toArray ((oF (λi j=>ltE (es.getD i default) (es.getD j default)) (kas_sort es.length)).toList.map λi=>vs.getD i Value.none)) c)::news)->P (.done (.ret .none)) {s with heap:=h'}) :
  wpAny (model prog w) A (Builtin.«list.sort» ⟨[.ref a], []⟩) P E s := by
 refine kat_list_sort F N ho haL ha0 hna h2 h64 λe1 h' F' N'=>?_
 have en:Ents h' es vs:=he h' λb o hb=>(N' (b,o) (Θ _ hb)).1
 have hl:=en.len
 obtain ⟨fs,kt,lf,ty⟩:=en.tups
 refine kat_kind (s:={s with heap:=h'}) kt ω (λv hv=>ty v hv _) rfl ?_
 have e0:(Value.type "tuple" != Value.type "tuple")=false:=by decide
 rw [e0,← hl]
 refine KAll.wp (lt:=λi j=>ltE (es.getD i default) (es.getD j default)) (λi j C hi hj hC=>?_) (pD ω) λhp=>?_
 ·exact z9 (s:={s with heap:=h'}) hu (nE en hi default Value.none) (nE en hj default Value.none) hC
 ·exact KasFin.intro (s:={s with heap:=h'}) F' N' (.head hna) λh2 c F2 N2=>q h2 c F2 N2
end
end
end L2
namespace L2
open PySem PySem.Spec PyProof.Rows PySem.W
section
variable {prog:Program}{w:World}{A:Around}{E:Value->Shared->Prop}{s:Shared}{h₀:Heap}{L:Addr}{m:Str->Option Value}{news:List (Addr×Obj)}
theorem v7{vs:List Value}{a n:Nat}{P:PySem.Fin->Shared->Prop}(F:Fr h₀ L s.heap m)(N:News h₀ L s.heap news)(ho:s.heap.get? a=some (seqObj "list" vs.toArray n))(haL:a≠L)(ha0:h₀.get? a=none)(hna:∀p∈news,p.1≠a)(h2:vs.length<2)
  (q:∀h' c,Fr h₀ L h' m->News h₀ L h' ((a,PySem.W.listOf vs.toArray c)::news)->P (.done (.ret .none)) {s with heap:=h'}) :
  wpAny (model prog w) A (Builtin.«list.sort» ⟨[.ref a], []⟩) P E s := by
 have z0:vs.length<=sizeLine:=by rw [sizeLine_eq];omega
 have sb1:=Heap.SameBut.update s.heap a (Obj.mapSeq λ_=>(#[]:Array Value))
 obtain ⟨c1,o1⟩:∃c,(s.heap.update a (Obj.mapSeq λ_=>(#[]:Array Value))).get? a=some (seqObj "list" #[] c):=⟨_,get?_update_seq ho λ_=>#[]⟩
 rw [list_sort_plain]
 refine ε (listItems_at ho rfl (ε (listUpdate_at ho rfl ?_ (by rw [List.size_toArray];exact z0) (Nat.zero_le _))))
 refine ε (seqEpoch_at o1 rfl (ε (wpAny_newTuple ?_ (by show vs.length<=_;exact z0))))
 refine ε (wpAny_newList (wpAny_holding ?_) (Nat.zero_le _))
 have lt2:vs.toArray.size<2:=by rw [List.size_toArray];exact h2
 dsimp only
 rw [if_pos lt2,if_pos lt2]
 refine ε (π (ε (π ?_)))
 have o2:=ρ (seqObj "list" #[] 0) (ρ (seqObj "tuple" vs.toArray 0) o1)
 refine ε (seqEpoch_at o2 rfl ?_)
 have ez:(arrOf (SortSt.mk' general' (vs.toArray.zip vs.toArray) #[] 7 none)).map (·.2)=vs.toArray:=by
  show (vs.toArray.zip vs.toArray).map (·.2)=vs.toArray
  have zz:∀l:List Value,(l.zip l).map (·.2)=l:=λl=>by
   induction l with
   | nil=>rfl
   | cons x r ih=>rw [List.zip_cons_cons,List.map_cons,ih]
  apply Array.toList_inj.mp
  simpa using zz vs
 rw [ez]
 refine ε (listUpdate_at o2 rfl ?_ (Nat.zero_le _) (by rw [List.size_toArray];exact υ z0))
 simp only [bne_self_eq_false,Bool.false_eq_true,if_false]
 obtain ⟨c2,o3⟩:∃c,((((s.heap.update a (Obj.mapSeq λ_=>(#[]:Array Value))).push (seqObj "tuple" vs.toArray 0)).push (seqObj "list" #[] 0)).update a (Obj.mapSeq λ_=>vs.toArray)).get? a=some (seqObj "list" vs.toArray c):=⟨_,get?_update_seq o2 λ_=>vs.toArray⟩
 refine π (q _ c2 ?_ ?_)
 ·exact kas_fr (((kas_fr F sb1 haL ha0).push _).push _) (Heap.SameBut.update _ _ _) haL ha0
 ·intro p hp
  rcases List.mem_cons.mp hp with z | hp
  ·subst z
   exact ⟨o3,haL,ha0⟩
  ·exact kas_news ((kas_news N sb1 hna).grown λb x e=>ρ _ (ρ _ e)) (Heap.SameBut.update _ _ _) hna p hp
end
def sPS(K:Frag)(H:Hp)(x:(Int×Int)×Str)(v:V):Prop:=∃a b,v=.ref a/\H a=some (.tup [.ref b,.str x.2])/\H b=some (.tup [.int x.1.1,.int x.1.2])
theorem sPS.keep{K:Frag}{H H':Hp}{x:(Int×Int)×Str}{v:V}(e:aT H H')(h:sPS K H x v):sPS K H' x v:=by
 obtain ⟨a,b,rfl,h1,h2⟩:=h
 exact ⟨a,b,rfl,e _ _ h1,e _ _ h2⟩
theorem sPS.ent{P:Program}{w:World}{K:Frag}{H:Hp}{h:Heap}{x:(Int×Int)×Str}{v:V}{u:Value}(ok:HOk P w H h)(q:sPS K H x v)(r:RelV v u):r8 h x u:=by
 obtain ⟨a,b,rfl,h1,h2⟩:=q
 cases (show u=Value.ref a from r)
 obtain ⟨_,its,r1,p⟩:=(show ObjOk P w H h a (.tup [.ref b,.str x.2]) from ok a _ h1)
 obtain ⟨_,its',r2,p'⟩:=(show ObjOk P w H h b (.tup [.int x.1.1,.int x.1.2]) from ok b _ h2)
 obtain ⟨u1,u2,rfl,e1,e2⟩:=r1.two
 obtain ⟨v1,v2,rfl,e3,e4⟩:=r2.two
 cases (show u1=Value.ref b from e1)
 obtain ⟨t,rfl⟩:=e2
 obtain ⟨t1,rfl⟩:=e3
 obtain ⟨t2,rfl⟩:=e4
 exact ⟨a,b,t1,t2,t,rfl,p,p'⟩
theorem rR{P:Program}{w:World}{K:Frag}{H:Hp}{h:Heap}(ok:HOk P w H h):∀{es:List ((Int×Int)×Str)} {us:List V} {vs:List Value},Paired (sPS K H) es us->Vals us vs->Ents h es vs
 | _,_,_,.nil,.nil=>.nil
 | _,_,_,.cons a t,.cons r q=>.cons (a.ent ok r) (rR ok t q)
theorem sg{us:List V}{vs:List Value}(h:Vals us vs)(p:List Nat)(hp:∀i∈p,i<us.length):Vals (p.map λi=>us.getD i .non) (p.map λi=>vs.getD i Value.none):=nD h _ _ hp
section
variable {X:Cx}{pins:List (Addr×Obj)}{σ:St}{H:Hp}{s:Shared}
theorem oy{vs:List Value}{us:List V}{es:List ((Int×Int)×Str)}{Q:VK}{E:Value->Shared->Prop}(hu:X.A.units+4<cLine)(I:Inv X pins σ H s)(rv:Vals us vs)(pe:Paired (sPS X.K H) es us)(h64:es.length<64)
  (q:∀l ys,H l=none->Paired (sPS X.K (upd H l (.lst ys))) (ju ltE es) ys->Q (.ref l) (upd H l (.lst ys))) :
  wpAny (model X.prog X.w) X.A.in1 (newList vs >>= λl=>holding [l] (call (.builtin "list.sort") [l] []) >>= λ_=>ret l) (λfin s'=>∃v,fin=.done (.ret v)/\EP X pins σ Q v s') E s:=by
 have hl1:us.length=vs.length:=rv.length
 have hl2:es.length=us.length:=pe.len
 have zl:vs.length<=sizeLine:=by rw [sizeLine_eq];omega
 refine ε (wpAny_newList ?_ zl)
 obtain ⟨m,hn,_⟩:=id I.loc
 have N:News (Att.gA s.heap) X.env.locals s.heap (Att.hX s.heap X.env.locals X.env.locals):=λ⟨c,o⟩ hp=>by
  obtain ⟨n1,_,e⟩:=Att.mem_ledger.mp hp
  exact ⟨e,n1,Att.fO _ _⟩
 have led:∀c o,c≠X.env.locals->s.heap.get? c=some o->(c,o)∈Att.hX s.heap X.env.locals X.env.locals:=λc o n1 e=>Att.mem_ledger.mpr ⟨n1,n1,e⟩
 have up:∀b o,s.heap.get? b=some o->(s.heap.push (seqObj "list" vs.toArray 0)).get? b=some o:=λb o e=>ρ _ e
 have F1:Fr (Att.gA s.heap) X.env.locals (s.heap.push (seqObj "list" vs.toArray 0)) m:=(Att.zZ hn).kept up
 have N1:News (Att.gA s.heap) X.env.locals (s.heap.push (seqObj "list" vs.toArray 0)) (Att.hX s.heap X.env.locals X.env.locals):=N.grown up
 have oL:(s.heap.push (seqObj "list" vs.toArray 0)).get? s.heap.objs.size=some (seqObj "list" vs.toArray 0):=ψ _ rfl
 have nL:s.heap.objs.size≠X.env.locals:=Nat.ne_of_gt I.lt
 have na:∀p∈Att.hX s.heap X.env.locals X.env.locals,p.1≠s.heap.objs.size:=λp hp=>Φ (η (N p hp).1)
 have hnone:H s.heap.objs.size=none:=I.hok.fresh (ι _)
 have fin:∀(out:List Value) (ys:List V),Vals ys out->ys.length<=sizeLine->Q (.ref s.heap.objs.size) (upd H s.heap.objs.size (.lst ys))->∀h' c,Fr (Att.gA s.heap) X.env.locals h' m ->
   News (Att.gA s.heap) X.env.locals h' ((s.heap.objs.size,PySem.W.listOf (List.toArray out) c)::Att.hX s.heap X.env.locals X.env.locals)->EP X pins σ Q (.ref s.heap.objs.size) {s with heap:=h'}:=λout ys ro hz hQ h' c F2 N2=>by
  have keep:∀b o,b≠X.env.locals->s.heap.get? b=some o->h'.get? b=some o:=λb o n1 e=>(N2 (b,o) (Θ _ (led b o n1 e))).1
  have eD:h'.get? s.heap.objs.size=some (PySem.W.listOf (List.toArray out) c):=(N2 _ Ω).1
  refine ⟨.ref s.heap.objs.size,upd H s.heap.objs.size (.lst ys),?_,rfl,hQ⟩
  have fresh:∀b o,s.heap.get? b=some o->b≠s.heap.objs.size:=λb o e=>Φ (η e)
  show Inv X pins σ (upd H s.heap.objs.size (.lst ys)) {s with heap:=h'}
  refine I.step (h':=h') (g':=s.gens) (d':=s.drawn) (t':=s.toks) (ch:=[]) (λ_ z=>nomatch z) (λb o n1 _ _ e _=>keep b o n1 e) (λb o n1 _ _ e _=>⟨o.slots,keep b o n1 e⟩) (λb o _ e n=>by rw [am (fresh b o e)];exact n)
   (λb o _ e=>?_) (λb xs e=>by rw [am (ae e hnone)];exact e) (λb o u e=>by rw [am (ae e hnone)];exact e) (λb ps e=>⟨#[],by rw [am (ae e hnone),e];simp⟩) (λm' hm'=>?_) (λb o e=>?_) I.bare
  ·by_cases hb:b=X.env.locals
   ·obtain ⟨o',_,_,e',_⟩:=F2.ns
    exact ⟨o',hb▸e'⟩
   ·exact ⟨o,keep b o hb e⟩
  ·have e:m'=m:=funext λname=>hm'.agree hn name
   rw [e]
   exact F2.ns
  ·by_cases hb:b=s.heap.objs.size
   ·subst hb
    rw [ad] at e
    cases e
    exact ⟨hz,out,c,ro,eD⟩
   ·rw [am hb] at e
    have nL':b≠X.env.locals:=λz=>by rw [z,I.free] at e;cases e
    refine (I.hok b o e).stay (λd v hd q=>keep d v (λz=>?_) q) (λd q=>by rw [am (ae q hnone)];exact q) λd xs q=>by rw [am (ae q hnone)];exact q
    rcases hd with hd | hd
    ·exact nL' (hd.symm.trans z)
    ·rw [z,I.free] at hd;cases hd
 have tsL:∀ys,aT H (upd H s.heap.objs.size (.lst ys)):=λys b xs e=>by rw [am (ae e hnone)];exact e
 refine ε (wpAny_holding (wpAny_call_entry slot_list_sort ⟨_,oL,rfl⟩ entry_list_sort ?body (args_list_sort _)))
 case body =>
  by_cases h2:vs.length<2
  ·refine v7 (s:={s with heap:=s.heap.push (seqObj "list" vs.toArray 0)}) F1 N1 oL nL (Att.fO _ _) na h2 λh' c F2 N2=>⟨_,rfl,π ⟨_,rfl,fin vs us rv ω (q _ us hnone ?_) h' c F2 N2⟩⟩
   have es2:ju ltE es=es:=by
    match es,(by omega:es.length<2) with
    | [],_=>rfl
    | [x],_=>rfl
   rw [es2]
   exact Paired.mapP pe λ_ _ z=>z.keep (tsL us)
  ·have h0:0<es.length:=by omega
   obtain ⟨hsl,hsi⟩:=wR ltE es h0
   refine tm (s:={s with heap:=s.heap.push (seqObj "list" vs.toArray 0)}) (es:=es) (by show X.A.units+1+1+1<cLine;omega) F1 N1 oL nL (Att.fO _ _) na (λh' hk=>?_) ω ω λh' c F2 N2=>⟨_,rfl,π ⟨_,rfl,fin _ _ (sg rv _ (λi hi=>by rw [← hl2];exact hsi i hi)) ?_ (q _ _ hnone ?_) h' c F2 N2⟩⟩
   ·have ok':HOk X.prog X.w H h':=λb o e=>by
     have nL':b≠X.env.locals:=λz=>by rw [z,I.free] at e;cases e
     refine (I.hok b o e).stay (λd v hd q=>hk d v (led d v (λz=>?_) q)) (λ_ q=>q) λ_ _ q=>q
     rcases hd with hd | hd
     ·exact nL' (hd.symm.trans z)
     ·rw [z,I.free] at hd;cases hd
    exact rR ok' pe rv
   ·rw [List.length_map]
    unfold ju at hsl
    rw [List.length_map] at hsl
    rw [hsl]
    omega
   ·exact nD (Paired.mapP pe λ_ _ z=>z.keep (tsL _)) _ _ hsi
end
end L2
namespace L2
open PySem PySem.Spec PyProof.Rows PySem.W
abbrev gk(own:Value)(f:Bool)(d:Addr)(i n ep:Nat)(ok ov:Value):Obj:={cls:=.type "dict_itemiterator",dict:=none,data:=.fields #[own,.bool f,.ref d,.int i 0,.int n 0,.int ep 0,ok,ov],slots:=#[]}
def wH(h:Heap)(it d:Addr)(i n ep:Nat):Prop:=∃own f ok ov,h.get? it=some (gk own f d i n ep ok ov)/\(own=.none\/∃a oa,own=rawInt (a:Nat)/\a≠it/\h.get? a=some oa)
def RawD(h:Heap)(d:Addr)(es:Array DictEntry)(ep:Nat):Prop:=∃od,h.get? d=some od/\od.ExactDict/\od.data=.dict es ep
section
variable {prog:Program}{w:World}{A:Around}{E:Value->Shared->Prop}{s:Shared}{it d:Addr}{i ep:Nat}{es:Array DictEntry}
theorem RawD.at{h h':Heap}(x:RawD h d es ep)(k:∀o,h.get? d=some o->h'.get? d=some o):RawD h' d es ep:=let ⟨od,e,r⟩:=x;⟨od,k _ e,r⟩
theorem yC{own ok ov:Value}{f:Bool}{n:Nat}(hit:s.heap.get? it=some (gk own f d i n ep ok ov)):s.TypeIs (.ref it) "dict_itemiterator":=⟨_,hit,rfl⟩
theorem nI:Builtin.Dict_items.ownsTuple "dict_itemiterator"=true:=by decide
theorem xO{n:Nat}{own ok ov key val:Value}{f:Bool}{Q:Value->Shared->Prop}(hit:s.heap.get? it=some (gk own f d i n ep ok ov))(how:own=.none\/∃a oa,own=rawInt (a:Nat)/\a≠it/\s.heap.get? a=some oa)
  (hQ:∀h',wH h' it d i n ep->h'.get? s.heap.objs.size=some {cls:=.type "tuple",data:=.seq #[key,val]}->h'.objs.size=s.heap.objs.size+1->(∀b o,b≠it->s.heap.get? b=some o->h'.get? b=some o)->Q (.ref s.heap.objs.size) {s with heap:=h'}) :
  wpAny (model prog w) A (Builtin.Dict_items.pairFromOwner (.ref it) 6 key val) Q E s:=by
 obtain ⟨hp,g,dr,tk,os⟩:=s
 unfold Builtin.Dict_items.pairFromOwner
 refine ε (wpAny_newTuple ?_)
 have hlt:it<hp.objs.size:=η hit
 have hit1:(hp.push {cls:=.type "tuple",data:=.seq #[key,val]}).get? it=some (gk own f d i n ep ok ov):=ρ _ hit
 have ht1:(hp.push {cls:=.type "tuple",data:=.seq #[key,val]}).get? hp.objs.size=some {cls:=.type "tuple",data:=.seq #[key,val]}:=ψ _ rfl
 have hz1:(hp.push {cls:=.type "tuple",data:=.seq #[key,val]}).objs.size=hp.objs.size+1:=Heap.size_push ..
 have hk1:∀b o,hp.get? b=some o->(hp.push {cls:=.type "tuple",data:=.seq #[key,val]}).get? b=some o:=λb o e=>ρ _ e
 generalize (hp.push {cls:=.type "tuple",data:=.seq #[key,val]})=G at hit1 ht1 hz1 hk1
 have nit:hp.objs.size≠it:=Nat.ne_of_gt hlt
 unfold Builtin.Dict_items.ownedTupleIsFree
 rcases how with z | ⟨a,oa,z,na,ha⟩
 ·subst z
  refine ε (ε (wpAny_field hit1 rfl (x:=.none) rfl (π ?_)))
  simp only [if_true]
  refine ε (wpAny_field hit1 rfl (x:=ok) rfl (ε (wpAny_field hit1 rfl (x:=ov) rfl ?_)))
  refine wpAny_bind (wpAny_setField_rec hit1 (by simp) λh2 e2 s2=>wpAny_bind (wpAny_setField_rec e2 (by simp) λh3 e3 s3=>wpAny_bind (wpAny_setField_rec e3 (by simp) λh4 e4 s4=>wpAny_bind (wpAny_setField_rec e4 (by simp) λh5 e5 s5=>?_))))
  have kk:∀b o,b≠it->G.get? b=some o->h5.get? b=some o:=λb o nb e=>s5.extBut b o nb (s4.extBut b o nb (s3.extBut b o nb (s2.extBut b o nb e)))
  refine ε (wpAny_letGo (π (hQ h5 ⟨_,_,_,_,e5,.inr ⟨hp.objs.size,_,rfl,nit,kk _ _ nit ht1⟩⟩ (kk _ _ nit ht1) ?_ λb o nb e=>kk b o nb (hk1 b o e))))
  show h5.objs.size=hp.objs.size+1
  rw [s5.1,s4.1,s3.1,s2.1]
  exact hz1
 ·subst z
  have ha1:=hk1 _ _ ha
  refine ε (ε (wpAny_field hit1 rfl (x:=rawInt (a:Nat)) rfl ?_))
  show wpAny _ _ (loadIfAlive ((a:Int).toNat) >>= λ_=>_) _ _ _
  rw [Int.toNat_natCast]
  refine ε (kdx_alive ha1 ?_)
  simp only [Option.isNone_some,Bool.false_eq_true,if_false]
  refine ε (wpAny_field hit1 rfl (x:=.bool f) rfl ?_)
  cases f with
  | true =>
   rw [if_neg (show ¬((Value.bool true != Value.bool true)=true) by decide)]
   refine π ?_
   simp only [Bool.false_eq_true,if_false]
   exact π (hQ G ⟨_,_,_,_,hit1,.inr ⟨a,oa,rfl,na,ha1⟩⟩ ht1 hz1 λb o _ e=>hk1 b o e)
  | false =>
   rw [if_pos (show (Value.bool false != Value.bool true)=true by decide)]
   refine wpAny_bind (wpAny_setField_rec hit1 (by simp) λh2 e2 s2=>wpAny_pure ?_)
   simp only [Bool.false_eq_true,if_false]
   exact π (hQ h2 ⟨_,_,_,_,e2,.inr ⟨a,oa,rfl,na,s2.extBut _ _ na ha1⟩⟩ (s2.extBut _ _ nit ht1) (by show h2.objs.size=_;rw [s2.1];exact hz1) λb o nb e=>s2.extBut b o nb (hk1 b o e))
theorem xP{e:DictEntry}{Q:Option Value->Shared->Prop}(hit:wH s.heap it d i es.size ep)(hd:RawD s.heap d es ep)(hx:es[i]?=some e)
  (hQ:∀h',wH h' it d (i+1) es.size ep->h'.get? s.heap.objs.size=some {cls:=.type "tuple",data:=.seq #[e.key,e.val]}->h'.objs.size=s.heap.objs.size+1->(∀b o,b≠it->s.heap.get? b=some o->h'.get? b=some o)->Q (some (.ref s.heap.objs.size)) {s with heap:=h'}) :
  wpAny (model prog w) A (pyNext (.ref it)) Q E s:=by
 obtain ⟨own,f,ok,ov,h1,how⟩:=hit
 obtain ⟨od,hod,_,hdd⟩:=hd
 have ty:=yC h1
 unfold pyNext
 refine ε (wpAny_attempt (wpAny_callSpecial?_slot (name:=Str.ofString "__next__") ty PySem.F.slot_dict_itemiterator_next (wpAny_call_entry PySem.F.slot_dict_itemiterator_next ty PySem.F.entry_dict_itemiterator_next ?_ (PySem.F.args_dict_itemiterator_next_1 _))))
 refine ε (π (ε (ε ?_)))
 first | refine ε (wpAny_typeNameOfWhole_itemiter ty (π ?_)) | refine ε (wpAny_typeNameOf_itemiter ty (π ?_))
 refine ε (wpAny_fieldsOf h1 rfl ?_)
 simp only [nI,if_true]
 show wpAny _ _ (if (Value.ref d==Value.none)=true then _ else (_:Sem (Option (Array DictEntry×Int)))) _ _ s
 rw [if_neg (show ¬((Value.ref d==Value.none)=true) by intro z;cases z)]
 refine ε (π (ε (wpAny_dictEntries hod hdd ?_)))
 rw [if_neg (by simp)]
 refine ε (π (ε (wpAny_dictEpoch hod hdd ?_)))
 rw [if_neg (by simp)]
 refine π ?_
 have hlt:i<es.size:=(Array.getElem?_eq_some_iff.mp hx).1
 simp only [show ¬((i:Int)<0) by omega,if_false,Int.toNat_natCast,hx]
 refine ε ?_
 first | refine ε (wpAny_typeNameOfWhole_itemiter ty (π ?_)) | refine ε (wpAny_typeNameOf_itemiter ty (π ?_))
 refine ε (wpAny_isOneOf_itemiter ty ?_)
 show wpAny _ _ (setField (.ref it) 3 (rawInt ((i:Int)+1)) >>= λ_=>_) _ _ s
 refine wpAny_bind (wpAny_setField_rec h1 (by simp) λh2 e2 s2=>?_)
 have e2':h2.get? it=some (gk own f d (i+1) es.size ep ok ov):=by
  have z:((i+1:Nat):Int)=(i:Int)+1:=by omega
  unfold gk
  rw [z]
  simpa [rawInt] using e2
 have ty2:Shared.TypeIs {s with heap:=h2} (.ref it) "dict_itemiterator":=⟨_,e2',rfl⟩
 refine ε (wpAny_holding (ε (wpAny_isOneOf_itemiter ty2 (ε (wpAny_isOneOf_itemiter ty2 ?_)))))
 have how2:own=.none\/∃a oa,own=rawInt (a:Nat)/\a≠it/\h2.get? a=some oa:=how.imp id λ⟨a,oa,z1,z2,z3⟩=>⟨a,oa,z1,z2,s2.extBut a oa z2 z3⟩
 refine xO (s:={s with heap:=h2}) e2' how2 λh3 i3 t3 z3 k3=>π ⟨_,rfl,π ?_⟩
 have zz:h2.objs.size=s.heap.objs.size:=s2.1
 have q3:=hQ h3 i3 (by rw [← zz];exact t3) (by rw [← zz];exact z3) λb o nb x=>k3 b o nb (s2.extBut b o nb x)
 show Q (some (.ref h2.objs.size)) _
 rw [zz]
 exact q3
theorem zU{Q:Option Value->Shared->Prop}(hh:A.handled=none)(hit:wH s.heap it d i es.size ep)(hd:RawD s.heap d es ep)(hx:es.size<=i)
  (hQ:∀h',Heap.ExtBut it s.heap h'->Q none {s with heap:=h'}):wpAny (model prog w) A (pyNext (.ref it)) Q E s:=by
 obtain ⟨own,f,ok,ov,h1,how⟩:=hit
 obtain ⟨od,hod,_,hdd⟩:=hd
 have ty:=yC h1
 unfold pyNext
 refine ε (wpAny_attempt (wpAny_callSpecial?_slot (name:=Str.ofString "__next__") ty PySem.F.slot_dict_itemiterator_next (wpAny_call_entry PySem.F.slot_dict_itemiterator_next ty PySem.F.entry_dict_itemiterator_next ?_ (PySem.F.args_dict_itemiterator_next_1 _))))
 refine ε (π (ε (ε ?_)))
 first | refine ε (wpAny_typeNameOfWhole_itemiter ty (π ?_)) | refine ε (wpAny_typeNameOf_itemiter ty (π ?_))
 refine ε (wpAny_fieldsOf h1 rfl ?_)
 simp only [nI,if_true]
 show wpAny _ _ (if (Value.ref d==Value.none)=true then _ else (_:Sem (Option (Array DictEntry×Int)))) _ _ s
 rw [if_neg (show ¬((Value.ref d==Value.none)=true) by intro z;cases z)]
 refine ε (π (ε (wpAny_dictEntries hod hdd ?_)))
 rw [if_neg (by simp)]
 refine ε (π (ε (wpAny_dictEpoch hod hdd ?_)))
 rw [if_neg (by simp)]
 refine π ?_
 simp only [show ¬((i:Int)<0) by omega,if_false,Int.toNat_natCast,Array.getElem?_eq_none hx]
 refine ε ?_
 first | refine ε (wpAny_typeNameOfWhole_itemiter ty (π ?_)) | refine ε (wpAny_typeNameOf_itemiter ty (π ?_))
 show wpAny _ _ (setField (.ref it) 2 .none >>= λ_=>_) _ _ s
 refine wpAny_bind (wpAny_setField h1 rfl (by simp) ?_)
 show wpAny _ _ (newExc (.type "StopIteration") [] >>= λ_=>_) _ _ _
 refine ε ?_
 simp only [newExc,newTuple]
 refine wpAny_bind (wpAny_newObj_type (wpAny_bind (m:=firstArgMember _ _) (wpAny_of_eq (a:=Value.none) (by first | rfl | (simp only [firstArgMember];rfl)) (wpAny_newObj_type ?_ (by size_fits)))) (by size_fits))
 simp only [raiseNew]
 refine ε (wpAny_handled ?_)
 rw [show A.in1.handled=none from hh]
 refine ε (π (wpAny_throw ?_));refine ε (wpAny_isInstance (T:="StopIteration") (b:=true) ⟨_,ψ _ rfl,rfl⟩ isSubtype_stop ?_)
 exact π (hQ _ (((Heap.SameBut.update ..).extBut.push _).push _))
def tI(h:Heap)(es:Array DictEntry)(as:List Addr):Prop:=∀(j:Nat) (a:Addr),as[j]?=some a->∃e,es[j]?=some e/\h.get? a=some {cls:=.type "tuple",data:=.seq #[e.key,e.val]}
theorem rM{S:Addr}{R:Result->Shared->Prop}{h1:Heap}(hh:A.handled=none)(nSI:S≠it)(ndS:d≠S)(ndI:d≠it)(hn:es.size<=sizeLine)(res:Value)
  (hR:∀h' tk acc c as,(∀b o,b≠S->b≠it->h1.get? b=some o->h'.get? b=some o)->h'.get? S=some {cls:=.type "list",dict:=none,data:=.seq acc c,slots:=#[]}->as.length=es.size->tI h' es as->(∀a∈as,h1.objs.size<=a/\a≠S/\a≠it)->as.Nodup ->
   acc.toList=as.map Value.ref->R (.ok (.ret res)) {s with heap:=h',toks:=tk}) :
  ∀(k i:Nat) (h:Heap) (tk c:Nat) (acc:Array Value) (as:List Addr),es.size-i=k->i<=es.size->wH h it d i es.size ep->RawD h d es ep->(∀b o,b≠S->b≠it->h1.get? b=some o->h.get? b=some o) ->
   h.get? S=some {cls:=.type "list",dict:=none,data:=.seq acc c,slots:=#[]}->acc.toList=as.map Value.ref->as.length=i->tI h es as->(∀a∈as,h1.objs.size<=a/\a≠S/\a≠it/\a<h.objs.size)->as.Nodup->h1.objs.size<=h.objs.size ->
   codeAny (model prog w) A (.builtin "list.extend.loop" ⟨[.ref S,.ref it,res],[]⟩) R {s with heap:=h,toks:=tk}
 | 0,i,h,tk,c,acc,as,hk,hi,hit,hd,kp,hS,ha,hl,tu,ab,ndp,hz=>by
  refine codeAny_builtin PySem.F.entry_extend_loop ?_
  rw [Around.under_plainId PySem.F.plain_extend_loop _]
  show wpAny _ A.in1 (pyNext (.ref it) >>= λ_=>_) _ _ _
  refine ε (zU (s:={s with heap:=h,toks:=tk}) (A:=A.in1) hh hit hd ω λh' xb=>?_)
  exact π (hR h' tk acc c as (λb o n1 n2 e=>xb b o n2 (kp b o n1 n2 e)) (xb S _ nSI hS) ω (λj a hj=>by
   obtain ⟨e,e1,e2⟩:=tu j a hj
   exact ⟨e,e1,xb a _ (ab a (List.mem_of_getElem? hj)).2.2.1 e2⟩) (λa hm=>⟨(ab a hm).1,(ab a hm).2.1,(ab a hm).2.2.1⟩) ndp ha)
 | k+1,i,h,tk,c,acc,as,hk,hi,hit,hd,kp,hS,ha,hl,tu,ab,ndp,hz=>by
  have hlt:i<es.size:=by omega
  have hx:es[i]?=some es[i]:=Array.getElem?_eq_getElem hlt
  have hsz:acc.size=i:=by rw [← Array.length_toList,ha,List.length_map,hl]
  have lS:S<h.objs.size:=η hS
  have lI:it<h.objs.size:=by obtain ⟨_,_,_,_,e,_⟩:=hit;exact η e
  refine codeAny_builtin PySem.F.entry_extend_loop ?_
  rw [Around.under_plainId PySem.F.plain_extend_loop _]
  show wpAny _ A.in1 (pyNext (.ref it) >>= λ_=>_) _ _ _
  refine ε (xP (s:={s with heap:=h,toks:=tk}) hit hd hx λh' hit' ht z' k'=>?_)
  have z'':h'.objs.size=h.objs.size+1:=z'
  have hS':=k' S _ nSI hS
  have up:∀b o,b≠S->h'.get? b=some o->(h'.update S (Obj.mapSeq (·.push (Value.ref h.objs.size)))).get? b=some o:=λb o nb e=>(Heap.get?_update_other _ _ (Ne.symm nb)).trans e
  have zu:(h'.update S (Obj.mapSeq (·.push (Value.ref h.objs.size)))).objs.size=h.objs.size+1:=by rw [Heap.size_update];exact z''
  show wpAny _ A.in1 (updateSeq S (·.push (Value.ref h.objs.size)) >>= λ_=>_) _ _ _
  refine ε (wpAny_updateSeq hS' rfl (π ⟨plainId_quiet PySem.F.plain_extend_loop _,?_⟩) (by rw [hsz];omega) (by show (acc.push (Value.ref h.objs.size)).size<=sizeLine+1;rw [Array.size_push,hsz];omega))
  refine rM hh nSI ndS ndI hn res hR k (i+1) _ tk _ (acc.push (Value.ref h.objs.size)) (as++[h.objs.size]) ω hlt ?_ (hd.at λo e=>up d o ndS (k' d o ndI e)) (λb o n1 n2 e=>up b o n1 (k' b o n2 (kp b o n1 n2 e)))
   (Heap.get?_update_self _ hS' rfl) (by rw [Array.toList_push,ha,List.map_append];rfl) (by rw [List.length_append,hl];rfl) ?_ ?_ ?_ (by rw [zu];omega)
  ·obtain ⟨own,f,ok,ov,e1,how⟩:=hit'
   refine ⟨own,f,ok,ov,up it _ (Ne.symm nSI) e1,how.imp id λ⟨a,oa,w1,w2,w3⟩=>?_⟩
   by_cases aS:a=S
   ·subst aS
    exact ⟨a,_,w1,w2,Heap.get?_update_self _ hS' rfl⟩
   ·exact ⟨a,oa,w1,w2,up a oa aS w3⟩
  ·intro j a hj
   by_cases hja:j<as.length
   ·rw [List.getElem?_append_left hja] at hj
    obtain ⟨e,e1,e2⟩:=tu j a hj
    obtain ⟨_,n1,n2,_⟩:=ab a (List.mem_of_getElem? hj)
    exact ⟨e,e1,up a _ n1 (k' a _ n2 e2)⟩
   ·rw [List.getElem?_append_right ω] at hj
    have hj0:j-as.length=0:=by
     cases q:j-as.length with
     | zero=>rfl
     | succ n=>rw [q] at hj;simp at hj
    rw [hj0] at hj
    have ea:h.objs.size=a:=by simpa using hj
    subst ea
    have ej:j=i:=by omega
    subst ej
    exact ⟨_,hx,up _ _ (Nat.ne_of_gt lS) ht⟩
  ·intro a hm
   rw [zu]
   rcases List.mem_append.mp hm with hm | hm
   ·obtain ⟨m1,m2,m3,m4⟩:=ab a hm
    exact ⟨m1,m2,m3,Nat.lt_succ_of_lt m4⟩
   ·have:=List.mem_singleton.mp hm
    subst this
    exact ⟨hz,Nat.ne_of_gt lS,Nat.ne_of_gt lI,Nat.lt_succ_self _⟩
  ·rw [List.nodup_append]
   refine ⟨ndp,by simp,λx hx' y hy z=>?_⟩
   have ey:y=h.objs.size:=List.mem_singleton.mp hy
   exact Φ (ab x hx').2.2.2 (z.trans ey)
theorem xQ{v:Addr}{Q:Value->Shared->Prop}(hv:s.heap.IsItemsView v d)(hd:RawD s.heap d es ep)(hn:es.size<=sizeLine)
  (hQ:Q (.ref s.heap.objs.size) {s with heap:=s.heap.push (gk .none false d 0 es.size ep .none .none)}):wpAny (model prog w) A (pyIter (.ref v)) Q E s:=by
 obtain ⟨ov,e1,c1,d1⟩:=id hv
 obtain ⟨od,e2,_,d2⟩:=hd
 refine wpAny_pyIter_slot hv.typeIs PySem.F.slot_dict_items_iter (wpAny_call_entry PySem.F.slot_dict_items_iter hv.typeIs PySem.F.entry_dict_items_iter ?_ (PySem.F.args_dict_items_iter_1 _))
 unfold Builtin.«dict_items.__iter__»
 refine ε (π (ε ?_))
 unfold Builtin.Dict_items.dictOf
 refine ε (wpAny_field e1 d1 (x:=.ref d) rfl (π (ε ?_)))
 unfold Builtin.Dict_items.newIterator
 refine ε (wpAny_dictEntries e2 d2 (ε (wpAny_dictEpoch e2 d2 ?_)))
 simp only [nI,if_true]
 refine wpAny_newObj_type (wpAny_pure ⟨_,rfl,"dict_itemiterator",_,⟨_,Heap.get?_push_size _ rfl,rfl⟩,PySem.F.slot_dict_itemiterator_next.lookup,?_⟩) (by simp only [sizeOk,Builtin.Dict_items.ownedTupleFields,List.size_toArray,List.length_append,List.length_cons,List.length_nil,sizeLine_eq];omega)
 simpa [gk,rawInt,Builtin.Dict_items.ownedTupleFields] using hQ
theorem sW{v S:Addr}{c0:Nat}{R:Result->Shared->Prop}(hh:A.handled=none)(hv:s.heap.IsItemsView v d)(hd:RawD s.heap d es ep)(hn:es.size<=sizeLine)(nSv:S≠v)(ndS:d≠S)(res:Value)(hS:s.heap.get? S=some {cls:=.type "list",data:=.seq #[] c0})
  (hR:∀h' tk acc c as,(∀b o,b≠S->s.heap.get? b=some o->h'.get? b=some o)->h'.get? S=some {cls:=.type "list",dict:=none,data:=.seq acc c,slots:=#[]}->as.length=es.size->tI h' es as->(∀a∈as,s.heap.objs.size<=a)->as.Nodup->acc.toList=as.map Value.ref->R (.ok (.ret res)) {s with heap:=h',toks:=tk}) :
  wpAny (model prog w) A.in1 (Builtin.List.listExtendWith (.ref S) (.ref v) res) (λfin s'=>match fin with | .done f=>R (.ok f) s' | .again c'=>c'.quiet=true/\codeAny (model prog w) A c' R s') (λe s'=>R (.error e) s') s:=by
 have lS:S<s.heap.objs.size:=η hS
 have ld:d<s.heap.objs.size:=let ⟨_,e,_⟩:=hd;η e
 have go:∀(h:Heap) (c tk:Nat),(∀b o,b≠S->(s.heap.push (gk .none false d 0 es.size ep .none .none)).get? b=some o->h.get? b=some o)->h.get? S=some {cls:=.type "list",data:=.seq #[] c}->s.heap.objs.size<=h.objs.size ->
   codeAny (model prog w) A (.builtin "list.extend.loop" ⟨[.ref S,.ref s.heap.objs.size,res],[]⟩) R {s with heap:=h,toks:=tk}:=by
  intro h c tk kp eS zh
  have eI:=kp s.heap.objs.size _ (Nat.ne_of_gt lS) (ψ _ rfl)
  refine rM (s:=s) (it:=s.heap.objs.size) (d:=d) (ep:=ep) (es:=es) (h1:=s.heap) hh (Φ lS) ndS (Φ ld) hn res (λh' tk' acc c' as k' eS' l' t' ab n' a'=>hR h' tk' acc c' as (λb o nb e=>k' b o nb (Φ (η e)) e) eS' l' t' (λa ha=>(ab a ha).1) n' a')
   es.size 0 h tk c #[] [] (Nat.sub_zero _) (Nat.zero_le _) ⟨_,_,_,_,eI,.inl rfl⟩ (hd.at λo e=>kp d o ndS (Heap.get?_push_of_some _ e)) (λb o nb _ e=>kp b o nb (Heap.get?_push_of_some _ e)) eS rfl rfl (λj a hj=>by simp at hj) (λa ha=>nomatch ha) List.nodup_nil zh
 unfold Builtin.List.listExtendWith
 refine ε (wpAny_typeOf (T:="dict_items") hv.typeIs ?_)
 have b1:Builtin.List.listSameRef (.ref S) (.ref v)=false:=by simp [Builtin.List.listSameRef,nSv]
 have b2:(Value.type "dict_items"==Value.type "list")=false/\(Value.type "dict_items"==Value.type "tuple")=false:=⟨ζ,ζ⟩
 simp only [b1,b2.1,b2.2,Bool.or_false,Bool.false_eq_true,if_false]
 have eS1:=ρ (gk .none false d 0 es.size ep .none .none) hS
 have zS1:s.heap.objs.size<=(s.heap.push (gk .none false d 0 es.size ep .none .none)).objs.size:=by rw [Heap.size_push];exact Nat.le_succ _
 refine ε (xQ hv hd hn (ε (wpAny_holding (kdx_hint (let ⟨o,e,c,_⟩:=hv;⟨o,ρ _ e,c⟩) ?_))))
 refine wpAny_ite_split (λ_=>?_) (λ_=>π ⟨plainId_quiet PySem.F.plain_extend_loop _,go _ c0 _ (λb o _ e=>e) eS1 zS1⟩)
 refine ε (wpAny_rule (ε ?_))
 show wpAny _ _ (updateSeq S (·.push .none) >>= λ_=>updateSeq S (·.pop)) _ _ {s with heap:=s.heap.push (gk .none false d 0 es.size ep .none .none)}
 have eS2:=Heap.get?_update_self (Obj.mapSeq (·.push Value.none)) eS1 rfl
 have eS3:=Heap.get?_update_self (Obj.mapSeq (·.pop)) eS2 rfl
 refine ε (wpAny_updateSeq eS1 rfl (wpAny_updateSeq (hz:=by seq_fits) eS2 rfl (π ⟨plainId_quiet PySem.F.plain_extend_loop _,go _ _ _ (λb o nb e=>?_) eS3 ?_⟩)))
 ·exact (Heap.get?_update_other _ _ (Ne.symm nb)).trans ((Heap.get?_update_other _ _ (Ne.symm nb)).trans e)
 ·rw [Heap.size_update,Heap.size_update]
  exact zS1
theorem qA{v:Addr}{R:List Value->Shared->Prop}(hh:A.handled=none)(hv:s.heap.IsItemsView v d)(hd:RawD s.heap d es ep)(hn:es.size<=sizeLine)
  (hR:∀(h':Heap) (tk:Nat) (as:List Addr),(∀b o,s.heap.get? b=some o->h'.get? b=some o)->as.length=es.size->tI h' es as->(∀a∈as,s.heap.objs.size<=a)->as.Nodup->R (as.map Value.ref) {s with heap:=h',toks:=tk}) :
  wpAny (model prog w) A (collect (.ref v)) R E s:=by
 have lv:v<s.heap.objs.size:=let ⟨_,e,_⟩:=hv;η e
 have ld:d<s.heap.objs.size:=let ⟨_,e,_⟩:=hd;η e
 unfold collect
 refine ε (wpAny_runValue (codeAny_builtin entry_proto_collect' ?_))
 rw [Around.under_plainId PySem.F.plain_proto_collect _]
 show wpAny _ A.in1 (newList [] >>= λl=>again (.builtin "list.__iadd__" (Args.mk [l,.ref v] []))) _ _ s
 refine ε (wpAny_newObj_type (π ⟨plainId_quiet PySem.F.plain_list_iadd _,codeAny_builtin entry_list_iadd' ?_⟩))
 rw [Around.under_plainId PySem.F.plain_list_iadd _]
 have eS:(s.heap.push {cls:=.type "list",data:=.seq ([]:List Value).toArray}).get? s.heap.objs.size=some {cls:=.type "list",data:=.seq #[] 0}:=ψ _ rfl
 have key:=sW (prog:=prog) (w:=w) (A:=A) (s:={s with heap:=s.heap.push {cls:=.type "list",data:=.seq ([]:List Value).toArray}}) (v:=v) (S:=s.heap.objs.size) (d:=d) (es:=es) (ep:=ep)
  (R:=λ(q:Result) (s':Shared)=>∃(h':Heap) (tk:Nat) (acc:Array Value) (c:Nat) (as:List Addr),q=.ok (.ret (.ref s.heap.objs.size))/\s'={s with heap:=h',toks:=tk}/\(∀b o,s.heap.get? b=some o->h'.get? b=some o) /\
   h'.get? s.heap.objs.size=some {cls:=.type "list",dict:=none,data:=.seq acc c,slots:=#[]}/\as.length=es.size/\tI h' es as/\(∀a∈as,s.heap.objs.size<=a)/\as.Nodup/\acc.toList=as.map Value.ref)
  hh (let ⟨o,e,r⟩:=hv;⟨o,ρ _ e,r⟩) (hd.at λo e=>ρ _ e) hn (Nat.ne_of_gt lv) (Φ ld) (.ref s.heap.objs.size) eS
  (λh' tk acc c as k' eS' l' t' ab n' a'=>⟨h',tk,acc,c,as,rfl,rfl,λb o e=>k' b o (Φ (η e)) (ρ _ e),eS',l',t',λa ha=>Nat.le_of_succ_le (by have:=ab a ha;rw [Heap.size_push] at this;exact this),n',a'⟩)
 have fin:∀(q:Result) (s':Shared),(∃(h':Heap) (tk:Nat) (acc:Array Value) (c:Nat) (as:List Addr),q=.ok (.ret (.ref s.heap.objs.size))/\s'={s with heap:=h',toks:=tk}/\(∀b o,s.heap.get? b=some o->h'.get? b=some o) /\
   h'.get? s.heap.objs.size=some {cls:=.type "list",dict:=none,data:=.seq acc c,slots:=#[]}/\as.length=es.size/\tI h' es as/\(∀a∈as,s.heap.objs.size<=a)/\as.Nodup/\acc.toList=as.map Value.ref) ->
   ∃h' tk,q=.ok (.ret (.ref s.heap.objs.size))/\s'={s with heap:=h',toks:=tk}/\wpAny (model prog w) A (load s.heap.objs.size >>= λo=>match o.data with | .seq xs _=>pure xs.toList | _=>unsupported "internal:collect") R E {s with heap:=h',toks:=tk}:=by
  rintro q s' ⟨h',tk,acc,c,as,rfl,rfl,k',eS',l',t',ab,n',a'⟩
  refine ⟨h',tk,rfl,rfl,ε (wpAny_load eS' (π ?_))⟩
  show R acc.toList _
  rw [a']
  exact hR h' tk as k' l' t' ab n'
 refine wpAny_mono key (λf s' x=>?_) λe s' x=>?_
 ·cases f with
  | done fl =>
   obtain ⟨h',tk,e1,e2,g⟩:=fin _ _ x
   cases e1
   subst e2
   exact g
  | again c1 =>
   refine ⟨x.1,codeAny_mono x.2 λq s2 y=>?_⟩
   obtain ⟨h',tk,e1,e2,g⟩:=fin _ _ y
   subst e1 e2
   exact g
 ·obtain ⟨h',tk,e1,_⟩:=fin _ _ x
  cases e1
end
end L2
namespace L2
open PySem PySem.Spec PyProof.Rows PySem.W
section
variable {prog:Program}{w:World}{A:Around}{E:Value->Shared->Prop}{s:Shared}{it d:Addr}{i ep:Nat}{es:Array DictEntry}
theorem oP:Builtin.Dict_items.ownsTuple "dict_keyiterator"=false:=by decide
theorem wX{Q:Value->Shared->Prop}(hd0:(d==sysModules)=false)(hd:RawD s.heap d es ep)
  (hQ:Q (.ref s.heap.objs.size) {s with heap:=s.heap.push {cls:=.type "dict_keyiterator",data:=.fields #[.ref d,.int 0 0,.int es.size 0,.int ep 0]}}):wpAny (model prog w) A (pyIter (.ref d)) Q E s:=by
 obtain ⟨od,e2,hc,d2⟩:=hd
 have hT:s.TypeIs (.ref d) "dict":=⟨od,e2,hc.1⟩
 refine wpAny_pyIter_slot hT PySem.F.slot_dict_iter (wpAny_call_entry PySem.F.slot_dict_iter hT PySem.F.entry_dict_iter ?_ (PySem.F.args_dict_iter_1 _))
 unfold Builtin.«dict.__iter__» Builtin.Dict.dictSlotNone
 refine ε (ε (wpAny_notOrdered_dict hT ?_))
 refine π ?_
 show wpAny _ _ (Builtin.Dict.showsAll d >>= λ_=>_) _ _ s
 unfold Builtin.Dict.showsAll
 rw [if_neg (by rw [hd0];exact Bool.false_ne_true)]
 refine ε (π (ε (wpAny_dictEntries e2 d2 (ε (wpAny_dictEpoch e2 d2 ?_)))))
 refine ε (wpAny_newObj_type (π ⟨_,rfl,"dict_keyiterator",_,⟨_,ψ _ rfl,rfl⟩,PySem.F.slot_dict_keyiterator_next.lookup,?_⟩))
 simpa [rawInt] using hQ
theorem wW{e:DictEntry}{Q:Option Value->Shared->Prop}(hit:s.heap.IsKeyIter it d i es.size ep)(hd:RawD s.heap d es ep)(hx:es[i]?=some e)
  (hQ:∀h',h'.IsKeyIter it d (i+1) es.size ep->Heap.SameBut it s.heap h'->Q (some e.key) {s with heap:=h'}):wpAny (model prog w) A (pyNext (.ref it)) Q E s:=by
 obtain ⟨oi,h1,hc,hf⟩:=id hit
 obtain ⟨od,hod,_,hdd⟩:=hd
 have ty:=hit.typeIs
 unfold pyNext
 refine ε (wpAny_attempt (wpAny_callSpecial?_slot (name:=Str.ofString "__next__") ty PySem.F.slot_dict_keyiterator_next (wpAny_call_entry PySem.F.slot_dict_keyiterator_next ty PySem.F.entry_dict_keyiterator_next ?_ (PySem.F.args_dict_keyiterator_next_1 _))))
 refine ε (π (ε (ε ?_)))
 first | refine ε (wpAny_typeNameOfWhole_keyiter ty (π ?_)) | refine ε (wpAny_typeNameOf_keyiter ty (π ?_))
 refine ε (wpAny_fieldsOf h1 hf ?_)
 simp only [oP,Bool.false_eq_true,if_false]
 show wpAny _ _ (if (Value.ref d==Value.none)=true then _ else (_:Sem (Option (Array DictEntry×Int)))) _ _ s
 rw [if_neg (show ¬((Value.ref d==Value.none)=true) by intro z;cases z)]
 refine ε (π (ε (wpAny_dictEntries hod hdd ?_)))
 rw [if_neg (by simp)]
 refine ε (π (ε (wpAny_dictEpoch hod hdd ?_)))
 rw [if_neg (by simp)]
 refine π ?_
 simp only [show ¬((i:Int)<0) by omega,if_false,Int.toNat_natCast,hx]
 refine ε ?_
 first | refine ε (wpAny_typeNameOfWhole_keyiter ty (π ?_)) | refine ε (wpAny_typeNameOf_keyiter ty (π ?_))
 refine ε (wpAny_isOneOf_keyiter ty ?_)
 show wpAny _ _ (setField (.ref it) 1 (rawInt ((i:Int)+1)) >>= λ_=>_) _ _ s
 refine wpAny_bind (wpAny_setField h1 hf (by simp) ?_)
 have hit':(s.heap.update it (Obj.mapFields (·.setIfInBounds 1 (rawInt ((i:Int)+1))))).IsKeyIter it d (i+1) es.size ep :=
  ⟨_,Heap.get?_update_self _ h1 (Obj.isFreed_of_fields (Obj.data_mapFields hf _)),(Obj.cls_mapFields ..).trans hc,by rw [Obj.data_mapFields hf];simp [rawInt]⟩
 refine ε (wpAny_holding (ε (wpAny_isOneOf_keyiter (s:={s with heap:=s.heap.update it (Obj.mapFields (·.setIfInBounds 1 (rawInt ((i:Int)+1))))}) hit'.typeIs ?_)))
 show wpAny _ _ (pure e.key) _ _ _
 exact π (π ⟨_,rfl,π (hQ _ hit' (Heap.SameBut.update ..))⟩)
theorem zg{Q:Option Value->Shared->Prop}(hh:A.handled=none)(hit:s.heap.IsKeyIter it d i es.size ep)(hd:RawD s.heap d es ep)(hx:es.size<=i)
  (hQ:∀h',Heap.ExtBut it s.heap h'->Q none {s with heap:=h'}):wpAny (model prog w) A (pyNext (.ref it)) Q E s:=by
 obtain ⟨oi,h1,hc,hf⟩:=id hit
 obtain ⟨od,hod,_,hdd⟩:=hd
 have ty:=hit.typeIs
 unfold pyNext
 refine ε (wpAny_attempt (wpAny_callSpecial?_slot (name:=Str.ofString "__next__") ty PySem.F.slot_dict_keyiterator_next (wpAny_call_entry PySem.F.slot_dict_keyiterator_next ty PySem.F.entry_dict_keyiterator_next ?_ (PySem.F.args_dict_keyiterator_next_1 _))))
 refine ε (π (ε (ε ?_)))
 first | refine ε (wpAny_typeNameOfWhole_keyiter ty (π ?_)) | refine ε (wpAny_typeNameOf_keyiter ty (π ?_))
 refine ε (wpAny_fieldsOf h1 hf ?_)
 simp only [oP,Bool.false_eq_true,if_false]
 show wpAny _ _ (if (Value.ref d==Value.none)=true then _ else (_:Sem (Option (Array DictEntry×Int)))) _ _ s
 rw [if_neg (show ¬((Value.ref d==Value.none)=true) by intro z;cases z)]
 refine ε (π (ε (wpAny_dictEntries hod hdd ?_)))
 rw [if_neg (by simp)]
 refine ε (π (ε (wpAny_dictEpoch hod hdd ?_)))
 rw [if_neg (by simp)]
 refine π ?_
 simp only [show ¬((i:Int)<0) by omega,if_false,Int.toNat_natCast,Array.getElem?_eq_none hx]
 refine ε ?_
 first | refine ε (wpAny_typeNameOfWhole_keyiter ty (π ?_)) | refine ε (wpAny_typeNameOf_keyiter ty (π ?_))
 show wpAny _ _ (setField (.ref it) 0 .none >>= λ_=>_) _ _ s
 refine wpAny_bind (wpAny_setField h1 hf (by simp) ?_)
 show wpAny _ _ (newExc (.type "StopIteration") [] >>= λ_=>_) _ _ _
 refine ε ?_
 simp only [newExc,newTuple]
 refine wpAny_bind (wpAny_newObj_type (wpAny_bind (m:=firstArgMember _ _) (wpAny_of_eq (a:=Value.none) (by first | rfl | (simp only [firstArgMember];rfl)) (wpAny_newObj_type ?_ (by size_fits)))) (by size_fits))
 simp only [raiseNew]
 refine ε (wpAny_handled ?_)
 rw [show A.in1.handled=none from hh]
 refine ε (π (wpAny_throw ?_));refine ε (wpAny_isInstance (T:="StopIteration") (b:=true) ⟨_,ψ _ rfl,rfl⟩ isSubtype_stop ?_)
 exact π (hQ _ (((Heap.SameBut.update ..).extBut.push _).push _))
end
end L2
namespace L2
open PySem PySem.Spec PyProof.Rows PySem.W
def Fz(a:Addr)(o:Obj):HO:=.ext λh=>h.get? a=some o
def FzD(P:Program)(w:World)(H:Hp)(a:Addr)(o:Obj)(kvs:List (List Key×V)):Prop :=
 kvs.length<=sizeLine/\(a==sysModules)=false/\∃xs es ep,KT H kvs xs/\o.ExactDict/\o.data=.dict es ep/\es.toList=xs.map (entryOfKey (tupleKind (aL P w)))/\(xs.map (·.1)).Nodup
theorem FzD.keep{P:Program}{w:World}{H H':Hp}{a:Addr}{o:Obj}{kvs:List (List Key×V)}(e:aT H H')(f:FzD P w H a o kvs):FzD P w H' a o kvs:=by
 obtain ⟨z,hd,xs,es,ep,r,q⟩:=f
 exact ⟨z,hd,xs,es,ep,r.keeps e,q⟩
section
variable {X:Cx}{pins:List (Addr×Obj)}{σ:St}{H:Hp}{s:Shared}{a:Addr}{o:Obj}{kvs:List (List Key×V)}
theorem zY(I:Inv X pins σ H s)(e:H a=some (.dT kvs)):∃o,Inv X pins σ (upd H a (Fz a o)) s/\FzD X.prog X.w (upd H a (Fz a o)) a o kvs/\s.heap.get? a=some o:=by
 obtain ⟨z,hd,xs,r,o,es,ep,h1,h2,h3,h4,h5⟩:=(show ObjOk X.prog X.w H s.heap a (.dT kvs) from I.hok a _ e)
 refine ⟨o,I.write (x:=a) (e:=a) (h':=s.heap) (t':=s.toks) (by rw [e];exact True.intro) (.inl rfl) (λb u _ q=>q) ⟨_,h1⟩ ⟨h1,⟨_,h1⟩,λg1 g2 p k=>k _ p⟩,⟨z,hd,xs,es,ep,KT.keeps (H:=H) r λb ys q=>?_,h2,h3,h4,h5⟩,h1⟩
 rw [am (bU q e (λz=>nomatch z))]
 exact q
theorem ub(I:Inv X pins σ H s)(e:H a=some (Fz a o))(f:FzD X.prog X.w H a o kvs):Inv X pins σ (upd H a (.dT kvs)) s:=by
 obtain ⟨z,hd,xs,es,ep,r,h2,h3,h4,h5⟩:=f
 obtain ⟨h1,_⟩:=(show ObjOk X.prog X.w H s.heap a (Fz a o) from I.hok a _ e)
 refine I.write (x:=a) (e:=a) (h':=s.heap) (t':=s.toks) (by rw [e];exact True.intro) (.inl rfl) (λb u _ q=>q) ⟨_,h1⟩ ⟨z,hd,xs,r.keeps λb ys q=>?_,o,es,ep,h1,h2,h3,h4,h5⟩
 rw [am (bU q e (λz=>nomatch z))]
 exact q
theorem xV(I:Inv X pins σ H s)(e:H a=some (Fz a o))(f:FzD X.prog X.w H a o kvs):(a==sysModules)=false/\∃xs,KT H kvs xs/\s.heap.DictOfH (tupleKind (aL X.prog X.w)) a xs:=by
 obtain ⟨_,hd,xs,r,dd⟩:=wj (ub I e f).hok ad
 refine ⟨hd,xs,r.keeps λb ys q=>?_,dd⟩
 by_cases hb:b=a
 ·rw [hb,ad] at q
  cases q
 ·rw [am hb] at q
  exact q
end
def Ap(P:Program)(w:World)(t:TE):TE:=fun σ H Q=>t σ H λv H1=>∃a o kvs,H1 a=some (Fz a o)/\FzD P w H1 a o kvs/\Q v (upd H1 a (.dT kvs))
theorem w6{X:Cx}{e:Expr}{t:TE}(he:PE X e t):PE X e (Ap X.prog X.w t):=by
 intro pins s σ H Q I h
 refine thn (he pins s σ H _ I h) λu s1 ⟨x,H1,I1,rx,a,o,kvs,e1,f,q⟩=>?_
 exact ⟨x,_,ub I1 e1 f,rx,q⟩
def ug(P:Program)(w:World)(td ty:TE):TE:=fun σ H Q=>td σ H λx H1=>ty σ H1 λy H2=>∃a o kvs k b v,x=.ref a/\y=.ref b/\H2 a=some (Fz a o)/\FzD P w H2 a o kvs/\H2 b=some (.tup (List.map kV k))/\bo kvs k=some v/\Q v H2
theorem uU{X:Cx}{o i:Expr}{pos:Pos}{td ty:TE}(hu:X.A.units+1<cLine)(ho:PE X o td)(hi:PE X i ty)(hs:yi i):PE X (.Subscript o i pos) (ug X.prog X.w td ty):=by
 intro pins s σ H Q I h
 refine qS PySem.F.slot_dict_getitem.lookup hs (thn (ho pins s σ H _ I h) λu s1 ⟨x,H1,I1,rx,q1⟩=>thn (hi pins s1 σ H1 _ I1 q1) λiv s2 ⟨y,H2,I2,ry,a,ob,kvs,k,b,v,ex,ey,e1,f,eb,l,q2⟩=>?_)
 subst ex ey
 obtain rfl:u=Value.ref a:=rx
 obtain rfl:iv=Value.ref b:=ry
 obtain ⟨_,xs,rel,dd⟩:=xV I2 e1 f
 obtain ⟨w',hw,rw'⟩:=RelO.some_of (v:=v) (o:=(atKey xs k).map (·.2)) (by rw [← l];exact rel.val k)
 obtain ⟨p,hp,hp2⟩:=Option.map_eq_some_iff.mp hw
 refine ⟨dd.typeIs,wpAny_getItem_heap (tupleKind_room_in1 hu) (gI I2.hok eb) dd hp ?_⟩
 rw [hp2]
 exact ⟨v,H2,I2.tok _,rw',q2⟩
def Itk(a:Addr)(o:Obj):It :=
 ⟨λi H=>H a=some (Fz a o)/\∃es ep h b v,o.data=.dict es ep/\es[i]?=some ⟨h,.ref b,v⟩,λi H x H'=>H'=H/\∃es ep h b v,o.data=.dict es ep/\es[i]?=some ⟨h,.ref b,v⟩/\x=.ref b,
  λi H=>H a=some (Fz a o)/\∃es ep,o.data=.dict es ep/\es.size<=i⟩
theorem sk{P:Program}{w:World}{K:Frag}{tg:Expr}(a it:Addr)(o:Obj)(hx:o.ExactDict):qL P w K tg (Itk a o) [it] it (λi h=>∃es ep,o.data=.dict es ep/\h.IsKeyIter it a i es.size ep) where
 mem:=by simp
 obj:=λi h st b hb=>by
  have e:b=it:=by simpa using hb
  subst e
  obtain ⟨_,_,_,o,e,c,d⟩:=st
  exact ⟨o,e,λv z=>by rw [d] at z;cases z⟩
 keep:=λi h h' st k=>by
  obtain ⟨es,ep,d,st⟩:=st
  exact ⟨es,ep,d,st.at λo e=>k it (by simp) o e⟩
 item:=by
  intro X hP hw hK hc i pins s σ H E I hf st hg
  subst hP hw hK
  obtain ⟨es,ep,hd,st⟩:=st
  obtain ⟨e0,es',ep',hh,b,v,hd',hi⟩:=hg
  rw [hd] at hd'
  cases hd'
  obtain ⟨h1,_⟩:=(show ObjOk X.prog X.w H s.heap a (Fz a o) from I.hok a _ e0)
  obtain ⟨f0,f1,f2,f3,f4,f5⟩:=hf it (by simp)
  refine wW st ⟨o,h1,hx,hd⟩ hi λh' st' sb=>?_
  have I1:Inv X pins σ H {s with heap:=h'}:=I.turned (t':=s.toks) (λb o hb e=>(sb.2 b hb).trans e) f0 f1 f3 f4 f5
  obtain ⟨oi,e,c,d⟩:=id st'
  exact ⟨.ref b,rfl,mj (s:={s with heap:=h'}) e c d ζ ⟨.ref b,H,I1,rfl,⟨rfl,es,ep,hh,b,v,hd,hi,rfl⟩,⟨es,ep,hd,st'⟩,λb hb=>(hf b hb).1⟩⟩
 done:=by
  intro X hP hw hK hc i pins s σ H E I hf st hg
  subst hP hw hK
  obtain ⟨es,ep,hd,st⟩:=st
  obtain ⟨e0,es',ep',hd',hi⟩:=hg
  rw [hd] at hd'
  cases hd'
  obtain ⟨h1,_⟩:=(show ObjOk X.prog X.w H s.heap a (Fz a o) from I.hok a _ e0)
  obtain ⟨f0,f1,f2,f3,f4,f5⟩:=hf it (by simp)
  exact zg (I.ok.hd hc) st ⟨o,h1,hx,hd⟩ hi λh' eb=>⟨rfl,I.turned (t':=s.toks) (λb o hb e=>eb b o hb e) f0 f1 f3 f4 f5⟩
 self:=λ_ _ _ _ _ st h=>by
  obtain ⟨es,ep,hd,st⟩:=st
  exact wpAny_pyIter_keyiter st h
def A7(P:Program)(w:World)(tl:TE):TI:=fun σ H R=>tl σ H λx H1=>∃a kvs,x=.ref a/\H1 a=some (.dT kvs)/\∀o,FzD P w (upd H1 a (Fz a o)) a o kvs->R (Itk a o) (upd H1 a (Fz a o))
theorem w5{X:Cx}{tg l:Expr}{tl:TE}(hl:PE X l tl):PI X tg l (A7 X.prog X.w tl):=by
 intro pins s σ H R I h
 refine thn (hl pins s σ H _ I h) λv s1 ⟨x,H1,I1,r1,q1⟩=>?_
 obtain ⟨a,kvs,e,hd,q⟩:=q1
 subst e
 cases r1
 obtain ⟨o,I2,f,h1⟩:=zY I1 hd
 obtain ⟨_,hs,xs,es,ep,_,h2,h3,_,_⟩:=id f
 refine wX hs ⟨o,h1,h2,h3⟩ ?_
 refine ⟨s1.heap.objs.size,[s1.heap.objs.size],_,_,_,rfl,I2.kept (t':=s1.toks) λb o e=>ρ _ e,sk a _ o h2,⟨es,ep,h3,_,ψ _ rfl,rfl,rfl⟩,λb hb=>?_,q o f⟩
 have e:b=s1.heap.objs.size:=by simpa using hb
 subst e
 exact I2.fpOk (ι _) (I2.hok.fresh (ι _))
section
variable {P:Program}{w:World}{a:Addr}{o:Obj}{kvs:List (List Key×V)}{tt:TT}{te:TE}{bl:St}{Fin:List V->Hp->Prop}{H:Hp}
theorem xI(f:FzD P w H a o kvs)(Pv:Nat->List V->Hp->Prop)(h0:Pv 0 [] H)(hl:∀i ys H',i<=kvs.length->Pv i ys H'->H' a=some (Fz a o)/\aT H H')
  (hs:∀i e b ys H',kvs[i]?=some e->H' b=some (.tup (e.1.map kV))->Pv i ys H'->tt (some (.ref b)::bl) H' λc H2=>if c=true then te (some (.ref b)::bl) H2 λy H3=>Pv (i+1) (ys++[y]) H3 else Pv (i+1) ys H2)
  (hd:∀ys H',Pv kvs.length ys H'->Fin ys H') :
  ∃(W:Nat->List V->Hp->Prop) (n:Nat),W 0 [] H/\n<=sizeLine/\∀i ys H,W i ys H->((Itk a o).stop i H/\Fin ys H) \/
   ((Itk a o).go i H/\i<n/\∀x H',(Itk a o).yld i H x H'->tt (some x::bl) H' λc H2=>if c=true then te (some x::bl) H2 λy H3=>W (i+1) (ys++[y]) H3 else W (i+1) ys H2):=by
 obtain ⟨hn,_,xs,es,ep,r,hx,hdd,he,_⟩:=f
 have hsz:es.size=kvs.length:=by rw [size_of_entries he];exact (Paired.length r).symm
 refine ⟨λi ys H'=>i<=kvs.length/\Pv i ys H',kvs.length,⟨Nat.zero_le _,h0⟩,hn,?_⟩
 rintro i ys H' ⟨hi,p⟩
 obtain ⟨q,ts⟩:=hl i ys H' hi p
 by_cases hlt:i<kvs.length
 ·obtain ⟨y,ey,ry⟩:=r.get1 (ξ hlt)
  have ee:es[i]?=some (entryOfKey (tupleKind (aL P w)) y):=by rw [entry_at he,ey];rfl
  refine .inr ⟨⟨q,es,ep,_,y.2.1,y.2.2,hdd,ee⟩,hlt,λx H2 z=>?_⟩
  obtain ⟨e,es',ep',hh,b,v,hd',hi',ex⟩:=z
  subst e ex
  rw [hdd] at hd'
  cases hd'
  rw [ee] at hi'
  have eb:y.2.1=b:=by
   have:=congrArg DictEntry.key (Δ hi')
   exact Value.ref.inj this
  subst eb
  have z:=hs i kvs[i] y.2.1 ys H2 (ξ hlt) (ts _ _ ry.2.1) p
  have e1:(λ(c:Bool) (H2:Hp)=>if c=true then te (some (.ref y.2.1)::bl) H2 λy H3=>i+1<=kvs.length/\Pv (i+1) (ys++[y]) H3 else i+1<=kvs.length/\Pv (i+1) ys H2)=λc H2=>if c=true then te (some (.ref y.2.1)::bl) H2 λy H3=>Pv (i+1) (ys++[y]) H3 else Pv (i+1) ys H2:=by
   have e2:(i+1<=kvs.length)=True:=eq_true hlt
   funext c H2
   simp only [e2,true_and]
  show tt _ _ _
  rw [e1]
  exact z
 ·have e:i=kvs.length:=by omega
  subst e
  exact .inl ⟨⟨q,es,ep,hdd,ω⟩,hd ys H' p⟩
end
end L2
namespace L2
open PySem PySem.Spec PyProof.Rows PySem.W
def Vw(v d:Addr):HO:=.ext λh=>h.IsItemsView v d
def yQ(td:TE):TE:=fun σ H Q=>td σ H λx H1=>∃a kvs,x=.ref a/\H1 a=some (.dT kvs)/\∀v,H1 v=none->Q (.ref v) (upd H1 v (Vw v a))
theorem uS{X:Cx}{o:Expr}{apos cpos:Pos}{td:TE}(ho:PE X o td)(hbase:attributeBase o "items" X.env (eval o X.env)=eval o X.env:=by rfl)(hline:(apos.endLine==cpos.line)=true:=by rfl) :
  PE X (.Call (.Attribute o "items" apos) [] [] cpos) (yQ td):=by
 intro pins s σ H Q I h
 refine wpAny_Call_method0_late hbase hline (thn (ho pins s σ H _ I h) λu s1 ⟨x,H1,I1,rx,a,kvs,ex,e,q⟩=>?_)
 subst ex
 obtain rfl:u=Value.ref a:=rx
 obtain ⟨t1,t2,hs⟩:=nQ I1 (.inr ⟨kvs,.inl e⟩)
 refine ⟨"dict","dict.items",PySem.F.plainAttrs_dict,PySem.F.slot_dict_items,PySem.F.type_dict_items,t1,t2,Calls.callWith_builtin rfl (PySem.evalArgs_none ?_)⟩
 refine wpAny_call_entry PySem.F.slot_dict_items t1 PySem.F.entry_dict_items ?_ (PySem.F.args_dict_items_1 _)
 unfold Builtin.«dict.items» Builtin.Dict.noArgs
 refine ε (ε (wpAny_notOrdered_dict t1 (π ?_)))
 show wpAny _ _ (Builtin.Dict.showsAll a >>= λ_=>_) _ _ s1
 unfold Builtin.Dict.showsAll
 rw [if_neg (by rw [hs];exact Bool.false_ne_true)]
 refine ε (π (ε (wpAny_newObj_type (π ⟨_,rfl,?_⟩))))
 refine ⟨.ref s1.heap.objs.size,_,I1.laid (a:=s1.heap.objs.size) (o:=Vw s1.heap.objs.size a) (t':=s1.toks) (λ_ _ z=>ρ _ z) (ι _) ⟨⟨_,ψ _ rfl,rfl,rfl⟩,⟨_,ψ _ rfl⟩,λg1 g2 ⟨ob,p,r⟩ k=>⟨ob,k _ p,r⟩⟩,rfl,q _ (I1.hok.fresh (ι _))⟩
theorem je{α β:Type}{F:α->β->Prop}:∀{xs:List α} {ys:List β},xs.length=ys.length->(∀(i:Nat) x y,xs[i]?=some x->ys[i]?=some y->F x y)->Paired F xs ys
 | [],[],_,_=>.nil
 | x::xs,y::ys,h,f=>.cons (f 0 x y rfl rfl) (je (Nat.succ.inj h) λi a b e1 e2=>f (i+1) a b e1 e2)
def jz(H:Hp)(ts:List (Addr×List V)):Hp:=λb=>match ts.find? (λp=>decide (p.1=b)) with | some p=>some (.tup p.2) | none=>H b
theorem wK{H:Hp}{ts:List (Addr×List V)}(nd:(ts.map (·.1)).Nodup){p:Addr×List V}(hp:p∈ts):jz H ts p.1=some (.tup p.2):=by
 unfold jz
 have:ts.find? (λq=>decide (q.1=p.1))=some p:=by
  induction ts with
  | nil=>cases hp
  | cons x r ih =>
   rw [List.map_cons,List.nodup_cons] at nd
   rw [List.find?_cons]
   by_cases e:x.1=p.1
   ·rw [τ e]
    rcases List.mem_cons.mp hp with z | z
    ·rw [z]
    ·exact absurd (List.mem_map.mpr ⟨p,z,e.symm⟩) nd.1
   ·rw [Γ e]
    rcases List.mem_cons.mp hp with z | z
    ·exact absurd (by rw [z]) e
    ·exact ih nd.2 z
 rw [this]
theorem qO{H:Hp}{ts:List (Addr×List V)}{b:Addr}(h:∀p∈ts,p.1≠b):jz H ts b=H b:=by
 unfold jz
 have:ts.find? (λq=>decide (q.1=b))=none:=List.find?_eq_none.mpr λp hp c=>h p hp (Ξ c)
 rw [this]
theorem tX{H:Hp}{ts:List (Addr×List V)}{b:Addr}{o:HO}(h:jz H ts b=some o):(∃p∈ts,p.1=b/\o=.tup p.2)\/((∀p∈ts,p.1≠b)/\H b=some o):=by
 unfold jz at h
 cases e:ts.find? (λq=>decide (q.1=b)) with
 | none =>
  rw [e] at h
  exact .inr ⟨λp hp z=>List.find?_eq_none.mp e p hp (τ z),h⟩
 | some p =>
  rw [e] at h
  exact .inl ⟨p,List.mem_of_find?_eq_some e,by simpa using List.find?_some e,(Option.some.inj h).symm⟩
section
variable {X:Cx}{pins:List (Addr×Obj)}{σ:St}{H:Hp}{s:Shared}
theorem A1{h':Heap}{tk:Nat}{ts:List (Addr×List V)}(I:Inv X pins σ H s)(k:∀b o,s.heap.get? b=some o->h'.get? b=some o)(new:∀p∈ts,s.heap.objs.size<=p.1)
  (ok:∀p∈ts,p.2.length<=sizeLine/\∃its,Vals p.2 its/\IsTup h' p.1 (List.toArray its)):Inv X pins σ (jz H ts) {s with heap:=h',toks:=tk}:=by
 have old:∀b o,s.heap.get? b=some o->jz H ts b=H b:=λb o e=>qO λp hp z=>by
  subst z
  exact Nat.not_le_of_gt (η e) (new p hp)
 have oldH:∀b o,H b=some o->jz H ts b=H b:=λb o e=>by
  obtain ⟨ob,e'⟩:=(I.hok b o e).there
  exact old b ob e'
 refine I.step (h':=h') (g':=s.gens) (d':=s.drawn) (t':=tk) (ch:=[]) (λ_ z=>nomatch z) (λb o _ _ _ e _=>k b o e) (λb o _ _ _ e _=>⟨o.slots,k b o e⟩) (λb o _ e n=>by rw [old b o e];exact n)
  (λb o _ e=>⟨o,k b o e⟩) (λb xs e=>by rw [oldH b _ e];exact e) (λb o u e=>by rw [oldH b _ e];exact e) (λb ps e=>⟨#[],by rw [oldH b _ e,e];simp⟩) (λm hm=>?_) (λb o e=>?_) I.bare
 ·obtain ⟨ob,es,ep,ho',r⟩:=hm
  exact ⟨ob,es,ep,k _ ob ho',r⟩
 ·rcases tX e with ⟨p,hp,rfl,rfl⟩ | ⟨hn,e'⟩
  ·exact ok p hp
  ·exact (I.hok b o e').stay (λd v _ q=>k d v q) (λd q=>by rw [oldH d _ q];exact q) λd xs q=>by rw [oldH d _ q];exact q
end
theorem og{X:Cx}(hc:X.calm=true)(hu:X.A.units+4<cLine):dX X (.builtin "sorted") (λxs H Q=>∃v d es,xs=[.ref v]/\H v=some (Vw v d)/\H d=some (.dT (List.map (λx:(Int×Int)×Str=>([.inl x.1.1,.inl x.1.2],V.str x.2)) es))/\es.length<64 /\
  ∀H' l ys,Same H H'->H' l=none->Paired (sPS X.K (upd H' l (.lst ys))) (ju ltE es) ys->Q (.ref l) (upd H' l (.lst ys))):=by
 intro pins s σ H xs us Q I r h
 obtain ⟨v,d,es,rfl,hv,hd,h64,q⟩:=h
 obtain ⟨u,rfl,rx⟩:=dF r
 cases (show u=Value.ref v from rx)
 obtain ⟨hw,_⟩:=(show ObjOk X.prog X.w H s.heap v (Vw v d) from I.hok v _ hv)
 obtain ⟨z,_,xs,rel,o,en,ep,h1,h2,h3,h4,h5⟩:=(show ObjOk X.prog X.w H s.heap d (.dT _) from I.hok d _ hd)
 have lx:es.length=xs.length:=by rw [← Paired.length rel,List.length_map]
 have ln:en.size=xs.length:=size_of_entries h4
 refine Calls.call_function_entry kind_sorted plain_sorted entry_sorted (args_sorted1 _) ?_
 unfold Builtin.«sorted»
 refine ε (m:=checkCount "sorted" 1 1 _) (π (ε (qA (A:=X.A.in1) (I.ok.hd hc) hw ⟨o,h1,h2,h3⟩ (by rw [ln,← lx,sizeLine_eq];omega) λh' tk as k' la tu ab nd=>?_)))
 let ts:List (Addr×List V):=(as.zip (es.zip xs)).map λt=>(t.1,[.ref t.2.2.2.1,.str t.2.1.2])
 have lt:(as.zip (es.zip xs)).length=as.length:=by rw [List.length_zip,List.length_zip];omega
 have fst:ts.map (·.1)=as:=by
  show ((as.zip (es.zip xs)).map λt=>(t.1,([.ref t.2.2.2.1,.str t.2.1.2]:List V))).map (·.1)=as
  rw [List.map_map]
  show (as.zip (es.zip xs)).map Prod.fst=as
  rw [List.map_fst_zip]
  rw [List.length_zip]
  omega
 have at3:∀(i:Nat) (a:Addr) (x:(Int×Int)×Str),as[i]?=some a->es[i]?=some x->∃y:List Key×Addr×Value,xs[i]?=some y/\(a,[V.ref y.2.1,.str x.2])∈ts/\H y.2.1=some (.tup [.int x.1.1,.int x.1.2])/\RelV (.str x.2) y.2.2:=λi a x ea ex=>by
  obtain ⟨y,ey,ry⟩:=rel.get1 (j:=i) (x:=([.inl x.1.1,.inl x.1.2],V.str x.2)) (by rw [List.getElem?_map,ex];rfl)
  refine ⟨y,ey,List.mem_map.mpr ⟨(a,x,y),List.mem_of_getElem? (i:=i) ?_,rfl⟩,ry.2.1,ry.2.2⟩
  rw [List.getElem?_zip_eq_some,List.getElem?_zip_eq_some]
  exact ⟨ea,ex,ey⟩
 have new:∀p∈ts,s.heap.objs.size<=p.1:=λp hp=>ab p.1 (by rw [← fst];exact List.mem_map.mpr ⟨p,hp,rfl⟩)
 have I1:Inv X pins σ (jz H ts) {s with heap:=h',toks:=tk}:=A1 I k' new λp hp=>by
  obtain ⟨t,ht,rfl⟩:=List.mem_map.mp hp
  obtain ⟨i,hi⟩:=List.getElem?_of_mem ht
  rw [List.getElem?_zip_eq_some,List.getElem?_zip_eq_some] at hi
  obtain ⟨ea,ex,ey⟩:=hi
  obtain ⟨e,ee,eh⟩:=tu i t.1 ea
  obtain ⟨y,ey',_,_,rv⟩:=at3 i t.1 t.2.1 ea ex
  rw [ey] at ey'
  cases ey'
  have ek:en[i]?=some (entryOfKey (tupleKind (aL X.prog X.w)) t.2.2):=by rw [entry_at h4,ey];rfl
  rw [ee] at ek
  cases ek
  exact ⟨by show 2<=sizeLine;decide,[.ref t.2.2.2.1,t.2.2.2.2],.cons rfl (.cons rv .nil),_,eh,rfl,_,rfl⟩
 have same:Same H (jz H ts):=λb ob e=>by
  obtain ⟨ob',e'⟩:=(I.hok b ob e).there
  rw [qO λp hp z=>by subst z;exact Nat.not_le_of_gt (η e') (new p hp)]
  exact e
 have pe:Paired (sPS X.K (jz H ts)) es (as.map V.ref):=je (by rw [List.length_map];omega) λi x y ex ey=>by
  rw [List.getElem?_map] at ey
  obtain ⟨a,ea,rfl⟩:=Option.map_eq_some_iff.mp ey
  obtain ⟨w,ew,hm,hk,_⟩:=at3 i a x ea ex
  exact ⟨a,w.2.1,rfl,wK (by rw [fst];exact nd) hm,same _ _ hk⟩
 have rv:Vals (as.map V.ref) (as.map Value.ref):=je (by rw [List.length_map,List.length_map]) λi x y ex ey=>by
  rw [List.getElem?_map] at ex ey
  obtain ⟨a,ea,rfl⟩:=Option.map_eq_some_iff.mp ex
  rw [ea] at ey
  cases ey
  rfl
 exact oy hu I1 rv pe h64 λl ys hl hp=>q _ l ys same hl hp
end L2
namespace Lo
open PySem L2
def NwAt(K:Frag)(H:Hp)(es:List (Pa×Str))(v:V):Prop:=∃t ys,v=.ref t/\H t=some (.tup ys)/\Paired (sPS K H) (ju ltE es) ys
theorem NwAt.keep{K:Frag}{H H':Hp}{es:List (Pa×Str)}{v:V}(e:aT H H')(h:NwAt K H es v):NwAt K H' es v:=by
 obtain ⟨t,ys,rfl,h1,h2⟩:=h
 exact ⟨t,ys,rfl,e _ _ h1,Paired.mapP h2 λ_ _ z=>z.keep e⟩
section
variable (CS:Addr)(K:Frag)
def mH:Sp:=λvs H Q _=>∃A d,vs=[.ref A.l]/\St CS K H A d/\d.ends.length<64/\∀v H',Same H H'->NwAt K H' d.ends v->Q v H'
end
end Lo
namespace L2
open PySem PySem.Spec PyProof.Rows
theorem rQ{K:Frag}{H:Hp}{a:Addr}(n:Nat):EqIs K n H (.ref a) (.ref a) true:=λP w A s u v hA hok kin r1 r2=>by
 cases r1
 cases r2
 exact SeqAt.EqAt.same _
theorem eq_int{K:Frag}{H:Hp}(n:Nat)(i:Int):EqIs K n H (.int i) (.int i) true:=by
 have z:=(cInt.eq (K:=K) (H:=H) (x:=i) (y:=i) rfl rfl).mono (Nat.zero_le n)
 rwa [τ rfl] at z
theorem eq_str{K:Frag}{H:Hp}(n:Nat)(i:Str):EqIs K n H (.str i) (.str i) true:=by
 have z:=(cStr.eq (K:=K) (H:=H) (x:=i) (y:=i) rfl rfl).mono (Nat.zero_le n)
 rwa [τ rfl] at z
theorem kU{K:Frag}{H:Hp}{a b:Addr}{n:Nat}{us vs:List V}(ha:SqT K H a us)(hb:SqT K H b vs)(h:Paired (λx y=>EqIs K n H x y true) us vs):EqIs K (n+1) H (.ref a) (.ref b) true/\tL K (n+1) H (.ref a) (.ref b) true:=by
 obtain ⟨z1,z2⟩:=t9 (e:=λ_=>true) ha hb h.len λj x y e1 e2=>by
  obtain ⟨v,ev,rv⟩:=h.get1 e1
  rw [e2] at ev
  cases ev
  exact rv
 have e:((List.range us.length).all λ_=>true)=true:=by simp
 rw [e] at z1 z2
 exact ⟨kW z1 λ_ _ _ _ _ _=>rfl,z2⟩
end L2
namespace Lo
open PySem L2
structure TxH(K:Frag)(CH:Addr):Prop where
 cl:Cls K CH
 ht:NoAttr K CH "stand"
 hw:NoAttr K CH "rows"
 hs:NoAttr K CH "sent"
 hl:NoAttr K CH "latest"
structure Ah where
 (l dx rw sn:Addr)
def hf(S:Addr)(h:Ah)(v:V):List (Str×V):=aq "latest" v (aq "sent" (.ref h.sn) (aq "rows" (.ref h.rw) (aq "stand" (.ref S) [])))
theorem ky(f:Str)(v v':V):∀fs:List (Str×V),aq f v' (aq f v fs)=aq f v' fs
 | []=>by
  show (if f=f then _ else _)=_
  rw [if_pos rfl]
  rfl
 | (g,x)::r=>by
  by_cases e:g=f
  ·show aq f v' (if g=f then _ else _)=(if g=f then _ else _)
   rw [if_pos e,if_pos e]
   show (if g=f then _ else _)=_
   rw [if_pos e]
  ·show aq f v' (if g=f then _ else _)=(if g=f then _ else _)
   rw [if_neg e,if_neg e]
   show (if g=f then _ else _)=_
   rw [if_neg e,ky f v v' r]
theorem zW(S:Addr)(h:Ah)(v v':V):aq "latest" v' (hf S h v)=hf S h v':=ky _ _ _ _
theorem yF(S:Addr)(h:Ah)(v:V):(hf S h v).lookup ("latest":Str)=some v:=by
 unfold hf
 rw [ah,if_pos rfl]
theorem yD(S:Addr)(h:Ah)(v:V):(hf S h v).lookup ("sent":Str)=some (.ref h.sn):=by
 unfold hf
 rw [ah,if_neg θ,ah,if_pos rfl]
theorem yE(S:Addr)(h:Ah)(v:V):(hf S h v).lookup ("rows":Str)=some (.ref h.rw):=by
 unfold hf
 rw [ah,if_neg θ,ah,if_neg θ,ah,if_pos rfl]
theorem vY(S:Addr)(h:Ah)(v:V):(hf S h v).lookup ("stand":Str)=some (.ref S):=by
 unfold hf
 rw [ah,if_neg θ,ah,if_neg θ,ah,if_neg θ,ah,if_pos rfl]
theorem rO{S:Addr}{h:Ah}{v:V}{m:Str}(q:decide (m∈(["latest","sent","rows","stand"]:List Str))=false):(hf S h v).lookup m=none:=by
 have h':m∉(["latest","sent","rows","stand"]:List Str):=of_decide_eq_false q
 simp only [List.mem_cons,List.not_mem_nil,or_false,not_or] at h'
 obtain ⟨h1,h2,h3,h4⟩:=h'
 unfold hf
 rw [ah,if_neg h1,ah,if_neg h2,ah,if_neg h3,ah,if_neg h4]
 rfl
theorem zX(S:Addr)(h:Ah)(v:V):(hf S h v).length<1000:=bb (n:=999) (bb (n:=998) (bb (n:=997) (bb (n:=996) (by show 0<996;decide))))
abbrev Ws:=Int×Str×Addr×Addr
def WsAt(H:Hp)(x:Ws)(u:V):Prop:=∃t t2,u=.ref t/\H t=some (.tup [.int x.1,.ref t2])/\H t2=some (.tup [.str x.2.1,.ref x.2.2.1,.ref x.2.2.2])
theorem WsAt.keep{H H':Hp}{x:Ws}{u:V}(e:aT H H')(h:WsAt H x u):WsAt H' x u:=by
 obtain ⟨t,t2,rfl,h1,h2⟩:=h
 exact ⟨t,t2,rfl,e _ _ h1,e _ _ h2⟩
def LtAt(K:Frag)(H:Hp)(es:List (Pa×Str))(x:Ws)(u:V):Prop:=∃t t2 nv,u=.ref t/\H t=some (.tup [.int x.1,.ref t2])/\H t2=some (.tup [.str x.2.1,.ref x.2.2.1,.ref x.2.2.2,nv])/\NwAt K H es nv
theorem LtAt.keep{K:Frag}{H H':Hp}{es:List (Pa×Str)}{x:Ws}{u:V}(e:aT H H')(h:LtAt K H es x u):LtAt K H' es x u:=by
 obtain ⟨t,t2,nv,rfl,h1,h2,h3⟩:=h
 exact ⟨t,t2,nv,rfl,e _ _ h1,e _ _ h2,h3.keep e⟩
def Ah.own(h:Ah)(A:Ad):List Addr:=h.l::h.rw::h.sn::A.own
def KpH(A:Ad)(h:Ah)(H H':Hp):Prop:=∀b o,b∉h.own A->H b=some o->H' b=some o
structure ShA(CS CH:Addr)(K:Frag)(H:Hp)(A:Ad)(h:Ah)(d:Sd)(rs:List Addr)(ws:List Ws)(v:V):Prop where
 st:St CS K H A d
 ins:H h.l=some (.ins CH h.dx (hf A.l h v))
 rws:H h.rw=some (.lst (rs.map V.ref))
 snt:∃us,H h.sn=some (.lst us)/\Paired (WsAt H) ws us
 lat:v=.non\/NwAt K H d.ends v
 n1:h.l∉A.own
 n2:h.rw∉A.own
 n3:h.sn∉A.own
 n4:h.rw≠h.sn
 n5:A.l≠h.l
section
variable {CS CH:Addr}{K:Frag}{H H':Hp}{A:Ad}{h:Ah}{d:Sd}{rs:List Addr}{ws:List Ws}{v:V}
theorem ShA.keep(q:ShA CS CH K H A h d rs ws v)(e:Same H H'):ShA CS CH K H' A h d rs ws v:=by
 obtain ⟨us,h1,h2⟩:=q.snt
 exact ⟨q.st.keep e,e _ _ q.ins,e _ _ q.rws,⟨us,e _ _ h1,Paired.mapP h2 λ_ _ z=>z.keep e.ts⟩,q.lat.imp id λz=>z.keep e.ts,q.n1,q.n2,q.n3,q.n4,q.n5⟩
theorem ShA.own(q:ShA CS CH K H A h d rs ws v){b:Addr}(hb:b∈h.own A):∃o,H b=some o/\∀xs,o≠.tup xs:=by
 simp only [Ah.own,List.mem_cons] at hb
 rcases hb with z | z | z | z
 ·subst z;exact ⟨_,q.ins,λxs e=>by cases e⟩
 ·subst z;exact ⟨_,q.rws,λxs e=>by cases e⟩
 ·subst z;obtain ⟨us,e,_⟩:=q.snt;exact ⟨_,e,λxs e=>by cases e⟩
 ·obtain ⟨us,stu⟩:=q.st
  obtain ⟨o,e,n,_⟩:=stu.own z
  exact ⟨o,e,n⟩
theorem ShA.ts(q:ShA CS CH K H A h d rs ws v)(k:KpH A h H H'):aT H H':=λb xs e=>k b _ (λhb=>by
 obtain ⟨o,e1,n⟩:=q.own hb
 rw [e] at e1
 cases e1
 exact n xs rfl) e
end
section
variable (CS CH:Addr)(K:Frag)
def qY:Sp:=λvs H Q _=>∃l dx A d,vs=[.ref l,.ref A.l]/\H l=some (.ins CH dx [])/\St CS K H A d/\A.l≠l/\∀h H',h.l=l->ShA CS CH K H' A h d [] [] .non->H h.rw=none->H h.sn=none->Kp l H H'->Q .non H'
def pU:Sp:=λvs H Q _=>∃A h d rs ws v r w,vs=[.ref h.l,.ref r]/\ShA CS CH K H A h d rs ws v/\RwAt K H w r/\d.Small 60/\d.cells.length<=900/\d.fits w/\rs.length<=900 /\
 ∀b v' H',ShA CS CH K H' A h (d.keep r b w) (rs++[r]) ws v'->KpH A h H H'->Q .non H'
def mL:Sp:=λvs H Q _=>∃A h d rs ws v x,vs=[.ref h.l,.int x.1,.str x.2.1,.ref x.2.2.1,.ref x.2.2.2]/\ShA CS CH K H A h d rs ws v/\ws.length<=900 /\
 ∀H',ShA CS CH K H' A h d rs (ws++[x]) v->KpH A h H H'->Q .non H'
def mM:Sp:=λvs H Q _=>∃A h d rs ws v,vs=[.ref h.l]/\ShA CS CH K H A h d rs ws v/\∀p H',Same H H'->H p=none->H' p=some (.lst (rs.map V.ref))->Q (.ref p) H'
def pV:Sp:=λvs H Q _=>∃A h d rs ws v,vs=[.ref h.l]/\ShA CS CH K H A h d rs ws v/\d.ends.length<64/\ws.length<=900/\∀p us H',Same H H'->H p=none->H' p=some (.lst us)->Paired (LtAt K H' d.ends) ws us->Q (.ref p) H'
end
end Lo
namespace Km
open PySem PySem.NumText PyProof.Rows
def o7(c:Nat):Bool:=decide (48<=c)&&decide (c<=57)
def qj(c:Nat):Bool:=decide (32<=c)&&decide (c<=126)&&decide (c≠37)
def bn(m:Nat):List Nat:=(Nat.toDigits 10 m).map Char.toNat
def bT(n:Int):List Nat:=if n<0 then 45::bn n.natAbs else bn n.natAbs
theorem fj(m:Nat):AllDigits (bn m):=by
 intro c hc
 obtain ⟨ch,hch,e⟩:=List.mem_map.mp hc
 have r:=digit_range (Nat.isDigit_of_mem_toDigits ζ ζ hch)
 rw [← e]
 exact r
theorem iI(m:Nat):bn m≠[]:=by
 intro e
 have h:=toDigits_len_ge 10 m
 rw [List.map_eq_nil_iff.mp e] at h
 exact absurd h ζ
theorem fh(m:Nat):digitsVal (bn m)=m:=PySem.W.KIN.val_back m
theorem tq:bn 0=[48]:=rfl
theorem tw(m:Nat)(h:m≠0):∀c r,bn m=c::r->c≠48:=by
 induction m using Nat.strongRecOn with
 | _ m ih =>
  intro c r e
  by_cases hm:m<10
  ·unfold bn at e
   rw [Nat.toDigits_of_lt_base hm] at e
   have hc:(Nat.digitChar m).toNat=c:=by simpa using (List.cons.inj e).1
   have key:∀d:Nat,d<10->d≠0->(Nat.digitChar d).toNat≠48:=by decide
   rw [← hc]
   exact key m hm h
  ·have t:Nat.toDigits 10 (m/10)++Nat.toDigits 10 (m%10)=Nat.toDigits 10 (10*(m/10)+m%10):=Nat.toDigits_append_toDigits ζ ω (Nat.mod_lt m ζ)
   rw [Nat.div_add_mod] at t
   have e2:bn m=bn (m/10)++bn (m%10):=by unfold bn;rw [← t,List.map_append]
   cases q:bn (m/10) with
   | nil=>exact absurd q (iI _)
   | cons c' r' =>
    rw [e2,q] at e
    have:c'=c:=(List.cons.inj e).1
    rw [← this]
    exact ih (m/10) ω ω c' r' q
theorem k9{m k:Nat}(hk:1<=k)(h:m<10 ^ k):(bn m).length<=k:=by
 induction k generalizing m with
 | zero=>omega
 | succ k ih =>
  by_cases hm:m<10
  ·unfold bn
   rw [Nat.toDigits_of_lt_base hm]
   simp
  ·have hk1:1<=k:=by
    cases k with
    | zero=>exfalso;simp at h;omega
    | succ k=>omega
   have t:Nat.toDigits 10 (m/10)++Nat.toDigits 10 (m%10)=Nat.toDigits 10 (10*(m/10)+m%10):=Nat.toDigits_append_toDigits ζ ω (Nat.mod_lt m ζ)
   rw [Nat.div_add_mod] at t
   have e2:bn m=bn (m/10)++bn (m%10):=by unfold bn;rw [← t,List.map_append]
   have e3:bn (m%10)=[(Nat.digitChar (m%10)).toNat]:=by unfold bn;rw [Nat.toDigits_of_lt_base (Nat.mod_lt m ζ)];rfl
   have h2:m/10<10 ^ k:=by
    rw [Nat.pow_succ] at h
    exact Nat.div_lt_of_lt_mul (by rw [Nat.mul_comm];exact h)
   have:=ih hk1 h2
   rw [e2,e3,List.length_append]
   simpa using this
theorem mC(n:Int):(Str.ofString (toString n)).cps.toList=bT n:=by
 cases n with
 | ofNat m =>
  unfold bT
  rw [if_neg (show ¬Int.ofNat m<0 from Int.not_lt.mpr (Int.natCast_nonneg m))]
  exact PySem.W.KIN.signs_num m
 | negSucc m =>
  unfold bT
  rw [if_pos ω]
  have e:toString (Int.negSucc m)="-"++Nat.repr (m+1):=rfl
  rw [e,signs_ofString,String.toList_append,List.map_append,Nat.toList_repr]
  rfl
end Km
namespace Km
open PySem PySem.NumText L2
end Km
namespace Km
open PySem PySem.NumText L2 PyProof.Rows
def cB(c:Nat):List (List Nat)->List Nat
 | []=>[]
 | [x]=>x
 | x::y::r=>x++c::cB c (y::r)
theorem cT(c:Nat):∀ys:List Str,(Str.join ⟨#[c]⟩ ys).cps.toList=cB c (ys.map λy=>y.cps.toList)
 | []=>rfl
 | [y]=>rfl
 | y::u::ys=>by
  have ih:=cT c (u::ys)
  rw [join_cons_cons]
  show ((y.cps++#[c])++(Str.join ⟨#[c]⟩ (u::ys)).cps).toList=_
  rw [Array.toList_append,Array.toList_append,ih]
  simp [cB]
theorem tF{c:Nat}{a b a' b':List Nat}(ha:c∉a)(ha':c∉a')(e:a++c::b=a'++c::b'):a=a'/\b=b':=by
 induction a generalizing a' with
 | nil =>
  cases a' with
  | nil=>exact ⟨rfl,(List.cons.inj e).2⟩
  | cons x a'=>exact absurd (List.mem_cons.mpr (.inl (List.cons.inj e).1)) ha'
 | cons x a ih =>
  cases a' with
  | nil=>exact absurd (List.mem_cons.mpr (.inl (List.cons.inj e).1.symm)) ha
  | cons y a' =>
   obtain ⟨e1,e2⟩:=List.cons.inj e
   obtain ⟨r1,r2⟩:=ih (λh=>ha (Θ _ h)) (λh=>ha' (Θ _ h)) e2
   exact ⟨by rw [e1,r1],r2⟩
theorem mf{c:Nat}:∀{xs ys:List (List Nat)},xs≠[]->ys≠[]->(∀x∈xs,c∉x)->(∀y∈ys,c∉y)->cB c xs=cB c ys->xs=ys
 | [],_,h,_,_,_,_=>absurd rfl h
 | _::_,[],_,h,_,_,_=>absurd rfl h
 | [x],[y],_,_,_,_,e=>by rw [show x=y from e]
 | [x],y::u::ys,_,_,hx,_,e=>by
  have e':x=y++c::cB c (u::ys):=e
  exact absurd (by rw [e'];simp) (hx x List.mem_cons_self)
 | x::u::xs,[y],_,_,_,hy,e=>by
  have e':x++c::cB c (u::xs)=y:=e
  exact absurd (by rw [← e'];simp) (hy y List.mem_cons_self)
 | x::u::xs,y::v::ys,_,_,hx,hy,e=>by
  have e':x++c::cB c (u::xs)=y++c::cB c (v::ys):=e
  obtain ⟨e1,e2⟩:=tF (hx x Ω) (hy y Ω) e'
  rw [e1,mf (by simp) (by simp) (λz hz=>hx z (List.mem_cons_of_mem _ hz)) (λz hz=>hy z (List.mem_cons_of_mem _ hz)) e2]
theorem uj{z:Str}{c:Nat}{ps:List (List Nat)}(ez:z.cps.toList=cB c ps)(h0:ps≠[])(hp:∀p∈ps,c∉p):Txt.split z ⟨#[c]⟩=ps.map λp=>(⟨p.toArray⟩:Str):=by
 have e1:=cT c (Txt.split z ⟨#[c]⟩)
 rw [StrLaws.join_split,ez] at e1
 have n1:(Txt.split z ⟨#[c]⟩).map (λy=>y.cps.toList)≠[]:=by
  intro e
  have:=split_pos z ⟨#[c]⟩
  rw [List.map_eq_nil_iff.mp e] at this
  exact absurd this ζ
 have e2:=mf h0 n1 hp (λy hy=>by
  obtain ⟨p,hp',rfl⟩:=List.mem_map.mp hy
  exact StrLaws.split_free z c p hp') e1
 rw [e2,List.map_map]
 have e3:((λp:List Nat=>(⟨p.toArray⟩:Str))∘λy:Str=>y.cps.toList)=id:=by
  funext y
  obtain ⟨a⟩:=y
  simp
 rw [e3,List.map_id]
end Km
namespace St
open PySem L2 Lo Km PySem.NumText
inductive Wd where
 | take | mean | sum | give | add | plus | need
 deriving DecidableEq
def wS:Wd->Str
 | .take=>"take" | .mean=>"mean" | .sum=>"sum" | .give=>"give" | .add=>"add" | .plus=>"plus" | .need=>"need"
def wN:Wd->Str
 | .take=>"TakeStep" | .mean=>"MeanStep" | .sum=>"SumStep" | .give=>"GiveStep" | .add=>"AddStep" | .plus=>"PlusStep" | .need=>"NeedStep"
def inN(i:Int):Prop:=0<=i/\i<10 ^ 40
def inV(i:Int):Prop:=i.natAbs<10 ^ 40
theorem inN.v{i:Int}(h:inN i):inV i:=by
 unfold inN at h
 unfold inV
 omega
def Ar:Wd->List Int->Prop
 | .take,[h,c]=>inN h/\inN c
 | .mean,[h,c]=>inN h/\inN c
 | .give,[h,c]=>inN h/\inN c
 | .sum,[h,a,b]=>inN h/\inN a/\inN b/\a<=b
 | .add,[h,c,v]=>inN h/\inN c/\inV v
 | .plus,[v]=>inV v
 | .need,[v]=>inV v
 | _,_=>False
theorem Ar.all{w:Wd}{ns:List Int}(h:Ar w ns):∀i∈ns,inV i:=by
 unfold Ar at h
 split at h
 ·intro i hi;simp only [List.mem_cons,List.mem_nil_iff,or_false] at hi;rcases hi with rfl | rfl<;>first | exact h.1.v | exact h.2.v
 ·intro i hi;simp only [List.mem_cons,List.mem_nil_iff,or_false] at hi;rcases hi with rfl | rfl<;>first | exact h.1.v | exact h.2.v
 ·intro i hi;simp only [List.mem_cons,List.mem_nil_iff,or_false] at hi;rcases hi with rfl | rfl<;>first | exact h.1.v | exact h.2.v
 ·intro i hi;simp only [List.mem_cons,List.mem_nil_iff,or_false] at hi;rcases hi with rfl | rfl | rfl<;>first | exact h.1.v | exact h.2.1.v | exact h.2.2.1.v
 ·intro i hi;simp only [List.mem_cons,List.mem_nil_iff,or_false] at hi;rcases hi with rfl | rfl | rfl<;>first | exact h.1.v | exact h.2.1.v | exact h.2.2
 ·intro i hi;simp only [List.mem_cons,List.mem_nil_iff,or_false] at hi;rcases hi with rfl;exact h
 ·intro i hi;simp only [List.mem_cons,List.mem_nil_iff,or_false] at hi;rcases hi with rfl;exact h
 ·exact h.elim
def iS(i:Int):Str:=Str.ofString (toString i)
theorem f9{i:Int}(h:inV i):(iS i).length<=41:=by
 have e:(iS i).length=(bT i).length:=by
  unfold iS
  rw [← mC]
  simp [Str.length]
 rw [e]
 unfold bT
 have:=k9 (k:=40) ζ h
 split
 ·rw [List.length_cons];omega
 ·omega
theorem zG(i:Int):32∉bT i:=by
 have hd:∀m,32∉bn m:=λm hm=>by
  have:=fj m
  have h:=this 32 hm
  omega
 unfold bT
 split
 ·intro hm
  rcases List.mem_cons.mp hm with e | e
  ·cases e
  ·exact hd _ e
 ·exact hd _
def txt(w:Wd)(ns:List Int):Str:=Str.join (Str.ofString " ") (wS w::ns.map iS)
theorem Al(w:Wd):32∉(wS w).cps.toList:=by cases w<;>decide +kernel
theorem tQ(w:Wd):(wS w).length<=4:=by cases w<;>decide +kernel
theorem kh:(Str.ofString " ")=⟨#[32]⟩:=by decide +kernel
theorem lT(w:Wd)(ns:List Int):Txt.split (txt w ns) ⟨#[32]⟩=wS w::ns.map iS:=by
 have e:=cT 32 (wS w::ns.map iS)
 have e2:(txt w ns).cps.toList=cB 32 ((wS w::ns.map iS).map λy=>y.cps.toList):=by
  unfold txt
  rw [kh]
  exact e
 rw [uj e2 (by simp) (λp hp=>?_)]
 ·rw [List.map_map]
  have e3:((λp:List Nat=>(⟨p.toArray⟩:Str))∘λy:Str=>y.cps.toList)=id:=by
   funext y
   obtain ⟨a⟩:=y
   simp
  rw [e3,List.map_id]
 ·obtain ⟨y,hy,rfl⟩:=List.mem_map.mp hp
  rcases List.mem_cons.mp hy with e | hy
  ·rw [e];exact Al w
  ·obtain ⟨i,_,rfl⟩:=List.mem_map.mp hy
   have e4:(iS i).cps.toList=bT i:=mC i
   rw [e4]
   exact zG i
theorem Ar.len{w:Wd}{ns:List Int}(h:Ar w ns):1<=ns.length/\ns.length<=3:=by
 unfold Ar at h
 split at h<;>first | exact h.elim | (constructor<;>simp)
theorem yY{ys:List Str}{k:Nat}(h:∀y∈ys,y.length<=k):(ys.map (·.length)).sum<=ys.length*k:=by
 induction ys with
 | nil=>simp
 | cons y ys ih =>
  have h1:=h y Ω
  have h2:=ih λy hy=>h y (Θ _ hy)
  rw [List.map_cons,List.sum_cons,List.length_cons,Nat.succ_mul]
  omega
theorem tM{w:Wd}{ns:List Int}(h:Ar w ns):∀y∈wS w::ns.map iS,y.length<=41:=λy hy=>by
 rcases List.mem_cons.mp hy with e | hy
 ·rw [e];exact Λ (tQ w) ζ
 ·obtain ⟨i,hi,rfl⟩:=List.mem_map.mp hy
  exact f9 (h.all i hi)
theorem sd{w:Wd}{ns:List Int}(h:Ar w ns):((wS w::ns.map iS).map (·.length)).sum+(wS w::ns.map iS).length*(Str.ofString " ").length<=1000:=by
 have h1:=yY (tM h)
 have h2:=h.len
 have h3:(Str.ofString " ").length=1:=by decide +kernel
 rw [h3]
 have h4:(wS w::ns.map iS).length<=4:=by rw [List.length_cons,List.length_map];omega
 have h5:(wS w::ns.map iS).length*41<=4*41:=Nat.mul_le_mul_right _ h4
 omega
def lK:Wd->List Int->List (Str×V)
 | .take,[h,c]=>aq "cell" (.int c) (aq "where" (.int h) [])
 | .mean,[h,c]=>aq "cell" (.int c) (aq "where" (.int h) [])
 | .give,[h,c]=>aq "cell" (.int c) (aq "where" (.int h) [])
 | .sum,[h,a,b]=>aq "high" (.int b) (aq "low" (.int a) (aq "where" (.int h) []))
 | .add,[h,c,v]=>aq "amount" (.int v) (aq "cell" (.int c) (aq "where" (.int h) []))
 | .plus,[v]=>aq "amount" (.int v) []
 | .need,[v]=>aq "amount" (.int v) []
 | _,_=>[]
def StO(C:Wd->Addr)(H:Hp)(w:Wd)(ns:List Int)(v:V):Prop:=∃a dx,v=.ref a/\H a=some (.ins (C w) dx (lK w ns))
def vP:Wd->List Int->Option Lk
 | .take,[_,c]=>some (.read,c,c)
 | .mean,[_,c]=>some (.mean,c,c)
 | .give,[_,c]=>some (.change,c,c)
 | .sum,[_,a,b]=>some (.read,a,b)
 | .add,[_,c,_]=>some (.change,c,c)
 | _,_=>none
def orl(K:Frag)(H:Hp):Option Lk->V->Prop
 | none,v=>v=.non
 | some k,v=>∃a,v=.ref a/\H a=some (.tup [.str (kdS k.1),.int k.2.1,.int k.2.2])
end St
namespace L2
open PySem PySem.Spec PyProof.Rows
section
variable {X:Cx}{CX:CXT}{E:XK}{k:Nat}{C f:Addr}{fd:FuncData}{ps:List Str}{sp:Sp}{m:Str}{o e:Expr}{es:List Expr}{t:TA}{ty:TE}{pos apos cpos p:Pos}{mc:Value}
structure yI(K:Frag)(C:Addr)(m:Str)(f:Addr):Prop where
 ga:PySem.W.specialIn K (.ref C) "__getattribute__"=some (some (.builtin "type.__getattribute__"))
 rd:PySem.W.readsIn K C (.type "type")=true
 fc:PySem.W.findCls K (.ref C) (.type "type") m=some (.val (.ref f))
 hi:PySem.W.handedIn (.ref f)=true
 kp:PySem.W.keepIn K (.ref f)=true
theorem xc{pl:Sem Bool}(ho:PE X o (tC (.ref C)))(c:yI X.K C m f)(F:FnOk X.prog X.w X.K X.mg X.base CX k f fd ps sp)(hr:Room k X.A)(hb:Binds X.K fd ps [])(hx:cJ CX X E)(ha:PA X (e::es) t)
  (hst:starEach (e::es) X.env=(false,eval e X.env)::starEach es X.env:=by rfl)(hpl:(backTo pos (starEach es X.env)).any (·.1)=false:=by rfl)
  (ht:eval (.Call (.Attribute o m apos) (e::es) [] pos) X.env=(do
   let ov ← eval o X.env
   standAt apos.atName
   let (f,first) ← holding [ov] (getMethod ov m pl)
   callWith pos f first (backTo pos (starEach (e::es) X.env)) (backToKw pos (keywordEach [] X.env))):=by rfl) :
  PE X (.Call (.Attribute o m apos) (e::es) [] pos) (uh sp [] E t):=by
 intro pins s σ H Q I h
 refine PySem.W.methodCall_KW (pl:=pl) (thn (ho pins s σ H (λx H1=>x=.ref C/\t σ H1 λvs H2=>sp (vs++[]) H2 Q E) I ⟨rfl,h⟩) λu s1 ⟨x,H1,I1,rx,ex,q⟩=>?_) ht
 subst ex
 obtain rfl:u=Value.ref C:=rx
 refine PySem.W.method_cls I1.kIn c.ga (PySem.W.cls_value I1.kIn c.rd c.fc c.hi ?_)
 have I2:Inv X pins σ H1 {s1 with toks:=s1.toks+1}:=I1.tok _
 refine PySem.W.callWith_K (first:=[]) (h₀:=X.base) I.ok.mod.kin c.kp (thn (ha pos pins _ σ H1 _ I2 q) λus s2 ⟨vs,H2,I3,r,q2⟩=>⟨I3.kIn,?_⟩) hst hpl
 exact nt (us:=us) (vs:=vs) F hr hb .nil hx I3 r q2
theorem w8{a:Addr}{D:List (Str×KTD.Dat)}(ho:PE X o (tC (.ref a)))(he:PE X e ty)(mm:M1 X o "get" apos e cpos)(ht:TabK X.K a D) :
  PE X (.Call (.Attribute o "get" apos) [e] [] cpos) (fun σ H Q=>ty σ H λy H1=>∃k z,y=.str k/\KTD.datumAt k D=some (.flat (.str z))/\Q (.str z) H1):=by
 intro pins s σ H Q I h
 refine wpAny_Call_method mm.base mm.few mm.line PySem.F.plainAttrs_dict PySem.F.slot_dict_get PySem.F.type_dict_get (thn (ho pins s σ H (λx H1=>x=.ref a/\ty σ H1 λy H1=>∃k z,y=.str k/\KTD.datumAt k D=some (.flat (.str z))/\Q (.str z) H1) I ⟨rfl,h⟩) λu s1 ⟨x,H1,I1,rx,ex,q1⟩=>?_)
 subst ex
 obtain rfl:u=Value.ref a:=rx
 have T1:KTD.Here s1.heap s1.heap a D:=⟨ht.at I1.kIn,λ_ _ e=>e⟩
 refine ⟨T1.typeIs,T1.noDict,?_⟩
 rw [mm.trees]
 refine Calls.callWith_builtin rfl (Calls.evalArgs_plain (Calls.spliced_cons (thn (he pins s1 σ H1 _ I1 q1) λiv s2 ⟨y,H2,I2,ry,k,z,ek,hd,q2⟩=>Calls.spliced_nil ?_)))
 subst ek
 obtain ⟨tk,rfl⟩:=ry
 refine KTD.get1_textL (h₀:=s2.heap) ⟨ht.at I2.kIn,λ_ _ e=>e⟩ ?_ (nX hd (KTD.opened_str λt'=>⟨.str z,H2,I2.tok _,⟨_,rfl⟩,q2⟩))
 rw [← KTD.isSome_datumAt,hd]
 rfl
theorem qm:MtR X "str.lstrip" (λx vs H Q=>∃z y,x=.str z/\vs=[.str y]/\z.length<=sizeLine/\Q (.str (Txt.lstripChars z y)) H):=by
 intro pins s σ H x xs v us Q I rx r h
 obtain ⟨z,y,rfl,rfl,hz,q⟩:=h
 obtain ⟨t,rfl⟩:=rx
 obtain ⟨u,rfl,⟨t1,rfl⟩⟩:=dF r
 exact SC.lstripChars (λt' k=>⟨.str _,H,I.tok _,⟨_,rfl⟩,q⟩) hz
theorem zo{te:TE}(h:PE X.nox e te):PEX X e (fun σ H Q _=>te σ H Q):=by
 intro pins s σ H Q E I q
 exact nox (h pins s σ H _ (I.wish _) q) λv s1 ⟨x,H1,I1,r,q1⟩=>⟨x,H1,I1.unwish,r,q1⟩
end
end L2
namespace St
open PySem L2 Lo Km PySem.NumText
structure TxW(K:Frag)(CW:Wd->Addr):Prop where
 cl:∀w,Cls K (CW w)
 nW:∀w,NoAttr K (CW w) "where"
 nC:∀w,NoAttr K (CW w) "cell"
 nL:∀w,NoAttr K (CW w) "low"
 nH:∀w,NoAttr K (CW w) "high"
 nA:∀w,NoAttr K (CW w) "amount"
def isC:Wd->Bool
 | .take=>true | .mean=>true | .give=>true | _=>false
theorem bv{f:Str}{v:V}{fs:List (Str×V)}:(aq f v fs).lookup f=some v:=by rw [ah,if_pos rfl]
theorem aK{f g:Str}{v:V}{fs:List (Str×V)}(h:¬g=f):(aq f v fs).lookup g=fs.lookup g:=by rw [ah,if_neg h]
section
variable (CW:Wd->Addr)
def gK(w:Wd):Sp:=λvs H Q _=>∃a dx ns,vs=.ref a::(ns:List Int).map V.int/\Ar w ns/\H a=some (.ins (CW w) dx [])/\∀H',H' a=some (.ins (CW w) dx (lK w ns))->Kp a H H'->Q .non H'
def mQ:Sp:=λvs H Q _=>∃a dx w h c,vs=[.ref a,.int h,.int c]/\H a=some (.ins (CW w) dx [])/\∀H',H' a=some (.ins (CW w) dx (aq "cell" (.int c) (aq "where" (.int h) [])))->Kp a H H'->Q .non H'
def d0(K:Frag)(w:Wd):Sp:=λvs H Q _=>∃v ns,vs=[v]/\Ar w ns/\StO CW H w ns v/\∀u H',Same H H'->orl K H' (vP w ns) u->Q u H'
end
theorem rJ{i:Int}(h:inV i):i.natAbs.log2<1920:=by
 by_cases h0:i.natAbs=0
 ·rw [h0];decide
 ·exact (Nat.log2_lt h0).mpr (Nat.lt_trans h θ)
theorem Ar.c{w:Wd}{ns:List Int}(hw:isC w=true)(h:Ar w ns):∃a b,ns=[a,b]/\inN a/\inN b/\lK w ns=aq "cell" (.int b) (aq "where" (.int a) []):=by
 cases w<;>first | cases hw | skip
 all_goals
  match ns,h with
  | [a,b],h=>exact ⟨a,b,rfl,h.1,h.2,rfl⟩
theorem Ar.s{ns:List Int}(h:Ar .sum ns):∃a b c,ns=[a,b,c]/\inN a/\inN b/\inN c/\b<=c:=by
 match ns,h with
 | [a,b,c],h=>exact ⟨a,b,c,rfl,h⟩
theorem Ar.a{ns:List Int}(h:Ar .add ns):∃a b c,ns=[a,b,c]/\inN a/\inN b/\inV c:=by
 match ns,h with
 | [a,b,c],h=>exact ⟨a,b,c,rfl,h⟩
theorem Ar.p{ns:List Int}(h:Ar .plus ns):∃a,ns=[a]/\inV a:=by
 match ns,h with
 | [a],h=>exact ⟨a,rfl,h⟩
theorem Ar.n{ns:List Int}(h:Ar .need ns):∃a,ns=[a]/\inV a:=by
 match ns,h with
 | [a],h=>exact ⟨a,rfl,h⟩
end St
namespace St
open PySem PySem.Spec PyProof.Rows L2 Lo Km PySem.NumText
section
variable {K:Frag}{H:Hp}{a:Addr}{bl:L2.St}{te:TE}{Fin:List V->Hp->Prop}
end
theorem at0{x:V}{xs:List V}:atI (x::xs) 0=some x:=bp (j:=0) rfl
theorem at1{x y:V}{xs:List V}:atI (x::y::xs) 1=some y:=bp (j:=1) rfl
theorem at2{x y z:V}{xs:List V}:atI (x::y::z::xs) 2=some z:=bp (j:=2) rfl
theorem yL{a b:Wd}(h:wS a=wS b):a=b:=by
 cases a<;>cases b<;>first | rfl | exact absurd h θ
theorem gg{a b:Wd}(c:decide (V.str (wS a)=V.str (wS b))=true):a=b:=yL (V.str.inj (Ξ c))
theorem cC{a b:Wd}(c:¬decide (V.str (wS a)=V.str (wS b))=true):a≠b:=λe=>c (by rw [e];exact τ rfl)
theorem yK{a:Wd}(h1:a≠.take)(h2:a≠.mean)(h3:a≠.sum)(h4:a≠.give)(h5:a≠.add)(h6:a≠.plus):a=.need:=by
 cases a<;>first | rfl | contradiction
def shp:Wd->Str
 | .take=>"HC" | .mean=>"HC" | .sum=>"HAB" | .give=>"HC" | .add=>"HCV" | .plus=>"V" | .need=>"V"
def jO:List (Str×PyProof.Rows.KTD.Dat):=[("take",.flat (.str "HC")),("mean",.flat (.str "HC")),("sum",.flat (.str "HAB")),("give",.flat (.str "HC")),("add",.flat (.str "HCV")),("plus",.flat (.str "V")),("need",.flat (.str "V"))]
theorem uz(w:Wd):PyProof.Rows.KTD.datumAt (wS w) jO=some (.flat (.str (shp w))):=by
 cases w<;>kernel_rfl
theorem wT{w:Wd}{ns:List Int}(h:Ar w ns):(shp w).length=ns.length:=by
 unfold Ar at h
 split at h<;>first | exact h.elim | kernel_rfl
theorem j9(w:Wd):(shp w).length<=sizeLine:=by cases w<;>decide +kernel
theorem dL{i:Int}{p:Prop}(h:inN i):i<0->p:=λz=>absurd z (by unfold inN at h;omega)
theorem yZ{w:Wd}{ns:List Int}{k:Nat}{i:Int}(h:Ar w ns)(hi:ns[k]?=some i):∃c,(shp w).cps.toList[k]?=some c/\(i<0->c=86):=by
 unfold Ar at h
 split at h
 ·rcases k with _ | _ | k
  ·cases hi;exact ⟨72,θ,dL h.1⟩
  ·cases hi;exact ⟨67,θ,dL h.2⟩
  ·simp at hi
 ·rcases k with _ | _ | k
  ·cases hi;exact ⟨72,θ,dL h.1⟩
  ·cases hi;exact ⟨67,θ,dL h.2⟩
  ·simp at hi
 ·rcases k with _ | _ | k
  ·cases hi;exact ⟨72,θ,dL h.1⟩
  ·cases hi;exact ⟨67,θ,dL h.2⟩
  ·simp at hi
 ·rcases k with _ | _ | _ | k
  ·cases hi;exact ⟨72,θ,dL h.1⟩
  ·cases hi;exact ⟨65,θ,dL h.2.1⟩
  ·cases hi;exact ⟨66,θ,dL h.2.2.1⟩
  ·simp at hi
 ·rcases k with _ | _ | _ | k
  ·cases hi;exact ⟨72,θ,dL h.1⟩
  ·cases hi;exact ⟨67,θ,dL h.2.1⟩
  ·cases hi;exact ⟨86,θ,λ_=>rfl⟩
  ·simp at hi
 ·rcases k with _ | k
  ·cases hi;exact ⟨86,θ,λ_=>rfl⟩
  ·simp at hi
 ·rcases k with _ | k
  ·cases hi;exact ⟨86,θ,λ_=>rfl⟩
  ·simp at hi
 ·exact h.elim
theorem o8(i:Int):(iS i).cps.toList=bT i:=mC i
theorem zF{i:Int}{c:Nat}(h:c∈bT i):c=45\/(48<=c/\c<=57):=by
 have hd:∀m,c∈bn m->48<=c/\c<=57:=λm hm=>fj m c hm
 unfold bT at h
 split at h
 ·rcases List.mem_cons.mp h with e | e
  ·exact .inl e
  ·exact .inr (hd _ e)
 ·exact .inr (hd _ h)
theorem qu{i:Int}(h:inV i):(Txt.lstripChars (iS i) (Str.ofString "-")).length<=40:=by
 have e:(Str.ofString "-")=⟨#[45]⟩:=by decide +kernel
 have hd:=k9 (k:=40) ζ h
 have hs:(iS i).cps.size=(bT i).length:=by rw [← o8];simp
 rw [e]
 unfold Txt.lstripChars
 rw [stripBy_eq]
 generalize hL:stripLo ((⟨#[45]⟩:Str).cps.contains) true (iS i)=lo
 show ((iS i).cps.extract lo (iS i).length).size<=40
 rw [Array.size_extract]
 by_cases hi:i<0
 ·have h1:1<=lo:=by
   rw [← hL]
   show 1<=((iS i).cps.toList.takeWhile (λc=>(⟨#[45]⟩:Str).cps.contains c)).length
   rw [o8]
   unfold bT
   rw [if_pos hi,List.takeWhile_cons,if_pos θ]
   simp
  have h2:(bT i).length<=41:=by
   unfold bT
   rw [if_pos hi,List.length_cons]
   omega
  omega
 ·have h2:(bT i).length<=40:=by
   unfold bT
   rw [if_neg hi]
   exact hd
  omega
theorem xT{i:Int}(h:inV i):(iS i).length<=100000:=Λ (f9 h) ζ
theorem md(c:Nat):∀ls:List (List Nat),(cB c ls).length<=(ls.map (·.length)).sum+ls.length
 | []=>Nat.zero_le _
 | [x]=>by simp [cB]
 | x::y::r=>by
  have h:=md c (y::r)
  show (x++c::cB c (y::r)).length<=_
  rw [List.length_append,List.length_cons,List.map_cons,List.sum_cons,List.length_cons (a:=x)]
  omega
theorem qP{wd:Wd}{ns:List Int}(h:Ar wd ns):(txt wd ns).length<=1000000:=by
 have e2:(txt wd ns).cps.toList=cB 32 ((wS wd::ns.map iS).map λy=>y.cps.toList):=by
  unfold txt
  rw [kh]
  exact cT 32 _
 have e3:(txt wd ns).length=(txt wd ns).cps.toList.length:=by simp [Str.length]
 have h1:=md 32 ((wS wd::ns.map iS).map λy=>y.cps.toList)
 have h2:=sd h
 have e4:((wS wd::ns.map iS).map λy=>y.cps.toList).map (·.length)=(wS wd::ns.map iS).map (·.length):=by
  rw [List.map_map]
  refine List.map_congr_left λy _=>?_
  simp [Str.length]
 have e5:(Str.ofString " ").length=1:=by decide +kernel
 rw [e4,List.length_map] at h1
 rw [e5,Nat.mul_one] at h2
 rw [e3,e2]
 omega
theorem yG{m:Str}(h1:¬m="where")(h2:¬m="cell")(h3:¬m="low")(h4:¬m="high")(h5:¬m="amount")(w:Wd)(ns:List Int):(lK w ns).lookup m=none:=by
 unfold lK
 split<;>simp only [aK h1,aK h2,aK h3,aK h4,aK h5,List.lookup_nil]
theorem kK{H H':Hp}{x dx:Addr}{o1 o2:HO}(nx:H x=none)(nd:H dx=none)(k:Kp x (upd (upd H dx o1) x o2) H'):Same H H':=λb o e=>by
 have hx:b≠x:=λz=>by rw [z,nx] at e;cases e
 have hd:b≠dx:=λz=>by rw [z,nd] at e;cases e
 exact k b o hx (by rw [am hx,am hd];exact e)
structure WI(P:Program)(w:World)(K:Frag)(mg:Str->Option Value)(base:Heap)(CW:Wd->Addr)(wd:Wd) where
 fI:Addr
 dI:FuncData
 ps:List Str
 M:Mk K (CW wd) fI
 ok:FnOk P w K mg base CX0 2 fI dI ps (gK CW wd)
 b:Binds K dI ps []
 m:mg (wN wd)=some (.ref (CW wd))
section
variable (CW:Wd->Addr)
def pR:Sp:=λvs H Q _=>∃wd q ns,vs=[.str (wS wd),.ref q]/\H q=some (.lst ((ns:List Int).map V.int))/\Ar wd ns/\∀v H',Same H H'->StO CW H' wd ns v->Q v H'
def pS:Sp:=λvs H Q _=>∃x y z,vs=[.int x,.int y,.int z]/\Ar .sum [x,y,z]/\∀v H',Same H H'->StO CW H' .sum [x,y,z] v->Q v H'
def jM:Sp:=λvs H Q _=>∃wd ns,vs=[.str (txt wd ns)]/\Ar wd ns/\∀v H',Same H H'->StO CW H' wd ns v->Q v H'
end
def pP:Sp:=λvs H Q _=>∃i c,vs=[.str (iS i),.str ⟨#[c]⟩]/\inV i/\(i<0->c=86)/\∀H',Same H H'->Q (.int i) H'
end St
namespace L2
open PySem PySem.Spec PyProof.Rows PySem.W Lo
def BB(mg:Str->Option Value)(h:Heap):Prop:=∃bm ob,mg "__builtins__"=some (.ref bm)/\bm≠builtinsNs/\h.get? bm=some ob/\ob.cls=.type "module"/\ob.dict=some builtinsNs/\ob.data=.plain
def fq(c:Addr)(q:Str):HO:=.ext λh=>∃o vs t,h.get? c=some o/\o.data=.fields vs/\vs[1]?=some (.str q t)
def gP(p:Pos)(c:Addr):Array Value:=#[]++#[rawInt p.line,rawInt p.col,.ref c]
theorem iP(p:Pos)(c:Addr):(gP p c).toList=[rawInt p.line,rawInt p.col,.ref c]:=by simp [gP]
theorem ue(p:Pos)(c:Addr):codeAmong p (gP p c).toList=some (.ref c):=by
 rw [iP]
 simp [codeAmong,rawInt]
theorem wM(p:Pos)(c:Addr):TriplesOk (gP p c).toList:=by
 rw [iP]
 exact trivial
def Tb(H:Hp)(P:Addr)(p:Pos)(q:Str):Prop:=H P=some (.tbl #[])\/∃c,H P=some (.tbl (gP p c))/\H c=some (fq c q)
def noT:HO->Prop
 | .tbl _=>False
 | _=>True
def Ba(H H':Hp):Prop:=∀b o,noT o->H b=some o->H' b=some o
theorem wx{Pg:Program}{w:World}{H:Hp}{h:Heap}{c:Addr}{q:Str}{o:Obj}{vs:Array Value}{t:Tok}(e:h.get? c=some o)(d:o.data=.fields vs)(v:vs[1]?=some (.str q t)) :
  ObjOk Pg w H h c (fq c q):=⟨⟨o,vs,t,e,d,v⟩,⟨_,e⟩,λ_ _ ⟨o,vs,t,e,r⟩ k=>⟨o,vs,t,k _ e,r⟩⟩
end L2
namespace HT
open PySem PyProof.Rows
section
open PySem.SeqAt
open PySem.AutoSeq1 (wpAny_loadPart')
open PySem.MeetsSeq PySem.MeetsSeq2 PySem.MeetsSeq3
end
section
variable {prog:Program}{w:World}{A:Around}{E:Value->Shared->Prop}{s:Shared}
end
end HT
namespace L2
open PySem PySem.Spec PyProof.Rows PySem.W Lo
section
variable {X:Cx}{pins:List (Addr×Obj)}{σ:St}{H:Hp}{E:Value->Shared->Prop}{Q:VK}{l f S It:Addr}{us:List V}{ns:List Pa}{B:Pa}
end
section
variable {X:Cx}{e a b:Expr}{te ta:TE}{pos p2 p3 p4:Pos}
end
end L2
namespace L2
open PySem PySem.Spec PyProof.Rows PySem.W Lo
theorem sT{P:Program}{w:World}{K:Frag}{mg mb:Str->Option Value}{CX:CXT}{k:Nat}{fa a cc Pt:Addr}{fd:FuncData}{x:Str}{sp:Sp}{s₁:Shared}{vs:List Value}{ns:List Int}
  (KX:K.In s₁.heap)(hns:s₁.heap.Ns mainGlobals mg)(hb:s₁.heap.Ns builtinsNs mb)(hbb:∀x:Str,x≠"__name__"->mb x=bootBuiltins x)(hlim:s₁.heap.NoLimit)(hg:s₁.gens=#[])
  (ha:s₁.heap.get? a=some {cls:=.type "list",data:=.seq vs.toArray})(hi:IntsAre vs ns)(hl:ns.length<=sizeLine)(hr:Room k callerA)
  (hC:codeHdIn K cc Pt=true)(hT:s₁.heap.get? Pt=some (tabObj #[]))(hK:noTabs K=true)(hB:BB mg s₁.heap)
  (F:∀base:Heap,K.In base->BB mg base->FnOk P w K mg base CX k fa fd [x] sp)(hbind:∀(s:Shared) (u:Value),BindsTo s fd ⟨[u],[]⟩ [(x,u)])
  (hsp:∀H:Hp,SqL K H a (ns.map V.int)->H Pt=some (.tbl #[])->sp [.ref a] H (λv _=>v=.bl true) λ_ _ _=>False)
  (hCX:∀H e s',CX [] H s₁ (λ_ _ _=>False) e s'->False) :
  codeAny (model P w) callerA (.call (.ref fa) ⟨[.ref a],[]⟩) (λr s'=>r=.ok (.ret (.bool true))/\OldK s₁.heap s'.heap/\s'.os=s₁.os/\AllBare s'.gens) s₁:=by
 have rv:=lO hi
 have lenV:=hi.length
 have naP:a≠Pt:=λz=>by
  rw [z,hT] at ha
  cases ha
 have kP:K.lookup Pt=none:=by
  cases q:K.lookup Pt with
  | none=>rfl
  | some o =>
   have h2:=List.all_eq_true.mp hK (Pt,o) (mem_of_lookupK q)
   have e:=KX _ _ q
   rw [hT] at e
   cases e
   exact absurd (show false=true from h2) Bool.false_ne_true
 have tabC:s₁.heap.TableAt cc Pt #[]:=(codeHd_of_K KX hC).tab hT
 have core:∀H:Hp,SqL K H a (ns.map V.int)->H Pt=some (.tbl #[])->HOk P w H s₁.heap->(∀b,H b≠none->b=a\/b=Pt)->(H a≠none->K.lookup a=none)->(∀u,H a=some u->∃o xs,u=.frz o (.lst xs)) ->
   codeAny (model P w) callerA (.call (.ref fa) ⟨[.ref a],[]⟩) (λr s'=>r=.ok (.ret (.bool true))/\OldK s₁.heap s'.heap/\s'.os=s₁.os/\AllBare s'.gens) s₁:=by
  intro H hS hP hok hA hKa hfz
  have base_of:∀{b:Addr} {o:Obj},s₁.heap.get? b=some o->H b=none->(lJ s₁.heap H).get? b=some o:=λe n=>vX e n
  have noA:∀{b:Addr} {o:Obj},s₁.heap.get? b=some o->(o.cls≠.type "list")->o.cls≠.none->H b=none:=λ{b o} e d1 d2=>by
   cases q:H b with
   | none=>rfl
   | some u =>
    rcases hA b (by rw [q];simp) with e' | e'
    ·subst e'
     rw [ha] at e
     cases e
     exact absurd rfl d1
    ·subst e'
     rw [hT] at e
     cases e
     exact absurd rfl d2
  have noD:∀{b:Addr} {o:Obj} {es:Array DictEntry} {ep:Nat},s₁.heap.get? b=some o->o.data=.dict es ep->H b=none:=λ{b o es ep} e d=>by
   cases q:H b with
   | none=>rfl
   | some u =>
    rcases hA b (by rw [q];simp) with e' | e'
    ·subst e'
     rw [ha] at e
     cases e
     cases (show Data.seq vs.toArray _=Data.dict es ep from d)
    ·subst e'
     rw [hT] at e
     cases e
     cases (show Data.fields #[]=Data.dict es ep from d)
  have nsK:∀{b:Addr} {m:Str->Option Value},s₁.heap.Ns b m->(lJ s₁.heap H).Ns b m:=λ{b m} ⟨o,es,ep,e,d,r⟩=>⟨o,es,ep,base_of e (noD e d),d,r⟩
  have hKb:K.In (lJ s₁.heap H):=λb o e=>base_of (KX b o e) (by
   cases q:H b with
   | none=>rfl
   | some u =>
    rcases hA b (by rw [q];simp) with e' | e'
    ·subst e'
     rw [hKa (by rw [q];simp)] at e
     cases e
    ·subst e'
     rw [kP] at e
     cases e)
  have hM:Mod K mg (lJ s₁.heap H):=⟨hKb,nsK hns,⟨mb,nsK hb,hbb⟩,let ⟨mc,h1,h2⟩:=hlim;⟨mc,nsK h1,h2⟩⟩
  have hBb:BB mg (lJ s₁.heap H):=by
   obtain ⟨bm,ob,b1,b2,b3,b4,b5,b6⟩:=hB
   exact ⟨bm,ob,b1,b2,base_of b3 (noA b3 (by rw [b4];decide) (by rw [b4];nofun)),b4,b5,b6⟩
  have e0:Env0 P w K mg (lJ s₁.heap H) callerA [] s₁ H:=⟨rfl,hM,λb o e=>xE e,Nat.le_of_eq (tf _ _),trivial,λb hb=>absurd (show b∈([]:List Addr) from hb) (by simp),hok,.of_eq hg⟩
  refine codeAny_mono ((F _ hKb hBb).run callerA [] s₁ H ⟨[.ref a],[]⟩ [.ref a] [.ref a] _ _ hr e0 (hbind s₁ (.ref a)) (.cons rfl .nil) (hsp H hS hP)) λr s' h=>?_
  cases r with
  | error e=>exact (hCX H e s' h).elim
  | ok fl =>
   cases fl with
   | next=>exact False.elim h
   | brk=>exact False.elim h
   | cont=>exact False.elim h
   | ret u =>
    obtain ⟨v,H',os,bare,un,hok',r',q⟩:=h
    have q':v=.bl true:=q
    subst q'
    obtain rfl:u=Value.bool true:=r'
    have plain:∀b o,s₁.heap.get? b=some o->b≠Pt->s'.heap.get? b=some o:=λb o e nP=>by
     cases q:H b with
     | none=>exact un.keep b o e q (by intro z;exact absurd (show b∈([]:List Addr) from z) (by simp)) (by simp)
     | some u =>
      rcases hA b (by rw [q];simp) with e' | e'
      ·subst e'
       obtain ⟨ob,xs,rfl⟩:=hfz u q
       have z2:=un.frzs b ob _ q
       obtain ⟨e1,_⟩:=hok b _ q
       obtain ⟨e2,_⟩:=hok' b _ z2
       rw [e] at e1
       cases e1
       exact e2
      ·exact absurd e' nP
    obtain ⟨more,eP⟩:=un.tbls Pt #[] hP
    have tP:s'.heap.get? Pt=some {cls:=.none,data:=.fields (#[]++more)}:=hok' Pt _ eP
    refine ⟨rfl,⟨λb o e=>?_,λb o e=>?_⟩,os,bare⟩
    ·by_cases z:b=Pt
     ·subst z
      rw [hT] at e
      cases e
      exact .inr (.inl ⟨tabC.isCodeTable,rfl,#[],more,rfl,tP⟩)
     ·exact .inl (plain b o e z)
    ·by_cases z:b=Pt
     ·subst z
      exact ⟨_,tP⟩
     ·exact ⟨o,plain b o e z⟩
 cases hk:K.lookup a with
 | some o =>
  have e:=KX a o hk
  rw [ha] at e
  cases e
  refine core (λb=>if b=Pt then some (.tbl #[]) else none) (.inr ⟨_,vs.toArray,_,hk,rfl,rfl,rfl,by rw [List.size_toArray,lenV];exact hl,by simpa using rv⟩) (if_pos rfl) (λb u z=>?_) (λb z=>?_) (λz=>absurd (if_neg naP) z) λu z=>?_
  ·by_cases hb:b=Pt
   ·have z':=(if_pos hb).symm.trans z
    cases z'
    subst hb
    exact hT
   ·have z':=(if_neg hb).symm.trans z
    cases z'
  ·by_cases hb:b=Pt
   ·exact .inr hb
   ·exact absurd (if_neg hb) z
  ·have z':=(if_neg naP).symm.trans z
   cases z'
 | none =>
  refine core (λb=>if b=Pt then some (.tbl #[]) else if b=a then some (.frz {cls:=.type "list",data:=.seq vs.toArray} (.lst (ns.map V.int))) else none) (.inl (.inr ⟨{cls:=.type "list",data:=.seq vs.toArray},(if_neg naP).trans (if_pos rfl)⟩)) (if_pos rfl) (λb u z=>?_) (λb z=>?_) (λ_=>hk) λu z=>?_
  ·by_cases hb:b=Pt
   ·have z':=(if_pos hb).symm.trans z
    cases z'
    subst hb
    exact hT
   ·have z1:=(if_neg hb).symm.trans z
    by_cases hb:b=a
    ·have z':=(if_pos hb).symm.trans z1
     cases z'
     subst hb
     exact ⟨ha,by rw [List.length_map];exact hl,vs,_,rv,ha⟩
    ·have z':=(if_neg hb).symm.trans z1
     cases z'
  ·by_cases hb:b=Pt
   ·exact .inr hb
   ·by_cases hb':b=a
    ·exact .inl hb'
    ·exact absurd ((if_neg hb).trans (if_neg hb')) z
  ·have z1:=((if_neg naP).trans (if_pos rfl)).symm.trans z
   cases z1
   exact ⟨_,_,rfl⟩
theorem tN{l:OpenLaw}{n k:Nat}{q:Program}{loose:List Str}{XP:(Str->Option Value)->Heap->Prop}{YP:World->Heap->Prop}{d:DefRec}{K:Params->Frag}{sp:World->Addr->Sp}{x:Str}
  (hn:l.most=some n)(hn2:n<=sizeLine)(hdf:d.params.defaults=[])(hr:Room k callerA)(hY:∀(w:World) (h:Heap),YP w h->(K w.params).In h)
  (F:∀(w:World) (mg:Str->Option Value) (fa:Addr) (h:Heap),YP w h->(K w.params).In h->h.Ns mainGlobals mg->mg d.name=some (.ref fa) ->
   ∃(fd:FuncData) (cc Pt:Addr),(∀(s:Shared) (u:Value),BindsTo s fd ⟨[u],[]⟩ [(x,u)])/\codeHdIn (K w.params) cc Pt=true/\h.get? Pt=some (tabObj #[])/\noTabs (K w.params)=true /\
    ∀base:Heap,(K w.params).In base->BB mg base->FnOk l.prog w (K w.params) mg base CX0 k fa fd [x] (sp w Pt))
  (hsp:∀(w:World) (Pt:Addr) (H:Hp) (a:Addr) (ns:List Int),ns.length<=n->SqL (K w.params) H a (ns.map V.int)->H Pt=some (.tbl #[])->sp w Pt [.ref a] H (λv _=>v=.bl true) λ_ _ _=>False) :
  WalkO q loose XP YP l.row.toRowW d [] (λf vs=>PySem.call f vs):=by
 refine Att.pA hn hdf λw s₀ s₁ mg mb fa o pm cd doc a vs ns G Y ho hd hcd hmg hobj hints hlen hg=>?_
 have KX:=hY w _ Y
 obtain ⟨fd,cc,Pt,hb,hC,hT,hK,hF⟩:=F w mg fa _ Y KX G.T.g hmg
 exact sT KX G.T.g G.T.b G.T.builtins G.T.nolimit hg hobj hints (Λ hlen hn2) hr hC hT hK G.T.bmain hF hb (λH hS hP=>hsp w Pt H a ns hlen hS hP) λH e s' z=>z
theorem Fun.okC{P:Program}{w:World}{K:Frag}{mg:Str->Option Value}{base:Heap}{x qual:Str}{st:Stmt}{f:Addr}{fd:FuncData}{N ps:List Str}{k:Nat}{sp:Sp}(F:Fun K x qual st f fd)(S:au N ps (defScope st))(len:∀vs H Q E,sp vs H Q E->vs.length=ps.length)
  (hbody:∀(A:Around) (outer:List Env) (s:Shared) (H:Hp) (vs:List V) (Q:VK) (E:XK),Room k (A.deeper (envOfC qual (defScope st) s.heap.objs.size f fd.code))->sp vs H Q E ->
   ∃t,PSs (qF CX0 P w K mg base N qual (defScope st) f fd.code A outer s H E).nox (defBody st) t/\t {nx:=λ_ H'=>Q .non H',rt:=Q} (start N vs) H):FnOk P w K mg base CX0 (k+1) f fd ps sp:=by
 obtain ⟨oc,od,kV,doc,pm,an,cdv,ct,osl,rfl,lk,hcd⟩:=F.ex
 refine yH lk hcd S len λA outer s H vs Q E hr hsp=>?_
 obtain ⟨t,h,q⟩:=hbody A outer s H vs Q E hr hsp
 exact ⟨t,h.nox,q⟩
end L2
namespace L2
open PySem PySem.Spec PyProof.Rows PySem.W Lo
theorem rP{h B B':Heap}:∀{l:List Env},h.FunFrames B l->(∀b∈frs l,B'.get? b=none)->h.FunFrames B' l
 | [],_,_=>trivial
 | env::r,⟨k,⟨L,o,fr,_,e,d⟩,t⟩,n=>by
  have m:frs (env::r)=L::frs r:=by
   show List.filterMap _ (env::r)=_
   rw [List.filterMap_cons,fr]
   rfl
  rw [m] at n
  exact ⟨k,⟨L,o,fr,n L Ω,e,d⟩,rP t λb hb=>n b (Θ _ hb)⟩
def iL(l:List Env)(H:Hp)(h:Heap):Heap:=hideAll h (trk h H++frs l)
theorem jm{l:List Env}{H:Hp}{h:Heap}{b:Addr}{o:Obj}(e:h.get? b=some o)(n:H b=none)(nf:b∉frs l):(iL l H h).get? b=some o:=hideAll_get _ e λhm=>by
 rcases List.mem_append.mp hm with z | z
 ·have q:(H b).isSome=true:=(List.mem_filter.mp z).2
  rw [n] at q
  simp at q
 ·exact nf z
theorem kH{l:List Env}{H:Hp}{h:Heap}{b:Addr}{o:Obj}(e:(iL l H h).get? b=some o):h.get? b=some o/\H b=none/\b∉frs l:=by
 have e':h.get? b=some o:=of_hideAll _ e
 refine ⟨e',?_,λz=>?_⟩
 ·cases q:H b with
  | none=>rfl
  | some x =>
   have hm:b∈trk h H++frs l:=List.mem_append_left _ (List.mem_filter.mpr ⟨List.mem_range.mpr (Heap.lt_size e'),by simp [q]⟩)
   have z:(iL l H h).get? b=none:=hideAll_none _ hm
   rw [z] at e
   cases e
 ·have z:(iL l H h).get? b=none:=hideAll_none _ (Ψ _ z)
  rw [z] at e
  cases e
def yh(pp:List (Addr×Obj))(cs:List (Addr×V))(h:Heap):Prop:=(∀p∈pp,h.get? p.1=some p.2)/\∀c∈cs,∃u,RelV c.2 u/\h.IsCell c.1 (some u)
def qN(X:Cx)(cs:List (Addr×V))(σ:St):Prop:=∀c∈cs,∃(i:Nat) (x:Str),X.N[i]?=some x/\σ[i]?=some (some c.2)/\X.env.kindOf x=some .cell/\X.env.cells.lookup x=some c.1/\X.fn x=true
section
variable {X:Cx}{pins:List (Addr×Obj)}{σ:St}{H:Hp}{s:Shared}
theorem Inv.nfr2(I:Inv X pins σ H s){b:Addr}{o:Obj}(e:X.base.get? b=some o):b∉frs X.stack:=λz=>by
 rcases List.mem_cons.mp (I.stkSub b z) with z | z
 ·have:=η (I.ok.bs b o e).1
  rw [z] at this
  exact absurd this (Nat.not_lt.mpr I.ok.above)
 ·exact I.ok.nofr e z
theorem Inv.baseK(I:Inv X pins σ H s):∀b o,X.base.get? b=some o->(iL X.stack H s.heap).get? b=some o:=λb o e=>jm (I.bs b o e).1 (I.bs b o e).2 (I.nfr2 e)
theorem Inv.modB(I:Inv X pins σ H s):Mod X.K X.mg (iL X.stack H s.heap):=by
 obtain ⟨k1,k2,⟨mb,k3,k4⟩,k5⟩:=I.ok.mod
 have kb:=I.baseK
 exact ⟨k1.keeps kb,k2.keeps kb,⟨mb,k3.keeps kb,k4⟩,k5.keeps kb⟩
theorem Inv.env0B(I:Inv X pins σ H s):Env0 X.prog X.w X.K X.mg (iL X.stack H s.heap) X.A X.stack s H:=by
 refine ⟨I.ok.frames,I.modB,λb o e=>⟨(kH e).1,(kH e).2.1⟩,Nat.le_of_eq (hideAll_size _ _),rP I.stack λb hb=>?_,I.stkFree,I.hok,I.bare⟩
 cases z:(iL X.stack H s.heap).get? b with
 | none=>rfl
 | some o=>exact absurd hb (kH z).2.2
theorem Inv.pinB{pp:List (Addr×Obj)}{cs:List (Addr×V)}(I:Inv X pins σ H s)(hp:∀p∈pp,p∈X.pn)(hc:qN X cs σ):yh pp cs (iL X.stack H s.heap):=by
 refine ⟨λp hm=>?_,λc hm=>?_⟩
 ·obtain ⟨e,n,nl,nf,_⟩:=I.pin p (List.mem_append_left _ (hp p hm))
  exact jm e n λz=>(List.mem_cons.mp (I.stkSub _ z)).elim nl nf
 ·obtain ⟨i,x,h1,h2,h3,h4,h5⟩:=hc c hm
  obtain ⟨m,hn,hl⟩:=I.loc
  obtain ⟨u,r,lk⟩:=hl i x c.2 h1 h2 (.inr (.inl h3))
  rcases lk with ⟨z,_⟩ | ⟨_,c',e,o,ho,hd⟩
  ·rw [h3] at z
   cases z
  ·rw [h4] at e
   cases e
   refine ⟨u,r,o,jm ho (I.freeC x _ h4) λz=>?_,hd⟩
   rcases List.mem_cons.mp (I.stkSub _ z) with z | z
   ·exact I.cne x _ h4 z
   ·obtain ⟨_,o',ho',_⟩:=I.ok.funs.mem z
    exact absurd (η ho') (Nat.not_lt.mpr (I.ok.cab x _ h5 h4))
end
section
variable {X:Cx}{CX:CXT}{k:Nat}{f C:Addr}{fd:FuncData}{ps:List Str}{sp:Sp}{E:XK}{x m:Str}{p pos apos:Pos}{e o:Expr}{es:List Expr}{ta:TE}{t:TA}{pp:List (Addr×Obj)}{cs:List (Addr×V)}
end
end L2
namespace L2
open PySem PySem.Spec PyProof.Rows PySem.W Lo
section
variable {X:Cx}{pins q:List (Addr×Obj)}{σ:St}{H:Hp}{s:Shared}
end
structure wI(N:List Str)(x:Str)(sc:Scope)(cl:List (Str×Addr)):Prop where
 kind:sc.kind=.function
 co:sc.isCoroutine=false
 gen:sc.isGenerator=false
 nd:N.Nodup
 pre:N[0]?=some x
 par:sc.names.lookup x=some .local
 nocell:∀y∈sc.names,y.2≠.cell
 free:∀y,sc.names.lookup y=some .free->∃c,cl.lookup y=some c
 inj:∀y z c,cl.lookup y=some c->cl.lookup z=some c->y=z
def wv(CX:CXT)(P:Program)(w:World)(K:Frag)(mg:Str->Option Value)(base:Heap)(N:List Str)(qual:Str)(scope:Scope)(f:Addr)(cd:Value)(cl:List (Str×Addr))(A:Around)(outer:List Env)(s:Shared)(H:Hp)(E:XK):Cx where
 prog:=P
 w:=w
 K:=K
 mg:=mg
 base:=base
 A:=A.deeper (envX qual scope s.heap.objs.size f cd cl)
 N:=N
 s₀:=s
 H₀:=H
 env:=envX qual scope s.heap.objs.size f cd cl
 outer:=outer
 stack:=envX qual scope s.heap.objs.size f cd cl::outer
 ex:=[]
 calm:=true
 fn:=λ_=>false
 pn:=[]
 xe:=λe s'=>wpAny (model P w) (A.deeper (envX qual scope s.heap.objs.size f cd cl)) (leaving (envX qual scope s.heap.objs.size f cd cl) e) (λ_ s''=>CX outer H s E e s'') (λe' s''=>CX outer H s E e' s'') s'
end L2
namespace L2
open PySem PySem.Spec PyProof.Rows Lo
theorem si{P:Program}{w:World}{K:Frag}{tg:Expr}(it:Addr)(lo:Int)(n:Nat):qL P w K tg (Itr lo n) [it] it (λi h=>IsLongIter h it (lo+(i:Nat)*1) ((n:Int)-(i:Nat)) 1) where
 mem:=by simp
 obj:=λi h st b hb=>by
  have e:b=it:=by simpa using hb
  subst e
  exact ⟨_,st,λv z=>by
   have z':Data.fields _=Data.cell v:=z
   cases z'⟩
 keep:=λi h h' st k=>k it (by simp) _ st
 item:=by
  intro X hP hw hK hc i pins s σ H E I hf st hg
  subst hP hw hK
  obtain ⟨f0,f1,f2,f3,f4,f5⟩:=hf it (by simp)
  have W:=Walks.longrange (prog:=X.prog) (w:=X.w) (I.ok.hd hc) it lo 1 n
  refine W.item i s _ _ hg st λv h' tk hv st' kk=>?_
  obtain ⟨t,rfl⟩:=hv
  have I1:Inv X pins σ H {s with heap:=h',toks:=tk}:=I.turned (λb o hb e=>kk b o (by simpa using hb) e) f0 f1 f3 f4 f5
  refine ⟨_,rfl,mj (s:={s with heap:=h',toks:=tk}) (n:="longrange_iterator") st' rfl rfl ζ ⟨.int (lo+i),H,I1,⟨t,?_⟩,⟨rfl,rfl⟩,st',λb hb=>(hf b hb).1⟩⟩
  rw [Int.mul_one]
 done:=by
  intro X hP hw hK hc i pins s σ H E I hf st hg
  subst hP hw hK
  obtain ⟨f0,f1,f2,f3,f4,f5⟩:=hf it (by simp)
  exact wpAny_pyNext_long_end (I.ok.hd hc) st (by have:n<=i:=hg;omega) λh' eb=>⟨rfl,I.turned (t':=s.toks) (λb o hb e=>eb b o hb e) f0 f1 f3 f4 f5⟩
 self:=λ_ _ _ _ _ st h=>wpAny_pyIter_longiter st h
section
variable {X:Cx}{tg:Expr}
theorem sA{pins:List (Addr×Obj)}{σ:St}{H:Hp}{s:Shared}{R:It->Hp->Prop}{E:Value->Shared->Prop}{lo hi:Int}{t u v:Tok}{tk:Nat}(I:Inv X pins σ H s)
  (q:R (Itr lo (hi-lo).toNat) H):wpAny (model X.prog X.w) X.A (pyIter (.ref s.heap.objs.size)) (PIE X pins σ tg R) E {s with heap:=s.heap.push {cls:=.type "range",data:=.fields #[.int lo t,.int hi u,.int 1 v]},toks:=tk}:=by
 have I1:Inv X pins σ H {s with heap:=s.heap.push {cls:=.type "range",data:=.fields #[.int lo t,.int hi u,.int 1 v]},toks:=tk}:=I.kept λb o e=>ρ _ e
 have e1:lo+((0:Nat):Int)*1=lo:=by simp
 have e2:(((hi-lo).toNat:Nat):Int)-((0:Nat):Int)=Builtin.Range.rangeSize lo hi 1:=by rw [rangeSize_one];split<;>omega
 have fp:∀b,b∈[(s.heap.push {cls:=.type "range",data:=.fields #[.int lo t,.int hi u,.int 1 v]}).objs.size]->b=(s.heap.push {cls:=.type "range",data:=.fields #[.int lo t,.int hi u,.int 1 v]}).objs.size:=λb hb=>by simpa using hb
 cases hs:Builtin.Range.small lo hi 1 with
 | true =>
  refine wpAny_pyIter_range (IsRange.new ..) hs ?_
  refine ⟨(s.heap.push {cls:=.type "range",data:=.fields #[.int lo t,.int hi u,.int 1 v]}).objs.size,[(s.heap.push {cls:=.type "range",data:=.fields #[.int lo t,.int hi u,.int 1 v]}).objs.size],_,_,H,rfl,
   I1.kept (t':=tk) λb o e=>ρ _ e,jU _ lo (hi-lo).toNat,?_,λb hb=>?_,q⟩
  ·show IsRangeIter _ _ (lo+((0:Nat):Int)*1) ((((hi-lo).toNat:Nat):Int)-((0:Nat):Int)) 1
   rw [e1,e2]
   exact ψ _ rfl
  ·obtain rfl:=fp b hb
   exact I1.fpOk (ι _) (I1.hok.fresh (ι _))
 | false =>
  refine wpAny_pyIter_longrange (IsRange.new ..) hs ?_
  refine ⟨(s.heap.push {cls:=.type "range",data:=.fields #[.int lo t,.int hi u,.int 1 v]}).objs.size,[(s.heap.push {cls:=.type "range",data:=.fields #[.int lo t,.int hi u,.int 1 v]}).objs.size],_,_,H,rfl,
   I1.kept (t':=tk) λb o e=>ρ _ e,si _ lo (hi-lo).toNat,?_,λb hb=>?_,q⟩
  ·show IsLongIter _ _ (lo+((0:Nat):Int)*1) ((((hi-lo).toNat:Nat):Int)-((0:Nat):Int)) 1
   rw [e1,e2]
   exact ψ _ rfl
  ·obtain rfl:=fp b hb
   exact I1.fpOk (ι _) (I1.hok.fresh (ι _))
def A4(ta:TA):TI:=fun σ H R=>ta σ H λvs H1=>∃i j:Int,vs=[.int i,.int j]/\R (Itr i (j-i).toNat) H1
theorem sE{a b:Expr}{ta:TA}{p pos:Pos}(hg:Gl X "range")(hm:X.mg "range"=none)(ha:PA X [a,b] ta)(hs:starEach [a,b] X.env=[(false,eval a X.env),(false,eval b X.env)]:=by rfl)(hs2:starEach [b] X.env=[(false,eval b X.env)]:=by rfl) :
  PI X tg (.Call (.Name "range" p) [a,b] [] pos) (A4 ta):=by
 intro pins s σ H R I h
 refine Call_ (kO I hg hm boot_range (PyProof.Rows.callWith_type1 (thn (ha pos pins s σ H _ I h) λus s1 ⟨vs,H1,I1,r1,q1⟩=>?_) (by rw [hs,hs2]) (by rw [hs2];rfl)))
 obtain ⟨i,j,e,q⟩:=q1
 subst e
 cases r1 with
 | cons r rr =>
  cases rr with
  | cons r' rr =>
   cases rr
   obtain ⟨t,rfl⟩:=r
   obtain ⟨t',rfl⟩:=r'
   exact call_range_2 (sA I1 q)
end
section
variable {H:Hp}{bl:St}{tt:TT}{te:TE}{Fin:List V->Hp->Prop}
theorem sR{lo:Int}{n:Nat}(Pv:Nat->List V->Hp->Prop)(h0:Pv 0 [] H)(hn:n<=sizeLine)
  (hs:∀(i:Nat) ys H,i<n->Pv i ys H->tt (some (.int (lo+i))::bl) H λc H2=>if c=true then te (some (.int (lo+i))::bl) H2 λy H3=>Pv (i+1) (ys++[y]) H3 else Pv (i+1) ys H2)
  (hd:∀ys H,Pv n ys H->Fin ys H) :
  ∃(W:Nat->List V->Hp->Prop) (m:Nat),W 0 [] H/\m<=sizeLine/\∀i ys H,W i ys H->((Itr lo n).stop i H/\Fin ys H) \/
   ((Itr lo n).go i H/\i<m/\∀x H',(Itr lo n).yld i H x H'->tt (some x::bl) H' λc H2=>if c=true then te (some x::bl) H2 λy H3=>W (i+1) (ys++[y]) H3 else W (i+1) ys H2):=by
 refine ⟨λi ys H=>i<=n/\Pv i ys H,n,⟨Nat.zero_le _,h0⟩,hn,?_⟩
 rintro i ys H ⟨hi,p⟩
 by_cases hlt:i<n
 ·refine .inr ⟨hlt,hlt,λx H' y=>?_⟩
  obtain ⟨e,y⟩:=y
  subst e
  subst y
  have z:=hs i ys _ hlt p
  have e1:(λ(c:Bool) (H2:Hp)=>if c=true then te (some (.int (lo+i))::bl) H2 λy H3=>i+1<=n/\Pv (i+1) (ys++[y]) H3 else i+1<=n/\Pv (i+1) ys H2)=λc H2=>if c=true then te (some (.int (lo+i))::bl) H2 λy H3=>Pv (i+1) (ys++[y]) H3 else Pv (i+1) ys H2:=by
   have e2:(i+1<=n)=True:=eq_true hlt
   funext c H2
   simp only [e2,true_and]
  show tt _ _ _
  rw [e1]
  exact z
 ·have e:i=n:=by omega
  subst e
  exact .inl ⟨ι _,hd ys H p⟩
end
end L2
namespace L2
open PySem PySem.Spec PyProof.Rows Lo
section
variable {X:Cx}{k:Nat}{f C:Addr}{fd:FuncData}{ps:List Str}{sp:Sp}{m:Str}{o e:Expr}{es:List Expr}{ta:TE}{t:TA}{pos apos:Pos}
end
end L2
namespace L2
open PySem PySem.Spec PyProof.Rows Lo
end L2
namespace L2
open PySem PySem.Spec PyProof.Rows PySem.W Lo
section
variable {X:Cx}{CX:CXT}{k:Nat}{f C:Addr}{fd:FuncData}{ps:List Str}{sp:Sp}{E:XK}{x m:Str}{p pos apos:Pos}{e o:Expr}{es:List Expr}{ta:TE}{t:TA}{pp:List (Addr×Obj)}{cs:List (Addr×V)}
end
section
variable {X:Cx}{tg:Expr}
end
end L2
namespace L2
open PySem PySem.Spec PyProof.Rows PySem.W Lo
end L2
namespace L2
open PySem PySem.Spec PyProof.Rows PySem.W Lo
end L2
namespace K51
open PySem L2 Lo
def top(i:Nat):Stmt:=PySem.Challenge.pw_pactroom_k51_work_on_a_draft.main.body.getD i (.Pass ⟨0,0,0,0⟩)
abbrev gG:Stmt:=inClass (top 4) 0
abbrev eQ:Stmt:=inClass (top 4) 2
abbrev eO:Stmt:=inClass (top 4) 3
abbrev gF:Stmt:=inClass (top 4) 4
abbrev gD:Stmt:=inClass (top 5) 0
abbrev gE:Stmt:=inClass (top 6) 0
abbrev eR:Stmt:=inClass (top 7) 0
abbrev i8:Stmt:=top 8
abbrev fY:Stmt:=inClass (top 16) 0
abbrev cQ:Stmt:=inClass (top 16) 1
abbrev bL:Stmt:=inClass (top 16) 6
abbrev cH:Stmt:=inClass (top 16) 7
abbrev aV:Stmt:=inClass (top 16) 9
abbrev bO:Stmt:=inClass (top 16) 10
abbrev kr:Stmt:=top 26
abbrev ij:Stmt:=top 27
abbrev lW:Stmt:=top 28
abbrev gX:Stmt:=inClass (top 29) 0
abbrev gi:Stmt:=inClass (top 29) 1
abbrev eE:Stmt:=inClass (top 29) 2
abbrev dv:Stmt:=inClass (top 29) 4
abbrev cO:Stmt:=inClass (top 29) 5
abbrev du:Stmt:=inClass (top 29) 6
abbrev gB:Stmt:=inClass (top 33) 1
abbrev dq:Stmt:=inClass (top 34) 0
abbrev c9:Stmt:=inClass (top 35) 0
abbrev bV:Stmt:=inClass (top 35) 1
abbrev dh:Stmt:=inClass (top 36) 0
abbrev cP:Stmt:=inClass (top 36) 1
abbrev dO:Stmt:=inClass (top 37) 0
abbrev dM:Stmt:=inClass (top 37) 2
abbrev bf:Stmt:=inClass (top 37) 3
abbrev dm:Stmt:=inClass (top 38) 0
abbrev bY:Stmt:=inClass (top 38) 1
abbrev dU:Stmt:=inClass (top 39) 0
abbrev dQ:Stmt:=inClass (top 39) 1
abbrev b9:Stmt:=inClass (top 39) 2
abbrev df:Stmt:=inClass (top 40) 0
abbrev bW:Stmt:=inClass (top 40) 1
abbrev dg:Stmt:=inClass (top 41) 0
abbrev bX:Stmt:=inClass (top 41) 1
abbrev cN:Stmt:=top 42
abbrev eJ:Stmt:=top 43
abbrev gx:Stmt:=top 44
abbrev hU:Stmt:=top 45
abbrev fR:Stmt:=inClass (top 47) 0
abbrev fQ:Stmt:=inClass (top 47) 2
abbrev aO:Stmt:=inClass (top 47) 3
abbrev cE:Stmt:=inClass (top 47) 4
abbrev cG:Stmt:=inClass (top 47) 5
abbrev c8:Stmt:=inClass (top 47) 14
abbrev bD:Stmt:=inClass (top 47) 15
abbrev fX:Stmt:=inClass (top 49) 0
abbrev gC:Stmt:=inClass (top 49) 1
abbrev fW:Stmt:=inClass (top 49) 2
abbrev cw:Stmt:=inClass (top 49) 3
abbrev ba:Stmt:=inClass (top 49) 4
abbrev fV:Stmt:=inClass (top 51) 0
abbrev fU:Stmt:=inClass (top 51) 1
abbrev cm:Stmt:=inClass (top 51) 2
abbrev db:Stmt:=inClass (top 51) 3
abbrev cn:Stmt:=inClass (top 51) 4
abbrev fT:Stmt:=inClass (top 51) 6
abbrev cg:Stmt:=inClass (top 51) 7
abbrev dH:Stmt:=top 53
abbrev fE:Stmt:=top 54
abbrev eL:Stmt:=top 55
abbrev gy:Stmt:=top 56
abbrev eK:Stmt:=top 57
abbrev fF:Stmt:=top 58
abbrev oB:Stmt:=top 59
theorem nj:au ["self","first","last"] ["self","first","last"] (defScope gG):=⟨rfl,rfl,rfl,θ,rfl,θ,θ⟩
theorem sc_Lock_beside:au ["self","other","apart"] ["self","other"] (defScope eQ):=⟨rfl,rfl,rfl,θ,rfl,θ,θ⟩
theorem sc_Lock_covers:au ["self","other","within"] ["self","other"] (defScope eO):=⟨rfl,rfl,rfl,θ,rfl,θ,θ⟩
theorem ng:au ["self"] ["self"] (defScope gF):=⟨rfl,rfl,rfl,θ,rfl,θ,θ⟩
theorem mY:au ["self"] ["self"] (defScope gD):=⟨rfl,rfl,rfl,θ,rfl,θ,θ⟩
theorem mZ:au ["self"] ["self"] (defScope gE):=⟨rfl,rfl,rfl,θ,rfl,θ,θ⟩
theorem km:au ["self"] ["self"] (defScope eR):=⟨rfl,rfl,rfl,θ,rfl,θ,θ⟩
theorem pZ:au ["told"] ["told"] (defScope i8):=⟨rfl,rfl,rfl,θ,rfl,θ,θ⟩
theorem lF:au ["self"] ["self"] (defScope fY):=⟨rfl,rfl,rfl,θ,rfl,θ,θ⟩
theorem sc_Locks_ask:au ["self","p","lock"] ["self","p","lock"] (defScope cQ):=⟨rfl,rfl,rfl,θ,rfl,θ,θ⟩
def lj:Scope:=match defBody cQ with
 | _::.If (.Call _ [.ListComp _ _ sc _] _ _) _ _ _::_=>sc
 | _=>default
theorem kq:bF ["self","p","lock"] (defScope cQ) lj "pair" ["pair","p","lock"] [1,2]:=⟨θ,rfl,θ,rfl,θ,θ,rfl,rfl,θ⟩
theorem iX:au ["self"] ["self"] (defScope bL):=⟨rfl,rfl,rfl,θ,rfl,θ,θ⟩
def ib:Scope:=match defBody bL with
 | .Return (some (.ListComp _ _ sc _)) _::_=>sc
 | _=>default
theorem hO:bF ["self"] (defScope bL) ib "pair" ["pair"] []:=⟨θ,rfl,θ,rfl,θ,θ,rfl,rfl,λj h=>absurd h (Nat.not_lt_zero j)⟩
theorem sc_Locks_hinderer:au ["self","place","pair","k","ahead"] ["self","place"] (defScope cH):=⟨rfl,rfl,rfl,θ,rfl,θ,θ⟩
theorem fz:au ["self"] ["self"] (defScope aV):=⟨rfl,rfl,rfl,θ,rfl,θ,θ⟩
def eU:Scope:=match defBody aV with
 | .Return (some (.ListComp _ _ sc _)) _::_=>sc
 | _=>default
theorem eG:bF ["self"] (defScope aV) eU "k" ["k","self"] [0]:=⟨θ,rfl,θ,rfl,θ,θ,rfl,rfl,θ⟩
theorem sc_Locks_waiting_place:au ["self","p","k"] ["self","p"] (defScope bO):=⟨rfl,rfl,rfl,θ,rfl,θ,θ⟩
theorem mV:au ["self"] ["self"] (defScope gB):=⟨rfl,rfl,rfl,θ,rfl,θ,θ⟩
theorem iZ:au ["self","where","cell"] ["self","where","cell"] (defScope dq):=⟨rfl,rfl,rfl,θ,rfl,θ,θ⟩
theorem iR:au ["self"] ["self"] (defScope c9):=⟨rfl,rfl,rfl,θ,rfl,θ,θ⟩
theorem gl:au ["self","hand","value_of"] ["self","hand","value_of"] (defScope bV):=⟨rfl,rfl,rfl,θ,rfl,θ,θ⟩
theorem iW:au ["self"] ["self"] (defScope dh):=⟨rfl,rfl,rfl,θ,rfl,θ,θ⟩
theorem gp:au ["self","hand","value_of"] ["self","hand","value_of"] (defScope cP):=⟨rfl,rfl,rfl,θ,rfl,θ,θ⟩
theorem jC:au ["self","where","low","high"] ["self","where","low","high"] (defScope dO):=⟨rfl,rfl,rfl,θ,rfl,θ,θ⟩
theorem jB:au ["self"] ["self"] (defScope dM):=⟨rfl,rfl,rfl,θ,rfl,θ,θ⟩
theorem gu:au ["self","hand","value_of"] ["self","hand","value_of"] (defScope bf):=⟨rfl,rfl,rfl,θ,rfl,θ,θ⟩
def gf:Scope:=match defBody bf with
 | .Return (some (.Tuple [(.Call _ [.ListComp _ _ sc _] _ _),_] _ _)) _::_=>sc
 | _=>default
theorem fD:bF ["self","hand","value_of"] (defScope bf) gf "cell" ["cell","value_of"] [2]:=⟨θ,rfl,θ,rfl,θ,θ,rfl,rfl,θ⟩
theorem iY:au ["self"] ["self"] (defScope dm):=⟨rfl,rfl,rfl,θ,rfl,θ,θ⟩
theorem gq:au ["self","hand","value_of"] ["self","hand","value_of"] (defScope bY):=⟨rfl,rfl,rfl,θ,rfl,θ,θ⟩
theorem jE:au ["self","where","cell","amount"] ["self","where","cell","amount"] (defScope dU):=⟨rfl,rfl,rfl,θ,rfl,θ,θ⟩
theorem jD:au ["self"] ["self"] (defScope dQ):=⟨rfl,rfl,rfl,θ,rfl,θ,θ⟩
theorem gv:au ["self","hand","value_of"] ["self","hand","value_of"] (defScope b9):=⟨rfl,rfl,rfl,θ,rfl,θ,θ⟩
theorem iU:au ["self","amount"] ["self","amount"] (defScope df):=⟨rfl,rfl,rfl,θ,rfl,θ,θ⟩
theorem gm:au ["self","hand","value_of"] ["self","hand","value_of"] (defScope bW):=⟨rfl,rfl,rfl,θ,rfl,θ,θ⟩
theorem iV:au ["self","amount"] ["self","amount"] (defScope dg):=⟨rfl,rfl,rfl,θ,rfl,θ,θ⟩
theorem gn:au ["self","hand","value_of"] ["self","hand","value_of"] (defScope bX):=⟨rfl,rfl,rfl,θ,rfl,θ,θ⟩
theorem sc_read_step:au ["text","words","shape"] ["text"] (defScope cN):=⟨rfl,rfl,rfl,θ,rfl,θ,θ⟩
def lg:Scope:=match defBody cN with
 | _::_::_::.Return (some (.Call _ [_,.ListComp _ _ sc _] _ _)) _::_=>sc
 | _=>default
theorem ko:bF ["text","words","shape"] (defScope cN) lg "k" ["k","words","shape"] [1,2]:=⟨θ,rfl,θ,rfl,θ,θ,rfl,rfl,θ⟩
theorem sc_read_number:au ["word","letter","number"] ["word","letter"] (defScope eJ):=⟨rfl,rfl,rfl,θ,rfl,θ,θ⟩
theorem mU:au ["word","numbers"] ["word","numbers"] (defScope gx):=⟨rfl,rfl,rfl,θ,rfl,θ,θ⟩
theorem oA:au ["where","low","high"] ["where","low","high"] (defScope hU):=⟨rfl,rfl,rfl,θ,rfl,θ,θ⟩
theorem sc_Works_init:au ["self","stand","home","many","row"] ["self","stand","home","many"] (defScope fR):=⟨rfl,rfl,rfl,θ,rfl,θ,θ⟩
theorem ly:au ["self","sheet","p","i","hand","text"] ["self","sheet","p","i","hand","text"] (defScope fQ):=⟨rfl,rfl,rfl,θ,rfl,θ,θ⟩
theorem sc_Works_do_step:au ["self","sheet","p","waited","behind"] ["self","sheet","p","waited"] (defScope aO):=⟨rfl,rfl,rfl,θ,rfl,θ,θ⟩
theorem sc_Works_value_at:au ["self","p","cell","draft"] ["self","p","cell"] (defScope cE):=⟨rfl,rfl,rfl,θ,rfl,θ,θ⟩
theorem ig:au ["self","sheet","p","i"] ["self","sheet","p","i"] (defScope cG):=⟨rfl,rfl,rfl,θ,rfl,θ,θ⟩
theorem iQ:au ["self"] ["self"] (defScope c8):=⟨rfl,rfl,rfl,θ,rfl,θ,θ⟩
theorem ii:au ["self","p"] ["self","p"] (defScope bD):=⟨rfl,rfl,rfl,θ,rfl,θ,θ⟩
def gU:Scope:=match defBody bD with
 | .Return (some (.Compare _ _ [.ListComp _ _ sc _] _)) _::_=>sc
 | _=>default
theorem gS:bF ["self","p"] (defScope bD) gU "row" ["row"] []:=⟨θ,rfl,θ,rfl,θ,θ,rfl,rfl,λj h=>absurd h (Nat.not_lt_zero j)⟩
theorem lE:au ["self","stand"] ["self","stand"] (defScope fX):=⟨rfl,rfl,rfl,θ,rfl,θ,θ⟩
theorem mW:au ["self","row"] ["self","row"] (defScope gC):=⟨rfl,rfl,rfl,θ,rfl,θ,θ⟩
theorem lD:au ["self","to","word","p","more"] ["self","to","word","p","more"] (defScope fW):=⟨rfl,rfl,rfl,θ,rfl,θ,θ⟩
theorem hJ:au ["self"] ["self"] (defScope cw):=⟨rfl,rfl,rfl,θ,rfl,θ,θ⟩
theorem sc_Sheet_letters_told:au ["self","news"] ["self"] (defScope ba):=⟨rfl,rfl,rfl,θ,rfl,θ,θ⟩
def fm:Scope:=match defBody ba with
 | _::.Return (some (.ListComp _ _ sc _)) _::_=>sc
 | _=>default
theorem eY:bF ["self","news"] (defScope ba) fm "pair" ["pair","news"] [1]:=⟨θ,rfl,θ,rfl,θ,θ,rfl,rfl,θ⟩
theorem lB:au ["self","cells"] ["self","cells"] (defScope fV):=⟨rfl,rfl,rfl,θ,rfl,θ,θ⟩
theorem sc_Stand_keep:au ["self","row","change","p"] ["self","row"] (defScope fU):=⟨rfl,rfl,rfl,θ,rfl,θ,θ⟩
theorem gQ:au ["self","row"] ["self","row"] (defScope cm):=⟨rfl,rfl,rfl,θ,rfl,θ,θ⟩
theorem iT:au ["self","cell"] ["self","cell"] (defScope db):=⟨rfl,rfl,rfl,θ,rfl,θ,θ⟩
theorem gR:au ["self"] ["self"] (defScope cn):=⟨rfl,rfl,rfl,θ,rfl,θ,θ⟩
theorem lA:au ["self"] ["self"] (defScope fT):=⟨rfl,rfl,rfl,θ,rfl,θ,θ⟩
theorem kj:au ["self"] ["self"] (defScope cg):=⟨rfl,rfl,rfl,θ,rfl,θ,θ⟩
def jk:Scope:=match defBody cg with
 | .Return (some (.ListComp _ _ sc _)) _::_=>sc
 | _=>default
theorem i7:bF ["self"] (defScope cg) jk "p" ["p","self"] [0]:=⟨θ,rfl,θ,rfl,θ,θ,rfl,rfl,θ⟩
theorem jA:au ["_law_script","_law_k"] ["_law_script","_law_k"] (defScope dH):=⟨rfl,rfl,rfl,θ,rfl,θ,θ⟩
theorem lw:au ["_law_found"] ["_law_found"] (defScope fE):=⟨rfl,rfl,rfl,θ,rfl,θ,θ⟩
theorem ki:au ["_law_cell"] ["_law_cell"] (defScope eL):=⟨rfl,rfl,rfl,θ,rfl,θ,θ⟩
theorem sc__law_step:au ["_law_cell","_law_home","_law_many","_law_at","_law_word","_law_text"] ["_law_cell","_law_home","_law_many"] (defScope gy):=⟨rfl,rfl,rfl,θ,rfl,θ,θ⟩
theorem sc__law_played:au ["_law_cells","_law_hand","_law_text","_law_words","_law_at"] ["_law_cells","_law_hand","_law_text"] (defScope eK):=⟨rfl,rfl,rfl,θ,rfl,θ,θ⟩
theorem sc__law_right:au ["_law_sheet","_law_p","_law_rows","_law_i","_law_hand","_law_found"] ["_law_sheet","_law_p","_law_rows","_law_i","_law_hand"] (defScope fF):=⟨rfl,rfl,rfl,θ,rfl,θ,θ⟩
theorem sc_law:au ["_law_script","_law_number_here","_law_home","_law_p","_law_cell","_law_first","_law_stand","_law_works","_law_cells","_law_known","_law_hand","_law_text","_law_sheet","_law_i","_law_rows"] ["_law_script"] (defScope oB):=⟨rfl,rfl,rfl,θ,rfl,θ,θ⟩
def wy:Scope:=match defBody oB with
 | _::_::_::_::.Assign _ (.ListComp _ _ sc _) _::_=>sc
 | _=>default
theorem uD:bF ["_law_script","_law_number_here","_law_home","_law_p","_law_cell","_law_first","_law_stand","_law_works","_law_cells","_law_known","_law_hand","_law_text","_law_sheet","_law_i","_law_rows"] (defScope oB) wy "_law_k" ["_law_k","_law_cell"] [4]:=⟨θ,rfl,θ,rfl,θ,θ,rfl,rfl,θ⟩
end K51
namespace K51
open PySem L2 Lo St
section
variable {P:Program}{w:World}{K:Frag}{mg:Str->Option Value}{base:Heap}{f CL CS CH CV:Addr}{fd:FuncData}{C:Kd->Addr}{CW:Wd->Addr}
theorem AU(F:Fun K "kind" "Read.kind" gD f fd):FnOk P w K mg base CX0 1 f fd ["self"] (hI .read):=by
 refine F.ok mY (λvs H Q E h=>?_) (λcdv A outer s H vs Q E hr h=>?_)
 ·obtain ⟨v,rfl,_⟩:=h
  rfl
 obtain ⟨v,rfl,q⟩:=h
 exact ⟨_,aj (ax aD),q⟩
theorem AV(F:Fun K "kind" "Mean.kind" gE f fd):FnOk P w K mg base CX0 1 f fd ["self"] (hI .mean):=by
 refine F.ok mZ (λvs H Q E h=>?_) (λcdv A outer s H vs Q E hr h=>?_)
 ·obtain ⟨v,rfl,_⟩:=h
  rfl
 obtain ⟨v,rfl,q⟩:=h
 exact ⟨_,aj (ax aD),q⟩
theorem AW(F:Fun K "kind" "Change.kind" eR f fd):FnOk P w K mg base CX0 1 f fd ["self"] (hI .change):=by
 refine F.ok km (λvs H Q E h=>?_) (λcdv A outer s H vs Q E hr h=>?_)
 ·obtain ⟨v,rfl,_⟩:=h
  rfl
 obtain ⟨v,rfl,q⟩:=h
 exact ⟨_,aj (ax aD),q⟩
theorem vm(F:Fun K "__init__" "Lock.__init__" gG f fd)(T:TxK K C):FnOk P w K mg base CX0 1 f fd ["self","first","last"] (fx C):=by
 refine F.ok nj (λvs H Q E h=>?_) (λcdv A outer s H vs Q E hr h=>?_)
 ·obtain ⟨a,dx,k,x,y,rfl,_⟩:=h
  rfl
 obtain ⟨a,dx,k,x,y,rfl,ha,q⟩:=h
 refine ⟨_,af (aM (pv 0) (pv 1) rfl) (aj (aM (pv 0) (pv 2) rfl)),?_⟩
 exact ⟨_,rfl,_,rfl,a,C k,dx,[],rfl,ha,T.cl k,T.nF k,(by show 0<1000;decide),_,rfl,_,rfl,a,C k,dx,_,rfl,ad,T.cl k,T.nL k,(by show 1<1000;decide),q⟩
theorem nK(F:Fun K "told" "Lock.told" gF f fd)(T:TxK K C)(GK:∀k,GM P w K mg base CX0 1 (C k) "kind" ["self"] (hI k)):FnOk P w K mg base CX0 2 f fd ["self"] (gs C):=by
 refine F.ok ng (λvs H Q E h=>?_) (λcdv A outer s H vs Q E hr h=>?_)
 ·obtain ⟨v,k,rfl,_⟩:=h
  rfl
 obtain ⟨v,k,rfl,⟨a,dx,rfl,ha⟩,q⟩:=h
 refine ⟨_,aj (ax (aY (ac (pm0 (GK k.1) (pv 0) (T.cl k.1) hr) (ac (aw (pv 0) rfl) (ac (aw (pv 0) rfl) ag))))),?_⟩
 refine ⟨_,rfl,a,dx,_,rfl,ha,fe _ _ θ θ,_,rfl,?_⟩
 exact ⟨_,rfl,a,_,dx,_,_,rfl,ha,T.cl _,T.nF _,gH _ _,_,rfl,a,_,dx,_,_,rfl,ha,T.cl _,T.nL _,iE _ _,χ,λt ht=>q t ht⟩
theorem sJ(F:Fun K "lock_of" "lock_of" i8 f fd)(T:TxK K C)(mgC:∀k,mg (kdN k)=some (.ref (C k))){fI:Addr}{dI:FuncData}(M:∀k,Mk K (C k) fI)
  (GI:FnOk P w K mg base CX0 1 fI dI ["self","first","last"] (fx C))(bI:Binds K dI ["self","first","last"] []):FnOk P w K mg base CX0 3 f fd ["told"] (jZ C K):=by
 refine F.ok pZ (λvs H Q E h=>?_) (λcdv A outer s H vs Q E hr h=>?_)
 ·obtain ⟨v,k,rfl,_⟩:=h
  rfl
 obtain ⟨v,k,rfl,hv,q⟩:=h
 obtain ⟨a,u1,u2,u3,rfl,ha,e1,e2,e3⟩:=hv
 have e1':u1=.str (kdS k.1):=e1
 have e2':u2=.int k.2.1:=e2
 have e3':u3=.int k.2.2:=e3
 subst e1' e2' e3'
 have hr1:Room (1+1) _:=hr
 refine ⟨_,af (aI (az bH (ay (r:=aW K) aB (pv 0) ao (λ_ _=>rfl)) aD (aA _))
   (aj (ax (bh (M .read) GI hr1 rfl (mgC .read) bI .nil be (ac (ay (r:=aW K) aB (pv 0) ao (λ_ _=>rfl)) (ac (ay (r:=aW K) aB (pv 0) ao (λ_ _=>rfl)) ag))))) aC)
  (af (aI (az bH (ay (r:=aW K) aB (pv 0) ao (λ_ _=>rfl)) aD (aA _))
   (aj (ax (bh (M .mean) GI hr1 rfl (mgC .mean) bI .nil be (ac (ay (r:=aW K) aB (pv 0) ao (λ_ _=>rfl)) (ac (ay (r:=aW K) aB (pv 0) ao (λ_ _=>rfl)) ag))))) aC)
  (aj (ax (bh (M .change) GI hr1 rfl (mgC .change) bI .nil be (ac (ay (r:=aW K) aB (pv 0) ao (λ_ _=>rfl)) (ac (ay (r:=aW K) aB (pv 0) ao (λ_ _=>rfl)) ag)))))),?_⟩
 refine ⟨_,rfl,a,_,_,_,rfl,rfl,ha.sq,rfl,rfl,_,rfl,?_⟩
 obtain ⟨kd,x,y⟩:=k
 cases kd with
 | read =>
  refine aU (λ_=>?_) (λc=>absurd (τ rfl) c)
  exact ⟨_,rfl,a,_,_,_,rfl,rfl,ha.sq,rfl,_,rfl,a,_,_,_,rfl,rfl,ha.sq,rfl,λz dz nz ndz nez=>⟨z,dz,.read,x,y,rfl,ad,rfl,q _ _ (eC nz ndz) ⟨z,dz,rfl,ad⟩⟩⟩
 | mean =>
  refine aU (λc=>absurd (V.str.inj (Ξ c)).symm zd) (λ_=>?_)
  refine ⟨_,rfl,a,_,_,_,rfl,rfl,ha.sq,rfl,rfl,_,rfl,?_⟩
  refine aU (λ_=>?_) (λc=>absurd (τ rfl) c)
  exact ⟨_,rfl,a,_,_,_,rfl,rfl,ha.sq,rfl,_,rfl,a,_,_,_,rfl,rfl,ha.sq,rfl,λz dz nz ndz nez=>⟨z,dz,.mean,x,y,rfl,ad,rfl,q _ _ (eC nz ndz) ⟨z,dz,rfl,ad⟩⟩⟩
 | change =>
  refine aU (λc=>absurd (V.str.inj (Ξ c)).symm ze) (λ_=>?_)
  refine ⟨_,rfl,a,_,_,_,rfl,rfl,ha.sq,rfl,rfl,_,rfl,?_⟩
  refine aU (λc=>absurd (V.str.inj (Ξ c)).symm zf) (λ_=>?_)
  exact ⟨_,rfl,a,_,_,_,rfl,rfl,ha.sq,rfl,_,rfl,a,_,_,_,rfl,rfl,ha.sq,rfl,λz dz nz ndz nez=>⟨z,dz,.change,x,y,rfl,ad,rfl,q _ _ (eC nz ndz) ⟨z,dz,rfl,ad⟩⟩⟩
theorem xD(F:Fun K "_law_cell_at" "_law_cell_at" dH f fd)(B:TxB mg):FnOk P w K mg base CX0 1 f fd ["_law_script","_law_k"] (pW K):=by
 refine F.ok jA (λvs H Q E h=>?_) (λcdv A outer s H vs Q E hr h=>?_)
 ·obtain ⟨a,ns,k,rfl,_⟩:=h
  rfl
 obtain ⟨a,ns,k,rfl,hS,q⟩:=h
 refine ⟨_,af (aI (az oR (pv 1) (aF bu rfl B.len PySem.boot_len (ac (pv 0) ag)) (aA _)) (aj (ax (ay aE (pv 0) (pv 1) (λ_ _=>rfl)))) aC)
  (aj (ax ao)),?_⟩
 refine ⟨_,rfl,_,rfl,a,_,rfl,.inl hS,_,_,rfl,rfl,_,rfl,?_⟩
 refine aU (λc=>?_) (λc=>?_)
 ·have c':(k:Int)<(((ns.map V.int).length:Nat):Int):=Ξ c
  rw [List.length_map] at c'
  have hk:k<ns.length:=by omega
  have q1:atI (ns.map V.int) ((k:Nat):Int)=some (.int ns[k]):=bp (by rw [List.getElem?_map,ξ hk]<;>rfl)
  have e:aQ ns k=ns[k]:=by unfold aQ;rw [List.getElem?_eq_getElem hk];rfl
  rw [e] at q
  exact ⟨_,rfl,_,rfl,a,_,_,_,rfl,rfl,hS,q1,q⟩
 ·have c':¬(k:Int)<(((ns.map V.int).length:Nat):Int):=λz=>c (τ z)
  rw [List.length_map] at c'
  have e:aQ ns k=0:=by unfold aQ;rw [List.getElem?_eq_none ω];rfl
  rw [e] at q
  exact q
theorem kp2{a:Addr}{H:Hp}{o1 o2:HO}:Kp a H (upd (upd H a o1) a o2):=λb o n e=>by rw [am n,am n];exact e
theorem vD(F:Fun K "__init__" "CellStep.__init__" dq f fd)(T:TxW K CW):FnOk P w K mg base CX0 1 f fd ["self","where","cell"] (mQ CW):=by
 refine F.ok iZ (λvs H Q E h=>?_) (λcdv A outer s H vs Q E hr h=>?_)
 ·obtain ⟨a,dx,wd,x,y,rfl,_⟩:=h
  rfl
 obtain ⟨a,dx,wd,x,y,rfl,ha,q⟩:=h
 refine ⟨_,af (aM (pv 0) (pv 1) rfl) (aj (aM (pv 0) (pv 2) rfl)),?_⟩
 exact ⟨_,rfl,_,rfl,a,CW wd,dx,[],rfl,ha,T.cl wd,T.nW wd,(by show 0<1000;decide),_,rfl,_,rfl,a,CW wd,dx,_,rfl,ad,T.cl wd,T.nC wd,(by show 1<1000;decide),q _ ad kp2⟩
theorem n9{wd:Wd}(hw:isC wd=true){vs:List V}{H:Hp}{Q:VK}{E:XK}(h:gK CW wd vs H Q E):mQ CW vs H Q E:=by
 obtain ⟨a,dx,ns,rfl,ar,ha,q⟩:=h
 obtain ⟨x,y,rfl,_,_,e⟩:=ar.c hw
 exact ⟨a,dx,wd,x,y,rfl,ha,λH' h1 h2=>q H' (by rw [e];exact h1) h2⟩
theorem u9(F:Fun K "__init__" "SumStep.__init__" dO f fd)(T:TxW K CW):FnOk P w K mg base CX0 1 f fd ["self","where","low","high"] (gK CW .sum):=by
 refine F.ok jC (λvs H Q E h=>?_) (λcdv A outer s H vs Q E hr h=>?_)
 ·obtain ⟨a,dx,ns,rfl,ar,_⟩:=h
  obtain ⟨x,y,z,rfl,_⟩:=ar.s
  rfl
 obtain ⟨a,dx,ns,rfl,ar,ha,q⟩:=h
 obtain ⟨x,y,z,rfl,_⟩:=ar.s
 refine ⟨_,af (aM (pv 0) (pv 1) rfl) (af (aM (pv 0) (pv 2) rfl) (aj (aM (pv 0) (pv 3) rfl))),?_⟩
 exact ⟨_,rfl,_,rfl,a,CW .sum,dx,[],rfl,ha,T.cl _,T.nW _,(by show 0<1000;decide),_,rfl,_,rfl,a,CW .sum,dx,_,rfl,ad,T.cl _,T.nL _,(by show 1<1000;decide),_,rfl,_,rfl,a,CW .sum,dx,_,rfl,ad,T.cl _,T.nH _,Nat.lt_of_le_of_lt (cS _ _ _) (by show 1+1<1000;decide),q _ ad λb o n e=>by rw [am n,am n,am n];exact e⟩
theorem vI{CC fC:Addr}{dC:FuncData}(F:Fun K "__init__" "AddStep.__init__" dU f fd)(T:TxW K CW)(mgC:mg "CellStep"=some (.ref CC))(cf:yI K CC "__init__" fC)(GC:FnOk P w K mg base CX0 1 fC dC ["self","where","cell"] (mQ CW))(bC:Binds K dC ["self","where","cell"] []) :
  FnOk P w K mg base CX0 2 f fd ["self","where","cell","amount"] (gK CW .add):=by
 refine F.ok jE (λvs H Q E h=>?_) (λcdv A outer s H vs Q E hr h=>?_)
 ·obtain ⟨a,dx,ns,rfl,ar,_⟩:=h
  obtain ⟨x,y,z,rfl,_⟩:=ar.a
  rfl
 obtain ⟨a,dx,ns,rfl,ar,ha,q⟩:=h
 obtain ⟨x,y,z,rfl,_⟩:=ar.a
 refine ⟨_,af (bw (xc (fL (v:=.ref CC) rfl mgC rfl) cf GC hr bC be (ac (pv 0) (ac (pv 1) (ac (pv 2) ag))))) (aj (aM (pv 0) (pv 3) rfl)),?_⟩
 refine ⟨_,rfl,_,rfl,_,rfl,a,dx,.add,x,y,rfl,ha,λH' h1 h2=>?_⟩
 exact ⟨_,rfl,_,rfl,a,CW .add,dx,_,rfl,h1,T.cl _,T.nA _,Nat.lt_of_le_of_lt (cS _ _ _) (by show 1+1<1000;decide),q _ ad λb o n e=>by rw [am n];exact h2 b o n e⟩
theorem ve(F:Fun K "__init__" "PlusStep.__init__" df f fd)(T:TxW K CW):FnOk P w K mg base CX0 1 f fd ["self","amount"] (gK CW .plus):=by
 refine F.ok iU (λvs H Q E h=>?_) (λcdv A outer s H vs Q E hr h=>?_)
 ·obtain ⟨a,dx,ns,rfl,ar,_⟩:=h
  obtain ⟨x,rfl,_⟩:=ar.p
  rfl
 obtain ⟨a,dx,ns,rfl,ar,ha,q⟩:=h
 obtain ⟨x,rfl,_⟩:=ar.p
 refine ⟨_,aj (aM (pv 0) (pv 1) rfl),?_⟩
 exact ⟨_,rfl,_,rfl,a,CW .plus,dx,[],rfl,ha,T.cl _,T.nA _,(by show 0<1000;decide),q _ ad cq⟩
theorem vf(F:Fun K "__init__" "NeedStep.__init__" dg f fd)(T:TxW K CW):FnOk P w K mg base CX0 1 f fd ["self","amount"] (gK CW .need):=by
 refine F.ok iV (λvs H Q E h=>?_) (λcdv A outer s H vs Q E hr h=>?_)
 ·obtain ⟨a,dx,ns,rfl,ar,_⟩:=h
  obtain ⟨x,rfl,_⟩:=ar.n
  rfl
 obtain ⟨a,dx,ns,rfl,ar,ha,q⟩:=h
 obtain ⟨x,rfl,_⟩:=ar.n
 refine ⟨_,aj (aM (pv 0) (pv 1) rfl),?_⟩
 exact ⟨_,rfl,_,rfl,a,CW .need,dx,[],rfl,ha,T.cl _,T.nA _,(by show 0<1000;decide),q _ ad cq⟩
end
end K51
namespace L2
open PySem PySem.Spec PyProof.Rows PySem.W Lo
def jo(f:Addr)(q:Str)(pr:Arguments)(b:Expr)(sc:Scope)(cl:List (Str×Addr))(c:Addr):HO:=.ext λh=>∃pm ct,h.get? f=some {cls:=.type "function",data:=.func (kla_fn "<lambda>" q pr b sc cl pm (.ref c) ct)}
theorem oZ{Pg:Program}{w:World}{H:Hp}{h:Heap}{f:Addr}{q:Str}{pr:Arguments}{b:Expr}{sc:Scope}{cl:List (Str×Addr)}{c:Addr}{pm ct:Value}(e:h.get? f=some {cls:=.type "function",data:=.func (kla_fn "<lambda>" q pr b sc cl pm (.ref c) ct)}) :
  ObjOk Pg w H h f (jo f q pr b sc cl c):=⟨⟨pm,ct,e⟩,⟨_,e⟩,λ_ _ ⟨pm,ct,e⟩ k=>⟨pm,ct,k _ e⟩⟩
def Av(P:Addr)(p:Pos)(q:Str)(pr:Arguments)(b:Expr)(sc:Scope)(cl:List (Str×Addr)):TE:=λ_ H Q=>Tb H P p q/\∀f c H',Kp P H H'->H' P=some (.tbl (gP p c))->((H P=some (.tbl #[])/\H c=none)\/H P=some (.tbl (gP p c)))->H f=none->H' f=some (jo f q pr b sc cl c)->H' c=some (fq c q)->Q (.ref f) H'
theorem w9{X:Cx}{cl:List (Str×Addr)}{cc P:Addr}{pos:Pos}{q:Str}{pr:Arguments}{b:Expr}{sc:Scope}(hcode:X.env.code=.ref cc)(hC:codeHdIn X.K cc P=true)(hB:BB X.mg X.base)(hq:X.env.qual++"<lambda>"=q)
  (hcl:closureFor sc X.env=pure cl)(hdef:defaultsOf pr X.env=([],[])):PE X (.Lambda pr b sc pos) (Av P pos q pr b sc cl):=by
 intro pins s σ H Q I h
 obtain ⟨htb,hQ⟩:=h
 subst hq
 refine kla_eval hdef ?_
 have hg:s.heap.Ns mainGlobals X.mg:=I.ok.mod.glob.keeps I.bk
 have C:CodeHd s.heap cc P:=codeHd_of_K I.kIn hC
 obtain ⟨bm,ob,b1,b2,b3,b4,b5,b6⟩:=hB
 have b3':=I.bk _ _ b3
 have hbG:bm≠mainGlobals:=λz=>by
  obtain ⟨o,es,ep,e,hd,_⟩:=hg
  rw [z,e] at b3'
  cases b3'
  rw [hd] at b6
  cases b6
 have nG:∀ps,s.heap.get? P=some (tabObj ps)->mainGlobals≠P/\bm≠P:=λps e=>by
  refine ⟨λz=>?_,λz=>?_⟩
  ·obtain ⟨o,es,ep,e',hd,_⟩:=hg
   rw [z,e] at e'
   cases e'
   cases hd
  ·rw [z,e] at b3'
   cases b3'
   cases b4
 rcases htb with e | ⟨c,e,ec⟩
 ·have hP:s.heap.get? P=some (tabObj #[]):=I.hok P _ e
  obtain ⟨n1,n2⟩:=nG _ hP
  refine kla_makeFunction (mg:=X.mg) (clos:=cl) hcl I.ok.glob hg hcode C hP trivial rfl n1 ⟨bm,ob,b1,b2,hbG,n2,b3',b4,b5,b6⟩ λc ct h' tk hx hge hlt hrec htb=>?_
  obtain ⟨c₂,oc,vs,t,e2,hoc,hd,hv⟩:=hrec
  cases e2
  have ltP:P<s.heap.objs.size:=η hP
  have hc0:H c=none:=I.hok.fresh hge
  have hf0:H h'.objs.size=none:=I.hok.fresh (Nat.le_of_lt (Nat.lt_of_le_of_lt hge hlt))
  have cf:c≠h'.objs.size:=Φ hlt
  have Pc:P≠c:=Φ (Nat.lt_of_lt_of_le ltP hge)
  have Pf:P≠h'.objs.size:=Φ (Nat.lt_trans (Nat.lt_of_lt_of_le ltP hge) hlt)
  let H3:Hp:=upd (upd (upd H P (.tbl (gP pos c))) c (fq c (X.env.qual++"<lambda>"))) h'.objs.size (jo h'.objs.size (X.env.qual++"<lambda>") pr b sc cl c)
  have at3:∀d,d≠h'.objs.size->d≠c->d≠P->H3 d=H d:=λd n1 n2 n3=>(am n1).trans ((am n2).trans (am n3))
  have atf:H3 h'.objs.size=some (jo h'.objs.size (X.env.qual++"<lambda>") pr b sc cl c):=ad
  have atc:H3 c=some (fq c (X.env.qual++"<lambda>")):=(am cf).trans ad
  have atP:H3 P=some (.tbl (gP pos c)):=(am Pf).trans ((am Pc).trans ad)
  have old:∀d o,d≠P->H d=some o->H3 d=some o:=λd o n z=>(at3 d (ae z hf0) (ae z hc0) n).trans z
  have kp:∀d o,d≠P->s.heap.get? d=some o->(h'.push (kla_obj "<lambda>" (X.env.qual++"<lambda>") pr b sc cl ((X.mg "__name__").getD .none) c ct)).get? d=some o:=λd o n z=>ρ _ (hx d o n z)
  have noP:∀d,H d=none->d≠P:=λd z y=>by
   rw [y,e] at z
   cases z
  have noTP:∀d o,noT o->H d=some o->d≠P:=λd o n z y=>by
   rw [y,e] at z
   cases z
   exact n
  have I3:Inv X pins σ H3 {s with heap:=h'.push (kla_obj "<lambda>" (X.env.qual++"<lambda>") pr b sc cl ((X.mg "__name__").getD .none) c ct),toks:=tk}:=by
   refine I.step (g':=s.gens) (d':=s.drawn) (t':=tk) (ch:=[]) (λ_ z=>nomatch z) (λd o _ _ _ z n=>kp d o (noP d n) z) (λd o _ _ _ z n=>⟨o.slots,kp d o (noP d n) z⟩) (λd o _ z n=>?_) (λd o _ z=>?_)
    (λd xs z=>old d _ (noTP d (.tup xs) trivial z) z) (λd o u z=>old d _ (noTP d (.frz o u) trivial z) z) (λd ps z=>?_) (λm hm=>?_) (λd u z=>?_) I.bare
   ·have l:=η z
    exact (at3 d (Φ (Nat.lt_of_lt_of_le l (Nat.le_of_lt (Nat.lt_of_le_of_lt hge hlt)))) (Φ (Nat.lt_of_lt_of_le l hge)) (noP d n)).trans n
   ·by_cases y:d=P
    ·rw [y]
     exact ⟨_,ρ _ htb⟩
    ·exact ⟨o,kp d o y z⟩
   ·by_cases y:d=P
    ·subst y
     rw [e] at z
     cases z
     exact ⟨#[rawInt pos.line,rawInt pos.col,.ref c],atP⟩
    ·exact ⟨#[],by rw [old d _ y z];simp⟩
   ·obtain ⟨o,es,ep,ho,r⟩:=hm
    exact ⟨o,es,ep,kp _ o (noP _ I.free) ho,r⟩
   ·by_cases y1:d=h'.objs.size
    ·subst y1
     rw [atf] at z
     cases z
     exact oZ (ψ _ rfl)
    ·by_cases y2:d=c
     ·subst y2
      rw [atc] at z
      cases z
      exact wx (ρ _ hoc) hd hv
     ·by_cases y3:d=P
      ·subst y3
       rw [atP] at z
       cases z
       exact ρ _ htb
      ·rw [at3 d y1 y2 y3] at z
       refine (I.hok d u z).stay (λa v ha q=>kp a v ?_ q) (λa q=>old a _ (noTP a (.own d) trivial q) q) λa xs q=>old a _ (noTP a (.tup xs) trivial q) q
       rcases ha with ha | ha
       ·rw [ha]
        exact y3
       ·exact noTP a (.own d) trivial ha
  exact ⟨.ref h'.objs.size,H3,I3,rfl,hQ _ c H3 (λd o n z=>old d o n z) atP (.inl ⟨e,hc0⟩) hf0 atf atc⟩
 ·have hP:s.heap.get? P=some (tabObj (gP pos c)):=I.hok P _ e
  obtain ⟨n1,n2⟩:=nG _ hP
  refine kla_makeFunctionHit (mg:=X.mg) (clos:=cl) (cv:=.ref c) hcl I.ok.glob hg hcode C hP (wM _ _) (ue _ _) ⟨bm,ob,b1,b2,hbG,n2,b3',b4,b5,b6⟩ λct h' tk hk hz=>?_
  have hf0:H h'.objs.size=none:=I.hok.fresh hz
  have sm:=al (o:=jo h'.objs.size (X.env.qual++"<lambda>") pr b sc cl c) hf0
  exact ⟨.ref h'.objs.size,_,I.laid (o:=jo h'.objs.size (X.env.qual++"<lambda>") pr b sc cl c) (t':=tk) (λd o z=>ρ _ (hk d o z)) hz (oZ (ψ _ rfl)),rfl,
   hQ _ c _ (Kp.of sm) (sm _ _ e) (.inr e) hf0 ad (sm _ _ ec)⟩
theorem vR{P:Program}{w:World}{K:Frag}{mg:Str->Option Value}{base:Heap}{A:Around}{outer:List Env}{s:Shared}{H:Hp}{k:Nat}{f c:Addr}{q:Str}{pr:Arguments}{b:Expr}{sc:Scope}{cl:List (Str×Addr)}{N:List Str}{x:Str}{fvs:List V}{cs:List (Addr×V)}{u:Value}{v:V}{Q:VK}
  (hr:Room (k+1) A)(e0:Env0 P w K mg base A outer s H)(hB:yh [] cs base)(S:wI N x sc cl)(hlen:N.length=fvs.length+1)(hcl:∀y a,cl.lookup y=some a->∃v,(a,v)∈cs)
  (hfv:∀(j:Nat) (y:Str) (v:V),N[j+1]?=some y->fvs[j]?=some v->sc.names.lookup y=some .free/\∃a,cl.lookup y=some a/\∀v',(a,v')∈cs->v'=v)(hf:H f=some (jo f q pr b sc cl c))(hc:H c=some (fq c q))(r:RelV v u)
  (hb:∀pm ct,BindsTo s (kla_fn "<lambda>" q pr b sc cl pm (.ref c) ct) ⟨[u],[]⟩ [(x,u)])(hbody:∃t,PE (wv CX0 P w K mg base N q sc f (.ref c) cl A outer s H E0) b t/\t ((v::fvs).map some) H Q) :
  codeAny (model P w) A (.call (.ref f) ⟨[u],[]⟩) (CR CX0 outer P w H s Q E0) s:=by
 have lim:s.heap.NoLimit:=e0.mod.nolimit.keeps λb o e=>(e0.bs b o e).1
 obtain ⟨⟨pm,ct,ho⟩,_⟩:=(show ObjOk P w H s.heap f (jo f q pr b sc cl c) from e0.hok f _ hf)
 obtain ⟨⟨oc,ws,t,hoc,hd,hv⟩,_⟩:=(show ObjOk P w H s.heap c (fq c q) from e0.hok c _ hc)
 obtain ⟨_,hcs⟩:=hB
 refine kla_callFunE (by have:=hr.dp;omega) ho rfl S.co S.gen rfl ⟨c,oc,ws,t,rfl,hoc,hd,hv⟩ (hb pm ct _ _ _ _ ?_)
 refine wpAny_newFunctionEnv S.nocell (λy hy=>by obtain rfl:=List.mem_singleton.mp hy;exact S.par) (λh₁ hns hsb=>⟨lim.fresh _ hsb,kla_codeExpr ?_⟩) S.kind
 have hk₁:∀b o,s.heap.get? b=some o->h₁.get? b=some o:=λb o e=>hsb.extBut b o (Φ (η e)) (ρ _ e)
 obtain ⟨t,ht,hq⟩:=hbody
 have aQ:∀y a,cl.lookup y=some a->∃v,(a,v)∈cs/\∃u,RelV v u/\s.heap.IsCell a (some u)/\H a=none:=λy a e=>by
  obtain ⟨v,hm⟩:=hcl y a e
  obtain ⟨u,ru,o,ho,hd⟩:=hcs _ hm
  exact ⟨v,hm,u,ru,⟨o,(e0.bs _ _ ho).1,hd⟩,(e0.bs _ _ ho).2⟩
 have noA:∀b:Addr,b∉(wv CX0 P w K mg base N q sc f (.ref c) cl A outer s H E0).ex:=λb z=>absurd (show b∈([]:List Addr) from z) (by simp)
 have I:Inv (wv CX0 P w K mg base N q sc f (.ref c) cl A outer s H E0) [] ((v::fvs).map some) H {s with heap:=h₁,toks:=s.toks+[(x,u)].length}:=by
  refine ⟨⟨e0.mod,S.kind,rfl,rfl,ι _,S.inj,λy hy=>?_,λy c h _=>absurd h (by show ¬(false=true);decide),λ_=>hr.hd,Around.frames_deeper e0.frames,.inr ⟨rfl,rfl⟩,λb z=>absurd z (noA b),e0.bs,e0.bsz,λb _ _=>noA b,λb z=>absurd z (noA b),e0.funs,e0.frf⟩,
   rfl,e0.bare,Un.kept hk₁,⟨_,hns,λi y v' h1 h2 h3=>?_⟩,λy a e=>?_,e0.hok.fresh (Nat.le_refl _),λy a e=>?_,λp hp=>absurd (show p∈([]:List (Addr×Obj)) from hp) (by simp),e0.hok.kept hk₁,?_⟩
  ·have hy:sc.names.lookup y=some .cell\/sc.names.lookup y=some .free:=hy
   rcases hy with hy | hy
   ·exact absurd rfl (S.nocell _ (PySem.mem_of_lookup hy))
   ·exact S.free y hy
  ·cases i with
   | zero =>
    have e1:some x=some y:=S.pre.symm.trans h1
    cases e1
    have e2:some (some v)=some (some v'):=h2
    cases e2
    exact ⟨u,r,.inl ⟨S.par,by simp⟩⟩
   | succ j =>
    have e2:(fvs.map some)[j]?=some (some v'):=h2
    rw [List.getElem?_map] at e2
    cases e3:fvs[j]? with
    | none =>
     rw [e3] at e2
     cases e2
    | some v2 =>
     rw [e3] at e2
     cases e2
     obtain ⟨hf,a,ea,hu⟩:=hfv j y _ h1 e3
     obtain ⟨v3,hm,u3,r3,⟨o,ho,hd3⟩,_⟩:=aQ y a ea
     obtain rfl:=hu _ hm
     exact ⟨u3,r3,.inr ⟨.inr hf,a,ea,o,hk₁ _ _ ho,hd3⟩⟩
  ·obtain ⟨v3,hm,u3,r3,⟨o,ho,hd3⟩,_⟩:=aQ y a e
   exact ⟨_,o,hk₁ _ _ ho,hd3⟩
  ·obtain ⟨v3,hm,u3,r3,_,n⟩:=aQ y a e
   exact n
  ·show _=N.length
   rw [hlen]
   simp
 refine wpAny_mono (ht [] _ _ H Q I hq) (λu s' hs=>?_) λe s' hs=>hs
 obtain ⟨v,H',J,rv,q⟩:=hs
 exact ⟨v,H',J.os,J.bare,J.base,J.hok,rv,q⟩
structure CloT(P:Program)(w:World)(K:Frag)(mg:Str->Option Value)(base:Heap)(k:Nat)(f:Addr)(sp:Sp)(H:Hp):Prop where
 fn:∃q pr b sc cl c,H f=some (jo f q pr b sc cl c)
 run:∀(H1:Hp) (A:Around) (outer:List Env) (s:Shared) (v:V) (u:Value) (Q:VK),Same H H1->Room k A->Env0 P w K mg base A outer s H1->RelV v u->sp [v] H1 Q E0->codeAny (model P w) A (.call (.ref f) ⟨[u],[]⟩) (CR CX0 outer P w H1 s Q E0) s
theorem CloT.keep{P:Program}{w:World}{K:Frag}{mg:Str->Option Value}{base:Heap}{k:Nat}{f:Addr}{sp:Sp}{H H':Hp}(h:CloT P w K mg base k f sp H)(e:Same H H'):CloT P w K mg base k f sp H' :=
 ⟨let ⟨q,pr,b,sc,cl,c,z⟩:=h.fn;⟨q,pr,b,sc,cl,c,e _ _ z⟩,λH1 A outer s v u Q e1 hr e0 r hs=>h.run H1 A outer s v u Q (e.trans e1) hr e0 r hs⟩
section
variable {X:Cx}{CX:CXT}{k:Nat}{f C:Addr}{fd:FuncData}{ps:List Str}{E:XK}{x m:Str}{p pos apos:Pos}{e o:Expr}{es:List Expr}{ta:TE}{t:TA}{cs:List (Addr×V)}
def yW(P:Program)(w:World)(K:Frag)(mg:Str->Option Value)(base:Heap)(k i:Nat)(sp:Sp)(t:TA):TE:=fun σ H Q=>∃f,σ[i]?=some (some (.ref f))/\(∃q pr b sc cl c,H f=some (jo f q pr b sc cl c))/\t σ H λvs H1=>∃v,vs=[v]/\CloT P w K mg base k f sp H1/\sp [v] H1 Q E0
theorem kB{i:Nat}{sp:Sp}(P:Program)(w:World)(K:Frag)(mg:Str->Option Value)(base:Heap)(hN:X.N[i]?=some x)(hv:Vis X.env.scope x)(hr:Room k X.A)(ha:PA X [e] t)(hP:X.prog=P:=by rfl)(hw:X.w=w:=by rfl)(hK:X.K=K:=by rfl)(hmg:X.mg=mg:=by rfl)(hbs:X.base=base:=by rfl)
  (hdb:(x==("__debug__":Str))=false:=by decide)(hcd:(x==("__classdict__":Str))=false:=by decide)(he:starEach [e] X.env=(false,eval e X.env)::starEach [] X.env:=by rfl)(hpl:(backTo pos (starEach [] X.env)).any (·.1)=false:=by rfl) :
  PE X (.Call (.Name x p) [e] [] pos) (yW P w K mg base k i sp t):=by
 subst hP hw hK hmg hbs
 intro pins s σ H Q I ⟨f,hσ,hf,h⟩
 have at':∀{σ':St} {H':Hp} {s':Shared},Inv X pins σ' H' s'->(∃q pr b sc cl c,H' f=some (jo f q pr b sc cl c))->FnAt f s'.heap:=λ{σ' H' s'} J ⟨q,pr,b,sc,cl,c,z⟩=>by
  obtain ⟨⟨pm,ct,ho⟩,_⟩:=(show ObjOk X.prog X.w H' s'.heap f (jo f q pr b sc cl c) from J.hok f _ z)
  exact ⟨_,_,_,_,ho⟩
 refine wpAny_Call_Name_kw (thn ((qf (pos:=p) hN hv hdb hcd) pins s σ H (λv H'=>v=.ref f/\H'=H) I ⟨_,hσ,rfl,rfl⟩) λu s1 ⟨v,H1,I1,r,e1,e2⟩=>?_)
 subst e1
 subst e2
 cases r
 refine callWith_F (first:=[]) (at' I1 hf) (thn (ha pos pins s1 σ H1 _ I1 h) λus s2 ⟨vs,H2,I2,r,v,ev,cv,q⟩=>⟨at' I2 cv.fn,?_⟩) he hpl
 subst ev
 cases r with
 | cons rv rr =>
  cases rr
  refine wpAny_call (codeAny_mono (cv.run H2 X.A X.stack s2 v _ Q (Same.refl _) hr I2.env0 rv q) λr s' hq=>?_)
  cases r with
  | error e=>exact False.elim hq
  | ok fl =>
   cases fl with
   | ret u=>exact I2.after hq
   | next=>exact False.elim hq
   | brk=>exact False.elim hq
   | cont=>exact False.elim hq
def yP(X:Cx)(cs:List (Addr×V))(C:Addr)(m:Str)(sp:Heap->Sp)(E:XK)(ta:TE)(t:TA):TE:=fun σ H Q=>qN X cs σ/\ta σ H λx H1=>∃a dx fs,x=.ref a/\H1 a=some (.ins C dx fs)/\fs.lookup m=none /\
 t σ H1 λvs H2=>∀B,X.K.In B->yh [] cs B->sp B (x::vs) H2 Q E
theorem uQ{sp:Heap->Sp}{pl:Sem Bool}(he:PE X o ta)(c:Cls X.K C)(hm:gr X.K C m f)(F:∀B:Heap,X.K.In B->FnOk X.prog X.w X.K X.mg B CX k f fd ps (sp B))(hr:Room k X.A)(hb:Binds X.K fd ps [])(hx:cJ CX X E)(ha:PA X (e::es) t)
  (hst:starEach (e::es) X.env=(false,eval e X.env)::starEach es X.env:=by rfl)(hpl:(backTo pos (starEach es X.env)).any (·.1)=false:=by rfl)
  (ht:eval (.Call (.Attribute o m apos) (e::es) [] pos) X.env=(do
   let ov ← eval o X.env
   standAt apos.atName
   let (f,first) ← holding [ov] (getMethod ov m pl)
   callWith pos f first (backTo pos (starEach (e::es) X.env)) (backToKw pos (keywordEach [] X.env))):=by rfl) :
  PE X (.Call (.Attribute o m apos) (e::es) [] pos) (yP X cs C m sp E ta t):=by
 intro pins s σ H Q I ⟨hc,h⟩
 refine PySem.W.methodCall_KW (pl:=pl) (thn (he pins s σ H _ I h) λu s1 ⟨x,H1,I1,rx,a,dx,fs,ex,ea,l,q⟩=>?_) ht
 subst ex
 obtain rfl:u=Value.ref a:=rx
 refine hZ I1 ea c hm l ?_
 refine PySem.W.callWith_K (first:=[.ref a]) (h₀:=X.base) I.ok.mod.kin hm.kp (thn (ha pos pins s1 σ H1 _ I1 q) λus s2 ⟨vs,H2,I2,r,q2⟩=>⟨I2.kIn,?_⟩) hst hpl
 have hq:=q2 _ I2.modB.kin (I2.pinB (pp:=[]) (λp z=>nomatch z) hc)
 have FF:=F _ I2.modB.kin
 have rr:Vals (.ref a::vs) (.ref a::us):=.cons rfl r
 have hl:((Value.ref a::us)++[]).length=ps.length:=by rw [List.append_nil,← rr.length];exact FF.len _ _ _ _ hq
 have hbb:=hb s2 (.ref a::us) I2.kIn hl
 rw [List.append_nil] at hbb
 refine wpAny_call (codeAny_mono (FF.run X.A X.stack s2 H2 ⟨.ref a::us,[]⟩ (.ref a::us) (.ref a::vs) Q E hr I2.env0B hbb rr hq) λr s' hq=>?_)
 cases r with
 | error e=>exact hx pins σ H2 s2 e s' I2 hq
 | ok fl =>
  cases fl with
  | ret u=>exact I2.after hq
  | next=>exact False.elim hq
  | brk=>exact False.elim hq
  | cont=>exact False.elim hq
end
end L2
namespace L2
open PySem PySem.Spec PyProof.Rows PySem.W Lo
theorem eB:plainId "dict.update.loop"=true:=by decide +kernel
theorem jx : entryFor table "dict.update.loop" = some Builtin.«dict.update.loop» := entryFor_of_tree (by kernel_rfl)
def qM(P:Program)(w:World)(h:Heap)(u:Value)(kv:Key×Value):Prop:=∃b key,u=.ref b/\h.IsTuple b #[key,kv.2]/\(aL P w).is kv.1 key=true
theorem qH{P:Program}{w:World}{A:Around}{R:Result->Shared->Prop}{d it t:Addr}(hh:A.in1.handled=none)(ndi:d≠it)(ndt:d≠t)(nit:it≠t)(us:List Value)(kvs:List (Key×Value))(lk:us.length=kvs.length) :
  ∀(n i:Nat) (s:Shared) (acc:List (Key×Value)) (tk:Tok),us.length-i=n->i<=us.length->s.heap.IsTupleIter it t i->s.heap.IsTuple t us.toArray->s.heap.DictOf (aL P w) d acc->acc.length+us.length<=sizeLine+i ->
   (∀(j:Nat) (u:Value) (kv:Key×Value),us[j]?=some u->kvs[j]?=some kv->qM P w s.heap u kv/\u≠.ref d/\u≠.ref it) ->
   (∀h' tk',h'.DictOf (aL P w) d (merged acc (kvs.drop i))->(∀b o,b≠d->b≠it->s.heap.get? b=some o->h'.get? b=some o)->R (.ok (.ret .none)) {s with heap:=h',toks:=tk'}) ->
   codeAny (model P w) A (.builtin "dict.update.loop" ⟨[.ref d,.ref it,.int i tk,.none],[]⟩) R s:=by
 intro n
 induction n with
 | zero =>
  intro i s acc tk hn hi hit ht hd hz hp hR
  have e:i=us.length:=by omega
  subst e
  refine codeAny_builtin jx ?_
  rw [Around.under_plainId eB _]
  show wpAny _ A.in1 (pyNext (.ref it) >>= _) _ _ s
  refine wpAny_bind (wpAny_pyNext_tuple_end hh hit ht (by simp) λh' eb=>?_)
  have e0:kvs.drop us.length=[]:=by rw [lk];exact List.drop_length
  show wpAny _ _ (Builtin.Dict.addKeywords d [] >>= λ_=>ret Value.none) _ _ _
  refine ε (π (π ?_))
  refine hR h' s.toks ?_ (λb o _ nb e=>eb b o nb e)
  rw [e0]
  exact hd.extBut eb ndi
 | succ n ih =>
  intro i s acc tk hn hi hit ht hd hz hp hR
  have hlt:i<us.length:=by omega
  have hu:us[i]?=some us[i]:=ξ hlt
  have hk:kvs[i]?=some (kvs[i]'(ω)):=ξ ω
  generalize us[i]=u at hu
  generalize (kvs[i]'(ω))=kv at hk
  have ek:kvs.drop i=kv::kvs.drop (i+1):=by
   rw [List.drop_eq_getElem_cons ω]
   rw [ξ ω] at hk
   rw [Δ hk]
  obtain ⟨⟨b,key,rfl,hb,hkey⟩,nd,ni⟩:=hp i u kv hu hk
  have nbd:b≠d:=λz=>nd (by rw [z])
  have nbi:b≠it:=λz=>ni (by rw [z])
  refine codeAny_builtin jx ?_
  rw [Around.under_plainId eB _]
  show wpAny _ A.in1 (pyNext (.ref it) >>= _) _ _ s
  refine wpAny_bind (wpAny_pyNext_tuple_item hit ht (by simpa using hu) λh1 hit1 sb1=>?_)
  have hb1:h1.IsTuple b #[key,kv.2]:=by
   obtain ⟨o,ho,r⟩:=hb
   exact ⟨o,(sb1.2 b nbi).trans ho,r⟩
  have hd1:h1.DictOf (aL P w) d acc:=hd.sameBut sb1 ndi
  have ht1:h1.IsTuple t us.toArray:=by
   obtain ⟨o,ho,r⟩:=ht
   exact ⟨o,(sb1.2 t (Ne.symm nit)).trans ho,r⟩
  refine ε (wpAny_holding (ε (wpAny_tryCatch ?_)))
  show wpAny _ _ (Builtin.Dict.pairItems (.ref b)) _ _ _
  unfold Builtin.Dict.pairItems
  refine ε (wpAny_typeOf hb1.typeIs ?_)
  rw [if_pos ζ]
  obtain ⟨ob,hob,hcb,nb,hdb⟩:=id hb1
  refine ε (wpAny_seqItems hob hdb (π ?_))
  show wpAny _ _ (holding [key,kv.2] (dictSet d key kv.2)) _ _ _
  refine wpAny_holding (wpAny_dictSet_pairs hkey hd1 (λh2 hd2 sb2=>?_) ω)
  refine π ⟨plainId_quiet eB _,ih (i+1) _ (stored acc kv.1 kv.2) _ ω hlt ?_ ?_ hd2 ?_ ?_ λh' tk' hd' kp=>?_⟩
  ·obtain ⟨o,ho,r⟩:=hit1
   exact ⟨o,(sb2.2 it (Ne.symm ndi)).trans ho,r⟩
  ·obtain ⟨o,ho,r⟩:=ht1
   exact ⟨o,(sb2.2 t (Ne.symm ndt)).trans ho,r⟩
  ·have:(stored acc kv.1 kv.2).length<=acc.length+1:=by
    unfold stored
    split
    ·rw [List.length_map];omega
    ·rw [List.length_append];exact ι _
   omega
  ·intro j u2 kv2 e1 e2
   obtain ⟨⟨b2,key2,rfl,hb2,hk2⟩,n1,n2⟩:=hp j u2 kv2 e1 e2
   refine ⟨⟨b2,key2,rfl,?_,hk2⟩,n1,n2⟩
   obtain ⟨o,ho,r⟩:=hb2
   exact ⟨o,(sb2.2 b2 λz=>n1 (by rw [z])).trans ((sb1.2 b2 λz=>n2 (by rw [z])).trans ho),r⟩
  ·refine hR h' tk' ?_ λb3 o3 x1 x2 e3=>kp b3 o3 x1 x2 ((sb2.2 b3 x1).trans ((sb1.2 b3 x2).trans e3))
   rw [ek]
   exact hd'
theorem xF:typeLookup (.type "tuple") "keys"=pure none:=am_miss_of_fast (by kernel_rfl)
set_option maxRecDepth 100000 in
theorem o6{prog:Program}{w:World}{A:Around}{E:Value->Shared->Prop}{s:Shared}{a:Addr}{xs:Array Value}{k:Nat}{sl:Array (Option Value)}{Q:Option Value->Shared->Prop}
  (hx:s.heap.get? a=some {cls:=.type "tuple",dict:=none,data:=.seq xs k,slots:=sl})(hA:A.handled=none)
  (h:∀h' tk,(∀b o,s.heap.get? b=some o->h'.get? b=some o)->Q none {s with heap:=h',toks:=tk}) :
  wpAny (model prog w) A (getAttr? (.ref a) "keys") Q E s:=by
 obtain ⟨hp,g,d,tk,os⟩:=s
 have hT:∀tk',(⟨hp,g,d,tk',os⟩:Shared).TypeIs (.ref a) "tuple":=λ_=>⟨_,hx,rfl⟩
 have f1:=sub_AttributeError
 have f3:=F.slot_tuple_getattribute.lookup
 have f4:=F.slot_tuple_getattribute.bind (.ref a)
 have f5:=am_tuple_getattr_none
 unfold getAttr? getAttrBy? getAttrBy
 repeat (any_goals (first | assumption | exact hT _ | ((with_reducible show wpAny _ _ (call (Value.builtin "tuple.__getattribute__") _ _) _ _ _);refine call_meets F.slot_tuple_getattribute (hT _) am_entry_tuple_getattribute (F.args_tuple_getattribute_2 _ _) (meets_getattribute_miss_tuple a xs k sl "keys" _ xF θ θ) ⟨hx,hA,λh' tk' e hx'=>?_⟩) | wp_step))
 obtain ⟨t',u',he⟩:=hx'.there
 show wpAny _ _ (getattributeRaised _ _ _ _ _ _ _) _ _ _
 unfold getattributeRaised
 repeat (any_goals (first | assumption | wp_step))
 exact h _ _ hx'.keeps
end L2
namespace L2
open PySem PySem.Spec PyProof.Rows PySem.W Lo
theorem jI{P:Program}{w:World}{A:Around}{E:Value->Shared->Prop}{s:Shared}{t:Addr}{us:List Value}{kvs:List (Key×Value)}{Q:Value->Shared->Prop}(hh:A.handled=none)(nd:s.heap.NoDictAt (.ref t))(ht:s.heap.IsTuple t us.toArray)(lk:us.length=kvs.length)(hz:us.length<=sizeLine)
  (hp:∀(j:Nat) (u:Value) (kv:Key×Value),us[j]?=some u->kvs[j]?=some kv->qM P w s.heap u kv)
  (h:∀h' tk,h'.DictOf (aL P w) s.heap.objs.size (merged [] kvs)->(∀b o,s.heap.get? b=some o->h'.get? b=some o)->Q (.ref s.heap.objs.size) {s with heap:=h',toks:=tk}) :
  wpAny (model P w) A (call (.type "dict") [.ref t]) Q E s:=by
 refine callType_codes (Q₁:=λobj s₁=>obj=.ref s.heap.objs.size/\s₁={s with heap:=s.heap.push {cls:=.type "dict",data:=.dict #[]}}) F.kt_called_dict (F.kt_typeCall_dict_1 _) F.entry_dict_init (kt_code_dict_new _ ⟨rfl,rfl⟩) ?_
 rintro obj s₁ ⟨rfl,rfl⟩
 have hnew:(s.heap.push {cls:=.type "dict",data:=.dict #[]}).DictOf (aL P w) s.heap.objs.size []:=Heap.DictOf.new s.heap
 obtain ⟨o,ho,hc,n,hdat⟩:=ht
 have hod:=nd.of ho
 have tlt:t<s.heap.objs.size:=η ho
 refine ⟨hnew.typeIs,F.args_dict_init_2 _ _,?_⟩
 unfold Builtin.«dict.__init__»
 refine ε ?_
 unfold Builtin.Dict.selfAndRest
 refine ε (wpAny_notOrdered_dict hnew.typeIs ?_)
 show wpAny _ _ (pure (s.heap.objs.size,[Value.ref t])) _ _ _
 refine π ?_
 show wpAny _ _ (Builtin.Dict.updateFrom "dict.__init__" s.heap.objs.size (.ref t) [] .none) _ _ _
 unfold Builtin.Dict.updateFrom
 have ho1:(s.heap.push {cls:=.type "dict",data:=.dict #[]}).get? t=some o:=ρ _ ho
 have ty1:({s with heap:=s.heap.push {cls:=.type "dict",data:=.dict #[]}}:Shared).TypeIs (.ref t) "tuple":=⟨o,ho1,hc⟩
 refine ε (wpAny_typeOf ty1 ?_)
 rw [if_pos ζ]
 obtain ⟨oc,od,odt,osl⟩:=o
 cases (show oc=_ from hc)
 cases (show od=_ from hod)
 cases (show odt=_ from hdat)
 refine ε (o6 ho1 hh λh2 tk2 k2=>?_)
 rw [if_pos (show (none:Option Value).isNone=true from rfl)]
 refine ε (wpAny_rule ?_)
 have hd2:h2.DictOf (aL P w) s.heap.objs.size []:=by
  obtain ⟨o,es,ep,e,r⟩:=hnew
  exact ⟨o,es,ep,k2 _ _ e,r⟩
 have ht2:h2.IsTuple t us.toArray:=⟨_,k2 _ _ ho1,rfl,_,rfl⟩
 refine ε (wpAny_pyIter_tuple ht2 ?_)
 have lt2:s.heap.objs.size<h2.objs.size:=by
  obtain ⟨o,es,ep,e,r⟩:=hd2
  exact η e
 have kk:∀b o,s.heap.get? b=some o->(h2.push {cls:=.type "tuple_iterator",data:=.fields #[.ref t,.int 0 0]}).get? b=some o:=λb o e=>ρ _ (k2 b o (ρ _ e))
 refine wpAny_pure ⟨plainId_quiet eB _,qH (A:=A.in1) (d:=s.heap.objs.size) (it:=h2.objs.size) (t:=t) hh (Nat.ne_of_lt lt2) (Nat.ne_of_gt tlt) (Nat.ne_of_gt (Nat.lt_trans tlt lt2)) us kvs lk us.length 0 _ [] _ ω (Nat.zero_le _) ⟨_,Heap.get?_push_size _ rfl,rfl,rfl⟩ ?_ (hd2.push _) (by simp;exact hz) ?_ λh' tk' hd' kp=>?_⟩
 ·exact ⟨_,ρ _ (k2 _ _ ho1),rfl,_,rfl⟩
 ·intro j u kv e1 e2
  obtain ⟨b,key,rfl,⟨o,hb,r⟩,hk⟩:=hp j u kv e1 e2
  have lb:=η hb
  exact ⟨⟨b,key,rfl,⟨o,kk _ _ hb,r⟩,hk⟩,λz=>absurd lb (by cases z;exact Nat.lt_irrefl _),λz=>absurd (Nat.lt_trans lb lt2) (by cases z;exact Nat.lt_irrefl _)⟩
 ·exact ⟨rfl,h h' tk' hd' λb o e=>kp b o (Φ (η e)) (Φ (Nat.lt_trans (η e) lt2)) (kk b o e)⟩
end L2
namespace L2
open PySem PySem.Spec PyProof.Rows PySem.W Lo
def tJ(a:Addr)(us:List V):HO:=.ext λh=>us.length<=sizeLine/\∃its:List Value,Vals us its/\∃n sl,h.get? a=some {cls:=.type "tuple",dict:=none,data:=.seq its.toArray n,slots:=sl}
def Ao(t:TA):TE:=fun σ H Q=>t σ H λxs H1=>xs.length<=sizeLine/\∀p,H1 p=none->Q (.ref p) (upd H1 p (tJ p xs))
section
variable {X:Cx}{es:List Expr}{t:TA}{pos:Pos}
theorem jQ{x1}(h:PA X es t):PE X (.Tuple es x1 pos) (Ao t):=by
 intro pins s σ H Q I hq
 refine wpAny_Tuple_spliced (thn (h pos pins s σ H _ I hq) λus s1 ⟨xs,H1,I1,r,z,q⟩=>⟨by rw [← r.length];exact z,?_⟩)
 have hf:H1 s1.heap.objs.size=none:=I1.hok.fresh (ι _)
 refine ⟨.ref s1.heap.objs.size,upd H1 s1.heap.objs.size (tJ s1.heap.objs.size xs),I1.laid (t':=s1.toks) (λb u e=>ρ _ e) (ι _) ?_,rfl,q _ hf⟩
 exact ⟨⟨z,us,r,_,_,ψ _ rfl⟩,⟨_,ψ _ rfl⟩,λh1 h2 ⟨z,us,r,n,sl,e⟩ k=>⟨z,us,r,n,sl,k _ e⟩⟩
def prD(H:Hp)(kv:Key×V)(u:V):Prop:=∃b,u=.ref b/\H b=some (.tup [kV kv.1,kv.2])
theorem qI(hc:X.calm=true):dX X (.type "dict") (λxs H Q=>∃t us kvs,xs=[.ref t]/\H t=some (tJ t us)/\Paired (prD H) kvs us/\kvs.length<=1000/\∀p,H p=none->Q (.ref p) (upd H p (.dK (aP [] kvs)))):=by
 intro pins s σ H xs us Q I r h
 obtain ⟨t,vs,kvs,rfl,ht,pr,hl,q⟩:=h
 obtain ⟨u,rfl,rx⟩:=dF r
 cases rx
 obtain ⟨⟨z,its,rv,n,sl,ho⟩,_⟩:=(show ObjOk X.prog X.w H s.heap t (tJ t vs) from I.hok t _ ht)
 have l1:=pr.len
 have l2:=rv.length
 have ex:∀{kvs:List (Key×V)} {vs:List V} {its:List Value},Paired (prD H) kvs vs->Vals vs its->∃ws:List (Key×Value),KV kvs ws/\its.length=ws.length/\∀(j:Nat) (u:Value) (kv:Key×Value),its[j]?=some u->ws[j]?=some kv->qM X.prog X.w s.heap u kv:=by
  intro kvs vs its h
  induction h generalizing its with
  | nil=>intro r;cases r;exact ⟨[],.nil,rfl,λj u kv e=>by cases e⟩
  | cons p _ ih =>
   rename_i kv v kvs vs _
   intro r
   cases r with
   | cons r1 r2 =>
    obtain ⟨ws,k1,k2,k3⟩:=ih r2
    obtain ⟨b,rfl,hb⟩:=p
    obtain ⟨_,it2,rb,pb⟩:=(show ObjOk X.prog X.w H s.heap b (.tup [kV kv.1,kv.2]) from I.hok b _ hb)
    obtain ⟨uk,uv,rfl,ru,rw'⟩:=tT rb
    cases r1
    refine ⟨(kv.1,uv)::ws,.cons ⟨rfl,rw'⟩ k1,congrArg (·+1) k2,λj u kv2 e1 e2=>?_⟩
    cases j with
    | zero =>
     cases e1
     cases e2
     exact ⟨b,uk,rfl,pb,kR ru⟩
    | succ j=>exact k3 j u kv2 e1 e2
 obtain ⟨ws,k1,k2,k3⟩:=ex pr rv
 have hs:(1000:Nat)<=sizeLine:=by decide
 have l3:=k1.length
 refine jI (I.ok.hd hc) ⟨_,ho,rfl⟩ ⟨_,ho,rfl,_,rfl⟩ k2 ω k3 λh' tk hd kp=>?_
 refine ⟨.ref s.heap.objs.size,_,I.laid (t':=tk) kp (ι _) ?_,rfl,q _ (I.hok.fresh (ι _))⟩
 have hz:(aP [] kvs).length<=sizeLine:=by
  have h1:=cK kvs []
  rw [List.length_nil] at h1
  omega
 exact qE hz (by have:=I.big;exact beq_false_of_ne (Nat.ne_of_gt this)) (k1.merge .nil) hd
end
def Ay(td ty:TE):TE:=fun σ H Q=>td σ H λx H1=>∃a,x=.ref a/\IsD H1 a/\ty σ H1 λy H2=>∃b kvs more,y=.ref b/\a≠b/\H2 a=some (.dK kvs)/\H2 b=some (.dK more)/\kvs.length+more.length<=sizeLine/\Q .non (upd H2 a (.dK (aP kvs more)))
theorem xa{X:Cx}{o e:Expr}{apos cpos:Pos}{td ty:TE}(ho:PE X o td)(he:PE X e ty)(m:M1 X o "update" apos e cpos):PE X (.Call (.Attribute o "update" apos) [e] [] cpos) (Ay td ty):=by
 intro pins s σ H Q I h
 refine wpAny_Call_method m.base m.few m.line PySem.F.plainAttrs_dict PySem.F.slot_dict_update PySem.F.type_dict_update (thn (ho pins s σ H _ I h) λu s1 ⟨x,H1,I1,rx,a,ex,d,q1⟩=>?_)
 subst ex
 obtain rfl:u=Value.ref a:=rx
 obtain ⟨t1,t2,_⟩:=nQ I1 d
 refine ⟨t1,t2,?_⟩
 rw [m.trees]
 refine Calls.callWith_builtin rfl (Calls.evalArgs_plain (Calls.spliced_cons (thn (he pins s1 σ H1 _ I1 q1) λiv s2 ⟨y,H2,I2,ry,b,kvs,more,ey,nab,ea,eb,hz,q2⟩=>Calls.spliced_nil ?_)))
 subst ey
 cases ry
 obtain ⟨z1,hd1,vs1,rel1,dd1⟩:=wn I2.hok ea
 obtain ⟨z2,hd2,vs2,rel2,dd2⟩:=wn I2.hok eb
 refine call_meetsIn PySem.F.slot_dict_update dd1.typeIs PySem.F.entry_dict_update (PySem.F.args_dict_update_2 _ _) (meets_dict_update (aL X.prog X.w) a b nab hd2) ⟨vs1,vs2,dd1,dd2,by rw [← rel1.length,← rel2.length];exact hz,λh' d1 d2 hs=>?_⟩
 have he:∃q,h'.get? a=some q:=let ⟨q,_,_,hq,_⟩:=d1;⟨q,hq⟩
 refine ⟨.non,_,iJ (t':=s2.toks) I2 (by rw [ea];exact True.intro) hs he (qE ?_ hd1 (rel2.merge rel1) d1),rfl,q2⟩
 have:=cK more kvs
 omega
end L2
namespace K51
open PySem L2 Lo St
section
variable {P:Program}{w:World}{K:Frag}{mg:Str->Option Value}{base:Heap}{f CL CS CH CV:Addr}{fd:FuncData}{C:Kd->Addr}{CW:Wd->Addr}
def lU(val:Int->Int)(n:Nat):Sp:=λvs H Q _=>∃c:Int,vs=[.int c]/\0<=c/\c<n/\∀H',Same H H'->Q (.int (val c)) H'
def lq(val:Int->Int)(a:Int):Nat->Int
 | 0=>0
 | n+1=>lq val a n+val (a+n)
def oG(a:Int)(n:Nat):List Int:=(List.range n).map λi=>a+(i:Nat)
theorem oC(a:Int)(n:Nat):oG a (n+1)=oG a n++[a+n]:=by
 unfold oG
 rw [List.range_succ,List.map_append]
 rfl
theorem qR(val:Int->Int)(a:Int)(n:Nat):((oG a n).map val).sum=lq val a n:=by
 induction n with
 | zero=>rfl
 | succ n ih =>
  rw [oC,List.map_append,List.sum_append,ih]
  simp [lq]
def dn(val:Int->Int):Wd->List Int->Int->Int×List (Int×Int)
 | .take,[_,c],_=>(val c,[])
 | .mean,[_,c],_=>(val c,[])
 | .sum,[_,a,b],_=>(lq val a (b+1-a).toNat,[])
 | .give,[_,c],h=>(h,[(c,h)])
 | .add,[_,c,v],h=>(h,[(c,val c+v)])
 | _,_,h=>(h,[])
def inC(n:Nat):Wd->List Int->Prop
 | .sum,[_,a,b]=>a<n/\b<n
 | .add,[_,c,_]=>c<n
 | .plus,_=>False
 | .need,_=>False
 | _,[_,c]=>c<n
 | _,_=>False
def chK(cs:List (Int×Int)):List (Key×V):=cs.map λx=>(Sum.inl x.1,V.int x.2)
def chN(H:Hp)(cs:List (Int×Int))(a:Addr):Prop:=∃us,H a=some (tJ a us)/\Paired (prD H) (chK cs) us
def fy(P:Program)(w:World)(K:Frag)(mg:Str->Option Value)(CW:Wd->Addr)(val:Int->Int)(n:Nat)(wd:Wd)(B:Heap):Sp:=λvs H Q _=>∃v ns hand fv,vs=[v,.int hand,.ref fv]/\Ar wd ns/\inC n wd ns/\StO CW H wd ns v/\CloT P w K mg B 4 fv (lU val n) H /\
 ∀t ch H',Same H H'->H' t=some (.tup [.int (dn val wd ns hand).1,.ref ch])->chN H' (dn val wd ns hand).2 ch->Q (.ref t) H'
section
variable {val:Int->Int}{n:Nat}
theorem vw{wd:Wd}{st:Stmt}{q:Str}(hw:wd=.take\/wd=.mean)(F:Fun K "step_done" q st f fd)(S:au ["self","hand","value_of"] ["self","hand","value_of"] (defScope st)){p1 p2 p3 p4 p5 p6 p7 x1 x2}(hb:defBody st=[.Return (some (.Tuple [.Call (.Name "value_of" p1) [.Attribute (.Name "self" p2) "cell" p3] [] p4,.Tuple [] x1 p5] x2 p6)) p7])(hs:defScope st=defScope bV)(T:TxW K CW) :
  FnOk P w K mg base CX0 5 f fd ["self","hand","value_of"] (fy P w K mg CW val n wd base):=by
 refine F.ok S (λvs H Q E h=>?_) (λcdv A outer s H vs Q E hr h=>?_)
 ·obtain ⟨v,ns,hand,fv,rfl,_⟩:=h
  rfl
 obtain ⟨v,ns,hand,fv,rfl,ar,ic,⟨a,dx,rfl,ha⟩,ct,q⟩:=h
 rw [hb,hs]
 rw [hs] at hr
 obtain ⟨x,y,rfl,h1,h2,e⟩:=ar.c (by rcases hw with rfl | rfl<;>rfl)
 rw [e] at ha
 have icy:y<n:=by rcases hw with rfl | rfl<;>exact ic
 have ed:dn val wd [x,y] hand=(val y,[]):=by rcases hw with rfl | rfl<;>rfl
 rw [ed] at q
 refine ⟨_,aj (ax (aY (ac (kB (k:=4) (i:=2) (sp:=lU val n) P w K mg base rfl (.inl rfl) hr (ac (aw (pv 0) rfl) ag)) (ac (jQ ag) ag)))),?_⟩
 refine ⟨fv,rfl,ct.fn,_,rfl,a,CW wd,dx,_,_,rfl,ha,T.cl _,T.nC _,bv,_,rfl,ct,y,rfl,h2.1,icy,λH1 s1=>⟨χ,λt ht=>⟨χ,λt2 ht2=>q t2 t _ (s1.trans ((al ht).trans (al ht2))) ad ⟨[],al ht2 _ _ ad,.nil⟩⟩⟩⟩
theorem vz(F:Fun K "step_done" "GiveStep.step_done" bY f fd)(T:TxW K CW):FnOk P w K mg base CX0 5 f fd ["self","hand","value_of"] (fy P w K mg CW val n .give base):=by
 refine F.ok gq (λvs H Q E h=>?_) (λcdv A outer s H vs Q E hr h=>?_)
 ·obtain ⟨v,ns,hand,fv,rfl,_⟩:=h
  rfl
 obtain ⟨v,ns,hand,fv,rfl,ar,ic,⟨a,dx,rfl,ha⟩,ct,q⟩:=h
 obtain ⟨x,y,rfl,h1,h2,e⟩:=ar.c rfl
 rw [e] at ha
 refine ⟨_,aj (ax (aY (ac (pv 1) (ac (jQ (ac (aY (ac (aw (pv 0) rfl) (ac (pv 1) ag))) ag)) ag)))),?_⟩
 refine ⟨_,rfl,_,rfl,a,CW .give,dx,_,_,rfl,ha,T.cl _,T.nC _,bv,_,rfl,χ,λt ht=>⟨χ,λt1 ht1=>⟨χ,λt2 ht2=>q t2 t1 _ ((al ht).trans ((al ht1).trans (al ht2))) ad ⟨_,al ht2 _ _ ad,.cons ⟨t,rfl,?_⟩ .nil⟩⟩⟩⟩
 exact al ht2 _ _ (al ht1 _ _ ad)
theorem xC(F:Fun K "step_done" "AddStep.step_done" b9 f fd)(T:TxW K CW):FnOk P w K mg base CX0 5 f fd ["self","hand","value_of"] (fy P w K mg CW val n .add base):=by
 refine F.ok gv (λvs H Q E h=>?_) (λcdv A outer s H vs Q E hr h=>?_)
 ·obtain ⟨v,ns,hand,fv,rfl,_⟩:=h
  rfl
 obtain ⟨v,ns,hand,fv,rfl,ar,ic,⟨a,dx,rfl,ha⟩,ct,q⟩:=h
 obtain ⟨x,y,z,rfl,h1,h2,_⟩:=ar.a
 refine ⟨_,aj (ax (aY (ac (pv 1) (ac (jQ (ac (aY (ac (aw (pv 0) rfl) (ac (aG cZ (kB (k:=4) (i:=2) (sp:=lU val n) P w K mg base rfl (.inl rfl) hr (ac (aw (pv 0) rfl) ag)) (aw (pv 0) rfl)) ag))) ag)) ag)))),?_⟩
 have lc:(lK .add [x,y,z]).lookup (Str.ofString "cell")=some (V.int y):=by
  show (aq "amount" _ (aq "cell" _ (aq "where" _ []))).lookup _=_
  rw [aK θ,bv]
 have lm:(lK .add [x,y,z]).lookup (Str.ofString "amount")=some (V.int z):=by
  show (aq "amount" _ (aq "cell" _ (aq "where" _ []))).lookup _=_
  rw [bv]
 refine ⟨_,rfl,_,rfl,a,CW .add,dx,_,_,rfl,ha,T.cl _,T.nC _,lc,fv,rfl,ct.fn,_,rfl,a,CW .add,dx,_,_,rfl,ha,T.cl _,T.nC _,lc,_,rfl,ct,y,rfl,h2.1,ic,λH1 s1=>⟨_,rfl,a,CW .add,dx,_,_,rfl,s1 _ _ ha,T.cl _,T.nA _,lm,_,_,rfl,rfl,
  χ,λt ht=>⟨χ,λt1 ht1=>⟨χ,λt2 ht2=>q t2 t1 _ (s1.trans ((al ht).trans ((al ht1).trans (al ht2)))) ad ⟨_,al ht2 _ _ ad,.cons ⟨t,rfl,?_⟩ .nil⟩⟩⟩⟩⟩
 exact al ht2 _ _ (al ht1 _ _ ad)
theorem xB(F:Fun K "step_done" "SumStep.step_done" bf f fd)(T:TxW K CW)(B:TxB mg)(hsum:mg "sum"=none)(hn:n<=1000):FnOk P w K mg base CX0 5 f fd ["self","hand","value_of"] (fy P w K mg CW val n .sum base):=by
 refine F.ok gu (λvs H Q E h=>?_) (λcdv A outer s H vs Q E hr h=>?_)
 ·obtain ⟨v,ns,hand,fv,rfl,_⟩:=h
  rfl
 obtain ⟨v,ns,hand,fv,rfl,ar,ic,⟨a,dx,rfl,ha⟩,ct,q⟩:=h
 obtain ⟨x,y,z,rfl,h1,h2,h3,h4⟩:=ar.s
 refine ⟨_,aj (ax (aY (ac (aF (g9 rfl) rfl hsum PyProof.Rows.boot_sum (ac (iq fD rfl (sE rfl B.range (ac (aw (pv 0) rfl) (ac (aG cZ (aw (pv 0) rfl) ao) ag))) (λ_ _ _ _=>eg)
  (λ_ _ _ _=>kB (k:=4) (i:=1) (sp:=lU val n) P w K mg base rfl (by first | exact Or.inl rfl | exact Or.inr (Or.inl rfl) | exact Or.inr (Or.inr rfl)) hr (ac (pv 0) ag))) ag)) (ac (jQ ag) ag)))),?_⟩
 have ll:(lK .sum [x,y,z]).lookup (Str.ofString "low")=some (V.int y):=by
  show (aq "high" _ (aq "low" _ (aq "where" _ []))).lookup _=_
  rw [aK θ,bv]
 have lh:(lK .sum [x,y,z]).lookup (Str.ofString "high")=some (V.int z):=by
  show (aq "high" _ (aq "low" _ (aq "where" _ []))).lookup _=_
  rw [bv]
 refine ⟨_,rfl,a,CW .sum,dx,_,_,rfl,ha,T.cl _,T.nL _,ll,_,rfl,a,CW .sum,dx,_,_,rfl,ha,T.cl _,T.nH _,lh,_,_,rfl,rfl,_,_,rfl,?_⟩
 have y0:0<=y:=h2.1
 have ic2:z<n:=ic.2
 have hz:(z+1-y).toNat<=n:=by omega
 have h1000:(1000:Nat)<=sizeLine:=by decide
 refine sR (λi ys H'=>Same H H'/\ys=((oG y i).map val).map V.int) ⟨Same.refl _,rfl⟩ ω ?_ ?_
 ·rintro i ys H2 hi ⟨s2,rfl⟩
  have c2:=ct.keep s2
  refine lQ ⟨fv,rfl,c2.fn,_,rfl,_,rfl,c2,y+i,rfl,ω,ω,λH3 s3=>⟨s2.trans s3,?_⟩⟩
  rw [oC,List.map_append,List.map_append]
  rfl
 ·rintro ys H2 ⟨s2,rfl⟩ p hp
  refine ⟨p,_,rfl,SqL.of ad,?_⟩
  rw [qR]
  exact ⟨χ,λt ht=>⟨χ,λt2 ht2=>q t2 t _ (s2.trans ((al hp).trans ((al ht).trans (al ht2)))) ad ⟨[],al ht2 _ _ ad,.nil⟩⟩⟩
end
end
end K51
namespace K51
open PySem L2 Lo
section
variable {P:Program}{w:World}{K:Frag}{mg:Str->Option Value}{base:Heap}{f CL CS CH CV:Addr}{fd:FuncData}{C:Kd->Addr}{CW:Wd->Addr}
theorem jg(F:Fun K "beside" "Lock.beside" eQ f fd)(T:TxK K C)(S:TxS K mg)(GK:∀k,GM P w K mg base CX0 1 (C k) "kind" ["self"] (hI k)):FnOk P w K mg base CX0 2 f fd ["self","other"] (j8 C):=by
 refine F.ok sc_Lock_beside (λvs H Q E h=>?_) (λcdv A outer s H vs Q E hr h=>?_)
 ·obtain ⟨v,u,k,j,rfl,_⟩:=h
  rfl
 obtain ⟨v,u,k,j,rfl,⟨a,dx,rfl,ha⟩,⟨b,dy,rfl,hb⟩,q⟩:=h
 obtain ⟨aS,a0,a1,a2,mS,tS,t0,t1,t2⟩:=S.sh
 refine ⟨_,af (aH (i:=2) sc_Lock_beside.nd rfl (Or.inl rfl) (yA (ci oR (aw (pv 0) rfl) (aw (pv 1) rfl) (aA _)) (eM (ci oR (aw (pv 1) rfl) (aw (pv 0) rfl) (aA _)))))
  (aj (ax (yA (pv 2) (eM (ci (uZ (cT2 cStr cStr) (hun hr)) (aY (ac (pm0 (GK k.1) (pv 0) (T.cl k.1) hr) (ac (pm0 (GK j.1) (pv 1) (T.cl j.1) hr) ag))) (fL (v:=.ref aS) rfl mS rfl) rfl))))),?_⟩
 refine ⟨_,rfl,a,_,dx,_,_,rfl,ha,T.cl _,T.nL _,iE _ _,_,rfl,b,_,dy,_,_,rfl,hb,T.cl _,T.nF _,gH _ _,_,_,rfl,rfl,_,rfl,?_⟩
 by_cases h1:k.2.2<j.2.1
 ·have e:cA k j=true:=by unfold cA;rw [decide_eq_true h1];rfl
  rw [e] at q
  refine aU (λ_=>?_) (λc=>absurd (τ h1) c)
  exact ⟨_,rfl,_,rfl,cI (q H (Same.refl H))⟩
 refine aU (λc=>absurd (Ξ c) h1) (λ_=>?_)
 refine ⟨_,rfl,b,_,dy,_,_,rfl,hb,T.cl _,T.nL _,iE _ _,_,rfl,a,_,dx,_,_,rfl,ha,T.cl _,T.nF _,gH _ _,_,_,rfl,rfl,?_⟩
 by_cases h2:j.2.2<k.2.1
 ·have e:cA k j=true:=by unfold cA;rw [decide_eq_true h2,Bool.or_true];rfl
  rw [e] at q
  refine ⟨_,rfl,_,rfl,aU (λ_=>q H (Same.refl H)) (λc=>absurd (τ h2) c)⟩
 have e:cA k j=rg k.1 j.1:=by unfold cA;rw [decide_eq_false h1,decide_eq_false h2];rfl
 rw [e] at q
 refine ⟨_,rfl,_,rfl,aU (λc=>absurd (Ξ c) h2) (λ_=>?_)⟩
 refine ⟨_,rfl,a,dx,_,rfl,ha,fe _ _ θ θ,_,rfl,?_⟩
 refine ⟨_,rfl,b,dy,_,rfl,hb,fe _ _ θ θ,_,rfl,χ,λt ht=>?_⟩
 refine ⟨(kdS k.1,kdS j.1),aS,_,([("read","read"),("read","mean"),("mean","read")]:List (Str×Str)),⟨t,_,_,rfl,.inl ad,rfl,rfl⟩,rfl,.inr tS.sq.sq,.cons ⟨a0,_,_,rfl,t0.sq,rfl,rfl⟩ (.cons ⟨a1,_,_,rfl,t1.sq,rfl,rfl⟩ (.cons ⟨a2,_,_,rfl,t2.sq,rfl,rfl⟩ .nil)),?_⟩
 have z:=q _ (al (o:=.tup [.str (kdS k.1),.str (kdS j.1)]) ht)
 rw [pY]
 exact z
theorem jf(F:Fun K "covers" "Lock.covers" eO f fd)(T:TxK K C)(R:TxR K mg)(GK:∀k,GM P w K mg base CX0 1 (C k) "kind" ["self"] (hI k)):FnOk P w K mg base CX0 2 f fd ["self","other"] (j6 C):=by
 refine F.ok sc_Lock_covers (λvs H Q E h=>?_) (λcdv A outer s H vs Q E hr h=>?_)
 ·obtain ⟨v,u,k,j,rfl,_⟩:=h
  rfl
 obtain ⟨v,u,k,j,rfl,⟨a,dx,rfl,ha⟩,⟨b,dy,rfl,hb⟩,q⟩:=h
 obtain ⟨aR,mR,tR⟩:=R.rk
 refine ⟨_,af (aH (i:=2) sc_Lock_covers.nd rfl (Or.inl rfl) (fM (ci rG (aw (pv 0) rfl) (aw (pv 1) rfl) (aA _)) (eM (ci rG (aw (pv 1) rfl) (aw (pv 0) rfl) (aA _)))))
  (aj (ax (fM (pv 2) (eM (ci AS (ay (rK (D:=ku)) (fL (v:=.ref aR) rfl mR rfl) (pm0 (GK k.1) (pv 0) (T.cl k.1) hr) (λ_ _=>rfl)) (ay (rK (D:=ku)) (fL (v:=.ref aR) rfl mR rfl) (pm0 (GK j.1) (pv 1) (T.cl j.1) hr) (λ_ _=>rfl)) (aA _)))))),?_⟩
 refine ⟨_,rfl,a,_,dx,_,_,rfl,ha,T.cl _,T.nF _,gH _ _,_,rfl,b,_,dy,_,_,rfl,hb,T.cl _,T.nF _,gH _ _,_,_,rfl,rfl,_,rfl,?_⟩
 by_cases h1:k.2.1<=j.2.1
 ·refine aU (λ_=>?_) (λc=>absurd (τ h1) c)
  refine ⟨_,rfl,b,_,dy,_,_,rfl,hb,T.cl _,T.nL _,iE _ _,_,rfl,a,_,dx,_,_,rfl,ha,T.cl _,T.nL _,iE _ _,_,_,rfl,rfl,?_⟩
  by_cases h2:j.2.2<=k.2.2
  ·have e:bx k j=decide (qa j.1<=qa k.1):=by unfold bx;rw [decide_eq_true h1,decide_eq_true h2];rfl
   rw [e] at q
   refine ⟨_,rfl,_,rfl,aU (λ_=>?_) (λc=>absurd (τ h2) c)⟩
   refine ⟨_,rfl,a,dx,_,rfl,ha,fe _ _ θ θ,_,rfl,aR,_,qa k.1,rfl,rfl,tR,rn k.1,rfl,?_⟩
   exact ⟨_,rfl,b,dy,_,rfl,hb,fe _ _ θ θ,_,rfl,aR,_,qa j.1,rfl,rfl,tR,rn j.1,rfl,_,_,rfl,rfl,q H (Same.refl H)⟩
  ·have e:bx k j=false:=by unfold bx;rw [decide_eq_false h2,Bool.and_false];rfl
   rw [e] at q
   exact ⟨_,rfl,_,rfl,aU (λc=>absurd (Ξ c) h2) (λ_=>q H (Same.refl H))⟩
 ·have e:bx k j=false:=by unfold bx;rw [decide_eq_false h1];rfl
  rw [e] at q
  refine aU (λc=>absurd (Ξ c) h1) (λ_=>?_)
  exact ⟨_,rfl,_,rfl,bj (q H (Same.refl H))⟩
theorem sI(F:Fun K "__init__" "Locks.__init__" fY f fd)(L:TxL K C CL):FnOk P w K mg base CX0 1 f fd ["self"] (ow CL):=by
 refine F.ok lF (λvs H Q E h=>?_) (λcdv A outer s H vs Q E hr h=>?_)
 ·obtain ⟨l,dx,rfl,_⟩:=h
  rfl
 obtain ⟨l,dx,rfl,hl,q⟩:=h
 refine ⟨_,aj (aM (pv 0) (cX ag) rfl),?_⟩
 refine ⟨χ,λp hp=>?_⟩
 have nl:l≠p:=ae hl hp
 refine ⟨_,rfl,l,CL,dx,[],rfl,(by rw [am nl];exact hl),L.cl,L.nP,(by show 0<1000;decide),?_⟩
 exact q p _ hp (by rw [am (Ne.symm nl),ad]) ad λb o n e=>by rw [am n,am (ae e hp)];exact e
theorem xA(F:Fun K "hinderer" "Locks.hinderer" cH f fd)(B:TxB mg)(T:TxK K C)(L:TxL K C CL)(GB:∀k,GM P w K mg base CX0 2 (C k) "beside" ["self","other"] (j8 C)) :
  FnOk P w K mg base CX0 3 f fd ["self","place"] (j5 C CL K):=by
 refine F.ok sc_Locks_hinderer (λvs H Q E h=>?_) (λcdv A outer s H vs Q E hr h=>?_)
 ·obtain ⟨l,p,ps,k,rfl,_⟩:=h
  rfl
 obtain ⟨l,p,ps,k,rfl,ls,hk,hz,q⟩:=h
 have nd:=sc_Locks_hinderer.nd
 obtain ⟨dx,vs,hl,hp,pr⟩:=id ls
 have hlen:=pr.len
 obtain ⟨uk,euk,ruk⟩:=pr.get1 (ξ hk)
 refine ⟨_,af (aH (i:=2) nd rfl (Or.inl rfl) (ay (r:=bQ K) aE (aw (pv 0) rfl) (pv 1) (λ_ _=>rfl)))
  (af (kz PassesOwn.never rfl (e8 rfl B.range (ac (pv 1) ag)) (fK (i:=3) nd rfl (Or.inl rfl))
   (af (aH (i:=4) nd rfl (Or.inl rfl) (ay (r:=bQ K) aE (aw (pv 0) rfl) (pv 3) (λ_ _=>rfl)))
   (aj (aI (PW.pt (gz (az (zw cPa (hun hr)) (ay (r:=aW K) aB (pv 4) ao (λ_ _=>rfl)) (ay (r:=aW K) aB (pv 2) ao (λ_ _=>rfl)) (aA _))
    (fJ (ja (cu (PE.ex λkd:Kd=>pm (GB kd) (ay (r:=aW K) aB (pv 4) ao (λ_ _=>rfl)) (T.cl kd) hr (ac (ay (r:=aW K) aB (pv 2) ao (λ_ _=>rfl)) ag))))))) (aj (ax (pv 3))) aC))))
  (aj (ax eN))),?_⟩
 refine ⟨_,rfl,l,CL,dx,_,_,rfl,hl,L.cl,L.nP,cy,_,rfl,p,_,_,_,rfl,rfl,SqL.of hp,bp euk,?_⟩
 refine ⟨_,rfl,(k:Int),rfl,(bnd ω).1,(bnd ω).2,?_⟩
 rw [Int.toNat_natCast]
 refine ml (n:=k) (λi σ H'=>Same H H'/\(∃x3 x4,σ=[some (.ref l),some (.int (k:Nat)),some uk,x3,x4])/\∀j,j<i->hb ps k j=false) ⟨Same.refl H,⟨none,none,rfl⟩,λj h=>absurd h (Nat.not_lt_zero _)⟩ ?_ ?_
 ·rintro i σ H1 hi ⟨s1,⟨x3,x4,rfl⟩,h0⟩
  rw [Int.zero_add]
  obtain ⟨dx1,vs1,hl1,hp1,pr1⟩:=ls.keep L.ne s1
  have hi':i<ps.length:=by omega
  obtain ⟨ui,eui,rui⟩:=pr1.get1 (ξ hi')
  have ruk1:=ruk.keep L.ne (eF s1)
  obtain ⟨a1,p1,l1,rfl,t1,c1,o1⟩:=rui
  obtain ⟨a2,p2,l2,rfl,t2,c2,o2⟩:=ruk1
  have hbe:hb ps k i=(!decide (ps[i].1=ps[k].1)&&!cA ps[i].2 ps[k].2):=by
   unfold hb
   rw [ξ hi',ξ hk]
  have next:∀H2,Same H1 H2->hb ps k i=false->(Same H H2/\(∃x3 x4,[some (.ref l),some (.int (k:Nat)),some (V.ref a2),some (.int (i:Nat)),some (V.ref a1)]=[some (.ref l),some (.int (k:Nat)),some (V.ref a2),x3,x4])/\∀j,j<i+1->hb ps k j=false):=λH2 s2 hf =>
   ⟨s1.trans s2,⟨_,_,rfl⟩,λj hj=>by
    by_cases e:j=i
    ·rw [e];exact hf
    ·exact h0 j ω⟩
  refine ⟨_,rfl,l,CL,dx1,_,_,rfl,hl1,L.cl,L.nP,cy,_,rfl,p,_,_,_,rfl,rfl,SqL.of hp1,bp eui,?_⟩
  refine ⟨_,rfl,a1,_,_,_,rfl,rfl,t1.sq,rfl,_,rfl,a2,_,_,_,rfl,rfl,t2.sq,rfl,ps[i].1,ps[k].1,c1,c2,_,rfl,?_⟩
  by_cases e:ps[i].1=ps[k].1
  ·rw [τ e]
   exact bj (bj (next H1 (Same.refl _) (by rw [hbe,τ e];rfl)))
  rw [Γ e]
  refine cI ?_
  obtain ⟨la,da,rfl,ha⟩:=id o1
  refine ⟨ps[i].2.1,_,rfl,a1,_,_,_,rfl,rfl,t1.sq,rfl,la,da,_,rfl,ha,fe _ _ θ θ,_,rfl,a2,_,_,_,rfl,rfl,t2.sq,rfl,_,_,ps[i].2,ps[k].2,rfl,o1,o2,λH2 s2=>⟨_,rfl,?_⟩⟩
  cases eb:cA ps[i].2 ps[k].2 with
  | true=>exact bj (next H2 s2 (by rw [hbe,eb,Bool.not_true,Bool.and_false]))
  | false =>
   refine cI ⟨_,rfl,?_⟩
   have z:=q H2 (s1.trans s2)
   rw [sZ hi (by rw [hbe,eb,Γ e];rfl) h0] at z
   exact z
 ·rintro σ H1 ⟨s1,⟨x3,x4,rfl⟩,h0⟩
  have z:=q H1 s1
  rw [mi h0] at z
  exact z
theorem u6(F:Fun K "waiting_pairs" "Locks.waiting_pairs" aV f fd)(B:TxB mg)(L:TxL K C CL)(GH:GM P w K mg base CX0 3 CL "hinderer" ["self","place"] (j5 C CL K)) :
  FnOk P w K mg base CX0 4 f fd ["self"] (mF C CL K dY):=by
 refine F.ok fz (λvs H Q E h=>?_) (λcdv A outer s H vs Q E hr h=>?_)
 ·obtain ⟨l,p,ps,rfl,_⟩:=h
  rfl
 obtain ⟨l,p,ps,rfl,ls,hz,q⟩:=h
 obtain ⟨dx,vs,hl,hp,pr⟩:=id ls
 have hlen:=pr.len
 refine ⟨_,aj (ax (iq eG rfl (e8 rfl B.range (ac (aF bu rfl B.len PySem.boot_len (ac (aw (pv 0) rfl) ag)) ag))
  (λ_ _ _ _=>rC (az nJ (pm GH (pv 1) L.cl hr (ac (pv 0) ag)) eN (aA _))) (λ_ _ _ _=>ay (r:=bQ K) aE (pfK K 1) (pv 0) (λ_ _=>rfl)))),?_⟩
 refine ⟨_,rfl,l,CL,dx,_,_,rfl,hl,L.cl,L.nP,cy,p,_,rfl,.inl (SqL.of hp),(vs.length:Int),rfl,(bnd ω).1,(bnd ω).2,?_⟩
 rw [Int.toNat_natCast]
 refine kQ (n:=vs.length) (λi ys H'=>Same H H'/\ys=jF vs ((List.range i).filter λk=>(gb ps k).isSome)) ⟨Same.refl H,rfl⟩ (small ω) ?_ ?_
 ·rintro i ys H1 hi ⟨s1,rfl⟩
  obtain ⟨dx1,vs1,hl1,hp1,pr1⟩:=ls.keep L.ne s1
  have ev:vs1=vs:=by
   have:=s1 p _ hp
   rw [hp1] at this
   cases this
   rfl
  subst ev
  have hi':i<ps.length:=by omega
  refine ⟨_,rfl,l,dx1,_,rfl,hl1,kL θ,_,rfl,l,p,ps,i,rfl,ls.keep L.ne s1,hi',hz,λH2 s2=>⟨rfl,_,rfl,?_⟩⟩
  cases e:gb ps i with
  | some j =>
   refine cI ⟨_,rfl,l,CL,dx1,_,_,rfl,s2 _ _ hl1,L.cl,L.nP,cy,_,rfl,p,_,_,_,rfl,rfl,SqL.of (s2 _ _ hp1),bp (ξ hi),s1.trans s2,?_⟩
   rw [ef,e]
   show _=jF vs1 (_++[i])
   rw [sD,ξ hi]
   rfl
  | none =>
   refine bj ⟨s1.trans s2,?_⟩
   rw [ef,e]
   show _=jF vs1 (_++[])
   rw [List.append_nil]
 ·rintro ys H1 ⟨s1,rfl⟩ x hx
  have s2:=s1.trans (al (o:=.lst (jF vs ((List.range vs.length).filter λk=>(gb ps k).isSome))) hx)
  refine q x _ _ s2 (s1.free hx) ad ?_
  have z:=l5 pr (iN ps)
  unfold iN at z
  rw [hlen] at z
  unfold dY iN
  rw [hlen]
  exact pp z λ_ _ g=>g.keep L.ne (eF s2)
theorem qi(F:Fun K "waiting" "Locks.waiting" bL f fd)(T:TxK K C)(L:TxL K C CL)(GP:GM P w K mg base CX0 4 CL "waiting_pairs" ["self"] (mF C CL K dY))(GT:∀k,GM P w K mg base CX0 2 (C k) "told" ["self"] (gs C)) :
  FnOk P w K mg base CX0 5 f fd ["self"] (mD C CL K dY):=by
 refine F.ok iX (λvs H Q E h=>?_) (λcdv A outer s H vs Q E hr h=>?_)
 ·obtain ⟨l,p,ps,rfl,_⟩:=h
  rfl
 obtain ⟨l,p,ps,rfl,ls,hz,q⟩:=h
 obtain ⟨dx,vs,hl,hp,pr⟩:=id ls
 refine ⟨_,aj (ax (iq hO rfl (gM (pm0 GP (pv 0) L.cl hr)) (λ_ _ _ _=>eg)
  (λ_ _ _ _=>aY (ac (ay (r:=aW K) aB (pv 0) ao (λ_ _=>rfl)) (ac (PE.ex λkd:Kd=>pm0 (GT kd) (ay (r:=aW K) aB (pv 0) ao (λ_ _=>rfl)) (T.cl kd) hr) ag))))),?_⟩
 refine ⟨_,rfl,l,dx,_,rfl,hl,kL θ,l,p,ps,rfl,ls,hz,λx H1 us s1 nx hx px=>⟨x,rfl,⟨_,SqL.of hx⟩,?_⟩⟩
 have hlen:=px.len
 have hb:us.length<=1000:=by
  rw [← hlen]
  exact Λ (se ps) hz
 refine jR (xs:=us) (λi ys H'=>Same H1 H'/\Paired (cPr.rp K H') ((dY ps).take i) ys) ⟨Same.refl _,.nil⟩ (small hb) (λi ys H2 _ g=>SqL.of (g.1 _ _ hx)) ?_ ?_
 ·rintro i u ys H2 hu ⟨s2,py⟩
  obtain ⟨y,ey,ry⟩:=px.get hu
  have ry2:=ry.keep L.ne (eF s2)
  obtain ⟨a,pu,lu,rfl,ta,cp,lo⟩:=ry2
  obtain ⟨la,da,rfl,ha⟩:=id lo
  refine lQ ⟨_,rfl,a,_,_,_,rfl,rfl,ta.sq,rfl,?_⟩
  refine ⟨y.2.1,_,rfl,a,_,_,_,rfl,rfl,ta.sq,rfl,la,da,_,rfl,ha,fe _ _ θ θ,_,y.2,rfl,lo,λt ht=>?_⟩
  refine ⟨χ,λt2 ht2=>?_⟩
  have s3:Same H2 (upd (upd H2 t (.tup [.str (kdS y.2.1),.int y.2.2.1,.int y.2.2.2])) t2 (.tup [pu,.ref t])):=(al ht).trans (al ht2)
  refine ⟨s2.trans s3,?_⟩
  have e:(dY ps).take (i+1)=(dY ps).take i++[y]:=by
   rw [List.take_succ,ey]
   rfl
  rw [e]
  refine (pp py λ_ _ g=>cPr.keep s3.ts g).app (.cons ?_ .nil)
  exact Ae (k:=y) ad (cPa.keep s3.ts cp) (wA (al ht2 _ _ ad))
 ·rintro ys H2 ⟨s2,py⟩ z hz2
  have s3:=al (o:=.lst ys) hz2
  rw [← hlen,List.take_length] at py
  exact q z _ _ (s1.trans (s2.trans s3)) ((s1.trans s2).free hz2) ad (pp py λ_ _ g=>cPr.keep s3.ts g)
theorem sG(F:Fun K "waiting_place" "Locks.waiting_place" bO f fd)(B:TxB mg)(L:TxL K C CL)(GH:GM P w K mg base CX0 3 CL "hinderer" ["self","place"] (j5 C CL K)) :
  FnOk P w K mg base CX0 4 f fd ["self","p"] (jY C CL K):=by
 refine F.ok sc_Locks_waiting_place (λvs H Q E h=>?_) (λcdv A outer s H vs Q E hr h=>?_)
 ·obtain ⟨l,p,ps,v,x,rfl,_⟩:=h
  rfl
 obtain ⟨l,p,ps,v,x,rfl,ls,hz,hx,q⟩:=h
 have nd:=sc_Locks_waiting_place.nd
 obtain ⟨dx,vs,hl,hp,pr⟩:=id ls
 have hlen:=pr.len
 refine ⟨_,af (kz PassesOwn.never rfl (e8 rfl B.range (ac (aF bu rfl B.len PySem.boot_len (ac (aw (pv 0) rfl) ag)) ag)) (fK (i:=2) nd rfl (Or.inl rfl))
   (aj (aI (PW.pt (gz (az (u5 cPa (hun hr)) (ay (r:=aW K) aB (ay (r:=bQ K) aE (aw (pv 0) rfl) (pv 2) (λ_ _=>rfl)) ao (λ_ _=>rfl)) (pv 1) (aA _))
    (fJ (az nJ (pm GH (pv 0) L.cl hr (ac (pv 2) ag)) eN (aA _))))) (aj (ax (pv 2))) aC)))
  (aj (ax eN)),?_⟩
 refine ⟨_,rfl,l,CL,dx,_,_,rfl,hl,L.cl,L.nP,cy,p,_,rfl,.inl (SqL.of hp),(vs.length:Int),rfl,(bnd ω).1,(bnd ω).2,?_⟩
 rw [Int.toNat_natCast]
 refine ml (n:=vs.length) (λi σ H'=>Same H H'/\(∃x2,σ=[some (.ref l),some v,x2])/\∀j,j<i->wpl ps x j=false) ⟨Same.refl H,⟨none,rfl⟩,λj h=>absurd h (Nat.not_lt_zero _)⟩ ?_ ?_
 ·rintro i σ H1 hi ⟨s1,⟨x2,rfl⟩,h0⟩
  rw [Int.zero_add]
  have ls1:=ls.keep L.ne s1
  obtain ⟨dx1,vs1,hl1,hp1,pr1⟩:=id ls1
  have hi':i<ps.length:=by omega
  obtain ⟨ui,eui,rui⟩:=pr1.get1 (ξ hi')
  obtain ⟨a1,p1,l1,rfl,t1,c1,o1⟩:=rui
  have we:wpl ps x i=(decide (ps[i].1=x)&&(gb ps i).isSome):=by
   unfold wpl
   rw [ξ hi']
  have next:∀H2,Same H1 H2->wpl ps x i=false->(Same H H2/\(∃x2,[some (.ref l),some v,some (.int (i:Nat))]=[some (.ref l),some v,x2])/\∀j,j<i+1->wpl ps x j=false):=λH2 s2 hf =>
   ⟨s1.trans s2,⟨_,rfl⟩,λj hj=>by
    by_cases e:j=i
    ·rw [e];exact hf
    ·exact h0 j ω⟩
  refine ⟨_,rfl,l,CL,dx1,_,_,rfl,hl1,L.cl,L.nP,cy,_,rfl,p,_,_,_,rfl,rfl,SqL.of hp1,bp eui,a1,_,_,_,rfl,rfl,t1.sq,rfl,_,rfl,ps[i].1,x,c1,cPa.keep s1.ts hx,_,rfl,?_⟩
  by_cases e:ps[i].1=x
  ·rw [τ e]
   refine cI ⟨_,rfl,l,dx1,_,rfl,hl1,kL θ,_,rfl,l,p,ps,i,rfl,ls1,hi',hz,λH2 s2=>⟨rfl,_,rfl,?_⟩⟩
   cases eh:gb ps i with
   | none=>exact bj (next H2 s2 (by rw [we,eh];simp))
   | some j =>
    refine cI ⟨_,rfl,?_⟩
    have z:=q H2 (s1.trans s2)
    rw [on hi' (by rw [we,eh,τ e];rfl) h0] at z
    exact z
  ·rw [Γ e]
   exact bj (bj (next H1 (Same.refl _) (by rw [we,Γ e];rfl)))
 ·rintro σ H1 ⟨s1,⟨x2,rfl⟩,h0⟩
  have z:=q H1 s1
  rw [hlen.symm] at h0
  rw [jp h0] at z
  exact z
theorem zD(F:Fun K "ask" "Locks.ask" cQ f fd)(B:TxB mg)(T:TxK K C)(L:TxL K C CL)(GC:∀k,GM P w K mg base CX0 2 (C k) "covers" ["self","other"] (j6 C))(GH:GM P w K mg base CX0 3 CL "hinderer" ["self","place"] (j5 C CL K))(GW:GM P w K mg base CX0 4 CL "waiting_place" ["self","p"] (jY C CL K)) :
  FnOk P w K mg base CX0 5 f fd ["self","p","lock"] (uw C CL K):=by
 refine F.ok sc_Locks_ask (λvs H Q E h=>?_) (λcdv A outer s H vs Q E hr h=>?_)
 ·obtain ⟨l,p,ps,v,x,u,k,rfl,_⟩:=h
  rfl
 obtain ⟨l,p,ps,v,x,u,k,rfl,ls,hz,hx,hu,hw,q⟩:=h
 have nd:=sc_Locks_ask.nd
 refine ⟨_,af (aI (az nJ (pm GW (pv 0) L.cl hr (ac (pv 1) ag)) eN (aA _)) aJ aC)
  (af (aI (cu (aF (pj rfl) rfl B.any PyProof.Rows.boot_any (ac (iq kq rfl (gM (aw (pv 0) rfl)) (λ_ _ _ _=>eg)
   (λ_ _ _ _=>fM (ci (xf K cPa (hun hr)) (ay (r:=aW K) aB (pv 0) ao (λ_ _=>rfl)) (pv 1) (aA _)) (eM (PE.ex λkd:Kd=>pm (GC kd) (ay (r:=aW K) aB (pv 0) ao (λ_ _=>rfl)) (T.cl kd) hr (ac (pv 2) ag))))) ag))) (aj (ax oO)) aC)
  (af (bw (gW PySem.F.plainAttrs_list PySem.F.slot_list_append PySem.F.type_list_append fb (aw (pv 0) rfl) (ac (aY (ac (pv 1) (ac (pv 2) ag))) ag)))
  (aj (ax (ci qh (pm GH (pv 0) L.cl hr (ac (aG kC (aF bu rfl B.len PySem.boot_len (ac (aw (pv 0) rfl) ag)) ao) ag)) eN (aA _)))))),?_⟩
 obtain ⟨dx,vs,hl,hp,pr⟩:=id ls
 have hlen:=pr.len
 refine ⟨_,rfl,l,dx,_,rfl,hl,kL θ,_,rfl,l,p,ps,v,x,rfl,ls,Nat.le_of_lt hz,hx,λH1 s1=>⟨rfl,_,rfl,?_⟩⟩
 rw [hw]
 refine bj ?_
 have ls1:=ls.keep L.ne s1
 obtain ⟨dx1,vs1,hl1,hp1,pr1⟩:=id ls1
 have ev:vs1=vs:=by
  have:=s1 p _ hp
  rw [hp1] at this
  cases this
  rfl
 subst ev
 refine ⟨_,rfl,l,CL,dx1,_,_,rfl,hl1,L.cl,L.nP,cy,p,rfl,⟨_,SqL.of hp1⟩,?_⟩
 refine jR (xs:=vs1) (λi ys H'=>Same H1 H'/\ys=((ps.take i).map λy=>decide (y.1=x)&&bx y.2 k).map V.bl) ⟨Same.refl _,rfl⟩ (small ω) (λi ys H2 _ g=>SqL.of (g.1 _ _ hp1)) ?_ ?_
 ·rintro i u0 ys H2 hu0 ⟨s2,rfl⟩
  obtain ⟨y,ey,ry⟩:=pr1.get hu0
  have ry2:=ry.keep L.ne (eF s2)
  obtain ⟨a,pu,lu,rfl,ta,cp,lo⟩:=ry2
  obtain ⟨la,da,rfl,ha⟩:=id lo
  have sx:=s1.trans s2
  have e:ps.take (i+1)=ps.take i++[y]:=by
   rw [List.take_succ,ey]
   rfl
  refine lQ ⟨_,rfl,a,_,_,_,rfl,rfl,ta.sq,rfl,_,rfl,y.1,x,cp,cPa.keep sx.ts hx,_,rfl,?_⟩
  by_cases ex:y.1=x
  ·rw [τ ex]
   refine cI ⟨y.2.1,_,rfl,a,_,_,_,rfl,rfl,ta.sq,rfl,la,da,_,rfl,ha,fe _ _ θ θ,_,rfl,_,_,y.2,k,rfl,lo,hu.keep L.ne (eF sx),λH3 s3=>⟨s2.trans s3,?_⟩⟩
   rw [e,List.map_append,List.map_append]
   simp only [List.map_cons,List.map_nil,decide_eq_true ex,Bool.true_and]
  ·rw [Γ ex]
   refine bj ⟨s2,?_⟩
   rw [e,List.map_append,List.map_append]
   simp only [List.map_cons,List.map_nil,decide_eq_false ex,Bool.false_and]
 ·rintro ys H2 ⟨s2,rfl⟩ y hy
  have el:vs1.length=ps.length:=hlen.symm
  rw [el,List.take_length]
  refine ⟨y,_,rfl,SqL.of ad,_,rfl,?_⟩
  have eany:((ps.map λy=>decide (y.1=x)&&bx y.2 k).any id)=gc ps x k:=by
   unfold gc
   rw [List.any_map]
   rfl
  rw [eany]
  have s3:=s1.trans (s2.trans (al (o:=.lst ((ps.map λy=>decide (y.1=x)&&bx y.2 k).map V.bl)) hy))
  generalize (upd H2 y (HO.lst ((ps.map λy=>decide (y.1=x)&&bx y.2 k).map V.bl)))=H3 at s3 ⊢
  cases ec:gc ps x k with
  | true =>
   refine cI ?_
   have z:=q H3
   unfold pB wC at z
   rw [ec,if_pos rfl] at z
   exact z (ls.keep L.ne s3) (Kp.of s3)
  | false =>
   refine bj ?_
   obtain ⟨dx3,vs3,hl3,hp3,pr3⟩:=ls.keep L.ne s3
   have hlen3:=pr3.len
   refine ⟨_,rfl,l,CL,dx3,_,_,rfl,hl3,L.cl,L.nP,cy,.inl ⟨rfl,_,SqL.of hp3⟩,_,rfl,_,rfl,χ,λt ht=>?_⟩
   have np:p≠t:=ae hp3 ht
   have nl:l≠p:=bU hl3 hp3 (by intro z;cases z)
   have hp4:(upd H3 t (.tup [v,u])) p=some (.lst vs3):=by rw [am np];exact hp3
   refine ⟨p,vs3,_,rfl,rfl,hp4,bM ω,?_⟩
   have kp4:Kp p H3 (upd (upd H3 t (.tup [v,u])) p (.lst (vs3++[.ref t]))):=(Kp.of (al ht)).trans cq
   have fs4:FSame CL H3 (upd (upd H3 t (.tup [v,u])) p (.lst (vs3++[.ref t]))):=kp4.fs hp3
   have hl4:=kp4 l _ nl hl3
   have ls4:LS C CL K (upd (upd H3 t (.tup [v,u])) p (.lst (vs3++[.ref t]))) l p (ps++[(x,k)]) :=
    ⟨dx3,_,hl4,ad,(pp pr3 λ_ _ g=>g.keep L.ne fs4).app (.cons ⟨t,v,u,rfl,.inl (by rw [am (Ne.symm np),ad]),cPa.keep ((eF s3).trans fs4).ts hx,hu.keep L.ne ((eF s3).trans fs4)⟩ .nil)⟩
   have kp5:=(Kp.of (p:=p) s3).trans kp4
   generalize (upd (upd H3 t (.tup [v,u])) p (HO.lst (vs3++[.ref t])))=H4 at hl4 ls4 kp5 ⊢
   obtain ⟨dx4,vs4,hl4',hp4',pr4⟩:=id ls4
   have hlen4:=pr4.len
   rw [List.length_append] at hlen4
   have hlen4':vs4.length=ps.length+1:=hlen4.symm
   refine ⟨_,rfl,l,dx4,_,rfl,hl4',kL θ,_,rfl,l,CL,dx4,_,_,rfl,hl4',L.cl,L.nP,cy,p,_,rfl,.inl (SqL.of hp4'),_,_,rfl,rfl,?_⟩
   rw [hlen4']
   have ei:((ps.length+1:Nat):Int)-1=(ps.length:Nat):=by omega
   refine ⟨l,p,_,ps.length,congrArg (λi=>[V.ref l,V.int i]) ei,ls4,by rw [List.length_append];exact Nat.lt_succ_self _,by rw [List.length_append];exact hz,λH5 s5=>⟨rfl,?_⟩⟩
   have z:=q H5
   unfold pB wC at z
   rw [ec,if_neg Bool.false_ne_true,Bool.false_or] at z
   have z2:=z (ls4.keep L.ne s5) (kp5.trans (Kp.of s5))
   have eo:(gb (ps++[(x,k)]) ps.length).isNone=decide (zt (gb (ps++[(x,k)]) ps.length)=.non):=by
    cases gb (ps++[(x,k)]) ps.length<;>rfl
   rw [eo] at z2
   exact z2
theorem sH(F:Fun K "__init__" "Stand.__init__" fV f fd)(B:TxB mg)(D:TxD K CS):FnOk P w K mg base CX0 1 f fd ["self","cells"] (qX CS K):=by
 refine F.ok lB (λvs H Q E h=>?_) (λcdv A outer s H vs Q E hr h=>?_)
 ·obtain ⟨l,dx,c,cs,rfl,_⟩:=h
  rfl
 obtain ⟨l,dx,c,cs,rfl,hl,hc,hz,q⟩:=h
 refine ⟨_,af (aM (pv 0) (bc dD rfl B.list PyProof.Rows.boot_list (ac (pv 1) ag)) rfl)
  (af (aM (pv 0) (cX ag) rfl) (af (aM (pv 0) dJ rfl) (af (aM (pv 0) dJ rfl) (af (aM (pv 0) dJ rfl) (af (aM (pv 0) uT rfl) (aj (aM (pv 0) dJ rfl))))))),?_⟩
 refine ⟨_,rfl,c,_,rfl,.inl (SqL.of hc),λcl n1=>?_⟩
 obtain ⟨a1,a2,a3,k1⟩:=ck (o:=.lst (cs.map V.int)) (fs':=aq "cells" (.ref cl) []) hl n1
 refine ⟨_,rfl,l,CS,dx,_,rfl,a1,D.cl,D.nc,(by show 0<1000;decide),?_⟩
 have z1:cl≠l:=bU a3 a2 (by intro z;cases z)
 generalize (upd (upd H cl (.lst (cs.map V.int))) l (.ins CS dx (aq "cells" (.ref cl) [])))=H1 at a2 a3 k1 ⊢
 refine ⟨χ,λbg n2=>?_⟩
 obtain ⟨b1,b2,b3,k2⟩:=ck (o:=.lst []) (fs':=aq "begins" (.ref bg) (aq "cells" (.ref cl) [])) a2 n2
 refine ⟨_,rfl,l,CS,dx,_,rfl,b1,D.cl,D.nb,(bb (n:=999) (by show 0<999;decide)),?_⟩
 have z2:bg≠l:=bU b3 b2 (by intro z;cases z)
 generalize (upd (upd H1 bg (.lst [])) l (.ins CS dx (aq "begins" (.ref bg) (aq "cells" (.ref cl) []))))=H2 at b2 b3 k2 ⊢
 refine λwk n3=>?_
 obtain ⟨c1,c2,c3,k3⟩:=ck (o:=.dT []) (fs':=aq "worked" (.ref wk) (aq "begins" (.ref bg) (aq "cells" (.ref cl) []))) b2 n3
 refine ⟨_,rfl,l,CS,dx,_,rfl,c1,D.cl,D.nw,(bb (n:=999) (bb (n:=998) (by show 0<998;decide))),?_⟩
 have z3:wk≠l:=bU c3 c2 (by intro z;cases z)
 generalize (upd (upd H2 wk (.dT [])) l (.ins CS dx (aq "worked" (.ref wk) (aq "begins" (.ref bg) (aq "cells" (.ref cl) [])))))=H3 at c2 c3 k3 ⊢
 refine λrd n4=>?_
 obtain ⟨d1,d2,d3,k4⟩:=ck (o:=.dT []) (fs':=aq "readies" (.ref rd) (aq "worked" (.ref wk) (aq "begins" (.ref bg) (aq "cells" (.ref cl) [])))) c2 n4
 refine ⟨_,rfl,l,CS,dx,_,rfl,d1,D.cl,D.nr,(bb (n:=999) (bb (n:=998) (bb (n:=997) (by show 0<997;decide)))),?_⟩
 have z4:rd≠l:=bU d3 d2 (by intro z;cases z)
 generalize (upd (upd H3 rd (.dT [])) l (.ins CS dx (aq "readies" (.ref rd) (aq "worked" (.ref wk) (aq "begins" (.ref bg) (aq "cells" (.ref cl) []))))))=H4 at d2 d3 k4 ⊢
 refine λen n5=>?_
 obtain ⟨e1,e2,e3,k5⟩:=ck (o:=.dT []) (fs':=aq "ends" (.ref en) (aq "readies" (.ref rd) (aq "worked" (.ref wk) (aq "begins" (.ref bg) (aq "cells" (.ref cl) []))))) d2 n5
 refine ⟨_,rfl,l,CS,dx,_,rfl,e1,D.cl,D.ne,(bb (n:=999) (bb (n:=998) (bb (n:=997) (bb (n:=996) (by show 0<996;decide))))),?_⟩
 have z5:en≠l:=bU e3 e2 (by intro z;cases z)
 generalize (upd (upd H4 en (.dT [])) l (.ins CS dx (aq "ends" (.ref en) (aq "readies" (.ref rd) (aq "worked" (.ref wk) (aq "begins" (.ref bg) (aq "cells" (.ref cl) [])))))))=H5 at e2 e3 k5 ⊢
 refine λwa n6=>?_
 obtain ⟨f1,f2,f3,k6⟩:=ck (o:=NDt wa []) (fs':=aq "walks" (.ref wa) (aq "ends" (.ref en) (aq "readies" (.ref rd) (aq "worked" (.ref wk) (aq "begins" (.ref bg) (aq "cells" (.ref cl) [])))))) e2 n6
 refine ⟨_,rfl,l,CS,dx,_,rfl,f1,D.cl,D.na,(bb (n:=999) (bb (n:=998) (bb (n:=997) (bb (n:=996) (bb (n:=995) (by show 0<995;decide)))))),?_⟩
 have z6:wa≠l:=bU f3 f2 (by intro z;cases z)
 generalize (upd (upd H5 wa (NDt wa [])) l (.ins CS dx (aq "walks" (.ref wa) (aq "ends" (.ref en) (aq "readies" (.ref rd) (aq "worked" (.ref wk) (aq "begins" (.ref bg) (aq "cells" (.ref cl) []))))))))=H6 at f2 f3 k6 ⊢
 refine λov n7=>?_
 obtain ⟨g1,g2,g3,k7⟩:=ck (o:=.dT []) (fs':=sf ⟨l,dx,cl,bg,wk,rd,en,wa,ov⟩) f2 n7
 refine ⟨_,rfl,l,CS,dx,_,rfl,g1,D.cl,D.no,(bb (n:=999) (bb (n:=998) (bb (n:=997) (bb (n:=996) (bb (n:=995) (bb (n:=994) (by show 0<994;decide))))))),?_⟩
 have z7:ov≠l:=bU g3 g2 (by intro z;cases z)
 have a4:=k2 _ _ z1 a3
 have a5:=k3 _ _ z1 a4
 have a6:=k4 _ _ z1 a5
 have a7:=k5 _ _ z1 a6
 have a8:=k6 _ _ z1 a7
 have a9:=k7 _ _ z1 a8
 have b4:=k3 _ _ z2 b3
 have b5:=k4 _ _ z2 b4
 have b6:=k5 _ _ z2 b5
 have b7:=k6 _ _ z2 b6
 have b8:=k7 _ _ z2 b7
 have c4:=k4 _ _ z3 c3
 have c5:=k5 _ _ z3 c4
 have c6:=k6 _ _ z3 c5
 have c7:=k7 _ _ z3 c6
 have d4:=k5 _ _ z4 d3
 have d5:=k6 _ _ z4 d4
 have d6:=k7 _ _ z4 d5
 have e4:=k6 _ _ z5 e3
 have e5:=k7 _ _ z5 e4
 have f4:=k7 _ _ z6 f3
 refine q ⟨l,dx,cl,bg,wk,rd,en,wa,ov⟩ _ rfl ⟨[],g2,?_,.nil,(λx hx=>nomatch hx),⟨(λx hx=>nomatch hx),List.nodup_nil⟩,?_⟩ ?_ ((((((k1.trans k2).trans k3).trans k4).trans k5).trans k6).trans k7)
 ·intro x hx
  simp only [cU,List.mem_cons,List.not_mem_nil,or_false] at hx
  rcases hx with e | e | e | e | e | e | e<;>subst e
  ·exact a9
  ·exact b8
  ·exact c7
  ·exact d6
  ·exact e5
  ·exact f4
  ·exact g3
 ·show [cl,bg,wk,rd,en,wa,ov].Nodup
  have y12:cl≠bg:=ae a3 n2
  have y13:cl≠wk:=ae a4 n3
  have y14:cl≠rd:=ae a5 n4
  have y15:cl≠en:=ae a6 n5
  have y16:cl≠wa:=ae a7 n6
  have y17:cl≠ov:=ae a8 n7
  have y23:bg≠wk:=ae b3 n3
  have y24:bg≠rd:=ae b4 n4
  have y25:bg≠en:=ae b5 n5
  have y26:bg≠wa:=ae b6 n6
  have y27:bg≠ov:=ae b7 n7
  have y34:wk≠rd:=ae c3 n4
  have y35:wk≠en:=ae c4 n5
  have y36:wk≠wa:=ae c5 n6
  have y37:wk≠ov:=ae c6 n7
  have y45:rd≠en:=ae d3 n5
  have y46:rd≠wa:=ae d4 n6
  have y47:rd≠ov:=ae d5 n7
  have y56:en≠wa:=ae e3 n6
  have y57:en≠ov:=ae e4 n7
  have y67:wa≠ov:=ae f3 n7
  simp [*]
 ·intro b hb
  have hb':b∈[cl,bg,wk,rd,en,wa,ov]:=hb
  simp only [List.mem_cons,List.not_mem_nil,or_false] at hb'
  rcases hb' with e | e | e | e | e | e | e<;>subst e
  ·exact n1
  ·exact cr k1 a2 n2
  ·exact cr (k1.trans k2) b2 n3
  ·exact cr ((k1.trans k2).trans k3) c2 n4
  ·exact cr (((k1.trans k2).trans k3).trans k4) d2 n5
  ·exact cr ((((k1.trans k2).trans k3).trans k4).trans k5) e2 n6
  ·exact cr (((((k1.trans k2).trans k3).trans k4).trans k5).trans k6) f2 n7
theorem zC(F:Fun K "changes_of" "Stand.changes_of" cm f fd)(D:TxD K CS):FnOk P w K mg base CX0 1 f fd ["self","row"] (uu CS K):=by
 refine F.ok gQ (λvs H Q E h=>?_) (λcdv A outer s H vs Q E hr h=>?_)
 ·obtain ⟨A,d,r,w,rfl,_⟩:=h
  rfl
 obtain ⟨S,d,r,w,rfl,⟨us0,st⟩,⟨pv0,us,hrow,⟨pa,rfl,hpa⟩,hm⟩,q⟩:=h
 refine ⟨_,af (aI (PW.pt (gz (az bH (ay (r:=aW K) aB (pv 1) ao (λ_ _=>rfl)) aD (aA _)) (gz (az bH (ay (r:=aW K) aB (pv 1) ao (λ_ _=>rfl)) aD (aA _)) (fJ (jb (qg (eT hr) (ay (r:=aW K) aB (pv 1) ao (λ_ _=>rfl)) (aw (pv 0) rfl)))))))
   (aj (ax (ay (r:=aW K) aB (iw (eT hr) (aw (pv 0) rfl) (ay (r:=aW K) aB (pv 1) ao (λ_ _=>rfl)) (λ_ _=>rfl)) ao (λ_ _=>rfl)))) aC)
  (af (aI (PW.pt (rB (az bH (ay (r:=aW K) aB (pv 1) ao (λ_ _=>rfl)) aD (aA _)) (nB (az bH (ay (r:=aW K) aB (pv 1) ao (λ_ _=>rfl)) aD (aA _))))) (aj (ax (ay (r:=aW K) aB (pv 1) ao (λ_ _=>rfl)))) aC)
  (aj (ax (aY ag)))),?_⟩
 refine ⟨_,rfl,r,_,_,_,rfl,rfl,SqT.of hrow,at0,rfl,_,rfl,?_⟩
 by_cases e1:w.wd="end"
 ·cases w with
  | fin p o =>
   obtain ⟨a,rfl⟩:=hm
   refine aU (λ_=>?_) (λc=>absurd (τ rfl) c)
   refine ⟨_,rfl,r,_,_,_,rfl,rfl,SqT.of hrow,rfl,rfl,_,rfl,?_⟩
   by_cases eo:o="done"
   ·refine aU (λ_=>?_) (λc=>absurd (τ (congrArg V.str eo)) c)
    refine ⟨_,rfl,r,_,_,_,rfl,rfl,SqT.of hrow,rfl,_,rfl,S.l,CS,S.dx,_,_,rfl,st.ins,D.cl,D.nr,rh S,S.rd,_,rfl,DGet.t (k:=pk p) st.rdd hpa,_,rfl,?_⟩
    rw [pI]
    cases er:oH d.ready p with
    | some x =>
     refine cI ?_
     obtain ⟨x1,x2,x3⟩:=x
     have hmem:(x1,x2,x3)∈d.ready:=List.mem_of_find?_eq_some er
     obtain ⟨pv',us',hrow',_,⟨a',b',d',rfl,hch⟩⟩:=st.rd _ hmem
     refine ⟨_,rfl,S.l,CS,S.dx,_,_,rfl,st.ins,D.cl,D.nr,rh S,_,rfl,r,_,_,_,rfl,rfl,SqT.of hrow,rfl,S.rd,.ref x2,rfl,?_,x2,_,_,_,rfl,rfl,SqT.of hrow',rfl,?_⟩
     ·have g:=DGet.t (k:=pk p) st.rdd hpa
      rw [pI,er] at g
      exact g
     ·refine q _ H (Same.refl H) ?_
      have e:d.chs (.fin p o)=x3:=by
       show (if o="done" then ((oH d.ready p).map λx=>x.2.2).getD [] else [])=x3
       rw [if_pos eo,er]
       rfl
      rw [e]
      exact hch
    | none =>
     refine bj ?_
     refine ⟨_,rfl,r,_,_,_,rfl,rfl,SqT.of hrow,rfl,rfl,_,rfl,aU (λc=>absurd (V.str.inj (of_decide_eq_true c)) (by simp only [Rw.wd];decide +kernel)) (λ_=>?_)⟩
     refine ⟨_,rfl,r,_,_,_,rfl,rfl,SqT.of hrow,rfl,rfl,_,rfl,aU (λc=>absurd (V.str.inj (of_decide_eq_true c)) (by simp only [Rw.wd];decide +kernel)) (λ_=>?_)⟩
     refine ⟨χ,λt ht=>q _ _ (al ht) ?_⟩
     have e:d.chs (.fin p o)=[]:=by
      show (if o="done" then ((oH d.ready p).map λx=>x.2.2).getD [] else [])=[]
      rw [if_pos eo,er]
      rfl
     rw [e]
     exact ⟨t,[],rfl,.inl ad,.nil⟩
   ·refine aU (λc=>absurd (V.str.inj (Ξ c)) eo) (λ_=>bj ?_)
    refine ⟨_,rfl,r,_,_,_,rfl,rfl,SqT.of hrow,rfl,rfl,_,rfl,aU (λc=>absurd (V.str.inj (of_decide_eq_true c)) (by simp only [Rw.wd];decide +kernel)) (λ_=>?_)⟩
    refine ⟨_,rfl,r,_,_,_,rfl,rfl,SqT.of hrow,rfl,rfl,_,rfl,aU (λc=>absurd (V.str.inj (of_decide_eq_true c)) (by simp only [Rw.wd];decide +kernel)) (λ_=>?_)⟩
    refine ⟨χ,λt ht=>q _ _ (al ht) ?_⟩
    have e:d.chs (.fin p o)=[]:=by
     show (if o="done" then ((oH d.ready p).map λx=>x.2.2).getD [] else [])=[]
     rw [if_neg eo]
    rw [e]
    exact ⟨t,[],rfl,.inl ad,.nil⟩
  | _=>exact absurd e1 (by simp only [Rw.wd];decide +kernel)
 refine aU (λc=>absurd (V.str.inj (Ξ c)) e1) (λ_=>bj ?_)
 refine ⟨_,rfl,r,_,_,_,rfl,rfl,SqT.of hrow,at0,rfl,_,rfl,?_⟩
 by_cases e2:w.wd="walked"
 ·cases w with
  | walk p i ch =>
   obtain ⟨c,h,rfl,hch⟩:=hm
   refine aU (λ_=>?_) (λc=>absurd (τ rfl) c)
   refine cI ⟨_,rfl,r,_,_,_,rfl,rfl,SqT.of hrow,rfl,q _ H (Same.refl H) hch⟩
  | _=>exact absurd e2 (by simp only [Rw.wd];decide +kernel)
 refine aU (λc=>absurd (V.str.inj (Ξ c)) e2) (λ_=>?_)
 refine ⟨_,rfl,r,_,_,_,rfl,rfl,SqT.of hrow,at0,rfl,_,rfl,?_⟩
 by_cases e3:w.wd="undone"
 ·cases w with
  | undo p i ch =>
   obtain ⟨c,rfl,hch⟩:=hm
   refine aU (λ_=>?_) (λc=>absurd (τ rfl) c)
   exact ⟨_,rfl,r,_,_,_,rfl,rfl,SqT.of hrow,rfl,q _ H (Same.refl H) hch⟩
  | _=>exact absurd e3 (by simp only [Rw.wd];decide +kernel)
 refine aU (λc=>absurd (V.str.inj (Ξ c)) e3) (λ_=>?_)
 refine ⟨χ,λt ht=>q _ _ (al ht) ?_⟩
 have e:d.chs w=[]:=by
  cases w with
  | fin p o=>exact absurd rfl e1
  | walk p i ch=>exact absurd rfl e2
  | undo p i ch=>exact absurd rfl e3
  | _=>rfl
 rw [e]
 exact ⟨t,[],rfl,.inl ad,.nil⟩
theorem xw(F:Fun K "keep" "Stand.keep" fU f fd)(D:TxD K CS)(GC:GM P w K mg base CX0 1 CS "changes_of" ["self","row"] (uu CS K)):FnOk P w K mg base CX0 2 f fd ["self","row"] (pT CS K):=by
 refine F.ok sc_Stand_keep (λvs H Q E h=>?_) (λcdv A outer s H vs Q E hr h=>?_)
 ·obtain ⟨A,d,r,w,rfl,_⟩:=h
  rfl
 obtain ⟨S,d,r,w,rfl,⟨us0,st⟩,rw0,sm,hcl,⟨fit1,fit2⟩,q⟩:=h
 have nd:=sc_Stand_keep.nd
 refine ⟨_,af (kz PassesOwn.never rfl (zm (pm GC (pv 0) D.cl hr (ac (pv 1) ag))) (fK (i:=2) nd rfl (Or.inl rfl)) (aj (qd (ay (r:=aW K) aB (pv 2) ao (λ_ _=>rfl)) (qe (aw (pv 0) rfl) (ay (r:=aW K) aB (pv 2) ao (λ_ _=>rfl)) kg))))
  (af (aH (i:=3) nd rfl (Or.inl rfl) (ay (r:=aW K) aB (pv 1) ao (λ_ _=>rfl)))
  (aj (aI (az bH (ay (r:=aW K) aB (pv 1) ao (λ_ _=>rfl)) aD (aA _)) (aj (bw (gW PySem.F.plainAttrs_list PySem.F.slot_list_append PySem.F.type_list_append fb (aw (pv 0) rfl) (ac (aY (ac (pv 3) (ac (ay (r:=aW K) aB (pv 1) ao (λ_ _=>rfl)) ag))) ag))))
  (aj (aI (az bH (ay (r:=aW K) aB (pv 1) ao (λ_ _=>rfl)) aD (aA _)) (aj (il (eT hr) (aw (pv 0) rfl) (pv 3) oO rfl))
  (aj (aI (az bH (ay (r:=aW K) aB (pv 1) ao (λ_ _=>rfl)) aD (aA _)) (aj (il (eT hr) (aw (pv 0) rfl) (pv 3) (pv 1) rfl))
  (aj (aI (az bH (ay (r:=aW K) aB (pv 1) ao (λ_ _=>rfl)) aD (aA _)) (aj (bw (rD (eT hr) (aw (pv 0) rfl) (pv 3) (ay (r:=aW K) aB (pv 1) ao (λ_ _=>rfl)) ⟨rfl,rfl,rfl,rfl⟩)))
  (aj (aI (az bH (ay (r:=aW K) aB (pv 1) ao (λ_ _=>rfl)) aD (aA _)) (aj (il (eT hr) (aw (pv 0) rfl) (pv 3) oO rfl))
  (aj (wZ (Bv hr) (aw (pv 0) rfl) (aY (ac (pv 3) (ac (ay (r:=aW K) aB (pv 1) ao (λ_ _=>rfl)) ag))) (pv 1) rfl))))))))))))),?_⟩
 refine ⟨_,rfl,S.l,S.dx,_,rfl,st.ins,jv θ,_,rfl,S,d,r,w,rfl,⟨us0,st⟩,rw0,λv H1 s1 hch=>?_⟩
 obtain ⟨dc,cus,rfl,hdc,pch⟩:=hch
 refine ⟨dc,rfl,⟨_,hdc.sq⟩,?_⟩
 have st1:=st.keep s1
 have hlen:=pch.len
 refine xW (xs:=cus) (λi σ H'=>∃x2 x3,σ=[some (.ref S.l),some (.ref r),x2,x3]/\StU CS K H' S {d with cells:=apply d.cells ((d.chs w).take i)} us0/\KpS S H1 H') ⟨none,none,rfl,st1,KpS.of (Same.refl _)⟩
  (λi σ H' _ z=>by obtain ⟨_,_,_,_,k⟩:=z;exact (hdc.keep (st1.ts k)).sq) ?_ ?_
 ·rintro i u σ H2 hu ⟨x2,x3,rfl,st2,k2⟩
  obtain ⟨c,ec,rc⟩:=pch.get hu
  have t2:=st1.ts k2
  obtain ⟨ca,u1,u2,rfl,hca,e1,e2⟩:=cPa.keep t2 rc
  have e1':u1=.int c.1:=e1
  have e2':u2=.int c.2:=e2
  subst e1' e2'
  obtain ⟨f1,f2⟩:=fit1 c (List.mem_of_getElem? ec)
  have hc2:((apply d.cells ((d.chs w).take i)).map V.int).length=d.cells.length:=by rw [List.length_map,tG]
  refine ⟨_,rfl,ca,_,_,_,rfl,rfl,hca.sq,rfl,_,rfl,S.l,CS,S.dx,_,_,rfl,st2.ins,D.cl,D.nc,uA S,_,rfl,ca,_,_,_,rfl,rfl,hca.sq,rfl,S.cl,_,c.1,c.1.toNat,rfl,rfl,st2.cl,?_,?_⟩
  ·rw [hc2]
   exact zT f1 f2
  ·have e:(d.chs w).take (i+1)=(d.chs w).take i++[c]:=by rw [List.take_succ,ec];rfl
   have e3:((apply d.cells ((d.chs w).take i)).map V.int).set c.1.toNat (.int c.2)=(apply d.cells ((d.chs w).take (i+1))).map V.int:=by rw [e,qK,List.map_set]
   rw [e3]
   obtain ⟨st3,k3⟩:=st2.put 0 (a:=S.cl) (o':=.lst ((apply d.cells ((d.chs w).take (i+1))).map V.int)) (d':={d with cells:=apply d.cells ((d.chs w).take (i+1))}) rfl rfl st2.bg st2.rd st2.wa
   exact ⟨_,_,rfl,st3,k2.trans k3⟩
 ·rintro σ H2 ⟨x2,x3,rfl,st2,k2⟩
  rw [← hlen,List.take_length] at st2
  have k02:KpS S H H2:=(KpS.of s1).trans k2
  have rw2:=rw0.keep (st.ts k02)
  obtain ⟨pv0,us,hrow,⟨pa,rfl,hpa⟩,hm⟩:=rw2
  refine ⟨_,rfl,r,_,_,_,rfl,rfl,SqT.of hrow,at1,?_⟩
  refine ⟨_,rfl,r,_,_,_,rfl,rfl,SqT.of hrow,at0,rfl,_,rfl,?_⟩
  by_cases e1:w.wd="begin"
  ·cases w with
   | beg p t =>
    have hm':us=[.str t]:=hm
    subst hm'
    refine aU (λ_=>?_) (λc=>absurd (τ rfl) c)
    refine ⟨_,rfl,S.l,CS,S.dx,_,_,rfl,st2.ins,D.cl,D.nb,AI S,.inl ⟨rfl,_,SqL.of st2.bgl⟩,_,rfl,_,rfl,r,_,_,_,rfl,rfl,SqT.of hrow,rfl,χ,λtt ht=>?_⟩
    have s3:=al (o:=.tup [.ref pa,.str t]) ht
    have st3:=st2.keep s3
    refine ⟨S.bg,_,_,rfl,rfl,st3.bgl,bM (by rw [← st3.bg.len];have:=sm.bg;show d.begins.length<=1000;omega),?_⟩
    obtain ⟨st4,k4⟩:=st3.put 1 (a:=S.bg) (o':=.lst (us0++[.ref tt])) (us':=us0++[.ref tt]) (d':=d.keep r r (.beg p t)) rfl rfl (st3.bg.app (.cons ⟨tt,_,rfl,ad,s3 _ _ hpa⟩ .nil)) st3.rd st3.wa
    exact q r _ ⟨_,st4⟩ ((k02.trans (KpS.of s3)).trans k4)
   | _=>exact absurd e1 (by simp only [Rw.wd];decide +kernel)
  refine aU (λc=>absurd (V.str.inj (Ξ c)) e1) (λ_=>?_)
  refine ⟨_,rfl,r,_,_,_,rfl,rfl,SqT.of hrow,at0,rfl,_,rfl,?_⟩
  by_cases e2:w.wd="work"
  ·cases w with
   | work p =>
    refine aU (λ_=>?_) (λc=>absurd (τ rfl) c)
    refine ⟨_,rfl,S.l,CS,S.dx,_,_,rfl,st2.ins,D.cl,D.nw,AF S,_,rfl,S.wk,_,rfl,DPut.t (k:=pk p) st2.wk hpa (bM (by unfold dW;rw [List.length_map];have:=sm.wk;show d.worked.length<=1000;omega)),?_⟩
    rw [show ({d with cells:=apply d.cells (d.chs (Rw.work p))}:Sd).worked=d.worked from rfl,uL]
    obtain ⟨st4,k4⟩:=st2.put 2 (a:=S.wk) (o':=.dT (dW (pG d.worked p))) (d':=d.keep r r (.work p)) rfl rfl st2.bg st2.rd st2.wa
    exact q r _ ⟨_,st4⟩ (k02.trans k4)
   | _=>exact absurd e2 (by simp only [Rw.wd];decide +kernel)
  refine aU (λc=>absurd (V.str.inj (Ξ c)) e2) (λ_=>?_)
  refine ⟨_,rfl,r,_,_,_,rfl,rfl,SqT.of hrow,at0,rfl,_,rfl,?_⟩
  by_cases e3:w.wd="ready"
  ·cases w with
   | ready p ch =>
    refine aU (λ_=>?_) (λc=>absurd (τ rfl) c)
    refine ⟨_,rfl,_,rfl,S.l,CS,S.dx,_,_,rfl,st2.ins,D.cl,D.nr,rh S,_,rfl,S.rd,_,rfl,DPut.t (k:=pk p) st2.rdd hpa (bM (by unfold dR;rw [List.length_map];have:=sm.rd;show d.ready.length<=1000;omega)),?_⟩
    rw [show ({d with cells:=apply d.cells (d.chs (Rw.ready p ch))}:Sd).ready=d.ready from rfl,zi _ _ _ ch (fit2 p ch rfl)]
    obtain ⟨st4,k4⟩:=st2.put 3 (a:=S.rd) (o':=.dT (dR (d.ready++[(p,r,ch)]))) (d':=d.keep r r (.ready p ch)) rfl rfl st2.bg (λx hx=>by
     rcases List.mem_append.mp hx with hx | hx
     ·exact st2.rd x hx
     ·have:=List.mem_singleton.mp hx
      subst this
      exact ⟨_,us,hrow,⟨pa,rfl,hpa⟩,hm⟩) st2.wa
    exact q r _ ⟨_,st4⟩ (k02.trans k4)
   | _=>exact absurd e3 (by simp only [Rw.wd];decide +kernel)
  refine aU (λc=>absurd (V.str.inj (Ξ c)) e3) (λ_=>?_)
  refine ⟨_,rfl,r,_,_,_,rfl,rfl,SqT.of hrow,at0,rfl,_,rfl,?_⟩
  by_cases e4:w.wd="end"
  ·cases w with
   | fin p o =>
    obtain ⟨a,rfl⟩:=hm
    refine aU (λ_=>?_) (λc=>absurd (τ rfl) c)
    refine ⟨_,rfl,S.l,CS,S.dx,_,_,rfl,st2.ins,D.cl,D.ne,yt S,S.en,rfl,.inr ⟨_,.inl st2.en⟩,_,rfl,_,rfl,r,_,_,_,rfl,rfl,SqT.of hrow,rfl,_,pk p,pa,st2.en,rfl,hpa,(bM (by unfold dE;rw [List.length_map];have:=sm.en;show d.ends.length<=1000;omega)),?_,?_⟩
    ·intro v hv
     have hv':(iH d.ends p).map V.str=some v:=by rw [← tV];exact hv
     have es:(iH d.ends p).isSome=true:=by
      cases z:iH d.ends p with
      | none=>rw [z] at hv';cases hv'
      | some y=>rfl
     refine q r _ ⟨us0,?_⟩ k02
     have:d.keep r r (.fin p o)={d with cells:=apply d.cells (d.chs (.fin p o))}:=by
      show ({d with cells:=apply d.cells (d.chs (.fin p o)),ends:=oz d.ends p o}:Sd)=_
      unfold oz
      rw [if_pos es]
     rw [this]
     exact st2
    ·intro hv
     have hv':(iH d.ends p).map V.str=none:=by rw [← tV];exact hv
     have es:¬(iH d.ends p).isSome=true:=by
      cases z:iH d.ends p with
      | none=>decide
      | some y=>rw [z] at hv';cases hv'
     have e:dE d.ends++[(pk p,V.str o)]=dE (oz d.ends p o):=by
      unfold oz dE
      rw [if_neg es,List.map_append]
      rfl
     rw [show ({d with cells:=apply d.cells (d.chs (Rw.fin p o))}:Sd).ends=d.ends from rfl,e]
     obtain ⟨st4,k4⟩:=st2.put 4 (a:=S.en) (o':=.dT (dE (oz d.ends p o))) (d':=d.keep r r (.fin p o)) rfl rfl st2.bg st2.rd st2.wa
     exact q r _ ⟨_,st4⟩ (k02.trans k4)
   | _=>exact absurd e4 (by simp only [Rw.wd];decide +kernel)
  refine aU (λc=>absurd (V.str.inj (Ξ c)) e4) (λ_=>?_)
  refine ⟨_,rfl,r,_,_,_,rfl,rfl,SqT.of hrow,at0,rfl,_,rfl,?_⟩
  by_cases e5:w.wd="over"
  ·cases w with
   | over p =>
    refine aU (λ_=>?_) (λc=>absurd (τ rfl) c)
    refine ⟨_,rfl,S.l,CS,S.dx,_,_,rfl,st2.ins,D.cl,D.no,AH S,_,rfl,S.ov,_,rfl,DPut.t (k:=pk p) st2.ov hpa (bM (by unfold dW;rw [List.length_map];have:=sm.ov;show d.overs.length<=1000;omega)),?_⟩
    rw [show ({d with cells:=apply d.cells (d.chs (Rw.over p))}:Sd).overs=d.overs from rfl,uL]
    obtain ⟨st4,k4⟩:=st2.put 6 (a:=S.ov) (o':=.dT (dW (pG d.overs p))) (d':=d.keep r r (.over p)) rfl rfl st2.bg st2.rd st2.wa
    exact q r _ ⟨_,st4⟩ (k02.trans k4)
   | _=>exact absurd e5 (by simp only [Rw.wd];decide +kernel)
  refine aU (λc=>absurd (V.str.inj (Ξ c)) e5) (λ_=>?_)
  obtain ⟨i,rest,rfl,ew⟩:∃i rest,us=.int i::rest/\∀b,d.keep r b w={d with cells:=apply d.cells (d.chs w),walks:=iB d.walks (w.nm,i) b r}:=by
   cases w with
   | walk p i ch=>obtain ⟨c,h,rfl,_⟩:=hm;exact ⟨i,_,rfl,λ_=>rfl⟩
   | undo p i ch=>obtain ⟨c,rfl,_⟩:=hm;exact ⟨i,_,rfl,λ_=>rfl⟩
   | void p i=>exact ⟨i,[],hm,λ_=>rfl⟩
   | beg p t=>exact absurd rfl e1
   | work p=>exact absurd rfl e2
   | ready p ch=>exact absurd rfl e3
   | fin p o=>exact absurd rfl e4
   | over p=>exact absurd rfl e5
  refine ⟨_,rfl,_,rfl,S.l,CS,S.dx,_,_,rfl,st2.ins,D.cl,D.na,AG S,_,rfl,_,rfl,r,_,_,_,rfl,rfl,SqT.of hrow,at2,χ,λtt ht=>?_⟩
  have s3:=al (o:=.tup [.ref pa,.int i]) ht
  have st3:=st2.keep s3
  have nk:NKeyAt (upd H2 tt (.tup [.ref pa,.int i])) (w.nm,i) tt:=⟨pa,ad,s3 _ _ hpa⟩
  refine ⟨S.wa,tt,r,_,(w.nm,i),rfl,rfl,rfl,st3.wad,st3.wa,nk,(by have:=sm.wa;exact small (by show d.walks.length<=1000;omega)),?_⟩
  obtain ⟨st4,k4⟩:=st3.put 5 (a:=S.wa) (o':=NDt S.wa (iB d.walks (w.nm,i) tt r)) (d':={d with cells:=apply d.cells (d.chs w),walks:=iB d.walks (w.nm,i) tt r}) rfl rfl st3.bg st3.rd (st3.wa.put r nk)
  refine q tt _ ⟨us0,?_⟩ ((k02.trans (KpS.of s3)).trans k4)
  rw [ew tt]
  exact st4
theorem sL(F:Fun K "cell_at" "Stand.cell_at" db f fd)(D:TxD K CS):FnOk P w K mg base CX0 1 f fd ["self","cell"] (j7 CS K):=by
 refine F.ok iT (λvs H Q E h=>?_) (λcdv A outer s H vs Q E hr h=>?_)
 ·obtain ⟨A,d,j,c,rfl,_⟩:=h
  rfl
 obtain ⟨S,d,j,c,rfl,⟨us0,st⟩,hj,q⟩:=h
 refine ⟨_,aj (ax (ay (r:=bQ K) aE (aw (pv 0) rfl) (pv 1) (λ_ _=>rfl))),?_⟩
 exact ⟨_,rfl,S.l,CS,S.dx,_,_,rfl,st.ins,D.cl,D.nc,uA S,_,rfl,S.cl,_,_,.int c,rfl,rfl,SqL.of st.cl,bp (by rw [List.getElem?_map,hj];rfl),q⟩
theorem vE(F:Fun K "cells_told" "Stand.cells_told" cn f fd)(B:TxB mg)(D:TxD K CS):FnOk P w K mg base CX0 1 f fd ["self"] (mO CS K):=by
 refine F.ok gR (λvs H Q E h=>?_) (λcdv A outer s H vs Q E hr h=>?_)
 ·obtain ⟨A,d,rfl,_⟩:=h
  rfl
 obtain ⟨S,d,rfl,⟨us0,st⟩,q⟩:=h
 refine ⟨_,aj (ax (bc dD rfl B.list PyProof.Rows.boot_list (ac (aw (pv 0) rfl) ag))),?_⟩
 exact ⟨_,rfl,S.l,CS,S.dx,_,_,rfl,st.ins,D.cl,D.nc,uA S,S.cl,_,rfl,.inl (SqL.of st.cl),λp hp=>q p _ (al hp) hp ad⟩
theorem xp(F:Fun K "news" "Stand.news" fT f fd)(B:TxB mg)(D:TxD K CS):FnOk P w K mg base CX0 1 f fd ["self"] (mH CS K):=by
 refine F.ok lA (λvs H Q E h=>?_) (λcdv A outer s H vs Q E hr h=>?_)
 ·obtain ⟨A,d,rfl,_⟩:=h
  rfl
 obtain ⟨S,d,rfl,⟨us0,st⟩,h64,q⟩:=h
 refine ⟨_,aj (ax (bc lM rfl B.tuple PyProof.Rows.boot_tuple (ac (aF (og rfl (hun (c:=3) hr)) rfl B.sorted PyProof.Rows.boot_sorted (ac (uS (aw (pv 0) rfl)) ag)) ag))),?_⟩
 refine ⟨_,rfl,S.l,CS,S.dx,_,_,rfl,st.ins,D.cl,D.ne,yt S,S.en,_,rfl,st.en,λv hv=>?_⟩
 have s1:=al (o:=Vw v S.en) hv
 refine ⟨v,S.en,d.ends,rfl,ad,s1 _ _ st.en,h64,λH' l ys s2 hl hp=>?_⟩
 have s3:=al (o:=.lst ys) hl
 refine ⟨l,ys,rfl,.inl ⟨SqL.of ad,λt ht=>?_⟩⟩
 have s4:=al (o:=.tup ys) ht
 exact q _ _ (s1.trans (s2.trans (s3.trans s4))) ⟨t,ys,rfl,ad,Paired.mapP hp λ_ _ z=>z.keep s4.ts⟩
theorem sF{X:Cx}{o i:Expr}{pos:Pos}{td ty:TE}(P:Program)(w:World)(hu:X.A.units+1<cLine)(ho:PE X o td)(hi:PE X i ty)(hs:yi i)(hP:X.prog=P:=by rfl)(hw:X.w=w:=by rfl):PE X (.Subscript o i pos) (ug P w td ty):=by
 subst hP hw
 exact uU hu ho hi hs
theorem ss{H H1:Hp}{D:Addr}{o:Obj}{kvs:List (List Key×V)}{p:Addr}{o2:HO}(hD:H D=some (.dT kvs))(s1:Same (upd H D (Fz D o)) H1)(hp:H1 p=none) :
  Same H (upd (upd H1 p o2) D (.dT kvs))/\(upd (upd H1 p o2) D (.dT kvs)) p=some o2/\(upd H1 p o2) D=some (Fz D o)/\H p=none:=by
 have e1:H1 D=some (Fz D o):=s1 _ _ ad
 have npD:p≠D:=Ne.symm (ae e1 hp)
 refine ⟨λb ob e=>?_,by rw [am npD];exact ad,by rw [am (Ne.symm npD)];exact e1,?_⟩
 ·by_cases hb:b=D
  ·subst hb
   rw [ad,← e,hD]
  ·rw [am hb]
   have e2:H1 b=some ob:=s1 _ _ (by rw [am hb];exact e)
   rw [am (ae e2 hp)]
   exact e2
 ·cases e:H p with
  | none=>rfl
  | some u =>
   have:=s1 p u (by rw [am npD];exact e)
   rw [hp] at this
   cases this
def jN(CS:Addr)(K:Frag):Sp:=λvs H Q _=>∃S d,vs=[.ref (S:Ad).l]/\St CS K H S d/\d.ready=[]/\∀l H',Same H H'->H l=none->H' l=some (.lst [])->Q (.ref l) H'
theorem vG(F:Fun K "bound" "Stand.bound" cg f fd)(D:TxD K CS):FnOk P w K mg base CX0 1 f fd ["self"] (jN CS K):=by
 refine F.ok kj (λvs H Q E h=>?_) (λcdv A outer s H vs Q E hr h=>?_)
 ·obtain ⟨S,d,rfl,_⟩:=h
  rfl
 obtain ⟨S,d,rfl,⟨us0,st⟩,dr,q⟩:=h
 refine ⟨_,aj (ax (w6 (iq i7 rfl (w5 (aw (pv 0) rfl)) (λ_ _ _ _=>rC (jb (jd (eT hr) (pv 0) (pfK K 1)))) (λ_ _ _ _=>sF P w (eT hr) (pfK K 1) (pv 0) (λ_ _=>rfl))))),?_⟩
 have e0:dR d.ready=[]:=by rw [dr];rfl
 have hrd:=st.rdd
 rw [e0] at hrd
 refine ⟨_,rfl,S.l,CS,S.dx,_,_,rfl,st.ins,D.cl,D.nr,rh S,S.rd,_,rfl,hrd,λo f=>?_⟩
 refine xI f (λi ys H1=>Same (upd H S.rd (Fz S.rd o)) H1/\ys=[]) ⟨Same.refl _,rfl⟩ (λi ys H' _ z=>⟨z.1 _ _ ad,z.1.ts⟩) (λi e b ys H' he=>by cases he) ?_
 rintro ys H1 ⟨s1,rfl⟩ p hp
 obtain ⟨t1,t2,t3,t4⟩:=ss (o2:=.lst []) hrd s1 hp
 exact ⟨S.rd,o,_,t3,(f.keep s1.ts).keep (al hp).ts,q p _ t1 t4 t2⟩
variable {CH:Addr}
theorem vv(F:Fun K "__init__" "Sheet.__init__" fX f fd)(DH:TxH K CH):FnOk P w K mg base CX0 1 f fd ["self","stand"] (qY CS CH K):=by
 refine F.ok lE (λvs H Q E h=>?_) (λcdv A outer s H vs Q E hr h=>?_)
 ·obtain ⟨l,dx,A,d,rfl,_⟩:=h
  rfl
 obtain ⟨l,dx,S,d,rfl,hl,st,nSl,q⟩:=h
 refine ⟨_,af (aM (pv 0) (pv 1) rfl) (af (aM (pv 0) (cX ag) rfl) (af (aM (pv 0) (cX ag) rfl) (aj (aM (pv 0) eN rfl)))),?_⟩
 refine ⟨_,rfl,_,rfl,l,CH,dx,_,rfl,hl,DH.cl,DH.ht,(by show 0<1000;decide),?_⟩
 have k1:Kp l H (upd H l (.ins CH dx (aq "stand" (.ref S.l) []))):=cq
 have h1:(upd H l (.ins CH dx (aq "stand" (.ref S.l) []))) l=some (.ins CH dx (aq "stand" (.ref S.l) [])):=ad
 generalize (upd H l (HO.ins CH dx (aq "stand" (.ref S.l) [])))=H1 at k1 h1 ⊢
 refine ⟨χ,λrw' n1=>?_⟩
 obtain ⟨b1,b2,b3,k2⟩:=ck (o:=.lst []) (fs':=aq "rows" (.ref rw') (aq "stand" (.ref S.l) [])) h1 n1
 refine ⟨_,rfl,l,CH,dx,_,rfl,b1,DH.cl,DH.hw,(bb (n:=999) (by show 0<999;decide)),?_⟩
 have z2:rw'≠l:=bU b3 b2 (by intro z;cases z)
 generalize (upd (upd H1 rw' (.lst [])) l (.ins CH dx (aq "rows" (.ref rw') (aq "stand" (.ref S.l) []))))=H2 at b2 b3 k2 ⊢
 refine ⟨χ,λsn n2=>?_⟩
 obtain ⟨c1,c2,c3,k3⟩:=ck (o:=.lst []) (fs':=aq "sent" (.ref sn) (aq "rows" (.ref rw') (aq "stand" (.ref S.l) []))) b2 n2
 refine ⟨_,rfl,l,CH,dx,_,rfl,c1,DH.cl,DH.hs,(bb (n:=999) (bb (n:=998) (by show 0<998;decide))),?_⟩
 have z3:sn≠l:=bU c3 c2 (by intro z;cases z)
 have b4:=k3 _ _ z2 b3
 generalize (upd (upd H2 sn (.lst [])) l (.ins CH dx (aq "sent" (.ref sn) (aq "rows" (.ref rw') (aq "stand" (.ref S.l) [])))))=H3 at c2 c3 k3 b4 ⊢
 refine ⟨_,rfl,l,CH,dx,_,rfl,c2,DH.cl,DH.hl,(bb (n:=999) (bb (n:=998) (bb (n:=997) (by show 0<997;decide)))),?_⟩
 have k4:Kp l H3 (upd H3 l (.ins CH dx (hf S.l ⟨l,dx,rw',sn⟩ .non))):=cq
 have h4:(upd H3 l (.ins CH dx (hf S.l ⟨l,dx,rw',sn⟩ .non))) l=some (.ins CH dx (hf S.l ⟨l,dx,rw',sn⟩ .non)):=ad
 have kA:Kp l H (upd H3 l (.ins CH dx (hf S.l ⟨l,dx,rw',sn⟩ .non))):=k1.trans (k2.trans (k3.trans k4))
 have r0:H rw'=none:=cr k1 h1 n1
 have s0:H sn=none:=cr (k1.trans k2) b2 n2
 have no:∀{b:Addr},H b=none->b∉S.own:=λ{b} hb hm=>by
  obtain ⟨us0,stu⟩:=st
  obtain ⟨o,e,_⟩:=stu.own hm
  rw [hb] at e
  cases e
 have lo:l∉S.own:=λhm=>by
  obtain ⟨us0,stu⟩:=st
  obtain ⟨o,e,_,n⟩:=stu.own hm
  rw [hl] at e
  cases e
  exact n _ _ _ rfl
 have ts:aT H (upd H3 l (.ins CH dx (hf S.l ⟨l,dx,rw',sn⟩ .non))):=λb xs e=>kA b _ (λz=>by rw [z,hl] at e;cases e) e
 exact q ⟨l,dx,rw',sn⟩ _ rfl ⟨st.kp kA lo ts nSl,h4,k4 _ _ z2 b4,⟨[],k4 _ _ z3 c3,.nil⟩,.inl rfl,lo,no r0,no s0,ae b3 n2,nSl⟩ r0 s0 kA
theorem xy(F:Fun K "row" "Sheet.row" gC f fd)(D:TxD K CS)(DH:TxH K CH)(GK:GM P w K mg base CX0 2 CS "keep" ["self","row"] (pT CS K))(GW:GM P w K mg base CX0 1 CS "news" ["self"] (mH CS K)) :
  FnOk P w K mg base CX0 3 f fd ["self","row"] (pU CS CH K):=by
 refine F.ok mW (λvs H Q E h=>?_) (λcdv A outer s H vs Q E hr h=>?_)
 ·obtain ⟨A,h,d,rs,ws,v,r,w,rfl,_⟩:=h
  rfl
 obtain ⟨S,h,d,rs,ws,v,r,w0,rfl,sh,hw,sm,hc,fit,hrs,q⟩:=h
 refine ⟨_,af (bw (pm GK (aw (pv 0) rfl) D.cl hr (ac (pv 1) ag)))
  (af (bw (gW PySem.F.plainAttrs_list PySem.F.slot_list_append PySem.F.type_list_append fb (aw (pv 0) rfl) (ac (pv 1) ag)))
  (aj (aM (pv 0) (pm0 GW (aw (pv 0) rfl) D.cl hr) rfl))),?_⟩
 refine ⟨_,rfl,h.l,CH,h.dx,_,_,rfl,sh.ins,DH.cl,DH.ht,vY _ _ _,S.l,S.dx,_,rfl,sh.st.ins,jv θ,_,rfl,S,d,r,w0,rfl,sh.st,hw,sm.mono ζ,hc,fit,λkb H1 st1 k1=>?_⟩
 have ts1:=sh.st.ts k1
 obtain ⟨us,hsn,pws⟩:=sh.snt
 have ins1:=k1 _ _ sh.n1 sh.ins
 have rws1:=k1 _ _ sh.n2 sh.rws
 have hsn1:=k1 _ _ sh.n3 hsn
 refine ⟨_,rfl,h.l,CH,h.dx,_,_,rfl,ins1,DH.cl,DH.hw,yE _ _ _,.inl ⟨rfl,_,SqL.of rws1⟩,_,rfl,h.rw,_,_,rfl,rfl,rws1,bM (by rw [List.length_map];omega),?_⟩
 have kp2:Kp h.rw H1 (upd H1 h.rw (.lst (rs.map V.ref++[.ref r]))):=cq
 have ts2:aT H1 (upd H1 h.rw (.lst (rs.map V.ref++[.ref r]))):=λb xs e=>kp2 b _ (λz=>by rw [z,rws1] at e;cases e) e
 have nlr:h.l≠h.rw:=bU ins1 rws1 (by intro z;cases z)
 have nls:h.l≠h.sn:=bU ins1 hsn1 (by intro z;cases z)
 have ins2:=kp2 _ _ nlr ins1
 have hsn2:=kp2 _ _ (Ne.symm sh.n4) hsn1
 have rws2:(upd H1 h.rw (.lst (rs.map V.ref++[.ref r]))) h.rw=some (.lst ((rs++[r]).map V.ref)):=by rw [ad,List.map_append];rfl
 have st2:=st1.kp kp2 sh.n2 ts2 (λz=>by rw [← z,st1.ins] at rws1;cases rws1)
 generalize (upd H1 h.rw (HO.lst (rs.map V.ref++[.ref r])))=H2 at kp2 ts2 ins2 hsn2 rws2 st2 ⊢
 have hen:(d.keep r kb w0).ends.length<64:=Nat.lt_of_le_of_lt (sm.keep r kb w0).en ζ
 refine ⟨_,rfl,h.l,CH,h.dx,_,_,rfl,ins2,DH.cl,DH.ht,vY _ _ _,S.l,S.dx,_,rfl,st2.ins,jv θ,S,_,rfl,st2,hen,λv' H3 s3 nw=>?_⟩
 have ins3:=s3 _ _ ins2
 refine ⟨_,rfl,h.l,CH,h.dx,_,rfl,ins3,DH.cl,DH.hl,zX _ _ _,?_⟩
 rw [zW]
 have kp4:Kp h.l H3 (upd H3 h.l (.ins CH h.dx (hf S.l h v'))):=cq
 have ts4:aT H3 (upd H3 h.l (.ins CH h.dx (hf S.l h v'))):=λb xs e=>kp4 b _ (λz=>by rw [z,ins3] at e;cases e) e
 have tsA:aT H (upd H3 h.l (.ins CH h.dx (hf S.l h v'))):=λb xs e=>ts4 _ _ (s3.ts _ _ (ts2 _ _ (ts1 _ _ e)))
 refine q kb v' _ ⟨(st2.keep s3).kp kp4 sh.n1 ts4 sh.n5,ad,kp4 _ _ (Ne.symm nlr) (s3 _ _ rws2),⟨us,kp4 _ _ (Ne.symm nls) (s3 _ _ hsn2),Paired.mapP pws λ_ _ z=>z.keep tsA⟩,.inr (nw.keep ts4),sh.n1,sh.n2,sh.n3,sh.n4,sh.n5⟩ λb o nb e=>?_
 simp only [Ah.own,List.mem_cons,not_or] at nb
 exact kp4 _ _ nb.1 (s3 _ _ (kp2 _ _ nb.2.1 (k1 _ _ nb.2.2.2 e)))
theorem vq(F:Fun K "send" "Sheet.send" fW f fd)(DH:TxH K CH):FnOk P w K mg base CX0 1 f fd ["self","to","word","p","more"] (mL CS CH K):=by
 refine F.ok lD (λvs H Q E h=>?_) (λcdv A outer s H vs Q E hr h=>?_)
 ·obtain ⟨A,h,d,rs,ws,v,x,rfl,_⟩:=h
  rfl
 obtain ⟨S,h,d,rs,ws,v,x,rfl,sh,hz,q⟩:=h
 obtain ⟨us,hsn,pws⟩:=sh.snt
 refine ⟨_,aj (bw (gW PySem.F.plainAttrs_list PySem.F.slot_list_append PySem.F.type_list_append fb (aw (pv 0) rfl) (ac (aY (ac (pv 1) (ac (aY (ac (pv 2) (ac (pv 3) (ac (pv 4) ag)))) ag))) ag))),?_⟩
 refine ⟨_,rfl,h.l,CH,h.dx,_,_,rfl,sh.ins,DH.cl,DH.hs,yD _ _ _,.inl ⟨rfl,_,SqL.of hsn⟩,_,rfl,_,rfl,_,rfl,_,rfl,χ,λt2 ht2=>⟨χ,λt ht=>?_⟩⟩
 have s1:=al (o:=.tup [.str x.2.1,.ref x.2.2.1,.ref x.2.2.2]) ht2
 have s2:=al (o:=.tup [.int x.1,.ref t2]) ht
 have hw:WsAt (upd (upd H t2 (.tup [.str x.2.1,.ref x.2.2.1,.ref x.2.2.2])) t (.tup [.int x.1,.ref t2])) x (.ref t):=⟨t,t2,rfl,ad,s2 _ _ ad⟩
 have s12:=s1.trans s2
 have sh2:=sh.keep s12
 have hsn2:=s12 _ _ hsn
 generalize (upd (upd H t2 (HO.tup [.str x.2.1,.ref x.2.2.1,.ref x.2.2.2])) t (HO.tup [.int x.1,.ref t2]))=H2 at s12 sh2 hsn2 hw ⊢
 refine ⟨h.sn,us,_,rfl,rfl,hsn2,bM (by rw [← pws.len];omega),?_⟩
 have kp3:Kp h.sn H2 (upd H2 h.sn (.lst (us++[.ref t]))):=cq
 have ts3:aT H2 (upd H2 h.sn (.lst (us++[.ref t]))):=λb xs e=>kp3 b _ (λz=>by rw [z,hsn2] at e;cases e) e
 refine q _ ⟨sh2.st.kp kp3 sh.n3 ts3 (λz=>by have e:=sh2.st.ins;rw [z,hsn2] at e;cases e),kp3 _ _ (bU sh2.ins hsn2 (by intro z;cases z)) sh2.ins,kp3 _ _ sh.n4 sh2.rws,⟨_,ad,(Paired.mapP pws λ_ _ z=>(z.keep s12.ts).keep ts3).app (.cons (hw.keep ts3) .nil)⟩,sh2.lat.imp id λz=>z.keep ts3,sh.n1,sh.n2,sh.n3,sh.n4,sh.n5⟩ λb o nb e=>?_
 simp only [Ah.own,List.mem_cons,not_or] at nb
 exact kp3 _ _ nb.2.2.1 (s12 _ _ e)
theorem vt(F:Fun K "rows_told" "Sheet.rows_told" cw f fd)(B:TxB mg)(DH:TxH K CH):FnOk P w K mg base CX0 1 f fd ["self"] (mM CS CH K):=by
 refine F.ok hJ (λvs H Q E h=>?_) (λcdv A outer s H vs Q E hr h=>?_)
 ·obtain ⟨A,h,d,rs,ws,v,rfl,_⟩:=h
  rfl
 obtain ⟨S,h,d,rs,ws,v,rfl,sh,q⟩:=h
 refine ⟨_,aj (ax (bc dD rfl B.list PyProof.Rows.boot_list (ac (aw (pv 0) rfl) ag))),?_⟩
 exact ⟨_,rfl,h.l,CH,h.dx,_,_,rfl,sh.ins,DH.cl,DH.hw,yE _ _ _,h.rw,_,rfl,.inl (SqL.of sh.rws),λp hp=>q p _ (al hp) hp ad⟩
variable {CH:Addr}
def Bd(CS CH:Addr)(K:Frag):TS:=λD σ H=>∃S h d rs ws v nv,σ=[some (.ref (h:Ah).l),some nv]/\ShA CS CH K H S h d rs ws v/\ws.length<=900/\NwAt K H d.ends nv/\∀p us H',Same H H'->H p=none->H' p=some (.lst us)->Paired (LtAt K H' d.ends) ws us->D.rt (.ref p) H'
theorem xz(F:Fun K "letters_told" "Sheet.letters_told" ba f fd)(D:TxD K CS)(DH:TxH K CH)(GW:GM P w K mg base CX0 1 CS "news" ["self"] (mH CS K)) :
  FnOk P w K mg base CX0 2 f fd ["self"] (pV CS CH K):=by
 refine F.ok sc_Sheet_letters_told (λvs H Q E h=>?_) (λcdv A outer s H vs Q E hr h=>?_)
 ·obtain ⟨A,h,d,rs,ws,v,rfl,_⟩:=h
  rfl
 obtain ⟨S,h,d,rs,ws,v,rfl,sh,hen,hz,q⟩:=h
 have nd:=sc_Sheet_letters_told.nd
 refine ⟨_,af (aH (i:=1) nd rfl (Or.inr rfl) (oM (az qh (aw (pv 0) rfl) eN (aA _)) (pm0 GW (aw (pv 0) rfl) D.cl hr) (aw (pv 0) rfl)))
  (oK (Bd CS CH K) (aj (ax (iq eY rfl (gM (aw (pv 0) rfl)) (λ_ _ _ _=>eg) (λ_ _ _ _=>aY (ac (ay (r:=aW K) aB (pv 0) ao (λ_ _=>rfl)) (ac (aG (r:=yz K) xg (ay (r:=aW K) aB (pv 0) ao (λ_ _=>rfl)) (aY (ac (pv 1) ag))) ag)))))) ?v1),?_⟩
 case v1 =>
  rintro D0 σ H ⟨S,h,d,rs,ws,v,nv,rfl,sh,hz,hnv,q⟩
  obtain ⟨us,hsn,pws⟩:=sh.snt
  refine ⟨_,rfl,h.l,CH,h.dx,_,_,rfl,sh.ins,DH.cl,DH.hs,yD _ _ _,h.sn,rfl,⟨_,SqL.of hsn⟩,?_⟩
  refine jR (xs:=us) (λi ys H'=>Same H H'/\Paired (LtAt K H' d.ends) (ws.take i) ys) ⟨Same.refl _,.nil⟩ (small (by rw [← pws.len];omega)) (λi ys H' _ z=>SqL.of (z.1 _ _ hsn)) ?_ ?_
  ·rintro i u ys H1 hu ⟨s1,py⟩
   obtain ⟨x,ex,t,t2,rfl,ht,ht2⟩:=pws.get hu
   have et:ws.take (i+1)=ws.take i++[x]:=by rw [List.take_succ,ex];rfl
   refine lQ ⟨_,rfl,t,_,_,_,rfl,rfl,SqT.of (s1 _ _ ht),at0,_,rfl,t,_,_,_,rfl,rfl,SqT.of (s1 _ _ ht),at1,_,rfl,χ,λt3 ht3=>?_⟩
   have s3:=al (o:=.tup [nv]) ht3
   refine ⟨t2,t3,_,_,rfl,rfl,SqT.of (s3 _ _ (s1 _ _ ht2)),SqT.of ad,(λz=>by cases z),χ,(λz=>by cases z),λ_ t4 ht4=>⟨χ,λt5 ht5=>?_⟩⟩
   have s4:=al (o:=.tup ([.str x.2.1,.ref x.2.2.1,.ref x.2.2.2]++[nv])) ht4
   have s5:=al (o:=.tup [.int x.1,.ref t4]) ht5
   have s15:=s1.trans (s3.trans (s4.trans s5))
   rw [et]
   exact ⟨s15,(Paired.mapP py λ_ _ z=>z.keep (s3.trans (s4.trans s5)).ts).app (.cons ⟨t5,t4,nv,rfl,ad,s5 _ _ ad,hnv.keep s15.ts⟩ .nil)⟩
  ·rintro ys H1 ⟨s1,py⟩ p hp
   rw [← pws.len,List.take_length] at py
   have s2:=al (o:=.lst ys) hp
   have hp0:H p=none:=by
    cases e:H p with
    | none=>rfl
    | some o=>rw [s1 _ _ e] at hp;cases hp
   exact q p ys _ (s1.trans s2) hp0 ad (Paired.mapP py λ_ _ z=>z.keep s2.ts)
 refine ⟨_,rfl,h.l,CH,h.dx,_,_,rfl,sh.ins,DH.cl,DH.hl,yF _ _ _,rfl,_,rfl,?_⟩
 by_cases e:v=.non
 ·refine aU (λ_=>?_) (λc=>absurd (τ e) c)
  refine ⟨_,rfl,h.l,CH,h.dx,_,_,rfl,sh.ins,DH.cl,DH.ht,vY _ _ _,S.l,S.dx,_,rfl,sh.st.ins,jv θ,S,d,rfl,sh.st,hen,λnv H1 s1 nw=>?_⟩
  exact ⟨S,h,d,rs,ws,v,nv,rfl,sh.keep s1,hz,nw,λp us H' s' hp=>q p us H' (s1.trans s') (by
   cases e:H p with
   | none=>rfl
   | some o=>rw [s1 _ _ e] at hp;cases hp)⟩
 ·refine aU (λc=>absurd (Ξ c) e) (λ_=>?_)
  refine ⟨_,rfl,h.l,CH,h.dx,_,_,rfl,sh.ins,DH.cl,DH.hl,yF _ _ _,?_⟩
  exact ⟨S,h,d,rs,ws,v,v,rfl,sh,hz,sh.lat.resolve_left e,q⟩
end
end K51
namespace K51
open PySem L2 Lo St
section
variable {P:Program}{w:World}{K:Frag}{mg:Str->Option Value}{base:Heap}{f CL CS CH CV:Addr}{fd:FuncData}{C:Kd->Addr}{CW:Wd->Addr}
theorem vh(F:Fun K "lock" "TakeStep.lock" c9 f fd)(W:TxW K CW)(T:TxK K C)(mgC:∀k,mg (kdN k)=some (.ref (C k))){fI:Addr}{dI:FuncData}(M:∀k,Mk K (C k) fI)
  (GI:FnOk P w K mg base CX0 1 fI dI ["self","first","last"] (fx C))(bI:Binds K dI ["self","first","last"] [])(GT:∀k,GM P w K mg base CX0 2 (C k) "told" ["self"] (gs C)):FnOk P w K mg base CX0 3 f fd ["self"] (d0 CW K .take):=by
 refine F.ok iR (λvs H Q E h=>?_) (λcdv A outer s H vs Q E hr h=>?_)
 ·obtain ⟨v,ns,rfl,_⟩:=h
  rfl
 obtain ⟨v,ns,rfl,ar,⟨a,dx,rfl,ha⟩,q⟩:=h
 obtain ⟨x,y,rfl,_,_,e⟩:=ar.c rfl
 rw [e] at ha
 have hr1:Room (1+1) _:=hr
 refine ⟨_,aj (ax (pm0 (GT .read) (bh (M .read) GI hr1 rfl (mgC .read) bI .nil be (ac (aw (pv 0) rfl) (ac (aw (pv 0) rfl) ag))) (T.cl .read) hr)),?_⟩
 refine ⟨_,rfl,a,_,dx,_,_,rfl,ha,W.cl _,W.nC _,bv,_,rfl,a,_,dx,_,_,rfl,ha,W.cl _,W.nC _,bv,λz dz nz ndz nez=>⟨z,dz,.read,y,y,rfl,ad,rfl,z,dz,_,rfl,ad,fe _ _ θ θ,_,(.read,y,y),rfl,⟨z,dz,rfl,ad⟩,λt ht=>?_⟩⟩
 exact q _ _ ((eC nz ndz).trans (al ht)) ⟨t,rfl,ad⟩
theorem vk(F:Fun K "lock" "MeanStep.lock" dh f fd)(W:TxW K CW)(T:TxK K C)(mgC:∀k,mg (kdN k)=some (.ref (C k))){fI:Addr}{dI:FuncData}(M:∀k,Mk K (C k) fI)
  (GI:FnOk P w K mg base CX0 1 fI dI ["self","first","last"] (fx C))(bI:Binds K dI ["self","first","last"] [])(GT:∀k,GM P w K mg base CX0 2 (C k) "told" ["self"] (gs C)):FnOk P w K mg base CX0 3 f fd ["self"] (d0 CW K .mean):=by
 refine F.ok iW (λvs H Q E h=>?_) (λcdv A outer s H vs Q E hr h=>?_)
 ·obtain ⟨v,ns,rfl,_⟩:=h
  rfl
 obtain ⟨v,ns,rfl,ar,⟨a,dx,rfl,ha⟩,q⟩:=h
 obtain ⟨x,y,rfl,_,_,e⟩:=ar.c rfl
 rw [e] at ha
 have hr1:Room (1+1) _:=hr
 refine ⟨_,aj (ax (pm0 (GT .mean) (bh (M .mean) GI hr1 rfl (mgC .mean) bI .nil be (ac (aw (pv 0) rfl) (ac (aw (pv 0) rfl) ag))) (T.cl .mean) hr)),?_⟩
 refine ⟨_,rfl,a,_,dx,_,_,rfl,ha,W.cl _,W.nC _,bv,_,rfl,a,_,dx,_,_,rfl,ha,W.cl _,W.nC _,bv,λz dz nz ndz nez=>⟨z,dz,.mean,y,y,rfl,ad,rfl,z,dz,_,rfl,ad,fe _ _ θ θ,_,(.mean,y,y),rfl,⟨z,dz,rfl,ad⟩,λt ht=>?_⟩⟩
 exact q _ _ ((eC nz ndz).trans (al ht)) ⟨t,rfl,ad⟩
theorem vo(F:Fun K "lock" "GiveStep.lock" dm f fd)(W:TxW K CW)(T:TxK K C)(mgC:∀k,mg (kdN k)=some (.ref (C k))){fI:Addr}{dI:FuncData}(M:∀k,Mk K (C k) fI)
  (GI:FnOk P w K mg base CX0 1 fI dI ["self","first","last"] (fx C))(bI:Binds K dI ["self","first","last"] [])(GT:∀k,GM P w K mg base CX0 2 (C k) "told" ["self"] (gs C)):FnOk P w K mg base CX0 3 f fd ["self"] (d0 CW K .give):=by
 refine F.ok iY (λvs H Q E h=>?_) (λcdv A outer s H vs Q E hr h=>?_)
 ·obtain ⟨v,ns,rfl,_⟩:=h
  rfl
 obtain ⟨v,ns,rfl,ar,⟨a,dx,rfl,ha⟩,q⟩:=h
 obtain ⟨x,y,rfl,_,_,e⟩:=ar.c rfl
 rw [e] at ha
 have hr1:Room (1+1) _:=hr
 refine ⟨_,aj (ax (pm0 (GT .change) (bh (M .change) GI hr1 rfl (mgC .change) bI .nil be (ac (aw (pv 0) rfl) (ac (aw (pv 0) rfl) ag))) (T.cl .change) hr)),?_⟩
 refine ⟨_,rfl,a,_,dx,_,_,rfl,ha,W.cl _,W.nC _,bv,_,rfl,a,_,dx,_,_,rfl,ha,W.cl _,W.nC _,bv,λz dz nz ndz nez=>⟨z,dz,.change,y,y,rfl,ad,rfl,z,dz,_,rfl,ad,fe _ _ θ θ,_,(.change,y,y),rfl,⟨z,dz,rfl,ad⟩,λt ht=>?_⟩⟩
 exact q _ _ ((eC nz ndz).trans (al ht)) ⟨t,rfl,ad⟩
theorem xu(F:Fun K "lock" "AddStep.lock" dQ f fd)(W:TxW K CW)(T:TxK K C)(mgC:∀k,mg (kdN k)=some (.ref (C k))){fI:Addr}{dI:FuncData}(M:∀k,Mk K (C k) fI)
  (GI:FnOk P w K mg base CX0 1 fI dI ["self","first","last"] (fx C))(bI:Binds K dI ["self","first","last"] [])(GT:∀k,GM P w K mg base CX0 2 (C k) "told" ["self"] (gs C)):FnOk P w K mg base CX0 3 f fd ["self"] (d0 CW K .add):=by
 refine F.ok jD (λvs H Q E h=>?_) (λcdv A outer s H vs Q E hr h=>?_)
 ·obtain ⟨v,ns,rfl,_⟩:=h
  rfl
 obtain ⟨v,ns,rfl,ar,⟨a,dx,rfl,ha⟩,q⟩:=h
 obtain ⟨x,y,z0,rfl,_⟩:=ar.a
 have hr1:Room (1+1) _:=hr
 refine ⟨_,aj (ax (pm0 (GT .change) (bh (M .change) GI hr1 rfl (mgC .change) bI .nil be (ac (aw (pv 0) rfl) (ac (aw (pv 0) rfl) ag))) (T.cl .change) hr)),?_⟩
 refine ⟨_,rfl,a,_,dx,_,_,rfl,ha,W.cl _,W.nC _,(by show (aq "amount" _ (aq "cell" _ (aq "where" _ []))).lookup _=_;rw [aK θ,bv]),_,rfl,a,_,dx,_,_,rfl,ha,W.cl _,W.nC _,(by show (aq "amount" _ (aq "cell" _ (aq "where" _ []))).lookup _=_;rw [aK θ,bv]),λz dz nz ndz nez=>⟨z,dz,.change,y,y,rfl,ad,rfl,z,dz,_,rfl,ad,fe _ _ θ θ,_,(.change,y,y),rfl,⟨z,dz,rfl,ad⟩,λt ht=>?_⟩⟩
 exact q _ _ ((eC nz ndz).trans (al ht)) ⟨t,rfl,ad⟩
theorem xr(F:Fun K "lock" "SumStep.lock" dM f fd)(W:TxW K CW)(T:TxK K C)(mgC:∀k,mg (kdN k)=some (.ref (C k))){fI:Addr}{dI:FuncData}(M:∀k,Mk K (C k) fI)
  (GI:FnOk P w K mg base CX0 1 fI dI ["self","first","last"] (fx C))(bI:Binds K dI ["self","first","last"] [])(GT:∀k,GM P w K mg base CX0 2 (C k) "told" ["self"] (gs C)):FnOk P w K mg base CX0 3 f fd ["self"] (d0 CW K .sum):=by
 refine F.ok jB (λvs H Q E h=>?_) (λcdv A outer s H vs Q E hr h=>?_)
 ·obtain ⟨v,ns,rfl,_⟩:=h
  rfl
 obtain ⟨v,ns,rfl,ar,⟨a,dx,rfl,ha⟩,q⟩:=h
 obtain ⟨x,y,y2,rfl,_⟩:=ar.s
 have hr1:Room (1+1) _:=hr
 refine ⟨_,aj (ax (pm0 (GT .read) (bh (M .read) GI hr1 rfl (mgC .read) bI .nil be (ac (aw (pv 0) rfl) (ac (aw (pv 0) rfl) ag))) (T.cl .read) hr)),?_⟩
 refine ⟨_,rfl,a,_,dx,_,_,rfl,ha,W.cl _,W.nL _,(by show (aq "high" _ (aq "low" _ (aq "where" _ []))).lookup _=_;rw [aK θ,bv]),_,rfl,a,_,dx,_,_,rfl,ha,W.cl _,W.nH _,bv,λz dz nz ndz nez=>⟨z,dz,.read,y,y2,rfl,ad,rfl,z,dz,_,rfl,ad,fe _ _ θ θ,_,(.read,y,y2),rfl,⟨z,dz,rfl,ad⟩,λt ht=>?_⟩⟩
 exact q _ _ ((eC nz ndz).trans (al ht)) ⟨t,rfl,ad⟩
theorem oT{wd:Wd}(hw:wd=.plus\/wd=.need)(F:Fun K "lock" "Step.lock" gB f fd):FnOk P w K mg base CX0 1 f fd ["self"] (d0 CW K wd):=by
 refine F.ok mV (λvs H Q E h=>?_) (λcdv A outer s H vs Q E hr h=>?_)
 ·obtain ⟨v,ns,rfl,_⟩:=h
  rfl
 obtain ⟨v,ns,rfl,ar,st,q⟩:=h
 refine ⟨_,aj (ax eN),?_⟩
 have e:vP wd ns=none:=by rcases hw with rfl | rfl<;>rfl
 rw [e] at q
 exact q .non H (Same.refl H) rfl
end
end K51
namespace K51T
open PySem L2 Km PySem.NumText
abbrev uE:Stmt:=K51.kr
abbrev rj:Stmt:=K51.ij
abbrev yu:Stmt:=K51.lW
abbrev yx:Stmt:=K51.gX
abbrev yw:Stmt:=K51.gi
abbrev AN:Stmt:=K51.eE
abbrev uG:Stmt:=K51.dv
abbrev AK:Stmt:=K51.cO
abbrev uF:Stmt:=K51.du
theorem tp:¬(("text":Str)="place"):=by decide +kernel
def rf(z:Str)(k:Int):List (Str×V):=aq "place" (.int k) (aq "text" (.str z) [])
theorem uH(z:Str)(k:Int):rf z k=([("text",V.str z),("place",V.int k)]:List (Str×V)):=by
 show (if ("text":Str)="place" then [(("text":Str),V.int k)] else (("text":Str),V.str z)::aq "place" (V.int k) [])=([("text",V.str z),("place",V.int k)]:List (Str×V))
 rw [if_neg tp]
 all_goals rfl
theorem gL(z:Str)(k:Int):(rf z k).lookup ("text":Str)=some (.str z):=by
 unfold rf
 rw [ah,if_neg tp,ah,if_pos rfl]
theorem ce(z:Str)(k:Int):(rf z k).lookup ("place":Str)=some (.int k):=by
 unfold rf
 rw [ah,if_pos rfl]
theorem lX(z:Str)(k:Int){m:Str}(h1:¬m="place")(h2:¬m="text"):(rf z k).lookup m=none:=by
 unfold rf
 rw [ah,if_neg h1,ah,if_neg h2]
 all_goals rfl
theorem p8(z:Str)(k j:Int):aq "place" (.int j) (rf z k)=rf z j:=by
 rw [uH,uH]
 show (if ("text":Str)="place" then _ else (("text":Str),V.str z)::(if ("place":Str)="place" then [(("place":Str),V.int j)] else _))=([("text",V.str z),("place",V.int j)]:List (Str×V))
 rw [if_neg tp,if_pos rfl]
theorem p9(z:Str)(k:Int):(rf z k).length=2:=by rw [uH];rfl
structure Tx(K:Frag)(mg:Str->Option Value)(C:Addr):Prop where
 cl:Cls K C
 nT:NoAttr K C "text"
 nP:NoAttr K C "place"
 mgC:mg "Reader"=some (.ref C)
 isi:mg "isinstance"=none
 int:mg "int"=none
 bool:mg "bool"=none
 str:mg "str"=none
 len:mg "len"=none
 ord:mg "ord"=none
 all:mg "all"=none
 range:mg "range"=none
 cFig:∃t,mg "MOST_FIGURES_things"=some (.int 400 t)
 cSig:∃t,mg "MOST_SIGNS"=some (.int 2000 t)
 cDeep:∃t,mg "MOST_DEEP"=some (.int 8 t)
 cLong:∃t,mg "LONGEST"=some (.int 100000 t)
 cBl:∃t,mg "BLANK"=some (.int 32 t)
 cPc:∃t,mg "PERCENT"=some (.int 37 t)
 cTi:∃t,mg "TILDE"=some (.int 126 t)
theorem nU{X:Cx}{x:Str}{i:Int}{pos:Pos}(hm:∃t,X.mg x=some (.int i t))(hg:Gl X x)(hd:(x==("__debug__":Str))=false:=by decide):PE X (.Name x pos) (tC (.int i)):=by
 obtain ⟨t,e⟩:=hm
 exact fL hg e ⟨t,rfl⟩ hd
section
variable {K:Frag}
theorem qy:PySem.W.kitOne K (.type "int") (.type "int")=some true:=rfl
theorem zO:PySem.W.kitOne K (.type "bool") (.type "bool")=some true:=rfl
theorem qz:PySem.W.kitOne K (.type "int") (.type "bool")=some false:=by kernel_rfl
theorem zK:PySem.W.kitOne K (.type "str") (.type "int")=some false:=by kernel_rfl
theorem zN:PySem.W.kitOne K (.type "bool") (.type "int")=some true:=by kernel_rfl
theorem zL:PySem.W.kitOne K (.type "NoneType") (.type "int")=some false:=by kernel_rfl
theorem zJ:PySem.W.kitOne K (.type "tuple") (.type "int")=some false:=by kernel_rfl
end
section
variable {P:Program}{w:World}{K:Frag}{mg:Str->Option Value}{base:Heap}{f C:Addr}{fd:FuncData}
def yJ(H:Hp):V->Option Bool
 | .int _=>some true
 | .str _=>some false
 | .bl _=>some false
 | .non=>some false
 | .ref a=>match H a with
  | some (.tup _)=>some false
  | _=>none
 | _=>none
def fw:Sp:=λvs H Q _=>∃x b,vs=[x]/\yJ H x=some b/\Q (.bl b) H
theorem wU:au ["thing"] ["thing"] (defScope uE):=⟨rfl,rfl,rfl,θ,rfl,θ,θ⟩
theorem kE(F:Fun K "is_whole" "is_whole" uE f fd)(T:Tx K mg C):FnOk P w K mg base CX0 1 f fd ["thing"] fw:=by
 refine F.ok wU (λvs H Q E h=>?_) (λcdv A outer s H vs Q E hr h=>?_)
 ·obtain ⟨x,b,rfl,_⟩:=h
  rfl
 obtain ⟨x,b,rfl,hb,q⟩:=h
 refine ⟨_,aj (ax (fM (aF cW rfl T.isi PyProof.Rows.boot_isinstance (ac (pv 0) (ac (iz (v:=.ty "int") rfl T.int PyProof.Rows.boot_int rfl) ag)))
  (eM (uP (aF cW rfl T.isi PyProof.Rows.boot_isinstance (ac (pv 0) (ac (iz (v:=.ty "bool") rfl T.bool PyProof.Rows.boot_bool rfl) ag))))))),?_⟩
 cases x with
 | int i =>
  cases (Δ hb)
  refine ⟨_,rfl,_,_,_,_,rfl,TyOf.int i,qy,_,rfl,cI ?_⟩
  exact ⟨_,rfl,_,_,_,_,rfl,TyOf.int i,qz,_,rfl,q⟩
 | str z =>
  cases (Δ hb)
  exact ⟨_,rfl,_,_,_,_,rfl,TyOf.str z,zK,_,rfl,bj q⟩
 | bl c =>
  cases (Δ hb)
  refine ⟨_,rfl,_,_,_,_,rfl,TyOf.bl c,zN,_,rfl,cI ?_⟩
  exact ⟨_,rfl,_,_,_,_,rfl,TyOf.bl c,zO,_,rfl,q⟩
 | non =>
  cases (Δ hb)
  exact ⟨_,rfl,_,_,_,_,rfl,TyOf.non,zL,_,rfl,bj q⟩
 | ref a =>
  have hb':(match H a with | some (.tup _)=>some false | _=>none)=some b:=hb
  cases e:H a with
  | none=>rw [e] at hb';cases hb'
  | some o =>
   rw [e] at hb'
   cases o with
   | tup xs =>
    cases (Δ hb')
    exact ⟨_,rfl,_,_,_,_,rfl,TyOf.tup e,zJ,_,rfl,bj q⟩
   | _=>cases hb'
 | _=>cases hb
theorem iD:1000000<=sizeLine:=by decide
def ul:Sp:=λvs H Q _=>∃c:Nat,vs=[.str ⟨#[c]⟩]/\Q (.bl (qj c)) H
theorem scSign:au ["sign","number"] ["sign"] (defScope yu):=⟨rfl,rfl,rfl,θ,rfl,θ,θ⟩
theorem xk(F:Fun K "is_sign" "is_sign" yu f fd)(T:Tx K mg C):FnOk P w K mg base CX0 1 f fd ["sign"] ul:=by
 refine F.ok scSign (λvs H Q E h=>?_) (λcdv A outer s H vs Q E hr h=>?_)
 ·obtain ⟨c,rfl,_⟩:=h
  rfl
 obtain ⟨c,rfl,q⟩:=h
 refine ⟨_,af (aH (i:=1) scSign.nd rfl (Or.inl rfl) (aF wz rfl T.ord PyProof.Rows.boot_ord (ac (pv 0) ag)))
  (aj (ax (fM (uV rG rG (nU T.cBl rfl) (pv 1) (nU T.cTi rfl)) (eM (ci oQ (pv 1) (nU T.cPc rfl) (aA _)))))),?_⟩
 refine ⟨_,rfl,_,rfl,rfl,?_⟩
 refine ⟨_,rfl,_,_,rfl,rfl,_,rfl,?_⟩
 have e0:((({cps:=#[c]}:Str).cps.getD 0 0:Nat):Int)=(c:Int):=rfl
 unfold qj at q
 by_cases h1:32<=c
 ·have d1:decide ((32:Int)<=(({cps:=#[c]}:Str).cps.getD 0 0:Nat))=true:=τ (by rw [e0];omega)
  rw [d1]
  refine cI ⟨_,_,rfl,rfl,_,rfl,?_⟩
  by_cases h2:c<=126
  ·have d2:decide (((({cps:=#[c]}:Str).cps.getD 0 0:Nat):Int)<=126)=true:=τ (by rw [e0];omega)
   rw [d2]
   refine cI ⟨_,rfl,rfl,?_⟩
   have e3:(!decide (V.int (({cps:=#[c]}:Str).cps.getD 0 0:Nat)=V.int 37))=(decide (32<=c)&&decide (c<=126)&&decide (c≠37)):=by
    rw [τ h1,τ h2,nZ,e0]
    by_cases h3:c=37
    ·subst h3;rfl
    ·have:((c:Int)==37)=false:=beq_eq_false_iff_ne.mpr ω
     rw [this,τ h3];rfl
   rw [e3]
   exact q
  ·have d2:decide (((({cps:=#[c]}:Str).cps.getD 0 0:Nat):Int)<=126)=false:=Γ (by rw [e0];omega)
   rw [d2]
   refine bj ?_
   rw [Γ h2,Bool.and_false,Bool.false_and] at q
   exact q
 ·have d1:decide ((32:Int)<=(({cps:=#[c]}:Str).cps.getD 0 0:Nat))=false:=Γ (by rw [e0];omega)
  rw [d1]
  refine bj ⟨_,rfl,bj ?_⟩
  rw [Γ h1,Bool.false_and,Bool.false_and] at q
  exact q
def ur(C:Addr):Sp:=λvs H Q _=>∃p dx z,vs=[.ref p,.str z]/\H p=some (.ins C dx [])/\Q .non (upd (upd H p (.ins C dx (aq "text" (.str z) []))) p (.ins C dx (rf z 0)))
theorem zb:au ["self","text"] ["self","text"] (defScope yx):=⟨rfl,rfl,rfl,θ,rfl,θ,θ⟩
theorem xx(F:Fun K "__init__" "Reader.__init__" yx f fd)(T:Tx K mg C):FnOk P w K mg base CX0 1 f fd ["self","text"] (ur C):=by
 refine F.ok zb (λvs H Q E h=>?_) (λcdv A outer s H vs Q E hr h=>?_)
 ·obtain ⟨p,dx,z,rfl,_⟩:=h
  rfl
 obtain ⟨p,dx,z,rfl,hp,q⟩:=h
 refine ⟨_,af (aM (pv 0) (pv 1) rfl) (aj (aM (pv 0) ao rfl)),?_⟩
 exact ⟨_,rfl,_,rfl,p,C,dx,[],rfl,hp,T.cl,T.nT,(by show 0<1000;decide),_,rfl,p,C,dx,_,rfl,ad,T.cl,T.nP,(by show 1<1000;decide),q⟩
theorem jX(z:Str)(c k:Nat):Txt.startswith3 z ⟨#[c]⟩ (k:Int)=decide (z.cps.toList[k]?=some c):=by
 have e1:fromIndex z.length (k:Int)=k:=by
  unfold fromIndex
  rw [if_neg ω]
  omega
 unfold Txt.startswith3
 rw [e1]
 have e2:(({cps:=#[c]}:Str)).length=1:=rfl
 rw [e2]
 by_cases h:k<z.length
 ·have h':k<z.cps.size:=h
  have e3:Builtin.Str.subAt z ⟨#[c]⟩ k=(z.cps[k]==c):=by
   unfold Builtin.Str.subAt
   rw [e2]
   have e4:z.cps.extract k (k+1)=#[z.cps[k]]:=by
    apply Array.ext
    ·simp;omega
    ·intro i h1 h2
     have:i=0:=by simp at h2;omega
     subst this
     simp
   rw [e4]
   simp
  rw [e3]
  have e5:decide (k+1<=z.length)=true:=τ h
  rw [e5,Bool.true_and]
  have e6:z.cps.toList[k]?=some z.cps[k]:=by rw [Array.getElem?_toList];exact Array.getElem?_eq_getElem h'
  rw [e6]
  simp [Bool.beq_eq_decide_eq]
 ·have e5:decide (k+1<=z.length)=false:=Γ ω
  rw [e5,Bool.false_and]
  have e6:z.cps.toList[k]?=none:=by rw [Array.getElem?_toList];exact Array.getElem?_eq_none (by show z.length<=k;omega)
  rw [e6]
  simp
def um(C:Addr):Sp:=λvs H Q _=>∃p dx z c,∃k:Nat,vs=[.ref p,.str ⟨#[c]⟩]/\H p=some (.ins C dx (rf z k)) /\
 (if z.cps.toList[k]?=some c then Q (.bl true) (upd H p (.ins C dx (rf z ((k+1:Nat):Int)))) else Q (.bl false) H)
theorem za:au ["self","sign"] ["self","sign"] (defScope yw):=⟨rfl,rfl,rfl,θ,rfl,θ,θ⟩
theorem xo(F:Fun K "passes" "Reader.passes" yw f fd)(T:Tx K mg C):FnOk P w K mg base CX0 1 f fd ["self","sign"] (um C):=by
 refine F.ok za (λvs H Q E h=>?_) (λcdv A outer s H vs Q E hr h=>?_)
 ·obtain ⟨p,dx,z,c,k,rfl,_⟩:=h
  rfl
 obtain ⟨p,dx,z,c,k,rfl,hp,q⟩:=h
 refine ⟨_,af (aI (ja (cu (gW PySem.F.plainAttrs_str PySem.F.slot_str_startswith PySem.F.type_str_startswith kJ (aw (pv 0) rfl) (ac (pv 1) (ac (aw (pv 0) rfl) ag))))) (aj (ax oO)) aC)
  (af (l4 (pv 0) ao vW) (aj (ax oO))),?_⟩
 refine ⟨_,rfl,p,C,dx,_,_,rfl,hp,T.cl,T.nT,gL _ _,rfl,_,rfl,_,rfl,p,C,dx,_,_,rfl,hp,T.cl,T.nP,ce _ _,_,_,_,rfl,rfl,_,rfl,?_⟩
 rw [jX]
 by_cases hk:z.cps.toList[k]?=some c
 ·rw [if_pos hk] at q
  rw [τ hk]
  refine bj ?_
  refine ⟨_,rfl,p,C,dx,_,_,rfl,hp,T.cl,T.nP,ce _ _,_,_,rfl,rfl,dx,_,hp,(by rw [p9];decide),?_⟩
  rw [p8]
  have e:((k:Int)+1)=((k+1:Nat):Int):=by omega
  rw [e]
  exact q
 ·rw [if_neg hk] at q
  rw [Γ hk]
  exact cI q
end
theorem jJ{x y:Str}(h:x.cps.toList=y.cps.toList):x=y:=by
 obtain ⟨a⟩:=x
 obtain ⟨b⟩:=y
 have:a=b:=Array.toList_inj.mp h
 rw [this]
theorem iF(z:Str):z.length=z.cps.toList.length:=by simp [Str.length]
theorem lV{z:Str}{pre ds post:List Nat}(e:z.cps.toList=pre++ds++post):Txt.slice z (some ((pre.length:Nat):Int)) (some (((pre.length+ds.length:Nat)):Int))=⟨ds.toArray⟩:=by
 have hl:z.cps.toList.length=pre.length+ds.length+post.length:=by rw [e];simp;omega
 have q:=PyProof.Rows.slice_closes (x:=z) (i:=((pre.length:Nat):Int)) (j:=((pre.length+ds.length:Nat):Int)) ⟨ω,ω,ω⟩
 rw [eq_of_beq q]
 refine jJ ?_
 have e1:(((pre.length+ds.length:Nat):Int)-((pre.length:Nat):Int)).toNat=ds.length:=by omega
 have e2:(((pre.length:Nat):Int)).toNat=pre.length:=by omega
 rw [e1,e2,e,List.append_assoc,List.drop_left,List.take_left]
theorem pX{z:Str}{pre ds post:List Nat}{i j:Int}(e:z.cps.toList=pre++ds++post)(hi:i=((pre.length:Nat):Int))(hj:j=((pre.length+ds.length:Nat):Int)):Txt.slice z (some i) (some j)=⟨ds.toArray⟩:=by
 subst hi hj
 exact lV e
theorem wL:∀c:Nat,c<128->Unicode.isDigit c=o7 c:=by decide +kernel
theorem jw{c:Nat}(h:c<128):Txt.isdigit ⟨#[c]⟩=o7 c:=by
 rw [← wL c h]
 unfold Txt.isdigit
 simp [Str.length]
def wF(ds:List Nat):Prop:=AllDigits ds/\ds≠[]/\ds.length<=400/\(ds=[48]\/∀c r,ds=c::r->c≠48)
def rZ(post:List Nat):Prop:=∀c r,post=c::r->c<128/\o7 c=false
def But(p:Addr)(H H':Hp):Prop:=∀b o,H b=some o->b≠p->H' b=some o
theorem But.refl(p:Addr)(H:Hp):But p H H:=λ_ _ e _=>e
theorem But.upd{p:Addr}{H H':Hp}(h:But p H H')(o:HO):But p H (L2.upd H' p o):=λb u e n=>by rw [am n];exact h b u e n
theorem But.trans{p:Addr}{H H1 H2:Hp}(a:But p H H1)(b:But p H1 H2):But p H H2:=λc o e n=>b c o (a c o e n) n
theorem wQ(x y:Str):Txt.startswith x y=Txt.startswith3 x y ((0:Nat):Int):=by
 unfold Txt.startswith Txt.startswith3
 have e:fromIndex x.length ((0:Nat):Int)=0:=by unfold fromIndex;simp
 rw [e]
section
variable {P:Program}{w:World}{K:Frag}{mg:Str->Option Value}{base:Heap}{f C:Addr}{fd:FuncData}
def uo(C:Addr):Sp:=λvs H Q _=>∃p dx z pre ds post,vs=[.ref p]/\z.cps.toList=pre++ds++post/\H p=some (.ins C dx (rf z (pre.length:Nat)))/\z.length<=100000/\wF ds/\rZ post /\
 ∀H',H' p=some (.ins C dx (rf z ((pre.length+ds.length:Nat):Int)))->But p H H'->Q (.int (digitsVal ds:Nat)) H'
theorem scNum:au ["self","start","figures"] ["self"] (defScope AK):=⟨rfl,rfl,rfl,θ,rfl,θ,θ⟩
theorem xX:(Str.ofString "")=⟨#[]⟩:=by decide +kernel
theorem wb:(Str.ofString "0")=⟨#[48]⟩:=by decide +kernel
def ou(K:Frag):TT:=AD (yn (tOp (rI0 λi j=>.bl (decide (i<j))) (su K (pL 0) "place") (tCB (λxs H Q=>∃z,xs=[.str z]/\z.length<=sizeLine/\Q (.int z.length) H) (yp (su K (pL 0) "text") uf))))
 (tB (AB K "str" (λx vs H Q=>∃z,x=.str z/\vs=[]/\Q (.bl (Txt.isdigit z)) H) (tOp AQ (su K (pL 0) "text") (su K (pL 0) "place"))))
theorem vJ{p dx:Addr}{z:Str}{pre ds post:List Nat}{j:Nat}{σ:St}{H1:Hp}{R:Bool->Hp->Prop}(T:Tx K mg C)(ez:z.cps.toList=pre++ds++post)(hz:z.length<=100000)(d1:AllDigits ds)(hpo:rZ post)(hj:j<=ds.length)
  (e0:σ[0]?=some (some (.ref p)))(hp1:H1 p=some (.ins C dx (rf z ((pre.length+j:Nat):Int))))(h:R (decide (j<ds.length)) H1):ou K σ H1 R:=by
 have hu:=iD
 have lz:z.length=pre.length+ds.length+post.length:=by rw [iF,ez];simp;omega
 refine ⟨_,e0,p,C,dx,_,_,rfl,hp1,T.cl,T.nP,ce _ _,_,e0,p,C,dx,_,_,rfl,hp1,T.cl,T.nT,gL _ _,_,rfl,ω,_,_,rfl,rfl,_,rfl,?_⟩
 by_cases hlt:(pre.length+j:Nat)<z.length
 ·rw [τ (show (((pre.length+j:Nat)):Int)<((z.length:Nat):Int) by omega)]
  have hlt':pre.length+j<z.cps.toList.length:=by rw [← iF];exact hlt
  obtain ⟨c,hc⟩:∃c,z.cps.toList[pre.length+j]?=some c:=⟨_,ξ hlt'⟩
  refine cI ⟨_,e0,p,C,dx,_,_,rfl,hp1,T.cl,T.nT,gL _ _,_,e0,p,C,dx,_,_,rfl,hp1,T.cl,T.nP,ce _ _,z,_,c,rfl,rfl,ω,bp hc,rfl,_,rfl,rfl,_,rfl,?_⟩
  by_cases hjd:j<ds.length
  ·have ec:ds[j]?=some c:=by
    rw [ez,List.append_assoc,List.getElem?_append_right ω,List.getElem?_append_left ω] at hc
    rw [← hc];congr 1;omega
   have dc:48<=c/\c<=57:=d1 c (List.mem_of_getElem? ec)
   have e1:Txt.isdigit ⟨#[c]⟩=true:=by rw [jw ω];unfold o7;rw [decide_eq_true dc.1,decide_eq_true dc.2];rfl
   rw [τ hjd] at h
   rw [e1]
   exact h
  ·have hjd':j=ds.length:=by omega
   have ec:post[0]?=some c:=by
    rw [ez,List.getElem?_append_right (by rw [List.length_append];omega)] at hc
    rw [← hc];congr 1;rw [List.length_append];omega
   have hp2:c<128/\o7 c=false:=by
    cases post with
    | nil=>cases ec
    | cons a r=>exact hpo c r (by rw [show a=c by simpa using ec])
   have e1:Txt.isdigit ⟨#[c]⟩=false:=by rw [jw hp2.1];exact hp2.2
   rw [Γ hjd] at h
   rw [e1]
   exact h
 ·rw [Γ (show ¬(((pre.length+j:Nat)):Int)<((z.length:Nat):Int) by omega)]
  rw [Γ (show ¬j<ds.length by omega)] at h
  exact bj h
theorem zx(F:Fun K "read_number" "Reader.read_number" AK f fd)(T:Tx K mg C):FnOk P w K mg base CX0 1 f fd ["self"] (uo C):=by
 refine F.ok scNum (λvs H Q E h=>?_) (λcdv A outer s H vs Q E hr h=>?_)
 ·obtain ⟨p,dx,z,pre,ds,post,rfl,_⟩:=h
  rfl
 obtain ⟨p,dx,z,pre,ds,post,rfl,ez,hp,hz,hds,hpo,q⟩:=h
 obtain ⟨d1,d2,d3,d4⟩:=hds
 have hu:=iD
 have lz:z.length=pre.length+ds.length+post.length:=by rw [iF,ez];simp;omega
 refine ⟨_,af (aH (i:=1) scNum.nd rfl (Or.inl rfl) (aw (pv 0) rfl))
  (af (uM (tc:=ou K) PassesOwn.never (PW.pt (gz (az oR (aw (pv 0) rfl) (aF br rfl T.len PySem.boot_len (ac (aw (pv 0) rfl) ag)) (aA _))
    (fJ (cu (zq PySem.F.plainAttrs_str PySem.F.slot_str_isdigit PySem.F.type_str_isdigit qo (ay vV (aw (pv 0) rfl) (aw (pv 0) rfl) (λ_ _=>rfl)))))))
   (aj (l4 (pv 0) ao vW)))
  (af (aH (i:=2) scNum.nd rfl (Or.inl rfl) (io uy (aw (pv 0) rfl) (eA (pv 1)) (eA (aw (pv 0) rfl))))
  (af (aI (az bH (pv 2) aD (aA _)) aJ aC)
  (af (aI (az kD (aF br rfl T.len PySem.boot_len (ac (pv 2) ag)) (nU T.cFig rfl) (aA _)) aJ aC)
  (af (aI (PW.pt (gz (cu (gW PySem.F.plainAttrs_str PySem.F.slot_str_startswith PySem.F.type_str_startswith lG (pv 2) (ac aD ag))) (fJ (az oQ (pv 2) aD (aA _))))) aJ aC)
  (aj (ax (bc cL rfl T.int PyProof.Rows.boot_int (ac (pv 2) ag))))))))),?_⟩
 refine ⟨_,rfl,p,C,dx,_,_,rfl,hp,T.cl,T.nP,ce _ _,?_⟩
 refine ⟨λm σ H1=>∃j,m=ds.length-j/\j<=ds.length/\σ=[some (.ref p),some (.int (pre.length:Nat)),none]/\H1 p=some (.ins C dx (rf z ((pre.length+j:Nat):Int)))/\But p H H1,
  ⟨ds.length,0,rfl,Nat.zero_le _,rfl,hp,But.refl p H⟩,?_⟩
 rintro m σ H1 ⟨j,rfl,hj,rfl,hp1,bt⟩
 refine vJ T ez hz d1 hpo hj rfl hp1 ?_
 by_cases hjd:j<ds.length
 ·rw [τ hjd]
  refine cI ⟨_,fun σ' H' h=>h,?_⟩
  refine ⟨_,rfl,p,C,dx,_,_,rfl,hp1,T.cl,T.nP,ce _ _,_,_,rfl,rfl,dx,_,hp1,(by rw [p9];decide),?_⟩
  refine ⟨ds.length-(j+1),ω,j+1,rfl,hjd,rfl,?_,bt.upd _⟩
  rw [ad,p8]
  have e:(((pre.length+j:Nat)):Int)+1=((pre.length+(j+1):Nat):Int):=by omega
  rw [e]
 ·rw [Γ hjd]
  obtain rfl:j=ds.length:=by omega
  refine bj ?_
  refine ⟨_,rfl,p,C,dx,_,_,rfl,hp1,T.cl,T.nT,gL _ _,_,rfl,_,rfl,_,rfl,p,C,dx,_,_,rfl,hp1,T.cl,T.nP,ce _ _,_,rfl,z,rfl,ω,?_⟩
  rw [lV ez]
  have dl:(({cps:=ds.toArray}:Str)).length=ds.length:=by simp [Str.length]
  refine ⟨_,rfl,rfl,_,rfl,?_⟩
  have n1:¬(V.str ({cps:=ds.toArray}:Str)=V.str (Str.ofString "")):=by
   intro e
   have e':(({cps:=ds.toArray}:Str))=Str.ofString "":=by injection e
   rw [xX] at e'
   have e2:=congrArg (λs:Str=>s.cps.toList) e'
   exact d2 (by simpa using e2)
  rw [Γ n1]
  refine bj ?_
  refine ⟨_,rfl,_,rfl,ω,_,_,rfl,rfl,_,rfl,?_⟩
  rw [Γ (show ¬((400:Int)<((({cps:=ds.toArray}:Str)).length:Nat)) by rw [dl];omega)]
  refine bj ?_
  have it:PySem.intText? ({cps:=ds.toArray}:Str)=some ((digitsVal ds:Nat):Int):=by
   have:=intText_digits (x:=({cps:=ds.toArray}:Str)) (by simpa using d1) (by simpa using d2) (by rw [dl];omega)
   simpa using this
  refine ⟨_,rfl,rfl,_,_,rfl,rfl,_,rfl,?_⟩
  have hs:Txt.startswith ({cps:=ds.toArray}:Str) (Str.ofString "0")=decide (ds[0]?=some 48):=by
   rw [wb,wQ,jX]
  rw [hs]
  rcases d4 with e4 | h4
  ·subst e4
   refine cI ⟨_,rfl,rfl,_,rfl,?_⟩
   have n3:V.str ({cps:=([48]:List Nat).toArray}:Str)=V.str (Str.ofString "0"):=by rw [wb]
   rw [τ n3]
   exact bj ⟨_,rfl,_,_,rfl,it,by rw [dl];omega,q H1 hp1 bt⟩
  ·have n4:¬ds[0]?=some 48:=by
    cases ds with
    | nil=>exact absurd rfl d2
    | cons c r=>intro e;exact h4 c r rfl (by simpa using e)
   rw [Γ n4]
   exact bj (bj ⟨_,rfl,_,_,rfl,it,by rw [dl];omega,q H1 hp1 bt⟩)
def qW(C:Addr):Sp:=λvs H Q _=>∃p dx z pre ws post,vs=[.ref p,.int ((ws:List Nat).length:Nat)]/\z.cps.toList=pre++ws++post/\H p=some (.ins C dx (rf z (pre.length:Nat)))/\z.length<=100000/\ws.length<=2000 /\
 ∀H',H' p=some (.ins C dx (rf z ((pre.length+ws.length:Nat):Int)))->But p H H'->Q (.str ⟨ws.toArray⟩) H'
theorem scSigns:au ["self","many","behind","signs"] ["self","many"] (defScope uF):=⟨rfl,rfl,rfl,θ,rfl,θ,θ⟩
theorem vb(F:Fun K "read_signs" "Reader.read_signs" uF f fd)(T:Tx K mg C):FnOk P w K mg base CX0 1 f fd ["self","many"] (qW C):=by
 refine F.ok scSigns (λvs H Q E h=>?_) (λcdv A outer s H vs Q E hr h=>?_)
 ·obtain ⟨p,dx,z,pre,ws,post,rfl,_⟩:=h
  rfl
 obtain ⟨p,dx,z,pre,ws,post,rfl,ez,hp,hz,hw,q⟩:=h
 have hu:=iD
 have lz:z.length=pre.length+ws.length+post.length:=by rw [iF,ez];simp;omega
 refine ⟨_,af (aH (i:=2) scSigns.nd rfl (Or.inl rfl) (aG cZ (aw (pv 0) rfl) (pv 1)))
  (af (aI (az kD (pv 1) (nU T.cSig rfl) (aA _)) aJ aC)
  (af (aI (az kD (pv 2) (aF br rfl T.len PySem.boot_len (ac (aw (pv 0) rfl) ag)) (aA _)) aJ aC)
  (af (aH (i:=3) scSigns.nd rfl (Or.inl rfl) (io uy (aw (pv 0) rfl) (eA (aw (pv 0) rfl)) (eA (pv 2))))
  (af (aM (pv 0) (pv 2) rfl)
  (aj (ax (pv 3))))))),?_⟩
 refine ⟨_,rfl,p,C,dx,_,_,rfl,hp,T.cl,T.nP,ce _ _,_,rfl,_,_,rfl,rfl,?_⟩
 refine ⟨_,rfl,_,_,rfl,rfl,_,rfl,?_⟩
 rw [Γ (show ¬((2000:Int)<((ws.length:Nat):Int)) by omega)]
 refine bj ⟨_,rfl,_,rfl,p,C,dx,_,_,rfl,hp,T.cl,T.nT,gL _ _,z,rfl,ω,_,_,rfl,rfl,_,rfl,?_⟩
 have eb:((pre.length:Nat):Int)+((ws.length:Nat):Int)=((pre.length+ws.length:Nat):Int):=by omega
 rw [eb]
 rw [Γ (show ¬(((z.length:Nat):Int)<((pre.length+ws.length:Nat):Int)) by omega)]
 refine bj ⟨_,rfl,p,C,dx,_,_,rfl,hp,T.cl,T.nT,gL _ _,_,rfl,p,C,dx,_,_,rfl,hp,T.cl,T.nP,ce _ _,_,rfl,_,rfl,_,rfl,z,rfl,ω,?_⟩
 rw [pX ez rfl eb]
 refine ⟨_,rfl,_,rfl,p,C,dx,_,rfl,hp,T.cl,T.nP,(by rw [p9];decide),_,rfl,?_⟩
 refine q _ ?_ ((But.refl p H).upd _)
 rw [ad,← eb]
 exact congrArg (λl=>some (HO.ins C dx l)) (p8 z _ _)
def ra(C:Addr):Sp:=λvs H Q _=>∃p dx z pre ds post,vs=[.ref p]/\z.cps.toList=pre++ds++post/\H p=some (.ins C dx (rf z (pre.length:Nat)))/\z.length<=100000/\wF ds/\rZ post/\digitsVal ds≠0 /\
 ∀H',H' p=some (.ins C dx (rf z ((pre.length+ds.length:Nat):Int)))->But p H H'->Q (.int (-((digitsVal ds:Nat):Int))) H'
theorem scBelow:au ["self","number"] ["self"] (defScope uG):=⟨rfl,rfl,rfl,θ,rfl,θ,θ⟩
theorem vH{fN:Addr}{dN:FuncData}(F:Fun K "read_below" "Reader.read_below" uG f fd)(T:Tx K mg C)(GN:FnOk P w K mg base CX0 1 fN dN ["self"] (uo C))(bN:Binds K dN ["self"] [])(mN:gr K C "read_number" fN) :
  FnOk P w K mg base CX0 2 f fd ["self"] (ra C):=by
 refine F.ok scBelow (λvs H Q E h=>?_) (λcdv A outer s H vs Q E hr h=>?_)
 ·obtain ⟨p,dx,z,pre,ds,post,rfl,_⟩:=h
  rfl
 obtain ⟨p,dx,z,pre,ds,post,rfl,ez,hp,hz,hds,hpo,hne,q⟩:=h
 refine ⟨_,af (aH (i:=1) scBelow.nd rfl (Or.inl rfl) (ip (pv 0) T.cl mN GN hr bN .nil be))
  (af (aI (az bH (pv 1) ao (aA _)) aJ aC)
  (aj (ax (AR yM (pv 1))))),?_⟩
 refine ⟨_,rfl,p,dx,_,rfl,hp,lX _ _ θ θ,p,dx,z,pre,ds,post,rfl,ez,hp,hz,hds,hpo,λH1 hp1 bt=>?_⟩
 refine ⟨_,rfl,rfl,_,rfl,?_⟩
 have n1:¬(V.int ((digitsVal ds:Nat):Int)=V.int 0):=by intro e;injection e with e;omega
 rw [Γ n1]
 exact bj ⟨_,rfl,_,rfl,q H1 hp1 bt⟩
end
inductive yj:List Nat->V->Prop where
 | num (n:Int) (h:n.natAbs<10 ^ 400):yj (bT n) (.int n)
 | txt (ws:List Nat) (h:ws.length<=2000):yj (bn ws.length++58::ws) (.str ⟨ws.toArray⟩)
def Ends(post:List Nat):Prop:=∀c r,post=c::r->c=32\/c=41
theorem kZ(m:Nat)(h:m<10 ^ 400):wF (bn m):=by
 refine ⟨fj m,iI m,k9 ζ h,?_⟩
 by_cases h0:m=0
 ·subst h0;exact .inl tq
 ·exact .inr (tw m h0)
theorem Ends.stops{post:List Nat}(h:Ends post):rZ post:=λc r e=>by
 rcases h c r e with rfl | rfl<;>exact ⟨ζ,ζ⟩
theorem qD:(Str.ofString "(")=⟨#[40]⟩:=by decide +kernel
theorem nY:(Str.ofString "-")=⟨#[45]⟩:=by decide +kernel
theorem rS:(Str.ofString ":")=⟨#[58]⟩:=by decide +kernel
theorem qJ{z:Str}{pre rest:List Nat}(e:z.cps.toList=pre++rest):z.cps.toList[pre.length]?=rest[0]?:=by
 rw [e,List.getElem?_append_right (ι _),Nat.sub_self]
theorem mo(m:Nat):∃c r,bn m=c::r/\48<=c/\c<=57:=by
 cases e:bn m with
 | nil=>exact absurd e (iI m)
 | cons c r =>
  have h:=fj m
  rw [e] at h
  exact ⟨c,r,rfl,h.head⟩
section
variable {P:Program}{w:World}{K:Frag}{mg:Str->Option Value}{base:Heap}{f C:Addr}{fd:FuncData}
def yr(C:Addr):Sp:=λvs H Q _=>∃p dx z pre it post v d,vs=[.ref p,d]/\z.cps.toList=pre++it++post/\H p=some (.ins C dx (rf z ((pre:List Nat).length:Nat)))/\z.length<=100000/\yj it v/\Ends post /\
 ∀H',H' p=some (.ins C dx (rf z ((pre.length+it.length:Nat):Int)))->But p H H'->Q v H'
theorem scAny:au ["self","deep","number"] ["self","deep"] (defScope AN):=⟨rfl,rfl,rfl,θ,rfl,θ,θ⟩
theorem zE{fP fB fN fS:Addr}{dP dB dN dS:FuncData}(F:Fun K "read_any" "Reader.read_any" AN f fd)(T:Tx K mg C)
  (GP:FnOk P w K mg base CX0 1 fP dP ["self","sign"] (um C))(bP:Binds K dP ["self","sign"] [])(mP:gr K C "passes" fP)
  (GB:FnOk P w K mg base CX0 2 fB dB ["self"] (ra C))(bB:Binds K dB ["self"] [])(mB:gr K C "read_below" fB)
  (GN:FnOk P w K mg base CX0 1 fN dN ["self"] (uo C))(bN:Binds K dN ["self"] [])(mN:gr K C "read_number" fN)
  (GS:FnOk P w K mg base CX0 1 fS dS ["self","many"] (qW C))(bS:Binds K dS ["self","many"] [])(mS:gr K C "read_signs" fS) :
  FnOk P w K mg base CX0 3 f fd ["self","deep"] (yr C):=by
 refine F.ok scAny (λvs H Q E h=>?_) (λcdv A outer s H vs Q E hr h=>?_)
 ·obtain ⟨p,dx,z,pre,it,post,v,d,rfl,_⟩:=h
  rfl
 obtain ⟨p,dx,z,pre,it,post,v,d,rfl,ez,hp,hz,hit,hen,q⟩:=h
 have hr1:=hr.mono (show 1<=2 by decide)
 have np:∀(k:Int),(rf z k).lookup ("passes":Str)=none:=λk=>lX _ _ θ θ
 have nn:∀(k:Int),(rf z k).lookup ("read_number":Str)=none:=λk=>lX _ _ θ θ
 have nb:∀(k:Int),(rf z k).lookup ("read_below":Str)=none:=λk=>lX _ _ θ θ
 have ns:∀(k:Int),(rf z k).lookup ("read_signs":Str)=none:=λk=>lX _ _ θ θ
 refine ⟨_,af (aI (cu (gN (pv 0) T.cl mP GP hr1 bP .nil be (ac aD ag))) aJ aC)
  (af (aI (cu (gN (pv 0) T.cl mP GP hr1 bP .nil be (ac aD ag))) (aj (ax (ip (pv 0) T.cl mB GB hr bB .nil be))) aC)
  (af (aH (i:=2) scAny.nd rfl (Or.inl rfl) (ip (pv 0) T.cl mN GN hr1 bN .nil be))
  (af (aI (cu (gN (pv 0) T.cl mP GP hr1 bP .nil be (ac aD ag))) (aj (ax (gN (pv 0) T.cl mS GS hr1 bS .nil be (ac (pv 2) ag)))) aC)
  (aj (ax (pv 2)))))),?_⟩
 have ez':z.cps.toList=pre++(it++post):=by rw [ez,List.append_assoc]
 have h0:=qJ ez'
 cases hit with
 | num n hn =>
  by_cases hneg:n<0
  ·have en:bT n=45::bn n.natAbs:=by unfold bT;rw [if_pos hneg]
   rw [en] at ez ez' q h0
   have h0':z.cps.toList[pre.length]?=some 45:=h0
   refine ⟨_,rfl,p,dx,_,rfl,hp,np _,p,dx,z,40,pre.length,(by rw [qD];rfl),hp,?_⟩
   rw [if_neg (by rw [h0'];decide)]
   refine ⟨_,rfl,bj ?_⟩
   refine ⟨_,rfl,p,dx,_,rfl,hp,np _,p,dx,z,45,pre.length,(by rw [nY];rfl),hp,?_⟩
   rw [if_pos h0']
   refine ⟨_,rfl,cI ?_⟩
   refine ⟨_,rfl,p,dx,_,rfl,ad,nb _,p,dx,z,pre++[45],bn n.natAbs,post,rfl,(by rw [ez];simp),(by rw [ad];simp),hz,kZ _ hn,hen.stops,(by rw [fh];omega),λH' hp' bt=>?_⟩
   have e1:(-((digitsVal (bn n.natAbs):Nat):Int))=n:=by rw [fh];omega
   rw [e1]
   refine q H' ?_ (((But.refl p H).upd _).trans bt)
   rw [hp']
   have e2:(pre++[45]).length+(bn n.natAbs).length=pre.length+(45::bn n.natAbs).length:=by simp;omega
   rw [e2]
  ·have en:bT n=bn n.natAbs:=by unfold bT;rw [if_neg hneg]
   rw [en] at ez ez' q h0
   obtain ⟨c,r,ec,hc⟩:=mo n.natAbs
   have h0':z.cps.toList[pre.length]?=some c:=by rw [h0,ec];rfl
   refine ⟨_,rfl,p,dx,_,rfl,hp,np _,p,dx,z,40,pre.length,(by rw [qD];rfl),hp,?_⟩
   rw [if_neg (by rw [h0'];intro e;injection e with e;omega)]
   refine ⟨_,rfl,bj ?_⟩
   refine ⟨_,rfl,p,dx,_,rfl,hp,np _,p,dx,z,45,pre.length,(by rw [nY];rfl),hp,?_⟩
   rw [if_neg (by rw [h0'];intro e;injection e with e;omega)]
   refine ⟨_,rfl,bj ?_⟩
   refine ⟨_,rfl,p,dx,_,rfl,hp,nn _,p,dx,z,pre,bn n.natAbs,post,rfl,ez,hp,hz,kZ _ hn,hen.stops,λH1 hp1 bt=>?_⟩
   have h1:z.cps.toList[pre.length+(bn n.natAbs).length]?=post[0]?:=by
    have:=qJ (z:=z) (pre:=pre++bn n.natAbs) (rest:=post) ez
    rw [List.length_append] at this
    exact this
   refine ⟨_,rfl,p,dx,_,rfl,hp1,np _,p,dx,z,58,pre.length+(bn n.natAbs).length,(by rw [rS];rfl),hp1,?_⟩
   rw [if_neg (by
    rw [h1]
    intro e
    cases post with
    | nil=>cases e
    | cons a r' =>
     have:=hen a r' rfl
     have ea:a=58:=by simpa using e
     omega)]
   refine ⟨_,rfl,bj ⟨_,rfl,?_⟩⟩
   have e1:((digitsVal (bn n.natAbs):Nat):Int)=n:=by rw [fh];omega
   rw [e1]
   exact q H1 hp1 bt
 | txt ws hw =>
  obtain ⟨c,r,ec,hc⟩:=mo ws.length
  have h0':z.cps.toList[pre.length]?=some c:=by rw [h0,ec];rfl
  refine ⟨_,rfl,p,dx,_,rfl,hp,np _,p,dx,z,40,pre.length,(by rw [qD];rfl),hp,?_⟩
  rw [if_neg (by rw [h0'];intro e;injection e with e;omega)]
  refine ⟨_,rfl,bj ?_⟩
  refine ⟨_,rfl,p,dx,_,rfl,hp,np _,p,dx,z,45,pre.length,(by rw [nY];rfl),hp,?_⟩
  rw [if_neg (by rw [h0'];intro e;injection e with e;omega)]
  refine ⟨_,rfl,bj ?_⟩
  have hl:ws.length<10 ^ 400:=Nat.lt_of_le_of_lt hw θ
  have ez2:z.cps.toList=pre++bn ws.length++(58::(ws++post)):=by rw [ez];simp
  refine ⟨_,rfl,p,dx,_,rfl,hp,nn _,p,dx,z,pre,bn ws.length,58::(ws++post),rfl,ez2,hp,hz,kZ _ hl,λc' r' e=>(by cases e;exact ⟨ζ,ζ⟩),λH1 hp1 bt=>?_⟩
  have h1:z.cps.toList[pre.length+(bn ws.length).length]?=some 58:=by
   have:=qJ (z:=z) (pre:=pre++bn ws.length) (rest:=58::(ws++post)) ez2
   rw [List.length_append] at this
   exact this
  refine ⟨_,rfl,p,dx,_,rfl,hp1,np _,p,dx,z,58,pre.length+(bn ws.length).length,(by rw [rS];rfl),hp1,?_⟩
  rw [if_pos h1]
  refine ⟨_,rfl,cI ?_⟩
  have el:(pre++bn ws.length++[58]).length=pre.length+(bn ws.length).length+1:=by simp;omega
  refine ⟨_,rfl,p,dx,_,rfl,ad,ns _,_,rfl,p,dx,z,pre++bn ws.length++[58],ws,post,(by rw [fh];rfl),(by rw [ez2];simp),(by rw [ad,el]),hz,hw,λH2 hp2 bt2=>?_⟩
  refine q H2 ?_ ((bt.upd _).trans bt2)
  rw [hp2]
  have e2:(pre++bn ws.length++[58]).length+ws.length=pre.length+(bn ws.length++58::ws).length:=by simp;omega
  rw [e2]
def pO:Sp:=λvs H Q _=>∃z v,vs=[.str z]/\yj z.cps.toList v/\(∀c∈z.cps.toList,qj c=true)/\z.length<=100000/\∀H',Same H H'->Q v H'
theorem scRead:au ["text","reader","thing"] ["text"] (defScope rj):=⟨rfl,rfl,rfl,θ,rfl,θ,θ⟩
def uI:Scope:=match defBody rj with
 | _::.If (.UnaryOp _ (.Call _ [.ListComp _ _ sc _] _ _) _) _ _ _::_=>sc
 | _=>default
theorem zc:bF ["text","reader","thing"] (defScope rj) uI "sign" ["sign"] []:=⟨θ,rfl,θ,rfl,θ,θ,rfl,rfl,λj h=>absurd h (Nat.not_lt_zero j)⟩
theorem xm{fG fI fA:Addr}{dG dI dA:FuncData}(F:Fun K "read_thing" "read_thing" rj f fd)(T:Tx K mg C)(M:Mk K C fI)
  (GG:FnOk P w K mg base CX0 1 fG dG ["sign"] ul)(bG:Binds K dG ["sign"] [])(kG:PySem.W.keepIn K (.ref fG)=true)(mG:mg "is_sign"=some (.ref fG))
  (GI:FnOk P w K mg base CX0 1 fI dI ["self","text"] (ur C))(bI:Binds K dI ["self","text"] [])
  (GA:FnOk P w K mg base CX0 3 fA dA ["self","deep"] (yr C))(bA:Binds K dA ["self","deep"] [])(mA:gr K C "read_any" fA) :
  FnOk P w K mg base CX0 4 f fd ["text"] pO:=by
 refine F.ok scRead (λvs H Q E h=>?_) (λcdv A outer s H vs Q E hr h=>?_)
 ·obtain ⟨z,v,rfl,_⟩:=h
  rfl
 obtain ⟨z,v,rfl,hit,hok,hz,q⟩:=h
 have hr1:=hr.mono (show 1<=3 by decide)
 have hr2:=hr.mono (show 2<=3 by decide)
 have hu:=iD
 refine ⟨_,af (aI (az kD (aF br rfl T.len PySem.boot_len (ac (pv 0) ag)) (nU T.cLong rfl) (aA _)) aJ aC)
  (af (aI (ja (cu (aF (pw rfl) rfl T.all PyProof.Rows.boot_all (ac (iq zc rfl (zn (pv 0)) (λ_ _ _ _=>eg) (λ_ _ _ _=>rE GG hr1 rfl mG kG bG .nil be (ac (pv 0) ag))) ag)))) aJ aC)
  (af (aH (i:=1) scRead.nd rfl (Or.inl rfl) (bh M GI hr2 rfl T.mgC bI .nil be (ac (pv 0) ag)))
  (af (aH (i:=2) scRead.nd rfl (Or.inl rfl) (gN (pv 1) T.cl mA GA hr bA .nil be (ac (nU T.cDeep rfl) ag)))
  (af (aI (az oQ (aw (pv 1) rfl) (aF br rfl T.len PySem.boot_len (ac (pv 0) ag)) (aA _)) aJ aC)
  (aj (ax (pv 2))))))),?_⟩
 refine ⟨_,rfl,z,rfl,ω,_,_,rfl,rfl,_,rfl,?_⟩
 rw [Γ (show ¬((100000:Int)<((z.length:Nat):Int)) by omega)]
 refine bj ?_
 refine ⟨_,rfl,z,rfl,λi ys H1=>i<=z.length/\ys=List.replicate i (V.bl true)/\H1=H,z.length,⟨Nat.zero_le _,rfl,rfl⟩,ω,?_⟩
 rintro i ys H1 ⟨hi,rfl,rfl⟩
 by_cases hlt:i<z.length
 ·refine .inr ⟨hlt,hlt,?_⟩
  rintro x H2 ⟨rfl,c,hc,rfl⟩
  refine ⟨_,rfl,c,rfl,hlt,?_,rfl⟩
  rw [hok c (List.mem_of_getElem? hc),List.replicate_succ']
 refine .inl ⟨by show z.length<=i;omega,λl hl=>?_⟩
 have e0:List.replicate i (V.bl true)=(List.replicate i true).map V.bl:=by simp
 refine ⟨l,List.replicate i true,rfl,SqL.of (by rw [ad,e0]),_,rfl,?_⟩
 have e1:(List.replicate i true).all id=true:=by simp
 rw [e1]
 refine bj ?_
 have sl:Same H1 (upd H1 l (.lst (List.replicate i (V.bl true)))):=λb o e=>by rw [am (ae e hl)];exact e
 refine ⟨_,rfl,λx dx nx ndx nex=>⟨x,dx,z,rfl,ad,rfl,?_⟩⟩
 refine ⟨_,rfl,x,dx,_,rfl,ad,lX _ _ θ θ,x,dx,z,[],z.cps.toList,[],v,_,rfl,(by simp),ad,hz,hit,(λc r e=>nomatch e),λH3 hx3 bt3=>?_⟩
 refine ⟨_,rfl,x,C,dx,_,_,rfl,hx3,T.cl,T.nP,ce _ _,_,rfl,z,rfl,ω,rfl,_,rfl,?_⟩
 have e2:V.int ((([]:List Nat).length+z.cps.toList.length:Nat):Int)=V.int ((z.length:Nat):Int):=by rw [iF];simp
 rw [τ e2]
 refine bj ⟨_,rfl,q H3 λb o e=>?_⟩
 have e3:=sl b o e
 have nb1:b≠x:=ae e3 nx
 have nb2:b≠dx:=ae e3 ndx
 refine bt3 b o ?_ nb1
 rw [am nb1,am nb1,am nb1,am nb2]
 exact e3
end
end K51T
namespace K51
open PySem L2 Lo St
section
variable {P:Program}{w:World}{K:Frag}{mg:Str->Option Value}{base:Heap}{f CL CS CH CV:Addr}{fd:FuncData}{C:Kd->Addr}{CW:Wd->Addr}
theorem xq(F:Fun K "made_sum" "made_sum" hU f fd)(I:WI P w K mg base CW .sum):FnOk P w K mg base CX0 4 f fd ["where","low","high"] (pS CW):=by
 refine F.ok oA (λvs H Q E h=>?_) (λcdv A outer s H vs Q E hr h=>?_)
 ·obtain ⟨x,y,z,rfl,_⟩:=h
  rfl
 obtain ⟨x,y,z,rfl,ar,q⟩:=h
 have hr1:Room (2+1) _:=hr
 refine ⟨_,af (aI (az kD (pv 1) (pv 2) (aA _)) aJ aC) (aj (ax (bh I.M I.ok hr1 rfl I.m I.b .nil be (ac (pv 0) (ac (pv 1) (ac (pv 2) ag)))))),?_⟩
 have hle:y<=z:=ar.2.2.2
 refine ⟨_,rfl,_,rfl,_,_,rfl,rfl,_,rfl,aU (λc=>absurd (Ξ c) (show ¬z<y by omega)) (λ_=>?_)⟩
 exact ⟨_,rfl,_,rfl,_,rfl,λp dp np ndp nep=>⟨p,dp,[x,y,z],rfl,ar,ad,λH' h1 h2=>⟨rfl,q _ H' (kK np ndp h2) ⟨p,dp,rfl,h1⟩⟩⟩⟩
theorem vg(F:Fun K "made_step" "made_step" gx f fd)(I:∀wd,WI P w K mg base CW wd)(GS:GF P w K mg base CX0 4 "made_sum" ["where","low","high"] (pS CW)):FnOk P w K mg base CX0 5 f fd ["word","numbers"] (pR CW):=by
 refine F.ok mU (λvs H Q E h=>?_) (λcdv A outer s H vs Q E hr h=>?_)
 ·obtain ⟨wd,b,ns,rfl,_⟩:=h
  rfl
 obtain ⟨wd,b,ns,rfl,hb,ar,q⟩:=h
 have hr1:Room (2+1) _:=hr.mono ζ
 refine ⟨_,(af (aI (az bH (pv 0) aD (aA _)) (aj (ax (bh (I .take).M (I .take).ok hr1 rfl (I .take).m (I .take).b .nil be (ac (ay (r:=bQ K) aE (pv 1) ao (λ_ _=>rfl)) (ac (ay (r:=bQ K) aE (pv 1) ao (λ_ _=>rfl)) ag))))) aC)
  (af (aI (az bH (pv 0) aD (aA _)) (aj (ax (bh (I .mean).M (I .mean).ok hr1 rfl (I .mean).m (I .mean).b .nil be (ac (ay (r:=bQ K) aE (pv 1) ao (λ_ _=>rfl)) (ac (ay (r:=bQ K) aE (pv 1) ao (λ_ _=>rfl)) ag))))) aC)
  (af (aI (az bH (pv 0) aD (aA _)) (aj (ax (pc GS hr (ac (ay (r:=bQ K) aE (pv 1) ao (λ_ _=>rfl)) (ac (ay (r:=bQ K) aE (pv 1) ao (λ_ _=>rfl)) (ac (ay (r:=bQ K) aE (pv 1) ao (λ_ _=>rfl)) ag)))))) aC)
  (af (aI (az bH (pv 0) aD (aA _)) (aj (ax (bh (I .give).M (I .give).ok hr1 rfl (I .give).m (I .give).b .nil be (ac (ay (r:=bQ K) aE (pv 1) ao (λ_ _=>rfl)) (ac (ay (r:=bQ K) aE (pv 1) ao (λ_ _=>rfl)) ag))))) aC)
  (af (aI (az bH (pv 0) aD (aA _)) (aj (ax (bh (I .add).M (I .add).ok hr1 rfl (I .add).m (I .add).b .nil be (ac (ay (r:=bQ K) aE (pv 1) ao (λ_ _=>rfl)) (ac (ay (r:=bQ K) aE (pv 1) ao (λ_ _=>rfl)) (ac (ay (r:=bQ K) aE (pv 1) ao (λ_ _=>rfl)) ag)))))) aC)
  (af (aI (az bH (pv 0) aD (aA _)) (aj (ax (bh (I .plus).M (I .plus).ok hr1 rfl (I .plus).m (I .plus).b .nil be (ac (ay (r:=bQ K) aE (pv 1) ao (λ_ _=>rfl)) ag)))) aC)
  (aj (ax (bh (I .need).M (I .need).ok hr1 rfl (I .need).m (I .need).b .nil be (ac (ay (r:=bQ K) aE (pv 1) ao (λ_ _=>rfl)) ag)))))))))),?_⟩
 refine ⟨_,rfl,rfl,_,rfl,aU (λc=>?_) (λc0=>?_)⟩
 ·obtain rfl:wd=.take:=gg c
  obtain ⟨x,y,rfl,_⟩:=ar.c rfl
  exact ⟨_,rfl,b,_,_,_,rfl,rfl,SqL.of hb,rfl,_,rfl,b,_,_,_,rfl,rfl,SqL.of hb,rfl,λp dp np ndp nep=>⟨p,dp,[x,y],rfl,ar,ad,λH' h1 h2=>⟨rfl,q _ H' (kK np ndp h2) ⟨p,dp,rfl,h1⟩⟩⟩⟩
 refine ⟨_,rfl,rfl,_,rfl,aU (λc=>?_) (λc1=>?_)⟩
 ·obtain rfl:wd=.mean:=gg c
  obtain ⟨x,y,rfl,_⟩:=ar.c rfl
  exact ⟨_,rfl,b,_,_,_,rfl,rfl,SqL.of hb,rfl,_,rfl,b,_,_,_,rfl,rfl,SqL.of hb,rfl,λp dp np ndp nep=>⟨p,dp,[x,y],rfl,ar,ad,λH' h1 h2=>⟨rfl,q _ H' (kK np ndp h2) ⟨p,dp,rfl,h1⟩⟩⟩⟩
 refine ⟨_,rfl,rfl,_,rfl,aU (λc=>?_) (λc2=>?_)⟩
 ·obtain rfl:wd=.sum:=gg c
  obtain ⟨x,y,z,rfl,_⟩:=ar.s
  exact ⟨_,rfl,b,_,_,_,rfl,rfl,SqL.of hb,rfl,_,rfl,b,_,_,_,rfl,rfl,SqL.of hb,rfl,_,rfl,b,_,_,_,rfl,rfl,SqL.of hb,rfl,x,y,z,rfl,ar,q⟩
 refine ⟨_,rfl,rfl,_,rfl,aU (λc=>?_) (λc3=>?_)⟩
 ·obtain rfl:wd=.give:=gg c
  obtain ⟨x,y,rfl,_⟩:=ar.c rfl
  exact ⟨_,rfl,b,_,_,_,rfl,rfl,SqL.of hb,rfl,_,rfl,b,_,_,_,rfl,rfl,SqL.of hb,rfl,λp dp np ndp nep=>⟨p,dp,[x,y],rfl,ar,ad,λH' h1 h2=>⟨rfl,q _ H' (kK np ndp h2) ⟨p,dp,rfl,h1⟩⟩⟩⟩
 refine ⟨_,rfl,rfl,_,rfl,aU (λc=>?_) (λc4=>?_)⟩
 ·obtain rfl:wd=.add:=gg c
  obtain ⟨x,y,z,rfl,_⟩:=ar.a
  exact ⟨_,rfl,b,_,_,_,rfl,rfl,SqL.of hb,rfl,_,rfl,b,_,_,_,rfl,rfl,SqL.of hb,rfl,_,rfl,b,_,_,_,rfl,rfl,SqL.of hb,rfl,λp dp np ndp nep=>⟨p,dp,[x,y,z],rfl,ar,ad,λH' h1 h2=>⟨rfl,q _ H' (kK np ndp h2) ⟨p,dp,rfl,h1⟩⟩⟩⟩
 refine ⟨_,rfl,rfl,_,rfl,aU (λc=>?_) (λc5=>?_)⟩
 ·obtain rfl:wd=.plus:=gg c
  obtain ⟨x,rfl,_⟩:=ar.p
  exact ⟨_,rfl,b,_,_,_,rfl,rfl,SqL.of hb,rfl,λp dp np ndp nep=>⟨p,dp,[x],rfl,ar,ad,λH' h1 h2=>⟨rfl,q _ H' (kK np ndp h2) ⟨p,dp,rfl,h1⟩⟩⟩⟩
 obtain rfl:wd=.need:=yK (cC (b:=.take) c0) (cC (b:=.mean) c1) (cC (b:=.sum) c2) (cC (b:=.give) c3) (cC (b:=.add) c4) (cC (b:=.plus) c5)
 obtain ⟨x,rfl,_⟩:=ar.n
 exact ⟨_,rfl,b,_,_,_,rfl,rfl,SqL.of hb,rfl,λp dp np ndp nep=>⟨p,dp,[x],rfl,ar,ad,λH' h1 h2=>⟨rfl,q _ H' (kK np ndp h2) ⟨p,dp,rfl,h1⟩⟩⟩⟩
theorem xl{CN:Addr}{bm:List Value}{new:String}(F:Fun K "read_number" "read_number" eJ f fd)(B:TxB mg)(mN:mg "NoThing"=some (.ref CN))(xN:PySem.W.excIn K CN bm new=true)(hb:bm.contains (.type "BaseException")=true)
  (cF:∃t,mg "MOST_FIGURES_steps"=some (.int 40 t))(GR:GF P w K mg base CX0 4 "read_thing" ["text"] K51T.pO)(GW:GF P w K mg base CX0 1 "is_whole" ["thing"] K51T.fw):FnOk P w K mg base CX0 5 f fd ["word","letter"] pP:=by
 refine F.ok sc_read_number (λvs H Q E h=>?_) (λcdv A outer s H vs Q E hr h=>?_)
 ·obtain ⟨i,c,rfl,_⟩:=h
  rfl
 obtain ⟨i,c,rfl,hi,hneg,q⟩:=h
 have nd:=sc_read_number.nd
 refine ⟨_,af (sB (j:=2) (C:=CN) rfl rfl rfl nd rfl (Or.inl rfl) (zo (pc GR hr (ac (pv 0) ag))) rfl mN (pK mN xN hb) (λ_=>aJ))
  (af (aI (PW.pt (rB (ja (cu (pc GW hr (ac (pv 2) ag)))) (nB (az kD (aF br rfl B.len PySem.boot_len (ac (gW PySem.F.plainAttrs_str PySem.F.slot_str_lstrip PySem.F.type_str_lstrip qm (pv 0) (ac aD ag)) ag)) (nU cF rfl) (aA _))))) aJ aC)
  (af (aI (PW.pt (gz (az oR (pv 2) ao (aA _)) (fJ (az oQ (pv 1) aD (aA _))))) aJ aC)
  (aj (ax (pv 2))))),?_⟩
 have hl:=xT hi
 have h1:(100000:Nat)<=sizeLine:=by decide
 have hL:=qu hi
 refine ⟨_,rfl,iS i,.int i,rfl,(by rw [o8];exact .num i (Nat.lt_trans hi θ)),(λd hd=>?_),hl,λH1 s1=>?_⟩
 ·rw [o8] at hd
  rcases zF hd with rfl | ⟨a1,a2⟩
  ·decide
  ·show (decide _&&decide _&&_)=true
   simp
   omega
 refine ⟨_,rfl,_,_,rfl,rfl,_,rfl,bj ?_⟩
 refine ⟨_,rfl,rfl,iS i,_,rfl,rfl,ω,_,rfl,Λ hL ζ,_,_,rfl,rfl,_,rfl,aU (λc=>absurd (Ξ c) (λz=>?_)) (λ_=>?_)⟩
 ·have z':(40:Int)<(((Txt.lstripChars (iS i) (Str.ofString "-")).length:Nat):Int):=z
  omega
 refine ⟨_,rfl,_,_,rfl,rfl,_,rfl,aU (λcc=>?_) (λ_=>⟨_,rfl,q H1 s1⟩)⟩
 have hc:c=86:=hneg (Ξ cc)
 subst hc
 exact ⟨_,rfl,rfl,_,rfl,yB (congrArg V.str θ) ⟨_,rfl,q H1 s1⟩⟩
theorem vc(F:Fun K "read_step" "read_step" cN f fd)(B:TxB mg){aS:Addr}(mS:mg "SHAPES"=some (.ref aS))(tS:TabK K aS jO)(GN:GF P w K mg base CX0 5 "read_number" ["word","letter"] pP)
  (GS:GF P w K mg base CX0 5 "made_step" ["word","numbers"] (pR CW)):FnOk P w K mg base CX0 6 f fd ["text"] (jM CW):=by
 refine F.ok sc_read_step (λvs H Q E h=>?_) (λcdv A outer s H vs Q E hr h=>?_)
 ·obtain ⟨wd,ns,rfl,_⟩:=h
  rfl
 obtain ⟨wd,ns,rfl,ar,q⟩:=h
 have nd:=sc_read_step.nd
 have hl3:=ar.len
 have el:=wT ar
 refine ⟨_,af (aH (i:=1) nd rfl (Or.inr rfl) (gW PySem.F.plainAttrs_str PySem.F.slot_str_split PySem.F.type_str_split l7 (pv 0) (ac aD ag)))
  (af (aH (i:=2) nd rfl (Or.inr rfl) (w8 (D:=jO) (fL (v:=.ref aS) rfl mS rfl) (ay (r:=bQ K) aE (pv 1) ao (λ_ _=>rfl)) ⟨rfl,rfl,rfl,rfl⟩ tS))
  (af (aI (PW.pt (rB (az qh (pv 2) eN (aA _)) (nB (az oQ (aF bu rfl B.len PySem.boot_len (ac (pv 1) ag)) (aG cZ (aF br rfl B.len PySem.boot_len (ac (pv 2) ag)) ao) (aA _))))) aJ aC)
  (aj (ax (pc GS hr (ac (ay (r:=bQ K) aE (pv 1) ao (λ_ _=>rfl)) (ac (iq ko rfl (e8 rfl B.range (ac (aF br rfl B.len PySem.boot_len (ac (pv 2) ag)) ag)) (λ_ _ _ _=>eg)
   (λ_ _ _ _=>pc GN hr (ac (ay (r:=bQ K) aE (pv 1) (aG cZ (pv 0) ao) (λ_ _=>rfl)) (ac (ay vV (pv 2) (pv 0) (λ_ _=>rfl)) ag)))) ag))))))),?_⟩
 refine ⟨_,rfl,rfl,txt wd ns,32,rfl,congrArg (λz=>[V.str z]) kh,qP ar,λp hp=>?_⟩
 rw [lT]
 have s1:Same H _:=al (o:=.lst ((wS wd::ns.map iS).map V.str)) hp
 have hp1:(upd H p (.lst ((wS wd::ns.map iS).map V.str))) p=some (.lst ((wS wd::ns.map iS).map V.str)):=ad
 generalize (upd H p _)=H1 at s1 hp1 ⊢
 refine ⟨_,rfl,p,_,_,_,rfl,rfl,SqL.of hp1,St.at0,wS wd,shp wd,rfl,uz wd,?_⟩
 refine ⟨_,rfl,rfl,_,rfl,aU (λc=>absurd (Ξ c) (by intro z;cases z)) (λ_=>?_)⟩
 refine ⟨_,rfl,p,_,rfl,.inl (SqL.of hp1),_,rfl,_,rfl,j9 wd,_,_,rfl,rfl,rfl,_,rfl,yB ?_ ?_⟩
 ·rw [el]
  simp
 refine ⟨_,rfl,p,_,_,_,rfl,rfl,SqL.of hp1,St.at0,?_⟩
 refine ⟨_,rfl,_,rfl,j9 wd,_,rfl,ω,by rw [el];omega,?_⟩
 have e0:(((shp wd).length:Nat):Int).toNat=ns.length:=by rw [el];rfl
 rw [e0]
 refine kQ (n:=ns.length) (λi ys H'=>Same H1 H'/\ys=(ns.take i).map V.int) ⟨Same.refl _,rfl⟩ (Λ hl3.2 ζ) ?_ ?_
 ·rintro i ys H2 hi ⟨s2,rfl⟩
  have hn:ns[i]?=some ns[i]:=ξ hi
  obtain ⟨c,hc,hneg⟩:=yZ ar hn
  refine lQ ⟨_,rfl,_,rfl,_,_,rfl,rfl,p,_,_,_,rfl,rfl,SqL.of (s2 _ _ hp1),?_,_,rfl,_,rfl,_,_,_,rfl,rfl,j9 wd,bp hc,ns[i],c,rfl,ar.all _ (List.getElem_mem hi),hneg,λH3 s3=>⟨s2.trans s3,?_⟩⟩
  ·have e1:((i:Nat):Int)+1=((i+1:Nat):Int):=rfl
   rw [e1]
   refine bp ?_
   rw [List.map_cons,List.getElem?_cons_succ,List.map_map,List.getElem?_map,hn]
   rfl
  ·have e2:ns.take (i+1)=ns.take i++[ns[i]]:=by
    rw [List.take_add_one,hn]
    rfl
   rw [e2,List.map_append]
   rfl
 ·rintro ys H2 ⟨s2,rfl⟩ p2 hp2
  rw [List.take_length]
  exact ⟨wd,p2,ns,rfl,ad,ar,λv H3 s3 st=>q v H3 (s1.trans (s2.trans ((al hp2).trans s3))) st⟩
structure Aw where
 (l dx lk pl dr an pe:Addr)
def wf(S:Addr)(home many:Int)(W:Aw):List (Str×V):=aq "pending" (.ref W.pe) (aq "answers" (.ref W.an) (aq "drafts" (.ref W.dr) (aq "locks" (.ref W.lk) (aq "many" (.int many) (aq "home" (.int home) (aq "stand" (.ref S) []))))))
section
variable {S:Addr}{home many:Int}{W:Aw}
theorem Aj:(wf S home many W).lookup ("pending":Str)=some (.ref W.pe):=bv
theorem oq:(wf S home many W).lookup ("answers":Str)=some (.ref W.an):=by unfold wf;rw [aK θ,bv]
theorem ym:(wf S home many W).lookup ("drafts":Str)=some (.ref W.dr):=by unfold wf;rw [aK θ,aK θ,bv]
theorem yl:(wf S home many W).lookup ("locks":Str)=some (.ref W.lk):=by unfold wf;rw [aK θ,aK θ,aK θ,bv]
theorem yk:(wf S home many W).lookup ("stand":Str)=some (.ref S):=by unfold wf;rw [aK θ,aK θ,aK θ,aK θ,aK θ,aK θ,bv]
theorem jq{m:Str}(h:decide (m∈(["pending","answers","drafts","locks","many","home","stand"]:List Str))=false):(wf S home many W).lookup m=none:=by
 have h':m∉(["pending","answers","drafts","locks","many","home","stand"]:List Str):=of_decide_eq_false h
 simp only [List.mem_cons,List.not_mem_nil,or_false,not_or] at h'
 obtain ⟨h1,h2,h3,h4,h5,h6,h7⟩:=h'
 unfold wf
 rw [aK h1,aK h2,aK h3,aK h4,aK h5,aK h6,aK h7]
 rfl
end
structure TxV(K:Frag)(CV:Addr):Prop where
 cl:Cls K CV
 st:NoAttr K CV "stand"
 ho:NoAttr K CV "home"
 mn:NoAttr K CV "many"
 lk:NoAttr K CV "locks"
 dr:NoAttr K CV "drafts"
 an:NoAttr K CV "answers"
 pe:NoAttr K CV "pending"
def dOf(p:Pa):Option Addr->List (List Key×V)
 | none=>[]
 | some a=>[(pk p,.ref a)]
theorem fu(p:Pa)(x:Option Addr):bo (dOf p x) (pk p)=x.map V.ref:=by
 cases x with
 | none=>rfl
 | some a=>exact bz rfl
abbrev Oda:=Option (Addr×Addr)
structure WkA(C:Kd->Addr)(CL CV:Addr)(K:Frag)(H:Hp)(S:Addr)(W:Aw)(home many:Int)(p:Pa)(o:Oda)(dk ak:List (Key×V))(ps:List Pr):Prop where
 ins:H W.l=some (.ins CV W.dx (wf S home many W))
 ls:LS C CL K H W.lk W.pl ps
 dr:H W.dr=some (.dT (dOf p (o.map (·.1))))
 an:H W.an=some (.dT (dOf p (o.map (·.2))))
 pe:H W.pe=some (.dT [])
 da:∀d a,o=some (d,a)->H d=some (.dK dk)/\H a=some (.dK ak)
 no:o=none->dk=[]/\ak=[]
def cb(dk:List (Key×V))(cells:List Int)(c:Int):Int:=match bo dk (.inl c) with | some (.int v)=>v | _=>cells.getD c.toNat 0
def DrI(dk:List (Key×V)):Prop:=∀(c:Int) (v:V),bo dk (.inl c)=some v->∃i,v=.int i
def jL(CS CV:Addr)(K:Frag):Sp:=λvs H Q _=>∃W home many A d p vp o dk c,vs=[.ref (W:Aw).l,vp,.int c]/\H W.l=some (.ins CV W.dx (wf (A:Ad).l home many W))/\H W.dr=some (.dT (dOf p o))/\(∀x,o=some x->H x=some (.dK dk))/\(o=none->dk=[])/\DrI dk/\Lo.St CS K H A d/\sPa K H p vp/\0<=c/\c<d.cells.length /\
 ∀H',Same H H'->Q (.int (cb dk d.cells c)) H'
theorem u8(F:Fun K "value_at" "Works.value_at" cE f fd)(D:TxD K CS)(T:TxV K CV)(GC:GM P w K mg base CX0 1 CS "cell_at" ["self","cell"] (j7 CS K)):FnOk P w K mg base CX0 2 f fd ["self","p","cell"] (jL CS CV K):=by
 refine F.ok sc_Works_value_at (λvs H Q E h=>?_) (λcdv A outer s H vs Q E hr h=>?_)
 ·obtain ⟨W,home,many,A,d,p,vp,o,dk,c,rfl,_⟩:=h
  rfl
 obtain ⟨W,home,many,A,d,p,vp,o,dk,c,rfl,hi,hd,hs,hn,di,st,sp,c0,c1,q⟩:=h
 have nd:=sc_Works_value_at.nd
 refine ⟨_,af (aH (i:=3) nd rfl (Or.inl rfl) (oN (eT hr) (aw (pv 0) rfl) (pv 1) ir ⟨rfl,rfl,rfl,rfl⟩))
  (aj (ax (oM (jb (qg (eT hr) (pv 2) (pv 3))) (iw (eT hr) (pv 3) (pv 2) (λ_ _=>rfl)) (pm GC (aw (pv 0) rfl) D.cl hr (ac (pv 2) ag))))),?_⟩
 obtain ⟨pa,rfl,hp⟩:=sp.key
 refine ⟨_,rfl,W.l,CV,W.dx,_,_,rfl,hi,T.cl,T.dr,ym,W.dr,rfl,.inr ⟨_,.inl hd⟩,_,rfl,λq0 hq0=>⟨_,DGet.t (al hq0 _ _ hd) (al hq0 _ _ hp),?_⟩⟩
 have s1:=al (o:=.dK []) hq0
 rw [fu]
 obtain ⟨x,hx,hxv⟩:∃x,(Option.map V.ref o).getD (.ref q0)=.ref x/\(upd H q0 (.dK [])) x=some (.dK dk):=by
  cases o with
  | none=>exact ⟨q0,rfl,by rw [hn rfl];exact ad⟩
  | some x=>exact ⟨x,rfl,s1 _ _ (hs x rfl)⟩
 rw [hx]
 refine ⟨_,rfl,_,rfl,x,_,rfl,DGet.k (k:=.inl c) hxv,_,rfl,aU (λe=>?_) (λe=>?_)⟩
 ·cases ev:bo dk (.inl c) with
  | none=>rw [ev] at e;cases e
  | some v =>
   obtain ⟨i,rfl⟩:=di c v ev
   have ee:cb dk d.cells c=i:=by unfold cb;rw [ev]
   rw [ee] at q
   refine ⟨_,rfl,_,rfl,x,.int i,rfl,?_,q _ s1⟩
   have:=DGet.k (k:=.inl c) hxv
   rw [ev] at this
   exact this
 ·have ev:bo dk (.inl c)=none:=by
   cases ev:bo dk (.inl c) with
   | none=>rfl
   | some v=>exact absurd (by rw [ev];rfl) e
  obtain ⟨n,rfl⟩:∃n:Nat,c=(n:Int):=⟨c.toNat,ω⟩
  have hn2:n<d.cells.length:=by omega
  have ee:cb dk d.cells (n:Int)=d.cells[n]:=by
   unfold cb
   rw [ev]
   show d.cells.getD n 0=_
   rw [List.getD_eq_getElem?_getD,ξ hn2]
   rfl
  rw [ee] at q
  exact ⟨_,rfl,W.l,CV,W.dx,_,_,rfl,s1 _ _ hi,T.cl,T.st,yk,A.l,A.dx,_,rfl,s1 _ _ st.ins,jv θ,_,rfl,A,d,n,_,rfl,st.keep s1,ξ hn2,q _ s1⟩
def uq(CS CV:Addr)(K:Frag):Sp:=λvs H Q _=>∃W home many A d vp p,vs=[.ref (W:Aw).l,vp]/\H W.l=some (.ins CV W.dx (wf (A:Ad).l home many W))/\Lo.St CS K H A d/\d.ready=[]/\sPa K H p vp/\∀H',Same H H'->Q (.bl false) H'
theorem zA(F:Fun K "is_bound" "Works.is_bound" bD f fd)(D:TxD K CS)(T:TxV K CV)(GB:GM P w K mg base CX0 1 CS "bound" ["self"] (jN CS K)):FnOk P w K mg base CX0 2 f fd ["self","p"] (uq CS CV K):=by
 refine F.ok ii (λvs H Q E h=>?_) (λcdv A outer s H vs Q E hr h=>?_)
 ·obtain ⟨W,home,many,A,d,vp,p,rfl,_⟩:=h
  rfl
 obtain ⟨W,home,many,A,d,vp,p,rfl,hi,st,er,sp,q⟩:=h
 refine ⟨_,aj (ax (ci (uZ cPa (hun hr)) (pv 1) (iq gS rfl (gM (pm0 GB (aw (pv 0) rfl) D.cl hr)) (λ_ _ _ _=>eg) (λ_ _ _ _=>ay (r:=aW K) aB (pv 0) ao (λ_ _=>rfl))) rfl)),?_⟩
 refine ⟨_,rfl,_,rfl,W.l,CV,W.dx,_,_,rfl,hi,T.cl,T.st,yk,A.l,A.dx,_,rfl,st.ins,jv θ,A,d,rfl,st,er,λl H1 s1 n1 hl=>⟨l,rfl,⟨_,SqL.of hl⟩,?_⟩⟩
 refine jR (xs:=[]) (λi ys H'=>Same H1 H'/\ys=[]) ⟨Same.refl _,rfl⟩ (Nat.zero_le _) (λi ys H' _ z=>SqL.of (z.1 _ _ hl)) (λi x ys H' e=>by cases e) ?_
 rintro ys H2 ⟨s2,rfl⟩ p2 hp2
 have s3:=s1.trans (s2.trans (al (o:=.lst []) hp2))
 exact ⟨p,p2,[],[],(sp.keep s3.ts).c,rfl,.inl (SqL.of ad),.nil,q _ s3⟩
def pN(C:Kd->Addr)(CL CV:Addr)(K:Frag):Sp:=λvs H Q _=>∃W home many S ps,vs=[.ref (W:Aw).l]/\H W.l=some (.ins CV W.dx (wf S home many W))/\LS C CL K H W.lk W.pl ps/\ps.length<=1000/\dY ps=[]/\∀q H',Same H H'->H' q=some (.lst [])->Q (.ref q) H'
theorem xj(F:Fun K "waiting" "Works.waiting" c8 f fd)(T:TxV K CV)(L:TxL K C CL)(GW:GM P w K mg base CX0 5 CL "waiting" ["self"] (mD C CL K dY)):FnOk P w K mg base CX0 6 f fd ["self"] (pN C CL CV K):=by
 refine F.ok iQ (λvs H Q E h=>?_) (λcdv A outer s H vs Q E hr h=>?_)
 ·obtain ⟨W,home,many,S,ps,rfl,_⟩:=h
  rfl
 obtain ⟨W,home,many,S,ps,rfl,hi,ls,hl,hw,q⟩:=h
 refine ⟨_,aj (ax (pm0 GW (aw (pv 0) rfl) L.cl hr)),?_⟩
 obtain ⟨dx,us0,hli,_⟩:=id ls
 refine ⟨_,rfl,W.l,CV,W.dx,_,_,rfl,hi,T.cl,T.lk,yl,W.lk,dx,_,rfl,hli,kL θ,W.lk,W.pl,ps,rfl,ls,hl,λq1 H1 us s1 n1 h1 pu=>?_⟩
 rw [hw] at pu
 cases pu
 exact q q1 H1 s1 h1
def qV(C:Kd->Addr)(CL CS CV:Addr)(K:Frag):Sp:=λvs H Q _=>∃l dx A d home many,vs=[.ref l,.ref (A:Ad).l,.int home,.int many]/\H l=some (.ins CV dx [])/\Lo.St CS K H A d/\d.ready=[]/\A.l≠l/\l∉A.own /\
 ∀W H',(W:Aw).l=l->(∀p,WkA C CL CV K H' A.l W home many p none [] [] [])->(∀b∈[W.lk,W.pl,W.dr,W.an,W.pe],H b=none)->[W.lk,W.pl,W.dr,W.an,W.pe].Nodup->Kp l H H'->Q .non H'
theorem u7{fI:Addr}{dI:FuncData}(F:Fun K "__init__" "Works.__init__" fR f fd)(D:TxD K CS)(T:TxV K CV)(ML:L2.Mk K CL fI)(mgL:mg "Locks"=some (.ref CL))(GLI:FnOk P w K mg base CX0 1 fI dI ["self"] (ow CL))(bLI:Binds K dI ["self"] [])(GB:GM P w K mg base CX0 1 CS "bound" ["self"] (jN CS K)) :
  FnOk P w K mg base CX0 4 f fd ["self","stand","home","many"] (qV C CL CS CV K):=by
 refine F.ok sc_Works_init (λvs H Q E h=>?_) (λcdv A outer s H vs Q E hr h=>?_)
 ·obtain ⟨l,dx,A,d,home,many,rfl,_⟩:=h
  rfl
 obtain ⟨l,dx,A,d,home,many,rfl,hl,st,er,nal,nlo,q⟩:=h
 have nd:=sc_Works_init.nd
 have hr1:Room (1+1) _:=hr.mono ζ
 refine ⟨_,af (aM (pv 0) (pv 1) rfl) (af (aM (pv 0) (pv 2) rfl) (af (aM (pv 0) (pv 3) rfl)
  (af (aM (pv 0) (uR ML GLI hr1 rfl mgL bLI .nil be) rfl)
  (af (aM (pv 0) dJ rfl) (af (aM (pv 0) dJ rfl) (af (aM (pv 0) dJ rfl)
  (aj (kz PassesOwn.never rfl (gM (pm0 GB (pv 1) D.cl hr)) (fK (i:=4) nd rfl (Or.inl rfl)) aJ)))))))),?_⟩
 refine ⟨_,rfl,_,rfl,l,CV,dx,_,rfl,hl,T.cl,T.st,(by show 0<1000;decide),_,rfl,_,rfl,l,CV,dx,_,rfl,ad,T.cl,T.ho,(bb (n:=999) (by show 0<999;decide)),_,rfl,_,rfl,l,CV,dx,_,rfl,ad,T.cl,T.mn,(bb (n:=999) (bb (n:=998) (by show 0<998;decide))),?_⟩
 have k3:Kp l H (upd (upd (upd H l (.ins CV dx (aq "stand" (.ref A.l) []))) l (.ins CV dx (aq "home" (.int home) (aq "stand" (.ref A.l) [])))) l (.ins CV dx (aq "many" (.int many) (aq "home" (.int home) (aq "stand" (.ref A.l) []))))):=λb o n e=>by
  rw [am n,am n,am n]
  exact e
 have h3:(upd (upd (upd H l (.ins CV dx (aq "stand" (.ref A.l) []))) l (.ins CV dx (aq "home" (.int home) (aq "stand" (.ref A.l) [])))) l (.ins CV dx (aq "many" (.int many) (aq "home" (.int home) (aq "stand" (.ref A.l) []))))) l=some (.ins CV dx (aq "many" (.int many) (aq "home" (.int home) (aq "stand" (.ref A.l) [])))):=ad
 generalize (upd (upd (upd H l _) l _) l _)=H3 at k3 h3 ⊢
 intro lk dlk nlk ndlk nel
 refine ⟨lk,dlk,rfl,ad,λpl H4 npl hpl hlk kp4=>⟨rfl,?_⟩⟩
 have s4:Same H3 H4:=sN nlk ndlk kp4
 have npl3:H3 pl=none:=by
  cases e:H3 pl with
  | none=>rfl
  | some o =>
   have n1:pl≠lk:=bU hpl hlk (by intro z;cases z)
   have n2:pl≠dlk:=λz=>by rw [z] at npl;rw [am nel,ad] at npl;cases npl
   rw [am n1,am n2,e] at npl
   cases npl
 have hl4:=s4 _ _ h3
 have zk:lk≠l:=λz=>by rw [z,h3] at nlk;cases nlk
 have zp:pl≠l:=λz=>by rw [z,h3] at npl3;cases npl3
 refine ⟨_,rfl,l,CV,dx,_,rfl,hl4,T.cl,T.lk,(bb (n:=999) (bb (n:=998) (bb (n:=997) (by show 0<997;decide)))),?_⟩
 have k5:Kp l H (upd H4 l (.ins CV dx (aq "locks" (.ref lk) (aq "many" (.int many) (aq "home" (.int home) (aq "stand" (.ref A.l) [])))))):=(k3.trans (Kp.of s4)).trans cq
 have h5:(upd H4 l (.ins CV dx (aq "locks" (.ref lk) (aq "many" (.int many) (aq "home" (.int home) (aq "stand" (.ref A.l) [])))))) l=some (.ins CV dx (aq "locks" (.ref lk) (aq "many" (.int many) (aq "home" (.int home) (aq "stand" (.ref A.l) []))))):=ad
 have hlk5:(upd H4 l (.ins CV dx (aq "locks" (.ref lk) (aq "many" (.int many) (aq "home" (.int home) (aq "stand" (.ref A.l) [])))))) lk=some (.ins CL dlk [("pairs",.ref pl)]):=by rw [am zk];exact hlk
 have hpl5:(upd H4 l (.ins CV dx (aq "locks" (.ref lk) (aq "many" (.int many) (aq "home" (.int home) (aq "stand" (.ref A.l) [])))))) pl=some (.lst []):=by rw [am zp];exact hpl
 generalize (upd H4 l _)=H5 at k5 h5 hlk5 hpl5 ⊢
 refine λdr n6=>?_
 obtain ⟨a1,a2,a3,k6⟩:=ck (o:=.dT []) (fs':=aq "drafts" (.ref dr) (aq "locks" (.ref lk) (aq "many" (.int many) (aq "home" (.int home) (aq "stand" (.ref A.l) []))))) h5 n6
 refine ⟨_,rfl,l,CV,dx,_,rfl,a1,T.cl,T.dr,(bb (n:=999) (bb (n:=998) (bb (n:=997) (bb (n:=996) (by show 0<996;decide))))),?_⟩
 have z6:dr≠l:=bU a3 a2 (by intro z;cases z)
 generalize (upd (upd H5 dr _) l _)=H6 at a2 a3 k6 ⊢
 refine λan n7=>?_
 obtain ⟨b1,b2,b3,k7⟩:=ck (o:=.dT []) (fs':=aq "answers" (.ref an) (aq "drafts" (.ref dr) (aq "locks" (.ref lk) (aq "many" (.int many) (aq "home" (.int home) (aq "stand" (.ref A.l) [])))))) a2 n7
 refine ⟨_,rfl,l,CV,dx,_,rfl,b1,T.cl,T.an,(bb (n:=999) (bb (n:=998) (bb (n:=997) (bb (n:=996) (bb (n:=995) (by show 0<995;decide)))))),?_⟩
 have z7:an≠l:=bU b3 b2 (by intro z;cases z)
 generalize (upd (upd H6 an _) l _)=H7 at b2 b3 k7 ⊢
 refine λpe n8=>?_
 obtain ⟨c1,c2,c3,k8⟩:=ck (o:=.dT []) (fs':=wf A.l home many ⟨l,dx,lk,pl,dr,an,pe⟩) b2 n8
 refine ⟨_,rfl,l,CV,dx,_,rfl,c1,T.cl,T.pe,(bb (n:=999) (bb (n:=998) (bb (n:=997) (bb (n:=996) (bb (n:=995) (bb (n:=994) (by show 0<994;decide))))))),?_⟩
 have z8:pe≠l:=bU c3 c2 (by intro z;cases z)
 have kk:Kp l H (upd (upd H7 pe (.dT [])) l (.ins CV dx (wf A.l home many ⟨l,dx,lk,pl,dr,an,pe⟩))):=((k5.trans k6).trans k7).trans k8
 have e1:=k8 _ _ zk (k7 _ _ zk (k6 _ _ zk hlk5))
 have e2:=k8 _ _ zp (k7 _ _ zp (k6 _ _ zp hpl5))
 have e3:=k8 _ _ z6 (k7 _ _ z6 a3)
 have e4:=k8 _ _ z7 b3
 have m1:∀{b:Addr} {o:HO},b≠l->H b=some o->H5 b=some o:=λnb e=>k5 _ _ nb e
 have fr:∀{b:Addr},b≠l->H5 b=none->H b=none:=λ{b} nb e=>by
  cases y:H b with
  | none=>rfl
  | some o=>rw [k5 _ _ nb y] at e;cases e
 have f6:=fr z6 n6
 have f7:H an=none:=fr z7 (by
  cases y:H5 an with
  | none=>rfl
  | some o=>rw [k6 _ _ z7 y] at n7;cases n7)
 have f8:H pe=none:=fr z8 (by
  cases y:H5 pe with
  | none=>rfl
  | some o=>rw [k7 _ _ z8 (k6 _ _ z8 y)] at n8;cases n8)
 have f1:H lk=none:=by
  cases y:H lk with
  | none=>rfl
  | some o=>rw [k3 _ _ zk y] at nlk;cases nlk
 have f2:H pl=none:=by
  cases y:H pl with
  | none=>rfl
  | some o=>rw [k3 _ _ zp y] at npl3;cases npl3
 have ndp:[lk,pl,dr,an,pe].Nodup:=by
  have d1:lk≠pl:=bU hlk5 hpl5 (by intro z;cases z)
  have d2:lk≠dr:=λz=>by rw [← z,hlk5] at n6;cases n6
  have d3:pl≠dr:=λz=>by rw [← z,hpl5] at n6;cases n6
  have d4:lk≠an:=λz=>by rw [← z,k6 _ _ zk hlk5] at n7;cases n7
  have d5:pl≠an:=λz=>by rw [← z,k6 _ _ zp hpl5] at n7;cases n7
  have d6:dr≠an:=λz=>by rw [← z,a3] at n7;cases n7
  have d7:lk≠pe:=λz=>by rw [← z,k7 _ _ zk (k6 _ _ zk hlk5)] at n8;cases n8
  have d8:pl≠pe:=λz=>by rw [← z,k7 _ _ zp (k6 _ _ zp hpl5)] at n8;cases n8
  have d9:dr≠pe:=λz=>by rw [← z,k7 _ _ z6 a3] at n8;cases n8
  have d10:an≠pe:=λz=>by rw [← z,b3] at n8;cases n8
  simp [d1,d2,d3,d4,d5,d6,d7,d8,d9,d10]
 have t8:aT H (upd (upd H7 pe (.dT [])) l (.ins CV dx (wf A.l home many ⟨l,dx,lk,pl,dr,an,pe⟩))):=λb xs e=>kk b _ (λz=>by rw [z,hl] at e;cases e) e
 have st8:=st.kp kk nlo t8 nal
 refine ⟨_,rfl,A.l,A.dx,_,rfl,st8.ins,jv θ,A,d,rfl,st8,er,λlb H9 s9 nb hb=>⟨lb,rfl,⟨_,SqL.of hb⟩,?_⟩⟩
 refine pd (xs:=[]) (λi σ H'=>Same H9 H') (Same.refl _) (λi σ H' _ z=>SqL.of (z _ _ hb)) (λi x σ H' e=>by cases e) fun σ H' s'=>?_
 have sx:=s9.trans s'
 exact q ⟨l,dx,lk,pl,dr,an,pe⟩ H' rfl (λp=>⟨sx _ _ c2,⟨dlk,[],sx _ _ e1,sx _ _ e2,.nil⟩,sx _ _ e3,sx _ _ e4,sx _ _ c3,(λ_ _ z=>by cases z),λ_=>⟨rfl,rfl⟩⟩)
  (λb hb=>by simp only [List.mem_cons,List.not_mem_nil,or_false] at hb;rcases hb with z | z | z | z | z<;>subst z<;>assumption) ndp (kk.trans (Kp.of sx))
def Imm(C:Kd->Addr):HO->Prop
 | .tup _=>True
 | .ins c _ _=>∃k,c=C k
 | _=>False
def ISame(C:Kd->Addr)(H H':Hp):Prop:=∀b o,H b=some o->Imm C o->H' b=some o
theorem ISame.ts{C:Kd->Addr}{H H':Hp}(h:ISame C H H'):aT H H':=λb xs e=>h b _ e True.intro
theorem xR{C:Kd->Addr}{H H':Hp}(h:Same H H'):ISame C H H':=λb o e _=>h b o e
theorem gZ{C:Kd->Addr}{H H':Hp}{x:Addr}{o:HO}(k:Kp x H H')(hx:H x=some o)(n:¬Imm C o):ISame C H H':=λb u e i=>k b u (λz=>by rw [z,hx] at e;cases e;exact n i) e
theorem LkO.imm{C:Kd->Addr}{H H':Hp}{k:Lk}{v:V}(e:ISame C H H')(h:LkO C H k v):LkO C H' k v:=by
 obtain ⟨a,dx,e1,e2⟩:=h
 exact ⟨a,dx,e1,e a _ e2 ⟨_,rfl⟩⟩
theorem PrO.imm{C:Kd->Addr}{K:Frag}{H H':Hp}{x:Pr}{v:V}(e:ISame C H H')(h:PrO C K H x v):PrO C K H' x v:=by
 obtain ⟨a,u,l,e1,e2,e3,e4⟩:=h
 exact ⟨a,u,l,e1,e2.keep e.ts,cPa.keep e.ts e3,LkO.imm e e4⟩
abbrev nq:Expr:=match (defBody aO).getD 0 (.Pass default) with | .Assign _ (.Call _ [_,l] _ _) _=>l | _=>.Name "" default
abbrev oI:Str:="Works.do_step.<locals>.<lambda>"
def vU:Pos:=match nq with | .Lambda _ _ _ p=>p | _=>default
def qG:Option Addr->Array Value
 | none=>#[]
 | some c=>gP vU c
abbrev Odb:=Option Addr×Option Addr
def odl(o:Odb):List Addr:=o.1.toList++o.2.toList
def odc(dk ak:List (Key×V))(o:Odb):List (Addr×HO):=(o.1.toList.map λd=>(d,HO.dK dk))++o.2.toList.map λa=>(a,HO.dK ak)
def czc:Option Addr->List (Addr×HO)
 | none=>[]
 | some c=>[(c,fq c oI)]
def wad(W:Aw)(Pt:Addr)(o:Odb)(cz:Option Addr):List Addr:=[W.l,W.lk,W.pl,W.dr,W.an,W.pe,Pt]++odl o++cz.toList
section
variable (CL CV S:Addr)(home many:Int)(p:Pa)(W:Aw)(Pt:Addr)
def wc(dl:Addr)(vs:List V)(o:Odb)(dk ak:List (Key×V))(cz:Option Addr):List (Addr×HO) :=
 [(W.l,.ins CV W.dx (wf S home many W)),(W.lk,.ins CL dl [("pairs",.ref W.pl)]),(W.pl,.lst vs),(W.dr,.dT (dOf p o.1)),(W.an,.dT (dOf p o.2)),(W.pe,.dT []),(Pt,.tbl (qG cz))]++odc dk ak o++czc cz
end
section
variable {α:Type}{a b c d e f g:α}{l:List α}
theorem i0:a∈a::l:=.head _
theorem i1:b∈a::b::l:=.tail _ i0
theorem i2:c∈a::b::c::l:=.tail _ i1
theorem i3:d∈a::b::c::d::l:=.tail _ i2
theorem i4:e∈a::b::c::d::e::l:=.tail _ i3
theorem i5:f∈a::b::c::d::e::f::l:=.tail _ i4
theorem i6:g∈a::b::c::d::e::f::g::l:=.tail _ i5
end
theorem jr{CL CV S:Addr}{home many:Int}{p:Pa}{W:Aw}{Pt dl:Addr}{vs:List V}{o:Odb}{dk ak:List (Key×V)}{cz:Option Addr}:(wc CL CV S home many p W Pt dl vs o dk ak cz).map (·.1)=wad W Pt o cz:=by
 obtain ⟨a,b⟩:=o
 cases a<;>cases b<;>cases cz<;>rfl
structure WkB(C:Kd->Addr)(CL CV:Addr)(K:Frag)(H:Hp)(S:Addr)(W:Aw)(Pt:Addr)(home many:Int)(p:Pa)(o:Odb)(dk ak:List (Key×V))(ps:List Pr)(cz:Option Addr):Prop where
 ex:∃dl vs,(∀x∈wc CL CV S home many p W Pt dl vs o dk ak cz,H x.1=some x.2)/\Paired (PrO C K H) ps vs
 n1:o.1=none->dk=[]
 n2:o.2=none->ak=[]
 nd:(wad W Pt o cz).Nodup
section
variable {CL CV S:Addr}{home many:Int}{p:Pa}{W:Aw}{Pt:Addr}{H H':Hp}{o:Odb}{dk ak:List (Key×V)}{ps:List Pr}{cz:Option Addr}
theorem WkB.fr(h:WkB C CL CV K H S W Pt home many p o dk ak ps cz)(k:∀b u,b∈wad W Pt o cz->H b=some u->H' b=some u)(e:ISame C H H'):WkB C CL CV K H' S W Pt home many p o dk ak ps cz:=by
 obtain ⟨dl,vs,h1,h2⟩:=h.ex
 refine ⟨⟨dl,vs,λx hx=>k _ _ ?_ (h1 x hx),pp h2 λ_ _ z=>PrO.imm e z⟩,h.n1,h.n2,h.nd⟩
 rw [← jr (CL:=CL) (CV:=CV) (S:=S) (home:=home) (many:=many) (p:=p) (dl:=dl) (vs:=vs) (dk:=dk) (ak:=ak)]
 exact List.mem_map.mpr ⟨x,hx,rfl⟩
theorem WkB.keep(h:WkB C CL CV K H S W Pt home many p o dk ak ps cz)(e:Same H H'):WkB C CL CV K H' S W Pt home many p o dk ak ps cz:=h.fr (λb u _ z=>e b u z) (xR e)
theorem WkB.ins(h:WkB C CL CV K H S W Pt home many p o dk ak ps cz):H W.l=some (.ins CV W.dx (wf S home many W)):=by
 obtain ⟨dl,vs,h1,_⟩:=h.ex
 exact h1 (W.l,_) i0
theorem WkB.ls(h:WkB C CL CV K H S W Pt home many p o dk ak ps cz):LS C CL K H W.lk W.pl ps:=by
 obtain ⟨dl,vs,h1,h2⟩:=h.ex
 exact ⟨dl,vs,h1 (W.lk,_) i1,h1 (W.pl,_) i2,h2⟩
theorem WkB.dr(h:WkB C CL CV K H S W Pt home many p o dk ak ps cz):H W.dr=some (.dT (dOf p o.1)):=by
 obtain ⟨dl,vs,h1,_⟩:=h.ex
 exact h1 (W.dr,_) i3
theorem WkB.an(h:WkB C CL CV K H S W Pt home many p o dk ak ps cz):H W.an=some (.dT (dOf p o.2)):=by
 obtain ⟨dl,vs,h1,_⟩:=h.ex
 exact h1 (W.an,_) i4
theorem WkB.pe(h:WkB C CL CV K H S W Pt home many p o dk ak ps cz):H W.pe=some (.dT []):=by
 obtain ⟨dl,vs,h1,_⟩:=h.ex
 exact h1 (W.pe,_) i5
theorem WkB.dd{d:Addr}{a:Option Addr}(h:WkB C CL CV K H S W Pt home many p (some d,a) dk ak ps cz):H d=some (.dK dk):=by
 obtain ⟨dl,vs,h1,_⟩:=h.ex
 exact h1 (d,_) (by simp [wc,odc])
theorem WkB.aa{a:Addr}{d:Option Addr}(h:WkB C CL CV K H S W Pt home many p (d,some a) dk ak ps cz):H a=some (.dK ak):=by
 obtain ⟨dl,vs,h1,_⟩:=h.ex
 exact h1 (a,_) (by simp [wc,odc])
theorem WkB.tb(h:WkB C CL CV K H S W Pt home many p o dk ak ps cz):Tb H Pt vU oI:=by
 obtain ⟨dl,vs,h1,_⟩:=h.ex
 have e:=h1 (Pt,.tbl (qG cz)) i6
 cases cz with
 | none=>exact .inl e
 | some c=>exact .inr ⟨c,e,h1 (c,fq c oI) (Ψ _ Ω)⟩
theorem WkB.own(h:WkB C CL CV K H S W Pt home many p o dk ak ps cz)(hC:∀k,C k≠CL)(hV:∀k,C k≠CV){b:Addr}(hb:b∈wad W Pt o cz):∃u,H b=some u/\¬Imm C u:=by
 obtain ⟨dl,vs,h1,_⟩:=h.ex
 rw [← jr (CL:=CL) (CV:=CV) (S:=S) (home:=home) (many:=many) (p:=p) (dl:=dl) (vs:=vs) (dk:=dk) (ak:=ak)] at hb
 obtain ⟨x,hx,rfl⟩:=List.mem_map.mp hb
 refine ⟨_,h1 x hx,?_⟩
 simp only [wc,List.mem_append,List.mem_cons,List.not_mem_nil,or_false] at hx
 rcases hx with ((e | e | e | e | e | e | e) | e) | e
 ·subst e;exact λ⟨k,z⟩=>hV k z.symm
 ·subst e;exact λ⟨k,z⟩=>hC k z.symm
 ·subst e;exact id
 ·subst e;exact id
 ·subst e;exact id
 ·subst e;exact id
 ·subst e;exact id
 ·simp only [odc,List.mem_append,List.mem_map] at e
  rcases e with ⟨y,_,e⟩ | ⟨y,_,e⟩<;>subst e<;>exact id
 ·cases cz with
  | none=>cases e
  | some y =>
   simp only [czc,List.mem_cons,List.not_mem_nil,or_false] at e
   subst e
   exact id
end
section
variable {CH:Addr}{H H':Hp}{A:Ad}{h:Ah}{d:Sd}{rs:List Addr}{ws:List Ws}{v:V}
theorem ShA.imm(q:ShA CS CH K H A h d rs ws v)(hH:∀k,C k≠CH){b:Addr}(hb:b∈h.own A):∃u,H b=some u/\¬Imm C u:=by
 simp only [Ah.own,List.mem_cons] at hb
 rcases hb with z | z | z | z
 ·subst z;exact ⟨_,q.ins,λ⟨k,z⟩=>hH k z.symm⟩
 ·subst z;exact ⟨_,q.rws,id⟩
 ·subst z;obtain ⟨us,e,_⟩:=q.snt;exact ⟨_,e,id⟩
 ·obtain ⟨us,stu⟩:=q.st
  obtain ⟨o,e,n1,n2⟩:=stu.own z
  refine ⟨o,e,?_⟩
  cases o with
  | tup xs=>exact absurd rfl (n1 xs)
  | ins c dx fs=>exact absurd rfl (n2 c dx fs)
  | _=>exact id
theorem ShA.is(q:ShA CS CH K H A h d rs ws v)(hH:∀k,C k≠CH)(k:KpH A h H H'):ISame C H H':=λb o e i=>k b o (λhb=>by
 obtain ⟨u,e1,n⟩:=ShA.imm q hH hb
 rw [e] at e1
 cases e1
 exact n i) e
theorem ShA.fr(q:ShA CS CH K H A h d rs ws v)(k:∀b u,b∈A.l::h.own A->H b=some u->H' b=some u)(t:aT H H'):ShA CS CH K H' A h d rs ws v:=by
 obtain ⟨us,stu⟩:=q.st
 obtain ⟨us2,h1,h2⟩:=q.snt
 have kk:∀b u,b∈h.own A->H b=some u->H' b=some u:=λb u hb=>k b u (Θ _ hb)
 have own:∀x∈A.own,x∈h.own A:=λx hx=>by simp [Ah.own,hx]
 refine ⟨⟨us,k _ _ List.mem_cons_self stu.ins,λx hx=>kk _ _ (own _ (List.mem_map.mpr ⟨x,hx,rfl⟩)) (stu.co x hx),pp stu.bg λ_ _ z=>z.keep t,λx hx=>(stu.rd x hx).keep t,stu.wa.keep t,stu.nd⟩,kk _ _ (by simp [Ah.own]) q.ins,kk _ _ (by simp [Ah.own]) q.rws,⟨us2,kk _ _ (by simp [Ah.own]) h1,Paired.mapP h2 λ_ _ z=>z.keep t⟩,q.lat.imp id λz=>z.keep t,q.n1,q.n2,q.n3,q.n4,q.n5⟩
end
def Dj(X Y:List Addr):Prop:=∀b∈X,b∉Y
section
variable {CL CV S:Addr}{home many:Int}{p:Pa}{W:Aw}{Pt:Addr}{H H':Hp}{o:Odb}{dk ak:List (Key×V)}{ps:List Pr}{cz:Option Addr}
theorem WkB.putD{d:Addr}{a:Option Addr}(h:WkB C CL CV K H S W Pt home many p (some d,a) dk ak ps cz)(dk':List (Key×V)):WkB C CL CV K (upd H d (.dK dk')) S W Pt home many p (some d,a) dk' ak ps cz:=by
 obtain ⟨dl,vs,h1,h2⟩:=h.ex
 have nd:=h.nd
 rw [← jr (CL:=CL) (CV:=CV) (S:=S) (home:=home) (many:=many) (p:=p) (dl:=dl) (vs:=vs) (dk:=dk) (ak:=ak)] at nd
 have:=iA nd h1 (i:=7) (a:=d) (o:=.dK dk) (o':=.dK dk') (by cases a<;>cases cz<;>rfl)
 refine ⟨⟨dl,vs,λx hx=>this x ?_,pp h2 λ_ _ z=>PrO.imm (gZ cq h.dd id) z⟩,(λz=>by cases z),h.n2,h.nd⟩
 cases a<;>cases cz<;>exact hx
theorem WkB.putA{a:Addr}{d:Addr}(h:WkB C CL CV K H S W Pt home many p (some d,some a) dk ak ps cz)(ak':List (Key×V)):WkB C CL CV K (upd H a (.dK ak')) S W Pt home many p (some d,some a) dk ak' ps cz:=by
 obtain ⟨dl,vs,h1,h2⟩:=h.ex
 have nd:=h.nd
 rw [← jr (CL:=CL) (CV:=CV) (S:=S) (home:=home) (many:=many) (p:=p) (dl:=dl) (vs:=vs) (dk:=dk) (ak:=ak)] at nd
 have:=iA nd h1 (i:=8) (a:=a) (o:=.dK ak) (o':=.dK ak') (by cases cz<;>rfl)
 refine ⟨⟨dl,vs,λx hx=>this x ?_,pp h2 λ_ _ z=>PrO.imm (gZ cq h.aa id) z⟩,h.n1,(λz=>by cases z),h.nd⟩
 cases cz<;>exact hx
theorem WkB.newD{d:Addr}{a:Option Addr}(h:WkB C CL CV K H S W Pt home many p (none,a) dk ak ps cz)(hd:H d=none):WkB C CL CV K (upd (upd H d (.dK [])) W.dr (.dT [(pk p,.ref d)])) S W Pt home many p (some d,a) [] ak ps cz:=by
 obtain ⟨dl,vs,h1,h2⟩:=h.ex
 have ndr:d≠W.dr:=λz=>by rw [z,h.dr] at hd;cases hd
 have nd:=h.nd
 have hx:∀x∈wc CL CV S home many p W Pt dl vs (none,a) dk ak cz,x.1≠d:=λx hx z=>by
  have:=h1 x hx
  rw [z,hd] at this
  cases this
 have m2:(wc CL CV S home many p W Pt dl vs (none,a) dk ak cz).map (·.1)=wad W Pt (none,a) cz:=jr
 have b1:∀x∈wc CL CV S home many p W Pt dl vs (none,a) dk ak cz,(upd H d (.dK [])) x.1=some x.2:=λx hm=>by rw [am (hx x hm)];exact h1 x hm
 rw [← m2] at nd
 have st:=iA nd b1 (i:=3) (a:=W.dr) (o:=.dT (dOf p none)) (o':=.dT [(pk p,.ref d)]) (by cases a<;>cases cz<;>rfl)
 have dd:(upd (upd H d (.dK [])) W.dr (.dT [(pk p,.ref d)])) d=some (.dK []):=by rw [am ndr];exact ad
 have im:ISame C H (upd (upd H d (.dK [])) W.dr (.dT [(pk p,.ref d)])):=λb u e i=>by
  rw [am (λz=>by rw [z,h.dr] at e;cases e;exact i),am (ae e hd)]
  exact e
 have nn:d∉wad W Pt (none,a) cz:=λhm=>by
  rw [← m2] at hm
  obtain ⟨x,hm,e⟩:=List.mem_map.mp hm
  exact hx x hm e
 refine ⟨⟨dl,vs,λx hm=>?_,pp h2 λ_ _ z=>PrO.imm im z⟩,λ_=>rfl,h.n2,?_⟩
 ·simp only [wc,odc,List.mem_append,Option.toList,List.map_cons,List.map_nil,List.mem_cons,List.not_mem_nil,or_false] at hm
  rcases hm with ((e | e | e | e | e | e | e) | (e | e)) | e
  ·exact st x (by subst e;exact i0)
  ·exact st x (by subst e;exact i1)
  ·exact st x (by subst e;exact i2)
  ·subst e;exact ad
  ·exact st x (by subst e;exact i4)
  ·exact st x (by subst e;exact i5)
  ·exact st x (by subst e;exact i6)
  ·subst e;exact dd
  ·refine st x ?_
   cases a with
   | none=>cases e
   | some a =>
    simp only [List.map_cons,List.map_nil,List.mem_cons,List.not_mem_nil,or_false] at e
    subst e
    exact .tail _ i6
  ·refine st x ?_
   cases cz with
   | none=>cases e
   | some c =>
    simp only [czc,List.mem_cons,List.not_mem_nil,or_false] at e
    subst e
    show _∈(_++[(c,fq c oI)]).set 3 _
    rw [List.set_append_left _ _ (by cases a<;>simp [odc])]
    exact Ψ _ Ω
 ·have nd0:=h.nd
  have e0:wad W Pt (none,a) cz=[W.l,W.lk,W.pl,W.dr,W.an,W.pe,Pt]++(a.toList++cz.toList):=rfl
  have e1:wad W Pt (some d,a) cz=[W.l,W.lk,W.pl,W.dr,W.an,W.pe,Pt]++d::(a.toList++cz.toList):=rfl
  rw [e1]
  rw [e0] at nd0 nn
  exact List.perm_middle.nodup_iff.mpr (List.nodup_cons.mpr ⟨nn,nd0⟩)
theorem WkB.newA{d a:Addr}(h:WkB C CL CV K H S W Pt home many p (some d,none) dk ak ps cz)(ha:H a=none):WkB C CL CV K (upd (upd H a (.dK [])) W.an (.dT [(pk p,.ref a)])) S W Pt home many p (some d,some a) dk [] ps cz:=by
 obtain ⟨dl,vs,h1,h2⟩:=h.ex
 have nan:a≠W.an:=λz=>by rw [z,h.an] at ha;cases ha
 have nd:=h.nd
 have hx:∀x∈wc CL CV S home many p W Pt dl vs (some d,none) dk ak cz,x.1≠a:=λx hx z=>by
  have:=h1 x hx
  rw [z,ha] at this
  cases this
 have m2:(wc CL CV S home many p W Pt dl vs (some d,none) dk ak cz).map (·.1)=wad W Pt (some d,none) cz:=jr
 have b1:∀x∈wc CL CV S home many p W Pt dl vs (some d,none) dk ak cz,(upd H a (.dK [])) x.1=some x.2:=λx hm=>by rw [am (hx x hm)];exact h1 x hm
 rw [← m2] at nd
 have st:=iA nd b1 (i:=4) (a:=W.an) (o:=.dT (dOf p none)) (o':=.dT [(pk p,.ref a)]) (by cases cz<;>rfl)
 have dd:(upd (upd H a (.dK [])) W.an (.dT [(pk p,.ref a)])) a=some (.dK []):=by rw [am nan];exact ad
 have im:ISame C H (upd (upd H a (.dK [])) W.an (.dT [(pk p,.ref a)])):=λb u e i=>by
  rw [am (λz=>by rw [z,h.an] at e;cases e;exact i),am (ae e ha)]
  exact e
 have nn:a∉wad W Pt (some d,none) cz:=λhm=>by
  rw [← m2] at hm
  obtain ⟨x,hm,e⟩:=List.mem_map.mp hm
  exact hx x hm e
 refine ⟨⟨dl,vs,λx hm=>?_,pp h2 λ_ _ z=>PrO.imm im z⟩,h.n1,λ_=>rfl,?_⟩
 ·simp only [wc,odc,List.mem_append,Option.toList,List.map_cons,List.map_nil,List.mem_cons,List.not_mem_nil,or_false] at hm
  rcases hm with ((e | e | e | e | e | e | e) | (e | e)) | e
  ·exact st x (by subst e;exact i0)
  ·exact st x (by subst e;exact i1)
  ·exact st x (by subst e;exact i2)
  ·exact st x (by subst e;exact i3)
  ·subst e;exact ad
  ·exact st x (by subst e;exact i5)
  ·exact st x (by subst e;exact i6)
  ·exact st x (by subst e;exact .tail _ i6)
  ·subst e;exact dd
  ·refine st x ?_
   cases cz with
   | none=>cases e
   | some c =>
    simp only [czc,List.mem_cons,List.not_mem_nil,or_false] at e
    subst e
    show _∈(_++[(c,fq c oI)]).set 4 _
    rw [List.set_append_left _ _ (by simp [odc])]
    exact Ψ _ Ω
 ·have nd0:=h.nd
  have e0:wad W Pt (some d,none) cz=[W.l,W.lk,W.pl,W.dr,W.an,W.pe,Pt,d]++cz.toList:=rfl
  have e1:wad W Pt (some d,some a) cz=[W.l,W.lk,W.pl,W.dr,W.an,W.pe,Pt,d]++a::cz.toList:=rfl
  rw [e1]
  rw [e0] at nd0 nn
  exact List.perm_middle.nodup_iff.mpr (List.nodup_cons.mpr ⟨nn,nd0⟩)
theorem WkB.ask(h:WkB C CL CV K H S W Pt home many p o dk ak ps cz)(hC:∀k,C k≠CL){ps':List Pr}(ls:LS C CL K H' W.lk W.pl ps')(k:Kp W.pl H H'):WkB C CL CV K H' S W Pt home many p o dk ak ps' cz:=by
 obtain ⟨dl,vs,h1,h2⟩:=h.ex
 obtain ⟨dl2,vs2,e1,e2,e3⟩:=ls
 have nd:=h.nd
 have hl0:=h1 (W.lk,_) i1
 have nlk:W.lk≠W.pl:=by intro z;simp [wad,z] at nd
 refine ⟨⟨dl,vs2,λx hm=>?_,e3⟩,h.n1,h.n2,h.nd⟩
 by_cases z:x.1=W.pl
 ·have nd2:=nd
  rw [← jr (CL:=CL) (CV:=CV) (S:=S) (home:=home) (many:=many) (p:=p) (dl:=dl) (vs:=vs2) (dk:=dk) (ak:=ak)] at nd2
  have hm2:(W.pl,HO.lst vs2)∈wc CL CV S home many p W Pt dl vs2 o dk ak cz:=i2
  have:x=(W.pl,HO.lst vs2):=by
   obtain ⟨i,hi⟩:=List.mem_iff_getElem?.mp hm
   obtain ⟨j,hj⟩:=List.mem_iff_getElem?.mp hm2
   have a1:((wc CL CV S home many p W Pt dl vs2 o dk ak cz).map (·.1))[i]?=some W.pl:=by rw [List.getElem?_map,hi];show some x.1=_;rw [z]
   have a2:((wc CL CV S home many p W Pt dl vs2 o dk ak cz).map (·.1))[j]?=some W.pl:=by rw [List.getElem?_map,hj];rfl
   have:=(List.getElem?_inj (List.getElem?_eq_some_iff.mp a1).1 nd2).mp (a1.trans a2.symm)
   rw [this,hj] at hi
   exact (Δ hi).symm
  rw [this]
  exact e2
 ·refine k _ _ z (h1 x ?_)
  simp only [wc,List.mem_append,List.mem_cons,List.not_mem_nil,or_false] at hm ⊢
  rcases hm with ((e | e | e | e) | e) | e
  ·exact .inl (.inl (.inl e))
  ·exact .inl (.inl (.inr (.inl e)))
  ·subst e;exact absurd rfl z
  ·exact .inl (.inl (.inr (.inr (.inr e))))
  ·exact .inl (.inr e)
  ·exact .inr e
theorem ud{q:Pos}{a b:Addr}(h:gP q a=gP q b):a=b:=by
 have:=congrArg Array.toList h
 rw [iP,iP] at this
 simpa using this
theorem WkB.lam{c:Addr}(h:WkB C CL CV K H S W Pt home many p o dk ak ps cz)(kx:Kp Pt H H')(hp:H' Pt=some (.tbl (gP vU c)))(hc:(H Pt=some (.tbl #[])/\H c=none)\/H Pt=some (.tbl (gP vU c)))(hcc:H' c=some (fq c oI)) :
  WkB C CL CV K H' S W Pt home many p o dk ak ps (some c)/\∀b∈wad W Pt o (some c),b∈wad W Pt o cz\/H b=none:=by
 obtain ⟨dl,vs,h1,h2⟩:=h.ex
 have hP:H Pt=some (.tbl (qG cz)):=h1 (Pt,.tbl (qG cz)) i6
 have sx:Ba H H':=λb u n e=>kx b u (λz=>by rw [z,hP] at e;cases e;exact n) e
 have im:ISame C H H':=λb u e i=>sx b u (by cases u<;>first | exact True.intro | exact i) e
 have two:(cz=none/\H c=none)\/cz=some c:=by
  rcases hc with ⟨e,f⟩ | e
  ·cases cz with
   | none=>exact .inl ⟨rfl,f⟩
   | some c0 =>
    rw [hP] at e
    have:=congrArg Array.toList (HO.tbl.inj (Δ e))
    rw [show qG (some c0)=gP vU c0 from rfl,iP] at this
    cases this
  ·cases cz with
   | none =>
    rw [hP] at e
    have:=congrArg Array.toList (HO.tbl.inj (Δ e))
    rw [iP] at this
    cases this
   | some c0 =>
    rw [hP] at e
    exact .inr (by rw [ud (HO.tbl.inj (Δ e))])
 have core:∀x∈wc CL CV S home many p W Pt dl vs o dk ak (some c),H' x.1=some x.2:=λx hm=>by
  simp only [wc,List.mem_append,List.mem_cons,List.not_mem_nil,or_false] at hm
  have old:x∈wc CL CV S home many p W Pt dl vs o dk ak cz->noT x.2->H' x.1=some x.2:=λz y=>sx _ _ y (h1 x z)
  rcases hm with ((e | e | e | e | e | e | e) | e) | e
  ·exact old (by subst e;exact i0) (by subst e;exact True.intro)
  ·exact old (by subst e;exact i1) (by subst e;exact True.intro)
  ·exact old (by subst e;exact i2) (by subst e;exact True.intro)
  ·exact old (by subst e;exact i3) (by subst e;exact True.intro)
  ·exact old (by subst e;exact i4) (by subst e;exact True.intro)
  ·exact old (by subst e;exact i5) (by subst e;exact True.intro)
  ·subst e;exact hp
  ·refine old (by simp only [wc,List.mem_append];exact .inl (.inr e)) ?_
   simp only [odc,List.mem_append,List.mem_map] at e
   rcases e with ⟨y,_,e⟩ | ⟨y,_,e⟩<;>subst e<;>exact True.intro
  ·simp only [czc,List.mem_cons,List.not_mem_nil,or_false] at e
   subst e
   exact hcc
 rcases two with ⟨rfl,hcn⟩ | rfl
 ·have nn:c∉wad W Pt o none:=λhm=>by
   rw [← jr (CL:=CL) (CV:=CV) (S:=S) (home:=home) (many:=many) (p:=p) (dl:=dl) (vs:=vs) (dk:=dk) (ak:=ak)] at hm
   obtain ⟨x,hm,e⟩:=List.mem_map.mp hm
   have:=h1 x hm
   rw [e,hcn] at this
   cases this
  have ew:wad W Pt o (some c)=wad W Pt o none++[c]:=by simp [wad]
  refine ⟨⟨⟨dl,vs,core,pp h2 λ_ _ z=>PrO.imm im z⟩,h.n1,h.n2,?_⟩,λb hb=>?_⟩
  ·rw [ew,List.nodup_append]
   exact ⟨h.nd,by simp,λa ha b hb=>by rw [List.mem_singleton.mp hb];exact λz=>nn (z▸ha)⟩
  ·rw [ew] at hb
   rcases List.mem_append.mp hb with z | z
   ·exact .inl z
   ·rw [List.mem_singleton.mp z]
    exact .inr hcn
 ·exact ⟨⟨⟨dl,vs,core,pp h2 λ_ _ z=>PrO.imm im z⟩,h.n1,h.n2,h.nd⟩,λb hb=>.inl hb⟩
end
abbrev A3:Arguments:=match nq with | .Lambda a _ _ _=>a | _=>defArgs aO
abbrev A2:Expr:=match nq with | .Lambda _ b _ _=>b | _=>.Name "" default
abbrev lScope:Scope:=match nq with | .Lambda _ _ s _=>s | _=>defScope aO
theorem xH{x1 x2 y:Str}{c1 c2 a:Addr}(h:[(x1,c1),(x2,c2)].lookup y=some a):(y=x1/\a=c1)\/(y=x2/\a=c2):=by
 rw [List.lookup_cons] at h
 cases e:y==x1 with
 | true =>
  rw [e] at h
  exact .inl ⟨by simpa using e,(Option.some.inj h).symm⟩
 | false =>
  rw [e,List.lookup_cons] at h
  cases e2:y==x2 with
  | true =>
   rw [e2] at h
   exact .inr ⟨by simpa using e2,(Option.some.inj h).symm⟩
  | false =>
   rw [e2] at h
   cases h
theorem xJ{fv c c1 c2:Addr}{W:Aw}{home many:Int}{S:Ad}{d:Sd}{p:Pa}{vp:V}{o:Option Addr}{dk:List (Key×V)}{H:Hp}(ne:c2≠c1)(hB:yh [] [(c2,vp),(c1,.ref W.l)] base)(hf:H fv=some (jo fv oI A3 A2 lScope [("self",c1),("p",c2)] c))(hc:H c=some (fq c oI))
  (T:TxV K CV)(GV:GM P w K mg base CX0 2 CV "value_at" ["self","p","cell"] (jL CS CV K))(hi:H W.l=some (.ins CV W.dx (wf S.l home many W)))(hd:H W.dr=some (.dT (dOf p o)))(hs:∀x,o=some x->H x=some (.dK dk))(hn:o=none->dk=[])(di:DrI dk)(st:Lo.St CS K H S d)(sp:sPa K H p vp) :
  CloT P w K mg base 4 fv (lU (cb dk d.cells) d.cells.length) H:=by
 refine ⟨⟨_,_,_,_,_,_,hf⟩,λH1 A outer s v u Q e1 hr e0 r h=>?_⟩
 obtain ⟨i,ev,i0,i1,q⟩:=h
 cases ev
 refine vR (k:=3) (N:=["cell","p","self"]) (x:="cell") (fvs:=[vp,.ref W.l]) hr e0 hB ⟨rfl,rfl,rfl,θ,rfl,rfl,θ,λy hy=>?_,λy z a h1 h2=>?_⟩ rfl (λy a h=>?_) (λj y v h1 h2=>?_) (e1 _ _ hf) (e1 _ _ hc) r (λpm ct=>.of_eq rfl) ⟨_,pm GV (pv 2) T.cl (hr.deeper _) (ac (pv 1) (ac (pv 0) ag)),?_⟩
 ·have e:y="p"\/y="self":=(by decide +kernel:∀p∈lScope.names,p.2=NameKind.free->p.1=("p":Str)\/p.1=("self":Str)) _ (PySem.mem_of_lookup hy) rfl
  rcases e with e | e
  ·subst e
   exact ⟨c2,rfl⟩
  ·subst e
   exact ⟨c1,rfl⟩
 ·rcases xH h1 with ⟨rfl,rfl⟩ | ⟨rfl,rfl⟩
  ·rcases xH h2 with ⟨rfl,e⟩ | ⟨_,e⟩
   ·rfl
   ·exact absurd e.symm ne
  ·rcases xH h2 with ⟨_,e⟩ | ⟨rfl,e⟩
   ·exact absurd e ne
   ·rfl
 ·rcases xH h with ⟨_,rfl⟩ | ⟨_,rfl⟩
  ·exact ⟨_,Θ _ Ω⟩
  ·exact ⟨_,Ω⟩
 ·cases j with
  | zero =>
   cases h1
   cases h2
   refine ⟨rfl,c2,rfl,λv' hm=>?_⟩
   rcases List.mem_cons.mp hm with e | e
   ·cases e
    rfl
   ·cases List.mem_singleton.mp e
    exact absurd rfl ne
  | succ j =>
   cases j with
   | zero =>
    cases h1
    cases h2
    refine ⟨rfl,c1,rfl,λv' hm=>?_⟩
    rcases List.mem_cons.mp hm with e | e
    ·cases e
     exact absurd rfl ne
    ·cases List.mem_singleton.mp e
     rfl
   | succ j=>cases h2
 ·exact ⟨_,rfl,W.l,W.dx,_,rfl,e1 _ _ hi,jq θ,_,rfl,_,rfl,W,home,many,S,d,p,vp,o,dk,i,rfl,e1 _ _ hi,e1 _ _ hd,λx hx=>e1 _ _ (hs x hx),hn,di,st.keep e1,sp.keep e1.ts,i0,i1,q⟩
def qZ(CS CH CV:Addr)(K:Frag):Sp:=λvs H Q _=>∃W home many A h d rs ws v p pa i a ak hv,vs=[.ref (W:Aw).l,.ref (h:Ah).l,.ref pa,.int i]/\ShA CS CH K H A h d rs ws v/\H W.l=some (.ins CV W.dx (wf A.l home many W))/\H W.an=some (.dT (dOf p (some a)))/\H a=some (.dK ak)/\bo ak (.inl i)=some (.int hv)/\H pa=some (.tup [.int p.1,.int p.2])/\ws.length<=900 /\
 ∀t H',ShA CS CH K H' A h d rs (ws++[((p.1,("did":Str),pa,t):Ws)]) v->H' t=some (.tup [.int i,.int hv])->KpH A h H H'->Q .non H'
theorem zB(F:Fun K "send_did" "Works.send_did" cG f fd)(DH:TxH K CH)(T:TxV K CV)(GS:GM P w K mg base CX0 1 CH "send" ["self","to","word","p","more"] (mL CS CH K)):FnOk P w K mg base CX0 2 f fd ["self","sheet","p","i"] (qZ CS CH CV K):=by
 refine F.ok ig (λvs H Q E h=>?_) (λcdv A outer s H vs Q E hr h=>?_)
 ·obtain ⟨W,home,many,A,h,d,rs,ws,v,p,pa,i,a,ak,hv,rfl,_⟩:=h
  rfl
 obtain ⟨W,home,many,A,h,d,rs,ws,v,p,pa,i,a,ak,hv,rfl,sh,hi,han,ha,hav,hp,hw,q⟩:=h
 refine ⟨_,aj (bw (pm GS (pv 1) DH.cl hr (ac (ay (r:=aW K) aB (pv 2) ao (λ_ _=>rfl)) (ac aD (ac (pv 2) (ac (aY (ac (pv 3) (ac (iw (eT hr) (iw (eT hr) (aw (pv 0) rfl) (pv 2) (λ_ _=>rfl)) (pv 3) (λ_ _=>rfl)) ag))) ag)))))),?_⟩
 have g1:DGet H W.an (.ref pa) (some (.ref a)):=by
  have:=DGet.t (k:=pk p) han hp
  rw [fu] at this
  exact this
 have g2:DGet H a (.int i) (some (.int hv)):=by
  have:=DGet.k (k:=.inl i) ha
  rw [hav] at this
  exact this
 refine ⟨_,rfl,h.l,h.dx,_,rfl,sh.ins,rO θ,_,rfl,pa,_,_,_,rfl,rfl,SqT.of hp,St.at0,_,rfl,_,rfl,_,rfl,W.l,CV,W.dx,_,_,rfl,hi,T.cl,T.an,oq,_,rfl,W.an,_,rfl,g1,_,rfl,a,_,rfl,g2,χ,λt ht=>?_⟩
 have s1:=al (o:=.tup [.int i,.int hv]) ht
 refine ⟨A,h,d,rs,ws,v,(p.1,"did",pa,t),rfl,sh.keep s1,hw,λH' sh' k'=>?_⟩
 have ts':=(sh.keep s1).ts k'
 exact q t H' sh' (ts' _ _ ad) λb u nb e=>k' b u nb (s1 _ _ e)
theorem Ac{X:Cx}{b c:Addr}{u v:V}{σ:L2.St}(i j:Nat)(x y:Str)(h1:X.N[i]?=some x/\σ[i]?=some (some u)/\X.env.kindOf x=some .cell/\X.env.cells.lookup x=some b/\X.fn x=true)(h2:X.N[j]?=some y/\σ[j]?=some (some v)/\X.env.kindOf y=some .cell/\X.env.cells.lookup y=some c/\X.fn y=true):qN X [(b,u),(c,v)] σ:=λp hm=>by
 rcases List.mem_cons.mp hm with e | e
 ·cases e
  exact ⟨i,x,h1⟩
 ·cases List.mem_singleton.mp e
  exact ⟨j,y,h2⟩
theorem hW{X:Cx}{st:List Stmt}{t u:TS}(h:PSs X st t)(hw:∀D σ H,u D σ H->t D σ H):PSs X st u:=oK u h hw
structure DoI(C:Kd->Addr)(CL CS CH CV:Addr)(K:Frag)(A:Ad)(h:Ah)(W:Aw)(Pt:Addr)(home many:Int)(p:Pa)(ps:List Pr)(H0 H:Hp)(w0:List Addr)(d:Sd)(rs:List Addr)(ws:List Ws)(v:V)(o:Odb)(dk ak:List (Key×V))(cz:Option Addr):Prop where
 sh:ShA CS CH K H A h d rs ws v
 wk:WkB C CL CV K H A.l W Pt home many p o dk ak ps cz
 dj:Dj (wad W Pt o cz) (A.l::h.own A)
 nw:∀b∈wad W Pt o cz,b∈w0\/H0 b=none
 fr:∀b u,b∉w0->b∉h.own A->H0 b=some u->H b=some u
section
variable {CH:Addr}{A:Ad}{h:Ah}{W:Aw}{Pt:Addr}{home many:Int}{p:Pa}{ps:List Pr}{H0 H H':Hp}{w0:List Addr}{d:Sd}{rs:List Addr}{ws:List Ws}{v:V}{o:Odb}{dk ak:List (Key×V)}{cz:Option Addr}
theorem DoI.keep(g:DoI C CL CS CH CV K A h W Pt home many p ps H0 H w0 d rs ws v o dk ak cz)(e:Same H H'):DoI C CL CS CH CV K A h W Pt home many p ps H0 H' w0 d rs ws v o dk ak cz :=
 ⟨g.sh.keep e,g.wk.keep e,g.dj,g.nw,λb u n1 n2 z=>e _ _ (g.fr b u n1 n2 z)⟩
theorem DoI.fresh(g:DoI C CL CS CH CV K A h W Pt home many p ps H0 H w0 d rs ws v o dk ak cz){b:Addr}(hb:H b=none):b∈w0\/H0 b=none:=by
 by_cases m:b∈w0
 ·exact .inl m
 ·by_cases n:b∈h.own A
  ·obtain ⟨u,e,_⟩:=g.sh.own n
   rw [hb] at e
   cases e
  ·cases e:H0 b with
   | none=>exact .inr rfl
   | some u =>
    rw [g.fr b u m n e] at hb
    cases hb
theorem DoI.put(g:DoI C CL CS CH CV K A h W Pt home many p ps H0 H w0 d rs ws v o dk ak cz)(hC:∀k,C k≠CL)(hV:∀k,C k≠CV){x:Addr}{u:HO}(hx:x∈wad W Pt o cz){o':Odb}{dk' ak':List (Key×V)}(eo:wad W Pt o' cz=wad W Pt o cz)(wk:WkB C CL CV K (upd H x u) A.l W Pt home many p o' dk' ak' ps cz) :
  DoI C CL CS CH CV K A h W Pt home many p ps H0 (upd H x u) w0 d rs ws v o' dk' ak' cz:=by
 have nx:=g.dj x hx
 obtain ⟨u0,e0,i0⟩:=g.wk.own hC hV hx
 refine ⟨ShA.fr g.sh (λb y hb e=>by
  have nbx:b≠x:=λy=>nx (by rw [← y];exact hb)
  rw [am nbx]
  exact e) (gZ cq e0 i0).ts,wk,by rw [eo];exact g.dj,by rw [eo];exact g.nw,λb y n1 n2 e=>?_⟩
 have n:b≠x:=λz=>by
  subst z
  rcases g.nw b hx with m | m
  ·exact n1 m
  ·rw [m] at e;cases e
 rw [am n]
 exact g.fr b y n1 n2 e
theorem DoI.new(g:DoI C CL CS CH CV K A h W Pt home many p ps H0 H w0 d rs ws v o dk ak cz)(hC:∀k,C k≠CL)(hV:∀k,C k≠CV){x y:Addr}{u:HO}(hx:x∈wad W Pt o cz)(hy:H y=none){o':Odb}{dk' ak':List (Key×V)}(eo:∀b∈wad W Pt o' cz,b=y\/b∈wad W Pt o cz)(wk:WkB C CL CV K (upd (upd H y (.dK [])) x u) A.l W Pt home many p o' dk' ak' ps cz) :
  DoI C CL CS CH CV K A h W Pt home many p ps H0 (upd (upd H y (.dK [])) x u) w0 d rs ws v o' dk' ak' cz:=by
 have s1:=al (o:=.dK []) hy
 have nx:=g.dj x hx
 obtain ⟨u0,e0,i0⟩:=g.wk.own hC hV hx
 have ny:y∉A.l::h.own A:=λhm=>by
  rcases List.mem_cons.mp hm with z | z
  ·rw [z,g.sh.st.ins] at hy;cases hy
  ·obtain ⟨u,e,_⟩:=g.sh.own z
   rw [hy] at e;cases e
 refine ⟨ShA.fr (g.sh.keep s1) (λb z hb e=>by
  have nbx:b≠x:=λy=>nx (by rw [← y];exact hb)
  rw [am nbx]
  exact e) (gZ (C:=C) cq (s1 _ _ e0) i0).ts,wk,λb hb=>?_,λb hb=>?_,λb z n1 n2 e=>?_⟩
 ·rcases eo b hb with m | m
  ·rw [m];exact ny
  ·exact g.dj b m
 ·rcases eo b hb with m | m
  ·rw [m];exact g.fresh hy
  ·exact g.nw b m
 ·have n:b≠x:=λz=>by
   subst z
   rcases g.nw b hx with m | m
   ·exact n1 m
   ·rw [m] at e;cases e
  rw [am n]
  exact s1 _ _ (g.fr b z n1 n2 e)
theorem DoI.sheet(g:DoI C CL CS CH CV K A h W Pt home many p ps H0 H w0 d rs ws v o dk ak cz)(hH:∀k,C k≠CH){d':Sd}{rs':List Addr}{ws':List Ws}{v':V}(sh:ShA CS CH K H' A h d' rs' ws' v')(k:KpH A h H H'):DoI C CL CS CH CV K A h W Pt home many p ps H0 H' w0 d' rs' ws' v' o dk ak cz :=
 ⟨sh,g.wk.fr (λb u hb e=>k b u (λhm=>g.dj b hb (Θ _ hm)) e) (ShA.is g.sh hH k),g.dj,g.nw,λb u n1 n2 e=>k b u n2 (g.fr b u n1 n2 e)⟩
end
def ut(C:Kd->Addr)(CL CS CH CV:Addr)(K:Frag)(Pt:Addr):Sp:=λvs H Q _=>∃W home many A h d rs ws v p pa wt i hand wd ns o dk ak ps cz,vs=[.ref (W:Aw).l,.ref (h:Ah).l,.ref pa,.ref wt] /\
 ShA CS CH K H A h d rs ws v/\WkB C CL CV K H A.l W Pt home many p o dk ak ps cz/\Dj (wad W Pt o cz) (A.l::h.own A)/\H pa=some (.tup [.int p.1,.int p.2])/\H wt=some (.tup [.int i,.int hand,.str (txt wd ns)])/\Ar wd ns/\inC d.cells.length wd ns/\d.cells.length<=900/\DrI dk/\dk.length<=100/\ak.length<=100/\rs.length<=100/\ws.length<=100/\d.Small 50 /\
 ∀dd aa c t d' rs' v' H',DoI C CL CS CH CV K A h W Pt home many p ps H H' (wad W Pt o cz) d' rs' (ws++[((p.1,("did":Str),pa,t):Ws)]) v' (some dd,some aa) (aP dk (aP [] (chK (dn (cb dk d.cells) wd ns hand).2))) (bZ ak (.inl i) (.int (dn (cb dk d.cells) wd ns hand).1)) (some c) ->
  H' t=some (.tup [.int i,.int (dn (cb dk d.cells) wd ns hand).1])->d'.cells=d.cells->d'.ready=d.ready->d'.ends=d.ends->(∀m,d.Small m->d'.Small (m+1))->(o.2=none->∃r,rs'=rs++[r]/\H' r=some (.tup [.str "work",.ref pa]))->(o.2≠none->rs'=rs)->Q .non H'
theorem Aa(val:Int->Int)(wd:Wd)(ns:List Int)(h:Int):(dn val wd ns h).2.length<=1:=by
 unfold dn
 split<;>simp
theorem sK{cc Pt:Addr}{fS:Wd->Addr}{dS:Wd->FuncData}(F:Fun K "do_step" "Works.do_step" aO f fd)(B:TxB mg)(mDict:mg "dict"=none)(TW:TxW K CW)(T:TxV K CV)(DH:TxH K CH)(hC:∀k,C k≠CL)(hV:∀k,C k≠CV)(hH:∀k,C k≠CH)(hBB:BB mg base)(hcc:fd.code=.ref cc)(hCd:PySem.W.codeHdIn K cc Pt=true)
  (GR:GF P w K mg base CX0 6 "read_step" ["text"] (jM CW))(HV:∀Bh:Heap,K.In Bh->GM P w K mg Bh CX0 2 CV "value_at" ["self","p","cell"] (jL CS CV K))
  (HS:∀(wd:Wd) (val:Int->Int) (n:Nat) (Bh:Heap),n<=1000->K.In Bh->FnOk P w K mg Bh CX0 5 (fS wd) (dS wd) ["self","hand","value_of"] (fy P w K mg CW val n wd Bh))(mS:∀wd,gr K (CW wd) "step_done" (fS wd))(bS:∀wd,Binds K (dS wd) ["self","hand","value_of"] [])
  (GRow:GM P w K mg base CX0 3 CH "row" ["self","row"] (pU CS CH K))(GD:GM P w K mg base CX0 2 CV "send_did" ["self","sheet","p","i"] (qZ CS CH CV K)):FnOk P w K mg base CX0 7 f fd ["self","sheet","p","waited"] (ut C CL CS CH CV K Pt):=by
 refine F.okC sc_Works_do_step (λvs H Q E h=>?_) (λA0 outer s H vs Q E hr h=>?_)
 ·obtain ⟨W,home,many,A,h,d,rs,ws,v,p,pa,wt,i,hand,wd,ns,o,dk,ak,ps,cz,rfl,_⟩:=h
  rfl
 obtain ⟨W,home,many,A,h,d,rs,ws,v,p,pa,wt,i,hand,wd,ns,o,dk,ak,ps,cz,rfl,sh,wk,dj,hpa,hwt,ar,ic,hn,di,ldk,lak,lrs,lws,sm,q⟩:=h
 have nd:=sc_Works_do_step.nd
 have hr5:Room 5 _:=hr.mono ζ
 have ne:s.heap.objs.size+2≠s.heap.objs.size+1:=by omega
 have hz:(1000:Nat)<=sizeLine:=by decide
 generalize er:dn (cb dk d.cells) wd ns hand=r at q
 refine ⟨_,af (aH (i:=4) nd rfl (Or.inl rfl) (uQ (cs:=[(s.heap.objs.size+2,.ref pa),(s.heap.objs.size+1,.ref W.l)]) (sp:=λBh=>fy P w K mg CW (cb dk d.cells) d.cells.length wd Bh) (pc GR hr (ac (ay (r:=aW K) aB (pv 3) ao (λ_ _=>rfl)) ag)) (TW.cl wd) (mS wd)
   (λBh kin=>HS wd (cb dk d.cells) d.cells.length Bh ω kin) hr5 (bS wd) be (ac (ay (r:=aW K) aB (pv 3) ao (λ_ _=>rfl)) (ac (w9 (P:=Pt) (cl:=[("self",s.heap.objs.size+1),("p",s.heap.objs.size+2)]) hcc hCd hBB rfl rfl rfl) ag))))
  (hW (u:=λD σ H1=>∃t ch c,σ=[some (.ref W.l),some (.ref h.l),some (.ref pa),some (.ref wt),some (.ref t)]/\DoI C CL CS CH CV K A h W Pt home many p ps H H1 (wad W Pt o cz) d rs ws v o dk ak (some c)/\H1 t=some (.tup [.int r.1,.ref ch])/\chN H1 r.2 ch/\H1 pa=some (.tup [.int p.1,.int p.2])/\H1 wt=some (.tup [.int i,.int hand,.str (txt wd ns)])/\∀σ' H',Q .non H'->D.nx σ' H')
   (af (bw (xa (rD (eT hr) (aw (pv 0) rfl) (pv 2) ir ⟨rfl,rfl,rfl,rfl⟩) (bc (qI rfl) rfl mDict PyProof.Rows.boot_dict (ac (ay (r:=aW K) aB (pv 4) ao (λ_ _=>rfl)) ag)) ⟨rfl,rfl,rfl,rfl⟩))
  (hW (u:=λD σ H1=>∃t ch c dd,σ=[some (.ref W.l),some (.ref h.l),some (.ref pa),some (.ref wt),some (.ref t)]/\DoI C CL CS CH CV K A h W Pt home many p ps H H1 (wad W Pt o cz) d rs ws v (some dd,o.2) (aP dk (aP [] (chK r.2))) ak (some c)/\H1 t=some (.tup [.int r.1,.ref ch])/\H1 pa=some (.tup [.int p.1,.int p.2])/\H1 wt=some (.tup [.int i,.int hand,.str (txt wd ns)])/\∀σ' H',Q .non H'->D.nx σ' H')
   (af (aI (jb (jd (eT hr) (pv 2) (aw (pv 0) rfl))) (af (il (eT hr) (aw (pv 0) rfl) (pv 2) ir rfl) (aj (bw (pm GRow (pv 1) DH.cl hr (ac (aY (ac aD (ac (pv 2) ag))) ag))))) aC)
  (hW (u:=λD σ H1=>∃t ch c dd aa d' rs' v',σ=[some (.ref W.l),some (.ref h.l),some (.ref pa),some (.ref wt),some (.ref t)]/\DoI C CL CS CH CV K A h W Pt home many p ps H H1 (wad W Pt o cz) d' rs' ws v' (some dd,some aa) (aP dk (aP [] (chK r.2))) ak (some c)/\H1 t=some (.tup [.int r.1,.ref ch])/\H1 pa=some (.tup [.int p.1,.int p.2])/\H1 wt=some (.tup [.int i,.int hand,.str (txt wd ns)])/\d'.cells=d.cells/\d'.ready=d.ready/\d'.ends=d.ends/\(∀m,d.Small m->d'.Small (m+1)) /\
    (o.2=none->∃rr,rs'=rs++[rr]/\H1 rr=some (.tup [.str "work",.ref pa]))/\(o.2≠none->rs'=rs)/\∀σ' H',Q .non H'->D.nx σ' H')
   (af (il (eT hr) (iw (eT hr) (aw (pv 0) rfl) (pv 2) (λ_ _=>rfl)) (ay (r:=aW K) aB (pv 3) ao (λ_ _=>rfl)) (ay (r:=aW K) aB (pv 4) ao (λ_ _=>rfl)) rfl)
   (aj (bw (pm GD (pv 0) T.cl hr (ac (pv 1) (ac (pv 2) (ac (ay (r:=aW K) aB (pv 3) ao (λ_ _=>rfl)) ag))))))) ?s4)) ?s3)) ?s2),?_⟩
 case s4 =>
  rintro D σ H1 ⟨t,ch,c,dd,aa,d',rs',v',rfl,g,ht,hp1,hw1,e1,e2,e3,e4,e5,e6,nx⟩
  have g1:DGet H1 W.an (.ref pa) (some (.ref aa)):=by
   have:=DGet.t (k:=pk p) g.wk.an hp1
   rw [fu] at this
   exact this
  refine ⟨_,rfl,t,_,_,_,rfl,rfl,SqT.of ht,St.at0,_,rfl,W.l,CV,W.dx,_,_,rfl,g.wk.ins,T.cl,T.an,oq,_,rfl,W.an,_,rfl,g1,_,rfl,wt,_,_,_,rfl,rfl,SqT.of hw1,St.at0,aa,_,rfl,DPut.k (k:=.inl i) g.wk.aa ω,?_⟩
  have g2:=g.put hC hV (x:=aa) (u:=.dK (bZ ak (.inl i) (.int r.1))) (by simp [wad,odl]) rfl (g.wk.putA _)
  have ts:aT H1 (upd H1 aa (.dK (bZ ak (.inl i) (.int r.1)))):=(gZ (C:=C) cq g.wk.aa id).ts
  have hp2:=ts _ _ hp1
  have hw2:=ts _ _ hw1
  have av:bo (bZ ak (.inl i) (.int r.1)) (.inl i)=some (.int r.1):=by rw [ie,if_pos rfl]
  refine ⟨_,rfl,W.l,W.dx,_,rfl,g2.wk.ins,jq θ,_,rfl,_,rfl,_,rfl,wt,_,_,_,rfl,rfl,SqT.of hw2,St.at0,W,home,many,A,h,d',rs',ws,v',p,pa,i,aa,_,r.1,rfl,g2.sh,g2.wk.ins,g2.wk.an,g2.wk.aa,av,hp2,ω,λt2 H2 sh2 ht2 k2=>nx _ H2 ?_⟩
  have g3:=g2.sheet hH sh2 k2
  refine q dd aa c t2 d' rs' v' H2 g3 ht2 e1 e2 e3 e4 (λz=>?_) e6
  obtain ⟨rr,a1,a2⟩:=e5 z
  exact ⟨rr,a1,g2.sh.ts k2 _ _ (ts _ _ a2)⟩
 case s3 =>
  rintro D σ H1 ⟨t,ch,c,dd,rfl,g,ht,hp1,hw1,nx⟩
  have g1:=DGet.t (k:=pk p) g.wk.an hp1
  rw [fu] at g1
  refine ⟨_,rfl,_,rfl,W.l,CV,W.dx,_,_,rfl,g.wk.ins,T.cl,T.an,oq,W.an,_,rfl,g1,_,rfl,?_⟩
  obtain ⟨od,oa⟩:=o
  cases oa with
  | some aa=>exact bj ⟨t,ch,c,dd,aa,d,rs,v,rfl,g,ht,hp1,hw1,rfl,rfl,rfl,λm z=>z.mono (Nat.le_succ _),(λz=>by cases z),λ_=>rfl,nx⟩
  | none =>
   refine cI λaa haa=>⟨_,rfl,W.l,CV,W.dx,_,_,rfl,al haa _ _ g.wk.ins,T.cl,T.an,oq,_,rfl,W.an,_,rfl,DPut.t (k:=pk p) (al haa _ _ g.wk.an) (al haa _ _ hp1) (by show 0<sizeLine;decide),?_⟩
   have ep:bZ (dOf p none) (pk p) (.ref aa)=[(pk p,.ref aa)]:=rfl
   rw [ep]
   have wk2:=g.wk.newA haa
   have g2:=g.new hC hV (x:=W.an) (y:=aa) (u:=.dT [(pk p,.ref aa)]) i4 haa (o':=(some dd,some aa)) (λb hb=>List.mem_cons.mp ((List.perm_middle (l₁:=[W.l,W.lk,W.pl,W.dr,W.an,W.pe,Pt,dd]) (l₂:=[c])).mem_iff.mp hb)) wk2
   have ts:aT H1 (upd (upd H1 aa (.dK [])) W.an (.dT [(pk p,.ref aa)])):=λb xs e=>by
    rw [am (λz=>by rw [z,g.wk.an] at e;cases e),am (ae e haa)]
    exact e
   have ea:ak=[]:=g.wk.n2 rfl
   subst ea
   generalize (upd (upd H1 aa (.dK [])) W.an (.dT [(pk p,.ref aa)]))=H2 at g2 ts ⊢
   refine ⟨_,rfl,h.l,h.dx,_,rfl,g2.sh.ins,rO θ,_,rfl,χ,λrr hrr=>?_⟩
   have s3:=al (o:=.tup [.str "work",.ref pa]) hrr
   have hp3:=s3 _ _ (ts _ _ hp1)
   refine ⟨A,h,d,rs,ws,v,rr,.work p,rfl,g2.sh.keep s3,⟨.ref pa,[],ad,⟨pa,rfl,hp3⟩,rfl⟩,sm.mono ζ,hn,⟨(λc hc=>by cases hc),λp' ch' z=>by cases z⟩,ω,λb v' H4 sh4 k4=>?_⟩
   have ts4:=(g2.sh.keep s3).ts k4
   refine ⟨t,ch,c,dd,aa,_,_,v',rfl,(g2.keep s3).sheet hH sh4 k4,ts4 _ _ (s3 _ _ (ts _ _ ht)),ts4 _ _ hp3,ts4 _ _ (s3 _ _ (ts _ _ hw1)),rfl,rfl,rfl,λm z=>z.keep rr b (.work p),λ_=>⟨rr,rfl,ts4 _ _ ad⟩,λz=>absurd rfl z,nx⟩
 case s2 =>
  rintro D σ H1 ⟨t,ch,c,rfl,g,ht,⟨us,hch,pch⟩,hp1,hw1,nx⟩
  refine ⟨_,rfl,W.l,CV,W.dx,_,_,rfl,g.wk.ins,T.cl,T.dr,ym,W.dr,rfl,.inr ⟨_,.inl g.wk.dr⟩,_,rfl,λq0 hq0=>?_⟩
  have s1:=al (o:=.dK []) hq0
  have l1:r.2.length<=1:=by rw [← er];exact Aa _ _ _ _
  have lc:(chK r.2).length<=1:=by unfold chK;rw [List.length_map];exact l1
  have lm:(aP [] (chK r.2)).length<=1:=by have:=cK (chK r.2) [];simp at this;omega
  have fin:∀(dd p2:Addr) (H4:Hp),DoI C CL CS CH CV K A h W Pt home many p ps H H4 (wad W Pt o cz) d rs ws v (some dd,o.2) dk ak (some c)->aT H1 H4->H4 p2=none ->
    DoI C CL CS CH CV K A h W Pt home many p ps H (upd (upd H4 p2 (.dK (aP [] (chK r.2)))) dd (.dK (aP dk (aP [] (chK r.2))))) (wad W Pt o cz) d rs ws v (some dd,o.2) (aP dk (aP [] (chK r.2))) ak (some c)/\aT H1 (upd (upd H4 p2 (.dK (aP [] (chK r.2)))) dd (.dK (aP dk (aP [] (chK r.2))))):=λdd p2 H4 g4 t4 hp2=>by
   have g5:=g4.keep (al (o:=.dK (aP [] (chK r.2))) hp2)
   refine ⟨g5.put hC hV (x:=dd) (by simp [wad,odl]) rfl (g5.wk.putD _),λb xs e=>?_⟩
   have e4:=al (o:=.dK (aP [] (chK r.2))) hp2 _ _ (t4 _ _ e)
   rw [am (λz=>by rw [z,g5.wk.dd] at e4;cases e4)]
   exact e4
  have prk:∀{H4:Hp},aT H1 H4->Paired (prD H4) (chK r.2) us:=λt4=>Paired.mapP pch λ_ _ ⟨b,e,hb⟩=>⟨b,e,t4 _ _ hb⟩
  refine ⟨_,pk p,pa,s1 _ _ g.wk.dr,rfl,s1 _ _ hp1,?_,λv' ev=>?_,λev=>?_⟩
  ·have:(dOf p o.1).length<=1:=by cases o.1<;>simp [dOf]
   omega
  ·rw [fu] at ev
   obtain ⟨od,oa⟩:=o
   cases od with
   | none=>cases ev
   | some dd =>
    cases ev
    have g4:=g.keep s1
    refine ⟨dd,rfl,.inl ⟨_,.inl g4.wk.dd⟩,_,rfl,t,_,_,_,rfl,rfl,SqT.of (s1 _ _ ht),St.at1,ch,us,chK r.2,rfl,s1 _ _ hch,prk s1.ts,ω,λp2 hp2=>⟨p2,dk,aP [] (chK r.2),rfl,(λz=>by rw [← z,g4.wk.dd] at hp2;cases hp2),al hp2 _ _ g4.wk.dd,ad,ω,?_⟩⟩
    obtain ⟨g6,t6⟩:=fin dd p2 _ g4 s1.ts hp2
    exact ⟨t,ch,c,dd,rfl,g6,t6 _ _ ht,t6 _ _ hp1,t6 _ _ hw1,nx⟩
  ·rw [fu] at ev
   obtain ⟨od,oa⟩:=o
   cases od with
   | some dd=>cases ev
   | none =>
    have wk2:=g.wk.newD hq0
    have ed:dk=[]:=g.wk.n1 rfl
    subst ed
    have g4:=g.new hC hV (x:=W.dr) (y:=q0) (u:=.dT [(pk p,.ref q0)]) i3 hq0 (o':=(some q0,oa)) (λb hb=>List.mem_cons.mp ((List.perm_middle (l₁:=[W.l,W.lk,W.pl,W.dr,W.an,W.pe,Pt]) (l₂:=oa.toList++[c])).mem_iff.mp hb)) wk2
    have t4:aT H1 (upd (upd H1 q0 (.dK [])) W.dr (.dT [(pk p,.ref q0)])):=λb xs e=>by
     rw [am (λz=>by rw [z,g.wk.dr] at e;cases e),am (ae e hq0)]
     exact e
    have hch4:(upd (upd H1 q0 (.dK [])) W.dr (.dT [(pk p,.ref q0)])) ch=some (tJ ch us):=by
     rw [am (bU hch g.wk.dr (by intro z;cases z)),am (ae hch hq0)]
     exact hch
    show (_:Prop)
    refine ⟨q0,rfl,.inl ⟨_,.inl g4.wk.dd⟩,_,rfl,t,_,_,_,rfl,rfl,SqT.of (t4 _ _ ht),St.at1,ch,us,chK r.2,rfl,hch4,prk t4,ω,λp2 hp2=>⟨p2,[],aP [] (chK r.2),rfl,(ae g4.wk.dd hp2),al hp2 _ _ g4.wk.dd,ad,by simp;omega,?_⟩⟩
    obtain ⟨g6,t6⟩:=fin q0 p2 _ g4 t4 hp2
    exact ⟨t,ch,c,q0,rfl,g6,t6 _ _ ht,t6 _ _ hp1,t6 _ _ hw1,nx⟩
 have hf:(lK wd ns).lookup ("step_done":Str)=none:=yG θ θ θ θ θ wd ns
 refine ⟨Ac 2 0 "p" "self" ⟨rfl,rfl,rfl,rfl,rfl⟩ ⟨rfl,rfl,rfl,rfl,rfl⟩,_,rfl,wt,_,_,_,rfl,rfl,SqT.of hwt,St.at2,wd,ns,rfl,ar,λv1 H1 s1 sto=>?_⟩
 obtain ⟨a1,dx1,rfl,ha1⟩:=id sto
 refine ⟨a1,dx1,_,rfl,ha1,hf,_,rfl,wt,_,_,_,rfl,rfl,SqT.of (s1 _ _ hwt),St.at1,(wk.keep s1).tb,λfv c H2 k2 hP2 hc2 hf0 hfv hcc2 Bh kin pb=>?_⟩
 obtain ⟨wk2,new2⟩:=(wk.keep s1).lam k2 hP2 hc2 hcc2
 have wk1:=wk.keep s1
 have hPt:Pt∈wad W Pt o cz:=i6
 have ts2:aT H1 H2:=λb xs e=>k2 b _ (λz=>by
  obtain ⟨u,e1,i1⟩:=wk1.own hC hV hPt
  rw [z,e1] at e
  cases e
  exact i1 True.intro) e
 have nPA:=dj Pt hPt
 have sh2:ShA CS CH K H2 A h d rs ws v:=ShA.fr (sh.keep s1) (λb y hb e=>k2 b y (λz=>nPA (by rw [← z];exact hb)) e) ts2
 have g2:DoI C CL CS CH CV K A h W Pt home many p ps H H2 (wad W Pt o cz) d rs ws v o dk ak (some c):=by
  refine ⟨sh2,wk2,λb hb=>?_,λb hb=>?_,λb u n1 n2 e=>k2 b u (λz=>n1 (by rw [z];exact hPt)) (s1 _ _ e)⟩
  ·rcases new2 b hb with m | m
   ·exact dj b m
   ·intro hm
    rcases List.mem_cons.mp hm with z | z
    ·rw [z,(sh.keep s1).st.ins] at m;cases m
    ·obtain ⟨u,e,_⟩:=(sh.keep s1).own z
     rw [m] at e;cases e
  ·rcases new2 b hb with m | m
   ·exact .inl m
   ·refine .inr ?_
    cases e:H b with
    | none=>rfl
    | some u=>rw [s1 _ _ e] at m;cases m
 have sto2:StO CW H2 wd ns (.ref a1):=⟨a1,dx1,rfl,k2 _ _ (λz=>by
  obtain ⟨u,e1,i1⟩:=wk1.own hC hV hPt
  rw [z] at ha1
  have hP1:H1 Pt=some (.tbl (qG cz)):=by
   obtain ⟨dl,vs,x1,_⟩:=wk1.ex
   exact x1 (Pt,.tbl (qG cz)) i6
  rw [hP1] at ha1
  cases ha1) ha1⟩
 have ct:CloT P w K mg Bh 4 fv (lU (cb dk d.cells) d.cells.length) H2:=xJ ne pb hfv hcc2 T (HV Bh kin) wk2.ins wk2.dr (λx hx=>by
  obtain ⟨od,oa⟩:=o
  cases (show od=some x from hx)
  exact wk2.dd) wk2.n1 di sh2.st ⟨pa,rfl,ts2 _ _ (s1 _ _ hpa)⟩
 refine ⟨.ref a1,ns,hand,fv,rfl,ar,ic,sto2,ct,λt ch H3 s3 ht hch=>?_⟩
 rw [er] at ht hch
 exact ⟨t,ch,c,rfl,g2.keep s3,ht,hch,s3 _ _ (ts2 _ _ (s1 _ _ hpa)),s3 _ _ (ts2 _ _ (s1 _ _ hwt)),λ_ H' z=>z⟩
theorem nO(p:Pa)(due:List Lk):∀x∈due.map (λk=>((p,k):Pr)),x.1=p:=λx hx=>by
 obtain ⟨k,_,rfl⟩:=List.mem_map.mp hx
 rfl
theorem yc(p:Pa)(due:List Lk)(k:Lk):gc (due.map λk=>((p,k):Pr)) p k=due.any λj=>bx j k:=by
 unfold gc
 rw [List.any_map]
 congr 1
 funext j
 show (decide (p=p)&&bx j k)=bx j k
 rw [τ rfl,Bool.true_and]
def wg(due:List Lk)(k:Lk):List Lk:=if (due.any λj=>bx j k)=true then due else due++[k]
theorem xY(due:List Lk)(k:Lk):(wg due k).length<=due.length+1:=by
 unfold wg
 split<;>simp
theorem yf(p:Pa)(due:List Lk)(k:Lk):pB (due.map λk=>((p,k):Pr)) p k=(wg due k).map λk=>(p,k):=by
 unfold pB wg
 rw [yc]
 split
 ·rfl
 ·rw [List.map_append];rfl
theorem wB(p:Pa)(due:List Lk)(k:Lk):wC (due.map λk=>((p,k):Pr)) p k=true:=by
 unfold wC
 have e:(due.map λk=>((p,k):Pr))++[(p,k)]=(due++[k]).map λk=>(p,k):=by rw [List.map_append];rfl
 rw [e,kS (nO p (due++[k]))]
 simp
theorem xS{n:Nat}{wd:Wd}{ns:List Int}(ar:Ar wd ns)(ic:inC n wd ns):∃k,vP wd ns=some k:=by
 cases wd with
 | take=>obtain ⟨a,b,rfl,_⟩:=ar.c rfl;exact ⟨_,rfl⟩
 | mean=>obtain ⟨a,b,rfl,_⟩:=ar.c rfl;exact ⟨_,rfl⟩
 | give=>obtain ⟨a,b,rfl,_⟩:=ar.c rfl;exact ⟨_,rfl⟩
 | sum=>obtain ⟨a,b,c,rfl,_⟩:=ar.s;exact ⟨_,rfl⟩
 | add=>obtain ⟨a,b,c,rfl,_⟩:=ar.a;exact ⟨_,rfl⟩
 | plus=>exact ic.elim
 | need=>exact ic.elim
section
variable {CH:Addr}{A:Ad}{h:Ah}{W:Aw}{Pt:Addr}{home many:Int}{p:Pa}{ps ps':List Pr}{H0 H H':Hp}{w0:List Addr}{d d':Sd}{rs rs':List Addr}{ws ws':List Ws}{v v':V}{o o':Odb}{dk ak dk' ak':List (Key×V)}{cz cz':Option Addr}
theorem DoI.start(sh:ShA CS CH K H A h d rs ws v)(wk:WkB C CL CV K H A.l W Pt home many p o dk ak ps cz)(dj:Dj (wad W Pt o cz) (A.l::h.own A)):DoI C CL CS CH CV K A h W Pt home many p ps H H (wad W Pt o cz) d rs ws v o dk ak cz:=⟨sh,wk,dj,λb hb=>.inl hb,λb u _ _ e=>e⟩
theorem DoI.trans(g:DoI C CL CS CH CV K A h W Pt home many p ps H0 H w0 d rs ws v o dk ak cz)(g2:DoI C CL CS CH CV K A h W Pt home many p ps' H H' (wad W Pt o cz) d' rs' ws' v' o' dk' ak' cz'):DoI C CL CS CH CV K A h W Pt home many p ps' H0 H' w0 d' rs' ws' v' o' dk' ak' cz':=by
 refine ⟨g2.sh,g2.wk,g2.dj,λb hb=>?_,λb u n1 n2 e=>?_⟩
 ·rcases g2.nw b hb with m | m
  ·exact g.nw b m
  ·exact g.fresh m
 ·refine g2.fr b u (λhm=>?_) n2 (g.fr b u n1 n2 e)
  rcases g.nw b hm with m | m
  ·exact n1 m
  ·rw [m] at e;cases e
theorem DoI.asked(g:DoI C CL CS CH CV K A h W Pt home many p ps H0 H w0 d rs ws v o dk ak cz)(hC:∀k,C k≠CL)(ls:LS C CL K H' W.lk W.pl ps')(k:Kp W.pl H H'):DoI C CL CS CH CV K A h W Pt home many p ps' H0 H' w0 d rs ws v o dk ak cz:=by
 have hx:W.pl∈wad W Pt o cz:=i2
 obtain ⟨dx,us,e1,e2,e3⟩:=g.wk.ls
 refine ⟨ShA.fr g.sh (λb u hb e=>k b u (λz=>g.dj W.pl hx (by rw [← z];exact hb)) e) (gZ (C:=C) k e2 id).ts,g.wk.ask hC ls k,g.dj,g.nw,λb u n1 n2 e=>k b u (λz=>?_) (g.fr b u n1 n2 e)⟩
 subst z
 rcases g.nw _ hx with m | m
 ·exact n1 m
 ·rw [m] at e;cases e
end
def pM(C:Kd->Addr)(CL CS CH CV:Addr)(K:Frag)(Pt:Addr):Sp:=λvs H Q _=>∃W home many A h d rs ws v p pa i hand wd ns o dk ak due cz,vs=[.ref (W:Aw).l,.ref (h:Ah).l,.ref pa,.int i,.int hand,.str (txt wd ns)] /\
 ShA CS CH K H A h d rs ws v/\WkB C CL CV K H A.l W Pt home many p o dk ak ((due:List Lk).map λk=>((p,k):Pr)) cz/\Dj (wad W Pt o cz) (A.l::h.own A)/\H pa=some (.tup [.int p.1,.int p.2])/\Ar wd ns/\inC d.cells.length wd ns/\d.cells.length<=900/\DrI dk/\DrI ak/\dk.length<=100/\ak.length<=100/\rs.length<=100/\ws.length<=100/\due.length<=900/\d.Small 50/\d.ready=[] /\
 (∀hv t H',bo ak (.inl i)=some (.int hv)->DoI C CL CS CH CV K A h W Pt home many p (due.map λk=>((p,k):Pr)) H H' (wad W Pt o cz) d rs (ws++[((p.1,("did":Str),pa,t):Ws)]) v o dk ak cz->H' t=some (.tup [.int i,.int hv])->Q .non H') /\
 (bo ak (.inl i)=none->∀dd aa c t d' rs' v' (due2:List Lk) H',due2.length<=due.length+1->DoI C CL CS CH CV K A h W Pt home many p (due2.map λk=>((p,k):Pr)) H H' (wad W Pt o cz) d' rs' (ws++[((p.1,("did":Str),pa,t):Ws)]) v' (some dd,some aa) (aP dk (aP [] (chK (dn (cb dk d.cells) wd ns hand).2))) (bZ ak (.inl i) (.int (dn (cb dk d.cells) wd ns hand).1)) (some c) ->
  H' t=some (.tup [.int i,.int (dn (cb dk d.cells) wd ns hand).1])->d'.cells=d.cells->d'.ready=d.ready->d'.ends=d.ends->(∀m,d.Small m->d'.Small (m+1))->(o.2=none->∃r,rs'=rs++[r]/\H' r=some (.tup [.str "work",.ref pa]))->(o.2≠none->rs'=rs)->Q .non H')
theorem xi{Pt:Addr}(F:Fun K "work" "Works.work" fQ f fd)(TW:TxW K CW)(T:TxV K CV)(L:TxL K C CL)(hC:∀k,C k≠CL)(hV:∀k,C k≠CV)(hH:∀k,C k≠CH)
  (GB:GM P w K mg base CX0 2 CV "is_bound" ["self","p"] (uq CS CV K))(GD:GM P w K mg base CX0 2 CV "send_did" ["self","sheet","p","i"] (qZ CS CH CV K))(GK:GM P w K mg base CX0 5 CL "ask" ["self","p","lock"] (uw C CL K))(GO:GF P w K mg base CX0 3 "lock_of" ["told"] (jZ C K))
  (GR:GF P w K mg base CX0 6 "read_step" ["text"] (jM CW))(GL:∀wd,GM P w K mg base CX0 3 (CW wd) "lock" ["self"] (d0 CW K wd))(GS:GM P w K mg base CX0 7 CV "do_step" ["self","sheet","p","waited"] (ut C CL CS CH CV K Pt)):FnOk P w K mg base CX0 8 f fd ["self","sheet","p","i","hand","text"] (pM C CL CS CH CV K Pt):=by
 refine F.ok ly (λvs H Q E h=>?_) (λcdv A0 outer s H vs Q E hr h=>?_)
 ·obtain ⟨W,home,many,A,h,d,rs,ws,v,p,pa,i,hand,wd,ns,o,dk,ak,due,cz,rfl,_⟩:=h
  rfl
 obtain ⟨W,home,many,A,h,d,rs,ws,v,p,pa,i,hand,wd,ns,o,dk,ak,due,cz,rfl,sh,wk,dj,hpa,ar,ic,hn,di,ai,ldk,lak,lrs,lws,ldu,sm,er,q1,q2⟩:=h
 obtain ⟨lk,elk⟩:=xS ar ic
 refine ⟨_,af (aI (cu (pm GB (pv 0) T.cl hr (ac (pv 2) ag))) aJ aC)
  (aj (aI (jb (qg (eT hr) (pv 3) (oN (eT hr) (aw (pv 0) rfl) (pv 2) ir ⟨rfl,rfl,rfl,rfl⟩))) (aj (bw (pm GD (pv 0) T.cl hr (ac (pv 1) (ac (pv 2) (ac (pv 3) ag))))))
   (aj (aI (jb (jd (eT hr) (pv 2) (aw (pv 0) rfl))) (aj (aI (cu (pm GK (aw (pv 0) rfl) L.cl hr (ac (pv 2) (ac (pc GO hr (ac (pm0 (GL wd) (pc GR hr (ac (pv 5) ag)) (TW.cl wd) hr) ag)) ag))))
    (aj (bw (pm GS (pv 0) T.cl hr (ac (pv 1) (ac (pv 2) (ac (aY (ac (pv 3) (ac (pv 4) (ac (pv 5) ag)))) ag)))))) aJ)) aC)))),?_⟩
 have g0:=DoI.start sh wk dj
 refine ⟨_,rfl,W.l,W.dx,_,rfl,wk.ins,jq θ,_,rfl,W,home,many,A,d,_,p,rfl,wk.ins,sh.st,er,⟨pa,rfl,hpa⟩,λH1 s1=>⟨_,rfl,bj ?_⟩⟩
 have g1:=g0.keep s1
 have hp1:=s1 _ _ hpa
 refine ⟨_,rfl,_,rfl,W.l,CV,W.dx,_,_,rfl,g1.wk.ins,T.cl,T.an,oq,W.an,rfl,.inr ⟨_,.inl g1.wk.an⟩,_,rfl,λq0 hq0=>⟨_,DGet.t (k:=pk p) (al hq0 _ _ g1.wk.an) (al hq0 _ _ hp1),?_⟩⟩
 have s2:=al (o:=.dK []) hq0
 have g2:=g1.keep s2
 have hp2:=s2 _ _ hp1
 rw [fu]
 obtain ⟨x,hx,hxv⟩:∃x,(Option.map V.ref o.2).getD (.ref q0)=.ref x/\(upd H1 q0 (.dK [])) x=some (.dK ak):=by
  obtain ⟨od,oa⟩:=o
  cases oa with
  | none=>exact ⟨q0,rfl,by rw [wk.n2 rfl];exact ad⟩
  | some x=>exact ⟨x,rfl,g2.wk.aa⟩
 rw [hx]
 refine ⟨x,_,rfl,DGet.k (k:=.inl i) hxv,_,rfl,aU (λe=>?_) (λe=>?_)⟩
 ·cases ev:bo ak (.inl i) with
  | none=>rw [ev] at e;cases e
  | some u =>
   obtain ⟨hv,rfl⟩:=ai i u ev
   obtain ⟨od,oa⟩:=o
   cases oa with
   | none=>rw [wk.n2 rfl] at ev;cases ev
   | some aa =>
    refine ⟨_,rfl,W.l,W.dx,_,rfl,g2.wk.ins,jq θ,_,rfl,_,rfl,_,rfl,W,home,many,A,h,d,rs,ws,v,p,pa,i,aa,ak,hv,rfl,g2.sh,g2.wk.ins,g2.wk.an,g2.wk.aa,ev,hp2,ω,λt H3 sh3 ht k3=>?_⟩
    exact q1 hv t H3 ev (g2.sheet hH sh3 k3) ht
 ·have ev:bo ak (.inl i)=none:=by
   cases ev:bo ak (.inl i) with
   | none=>rfl
   | some v=>exact absurd (by rw [ev];rfl) e
  refine ⟨_,rfl,_,rfl,W.l,CV,W.dx,_,_,rfl,g2.wk.ins,T.cl,T.pe,Aj,W.pe,_,rfl,DGet.t (k:=pk p) g2.wk.pe hp2,_,rfl,cI ?_⟩
  obtain ⟨dl,us,hl1,hl2,hl3⟩:=g2.wk.ls
  refine ⟨_,rfl,W.l,CV,W.dx,_,_,rfl,g2.wk.ins,T.cl,T.lk,yl,W.lk,dl,_,rfl,hl1,kL θ,_,rfl,_,rfl,wd,ns,rfl,ar,λsv H3 s3 sto=>?_⟩
  obtain ⟨sa,sdx,rfl,hsa⟩:=id sto
  have fl:=yG (m:="lock") θ θ θ θ θ wd ns
  refine ⟨sa,sdx,_,rfl,hsa,fl,_,ns,rfl,ar,sto,λu H4 s4 lo=>?_⟩
  rw [elk] at lo
  obtain ⟨la,rfl,hla⟩:=lo
  refine ⟨_,lk,rfl,wA hla,λu2 H5 s5 lo5=>?_⟩
  have s25:=s3.trans (s4.trans s5)
  have g5:=g2.keep s25
  have hp5:=s25 _ _ hp2
  refine ⟨W.lk,W.pl,_,_,p,u2,lk,rfl,g5.wk.ls,(by rw [List.length_map];omega),sPa.c ⟨pa,rfl,hp5⟩,lo5,pH (nO p due) p,λH6 ls6 k6=>?_⟩
  rw [wB]
  rw [yf] at ls6
  have g6:=g5.asked hC ls6 k6
  obtain ⟨dx5,us5,_,e5,_⟩:=g5.wk.ls
  have hp6:=(gZ (C:=C) k6 e5 id).ts _ _ hp5
  refine ⟨_,rfl,cI ⟨_,rfl,W.l,W.dx,_,rfl,g6.wk.ins,jq θ,_,rfl,_,rfl,_,rfl,_,rfl,_,rfl,χ,λwt hwt=>?_⟩⟩
  have s7:=al (o:=.tup [.int i,.int hand,.str (txt wd ns)]) hwt
  have g7:=g6.keep s7
  refine ⟨W,home,many,A,h,d,rs,ws,v,p,pa,wt,i,hand,wd,ns,o,dk,ak,_,cz,rfl,g7.sh,g7.wk,g7.dj,s7 _ _ hp6,ad,ar,ic,hn,di,ldk,lak,lrs,lws,sm,λdd aa c t d' rs' v' H8 g8 ht e1 e2 e3 e4 e5 e6=>?_⟩
  exact q2 ev dd aa c t d' rs' v' (wg due lk) H8 (xY due lk) (g7.trans g8) ht e1 e2 e3 e4 e5 e6
theorem rF{X:Cx}(n:Nat)(hu:X.A.units+n+1<cLine):OpR X (compareOp .NotEq) (λx y H Q=>∃a b us vs,x=.ref a/\y=.ref b/\SqL X.K H a us/\SqL X.K H b vs/\Paired (λx y=>EqIs X.K n H x y true) us vs/\Q (.bl false) H):=by
 intro pins s σ H x y v u Q I rx ry h
 obtain ⟨a,b,us,vs,rfl,rfl,ha,hb,hr,q⟩:=h
 cases rx
 cases ry
 obtain ⟨i1,v1,p1,_⟩:=I.list ha
 obtain ⟨i2,v2,p2,_⟩:=I.list hb
 have l1:=v1.length
 have l2:=v2.length
 have l3:=hr.len
 have z:=PySem.SeqAt.RcNeAt.lists (A:=X.A) (s:=s) (e:=λ_=>true) p1.isList p2.isList (by simp;omega) ω (λj h1 h2=>by
  have h1':j<i1.length:=by simpa using h1
  have h2':j<i2.length:=by simpa using h2
  have e1:us[j]?=some us[j]:=ξ ω
  obtain ⟨y,e2,ey⟩:=hr.get1 e1
  obtain ⟨u,eu,ru⟩:=v1.get e1
  obtain ⟨v,ev,rv⟩:=v2.get e2
  have q:=ey X.prog X.w X.A.in1 s u v (by show X.A.units+1+n<cLine;omega) I.hok I.kIn ru rv
  have z1:i1.toArray[j]=u:=by
   rw [ξ h1'] at eu
   simpa using Option.some.inj eu
  have z2:i2.toArray[j]=v:=by
   rw [ξ h2'] at ev
   simpa using Option.some.inj ev
  rw [z1,z2]
  exact q)
 have ez:(!(List.range i1.toArray.size).all λ_=>true)=false:=by simp
 rw [ez] at z
 exact z X.prog X.w X.xe _ ⟨.bl false,H,I,rfl,q⟩
theorem kE(F:Fun K "_law_whole" "_law_whole" fE f fd)(B:TxB mg):FnOk P w K mg base CX0 1 f fd ["_law_found"] Lo.fw:=by
 refine F.ok lw (λvs H Q E h=>?_) (λcdv A outer s H vs Q E hr h=>?_)
 ·obtain ⟨i,rfl,_⟩:=h
  rfl
 obtain ⟨i,rfl,q⟩:=h
 refine ⟨_,aj (ax (fM (aF cW rfl B.isi PyProof.Rows.boot_isinstance (ac (pv 0) (ac (iz (v:=.ty "int") rfl B.int PyProof.Rows.boot_int rfl) ag)))
  (eM (uP (aF cW rfl B.isi PyProof.Rows.boot_isinstance (ac (pv 0) (ac (iz (v:=.ty "bool") rfl B.bool PyProof.Rows.boot_bool rfl) ag))))))),?_⟩
 refine ⟨_,rfl,_,_,_,_,rfl,TyOf.int i,qy,_,rfl,cI ?_⟩
 exact ⟨_,rfl,_,_,_,_,rfl,TyOf.int i,qz,_,rfl,q⟩
def mK:Sp:=λvs H Q _=>∃c,vs=[.int c]/\∀r,inV r->Q (.int r) H
theorem xt(F:Fun K "_law_number" "_law_number" eL f fd):FnOk P w K mg base CX0 1 f fd ["_law_cell"] mK:=by
 refine F.ok ki (λvs H Q E h=>?_) (λcdv A outer s H vs Q E hr h=>?_)
 ·obtain ⟨c,rfl,_⟩:=h
  rfl
 obtain ⟨c,rfl,q⟩:=h
 refine ⟨_,af (aI (az bH (aG cY (pv 0) ao) ao (aA _)) (aj (ax (aG cZ (aG kC (aG cY (aG cj (pv 0) ao) (aG kC (aG uY ao (aG uW ao ao)) ao)) (aG uW ao ao)) ao))) aC)
  (aj (ax (aG kC (aG cY (aG cj (pv 0) ao) ao) ao))),?_⟩
 refine ⟨_,rfl,_,_,rfl,rfl,(by show (0:Int)<3;decide),rfl,_,rfl,aU (λ_=>?_) (λ_=>?_)⟩
 ·refine ⟨_,rfl,_,_,rfl,rfl,⟨ζ,ζ⟩,_,_,rfl,rfl,⟨ζ,ζ,ζ⟩,_,_,rfl,rfl,.inl ⟨ζ,ζ⟩,_,_,rfl,rfl,_,_,rfl,rfl,(by show (0:Int)<2*10 ^ 40-1;decide +kernel),_,_,rfl,rfl,⟨ζ,ζ,ζ⟩,_,_,rfl,rfl,_,_,rfl,rfl,q _ ?_⟩
  show (c/3%(2*10 ^ 40-1)-10 ^ 40+1:Int).natAbs<10 ^ 40
  have h0:0<=c/3%(2*10 ^ 40-1:Int):=Int.emod_nonneg _ θ
  have h1:c/3%(2*10 ^ 40-1:Int)<2*10 ^ 40-1:=Int.emod_lt_of_pos _ θ
  generalize c/3%(2*10 ^ 40-1:Int)=m at h0 h1 ⊢
  omega
 ·refine ⟨_,rfl,_,_,rfl,rfl,⟨ζ,ζ⟩,_,_,rfl,rfl,(by show (0:Int)<25;decide),_,_,rfl,rfl,q _ ?_⟩
  show (c/3%25-9:Int).natAbs<10 ^ 40
  omega
theorem wD(a b:Str):(a++b).length=a.length+b.length:=by
 show (a.cps++b.cps).size=_
 rw [Array.size_append]
 rfl
theorem acs(a b:Str):(a++b).cps.toList=a.cps.toList++b.cps.toList:=by
 show (a.cps++b.cps).toList=_
 rw [Array.toList_append]
theorem jJ{a b:Str}(h:a.cps.toList=b.cps.toList):a=b:=by
 obtain ⟨a⟩:=a
 obtain ⟨b⟩:=b
 have:a=b:=Array.toList_inj.mp h
 rw [this]
theorem yq:(Str.ofString " ").cps.toList=[32]:=by decide +kernel
theorem tZ(wd:Wd)(ns:List Int):(txt wd ns).cps.toList=Km.cB 32 ((wS wd::ns.map iS).map λy=>y.cps.toList):=by
 unfold txt
 rw [kh]
 exact Km.cT 32 _
theorem An(wd:Wd)(a b:Int):wS wd++Str.ofString " "++iS a++Str.ofString " "++iS b=txt wd [a,b]:=by
 refine jJ ?_
 rw [tZ]
 simp only [acs,yq,List.map_cons,List.map_nil,Km.cB]
 simp
theorem Am(wd:Wd)(a b c:Int):txt wd [a,b]++Str.ofString " "++iS c=txt wd [a,b,c]:=by
 refine jJ ?_
 simp only [acs,tZ,yq,List.map_cons,List.map_nil,Km.cB]
 simp
theorem Ak(i:Int)(h0:0<=i)(h5:i<5):∃w,w≠.plus/\w≠.need/\atI ([.str "take",.str "mean",.str "sum",.str "give",.str "add"]:List V) i=some (.str (wS w)):=by
 have:i=0\/i=1\/i=2\/i=3\/i=4:=by omega
 rcases this with rfl | rfl | rfl | rfl | rfl
 ·exact ⟨.take,ζ,ζ,rfl⟩
 ·exact ⟨.mean,ζ,ζ,rfl⟩
 ·exact ⟨.sum,ζ,ζ,rfl⟩
 ·exact ⟨.give,ζ,ζ,rfl⟩
 ·exact ⟨.add,ζ,ζ,rfl⟩
def mJ:Sp:=λvs H Q _=>∃c home m,vs=[.int c,.int home,.int (m:Nat)]/\0<=home/\home<5/\1<=m/\m<=8/\∀wd ns H',Same H H'->Ar wd ns->inC m wd ns->Q (.str (txt wd ns)) H'
theorem vj(F:Fun K "_law_step" "_law_step" gy f fd)(B:TxB mg)(GN:GF P w K mg base CX0 1 "_law_number" ["_law_cell"] mK):FnOk P w K mg base CX0 2 f fd ["_law_cell","_law_home","_law_many"] mJ:=by
 refine F.ok sc__law_step (λvs H Q E h=>?_) (λcdv A outer s H vs Q E hr h=>?_)
 ·obtain ⟨c,home,m,rfl,_⟩:=h
  rfl
 obtain ⟨c,home,m,rfl,o0,o5,m1,m8,q⟩:=h
 have nd:=sc__law_step.nd
 obtain ⟨wd,w1,w2,hw⟩:=Ak (c%5) (Int.emod_nonneg _ ζ) (Int.emod_lt_of_pos _ ζ)
 have hm:(0:Int)<(m:Int):=by omega
 refine ⟨_,af (aH (i:=3) nd rfl (Or.inl rfl) (aG cY (aG cj (pv 0) ao) (pv 2)))
  (af (aH (i:=4) nd rfl (Or.inl rfl) (ay (r:=bQ K) aE (cX (ac aD (ac aD (ac aD (ac aD (ac aD ag)))))) (aG cY (pv 0) ao) (λ_ _=>rfl)))
  (af (aH (i:=5) nd rfl (Or.inl rfl) (aG bR (aG bR (aG bR (aG bR (pv 4) aD) (bc dw rfl B.str PyProof.Rows.boot_str (ac (pv 1) ag))) aD) (bc dw rfl B.str PyProof.Rows.boot_str (ac (pv 3) ag))))
  (af (aI (az bH (pv 4) aD (aA _)) (aj (ax (aG bR (aG bR (pv 5) aD) (bc dw rfl B.str PyProof.Rows.boot_str (ac (aG cZ (pv 3) (aG cY (aG cj (pv 0) ao) (aG kC (pv 2) (pv 3)))) ag))))) aC)
  (af (aI (az bH (pv 4) aD (aA _)) (aj (ax (aG bR (aG bR (pv 5) aD) (bc dw rfl B.str PyProof.Rows.boot_str (ac (pc GN hr (ac (aG cj (pv 0) ao) ag)) ag))))) aC)
  (aj (ax (pv 5))))))),?_⟩
 refine ⟨_,rfl,_,_,rfl,rfl,⟨ζ,ζ⟩,_,rfl,_,_,rfl,rfl,hm,?_⟩
 have a0:0<=c/5%(m:Int):=Int.emod_nonneg _ ω
 have a1:c/5%(m:Int)<m:=Int.emod_lt_of_pos _ hm
 obtain ⟨a,ea⟩:∃a,c/5%(m:Int)=a:=⟨_,rfl⟩
 rw [ea] at a0 a1
 have nh:inN home:=⟨o0,ω⟩
 have na:inN a:=⟨a0,ω⟩
 refine ⟨χ,λl hl=>?_⟩
 have s1:Same H _:=al (o:=.lst [.str "take",.str "mean",.str "sum",.str "give",.str "add"]) hl
 refine ⟨_,rfl,_,_,rfl,rfl,(by show (0:Int)<5;decide),l,_,_,_,rfl,rfl,SqL.of ad,hw,?_⟩
 generalize (upd H l _)=H1 at s1 ⊢
 have hz:(1000:Nat)<=sizeLine:=by decide
 have l1:=tQ wd
 have l2:=f9 nh.v
 have l3:=f9 na.v
 have ls:(Str.ofString " ").length=1:=by decide +kernel
 have lt:(txt wd [home,a]).length<=100:=by rw [← An];simp only [wD];omega
 refine ⟨_,rfl,_,_,rfl,rfl,?_,_,rfl,home,rfl,rJ nh.v,_,_,rfl,rfl,?_,_,_,rfl,rfl,?_,_,rfl,a,congrArg (λz=>[V.int z]) ea,rJ na.v,_,_,rfl,rfl,?_,?_⟩
 ·show (wS wd).length+(Str.ofString " ").length<=sizeLine
  omega
 ·show (wS wd++Str.ofString " ").length+(iS home).length<=sizeLine
  simp only [wD];omega
 ·show (wS wd++Str.ofString " "++iS home).length+(Str.ofString " ").length<=sizeLine
  simp only [wD];omega
 ·show (wS wd++Str.ofString " "++iS home++Str.ofString " ").length+(iS a).length<=sizeLine
  simp only [wD];omega
 have et:=An wd home a
 have fin:∀(x:Int),inV x->(txt wd [home,a]++Str.ofString " ").length+(iS x).length<=sizeLine:=λx hx=>by
  have:=f9 hx
  simp only [wD]
  omega
 erw [et]
 refine ⟨_,rfl,rfl,_,rfl,aU (λk=>?_) (λk1=>⟨_,rfl,rfl,_,rfl,aU (λk=>?_) (λk2=>?_)⟩)⟩
 ·obtain rfl:wd=.sum:=gg k
  have ma:(0:Int)<(m:Int)-a:=by omega
  refine ⟨_,rfl,_,_,rfl,rfl,(by show (txt .sum [home,a]).length+(Str.ofString " ").length<=sizeLine;omega),_,rfl,_,rfl,_,_,rfl,rfl,⟨ζ,ζ⟩,_,rfl,_,rfl,_,a,rfl,congrArg V.int ea,_,_,rfl,rfl,ma,a,_,congrArg V.int ea,rfl,?_⟩
  have b0:0<=c/40%((m:Int)-a):=Int.emod_nonneg _ ω
  have b1:c/40%((m:Int)-a)<m-a:=Int.emod_lt_of_pos _ ma
  obtain ⟨b,eb⟩:∃b,c/40%((m:Int)-a)=b:=⟨_,rfl⟩
  rw [eb] at b0 b1
  have nb:inN (a+b):=⟨ω,ω⟩
  refine ⟨a+b,congrArg (λz=>[V.int (a+z)]) eb,rJ nb.v,_,_,rfl,rfl,fin _ nb.v,?_⟩
  have e3:=Am .sum home a (a+b)
  erw [e3]
  exact q .sum [home,a,a+b] H1 s1 ⟨nh,na,nb,ω⟩ ⟨ω,ω⟩
 ·obtain rfl:wd=.add:=gg k
  refine ⟨_,rfl,_,_,rfl,rfl,(by show (txt .add [home,a]).length+(Str.ofString " ").length<=sizeLine;omega),_,rfl,_,_,rfl,rfl,⟨ζ,ζ⟩,_,rfl,λr hr=>⟨_,rfl,rJ hr,_,_,rfl,rfl,fin _ hr,?_⟩⟩
  have e3:=Am .add home a r
  erw [e3]
  exact q .add [home,a,r] H1 s1 ⟨nh,na,hr⟩ a1
 ·refine ⟨_,rfl,q wd [home,a] H1 s1 ?_ ?_⟩
  ·have n3:=cC (b:=.sum) k1
   have n4:=cC (b:=.add) k2
   cases wd<;>first | contradiction | exact ⟨nh,na⟩
  ·have n3:=cC (b:=.sum) k1
   have n4:=cC (b:=.add) k2
   cases wd<;>first | contradiction | exact a1
theorem qC{i:Int}(h:inV i):PySem.intText? (iS i)=some i:=by
 have hl:(iS i).length<=4300:=Λ (f9 h) ζ
 have e:=o8 i
 unfold Km.bT at e
 split at e
 ·rename_i hn
  have:=PySem.intText_neg e (Km.fj _) (Km.iI _) hl
  rw [Km.fh] at this
  rw [this]
  congr 1
  omega
 ·have:=PySem.intText_digits (x:=iS i) (by rw [e];exact Km.fj _) (by rw [e];exact Km.iI _) hl
  rw [e,Km.fh] at this
  rw [this]
  congr 1
  omega
def bJ(cs:List Int)(c:Int):Int:=cs.getD c.toNat 0
def plC(cs:List Int):List (Int×Int)->List Int
 | [(c,v)]=>cs.set c.toNat v
 | _=>cs
theorem rX{cs:List Int}{c:Int}(h0:0<=c)(h1:c<cs.length):atI (cs.map V.int) c=some (.int (bJ cs c)):=by
 obtain ⟨n,rfl⟩:∃n:Nat,c=(n:Int):=⟨c.toNat,ω⟩
 have hn:n<cs.length:=by omega
 refine bp ?_
 rw [List.getElem?_map,ξ hn]
 show some (V.int cs[n])=some (.int (cs.getD n 0))
 rw [List.getD_eq_getElem?_getD,ξ hn]
 rfl
theorem yb{cs:List Int}{a b:Int}(h0:0<=a)(h1:a<=b)(h2:b<cs.length):lL (cs.map V.int) (some a) (some (b+1))=((oG a (b+1-a).toNat).map (bJ cs)).map V.int:=by
 obtain ⟨m,rfl⟩:∃n:Nat,a=(n:Int):=⟨a.toNat,ω⟩
 obtain ⟨n,rfl⟩:∃n:Nat,b=(n:Int):=⟨b.toNat,ω⟩
 have e1:((n:Int)+1-m).toNat=n+1-m:=by omega
 have e2:((n:Int)+1)=((n+1:Nat):Int):=rfl
 unfold lL
 rw [e1,e2,HT.rm,HT.rm,List.length_map]
 have l1:min m cs.length=m:=by omega
 have l2:min (n+1) cs.length=n+1:=by omega
 rw [l1,l2]
 refine List.ext_getElem? λj=>?_
 unfold oG
 rw [List.map_map,List.map_map,List.getElem?_map,List.getElem?_take]
 by_cases hj:j<n+1-m
 ·rw [if_pos hj,List.getElem?_drop,List.getElem?_map,ξ ω,List.getElem?_range hj]
  show some (V.int _)=some (V.int (cs.getD ((m:Int)+(j:Nat)).toNat 0))
  have e3:((m:Int)+(j:Nat)).toNat=m+j:=by omega
  rw [e3,List.getD_eq_getElem?_getD,ξ ω]
  rfl
 ·rw [if_neg hj,List.getElem?_eq_none (by simp;omega)]
  rfl
theorem jP(cs:List Int)(j:Nat)(v:Int):(cs.map V.int).set j (.int v)=(cs.set j v).map V.int:=by
 rw [List.map_set]
def pQ:Sp:=λvs H Q _=>∃p cs hand wd ns,vs=[.ref p,.int hand,.str (txt wd ns)]/\H p=some (.lst ((cs:List Int).map V.int))/\Ar wd ns/\inC cs.length wd ns /\
 ∀H',Kp p H H'->H' p=some (.lst ((plC cs (dn (bJ cs) wd ns hand).2).map V.int))->Q (.int (dn (bJ cs) wd ns hand).1) H'
theorem xn(F:Fun K "_law_played" "_law_played" eK f fd)(B:TxB mg)(hsum:mg "sum"=none):FnOk P w K mg base CX0 1 f fd ["_law_cells","_law_hand","_law_text"] pQ:=by
 refine F.ok sc__law_played (λvs H Q E h=>?_) (λcdv A outer s H vs Q E hr h=>?_)
 ·obtain ⟨p,cs,hand,wd,ns,rfl,_⟩:=h
  rfl
 obtain ⟨p,cs,hand,wd,ns,rfl,hp,ar,ic,q⟩:=h
 have nd:=sc__law_played.nd
 refine ⟨_,af (aH (i:=3) nd rfl (Or.inl rfl) (gW PySem.F.plainAttrs_str PySem.F.slot_str_split PySem.F.type_str_split l7 (pv 2) (ac aD ag)))
  (af (aH (i:=4) nd rfl (Or.inl rfl) (bc cL rfl B.int PyProof.Rows.boot_int (ac (ay (r:=bQ K) aE (pv 3) ao (λ_ _=>rfl)) ag)))
  (af (aI (az bH (ay (r:=bQ K) aE (pv 3) ao (λ_ _=>rfl)) aD (aA _)) (aj (qd (pv 1) (qe (pv 0) (pv 4) kg)))
   (aj (aI (az bH (ay (r:=bQ K) aE (pv 3) ao (λ_ _=>rfl)) aD (aA _)) (aj (qd (aG cZ (ay (r:=bQ K) aE (pv 0) (pv 4) (λ_ _=>rfl)) (bc cL rfl B.int PyProof.Rows.boot_int (ac (ay (r:=bQ K) aE (pv 3) ao (λ_ _=>rfl)) ag))) (qe (pv 0) (pv 4) kg)))
    (aj (aI (az bH (ay (r:=bQ K) aE (pv 3) ao (λ_ _=>rfl)) aD (aA _)) (aj (ax (aF (g9 rfl) rfl hsum PyProof.Rows.boot_sum (ac (io re (pv 0) (eA (pv 4)) (eA (aG cZ (bc cL rfl B.int PyProof.Rows.boot_int (ac (ay (r:=bQ K) aE (pv 3) ao (λ_ _=>rfl)) ag)) ao))) ag)))) (aj (ax (ay (r:=bQ K) aE (pv 0) (pv 4) (λ_ _=>rfl)))))))))
  (aj (ax (pv 1))))),?_⟩
 refine ⟨_,rfl,rfl,txt wd ns,32,rfl,congrArg (λz=>[V.str z]) kh,qP ar,λt ht=>?_⟩
 rw [lT]
 have s1:Same H _:=al (o:=.lst ((wS wd::ns.map iS).map V.str)) ht
 have ht1:(upd H t (.lst ((wS wd::ns.map iS).map V.str))) t=some (.lst ((wS wd::ns.map iS).map V.str)):=ad
 have hp1:=s1 _ _ hp
 generalize (upd H t _)=H1 at s1 ht1 hp1 ⊢
 obtain ⟨x,a,r,rfl,na⟩:∃x a r,ns=x::a::r/\inN a:=by
  cases wd with
  | take=>obtain ⟨a,b,rfl,_,h,_⟩:=ar.c rfl;exact ⟨_,_,_,rfl,h⟩
  | mean=>obtain ⟨a,b,rfl,_,h,_⟩:=ar.c rfl;exact ⟨_,_,_,rfl,h⟩
  | give=>obtain ⟨a,b,rfl,_,h,_⟩:=ar.c rfl;exact ⟨_,_,_,rfl,h⟩
  | sum=>obtain ⟨a,b,c,rfl,_,h,_⟩:=ar.s;exact ⟨_,_,_,rfl,h⟩
  | add=>obtain ⟨a,b,c,rfl,_,h,_⟩:=ar.a;exact ⟨_,_,_,rfl,h⟩
  | plus=>exact ic.elim
  | need=>exact ic.elim
 refine ⟨_,rfl,t,_,_,_,rfl,rfl,SqL.of ht1,St.at2,iS a,a,rfl,qC na.v,Λ (f9 na.v) ζ,?_⟩
 have a0:0<=a:=na.1
 have kp1:∀{u:HO},Kp p H (upd H1 p u):=λb o nb e=>by rw [am nb];exact s1 _ _ e
 have ix:∀{c:Int},0<=c->c<cs.length->ixN (cs.map V.int).length c=some c.toNat:=λ{c} h0 h1=>by
  obtain ⟨n,rfl⟩:∃n:Nat,c=(n:Int):=⟨c.toNat,ω⟩
  rw [List.length_map,Int.toNat_natCast]
  exact xM ω
 have gw:∀{b:Wd},decide (V.str (wS wd)=V.str (wS b))=true->wd=b:=gg
 refine ⟨_,rfl,t,_,_,_,rfl,rfl,SqL.of ht1,St.at0,rfl,_,rfl,aU (λk=>?_) (λk1=>⟨_,rfl,t,_,_,_,rfl,rfl,SqL.of ht1,St.at0,rfl,_,rfl,aU (λk=>?_) (λk2=>⟨_,rfl,t,_,_,_,rfl,rfl,SqL.of ht1,St.at0,rfl,_,rfl,aU (λk=>?_) (λk3=>?_)⟩)⟩)⟩
 ·obtain rfl:wd=.give:=gg k
  obtain ⟨_,_,e,_⟩:=ar.c rfl
  cases e
  have ia:a<cs.length:=ic
  refine ⟨_,rfl,_,rfl,_,rfl,p,_,_,_,rfl,rfl,hp1,ix a0 ia,_,rfl,?_⟩
  rw [jP]
  exact q _ kp1 ad
 ·obtain rfl:wd=.add:=gg k
  obtain ⟨_,_,v,e,_,_,hv⟩:=ar.a
  cases e
  have ia:a<cs.length:=ic
  refine ⟨_,rfl,_,rfl,p,_,_,_,rfl,rfl,SqL.of hp1,rX a0 ia,_,rfl,t,_,_,_,rfl,rfl,SqL.of ht1,bp (j:=3) rfl,iS v,v,rfl,qC hv,Λ (f9 hv) ζ,_,_,rfl,rfl,_,rfl,_,rfl,p,_,_,_,rfl,rfl,hp1,ix a0 ia,_,rfl,?_⟩
  erw [jP]
  exact q _ kp1 ad
 ·obtain rfl:wd=.sum:=gg k
  obtain ⟨_,_,v,e,_,_,nv,av⟩:=ar.s
  cases e
  have iv:v<cs.length:=ic.2
  refine ⟨_,rfl,_,rfl,_,rfl,_,rfl,t,_,_,_,rfl,rfl,SqL.of ht1,bp (j:=3) rfl,iS v,v,rfl,qC nv.v,Λ (f9 nv.v) ζ,_,_,rfl,rfl,_,rfl,p,_,rfl,SqL.of hp1,λu hu=>?_⟩
  refine ⟨u,((oG a (v+1-a).toNat).map (bJ cs)),rfl,SqL.of (by rw [ad];exact congrArg (λz=>some (HO.lst z)) (yb a0 av iv)),?_⟩
  rw [qR]
  exact q _ (λb o _ e=>al hu _ _ (s1 _ _ e)) (al hu _ _ hp1)
 ·have ia:a<cs.length/\dn (bJ cs) wd (x::a::r) hand=(bJ cs a,[]):=by
   have n1:=cC (b:=.give) k1
   have n2:=cC (b:=.add) k2
   have n3:=cC (b:=.sum) k3
   cases wd with
   | take=>obtain ⟨_,_,e,_⟩:=ar.c rfl;cases e;exact ⟨ic,rfl⟩
   | mean=>obtain ⟨_,_,e,_⟩:=ar.c rfl;cases e;exact ⟨ic,rfl⟩
   | plus=>exact ic.elim
   | need=>exact ic.elim
   | give=>exact absurd rfl n1
   | add=>exact absurd rfl n2
   | sum=>exact absurd rfl n3
  rw [ia.2] at q
  exact ⟨_,rfl,_,rfl,p,_,_,_,rfl,rfl,SqL.of hp1,rX a0 ia.1,q _ (λb o _ e=>s1 _ _ e) hp1⟩
def RwR(H:Hp)(pa:Addr)(rs:List Addr)(ys:List V):Prop:=(rs=[]/\ys=[])\/∃r r2,rs=[r]/\ys=[.ref r2]/\H r=some (.tup [.str "work",.ref pa])/\H r2=some (.tup [.str "work",.ref pa])
theorem RwR.keep{H H':Hp}{pa:Addr}{rs:List Addr}{ys:List V}(e:aT H H')(h:RwR H pa rs ys):RwR H' pa rs ys:=by
 rcases h with h | ⟨r,r2,h1,h2,h3,h4⟩
 ·exact .inl h
 ·exact .inr ⟨r,r2,h1,h2,e _ _ h3,e _ _ h4⟩
theorem RwR.eq{H:Hp}{pa:Addr}{rs:List Addr}{ys:List V}(h:RwR H pa rs ys):Paired (λx y=>EqIs K 1 H x y true) (rs.map V.ref) ys:=by
 rcases h with ⟨rfl,rfl⟩ | ⟨r,r2,rfl,rfl,h3,h4⟩
 ·exact .nil
 ·exact .cons (kU (n:=0) (SqT.of h3) (SqT.of h4) (.cons (eq_str 0 _) (.cons (rQ 0) .nil))).1 .nil
def mE(CS CH:Addr)(K:Frag):Sp:=λvs H Q _=>∃A h d rs v p pa t rl ys i hand,vs=[.ref (h:Ah).l,.ref pa,.ref rl,.int i,.int hand]/\ShA CS CH K H A h d rs [(((p:Pa).1,("did":Str),pa,t):Ws)] v/\H t=some (.tup [.int i,.int hand])/\H pa=some (.tup [.int p.1,.int p.2])/\H rl=some (.lst ys)/\RwR H pa rs ys/\d.ends=[] /\
 ∀H',Same H H'->Q (.bl true) H'
theorem vd(F:Fun K "_law_right" "_law_right" fF f fd)(B:TxB mg)(DH:TxH K CH)(GRT:GM P w K mg base CX0 1 CH "rows_told" ["self"] (mM CS CH K))(GLT:GM P w K mg base CX0 2 CH "letters_told" ["self"] (pV CS CH K))(GW:GF P w K mg base CX0 1 "_law_whole" ["_law_found"] Lo.fw) :
  FnOk P w K mg base CX0 3 f fd ["_law_sheet","_law_p","_law_rows","_law_i","_law_hand"] (mE CS CH K):=by
 refine F.ok sc__law_right (λvs H Q E h=>?_) (λcdv A outer s H vs Q E hr h=>?_)
 ·obtain ⟨A,h,d,rs,v,p,pa,t,rl,ys,i,hand,rfl,_⟩:=h
  rfl
 obtain ⟨S,h,d,rs,v,p,pa,t,rl,ys,i,hand,rfl,sh,ht,hpa,hrl,rw0,en,q⟩:=h
 have nd:=sc__law_right.nd
 refine ⟨_,af (aH (i:=5) nd rfl (Or.inl rfl) (pm0 GLT (pv 0) DH.cl hr))
  (af (aI (PW.pt (rB (az (rF 1 (hun (c:=1) hr)) (pm0 GRT (pv 0) DH.cl hr) (pv 2) (aA _)) (nB (az (rF 3 (hun (c:=3) hr)) (pv 5) (cX (ac (aY (ac (ay (r:=aW K) aB (pv 1) ao (λ_ _=>rfl)) (ac (aY (ac aD (ac (pv 1) (ac (aY (ac (pv 3) (ac (pv 4) ag))) (ac (aY ag) ag))))) ag))) ag)) (aA _))))) aJ aC)
  (aj (ax (fM (aF cW rfl B.isi PyProof.Rows.boot_isinstance (ac (pv 5) (ac (iz (v:=.ty "list") rfl B.list PyProof.Rows.boot_list rfl) ag)))
   (fM (pc GW hr (ac (ay (r:=aW K) aB (ay (r:=aW K) aB (ay (r:=aW K) aB (ay (r:=bQ K) aE (pv 5) ao (λ_ _=>rfl)) ao (λ_ _=>rfl)) ao (λ_ _=>rfl)) ao (λ_ _=>rfl)) ag))
    (eM (pc GW hr (ac (ay (r:=aW K) aB (ay (r:=aW K) aB (ay (r:=aW K) aB (ay (r:=bQ K) aE (pv 5) ao (λ_ _=>rfl)) ao (λ_ _=>rfl)) ao (λ_ _=>rfl)) ao (λ_ _=>rfl)) ag)))))))),?_⟩
 refine ⟨_,rfl,h.l,h.dx,_,rfl,sh.ins,rO θ,S,h,d,rs,_,v,rfl,sh,by rw [en];decide,by show 1<=900;decide,λfl us H1 s1 nfl hfl pu=>?_⟩
 obtain ⟨u,us',rfl,⟨t1,t2,nv,rfl,h1,h2,hn⟩,pu'⟩:∃u us',us=u::us'/\LtAt K H1 d.ends (p.1,"did",pa,t) u/\us'=[]:=by
  cases pu with
  | cons a b=>cases b;exact ⟨_,_,rfl,a,rfl⟩
 subst pu'
 rw [en] at hn
 obtain ⟨t3,zs,rfl,h3,pz⟩:=hn
 have ez:zs=[]:=by
  have:ju ltE ([]:List (Pa×Str))=[]:=rfl
  rw [this] at pz
  cases pz
  rfl
 subst ez
 have sh1:=sh.keep s1
 refine ⟨_,rfl,h.l,h.dx,_,rfl,sh1.ins,rO θ,S,h,d,rs,_,v,rfl,sh1,λrl2 H2 s2 nrl hrl2=>?_⟩
 have s02:=s1.trans s2
 refine ⟨_,rfl,rl2,rl,_,ys,rfl,rfl,SqL.of hrl2,SqL.of (s02 _ _ hrl),(rw0.keep s02.ts).eq,_,rfl,bj ?_⟩
 refine ⟨_,rfl,_,rfl,pa,_,_,_,rfl,rfl,SqT.of (s02 _ _ hpa),St.at0,_,rfl,_,rfl,_,rfl,χ,λa1 ha1=>?_⟩
 have s3:=al (o:=.tup [.int i,.int hand]) ha1
 refine ⟨χ,λa2 ha2=>?_⟩
 have s4:=al (o:=.tup []) ha2
 refine ⟨χ,λa3 ha3=>?_⟩
 have s5:=al (o:=.tup [.str "did",.ref pa,.ref a1,.ref a2]) ha3
 refine ⟨χ,λa4 ha4=>?_⟩
 have s6:=al (o:=.tup [.int p.1,.ref a3]) ha4
 refine ⟨χ,λa5 ha5=>?_⟩
 have s7:=al (o:=.lst [.ref a4]) ha5
 have g1:=s7 _ _ (s6 _ _ (s5 _ _ (s4 _ _ (ad (H:=H2) (a:=a1) (o:=.tup [.int i,.int hand])))))
 have g2:=s7 _ _ (s6 _ _ (s5 _ _ (ad (o:=.tup []) (a:=a2))))
 have g3:=s7 _ _ (s6 _ _ (ad (o:=.tup [.str "did",.ref pa,.ref a1,.ref a2]) (a:=a3)))
 have g4:=s7 _ _ (ad (o:=.tup [.int p.1,.ref a3]) (a:=a4))
 have s27:=s2.trans (s3.trans (s4.trans (s5.trans (s6.trans s7))))
 refine ⟨fl,a5,_,_,rfl,rfl,SqL.of (s27 _ _ hfl),SqL.of ad,?_,_,rfl,bj ?_⟩
 ·have k1:=s27 _ _ h1
  have k2:=s27 _ _ h2
  have k3:=s27 _ _ h3
  have kt:=s27 _ _ (s1 _ _ ht)
  have e1:=(kU (K:=K) (n:=0) (SqT.of kt) (SqT.of g1) (.cons (eq_int 0 _) (.cons (eq_int 0 _) .nil))).1
  have e2:=(kU (K:=K) (n:=0) (SqT.of k3) (SqT.of g2) .nil).1
  have e3:=(kU (K:=K) (n:=1) (SqT.of k2) (SqT.of g3) (.cons (eq_str 1 _) (.cons (rQ 1) (.cons e1 (.cons e2 .nil))))).1
  exact .cons (kU (K:=K) (n:=2) (SqT.of k1) (SqT.of g4) (.cons (eq_int 2 _) (.cons e3 .nil))).1 .nil
 ·have kf:=s27 _ _ hfl
  have k1:=s27 _ _ h1
  have k2:=s27 _ _ h2
  have kt:=s27 _ _ (s1 _ _ ht)
  refine ⟨_,rfl,_,_,_,_,rfl,TyOf.lst kf,zM,_,rfl,cI ?_⟩
  refine ⟨_,rfl,fl,_,_,_,rfl,rfl,SqL.of kf,St.at0,t1,_,_,_,rfl,rfl,SqT.of k1,St.at1,t2,_,_,_,rfl,rfl,SqT.of k2,St.at2,t,_,_,_,rfl,rfl,SqT.of kt,St.at0,i,rfl,_,rfl,cI ?_⟩
  exact ⟨_,rfl,fl,_,_,_,rfl,rfl,SqL.of kf,St.at0,t1,_,_,_,rfl,rfl,SqT.of k1,St.at1,t2,_,_,_,rfl,rfl,SqT.of k2,St.at2,t,_,_,_,rfl,rfl,SqT.of kt,St.at1,hand,rfl,q _ (s1.trans s27)⟩
structure LDt(fs cs kn:List Int)(d:Sd)(o:Odb)(dk ak:List (Key×V))(due:List Lk)(i:Nat):Prop where
 ec:d.cells=fs
 lc:cs.length=fs.length
 va:∀c:Int,0<=c->c<fs.length->cb dk fs c=bJ cs c
 av:∀j:Int,bo ak (.inl j)=if 0<=j/\j<kn.length then some (.int (bJ kn j)) else none
 oo:kn=[]->o.2=none
 di:DrI dk
 ld:dk.length<=i
 la:ak.length<=i
 lu:due.length<=i
 lk:kn.length<=i
 sm:d.Small i
 er:d.ready=[]
 ee:d.ends=[]
theorem LDt.ai{fs cs kn:List Int}{d:Sd}{o:Odb}{dk ak:List (Key×V)}{due:List Lk}{i:Nat}(g:LDt fs cs kn d o dk ak due i):DrI ak:=λc v e=>by
 rw [g.av] at e
 split at e
 ·cases e;exact ⟨_,rfl⟩
 ·cases e
theorem LDt.next{fs cs kn:List Int}{d:Sd}{o:Odb}{dk ak:List (Key×V)}{due:List Lk}{i:Nat}(g:LDt fs cs kn d o dk ak due i):LDt fs cs kn d o dk ak due (i+1) :=
 ⟨g.ec,g.lc,g.va,g.av,g.oo,g.di,υ g.ld,υ g.la,υ g.lu,υ g.lk,g.sm.mono (Nat.le_succ _),g.er,g.ee⟩
theorem jV{v1 v2:Int->Int}{a:Int}:∀n:Nat,(∀k:Nat,k<n->v1 (a+k)=v2 (a+k))->lq v1 a n=lq v2 a n
 | 0,_=>rfl
 | n+1,h=>by
  show lq v1 a n+v1 (a+n)=lq v2 a n+v2 (a+n)
  rw [jV n λk hk=>h k ω,h n ω]
theorem wm{v1 v2:Int->Int}{n:Nat}{wd:Wd}{ns:List Int}{hand:Int}(h:∀c:Int,0<=c->c<n->v1 c=v2 c)(ar:Ar wd ns)(ic:inC n wd ns):dn v1 wd ns hand=dn v2 wd ns hand:=by
 cases wd with
 | take=>obtain ⟨a,b,rfl,_,h2,_⟩:=ar.c rfl;show (v1 b,_)=(v2 b,_);rw [h b h2.1 ic]
 | mean=>obtain ⟨a,b,rfl,_,h2,_⟩:=ar.c rfl;show (v1 b,_)=(v2 b,_);rw [h b h2.1 ic]
 | give=>obtain ⟨a,b,rfl,_,h2,_⟩:=ar.c rfl;rfl
 | sum =>
  obtain ⟨a,b,c,rfl,_,h2,h3,h4⟩:=ar.s
  have b0:0<=b:=h2.1
  have c1:c<n:=ic.2
  show (lq v1 b (c+1-b).toNat,_)=(lq v2 b (c+1-b).toNat,_)
  rw [jV (v1:=v1) (v2:=v2) _ λk hk=>h (b+k) ω ω]
 | add=>obtain ⟨a,b,c,rfl,_,h2,_⟩:=ar.a;show (_,[(b,v1 b+c)])=(_,[(b,v2 b+c)]);rw [h b h2.1 ic]
 | plus=>exact ic.elim
 | need=>exact ic.elim
theorem A8(v1:Int->Int){n:Nat}{wd:Wd}{ns:List Int}(hand:Int)(ar:Ar wd ns)(ic:inC n wd ns):(dn v1 wd ns hand).2=[]\/∃c x,(dn v1 wd ns hand).2=[(c,x)]/\0<=c/\c<n:=by
 cases wd with
 | take=>obtain ⟨a,b,rfl,_,h2,_⟩:=ar.c rfl;exact .inl rfl
 | mean=>obtain ⟨a,b,rfl,_,h2,_⟩:=ar.c rfl;exact .inl rfl
 | give=>obtain ⟨a,b,rfl,_,h2,_⟩:=ar.c rfl;exact .inr ⟨b,_,rfl,h2.1,ic⟩
 | sum=>obtain ⟨a,b,c,rfl,_⟩:=ar.s;exact .inl rfl
 | add=>obtain ⟨a,b,c,rfl,_,h2,_⟩:=ar.a;exact .inr ⟨b,_,rfl,h2.1,ic⟩
 | plus=>exact ic.elim
 | need=>exact ic.elim
theorem wJ(dk:List (Key×V))(fs:List Int)(c x c':Int):cb (bZ dk (.inl c) (.int x)) fs c'=if c'=c then x else cb dk fs c':=by
 unfold cb
 rw [ie]
 by_cases e:c'=c
 ·rw [if_pos (by rw [e]),if_pos e]
 ·rw [if_neg (λz=>e (Sum.inl.inj z)),if_neg e]
theorem tW(cs:List Int)(c x c':Int)(h0:0<=c)(h1:c<cs.length)(h2:0<=c'):bJ (cs.set c.toNat x) c'=if c'=c then x else bJ cs c':=by
 unfold bJ
 rw [List.getD_eq_getElem?_getD,List.getD_eq_getElem?_getD,List.getElem?_set]
 by_cases e:c'=c
 ·subst e
  rw [if_pos rfl,if_pos rfl,if_pos ω]
  rfl
 ·rw [if_neg ω,if_neg e]
theorem jT(kn:List Int)(x j:Int)(h0:0<=j)(h1:j<kn.length+1):bJ (kn++[x]) j=if j=kn.length then x else bJ kn j:=by
 unfold bJ
 rw [List.getD_eq_getElem?_getD,List.getD_eq_getElem?_getD]
 by_cases e:j=kn.length
 ·subst e
  rw [if_pos rfl,Int.toNat_natCast,List.getElem?_append_right (ι _)]
  simp
 ·rw [if_neg e,List.getElem?_append_left ω]
theorem LDt.step{fs cs kn:List Int}{d d2:Sd}{o:Odb}{dk ak:List (Key×V)}{due due2:List Lk}{i:Nat}{dd aa:Addr}{wd:Wd}{ns:List Int}{hand:Int}(g:LDt fs cs kn d o dk ak due i)(ar:Ar wd ns)(ic:inC fs.length wd ns)(hu:due2.length<=due.length+1)(e1:d2.cells=d.cells)(e2:d2.ready=d.ready)(e3:d2.ends=d.ends)(sm:∀m,d.Small m->d2.Small (m+1)) :
  LDt fs (plC cs (dn (bJ cs) wd ns hand).2) (kn++[(dn (bJ cs) wd ns hand).1]) d2 (some dd,some aa) (aP dk (aP [] (chK (dn (bJ cs) wd ns hand).2))) (bZ ak (.inl (kn.length:Nat)) (.int (dn (bJ cs) wd ns hand).1)) due2 (i+1):=by
 have av2:∀j:Int,bo (bZ ak (.inl ((kn.length:Nat):Int)) (.int (dn (bJ cs) wd ns hand).1)) (.inl j)=if 0<=j/\j<(kn++[(dn (bJ cs) wd ns hand).1]).length then some (.int (bJ (kn++[(dn (bJ cs) wd ns hand).1]) j)) else none:=λj=>by
  have el:(kn++[(dn (bJ cs) wd ns hand).1]).length=kn.length+1:=by simp
  rw [ie,el]
  by_cases e:j=kn.length
  ·rw [if_pos (by rw [e]),if_pos ω,jT _ _ _ ω ω,if_pos e]
  ·rw [if_neg (λz=>e (Sum.inl.inj z)),g.av]
   by_cases c:0<=j/\j<kn.length
   ·rw [if_pos c,if_pos ω,jT _ _ _ ω ω,if_neg e]
   ·rw [if_neg c,if_neg ω]
 have la2:(bZ ak (.inl ((kn.length:Nat):Int)) (.int (dn (bJ cs) wd ns hand).1)).length<=i+1:=by
  have:=cR ak (.inl ((kn.length:Nat):Int)) (.int (dn (bJ cs) wd ns hand).1)
  have:=g.la
  omega
 have lk2:(kn++[(dn (bJ cs) wd ns hand).1]).length<=i+1:=by
  have:=g.lk
  simp
  omega
 have hu2:due2.length<=i+1:=by have:=g.lu;omega
 have oo2:kn++[(dn (bJ cs) wd ns hand).1]=[]->((some dd,some aa):Odb).2=none:=λz=>by simp at z
 generalize (dn (bJ cs) wd ns hand).1=r1 at av2 la2 lk2 oo2 ⊢
 rcases A8 (bJ cs) hand ar ic with e | ⟨c,x,e,c0,c1⟩
 ·rw [e]
  exact ⟨e1.trans g.ec,g.lc,g.va,av2,oo2,g.di,υ g.ld,la2,hu2,lk2,sm _ g.sm,e2.trans g.er,e3.trans g.ee⟩
 ·rw [e]
  have em:aP dk (aP [] (chK [(c,x)]))=bZ dk (.inl c) (.int x):=rfl
  rw [em]
  refine ⟨e1.trans g.ec,?_,λc' h0 h1=>?_,av2,oo2,λc' v z=>?_,?_,la2,hu2,lk2,sm _ g.sm,e2.trans g.er,e3.trans g.ee⟩
  ·show (cs.set c.toNat x).length=_
   rw [List.length_set]
   exact g.lc
  ·show _=bJ (cs.set c.toNat x) c'
   rw [wJ,tW cs c x c' c0 (by rw [g.lc];exact c1) h0,g.va c' h0 h1]
  ·rw [ie] at z
   split at z
   ·cases z;exact ⟨_,rfl⟩
   ·exact g.di c' v z
  ·have:=cR dk (.inl c) (.int x)
   have:=g.ld
   omega
structure LJ(C:Kd->Addr)(CL CS CH CV:Addr)(K:Frag)(Pt:Addr)(home:Int)(p:Pa)(pa fl cl kl sl:Addr)(S:Ad)(h:Ah)(W:Aw)(fs cs kn xs:List Int)(d:Sd)(rs:List Addr)(ws:List Ws)(v:V)(o:Odb)(dk ak:List (Key×V))(due:List Lk)(cz:Option Addr)(H:Hp):Prop where
 sh:ShA CS CH K H S h d rs ws v
 wk:WkB C CL CV K H S.l W Pt home 5 p o dk ak (due.map λk=>((p,k):Pr)) cz
 dj:Dj (wad W Pt o cz) (S.l::h.own S)
 ap:∀b∈[fl,cl,kl,sl],b∉wad W Pt o cz/\b∉S.l::h.own S
 nd:[fl,cl,kl,sl].Nodup
 hp:H pa=some (.tup [.int p.1,.int p.2])
 hf:H fl=some (.lst (fs.map V.int))
 hc:H cl=some (.lst (cs.map V.int))
 hk:H kl=some (.lst (kn.map V.int))
 hs:H sl=some (.lst (xs.map V.int))
structure LI(C:Kd->Addr)(CL CS CV:Addr)(K:Frag)(Pt:Addr)(home:Int)(p:Pa)(pa fl cl kl sl:Addr)(S:Ad)(W:Aw)(fs cs kn xs:List Int)(d:Sd)(o:Odb)(dk ak:List (Key×V))(due:List Lk)(cz:Option Addr)(H:Hp):Prop where
 st:Lo.St CS K H S d
 wk:WkB C CL CV K H S.l W Pt home 5 p o dk ak (due.map λk=>((p,k):Pr)) cz
 dj:Dj (wad W Pt o cz) (S.l::S.own)
 ap:∀b∈[fl,cl,kl,sl],b∉wad W Pt o cz/\b∉S.l::S.own
 nd:[fl,cl,kl,sl].Nodup
 hp:H pa=some (.tup [.int p.1,.int p.2])
 hf:H fl=some (.lst (fs.map V.int))
 hc:H cl=some (.lst (cs.map V.int))
 hk:H kl=some (.lst (kn.map V.int))
 hs:H sl=some (.lst (xs.map V.int))
section
variable {Pt:Addr}{home:Int}{p:Pa}{pa fl cl kl sl:Addr}{S:Ad}{h:Ah}{W:Aw}{fs cs kn xs:List Int}{d:Sd}{rs:List Addr}{ws:List Ws}{v:V}{o:Odb}{dk ak:List (Key×V)}{due:List Lk}{cz:Option Addr}{H H':Hp}
theorem LI.keep(j:LI C CL CS CV K Pt home p pa fl cl kl sl S W fs cs kn xs d o dk ak due cz H)(e:Same H H'):LI C CL CS CV K Pt home p pa fl cl kl sl S W fs cs kn xs d o dk ak due cz H':=⟨j.st.keep e,j.wk.keep e,j.dj,j.ap,j.nd,e _ _ j.hp,e _ _ j.hf,e _ _ j.hc,e _ _ j.hk,e _ _ j.hs⟩
theorem LJ.keep(j:LJ C CL CS CH CV K Pt home p pa fl cl kl sl S h W fs cs kn xs d rs ws v o dk ak due cz H)(e:Same H H'):LJ C CL CS CH CV K Pt home p pa fl cl kl sl S h W fs cs kn xs d rs ws v o dk ak due cz H':=⟨j.sh.keep e,j.wk.keep e,j.dj,j.ap,j.nd,e _ _ j.hp,e _ _ j.hf,e _ _ j.hc,e _ _ j.hk,e _ _ j.hs⟩
theorem LJ.out(j:LJ C CL CS CH CV K Pt home p pa fl cl kl sl S h W fs cs kn xs d rs ws v o dk ak due cz H):LI C CL CS CV K Pt home p pa fl cl kl sl S W fs cs kn xs d o dk ak due cz H:=by
 have sub:∀b,b∈S.l::S.own->b∈S.l::h.own S:=λb hb=>by
  rcases List.mem_cons.mp hb with z | z
  ·exact List.mem_cons.mpr (.inl z)
  ·exact List.mem_cons_of_mem _ (by simp [Ah.own,z])
 exact ⟨j.sh.st,j.wk,λb hb m=>j.dj b hb (sub b m),λb hb=>⟨(j.ap b hb).1,λm=>(j.ap b hb).2 (sub b m)⟩,j.nd,j.hp,j.hf,j.hc,j.hk,j.hs⟩
theorem LI.sheet(j:LI C CL CS CV K Pt home p pa fl cl kl sl S W fs cs kn xs d o dk ak due cz H)(hC:∀k,C k≠CL)(hV:∀k,C k≠CV)(e:Same H H')(sh:ShA CS CH K H' S h d rs ws v)(f1:H h.l=none)(f2:H h.rw=none)(f3:H h.sn=none):LJ C CL CS CH CV K Pt home p pa fl cl kl sl S h W fs cs kn xs d rs ws v o dk ak due cz H':=by
 have g:∀b u,H b=some u->b∉S.l::S.own->b∉S.l::h.own S:=λb u hb nb m=>by
  simp only [Ah.own,List.mem_cons] at m nb
  rcases m with z | z | z | z | z
  ·exact nb (.inl z)
  ·rw [z,f1] at hb;cases hb
  ·rw [z,f2] at hb;cases hb
  ·rw [z,f3] at hb;cases hb
  ·exact nb (.inr z)
 refine ⟨sh,j.wk.keep e,λb hb=>?_,λb hb=>⟨(j.ap b hb).1,?_⟩,j.nd,e _ _ j.hp,e _ _ j.hf,e _ _ j.hc,e _ _ j.hk,e _ _ j.hs⟩
 ·obtain ⟨u,eu,_⟩:=j.wk.own hC hV hb
  exact g b u eu (j.dj b hb)
 ·have n2:=(j.ap b hb).2
  simp only [List.mem_cons,List.not_mem_nil,or_false] at hb
  rcases hb with z | z | z | z
  ·rw [z] at n2 ⊢;exact g _ _ j.hf n2
  ·rw [z] at n2 ⊢;exact g _ _ j.hc n2
  ·rw [z] at n2 ⊢;exact g _ _ j.hk n2
  ·rw [z] at n2 ⊢;exact g _ _ j.hs n2
theorem LJ.done(j:LJ C CL CS CH CV K Pt home p pa fl cl kl sl S h W fs cs kn xs d rs ws v o dk ak due cz H)(hC:∀k,C k≠CL)(hV:∀k,C k≠CV){d2:Sd}{rs2:List Addr}{ws2:List Ws}{v2:V}{o2:Odb}{dk2 ak2:List (Key×V)}{due2:List Lk}{cz2:Option Addr}(g:DoI C CL CS CH CV K S h W Pt home 5 p (due2.map λk=>((p,k):Pr)) H H' (wad W Pt o cz) d2 rs2 ws2 v2 o2 dk2 ak2 cz2) :
  LJ C CL CS CH CV K Pt home p pa fl cl kl sl S h W fs cs kn xs d2 rs2 ws2 v2 o2 dk2 ak2 due2 cz2 H':=by
 have k:∀b u,b∉wad W Pt o cz/\b∉S.l::h.own S->H b=some u->H' b=some u:=λb u n e=>g.fr b u n.1 (λm=>n.2 (Θ _ m)) e
 have a:∀b u,b∉wad W Pt o cz/\b∉S.l::h.own S->H b=some u->b∉wad W Pt o2 cz2/\b∉S.l::h.own S:=λb u n e=>⟨λm=>(g.nw b m).elim n.1 (λz=>absurd (z.symm.trans e) (λy=>by cases y)),n.2⟩
 have nf:=j.ap fl (by simp)
 have nc:=j.ap cl (by simp)
 have nk:=j.ap kl (by simp)
 have ns:=j.ap sl (by simp)
 refine ⟨g.sh,g.wk,g.dj,λb hb=>?_,j.nd,g.fr _ _ (λm=>?_) (λm=>?_) j.hp,k _ _ nf j.hf,k _ _ nc j.hc,k _ _ nk j.hk,k _ _ ns j.hs⟩
 ·simp only [List.mem_cons,List.not_mem_nil,or_false] at hb
  rcases hb with z | z | z | z
  ·rw [z];exact a _ _ nf j.hf
  ·rw [z];exact a _ _ nc j.hc
  ·rw [z];exact a _ _ nk j.hk
  ·rw [z];exact a _ _ ns j.hs
 ·obtain ⟨u,eu,iu⟩:=j.wk.own hC hV m
  rw [j.hp] at eu
  cases eu
  exact iu True.intro
 ·obtain ⟨u,eu,iu⟩:=j.sh.own m
  rw [j.hp] at eu
  cases eu
  exact iu _ rfl
theorem LJ.wr(j:LJ C CL CS CH CV K Pt home p pa fl cl kl sl S h W fs cs kn xs d rs ws v o dk ak due cz H){x:Addr}{us:List V}(hx:x∈[fl,cl,kl,sl])(ux:H x=some (.lst us))(k:Kp x H H'):ShA CS CH K H' S h d rs ws v/\WkB C CL CV K H' S.l W Pt home 5 p o dk ak (due.map λk=>((p,k):Pr)) cz/\H' pa=some (.tup [.int p.1,.int p.2]):=by
 have is:=gZ (C:=C) k ux id
 obtain ⟨n1,n2⟩:=j.ap x hx
 exact ⟨ShA.fr j.sh (λb u hb e=>k b u (λz=>n2 (by rw [← z];exact hb)) e) is.ts,j.wk.fr (λb u hb e=>k b u (λz=>n1 (by rw [← z];exact hb)) e) is,is.ts _ _ j.hp⟩
theorem LJ.play(j:LJ C CL CS CH CV K Pt home p pa fl cl kl sl S h W fs cs kn xs d rs ws v o dk ak due cz H){cs2:List Int}(k:Kp cl H H')(e:H' cl=some (.lst (cs2.map V.int))):LJ C CL CS CH CV K Pt home p pa fl cl kl sl S h W fs cs2 kn xs d rs ws v o dk ak due cz H':=by
 obtain ⟨a,b,c⟩:=j.wr (x:=cl) (by simp) j.hc k
 have nd:=j.nd
 simp only [List.nodup_cons,List.mem_cons,List.not_mem_nil,or_false,not_or,not_false_eq_true,List.nodup_nil,and_true] at nd
 exact ⟨a,b,j.dj,j.ap,j.nd,c,k _ _ nd.1.1 j.hf,e,k _ _ (Ne.symm nd.2.1.1) j.hk,k _ _ (Ne.symm nd.2.1.2) j.hs⟩
theorem LJ.know(j:LJ C CL CS CH CV K Pt home p pa fl cl kl sl S h W fs cs kn xs d rs ws v o dk ak due cz H){kn2:List Int}(k:Kp kl H H')(e:H' kl=some (.lst (kn2.map V.int))):LJ C CL CS CH CV K Pt home p pa fl cl kl sl S h W fs cs kn2 xs d rs ws v o dk ak due cz H':=by
 obtain ⟨a,b,c⟩:=j.wr (x:=kl) (by simp) j.hk k
 have nd:=j.nd
 simp only [List.nodup_cons,List.mem_cons,List.not_mem_nil,or_false,not_or,not_false_eq_true,List.nodup_nil,and_true] at nd
 exact ⟨a,b,j.dj,j.ap,j.nd,c,k _ _ nd.1.2.1 j.hf,k _ _ nd.2.1.1 j.hc,e,k _ _ (Ne.symm nd.2.2) j.hs⟩
end
theorem WkB.start{H:Hp}{S Pt:Addr}{W:Aw}{home many:Int}{p:Pa}(a:WkA C CL CV K H S W home many p none [] [] [])(ht:H Pt=some (.tbl #[]))(nd:(wad W Pt (none,none) none).Nodup):WkB C CL CV K H S W Pt home many p (none,none) [] [] [] none:=by
 obtain ⟨dl,vs,h1,h2,h3⟩:=a.ls
 refine ⟨⟨dl,vs,λx hx=>?_,h3⟩,λ_=>rfl,λ_=>rfl,nd⟩
 simp only [wc,odc,czc,Option.toList,List.map_nil,List.append_nil,List.mem_cons,List.not_mem_nil,or_false] at hx
 rcases hx with e | e | e | e | e | e | e
 ·rw [e];exact a.ins
 ·rw [e];exact h1
 ·rw [e];exact h2
 ·rw [e];exact a.dr
 ·rw [e];exact a.an
 ·rw [e];exact a.pe
 ·rw [e];exact ht
theorem LJ.tup{Pt:Addr}{home:Int}{p:Pa}{pa fl cl kl sl:Addr}{S:Ad}{h:Ah}{W:Aw}{fs cs kn xs:List Int}{d:Sd}{rs:List Addr}{ws:List Ws}{v:V}{o:Odb}{dk ak:List (Key×V)}{due:List Lk}{cz:Option Addr}{H H':Hp}(j:LJ C CL CS CH CV K Pt home p pa fl cl kl sl S h W fs cs kn xs d rs ws v o dk ak due cz H)(hC:∀k,C k≠CL)(hV:∀k,C k≠CV){d2:Sd}{rs2:List Addr}{ws2:List Ws}{v2:V}{o2:Odb}{dk2 ak2:List (Key×V)}{ps2:List Pr}{cz2:Option Addr}(g:DoI C CL CS CH CV K S h W Pt home 5 p ps2 H H' (wad W Pt o cz) d2 rs2 ws2 v2 o2 dk2 ak2 cz2):aT H H':=λb us e=>by
 refine g.fr b _ (λm=>?_) (λm=>?_) e
 ·obtain ⟨u,eu,iu⟩:=j.wk.own hC hV m
  rw [e] at eu
  cases eu
  exact iu True.intro
 ·obtain ⟨u,eu,iu⟩:=j.sh.own m
  rw [e] at eu
  cases eu
  exact iu _ rfl
abbrev s51(a pa fl cl kl:Addr)(S:Ad)(W:Aw)(home:Int)(y1 y4 y10 y11 y12 y13 y14:Option V):L2.St:=[some (.ref a),y1,some (.int home),some (.ref pa),y4,some (.ref fl),some (.ref S.l),some (.ref W.l),some (.ref cl),some (.ref kl),y10,y11,y12,y13,y14]
def PvL(C:Kd->Addr)(CL CS CV:Addr)(K:Frag)(Pt:Addr)(a pa fl cl kl sl:Addr)(S:Ad)(W:Aw)(home:Int)(p:Pa)(fs xs:List Int)(y1:Option V)(i:Nat)(σ:L2.St)(H:Hp):Prop:=∃y4 y10 y11 y12 y13 y14 cs kn d o dk ak due cz,σ=s51 a pa fl cl kl S W home y1 y4 y10 y11 y12 y13 y14/\LI C CL CS CV K Pt home p pa fl cl kl sl S W fs cs kn xs d o dk ak due cz H/\LDt fs cs kn d o dk ak due i
def uX(C:Kd->Addr)(CL CS CH CV:Addr)(K:Frag)(Pt:Addr)(again:Bool):TS:=λD σ H=>∃a pa fl cl kl sl S W home p fs xs y1 i n hand wd ns h y13 y14 cs kn d o dk ak due cz,
 σ=s51 a pa fl cl kl S W home y1 (some (.int n)) (some (.int hand)) (some (.str (txt wd ns))) (some (.ref (h:Ah).l)) y13 y14/\LJ C CL CS CH CV K Pt home p pa fl cl kl sl S h W fs cs kn xs d [] [] .non o dk ak due cz H/\LDt fs cs kn d o dk ak due i/\i<12/\Ar wd ns/\inC fs.length wd ns/\(again=true->kn≠[])/\fs.length<=8 /\
 ∀σ' H',PvL C CL CS CV K Pt a pa fl cl kl sl S W home p fs xs y1 (i+1) σ' H'->D.nx σ' H'
def uC(C:Kd->Addr)(CL CS CH CV:Addr)(K:Frag)(Pt:Addr):TS:=λD σ H=>∃a pa fl cl kl sl S W home p fs xs y1 i n hand wd ns h rl ys cs kn d o dk ak due cz,
 σ=s51 a pa fl cl kl S W home y1 (some (.int n)) (some (.int hand)) (some (.str (txt wd ns))) (some (.ref (h:Ah).l)) (some (.int ((kn.length:Nat):Int))) (some (.ref rl))/\LJ C CL CS CH CV K Pt home p pa fl cl kl sl S h W fs cs kn xs d [] [] .non o dk ak due cz H/\LDt fs cs kn d o dk ak due i/\i<12/\Ar wd ns/\inC fs.length wd ns/\fs.length<=8 /\
 H rl=some (.lst ys)/\rl∉wad W Pt o cz/\rl∉S.l::h.own S/\rl≠cl/\rl≠kl/\((kn=[]/\∃r2,ys=[.ref r2]/\H r2=some (.tup [.str "work",.ref pa]))\/(kn≠[]/\ys=[])) /\
 ∀σ' H',PvL C CL CS CV K Pt a pa fl cl kl sl S W home p fs xs y1 (i+1) σ' H'->D.nx σ' H'
def u0(C:Kd->Addr)(CL CS CV:Addr)(K:Frag)(Pt:Addr):TS:=λD σ H=>∃a ns pa fl cl kl S W home p fs y1 y4,
 σ=s51 a pa fl cl kl S W home y1 y4 none none none none none/\SqL K H a ((ns:List Int).map V.int)/\0<=home/\home<5/\1<=fs.length/\fs.length<=8/\Lo.St CS K H S (Sd.new fs)/\WkB C CL CV K H S.l W Pt home 5 p (none,none) [] [] [] none/\Dj (wad W Pt (none,none) none) (S.l::S.own)/\(∀b∈[fl,cl,kl],b∉wad W Pt (none,none) none/\b∉S.l::S.own)/\[fl,cl,kl].Nodup /\
 H pa=some (.tup [.int (p:Pa).1,.int p.2])/\H fl=some (.lst ((fs:List Int).map V.int))/\H cl=some (.lst (fs.map V.int))/\H kl=some (.lst [])/\∀H',D.rt (.bl true) H'
def mI(K:Frag)(Pt:Addr):Sp:=λvs H Q _=>∃a ns,vs=[.ref a]/\SqL K H a ((ns:List Int).map V.int)/\ns.length<=63/\H Pt=some (.tbl #[])/\∀H',Q (.bl true) H'
theorem A9(ns:List Int):(lL (ns.map V.int) (some 2) (some 14)).length<=12:=by
 unfold lL
 rw [List.length_take]
 show min (min 14 _-min 2 _) _<=12
 omega
theorem zy{Pt fSI fHI fVI:Addr}{dSI dHI dVI:FuncData}(F:Fun K "law" "law" oB f fd)(B:TxB mg)(D:TxD K CS)(DH:TxH K CH)(T:TxV K CV)(hC:∀k,C k≠CL)(hV:∀k,C k≠CV)(MS:Mk K CS fSI)(mgS:mg "Stand"=some (.ref CS))(GSI:FnOk P w K mg base CX0 1 fSI dSI ["self","cells"] (qX CS K))(bSI:Binds K dSI ["self","cells"] [])
  (MH:Mk K CH fHI)(mgH:mg "Sheet"=some (.ref CH))(GHI:FnOk P w K mg base CX0 1 fHI dHI ["self","stand"] (qY CS CH K))(bHI:Binds K dHI ["self","stand"] [])(MV:Mk K CV fVI)(mgV:mg "Works"=some (.ref CV))(GVI:FnOk P w K mg base CX0 4 fVI dVI ["self","stand","home","many"] (qV C CL CS CV K))(bVI:Binds K dVI ["self","stand","home","many"] [])
  (GA:GF P w K mg base CX0 1 "_law_cell_at" ["_law_script","_law_k"] (pW K))(GN:GF P w K mg base CX0 1 "_law_number" ["_law_cell"] mK)(GSt:GF P w K mg base CX0 2 "_law_step" ["_law_cell","_law_home","_law_many"] mJ)(GPl:GF P w K mg base CX0 1 "_law_played" ["_law_cells","_law_hand","_law_text"] pQ)
  (GT:GF P w K mg base CX0 3 "_law_right" ["_law_sheet","_law_p","_law_rows","_law_i","_law_hand"] (mE CS CH K))(GWk:GM P w K mg base CX0 8 CV "work" ["self","sheet","p","i","hand","text"] (pM C CL CS CH CV K Pt))(GC:GM P w K mg base CX0 1 CS "cells_told" ["self"] (mO CS K))(GWt:GM P w K mg base CX0 6 CV "waiting" ["self"] (pN C CL CV K)) :
  FnOk P w K mg base CX0 9 f fd ["_law_script"] (mI K Pt):=by
 refine F.ok sc_law (λvs H Q E h=>?_) (λcdv A outer s H vs Q E hr h=>?_)
 ·obtain ⟨a,ns,rfl,_⟩:=h
  rfl
 obtain ⟨a,ns,rfl,hS,hl,hPt,q⟩:=h
 have nd:=sc_law.nd
 have hr1:Room (1+1) _:=hr.mono ζ
 have hr2:Room (4+1) _:=hr.mono ζ
 refine ⟨_,af (aH (i:=1) nd rfl (Or.inl rfl) (pc GA hr (ac (pv 0) (ac ao ag))))
  (af (aH (i:=2) nd rfl (Or.inl rfl) (aG cY (aG cj (pv 1) ao) ao))
  (af (aH (i:=3) nd rfl (Or.inl rfl) (aY (ac (aG cY (aG cj (pv 1) ao) ao) (ac (aG cY (aG cj (pv 1) ao) ao) ag))))
  (af (aH (i:=4) nd rfl (Or.inr rfl) (pc GA hr (ac (pv 0) (ac ao ag))))
  (af (uN (iy:=5) uD rfl (e8 rfl B.range (ac (aG cZ ao (aG cY (pv 1) ao)) ag)) (λ_ _ _ _=>eg) (λ_ _ _ _=>pc GN hr (ac (aG cZ (aG cj (pv 1) (aG cZ (pv 0) ao)) (aG uY ao (pv 0))) ag)) nd rfl (Or.inl rfl))
  (af (aH (i:=6) nd rfl (Or.inl rfl) (bh MS GSI hr1 rfl mgS bSI .nil be (ac (pv 5) ag)))
  (af (aH (i:=7) nd rfl (Or.inl rfl) (bh MV GVI hr2 rfl mgV bVI .nil be (ac (pv 6) (ac (pv 2) (ac ao ag)))))
  (af (aH (i:=8) nd rfl (Or.inl rfl) (bc dD rfl B.list PyProof.Rows.boot_list (ac (pv 5) ag)))
  (af (aH (i:=9) nd rfl (Or.inl rfl) (cX ag))
  (hW (u:=u0 C CL CS CV K Pt)
  (af (kz PassesOwn.never rfl (gM (io re (pv 0) (eA ao) (eA ao))) (fK (i:=4) nd rfl (Or.inr rfl))
   (af (aH (i:=10) nd rfl (Or.inl rfl) (pc GN hr (ac (aG cj (pv 4) ao) ag)))
   (af (aH (i:=11) nd rfl (Or.inl rfl) (pc GSt hr (ac (aG cj (pv 4) ao) (ac (pv 2) (ac (aF bu rfl B.len PySem.boot_len (ac (pv 8) ag)) ag)))))
   (af (aH (i:=12) nd rfl (Or.inl rfl) (bh MH GHI hr1 rfl mgH bHI .nil be (ac (pv 6) ag)))
   (aj (aI (PW.pt (gz (az bH (aG cY (pv 4) ao) ao (aA _)) (fJ (az (zv cInt (hun hr)) (pv 9) (cX ag) (aA _)))))
    (hW (u:=uX C CL CS CH CV K Pt true)
     (af (aH (i:=13) nd rfl (Or.inl rfl) (aG cY (aG cj (pv 4) ao) (aF bu rfl B.len PySem.boot_len (ac (pv 9) ag))))
     (af (bw (pm GWk (pv 7) T.cl hr (ac (pv 12) (ac (pv 3) (ac (pv 13) (ac (pv 10) (ac (pv 11) ag)))))))
     (aj (aI (ja (cu (pc GT hr (ac (pv 12) (ac (pv 3) (ac (cX ag) (ac (pv 13) (ac (ay (r:=bQ K) aE (pv 9) (pv 13) (λ_ _=>rfl)) ag)))))))) aJ aC)))) ?vA)
    (hW (u:=uX C CL CS CH CV K Pt false)
     (af (aH (i:=13) nd rfl (Or.inl rfl) (aF bu rfl B.len PySem.boot_len (ac (pv 9) ag)))
     (af (aH (i:=14) nd rfl (Or.inl rfl) (cX (ac (aY (ac aD (ac (pv 3) ag))) ag)))
     (af (aI (az kD (pv 13) ao (aA _)) (aj (aH (i:=14) nd rfl (Or.inl rfl) (cX ag))) aC)
     (hW (u:=uC C CL CS CH CV K Pt)
      (af (bw (pm GWk (pv 7) T.cl hr (ac (pv 12) (ac (pv 3) (ac (pv 13) (ac (pv 10) (ac (pv 11) ag)))))))
      (af (bw (gW PySem.F.plainAttrs_list PySem.F.slot_list_append PySem.F.type_list_append fb (pv 9) (ac (pc GPl hr (ac (pv 8) (ac (pv 10) (ac (pv 11) ag)))) ag)))
      (aj (aI (ja (cu (pc GT hr (ac (pv 12) (ac (pv 3) (ac (pv 14) (ac (pv 13) (ac (ay (r:=bQ K) aE (pv 9) (pv 13) (λ_ _=>rfl)) ag)))))))) aJ aC)))) ?vC)))) ?vB)))))))
  (aj (ax (fM (ci (u4 cInt (hun hr)) (pm0 GC (pv 6) D.cl hr) (pv 5) (aA _)) (eM (ci (u4 cInt (hun hr)) (pm0 GWt (pv 7) T.cl hr) (cX ag) (aA _))))))) ?v0))))))))),?_⟩
 case vA =>
  rintro D0 σ H ⟨a,pa,fl,cl,kl,sl,S,W,home,p,fs,xs,y1,i,n,hand,wd,ns,h,y13,y14,cs,kn,d,o,dk,ak,due,cz,rfl,j,g,hi,ar,ic,hkn,h8,nx⟩
  have kp:0<kn.length:=List.length_pos_iff.mpr (hkn rfl)
  have kp2:(0:Int)<(((kn.map V.int).length:Nat):Int):=by rw [List.length_map];omega
  refine ⟨_,rfl,_,_,rfl,rfl,⟨ζ,ζ⟩,_,rfl,kl,_,rfl,.inl (SqL.of j.hk),_,_,rfl,rfl,kp2,?_⟩
  have m0:0<=n/3%(((kn.map V.int).length:Nat):Int):=Int.emod_nonneg _ ω
  have m1:n/3%(((kn.map V.int).length:Nat):Int)<kn.length:=by
   have:=Int.emod_lt_of_pos (n/3) kp2
   rw [List.length_map] at this ⊢
   exact this
  obtain ⟨m,em⟩:∃m,n/3%(((kn.map V.int).length:Nat):Int)=m:=⟨_,rfl⟩
  rw [em] at m0 m1
  have av:=g.av m
  rw [if_pos ⟨m0,m1⟩] at av
  refine ⟨_,rfl,W.l,W.dx,_,rfl,j.wk.ins,jq θ,_,rfl,_,rfl,_,rfl,_,rfl,_,rfl,W,home,5,S,h,d,[],[],.non,p,pa,m,hand,wd,ns,o,dk,ak,due,cz,(by rw [← em];rfl),j.sh,j.wk,j.dj,j.hp,ar,by rw [g.ec];exact ic,by rw [g.ec];omega,g.di,g.ai,Λ g.ld ω,Λ g.la ω,by show 0<=100;decide,by show 0<=100;decide,Λ g.lu ω,g.sm.mono ω,g.er,λhv t H1 ev gd ht=>?_,λev=>by rw [av] at ev;cases ev⟩
  rw [av] at ev
  cases ev
  have j1:=j.done hC hV gd
  refine ⟨_,rfl,_,rfl,χ,λl hl=>?_⟩
  have s2:=al (o:=.lst []) hl
  have j2:=j1.keep s2
  refine ⟨_,rfl,_,rfl,_,rfl,kl,_,m,_,rfl,congrArg V.int em,SqL.of j2.hk,rX m0 m1,S,h,d,[],_,p,pa,t,l,[],m,_,(by rw [← em];rfl),j2.sh,s2 _ _ ht,j2.hp,ad,.inl ⟨rfl,rfl⟩,g.ee,λH3 s3=>⟨_,rfl,bj ?_⟩⟩
  exact nx _ _ ⟨_,_,_,_,_,_,cs,kn,d,o,dk,ak,due,cz,rfl,(j2.keep s3).out,g.next⟩
 case vC =>
  rintro D0 σ H ⟨a,pa,fl,cl,kl,sl,S,W,home,p,fs,xs,y1,i,n,hand,wd,ns,h,rl,ys,cs,kn,d,o,dk,ak,due,cz,rfl,j,g,hi,ar,ic,h8,hrl,r1,r2,r3,r4,hy,nx⟩
  have av:=g.av ((kn.length:Nat):Int)
  rw [if_neg ω] at av
  have ed:dn (cb dk d.cells) wd ns hand=dn (bJ cs) wd ns hand:=by rw [g.ec];exact wm g.va ar ic
  refine ⟨_,rfl,W.l,W.dx,_,rfl,j.wk.ins,jq θ,_,rfl,_,rfl,_,rfl,_,rfl,_,rfl,W,home,5,S,h,d,[],[],.non,p,pa,_,hand,wd,ns,o,dk,ak,due,cz,rfl,j.sh,j.wk,j.dj,j.hp,ar,by rw [g.ec];exact ic,by rw [g.ec];omega,g.di,g.ai,Λ g.ld ω,Λ g.la ω,by show 0<=100;decide,by show 0<=100;decide,Λ g.lu ω,g.sm.mono ω,g.er,(λhv t H1 ev _ _=>by rw [av] at ev;cases ev),λ_ dd aa c t d2 rs2 v2 due2 H1 hu gd ht e1 e2 e3 e4 e5 e6=>?_⟩
  rw [ed] at gd ht
  have j1:=j.done hC hV gd
  have t1:=j.tup hC hV gd
  have hrl1:=gd.fr _ _ r1 (λm=>r2 (Θ _ m)) hrl
  have rr:RwR H1 pa rs2 ys:=by
   rcases hy with ⟨ek,q2,ey,hq2⟩ | ⟨nk,ey⟩
   ·obtain ⟨r,er,hr⟩:=e5 (g.oo ek)
    exact .inr ⟨r,q2,er,ey,hr,t1 _ _ hq2⟩
   ·refine .inl ⟨e6 (λz=>?_),ey⟩
    have ea:=j.wk.n2 z
    have:=g.av 0
    have kp:0<kn.length:=List.length_pos_iff.mpr nk
    rw [ea,if_pos ω] at this
    cases this
  refine ⟨_,rfl,.inl ⟨rfl,_,SqL.of j1.hk⟩,_,rfl,_,rfl,_,rfl,cl,cs,hand,wd,ns,rfl,j1.hc,ar,by rw [g.lc];exact ic,λH2 k2 h2=>?_⟩
  have j2:=j1.play k2 h2
  have t2:aT H1 H2:=(gZ (C:=C) k2 j1.hc id).ts
  refine ⟨kl,_,_,rfl,rfl,j2.hk,bM (by rw [List.length_map];have:=g.lk;omega),?_⟩
  have k3:Kp kl H2 (upd H2 kl (.lst (kn.map V.int++[.int (dn (bJ cs) wd ns hand).1]))):=cq
  have j3:=j2.know (kn2:=kn++[(dn (bJ cs) wd ns hand).1]) k3 (by rw [ad,List.map_append];rfl)
  have t3:aT H2 _:=(gZ (C:=C) k3 j2.hk id).ts
  have hrl3:=k3 _ _ r4 (k2 _ _ r3 hrl1)
  have ht3:=t3 _ _ (t2 _ _ ht)
  have rr3:=(rr.keep t2).keep t3
  generalize (upd H2 kl (HO.lst (kn.map V.int++[.int (dn (bJ cs) wd ns hand).1])))=H3 at j3 hrl3 ht3 rr3 ⊢
  have ev:bJ (kn++[(dn (bJ cs) wd ns hand).1]) ((kn.length:Nat):Int)=(dn (bJ cs) wd ns hand).1:=by rw [jT _ _ _ ω ω,if_pos rfl]
  have ai:=rX (cs:=kn++[(dn (bJ cs) wd ns hand).1]) (c:=((kn.length:Nat):Int)) ω (by simp;omega)
  rw [ev] at ai
  refine ⟨_,rfl,_,rfl,_,rfl,_,rfl,_,rfl,_,rfl,kl,_,_,_,rfl,rfl,SqL.of j3.hk,ai,S,h,d2,rs2,v2,p,pa,t,rl,ys,_,_,rfl,j3.sh,ht3,j3.hp,hrl3,rr3,e3.trans g.ee,λH4 s4=>⟨_,rfl,bj ?_⟩⟩
  exact nx _ _ ⟨_,_,_,_,_,_,_,_,_,_,_,_,due2,_,rfl,(j3.keep s4).out,g.step ar ic hu e1 e2 e3 e4⟩
 case vB =>
  rintro D0 σ H ⟨a,pa,fl,cl,kl,sl,S,W,home,p,fs,xs,y1,i,n,hand,wd,ns,h,y13,y14,cs,kn,d,o,dk,ak,due,cz,rfl,j,g,hi,ar,ic,_,h8,nx⟩
  have lk:(((kn.map V.int).length:Nat):Int)=((kn.length:Nat):Int):=by rw [List.length_map]
  refine ⟨_,rfl,kl,_,rfl,.inl (SqL.of j.hk),?_⟩
  rw [lk]
  refine ⟨_,rfl,χ,λq2 hq2=>⟨χ,λrl hrl=>?_⟩⟩
  have s1:=al (o:=.tup [.str "work",.ref pa]) hq2
  have s2:=al (o:=.lst [.ref q2]) hrl
  have hq:=s2 _ _ (ad (H:=H) (a:=q2) (o:=.tup [.str "work",.ref pa]))
  have j2:=j.keep (s1.trans s2)
  have far:∀{H0:Hp} {b:Addr},LJ C CL CS CH CV K Pt home p pa fl cl kl sl S h W fs cs kn xs d [] [] .non o dk ak due cz H0->H0 b=none->b∉wad W Pt o cz/\b∉S.l::h.own S/\b≠cl/\b≠kl:=λ{H0 b} j0 hb=>by
   refine ⟨λm=>?_,λm=>?_,λz=>?_,λz=>?_⟩
   ·obtain ⟨u,eu,_⟩:=j0.wk.own hC hV m
    rw [hb] at eu;cases eu
   ·rcases List.mem_cons.mp m with z | z
    ·rw [z,j0.sh.st.ins] at hb;cases hb
    ·obtain ⟨u,eu,_⟩:=j0.sh.own z
     rw [hb] at eu;cases eu
   ·rw [z,j0.hc] at hb;cases hb
   ·rw [z,j0.hk] at hb;cases hb
  refine ⟨_,rfl,_,_,rfl,rfl,_,rfl,aU (λc=>?_) (λc=>?_)⟩
  ·have kp:0<kn.length:=by have:=Ξ c;omega
   refine ⟨χ,λl hl=>?_⟩
   obtain ⟨f1,f2,f3,f4⟩:=far j2 hl
   exact ⟨a,pa,fl,cl,kl,sl,S,W,home,p,fs,xs,y1,i,n,hand,wd,ns,h,l,[],cs,kn,d,o,dk,ak,due,cz,rfl,j2.keep (al hl),g,hi,ar,ic,h8,ad,f1,f2,f3,f4,.inr ⟨(λz=>by rw [z] at kp;cases kp),rfl⟩,nx⟩
  ·have ek:kn=[]:=by
    cases kn with
    | nil=>rfl
    | cons x r=>exact absurd (τ (by show (0:Int)<(((x::r).length:Nat):Int);rw [List.length_cons];omega)) c
   obtain ⟨f1,f2,f3,f4⟩:=far (j.keep s1) hrl
   exact ⟨a,pa,fl,cl,kl,sl,S,W,home,p,fs,xs,y1,i,n,hand,wd,ns,h,rl,_,cs,kn,d,o,dk,ak,due,cz,rfl,j2,g,hi,ar,ic,h8,ad,f1,f2,f3,f4,.inl ⟨ek,q2,rfl,hq⟩,nx⟩
 case v0 =>
  rintro D0 σ H ⟨a,ns,pa,fl,cl,kl,S,W,home,p,fs,y1,y4,rfl,hS,o0,o5,m1,m8,st,wk,dj,ap,nd3,hp,hf,hc,hk,q⟩
  refine ⟨_,rfl,_,rfl,_,rfl,a,_,rfl,hS,λsl hsl=>⟨sl,rfl,⟨_,SqL.of ad⟩,?_⟩⟩
  have c12:=A9 ns
  obtain ⟨xs,exs,lxs⟩:=ww ns (some 2) (some 14)
  rw [exs] at c12 ⊢
  rw [List.length_map] at c12
  have s1:=al (o:=.lst (xs.map V.int)) hsl
  have j0:LI C CL CS CV K Pt home p pa fl cl kl sl S W fs fs [] xs (Sd.new fs) (none,none) [] [] [] none (upd H sl (.lst (xs.map V.int))):=by
   refine ⟨st.keep s1,wk.keep s1,dj,λb hb=>?_,?_,s1 _ _ hp,s1 _ _ hf,s1 _ _ hc,s1 _ _ hk,ad⟩
   ·by_cases z:b=sl
    ·rw [z]
     refine ⟨λm=>?_,λm=>?_⟩
     ·obtain ⟨u,eu,_⟩:=wk.own hC hV m
      rw [hsl] at eu;cases eu
     ·rcases List.mem_cons.mp m with y | y
      ·rw [y,st.ins] at hsl;cases hsl
      ·obtain ⟨us0,stu⟩:=st
       obtain ⟨u,eu,_⟩:=stu.own y
       rw [hsl] at eu;cases eu
    ·refine ap b ?_
     simp only [List.mem_cons,List.not_mem_nil,or_false] at hb ⊢
     rcases hb with y | y | y | y
     ·exact .inl y
     ·exact .inr (.inl y)
     ·exact .inr (.inr y)
     ·exact absurd y z
   ·simp only [List.nodup_cons,List.mem_cons,List.not_mem_nil,or_false,not_or,not_false_eq_true,List.nodup_nil,and_true] at nd3 ⊢
    exact ⟨⟨nd3.1.1,nd3.1.2,ae hf hsl⟩,⟨nd3.2,ae hc hsl⟩,ae hk hsl⟩
  have g0:LDt fs fs [] (Sd.new fs) (none,none) [] [] [] 0:=⟨rfl,rfl,λc h0 h1=>rfl,(λj=>by rw [if_neg (by show ¬(0<=j/\j<0);omega)];rfl),λ_=>rfl,(λc v z=>by cases z),ι _,ι _,ι _,ι _,⟨ι _,ι _,ι _,ι _,ι _,ι _⟩,rfl,rfl⟩
  generalize (upd H sl (HO.lst (xs.map V.int)))=H1 at j0 ⊢
  refine pd (xs:=xs.map V.int) (PvL C CL CS CV K Pt a pa fl cl kl sl S W home p fs xs y1) ⟨y4,none,none,none,none,none,fs,[],_,_,_,_,_,_,rfl,j0,g0⟩ (λi σ H' _ z=>by obtain ⟨_,_,_,_,_,_,_,_,_,_,_,_,_,_,_,j,_⟩:=z;exact SqL.of j.hs) ?_ ?_
  ·rintro i u σ H2 hu ⟨y4,y10,y11,y12,y13,y14,cs,kn,d,o,dk,ak,due,cz,rfl,j,g⟩
   obtain ⟨n,rfl⟩:=zV hu
   have hi:i<12:=by
    have:=(List.getElem?_eq_some_iff.mp hu).1
    rw [List.length_map] at this
    omega
   refine ⟨_,rfl,_,_,rfl,rfl,⟨ζ,ζ⟩,_,rfl,λhand _=>?_⟩
   have lm:(cs.map V.int).length=fs.length:=by rw [List.length_map,g.lc]
   refine ⟨_,rfl,_,_,rfl,rfl,⟨ζ,ζ⟩,_,rfl,_,rfl,cl,_,rfl,.inl (SqL.of j.hc),_,home,(cs.map V.int).length,rfl,o0,o5,ω,ω,λwd ns2 H3 s3 ar ic=>?_⟩
   rw [lm] at ic
   have j3:=j.keep s3
   refine ⟨_,rfl,?_⟩
   intro x dx nx ndx nex
   have s4:∀{o1 o2:HO},Same H3 (upd (upd H3 dx o1) x o2):=λ{o1 o2} b o e=>by rw [am (ae e nx),am (ae e ndx)];exact e
   refine ⟨x,dx,S,d,rfl,ad,j3.st.keep s4,ae j3.st.ins nx,λh H4 eh sh4 hr0 hs0 kp4=>⟨rfl,?_⟩⟩
   subst eh
   have s34:Same H3 H4:=λb o e=>kp4 b o (ae e nx) (s4 _ _ e)
   have fr:∀{b:Addr} {o1 o2:HO},(upd (upd H3 dx o1) h.l o2) b=none->H3 b=none:=λ{b o1 o2} hb=>by
    cases e:H3 b with
    | none=>rfl
    | some u=>rw [s4 _ _ e] at hb;cases hb
   have j4:=j3.sheet hC hV s34 sh4 nx (fr hr0) (fr hs0)
   refine ⟨_,rfl,_,_,rfl,rfl,(by show (0:Int)<3;decide),rfl,_,rfl,aU (λ_=>?_) (λ_=>?_)⟩
   ·refine ⟨_,rfl,χ,λl hl=>?_⟩
    have s5:=al (o:=.lst []) hl
    refine ⟨kn,[],gO (s5 _ _ j4.hk),gO (xs:=[]) ad,_,rfl,aU (λc=>?_) (λ_=>?_)⟩
    ·refine ⟨a,pa,fl,cl,kl,sl,S,W,home,p,fs,xs,y1,i,n,hand,wd,ns2,h,_,_,cs,kn,d,o,dk,ak,due,cz,rfl,j4.keep s5,g,hi,ar,ic,λ_ z=>?_,m8,fun σ' H' z=>z⟩
     rw [z] at c
     exact absurd c ζ
    ·exact ⟨a,pa,fl,cl,kl,sl,S,W,home,p,fs,xs,y1,i,n,hand,wd,ns2,h,_,_,cs,kn,d,o,dk,ak,due,cz,rfl,j4.keep s5,g,hi,ar,ic,(λz=>by cases z),m8,fun σ' H' z=>z⟩
   ·exact ⟨a,pa,fl,cl,kl,sl,S,W,home,p,fs,xs,y1,i,n,hand,wd,ns2,h,_,_,cs,kn,d,o,dk,ak,due,cz,rfl,j4,g,hi,ar,ic,(λz=>by cases z),m8,fun σ' H' z=>z⟩
  ·rintro σ H2 ⟨y4,y10,y11,y12,y13,y14,cs,kn,d,o,dk,ak,due,cz,rfl,j,g⟩
   have ec:=g.ec
   refine ⟨_,rfl,S.l,S.dx,_,rfl,j.st.ins,jv θ,S,d,rfl,j.st,λl H3 s3 _ hl=>?_⟩
   rw [ec] at hl
   have j3:=j.keep s3
   refine ⟨_,rfl,fs,fs,gO hl,gO j3.hf,_,rfl,aU (λ_=>?_) (λc=>absurd (τ rfl) c)⟩
   refine ⟨_,rfl,W.l,W.dx,_,rfl,j3.wk.ins,jq θ,W,home,5,S.l,_,rfl,j3.wk.ins,j3.wk.ls,(by rw [List.length_map];have h9:=g.lu;rw [List.length_map] at h9;omega),tO (nO p due),λq1 H4 s4 hq1=>⟨χ,λl2 hl2=>?_⟩⟩
   exact ⟨[],[],gO (xs:=[]) (al hl2 _ _ hq1),gO (xs:=[]) ad,q _⟩
 refine ⟨_,rfl,a,ns,0,rfl,hS,?_⟩
 refine ⟨_,rfl,_,_,rfl,rfl,⟨ζ,ζ⟩,_,_,rfl,rfl,(by show (0:Int)<5;decide),?_⟩
 refine ⟨_,rfl,_,_,rfl,rfl,⟨ζ,ζ⟩,_,_,rfl,rfl,(by show (0:Int)<5;decide),_,rfl,_,_,rfl,rfl,⟨ζ,ζ⟩,_,_,rfl,rfl,(by show (0:Int)<19;decide),χ,λpa hpa=>?_⟩
 have s1:=al (o:=.tup [.int (aQ ns 0/40%5),.int (aQ ns 0/16%19)]) hpa
 have hp1:=ad (H:=H) (a:=pa) (o:=.tup [.int (aQ ns 0/40%5),.int (aQ ns 0/16%19)])
 have hP1:=s1 _ _ hPt
 have hS1:=s1.seq hS
 refine ⟨_,rfl,a,ns,1,rfl,hS1,?_⟩
 obtain ⟨M,hM,hM1,hM8⟩:∃M:Nat,1+aQ ns 0%8=(M:Int)/\1<=M/\M<=8:=by
  have h0:0<=aQ ns 0%8:=Int.emod_nonneg _ ζ
  have h3:aQ ns 0%8<8:=Int.emod_lt_of_pos _ ζ
  exact ⟨(1+aQ ns 0%8).toNat,ω,ω,ω⟩
 refine ⟨_,rfl,_,_,rfl,rfl,(by show (0:Int)<8;decide),_,_,rfl,rfl,(M:Int),congrArg (λz=>[V.int z]) hM,ω,ω,?_⟩
 rw [Int.toNat_natCast]
 have e1:∃H1:Hp,H1=(upd H pa (.tup [.int (aQ ns 0/40%5),.int (aQ ns 0/16%19)])):=⟨_,rfl⟩
 refine kQ (n:=M) (λi ys H'=>H'=(upd H pa (.tup [.int (aQ ns 0/40%5),.int (aQ ns 0/16%19)]))/\∃vs:List Int,ys=vs.map V.int/\vs.length=i) ⟨rfl,[],rfl,rfl⟩ (small ω) (λi ys H' hi z=>lQ ?_) (λys H' z=>?_)
 ·obtain ⟨rfl,vs,rfl,hvl⟩:=z
  exact ⟨_,rfl,_,rfl,_,_,rfl,rfl,_,_,rfl,rfl,⟨ω,ω⟩,_,rfl,_,_,rfl,rfl,.inl ⟨ζ,ζ⟩,_,_,rfl,rfl,_,rfl,λr _=>⟨rfl,vs++[r],by rw [List.map_append];rfl,by rw [List.length_append];show vs.length+1=i+1;omega⟩⟩
 obtain ⟨rfl,vs,rfl,hvl⟩:=z
 clear e1
 generalize (upd H pa (.tup [.int (aQ ns 0/40%5),.int (aQ ns 0/16%19)]))=H1 at s1 hp1 hP1 hS1 ⊢
 intro fl hfl
 have s2:=al (o:=.lst (vs.map V.int)) hfl
 have hf2:(upd H1 fl (.lst (vs.map V.int))) fl=some (.lst (vs.map V.int)):=ad
 have nfP:fl≠Pt:=λz=>by rw [z,hP1] at hfl;cases hfl
 generalize (upd H1 fl (HO.lst (vs.map V.int)))=H2 at s2 hf2 ⊢
 refine ⟨_,rfl,?_⟩
 intro x dx nx ndx nex
 have s3':∀{o1 o2:HO},Same H2 (upd (upd H2 dx o1) x o2):=λ{o1 o2} b o e=>by rw [am (ae e nx),am (ae e ndx)];exact e
 refine ⟨x,dx,fl,vs,rfl,ad,s3' _ _ hf2,ω,λS H3 eS st3 fr3 kp3=>⟨rfl,?_⟩⟩
 subst eS
 have s3:Same H2 H3:=λb o e=>kp3 b o (ae e nx) (s3' _ _ e)
 have out:∀b u,H2 b=some u->b∉S.l::S.own:=λb u e m=>by
  rcases List.mem_cons.mp m with z | z
  ·rw [z,nx] at e;cases e
  ·have:=fr3 b z
   rw [s3' _ _ e] at this
   cases this
 refine ⟨_,rfl,_,rfl,?_⟩
 intro y dy ny ndy ney
 have s4':∀{o1 o2:HO},Same H3 (upd (upd H3 dy o1) y o2):=λ{o1 o2} b o e=>by rw [am (ae e ny),am (ae e ndy)];exact e
 have inS:∀b,b∈S.l::S.own->∃u,H3 b=some u:=λb m=>by
  rcases List.mem_cons.mp m with z | z
  ·rw [z];exact ⟨_,st3.ins⟩
  ·obtain ⟨us0,stu⟩:=st3
   obtain ⟨u,eu,_⟩:=stu.own z
   exact ⟨u,eu⟩
 have nyS:y∉S.l::S.own:=λm=>by
  obtain ⟨u,eu⟩:=inS y m
  rw [ny] at eu;cases eu
 refine ⟨y,dy,S,Sd.new vs,_,5,rfl,ad,st3.keep s4',rfl,ae st3.ins ny,(λm=>nyS (Θ _ m)),λW H4 eW wa fr4 nd4 kp4=>⟨rfl,?_⟩⟩
 subst eW
 have s4:Same H3 H4:=λb o e=>kp4 b o (ae e ny) (s4' _ _ e)
 have hP3:=s3 _ _ (s2 _ _ hP1)
 have w3:∀b∈[W.l,W.lk,W.pl,W.dr,W.an,W.pe],H3 b=none:=λb hb=>by
  rcases List.mem_cons.mp hb with z | z
  ·rw [z];exact ny
  ·have:=fr4 b z
   cases e:H3 b with
   | none=>rfl
   | some u=>rw [s4' _ _ e] at this;cases this
 have ndw:(wad W Pt (none,none) none).Nodup:=by
  have n1:W.l∉[W.lk,W.pl,W.dr,W.an,W.pe]:=λm=>by
   have:=fr4 _ m
   rw [ad] at this
   cases this
  have n2:Pt∉[W.l,W.lk,W.pl,W.dr,W.an,W.pe]:=λm=>by
   have:=w3 _ m
   rw [hP3] at this
   cases this
  show ([W.l,W.lk,W.pl,W.dr,W.an,W.pe]++[Pt]).Nodup
  rw [List.nodup_append]
  refine ⟨List.nodup_cons.mpr ⟨n1,nd4⟩,by simp,λb hb c hc z=>?_⟩
  rw [List.mem_singleton] at hc
  rw [z,hc] at hb
  exact n2 hb
 have wk4:=WkB.start (wa (aQ ns 0/40%5,aQ ns 0/16%19)) (s4 _ _ hP3) ndw
 have inw:∀b∈wad W Pt (none,none) none,H3 b=none\/b=Pt:=λb hb=>by
  have:b∈[W.l,W.lk,W.pl,W.dr,W.an,W.pe]++[Pt]:=hb
  rcases List.mem_append.mp this with z | z
  ·exact .inl (w3 b z)
  ·exact .inr (List.mem_singleton.mp z)
 have dj4:Dj (wad W Pt (none,none) none) (S.l::S.own):=λb hb m=>by
  rcases inw b hb with z | z
  ·obtain ⟨u,eu⟩:=inS b m
   rw [z] at eu;cases eu
  ·exact out Pt _ (s2 _ _ hP1) (by rw [← z];exact m)
 have nfw:fl∉wad W Pt (none,none) none:=λm=>by
  rcases inw fl m with z | z
  ·rw [s3 _ _ hf2] at z;cases z
  ·exact nfP z
 have st4:=st3.keep s4
 have hf4:=s4 _ _ (s3 _ _ hf2)
 refine ⟨_,rfl,fl,_,rfl,.inl (SqL.of hf4),λcl hcl=>?_⟩
 have s5:=al (o:=.lst (vs.map V.int)) hcl
 have hc5:=ad (H:=H4) (a:=cl) (o:=.lst (vs.map V.int))
 have far:∀{H0:Hp} {b:Addr},Same H4 H0->H0 b=none->b∉wad W Pt (none,none) none/\b∉S.l::S.own:=λ{H0 b} e hb=>by
  refine ⟨λm=>?_,λm=>?_⟩
  ·obtain ⟨u,eu,_⟩:=wk4.own hC hV m
   rw [e _ _ eu] at hb;cases hb
  ·obtain ⟨u,eu⟩:=inS b m
   rw [e _ _ (s4 _ _ eu)] at hb;cases hb
 have fc:=far (Same.refl H4) hcl
 have ncf:=ae hf4 hcl
 generalize (upd H4 cl (HO.lst (vs.map V.int)))=H5 at s5 hc5 ⊢
 refine ⟨χ,λkl hkl=>?_⟩
 have s6:=al (o:=.lst []) hkl
 have fk:=far s5 hkl
 have s46:=s5.trans s6
 have s16:=s2.trans (s3.trans (s4.trans s46))
 have o0:0<=aQ ns 0/8%5:=Int.emod_nonneg _ ζ
 have o5:aQ ns 0/8%5<5:=Int.emod_lt_of_pos _ ζ
 refine ⟨a,ns,pa,fl,cl,kl,S,W,aQ ns 0/8%5,(aQ ns 0/40%5,aQ ns 0/16%19),vs,_,_,rfl,s16.seq hS1,o0,o5,ω,ω,st4.keep s46,wk4.keep s46,dj4,λb hb=>?_,?_,s16 _ _ hp1,s46 _ _ hf4,s6 _ _ hc5,ad,q⟩
 ·simp only [List.mem_cons,List.not_mem_nil,or_false] at hb
  rcases hb with z | z | z
  ·rw [z];exact ⟨nfw,out fl _ hf2⟩
  ·rw [z];exact fc
  ·rw [z];exact fk
 ·simp only [List.nodup_cons,List.mem_cons,List.not_mem_nil,or_false,not_or,not_false_eq_true,List.nodup_nil,and_true]
  exact ⟨⟨ncf,ae (s5 _ _ hf4) hkl⟩,ae hc5 hkl⟩
theorem vx{val:Int->Int}{n:Nat}(F:Fun K "step_done" "PlusStep.step_done" bW f fd):FnOk P w K mg base CX0 5 f fd ["self","hand","value_of"] (fy P w K mg CW val n .plus base):=by
 refine F.ok gm (λvs H Q E h=>?_) (λcdv A outer s H vs Q E hr h=>?_)
 ·obtain ⟨v,ns,hand,fv,_,ar,ic,_⟩:=h
  exact ic.elim
 ·obtain ⟨v,ns,hand,fv,_,ar,ic,_⟩:=h
  exact ic.elim
theorem vy{val:Int->Int}{n:Nat}(F:Fun K "step_done" "NeedStep.step_done" bX f fd):FnOk P w K mg base CX0 5 f fd ["self","hand","value_of"] (fy P w K mg CW val n .need base):=by
 refine F.ok gn (λvs H Q E h=>?_) (λcdv A outer s H vs Q E hr h=>?_)
 ·obtain ⟨v,ns,hand,fv,_,ar,ic,_⟩:=h
  exact ic.elim
 ·obtain ⟨v,ns,hand,fv,_,ar,ic,_⟩:=h
  exact ic.elim
end
end K51
namespace K51
open PySem L2 Lo St
def kmk(a b c:Addr):Kd->Addr
 | .read=>a
 | .mean=>b
 | .change=>c
def wmk(a b c d e f g:Addr):Wd->Addr
 | .take=>a
 | .mean=>b
 | .sum=>c
 | .give=>d
 | .add=>e
 | .plus=>f
 | .need=>g
abbrev bmV:List Value:=[.type "ValueError",.type "Exception",.type "BaseException",.type "object"]
def FnX(K:Frag)(f:Addr)(x q:Str)(st:Stmt):Prop:=∃fd,Fun K x q st f fd
theorem fnx{K:Frag}{f:Addr}{x q:Str}{st:Stmt}{oc kV dc pm cd ct:Value}{od an:Option Addr}{sl:Array (Option Value)}(l:K.lookup f=some ⟨oc,od,.func (PySem.W.fnOf x q (defArgs st) (defBody st) (defScope st) .none kV dc pm an cd ct),sl⟩)(c:PySem.W.codeIn K cd q=true)(k:PySem.W.keepIn K (.ref f)=true):FnX K f x q st:=⟨_,v5 l c k⟩
section
variable {K:Frag}{f:Addr}{x q:Str}{st:Stmt}{fd:FuncData}
abbrev BdF(x q:Str)(st:Stmt)(us:List Value)(ps:List Str):Prop:=∀(kV doc pm:Value) (an:Option Addr) (cdv ct:Value),bindArgs (PySem.W.fnOf x q (defArgs st) (defBody st) (defScope st) .none kV doc pm an cdv ct) ⟨us,[]⟩=pure (ps.zip us)
theorem _root_.L2.Fun.b1(F:Fun K x q st f fd)(p:Str)(h:∀u,BdF x q st [u] [p]):Binds K fd [p] []:=F.binds λa b c d e g us hl=>match us,hl with | [u],_=>h u a b c d e g
theorem _root_.L2.Fun.b2(F:Fun K x q st f fd)(p r:Str)(h:∀u v,BdF x q st [u,v] [p,r]):Binds K fd [p,r] []:=F.binds λa b c d e g us hl=>match us,hl with | [u,v],_=>h u v a b c d e g
theorem _root_.L2.Fun.b3(F:Fun K x q st f fd)(p r s:Str)(h:∀u v w,BdF x q st [u,v,w] [p,r,s]):Binds K fd [p,r,s] []:=F.binds λa b c d e g us hl=>match us,hl with | [u,v,w],_=>h u v w a b c d e g
theorem _root_.L2.Fun.b4(F:Fun K x q st f fd)(p r s t:Str)(h:∀u v w y,BdF x q st [u,v,w,y] [p,r,s,t]):Binds K fd [p,r,s,t] []:=F.binds λa b c d e g us hl=>match us,hl with | [u,v,w,y],_=>h u v w y a b c d e g
theorem _root_.L2.Fun.b5(F:Fun K x q st f fd)(p r s t m:Str)(h:∀u v w y z,BdF x q st [u,v,w,y,z] [p,r,s,t,m]):Binds K fd [p,r,s,t,m] []:=F.binds λa b c d e g us hl=>match us,hl with | [u,v,w,y,z],_=>h u v w y z a b c d e g
theorem _root_.L2.Fun.b6(F:Fun K x q st f fd)(p r s t m n:Str)(h:∀u v w y z j,BdF x q st [u,v,w,y,z,j] [p,r,s,t,m,n]):Binds K fd [p,r,s,t,m,n] []:=F.binds λa b c d e g us hl=>match us,hl with | [u,v,w,y,z,j],_=>h u v w y z j a b c d e g
end
open PySem.W (readsIn findCls fnOf codeIn handedIn findIn nsIn keepIn isFn plainGet hasDictIn plainOver makesIn mroIn kitOne specialIn takesIn excIn mg_of mg_none_of codeHdIn tabObj noTabs)
theorem all_mk {l : PySem.W.OpenLaw} {w : World} {K : Frag} {h : Heap} {mg : Str → Option Value} {fa CR fkR CM fkM CC fkC fi ft fkbs fkcv CRd fri frp fra frb frn frx WA fxiY fxlA fxdA WB fxlB fxdB WD fxiD fxlD fxdD WE fxlE fxdE WF fxiF fxlF fxdF WG fxiG fxlZ fxdG WN fxiN fxdN CY CL flkI flkA flkH flkW flkQ flkP CS fsdI fsdK fsdC fsdA fsdT fsdN fsdB CH fshI fshR fshS fshW fshL CV fwkI fwkW fwkD fwkV fwkS fwkQ fwkB fO1 fW1 fR1 fG1 fS1 fN1 fM1 fU1 fA2 fW2 fN2 fS2 fP2 fT2 fZ aSh aRk aS b0 b1 b2 CNo cc Pt : Addr} (X : K.In h) (G : h.Ns mainGlobals mg) (hfa : mg "law" = some (.ref fa))
     {odwkD anwkD:Option Addr} {slwkD:Array (Option Value)} {ocwkD kVwkD dcwkD pmwkD cdwkD ctwkD:Value} {t_MOST_FIGURES_things t_MOST_SIGNS t_MOST_DEEP t_LONGEST t_BLANK t_PERCENT t_TILDE t_MOST_FIGURES_steps:Tok} {esR:Array DictEntry} {epR:Nat} {esK:Array DictEntry} {epK:Nat} {oS o0 o1 o2:Option Addr} {sS s0 s1 s2:Array (Option Value)} {vS v0 v1 v2:Nat} {t0 t1 t2 t3 t4 t5:Tok} {odC:Option Addr} {slC:Array (Option Value)} {vsC:Array Value}
  (nR:nsIn K mainGlobals "Read"=some (some (.ref CR)))
  (pgR:plainGet K CR Str.empty=true)
  (hdR:hasDictIn K CR=true)
  (poR:plainOver K CR=true)
  (saR:findIn K (.ref CR) "__setattr__"=some (some (.builtin "object.__setattr__")))
  (mkR:makesIn K CR=true)
  (kcR:keepIn K (.ref CR)=true)
  (nFR:findIn K (.ref CR) "first"=some none)
  (nLR:findIn K (.ref CR) "last"=some none)
  (akR:findIn K (.ref CR) "kind"=some (some (.ref fkR)))
  (jkR:isFn K (.ref fkR)=true)
  (lkR:FnX K fkR "kind" "Read.kind" gD)
  (nM:nsIn K mainGlobals "Mean"=some (some (.ref CM)))
  (pgM:plainGet K CM Str.empty=true)
  (hdM:hasDictIn K CM=true)
  (poM:plainOver K CM=true)
  (saM:findIn K (.ref CM) "__setattr__"=some (some (.builtin "object.__setattr__")))
  (mkM:makesIn K CM=true)
  (kcM:keepIn K (.ref CM)=true)
  (nFM:findIn K (.ref CM) "first"=some none)
  (nLM:findIn K (.ref CM) "last"=some none)
  (akM:findIn K (.ref CM) "kind"=some (some (.ref fkM)))
  (jkM:isFn K (.ref fkM)=true)
  (lkM:FnX K fkM "kind" "Mean.kind" gE)
  (nC:nsIn K mainGlobals "Change"=some (some (.ref CC)))
  (pgC:plainGet K CC Str.empty=true)
  (hdC:hasDictIn K CC=true)
  (poC:plainOver K CC=true)
  (saC:findIn K (.ref CC) "__setattr__"=some (some (.builtin "object.__setattr__")))
  (mkC:makesIn K CC=true)
  (kcC:keepIn K (.ref CC)=true)
  (nFC:findIn K (.ref CC) "first"=some none)
  (nLC:findIn K (.ref CC) "last"=some none)
  (akC:findIn K (.ref CC) "kind"=some (some (.ref fkC)))
  (jkC:isFn K (.ref fkC)=true)
  (lkC:FnX K fkC "kind" "Change.kind" eR)
  (aiR:findIn K (.ref CR) "__init__"=some (some (.ref fi)))
  (aiM:findIn K (.ref CM) "__init__"=some (some (.ref fi)))
  (aiC:findIn K (.ref CC) "__init__"=some (some (.ref fi)))
  (ji:isFn K (.ref fi)=true)
  (li:FnX K fi "__init__" "Lock.__init__" gG)
  (atR:findIn K (.ref CR) "told"=some (some (.ref ft)))
  (atM:findIn K (.ref CM) "told"=some (some (.ref ft)))
  (atC:findIn K (.ref CC) "told"=some (some (.ref ft)))
  (jt:isFn K (.ref ft)=true)
  (lt:FnX K ft "told" "Lock.told" gF)
  (akbsR:findIn K (.ref CR) "beside"=some (some (.ref fkbs)))
  (akbsM:findIn K (.ref CM) "beside"=some (some (.ref fkbs)))
  (akbsC:findIn K (.ref CC) "beside"=some (some (.ref fkbs)))
  (jkbs:isFn K (.ref fkbs)=true)
  (lkbs:FnX K fkbs "beside" "Lock.beside" eQ)
  (akcvR:findIn K (.ref CR) "covers"=some (some (.ref fkcv)))
  (akcvM:findIn K (.ref CM) "covers"=some (some (.ref fkcv)))
  (akcvC:findIn K (.ref CC) "covers"=some (some (.ref fkcv)))
  (jkcv:isFn K (.ref fkcv)=true)
  (lkcv:FnX K fkcv "covers" "Lock.covers" eO)
  (nrd:nsIn K mainGlobals "Reader"=some (some (.ref CRd)))
  (pgrd:plainGet K CRd Str.empty=true)
  (hdrd:hasDictIn K CRd=true)
  (pord:plainOver K CRd=true)
  (sard:findIn K (.ref CRd) "__setattr__"=some (some (.builtin "object.__setattr__")))
  (mkrd:makesIn K CRd=true)
  (kcrd:keepIn K (.ref CRd)=true)
  (nTx:findIn K (.ref CRd) "text"=some none)
  (nPl:findIn K (.ref CRd) "place"=some none)
  (ari:findIn K (.ref CRd) "__init__"=some (some (.ref fri)))
  (jri:isFn K (.ref fri)=true)
  (lri:FnX K fri "__init__" "Reader.__init__" gX)
  (arp:findIn K (.ref CRd) "passes"=some (some (.ref frp)))
  (jrp:isFn K (.ref frp)=true)
  (lrp:FnX K frp "passes" "Reader.passes" gi)
  (ara:findIn K (.ref CRd) "read_any"=some (some (.ref fra)))
  (jra:isFn K (.ref fra)=true)
  (lra:FnX K fra "read_any" "Reader.read_any" eE)
  (arb:findIn K (.ref CRd) "read_below"=some (some (.ref frb)))
  (jrb:isFn K (.ref frb)=true)
  (lrb:FnX K frb "read_below" "Reader.read_below" dv)
  (arn:findIn K (.ref CRd) "read_number"=some (some (.ref frn)))
  (jrn:isFn K (.ref frn)=true)
  (lrn:FnX K frn "read_number" "Reader.read_number" cO)
  (arx:findIn K (.ref CRd) "read_signs"=some (some (.ref frx)))
  (jrx:isFn K (.ref frx)=true)
  (lrx:FnX K frx "read_signs" "Reader.read_signs" du)
  (nwA:nsIn K mainGlobals "TakeStep"=some (some (.ref WA)))
  (pgwA:plainGet K WA Str.empty=true)
  (hdwA:hasDictIn K WA=true)
  (powA:plainOver K WA=true)
  (sawA:findIn K (.ref WA) "__setattr__"=some (some (.builtin "object.__setattr__")))
  (mkwA:makesIn K WA=true)
  (kcwA:keepIn K (.ref WA)=true)
  (nWwA:findIn K (.ref WA) "where"=some none)
  (nCwA:findIn K (.ref WA) "cell"=some none)
  (nLwA:findIn K (.ref WA) "low"=some none)
  (nHwA:findIn K (.ref WA) "high"=some none)
  (nAwA:findIn K (.ref WA) "amount"=some none)
  (uxiYA:findIn K (.ref WA) "__init__"=some (some (.ref fxiY)))
  (jxiY:isFn K (.ref fxiY)=true)
  (lxiY:FnX K fxiY "__init__" "CellStep.__init__" dq)
  (uxlAA:findIn K (.ref WA) "lock"=some (some (.ref fxlA)))
  (jxlA:isFn K (.ref fxlA)=true)
  (lxlA:FnX K fxlA "lock" "TakeStep.lock" c9)
  (uxdAA:findIn K (.ref WA) "step_done"=some (some (.ref fxdA)))
  (jxdA:isFn K (.ref fxdA)=true)
  (lxdA:FnX K fxdA "step_done" "TakeStep.step_done" bV)
  (nwB:nsIn K mainGlobals "MeanStep"=some (some (.ref WB)))
  (pgwB:plainGet K WB Str.empty=true)
  (hdwB:hasDictIn K WB=true)
  (powB:plainOver K WB=true)
  (sawB:findIn K (.ref WB) "__setattr__"=some (some (.builtin "object.__setattr__")))
  (mkwB:makesIn K WB=true)
  (kcwB:keepIn K (.ref WB)=true)
  (nWwB:findIn K (.ref WB) "where"=some none)
  (nCwB:findIn K (.ref WB) "cell"=some none)
  (nLwB:findIn K (.ref WB) "low"=some none)
  (nHwB:findIn K (.ref WB) "high"=some none)
  (nAwB:findIn K (.ref WB) "amount"=some none)
  (uxiYB:findIn K (.ref WB) "__init__"=some (some (.ref fxiY)))
  (uxlBB:findIn K (.ref WB) "lock"=some (some (.ref fxlB)))
  (jxlB:isFn K (.ref fxlB)=true)
  (lxlB:FnX K fxlB "lock" "MeanStep.lock" dh)
  (uxdBB:findIn K (.ref WB) "step_done"=some (some (.ref fxdB)))
  (jxdB:isFn K (.ref fxdB)=true)
  (lxdB:FnX K fxdB "step_done" "MeanStep.step_done" cP)
  (nwD:nsIn K mainGlobals "SumStep"=some (some (.ref WD)))
  (pgwD:plainGet K WD Str.empty=true)
  (hdwD:hasDictIn K WD=true)
  (powD:plainOver K WD=true)
  (sawD:findIn K (.ref WD) "__setattr__"=some (some (.builtin "object.__setattr__")))
  (mkwD:makesIn K WD=true)
  (kcwD:keepIn K (.ref WD)=true)
  (nWwD:findIn K (.ref WD) "where"=some none)
  (nCwD:findIn K (.ref WD) "cell"=some none)
  (nLwD:findIn K (.ref WD) "low"=some none)
  (nHwD:findIn K (.ref WD) "high"=some none)
  (nAwD:findIn K (.ref WD) "amount"=some none)
  (uxiDD:findIn K (.ref WD) "__init__"=some (some (.ref fxiD)))
  (jxiD:isFn K (.ref fxiD)=true)
  (lxiD:FnX K fxiD "__init__" "SumStep.__init__" dO)
  (uxlDD:findIn K (.ref WD) "lock"=some (some (.ref fxlD)))
  (jxlD:isFn K (.ref fxlD)=true)
  (lxlD:FnX K fxlD "lock" "SumStep.lock" dM)
  (uxdDD:findIn K (.ref WD) "step_done"=some (some (.ref fxdD)))
  (jxdD:isFn K (.ref fxdD)=true)
  (lxdD:FnX K fxdD "step_done" "SumStep.step_done" bf)
  (nwE:nsIn K mainGlobals "GiveStep"=some (some (.ref WE)))
  (pgwE:plainGet K WE Str.empty=true)
  (hdwE:hasDictIn K WE=true)
  (powE:plainOver K WE=true)
  (sawE:findIn K (.ref WE) "__setattr__"=some (some (.builtin "object.__setattr__")))
  (mkwE:makesIn K WE=true)
  (kcwE:keepIn K (.ref WE)=true)
  (nWwE:findIn K (.ref WE) "where"=some none)
  (nCwE:findIn K (.ref WE) "cell"=some none)
  (nLwE:findIn K (.ref WE) "low"=some none)
  (nHwE:findIn K (.ref WE) "high"=some none)
  (nAwE:findIn K (.ref WE) "amount"=some none)
  (uxiYE:findIn K (.ref WE) "__init__"=some (some (.ref fxiY)))
  (uxlEE:findIn K (.ref WE) "lock"=some (some (.ref fxlE)))
  (jxlE:isFn K (.ref fxlE)=true)
  (lxlE:FnX K fxlE "lock" "GiveStep.lock" dm)
  (uxdEE:findIn K (.ref WE) "step_done"=some (some (.ref fxdE)))
  (jxdE:isFn K (.ref fxdE)=true)
  (lxdE:FnX K fxdE "step_done" "GiveStep.step_done" bY)
  (nwF:nsIn K mainGlobals "AddStep"=some (some (.ref WF)))
  (pgwF:plainGet K WF Str.empty=true)
  (hdwF:hasDictIn K WF=true)
  (powF:plainOver K WF=true)
  (sawF:findIn K (.ref WF) "__setattr__"=some (some (.builtin "object.__setattr__")))
  (mkwF:makesIn K WF=true)
  (kcwF:keepIn K (.ref WF)=true)
  (nWwF:findIn K (.ref WF) "where"=some none)
  (nCwF:findIn K (.ref WF) "cell"=some none)
  (nLwF:findIn K (.ref WF) "low"=some none)
  (nHwF:findIn K (.ref WF) "high"=some none)
  (nAwF:findIn K (.ref WF) "amount"=some none)
  (uxiFF:findIn K (.ref WF) "__init__"=some (some (.ref fxiF)))
  (jxiF:isFn K (.ref fxiF)=true)
  (lxiF:FnX K fxiF "__init__" "AddStep.__init__" dU)
  (uxlFF:findIn K (.ref WF) "lock"=some (some (.ref fxlF)))
  (jxlF:isFn K (.ref fxlF)=true)
  (lxlF:FnX K fxlF "lock" "AddStep.lock" dQ)
  (uxdFF:findIn K (.ref WF) "step_done"=some (some (.ref fxdF)))
  (jxdF:isFn K (.ref fxdF)=true)
  (lxdF:FnX K fxdF "step_done" "AddStep.step_done" b9)
  (nwG:nsIn K mainGlobals "PlusStep"=some (some (.ref WG)))
  (pgwG:plainGet K WG Str.empty=true)
  (hdwG:hasDictIn K WG=true)
  (powG:plainOver K WG=true)
  (sawG:findIn K (.ref WG) "__setattr__"=some (some (.builtin "object.__setattr__")))
  (mkwG:makesIn K WG=true)
  (kcwG:keepIn K (.ref WG)=true)
  (nWwG:findIn K (.ref WG) "where"=some none)
  (nCwG:findIn K (.ref WG) "cell"=some none)
  (nLwG:findIn K (.ref WG) "low"=some none)
  (nHwG:findIn K (.ref WG) "high"=some none)
  (nAwG:findIn K (.ref WG) "amount"=some none)
  (uxiGG:findIn K (.ref WG) "__init__"=some (some (.ref fxiG)))
  (jxiG:isFn K (.ref fxiG)=true)
  (lxiG:FnX K fxiG "__init__" "PlusStep.__init__" df)
  (uxlZG:findIn K (.ref WG) "lock"=some (some (.ref fxlZ)))
  (jxlZ:isFn K (.ref fxlZ)=true)
  (lxlZ:FnX K fxlZ "lock" "Step.lock" gB)
  (uxdGG:findIn K (.ref WG) "step_done"=some (some (.ref fxdG)))
  (jxdG:isFn K (.ref fxdG)=true)
  (lxdG:FnX K fxdG "step_done" "PlusStep.step_done" bW)
  (nwN:nsIn K mainGlobals "NeedStep"=some (some (.ref WN)))
  (pgwN:plainGet K WN Str.empty=true)
  (hdwN:hasDictIn K WN=true)
  (powN:plainOver K WN=true)
  (sawN:findIn K (.ref WN) "__setattr__"=some (some (.builtin "object.__setattr__")))
  (mkwN:makesIn K WN=true)
  (kcwN:keepIn K (.ref WN)=true)
  (nWwN:findIn K (.ref WN) "where"=some none)
  (nCwN:findIn K (.ref WN) "cell"=some none)
  (nLwN:findIn K (.ref WN) "low"=some none)
  (nHwN:findIn K (.ref WN) "high"=some none)
  (nAwN:findIn K (.ref WN) "amount"=some none)
  (uxiNN:findIn K (.ref WN) "__init__"=some (some (.ref fxiN)))
  (jxiN:isFn K (.ref fxiN)=true)
  (lxiN:FnX K fxiN "__init__" "NeedStep.__init__" dg)
  (uxlZN:findIn K (.ref WN) "lock"=some (some (.ref fxlZ)))
  (uxdNN:findIn K (.ref WN) "step_done"=some (some (.ref fxdN)))
  (jxdN:isFn K (.ref fxdN)=true)
  (lxdN:FnX K fxdN "step_done" "NeedStep.step_done" bX)
  (nCY:nsIn K mainGlobals "CellStep"=some (some (.ref CY)))
  (gaY:specialIn K (.ref CY) "__getattribute__"=some (some (.builtin "type.__getattribute__")))
  (rdY:readsIn K CY (.type "type")=true)
  (fcY:findCls K (.ref CY) (.type "type") "__init__"=some (.val (.ref fxiY)))
  (hiY:handedIn (.ref fxiY)=true)
  (nL:nsIn K mainGlobals "Locks"=some (some (.ref CL)))
  (pgL:plainGet K CL Str.empty=true)
  (hdL:hasDictIn K CL=true)
  (poL:plainOver K CL=true)
  (saL:findIn K (.ref CL) "__setattr__"=some (some (.builtin "object.__setattr__")))
  (mkL:makesIn K CL=true)
  (kcL:keepIn K (.ref CL)=true)
  (nP:findIn K (.ref CL) "pairs"=some none)
  (nKL:findIn K (.ref CL) "kind"=some none)
  (alkI:findIn K (.ref CL) "__init__"=some (some (.ref flkI)))
  (jlkI:isFn K (.ref flkI)=true)
  (llkI:FnX K flkI "__init__" "Locks.__init__" fY)
  (alkA:findIn K (.ref CL) "ask"=some (some (.ref flkA)))
  (jlkA:isFn K (.ref flkA)=true)
  (llkA:FnX K flkA "ask" "Locks.ask" cQ)
  (alkH:findIn K (.ref CL) "hinderer"=some (some (.ref flkH)))
  (jlkH:isFn K (.ref flkH)=true)
  (llkH:FnX K flkH "hinderer" "Locks.hinderer" cH)
  (alkW:findIn K (.ref CL) "waiting"=some (some (.ref flkW)))
  (jlkW:isFn K (.ref flkW)=true)
  (llkW:FnX K flkW "waiting" "Locks.waiting" bL)
  (alkQ:findIn K (.ref CL) "waiting_pairs"=some (some (.ref flkQ)))
  (jlkQ:isFn K (.ref flkQ)=true)
  (llkQ:FnX K flkQ "waiting_pairs" "Locks.waiting_pairs" aV)
  (alkP:findIn K (.ref CL) "waiting_place"=some (some (.ref flkP)))
  (jlkP:isFn K (.ref flkP)=true)
  (llkP:FnX K flkP "waiting_place" "Locks.waiting_place" bO)
  (nS:nsIn K mainGlobals "Stand"=some (some (.ref CS)))
  (pgS:plainGet K CS Str.empty=true)
  (hdS:hasDictIn K CS=true)
  (poS:plainOver K CS=true)
  (saS:findIn K (.ref CS) "__setattr__"=some (some (.builtin "object.__setattr__")))
  (mkS:makesIn K CS=true)
  (kcS:keepIn K (.ref CS)=true)
  (qsc:findIn K (.ref CS) "cells"=some none)
  (qsb:findIn K (.ref CS) "begins"=some none)
  (qsw:findIn K (.ref CS) "worked"=some none)
  (qsr:findIn K (.ref CS) "readies"=some none)
  (qse:findIn K (.ref CS) "ends"=some none)
  (qsa:findIn K (.ref CS) "walks"=some none)
  (qso:findIn K (.ref CS) "overs"=some none)
  (asdI:findIn K (.ref CS) "__init__"=some (some (.ref fsdI)))
  (jsdI:isFn K (.ref fsdI)=true)
  (lsdI:FnX K fsdI "__init__" "Stand.__init__" fV)
  (asdK:findIn K (.ref CS) "keep"=some (some (.ref fsdK)))
  (jsdK:isFn K (.ref fsdK)=true)
  (lsdK:FnX K fsdK "keep" "Stand.keep" fU)
  (asdC:findIn K (.ref CS) "changes_of"=some (some (.ref fsdC)))
  (jsdC:isFn K (.ref fsdC)=true)
  (lsdC:FnX K fsdC "changes_of" "Stand.changes_of" cm)
  (asdA:findIn K (.ref CS) "cell_at"=some (some (.ref fsdA)))
  (jsdA:isFn K (.ref fsdA)=true)
  (lsdA:FnX K fsdA "cell_at" "Stand.cell_at" db)
  (asdT:findIn K (.ref CS) "cells_told"=some (some (.ref fsdT)))
  (jsdT:isFn K (.ref fsdT)=true)
  (lsdT:FnX K fsdT "cells_told" "Stand.cells_told" cn)
  (asdN:findIn K (.ref CS) "news"=some (some (.ref fsdN)))
  (jsdN:isFn K (.ref fsdN)=true)
  (lsdN:FnX K fsdN "news" "Stand.news" fT)
  (asdB:findIn K (.ref CS) "bound"=some (some (.ref fsdB)))
  (jsdB:isFn K (.ref fsdB)=true)
  (lsdB:FnX K fsdB "bound" "Stand.bound" cg)
  (nH:nsIn K mainGlobals "Sheet"=some (some (.ref CH)))
  (pgH:plainGet K CH Str.empty=true)
  (hdH:hasDictIn K CH=true)
  (poH:plainOver K CH=true)
  (saH:findIn K (.ref CH) "__setattr__"=some (some (.builtin "object.__setattr__")))
  (mkH:makesIn K CH=true)
  (kcH:keepIn K (.ref CH)=true)
  (qhs:findIn K (.ref CH) "stand"=some none)
  (qhr:findIn K (.ref CH) "rows"=some none)
  (qhe:findIn K (.ref CH) "sent"=some none)
  (qhl:findIn K (.ref CH) "latest"=some none)
  (nKH:findIn K (.ref CH) "kind"=some none)
  (ashI:findIn K (.ref CH) "__init__"=some (some (.ref fshI)))
  (jshI:isFn K (.ref fshI)=true)
  (lshI:FnX K fshI "__init__" "Sheet.__init__" fX)
  (ashR:findIn K (.ref CH) "row"=some (some (.ref fshR)))
  (jshR:isFn K (.ref fshR)=true)
  (lshR:FnX K fshR "row" "Sheet.row" gC)
  (ashS:findIn K (.ref CH) "send"=some (some (.ref fshS)))
  (jshS:isFn K (.ref fshS)=true)
  (lshS:FnX K fshS "send" "Sheet.send" fW)
  (ashW:findIn K (.ref CH) "rows_told"=some (some (.ref fshW)))
  (jshW:isFn K (.ref fshW)=true)
  (lshW:FnX K fshW "rows_told" "Sheet.rows_told" cw)
  (ashL:findIn K (.ref CH) "letters_told"=some (some (.ref fshL)))
  (jshL:isFn K (.ref fshL)=true)
  (lshL:FnX K fshL "letters_told" "Sheet.letters_told" ba)
  (nV:nsIn K mainGlobals "Works"=some (some (.ref CV)))
  (pgV:plainGet K CV Str.empty=true)
  (hdV:hasDictIn K CV=true)
  (poV:plainOver K CV=true)
  (saV:findIn K (.ref CV) "__setattr__"=some (some (.builtin "object.__setattr__")))
  (mkV:makesIn K CV=true)
  (kcV:keepIn K (.ref CV)=true)
  (qvs:findIn K (.ref CV) "stand"=some none)
  (qvh:findIn K (.ref CV) "home"=some none)
  (qvm:findIn K (.ref CV) "many"=some none)
  (qvl:findIn K (.ref CV) "locks"=some none)
  (qvd:findIn K (.ref CV) "drafts"=some none)
  (qva:findIn K (.ref CV) "answers"=some none)
  (qvp:findIn K (.ref CV) "pending"=some none)
  (nKV:findIn K (.ref CV) "kind"=some none)
  (awkI:findIn K (.ref CV) "__init__"=some (some (.ref fwkI)))
  (jwkI:isFn K (.ref fwkI)=true)
  (lwkI:FnX K fwkI "__init__" "Works.__init__" fR)
  (awkW:findIn K (.ref CV) "work"=some (some (.ref fwkW)))
  (jwkW:isFn K (.ref fwkW)=true)
  (lwkW:FnX K fwkW "work" "Works.work" fQ)
  (awkD:findIn K (.ref CV) "do_step"=some (some (.ref fwkD)))
  (jwkD:isFn K (.ref fwkD)=true)
  (lwkD:K.lookup fwkD=some ⟨ocwkD,odwkD,.func (fnOf "do_step" "Works.do_step" (defArgs aO) (defBody aO) (defScope aO) .none kVwkD dcwkD pmwkD anwkD cdwkD ctwkD),slwkD⟩)
  (cwkD:codeIn K cdwkD "Works.do_step"=true)
  (ewkD:keepIn K (.ref fwkD)=true)
  (awkV:findIn K (.ref CV) "value_at"=some (some (.ref fwkV)))
  (jwkV:isFn K (.ref fwkV)=true)
  (lwkV:FnX K fwkV "value_at" "Works.value_at" cE)
  (awkS:findIn K (.ref CV) "send_did"=some (some (.ref fwkS)))
  (jwkS:isFn K (.ref fwkS)=true)
  (lwkS:FnX K fwkS "send_did" "Works.send_did" cG)
  (awkQ:findIn K (.ref CV) "waiting"=some (some (.ref fwkQ)))
  (jwkQ:isFn K (.ref fwkQ)=true)
  (lwkQ:FnX K fwkQ "waiting" "Works.waiting" c8)
  (awkB:findIn K (.ref CV) "is_bound"=some (some (.ref fwkB)))
  (jwkB:isFn K (.ref fwkB)=true)
  (lwkB:FnX K fwkB "is_bound" "Works.is_bound" bD)
  (aO1:nsIn K mainGlobals "lock_of"=some (some (.ref fO1)))
  (lO1:FnX K fO1 "lock_of" "lock_of" i8)
  (aW1:nsIn K mainGlobals "is_whole"=some (some (.ref fW1)))
  (lW1:FnX K fW1 "is_whole" "is_whole" kr)
  (aR1:nsIn K mainGlobals "read_thing"=some (some (.ref fR1)))
  (lR1:FnX K fR1 "read_thing" "read_thing" ij)
  (aG1:nsIn K mainGlobals "is_sign"=some (some (.ref fG1)))
  (lG1:FnX K fG1 "is_sign" "is_sign" lW)
  (aS1:nsIn K mainGlobals "read_step"=some (some (.ref fS1)))
  (lS1:FnX K fS1 "read_step" "read_step" cN)
  (aN1:nsIn K mainGlobals "read_number"=some (some (.ref fN1)))
  (lN1:FnX K fN1 "read_number" "read_number" eJ)
  (aM1:nsIn K mainGlobals "made_step"=some (some (.ref fM1)))
  (lM1:FnX K fM1 "made_step" "made_step" gx)
  (aU1:nsIn K mainGlobals "made_sum"=some (some (.ref fU1)))
  (lU1:FnX K fU1 "made_sum" "made_sum" hU)
  (aA2:nsIn K mainGlobals "_law_cell_at"=some (some (.ref fA2)))
  (lA2:FnX K fA2 "_law_cell_at" "_law_cell_at" dH)
  (aW2:nsIn K mainGlobals "_law_whole"=some (some (.ref fW2)))
  (lW2:FnX K fW2 "_law_whole" "_law_whole" fE)
  (aN2:nsIn K mainGlobals "_law_number"=some (some (.ref fN2)))
  (lN2:FnX K fN2 "_law_number" "_law_number" eL)
  (aS2:nsIn K mainGlobals "_law_step"=some (some (.ref fS2)))
  (lS2:FnX K fS2 "_law_step" "_law_step" gy)
  (aP2:nsIn K mainGlobals "_law_played"=some (some (.ref fP2)))
  (lP2:FnX K fP2 "_law_played" "_law_played" eK)
  (aT2:nsIn K mainGlobals "_law_right"=some (some (.ref fT2)))
  (lT2:FnX K fT2 "_law_right" "_law_right" fF)
  (aZ:nsIn K mainGlobals "law"=some (some (.ref fZ)))
  (lZ:FnX K fZ "law" "law" oB)
  (y_isinstance:nsIn K mainGlobals "isinstance"=some none)
  (y_int:nsIn K mainGlobals "int"=some none)
  (y_bool:nsIn K mainGlobals "bool"=some none)
  (y_str:nsIn K mainGlobals "str"=some none)
  (y_len:nsIn K mainGlobals "len"=some none)
  (y_range:nsIn K mainGlobals "range"=some none)
  (y_tuple:nsIn K mainGlobals "tuple"=some none)
  (y_list:nsIn K mainGlobals "list"=some none)
  (y_any:nsIn K mainGlobals "any"=some none)
  (y_all:nsIn K mainGlobals "all"=some none)
  (y_max:nsIn K mainGlobals "max"=some none)
  (y_sorted:nsIn K mainGlobals "sorted"=some none)
  (y_sum:nsIn K mainGlobals "sum"=some none)
  (y_dict:nsIn K mainGlobals "dict"=some none)
  (y_ord:nsIn K mainGlobals "ord"=some none)
  (q_MOST_FIGURES_things:nsIn K mainGlobals "MOST_FIGURES_things"=some (some (.int 400 t_MOST_FIGURES_things)))
  (q_MOST_SIGNS:nsIn K mainGlobals "MOST_SIGNS"=some (some (.int 2000 t_MOST_SIGNS)))
  (q_MOST_DEEP:nsIn K mainGlobals "MOST_DEEP"=some (some (.int 8 t_MOST_DEEP)))
  (q_LONGEST:nsIn K mainGlobals "LONGEST"=some (some (.int 100000 t_LONGEST)))
  (q_BLANK:nsIn K mainGlobals "BLANK"=some (some (.int 32 t_BLANK)))
  (q_PERCENT:nsIn K mainGlobals "PERCENT"=some (some (.int 37 t_PERCENT)))
  (q_TILDE:nsIn K mainGlobals "TILDE"=some (some (.int 126 t_TILDE)))
  (q_MOST_FIGURES_steps:nsIn K mainGlobals "MOST_FIGURES_steps"=some (some (.int 40 t_MOST_FIGURES_steps)))
  (nSh:nsIn K mainGlobals "SHAPES"=some (some (.ref aSh)))
  (lSh:K.lookup aSh=some ⟨.type "dict",none,.dict esR epR,#[]⟩)
  (qSh:(aSh==sysModules)=false)
  (tSh:PyProof.Rows.KTD.rowsLook wu esR.toList jO=true)
  (nRk:nsIn K mainGlobals "RANKS"=some (some (.ref aRk)))
  (lRk:K.lookup aRk=some ⟨.type "dict",none,.dict esK epK,#[]⟩)
  (qRk:(aRk==sysModules)=false)
  (tRk:PyProof.Rows.KTD.rowsLook wu esK.toList ku=true)
  (nShr:nsIn K mainGlobals "SHARING"=some (some (.ref aS)))
  (lS:K.lookup aS=some ⟨.type "tuple",oS,.seq #[.ref b0,.ref b1,.ref b2] vS,sS⟩)
  (lSh0:K.lookup b0=some ⟨.type "tuple",o0,.seq #[.str "read" t0,.str "read" t1] v0,s0⟩)
  (lSh1:K.lookup b1=some ⟨.type "tuple",o1,.seq #[.str "read" t2,.str "mean" t3] v1,s1⟩)
  (lSh2:K.lookup b2=some ⟨.type "tuple",o2,.seq #[.str "mean" t4,.str "read" t5] v2,s2⟩)
  (nNo:nsIn K mainGlobals "NoThing"=some (some (.ref CNo)))
  (xNo:excIn K CNo bmV "ValueError.__new__"=true)
  (hcc:cdwkD=.ref cc)
  (lC:K.lookup cc=some ⟨.type "code",odC,.fields vsC,slC⟩)
  (hPt:vsC[11]?=some (.ref Pt))
  (hC:codeHdIn K cc Pt=true)
  (hT:h.get? Pt=some (tabObj #[]))
  (hN:noTabs K=true) :
  ∃(fd:FuncData) (cc Pt:Addr),(∀(s:Shared) (v:Value),BindsTo s fd ⟨[v],[]⟩ [("_law_script",v)])/\PySem.W.codeHdIn K cc Pt=true/\h.get? Pt=some (PySem.W.tabObj #[])/\PySem.W.noTabs K=true/\∀base:Heap,K.In base->BB mg base->FnOk l.prog w K mg base CX0 9 fa fd ["_law_script"] (mI K Pt):=by
 have e:=hfa.symm.trans (PySem.W.mg_of X G aZ)
 cases e
 obtain ⟨dkR,FkR⟩:=lkR
 have ekR:=FkR.kp
 have bkR:=FkR.b1 "self" λ_ _ _ _ _ _ _=>rfl
 obtain ⟨dkM,FkM⟩:=lkM
 have ekM:=FkM.kp
 have bkM:=FkM.b1 "self" λ_ _ _ _ _ _ _=>rfl
 obtain ⟨dkC,FkC⟩:=lkC
 have ekC:=FkC.kp
 have bkC:=FkC.b1 "self" λ_ _ _ _ _ _ _=>rfl
 obtain ⟨di,Fi⟩:=li
 have ei:=Fi.kp
 have bi:=Fi.b3 "self" "first" "last" λ_ _ _ _ _ _ _ _ _=>rfl
 obtain ⟨dt,Ft⟩:=lt
 have et:=Ft.kp
 have bt:=Ft.b1 "self" λ_ _ _ _ _ _ _=>rfl
 have T:TxK K (kmk CR CM CC):=⟨λk=>match k with | .read=>⟨pgR,hdR,poR,saR⟩ | .mean=>⟨pgM,hdM,poM,saM⟩ | .change=>⟨pgC,hdC,poC,saC⟩,λk=>match k with | .read=>nFR | .mean=>nFM | .change=>nFC,λk=>match k with | .read=>nLR | .mean=>nLM | .change=>nLC⟩
 have mgC:∀k,mg (kdN k)=some (.ref (kmk CR CM CC k)):=λk=>match k with | .read=>mg_of X G nR | .mean=>mg_of X G nM | .change=>mg_of X G nC
 obtain ⟨dkbs,Fkbs⟩:=lkbs
 have ekbs:=Fkbs.kp
 have bkbs:=Fkbs.b2 "self" "other" λ_ _ _ _ _ _ _ _=>rfl
 obtain ⟨dkcv,Fkcv⟩:=lkcv
 have ekcv:=Fkcv.kp
 have bkcv:=Fkcv.b2 "self" "other" λ_ _ _ _ _ _ _ _=>rfl
 obtain ⟨dri,Fri⟩:=lri
 have eri:=Fri.kp
 have bri:=Fri.b2 "self" "text" λ_ _ _ _ _ _ _ _=>rfl
 obtain ⟨drp,Frp⟩:=lrp
 have erp:=Frp.kp
 have brp:=Frp.b2 "self" "sign" λ_ _ _ _ _ _ _ _=>rfl
 obtain ⟨dra,Fra⟩:=lra
 have era:=Fra.kp
 have bra:=Fra.b2 "self" "deep" λ_ _ _ _ _ _ _ _=>rfl
 obtain ⟨drb,Frb⟩:=lrb
 have erb:=Frb.kp
 have brb:=Frb.b1 "self" λ_ _ _ _ _ _ _=>rfl
 obtain ⟨drn,Frn⟩:=lrn
 have ern:=Frn.kp
 have brn:=Frn.b1 "self" λ_ _ _ _ _ _ _=>rfl
 obtain ⟨drx,Frx⟩:=lrx
 have erx:=Frx.kp
 have brx:=Frx.b2 "self" "many" λ_ _ _ _ _ _ _ _=>rfl
 obtain ⟨dxiY,FxiY⟩:=lxiY
 have exiY:=FxiY.kp
 have bxiY:=FxiY.b3 "self" "where" "cell" λ_ _ _ _ _ _ _ _ _=>rfl
 obtain ⟨dxlA,FxlA⟩:=lxlA
 have exlA:=FxlA.kp
 have bxlA:=FxlA.b1 "self" λ_ _ _ _ _ _ _=>rfl
 obtain ⟨dxdA,FxdA⟩:=lxdA
 have exdA:=FxdA.kp
 have bxdA:=FxdA.b3 "self" "hand" "value_of" λ_ _ _ _ _ _ _ _ _=>rfl
 obtain ⟨dxlB,FxlB⟩:=lxlB
 have exlB:=FxlB.kp
 have bxlB:=FxlB.b1 "self" λ_ _ _ _ _ _ _=>rfl
 obtain ⟨dxdB,FxdB⟩:=lxdB
 have exdB:=FxdB.kp
 have bxdB:=FxdB.b3 "self" "hand" "value_of" λ_ _ _ _ _ _ _ _ _=>rfl
 obtain ⟨dxiD,FxiD⟩:=lxiD
 have exiD:=FxiD.kp
 have bxiD:=FxiD.b4 "self" "where" "low" "high" λ_ _ _ _ _ _ _ _ _ _=>rfl
 obtain ⟨dxlD,FxlD⟩:=lxlD
 have exlD:=FxlD.kp
 have bxlD:=FxlD.b1 "self" λ_ _ _ _ _ _ _=>rfl
 obtain ⟨dxdD,FxdD⟩:=lxdD
 have exdD:=FxdD.kp
 have bxdD:=FxdD.b3 "self" "hand" "value_of" λ_ _ _ _ _ _ _ _ _=>rfl
 obtain ⟨dxlE,FxlE⟩:=lxlE
 have exlE:=FxlE.kp
 have bxlE:=FxlE.b1 "self" λ_ _ _ _ _ _ _=>rfl
 obtain ⟨dxdE,FxdE⟩:=lxdE
 have exdE:=FxdE.kp
 have bxdE:=FxdE.b3 "self" "hand" "value_of" λ_ _ _ _ _ _ _ _ _=>rfl
 obtain ⟨dxiF,FxiF⟩:=lxiF
 have exiF:=FxiF.kp
 have bxiF:=FxiF.b4 "self" "where" "cell" "amount" λ_ _ _ _ _ _ _ _ _ _=>rfl
 obtain ⟨dxlF,FxlF⟩:=lxlF
 have exlF:=FxlF.kp
 have bxlF:=FxlF.b1 "self" λ_ _ _ _ _ _ _=>rfl
 obtain ⟨dxdF,FxdF⟩:=lxdF
 have exdF:=FxdF.kp
 have bxdF:=FxdF.b3 "self" "hand" "value_of" λ_ _ _ _ _ _ _ _ _=>rfl
 obtain ⟨dxiG,FxiG⟩:=lxiG
 have exiG:=FxiG.kp
 have bxiG:=FxiG.b2 "self" "amount" λ_ _ _ _ _ _ _ _=>rfl
 obtain ⟨dxlZ,FxlZ⟩:=lxlZ
 have exlZ:=FxlZ.kp
 have bxlZ:=FxlZ.b1 "self" λ_ _ _ _ _ _ _=>rfl
 obtain ⟨dxdG,FxdG⟩:=lxdG
 have exdG:=FxdG.kp
 have bxdG:=FxdG.b3 "self" "hand" "value_of" λ_ _ _ _ _ _ _ _ _=>rfl
 obtain ⟨dxiN,FxiN⟩:=lxiN
 have exiN:=FxiN.kp
 have bxiN:=FxiN.b2 "self" "amount" λ_ _ _ _ _ _ _ _=>rfl
 obtain ⟨dxdN,FxdN⟩:=lxdN
 have exdN:=FxdN.kp
 have bxdN:=FxdN.b3 "self" "hand" "value_of" λ_ _ _ _ _ _ _ _ _=>rfl
 have W:TxW K (wmk WA WB WD WE WF WG WN):=⟨λk=>match k with | .take=>⟨pgwA,hdwA,powA,sawA⟩ | .mean=>⟨pgwB,hdwB,powB,sawB⟩ | .sum=>⟨pgwD,hdwD,powD,sawD⟩ | .give=>⟨pgwE,hdwE,powE,sawE⟩ | .add=>⟨pgwF,hdwF,powF,sawF⟩ | .plus=>⟨pgwG,hdwG,powG,sawG⟩ | .need=>⟨pgwN,hdwN,powN,sawN⟩,λk=>match k with | .take=>nWwA | .mean=>nWwB | .sum=>nWwD | .give=>nWwE | .add=>nWwF | .plus=>nWwG | .need=>nWwN,λk=>match k with | .take=>nCwA | .mean=>nCwB | .sum=>nCwD | .give=>nCwE | .add=>nCwF | .plus=>nCwG | .need=>nCwN,λk=>match k with | .take=>nLwA | .mean=>nLwB | .sum=>nLwD | .give=>nLwE | .add=>nLwF | .plus=>nLwG | .need=>nLwN,λk=>match k with | .take=>nHwA | .mean=>nHwB | .sum=>nHwD | .give=>nHwE | .add=>nHwF | .plus=>nHwG | .need=>nHwN,λk=>match k with | .take=>nAwA | .mean=>nAwB | .sum=>nAwD | .give=>nAwE | .add=>nAwF | .plus=>nAwG | .need=>nAwN⟩
 obtain ⟨dlkI,FlkI⟩:=llkI
 have elkI:=FlkI.kp
 have blkI:=FlkI.b1 "self" λ_ _ _ _ _ _ _=>rfl
 obtain ⟨dlkA,FlkA⟩:=llkA
 have elkA:=FlkA.kp
 have blkA:=FlkA.b3 "self" "p" "lock" λ_ _ _ _ _ _ _ _ _=>rfl
 obtain ⟨dlkH,FlkH⟩:=llkH
 have elkH:=FlkH.kp
 have blkH:=FlkH.b2 "self" "place" λ_ _ _ _ _ _ _ _=>rfl
 obtain ⟨dlkW,FlkW⟩:=llkW
 have elkW:=FlkW.kp
 have blkW:=FlkW.b1 "self" λ_ _ _ _ _ _ _=>rfl
 obtain ⟨dlkQ,FlkQ⟩:=llkQ
 have elkQ:=FlkQ.kp
 have blkQ:=FlkQ.b1 "self" λ_ _ _ _ _ _ _=>rfl
 obtain ⟨dlkP,FlkP⟩:=llkP
 have elkP:=FlkP.kp
 have blkP:=FlkP.b2 "self" "p" λ_ _ _ _ _ _ _ _=>rfl
 obtain ⟨dsdI,FsdI⟩:=lsdI
 have esdI:=FsdI.kp
 have bsdI:=FsdI.b2 "self" "cells" λ_ _ _ _ _ _ _ _=>rfl
 obtain ⟨dsdK,FsdK⟩:=lsdK
 have esdK:=FsdK.kp
 have bsdK:=FsdK.b2 "self" "row" λ_ _ _ _ _ _ _ _=>rfl
 obtain ⟨dsdC,FsdC⟩:=lsdC
 have esdC:=FsdC.kp
 have bsdC:=FsdC.b2 "self" "row" λ_ _ _ _ _ _ _ _=>rfl
 obtain ⟨dsdA,FsdA⟩:=lsdA
 have esdA:=FsdA.kp
 have bsdA:=FsdA.b2 "self" "cell" λ_ _ _ _ _ _ _ _=>rfl
 obtain ⟨dsdT,FsdT⟩:=lsdT
 have esdT:=FsdT.kp
 have bsdT:=FsdT.b1 "self" λ_ _ _ _ _ _ _=>rfl
 obtain ⟨dsdN,FsdN⟩:=lsdN
 have esdN:=FsdN.kp
 have bsdN:=FsdN.b1 "self" λ_ _ _ _ _ _ _=>rfl
 obtain ⟨dsdB,FsdB⟩:=lsdB
 have esdB:=FsdB.kp
 have bsdB:=FsdB.b1 "self" λ_ _ _ _ _ _ _=>rfl
 obtain ⟨dshI,FshI⟩:=lshI
 have eshI:=FshI.kp
 have bshI:=FshI.b2 "self" "stand" λ_ _ _ _ _ _ _ _=>rfl
 obtain ⟨dshR,FshR⟩:=lshR
 have eshR:=FshR.kp
 have bshR:=FshR.b2 "self" "row" λ_ _ _ _ _ _ _ _=>rfl
 obtain ⟨dshS,FshS⟩:=lshS
 have eshS:=FshS.kp
 have bshS:=FshS.b5 "self" "to" "word" "p" "more" λ_ _ _ _ _ _ _ _ _ _ _=>rfl
 obtain ⟨dshW,FshW⟩:=lshW
 have eshW:=FshW.kp
 have bshW:=FshW.b1 "self" λ_ _ _ _ _ _ _=>rfl
 obtain ⟨dshL,FshL⟩:=lshL
 have eshL:=FshL.kp
 have bshL:=FshL.b1 "self" λ_ _ _ _ _ _ _=>rfl
 obtain ⟨dwkI,FwkI⟩:=lwkI
 have ewkI:=FwkI.kp
 have bwkI:=FwkI.b4 "self" "stand" "home" "many" λ_ _ _ _ _ _ _ _ _ _=>rfl
 obtain ⟨dwkW,FwkW⟩:=lwkW
 have ewkW:=FwkW.kp
 have bwkW:=FwkW.b6 "self" "sheet" "p" "i" "hand" "text" λ_ _ _ _ _ _ _ _ _ _ _ _=>rfl
 have FwkD:=v5 (st:=aO) lwkD cwkD ewkD
 have bwkD:=FwkD.binds (ps:=["self","sheet","p","waited"]) λ_ _ _ _ _ _ us hl=>match us,hl with | [_,_,_,_],_=>rfl
 obtain ⟨dwkV,FwkV⟩:=lwkV
 have ewkV:=FwkV.kp
 have bwkV:=FwkV.b3 "self" "p" "cell" λ_ _ _ _ _ _ _ _ _=>rfl
 obtain ⟨dwkS,FwkS⟩:=lwkS
 have ewkS:=FwkS.kp
 have bwkS:=FwkS.b4 "self" "sheet" "p" "i" λ_ _ _ _ _ _ _ _ _ _=>rfl
 obtain ⟨dwkQ,FwkQ⟩:=lwkQ
 have ewkQ:=FwkQ.kp
 have bwkQ:=FwkQ.b1 "self" λ_ _ _ _ _ _ _=>rfl
 obtain ⟨dwkB,FwkB⟩:=lwkB
 have ewkB:=FwkB.kp
 have bwkB:=FwkB.b2 "self" "p" λ_ _ _ _ _ _ _ _=>rfl
 have L:TxL K (kmk CR CM CC) CL:=⟨⟨pgL,hdL,poL,saL⟩,nP,λk e=>match k with | .read=>(by have e':CR=CL:=e;rw [← e',akR] at nKL;cases nKL) | .mean=>(by have e':CM=CL:=e;rw [← e',akM] at nKL;cases nKL) | .change=>(by have e':CC=CL:=e;rw [← e',akC] at nKL;cases nKL)⟩
 have hV:∀k,kmk CR CM CC k≠CV:=λk e=>match k with | .read=>(by have e':CR=CV:=e;rw [← e',akR] at nKV;cases nKV) | .mean=>(by have e':CM=CV:=e;rw [← e',akM] at nKV;cases nKV) | .change=>(by have e':CC=CV:=e;rw [← e',akC] at nKV;cases nKV)
 have hH:∀k,kmk CR CM CC k≠CH:=λk e=>match k with | .read=>(by have e':CR=CH:=e;rw [← e',akR] at nKH;cases nKH) | .mean=>(by have e':CM=CH:=e;rw [← e',akM] at nKH;cases nKH) | .change=>(by have e':CC=CH:=e;rw [← e',akC] at nKH;cases nKH)
 have D:TxD K CS:=⟨⟨pgS,hdS,poS,saS⟩,qsc,qsb,qsw,qsr,qse,qsa,qso⟩
 have DH:TxH K CH:=⟨⟨pgH,hdH,poH,saH⟩,qhs,qhr,qhe,qhl⟩
 have TV:TxV K CV:=⟨⟨pgV,hdV,poV,saV⟩,qvs,qvh,qvm,qvl,qvd,qva,qvp⟩
 obtain ⟨dO1,FO1⟩:=lO1
 have eO1:=FO1.kp
 have bO1:=FO1.b1 "told" λ_ _ _ _ _ _ _=>rfl
 have mO1:mg "lock_of"=some (.ref fO1):=mg_of X G aO1
 obtain ⟨dW1,FW1⟩:=lW1
 have eW1:=FW1.kp
 have bW1:=FW1.b1 "thing" λ_ _ _ _ _ _ _=>rfl
 have mW1:mg "is_whole"=some (.ref fW1):=mg_of X G aW1
 obtain ⟨dR1,FR1⟩:=lR1
 have eR1:=FR1.kp
 have bR1:=FR1.b1 "text" λ_ _ _ _ _ _ _=>rfl
 have mR1:mg "read_thing"=some (.ref fR1):=mg_of X G aR1
 obtain ⟨dG1,FG1⟩:=lG1
 have eG1:=FG1.kp
 have bG1:=FG1.b1 "sign" λ_ _ _ _ _ _ _=>rfl
 have mG1:mg "is_sign"=some (.ref fG1):=mg_of X G aG1
 obtain ⟨dS1,FS1⟩:=lS1
 have eS1:=FS1.kp
 have bS1:=FS1.b1 "text" λ_ _ _ _ _ _ _=>rfl
 have mS1:mg "read_step"=some (.ref fS1):=mg_of X G aS1
 obtain ⟨dN1,FN1⟩:=lN1
 have eN1:=FN1.kp
 have bN1:=FN1.b2 "word" "letter" λ_ _ _ _ _ _ _ _=>rfl
 have mN1:mg "read_number"=some (.ref fN1):=mg_of X G aN1
 obtain ⟨dM1,FM1⟩:=lM1
 have eM1:=FM1.kp
 have bM1:=FM1.b2 "word" "numbers" λ_ _ _ _ _ _ _ _=>rfl
 have mM1:mg "made_step"=some (.ref fM1):=mg_of X G aM1
 obtain ⟨dU1,FU1⟩:=lU1
 have eU1:=FU1.kp
 have bU1:=FU1.b3 "where" "low" "high" λ_ _ _ _ _ _ _ _ _=>rfl
 have mU1:mg "made_sum"=some (.ref fU1):=mg_of X G aU1
 obtain ⟨dA2,FA2⟩:=lA2
 have eA2:=FA2.kp
 have bA2:=FA2.b2 "_law_script" "_law_k" λ_ _ _ _ _ _ _ _=>rfl
 have mA2:mg "_law_cell_at"=some (.ref fA2):=mg_of X G aA2
 obtain ⟨dW2,FW2⟩:=lW2
 have eW2:=FW2.kp
 have bW2:=FW2.b1 "_law_found" λ_ _ _ _ _ _ _=>rfl
 have mW2:mg "_law_whole"=some (.ref fW2):=mg_of X G aW2
 obtain ⟨dN2,FN2⟩:=lN2
 have eN2:=FN2.kp
 have bN2:=FN2.b1 "_law_cell" λ_ _ _ _ _ _ _=>rfl
 have mN2:mg "_law_number"=some (.ref fN2):=mg_of X G aN2
 obtain ⟨dS2,FS2⟩:=lS2
 have eS2:=FS2.kp
 have bS2:=FS2.b3 "_law_cell" "_law_home" "_law_many" λ_ _ _ _ _ _ _ _ _=>rfl
 have mS2:mg "_law_step"=some (.ref fS2):=mg_of X G aS2
 obtain ⟨dP2,FP2⟩:=lP2
 have eP2:=FP2.kp
 have bP2:=FP2.b3 "_law_cells" "_law_hand" "_law_text" λ_ _ _ _ _ _ _ _ _=>rfl
 have mP2:mg "_law_played"=some (.ref fP2):=mg_of X G aP2
 obtain ⟨dT2,FT2⟩:=lT2
 have eT2:=FT2.kp
 have bT2:=FT2.b5 "_law_sheet" "_law_p" "_law_rows" "_law_i" "_law_hand" λ_ _ _ _ _ _ _ _ _ _ _=>rfl
 have mT2:mg "_law_right"=some (.ref fT2):=mg_of X G aT2
 obtain ⟨dZ,FZ⟩:=lZ
 have eZ:=FZ.kp
 have B:TxB mg:=⟨mg_none_of X G y_isinstance,mg_none_of X G y_int,mg_none_of X G y_bool,mg_none_of X G y_str,mg_none_of X G y_len,mg_none_of X G y_range,mg_none_of X G y_tuple,mg_none_of X G y_list,mg_none_of X G y_any,mg_none_of X G y_all,mg_none_of X G y_max,mg_none_of X G y_sorted⟩
 have SS:TxS K mg:=⟨⟨aS,b0,b1,b2,mg_of X G nShr,AY lS,vN lSh0,vN lSh1,vN lSh2⟩⟩
 have RR:TxR K mg:=⟨⟨aRk,mg_of X G nRk,uc lRk qRk tRk⟩⟩
 have TT:K51T.Tx K mg CRd:=⟨⟨pgrd,hdrd,pord,sard⟩,nTx,nPl,mg_of X G nrd,mg_none_of X G y_isinstance,mg_none_of X G y_int,mg_none_of X G y_bool,mg_none_of X G y_str,mg_none_of X G y_len,mg_none_of X G y_ord,mg_none_of X G y_all,mg_none_of X G y_range,⟨_,mg_of X G q_MOST_FIGURES_things⟩,⟨_,mg_of X G q_MOST_SIGNS⟩,⟨_,mg_of X G q_MOST_DEEP⟩,⟨_,mg_of X G q_LONGEST⟩,⟨_,mg_of X G q_BLANK⟩,⟨_,mg_of X G q_PERCENT⟩,⟨_,mg_of X G q_TILDE⟩⟩
 refine ⟨dZ,cc,Pt,(by obtain ⟨oc,od,kV,doc,pm,an,cdv,ct,osl,rfl,lk,hcd⟩:=FZ.ex;exact λs v=>.of_eq rfl),hC,hT,hN,λbase _ hB=>?_⟩
 have GK:∀k,GM l.prog w K mg base CX0 1 (kmk CR CM CC k) "kind" ["self"] (hI k):=λk=>match k with | .read=>⟨fkR,_,AU FkR,bkR,⟨akR,jkR,ekR⟩⟩ | .mean=>⟨fkM,_,AV FkM,bkM,⟨akM,jkM,ekM⟩⟩ | .change=>⟨fkC,_,AW FkC,bkC,⟨akC,jkC,ekC⟩⟩
 have Mk:∀k,Mk K (kmk CR CM CC k) fi:=λk=>match k with | .read=>⟨mkR,aiR,ji,kcR⟩ | .mean=>⟨mkM,aiM,ji,kcM⟩ | .change=>⟨mkC,aiC,ji,kcC⟩
 have Gt:∀k,GM l.prog w K mg base CX0 2 (kmk CR CM CC k) "told" ["self"] (gs (kmk CR CM CC)):=λk=>match k with | .read=>⟨ft,_,nK Ft T GK,bt,⟨atR,jt,et⟩⟩ | .mean=>⟨ft,_,nK Ft T GK,bt,⟨atM,jt,et⟩⟩ | .change=>⟨ft,_,nK Ft T GK,bt,⟨atC,jt,et⟩⟩
 have GI:=vm (P:=l.prog) (w:=w) (mg:=mg) (base:=base) Fi T
 have GCI:=vD (P:=l.prog) (w:=w) (mg:=mg) (base:=base) FxiY W
 have WI:∀wd,WI l.prog w K mg base (wmk WA WB WD WE WF WG WN) wd:=λwd=>match wd with | .take=>⟨fxiY,_,_,⟨mkwA,uxiYA,jxiY,kcwA⟩,(GCI.imp λ_ _ _ _ z=>n9 rfl z).mono ζ,bxiY,mg_of X G nwA⟩ | .mean=>⟨fxiY,_,_,⟨mkwB,uxiYB,jxiY,kcwB⟩,(GCI.imp λ_ _ _ _ z=>n9 rfl z).mono ζ,bxiY,mg_of X G nwB⟩ | .sum=>⟨fxiD,_,_,⟨mkwD,uxiDD,jxiD,kcwD⟩,(u9 FxiD W).mono ζ,bxiD,mg_of X G nwD⟩ | .give=>⟨fxiY,_,_,⟨mkwE,uxiYE,jxiY,kcwE⟩,(GCI.imp λ_ _ _ _ z=>n9 rfl z).mono ζ,bxiY,mg_of X G nwE⟩ | .add=>⟨fxiF,_,_,⟨mkwF,uxiFF,jxiF,kcwF⟩,vI FxiF W (mg_of X G nCY) ⟨gaY,rdY,fcY,hiY,exiY⟩ GCI bxiY,bxiF,mg_of X G nwF⟩ | .plus=>⟨fxiG,_,_,⟨mkwG,uxiGG,jxiG,kcwG⟩,(ve FxiG W).mono ζ,bxiG,mg_of X G nwG⟩ | .need=>⟨fxiN,_,_,⟨mkwN,uxiNN,jxiN,kcwN⟩,(vf FxiN W).mono ζ,bxiN,mg_of X G nwN⟩
 have Gkbs:∀k,GM l.prog w K mg base CX0 2 ((kmk CR CM CC) k) "beside" ["self","other"] (j8 (kmk CR CM CC)):=λk=>match k with | .read=>⟨fkbs,_,jg Fkbs T SS GK,bkbs,⟨akbsR,jkbs,ekbs⟩⟩ | .mean=>⟨fkbs,_,jg Fkbs T SS GK,bkbs,⟨akbsM,jkbs,ekbs⟩⟩ | .change=>⟨fkbs,_,jg Fkbs T SS GK,bkbs,⟨akbsC,jkbs,ekbs⟩⟩
 have Gkcv:∀k,GM l.prog w K mg base CX0 2 ((kmk CR CM CC) k) "covers" ["self","other"] (j6 (kmk CR CM CC)):=λk=>match k with | .read=>⟨fkcv,_,jf Fkcv T RR GK,bkcv,⟨akcvR,jkcv,ekcv⟩⟩ | .mean=>⟨fkcv,_,jf Fkcv T RR GK,bkcv,⟨akcvM,jkcv,ekcv⟩⟩ | .change=>⟨fkcv,_,jf Fkcv T RR GK,bkcv,⟨akcvC,jkcv,ekcv⟩⟩
 have Hi:=K51T.xx (P:=l.prog) (w:=w) (mg:=mg) (base:=base) Fri TT
 have Hp:=K51T.xo (P:=l.prog) (w:=w) (mg:=mg) (base:=base) Frp TT
 have Hn:=K51T.zx (P:=l.prog) (w:=w) (mg:=mg) (base:=base) Frn TT
 have Hx:=K51T.vb (P:=l.prog) (w:=w) (mg:=mg) (base:=base) Frx TT
 have Mrn:gr K CRd "read_number" frn:=⟨arn,jrn,ern⟩
 have Mrp:gr K CRd "passes" frp:=⟨arp,jrp,erp⟩
 have Mrb:gr K CRd "read_below" frb:=⟨arb,jrb,erb⟩
 have Mrx:gr K CRd "read_signs" frx:=⟨arx,jrx,erx⟩
 have Mra:gr K CRd "read_any" fra:=⟨ara,jra,era⟩
 have Hb:=K51T.vH Frb TT Hn brn Mrn
 have Ha:=K51T.zE Fra TT Hp brp Mrp Hb brb Mrb Hn brn Mrn Hx brx Mrx
 have HG:=K51T.xk (P:=l.prog) (w:=w) (mg:=mg) (base:=base) FG1 TT
 have HW:=K51T.kE (P:=l.prog) (w:=w) (mg:=mg) (base:=base) FW1 TT
 have GW1:GF l.prog w K mg base CX0 1 "is_whole" ["thing"] K51T.fw:=⟨fW1,_,HW,bW1,eW1,mW1⟩
 have GR1:GF l.prog w K mg base CX0 4 "read_thing" ["text"] K51T.pO:=⟨fR1,_,K51T.xm FR1 TT ⟨mkrd,ari,jri,kcrd⟩ HG bG1 eG1 mG1 Hi bri Ha bra Mra,bR1,eR1,mR1⟩
 have GU1:GF l.prog w K mg base CX0 4 "made_sum" ["where","low","high"] (pS (wmk WA WB WD WE WF WG WN)):=⟨fU1,_,xq FU1 (WI .sum),bU1,eU1,mU1⟩
 have GM1:GF l.prog w K mg base CX0 5 "made_step" ["word","numbers"] (pR (wmk WA WB WD WE WF WG WN)):=⟨fM1,_,vg FM1 WI GU1,bM1,eM1,mM1⟩
 have GN1:GF l.prog w K mg base CX0 5 "read_number" ["word","letter"] pP:=⟨fN1,_,xl FN1 B (mg_of X G nNo) xNo θ ⟨_,mg_of X G q_MOST_FIGURES_steps⟩ GR1 GW1,bN1,eN1,mN1⟩
 have GS1:GF l.prog w K mg base CX0 6 "read_step" ["text"] (jM (wmk WA WB WD WE WF WG WN)):=⟨fS1,_,vc FS1 B (mg_of X G nSh) (uc lSh qSh tSh) GN1 GM1,bS1,eS1,mS1⟩
 have GO1:GF l.prog w K mg base CX0 3 "lock_of" ["told"] (jZ (kmk CR CM CC) K):=⟨fO1,_,sJ FO1 T mgC Mk GI bi,bO1,eO1,mO1⟩
 have Gl:∀wd,GM l.prog w K mg base CX0 3 ((wmk WA WB WD WE WF WG WN) wd) "lock" ["self"] (d0 (wmk WA WB WD WE WF WG WN) K wd):=λwd=>match wd with | .take=>⟨fxlA,_,vh FxlA W T mgC Mk GI bi Gt,bxlA,⟨uxlAA,jxlA,exlA⟩⟩ | .mean=>⟨fxlB,_,vk FxlB W T mgC Mk GI bi Gt,bxlB,⟨uxlBB,jxlB,exlB⟩⟩ | .sum=>⟨fxlD,_,xr FxlD W T mgC Mk GI bi Gt,bxlD,⟨uxlDD,jxlD,exlD⟩⟩ | .give=>⟨fxlE,_,vo FxlE W T mgC Mk GI bi Gt,bxlE,⟨uxlEE,jxlE,exlE⟩⟩ | .add=>⟨fxlF,_,xu FxlF W T mgC Mk GI bi Gt,bxlF,⟨uxlFF,jxlF,exlF⟩⟩ | .plus=>⟨fxlZ,_,(oT (.inl rfl) FxlZ).mono ζ,bxlZ,⟨uxlZG,jxlZ,exlZ⟩⟩ | .need=>⟨fxlZ,_,(oT (.inr rfl) FxlZ).mono ζ,bxlZ,⟨uxlZN,jxlZ,exlZ⟩⟩
 have GLI:=sI (P:=l.prog) (w:=w) (mg:=mg) (base:=base) FlkI L
 have GlkH:GM l.prog w K mg base CX0 3 CL "hinderer" ["self","place"] (j5 (kmk CR CM CC) CL K):=⟨flkH,_,xA FlkH B T L Gkbs,blkH,⟨alkH,jlkH,elkH⟩⟩
 have GlkQ:GM l.prog w K mg base CX0 4 CL "waiting_pairs" ["self"] (mF (kmk CR CM CC) CL K dY):=⟨flkQ,_,u6 FlkQ B L GlkH,blkQ,⟨alkQ,jlkQ,elkQ⟩⟩
 have GlkW:GM l.prog w K mg base CX0 5 CL "waiting" ["self"] (mD (kmk CR CM CC) CL K dY):=⟨flkW,_,qi FlkW T L GlkQ Gt,blkW,⟨alkW,jlkW,elkW⟩⟩
 have GlkP:GM l.prog w K mg base CX0 4 CL "waiting_place" ["self","p"] (jY (kmk CR CM CC) CL K):=⟨flkP,_,sG FlkP B L GlkH,blkP,⟨alkP,jlkP,elkP⟩⟩
 have GlkA:GM l.prog w K mg base CX0 5 CL "ask" ["self","p","lock"] (uw (kmk CR CM CC) CL K):=⟨flkA,_,zD FlkA B T L Gkcv GlkH GlkP,blkA,⟨alkA,jlkA,elkA⟩⟩
 have GSI:=sH (P:=l.prog) (w:=w) (mg:=mg) (base:=base) FsdI B D
 have GHI:=vv (P:=l.prog) (w:=w) (mg:=mg) (base:=base) (CS:=CS) FshI DH
 have GsdC:GM l.prog w K mg base CX0 1 CS "changes_of" ["self","row"] (uu CS K):=⟨fsdC,_,zC FsdC D,bsdC,⟨asdC,jsdC,esdC⟩⟩
 have GsdK:GM l.prog w K mg base CX0 2 CS "keep" ["self","row"] (pT CS K):=⟨fsdK,_,xw FsdK D GsdC,bsdK,⟨asdK,jsdK,esdK⟩⟩
 have GsdT:GM l.prog w K mg base CX0 1 CS "cells_told" ["self"] (mO CS K):=⟨fsdT,_,vE FsdT B D,bsdT,⟨asdT,jsdT,esdT⟩⟩
 have GsdN:GM l.prog w K mg base CX0 1 CS "news" ["self"] (mH CS K):=⟨fsdN,_,xp FsdN B D,bsdN,⟨asdN,jsdN,esdN⟩⟩
 have GsdB:GM l.prog w K mg base CX0 1 CS "bound" ["self"] (jN CS K):=⟨fsdB,_,vG FsdB D,bsdB,⟨asdB,jsdB,esdB⟩⟩
 have GshR:GM l.prog w K mg base CX0 3 CH "row" ["self","row"] (pU CS CH K):=⟨fshR,_,xy FshR D DH GsdK GsdN,bshR,⟨ashR,jshR,eshR⟩⟩
 have GshS:GM l.prog w K mg base CX0 1 CH "send" ["self","to","word","p","more"] (mL CS CH K):=⟨fshS,_,vq FshS DH,bshS,⟨ashS,jshS,eshS⟩⟩
 have GshW:GM l.prog w K mg base CX0 1 CH "rows_told" ["self"] (mM CS CH K):=⟨fshW,_,vt FshW B DH,bshW,⟨ashW,jshW,eshW⟩⟩
 have GshL:GM l.prog w K mg base CX0 2 CH "letters_told" ["self"] (pV CS CH K):=⟨fshL,_,xz FshL D DH GsdN,bshL,⟨ashL,jshL,eshL⟩⟩
 have HCA:∀Bh:Heap,GM l.prog w K mg Bh CX0 1 CS "cell_at" ["self","cell"] (j7 CS K):=λBh=>⟨fsdA,_,sL FsdA D,bsdA,⟨asdA,jsdA,esdA⟩⟩
 have HV:∀Bh:Heap,K.In Bh->GM l.prog w K mg Bh CX0 2 CV "value_at" ["self","p","cell"] (jL CS CV K):=λBh _=>⟨fwkV,_,u8 FwkV D TV (HCA Bh),bwkV,⟨awkV,jwkV,ewkV⟩⟩
 have HS:∀(wd:Wd) (val:Int->Int) (n:Nat) (Bh:Heap),n<=1000->K.In Bh->FnOk l.prog w K mg Bh CX0 5 ((wmk fxdA fxdB fxdD fxdE fxdF fxdG fxdN) wd) ((λwd:Wd=>match wd with | .take=>dxdA | .mean=>dxdB | .sum=>dxdD | .give=>dxdE | .add=>dxdF | .plus=>dxdG | .need=>dxdN) wd) ["self","hand","value_of"] (fy l.prog w K mg (wmk WA WB WD WE WF WG WN) val n wd Bh):=λwd val n Bh hn _=>match wd with | .take=>vw (.inl rfl) FxdA gl rfl rfl W | .mean=>vw (.inr rfl) FxdB gp rfl rfl W | .sum=>xB FxdD W B (mg_none_of X G y_sum) hn | .give=>vz FxdE W | .add=>xC FxdF W | .plus=>vx FxdG | .need=>vy FxdN
 have mS:∀wd,gr K ((wmk WA WB WD WE WF WG WN) wd) "step_done" ((wmk fxdA fxdB fxdD fxdE fxdF fxdG fxdN) wd):=λwd=>match wd with | .take=>⟨uxdAA,jxdA,exdA⟩ | .mean=>⟨uxdBB,jxdB,exdB⟩ | .sum=>⟨uxdDD,jxdD,exdD⟩ | .give=>⟨uxdEE,jxdE,exdE⟩ | .add=>⟨uxdFF,jxdF,exdF⟩ | .plus=>⟨uxdGG,jxdG,exdG⟩ | .need=>⟨uxdNN,jxdN,exdN⟩
 have bS:∀wd,Binds K ((λwd:Wd=>match wd with | .take=>dxdA | .mean=>dxdB | .sum=>dxdD | .give=>dxdE | .add=>dxdF | .plus=>dxdG | .need=>dxdN) wd) ["self","hand","value_of"] []:=λwd=>match wd with | .take=>bxdA | .mean=>bxdB | .sum=>bxdD | .give=>bxdE | .add=>bxdF | .plus=>bxdG | .need=>bxdN
 have GVI:=u7 (C:=(kmk CR CM CC)) FwkI D TV ⟨mkL,alkI,jlkI,kcL⟩ (mg_of X G nL) GLI blkI GsdB
 have GwkB:GM l.prog w K mg base CX0 2 CV "is_bound" ["self","p"] (uq CS CV K):=⟨fwkB,_,zA FwkB D TV GsdB,bwkB,⟨awkB,jwkB,ewkB⟩⟩
 have GwkS:GM l.prog w K mg base CX0 2 CV "send_did" ["self","sheet","p","i"] (qZ CS CH CV K):=⟨fwkS,_,zB FwkS DH TV GshS,bwkS,⟨awkS,jwkS,ewkS⟩⟩
 have GwkQ:GM l.prog w K mg base CX0 6 CV "waiting" ["self"] (pN (kmk CR CM CC) CL CV K):=⟨fwkQ,_,xj FwkQ TV L GlkW,bwkQ,⟨awkQ,jwkQ,ewkQ⟩⟩
 have GwkD:GM l.prog w K mg base CX0 7 CV "do_step" ["self","sheet","p","waited"] (ut (kmk CR CM CC) CL CS CH CV K Pt):=⟨fwkD,_,sK (cc:=cc) FwkD B (mg_none_of X G y_dict) W TV DH L.ne hV hH hB hcc hC GS1 HV HS mS bS GshR GwkS,bwkD,⟨awkD,jwkD,ewkD⟩⟩
 have GwkW:GM l.prog w K mg base CX0 8 CV "work" ["self","sheet","p","i","hand","text"] (pM (kmk CR CM CC) CL CS CH CV K Pt):=⟨fwkW,_,xi FwkW W TV L L.ne hV hH GwkB GwkS GlkA GO1 GS1 Gl GwkD,bwkW,⟨awkW,jwkW,ewkW⟩⟩
 have GA2:GF l.prog w K mg base CX0 1 "_law_cell_at" ["_law_script","_law_k"] (pW K):=⟨fA2,_,xD FA2 B,bA2,eA2,mA2⟩
 have GW2:GF l.prog w K mg base CX0 1 "_law_whole" ["_law_found"] Lo.fw:=⟨fW2,_,kE FW2 B,bW2,eW2,mW2⟩
 have GN2:GF l.prog w K mg base CX0 1 "_law_number" ["_law_cell"] mK:=⟨fN2,_,xt FN2,bN2,eN2,mN2⟩
 have GS2:GF l.prog w K mg base CX0 2 "_law_step" ["_law_cell","_law_home","_law_many"] mJ:=⟨fS2,_,vj FS2 B GN2,bS2,eS2,mS2⟩
 have GP2:GF l.prog w K mg base CX0 1 "_law_played" ["_law_cells","_law_hand","_law_text"] pQ:=⟨fP2,_,xn FP2 B (mg_none_of X G y_sum),bP2,eP2,mP2⟩
 have GT2:GF l.prog w K mg base CX0 3 "_law_right" ["_law_sheet","_law_p","_law_rows","_law_i","_law_hand"] (mE CS CH K):=⟨fT2,_,vd FT2 B DH GshW GshL GW2,bT2,eT2,mT2⟩
 exact zy FZ B D DH TV L.ne hV ⟨mkS,asdI,jsdI,kcS⟩ (mg_of X G nS) GSI bsdI ⟨mkH,ashI,jshI,kcH⟩ (mg_of X G nH) GHI bshI ⟨mkV,awkI,jwkI,kcV⟩ (mg_of X G nV) GVI bwkI GA2 GN2 GS2 GP2 GT2 GwkW GsdT GwkQ
theorem walk{l:PySem.W.OpenLaw}{q:Program}{loose:List Str}{XP:(Str->Option Value)->Heap->Prop}{YP:World->Heap->Prop}{d:DefRec}{K:Params->Frag}(hn:l.most=some 63)(hdf:d.params.defaults=[])
  (hY:∀(w:World) (h:Heap),YP w h->(K w.params).In h)
  (F:∀(w:World) (mg:Str->Option Value) (fa:Addr) (h:Heap),YP w h->(K w.params).In h->h.Ns mainGlobals mg->mg d.name=some (.ref fa) ->
   ∃(fd:FuncData) (cc Pt:Addr),(∀(s:Shared) (u:Value),BindsTo s fd ⟨[u],[]⟩ [("_law_script",u)])/\PySem.W.codeHdIn (K w.params) cc Pt=true/\h.get? Pt=some (PySem.W.tabObj #[])/\PySem.W.noTabs (K w.params)=true /\
    ∀base:Heap,(K w.params).In base->BB mg base->FnOk l.prog w (K w.params) mg base CX0 9 fa fd ["_law_script"] (mI (K w.params) Pt)) :
  PySem.W.WalkO q loose XP YP l.row.toRowW d [] (λf vs=>PySem.call f vs) :=
 L2.tN (n:=63) (k:=9) (x:="_law_script") (sp:=λw Pt=>mI (K w.params) Pt) hn ζ hdf ⟨rfl,ζ,ζ⟩ hY F λw Pt H a ns hl hS hP=>⟨a,ns,rfl,hS,hl,hP,λ_=>rfl⟩
end K51
open PySem PySem.W PyProof.Rows
set_option maxRecDepth 100000 in
set_option maxHeartbeats 0 in
theorem PySem.Challenge.cw_pactroom_k51_work_on_a_draft_holds : PySem.Challenge.rw_pactroom_k51_work_on_a_draft.Holds := by
 w_on;o_law
 refine holds_open (q:=Q.qv) (loose:=Q.lo) (Xt:=Q.Xt) (XP:=XL Q.qv Q.lvv) (Yf:=Hook.obs (kmHook Q.Kf Q.Ka Q.ke [773])) (Ya:=Hook.val (kmHook Q.Kf Q.Ka Q.ke [773])) (YP:=Hook.says (kmHook Q.Kf Q.Ka Q.ke [773])) (N:=17338) Q.left (Hook.of (kmHook Q.Kf Q.Ka Q.ke [773])) (Hook.keeps (kmHook Q.Kf Q.Ka Q.ke [773])) (λs e=>xl_of s (Bool.and_eq_true_iff.mp e).1) XL.keeps (by rfl) (by rfl) (by rfl) (λs e=>recFacts_of (Bool.and_eq_true_iff.mp e).2) (by rfl) (by first | assumption | decide +kernel) (by decide +kernel) ⟨rfl,rfl,rfl,rfl,rfl,by decide +kernel⟩ ?hw ?hc
 (case hw=>w_witness2)
 k_fill
 refine K51.walk (l:=PySem.Challenge.rw_pactroom_k51_work_on_a_draft) rfl rfl (λw h Y=>PySem.W.km_in_of Y) ?F
 case F =>
  intro w mg fa h Y KX G hmg
  apply K51.all_mk KX G hmg
  all_goals first | (case hcc=>exact rfl) | (case hPt=>exact rfl) | (case hT=>exact PySem.W.km_tabs_of Y _ (by k_mem)) | k_is | exact K51.fnx (by k_is) (by k_is) (by k_is) | kit_is | k_exc | kernel_rfl | skip
#print axioms PySem.Challenge.cw_pactroom_k51_work_on_a_draft_holds
